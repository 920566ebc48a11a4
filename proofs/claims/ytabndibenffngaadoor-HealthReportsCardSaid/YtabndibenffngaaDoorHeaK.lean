/- HealthParts: two monitors side by side; the walk of the law at numbers in memory. Conditions: where the numbers lie. -/
import Derived.Test.YtabndibenffngaaDoorHeaI
import Derived.Test.YtabndibenffngaaDoorHeaV
import Derived.Deep.CutRange
import Derived.BigQuiet
namespace Go.Proofs.YtabndibenffngaaDoor
open Go.RowKit HeaP Go.Extern.Stop Go.Stop Go.Extern
set_option maxRecDepth 100000

/-- Two monitors that share no block. -/
def DuoH (W : World) (b1 b2 : Nat) (rec : List (List Nat)) (m1 m2 : Mon) : Prop :=
  ∃ vp1 vr1 vp2 vr2, MonIn W b1 b1 0 rec m1 vp1 vr1 ∧ MonIn W b2 b2 0 rec m2 vp2 vr2 ∧ ∀ k, MonF b1 vp1 vr1 k → ¬ MonF b2 vp2 vr2 k
theorem DuoH.swap {W : World} {b1 b2 : Nat} {rec : List (List Nat)} {m1 m2 : Mon} (h : DuoH W b1 b2 rec m1 m2) : DuoH W b2 b1 rec m2 m1 := by
  obtain ⟨vp1, vr1, vp2, vr2, h1, h2, h3⟩ := h
  exact ⟨vp2, vr2, vp1, vr1, h2, h1, fun k a b => h3 k b a⟩
theorem DuoH.keep {W W' : World} {b1 b2 : Nat} {rec : List (List Nat)} {m1 m2 : Mon} (h : DuoH W b1 b2 rec m1 m2) (hb : Below W.heap.size W W') : DuoH W' b1 b2 rec m1 m2 := by
  obtain ⟨vp1, vr1, vp2, vr2, h1, h2, h3⟩ := h
  exact ⟨vp1, vr1, vp2, vr2, h1.keep hb, h2.keep hb, h3⟩
theorem DuoH.ok {W : World} {b1 b2 : Nat} {rec : List (List Nat)} {m1 m2 : Mon} (h : DuoH W b1 b2 rec m1 m2) : MonV rec m1 ∧ MonV rec m2 := by
  obtain ⟨vp1, vr1, vp2, vr2, h1, h2, h3⟩ := h
  exact ⟨h1.v, h2.v⟩
def DuoP (W : World) (b1 b2 : Nat) (rec : List (List Nat)) (m1 m2 : Mon) (r : Nat) (part : Int) (k : Nat) (e : Ending) (w' : World) : Prop :=
  e = .returned (.tuple #[.int .u8 ((reportT rec 0 m1 r part k).1.1 : Nat), errH (reportT rec 0 m1 r part k).1.2]) ∧ DuoH w' b1 b2 rec (reportT rec 0 m1 r part k).2 m2 ∧ Below b1 W w'
theorem duo_report {W : World} {b1 b2 : Nat} {rec : List (List Nat)} {m1 m2 : Mon} (h : DuoH W b1 b2 rec m1 m2) (hn : rec.length ≤ 255) (r : Nat) (part : Int) (k : Nat) :
    Calls Tryd.prog 24 #[monH b1, .int .u32 (r : Nat), .int .i64 part, .int .u8 (k : Nat)] W (DuoP W b1 b2 rec m1 m2 r part k) := by
  obtain ⟨vp1, vr1, vp2, vr2, h1, h2, h3⟩ := h
  refine (hreport_any W b1 b1 0 rec m1 vp1 vr1 h1 r part k hn).mono fun e w' hr => ?_
  have hb := hr.below h1 (Nat.le_of_lt (lt_of_block h1.hd))
  obtain ⟨he, vr', h4, h5, h6⟩ := hr
  refine ⟨he, ⟨vp1, vr', vp2, vr2, h4, h2.apart h5 fun k hk hf => h3 k hf hk, fun q hq hq2 => ?_⟩, hb⟩
  rcases hq with hq | hq | hq
  · exact h3 q (.inl hq) hq2
  · exact h3 q (.inr (.inl hq)) hq2
  · rcases h6 with h6 | ⟨y, h6, h7⟩
    · exact h3 q (.inr (.inr (by rw [← h6]; exact hq))) hq2
    · have e1 : y = q := Option.some.inj (h6.symm.trans hq)
      have := (h2.lt hq2).2
      omega
theorem duo_made {W w' : World} {b1 : Nat} {rec : List (List Nat)} {m1 m2 : Mon} {vp1 vr1 vp2 vr2 : Value} (h1 : MonIn W b1 b1 0 rec m1 vp1 vr1) (h2 : MonIn w' W.heap.size W.heap.size 0 rec m2 vp2 vr2) (hb : Below W.heap.size W w') : DuoH w' b1 W.heap.size rec m1 m2 :=
  ⟨vp1, vr1, vp2, vr2, h1.keep hb, h2, fun k hk hk2 => by
    have a := (h1.lt hk).2
    have b := (h2.lt hk2).1
    omega⟩

def recP : List (List Nat) := [[1, 1, 1, 1], [1, 1, 1, 1]]
def partP : TableP.Part := ⟨0, 0, 0, 0, 0, 1, 1, 1, 1⟩
/-- New of two such partitions, wherever they lie. -/
def NewP (W : World) (e : Ending) (w' : World) : Prop := e = .returned (monH W.heap.size) ∧ (∃ vp, MonIn w' W.heap.size W.heap.size 0 recP (Mon.start 2) vp (.slice none 0 0)) ∧ Below W.heap.size W w'
def TwoP : Array Value := (itemsV partVals [partP, partP]).toArray
theorem new_two (W : World) (M : Nat) (hM : W.heap[M]? = some (.cells TwoP 50 (0, 0))) :
    Calls Tryd.prog 19 #[.int .i64 0, .slice (some ⟨M, 0, none⟩) 2 2] W (NewP W) := by
  have hI : ItemsIn partVals 9 W (some ⟨M, 0, none⟩) [partP, partP] := fun _ => ⟨M, 0, rfl, lt_of_block hM, fun i x hx j u hu => by
    have hj : j < 9 := by have := (List.getElem?_eq_some_iff.1 hu).1; rw [partVals_len] at this; exact this
    rw [Nat.zero_add]
    refine cell_at hM _ ?_
    unfold TwoP
    rw [List.getElem?_toArray, itemsV_at partVals_len [partP, partP] i x hx j hj]
    exact hu⟩
  refine (hnew_any W _ 2 2 [partP, partP] rfl (by omega) 0 (by omega) hI).mono fun e w' h => ?_
  obtain ⟨h1, vp, h2, h3⟩ := h
  exact ⟨h1, ⟨vp, h2⟩, h3⟩

theorem mod2_of (x : Int) : ∃ g : Nat, (IntKind.u64.wrap x).tmod 2 = (g : Int) ∧ g < 2 := by
  have h : 0 ≤ IntKind.u64.wrap x := by rw [IntKind.wrap_u64]; omega
  refine ⟨((IntKind.u64.wrap x) % 2).toNat, ?_, by omega⟩
  rw [Int.tmod_eq_emod_of_nonneg h]
  omega

/-- The error's text. -/
def txtH (c : Nat) : List UInt8 := sufT (if c = 0 then none else some (c : Int)) true []
theorem hread_any (c : Nat) (hc : c ≤ 199) (W : World) : Calls Tryd.prog 18 #[errH c] W (fun e w' => e = .returned (strV (txtH c)) ∧ Below W.heap.size W w') := by
  unfold errH txtH
  refine read_any W.heap.size [] _ W (by simp) (Nat.le_refl _) trivial ⟨fun n hn => absurd hn (by simp), fun m hm => ?_⟩
  by_cases h : c = 0
  · rw [if_pos h] at hm; cases hm
  · rw [if_neg h] at hm; cases hm; omega
theorem report_code (rec : List (List Nat)) (node : Nat) (m : Mon) (r : Nat) (part : Int) (k : Nat) : (reportT rec node m r part k).1.2 = 0 ∨ (reportT rec node m r part k).1.2 = 2 := by
  unfold reportT; split
  · exact .inr rfl
  · exact .inl rfl

def PtsR (w : World) (b1 b2 n : Nat) (vi : Value) (W : World) : Prop := ∃ k m1 m2, k ≤ n ∧ k ≤ 60 ∧ vi = .int .i64 (k : Nat) ∧ DuoH W b1 b2 recP m1 m2 ∧ HeaP.Alike 0 m1 m2 ∧ Below w.heap.size w W
def PtsS (N : Nat) (W : World) : Prop := W.heap[N]? = some (.cells #[.int .i64 0, .int .i64 0, .int .i64 0, .int .i64 0, .int .i64 0, .int .u8 1, .int .u8 1, .int .u8 1, .int .u8 1] 50 (0, 0))
theorem PtsS.below {N : Nat} {W W' : World} (h : PtsS N W) (hb : Below W.heap.size W W') : PtsS N W' := (hb.block N (lt_of_block h)).trans h
def PtsC (w : World) (p q : Value) (W : World) : Prop := ∃ b1 b2, p = monH b1 ∧ q = monH b2 ∧ DuoH W b1 b2 recP (Mon.start 2) (Mon.start 2) ∧ w.heap.size ≤ b1 ∧ w.heap.size ≤ b2 ∧ Below w.heap.size w W

set_option maxHeartbeats 4000000 in
theorem hparts_law (A : Option Addr) (n cap : Nat) (l : List Nat) (hl : l.length = n) (A2 : Option Addr) (n2 cap2 : Nat) (l2 : List Int) (hl2 : l2.length = n2) (w : World) (h : ItemsIn u32s 1 w A l) (h2 : IntsIn w A2 l2) :
    Calls Tryd.prog 8 #[.slice A n cap, .slice A2 n2 cap2] w (HTrue w) := by
  have HW := Lib.hid (awake15_any w)
  have HI := Lib.hid h
  have HI2 := Lib.hid h2
  have Hl := Lib.hid hl
  have Hl2 := Lib.hid hl2
  clear h h2 hl hl2
  go_enter Tryd.func8, Tryd.ntmps8
  go_wp2_with fail
  refine HW.out.mono ?_
  rintro e w1 ⟨rfl, hb1⟩
  have HB1 := Lib.hid hb1
  clear hb1 HW
  go_upto_region 4 with (fail)
  go_cut [6, 7] (fun p q wx => PtsC w p q wx)
  case first =>
    have hd0 : PtsS w1.heap.size (w1.alloc (.cells #[.int .i64 0, .int .i64 0, .int .i64 0, .int .i64 0, .int .i64 0, .int .u8 1, .int .u8 1, .int .u8 1, .int .u8 1] 50)).drew := heap_alloc_new w1 _
    have hbe : Below w.heap.size w (w1.alloc (.cells #[.int .i64 0, .int .i64 0, .int .i64 0, .int .i64 0, .int .i64 0, .int .u8 1, .int .u8 1, .int .u8 1, .int .u8 1] 50)).drew := (HB1.out.alloc HB1.out.size _).drew
    have k0 : ∀ W, PtsS w1.heap.size W → W.cell? ⟨w1.heap.size, 0, none⟩ = some (.int .i64 0) := fun W hW => cell_at hW 0 rfl
    have k1 : ∀ W, PtsS w1.heap.size W → W.cell? ⟨w1.heap.size, 1, none⟩ = some (.int .i64 0) := fun W hW => cell_at hW 1 rfl
    have k2 : ∀ W, PtsS w1.heap.size W → W.cell? ⟨w1.heap.size, 2, none⟩ = some (.int .i64 0) := fun W hW => cell_at hW 2 rfl
    have k3 : ∀ W, PtsS w1.heap.size W → W.cell? ⟨w1.heap.size, 3, none⟩ = some (.int .i64 0) := fun W hW => cell_at hW 3 rfl
    have k4 : ∀ W, PtsS w1.heap.size W → W.cell? ⟨w1.heap.size, 4, none⟩ = some (.int .i64 0) := fun W hW => cell_at hW 4 rfl
    have k5 : ∀ W, PtsS w1.heap.size W → W.cell? ⟨w1.heap.size, 5, none⟩ = some (.int .u8 1) := fun W hW => cell_at hW 5 rfl
    have k6 : ∀ W, PtsS w1.heap.size W → W.cell? ⟨w1.heap.size, 6, none⟩ = some (.int .u8 1) := fun W hW => cell_at hW 6 rfl
    have k7 : ∀ W, PtsS w1.heap.size W → W.cell? ⟨w1.heap.size, 7, none⟩ = some (.int .u8 1) := fun W hW => cell_at hW 7 rfl
    have k8 : ∀ W, PtsS w1.heap.size W → W.cell? ⟨w1.heap.size, 8, none⟩ = some (.int .u8 1) := fun W hW => cell_at hW 8 rfl
    have Hbe := Lib.hid hbe
    clear hbe
    go_wp2_with fail
    refine wp_region_held_drew (S := fun W => PtsS w1.heap.size W) (by kernel_rfl) hd0 (fun _ => ?_)
    refine tkH 0 (by simp only [tkA]; rfl) (by kernel_rfl) (by exact fun _ _ _ h => h) (by rfl) (by intro W hW; go_simp <;> with_reducible rfl) hd0 ?_
    try simp only [Act.put, tkT, tk0, tkS]
    refine tkH 1 (by simp only [tkA, tkG]; rfl) (by kernel_rfl) (by exact fun _ _ _ h => h) (by rfl) (by intro W hW; go_simp <;> with_reducible rfl) hd0 ?_
    try simp only [Act.put, tkT, tk0, tkS]
    refine tkH 4 (by simp only [tkA, tkG]; rfl) (by kernel_rfl) (by exact fun _ _ _ h => h) (by rfl) (by intro W hW; go_simp <;> with_reducible rfl) hd0 ?_
    try simp only [Act.put, tkT, tk0, tkS]
    refine tkH 5 (by simp only [tkA, tkG]; rfl) (by kernel_rfl) (by exact fun _ _ _ h => h) (by rfl) (by intro W hW; go_simp <;> with_reducible rfl) hd0 ?_
    try simp only [Act.put, tkT, tk0, tkS]
    generalize (w1.alloc (.cells #[.int .i64 0, .int .i64 0, .int .i64 0, .int .i64 0, .int .i64 0, .int .u8 1, .int .u8 1, .int .u8 1, .int .u8 1] 50)).drew = we at *
    clear k0 k1 k2 k3 k4 k5 k6 k7 k8
    have hdA : PtsS w1.heap.size (we.alloc (.cells TwoP 50)) := hd0.below ((Below.refl _ _).alloc (Nat.le_refl _) _)
    have hbA : Below w.heap.size w (we.alloc (.cells TwoP 50)) := Hbe.out.alloc Hbe.out.size _
    have hmA : (we.alloc (.cells TwoP 50)).heap[we.heap.size]? = some (.cells TwoP 50 (0, 0)) := heap_alloc_new we _
    have HmA := Lib.hid hmA
    have HbA := Lib.hid hbA
    clear hmA hbA
    refine wpAnyH_ready (rs := [2, 6]) (by kernel_rfl) (by simp) (AllReadyH.cons (by simp only [tkA, tkG]; rfl) (fun K hK => ?_) (AllReadyH.cons (by simp only [tkA, tkG]; rfl) (fun K hK => ?_) AllReadyH.nil))
    · go_simp
      refine hK.out _ _ hdA (fun _ => ?_)
      clear hK K
      refine wpAnyH_ready (rs := [3, 6]) (by kernel_rfl) (by simp) (AllReadyH.cons (by simp only [tkA, tkG]; rfl) (fun K hK => ?_) (AllReadyH.cons (by simp only [tkA, tkG]; rfl) (fun K hK => ?_) AllReadyH.nil))
      · go_simp
        refine (new_two _ we.heap.size HmA.out).mono ?_
        rintro e w3 ⟨rfl, ⟨vp, hM⟩, hb3⟩
        have hd3 := hdA.below hb3
        have hb30 := HbA.out.trans (hb3.mono HbA.out.size)
        have hd4 := hd3.below ((Below.refl _ w3).alloc (Nat.le_refl _) (.cells TwoP 50))
        unfold monH at *
        go_wp2_with fail
        refine hK.out _ _ hd3 (fun _ => ?_)
        clear hK K
        refine clH 6 (by kernel_rfl) (by simp only [tkA, tkG]; rfl) (fun K hK => ?_)
        go_simp
        go_wp2_with fail
        refine hK.out _ _ hd4 (fun _ => ?_)
        clear hK K
        refine clH 7 (by kernel_rfl) (by simp only [tkA, tkG]; rfl) (fun K hK => ?_)
        go_simp
        refine (new_two _ w3.heap.size (heap_alloc_new w3 _)).mono ?_
        rintro e w4 ⟨rfl, ⟨vp2, hM2⟩, hb4⟩
        have hd5 := hd4.below hb4
        have hDu := duo_made (hM.keep ((Below.refl _ w3).alloc (Nat.le_refl _) (.cells TwoP 50))) hM2 hb4
        have HC : Hid (PtsC w (monH (we.alloc (.cells TwoP 50)).heap.size) (monH (w3.alloc (.cells TwoP 50)).heap.size) w4) := Lib.hid ⟨_, _, rfl, rfl, hDu, HbA.out.size, Nat.le_trans hb30.size (by simp), (hb30.alloc hb30.size _).trans (hb4.mono (Nat.le_trans hb30.size (by simp)))⟩
        clear hM hM2 hb3 hb30 hb4 hDu
        unfold monH at *
        go_wp2_with fail
        refine hK.out _ _ hd5 (fun _ => ?_)
        clear hK K
        refine tkH 8 (by simp only [tkA, tkG]; rfl) (by kernel_rfl) (by exact fun _ _ _ h => h) (by rfl) (by intro W hW; go_simp <;> with_reducible rfl) hd5 ?_
        try simp only [Act.put, tkT, tk0, tkS]
        refine tkH 9 (by simp only [tkA, tkG]; rfl) (by kernel_rfl) (by exact fun _ _ _ h => h) (by rfl) (by intro W hW; go_simp <;> with_reducible rfl) hd5 ?_
        try simp only [Act.put, tkT, tk0, tkS]
        refine wpAnyH_done (by kernel_rfl) ?_ _
        go_wp2_with fail
        go_meet
        exact (by simpa using HC.out)
      · go_simp
        have hdB := hdA.below ((Below.refl _ (we.alloc (.cells TwoP 50))).alloc (Nat.le_refl _) (.cells TwoP 50))
        refine hK.out _ _ hdB (fun _ => ?_)
        clear hK K
        have hbB : Below w.heap.size w ((we.alloc (.cells TwoP 50)).alloc (.cells TwoP 50)) := HbA.out.alloc HbA.out.size _
        have hm1 : ((we.alloc (.cells TwoP 50)).alloc (.cells TwoP 50)).heap[we.heap.size]? = some (.cells TwoP 50 (0, 0)) := (heap_alloc_old _ _ (by simp)).trans HmA.out
        have hm2 : ((we.alloc (.cells TwoP 50)).alloc (.cells TwoP 50)).heap[we.heap.size + 1]? = some (.cells TwoP 50 (0, 0)) := by
          have := heap_alloc_new (we.alloc (.cells TwoP 50)) (.cells TwoP 50)
          rwa [show (we.alloc (.cells TwoP 50)).heap.size = we.heap.size + 1 by simp] at this
        refine clH 3 (by kernel_rfl) (by simp only [tkA, tkG]; rfl) (fun K hK => ?_)
        go_simp
        refine (new_two _ we.heap.size hm1).mono ?_
        rintro e w3 ⟨rfl, ⟨vp, hM⟩, hb3⟩
        have hd3 := hdB.below hb3
        have hb30 := hbB.trans (hb3.mono hbB.size)
        have hm3 := (hb3.block _ (lt_of_block hm2)).trans hm2
        unfold monH at *
        go_wp2_with fail
        refine hK.out _ _ hd3 (fun _ => ?_)
        clear hK K
        refine clH 7 (by kernel_rfl) (by simp only [tkA, tkG]; rfl) (fun K hK => ?_)
        go_simp
        refine (new_two _ (we.heap.size + 1) hm3).mono ?_
        rintro e w4 ⟨rfl, ⟨vp2, hM2⟩, hb4⟩
        have hd5 := hd3.below hb4
        have hDu := duo_made hM hM2 hb4
        have HC : Hid (PtsC w (monH ((we.alloc (.cells TwoP 50)).alloc (.cells TwoP 50)).heap.size) (monH w3.heap.size) w4) := Lib.hid ⟨_, _, rfl, rfl, hDu, hbB.size, hb30.size, hb30.trans (hb4.mono hb30.size)⟩
        clear hM hM2 hb3 hb30 hb4 hDu
        unfold monH at *
        go_wp2_with fail
        refine hK.out _ _ hd5 (fun _ => ?_)
        clear hK K
        refine tkH 8 (by simp only [tkA, tkG]; rfl) (by kernel_rfl) (by exact fun _ _ _ h => h) (by rfl) (by intro W hW; go_simp <;> with_reducible rfl) hd5 ?_
        try simp only [Act.put, tkT, tk0, tkS]
        refine tkH 9 (by simp only [tkA, tkG]; rfl) (by kernel_rfl) (by exact fun _ _ _ h => h) (by rfl) (by intro W hW; go_simp <;> with_reducible rfl) hd5 ?_
        try simp only [Act.put, tkT, tk0, tkS]
        refine wpAnyH_done (by kernel_rfl) ?_ _
        go_wp2_with fail
        go_meet
        exact (by simpa using HC.out)
    · go_simp
      refine hK.out _ _ hdA (fun _ => ?_)
      clear hK K
      have hdB := hdA.below ((Below.refl _ (we.alloc (.cells TwoP 50))).alloc (Nat.le_refl _) (.cells TwoP 50))
      have hbB : Below w.heap.size w ((we.alloc (.cells TwoP 50)).alloc (.cells TwoP 50)) := HbA.out.alloc HbA.out.size _
      have hm1 : ((we.alloc (.cells TwoP 50)).alloc (.cells TwoP 50)).heap[we.heap.size]? = some (.cells TwoP 50 (0, 0)) := (heap_alloc_old _ _ (by simp)).trans HmA.out
      have hm2 : ((we.alloc (.cells TwoP 50)).alloc (.cells TwoP 50)).heap[we.heap.size + 1]? = some (.cells TwoP 50 (0, 0)) := by
        have := heap_alloc_new (we.alloc (.cells TwoP 50)) (.cells TwoP 50)
        rwa [show (we.alloc (.cells TwoP 50)).heap.size = we.heap.size + 1 by simp] at this
      refine clH 2 (by kernel_rfl) (by simp only [tkA, tkG]; rfl) (fun K hK => ?_)
      go_simp
      go_wp2_with fail
      refine hK.out _ _ hdB (fun _ => ?_)
      clear hK K
      refine clH 3 (by kernel_rfl) (by simp only [tkA, tkG]; rfl) (fun K hK => ?_)
      go_simp
      refine (new_two _ (we.heap.size + 1) hm2).mono ?_
      rintro e w3 ⟨rfl, ⟨vp, hM⟩, hb3⟩
      have hd3 := hdB.below hb3
      have hb30 := hbB.trans (hb3.mono hbB.size)
      have hm3 := (hb3.block _ (lt_of_block hm1)).trans hm1
      unfold monH at *
      go_wp2_with fail
      refine hK.out _ _ hd3 (fun _ => ?_)
      clear hK K
      refine clH 7 (by kernel_rfl) (by simp only [tkA, tkG]; rfl) (fun K hK => ?_)
      go_simp
      refine (new_two _ we.heap.size hm3).mono ?_
      rintro e w4 ⟨rfl, ⟨vp2, hM2⟩, hb4⟩
      have hd5 := hd3.below hb4
      have hDu := duo_made hM hM2 hb4
      have HC : Hid (PtsC w (monH ((we.alloc (.cells TwoP 50)).alloc (.cells TwoP 50)).heap.size) (monH w3.heap.size) w4) := Lib.hid ⟨_, _, rfl, rfl, hDu, hbB.size, hb30.size, hb30.trans (hb4.mono hb30.size)⟩
      clear hM hM2 hb3 hb30 hb4 hDu
      unfold monH at *
      go_wp2_with fail
      refine hK.out _ _ hd5 (fun _ => ?_)
      clear hK K
      refine tkH 8 (by simp only [tkA, tkG]; rfl) (by kernel_rfl) (by exact fun _ _ _ h => h) (by rfl) (by intro W hW; go_simp <;> with_reducible rfl) hd5 ?_
      try simp only [Act.put, tkT, tk0, tkS]
      refine tkH 9 (by simp only [tkA, tkG]; rfl) (by kernel_rfl) (by exact fun _ _ _ h => h) (by rfl) (by intro W hW; go_simp <;> with_reducible rfl) hd5 ?_
      try simp only [Act.put, tkT, tk0, tkS]
      refine wpAnyH_done (by kernel_rfl) ?_ _
      go_wp2_with fail
      go_meet
      exact (by simpa using HC.out)
  case rest =>
    obtain ⟨b1, b2, rfl, rfl, hDu, hz1, hz2, hbc⟩ := hcut
    have HZ1 := Lib.hid hz1
    have HZ2 := Lib.hid hz2
    have HS0 : Hid (PtsR w b1 b2 n (.int .i64 0) wc) := Lib.hid ⟨0, _, _, Nat.zero_le _, by omega, rfl, hDu, HeaP.Alike.rfl' 0 _, hbc⟩
    clear hDu hz1 hz2 hbc HB1
    unfold monH
    go_wp2_with fail
    go_loopw [8] (PtsR w b1 b2 n) (fun i _ => (n + 1 - intOf i).toNat)
    case atStart => exact HS0.out
    case round =>
      clear HS0
      obtain ⟨k, m1, m2, hk, hk60, rfl, hDu, hAl, hb⟩ := hrel
      have HD := Lib.hid hDu
      have HA := Lib.hid hAl
      have HB := Lib.hid hb
      clear hDu hAl hb
      by_cases hlt : k < n ∧ k < n2 ∧ k < 60
      case neg =>
        have hend : n = k ∨ k < n ∧ n2 ≤ k ∨ k < n ∧ k < n2 ∧ k = 60 := by omega
        clear hlt HD HA
        rcases hend with h | ⟨h, h'⟩ | ⟨h, h', h60⟩
        · subst h
          go_wp2_with fail
          go_ret
          exact ⟨rfl, HB.out⟩
        · go_wp2_with fail
          go_ret
          exact ⟨rfl, HB.out⟩
        · subst h60
          go_wp2_with fail
          go_ret
          exact ⟨rfl, HB.out⟩
      obtain ⟨hlt, hlt2, h60⟩ := hlt
      obtain ⟨r, hr⟩ : ∃ r, l[k]? = some r := ⟨_, List.getElem?_eq_getElem (by rw [Hl.out]; exact hlt)⟩
      obtain ⟨x, hx⟩ : ∃ x, l2[k]? = some x := ⟨_, List.getElem?_eq_getElem (by rw [Hl2.out]; exact hlt2)⟩
      obtain ⟨b, off, rfl, hbl, hc⟩ := (HI.out.below HB.out) (by rw [Hl.out]; omega)
      obtain ⟨b', off', rfl, hbl', hc'⟩ := (HI2.out.below HB.out) (by rw [Hl2.out]; omega)
      have c0 : wr.cell? ⟨b, off + k, none⟩ = some (.int .u32 (r : Nat)) := by have := hc k r hr 0 _ rfl; simpa using this
      have c1 := hc' k x hx
      obtain ⟨g, hgm, hg2⟩ := mod2_of x
      have hok := HD.out.ok
      have HNext : Hid (∀ w', (∃ m m', DuoH w' b1 b2 recP m m' ∧ HeaP.Alike 0 m m') → Below w.heap.size w w' → PtsR w b1 b2 n (.int .i64 ((k : Int) + 1)) w') := Lib.hid fun w' ⟨m, m', h1, h2⟩ h3 => ⟨k + 1, m, m', by omega, by omega, by go_num, h1, h2, h3⟩
      have HCl : Hid (∀ W, Below w.heap.size w W → W.cell? ⟨b, off + k, none⟩ = some (.int .u32 (r : Nat))) := Lib.hid fun W hW => by
        obtain ⟨b9, off9, e9, -, hc9⟩ := (HI.out.below hW) (by rw [Hl.out]; omega)
        cases e9
        have := hc9 k r hr 0 _ rfl
        simpa using this
      clear hc hc' hr hx hbl hbl'
      have hgc : g = 0 ∨ g = 1 := by omega
      rcases hgc with rfl | rfl
      · have e0 : (IntKind.u64.wrap x).tmod 2 = 0 := hgm
        clear hgm
        have hsame := HA.out.report_same (recover := recP) (node := 0) (node' := 0) (r := r) (k := 0) hok.1.ok hok.2.ok
        obtain ⟨d, c, hdc⟩ : ∃ d c, (reportT recP 0 m1 r ((0 : Nat) : Int) 0).1 = (d, c) := ⟨_, _, rfl⟩
        have hc2 : c = 0 ∨ c = 2 := by
          have := report_code recP 0 m1 r ((0 : Nat) : Int) 0
          rw [hdc] at this
          exact this
        have HR0 : Hid (Calls Tryd.prog 24 #[monH b1, .int .u32 (r : Nat), .int .i64 0, .int .u8 0] wr (fun e w' => e = .returned (.tuple #[.int .u8 (d : Nat), errH c]) ∧ DuoH w' b1 b2 recP (reportT recP 0 m1 r ((0 : Nat) : Int) 0).2 m2 ∧ Below w.heap.size w w')) := Lib.hid ((duo_report HD.out (by decide) r ((0 : Nat) : Int) 0).mono fun e w' ⟨h1, h2, h3⟩ => ⟨by rw [h1, hdc], h2, HB.out.trans (h3.mono HZ1.out)⟩)
        have HR1 : Hid (∀ W, DuoH W b1 b2 recP (reportT recP 0 m1 r ((0 : Nat) : Int) 0).2 m2 → Below w.heap.size w W → Calls Tryd.prog 24 #[monH b2, .int .u32 (r : Nat), .int .i64 0, .int .u8 0] W (fun e w' => e = .returned (.tuple #[.int .u8 (d : Nat), errH c]) ∧ (∃ m m', DuoH w' b1 b2 recP m m' ∧ HeaP.Alike 0 m m') ∧ Below w.heap.size w w')) := Lib.hid fun W hD hB => (duo_report hD.swap (by decide) r ((0 : Nat) : Int) 0).mono fun e w' ⟨h1, h2, h3⟩ => ⟨by rw [h1, ← hsame.1, hdc], ⟨_, _, h2.swap, hsame.2⟩, hB.trans (h3.mono HZ2.out)⟩
        have HRd := Lib.hid (hread_any c (by omega))
        clear hsame hdc hok HA HD hc2 hg2
        generalize (reportT recP 0 m1 r ((0 : Nat) : Int) 0).2 = m3 at *
        generalize errH c = ev at *
        generalize txtH c = tx at *
        unfold monH strV at *
        go_wp2_with fail
        refine HR0.out.mono ?_
        rintro e w3 ⟨rfl, hD3, hb3⟩
        have c3 := HCl.out w3 hb3
        have HR3 := Lib.hid (HR1.out w3 hD3 hb3)
        clear hD3 hb3 HR1 HR0 HCl
        go_wp2_with fail
        refine HR3.out.mono ?_
        rintro e w4 ⟨rfl, hD4, hb4⟩
        have HB4 := Lib.hid hb4
        have HD4 := Lib.hid hD4
        clear hD4 hb4
        go_wp2_with fail
        refine (HRd.out w4).mono ?_
        rintro e w5 ⟨rfl, hb5⟩
        have HB5 := Lib.hid (HB4.out.trans (hb5.mono HB4.out.size))
        have HD5 : Hid (∃ m m', DuoH w5 b1 b2 recP m m' ∧ HeaP.Alike 0 m m') := Lib.hid (by
          obtain ⟨m, m', h1, h2⟩ := HD4.out
          exact ⟨m, m', h1.keep hb5, h2⟩)
        clear hb5 HD4
        go_wp2_with fail
        refine (HRd.out w5).mono ?_
        rintro e w6 ⟨rfl, hb6⟩
        have HF := Lib.hid (HNext.out w6 (by
          obtain ⟨m, m', h1, h2⟩ := HD5.out
          exact ⟨m, m', h1.keep hb6, h2⟩) (HB5.out.trans (hb6.mono HB5.out.size)))
        clear hb6 HD5
        go_wp2_with fail
        go_roundw
        case rel => exact HF.out
        case measure => simp [intOf] <;> omega
      · have e0 : (IntKind.u64.wrap x).tmod 2 = 1 := hgm
        clear hgm
        have HR0 : Hid (Calls Tryd.prog 24 #[monH b1, .int .u32 (r : Nat), .int .i64 1, .int .u8 0] wr (fun e w' => (∃ d c, e = .returned (.tuple #[.int .u8 (d : Nat), errH c])) ∧ (∃ m m', DuoH w' b1 b2 recP m m' ∧ HeaP.Alike 0 m m') ∧ Below w.heap.size w w')) := Lib.hid ((duo_report HD.out (by decide) r ((1 : Nat) : Int) 0).mono fun e w' ⟨h1, h2, h3⟩ => ⟨⟨_, _, h1⟩, ⟨_, _, h2, HA.out.report_other (by decide) recP⟩, HB.out.trans (h3.mono HZ1.out)⟩)
        clear hok HA HD hg2
        unfold monH at *
        go_wp2_with fail
        refine HR0.out.mono ?_
        rintro e w3 ⟨⟨d, c, rfl⟩, h3, hb3⟩
        have HF := Lib.hid (HNext.out w3 h3 hb3)
        clear h3 hb3
        generalize errH c = ev at *
        go_wp2_with fail
        go_roundw
        case rel => exact HF.out
        case measure => simp [intOf] <;> omega
end Go.Proofs.YtabndibenffngaaDoor
