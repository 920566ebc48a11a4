/- ReplicaAlike: the walk of the law. Conditions: where the commands lie. -/
import Derived.Test.YtcibnjcnbocbdaaRepW
namespace Go.Proofs.Ytcibnjcnbocbdaa
open Go.RowKit RepP Go.Maps
set_option maxRecDepth 100000

/-- A row of the call's own that is none of the tables'. -/
theorem tag_row {W W' : World} {B B' e size n : Nat} {v : Value} {xs : List Value} (ha : Apart (fun q => B ≤ q ∧ RTag W q) W W') (h : W.ownsRow B' e size v n xs) (hne : e ≠ 59) : W'.ownsRow B' e size v n xs := by
  refine own_apart h ha fun k hk h1 => ?_
  obtain ⟨cur, hc⟩ := (Seg.of_own h).block k hk
  rcases h1.2 with ⟨cs', h2⟩ | ⟨es, c, h2⟩
  · rw [hc] at h2
    simp only [Option.some.injEq, Obj.cells.injEq] at h2
    exact hne h2.2.1
  · rw [hc] at h2
    simp at h2
/-- Three tables. -/
def TriG (W : World) (B : Nat) (t u v : T) (n p q : Nat) : Prop := B ≤ W.heap.size ∧ TabsG W B [(B, t, n), (B + 1, u, p), (B + 2, v, q)]
theorem TriG.below {W W' : World} {B n p q : Nat} {t u v : T} (h : TriG W B t u v n p q) (hb : Below W.heap.size W W') : TriG W' B t u v n p q := ⟨Nat.le_trans h.1 hb.size, h.2.below hb⟩
theorem TriG.len {W : World} {B n p q : Nat} {t u v : T} (h : TriG W B t u v n p q) : t.length = 8 := by
  obtain ⟨m, hr⟩ := h.2.get (i := 0) rfl
  exact hr.len
theorem tri_new {W w1 w2 w3 : World} {e e' e'' : Ending} (h : NewP14 W e w1) (h' : NewP14 w1 e' w2) (h'' : NewP14 w2 e'' w3) : TriG w3 W.heap.size new new new 0 0 0 ∧ e' = .returned (repV (W.heap.size + 1)) ∧ e'' = .returned (repV (W.heap.size + 2)) ∧ Below W.heap.size W w3 := by
  obtain ⟨g, -, e2, hb⟩ := duo_new h h'
  obtain ⟨-, -, -, h3⟩ := h
  obtain ⟨-, -, -, h6⟩ := h'
  obtain ⟨rfl, h7, h8, h9⟩ := h''
  have g2 := g.2.more (W' := w3) g.1 h7 h8
  rw [h6, h3] at g2
  exact ⟨⟨by omega, by simpa using g2⟩, e2, by rw [h6, h3], hb.trans (h8.mono g.1)⟩
def TriP (W : World) (b : Bool) (n : Nat) (G : World → Prop) (B : Nat) (e : Ending) (w' : World) : Prop := e = .returned (.tuple #[.bool b, errN n]) ∧ G w' ∧ Apart (fun q => B ≤ q ∧ RTag W q) W w'
theorem tri_one {W : World} {B n p q : Nat} {t u v : T} (h : TriG W B t u v n p q) (hn : n ≤ 1000000) (c : Cmd) (hc : CmdIn c) : Calls Try.prog 10 #[repV B, cmdV14 c] W (TriP W (toldT t c) (badT c) (fun W' => TriG W' B (applyT t c) u v (n + if doneB c = true then 1 else 0) p q) B) :=
  (tabs_apply W B _ h.2 (i := 0) rfl hn c hc).mono fun _ _ h1 => ⟨h1.1, ⟨Nat.le_trans h.1 h1.2.2.size, h1.2.1⟩, h1.2.2⟩
theorem tri_two {W : World} {B n p q : Nat} {t u v : T} (h : TriG W B t u v n p q) (hn : p ≤ 1000000) (c : Cmd) (hc : CmdIn c) : Calls Try.prog 10 #[repV (B + 1), cmdV14 c] W (TriP W (toldT u c) (badT c) (fun W' => TriG W' B t (applyT u c) v n (p + if doneB c = true then 1 else 0) q) B) :=
  (tabs_apply W B _ h.2 (i := 1) rfl hn c hc).mono fun _ _ h1 => ⟨h1.1, ⟨Nat.le_trans h.1 h1.2.2.size, h1.2.1⟩, h1.2.2⟩
theorem tri_three {W : World} {B n p q : Nat} {t u v : T} (h : TriG W B t u v n p q) (hn : q ≤ 1000000) (c : Cmd) (hc : CmdIn c) : Calls Try.prog 10 #[repV (B + 2), cmdV14 c] W (TriP W (toldT v c) (badT c) (fun W' => TriG W' B t u (applyT v c) n p (q + if doneB c = true then 1 else 0)) B) :=
  (tabs_apply W B _ h.2 (i := 2) rfl hn c hc).mono fun _ _ h1 => ⟨h1.1, ⟨Nat.le_trans h.1 h1.2.2.size, h1.2.1⟩, h1.2.2⟩

def AlkR (w : World) (B n : Nat) (i : Value) (W : World) : Prop := ∃ k t p, k ≤ n ∧ k ≤ 200 ∧ p ≤ k ∧ i = .int .i64 (k : Nat) ∧ TriG W B t t new p p 0 ∧ Below w.heap.size w W
def AlkI (w : World) (B B3 p : Nat) (t : T) (A : Option Addr) (cap : Nat) (i : Value) (W : World) : Prop := ∃ k q, k ≤ (imageT t).length ∧ q ≤ k ∧ i = .int .i64 (k : Nat) ∧ TriG W B t t (RepP.runT new ((imageT t).take k)) p p q ∧ W.ownsRow B3 38 4 (.slice A (imageT t).length cap) (imageT t).length (itemsV cmdVals (imageT t)) ∧ Below w.heap.size w W
/-- An image, handed out. -/
def ImgP (xs : List Cmd) (w : World) (e : Ending) (w' : World) : Prop := ∃ A cap, e = .returned (.slice A xs.length cap) ∧ w'.ownsRow w.heap.size 38 4 (.slice A xs.length cap) xs.length (itemsV cmdVals xs) ∧ Below w.heap.size w w'
theorem row_cmds {W : World} {B : Nat} {A : Option Addr} {cap : Nat} {xs : List Cmd} (h : W.ownsRow B 38 4 (.slice A xs.length cap) xs.length (itemsV cmdVals xs)) : ItemsIn cmdVals 4 W A xs := by
  obtain ⟨A', cap', e, -, h1⟩ := ItemsIn.own (vals := cmdVals) cmdVals_len h
  cases e
  exact h1
theorem row_cmds14 {W : World} {B : Nat} {A : Option Addr} {cap : Nat} {xs : List Cmd} (h : W.ownsRow B 38 4 (.slice A xs.length cap) xs.length (itemsV cmdVals xs)) : ItemsIn cmdVals 4 W A xs := row_cmds h
theorem err_cases (n : Nat) : errN n = .nilIface ∨ ∃ z, errN n = .iface 60 (.int .i64 z) := by
  unfold errN
  split
  · exact .inl rfl
  · exact .inr ⟨_, rfl⟩
theorem image_in {t : T} (ht : ∀ k v, tat t k = some v → v < 65536) {c : Cmd} (h : c ∈ imageT t) : CmdIn c := by
  obtain ⟨h1, h2, h3, h4⟩ := image_mem h
  exact ⟨by omega, by omega, ht _ _ h4, by omega⟩
theorem TriG.vals {W : World} {B n p q : Nat} {t u v : T} (h : TriG W B t u v n p q) : ∀ k x, tat t k = some x → x < 65536 := fun k x hx => by
  obtain ⟨m, hr⟩ := h.2.get (i := 0) rfl
  have hm := hr.mp
  match m, hm with
  | none, hm => rw [hm k] at hx; cases hx
  | some M, ⟨D, _, hT⟩ => exact ((hT k).2 x hx).1

set_option maxHeartbeats 2000000 in
theorem alike_law (A : Option Addr) (n cap : Nat) (l : List Cmd) (hl : l.length = n) (w : World) (h : CmdsIn w A l) (hn : n * 6 ≤ 140737488355328) :
    Calls Try.prog 4 #[.slice A n cap] w (Tru14 w) := by
  have HW := Lib.hid (awake14_any w)
  have HN := Lib.hid (fun W => rnew_any W)
  have HI := Lib.hid h
  have Hl := Lib.hid hl
  clear h hl
  go_enter Try.func4, Try.ntmps4
  go_wp2_with fail
  refine HW.out.mono ?_
  rintro e w1 ⟨rfl, hb1⟩
  have HB1 := Lib.hid hb1
  clear hb1 HW
  go_wp2_with fail
  refine (HN.out w1).mono ?_
  rintro e w2 hN
  have HN1 := Lib.hid hN
  obtain ⟨rfl, -, -, -⟩ := hN
  unfold repV
  go_wp2_with fail
  refine (HN.out w2).mono ?_
  rintro e w3 hN
  have HN2 := Lib.hid hN
  obtain ⟨-, -, e2, -⟩ := duo_new HN1.out HN2.out
  rw [e2]
  unfold repV
  clear hN e2
  go_wp2_with fail
  refine (HN.out w3).mono ?_
  rintro e w4 hN
  obtain ⟨hG, -, e2, hb⟩ := tri_new HN1.out HN2.out hN
  rw [e2]
  unfold repV
  have HB4 := Lib.hid (HB1.out.trans (hb.mono HB1.out.size))
  have HBz := Lib.hid HB1.out.size
  have HS0 : Hid (AlkR w w1.heap.size n (.int .i64 0) w4) := Lib.hid ⟨0, _, 0, Nat.zero_le _, by omega, Nat.le_refl _, rfl, hG, HB4.out⟩
  clear hG e2 hb hN HN1 HN2 HB1 HN HB4
  generalize w1.heap.size = B at *
  go_wp2_with fail
  go_loopw [6] (AlkR w B n) (fun i _ => (201 - intOf i).toNat)
  case atStart => exact HS0.out
  case round =>
    clear HS0
    obtain ⟨k, t, p, hk, hk2, hp, rfl, hG, hb⟩ := hrel
    by_cases hc : k < n ∧ k < 200
    case neg =>
      have ht8 := hG.len
      have htv := hG.vals
      have Him : Hid (Calls Try.prog 15 #[repV B] wr (ImgP (imageT t) wr)) := Lib.hid (tabs_image wr B _ hG.2 (i := 0) rfl)
      have Hfin : Hid (∀ p q W, TriG W B t t (RepP.runT new ((imageT t).take (imageT t).length)) p p q → (Calls Try.prog 15 #[repV B] W (ImgP (imageT t) W)) ∧ (Calls Try.prog 15 #[repV (B + 1)] W (ImgP (imageT t) W)) ∧ (Calls Try.prog 15 #[repV (B + 2)] W (ImgP (imageT t) W))) := Lib.hid fun p q W h1 => by
        rw [List.take_length, image_back ht8] at h1
        exact ⟨tabs_image W B _ h1.2 (i := 0) rfl, tabs_image W B _ h1.2 (i := 1) rfl, tabs_image W B _ h1.2 (i := 2) rfl⟩
      have hle := image_len t 8
      have Hap : Hid (∀ i c p q W, (imageT t)[i]? = some c → q ≤ i → i ≤ 8 → p ≤ 200 → TriG W B t t (RepP.runT new ((imageT t).take i)) p p q → Calls Try.prog 10 #[repV (B + 2), cmdV14 c] W (fun e w' => (∃ b, e = .returned (.tuple #[.bool b, .nilIface])) ∧ TriG w' B t t (RepP.runT new ((imageT t).take (i + 1))) p p (q + 1) ∧ Apart (fun q => B ≤ q ∧ RTag W q) W w')) := Lib.hid fun i c p q W h1 h2 h3 h4 h5 => by
        have hm := List.mem_of_getElem? h1
        obtain ⟨h6, h7, -, -⟩ := image_ok hm
        refine (tri_three h5 (by omega) c (image_in htv hm)).mono ?_
        rintro e w' ⟨h8, h9, h10⟩
        rw [h6] at h8
        rw [h7, ← run_take h1] at h9
        exact ⟨⟨_, h8⟩, h9, h10⟩
      have HS1 : Hid (∀ A cap W, W.ownsRow wr.heap.size 38 4 (.slice A (imageT t).length cap) (imageT t).length (itemsV cmdVals (imageT t)) → Below wr.heap.size wr W → AlkI w B wr.heap.size p t A cap (.int .i64 0) W) := Lib.hid fun A cap W h1 h2 => ⟨0, 0, Nat.zero_le _, Nat.le_refl _, rfl, by rw [List.take_zero]; exact hG.below h2, h1, hb.trans (h2.mono hb.size)⟩
      have hlen : (imageT t).length ≤ 8 := hle
      have hp2 : p ≤ 200 := by omega
      have Hx : Hid (∀ i, i < (imageT t).length → ∃ c, (imageT t)[i]? = some c) := Lib.hid fun i hi => ⟨_, List.getElem?_eq_getElem hi⟩
      clear hG hb HI Hl hle ht8 htv hk hk2 hp hn
      generalize hxs : imageT t = xs at *
      have HX := Lib.hid hxs
      clear hxs
      generalize wr = w0 at *
      by_cases hkn : k < n
      · have q1 : ¬ ((k : Int) < 200) := by omega
        have q2 : (k : Int) < (n : Int) := by omega
        clear hc hkn
        go_wp2_with fail
        refine Him.out.mono ?_
        rintro e w5 ⟨Ai, ci, rfl, hrow, hbi⟩
        have HS2 := Lib.hid (HS1.out _ _ _ hrow hbi)
        clear hrow hbi Him HS1
        go_wp2_with fail
        go_loopw [61] (AlkI w B w0.heap.size p t Ai ci) (fun i _ => (9 - intOf i).toNat)
        case atStart => exact HS2.out
        case round =>
          clear HS2
          obtain ⟨i, q, hi, hq, rfl, hG, hrow, hb⟩ := hrel
          rw [HX.out] at hi hG hrow
          by_cases hil : i < xs.length
          case neg =>
            obtain rfl : i = xs.length := by omega
            obtain ⟨-, -, -⟩ := Hfin.out _ _ _ hG
            have HF1 := Lib.hid (fun W h => (Hfin.out p q W (hG.below h)).1)
            have HF2 := Lib.hid (fun W h => (Hfin.out p q W (hG.below h)).2.1)
            have HF3 := Lib.hid (fun W h => (Hfin.out p q W (hG.below h)).2.2)
            have HE : Hid (∀ W, Below wr.heap.size wr W → Tru14 w (.returned (.bool true)) W) := Lib.hid fun W h => ⟨rfl, hb.trans (h.mono hb.size)⟩
            have HSm : Hid (∀ A A' cap cap' W, ItemsIn cmdVals 4 W A xs → ItemsIn cmdVals 4 W A' xs → Calls Try.prog 14 #[.slice A xs.length cap, .slice A' xs.length cap'] W (Quiet (.bool true) W)) := Lib.hid fun A A' cap cap' W h1 h2 => csame_any A cap A' cap' xs.length xs rfl (by omega) W h1 h2
            have HB0 := Lib.hid (Below.refl wr.heap.size wr)
            clear hG hb Hfin Hap hi hq hil HX Hx hlen hp2 hrow
            go_wp2_with fail
            refine (HF1.out _ HB0.out).mono ?_
            rintro e w6 ⟨A6, c6, rfl, hr6, hb6⟩
            have HB6 := Lib.hid (HB0.out.trans hb6)
            have HR6 := Lib.hid hr6
            clear hr6 hb6 HB0
            go_wp2_with fail
            refine (HF2.out _ HB6.out).mono ?_
            rintro e w7 ⟨A7, c7, rfl, hr7, hb7⟩
            have HB7 := Lib.hid (HB6.out.trans (hb7.mono HB6.out.size))
            have HS7 := Lib.hid (HSm.out A6 A7 c6 c7 w7 (row_cmds14 (own_keep14 HR6.out hb7)) (row_cmds14 hr7))
            clear hr7 hb7 HB6 HR6
            go_wp2_with fail
            refine HS7.out.mono ?_
            rintro e w8 ⟨rfl, m8, rfl⟩
            have HB8 := Lib.hid (below_drewNc HB7.out m8)
            generalize w7.drewN m8 = w8 at *
            clear HS7 HB7
            go_wp2_with fail
            refine (HF1.out _ HB8.out).mono ?_
            rintro e w9 ⟨A9, c9, rfl, hr9, hb9⟩
            have HB9 := Lib.hid (HB8.out.trans (hb9.mono HB8.out.size))
            have HR9 := Lib.hid hr9
            clear hr9 hb9 HB8
            go_wp2_with fail
            refine (HF3.out _ HB9.out).mono ?_
            rintro e w10 ⟨A10, c10, rfl, hr10, hb10⟩
            have HB10 := Lib.hid (HB9.out.trans (hb10.mono HB9.out.size))
            have HS10 := Lib.hid (HSm.out A9 A10 c9 c10 w10 (row_cmds14 (own_keep14 HR9.out hb10)) (row_cmds14 hr10))
            clear hr10 hb10 HB9 HR9
            go_wp2_with fail
            refine HS10.out.mono ?_
            rintro e w11 ⟨rfl, m11, rfl⟩
            have HEw := Lib.hid (HE.out _ (below_drewNc HB10.out m11))
            generalize w10.drewN m11 = w11 at *
            clear HS10 HB10
            go_wp2_with fail
            go_ret
            exact HEw.out
          obtain ⟨c, hc⟩ := Hx.out i hil
          have hbw : Below wr.heap.size wr (wr.alloc (.cells (cmdVals c).toArray 38)) := (Below.refl _ wr).alloc (Nat.le_refl _) _
          have hbox := boxCmd wr c
          have hcells := row_cmds14 hrow
          obtain ⟨bi, oi, rfl, -, hci⟩ := hcells (by omega)
          have hci2 : ∀ j u, (cmdVals c)[j]? = some u → wr.cell? ⟨bi, oi + i * 4 + j, none⟩ = some u := hci i c hc
          have HAw := Lib.hid (Hap.out i c p q _ hc hq (by omega) hp2 (hG.below hbw))
          have HB0 := Lib.hid (hb.trans (hbw.mono hb.size))
          have hzB := hG.1
          have HRow := Lib.hid (own_keep14 hrow hbw)
          have HR : Hid (∀ W, TriG W B t t (RepP.runT new (xs.take (i + 1))) p p (q + 1) → W.ownsRow w0.heap.size 38 4 (.slice (some ⟨bi, oi, none⟩) xs.length ci) xs.length (itemsV cmdVals xs) → Below w.heap.size w W → AlkI w B w0.heap.size p t (some ⟨bi, oi, none⟩) ci (.int .i64 ((i : Int) + 1)) W) := Lib.hid fun W h1 h2 h3 => ⟨i + 1, q + 1, by rw [HX.out]; exact hil, by omega, by go_num, by rw [HX.out]; exact h1, by rw [HX.out]; exact h2, h3⟩
          obtain ⟨kind, ckey, val, old⟩ := c
          have c0 : wr.cell? ⟨bi, oi + i * 4, none⟩ = some (.int .u8 (kind : Nat)) := hci2 0 _ rfl
          have c1 : wr.cell? ⟨bi, oi + i * 4 + 1, none⟩ = some (.int .u8 (ckey : Nat)) := hci2 1 _ rfl
          have c2 : wr.cell? ⟨bi, oi + i * 4 + 2, none⟩ = some (.int .u16 (val : Nat)) := hci2 2 _ rfl
          have c3 : wr.cell? ⟨bi, oi + i * 4 + 3, none⟩ = some (.int .u16 (old : Nat)) := hci2 3 _ rfl
          have q4 : (i : Int) < (xs.length : Int) := by omega
          have e4 : IntKind.i64.wrap ((i : Int) + 1) = (i : Int) + 1 := IntWalk.i64_in _ (by omega)
          clear hci2 hci hcells hbw hG hrow hb Hap Hfin hc Hx hi hq hbox
          simp only [cmdVals] at HAw HRow HB0
          unfold repV cmdV14 at HAw
          generalize hln : xs.length = ln at *
          have HLn := Lib.hid hln
          clear hln
          go_wp2_with fail
          refine HAw.out.mono ?_
          rintro e w6 ⟨⟨bb, rfl⟩, hG, ha⟩
          have HRw := Lib.hid (HR.out _ hG (tag_row ha HRow.out (by decide)) (HB0.out.trans ((tag_below ha (by simp; omega)).mono HBz.out)))
          clear hG ha HAw HR HRow HB0 c0 c1 c2 c3
          go_wp2_with fail
          go_roundw
          case rel => exact HRw.out
          case measure => simp [intOf]; omega
      · have q2 : ¬ ((k : Int) < (n : Int)) := by omega
        clear hc hkn
        go_wp2_with fail
        refine Him.out.mono ?_
        rintro e w5 ⟨Ai, ci, rfl, hrow, hbi⟩
        have HS2 := Lib.hid (HS1.out _ _ _ hrow hbi)
        clear hrow hbi Him HS1
        go_wp2_with fail
        go_loopw [61] (AlkI w B w0.heap.size p t Ai ci) (fun i _ => (9 - intOf i).toNat)
        case atStart => exact HS2.out
        case round =>
          clear HS2
          obtain ⟨i, q, hi, hq, rfl, hG, hrow, hb⟩ := hrel
          rw [HX.out] at hi hG hrow
          by_cases hil : i < xs.length
          case neg =>
            obtain rfl : i = xs.length := by omega
            obtain ⟨-, -, -⟩ := Hfin.out _ _ _ hG
            have HF1 := Lib.hid (fun W h => (Hfin.out p q W (hG.below h)).1)
            have HF2 := Lib.hid (fun W h => (Hfin.out p q W (hG.below h)).2.1)
            have HF3 := Lib.hid (fun W h => (Hfin.out p q W (hG.below h)).2.2)
            have HE : Hid (∀ W, Below wr.heap.size wr W → Tru14 w (.returned (.bool true)) W) := Lib.hid fun W h => ⟨rfl, hb.trans (h.mono hb.size)⟩
            have HSm : Hid (∀ A A' cap cap' W, ItemsIn cmdVals 4 W A xs → ItemsIn cmdVals 4 W A' xs → Calls Try.prog 14 #[.slice A xs.length cap, .slice A' xs.length cap'] W (Quiet (.bool true) W)) := Lib.hid fun A A' cap cap' W h1 h2 => csame_any A cap A' cap' xs.length xs rfl (by omega) W h1 h2
            have HB0 := Lib.hid (Below.refl wr.heap.size wr)
            clear hG hb Hfin Hap hi hq hil HX Hx hlen hp2 hrow
            go_wp2_with fail
            refine (HF1.out _ HB0.out).mono ?_
            rintro e w6 ⟨A6, c6, rfl, hr6, hb6⟩
            have HB6 := Lib.hid (HB0.out.trans hb6)
            have HR6 := Lib.hid hr6
            clear hr6 hb6 HB0
            go_wp2_with fail
            refine (HF2.out _ HB6.out).mono ?_
            rintro e w7 ⟨A7, c7, rfl, hr7, hb7⟩
            have HB7 := Lib.hid (HB6.out.trans (hb7.mono HB6.out.size))
            have HS7 := Lib.hid (HSm.out A6 A7 c6 c7 w7 (row_cmds14 (own_keep14 HR6.out hb7)) (row_cmds14 hr7))
            clear hr7 hb7 HB6 HR6
            go_wp2_with fail
            refine HS7.out.mono ?_
            rintro e w8 ⟨rfl, m8, rfl⟩
            have HB8 := Lib.hid (below_drewNc HB7.out m8)
            generalize w7.drewN m8 = w8 at *
            clear HS7 HB7
            go_wp2_with fail
            refine (HF1.out _ HB8.out).mono ?_
            rintro e w9 ⟨A9, c9, rfl, hr9, hb9⟩
            have HB9 := Lib.hid (HB8.out.trans (hb9.mono HB8.out.size))
            have HR9 := Lib.hid hr9
            clear hr9 hb9 HB8
            go_wp2_with fail
            refine (HF3.out _ HB9.out).mono ?_
            rintro e w10 ⟨A10, c10, rfl, hr10, hb10⟩
            have HB10 := Lib.hid (HB9.out.trans (hb10.mono HB9.out.size))
            have HS10 := Lib.hid (HSm.out A9 A10 c9 c10 w10 (row_cmds14 (own_keep14 HR9.out hb10)) (row_cmds14 hr10))
            clear hr10 hb10 HB9 HR9
            go_wp2_with fail
            refine HS10.out.mono ?_
            rintro e w11 ⟨rfl, m11, rfl⟩
            have HEw := Lib.hid (HE.out _ (below_drewNc HB10.out m11))
            generalize w10.drewN m11 = w11 at *
            clear HS10 HB10
            go_wp2_with fail
            go_ret
            exact HEw.out
          obtain ⟨c, hc⟩ := Hx.out i hil
          have hbw : Below wr.heap.size wr (wr.alloc (.cells (cmdVals c).toArray 38)) := (Below.refl _ wr).alloc (Nat.le_refl _) _
          have hbox := boxCmd wr c
          have hcells := row_cmds14 hrow
          obtain ⟨bi, oi, rfl, -, hci⟩ := hcells (by omega)
          have hci2 : ∀ j u, (cmdVals c)[j]? = some u → wr.cell? ⟨bi, oi + i * 4 + j, none⟩ = some u := hci i c hc
          have HAw := Lib.hid (Hap.out i c p q _ hc hq (by omega) hp2 (hG.below hbw))
          have HB0 := Lib.hid (hb.trans (hbw.mono hb.size))
          have hzB := hG.1
          have HRow := Lib.hid (own_keep14 hrow hbw)
          have HR : Hid (∀ W, TriG W B t t (RepP.runT new (xs.take (i + 1))) p p (q + 1) → W.ownsRow w0.heap.size 38 4 (.slice (some ⟨bi, oi, none⟩) xs.length ci) xs.length (itemsV cmdVals xs) → Below w.heap.size w W → AlkI w B w0.heap.size p t (some ⟨bi, oi, none⟩) ci (.int .i64 ((i : Int) + 1)) W) := Lib.hid fun W h1 h2 h3 => ⟨i + 1, q + 1, by rw [HX.out]; exact hil, by omega, by go_num, by rw [HX.out]; exact h1, by rw [HX.out]; exact h2, h3⟩
          obtain ⟨kind, ckey, val, old⟩ := c
          have c0 : wr.cell? ⟨bi, oi + i * 4, none⟩ = some (.int .u8 (kind : Nat)) := hci2 0 _ rfl
          have c1 : wr.cell? ⟨bi, oi + i * 4 + 1, none⟩ = some (.int .u8 (ckey : Nat)) := hci2 1 _ rfl
          have c2 : wr.cell? ⟨bi, oi + i * 4 + 2, none⟩ = some (.int .u16 (val : Nat)) := hci2 2 _ rfl
          have c3 : wr.cell? ⟨bi, oi + i * 4 + 3, none⟩ = some (.int .u16 (old : Nat)) := hci2 3 _ rfl
          have q4 : (i : Int) < (xs.length : Int) := by omega
          have e4 : IntKind.i64.wrap ((i : Int) + 1) = (i : Int) + 1 := IntWalk.i64_in _ (by omega)
          clear hci2 hci hcells hbw hG hrow hb Hap Hfin hc Hx hi hq hbox
          simp only [cmdVals] at HAw HRow HB0
          unfold repV cmdV14 at HAw
          generalize hln : xs.length = ln at *
          have HLn := Lib.hid hln
          clear hln
          go_wp2_with fail
          refine HAw.out.mono ?_
          rintro e w6 ⟨⟨bb, rfl⟩, hG, ha⟩
          have HRw := Lib.hid (HR.out _ hG (tag_row ha HRow.out (by decide)) (HB0.out.trans ((tag_below ha (by simp; omega)).mono HBz.out)))
          clear hG ha HAw HR HRow HB0 c0 c1 c2 c3
          go_wp2_with fail
          go_roundw
          case rel => exact HRw.out
          case measure => simp [intOf]; omega
    obtain ⟨hkn, hk9⟩ := hc
    obtain ⟨c, hx⟩ : ∃ c, l[k]? = some c := ⟨_, List.getElem?_eq_getElem (by rw [Hl.out]; exact hkn)⟩
    have hIr := (HI.out.below (Below.refl _ _)).1 (by rw [Hl.out]; omega)
    obtain ⟨ba, oa, rfl, hba, hcell⟩ := hIr
    have hc := HI.out.2 c (List.mem_of_getElem? hx)
    have HC1 := Lib.hid (tri_one hG (by omega) c hc)
    have HC2 : Hid (∀ W n', TriG W B (applyT t c) t new n' p 0 → Calls Try.prog 10 #[repV (B + 1), cmdV14 c] W (TriP W (toldT t c) (badT c) (fun W' => TriG W' B (applyT t c) (applyT t c) new n' (p + if doneB c = true then 1 else 0) 0) B)) := Lib.hid fun W n' h1 => tri_two h1 (by omega) c hc
    have HD := Lib.hid (done_01 c p k hp)
    have hzB := hG.1
    have hcl : ∀ W, Below w.heap.size w W → ∀ j u, (cmdVals c)[j]? = some u → W.cell? ⟨ba, oa + k * 4 + j, none⟩ = some u := fun W hW j u hu => (hW.cell (p := ⟨ba, oa + k * 4 + j, none⟩) hba).trans (hcell k _ hx j u hu)
    have HR : Hid (∀ W p', p' ≤ k + 1 → TriG W B (applyT t c) (applyT t c) new p' p' 0 → Below w.heap.size w W → AlkR w B n (.int .i64 ((k : Int) + 1)) W) := Lib.hid fun W p' h1 h2 h3 => ⟨k + 1, _, p', hkn, hk9, h1, by go_num, h2, h3⟩
    have Hb := Lib.hid hb
    obtain ⟨kind, ckey, val, old⟩ := c
    have q1 : (k : Int) < (n : Int) := by omega
    have q2 : (k : Int) < 200 := by omega
    have e1 : IntKind.i64.wrap ((k : Int) + 1) = (k : Int) + 1 := IntWalk.i64_in _ (by omega)
    have c0 : wr.cell? ⟨ba, oa + k * 4, none⟩ = some (.int .u8 (kind : Nat)) := hcl _ hb 0 _ rfl
    have c1 : wr.cell? ⟨ba, oa + k * 4 + 1, none⟩ = some (.int .u8 (ckey : Nat)) := hcl _ hb 1 _ rfl
    have c2 : wr.cell? ⟨ba, oa + k * 4 + 2, none⟩ = some (.int .u16 (val : Nat)) := hcl _ hb 2 _ rfl
    have c3 : wr.cell? ⟨ba, oa + k * 4 + 3, none⟩ = some (.int .u16 (old : Nat)) := hcl _ hb 3 _ rfl
    have Hcl := Lib.hid hcl
    clear hx hcell hcl hc hk hk2 hp hG hb HI Hl hkn hk9 hba
    obtain hev := err_cases (badT ⟨kind, ckey, val, old⟩)
    generalize toldT t ⟨kind, ckey, val, old⟩ = tl at *
    have Hev := Lib.hid hev
    clear hev
    unfold repV cmdV14 at *
    go_wp2_with fail
    refine HC1.out.mono ?_
    rintro e w5 ⟨rfl, hG, ha⟩
    have HC2w := Lib.hid (HC2.out _ _ hG)
    have HB5 := Lib.hid (Hb.out.trans ((tag_below ha hzB).mono HBz.out))
    have c0 : w5.cell? ⟨ba, oa + k * 4, none⟩ = some (.int .u8 (kind : Nat)) := Hcl.out _ HB5.out 0 _ rfl
    have c1 : w5.cell? ⟨ba, oa + k * 4 + 1, none⟩ = some (.int .u8 (ckey : Nat)) := Hcl.out _ HB5.out 1 _ rfl
    have c2 : w5.cell? ⟨ba, oa + k * 4 + 2, none⟩ = some (.int .u16 (val : Nat)) := Hcl.out _ HB5.out 2 _ rfl
    have c3 : w5.cell? ⟨ba, oa + k * 4 + 3, none⟩ = some (.int .u16 (old : Nat)) := Hcl.out _ HB5.out 3 _ rfl
    have hz5 := hG.1
    clear hG ha HC1 HC2 Hb Hcl hzB
    go_wp2_with fail
    refine HC2w.out.mono ?_
    rintro e w6 ⟨rfl, hG, ha⟩
    have HRw := Lib.hid (fun q => HR.out (w6.drewN q) _ HD.out (hG.below (below_drewNc (Below.refl _ _) q)) (below_drewNc (HB5.out.trans ((tag_below ha hz5).mono HBz.out)) q))
    clear hG ha HC2w HB5 hz5 HR HD c0 c1 c2 c3
    generalize errN (badT ⟨kind, ckey, val, old⟩) = ev at *
    rcases Hev.out with rfl | ⟨z, rfl⟩
    · clear Hev
      go_wp2_with fail
      go_quiet (fail)
      go_wp2_with fail
      go_roundw
      case rel => exact HRw.out _
      case measure => simp [intOf]; omega
    · clear Hev
      go_wp2_with fail
      go_quiet (fail)
      go_wp2_with fail
      go_roundw
      case rel => exact HRw.out _
      case measure => simp [intOf]; omega
end Go.Proofs.Ytcibnjcnbocbdaa
