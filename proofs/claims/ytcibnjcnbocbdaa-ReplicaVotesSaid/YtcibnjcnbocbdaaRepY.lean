/- ReplicaPlays: the walk of the law. Conditions: where the commands lie. -/
import Derived.Test.YtcibnjcnbocbdaaRepX
import Derived.Test.YtcibnjcnbocbdaaRepT
namespace Go.Proofs.Ytcibnjcnbocbdaa
open Go.RowKit RepP Go.Maps
set_option maxRecDepth 100000

/-- The program's table and the document's, side by side. -/
def PlyG (W : World) (B r : Nat) (t : T) (n : Nat) : Prop := OneG W B B t n ∧ RefT W r t n ∧ B ≤ r
theorem PlyG.below {W W' : World} {B r n : Nat} {t : T} (h : PlyG W B r t n) (hb : Below W.heap.size W W') : PlyG W' B r t n := ⟨h.1.below hb, h.2.1.below hb, h.2.2⟩
theorem ref_tag {W W' : World} {B r n : Nat} {t : T} (ha : Apart (fun q => B ≤ q ∧ RTag W q) W W') (h : RefT W r t n) : RefT W' r t n := ⟨h.1, tag_keep ha h.2.at_ (by decide), h.2.vlen, h.2.hlen⟩
theorem tag_ref {W W' : World} {B b r n k : Nat} {t u : T} (ha : Apart (fun q => q = r) W W') (h : RefT W r t n) (g : OneG W B b u k) : OneG W' B b u k := by
  refine ⟨Nat.le_trans g.1 ha.size, g.2.apart ha fun q hq hqr => ?_⟩
  subst hqr
  rcases hq with ⟨cs', h2⟩ | ⟨es, c, h2⟩
  · rw [h.2.at_] at h2
    simp only [Option.some.injEq, Obj.cells.injEq] at h2
    exact absurd h2.2.1 (by decide)
  · rw [h.2.at_] at h2
    simp at h2
theorem ply_one {W : World} {B r n : Nat} {t : T} (h : PlyG W B r t n) (hn : n ≤ 1000000) (c : Cmd) (hc : CmdIn c) : Calls Try.prog 10 #[repV B, cmdV14 c] W (fun e w' => e = .returned (.tuple #[.bool (toldT t c), errN (badT c)]) ∧ OneG w' B B (applyT t c) (n + if doneB c = true then 1 else 0) ∧ RefT w' r t n ∧ Below B W w') :=
  (one_apply h.1 hn c hc).mono fun _ _ h1 => ⟨h1.1, h1.2.1, ref_tag h1.2.2 h.2.1, tag_below h1.2.2 h.1.1⟩
theorem ply_ref {W : World} {B r n k : Nat} {t u : T} (h : RefT W r t n) (g : OneG W B B u k) (hr : B ≤ r) (hn : n ≤ 1000000) (c : Cmd) (hc : CmdIn c) : Calls Try.prog 11 #[repV r, cmdV14 c] W (fun e w' => e = .returned (.tuple #[.bool (toldT t c), strV (txtN (badT c))]) ∧ RefT w' r (applyT t c) (n + if doneB c = true then 1 else 0) ∧ OneG w' B B u k ∧ Below B W w') :=
  (refapply_any W r t n h hn c hc).mono fun _ _ h1 => ⟨h1.1, h1.2.1, tag_ref h1.2.2 h g, h1.2.2.below g.1 fun k e => by subst e; exact hr⟩
theorem ply_new {W w1 : World} {e : Ending} (h : NewP14 W e w1) : PlyG (w1.alloc (.cells #[.int .u16 0, .int .u16 0, .int .u16 0, .int .u16 0, .int .u16 0, .int .u16 0, .int .u16 0, .int .u16 0, .bool false, .bool false, .bool false, .bool false, .bool false, .bool false, .bool false, .bool false, .int .i64 0] 31)) W.heap.size w1.heap.size new 0 := by
  have h1 := OneG.new h
  exact ⟨h1.below ((Below.refl _ _).alloc (Nat.le_refl _) _), RefT.new w1, by obtain ⟨-, -, -, h3⟩ := h; omega⟩

def PlyR (w : World) (B r n : Nat) (i : Value) (W : World) : Prop := ∃ k t p, k ≤ n ∧ k ≤ 200 ∧ p ≤ k ∧ i = .int .i64 (k : Nat) ∧ PlyG W B r t p ∧ Below w.heap.size w W
def PlyI (w : World) (B r p : Nat) (t : T) (i : Value) (W : World) : Prop := ∃ j, j ≤ 10 ∧ i = .int .i64 (j : Nat) ∧ PlyG W B r t p ∧ Below w.heap.size w W
def PlyS (r n : Nat) (W : World) : Prop := W.cell? ⟨r, 16, none⟩ = some (.int .i64 (n : Nat))

set_option maxHeartbeats 2000000 in
theorem rplays_law (A : Option Addr) (n cap : Nat) (l : List Cmd) (hl : l.length = n) (w : World) (h : CmdsIn w A l) (hn : n * 6 ≤ 140737488355328) :
    Calls Try.prog 3 #[.slice A n cap] w (Tru14 w) := by
  have HW := Lib.hid (awake14_any w)
  have HN := Lib.hid (fun W => rnew_any W)
  have HI := Lib.hid h
  have Hl := Lib.hid hl
  have HR17 : Hid (∀ W, Calls Try.prog 12 #[.iface 60 (.int .i64 17)] W (TxtP14 17 W)) := Lib.hid fun W => rread_any 17 (by omega) W
  have HE17 : Hid (∀ W, Calls Try.prog 18 #[.int .i64 17] W (TxtP14 17 W)) := Lib.hid fun W => rcmdE 17 (by omega) (by omega) W
  have HRd := Lib.hid (fun c W => rread_any (badT c) (badT_le c) W)
  clear h hl
  go_enter Try.func3, Try.ntmps3
  go_wp2_with fail
  refine HW.out.mono ?_
  rintro e w1 ⟨rfl, hb1⟩
  have HB1 := Lib.hid hb1
  clear hb1 HW
  go_wp2_with fail
  refine (HN.out w1).mono ?_
  rintro e w2 hN
  have hP := ply_new hN
  have hsz : w2.heap.size = w1.heap.size + 1 := hN.2.2.2
  obtain ⟨rfl, -, hb2, -⟩ := hN
  have HBz := Lib.hid HB1.out.size
  have HS0 : Hid (PlyR w w1.heap.size w2.heap.size n (.int .i64 0) (w2.alloc (.cells #[.int .u16 0, .int .u16 0, .int .u16 0, .int .u16 0, .int .u16 0, .int .u16 0, .int .u16 0, .int .u16 0, .bool false, .bool false, .bool false, .bool false, .bool false, .bool false, .bool false, .bool false, .int .i64 0] 31))) := Lib.hid ⟨0, _, 0, Nat.zero_le _, by omega, Nat.le_refl _, rfl, hP, (HB1.out.trans (hb2.mono HB1.out.size)).trans ((Below.refl w.heap.size w2).alloc (by have := HB1.out.size; omega) _)⟩
  unfold repV
  clear hP hb2 HB1 HN hsz
  generalize w1.heap.size = B at *
  go_wp2_with fail
  generalize w2.heap.size = r at *
  go_loopw [5] (PlyR w B r n) (fun i _ => (201 - intOf i).toNat)
  case atStart => exact HS0.out
  case round =>
    clear HS0
    obtain ⟨k, t, p, hk, hk2, hp, rfl, hG, hb⟩ := hrel
    by_cases hc : k < n ∧ k < 200
    case neg =>
      have HF : Hid (Tru14 w (.returned (.bool true)) wr) := Lib.hid ⟨rfl, hb⟩
      clear hG hb HI Hl HR17 HE17 HRd
      by_cases hkn : k < n
      · have q1 : ¬ ((k : Int) < 200) := by omega
        have q2 : (k : Int) < (n : Int) := by omega
        clear hc hkn
        go_wp2_with fail
        go_ret
        exact HF.out
      · have q2 : ¬ ((k : Int) < (n : Int)) := by omega
        clear hc hkn
        go_wp2_with fail
        go_ret
        exact HF.out
    obtain ⟨hkn, hk9⟩ := hc
    obtain ⟨c, hx⟩ : ∃ c, l[k]? = some c := ⟨_, List.getElem?_eq_getElem (by rw [Hl.out]; exact hkn)⟩
    have hIr := (HI.out.below (Below.refl _ _)).1 (by rw [Hl.out]; omega)
    obtain ⟨ba, oa, rfl, hba, hcell⟩ := hIr
    have hc := HI.out.2 c (List.mem_of_getElem? hx)
    have hr := hG.2.2
    have HC1 := Lib.hid (ply_one hG (by omega) c hc)
    have HC2 : Hid (∀ W n', RefT W r t p → OneG W B B (applyT t c) n' → Calls Try.prog 11 #[repV r, cmdV14 c] W _) := Lib.hid fun W n' h1 h2 => ply_ref h1 h2 hr (by omega) c hc
    have HD := Lib.hid (done_01 c p k hp)
    have hzB := hG.1.1
    have hcl : ∀ W, Below w.heap.size w W → ∀ j u, (cmdVals c)[j]? = some u → W.cell? ⟨ba, oa + k * 4 + j, none⟩ = some u := fun W hW j u hu => (hW.cell (p := ⟨ba, oa + k * 4 + j, none⟩) hba).trans (hcell k _ hx j u hu)
    have HR : Hid (∀ W, PlyG W B r (applyT t c) (p + if doneB c = true then 1 else 0) → Below w.heap.size w W → PlyR w B r n (.int .i64 ((k : Int) + 1)) W) := Lib.hid fun W h2 h3 => ⟨k + 1, _, _, hkn, hk9, done_01 c p k hp, by go_num, h2, h3⟩
    have HPg : Hid (∀ W, OneG W B B (applyT t c) (p + if doneB c = true then 1 else 0) → RefT W r (applyT t c) (p + if doneB c = true then 1 else 0) → PlyG W B r (applyT t c) (p + if doneB c = true then 1 else 0)) := Lib.hid fun W h1 h2 => ⟨h1, h2, hr⟩
    have HRc := Lib.hid (fun W => HRd.out c W)
    have Hb := Lib.hid hb
    have hlen8 : (applyT t c).length = 8 := by rw [apply_len]; exact hG.2.1.1
    have Hl8 := Lib.hid hlen8
    obtain ⟨kind, ckey, val, old⟩ := c
    have q1 : (k : Int) < (n : Int) := by omega
    have q2 : (k : Int) < 200 := by omega
    have e1 : IntKind.i64.wrap ((k : Int) + 1) = (k : Int) + 1 := IntWalk.i64_in _ (by omega)
    have c0 : wr.cell? ⟨ba, oa + k * 4, none⟩ = some (.int .u8 (kind : Nat)) := hcl _ hb 0 _ rfl
    have c1 : wr.cell? ⟨ba, oa + k * 4 + 1, none⟩ = some (.int .u8 (ckey : Nat)) := hcl _ hb 1 _ rfl
    have c2 : wr.cell? ⟨ba, oa + k * 4 + 2, none⟩ = some (.int .u16 (val : Nat)) := hcl _ hb 2 _ rfl
    have c3 : wr.cell? ⟨ba, oa + k * 4 + 3, none⟩ = some (.int .u16 (old : Nat)) := hcl _ hb 3 _ rfl
    have Hcl := Lib.hid hcl
    clear hx hcell hcl hc hk hk2 hp hG hb HI Hl hkn hk9 hba hlen8 HRd hr
    generalize toldT t ⟨kind, ckey, val, old⟩ = tl at *
    generalize applyT t ⟨kind, ckey, val, old⟩ = t' at *
    generalize (p + if doneB ⟨kind, ckey, val, old⟩ = true then 1 else 0) = p' at *
    unfold repV cmdV14 at *
    go_wp2_with fail
    refine HC1.out.mono ?_
    rintro e w5 ⟨rfl, hG, hT, hb⟩
    have HC2w := Lib.hid (HC2.out _ _ hT hG)
    have HB5 := Lib.hid (Hb.out.trans (hb.mono HBz.out))
    have c0 : w5.cell? ⟨ba, oa + k * 4, none⟩ = some (.int .u8 (kind : Nat)) := Hcl.out _ HB5.out 0 _ rfl
    have c1 : w5.cell? ⟨ba, oa + k * 4 + 1, none⟩ = some (.int .u8 (ckey : Nat)) := Hcl.out _ HB5.out 1 _ rfl
    have c2 : w5.cell? ⟨ba, oa + k * 4 + 2, none⟩ = some (.int .u16 (val : Nat)) := Hcl.out _ HB5.out 2 _ rfl
    have c3 : w5.cell? ⟨ba, oa + k * 4 + 3, none⟩ = some (.int .u16 (old : Nat)) := Hcl.out _ HB5.out 3 _ rfl
    clear hG hT hb HC1 HC2 Hb Hcl hzB
    go_wp2_with fail
    refine HC2w.out.mono ?_
    rintro e w6 ⟨rfl, hT, hG, hb⟩
    have hPG := HPg.out _ hG hT
    have HB6 := Lib.hid (HB5.out.trans (hb.mono HBz.out))
    clear hG hT hb HC2w HB5 HPg c0 c1 c2 c3
    go_wp2_with fail
    have hPd : PlyG w6.drew B r t' p' := hPG.below (Below.refl _ _).drew
    have HBd := Lib.hid (show Below w.heap.size w w6.drew from HB6.out.drew)
    have hS0 : PlyS r p' w6.drew := hPd.2.1.2.cnt
    have ks : ∀ W, PlyS r p' W → W.cell? ⟨r, 16, none⟩ = some (.int .i64 (p' : Nat)) := fun W h => h
    have HPd := Lib.hid hPd
    clear hPG HB6 hPd
    generalize badT ⟨kind, ckey, val, old⟩ = bd at *
    refine wp_region_held_drew (S := fun W => PlyS r p' W) (by kernel_rfl) hS0 (fun _ => ?_)
    refine tkH 0 (by simp only [tkA]; rfl) (by kernel_rfl) (by exact fun _ _ _ h => h) (by rfl) (by intro W hW; go_simp <;> with_reducible rfl) hS0 ?_
    try simp only [Act.put, tkT, tk0, tkS]
    refine tkH 1 (by simp only [tkA, tkG]; rfl) (by kernel_rfl) (by exact fun _ _ _ h => h) (by rfl) (by intro W hW; go_simp <;> with_reducible rfl) hS0 ?_
    try simp only [Act.put, tkT, tk0, tkS]
    refine tkH 2 (by simp only [tkA, tkG]; rfl) (by kernel_rfl) (by exact fun _ _ _ h => h) (by rfl) (by intro W hW; go_simp <;> with_reducible rfl) hS0 ?_
    try simp only [Act.put, tkT, tk0, tkS]
    refine tkH 3 (by simp only [tkA, tkG]; rfl) (by kernel_rfl) (by exact fun _ _ _ h => h) (by rfl) (by intro W hW; go_simp <;> with_reducible rfl) hS0 ?_
    try simp only [Act.put, tkT, tk0, tkS]
    refine tkH 4 (by simp only [tkA, tkG]; rfl) (by kernel_rfl) (by exact fun _ _ _ h => h) (by rfl) (by intro W hW; go_simp <;> with_reducible rfl) hS0 ?_
    try simp only [Act.put, tkT, tk0, tkS]
    refine tkH 6 (by simp only [tkA, tkG]; rfl) (by kernel_rfl) (by exact fun _ _ _ h => h) (by rfl) (by intro W hW; go_simp <;> with_reducible rfl) hS0 ?_
    try simp only [Act.put, tkT, tk0, tkS]
    generalize w6.drew = w6d at *
    refine clH 5 (by kernel_rfl) (by simp only [tkA, tkG]; rfl) (fun K hK => ?_)
    go_simp
    refine (HRc.out _).mono ?_
    rintro e w7 ⟨rfl, hb7⟩
    have hP7 := HPd.out.below hb7
    have HB7 := Lib.hid (HBd.out.trans (hb7.mono HBd.out.size))
    have hS7 : PlyS r p' w7 := hP7.2.1.2.cnt
    have HDn := Lib.hid (one_done hP7.1)
    have HP7 := Lib.hid hP7
    clear hb7 hP7 HPd HBd hS0 HRc
    unfold repV at HDn
    unfold strV
    generalize txtN bd = tx at *
    generalize errN bd = ev at *
    go_wp2_with fail
    refine hK.out _ _ hS7 (fun _ => ?_)
    clear hK K
    refine tkH 7 (by simp only [tkA, tkG]; rfl) (by kernel_rfl) (by exact fun _ _ _ h => h) (by rfl) (by intro W hW; go_simp <;> with_reducible rfl) hS7 ?_
    try simp only [Act.put, tkT, tk0, tkS]
    refine tkH 8 (by simp only [tkA, tkG]; rfl) (by kernel_rfl) (by exact fun _ _ _ h => h) (by rfl) (by intro W hW; go_simp <;> with_reducible rfl) hS7 ?_
    try simp only [Act.put, tkT, tk0, tkS]
    refine tkH 9 (by simp only [tkA, tkG]; rfl) (by kernel_rfl) (by exact fun _ _ _ h => h) (by rfl) (by intro W hW; go_simp <;> with_reducible rfl) hS7 ?_
    try simp only [Act.put, tkT, tk0, tkS]
    refine tkH 10 (by simp only [tkA, tkG]; rfl) (by kernel_rfl) (by exact fun _ _ _ h => h) (by rfl) (by intro W hW; go_simp <;> with_reducible rfl) hS7 ?_
    try simp only [Act.put, tkT, tk0, tkS]
    refine tkH 12 (by simp only [tkA, tkG]; rfl) (by kernel_rfl) (by exact fun _ _ _ h => h) (by rfl) (by intro W hW; go_simp <;> with_reducible rfl) hS7 ?_
    try simp only [Act.put, tkT, tk0, tkS]
    refine tkH 13 (by simp only [tkA, tkG]; rfl) (by kernel_rfl) (by exact fun _ _ _ h => h) (by rfl) (by intro W hW; go_simp <;> with_reducible rfl) hS7 ?_
    try simp only [Act.put, tkT, tk0, tkS]
    refine tkH 14 (by simp only [tkA, tkG]; rfl) (by kernel_rfl) (by exact fun _ _ _ h => h) (by rfl) (by intro W hW; go_simp <;> with_reducible rfl) hS7 ?_
    try simp only [Act.put, tkT, tk0, tkS]
    refine tkH 15 (by simp only [tkA, tkG]; rfl) (by kernel_rfl) (by exact fun _ _ _ h => h) (by rfl) (by intro W hW; go_simp <;> with_reducible rfl) hS7 ?_
    try simp only [Act.put, tkT, tk0, tkS]
    refine clH 11 (by kernel_rfl) (by simp only [tkA, tkG]; rfl) (fun K hK => ?_)
    go_simp
    refine (HDn.out).mono ?_
    rintro e w8 ⟨rfl, rfl⟩
    clear HDn
    go_wp2_with fail
    refine hK.out _ _ hS7 (fun _ => ?_)
    clear hK K
    refine tkH 16 (by simp only [tkA, tkG]; rfl) (by kernel_rfl) (by exact fun _ _ _ h => h) (by rfl) (by intro W hW; go_simp <;> with_reducible rfl) hS7 ?_
    try simp only [Act.put, tkT, tk0, tkS]
    refine tkH 17 (by simp only [tkA, tkG]; rfl) (by kernel_rfl) (by exact fun _ _ _ h => h) (by rfl) (by intro W hW; go_simp <;> with_reducible rfl) hS7 ?_
    try simp only [Act.put, tkT, tk0, tkS]
    refine tkH 18 (by simp only [tkA, tkG]; rfl) (by kernel_rfl) (by exact fun _ _ _ h => h) (by rfl) (by intro W hW; go_simp <;> with_reducible rfl) hS7 ?_
    try simp only [Act.put, tkT, tk0, tkS]
    refine tkH 19 (by simp only [tkA, tkG]; rfl) (by kernel_rfl) (by exact fun _ _ _ h => h) (by rfl) (by intro W hW; go_simp <;> with_reducible rfl) hS7 ?_
    try simp only [Act.put, tkT, tk0, tkS]
    refine tkH 21 (by simp only [tkA, tkG]; rfl) (by kernel_rfl) (by exact fun _ _ _ h => h) (by rfl) (by intro W hW; go_simp <;> with_reducible rfl) hS7 ?_
    try simp only [Act.put, tkT, tk0, tkS]
    refine clH 20 (by kernel_rfl) (by simp only [tkA, tkG]; rfl) (fun K hK => ?_)
    go_simp
    have HI8 : Hid (Calls Try.prog 15 #[.pointer (some ⟨B, 0, none⟩)] w8 (ImgP (imageT t') w8)) := Lib.hid (one_image HP7.out.1)
    refine HI8.out.mono ?_
    rintro e w9 ⟨A9, c9, rfl, hr9, hb9⟩
    have hP9 := HP7.out.below hb9
    have HB9 := Lib.hid (HB7.out.trans (hb9.mono HB7.out.size))
    have hS9 : PlyS r p' w9 := hP9.2.1.2.cnt
    have HR9 := Lib.hid hr9
    have HI9 : Hid (Calls Try.prog 16 #[.pointer (some ⟨r, 0, none⟩)] w9 (ImgP (imageT t') w9)) := Lib.hid (refimage_any w9 r t' p' hP9.2.1)
    have HP9 := Lib.hid hP9
    clear hr9 hb9 hP9 HI8 HP7 HB7 hS7
    go_wp2_with fail
    refine hK.out _ _ hS9 (fun _ => ?_)
    clear hK K
    refine clH 22 (by kernel_rfl) (by simp only [tkA, tkG]; rfl) (fun K hK => ?_)
    go_simp
    refine HI9.out.mono ?_
    rintro e w10 ⟨A10, c10, rfl, hr10, hb10⟩
    have hP10 := HP9.out.below hb10
    have HB10 := Lib.hid (HB9.out.trans (hb10.mono HB9.out.size))
    have hS10 : PlyS r p' w10 := hP10.2.1.2.cnt
    have HS10 := Lib.hid (csame_any A9 c9 A10 c10 (imageT t').length (imageT t') rfl (by have := image_len t' 8; unfold imageT; omega) w10 (row_cmds14 (own_keep14 HR9.out hb10)) (row_cmds14 hr10))
    have HP10 := Lib.hid hP10
    clear hr10 hb10 hP10 HI9 HP9 HB9 hS9 HR9
    go_wp2_with fail
    refine hK.out _ _ hS10 (fun _ => ?_)
    clear hK K
    refine clH 23 (by kernel_rfl) (by simp only [tkA, tkG]; rfl) (fun K hK => ?_)
    go_simp
    refine HS10.out.mono ?_
    rintro e w11 ⟨rfl, m11, rfl⟩
    have hP11 := HP10.out.below (below_drewNc (Below.refl _ _) m11)
    have HB11 := Lib.hid (below_drewNc HB10.out m11)
    have hS11 : PlyS r p' (w10.drewN m11) := hP11.2.1.2.cnt
    have HP11 := Lib.hid hP11
    clear hP11 HS10 HP10 HB10 hS10
    go_wp2_with fail
    refine hK.out _ _ hS11 (fun _ => ?_)
    clear hK K
    refine tkH 24 (by simp only [tkA, tkG]; rfl) (by kernel_rfl) (by exact fun _ _ _ h => h) (by rfl) (by intro W hW; go_simp <;> with_reducible rfl) hS11 ?_
    try simp only [Act.put, tkT, tk0, tkS]
    refine tkH 25 (by simp only [tkA, tkG]; rfl) (by kernel_rfl) (by exact fun _ _ _ h => h) (by rfl) (by intro W hW; go_simp <;> with_reducible rfl) hS11 ?_
    try simp only [Act.put, tkT, tk0, tkS]
    refine wpAnyH_done (by kernel_rfl) ?_ _
    have HJ0 : Hid (PlyI w B r p' t' (.int .i64 0) (w10.drewN m11)) := Lib.hid ⟨0, by omega, rfl, HP11.out, HB11.out⟩
    clear hS11 ks HP11 HB11
    generalize w10.drewN m11 = w11 at *
    go_wp2_with fail
    go_loopw [10] (PlyI w B r p' t') (fun i _ => (11 - intOf i).toNat)
    case atStart => exact HJ0.out
    case round =>
      clear HJ0
      obtain ⟨j, hj, rfl, hG, hb⟩ := hrel
      by_cases hj10 : j < 10
      case neg =>
        obtain rfl : j = 10 := by omega
        have HRw := Lib.hid (HR.out _ hG hb)
        clear hG hb HR HR17 HE17 hj hj10
        go_wp2_with fail
        go_roundw
        case rel => exact HRw.out
        case measure => simp [intOf]; omega
      have q3 : decide ((j : Int) < 10) = true := decide_eq_true (by omega)
      have q3' : (j : Int) < 10 := by omega
      have e3 : IntKind.i64.wrap ((j : Int) + 1) = (j : Int) + 1 := IntWalk.i64_in _ (by omega)
      have e4 : IntKind.u8.wrap (j : Int) = (j : Int) := IntWalk.u8_in _ (by omega)
      have HAk := Lib.hid (one_ask hG.1 j (by omega))
      have HRj : Hid (∀ W, Below wr.heap.size wr W → PlyI w B r p' t' (.int .i64 ((j : Int) + 1)) W) := Lib.hid fun W h => ⟨j + 1, by omega, by go_num, hG.below h, hb.trans (h.mono hb.size)⟩
      unfold AskP14 askV repV at HAk
      by_cases hj7 : 7 < j
      · have ht := tat_high Hl8.out hj7
        rw [ht] at HAk
        have q4 : (7 : Int) < (j : Int) := by omega
        simp only [Option.getD_none, Option.isSome_none, errN] at HAk
        clear hG hb hj hj10 HR hj7 ht
        go_wp2_with fail
        refine HAk.out.mono ?_
        rintro e w12 ⟨rfl, rfl⟩
        clear HAk
        go_wp2_with fail
        refine (HR17.out _).mono ?_
        rintro e w13 ⟨rfl, hb13⟩
        have HB13 := Lib.hid hb13
        clear hb13
        go_wp2_with fail
        refine (HE17.out _).mono ?_
        rintro e w14 ⟨rfl, hb14⟩
        have HRw := Lib.hid (HRj.out _ (HB13.out.trans (hb14.mono HB13.out.size)))
        clear hb14 HB13 HRj
        unfold strV
        go_wp2_with fail
        go_roundw
        case rel => exact HRw.out
        case measure => simp [intOf]; omega
      · have hj8 : j < t'.length := by rw [Hl8.out]; omega
        have kh := hG.2.1.2.has (hasT_at hj8)
        have kv := hG.2.1.2.val (valsT_at hj8)
        have q4 : ¬ ((7 : Int) < (j : Int)) := by omega
        have q5 : (j : Int) < 8 := by omega
        have hb0 := Below.refl wr.heap.size wr
        generalize tat t' j = o at *
        clear hG hb hj hj10 HR hj7 hj8
        cases o with
        | none =>
          simp only [Option.getD_none, Option.isSome_none, errN] at HAk kh kv
          clear hb0
          go_wp2_with fail
          refine HAk.out.mono ?_
          rintro e w12 ⟨rfl, rfl⟩
          clear HAk
          go_wp2_with fail
          refine (HR17.out _).mono ?_
          rintro e w13 ⟨rfl, hb13⟩
          have HB13 := Lib.hid hb13
          clear hb13
          go_wp2_with fail
          refine (HE17.out _).mono ?_
          rintro e w14 ⟨rfl, hb14⟩
          have HRw := Lib.hid (HRj.out _ (HB13.out.trans (hb14.mono HB13.out.size)))
          clear hb14 HB13 HRj
          unfold strV
          go_wp2_with fail
          go_roundw
          case rel => exact HRw.out
          case measure => simp [intOf]; omega
        | some v =>
          simp only [Option.getD_some, Option.isSome_some, errN] at HAk kh kv
          have HRw := Lib.hid (HRj.out _ hb0)
          clear hb0 HRj HR17 HE17
          go_wp2_with fail
          refine HAk.out.mono ?_
          rintro e w12 ⟨rfl, rfl⟩
          clear HAk
          go_wp2_with fail
          go_roundw
          case rel => exact HRw.out
          case measure => simp [intOf]; omega
end Go.Proofs.Ytcibnjcnbocbdaa
