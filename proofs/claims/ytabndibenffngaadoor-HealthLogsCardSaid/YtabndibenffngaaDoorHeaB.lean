/- Contracts of health's Of and of the document's Kind. Conditions: the text is that of an error of at most 12 links. -/
import Derived.Test.YtabndibenffngaaDoorHeaA
import Derived.Test.YtabndibenffngaaDoorTxtE
import Derived.Test.YtabndibenffngaaDoorHeaP
namespace Go.Proofs.YtabndibenffngaaDoor
open Go.RowKit Go.Extern.Stop Go.Stop Go.Extern
set_option maxRecDepth 100000

def effV (a : Nat) : Value := .agg #[.bool (HeaP.partT a), .bool (HeaP.nodeT a), .bool (HeaP.goodT a)]
def OfP (a : Nat) (w : World) (e : Ending) (w' : World) : Prop := e = .returned (effV a) ∧ Below w.heap.size w w'
set_option maxHeartbeats 1000000 in
theorem of_any (a : Nat) (w : World) (ha : a ≤ 255) : Calls Tryd.prog 17 #[.int .u8 (a : Nat)] w (OfP a w) := by
  have h : a = 0 ∨ a = 1 ∨ a = 2 ∨ a = 3 ∨ 4 ≤ a := by omega
  have HF : Hid (∀ W, Below w.heap.size w W → ∀ x y z, effV a = .agg #[x, y, z] → OfP a w (.returned (.agg #[x, y, z])) W) := Lib.hid fun W h1 x y z h2 => ⟨by rw [h2], h1⟩
  rcases h with rfl | rfl | rfl | rfl | h
  · have HB : Hid (Below w.heap.size w ((w.alloc (.cells #[.bool false, .bool false, .bool false] 39)).alloc (.cells #[.bool false, .bool false, .bool false] 39))) := Lib.hid (((Below.refl _ _).alloc (Nat.le_refl _) _).alloc (by simp) _)
    have hat : ((w.alloc (.cells #[.bool false, .bool false, .bool false] 39)).alloc (.cells #[.bool false, .bool false, .bool false] 39)).heap[w.heap.size]? = some (.cells #[.bool false, .bool false, .bool false] 39 (0, 0)) := (heap_alloc_old (w.alloc _) _ (by simp)).trans (heap_alloc_new w _)
    have HAT := Lib.hid hat
    have HE : Hid (effV 0 = .agg #[.bool false, .bool false, .bool false]) := Lib.hid rfl
    clear hat
    go_enter Tryd.func17, Tryd.ntmps17
    go_wp2_with fail
    have r0 := cell_at HAT.out 0 rfl
    have r1 := cell_at HAT.out 1 rfl
    have r2 := cell_at HAT.out 2 rfl
    refine bodyPost_ret (v := .agg #[.bool false, .bool false, .bool false]) (by simp [results, Tryd.results17, go_sem, r0, r1, r2]) rfl ?_
    exact HF.out _ HB.out _ _ _ HE.out
  · have HB : Hid (Below w.heap.size w ((w.alloc (.cells #[.bool true, .bool false, .bool false] 39)).alloc (.cells #[.bool true, .bool false, .bool false] 39))) := Lib.hid (((Below.refl _ _).alloc (Nat.le_refl _) _).alloc (by simp) _)
    have hat : ((w.alloc (.cells #[.bool true, .bool false, .bool false] 39)).alloc (.cells #[.bool true, .bool false, .bool false] 39)).heap[w.heap.size]? = some (.cells #[.bool true, .bool false, .bool false] 39 (0, 0)) := (heap_alloc_old (w.alloc _) _ (by simp)).trans (heap_alloc_new w _)
    have HAT := Lib.hid hat
    have HE : Hid (effV 1 = .agg #[.bool true, .bool false, .bool false]) := Lib.hid rfl
    clear hat
    go_enter Tryd.func17, Tryd.ntmps17
    go_wp2_with fail
    have r0 := cell_at HAT.out 0 rfl
    have r1 := cell_at HAT.out 1 rfl
    have r2 := cell_at HAT.out 2 rfl
    refine bodyPost_ret (v := .agg #[.bool true, .bool false, .bool false]) (by simp [results, Tryd.results17, go_sem, r0, r1, r2]) rfl ?_
    exact HF.out _ HB.out _ _ _ HE.out
  · have HB : Hid (Below w.heap.size w ((w.alloc (.cells #[.bool true, .bool true, .bool false] 39)).alloc (.cells #[.bool true, .bool true, .bool false] 39))) := Lib.hid (((Below.refl _ _).alloc (Nat.le_refl _) _).alloc (by simp) _)
    have hat : ((w.alloc (.cells #[.bool true, .bool true, .bool false] 39)).alloc (.cells #[.bool true, .bool true, .bool false] 39)).heap[w.heap.size]? = some (.cells #[.bool true, .bool true, .bool false] 39 (0, 0)) := (heap_alloc_old (w.alloc _) _ (by simp)).trans (heap_alloc_new w _)
    have HAT := Lib.hid hat
    have HE : Hid (effV 2 = .agg #[.bool true, .bool true, .bool false]) := Lib.hid rfl
    clear hat
    go_enter Tryd.func17, Tryd.ntmps17
    go_wp2_with fail
    have r0 := cell_at HAT.out 0 rfl
    have r1 := cell_at HAT.out 1 rfl
    have r2 := cell_at HAT.out 2 rfl
    refine bodyPost_ret (v := .agg #[.bool true, .bool true, .bool false]) (by simp [results, Tryd.results17, go_sem, r0, r1, r2]) rfl ?_
    exact HF.out _ HB.out _ _ _ HE.out
  · have HB : Hid (Below w.heap.size w ((w.alloc (.cells #[.bool true, .bool true, .bool true] 39)).alloc (.cells #[.bool true, .bool true, .bool true] 39))) := Lib.hid (((Below.refl _ _).alloc (Nat.le_refl _) _).alloc (by simp) _)
    have hat : ((w.alloc (.cells #[.bool true, .bool true, .bool true] 39)).alloc (.cells #[.bool true, .bool true, .bool true] 39)).heap[w.heap.size]? = some (.cells #[.bool true, .bool true, .bool true] 39 (0, 0)) := (heap_alloc_old (w.alloc _) _ (by simp)).trans (heap_alloc_new w _)
    have HAT := Lib.hid hat
    have HE : Hid (effV 3 = .agg #[.bool true, .bool true, .bool true]) := Lib.hid rfl
    clear hat
    go_enter Tryd.func17, Tryd.ntmps17
    go_wp2_with fail
    have r0 := cell_at HAT.out 0 rfl
    have r1 := cell_at HAT.out 1 rfl
    have r2 := cell_at HAT.out 2 rfl
    refine bodyPost_ret (v := .agg #[.bool true, .bool true, .bool true]) (by simp [results, Tryd.results17, go_sem, r0, r1, r2]) rfl ?_
    exact HF.out _ HB.out _ _ _ HE.out
  · have HB : Hid (Below w.heap.size w ((w.alloc (.cells #[.bool false, .bool false, .bool false] 39)).alloc (.cells #[.bool false, .bool false, .bool false] 39))) := Lib.hid (((Below.refl _ _).alloc (Nat.le_refl _) _).alloc (by simp) _)
    have hat : ((w.alloc (.cells #[.bool false, .bool false, .bool false] 39)).alloc (.cells #[.bool false, .bool false, .bool false] 39)).heap[w.heap.size]? = some (.cells #[.bool false, .bool false, .bool false] 39 (0, 0)) := (heap_alloc_old (w.alloc _) _ (by simp)).trans (heap_alloc_new w _)
    have HAT := Lib.hid hat
    have HE : Hid (effV a = .agg #[.bool false, .bool false, .bool false]) := Lib.hid (by unfold effV HeaP.partT HeaP.nodeT HeaP.goodT; rw [decide_eq_false (by omega), decide_eq_false (by omega), decide_eq_false (by omega)])
    clear hat
    have q1 : ((a : Int) == 1) = false := by rw [beq_eq_false_iff_ne]; omega
    have q2 : ((a : Int) == 2) = false := by rw [beq_eq_false_iff_ne]; omega
    have q3 : ((a : Int) == 3) = false := by rw [beq_eq_false_iff_ne]; omega
    go_enter Tryd.func17, Tryd.ntmps17
    go_wp2_with fail
    have r0 := cell_at HAT.out 0 rfl
    have r1 := cell_at HAT.out 1 rfl
    have r2 := cell_at HAT.out 2 rfl
    refine bodyPost_ret (v := .agg #[.bool false, .bool false, .bool false]) (by simp [results, Tryd.results17, go_sem, r0, r1, r2]) rfl ?_
    exact HF.out _ HB.out _ _ _ HE.out

/-- The document's Kind: -1 is none. -/
def kindN (o : Option Nat) : Int := match o with | some k => (k : Int) | none => -1
def RKindP (o : Option Nat) (w : World) (e : Ending) (w' : World) : Prop := e = .returned (.int .i64 (kindN o)) ∧ Below w.heap.size w w'
set_option maxHeartbeats 1000000 in
theorem rkind_any (x : List UInt8) (w : World) (hx : x.length ≤ 1000000) (h0 : x = [] ↔ trailP x = []) :
    Calls Tryd.prog 16 #[strV x] w (RKindP (kindI (trailP x)) w) := by
  have HF : Hid (∀ o r W, kindN o = r → Below w.heap.size w W → RKindP o w (.returned (.int .i64 r)) W) := Lib.hid fun o r W h1 h2 => ⟨by rw [h1], h2⟩
  have HB0 := Lib.hid (Below.refl w.heap.size w)
  by_cases he : x = []
  · have hk : kindI (trailP x) = none := by unfold kindI; rw [if_pos (h0.1 he)]
    rw [hk]
    subst he
    clear hk h0
    unfold strV
    go_enter Tryd.func16, Tryd.ntmps16
    go_wp2_with fail
    go_ret
    exact HF.out none _ _ rfl HB0.out
  have hx0 : x.isEmpty = false := by
    cases x
    · exact absurd rfl he
    · rfl
  have HH : Hid (∀ c W, Below w.heap.size w W → Calls Tryd.prog 32 #[strV x, .int .i64 c] W fun e w' => e = .returned (.bool (decide (c ∈ trailP x))) ∧ Below w.heap.size w w') := Lib.hid fun c W hW => (refHas_any x c W hx).mono fun e w' ⟨h1, h2⟩ => ⟨h1, hW.trans (h2.mono hW.size)⟩
  have H0 := Lib.hid (HH.out 151)
  have H1 := Lib.hid (HH.out 150)
  have H2 := Lib.hid (HH.out 17)
  have H3 := Lib.hid (HH.out 13)
  have H4 := Lib.hid (HH.out 12)
  have H5 := Lib.hid (HH.out 10)
  have H6 := Lib.hid (HH.out 11)
  have H7 := Lib.hid (HH.out 14)
  have hk : kindI (trailP x) = if decide ((151 : Int) ∈ trailP x) = true then some 0 else if decide ((150 : Int) ∈ trailP x) = true then some 1 else if decide ((17 : Int) ∈ trailP x) = true then some 3 else if decide ((13 : Int) ∈ trailP x) = true then some 3 else if decide ((12 : Int) ∈ trailP x) = true then some 3 else if decide ((10 : Int) ∈ trailP x) = true then none else if decide ((11 : Int) ∈ trailP x) = true then none else if decide ((14 : Int) ∈ trailP x) = true then none else some 2 := by
    unfold kindI
    rw [if_neg (fun h => he (h0.2 h))]
    simp only [decide_eq_true_eq]
    repeat' split
    all_goals first | rfl | simp_all
  rw [hk]
  clear hk he h0 HH
  generalize decide ((151 : Int) ∈ trailP x) = d0 at *
  generalize decide ((150 : Int) ∈ trailP x) = d1 at *
  generalize decide ((17 : Int) ∈ trailP x) = d2 at *
  generalize decide ((13 : Int) ∈ trailP x) = d3 at *
  generalize decide ((12 : Int) ∈ trailP x) = d4 at *
  generalize decide ((10 : Int) ∈ trailP x) = d5 at *
  generalize decide ((11 : Int) ∈ trailP x) = d6 at *
  generalize decide ((14 : Int) ∈ trailP x) = d7 at *
  unfold strV at *
  cases d0
  case true =>
    go_enter Tryd.func16, Tryd.ntmps16
    go_wp2_with fail
    refine (H0.out _ HB0.out).mono ?_
    rintro e v0 ⟨rfl, hb⟩
    have B0 := Lib.hid hb
    clear hb
    go_wp2_with fail
    go_ret
    exact HF.out (some 0) _ _ rfl B0.out
  cases d1
  case true =>
    go_enter Tryd.func16, Tryd.ntmps16
    go_wp2_with fail
    refine (H0.out _ HB0.out).mono ?_
    rintro e v0 ⟨rfl, hb⟩
    have B0 := Lib.hid hb
    clear hb
    go_wp2_with fail
    refine (H1.out _ B0.out).mono ?_
    rintro e v1 ⟨rfl, hb⟩
    have B1 := Lib.hid hb
    clear hb
    go_wp2_with fail
    go_ret
    exact HF.out (some 1) _ _ rfl B1.out
  cases d2
  case true =>
    go_enter Tryd.func16, Tryd.ntmps16
    go_wp2_with fail
    refine (H0.out _ HB0.out).mono ?_
    rintro e v0 ⟨rfl, hb⟩
    have B0 := Lib.hid hb
    clear hb
    go_wp2_with fail
    refine (H1.out _ B0.out).mono ?_
    rintro e v1 ⟨rfl, hb⟩
    have B1 := Lib.hid hb
    clear hb
    go_wp2_with fail
    refine (H2.out _ B1.out).mono ?_
    rintro e v2 ⟨rfl, hb⟩
    have B2 := Lib.hid hb
    clear hb
    go_wp2_with fail
    go_ret
    exact HF.out (some 3) _ _ rfl B2.out
  cases d3
  case true =>
    go_enter Tryd.func16, Tryd.ntmps16
    go_wp2_with fail
    refine (H0.out _ HB0.out).mono ?_
    rintro e v0 ⟨rfl, hb⟩
    have B0 := Lib.hid hb
    clear hb
    go_wp2_with fail
    refine (H1.out _ B0.out).mono ?_
    rintro e v1 ⟨rfl, hb⟩
    have B1 := Lib.hid hb
    clear hb
    go_wp2_with fail
    refine (H2.out _ B1.out).mono ?_
    rintro e v2 ⟨rfl, hb⟩
    have B2 := Lib.hid hb
    clear hb
    go_wp2_with fail
    refine (H3.out _ B2.out).mono ?_
    rintro e v3 ⟨rfl, hb⟩
    have B3 := Lib.hid hb
    clear hb
    go_wp2_with fail
    go_ret
    exact HF.out (some 3) _ _ rfl B3.out
  cases d4
  case true =>
    go_enter Tryd.func16, Tryd.ntmps16
    go_wp2_with fail
    refine (H0.out _ HB0.out).mono ?_
    rintro e v0 ⟨rfl, hb⟩
    have B0 := Lib.hid hb
    clear hb
    go_wp2_with fail
    refine (H1.out _ B0.out).mono ?_
    rintro e v1 ⟨rfl, hb⟩
    have B1 := Lib.hid hb
    clear hb
    go_wp2_with fail
    refine (H2.out _ B1.out).mono ?_
    rintro e v2 ⟨rfl, hb⟩
    have B2 := Lib.hid hb
    clear hb
    go_wp2_with fail
    refine (H3.out _ B2.out).mono ?_
    rintro e v3 ⟨rfl, hb⟩
    have B3 := Lib.hid hb
    clear hb
    go_wp2_with fail
    refine (H4.out _ B3.out).mono ?_
    rintro e v4 ⟨rfl, hb⟩
    have B4 := Lib.hid hb
    clear hb
    go_wp2_with fail
    go_ret
    exact HF.out (some 3) _ _ rfl B4.out
  cases d5
  case true =>
    go_enter Tryd.func16, Tryd.ntmps16
    go_wp2_with fail
    refine (H0.out _ HB0.out).mono ?_
    rintro e v0 ⟨rfl, hb⟩
    have B0 := Lib.hid hb
    clear hb
    go_wp2_with fail
    refine (H1.out _ B0.out).mono ?_
    rintro e v1 ⟨rfl, hb⟩
    have B1 := Lib.hid hb
    clear hb
    go_wp2_with fail
    refine (H2.out _ B1.out).mono ?_
    rintro e v2 ⟨rfl, hb⟩
    have B2 := Lib.hid hb
    clear hb
    go_wp2_with fail
    refine (H3.out _ B2.out).mono ?_
    rintro e v3 ⟨rfl, hb⟩
    have B3 := Lib.hid hb
    clear hb
    go_wp2_with fail
    refine (H4.out _ B3.out).mono ?_
    rintro e v4 ⟨rfl, hb⟩
    have B4 := Lib.hid hb
    clear hb
    go_wp2_with fail
    refine (H5.out _ B4.out).mono ?_
    rintro e v5 ⟨rfl, hb⟩
    have B5 := Lib.hid hb
    clear hb
    go_wp2_with fail
    go_ret
    exact HF.out (none) _ _ rfl B5.out
  cases d6
  case true =>
    go_enter Tryd.func16, Tryd.ntmps16
    go_wp2_with fail
    refine (H0.out _ HB0.out).mono ?_
    rintro e v0 ⟨rfl, hb⟩
    have B0 := Lib.hid hb
    clear hb
    go_wp2_with fail
    refine (H1.out _ B0.out).mono ?_
    rintro e v1 ⟨rfl, hb⟩
    have B1 := Lib.hid hb
    clear hb
    go_wp2_with fail
    refine (H2.out _ B1.out).mono ?_
    rintro e v2 ⟨rfl, hb⟩
    have B2 := Lib.hid hb
    clear hb
    go_wp2_with fail
    refine (H3.out _ B2.out).mono ?_
    rintro e v3 ⟨rfl, hb⟩
    have B3 := Lib.hid hb
    clear hb
    go_wp2_with fail
    refine (H4.out _ B3.out).mono ?_
    rintro e v4 ⟨rfl, hb⟩
    have B4 := Lib.hid hb
    clear hb
    go_wp2_with fail
    refine (H5.out _ B4.out).mono ?_
    rintro e v5 ⟨rfl, hb⟩
    have B5 := Lib.hid hb
    clear hb
    go_wp2_with fail
    refine (H6.out _ B5.out).mono ?_
    rintro e v6 ⟨rfl, hb⟩
    have B6 := Lib.hid hb
    clear hb
    go_wp2_with fail
    go_ret
    exact HF.out (none) _ _ rfl B6.out
  cases d7
  case true =>
    go_enter Tryd.func16, Tryd.ntmps16
    go_wp2_with fail
    refine (H0.out _ HB0.out).mono ?_
    rintro e v0 ⟨rfl, hb⟩
    have B0 := Lib.hid hb
    clear hb
    go_wp2_with fail
    refine (H1.out _ B0.out).mono ?_
    rintro e v1 ⟨rfl, hb⟩
    have B1 := Lib.hid hb
    clear hb
    go_wp2_with fail
    refine (H2.out _ B1.out).mono ?_
    rintro e v2 ⟨rfl, hb⟩
    have B2 := Lib.hid hb
    clear hb
    go_wp2_with fail
    refine (H3.out _ B2.out).mono ?_
    rintro e v3 ⟨rfl, hb⟩
    have B3 := Lib.hid hb
    clear hb
    go_wp2_with fail
    refine (H4.out _ B3.out).mono ?_
    rintro e v4 ⟨rfl, hb⟩
    have B4 := Lib.hid hb
    clear hb
    go_wp2_with fail
    refine (H5.out _ B4.out).mono ?_
    rintro e v5 ⟨rfl, hb⟩
    have B5 := Lib.hid hb
    clear hb
    go_wp2_with fail
    refine (H6.out _ B5.out).mono ?_
    rintro e v6 ⟨rfl, hb⟩
    have B6 := Lib.hid hb
    clear hb
    go_wp2_with fail
    refine (H7.out _ B6.out).mono ?_
    rintro e v7 ⟨rfl, hb⟩
    have B7 := Lib.hid hb
    clear hb
    go_wp2_with fail
    go_ret
    exact HF.out (none) _ _ rfl B7.out
  go_enter Tryd.func16, Tryd.ntmps16
  go_wp2_with fail
  refine (H0.out _ HB0.out).mono ?_
  rintro e v0 ⟨rfl, hb⟩
  have B0 := Lib.hid hb
  clear hb
  go_wp2_with fail
  refine (H1.out _ B0.out).mono ?_
  rintro e v1 ⟨rfl, hb⟩
  have B1 := Lib.hid hb
  clear hb
  go_wp2_with fail
  refine (H2.out _ B1.out).mono ?_
  rintro e v2 ⟨rfl, hb⟩
  have B2 := Lib.hid hb
  clear hb
  go_wp2_with fail
  refine (H3.out _ B2.out).mono ?_
  rintro e v3 ⟨rfl, hb⟩
  have B3 := Lib.hid hb
  clear hb
  go_wp2_with fail
  refine (H4.out _ B3.out).mono ?_
  rintro e v4 ⟨rfl, hb⟩
  have B4 := Lib.hid hb
  clear hb
  go_wp2_with fail
  refine (H5.out _ B4.out).mono ?_
  rintro e v5 ⟨rfl, hb⟩
  have B5 := Lib.hid hb
  clear hb
  go_wp2_with fail
  refine (H6.out _ B5.out).mono ?_
  rintro e v6 ⟨rfl, hb⟩
  have B6 := Lib.hid hb
  clear hb
  go_wp2_with fail
  refine (H7.out _ B6.out).mono ?_
  rintro e v7 ⟨rfl, hb⟩
  have B7 := Lib.hid hb
  clear hb
  go_wp2_with fail
  go_ret
  exact HF.out (some 2) _ _ rfl B7.out
end Go.Proofs.YtabndibenffngaaDoor
