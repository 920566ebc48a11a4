/- Chapter 17's example holds. Conditions: none. -/
import Derived.Test.YtfgpfmhjnccccaaWinB
import Derived.Test.YtfgpfmhjnccccaaTbCp
import Derived.BigQuiet
namespace Go.Proofs.Ytfgpfmhjnccccaa
open Go.RowKit
set_option maxRecDepth 100000

def awP : List TableP.Part := [⟨0, 30, 20, 0, 0, 0, 0, 0, 0⟩, ⟨0, 10, 20, 0, 0, 0, 0, 0, 0⟩]
def awk (N : Nat) : CfgC := ⟨1, 0, 1000, 500, 0, 0, 0, 98, some ⟨N, 0, none⟩, 2, 2, awP, none, 0, 0, [], none, 0, 0, []⟩
def awkT : TableP.Cfg := ⟨1, 0, 1000, 500, 0, 0, 0, 98, awP, [], []⟩
theorem awk_ok : SndP.chk6 awkT = none := by decide
theorem awk_works (N : Nat) : SndP.Works (awk N).plain := SndP.works (c := (awk N).plain) awk_ok
theorem awk_wins (N : Nat) : WinP.winsT (awk N).plain 0 = [⟨1, 10, 30⟩, ⟨0, 30, 50⟩] := by
  show WinP.winsT awkT 0 = _
  rfl
theorem awk_next (N : Nat) : WinP.nextT (awk N).plain 0 10 = some 30 := by
  show WinP.nextT awkT 0 10 = _
  decide
theorem awk_at (N : Nat) : WinP.atT (awk N).plain 0 30 = 0 := by
  show WinP.atT awkT 0 30 = _
  decide
theorem awk_at2 (N : Nat) : WinP.atT (awk N).plain 0 50 = -1 := by
  show WinP.atT awkT 0 50 = _
  decide
theorem row_items17 {α : Type} {vals : α → List Value} {size : Nat} (hs : ∀ x, (vals x).length = size) {W : World} {g : Nat} {t : TypeId} {l : List α} (h : W.heap[g]? = some (.cells (itemsV vals l).toArray t (0, 0))) : ItemsIn vals size W (some ⟨g, 0, none⟩) l := fun _ => by
  refine ⟨g, 0, rfl, (Array.getElem?_eq_some_iff.1 h).1, fun i x hx j u hj => ?_⟩
  have hjs : j < size := by rw [← hs x]; exact (List.getElem?_eq_some_iff.1 hj).1
  refine cell_at h _ ?_
  rw [List.getElem?_toArray, Nat.zero_add, itemsV_at hs l i x hx j hjs]
  exact hj
theorem awk_in {W : World} {N : Nat} (h : W.heap[N]? = some (.cells (itemsV partVals awP).toArray 39 (0, 0))) : CfgIn W (awk N) :=
  ⟨row_items17 partVals_len h, rfl, Nat.le_refl _, by simp only [awk]; omega, ItemsIn.nil _ _ _ _, rfl, Nat.le_refl _, by simp only [awk]; omega, ItemsIn.nil _ _ _ _, rfl, Nat.le_refl _, by simp only [awk]; omega⟩
/-- Chapter 17's tables, boxed at N. -/
structure AwS (w : World) (N : Nat) (W : World) : Prop where
  box : W.heap[N]? = some (.cells #[.int .i64 1, .int .i64 0, .int .i64 1000, .int .i64 500, .int .i64 0, .int .i64 0, .int .i64 0, .int .i64 98, .slice (some ⟨N + 1, 0, none⟩) 2 2, .slice none 0 0, .slice none 0 0] 26 (0, 0))
  inn : CfgIn W (awk (N + 1))
  low : Below w.heap.size w W
theorem AwS.step {w : World} {N : Nat} {W W' : World} (h : AwS w N W) (hb : Below W.heap.size W W') : AwS w N W' := ⟨(hb.block _ (lt_of_block h.box)).trans h.box, h.inn.below hb, h.low.trans (hb.mono h.low.size)⟩
set_option maxHeartbeats 4000000 in
theorem awake17_any (w : World) : Calls Try.prog 7 #[] w (TruePost w) := by
  have H0 := Lib.hid (fun W => one_any W)
  have H1 := Lib.hid (fun N W (hW : CfgIn W (awk N)) => wnext_any (awk N) 0 10 (by decide) W hW (awk_works N))
  have H2 := Lib.hid (fun N W (hW : CfgIn W (awk N)) => windows_any (awk N) 0 W hW (awk_works N))
  have H3 := Lib.hid (fun N W (hW : CfgIn W (awk N)) => wat_any (awk N) 0 30 (by decide) W hW (awk_works N))
  have H4 := Lib.hid (fun N W (hW : CfgIn W (awk N)) => wat_any (awk N) 0 50 (by decide) W hW (awk_works N))
  simp only [awk_next, awk_wins, awk_at, awk_at2] at H1 H2 H3 H4
  simp only [awk, CfgC.value] at H1 H2 H3 H4
  simp only [oneS, CfgC.value] at H0
  go_enter Try.func7, Try.ntmps7
  go_wp2_with fail
  refine (H0.out _).mono ?_
  rintro e w1 ⟨rfl, hb1⟩
  have Hb1 := Lib.hid hb1
  clear hb1 H0
  have Hk : Hid (∀ W, W = (w1.alloc (.cells #[.int .i64 1, .int .i64 0, .int .i64 1000, .int .i64 500, .int .i64 0, .int .i64 0, .int .i64 0, .int .i64 98, .slice (some ⟨w1.heap.size + 1, 0, none⟩) 2 2, .slice none 0 0, .slice none 0 0] 26)).alloc (.cells #[.int .i64 0, .int .i64 30, .int .i64 20, .int .i64 0, .int .i64 0, .int .u8 0, .int .u8 0, .int .u8 0, .int .u8 0, .int .i64 0, .int .i64 10, .int .i64 20, .int .i64 0, .int .i64 0, .int .u8 0, .int .u8 0, .int .u8 0, .int .u8 0] 39) → AwS w w1.heap.size W) := Lib.hid fun W e => by
    subst e
    have h1 : Below (w1.alloc (.cells #[.int .i64 1, .int .i64 0, .int .i64 1000, .int .i64 500, .int .i64 0, .int .i64 0, .int .i64 0, .int .i64 98, .slice (some ⟨w1.heap.size + 1, 0, none⟩) 2 2, .slice none 0 0, .slice none 0 0] 26)).heap.size (w1.alloc (.cells #[.int .i64 1, .int .i64 0, .int .i64 1000, .int .i64 500, .int .i64 0, .int .i64 0, .int .i64 0, .int .i64 98, .slice (some ⟨w1.heap.size + 1, 0, none⟩) 2 2, .slice none 0 0, .slice none 0 0] 26)) ((w1.alloc (.cells #[.int .i64 1, .int .i64 0, .int .i64 1000, .int .i64 500, .int .i64 0, .int .i64 0, .int .i64 0, .int .i64 98, .slice (some ⟨w1.heap.size + 1, 0, none⟩) 2 2, .slice none 0 0, .slice none 0 0] 26)).alloc (.cells #[.int .i64 0, .int .i64 30, .int .i64 20, .int .i64 0, .int .i64 0, .int .u8 0, .int .u8 0, .int .u8 0, .int .u8 0, .int .i64 0, .int .i64 10, .int .i64 20, .int .i64 0, .int .i64 0, .int .u8 0, .int .u8 0, .int .u8 0, .int .u8 0] 39)) := (Below.refl _ _).alloc (Nat.le_refl _) _
    have h2 : Below w1.heap.size w1 (w1.alloc (.cells #[.int .i64 1, .int .i64 0, .int .i64 1000, .int .i64 500, .int .i64 0, .int .i64 0, .int .i64 0, .int .i64 98, .slice (some ⟨w1.heap.size + 1, 0, none⟩) 2 2, .slice none 0 0, .slice none 0 0] 26)) := (Below.refl _ _).alloc (Nat.le_refl _) _
    have h4 : (w1.alloc (.cells #[.int .i64 1, .int .i64 0, .int .i64 1000, .int .i64 500, .int .i64 0, .int .i64 0, .int .i64 0, .int .i64 98, .slice (some ⟨w1.heap.size + 1, 0, none⟩) 2 2, .slice none 0 0, .slice none 0 0] 26)).heap.size = w1.heap.size + 1 := Array.size_push _
    have h3 := heap_alloc_new (w1.alloc (.cells #[.int .i64 1, .int .i64 0, .int .i64 1000, .int .i64 500, .int .i64 0, .int .i64 0, .int .i64 0, .int .i64 98, .slice (some ⟨w1.heap.size + 1, 0, none⟩) 2 2, .slice none 0 0, .slice none 0 0] 26)) (.cells (itemsV partVals awP).toArray 39 (0, 0))
    rw [h4] at h3
    exact ⟨(h1.block _ (by omega)).trans (heap_alloc_new w1 _), awk_in h3, Hb1.out.trans (h2.trans (h1.mono h2.size) |>.mono Hb1.out.size)⟩
  clear Hb1
  go_upto_region 3 with (fail)
  generalize hW : (w1.alloc _).alloc _ = w3 at *
  have HS3 := Lib.hid (Hk.out _ rfl)
  clear Hk hW
  generalize w1.heap.size = N at *
  have d0 := fun W (hW : AwS w N W) => cell_at hW.box 0 rfl
  have d1 := fun W (hW : AwS w N W) => cell_at hW.box 1 rfl
  have d2 := fun W (hW : AwS w N W) => cell_at hW.box 2 rfl
  have d3 := fun W (hW : AwS w N W) => cell_at hW.box 3 rfl
  have d4 := fun W (hW : AwS w N W) => cell_at hW.box 4 rfl
  have d5 := fun W (hW : AwS w N W) => cell_at hW.box 5 rfl
  have d6 := fun W (hW : AwS w N W) => cell_at hW.box 6 rfl
  have d7 := fun W (hW : AwS w N W) => cell_at hW.box 7 rfl
  have d8 := fun W (hW : AwS w N W) => cell_at hW.box 8 rfl
  have d9 := fun W (hW : AwS w N W) => cell_at hW.box 9 rfl
  have d10 := fun W (hW : AwS w N W) => cell_at hW.box 10 rfl
  obtain ⟨k0, k1, k2, k3, k4, k5, k6, k7, k8, k9, k10⟩ := eleven HS3.out d0 d1 d2 d3 d4 d5 d6 d7 d8 d9 d10
  go_wp2_with fail
  clear k0 k1 k2 k3 k4 k5 k6 k7 k8 k9 k10
  refine (H1.out _ _ HS3.out.inn).mono ?_
  rintro e w4 ⟨rfl, hb4⟩
  have HS4 := Lib.hid (HS3.out.step hb4)
  clear hb4 HS3 H1
  obtain ⟨k0, k1, k2, k3, k4, k5, k6, k7, k8, k9, k10⟩ := eleven HS4.out d0 d1 d2 d3 d4 d5 d6 d7 d8 d9 d10
  simp only [Option.getD_some, Option.isSome_some]
  go_wp2_with fail
  clear k0 k1 k2 k3 k4 k5 k6 k7 k8 k9 k10
  refine (H2.out _ _ HS4.out.inn).mono ?_
  rintro e w5 ⟨v, rfl, hr, hb5⟩
  have HS5 := Lib.hid (HS4.out.step hb5)
  obtain ⟨g, c, hv, c0, c1, c2⟩ := hr.at_ (k := 0) rfl
  subst hv
  clear hb5 HS4 H2 hr
  obtain ⟨k0, k1, k2, k3, k4, k5, k6, k7, k8, k9, k10⟩ := eleven HS5.out d0 d1 d2 d3 d4 d5 d6 d7 d8 d9 d10
  simp only [List.length_cons, List.length_nil]
  go_wp2_with fail
  clear k0 k1 k2 k3 k4 k5 k6 k7 k8 k9 k10
  clear c0 c1 c2
  refine (H3.out _ _ HS5.out.inn).mono ?_
  rintro e w6 ⟨rfl, hb6⟩
  have HS6 := Lib.hid (HS5.out.step hb6)
  clear hb6 HS5 H3
  obtain ⟨k0, k1, k2, k3, k4, k5, k6, k7, k8, k9, k10⟩ := eleven HS6.out d0 d1 d2 d3 d4 d5 d6 d7 d8 d9 d10
  go_wp2_with fail
  clear k0 k1 k2 k3 k4 k5 k6 k7 k8 k9 k10
  refine (H4.out _ _ HS6.out.inn).mono ?_
  rintro e w7 ⟨rfl, hb7⟩
  have HS7 := Lib.hid (HS6.out.step hb7)
  clear hb7 HS6 H4
  go_wp2_with fail
  go_ret
  exact ⟨rfl, HS7.out.low⟩
end Go.Proofs.Ytfgpfmhjnccccaa
