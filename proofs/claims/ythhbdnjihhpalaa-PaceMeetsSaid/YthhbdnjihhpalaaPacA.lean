/- A pace in memory: New, Real, Local, and a nil one. Conditions: where tables and clock lie, numbers in their ranges. -/
import Derived.Test.YthhbdnjihhpalaaPacQ
import Derived.Test.YthhbdnjihhpalaaSndBa
import Derived.Test.YthhbdnjihhpalaaMem
import Derived.Test.YthhbdnjihhpalaaClkM
import Derived.Test.YthhbdnjihhpalaaMidBa
namespace Go.Proofs.Ythhbdnjihhpalaa
open Go.RowKit
set_option maxRecDepth 100000

def paceCells (x : CfgC) (me : Int) (cold : Bool) (bk : Nat) (hs : List Bool) (ds : List Int) : Array Value :=
  ⟨(cfgCells x).toList ++ (.int .i64 me :: .bool cold :: clockV bk :: (bitV hs ++ intV ds))⟩
/-- A pace at a block, and its clock at another one. -/
structure PaceIn (W : World) (b : Nat) (x : CfgC) (me : Int) (cold : Bool) (bk : Nat) (since rate : Int) (hs : List Bool) (ds : List Int) : Prop where
  at_ : W.heap[b]? = some (.cells (paceCells x me cold bk hs ds) 70 (0, 0))
  hlen : hs.length = 7
  dlen : ds.length = 7
  clk : Made bk since rate W
section
variable {W W' : World} {b : Nat} {x : CfgC} {me : Int} {cold : Bool} {bk : Nat} {since rate : Int} {hs : List Bool} {ds : List Int}
theorem PaceIn.lt (h : PaceIn W b x me cold bk since rate hs ds) : b < W.heap.size := (Array.getElem?_eq_some_iff.1 h.at_).1
theorem PaceIn.clt (h : PaceIn W b x me cold bk since rate hs ds) : bk < W.heap.size := (Array.getElem?_eq_some_iff.1 h.clk.inn).1
theorem PaceIn.ne (h : PaceIn W b x me cold bk since rate hs ds) : bk ≠ b := fun e => by
  have h1 := h.clk.inn
  unfold ClockIn at h1
  rw [e, h.at_, Option.some.injEq, Obj.cells.injEq] at h1
  exact absurd h1.2.1 (by decide)
theorem PaceIn.apart {F : Nat → Prop} (h : PaceIn W b x me cold bk since rate hs ds) (ha : Apart F W W') (hF : ¬ F b) (hk : ¬ F bk) : PaceIn W' b x me cold bk since rate hs ds :=
  ⟨(ha.block b h.lt hF).trans h.at_, h.hlen, h.dlen, ⟨(ha.block bk h.clt hk).trans h.clk.inn, h.clk.ok⟩⟩
theorem PaceIn.below (h : PaceIn W b x me cold bk since rate hs ds) (hb : Below W.heap.size W W') : PaceIn W' b x me cold bk since rate hs ds :=
  h.apart (F := fun _ => False) (Apart.of_below' hb) (fun h => h) (fun h => h)
theorem PaceIn.drew (h : PaceIn W b x me cold bk since rate hs ds) : PaceIn W.drew b x me cold bk since rate hs ds := h.below (Below.refl _ _).drew
theorem PaceIn.cfg (h : PaceIn W b x me cold bk since rate hs ds) : Box11 W b x :=
  ⟨cell_at h.at_ 0 rfl, cell_at h.at_ 1 rfl, cell_at h.at_ 2 rfl, cell_at h.at_ 3 rfl, cell_at h.at_ 4 rfl, cell_at h.at_ 5 rfl, cell_at h.at_ 6 rfl, cell_at h.at_ 7 rfl, cell_at h.at_ 8 rfl, cell_at h.at_ 9 rfl, cell_at h.at_ 10 rfl⟩
theorem PaceIn.c11 (h : PaceIn W b x me cold bk since rate hs ds) : W.cell? ⟨b, 11, none⟩ = some (.int .i64 me) := cell_at h.at_ 11 rfl
theorem PaceIn.c12 (h : PaceIn W b x me cold bk since rate hs ds) : W.cell? ⟨b, 12, none⟩ = some (.bool cold) := cell_at h.at_ 12 rfl
theorem PaceIn.c13 (h : PaceIn W b x me cold bk since rate hs ds) : W.cell? ⟨b, 13, none⟩ = some (.pointer (some ⟨bk, 0, none⟩)) := cell_at h.at_ 13 rfl
theorem paceCells_bit {k : Nat} {p : Bool} (hk : hs[k]? = some p) : (paceCells x me cold bk hs ds)[14 + k]? = some (.bool p) := by
  have h1 := bitV_get hk
  have h2 : k < hs.length := (List.getElem?_eq_some_iff.1 hk).1
  simp only [paceCells, List.getElem?_toArray]
  rw [List.getElem?_append_right (by simp [cfgCells]; omega)]
  simp only [cfgCells, List.length_cons, List.length_nil]
  rw [show 14 + k - (0 + 1 + 1 + 1 + 1 + 1 + 1 + 1 + 1 + 1 + 1 + 1) = k + 1 + 1 + 1 by omega, List.getElem?_cons_succ, List.getElem?_cons_succ, List.getElem?_cons_succ, List.getElem?_append_left (by simp [bitV, h2])]
  exact h1
theorem paceCells_dev (h7 : hs.length = 7) {k : Nat} {d : Int} (hk : ds[k]? = some d) : (paceCells x me cold bk hs ds)[21 + k]? = some (.int .i64 d) := by
  have h1 := intV_get hk
  simp only [paceCells, List.getElem?_toArray]
  rw [List.getElem?_append_right (by simp [cfgCells]; omega)]
  simp only [cfgCells, List.length_cons, List.length_nil]
  rw [show 21 + k - (0 + 1 + 1 + 1 + 1 + 1 + 1 + 1 + 1 + 1 + 1 + 1) = 7 + k + 1 + 1 + 1 by omega, List.getElem?_cons_succ, List.getElem?_cons_succ, List.getElem?_cons_succ, List.getElem?_append_right (by simp [bitV, h7])]
  simpa [bitV, h7] using h1
theorem PaceIn.bit (h : PaceIn W b x me cold bk since rate hs ds) {k : Nat} {p : Bool} (hk : hs[k]? = some p) : W.cell? ⟨b, 14 + k, none⟩ = some (.bool p) := cell_at h.at_ _ (paceCells_bit hk)
theorem PaceIn.dev (h : PaceIn W b x me cold bk since rate hs ds) {k : Nat} {d : Int} (hk : ds[k]? = some d) : W.cell? ⟨b, 21 + k, none⟩ = some (.int .i64 d) := cell_at h.at_ _ (paceCells_dev h.hlen hk)
theorem PaceIn.free (h : PaceIn W b x me cold bk since rate hs ds) (k : Nat) : W.frozen? ⟨b, k, none⟩ = false := free_at h.at_ k
theorem paceCells_setBit {k : Nat} (hk : k < hs.length) (p : Bool) : (paceCells x me cold bk hs ds).setIfInBounds (14 + k) (.bool p) = paceCells x me cold bk (hs.set k p) ds := by
  simp only [paceCells, List.setIfInBounds_toArray]
  rw [List.set_append_right _ _ (by simp [cfgCells]; omega)]
  simp only [cfgCells, List.length_cons, List.length_nil]
  rw [show 14 + k - (0 + 1 + 1 + 1 + 1 + 1 + 1 + 1 + 1 + 1 + 1 + 1) = k + 1 + 1 + 1 by omega, List.set_cons_succ, List.set_cons_succ, List.set_cons_succ, List.set_append_left _ _ (by simp [bitV, hk]), ← bitV_set]
theorem paceCells_setDev (h7 : hs.length = 7) (k : Nat) (d : Int) : (paceCells x me cold bk hs ds).setIfInBounds (21 + k) (.int .i64 d) = paceCells x me cold bk hs (ds.set k d) := by
  simp only [paceCells, List.setIfInBounds_toArray]
  rw [List.set_append_right _ _ (by simp [cfgCells]; omega)]
  simp only [cfgCells, List.length_cons, List.length_nil]
  rw [show 21 + k - (0 + 1 + 1 + 1 + 1 + 1 + 1 + 1 + 1 + 1 + 1 + 1) = 7 + k + 1 + 1 + 1 by omega, List.set_cons_succ, List.set_cons_succ, List.set_cons_succ, List.set_append_right _ _ (by simp [bitV, h7]), intV_set]
  simp [bitV, h7]
theorem PaceIn.storedBit (h : PaceIn W b x me cold bk since rate hs ds) {k : Nat} (hk : k < 7) (p : Bool) : PaceIn (W.setCell ⟨b, 14 + k, none⟩ (.bool p)) b x me cold bk since rate (hs.set k p) ds := by
  refine ⟨?_, by rw [List.length_set]; exact h.hlen, h.dlen, ⟨?_, h.clk.ok⟩⟩
  · have h3 := heap_setCell_same W b (14 + k) _ 70 (.bool p) h.at_
    rw [paceCells_setBit (by rw [h.hlen]; exact hk)] at h3
    exact h3
  · exact (((Apart.refl (fun q => q = b) W).setCell (p := ⟨b, 14 + k, none⟩) (.inl rfl) (.bool p)).block bk h.clt h.ne).trans h.clk.inn
theorem PaceIn.storedDev (h : PaceIn W b x me cold bk since rate hs ds) (k : Nat) (d : Int) : PaceIn (W.setCell ⟨b, 21 + k, none⟩ (.int .i64 d)) b x me cold bk since rate hs (ds.set k d) := by
  refine ⟨?_, h.hlen, by rw [List.length_set]; exact h.dlen, ⟨?_, h.clk.ok⟩⟩
  · have h3 := heap_setCell_same W b (21 + k) _ 70 (.int .i64 d) h.at_
    rw [paceCells_setDev h.hlen] at h3
    exact h3
  · exact (((Apart.refl (fun q => q = b) W).setCell (p := ⟨b, 21 + k, none⟩) (.inl rfl) (.int .i64 d)).block bk h.clt h.ne).trans h.clk.inn
end

def pv (b : Nat) : Value := .pointer (some ⟨b, 0, none⟩)

theorem preal_nil (t : Int) (w : World) : Calls Try.prog 15 #[.pointer none, .int .i64 t] w (Quiet (.int .i64 0) w) := by
  go_enter Try.func15, Try.ntmps15
  go_wp2_with fail
  go_ret
  exact ⟨rfl, 0, rfl⟩
theorem plocal_nil (t : Int) (w : World) : Calls Try.prog 16 #[.pointer none, .int .i64 t] w (Quiet (.int .i64 0) w) := by
  go_enter Try.func16, Try.ntmps16
  go_wp2_with fail
  go_ret
  exact ⟨rfl, 0, rfl⟩
theorem phear_nil (n t : Int) (w : World) : Calls Try.prog 14 #[.pointer none, .int .i64 n, .int .i64 t] w (Quiet (.bool false) w) := by
  go_enter Try.func14, Try.ntmps14
  go_wp2_with fail
  go_ret
  exact ⟨rfl, 0, rfl⟩
theorem pturn_nil (w : World) : Calls Try.prog 13 #[.pointer none] w (Quiet (.tuple #[.int .i64 0, .iface 63 (.int .i64 1)]) w) := by
  go_enter Try.func13, Try.ntmps13
  go_wp2_with fail
  go_ret2
  exact ⟨rfl, 0, rfl⟩

theorem preal_any (b : Nat) (x : CfgC) (me : Int) (cold : Bool) (bk : Nat) (since rate : Int) (hs : List Bool) (ds : List Int) (loc : Int) (hd : FarIn loc) (w : World) (h : PaceIn w b x me cold bk since rate hs ds) :
    Calls Try.prog 15 #[pv b, .int .i64 loc] w (Quiet (.int .i64 (ClkP.realT since rate loc)) w) := by
  have C0 := Lib.hid (real_any bk since rate loc h.clk.rate h.clk.time hd w h.clk.inn)
  have k13 := h.c13
  clear h hd
  unfold pv clockV at *
  go_enter Try.func15, Try.ntmps15
  go_wp2_with fail
  refine C0.out.mono ?_
  rintro e w1 ⟨rfl, m, rfl⟩
  go_wp2_with fail
  go_ret
  exact ⟨rfl, _, rfl⟩
theorem plocal_any (b : Nat) (x : CfgC) (me : Int) (cold : Bool) (bk : Nat) (since rate : Int) (hs : List Bool) (ds : List Int) (t : Int) (hd : FarIn (t - since)) (w : World) (h : PaceIn w b x me cold bk since rate hs ds) :
    Calls Try.prog 16 #[pv b, .int .i64 t] w (Quiet (.int .i64 (ClkP.localT since rate t)) w) := by
  have C0 := Lib.hid (local_any bk since rate t h.clk.rate hd w h.clk.inn)
  have k13 := h.c13
  clear h hd
  unfold pv clockV at *
  go_enter Try.func16, Try.ntmps16
  go_wp2_with fail
  refine C0.out.mono ?_
  rintro e w1 ⟨rfl, m, rfl⟩
  go_wp2_with fail
  go_ret
  exact ⟨rfl, _, rfl⟩
end Go.Proofs.Ythhbdnjihhpalaa
