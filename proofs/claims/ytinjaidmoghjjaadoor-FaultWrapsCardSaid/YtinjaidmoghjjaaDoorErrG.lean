/- Contracts of errors.As as a question that is asked safely (Asked): at nil, at a fault for a **api.Fault, at an Errno for a **api.Fault and for a *api.Errno. Conditions: errors.errorType holds the type error; the target is a variable of its own block. -/
import Derived.Test.YtinjaidmoghjjaaDoorErrF
namespace Go.Proofs.YtinjaidmoghjjaaDoor
open Go.RowKit Go.Extern.Stop Go.Stop Go.Extern

/-- errors.errorType holds the type error (the card ties it to the program's text). -/
def HasType (w : World) : Prop := w.cell? ⟨0, 0, none⟩ = some (.iface 85 (.agg #[.pointer (some ⟨1, 25, none⟩)]))
theorem HasType.pos {w : World} (h : HasType w) : 0 < w.heap.size := by
  rcases Nat.eq_zero_or_pos w.heap.size with h0 | h'
  · simp [HasType, World.cell?, h0] at h
  · exact h'
theorem HasType.keep {w w' : World} (h : HasType w) (hk : w'.heap[0]? = w.heap[0]?) : HasType w' := by
  unfold HasType at *
  rw [← h]
  exact World.cell?_of_block (a := ⟨0, 0, none⟩) hk

/-- How a world goes on: new blocks, and one old block that may be written. -/
theorem grown_alloc {w w' : World} {row : Option Nat} (h : w.grownBy w' row) (o : Obj) : w.grownBy (w'.alloc o) row :=
  ⟨h.os, h.tape, h.output, by have := h.size; simp; omega, fun k hk hne => (Below.heap_alloc _ _ _ (by have := h.size; omega)).trans (h.block k hk hne)⟩
theorem allocAt (w : World) (o : Obj) (k : Nat) (h : k < w.heap.size) : (w.alloc o).heap[k]? = w.heap[k]? := Below.heap_alloc w o k h

set_option maxHeartbeats 2000000 in
theorem as_F (x : Addr) (tb : Nat) (old : Value) (w : World) (hg : HasType w) (hb : w.heap[tb]? = some (.cells #[old] 36 (0, 0))) (htl : tb < w.heap.size) :
    Calls Tryd.prog 17 #[.iface 36 (.pointer (some x)), .iface 46 (.pointer (some ⟨tb, 0, none⟩))] w (Asked w (some tb) (fun r w1 => r = true ∧ w1.heap[tb]? = some (.cells #[.pointer (some x)] 36 (0, 0)))) := by
  have h0 := @run_callFunc_extern Tryd.prog 34 _ (fun args => ReflectliteValue.unpack (args.getD 0 (.tuple #[]))) Tryd.func34 (by kernel_rfl) (by kernel_rfl) (by kernel_rfl) (by kernel_rfl)
  have h1 := @run_callFunc_extern Tryd.prog 35 _ (ReflectliteValue.methodAny (ReflectliteValue.valueError "reflectlite.Value.Type" 0) (fun t _ _ _ => ReflectliteType.toType t)) Tryd.func35 (by kernel_rfl) (by kernel_rfl) (by kernel_rfl) (by kernel_rfl)
  have h2 := @run_callFunc_extern Tryd.prog 36 _ (ReflectliteValue.method (ReflectliteValue.valueError "reflectlite.Value.IsNil" 0) ReflectliteValue.isNil) Tryd.func36 (by kernel_rfl) (by kernel_rfl) (by kernel_rfl) (by kernel_rfl)
  have h3 := @run_callFunc_extern Tryd.prog 61 _ (ReflectliteType.abiMethod fun t => do pure (.int .u8 (← Rtype.kind t))) Tryd.func61 (by kernel_rfl) (by kernel_rfl) (by kernel_rfl) (by kernel_rfl)
  have h4 := @run_callFunc_extern Tryd.prog 74 _ (ReflectliteType.method ReflectliteType.elem) Tryd.func74 (by kernel_rfl) (by kernel_rfl) (by kernel_rfl) (by kernel_rfl)
  have h5 := @run_callFunc_extern Tryd.prog 75 _ (ReflectliteType.relation "Implements" ReflectliteType.implements_) Tryd.func75 (by kernel_rfl) (by kernel_rfl) (by kernel_rfl) (by kernel_rfl)
  have f0 := valueOf_F
  have f1 := type_F
  have f2 := methodKind
  have f3 := methodElem
  have f4 := methodImplements
  have f5 := kind_F
  have f6 := kind1_F
  have f7 := elem_F
  have f8 := implements_F
  have n8 := isNil_F ⟨w.heap.size, 0, none⟩ ⟨tb, 0, none⟩ ((w.alloc (.cells #[.pointer (some ⟨tb, 0, none⟩)] 46)).alloc (.cells #[.pointer (some ⟨1, 46, none⟩), .pointer (some ⟨w.heap.size, 0, none⟩), .int .u64 150] 70)) (by simp)
  have hlt := hg.pos
  have hg2 : ((w.alloc (.cells #[.pointer (some ⟨tb, 0, none⟩)] 46)).alloc (.cells #[.pointer (some ⟨1, 46, none⟩), .pointer (some ⟨w.heap.size, 0, none⟩), .int .u64 150] 70)).cell? ⟨0, 0, none⟩ = some (.iface 85 (.agg #[.pointer (some ⟨1, 25, none⟩)])) := by
    rw [World.cell?_alloc_lt _ _ ⟨0, 0, none⟩ (by simp), World.cell?_alloc_lt _ _ ⟨0, 0, none⟩ hlt]; exact hg
  have hA : ((w.alloc (.cells #[.pointer (some ⟨tb, 0, none⟩)] 46)).alloc (.cells #[.pointer (some ⟨1, 46, none⟩), .pointer (some ⟨w.heap.size, 0, none⟩), .int .u64 150] 70)).cell? ⟨w.heap.size, 0, none⟩ = some (.pointer (some ⟨tb, 0, none⟩)) := by
    rw [World.cell?_alloc_lt _ _ _ (by simp)]; simp
  have hAl : w.heap.size < ((w.alloc (.cells #[.pointer (some ⟨tb, 0, none⟩)] 46)).alloc (.cells #[.pointer (some ⟨1, 46, none⟩), .pointer (some ⟨w.heap.size, 0, none⟩), .int .u64 150] 70)).heap.size := by simp; omega
  have hT : ((w.alloc (.cells #[.pointer (some ⟨tb, 0, none⟩)] 46)).alloc (.cells #[.pointer (some ⟨1, 46, none⟩), .pointer (some ⟨w.heap.size, 0, none⟩), .int .u64 150] 70)).cell? ⟨tb, 0, none⟩ = some old := by
    rw [World.cell?_alloc_lt _ _ _ (by simp; omega), World.cell?_alloc_lt _ _ _ htl]; exact (cell0 hb).1
  have hF : ((w.alloc (.cells #[.pointer (some ⟨tb, 0, none⟩)] 46)).alloc (.cells #[.pointer (some ⟨1, 46, none⟩), .pointer (some ⟨w.heap.size, 0, none⟩), .int .u64 150] 70)).frozen? ⟨tb, 0, none⟩ = false := by
    rw [World.frozen?_alloc_old _ _ _ (by simp; omega), World.frozen?_alloc_old _ _ _ (Nat.ne_of_lt htl)]; exact (cell0 hb).2
  have hTl : tb < ((w.alloc (.cells #[.pointer (some ⟨tb, 0, none⟩)] 46)).alloc (.cells #[.pointer (some ⟨1, 46, none⟩), .pointer (some ⟨w.heap.size, 0, none⟩), .int .u64 150] 70)).heap.size := by simp; omega
  have hend : ∀ e w', e = .returned (.bool true) → w' = (((((w.alloc (.cells #[.pointer (some ⟨tb, 0, none⟩)] 46)).alloc (.cells #[.pointer (some ⟨1, 46, none⟩), .pointer (some ⟨w.heap.size, 0, none⟩), .int .u64 150] 70)).setCell ⟨tb, 0, none⟩ (.pointer (some x))).alloc (.cells #[.pointer (some ⟨1, 46, none⟩), .pointer (some ⟨w.heap.size, 0, none⟩), .int .u64 150] 70)).alloc (.cells #[.pointer (some x)] 36)) → Asked w (some tb) (fun r w1 => r = true ∧ w1.heap[tb]? = some (.cells #[.pointer (some x)] 36 (0, 0))) e w' := by
    rintro e w' rfl rfl
    exact ⟨_, rfl, (grown_alloc (grown_alloc (grown_set (grown_alloc (grown_alloc (grown_refl w (some tb)) _) _)) _) _), rfl, (allocAt _ _ tb (by simp [World.setCell]; omega)).trans ((allocAt _ _ tb (by simp [World.setCell]; omega)).trans (set0 ((allocAt _ _ tb (by simp; omega)).trans ((allocAt _ _ tb htl).trans hb))))⟩
  have Hend := Lib.hid hend
  clear hend hb
  clear hg
  go_enter Tryd.func17, Tryd.ntmps17
  go_wp2_with fail
  refine (as1_F x tb w.heap.size old _ hA hAl hT hF hTl).mono ?_
  rintro e w' ⟨rfl, hw⟩
  have Hw := Lib.hid hw
  clear hw
  go_wp2_with fail
  go_ret
  exact Hend.out _ _ rfl Hw.out

set_option maxHeartbeats 2000000 in
theorem as_E (x : Int) (tb : Nat) (old : Value) (w : World) (hg : HasType w) (hb : w.heap[tb]? = some (.cells #[old] 33 (0, 0))) (htl : tb < w.heap.size) :
    Calls Tryd.prog 17 #[.iface 33 (.int .i64 x), .iface 61 (.pointer (some ⟨tb, 0, none⟩))] w (Asked w (some tb) (fun r w1 => r = true ∧ w1.heap[tb]? = some (.cells #[.int .i64 x] 33 (0, 0)))) := by
  have h0 := @run_callFunc_extern Tryd.prog 34 _ (fun args => ReflectliteValue.unpack (args.getD 0 (.tuple #[]))) Tryd.func34 (by kernel_rfl) (by kernel_rfl) (by kernel_rfl) (by kernel_rfl)
  have h1 := @run_callFunc_extern Tryd.prog 35 _ (ReflectliteValue.methodAny (ReflectliteValue.valueError "reflectlite.Value.Type" 0) (fun t _ _ _ => ReflectliteType.toType t)) Tryd.func35 (by kernel_rfl) (by kernel_rfl) (by kernel_rfl) (by kernel_rfl)
  have h2 := @run_callFunc_extern Tryd.prog 36 _ (ReflectliteValue.method (ReflectliteValue.valueError "reflectlite.Value.IsNil" 0) ReflectliteValue.isNil) Tryd.func36 (by kernel_rfl) (by kernel_rfl) (by kernel_rfl) (by kernel_rfl)
  have h3 := @run_callFunc_extern Tryd.prog 61 _ (ReflectliteType.abiMethod fun t => do pure (.int .u8 (← Rtype.kind t))) Tryd.func61 (by kernel_rfl) (by kernel_rfl) (by kernel_rfl) (by kernel_rfl)
  have h4 := @run_callFunc_extern Tryd.prog 74 _ (ReflectliteType.method ReflectliteType.elem) Tryd.func74 (by kernel_rfl) (by kernel_rfl) (by kernel_rfl) (by kernel_rfl)
  have h5 := @run_callFunc_extern Tryd.prog 75 _ (ReflectliteType.relation "Implements" ReflectliteType.implements_) Tryd.func75 (by kernel_rfl) (by kernel_rfl) (by kernel_rfl) (by kernel_rfl)
  have f0 := valueOf_E
  have f1 := type_E
  have f2 := methodKind
  have f3 := methodElem
  have f4 := methodImplements
  have f5 := kind_E
  have f6 := kind1_E
  have f7 := elem_E
  have f8 := implements_E
  have n8 := isNil_E ⟨w.heap.size, 0, none⟩ ⟨tb, 0, none⟩ ((w.alloc (.cells #[.pointer (some ⟨tb, 0, none⟩)] 61)).alloc (.cells #[.pointer (some ⟨1, 61, none⟩), .pointer (some ⟨w.heap.size, 0, none⟩), .int .u64 150] 70)) (by simp)
  have hlt := hg.pos
  have hg2 : ((w.alloc (.cells #[.pointer (some ⟨tb, 0, none⟩)] 61)).alloc (.cells #[.pointer (some ⟨1, 61, none⟩), .pointer (some ⟨w.heap.size, 0, none⟩), .int .u64 150] 70)).cell? ⟨0, 0, none⟩ = some (.iface 85 (.agg #[.pointer (some ⟨1, 25, none⟩)])) := by
    rw [World.cell?_alloc_lt _ _ ⟨0, 0, none⟩ (by simp), World.cell?_alloc_lt _ _ ⟨0, 0, none⟩ hlt]; exact hg
  have hA : ((w.alloc (.cells #[.pointer (some ⟨tb, 0, none⟩)] 61)).alloc (.cells #[.pointer (some ⟨1, 61, none⟩), .pointer (some ⟨w.heap.size, 0, none⟩), .int .u64 150] 70)).cell? ⟨w.heap.size, 0, none⟩ = some (.pointer (some ⟨tb, 0, none⟩)) := by
    rw [World.cell?_alloc_lt _ _ _ (by simp)]; simp
  have hAl : w.heap.size < ((w.alloc (.cells #[.pointer (some ⟨tb, 0, none⟩)] 61)).alloc (.cells #[.pointer (some ⟨1, 61, none⟩), .pointer (some ⟨w.heap.size, 0, none⟩), .int .u64 150] 70)).heap.size := by simp; omega
  have hT : ((w.alloc (.cells #[.pointer (some ⟨tb, 0, none⟩)] 61)).alloc (.cells #[.pointer (some ⟨1, 61, none⟩), .pointer (some ⟨w.heap.size, 0, none⟩), .int .u64 150] 70)).cell? ⟨tb, 0, none⟩ = some old := by
    rw [World.cell?_alloc_lt _ _ _ (by simp; omega), World.cell?_alloc_lt _ _ _ htl]; exact (cell0 hb).1
  have hF : ((w.alloc (.cells #[.pointer (some ⟨tb, 0, none⟩)] 61)).alloc (.cells #[.pointer (some ⟨1, 61, none⟩), .pointer (some ⟨w.heap.size, 0, none⟩), .int .u64 150] 70)).frozen? ⟨tb, 0, none⟩ = false := by
    rw [World.frozen?_alloc_old _ _ _ (by simp; omega), World.frozen?_alloc_old _ _ _ (Nat.ne_of_lt htl)]; exact (cell0 hb).2
  have hTl : tb < ((w.alloc (.cells #[.pointer (some ⟨tb, 0, none⟩)] 61)).alloc (.cells #[.pointer (some ⟨1, 61, none⟩), .pointer (some ⟨w.heap.size, 0, none⟩), .int .u64 150] 70)).heap.size := by simp; omega
  have hend : ∀ e w', e = .returned (.bool true) → w' = (((((w.alloc (.cells #[.pointer (some ⟨tb, 0, none⟩)] 61)).alloc (.cells #[.pointer (some ⟨1, 61, none⟩), .pointer (some ⟨w.heap.size, 0, none⟩), .int .u64 150] 70)).setCell ⟨tb, 0, none⟩ (.int .i64 x)).alloc (.cells #[.pointer (some ⟨1, 61, none⟩), .pointer (some ⟨w.heap.size, 0, none⟩), .int .u64 150] 70)).alloc (.cells #[.int .i64 x] 33)) → Asked w (some tb) (fun r w1 => r = true ∧ w1.heap[tb]? = some (.cells #[.int .i64 x] 33 (0, 0))) e w' := by
    rintro e w' rfl rfl
    exact ⟨_, rfl, (grown_alloc (grown_alloc (grown_set (grown_alloc (grown_alloc (grown_refl w (some tb)) _) _)) _) _), rfl, (allocAt _ _ tb (by simp [World.setCell]; omega)).trans ((allocAt _ _ tb (by simp [World.setCell]; omega)).trans (set0 ((allocAt _ _ tb (by simp; omega)).trans ((allocAt _ _ tb htl).trans hb))))⟩
  have Hend := Lib.hid hend
  clear hend hb
  clear hg
  go_enter Tryd.func17, Tryd.ntmps17
  go_wp2_with fail
  refine (as1_E x tb w.heap.size old _ hA hAl hT hF hTl).mono ?_
  rintro e w' ⟨rfl, hw⟩
  have Hw := Lib.hid hw
  clear hw
  go_wp2_with fail
  go_ret
  exact Hend.out _ _ rfl Hw.out

set_option maxHeartbeats 2000000 in
theorem as_no (x : Int) (tb : Nat) (w : World) (hg : HasType w) (htl : tb < w.heap.size) :
    Calls Tryd.prog 17 #[.iface 33 (.int .i64 x), .iface 46 (.pointer (some ⟨tb, 0, none⟩))] w (Asked w (some tb) (fun r w1 => r = false ∧ w1.heap[tb]? = w.heap[tb]?)) := by
  have h0 := @run_callFunc_extern Tryd.prog 34 _ (fun args => ReflectliteValue.unpack (args.getD 0 (.tuple #[]))) Tryd.func34 (by kernel_rfl) (by kernel_rfl) (by kernel_rfl) (by kernel_rfl)
  have h1 := @run_callFunc_extern Tryd.prog 35 _ (ReflectliteValue.methodAny (ReflectliteValue.valueError "reflectlite.Value.Type" 0) (fun t _ _ _ => ReflectliteType.toType t)) Tryd.func35 (by kernel_rfl) (by kernel_rfl) (by kernel_rfl) (by kernel_rfl)
  have h2 := @run_callFunc_extern Tryd.prog 36 _ (ReflectliteValue.method (ReflectliteValue.valueError "reflectlite.Value.IsNil" 0) ReflectliteValue.isNil) Tryd.func36 (by kernel_rfl) (by kernel_rfl) (by kernel_rfl) (by kernel_rfl)
  have h3 := @run_callFunc_extern Tryd.prog 61 _ (ReflectliteType.abiMethod fun t => do pure (.int .u8 (← Rtype.kind t))) Tryd.func61 (by kernel_rfl) (by kernel_rfl) (by kernel_rfl) (by kernel_rfl)
  have h4 := @run_callFunc_extern Tryd.prog 74 _ (ReflectliteType.method ReflectliteType.elem) Tryd.func74 (by kernel_rfl) (by kernel_rfl) (by kernel_rfl) (by kernel_rfl)
  have h5 := @run_callFunc_extern Tryd.prog 75 _ (ReflectliteType.relation "Implements" ReflectliteType.implements_) Tryd.func75 (by kernel_rfl) (by kernel_rfl) (by kernel_rfl) (by kernel_rfl)
  have f0 := valueOf_F
  have f1 := type_F
  have f2 := methodKind
  have f3 := methodElem
  have f4 := methodImplements
  have f5 := kind_F
  have f6 := kind1_F
  have f7 := elem_F
  have f8 := implements_F
  have n8 := isNil_F ⟨w.heap.size, 0, none⟩ ⟨tb, 0, none⟩ ((w.alloc (.cells #[.pointer (some ⟨tb, 0, none⟩)] 46)).alloc (.cells #[.pointer (some ⟨1, 46, none⟩), .pointer (some ⟨w.heap.size, 0, none⟩), .int .u64 150] 70)) (by simp)
  have hlt := hg.pos
  have hg2 : ((w.alloc (.cells #[.pointer (some ⟨tb, 0, none⟩)] 46)).alloc (.cells #[.pointer (some ⟨1, 46, none⟩), .pointer (some ⟨w.heap.size, 0, none⟩), .int .u64 150] 70)).cell? ⟨0, 0, none⟩ = some (.iface 85 (.agg #[.pointer (some ⟨1, 25, none⟩)])) := by
    rw [World.cell?_alloc_lt _ _ ⟨0, 0, none⟩ (by simp), World.cell?_alloc_lt _ _ ⟨0, 0, none⟩ hlt]; exact hg
  have hend : ∀ e w', e = .returned (.bool false) → w' = ((w.alloc (.cells #[.pointer (some ⟨tb, 0, none⟩)] 46)).alloc (.cells #[.pointer (some ⟨1, 46, none⟩), .pointer (some ⟨w.heap.size, 0, none⟩), .int .u64 150] 70)).alloc (.cells #[.pointer (some ⟨1, 46, none⟩), .pointer (some ⟨w.heap.size, 0, none⟩), .int .u64 150] 70) → Asked w (some tb) (fun r w1 => r = false ∧ w1.heap[tb]? = w.heap[tb]?) e w' := by
    rintro e w' rfl rfl
    exact ⟨_, rfl, (grown_alloc (grown_alloc (grown_alloc (grown_refl w (some tb)) _) _) _), rfl, (allocAt _ _ tb (by simp; omega)).trans ((allocAt _ _ tb (by simp; omega)).trans (allocAt _ _ tb htl))⟩
  have Hend := Lib.hid hend
  clear hend
  clear hg
  go_enter Tryd.func17, Tryd.ntmps17
  go_wp2_with fail
  refine (as1_no x _ w.heap.size _).mono ?_
  rintro e w' ⟨rfl, hw⟩
  have Hw := Lib.hid hw
  clear hw
  go_wp2_with fail
  go_ret
  exact Hend.out _ _ rfl Hw.out

theorem as_nilA (t : Value) (row : Option Nat) (w : World) :
    Calls Tryd.prog 17 #[.nilIface, t] w (Asked w row fun r w1 => r = false ∧ w1 = w) :=
  (as_nil t w).mono fun _ _ ⟨he, hw⟩ => ⟨false, he, by subst hw; exact grown_refl _ _, rfl, hw.symm⟩
end Go.Proofs.YtinjaidmoghjjaaDoor
