/- Contracts of errors.as and errors.As: at a fault for a **api.Fault, at an Errno for a **api.Fault (false) and for a *api.Errno. Conditions: errors.errorType holds the type error; the target is a variable in memory. -/
import Derived.Test.YtabndibenffngaaDoorErrE
namespace Go.Proofs.YtabndibenffngaaDoor
open Go.RowKit Go.Extern.Stop Go.Stop Go.Extern

set_option maxHeartbeats 1000000 in
theorem as1_F (x : Addr) (tb ab : Nat) (old : Value) (w : World) (ha : w.cell? ⟨ab, 0, none⟩ = some (.pointer (some ⟨tb, 0, none⟩))) (hal : ab < w.heap.size) (ht0 : w.cell? ⟨tb, 0, none⟩ = some old) (hf0 : w.frozen? ⟨tb, 0, none⟩ = false) (htl : tb < w.heap.size) :
    Calls Tryd.prog 62 #[.iface 80 (.pointer (some x)), .iface 125 (.pointer (some ⟨tb, 0, none⟩)), .agg #[.pointer (some ⟨1, 125, none⟩), .pointer (some ⟨ab, 0, none⟩), .int .u64 150], .iface 138 (.agg #[.pointer (some ⟨1, 80, none⟩)])] w fun ev w' => ev = .returned (.bool true) ∧ w' = ((w.setCell ⟨tb, 0, none⟩ (.pointer (some x))).alloc (.cells #[.pointer (some ⟨1, 125, none⟩), .pointer (some ⟨ab, 0, none⟩), .int .u64 150] 130)).alloc (.cells #[.pointer (some x)] 80) := by
  have h0 := @run_callFunc_extern Tryd.prog 59 _ (fun args => ReflectliteValue.unpack (args.getD 0 (.tuple #[]))) Tryd.func59 (by kernel_rfl) (by kernel_rfl) (by kernel_rfl) (by kernel_rfl)
  have h6 := @run_callFunc_extern Tryd.prog 55 _ ReflectliteType.typeOf Tryd.func55 (by kernel_rfl) (by kernel_rfl) (by kernel_rfl) (by kernel_rfl)
  have h7 := @run_callFunc_extern Tryd.prog 90 _ (ReflectliteType.relation "AssignableTo" ReflectliteType.assignableTo) Tryd.func90 (by kernel_rfl) (by kernel_rfl) (by kernel_rfl) (by kernel_rfl)
  have h8 := @run_callFunc_extern Tryd.prog 63 _ (ReflectliteValue.method (ReflectliteValue.valueError "reflectlite.Value.Elem" 0) ReflectliteValue.elem) Tryd.func63 (by kernel_rfl) (by kernel_rfl) (by kernel_rfl) (by kernel_rfl)
  have h9 := @run_callFunc_extern Tryd.prog 64 _ ReflectliteValue.set Tryd.func64 (by kernel_rfl) (by kernel_rfl) (by kernel_rfl) (by kernel_rfl)
  have mA := methodAssignableTo
  have tO := typeOf_F
  have aS := assignable_F
  have v1 := valueOf1_F
  have el := elemV_F ⟨ab, 0, none⟩ ⟨tb, 0, none⟩ (w.alloc (.cells #[.pointer (some ⟨1, 125, none⟩), .pointer (some ⟨ab, 0, none⟩), .int .u64 150] 130)) (by rw [World.cell?_alloc_lt _ _ _ hal]; exact ha)
  have st := set_F ⟨tb, 0, none⟩ ⟨w.heap.size + 1, 0, none⟩ x old ((w.alloc (.cells #[.pointer (some ⟨1, 125, none⟩), .pointer (some ⟨ab, 0, none⟩), .int .u64 150] 130)).alloc (.cells #[.pointer (some x)] 80))
    (by rw [World.cell?_alloc_at _ _ _ _ (by simp)]; rfl)
    (by rw [World.cell?_alloc_lt _ _ _ (by simp; omega), World.cell?_alloc_lt _ _ _ htl]; exact ht0)
    (by rw [World.frozen?_alloc_old _ _ _ (by simp; omega), World.frozen?_alloc_old _ _ _ (Nat.ne_of_lt htl)]; exact hf0)
  clear ht0 hf0 ha
  go_enter Tryd.func62, Tryd.ntmps62
  go_wp2
  refine wp_loop_rounds 1 ?_
  rw [rounds_succ]
  go_wp2
  go_ret
  exact ⟨rfl, rfl⟩

set_option maxHeartbeats 1000000 in
theorem as1_E (x : Int) (tb ab : Nat) (old : Value) (w : World) (ha : w.cell? ⟨ab, 0, none⟩ = some (.pointer (some ⟨tb, 0, none⟩))) (hal : ab < w.heap.size) (ht0 : w.cell? ⟨tb, 0, none⟩ = some old) (hf0 : w.frozen? ⟨tb, 0, none⟩ = false) (htl : tb < w.heap.size) :
    Calls Tryd.prog 62 #[.iface 30 (.int .i64 x), .iface 117 (.pointer (some ⟨tb, 0, none⟩)), .agg #[.pointer (some ⟨1, 117, none⟩), .pointer (some ⟨ab, 0, none⟩), .int .u64 150], .iface 138 (.agg #[.pointer (some ⟨1, 30, none⟩)])] w fun ev w' => ev = .returned (.bool true) ∧ w' = ((w.setCell ⟨tb, 0, none⟩ (.int .i64 x)).alloc (.cells #[.pointer (some ⟨1, 117, none⟩), .pointer (some ⟨ab, 0, none⟩), .int .u64 150] 130)).alloc (.cells #[.int .i64 x] 30) := by
  have h0 := @run_callFunc_extern Tryd.prog 59 _ (fun args => ReflectliteValue.unpack (args.getD 0 (.tuple #[]))) Tryd.func59 (by kernel_rfl) (by kernel_rfl) (by kernel_rfl) (by kernel_rfl)
  have h6 := @run_callFunc_extern Tryd.prog 55 _ ReflectliteType.typeOf Tryd.func55 (by kernel_rfl) (by kernel_rfl) (by kernel_rfl) (by kernel_rfl)
  have h7 := @run_callFunc_extern Tryd.prog 90 _ (ReflectliteType.relation "AssignableTo" ReflectliteType.assignableTo) Tryd.func90 (by kernel_rfl) (by kernel_rfl) (by kernel_rfl) (by kernel_rfl)
  have h8 := @run_callFunc_extern Tryd.prog 63 _ (ReflectliteValue.method (ReflectliteValue.valueError "reflectlite.Value.Elem" 0) ReflectliteValue.elem) Tryd.func63 (by kernel_rfl) (by kernel_rfl) (by kernel_rfl) (by kernel_rfl)
  have h9 := @run_callFunc_extern Tryd.prog 64 _ ReflectliteValue.set Tryd.func64 (by kernel_rfl) (by kernel_rfl) (by kernel_rfl) (by kernel_rfl)
  have mA := methodAssignableTo
  have tO := typeOf_E
  have aS := assignable_E
  have v1 := valueOf1_E
  have el := elemV_E ⟨ab, 0, none⟩ ⟨tb, 0, none⟩ (w.alloc (.cells #[.pointer (some ⟨1, 117, none⟩), .pointer (some ⟨ab, 0, none⟩), .int .u64 150] 130)) (by rw [World.cell?_alloc_lt _ _ _ hal]; exact ha)
  have st := set_E ⟨tb, 0, none⟩ ⟨w.heap.size + 1, 0, none⟩ x old ((w.alloc (.cells #[.pointer (some ⟨1, 117, none⟩), .pointer (some ⟨ab, 0, none⟩), .int .u64 150] 130)).alloc (.cells #[.int .i64 x] 30))
    (by rw [World.cell?_alloc_at _ _ _ _ (by simp)]; rfl)
    (by rw [World.cell?_alloc_lt _ _ _ (by simp; omega), World.cell?_alloc_lt _ _ _ htl]; exact ht0)
    (by rw [World.frozen?_alloc_old _ _ _ (by simp; omega), World.frozen?_alloc_old _ _ _ (Nat.ne_of_lt htl)]; exact hf0)
  clear ht0 hf0 ha
  go_enter Tryd.func62, Tryd.ntmps62
  go_wp2
  refine wp_loop_rounds 1 ?_
  rw [rounds_succ]
  go_wp2
  go_ret
  exact ⟨rfl, rfl⟩

set_option maxHeartbeats 1000000 in
theorem as1_no (x : Int) (t : Value) (ab : Nat) (w : World) :
    Calls Tryd.prog 62 #[.iface 30 (.int .i64 x), t, .agg #[.pointer (some ⟨1, 125, none⟩), .pointer (some ⟨ab, 0, none⟩), .int .u64 150], .iface 138 (.agg #[.pointer (some ⟨1, 80, none⟩)])] w fun ev w' => ev = .returned (.bool false) ∧ w' = w.alloc (.cells #[.pointer (some ⟨1, 125, none⟩), .pointer (some ⟨ab, 0, none⟩), .int .u64 150] 130) := by
  have h6 := @run_callFunc_extern Tryd.prog 55 _ ReflectliteType.typeOf Tryd.func55 (by kernel_rfl) (by kernel_rfl) (by kernel_rfl) (by kernel_rfl)
  have h7 := @run_callFunc_extern Tryd.prog 90 _ (ReflectliteType.relation "AssignableTo" ReflectliteType.assignableTo) Tryd.func90 (by kernel_rfl) (by kernel_rfl) (by kernel_rfl) (by kernel_rfl)
  have mA := methodAssignableTo
  have tO := typeOf_E
  have aS := assignable_EF
  have n1 := noAsE
  have n2 := noUnwrapE
  have n3 := noUnwrapsE
  go_enter Tryd.func62, Tryd.ntmps62
  go_wp2
  refine wp_loop_rounds 1 ?_
  rw [rounds_succ]
  go_wp2
  go_ret
  exact ⟨rfl, rfl⟩

end Go.Proofs.YtabndibenffngaaDoor
