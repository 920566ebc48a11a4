/- Contract of fault.safely[bool] around any closure, and of fault.ends at an error in memory: it tells true. -/
import Derived.Test.YtabndibenffngaaDoorErrA
import Derived.Defers
import Derived.Recover
namespace Go.Proofs.YtabndibenffngaaDoor
open Go.RowKit Go.Extern.Stop Go.Stop Go.Extern

/-- The deferred closure, entered as a deferred call of a frame that returns: it turns nothing. -/
theorem catch_idle (p : Addr) (w : World) :
    CallsD Tryd.prog 54 #[.pointer (some p)] .returning w fun e u' w' => e = .returned (.tuple #[]) ∧ u' = .returning ∧ w' = w := by
  refine callsD_of_wpS Tryd.func54 rfl fun c₀ cs hu => ?_
  apply wpS_seq
  apply wpS_region
  simp [wpOpsS, go_sem, recoverD, hu, Tryd.ntmps54, Exit.thenS]
  refine wpS_cond (t := false) (by simp [Act.eval, Array.replicate]) ?_
  simp only [Bool.false_eq_true, if_false]
  refine wpS_of_wp (wp_skip ?_)
  cases c₀
  simp_all [bodyPostS, results, Tryd.results54]

/-- What a closure that is asked safely does: it answers a bool, and of old blocks it writes one at most. -/
def Asked (w : World) (row : Option Nat) (R : Bool → World → Prop) (e : Ending) (w' : World) : Prop :=
  ∃ r, e = .returned (.bool r) ∧ w.grownBy w' row ∧ R r w'

theorem enters {f : FuncId} {fn : Func} {c : Code} (hf : Tryd.prog.funcs[f]? = some fn) (hname : (fn.name == "runtime.NumGoroutine") = false) (hb : fn.body = some c) (args : Array Value) (w : World) :
    (callFunc f args).run Tryd.prog w = .ok (.enter f args) w := by
  have h1 : ¬ fn.name = "runtime.NumGoroutine" := by simpa using hname
  simp [callFunc, hf, h1, hb]

/-- What asking safely comes to. -/
def Safe (w : World) (row : Option Nat) (R : Bool → World → Prop) (e : Ending) (w' : World) : Prop :=
  ∃ r w1, e = .returned (.bool r) ∧ (w.alloc (.cells #[.bool false] 4)).grownBy w1 row ∧ R r w1 ∧ w' = w1.setCell ⟨w.heap.size, 0, none⟩ (.bool r)

theorem safely_of (K : FuncId) (cap : Array Value) (w : World) (row : Option Nat) (R : Bool → World → Prop) (hrow : ∀ k, row = some k → k < w.heap.size)
    (hent : ∀ (args : Array Value) (w : World), (callFunc K args).run Tryd.prog w = .ok (.enter K args) w)
    (h : Calls Tryd.prog K cap (w.alloc (.cells #[.bool false] 4)) (Asked (w.alloc (.cells #[.bool false] 4)) row R)) :
    Calls Tryd.prog 44 #[.func (.func K) #[] cap] w (Safe w row R) := by
  have hmf : ∀ (fn : Fn) (first cap : Array Value) (w : World), (Instr.makeFunc fn first cap).run Tryd.prog w = .ok (.func fn first cap) w := fun _ _ _ _ => rfl
  have H := Lib.hid h
  clear h
  go_enter_defers Tryd.func44, Tryd.ntmps44
  go_wp2_with fail
  refine H.out.mono ?_
  rintro e w1 ⟨r, rfl, hg, hR⟩
  have hb : w1.heap[w.heap.size]? = some (.cells #[.bool false] 4 (0, 0)) := by
    rw [hg.block w.heap.size (by simp) (fun e => by have := hrow _ e.symm; omega)]
    show (w.heap.push _)[w.heap.size]? = _
    simp
  have hc : w1.cell? ⟨w.heap.size, 0, none⟩ = some (.bool false) := by simp [World.cell?, hb]
  have hf : w1.frozen? ⟨w.heap.size, 0, none⟩ = false := by simp [World.frozen?, hb]
  have hc2 : (w1.setCell ⟨w.heap.size, 0, none⟩ (.bool r)).cell? ⟨w.heap.size, 0, none⟩ = some (.bool r) := World.cell?_setCell_same' _ _ _ (by rw [hc]; rfl)
  have hend : Safe w row R (.returned (.bool r)) (w1.setCell ⟨w.heap.size, 0, none⟩ (.bool r)) := ⟨r, w1, rfl, hg, hR, rfl⟩
  clear hb hR hg
  go_wp2_with fail
  refine leaves_cons (f := 54) (args := #[.pointer (some ⟨w.heap.size, 0, none⟩)]) (by simp) (by simp [go_sem]) ?_
  refine (catch_idle ⟨w.heap.size, 0, none⟩ _).mono ?_
  rintro e u' w'' ⟨rfl, rfl, rfl⟩
  simp [Leaves, settle, results, Tryd.results44, go_sem, hc2]
  exact hend
end Go.Proofs.YtabndibenffngaaDoor
