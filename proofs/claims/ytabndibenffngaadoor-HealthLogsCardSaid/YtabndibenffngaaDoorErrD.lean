/- Contract of fault.ends at an error in memory: it tells true; nothing that was there turns. -/
import Derived.Test.YtabndibenffngaaDoorErrC
namespace Go.Proofs.YtabndibenffngaaDoor
open Go.RowKit Go.Extern.Stop Go.Stop Go.Extern

theorem Safe.take {w : World} {row : Option Nat} {R : Bool → World → Prop} {e : Ending} {w' : World} (h : Safe w row R e w') :
    ∃ r w1, e = .returned (.bool r) ∧ R r w1 ∧ (∀ k, k < w.heap.size → some k ≠ row → w'.heap[k]? = w.heap[k]?) ∧ (∀ k, k < w.heap.size → w'.heap[k]? = w1.heap[k]?) ∧
      (∀ B, B ≤ w.heap.size → (∀ k, row = some k → B ≤ k) → Below B w w') := by
  obtain ⟨r, w1, rfl, hg, hR, rfl⟩ := h
  have h0 : ∀ k, k < w.heap.size → (w1.setCell ⟨w.heap.size, 0, none⟩ (.bool r)).heap[k]? = w1.heap[k]? := fun k hk => far (by omega)
  refine ⟨r, w1, rfl, hR, fun k hk hne => ?_, h0, fun B hB hr => ?_⟩
  · rw [h0 k hk, hg.block k (by simp; omega) hne]
    exact Below.heap_alloc _ _ _ hk
  · have h2 : Below B w (w.alloc (.cells #[.bool false] 4)) := (Below.refl _ _).alloc hB _
    have h3 : Below B w w1 := h2.grown hg (by simp; omega) hr
    exact h3.setCell (by simpa using hB) _

theorem errV_cases (l : List (Nat × Int × Int)) (t : Option Int) : errV l t = .nilIface ∨ (∃ m, errV l t = .iface 30 (.int .i64 m)) ∨ ∃ b, errV l t = .iface 80 (.pointer (some ⟨b, 0, none⟩)) := by
  match l, t with
  | [], none => exact .inl rfl
  | [], some m => exact .inr (.inl ⟨m, rfl⟩)
  | (b, _, _) :: _, _ => exact .inr (.inr ⟨b, rfl⟩)

theorem enters40 (args : Array Value) (w : World) : (callFunc 47 args).run Tryd.prog w = .ok (.enter 47 args) w :=
  enters Tryd.func47 (by kernel_rfl) rfl args w

theorem ends_any (B : Nat) (l : List (Nat × Int × Int)) (t : Option Int) (w : World) (hl : l.length ≤ 1000000) (hB : B ≤ w.heap.size) (hin : ErrIn w t B l) :
    Calls Tryd.prog 41 #[errV l t] w fun e w' => e = .returned (.bool true) ∧ Below w.heap.size w w' := by
  have hmf : ∀ (fn : Fn) (first cap : Array Value) (w : World), (Instr.makeFunc fn first cap).run Tryd.prog w = .ok (.func fn first cap) w := fun _ _ _ _ => rfl
  have hb : Below w.heap.size w ((w.alloc (.cells #[errV l t] 25)).alloc (.cells #[.bool false] 4)) := ((Below.refl _ _).alloc (Nat.le_refl _) _).alloc (by simp) _
  have h1 := ends1 w.heap.size B l t ((w.alloc (.cells #[errV l t] 25)).alloc (.cells #[.bool false] 4)) hl (by simp; omega) hB
    (hin.below hb hB) (by rw [Below.heap_alloc _ _ _ (by simp)]; show (w.heap.push _)[w.heap.size]? = _; simp)
  have h2 := safely_of 47 #[.pointer (some ⟨w.heap.size, 0, none⟩)] (w.alloc (.cells #[errV l t] 25)) (some w.heap.size) (fun r _ => r = true)
    (fun k hk => by cases hk; simp) enters40 h1
  have H := Lib.hid h2
  clear h1 h2 hb hin
  have hv := errV_cases l t
  generalize errV l t = v at *
  rcases hv with rfl | ⟨m, rfl⟩ | ⟨b, rfl⟩
  all_goals
  go_enter Tryd.func41, Tryd.ntmps41
  go_wp2_with fail
  refine H.out.mono ?_
  rintro e w' h
  obtain ⟨r, w1, rfl, hR, -, -, hbel⟩ := h.take
  obtain rfl : r = true := hR
  have hb2 := Lib.hid (((Below.refl w.heap.size w).alloc (Nat.le_refl _) (.cells #[_] 25)).trans (hbel w.heap.size (by simp) (fun k hk => by cases hk; exact Nat.le_refl _)))
  clear h hbel
  go_wp2_with fail
  go_ret
  exact ⟨rfl, hb2.out⟩
end Go.Proofs.YtabndibenffngaaDoor
