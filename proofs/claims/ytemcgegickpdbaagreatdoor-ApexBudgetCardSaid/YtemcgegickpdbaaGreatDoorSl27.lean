/- Plain: what the budget's law says of a run. No conditions beyond those that each states. -/
import Derived.Test.YtemcgegickpdbaaGreatDoorSl01
namespace Go.Proofs.YtemcgegickpdbaaGreatDoor
namespace ApeP
open TableP
theorem costs_append (a b : List Op) : costs (a ++ b) = costs a + costs b := by simp [costs]
theorem costs_take_le (l : List Op) {i j : Nat} (h : i ≤ j) : costs (l.take i) ≤ costs (l.take j) := by
  have e : l.take j = l.take i ++ (l.take j).drop i := by
    conv => lhs; rw [← List.take_append_drop i (l.take j)]
    rw [List.take_take, Nat.min_eq_left h]
  rw [e, costs_append]
  have := costs_nonneg ((l.take j).drop i)
  omega
section
variable {ops : List Op} {left : Int} {g : Got}
/-- What was done ahead of a result that isn't the budget's end. -/
theorem Budget.done (h : Budget ops left g) {k : Nat} {r : Res} (hr : g.res[k]? = some r) (hc : r.code ≠ 151) : costs (ops.take (k + 1)) ≤ left := by
  have hk := (List.getElem?_eq_some_iff.1 hr).1
  by_cases hex : ∃ (j : Nat) (x : Res), g.res[j]? = some x ∧ x.code = 151
  · obtain ⟨j, x, hj, hx⟩ := hex
    obtain ⟨h1, h2, o, h3, h4, h5⟩ := h.each j x hj hx
    have hjk : k ≠ j := fun e => by subst e; rw [hj] at hr; obtain rfl := Option.some.inj hr; exact hc hx
    have := costs_take_le ops (show k + 1 ≤ j by omega)
    omega
  · have hw := h.whole (fun x hx e => by
      obtain ⟨j, hj⟩ := List.getElem?_of_mem hx
      exact hex ⟨j, x, hj, e⟩)
    have := costs_take_le ops (show k + 1 ≤ g.res.length by omega)
    have := h.low
    omega
theorem Budget.ahead (h : Budget ops left g) {k : Nat} (hk : k < g.res.length) : costs (ops.take k) ≤ left := by
  obtain ⟨r, hr⟩ : ∃ r, g.res[k]? = some r := ⟨_, List.getElem?_eq_getElem hk⟩
  by_cases hc : r.code = 151
  · obtain ⟨-, -, o, -, h4, -⟩ := h.each k r hr hc
    exact h4
  · have := h.done hr hc
    have := costs_take_le ops (show k ≤ k + 1 by omega)
    omega
end
def recB : List (List Nat) := [[1, 0, 0, 0], [0, 0, 0, 0]]
theorem calmB : Calm recB 0 1 := ⟨by decide, by decide, fun k h1 h2 => by
  have : k = 1 ∨ k = 2 ∨ k = 3 := by omega
  rcases this with rfl | rfl | rfl <;> decide⟩
/-- The law's run. -/
theorem budget_run (c : Cfg) (T : RepP.T) (ops : List Op) (b : Nat) (s : AS) (hl : s.ports.length = c.ports.length) (hm : s.mon = HeaP.Mon.start 2) :
    Budget ops b (runG (opP c 0 0 T) recB 0 0 1 ops b s) ∧
    (((∀ r ∈ (runG (opP c 0 0 T) recB 0 0 1 ops b s).res, r.code ≠ 151) ∧ (runG (opP c 0 0 T) recB 0 0 1 ops b s).res.length = ops.length ∧ (runG (opP c 0 0 T) recB 0 0 1 ops b s).did = 0) ∨
     ((∃ r ∈ (runG (opP c 0 0 T) recB 0 0 1 ops b s).res, r.code = 151) ∧ (runG (opP c 0 0 T) recB 0 0 1 ops b s).did = 1)) := by
  obtain ⟨e1, e2, e3, -⟩ := LikeA.run (c := c) (node := 0) (part := 0) (T := T) recB 1 ops (b : Int) s s (LikeA.refl hl)
  have eT := runT_G c 0 0 recB 1 T ops (b : Int) s
  rw [← eT] at e1 e2 e3
  have hb := run_budget (c := c) (node := ((0 : Nat) : Int)) (part := 0) (T := T) recB 1 ops (b : Int) s (by omega)
  refine ⟨⟨by rw [e1]; exact hb.len, by rw [e3]; exact hb.low, fun i r hr hc => ?_, fun hn => ?_⟩, ?_⟩
  · rw [e1] at hr ⊢
    rw [e3]
    exact hb.each i r hr hc
  · rw [e1] at hn ⊢
    rw [e3]
    exact hb.whole hn
  · rw [e1, e2]
    refine calm_run (c := c) (node := ((0 : Nat) : Int)) (part := 0) (T := T) (s := s) calmB (fun m h1 h2 => ?_) ops b s rfl rfl
    rw [hm] at h1 h2
    obtain ⟨ml, mr, mo⟩ := m
    simp only at h1 h2
    subst h1 h2
    rfl
end ApeP
end Go.Proofs.YtemcgegickpdbaaGreatDoor
