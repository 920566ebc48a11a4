/- Plain: a node's windows one by one: whose a time is, the next change, what is left (chapter 17). Conditions: those that each states. -/
import Derived.Test.YtfgpfmhjnccccaaWinP
namespace Go.Proofs.Ytfgpfmhjnccccaa
namespace WinP
open TableP SndP OrdP

theorem part_fit {c : Cfg} (h : Works c) {k : Nat} {p : Part} (hp : c.parts[k]? = some p) : 0 ≤ p.start ∧ 1 ≤ p.length ∧ p.start + p.length ≤ 1000000000 := by
  have h1 := (works_fit h).start k p hp
  have h2 := h.allowed.part p (List.mem_of_getElem? hp)
  unfold partOk up at h2
  omega
theorem wins_fit {c : Cfg} (h : Works c) {node : Int} {i : Nat} {w : Win} (hw : (winsT c node)[i]? = some w) : 0 ≤ w.open_ ∧ w.open_ < w.close ∧ w.close ≤ 1000000000 ∧ w.part < c.parts.length := by
  obtain ⟨k, p, _, hp, _, rfl⟩ := wins_get hw
  have := part_fit h hp
  have hk := (List.getElem?_eq_some_iff.1 hp).1
  exact ⟨this.1, by show p.start < p.start + p.length; omega, this.2.2, hk⟩
theorem wins_length (c : Cfg) (node : Int) : (winsT c node).length ≤ c.parts.length := by rw [wins_len]; exact ord_len _ _
/-- No window holds a time. -/
theorem wat_none {c : Cfg} {node t : Int} (h : ∀ (i : Nat) (w : Win), (winsT c node)[i]? = some w → ¬ (w.open_ ≤ t ∧ t < w.close)) : atT c node t = -1 := by
  refine at_out fun k p hp hb => ?_
  obtain ⟨h1, h2, h3⟩ := inB_true.1 hb
  obtain ⟨i, hi⟩ := List.getElem?_of_mem (ord_mem.2 ⟨p, hp, h1⟩)
  exact h i _ (wins_get' hi hp) ⟨h2, h3⟩
def wchg (l : List Win) : List Int := l.flatMap (fun w => [w.open_, w.close])
theorem wchg_take {l : List Win} {k : Nat} {w : Win} (h : l[k]? = some w) : wchg (l.take (k + 1)) = wchg (l.take k) ++ [w.open_, w.close] := by
  rw [List.take_add_one, h]; simp [wchg]
theorem mem_wchg {c : Cfg} {node u : Int} : u ∈ wchg (winsT c node) ↔ u ∈ chg c.parts node := by
  unfold wchg
  rw [List.mem_flatMap, mem_chg]
  constructor
  · rintro ⟨w, hw, hu⟩
    obtain ⟨i, hi⟩ := List.getElem?_of_mem hw
    obtain ⟨k, p, _, hp, hn, rfl⟩ := wins_get hi
    exact ⟨k, p, hp, hn, by simpa using hu⟩
  · rintro ⟨k, p, hp, hn, hu⟩
    obtain ⟨i, hi⟩ := List.getElem?_of_mem (ord_mem.2 ⟨p, hp, hn⟩)
    exact ⟨_, List.mem_of_getElem? (wins_get' hi hp), by simpa using hu⟩
theorem wnext (c : Cfg) (node t : Int) : leastT t (wchg (winsT c node)) = nextT c node t := next_is (least_is t _) fun _ => mem_wchg
theorem leastT_two (t : Int) (l : List Int) (a b : Int) : leastT t (l ++ [a, b]) = better t (better t (leastT t l) a) b := by
  rw [show l ++ [a, b] = (l ++ [a]) ++ [b] by simp, least_snoc, least_snoc]
theorem next_step {c : Cfg} {node t : Int} {k : Nat} {p : Part} (h : c.parts[k]? = some p) : leastT t (chg (c.parts.take (k + 1)) node) = if p.node = node then better t (better t (leastT t (chg (c.parts.take k) node)) p.start) (p.start + p.length) else leastT t (chg (c.parts.take k) node) := by
  rw [chg_take h]
  split
  · exact leastT_two _ _ _ _
  · rw [List.append_nil]
theorem wnext_step {c : Cfg} {node t : Int} {k : Nat} {w : Win} (h : (winsT c node)[k]? = some w) : leastT t (wchg ((winsT c node).take (k + 1))) = better t (better t (leastT t (wchg ((winsT c node).take k))) w.open_) w.close := by
  rw [wchg_take h]; exact leastT_two _ _ _ _
/-- A test of the program: is a change better than what was found. -/
theorem better_no {t e : Int} {b : Option Int} (h : ¬ t < e) : better t b e = b := by unfold better; rw [if_neg (fun h1 => h h1.1)]
theorem better_none {t e : Int} (h : t < e) : better t none e = some e := by unfold better; rw [if_pos ⟨h, rfl⟩]
theorem better_less {t e v : Int} (h : t < e) (h1 : e < v) : better t (some v) e = some e := by unfold better; rw [if_pos ⟨h, decide_eq_true h1⟩]
theorem better_more {t e v : Int} (h1 : ¬ e < v) : better t (some v) e = some v := by unfold better; rw [if_neg (fun h2 => h1 (of_decide_eq_true h2.2))]
/-- What is found lies within the round. -/
def InR (b : Option Int) : Prop := ∀ v, b = some v → 0 ≤ v ∧ v ≤ 1000000000
theorem InR.better {t e : Int} {b : Option Int} (h : InR b) (he : 0 ≤ e ∧ e ≤ 1000000000) : InR (better t b e) := by
  unfold WinP.better
  split
  · intro v hv; rw [← Option.some.inj hv]; exact he
  · exact h
theorem wsum_take {c : Cfg} {node : Int} {k : Nat} {w : Win} (h : (winsT c node)[k]? = some w) : lenSum ((winsT c node).take (k + 1)) = lenSum ((winsT c node).take k) + (w.close - w.open_) := lenSum_take h
theorem round_fit {c : Cfg} (h : Works c) : 0 ≤ roundT c ∧ roundT c ≤ 1000000000 := by
  have h1 := (nums_in h.allowed.head).nodes
  have h2 := h.allowed.head
  unfold headOk up at h2
  have h3 : c.nodes * c.slot ≤ 7 * c.slot := Int.mul_le_mul_of_nonneg_right (by omega) (by omega)
  have h4 : 0 ≤ c.nodes * c.slot := Int.mul_nonneg (by omega) (by omega)
  unfold roundT
  omega
end WinP
end Go.Proofs.Ytfgpfmhjnccccaa
