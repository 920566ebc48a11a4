/- Messages and records in rows that the call owns. Conditions: none beyond those that each states. -/
import Derived.Test.YtabndibenffngaaDoorFraA
import Derived.Test.YtabndibenffngaaDoorMem
import Derived.Test.YtabndibenffngaaDoorChecked
import Derived.KernelRfl
namespace Go.Proofs.YtabndibenffngaaDoor
open Go.RowKit

theorem infoR4 : (Tryd.prog.info? 69).map (fun i => (i.zero, i.size, i.bytes)) = some (some (.agg #[.int .u32 0, .int .u8 0, .int .u8 0, .int .u8 0, .int .u8 0]), 5, 8) := by kernel_rfl

def msgVals (l : List MsgC) : List Value := l.flatMap MsgC.vals
def recsVals (l : List FrameP.Rec) : List Value := l.flatMap recVals

theorem msgVals_length : ∀ (l : List MsgC), (msgVals l).length = l.length * 2
  | [] => rfl
  | x :: l => by
    have := msgVals_length l
    simp only [msgVals, List.flatMap_cons, List.length_append, List.length_cons] at this ⊢
    rw [this]
    simp [MsgC.vals]
    omega
theorem recsVals_length : ∀ (l : List FrameP.Rec), (recsVals l).length = l.length * 5
  | [] => rfl
  | x :: l => by
    have := recsVals_length l
    simp only [recsVals, List.flatMap_cons, List.length_append, List.length_cons] at this ⊢
    rw [this]
    simp [recVals]
    omega
theorem msgVals_append (l r : List MsgC) : msgVals (l ++ r) = msgVals l ++ msgVals r := by simp [msgVals]
theorem recsVals_append (l r : List FrameP.Rec) : recsVals (l ++ r) = recsVals l ++ recsVals r := by simp [recsVals]
theorem msgVals_one (l : List MsgC) : ∀ u ∈ msgVals l, u.oneCell' = true := by
  intro u hu
  simp only [msgVals, List.mem_flatMap, MsgC.vals] at hu
  obtain ⟨x, _, hx⟩ := hu
  simp only [List.mem_cons, List.not_mem_nil, or_false] at hx
  rcases hx with rfl | rfl <;> rfl
theorem recsVals_one (l : List FrameP.Rec) : ∀ u ∈ recsVals l, u.oneCell' = true := by
  intro u hu
  simp only [recsVals, List.mem_flatMap, recVals] at hu
  obtain ⟨x, _, hx⟩ := hu
  simp only [List.mem_cons, List.not_mem_nil, or_false] at hx
  rcases hx with rfl | rfl | rfl | rfl | rfl <;> rfl
theorem msgVals_at : ∀ (l : List MsgC) (i : Nat) (x : MsgC), l[i]? = some x → (msgVals l)[i * 2]? = some (.int .i64 x.port) ∧ (msgVals l)[i * 2 + 1]? = some (.slice x.A x.m x.cap)
  | [], i, x, h => by simp at h
  | y :: l, 0, x, h => by
    simp at h
    subst h
    exact ⟨rfl, rfl⟩
  | y :: l, i + 1, x, h => by
    have := msgVals_at l i x (by simpa using h)
    have e1 : (i + 1) * 2 = i * 2 + 2 := by omega
    have e2 : (i + 1) * 2 + 1 = i * 2 + 1 + 2 := by omega
    rw [e2, e1]
    exact this
theorem recsVals_at : ∀ (l : List FrameP.Rec) (i : Nat) (x : FrameP.Rec), l[i]? = some x → ∀ j, j < 5 → (recsVals l)[i * 5 + j]? = (recVals x)[j]?
  | [], i, x, h => by simp at h
  | y :: l, 0, x, h => by
    simp at h
    subst h
    intro j hj
    simp only [recsVals, List.flatMap_cons, Nat.zero_mul, Nat.zero_add]
    rw [List.getElem?_append_left (by simp [recVals]; omega)]
  | y :: l, i + 1, x, h => by
    intro j hj
    have := recsVals_at l i x (by simpa using h) j hj
    have e1 : (i + 1) * 5 + j = i * 5 + j + 5 := by omega
    rw [e1]
    exact this
theorem msgVals_set : ∀ (l : List MsgC) (k : Nat) (x : MsgC) (A : Option Addr) (m cap : Nat) (d : List UInt8), l[k]? = some x → (msgVals l).set (k * 2 + 1) (.slice A m cap) = msgVals (l.set k ⟨x.port, A, m, cap, d⟩)
  | [], k, x, _, _, _, _, h => by simp at h
  | y :: l, 0, x, _, _, _, _, h => by
    simp at h
    subst h
    rfl
  | y :: l, k + 1, x, A, m, cap, d, h => by
    have := msgVals_set l k x A m cap d (by simpa using h)
    have e1 : (k + 1) * 2 + 1 = k * 2 + 1 + 2 := by omega
    rw [e1]
    show y.vals ++ (msgVals l).set (k * 2 + 1) _ = y.vals ++ msgVals _
    rw [this]
theorem plain_set : ∀ (l : List MsgC) (k : Nat) (x : MsgC) (A : Option Addr) (m cap : Nat), l[k]? = some x → (l.set k ⟨x.port, A, m, cap, x.data⟩).map MsgC.plain = l.map MsgC.plain
  | [], k, x, _, _, _, h => by simp at h
  | y :: l, 0, x, _, _, _, h => by
    simp at h
    subst h
    rfl
  | y :: l, k + 1, x, A, m, cap, h => by
    have := plain_set l k x A m cap (by simpa using h)
    simpa using this

/-- The messages' cells, out of where they lie: to be appended. -/
theorem MsgsIn.news {W : World} {A : Option Addr} {l : List MsgC} (h : MsgsIn W A l) (hn : 0 < l.length) : ∃ ad, A = some ad ∧ ∀ j u, (msgVals l)[j]? = some u → W.cell? (ad.add j) = some u := by
  obtain ⟨b, off, rfl, _, hi⟩ := h hn
  refine ⟨_, rfl, fun j u hj => ?_⟩
  rw [addr_addB]
  have hlt : j < (msgVals l).length := (List.getElem?_eq_some_iff.1 hj).1
  rw [msgVals_length] at hlt
  have hx : l[j / 2]? = some (l[j / 2]'(by omega)) := List.getElem?_eq_getElem (by omega)
  obtain ⟨h1, h2⟩ := msgVals_at l (j / 2) _ hx
  have hat := hi _ _ hx
  rcases Nat.mod_two_eq_zero_or_one j with e | e
  · have ej : j = j / 2 * 2 := by omega
    rw [ej] at hj ⊢
    rw [h1] at hj
    injection hj with hj
    subst hj
    exact hat.port
  · have ej : j = j / 2 * 2 + 1 := by omega
    rw [ej] at hj ⊢
    rw [h2] at hj
    injection hj with hj
    subst hj
    exact hat.text
theorem RecsIn.news {W : World} {A : Option Addr} {l : List FrameP.Rec} (h : RecsIn W A l) (hn : 0 < l.length) : ∃ ad, A = some ad ∧ ∀ j u, (recsVals l)[j]? = some u → W.cell? (ad.add j) = some u := by
  obtain ⟨b, off, rfl, _, hi⟩ := h hn
  refine ⟨_, rfl, fun j u hj => ?_⟩
  rw [addr_addB]
  have hlt : j < (recsVals l).length := (List.getElem?_eq_some_iff.1 hj).1
  rw [recsVals_length] at hlt
  have hx : l[j / 5]? = some (l[j / 5]'(by omega)) := List.getElem?_eq_getElem (by omega)
  have h1 := recsVals_at l (j / 5) _ hx (j % 5) (by omega)
  have hat := hi _ _ hx
  have ej : j = j / 5 * 5 + j % 5 := by omega
  rw [ej] at hj ⊢
  rw [h1] at hj
  have hc : j % 5 = 0 ∨ j % 5 = 1 ∨ j % 5 = 2 ∨ j % 5 = 3 ∨ j % 5 = 4 := by omega
  rcases hc with e | e | e | e | e <;> rw [e] at hj ⊢ <;> injection hj with hj <;> subst hj
  · exact hat.round
  · exact hat.node
  · exact hat.part
  · exact hat.kind
  · exact hat.did

theorem RecsIn.own {W : World} {B : Nat} {v : Value} {l : List FrameP.Rec} (h : W.ownsRow B 69 5 v l.length (recsVals l)) : ∃ A cap, v = .slice A l.length cap ∧ l.length ≤ cap ∧ RecsIn W A l := by
  rcases h.2 with ⟨rfl, h0⟩ | ⟨g, cap, cur, rfl, hb, hg, hnc, _⟩
  · rw [h0]
    exact ⟨none, 0, rfl, Nat.le_refl _, fun hn => by omega⟩
  · refine ⟨_, cap, rfl, hnc, fun hn => ⟨g, 0, rfl, (Array.getElem?_eq_some_iff.1 hg).1, fun i x hx => ?_⟩⟩
    have hi : i < l.length := (List.getElem?_eq_some_iff.1 hx).1
    have h1 := recsVals_at l i x hx
    refine ⟨?_, ?_, ?_, ?_, ?_⟩
    · rw [Nat.zero_add, World.ownsRow.cellAt h _ (by omega)]
      exact h1 0 (by omega)
    · rw [Nat.zero_add, World.ownsRow.cellAt h _ (by omega)]
      exact h1 1 (by omega)
    · rw [Nat.zero_add, World.ownsRow.cellAt h _ (by omega)]
      exact h1 2 (by omega)
    · rw [Nat.zero_add, World.ownsRow.cellAt h _ (by omega)]
      exact h1 3 (by omega)
    · rw [Nat.zero_add, World.ownsRow.cellAt h _ (by omega)]
      exact h1 4 (by omega)
end Go.Proofs.YtabndibenffngaaDoor
