/- Contract of sound's Reach. Conditions: the tables are allowed. -/
import Derived.Test.YtfgpfmhjnccccaaSndV
import Derived.Test.YtfgpfmhjnccccaaSndY
import Derived.ArgAppend
import Derived.Deep.LoopGhost
namespace Go.Proofs.Ytfgpfmhjnccccaa
open Go.RowKit
set_option maxRecDepth 100000

/-- A slice of indices of the call's own, from somewhere in its block on. -/
def QRow (B : Nat) (v : Value) (l : List Nat) (W : World) : Prop :=
  ∃ (b off cap : Nat) (cur : Array Value), v = .slice (some ⟨b, off, none⟩) l.length cap ∧ B ≤ b ∧ W.heap[b]? = some (.cells cur 3 (0, 0)) ∧ l.length ≤ cap ∧ off + cap ≤ cur.size ∧ ∀ (j i : Nat), l[j]? = some i → cur[off + j]? = some (.int .i64 (i : Nat))
theorem QRow.keep {B : Nat} {v : Value} {l : List Nat} {W W' : World} (h : QRow B v l W) (hb : Below W.heap.size W W') : QRow B v l W' := by
  obtain ⟨b, off, cap, cur, h1, h2, h3, h4⟩ := h
  exact ⟨b, off, cap, cur, h1, h2, (hb.block b (lt_of_block h3)).trans h3, h4⟩
theorem QRow.set {B : Nat} {v : Value} {l : List Nat} {W : World} (h : QRow B v l W) {g k : Nat} (hg : g < B) (u : Value) : QRow B v l (W.setCell ⟨g, k, none⟩ u) := by
  obtain ⟨b, off, cap, cur, h1, h2, h3, h4⟩ := h
  exact ⟨b, off, cap, cur, h1, h2, (heap_setCell_other W ⟨g, k, none⟩ b u (fun e => by simp at e; omega)).trans h3, h4⟩
theorem QRow.start (B k : Nat) (W : World) (hB : B ≤ W.heap.size) : QRow B (.slice (some ⟨W.heap.size, 0, none⟩) 1 1) [k] (W.alloc (.cells #[.int .i64 (k : Nat)] 3)) := by
  refine ⟨W.heap.size, 0, 1, _, rfl, hB, heap_alloc_new W _, Nat.le_refl _, Nat.le_refl _, fun j i hj => ?_⟩
  match j, hj with
  | 0, hj => cases hj; rfl
theorem QRow.head {B : Nat} {v : Value} {f : Nat} {l : List Nat} {W : World} (h : QRow B v (f :: l) W) :
    ∃ b off cap, v = .slice (some ⟨b, off, none⟩) (l.length + 1) cap ∧ l.length + 1 ≤ cap ∧ W.cell? ⟨b, off, none⟩ = some (.int .i64 (f : Nat)) ∧ QRow B (.slice (some (if cap = 1 then ⟨b, off, none⟩ else ⟨b, off + 1, none⟩)) l.length (cap - 1)) l W := by
  obtain ⟨b, off, cap, cur, h1, h2, h3, h4, h5, h6⟩ := h
  refine ⟨b, off, cap, h1, h4, ?_, ?_⟩
  · rw [cell_of_row W b off cur _ (0, 0) h3]
    exact h6 0 f rfl
  · simp only [List.length_cons] at h4
    by_cases hc : cap = 1
    · have hl : l = [] := List.eq_nil_of_length_eq_zero (by omega)
      subst hl
      rw [if_pos hc]
      exact ⟨b, off, cap - 1, cur, rfl, h2, h3, by simp, by omega, fun j i hj => by simp at hj⟩
    · rw [if_neg hc]
      exact ⟨b, off + 1, cap - 1, cur, rfl, h2, h3, by omega, by omega, fun j i hj => by
        have := h6 (j + 1) i (by simpa using hj)
        rwa [show off + (j + 1) = off + 1 + j by omega] at this⟩
theorem QRow.nil {B : Nat} {v : Value} {W : World} (h : QRow B v [] W) : ∃ A cap, v = .slice A 0 cap := by
  obtain ⟨b, off, cap, cur, h1, -⟩ := h
  exact ⟨_, cap, h1⟩
theorem QRow.slice {B : Nat} {v : Value} {l : List Nat} {W : World} (h : QRow B v l W) : ∃ b off cap, v = .slice (some ⟨b, off, none⟩) l.length cap := by
  obtain ⟨b, off, cap, cur, h1, -⟩ := h
  exact ⟨b, off, cap, h1⟩

theorem wpList_append_q {w0 : World} {ops : Array Oper} {rest : List Oper} {o : Oper} {a : Act} {Q : Exit → Act → World → Prop} (hgd : o.guard = none) (s x : Operand)
    (ho : o.op = .call { callee := .builtin .append, args := #[s, x], argTypes := #[34, 34] }) (B : Nat) (v : Value) (l : List Nat) (hs : a.eval s = v) (hq : QRow B v l w0)
    (N c k : Nat) (hx : a.eval x = .slice (some ⟨N, 0, none⟩) 1 c) (hn : w0.cell? ⟨N, 0, none⟩ = some (.int .i64 (k : Nat))) (hl : l.length ≤ 1000) (hB : B ≤ w0.heap.size)
    (h : ∀ v' w', QRow B v' (l ++ [k]) w' → Apart (fun q => B ≤ q) w0 w' → wpList Try.prog ops Q rest (a.put o.dst v') w') : wpList Try.prog ops Q (o :: rest) a w0 := by
  obtain ⟨b, off, cap, cur, rfl, h2, h3, h4, h5, h6⟩ := hq
  obtain ⟨i, hi, hz, hsize, hby⟩ := info_parts infoI
  refine wpList_append_arg w0 hgd s x 34 ho 3 i (.int .i64 0) 1 8 Try.underlying34 hi hz hsize hby rfl (by omega) b off l.length cap (idxV l) hs (by simp [idxV]) (fun j u hj => ?_) ⟨N, 0, none⟩ 1 c [.int .i64 (k : Nat)] hx rfl (fun j u hj => ?_) (fun u hu => ?_) (fun hr j hj => ?_) (by unfold maxLen; omega) (by omega) (fun hr => ?_) (fun hr v' w' ho' hg' => ?_)
  · rw [cell_of_row w0 b (off + j) cur _ (0, 0) h3]
    simp only [idxV, List.getElem?_map, Option.map_eq_some_iff] at hj
    obtain ⟨y, hy, rfl⟩ := hj
    exact h6 j y hy
  · match j, hj with
    | 0, hj => cases hj; exact hn
  · rw [List.mem_singleton.1 hu]; rfl
  · have hj0 : j = 0 := by simp at hj; exact hj
    subst hj0
    refine ⟨?_, frozen_of_row w0 b _ cur _ h3⟩
    rw [cell_of_row w0 b _ cur _ (0, 0) h3, Array.getElem?_eq_getElem (show off + l.length * 1 + 0 < cur.size by omega)]
    rfl
  · have hN := heap_setCell_same w0 b (off + l.length * 1) cur 3 (.int .i64 (k : Nat)) h3
    have hA : Apart (fun q => B ≤ q) w0 (w0.setCell ⟨b, off + l.length * 1, none⟩ (.int .i64 (k : Nat))) := Apart.setCell (Apart.refl _ w0) (.inl h2) _
    have e1 : (l ++ [k]).length = l.length + 1 := by simp
    refine h _ (w0.setCells b (off + l.length * 1) [.int .i64 (k : Nat)]) ⟨b, off, cap, _, by rw [e1], h2, hN, by rw [e1]; omega, by simpa using h5, fun j y hj => ?_⟩ hA
    by_cases hjl : j < l.length
    · rw [List.getElem?_append_left hjl] at hj
      rw [Array.getElem?_setIfInBounds_ne (by omega)]
      exact h6 j y hj
    · have hj2 : j = l.length := by
        have := (List.getElem?_eq_some_iff.1 hj).1
        simp at this
        omega
      subst hj2
      rw [List.getElem?_append_right (Nat.le_refl _)] at hj
      simp at hj
      subst hj
      rw [show off + l.length * 1 = off + l.length by omega, Array.getElem?_setIfInBounds_self_of_lt (by omega)]
  · obtain ⟨g, cap', rfl, -, -⟩ := ho'.form (by omega)
    have ho2 := ho'
    have hA : Apart (fun q => B ≤ q) w0 w' := (Apart.refl _ w0).grown hg' (fun k hk => by cases hk)
    refine h _ w' ?_ hA
    rcases ho2.2 with ⟨h9, -⟩ | ⟨g2, cap2, cur2, h9, hb9, hg9, hn9, -, hs9, ht9⟩
    · cases h9
    · cases h9
      have e1 : (l ++ [k]).length = l.length + 1 := by simp
      refine ⟨g, 0, cap', cur2, by rw [e1], Nat.le_trans hB hb9, hg9, by rw [e1]; exact hn9, by omega, fun j y hj => ?_⟩
      have h10 : (idxV (l ++ [k]))[j]? = some (.int .i64 (y : Nat)) := idxV_get hj
      have e2 : idxV (l ++ [k]) = idxV l ++ [.int .i64 (k : Nat)] := by simp [idxV]
      rw [e2, ← ht9, List.getElem?_take] at h10
      split at h10
      · rw [Nat.zero_add]; simpa using h10
      · cases h10

/-- The rows of slices stay while one block that is not theirs is written, and new blocks are. -/
theorem NbrIn.apart {B g n : Nat} {E : List (Nat × Nat)} {W W' : World} (h : NbrIn B g n E W) {q : Nat} {B' m c : Nat} {xs : List Value} (hq : W.ownsRow B' 4 1 (.slice (some ⟨q, 0, none⟩) m c) m xs) (ha : Apart (fun k => k = q) W W') : NbrIn B g n E W' := by
  obtain ⟨vs, h1, h2, h3, h4⟩ := h
  exact ⟨vs, h1, own_apart h2 ha (fun k hk e => own_tag h2 hq (by decide) k hk (by rw [e]; rfl)), fun f u hu => own_apart (h3 f u hu) ha (fun k hk e => own_tag (h3 f u hu) hq (by decide) k hk (by rw [e]; rfl)), h4⟩
theorem NbrIn.far {B g n : Nat} {E : List (Nat × Nat)} {W W' : World} (h : NbrIn B g n E W) {q : Nat} {B' m c : Nat} {xs : List Value} (hq : W.ownsRow B' 4 1 (.slice (some ⟨q, 0, none⟩) m c) m xs) (ha : Apart (fun k => k = q) W W') {f : Nat} (hf : f < n) {u : Value} (hu : W.cell? ⟨g, f, none⟩ = some u) :
    W'.cell? ⟨g, f, none⟩ = some u ∧ W'.ownsRow B 3 1 u (RchP.nbr E f).length (idxV (RchP.nbr E f)) := by
  obtain ⟨vs, h1, h2, h3, h4⟩ := h
  have hvs : vs[f]? = some u := by rw [← h2.cellAt f (by omega)]; exact hu
  have h2' := own_apart h2 ha (fun k hk e => own_tag h2 hq (by decide) k hk (by rw [e]; rfl))
  exact ⟨by rw [h2'.cellAt f (by omega)]; exact hvs, own_apart (h3 f u hvs) ha (fun k hk e => own_tag (h3 f u hvs) hq (by decide) k hk (by rw [e]; rfl))⟩
/-- The state of the search. -/
structure RchS (w : World) (x : CfgC) (wN : World) (g : Nat) (v : Value) (l : List Nat) (bl : List Bool) (W : World) : Prop where
  ap : Apart (fun q => q = g) wN W
  seen : SeenS w x g x.pn bl W
  q : QRow wN.heap.size v l W
theorem RchS.step {w : World} {x : CfgC} {wN : World} {g : Nat} {v : Value} {l : List Nat} {bl : List Bool} {W W' : World} (h : RchS w x wN g v l bl W) (hb : Below W.heap.size W W') : RchS w x wN g v l bl W' :=
  ⟨h.ap.trans (Apart.of_below' (F := fun q => q = g) hb) (fun _ e => .inl e), h.seen.step hb, h.q.keep hb⟩
theorem RchS.mark {w : World} {x : CfgC} {wN : World} {g : Nat} {v : Value} {l : List Nat} {bl : List Bool} {W : World} (h : RchS w x wN g v l bl W) (hg : g < wN.heap.size) (k : Nat) : RchS w x wN g v l (bl.set k true) (W.setCell ⟨g, k, none⟩ (.bool true)) :=
  ⟨h.ap.trans (Apart.setCell (F := fun q => q = g) (Apart.refl _ W) (p := ⟨g, k, none⟩) (.inl rfl) (.bool true)) (fun _ e => .inl e), h.seen.stored k true, h.q.set hg _⟩
theorem RchS.more {w : World} {x : CfgC} {wN : World} {g : Nat} {v v' : Value} {l l' : List Nat} {bl : List Bool} {W W' : World} (h : RchS w x wN g v l bl W) (hg : g < wN.heap.size) (hq : QRow wN.heap.size v' l' W') (ha : Apart (fun q => wN.heap.size ≤ q) W W') : RchS w x wN g v' l' bl W' := by
  have hB : (boxC w x).heap.size ≤ wN.heap.size := by have := h.seen.lt; omega
  refine ⟨h.ap.trans ha (fun _ e => .inr e), ⟨Below.trans h.seen.1 (ha.below h.seen.1.size (fun q hq => by omega)), own_apart h.seen.2 ha (fun q hq e => ?_)⟩, hq⟩
  simp only [Value.ownBlock, Option.some.injEq] at hq
  omega
theorem RchS.swap {w : World} {x : CfgC} {wN : World} {g : Nat} {v v' : Value} {l l' : List Nat} {bl : List Bool} {W : World} (h : RchS w x wN g v l bl W) (hq : QRow wN.heap.size v' l' W) : RchS w x wN g v' l' bl W := ⟨h.ap, h.seen, hq⟩
/-- What Reach answers. -/
def ReachPost (n : Nat) (P : List Bool → Prop) (w : World) (e : Ending) (w' : World) : Prop := ∃ g bl, e = .returned (.slice (some ⟨g, 0, none⟩) n n) ∧ bl.length = n ∧ P bl ∧ w'.ownsRow (w.heap.size + 1) 4 1 (.slice (some ⟨g, 0, none⟩) n n) n (bitV bl) ∧ Below w.heap.size w w'
def InW (w : World) (x : CfgC) (wN : World) (g : Nat) (E : List (Nat × Nat)) (a f G : Nat) (v j : Value) (W : World) : Prop :=
  ∃ (m : Nat) (bl : List Bool) (l : List Nat), m ≤ (RchP.nbr E f).length ∧ j = .int .i64 (m : Nat) ∧ RchS w x wN g v l bl W ∧ RchP.Wave E a bl l (fun k => k = f) ∧ bl[f]? = some true ∧ (∀ c ∈ (RchP.nbr E f).take m, bl[c]? = some true) ∧ 2 * RchP.bare bl + l.length ≤ G ∧ bl.length = x.pn
def OutW (w : World) (x : CfgC) (wN : World) (g : Nat) (E : List (Nat × Nat)) (a : Nat) (G : Nat) (v : Value) (W : World) : Prop :=
  ∃ (bl : List Bool) (l : List Nat), RchS w x wN g v l bl W ∧ RchP.Wave E a bl l (fun _ => False) ∧ 2 * RchP.bare bl + l.length ≤ G ∧ bl.length = x.pn ∧ 2 * RchP.bare bl + l.length ≤ 2 * x.pn
end Go.Proofs.Ytfgpfmhjnccccaa
