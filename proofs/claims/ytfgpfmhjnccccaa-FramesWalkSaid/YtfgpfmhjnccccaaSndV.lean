/- Contracts of sound's owner and neighbours. Conditions: the tables are allowed. -/
import Derived.Test.YtfgpfmhjnccccaaSndU
import Derived.Test.YtfgpfmhjnccccaaSndN
import Derived.Test.YtfgpfmhjnccccaaSndRf
import Derived.Deep.OwnRows
namespace Go.Proofs.Ytfgpfmhjnccccaa
open Go.RowKit
set_option maxRecDepth 100000

/-- What tables that are allowed say of a route's ends. -/
theorem ends_of {c : TableP.Cfg} (h : SndP.Allowed c) {r : TableP.Route} (hr : r ∈ c.routes) :
    ∃ s d : Nat, r = ⟨(s : Int), (d : Int)⟩ ∧ ∃ pa pb, c.ports[s]? = some pa ∧ c.ports[d]? = some pb ∧ ∃ a b : Nat, pa.part = (a : Int) ∧ pb.part = (b : Int) ∧ a < c.parts.length ∧ b < c.parts.length ∧ RchP.edge c.ports r = (a, b) := by
  obtain ⟨h1, h2⟩ := h.route r hr
  unfold TableP.up at h1 h2
  obtain ⟨src, dst⟩ := r
  simp only at h1 h2
  obtain ⟨s, rfl⟩ := Int.eq_ofNat_of_zero_le h1.1
  obtain ⟨d, rfl⟩ := Int.eq_ofNat_of_zero_le h2.1
  have hs : s < c.ports.length := by omega
  have hd : d < c.ports.length := by omega
  have ea := List.getElem?_eq_getElem hs
  have eb := List.getElem?_eq_getElem hd
  have pa := (h.port _ (List.getElem_mem hs)).1
  have pb := (h.port _ (List.getElem_mem hd)).1
  unfold TableP.up at pa pb
  obtain ⟨a, ha⟩ := Int.eq_ofNat_of_zero_le pa.1
  obtain ⟨b, hb⟩ := Int.eq_ofNat_of_zero_le pb.1
  refine ⟨s, d, rfl, _, _, ea, eb, a, b, ha, hb, by omega, by omega, ?_⟩
  simp only [RchP.edge, RchP.partN, Int.toNat_natCast, ea, eb, ha, hb]

theorem infoL : (Try.prog.info? 34).map (fun i => (i.zero, i.size, i.bytes)) = some (some (.slice none 0 0), 1, 24) := by kernel_rfl
theorem own_tag {w : World} {B B' e e' size size' n n' : Nat} {v v' : Value} {xs xs' : List Value} (h : w.ownsRow B e size v n xs) (h' : w.ownsRow B' e' size' v' n' xs') (hne : e ≠ e') (q : Nat) (hq : v.ownBlock = some q) : v'.ownBlock ≠ some q := fun hq' => by
  rcases h.2 with ⟨rfl, -⟩ | ⟨g, cap, cur, rfl, -, hg, -⟩
  · simp [Value.ownBlock] at hq
  · rcases h'.2 with ⟨rfl, -⟩ | ⟨g', cap', cur', rfl, -, hg', -⟩
    · simp [Value.ownBlock] at hq'
    · simp [Value.ownBlock] at hq hq'
      subst hq hq'
      rw [hg] at hg'
      simp at hg'
      exact hne hg'.2
/-- A slice of slices of indices, each with rows of its own. -/
def NbrIn (B g n : Nat) (E : List (Nat × Nat)) (W : World) : Prop :=
  ∃ vs : List Value, vs.length = n ∧ W.ownsRow B 34 1 (.slice (some ⟨g, 0, none⟩) n n) n vs ∧
    (∀ (f : Nat) u, vs[f]? = some u → W.ownsRow B 3 1 u (RchP.nbr E f).length (idxV (RchP.nbr E f))) ∧
    (∀ (f f' : Nat) u u' q, f ≠ f' → vs[f]? = some u → vs[f']? = some u' → u.ownBlock = some q → u'.ownBlock ≠ some q)
theorem NbrIn.keep {B g n : Nat} {E : List (Nat × Nat)} {W W' : World} (h : NbrIn B g n E W) (hb : Below W.heap.size W W') : NbrIn B g n E W' := by
  obtain ⟨vs, h1, h2, h3, h4⟩ := h
  exact ⟨vs, h1, own_keep h2 hb, fun f u hu => own_keep (h3 f u hu) hb, h4⟩
theorem NbrIn.start {B n : Nat} {W : World} (hB : B ≤ W.heap.size) (hn : n ≤ 12) : NbrIn B W.heap.size n [] (W.alloc (.cells (madeCells #[.slice none 0 0] n) 34)) := by
  refine ⟨List.replicate n (.slice none 0 0), by simp, ?_, fun f u hu => ?_, fun f f' u u' q _ hu _ hq => ?_⟩
  · have h1 := World.ownsRow_lit (e := 34) (size := 1) (base := B) W (madeCells #[.slice none 0 0] n) n hB (by unfold maxLen; omega) (by have := congrArg List.length (toList_madeCells_one (.slice none 0 0) n); simpa using this)
    rw [toList_madeCells_one] at h1
    exact h1
  · rw [List.getElem?_replicate] at hu
    split at hu
    · cases hu; exact World.ownsRow_nil _ _ _ _
    · cases hu
  · rw [List.getElem?_replicate] at hu
    split at hu
    · cases hu; simp [Value.ownBlock] at hq
    · cases hu
/-- One edge more: the row that grew, and its slice laid back. -/
theorem NbrIn.more {B g n : Nat} {E : List (Nat × Nat)} {W W1 : World} (h : NbrIn B g n E W) {a b : Nat} {u v : Value} (hu : W.cell? ⟨g, a, none⟩ = some u) (han : a < n)
    (ho : W1.ownsRow B 3 1 v ((RchP.nbr E a).length + 1) (idxV (RchP.nbr E a) ++ [.int .i64 (b : Nat)])) (ha : Apart (fun q => u.ownBlock = some q) W W1) (hw : v.ownBlock = u.ownBlock ∨ ∃ N, v.ownBlock = some N ∧ W.heap.size ≤ N) :
    NbrIn B g n (E ++ [(a, b)]) (W1.setCell ⟨g, a, none⟩ v) := by
  obtain ⟨vs, h1, h2, h3, h4⟩ := h
  have hvs : vs[a]? = some u := by rw [← h2.cellAt a (by omega)]; exact hu
  have hua := h3 a u hvs
  have hgu : ∀ q, u.ownBlock = some q → q ≠ g := fun q hq e => own_tag hua h2 (by decide) q hq (by rw [e]; rfl)
  have h2b := own_apart h2 ha (fun q hq e => by
    simp only [Value.ownBlock, Option.some.injEq] at hq
    exact hgu q e hq.symm)
  have hs := h2b.stored a v
  have hset : Apart (fun q => q = g) W1 (W1.setCell ⟨g, a, none⟩ v) := Apart.setCell (F := fun q => q = g) (Apart.refl _ W1) (p := ⟨g, a, none⟩) (.inl rfl) v
  refine ⟨vs.set a v, by simp [h1], hs.1, fun f z hz => ?_, fun f f' z z' q hff hz hz' hq => ?_⟩
  · by_cases hfa : a = f
    · subst hfa
      rw [List.getElem?_set_self (by omega)] at hz
      cases hz
      rw [RchP.nbr_snoc, if_pos rfl]
      have e1 : (RchP.nbr E a ++ [b]).length = (RchP.nbr E a).length + 1 := by simp
      have e2 : idxV (RchP.nbr E a ++ [b]) = idxV (RchP.nbr E a) ++ [.int .i64 (b : Nat)] := by simp [idxV]
      rw [e1, e2]
      exact own_apart ho hset (fun q hq e => own_tag ho h2b (by decide) q hq (by rw [e]; rfl))
    · rw [List.getElem?_set_ne hfa] at hz
      rw [RchP.nbr_snoc, if_neg hfa]
      have h5 := h3 f z hz
      have h6 := own_apart h5 ha (fun q hq e => h4 f a z u q (Ne.symm hfa) hz hvs hq e)
      exact own_apart h6 hset (fun q hq e => own_tag h6 h2b (by decide) q hq (by rw [e]; rfl))
  · have key : ∀ (k : Nat) y r, a ≠ k → vs[k]? = some y → y.ownBlock = some r → v.ownBlock ≠ some r := fun k y r hk hy hr hv => by
      rcases hw with hw | ⟨N, hN, hle⟩
      · rw [hw] at hv
        exact h4 a k u y r hk hvs hy hv hr
      · rw [hN] at hv
        cases hv
        have := ((h3 k y hy).lt r hr).2
        omega
    by_cases hfa : a = f
    · subst hfa
      rw [List.getElem?_set_self (by omega)] at hz
      cases hz
      rw [List.getElem?_set_ne hff] at hz'
      intro hq'
      exact key f' z' q hff hz' hq' hq
    · rw [List.getElem?_set_ne hfa] at hz
      by_cases hfa' : a = f'
      · subst hfa'
        rw [List.getElem?_set_self (by omega)] at hz'
        cases hz'
        exact key f z q hfa hz hq
      · rw [List.getElem?_set_ne hfa'] at hz'
        exact h4 f f' z z' q hff hz hz' hq
theorem NbrIn.cell {B g n : Nat} {E : List (Nat × Nat)} {W : World} (h : NbrIn B g n E W) {f : Nat} (hf : f < n) :
    ∃ A c, W.cell? ⟨g, f, none⟩ = some (.slice A (RchP.nbr E f).length c) ∧ W.ownsRow B 3 1 (.slice A (RchP.nbr E f).length c) (RchP.nbr E f).length (idxV (RchP.nbr E f)) := by
  obtain ⟨vs, h1, h2, h3, -⟩ := h
  obtain ⟨u, hu⟩ : ∃ u, vs[f]? = some u := ⟨_, List.getElem?_eq_getElem (by omega)⟩
  have ho := h3 f u hu
  obtain ⟨A, c, rfl, -⟩ := own_slice ho
  exact ⟨A, c, by rw [h2.cellAt f (by omega)]; exact hu, ho⟩
theorem NbrIn.free {B g n : Nat} {E : List (Nat × Nat)} {W : World} (h : NbrIn B g n E W) (f : Nat) : W.frozen? ⟨g, f, none⟩ = false := by
  obtain ⟨vs, h1, h2, -⟩ := h
  exact h2.frozenAt f
theorem NbrIn.lt {B g n : Nat} {E : List (Nat × Nat)} {W : World} (h : NbrIn B g n E W) : B ≤ g ∧ g < W.heap.size := by
  obtain ⟨vs, h1, h2, -⟩ := h
  exact h2.lt g (by simp [Value.ownBlock])

theorem NbrIn.apart_cell {B g n : Nat} {E : List (Nat × Nat)} {W W1 : World} (h : NbrIn B g n E W) {a : Nat} {u : Value} (hu : W.cell? ⟨g, a, none⟩ = some u) (han : a < n) (ha : Apart (fun q => u.ownBlock = some q) W W1) :
    W1.cell? ⟨g, a, none⟩ = some u ∧ W1.frozen? ⟨g, a, none⟩ = false := by
  obtain ⟨vs, h1, h2, h3, -⟩ := h
  have hvs : vs[a]? = some u := by rw [← h2.cellAt a (by omega)]; exact hu
  have h2b := own_apart h2 ha (fun q hq e => by
    simp only [Value.ownBlock, Option.some.injEq] at hq
    exact own_tag (h3 a u hvs) h2 (by decide) q e (by rw [← hq]; rfl))
  exact ⟨by rw [h2b.cellAt a (by omega)]; exact hvs, h2b.frozenAt a⟩
/-- What neighbours answers. -/
def NbrPost (n : Nat) (E : List (Nat × Nat)) (w : World) (e : Ending) (w' : World) : Prop := ∃ g, e = .returned (.slice (some ⟨g, 0, none⟩) n n) ∧ NbrIn (w.heap.size + 1) g n E w' ∧ Below w.heap.size w w'
def NbR (w : World) (x : CfgC) (g : Nat) (i : Value) (W : World) : Prop :=
  ∃ k, k ≤ x.rn ∧ i = .int .i64 (k : Nat) ∧ BoxS w x W ∧ NbrIn (boxC w x).heap.size g x.pn ((x.routes.take k).map (RchP.edge x.ports)) W

theorem nbr_round {w : World} {x : CfgC} {g n : Nat} {E : List (Nat × Nat)} {W W1 : World} {a b : Nat} {u v : Value} {m : Nat} {xs : List Value} (hB : BoxS w x W) (h : NbrIn (boxC w x).heap.size g n E W) (hu : W.cell? ⟨g, a, none⟩ = some u) (hou : W.ownsRow (boxC w x).heap.size 3 1 u m xs) (han : a < n)
    (ho : W1.ownsRow (boxC w x).heap.size 3 1 v ((RchP.nbr E a).length + 1) (idxV (RchP.nbr E a) ++ [.int .i64 (b : Nat)])) (ha : Apart (fun q => u.ownBlock = some q) W W1) (hw : v.ownBlock = u.ownBlock ∨ v.ownBlock = some W.heap.size) :
    BoxS w x (W1.setCell ⟨g, a, none⟩ v) ∧ NbrIn (boxC w x).heap.size g n (E ++ [(a, b)]) (W1.setCell ⟨g, a, none⟩ v) := by
  have hN := h.more hu han ho ha (hw.imp id fun h => ⟨_, h, Nat.le_refl _⟩)
  have h1 : BoxS w x W1 := Below.trans hB (ha.below hB.size (fun q hq => (hou.lt q hq).1))
  refine ⟨Below.trans h1 ((Apart.setCell (F := fun q => q = g) (Apart.refl _ W1) (p := ⟨g, a, none⟩) (.inl rfl) v).below h1.size (fun q hq => by rw [hq]; exact h.lt.1)), hN⟩

end Go.Proofs.Ytfgpfmhjnccccaa
