/- Plain: which of two entries of a heap goes ahead, and where the first of a place and those below it stands. No conditions beyond those that each states. -/
import Derived.Test.YtlijcfojokbdpaaQueP
namespace QueP

def cmpI (a b : Int) : Int := if a < b then -1 else if b < a then 1 else 0
def or3 (a b c : Int) : Int := if a ≠ 0 then a else if b ≠ 0 then b else c
def aheadB (a b : Ent) : Bool := decide (or3 (cmpI a.ev.at_ b.ev.at_) (cmpI a.ev.rank b.ev.rank) (cmpI a.n b.n) < 0)
theorem or3_neg (a b c : Int) : or3 a b c < 0 ↔ a < 0 ∨ a = 0 ∧ (b < 0 ∨ b = 0 ∧ c < 0) := by
  unfold or3
  by_cases h : a = 0
  · rw [if_neg (by simpa using h)]
    by_cases g : b = 0
    · rw [if_neg (by simpa using g)]; omega
    · rw [if_pos g]; omega
  · rw [if_pos h]; omega
theorem cmpI_neg (a b : Int) : cmpI a b < 0 ↔ a < b := by unfold cmpI; split <;> (try split) <;> omega
theorem cmpI_zero (a b : Int) : cmpI a b = 0 ↔ a = b := by unfold cmpI; split <;> (try split) <;> omega
theorem aheadB_iff (a b : Ent) : aheadB a b = true ↔ ¬ le b a := by
  unfold aheadB
  rw [decide_eq_true_iff, or3_neg, cmpI_neg, cmpI_zero, cmpI_neg, cmpI_zero, cmpI_neg]
  unfold le less
  omega
theorem aheadB_true {a b : Ent} (h : aheadB a b = true) : le a b := by
  rcases le_total a b with g | g
  · exact g
  · exact absurd g ((aheadB_iff a b).1 h)
theorem aheadB_false {a b : Ent} (h : aheadB a b = false) : le b a := by
  rcases le_total a b with g | g
  · by_cases c : le b a
    · exact c
    · rw [(aheadB_iff a b).2 c] at h; cases h
  · exact g

/-- Where the first stands of a place i and so many of those below it. -/
structure FirstAt (es : List Ent) (i k c : Nat) : Prop where
  isc : c = i ∨ (0 < c ∧ (c - 1) / 2 = i ∧ c < es.length)
  top : ∀ x z, es[i]? = some x → es[c]? = some z → le z x
  low : ∀ d y z, d < k → es[2 * i + 1 + d]? = some y → es[c]? = some z → le z y
theorem first_start (es : List Ent) (i : Nat) : FirstAt es i 0 i :=
  ⟨.inl rfl, fun x z hx hz => by rw [hx] at hz; cases hz; exact le_refl _, fun d y z hd => absurd hd (by omega)⟩
theorem first_yes {es : List Ent} {i k c : Nat} {p z : Ent} (h : FirstAt es i k c) (hk : k < 2) (hp : es[2 * i + 1 + k]? = some p) (hz : es[c]? = some z) (ha : aheadB p z = true) : FirstAt es i (k + 1) (2 * i + 1 + k) := by
  obtain ⟨h1, h2, h3⟩ := h
  have hl := aheadB_true ha
  refine ⟨.inr ⟨by omega, by omega, (List.getElem?_eq_some_iff.1 hp).1⟩, ?_, ?_⟩
  · intro x y hx hy
    rw [hp] at hy; cases hy
    exact le_trans _ _ _ hl (h2 x z hx hz)
  · intro d y u hd hy hu
    rw [hp] at hu; cases hu
    by_cases e : d = k
    · subst e; rw [hp] at hy; cases hy; exact le_refl _
    · exact le_trans _ _ _ hl (h3 d y z (by omega) hy hz)
theorem first_no {es : List Ent} {i k c : Nat} {p z : Ent} (h : FirstAt es i k c) (hp : es[2 * i + 1 + k]? = some p) (hz : es[c]? = some z) (ha : aheadB p z = false) : FirstAt es i (k + 1) c := by
  obtain ⟨h1, h2, h3⟩ := h
  refine ⟨h1, h2, ?_⟩
  intro d y u hd hy hu
  by_cases e : d = k
  · subst e; rw [hp] at hy; cases hy; rw [hz] at hu; cases hu; exact aheadB_false ha
  · exact h3 d y u (by omega) hy hu
theorem first_out {es : List Ent} {i k c : Nat} (h : FirstAt es i k c) (hp : es.length ≤ 2 * i + 1 + k) : FirstAt es i (k + 1) c := by
  obtain ⟨h1, h2, h3⟩ := h
  refine ⟨h1, h2, ?_⟩
  intro d y u hd hy hu
  by_cases e : d = k
  · subst e; have := (List.getElem?_eq_some_iff.1 hy).1; omega
  · exact h3 d y u (by omega) hy hu
/-- A heap but for its place i, where the first is i itself: a heap. -/
theorem first_stay {es : List Ent} {i : Nat} (h : FirstAt es i 2 i) (hd : DownAt le es i) : Heap le es := by
  cases hx : es[i]? with
  | none =>
    intro j hj
    by_cases e : (j - 1) / 2 = i
    · intro a b ha hb
      rw [e, hx] at ha; cases ha
    · exact hd.1 j hj e
  | some x =>
    refine down_end hd hx ?_
    intro d z hd0 hdi hz
    refine h.low (d - (2 * i + 1)) z x (by omega) ?_ hx
    rw [show 2 * i + 1 + (d - (2 * i + 1)) = d by omega]; exact hz
theorem first_go {es : List Ent} {i c : Nat} (h : FirstAt es i 2 c) (hne : c ≠ i) (hd : DownAt le es i) : i < c ∧ c < es.length ∧ ∀ x y, es[i]? = some x → es[c]? = some y → DownAt le ((es.set i y).set c x) c := by
  rcases h.isc with e | ⟨h1, h2, h3⟩
  · exact absurd e hne
  · refine ⟨by omega, h3, fun x y hx hy => down_step hd h1 h2 hx hy (h.top x y hx hy) ?_⟩
    intro d z hd0 hdi hz
    refine h.low (d - (2 * i + 1)) z y (by omega) ?_ hy
    rw [show 2 * i + 1 + (d - (2 * i + 1)) = d by omega]; exact hz
theorem down_zero (es : List Ent) (h : Heap le es) (z : Ent) : DownAt le ((es.take (es.length - 1)).set 0 z) 0 := down_new h z

theorem take_swap (es : List Ent) (a z : Ent) : ((es.set 0 z).set (es.length - 1) a).take (es.length - 1) = (es.take (es.length - 1)).set 0 z := by
  rw [List.take_set, List.take_set, List.set_eq_of_length_le]
  rw [List.length_set, List.length_take]
  omega
theorem take_perm {es : List Ent} {a z : Ent} (ha : es[0]? = some a) (hz : es[es.length - 1]? = some z) : (a :: (es.take (es.length - 1)).set 0 z).Perm es := by
  by_cases h2 : 2 ≤ es.length
  · exact perm_take h2 ha hz
  · match es, ha with
    | [b], ha => cases ha; exact List.Perm.refl _
    | b :: c :: t, _ => simp at h2
/-- Where the best of the first k stands. -/
def bestTo (want : List Ev) : Nat → Nat
  | 0 => 0
  | k + 1 => match want[bestTo want k]?, want[k]? with
    | some x, some y => if less y x then k else bestTo want k
    | _, _ => bestTo want k
theorem best_to (want : List Ev) (h : 0 < want.length) : ∀ k, k ≤ want.length → Best want k (bestTo want k)
  | 0, _ => best_none (List.getElem?_eq_getElem h)
  | k + 1, hk => by
    have hb := best_to want h k (by omega)
    obtain ⟨x, hx, -⟩ := id hb
    have hy := List.getElem?_eq_getElem (show k < want.length by omega)
    have e : bestTo want (k + 1) = if less want[k] x then k else bestTo want k := by rw [bestTo, hx, hy]
    rw [e]
    exact best_step hb hx hy
theorem best_succ {want : List Ev} {k : Nat} {x y : Ev} (hx : want[bestTo want k]? = some x) (hy : want[k]? = some y) : bestTo want (k + 1) = if less y x then k else bestTo want k := by rw [bestTo, hx, hy]
theorem best_in {want : List Ev} (h : 0 < want.length) {k : Nat} (hk : k ≤ want.length) : bestTo want k < want.length := by
  obtain ⟨x, hx, -⟩ := best_to want h k hk
  exact (List.getElem?_eq_some_iff.1 hx).1
theorem best_unique {want : List Ev} {b b' : Nat} (h : Best want want.length b) (h' : Best want want.length b') : b = b' := by
  obtain ⟨x, hx, h1, h2⟩ := h
  obtain ⟨y, hy, g1, g2⟩ := h'
  have lb := (List.getElem?_eq_some_iff.1 hx).1
  have lb' := (List.getElem?_eq_some_iff.1 hy).1
  rcases Nat.lt_trichotomy b b' with e | e | e
  · exact absurd (g2 b x e hx) (h1 b' y lb' hy)
  · exact e
  · exact absurd (h2 b' y e hy) (g1 b x lb hx)
end QueP
