/- Plain: what is wrong with tables; reading an image, with its errors. No conditions. -/
import Derived.Test.YtodkcenoljpgoaaTabQ
import Derived.Test.YtodkcenoljpgoaaFraQ
namespace Go.Proofs.Ytodkcenoljpgoaa.TableP
open WireP FrameP

def up (x lo hi : Int) : Prop := lo ≤ x ∧ x ≤ hi
instance (x lo hi : Int) : Decidable (up x lo hi) := by unfold up; exact inferInstance

def headOk (c : Cfg) : Prop := up c.nodes 1 7 ∧ up c.faulty 0 2 ∧ up c.slot 1 16777216 ∧ up c.gap 0 16777216 ∧ up c.rho 0 200 ∧ up c.dmax 0 1048576 ∧ up c.dmin 0 c.dmax ∧ up c.margin 0 16777216
instance (c : Cfg) : Decidable (headOk c) := by unfold headOk; exact inferInstance
def partOk (nodes : Int) (p : Part) : Prop := up p.node 0 (nodes - 1) ∧ up p.start 0 268435456 ∧ up p.length 1 268435456 ∧ up p.budget 0 64 ∧ up p.words 0 16 ∧ p.r0 ≤ 3 ∧ p.r1 ≤ 3 ∧ p.r2 ≤ 3 ∧ p.r3 ≤ 3
instance (n : Int) (p : Part) : Decidable (partOk n p) := by unfold partOk; exact inferInstance
def portOk (np : Nat) (p : Port) : Prop :=
  up p.part 0 ((np : Int) - 1) ∧ up p.size 0 16 ∧ ((p.kind = 1 ∧ p.depth = 0 ∧ up p.fresh 0 8 ∧ ¬ (p.out = true ∧ p.fresh ≠ 0)) ∨ (p.kind = 2 ∧ up p.depth 1 4 ∧ p.fresh = 0))
instance (n : Nat) (p : Port) : Decidable (portOk n p) := by unfold portOk; exact inferInstance
def routeOk (nq : Nat) (p : Route) : Prop := up p.src 0 ((nq : Int) - 1) ∧ up p.dst 0 ((nq : Int) - 1)
instance (n : Nat) (p : Route) : Decidable (routeOk n p) := by unfold routeOk; exact inferInstance

/-- The first of a list with which something is wrong. -/
def first {α : Type} (ok : α → Prop) [DecidablePred ok] (code : Nat) : Nat → List α → Option Wrong
  | _, [] => none
  | i, x :: r => if ok x then first ok code (i + 1) r else some (code, (i : Int))
theorem first_none {α : Type} {ok : α → Prop} [DecidablePred ok] {code : Nat} : ∀ {l : List α} {i : Nat}, first ok code i l = none → ∀ x ∈ l, ok x
  | [], _, _ => by simp
  | x :: r, i, h => by
    unfold first at h
    by_cases h1 : ok x
    · rw [if_pos h1] at h
      intro y hy
      rcases List.mem_cons.1 hy with rfl | hy
      · exact h1
      · exact first_none h y hy
    · rw [if_neg h1] at h; cases h
theorem first_some {α : Type} {ok : α → Prop} [DecidablePred ok] {code : Nat} : ∀ {l : List α} {i c : Nat} {p : Int}, first ok code i l = some (c, p) → c = code ∧ (i : Int) ≤ p ∧ p < i + l.length
  | [], _, _, _, h => by cases h
  | x :: r, i, c, p, h => by
    unfold first at h
    by_cases h1 : ok x
    · rw [if_pos h1] at h
      obtain ⟨h2, h3, h4⟩ := first_some h
      simp at h3 h4 ⊢
      exact ⟨h2, by omega, by omega⟩
    · rw [if_neg h1] at h
      injection h with h; injection h with h3 h4
      subst h3 h4
      simp; omega

def chk (c : Cfg) : Option Wrong :=
  if headOk c then
    if 12 < c.parts.length ∨ 24 < c.ports.length ∨ 24 < c.routes.length then some (3, -1)
    else match first (partOk c.nodes) 2 0 c.parts with
      | some e => some e
      | none => match first (portOk c.parts.length) 8 0 c.ports with
        | some e => some e
        | none => first (routeOk c.ports.length) 72 0 c.routes
  else some (2, -1)

/-- What the types of the fields say. -/
def Typed (c : Cfg) : Prop := (∀ p ∈ c.parts, p.r0 < 256 ∧ p.r1 < 256 ∧ p.r2 < 256 ∧ p.r3 < 256) ∧ ∀ p ∈ c.ports, p.kind < 256

theorem chk_fits {c : Cfg} (h : chk c = none) : Fits c ∧ c.parts.length ≤ 12 ∧ c.ports.length ≤ 24 ∧ c.routes.length ≤ 24 := by
  unfold chk at h
  by_cases h1 : headOk c
  · rw [if_pos h1] at h
    by_cases h2 : 12 < c.parts.length ∨ 24 < c.ports.length ∨ 24 < c.routes.length
    · rw [if_pos h2] at h; cases h
    · rw [if_neg h2] at h
      cases h3 : first (partOk c.nodes) 2 0 c.parts with
      | some e => rw [h3] at h; cases h
      | none =>
        rw [h3] at h
        cases h4 : first (portOk c.parts.length) 8 0 c.ports with
        | some e => simp only [h4] at h; cases h
        | none =>
          simp only [h4] at h
          obtain ⟨⟨a1, a2⟩, ⟨b1, b2⟩, ⟨c1, c2⟩, ⟨d1, d2⟩, ⟨e1, e2⟩, ⟨f1, f2⟩, ⟨g1, g2⟩, ⟨i1, i2⟩⟩ := h1
          refine ⟨⟨⟨by omega, by omega⟩, ⟨by omega, by omega⟩, ⟨by omega, by omega⟩, ⟨by omega, by omega⟩, ⟨by omega, by omega⟩, ⟨by omega, by omega⟩, ⟨by omega, by omega⟩, ⟨by omega, by omega⟩, by omega, by omega, by omega, ?_, ?_, ?_⟩, by omega, by omega, by omega⟩
          · intro p hp
            obtain ⟨⟨p1, p2⟩, ⟨q1, q2⟩, ⟨r1, r2⟩, ⟨s1, s2⟩, ⟨t1, t2⟩, u0, u1, u2, u3⟩ := first_none h3 p hp
            exact ⟨⟨by omega, by omega⟩, ⟨by omega, by omega⟩, ⟨by omega, by omega⟩, ⟨by omega, by omega⟩, ⟨by omega, by omega⟩, by omega, by omega, by omega, by omega⟩
          · intro p hp
            obtain ⟨⟨p1, p2⟩, ⟨q1, q2⟩, hk⟩ := first_none h4 p hp
            rcases hk with ⟨k1, k2, ⟨k3, k4⟩, -⟩ | ⟨k1, ⟨k2, k3⟩, k4⟩
            · exact ⟨⟨by omega, by omega⟩, by omega, ⟨by omega, by omega⟩, ⟨by omega, by omega⟩, ⟨by omega, by omega⟩⟩
            · exact ⟨⟨by omega, by omega⟩, by omega, ⟨by omega, by omega⟩, ⟨by omega, by omega⟩, ⟨by omega, by omega⟩⟩
          · intro p hp
            obtain ⟨⟨p1, p2⟩, ⟨q1, q2⟩⟩ := first_none h p hp
            exact ⟨⟨by omega, by omega⟩, ⟨by omega, by omega⟩⟩
  · rw [if_neg h1] at h; cases h

/-- What is told of an image: tables; or where its reading ended, and what was wrong. -/
def dec (l : List UInt8) : Cfg ⊕ (Nat × Wrong) :=
  if (take l 0 false 4).short = false ∧ (take l 0 false 4).n ≠ magic then .inr ((take l 0 false 4).at_, (7, 0))
  else match rawT l (take l 0 false 4).at_ (take l 0 false 4).short with
    | .inr (b, i) => .inr (b, (8, (i : Int)))
    | .inl (c, b, s) =>
      if s then .inr (b, (4, (b : Int)))
      else if b < l.length then .inr (b, (5, (b : Int)))
      else match chk c with
        | some e => .inr (b, e)
        | none => .inl c

theorem dec_enc {c : Cfg} (hc : chk c = none) : dec (enc c) = .inl c := by
  have hf := (chk_fits hc).1
  have h1 := enc_head c []
  have h2 := rawT_enc c [] hf
  rw [List.append_nil] at h1 h2
  unfold dec
  rw [h1]
  rw [if_neg (fun h => h.2 rfl)]
  simp only [h2, Bool.false_eq_true, if_false]
  rw [if_neg (Nat.lt_irrefl _)]
  simp only [hc]

theorem dec_ok {l : List UInt8} {c : Cfg} (h : dec l = .inl c) : l = enc c ∧ chk c = none ∧ Fits c := by
  unfold dec at h
  generalize e0 : take l 0 false 4 = m at h
  by_cases h1 : m.short = false ∧ m.n ≠ magic
  · rw [if_pos h1] at h; cases h
  · rw [if_neg h1] at h
    cases h2 : rawT l m.at_ m.short with
    | inr e => obtain ⟨e1, e2⟩ := e; simp only [h2] at h; cases h
    | inl q =>
      obtain ⟨c', b, s⟩ := q
      simp only [h2] at h
      cases s with
      | true => simp at h
      | false =>
        simp only [Bool.false_eq_true, if_false] at h
        by_cases h3 : b < l.length
        · rw [if_pos h3] at h; cases h
        · rw [if_neg h3] at h
          cases h4 : chk c' with
          | some e => simp only [h4] at h; cases h
          | none =>
            simp only [h4] at h
            have h5 := Sum.inl.inj h
            subst h5
            obtain ⟨g0, d1, hf⟩ := rawT_inv h2
            obtain ⟨_, d0, _⟩ := inv4 e0 g0
            have hm : m.n = magic := Classical.byContradiction fun hn => h1 ⟨g0, hn⟩
            have e : l.drop b = [] := List.drop_of_length_le (by omega)
            rw [e, List.append_nil] at d1
            rw [d1, hm] at d0
            exact ⟨d0, h4, hf⟩
theorem dec_cut {c : Cfg} (hf : Fits c) {n : Nat} (hn : n < (enc c).length) : ∃ e, dec ((enc c).take n) = .inr e := by
  cases h : dec ((enc c).take n) with
  | inr e => exact ⟨e, rfl⟩
  | inl g =>
    obtain ⟨h1, _, h3⟩ := dec_ok h
    have h4 : enc c = enc g ++ (enc c).drop n := by rw [← h1, List.take_append_drop]
    have h5 := enc_prefix hf h3 h4
    have h6 := congrArg List.length h5
    rw [List.length_drop, List.length_nil] at h6
    exact absurd h6 (by omega)
theorem dec_more {c : Cfg} (hf : Fits c) (r : List UInt8) (hr : r ≠ []) : ∃ e, dec (enc c ++ r) = .inr e := by
  cases h : dec (enc c ++ r) with
  | inr e => exact ⟨e, rfl⟩
  | inl g =>
    obtain ⟨h1, _, h3⟩ := dec_ok h
    exact absurd (enc_prefix h3 hf h1.symm) hr

theorem partsB_length : ∀ (ps : List Part), (partsB ps).length = 15 * ps.length
  | [] => rfl
  | p :: r => by
    have h1 := partsB_length r
    simp [partsB, partB, num_length, inum_length, h1]
    omega
theorem portsB_length : ∀ (ps : List Port), (portsB ps).length = 6 * ps.length
  | [] => rfl
  | p :: r => by
    have h1 := portsB_length r
    simp [portsB, portB, num_length, inum_length, h1]
    omega
theorem routesB_length : ∀ (ps : List Route), (routesB ps).length = 2 * ps.length
  | [] => rfl
  | p :: r => by
    have h1 := routesB_length r
    simp [routesB, routeB, inum_length, h1]
    omega
theorem enc_length (c : Cfg) : (enc c).length = 33 + 15 * c.parts.length + 6 * c.ports.length + 2 * c.routes.length := by
  rw [enc_len, body_len, partsB_length, portsB_length, routesB_length]
  omega
end Go.Proofs.Ytodkcenoljpgoaa.TableP
