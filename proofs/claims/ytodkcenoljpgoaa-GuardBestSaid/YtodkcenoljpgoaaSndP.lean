/- Plain: what tables promise, and what doesn't work in them (chapter 6). No conditions. -/
import Derived.Test.YtodkcenoljpgoaaTabR
namespace Go.Proofs.Ytodkcenoljpgoaa.SndP
open TableP
open FrameP (Wrong)

def slotsT (c : Cfg) : Int := c.nodes * c.slot
def roundT (c : Cfg) : Int := c.nodes * c.slot + c.gap
def driftT (c : Cfg) : Int := (2 * c.rho * (c.nodes * c.slot + c.gap) + 999999) / 1000000 + 2
def spreadT (c : Cfg) : Int := c.dmax - c.dmin
def precT (c : Cfg) : Int := 4 * (c.dmax - c.dmin) + 16 * driftT c + 64
def meanT (c : Cfg) : Int := c.dmin + (c.dmax - c.dmin) / 2
def sendT (c : Cfg) (n : Int) : Int := n * c.slot + c.margin

structure Nums (c : Cfg) : Prop where
  nodes : 1 ≤ c.nodes ∧ c.nodes ≤ 7
  faulty : 0 ≤ c.faulty ∧ c.faulty ≤ 2
  slot : 1 ≤ c.slot ∧ c.slot ≤ 16777216
  gap : 0 ≤ c.gap ∧ c.gap ≤ 16777216
  rho : 0 ≤ c.rho ∧ c.rho ≤ 200
  dmax : 0 ≤ c.dmax ∧ c.dmax ≤ 1048576
  dmin : 0 ≤ c.dmin ∧ c.dmin ≤ c.dmax
  margin : 0 ≤ c.margin ∧ c.margin ≤ 16777216
  slots : 0 ≤ c.nodes * c.slot ∧ c.nodes * c.slot ≤ 117440512
  drift0 : 0 ≤ 2 * c.rho * (c.nodes * c.slot + c.gap) ∧ 2 * c.rho * (c.nodes * c.slot + c.gap) ≤ 53687091200
theorem mul_in {a b m n : Int} (ha : 0 ≤ a ∧ a ≤ m) (hb : 0 ≤ b ∧ b ≤ n) : 0 ≤ a * b ∧ a * b ≤ m * n :=
  ⟨Int.mul_nonneg ha.1 hb.1, Int.mul_le_mul ha.2 hb.2 hb.1 (Int.le_trans ha.1 ha.2)⟩
theorem nums_in {c : Cfg} (h : headOk c) : Nums c := by
  obtain ⟨h1, h2, h3, h4, h5, h6, h7, h8⟩ := h
  unfold up at h1 h2 h3 h4 h5 h6 h7 h8
  have s := mul_in (a := c.nodes) (b := c.slot) (m := 7) (n := 16777216) ⟨by omega, h1.2⟩ ⟨by omega, h3.2⟩
  have d := mul_in (a := 2 * c.rho) (b := c.nodes * c.slot + c.gap) (m := 400) (n := 134217728) ⟨by omega, by omega⟩ ⟨by omega, by omega⟩
  exact ⟨h1, h2, h3, h4, h5, h6, h7, h8, ⟨s.1, by omega⟩, ⟨d.1, by omega⟩⟩
theorem drift_in {c : Cfg} (h : Nums c) : 2 ≤ driftT c ∧ driftT c ≤ 53691 := by
  have := h.drift0
  unfold driftT
  omega
theorem prec_in {c : Cfg} (h : Nums c) : 0 ≤ precT c ∧ precT c ≤ 6000000 := by
  have h1 := drift_in h
  have h2 := h.dmin
  have h3 := h.dmax
  unfold precT
  omega

/-- Have two windows a time in common? -/
def meetB (a b : Part) : Bool := decide (a.start < b.start + b.length) && decide (b.start < a.start + a.length)
/-- Does the i-th window end ahead of the gap, and meet none of an earlier partition of its node? -/
def clash (p q : Part) : Bool := decide (q.node = p.node) && meetB q p
def fitB (c : Cfg) (i : Nat) (p : Part) : Bool := decide (p.start + p.length ≤ c.nodes * c.slot) && !(c.parts.take i).any (clash p)
def leads (p q : Route) : Bool := decide (q.dst = p.dst)
def joinB (c : Cfg) (i : Nat) (r : Route) : Bool :=
  match c.ports[r.src.toNat]?, c.ports[r.dst.toNat]? with
  | some a, some b => a.out && !b.out && decide (a.kind = b.kind) && decide (a.size ≤ b.size) && !(c.routes.take i).any (leads r)
  | _, _ => false

/-- The first of a list with which something is wrong, by its place. -/
def firstI {α : Type} (ok : Nat → α → Bool) (code : Nat) : Nat → List α → Option Wrong
  | _, [] => none
  | i, x :: r => if ok i x = true then firstI ok code (i + 1) r else some (code, (i : Int))
theorem firstI_step {α : Type} {ok : Nat → α → Bool} {code : Nat} {l : List α} {k : Nat} {x : α} (h : l[k]? = some x) :
    firstI ok code k (l.drop k) = if ok k x = true then firstI ok code (k + 1) (l.drop (k + 1)) else some (code, (k : Int)) := by
  obtain ⟨hk, rfl⟩ := List.getElem?_eq_some_iff.1 h
  rw [List.drop_eq_getElem_cons hk]
  rfl
theorem firstI_end {α : Type} {ok : Nat → α → Bool} {code : Nat} {l : List α} {k : Nat} (h : l.length ≤ k) : firstI ok code k (l.drop k) = none := by
  rw [List.drop_of_length_le h]; rfl
theorem firstI_none {α : Type} {ok : Nat → α → Bool} {code : Nat} : ∀ {l : List α} {i : Nat}, firstI ok code i l = none → ∀ k x, l[k]? = some x → ok (i + k) x = true
  | [], _, _, _, _, h => by simp at h
  | y :: r, i, h, k, x, hk => by
    unfold firstI at h
    by_cases h1 : ok i y = true
    · rw [if_pos h1] at h
      match k, hk with
      | 0, hk =>
        simp at hk
        subst hk
        exact h1
      | k + 1, hk =>
        have := firstI_none h k x (by simpa using hk)
        rwa [show i + (k + 1) = i + 1 + k by omega]
    · rw [if_neg h1] at h; cases h
theorem firstI_all {α : Type} {ok : Nat → α → Bool} {code : Nat} : ∀ {l : List α} {i : Nat}, (∀ k x, l[k]? = some x → ok (i + k) x = true) → firstI ok code i l = none
  | [], _, _ => rfl
  | y :: r, i, h => by
    unfold firstI
    rw [if_pos (by have := h 0 y rfl; simpa using this)]
    exact firstI_all fun k x hk => by
      have := h (k + 1) x (by simpa using hk)
      rwa [show i + (k + 1) = i + 1 + k by omega] at this

/-- What is wrong behind table's check. -/
def late (c : Cfg) : Option Wrong :=
  if c.nodes < 3 * c.faulty + 1 then some (70, -1)
  else if c.margin < precT c + (c.dmax - c.dmin) + driftT c then some (74, -1)
  else if c.slot < 2 * c.margin + c.dmax + precT c then some (73, -1)
  else if c.gap < 2 * (c.margin + precT c) then some (75, -1)
  else match firstI (fitB c) 71 0 c.parts with
    | some e => some e
    | none => firstI (joinB c) 72 0 c.routes
def chk6 (c : Cfg) : Option Wrong :=
  match chk c with
  | some e => some e
  | none => late c

/-- What table's check has let through. -/
structure Allowed (c : Cfg) : Prop where
  head : headOk c
  parts : c.parts.length ≤ 12
  ports : c.ports.length ≤ 24
  routes : c.routes.length ≤ 24
  part : ∀ p ∈ c.parts, partOk c.nodes p
  port : ∀ p ∈ c.ports, portOk c.parts.length p
  route : ∀ p ∈ c.routes, routeOk c.ports.length p
theorem allowed {c : Cfg} (h : chk c = none) : Allowed c := by
  unfold chk at h
  by_cases h1 : headOk c
  · rw [if_pos h1] at h
    by_cases h2 : 12 < c.parts.length ∨ 24 < c.ports.length ∨ 24 < c.routes.length
    · rw [if_pos h2] at h; cases h
    · rw [if_neg h2] at h
      cases h3 : first (partOk c.nodes) 2 0 c.parts with
      | some e => rw [h3] at h; cases h
      | none =>
        rw [h3] at h
        cases h4 : first (portOk c.parts.length) 8 0 c.ports with
        | some e => simp only [h4] at h; cases h
        | none =>
          simp only [h4] at h
          exact ⟨h1, by omega, by omega, by omega, first_none h3, first_none h4, first_none h⟩
  · rw [if_neg h1] at h; cases h
theorem first_all {α : Type} {ok : α → Prop} [DecidablePred ok] {code : Nat} : ∀ {l : List α} {i : Nat}, (∀ x ∈ l, ok x) → first ok code i l = none
  | [], _, _ => rfl
  | y :: r, i, h => by
    unfold first
    rw [if_pos (h y (by simp))]
    exact first_all fun x hx => h x (by simp [hx])
theorem allowed_chk {c : Cfg} (h : Allowed c) : chk c = none := by
  unfold chk
  rw [if_pos h.head, if_neg (by have := h.parts; have := h.ports; have := h.routes; omega), first_all h.part, first_all h.port]
  exact first_all h.route

/-- Tables that work. -/
structure Works (c : Cfg) : Prop where
  allowed : Allowed c
  nodes : 3 * c.faulty + 1 ≤ c.nodes
  margin : precT c + (c.dmax - c.dmin) + driftT c ≤ c.margin
  slot : 2 * c.margin + c.dmax + precT c ≤ c.slot
  gap : 2 * (c.margin + precT c) ≤ c.gap
  fit : ∀ k p, c.parts[k]? = some p → fitB c k p = true
  join : ∀ k r, c.routes[k]? = some r → joinB c k r = true
theorem works {c : Cfg} (h : chk6 c = none) : Works c := by
  unfold chk6 at h
  cases h0 : chk c with
  | some e => rw [h0] at h; cases h
  | none =>
    rw [h0] at h
    simp only [late] at h
    by_cases h1 : c.nodes < 3 * c.faulty + 1
    · rw [if_pos h1] at h; cases h
    rw [if_neg h1] at h
    by_cases h2 : c.margin < precT c + (c.dmax - c.dmin) + driftT c
    · rw [if_pos h2] at h; cases h
    rw [if_neg h2] at h
    by_cases h3 : c.slot < 2 * c.margin + c.dmax + precT c
    · rw [if_pos h3] at h; cases h
    rw [if_neg h3] at h
    by_cases h4 : c.gap < 2 * (c.margin + precT c)
    · rw [if_pos h4] at h; cases h
    rw [if_neg h4] at h
    cases h5 : firstI (fitB c) 71 0 c.parts with
    | some e => rw [h5] at h; cases h
    | none =>
      rw [h5] at h
      refine ⟨SndP.allowed h0, by omega, by omega, by omega, by omega, fun k p hk => ?_, fun k p hk => ?_⟩
      · simpa using firstI_none h5 k p hk
      · simpa using firstI_none h k p hk
theorem works_chk {c : Cfg} (h : Works c) : chk6 c = none := by
  have h1 := h.nodes
  have h2 := h.margin
  have h3 := h.slot
  have h4 := h.gap
  unfold chk6
  rw [allowed_chk h.allowed]
  simp only [late]
  rw [if_neg (by omega), if_neg (by omega), if_neg (by omega), if_neg (by omega), firstI_all (fun k p hk => by simpa using h.fit k p hk)]
  exact firstI_all (fun k p hk => by simpa using h.join k p hk)
end Go.Proofs.Ytodkcenoljpgoaa.SndP
