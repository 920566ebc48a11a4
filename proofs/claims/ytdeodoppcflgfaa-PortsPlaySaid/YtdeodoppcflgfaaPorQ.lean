/- Plain: the statements of chapter 13 over what its calls answer: two nodes that are wired; a partition that is cleared. No conditions beyond those that each states. -/
import Derived.Test.YtdeodoppcflgfaaPorP
namespace Go.Proofs.Ytdeodoppcflgfaa
namespace PorP
open TableP

/-! ### A partition that is cleared -/
theorem clear_from (c : Cfg) (node part : Int) : ∀ (ps : List Port) (ss : St) (i : Nat), ps.length = ss.length → (∀ k p, ps[k]? = some p → c.ports[i + k]? = some p) →
    imageFrom c node false i ps (List.zipWith (fun p s => if p.part = part then PS.empty else s) ps ss) = (imageFrom c node false i ps ss).filter (fun m => match c.ports[m.1]? with | some p => decide (p.part ≠ part) | none => true)
  | [], [], _, _, _ => by simp [imageFrom]
  | [], _ :: _, _, h, _ => by simp at h
  | _ :: _, [], _, h, _ => by simp at h
  | p :: ps, s :: ss, i, h, hc => by
    have ih := clear_from c node part ps ss (i + 1) (by simpa using h) (fun k q hq => by have := hc (k + 1) q (by simpa using hq); rwa [show i + (k + 1) = i + 1 + k by omega] at this)
    have hp := hc 0 p rfl
    rw [Nat.add_zero] at hp
    simp only [List.zipWith_cons_cons, imageFrom, ih, List.filter_append]
    congr 1
    by_cases hsh : shown c node false p = true
    · rw [if_pos hsh, if_pos hsh]
      by_cases hpp : p.part = part
      · rw [if_pos hpp]
        simp only [PS.empty, List.map_nil]
        symm
        rw [List.filter_eq_nil_iff]
        intro m hm
        obtain ⟨d, -, rfl⟩ := List.mem_map.1 hm
        simp [hp, hpp]
      · rw [if_neg hpp]
        symm
        rw [List.filter_eq_self]
        intro m hm
        obtain ⟨d, -, rfl⟩ := List.mem_map.1 hm
        simp [hp, hpp]
    · rw [if_neg hsh, if_neg hsh]; rfl
theorem image_clear {c : Cfg} {node part : Int} {st : St} (h : st.length = c.ports.length) : imageT c node false (clearT c part st) = (imageT c node false st).filter (fun m => match c.ports[m.1]? with | some p => decide (p.part ≠ part) | none => true) :=
  clear_from c node part c.ports st 0 h.symm (fun k p hp => by rwa [Nat.zero_add])
/-- No such partition. -/
theorem clear_none {c : Cfg} {part : Int} {st : St} (h : st.length = c.ports.length) (hp : ∀ p ∈ c.ports, p.part ≠ part) : clearT c part st = st := by
  unfold clearT
  apply List.ext_getElem?
  intro k
  rw [List.getElem?_zipWith]
  cases hs : st[k]? with
  | none =>
    cases hk : c.ports[k]? <;> rfl
  | some s =>
    obtain ⟨p, hk⟩ : ∃ p, c.ports[k]? = some p := ⟨_, List.getElem?_eq_getElem (by rw [← h]; exact (List.getElem?_eq_some_iff.1 hs).1)⟩
    rw [hk]
    simp [hp p (List.mem_of_getElem? hk)]

/-! ### Two that are wired -/
def wired (z0 z1 d0 d1 fr : Int) : Cfg := ⟨2, 0, 1000, 500, 0, 0, 0, 98, [⟨0, 0, 10, 9, 2, 0, 0, 0, 0⟩, ⟨1, 0, 10, 9, 2, 0, 0, 0, 0⟩], [⟨0, 2, true, z0, d0, 0⟩, ⟨1, 2, false, z1, d1, 0⟩, ⟨0, 1, true, 4, 0, 0⟩, ⟨1, 1, false, 4, 0, fr⟩], [⟨0, 1⟩, ⟨2, 3⟩]⟩
section
variable {z0 z1 d0 d1 fr : Int} {s0 s1 s2 s3 : PS}
theorem wired_write0 (d : List UInt8) : writeT (wired z0 z1 d0 d1 fr) 0 [s0, s1, s2, s3] 0 0 d = if z0 < (d.length : Int) then (some 12, [s0, s1, s2, s3]) else if (s0.msgs.length : Int) < d0 then (none, [⟨s0.msgs ++ [d], s0.age⟩, s1, s2, s3]) else (some 11, [s0, s1, s2, s3]) := by
  simp [writeT, findT, wired, mineB, nodeOf, room, laidT]
theorem wired_write2 (d : List UInt8) : writeT (wired z0 z1 d0 d1 fr) 0 [s0, s1, s2, s3] 0 2 d = if 4 < d.length then (some 12, [s0, s1, s2, s3]) else (none, [s0, s1, ⟨[d], s2.age⟩, s3]) := by
  simp [writeT, findT, wired, mineB, nodeOf, room, laidT]
  split <;> split <;> first | rfl | omega
theorem wired_image0 (out : Bool) : imageT (wired z0 z1 d0 d1 fr) 0 out [s0, s1, s2, s3] = s0.msgs.map (fun d => (0, d)) ++ s2.msgs.map (fun d => (2, d)) := by
  cases out <;> simp [imageT, imageFrom, wired, shown, mineB, nodeOf]
theorem wired_image1 : imageT (wired z0 z1 d0 d1 fr) 1 false [s0, s1, s2, s3] = s1.msgs.map (fun d => (1, d)) ++ s3.msgs.map (fun d => (3, d)) := by
  simp [imageT, imageFrom, wired, shown, mineB, nodeOf]
theorem wired_seal : sealS (wired z0 z1 d0 d1 fr) 0 [s0, s1, s2, s3] = [⟨[], s0.age⟩, s1, ⟨[], s2.age⟩, s3] := by
  simp [sealS, wired, shown, mineB, nodeOf]
theorem wired_read1 : readT (wired z0 z1 d0 d1 fr) 1 [s0, s1, s2, s3] 1 1 = match s1.msgs with | [] => (([], false, some 10), [s0, s1, s2, s3]) | d :: r => ((d, true, none), [s0, ⟨r, s1.age⟩, s2, s3]) := by
  simp only [readT, findT, wired, mineB, nodeOf]
  cases h : s1.msgs <;> simp [h]
theorem wired_read3 : readT (wired z0 z1 d0 d1 fr) 1 [s0, s1, s2, s3] 1 3 = match s3.msgs with | [] => (([], false, some 10), [s0, s1, s2, s3]) | d :: _ => ((d, decide ((s3.age : Int) ≤ fr), none), [s0, s1, s2, s3]) := by
  simp only [readT, findT, wired, mineB, nodeOf]
  cases h : s3.msgs <;> simp [h]
/-- A message of port 0, of port 2, or of another. -/
theorem wired_one0 (d : List UInt8) : oneT (wired z0 z1 d0 d1 fr) 1 0 [s0, s1, s2, s3] (0, d) = if (d.length : Int) ≤ z0 ∧ (s1.msgs.length : Int) < d1 then (1, [s0, ⟨s1.msgs ++ [d], s1.age⟩, s2, s3]) else (0, [s0, s1, s2, s3]) := by
  by_cases h1 : (d.length : Int) ≤ z0
  · by_cases h2 : (s1.msgs.length : Int) < d1 <;> simp [oneT, comesB, routesT, overT, wired, mineB, nodeOf, room, putT, h1, h2]
  · simp [oneT, comesB, wired, nodeOf, h1]
theorem wired_one2 (d : List UInt8) : oneT (wired z0 z1 d0 d1 fr) 1 0 [s0, s1, s2, s3] (2, d) = if d.length ≤ 4 then (1, [s0, s1, s2, ⟨[d], 0⟩]) else (0, [s0, s1, s2, s3]) := by
  by_cases h1 : d.length ≤ 4
  · have h2 : (d.length : Int) ≤ 4 := by omega
    simp [oneT, comesB, routesT, overT, wired, mineB, nodeOf, room, putT, h1, h2]
  · have h2 : ¬ (d.length : Int) ≤ 4 := by omega
    simp [oneT, comesB, wired, nodeOf, h1, h2]
theorem wired_other {st : St} {m : Int × List UInt8} {node src_ : Int} (h : src_ ≠ 0 ∨ (m.1 ≠ 0 ∧ m.1 ≠ 2)) : oneT (wired z0 z1 d0 d1 fr) node src_ st m = (0, st) := by
  obtain ⟨k, d⟩ := m
  unfold oneT
  rw [if_neg]
  intro hc
  simp only [comesB, Bool.and_eq_true, decide_eq_true_eq] at hc
  obtain ⟨h0, h1⟩ := hc
  obtain ⟨n, rfl⟩ := Int.eq_ofNat_of_zero_le h0
  simp only [Int.toNat_natCast] at h1
  match n with
  | 0 =>
    simp only [wired, List.getElem?_cons_zero, nodeOf, Bool.and_eq_true, decide_eq_true_eq] at h1
    rcases h with h | h
    · have := h1.1.2; simp at this; exact h this.symm
    · exact h.1 rfl
  | 1 => simp [wired] at h1
  | 2 =>
    simp only [wired, List.getElem?_cons_succ, List.getElem?_cons_zero, nodeOf, Bool.and_eq_true, decide_eq_true_eq] at h1
    rcases h with h | h
    · have := h1.1.2; simp at this; exact h this.symm
    · exact h.2 rfl
  | 3 => simp [wired] at h1
  | n + 4 => simp [wired] at h1
/-- What is wrong with the asking at node 0. -/
theorem wired_find {part port : Int} {out : Bool} : findT (wired z0 z1 d0 d1 fr) 0 part port out = if part = 0 ∧ (port = 0 ∨ port = 2) then (if out = true then none else some 13) else some 17 := by
  unfold findT
  by_cases h0 : port < 0
  · rw [if_pos h0, if_neg (by omega)]
  rw [if_neg h0]
  obtain ⟨n, rfl⟩ := Int.eq_ofNat_of_zero_le (show 0 ≤ port by omega)
  simp only [Int.toNat_natCast]
  match n with
  | 0 =>
    by_cases hp : part = 0
    · subst hp; cases out <;> simp [wired, mineB, nodeOf]
    · have : ¬ 0 = part := fun e => hp e.symm
      simp [wired, mineB, nodeOf, hp, this]
  | 1 => simp [wired, mineB, nodeOf]
  | 2 =>
    by_cases hp : part = 0
    · subst hp; cases out <;> simp [wired, mineB, nodeOf]
    · have : ¬ 0 = part := fun e => hp e.symm
      simp [wired, mineB, nodeOf, hp, this]
  | 3 => simp [wired, mineB, nodeOf]
  | n + 4 =>
    have h1 : ¬ ((n + 4 : Nat) : Int) = 0 := by omega
    have h2 : ¬ ((n + 4 : Nat) : Int) = 2 := by omega
    rw [if_neg (by omega)]
    simp [wired]
/-- PortsQueue: what is written, as much as there is room for; what is delivered. -/
def wantT : List (List UInt8) → List (List UInt8) → List (List UInt8)
  | w, [] => w
  | w, d :: ds => wantT (if w.length < 4 ∧ d.length ≤ 16 then w ++ [d] else w) ds
theorem want_snoc (d : List UInt8) : ∀ (w ds : List (List UInt8)), wantT w (ds ++ [d]) = if (wantT w ds).length < 4 ∧ d.length ≤ 16 then wantT w ds ++ [d] else wantT w ds
  | w, [] => rfl
  | w, a :: ds => by
    simp only [List.cons_append, wantT]
    exact want_snoc d _ ds
theorem want_take {l : List (List UInt8)} {k : Nat} {d : List UInt8} (h : l[k]? = some d) : wantT [] (l.take (k + 1)) = if (wantT [] (l.take k)).length < 4 ∧ d.length ≤ 16 then wantT [] (l.take k) ++ [d] else wantT [] (l.take k) := by
  rw [List.take_add_one, h]; exact want_snoc d [] _
theorem want_ok : ∀ (ds w : List (List UInt8)), w.length ≤ 4 → (∀ d ∈ w, d.length ≤ 16) → (wantT w ds).length ≤ 4 ∧ ∀ d ∈ wantT w ds, d.length ≤ 16
  | [], w, h1, h2 => ⟨h1, h2⟩
  | a :: ds, w, h1, h2 => by
    unfold wantT
    by_cases h : w.length < 4 ∧ a.length ≤ 16
    · rw [if_pos h]
      refine want_ok ds _ (by rw [List.length_append]; simp; omega) (fun d hd => ?_)
      rcases List.mem_append.1 hd with hd | hd
      · exact h2 d hd
      · rw [List.mem_singleton.1 hd]; exact h.2
    · rw [if_neg h]; exact want_ok ds w h1 h2
theorem wired_queue {D : Nat} : ∀ (ms q : List (List UInt8)) (a : Nat), (∀ d ∈ ms, d.length ≤ 16) → q.length ≤ D →
    deliverT (wired 16 z1 d0 (D : Int) fr) 1 0 (ms.map (fun d => ((0 : Int), d))) [s0, ⟨q, a⟩, s2, s3] = (min ms.length (D - q.length), [s0, ⟨q ++ ms.take (D - q.length), a⟩, s2, s3])
  | [], q, a, _, _ => by simp [deliverT]
  | d :: ms, q, a, h, hq => by
    have hd : (d.length : Int) ≤ 16 := by have := h d (by simp); omega
    have hms : ∀ x ∈ ms, x.length ≤ 16 := fun x hx => h x (List.mem_cons_of_mem _ hx)
    simp only [List.map_cons, deliverT]
    rw [wired_one0]
    by_cases hr : q.length < D
    · rw [if_pos ⟨hd, by simp only; omega⟩]
      simp only
      rw [wired_queue ms (q ++ [d]) a hms (by rw [List.length_append]; simp; omega)]
      rw [List.length_append, List.length_cons, List.length_nil, List.length_cons]
      obtain ⟨m, hm⟩ : ∃ m, D - q.length = m + 1 := ⟨D - q.length - 1, by omega⟩
      rw [hm, show D - (q.length + (0 + 1)) = m by omega, List.take_succ_cons, List.append_assoc]
      simp only [Prod.mk.injEq]
      exact ⟨by omega, rfl⟩
    · rw [if_neg (fun e => hr (by have := e.2; simp only at this; omega))]
      simp only
      rw [wired_queue ms q a hms hq, show D - q.length = 0 by omega]
      simp
/-- PortsStrange: how many come in. -/
def strange1 (src_ : Int) (x : Nat × Bool) (m : Int × List UInt8) : Nat × Bool :=
  if src_ ≠ 0 then x else if m.1 = 0 ∧ m.2.length ≤ 1 ∧ x.2 = false then (x.1 + 1, true) else if m.1 = 2 ∧ m.2.length ≤ 4 then (x.1 + 1, x.2) else x
def strangeT (src_ : Int) (ms : List (Int × List UInt8)) (n : Nat) (f : Bool) : Nat × Bool := ms.foldl (strange1 src_) (n, f)
theorem strange_take {src_ : Int} {ms : List (Int × List UInt8)} {k : Nat} {m : Int × List UInt8} (h : ms[k]? = some m) : strangeT src_ (ms.take (k + 1)) 0 false = strange1 src_ (strangeT src_ (ms.take k) 0 false) m := by
  unfold strangeT
  rw [List.take_add_one, h, List.foldl_append]; rfl
theorem strange_cons (src_ : Int) (m : Int × List UInt8) (ms : List (Int × List UInt8)) (n : Nat) (f : Bool) : strangeT src_ (m :: ms) n f = strangeT src_ ms (strange1 src_ (n, f) m).1 (strange1 src_ (n, f) m).2 := rfl
theorem wired_strange {src_ : Int} : ∀ (ms : List (Int × List UInt8)) (n : Nat) (s0 s1 s2 s3 : PS), s1.msgs.length ≤ 1 → n + (deliverT (wired 1 1 2 1 1) 1 src_ ms [s0, s1, s2, s3]).1 = (strangeT src_ ms n (decide (0 < s1.msgs.length))).1
  | [], n, s0, s1, s2, s3, _ => by simp [deliverT, strangeT]
  | m :: ms, n, s0, s1, s2, s3, h1 => by
    obtain ⟨k, d⟩ := m
    simp only [deliverT, strange_cons]
    unfold strange1
    by_cases hs : src_ = 0
    case neg =>
      rw [if_pos hs, wired_other (.inl hs)]
      simp only [Nat.zero_add]
      exact wired_strange ms n s0 s1 s2 s3 h1
    rw [if_neg (fun e => e hs)]
    subst hs
    by_cases hk0 : k = 0
    · subst hk0
      rw [wired_one0]
      by_cases hd : d.length ≤ 1
      · by_cases hf : s1.msgs.length < 1
        · have h0 : s1.msgs.length = 0 := by omega
          rw [if_pos ⟨by omega, by omega⟩, if_pos ⟨rfl, hd, by simp [h0]⟩]
          simp only
          have ih := wired_strange (src_ := 0) ms (n + 1) s0 ⟨s1.msgs ++ [d], s1.age⟩ s2 s3 (by rw [List.length_append, h0]; simp)
          rw [List.length_append, h0, show decide (0 < 0 + [d].length) = true from rfl] at ih
          rw [← ih]; omega
        · have h0 : s1.msgs.length = 1 := by omega
          rw [if_neg (fun e => hf (by have := e.2; omega)), if_neg (fun e => by have := e.2.2; rw [h0] at this; simp at this), if_neg (fun e => by have := e.1; omega)]
          simp only [Nat.zero_add]
          exact wired_strange ms n s0 s1 s2 s3 h1
      · rw [if_neg (fun e => hd (by have := e.1; omega)), if_neg (fun e => hd e.2.1), if_neg (fun e => by have := e.1; omega)]
        simp only [Nat.zero_add]
        exact wired_strange ms n s0 s1 s2 s3 h1
    rw [if_neg (fun e => hk0 e.1)]
    by_cases hk2 : k = 2
    · subst hk2
      rw [wired_one2]
      by_cases hd : d.length ≤ 4
      · rw [if_pos hd, if_pos ⟨rfl, hd⟩]
        simp only
        have ih := wired_strange (src_ := 0) ms (n + 1) s0 s1 s2 ⟨[d], 0⟩ h1
        rw [← ih]; omega
      · rw [if_neg hd, if_neg (fun e => hd e.2)]
        simp only [Nat.zero_add]
        exact wired_strange ms n s0 s1 s2 s3 h1
    · rw [wired_other (.inr ⟨hk0, hk2⟩), if_neg (fun e => hk2 e.1)]
      simp only [Nat.zero_add]
      exact wired_strange ms n s0 s1 s2 s3 h1
/-- Rounds go by. -/
theorem grow_four : growT [s0, s1, s2, s3] = [⟨s0.msgs, if s0.age < 9 then s0.age + 1 else s0.age⟩, ⟨s1.msgs, if s1.age < 9 then s1.age + 1 else s1.age⟩, ⟨s2.msgs, if s2.age < 9 then s2.age + 1 else s2.age⟩, ⟨s3.msgs, if s3.age < 9 then s3.age + 1 else s3.age⟩] := rfl
def agesT : Nat → Nat → Nat
  | 0, a => a
  | n + 1, a => agesT n (if a < 9 then a + 1 else a)
theorem ages_is : ∀ n a, a ≤ 9 → agesT n a = min (a + n) 9
  | 0, a, h => by unfold agesT; omega
  | n + 1, a, h => by
    unfold agesT
    rw [ages_is n _ (by split <;> omega)]
    split <;> omega
end
end PorP
end Go.Proofs.Ytdeodoppcflgfaa
