/- Plain: what is wrong with a frame; reading a frame, with its errors. No conditions. -/
import Derived.Test.YtodkcenoljpgoaaFraP
namespace Go.Proofs.Ytodkcenoljpgoaa.FrameP
open WireP

/-- An error: its number and its place. -/
abbrev Wrong := Nat × Int
def chkMsgs : Nat → List Msg → Option Wrong
  | _, [] => none
  | i, m :: r => if m.port < 0 ∨ 23 < m.port then some (2, (i : Int)) else if 16 < m.data.length then some (12, (i : Int)) else chkMsgs (i + 1) r
def chkRecs : Nat → List Rec → Option Wrong
  | _, [] => none
  | i, x :: r => if 6 < x.node ∨ 11 < x.part ∨ 3 < x.kind ∨ 3 < x.did then some (50, (i : Int)) else chkRecs (i + 1) r
/-- Not lawful. -/
def unlawful (kind key val old : Nat) : Prop := (kind = 0 ∧ ¬ (key = 0 ∧ val = 0 ∧ old = 0)) ∨ 7 < key ∨ (kind ≠ 3 ∧ old ≠ 0) ∨ (kind = 2 ∧ val ≠ 0)
instance (kind key val old : Nat) : Decidable (unlawful kind key val old) := by unfold unlawful; exact inferInstance
def chk (f : Fr) : Option Wrong :=
  if 6 < f.sender then some (2, -1)
  else if 96 < f.msgs.length ∨ 4 < f.recs.length then some (3, -1)
  else match chkMsgs 0 f.msgs with
    | some e => some e
    | none => if 3 < f.kind then some (7, -1) else if unlawful f.kind f.key f.val f.old then some (8, -1) else chkRecs 0 f.recs

theorem chkMsgs_none : ∀ (ms : List Msg) (i : Nat), chkMsgs i ms = none → ∀ m ∈ ms, 0 ≤ m.port ∧ m.port ≤ 23 ∧ m.data.length ≤ 16
  | [], _, _ => by simp
  | m :: r, i, h => by
    unfold chkMsgs at h
    by_cases h1 : m.port < 0 ∨ 23 < m.port
    · rw [if_pos h1] at h; cases h
    · rw [if_neg h1] at h
      by_cases h2 : 16 < m.data.length
      · rw [if_pos h2] at h; cases h
      · rw [if_neg h2] at h
        intro x hx
        rcases List.mem_cons.1 hx with rfl | hx
        · exact ⟨by omega, by omega, by omega⟩
        · exact chkMsgs_none r _ h x hx
theorem chkMsgs_len : ∀ (ms : List Msg) (i c : Nat) (p : Int), chkMsgs i ms = some (c, p) → 1 ≤ c ∧ c ≤ 199 ∧ -1 ≤ p ∧ p < i + ms.length
  | [], _, _, _, h => by cases h
  | m :: r, i, c, p, h => by
    unfold chkMsgs at h
    by_cases h1 : m.port < 0 ∨ 23 < m.port
    · rw [if_pos h1] at h
      injection h with h; injection h with h3 h4
      subst h3 h4
      simp; omega
    · rw [if_neg h1] at h
      by_cases h2 : 16 < m.data.length
      · rw [if_pos h2] at h
        injection h with h; injection h with h3 h4
        subst h3 h4
        simp; omega
      · rw [if_neg h2] at h
        have := chkMsgs_len r _ c p h
        simp; omega
theorem chkRecs_len : ∀ (ms : List Rec) (i c : Nat) (p : Int), chkRecs i ms = some (c, p) → 1 ≤ c ∧ c ≤ 199 ∧ -1 ≤ p ∧ p < i + ms.length
  | [], _, _, _, h => by cases h
  | m :: r, i, c, p, h => by
    unfold chkRecs at h
    by_cases h1 : 6 < m.node ∨ 11 < m.part ∨ 3 < m.kind ∨ 3 < m.did
    · rw [if_pos h1] at h
      injection h with h; injection h with h3 h4
      subst h3 h4
      simp; omega
    · rw [if_neg h1] at h
      have := chkRecs_len r _ c p h
      simp; omega
theorem chkRecs_none : ∀ (ms : List Rec) (i : Nat), chkRecs i ms = none → ∀ m ∈ ms, m.node ≤ 6 ∧ m.part ≤ 11 ∧ m.kind ≤ 3 ∧ m.did ≤ 3
  | [], _, _ => by simp
  | m :: r, i, h => by
    unfold chkRecs at h
    by_cases h1 : 6 < m.node ∨ 11 < m.part ∨ 3 < m.kind ∨ 3 < m.did
    · rw [if_pos h1] at h; cases h
    · rw [if_neg h1] at h
      intro x hx
      rcases List.mem_cons.1 hx with rfl | hx
      · omega
      · exact chkRecs_none r _ h x hx

/-- What the types of a frame's fields say. -/
structure Typed (f : Fr) : Prop where
  sender : f.sender < 256
  round : f.round < 4294967296
  members : f.members < 256
  kind : f.kind < 256
  key : f.key < 256
  val : f.val < 65536
  old : f.old < 65536
  recs : ∀ r ∈ f.recs, RecFits r

theorem chk_fits {f : Fr} (ht : Typed f) (h : chk f = none) : Fits f ∧ f.msgs.length ≤ 96 ∧ f.recs.length ≤ 4 := by
  unfold chk at h
  by_cases h1 : 6 < f.sender
  · rw [if_pos h1] at h; cases h
  · rw [if_neg h1] at h
    by_cases h2 : 96 < f.msgs.length ∨ 4 < f.recs.length
    · rw [if_pos h2] at h; cases h
    · rw [if_neg h2] at h
      cases h3 : chkMsgs 0 f.msgs with
      | some e => rw [h3] at h; cases h
      | none =>
        refine ⟨⟨ht.sender, ht.round, ht.members, by omega, fun m hm => ?_, ht.kind, ht.key, ht.val, ht.old, by omega, ht.recs⟩, by omega, by omega⟩
        have := chkMsgs_none _ _ h3 m hm
        exact ⟨this.1, by omega, by omega⟩

theorem Fits.typed {f : Fr} (h : Fits f) : Typed f := ⟨h.sender, h.round, h.members, h.kind, h.key, h.val, h.old, h.recs⟩

/-- What is told of bytes: a frame; or where its reading ended, and what was wrong. -/
def dec (l : List UInt8) : Fr ⊕ (Nat × Wrong) :=
  if (raw l).2.2 then .inr ((raw l).2.1, (4, ((raw l).2.1 : Int)))
  else if (raw l).2.1 < l.length then .inr ((raw l).2.1, (5, ((raw l).2.1 : Int)))
  else match chk (raw l).1 with
    | some e => .inr ((raw l).2.1, e)
    | none => .inl (raw l).1

theorem dec_enc {f : Fr} (hf : Fits f) (hc : chk f = none) : dec (enc f) = .inl f := by
  have h := raw_enc f [] hf
  rw [List.append_nil] at h
  unfold dec
  rw [h]
  simp [hc]
theorem dec_ok {l : List UInt8} {f : Fr} (h : dec l = .inl f) : l = enc f ∧ chk f = none ∧ Fits f := by
  unfold dec at h
  cases hs : (raw l).2.2 with
  | true => rw [hs] at h; simp at h
  | false =>
    rw [hs] at h
    simp only [Bool.false_eq_true, if_false] at h
    obtain ⟨h1, h2⟩ := raw_inv hs
    by_cases h3 : (raw l).2.1 < l.length
    · rw [if_pos h3] at h; simp at h
    · rw [if_neg h3] at h
      cases h4 : chk (raw l).1 with
      | some e => rw [h4] at h; simp at h
      | none =>
        rw [h4] at h
        injection h with h
        subst h
        refine ⟨?_, h4, h2⟩
        have e : l.drop (raw l).2.1 = [] := List.drop_of_length_le (by omega)
        rw [e, List.append_nil] at h1
        exact h1
theorem dec_cut {f : Fr} (hf : Fits f) {n : Nat} (hn : n < (enc f).length) : ∃ e, dec ((enc f).take n) = .inr e := by
  cases h : dec ((enc f).take n) with
  | inr e => exact ⟨e, rfl⟩
  | inl g =>
    obtain ⟨h1, _, h3⟩ := dec_ok h
    have h4 : enc f = enc g ++ (enc f).drop n := by rw [← h1, List.take_append_drop]
    have h5 := enc_prefix hf h3 h4
    have h6 := congrArg List.length h5
    rw [List.length_drop] at h6
    simp at h6
    omega
theorem dec_more {f : Fr} (hf : Fits f) (r : List UInt8) (hr : r ≠ []) : ∃ e, dec (enc f ++ r) = .inr e := by
  cases h : dec (enc f ++ r) with
  | inr e => exact ⟨e, rfl⟩
  | inl g =>
    obtain ⟨h1, _, h3⟩ := dec_ok h
    exact absurd (enc_prefix h3 hf h1.symm) hr

theorem msgsD_at {l : List UInt8} : ∀ (k a : Nat) (s : Bool), a ≤ l.length → (msgsD l k a s).2.1 ≤ l.length
  | 0, a, s, h => h
  | k + 1, a, s, h => by
    cases s with
    | true => simpa [msgsD] using h
    | false =>
      simp only [msgsD, Bool.false_eq_true, if_false]
      exact msgsD_at k _ _ (tell_at (take_at h))
theorem recsD_at {l : List UInt8} : ∀ (k a : Nat) (s : Bool), a ≤ l.length → (recsD l k a s).2.1 ≤ l.length
  | 0, a, s, h => h
  | k + 1, a, s, h => by
    cases s with
    | true => simpa [recsD] using h
    | false =>
      simp only [recsD, Bool.false_eq_true, if_false]
      exact recsD_at k _ _ (take_at (take_at (take_at (take_at (take_at h)))))
theorem raw_at (l : List UInt8) : (raw l).2.1 ≤ l.length := by
  simp only [raw]
  exact recsD_at _ _ _ (take_at (take_at (take_at (take_at (take_at (msgsD_at _ _ _ (take_at (take_at (take_at (take_at (Nat.zero_le _)))))))))))

def dataLen : List Msg → Nat
  | [] => 0
  | m :: r => m.data.length + dataLen r
theorem msgsB_length : ∀ (ms : List Msg), (∀ m ∈ ms, MsgFits m) → (msgsB ms).length = 2 * ms.length + dataLen ms
  | [], _ => rfl
  | m :: r, h => by
    have h1 := msgsB_length r (fun x hx => h x (by simp [hx]))
    have h2 := (h m (by simp)).2.2
    simp [msgsB, msgB, num_length, text_short h2, dataLen, h1]
    omega
theorem recsB_length : ∀ (rs : List Rec), (recsB rs).length = 8 * rs.length
  | [] => rfl
  | m :: r => by
    have h1 := recsB_length r
    simp [recsB, recB, num_length, h1]
    omega
theorem enc_length {f : Fr} (h : Fits f) : (enc f).length = 14 + 2 * f.msgs.length + dataLen f.msgs + 8 * f.recs.length := by
  have h1 := msgsB_length f.msgs h.msgs
  have h2 := recsB_length f.recs
  simp [enc, tailB, num_length, h1, h2]
  omega
theorem dataLen_le : ∀ (ms : List Msg) (k : Nat), (∀ m ∈ ms, m.data.length ≤ k) → dataLen ms ≤ k * ms.length
  | [], _, _ => by simp [dataLen]
  | m :: r, k, h => by
    have h1 := dataLen_le r k (fun x hx => h x (by simp [hx]))
    have h2 := h m (by simp)
    simp only [dataLen, List.length_cons, Nat.mul_add, Nat.mul_one]
    omega
end Go.Proofs.Ytodkcenoljpgoaa.FrameP
