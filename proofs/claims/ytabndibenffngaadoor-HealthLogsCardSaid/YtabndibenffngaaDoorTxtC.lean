/- What the document's Trail reads off a text, as a function on bytes, and that it reads an error's text back. Conditions: numbers from 1 to 199. -/
import Derived.Test.YtabndibenffngaaDoorErrT
namespace Go.Proofs.YtabndibenffngaaDoor
open Go.RowKit

structure Rd where
  out : List Int
  n : Int
  d : Bool
  p : Bool

def Rd.step (s : Rd) (c : UInt8) : Rd :=
  if c = 62 then { out := if s.d then s.out ++ [s.n] else s.out, n := 0, d := false, p := false }
  else if c = 64 then { s with p := true }
  else if !s.p && (decide (48 ≤ c.toNat) && decide (c.toNat ≤ 57)) then { s with n := wrap64 (wrap64 (10 * s.n) + ((c.toNat : Int) - 48)), d := true }
  else s

def Rd.init : Rd := ⟨[], 0, false, false⟩
def trailP (x : List UInt8) : List Int := ((x ++ [62]).foldl Rd.step Rd.init).out

/-- A digit. -/
def isDig (c : UInt8) : Prop := 48 ≤ c.toNat ∧ c.toNat ≤ 57

theorem isDig_mk (n : Nat) : isDig (48 + UInt8.ofNat (n % 10)) := by
  have : n % 10 < 10 := Nat.mod_lt _ (by omega)
  unfold isDig
  rw [UInt8.toNat_add, UInt8.toNat_ofNat']
  simp
  omega

theorem digs_dig : ∀ (f n : Nat) (acc : List UInt8), (∀ c ∈ acc, isDig c) → ∀ c ∈ digs f n acc, isDig c
  | 0, _, _, h, c, hc => h c hc
  | f + 1, n, acc, h, c, hc => by
    have h' : ∀ c ∈ (48 + UInt8.ofNat (n % 10)) :: acc, isDig c := fun c hc => by
      rcases List.mem_cons.1 hc with rfl | hc
      · exact isDig_mk n
      · exact h c hc
    unfold digs at hc
    split at hc
    · exact h' c hc
    · exact digs_dig f _ _ h' c hc
theorem numN_dig (n : Nat) : ∀ c ∈ numN n, isDig c := digs_dig 20 n [] (fun c hc => by cases hc)

/-- Digits, read with no place ahead. -/
def readN (x : List UInt8) (n : Int) : Int := x.foldl (fun n c => wrap64 (wrap64 (10 * n) + ((c.toNat : Int) - 48))) n

theorem fold_dig : ∀ (x : List UInt8) (s : Rd), (∀ c ∈ x, isDig c) → s.p = false → x ≠ [] → x.foldl Rd.step s = { s with n := readN x s.n, d := true }
  | [], _, _, _, h => absurd rfl h
  | c :: r, s, hd, hp, _ => by
    have h1 := hd c (by simp)
    have hs : s.step c = { s with n := wrap64 (wrap64 (10 * s.n) + ((c.toNat : Int) - 48)), d := true } := by
      unfold Rd.step
      have a1 : c ≠ 62 := by rintro rfl; have := h1.2; simp at this
      have a2 : c ≠ 64 := by rintro rfl; have := h1.2; simp at this
      rw [if_neg a1, if_neg a2, if_pos (by simp [hp, h1.1, h1.2])]
    rw [List.foldl_cons, hs]
    by_cases hr : r = []
    · subst hr; rfl
    · rw [fold_dig r _ (fun c hc => hd c (by simp [hc])) (by exact hp) hr]
      rfl

/-- Behind '@' nothing is read until '>'. -/
theorem fold_skip : ∀ (x : List UInt8) (s : Rd), (∀ c ∈ x, c ≠ 62) → s.p = true → x.foldl Rd.step s = s
  | [], _, _, _ => rfl
  | c :: r, s, hd, hp => by
    have hs : s.step c = s := by
      unfold Rd.step
      rw [if_neg (hd c (by simp))]
      by_cases h : c = 64
      · rw [if_pos h]; cases s; simp_all
      · rw [if_neg h, if_neg (by simp [hp])]
    rw [List.foldl_cons, hs]
    exact fold_skip r s (fun c hc => hd c (by simp [hc])) hp

theorem numI_skip (a : Int) : ∀ c ∈ numI a, c ≠ 62 := by
  intro c hc e
  unfold numI at hc
  have key : ∀ n, c ∈ numN n → False := fun n h => by
    have := (numN_dig n c h).2
    rw [e] at this; simp at this
  split at hc
  · rcases List.mem_cons.1 hc with h | h
    · rw [e] at h; exact absurd h (by decide)
    · exact key _ h
  · exact key _ hc

theorem numN_read (n : Nat) (h : n < 200) : readN (numN n) 0 = n := by
  have : ∀ n : Fin 200, readN (numN n.1) 0 = (n.1 : Int) := by decide +kernel
  exact this ⟨n, h⟩

theorem fold_at (s : Rd) (c : Nat) (a : Int) (h : c < 200) (hs : s.n = 0 ∧ s.d = false ∧ s.p = false) :
    (atT c a).foldl Rd.step s = { out := s.out, n := c, d := true, p := true } := by
  unfold atT
  rw [List.foldl_append, List.foldl_cons, fold_dig _ _ (numN_dig c) hs.2.2 (numN_ne c), hs.1, numN_read c h]
  have h64 : Rd.step { out := s.out, n := (c : Int), d := true, p := s.p } 64 = { out := s.out, n := c, d := true, p := true } := by
    unfold Rd.step
    rw [if_neg (by decide), if_pos rfl]
  show (numI (plc a)).foldl Rd.step (Rd.step { out := s.out, n := (c : Int), d := true, p := s.p } 64) = _
  rw [h64]
  exact fold_skip _ _ (numI_skip _) rfl

/-- A state at an error's beginning. -/
def Fresh (s : Rd) : Prop := s.n = 0 ∧ s.d = false ∧ s.p = false

theorem step62 (s : Rd) : s.step 62 = { out := if s.d then s.out ++ [s.n] else s.out, n := 0, d := false, p := false } := by
  unfold Rd.step
  rw [if_pos rfl]

theorem fold_text (t : Option Int) : ∀ (l : List (Nat × Int × Int)) (s : Rd), Good l t → Fresh s → errV l t ≠ .nilIface → ((sufT t true l ++ [62]).foldl Rd.step s).out = s.out ++ codes l t ∧ Fresh ((sufT t true l ++ [62]).foldl Rd.step s)
  | [], s, hg, hf, hne => by
    match t, hne with
    | none, hne => exact absurd rfl hne
    | some m, _ =>
      obtain ⟨h1, h2⟩ := hg.2 m rfl
      have e : sufT (some m) true [] = numN m.toNat := by simp [sufT, sep]
      rw [e, List.foldl_append, fold_dig _ _ (numN_dig _) hf.2.2 (numN_ne _), hf.1, numN_read _ (by omega), List.foldl_cons, List.foldl_nil, step62]
      refine ⟨?_, rfl, rfl, rfl⟩
      simp [codes]
      omega
  | (b, c, a) :: r, s, hg, hf, _ => by
    obtain ⟨h1, h2, _, _⟩ := hg.1 0 (by simp)
    have hc : (nd ((b, c, a) :: r) 0).2.1 = c := by simp [nd]
    rw [hc] at h1 h2
    have hg' : Good r t := ⟨fun n hn => by
      have := hg.1 (n + 1) (by simpa using hn)
      simpa [nd] using this, hg.2⟩
    have e : sufT t true ((b, c, a) :: r) = atT c.toNat a ++ sufT t false r := by simp [sufT, sep]
    by_cases hn : errV r t = .nilIface
    · have hr : r = [] ∧ t = none := by
        match r, t with
        | [], none => exact ⟨rfl, rfl⟩
        | [], some m => simp [errV] at hn
        | (_, _, _) :: _, _ => simp [errV] at hn
      obtain ⟨rfl, rfl⟩ := hr
      rw [e]
      simp only [sufT, List.append_nil]
      rw [List.foldl_append, fold_at s _ _ (by omega) hf, List.foldl_cons, List.foldl_nil, step62]
      refine ⟨?_, rfl, rfl, rfl⟩
      simp [codes]
      omega
    · rw [e, sufT_false hn, List.append_assoc, List.foldl_append, fold_at s _ _ (by omega) hf, List.cons_append, List.foldl_cons, step62]
      obtain ⟨i1, i2⟩ := fold_text t r { out := s.out ++ [(c.toNat : Int)], n := 0, d := false, p := false } hg' ⟨rfl, rfl, rfl⟩ hn
      refine ⟨?_, i2⟩
      simp only [if_true]
      rw [i1]
      have : (c.toNat : Int) = c := by omega
      simp [codes, this]

theorem trailP_text {l : List (Nat × Int × Int)} {t : Option Int} (hg : Good l t) : trailP (sufT t true l) = codes l t := by
  unfold trailP
  by_cases hn : errV l t = .nilIface
  · have hr : l = [] ∧ t = none := by
      match l, t with
      | [], none => exact ⟨rfl, rfl⟩
      | [], some m => simp [errV] at hn
      | (_, _, _) :: _, _ => simp [errV] at hn
    obtain ⟨rfl, rfl⟩ := hr
    decide
  · exact (fold_text t l Rd.init hg ⟨rfl, rfl, rfl⟩ hn).1
end Go.Proofs.YtabndibenffngaaDoor
