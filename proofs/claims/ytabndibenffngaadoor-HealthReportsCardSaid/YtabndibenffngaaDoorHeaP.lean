/- Plain: errors, what is done about them, and the log (chapter 15). No conditions beyond those that each states. -/
import Derived.Test.YtabndibenffngaaDoorPlA
namespace Go.Proofs.YtabndibenffngaaDoor
namespace HeaP
open FrameP

/-! ### Kinds and effects -/
/-- Kind's answer for an error that has these numbers; none: nothing is reported. -/
def kindT (codes : List Nat) : Option Nat :=
  if codes = [] then none
  else if 151 ∈ codes then some 0
  else if 150 ∈ codes then some 1
  else if 17 ∈ codes ∨ 13 ∈ codes ∨ 12 ∈ codes then some 3
  else if 10 ∈ codes ∨ 11 ∈ codes ∨ 14 ∈ codes then none
  else some 2
theorem kind_le {codes : List Nat} {k : Nat} (h : kindT codes = some k) : k ≤ 3 := by
  unfold kindT at h
  repeat' split at h
  all_goals first | (cases h; done) | (obtain rfl := Option.some.inj h; decide)
def partT (a : Nat) : Bool := decide (1 ≤ a ∧ a ≤ 3)
def nodeT (a : Nat) : Bool := decide (a = 2 ∨ a = 3)
def goodT (a : Nat) : Bool := decide (a = 3)
theorem grave_all : ∀ a b : Fin 4, a.1 ≤ b.1 → (partT a.1 = true → partT b.1 = true) ∧ (nodeT a.1 = true → nodeT b.1 = true) ∧ (goodT a.1 = true → goodT b.1 = true) ∧ (a.1 = b.1 ↔ (partT a.1 = partT b.1 ∧ nodeT a.1 = nodeT b.1 ∧ goodT a.1 = goodT b.1)) := by decide +kernel

/-! ### A monitor -/
structure Mon where
  last : List Nat
  row : List Nat
  out : List Rec
def Mon.start (n : Nat) : Mon := ⟨List.replicate n 0, List.replicate n 0, []⟩
structure MonOk (n : Nat) (m : Mon) : Prop where
  last : m.last.length = n
  row : m.row.length = n
  out : m.out.length ≤ 4
theorem MonOk.start (n : Nat) : MonOk n (Mon.start n) := ⟨by simp [Mon.start], by simp [Mon.start], by simp [Mon.start]⟩
def lastOf (m : Mon) (p : Nat) : Nat := m.last[p]?.getD 0
def rowOf (m : Mon) (p : Nat) : Nat := m.row[p]?.getD 0
/-- The row's length with a Restart in this round. -/
def nextRow (m : Mon) (p r : Nat) : Nat := if 0 < lastOf m p ∧ r ≤ lastOf m p then rowOf m p + 1 else 1
def recOf (recover : List (List Nat)) (p k : Nat) : Nat := ((recover[p]?.getD [])[k]?).getD 0
def badB (n round : Nat) (part : Int) (kind : Nat) : Bool := decide (part < 0 ∨ (n : Int) ≤ part ∨ 3 < kind ∨ 1048576 ≤ round)
/-- What is done. -/
def didT (recover : List (List Nat)) (m : Mon) (r p k : Nat) : Nat := if recOf recover p k = 1 then (if 3 ≤ nextRow m p r then 2 else 1) else recOf recover p k
def noteT (node r p k did : Nat) (out : List Rec) : List Rec := if out.length < 4 then out ++ [⟨r, node, p, k, did⟩] else out
def nextM (recover : List (List Nat)) (node : Nat) (m : Mon) (r p k : Nat) : Mon :=
  if recOf recover p k = 1 then ⟨m.last.set p (r + 1), m.row.set p (nextRow m p r), noteT node r p k (didT recover m r p k) m.out⟩
  else ⟨m.last, m.row, noteT node r p k (didT recover m r p k) m.out⟩
/-- Report: what is done, and the error's number (0: none); the monitor behind it. -/
def reportT (recover : List (List Nat)) (node : Nat) (m : Mon) (r : Nat) (part : Int) (k : Nat) : (Nat × Nat) × Mon :=
  if badB recover.length r part k = true then ((0, 2), m) else ((didT recover m r part.toNat k, 0), nextM recover node m r part.toNat k)
def sealM (m : Mon) : Mon := ⟨m.last, m.row, []⟩
theorem note_le {node r p k did : Nat} {out : List Rec} (h : out.length ≤ 4) : (noteT node r p k did out).length ≤ 4 := by
  unfold noteT; split
  · rw [List.length_append]; simp; omega
  · exact h
theorem MonOk.next {n : Nat} {m : Mon} (h : MonOk n m) (recover : List (List Nat)) (node r p k : Nat) : MonOk n (nextM recover node m r p k) := by
  unfold nextM
  split
  · exact ⟨by simpa using h.last, by simpa using h.row, note_le h.out⟩
  · exact ⟨h.last, h.row, note_le h.out⟩
theorem MonOk.report {n : Nat} {m : Mon} (h : MonOk n m) (recover : List (List Nat)) (node r : Nat) (part : Int) (k : Nat) : MonOk n (reportT recover node m r part k).2 := by
  unfold reportT
  split
  · exact h
  · exact h.next recover node r _ k
theorem MonOk.sealed {n : Nat} {m : Mon} (h : MonOk n m) : MonOk n (sealM m) := ⟨h.last, h.row, Nat.zero_le _⟩
theorem report_bad {recover : List (List Nat)} {node r k : Nat} {part : Int} {m : Mon} (h : part < 0 ∨ (recover.length : Int) ≤ part ∨ 3 < k ∨ 1048576 ≤ r) : reportT recover node m r part k = ((0, 2), m) := by
  unfold reportT badB
  rw [if_pos (decide_eq_true h)]
theorem report_ok {recover : List (List Nat)} {node r k p : Nat} {m : Mon} (hp : p < recover.length) (hk : k ≤ 3) (hr : r < 1048576) : reportT recover node m r (p : Int) k = ((didT recover m r p k, 0), nextM recover node m r p k) := by
  unfold reportT badB
  rw [if_neg (by rw [decide_eq_true_eq]; omega)]
  rfl
/-- The rounds that a monitor keeps are below the most; a row is as long as there were reports. -/
structure MonLow (N : Nat) (m : Mon) : Prop where
  last : ∀ p, lastOf m p ≤ 1048576
  row : ∀ p, rowOf m p ≤ N
theorem get_set {l : List Nat} {p q v : Nat} : (l.set p v)[q]?.getD 0 = if q = p ∧ p < l.length then v else l[q]?.getD 0 := by
  by_cases h : q = p
  · subst h
    by_cases hl : q < l.length
    · rw [if_pos ⟨rfl, hl⟩, List.getElem?_set_self hl]; rfl
    · rw [if_neg (fun h => hl h.2), List.set_eq_of_length_le (by omega)]
  · rw [if_neg (fun e => h e.1), List.getElem?_set_ne (Ne.symm h)]
theorem last_next {recover : List (List Nat)} {node r p k q : Nat} {m : Mon} : lastOf (nextM recover node m r p k) q = if recOf recover p k = 1 ∧ q = p ∧ p < m.last.length then r + 1 else lastOf m q := by
  unfold nextM
  by_cases h : recOf recover p k = 1
  · rw [if_pos h]
    unfold lastOf
    rw [get_set]
    by_cases h2 : q = p ∧ p < m.last.length
    · rw [if_pos h2, if_pos ⟨h, h2⟩]
    · rw [if_neg h2, if_neg (fun e => h2 e.2)]
  · rw [if_neg h, if_neg (fun e => h e.1)]; rfl
theorem row_next {recover : List (List Nat)} {node r p k q : Nat} {m : Mon} : rowOf (nextM recover node m r p k) q = if recOf recover p k = 1 ∧ q = p ∧ p < m.row.length then nextRow m p r else rowOf m q := by
  unfold nextM
  by_cases h : recOf recover p k = 1
  · rw [if_pos h]
    show (m.row.set p (nextRow m p r))[q]?.getD 0 = _
    rw [get_set]
    by_cases h2 : q = p ∧ p < m.row.length
    · rw [if_pos h2, if_pos ⟨h, h2⟩]
    · rw [if_neg h2, if_neg (fun e => h2 e.2)]; rfl
  · rw [if_neg h, if_neg (fun e => h e.1)]; rfl
theorem MonLow.start (n : Nat) : MonLow 0 (Mon.start n) := by
  have h0 : ∀ p, (List.replicate n 0)[p]?.getD 0 = 0 := fun p => by
    by_cases h : p < n
    · rw [List.getElem?_replicate]; simp [h]
    · rw [List.getElem?_eq_none (by simpa using h)]; rfl
  exact ⟨fun p => by show (List.replicate n 0)[p]?.getD 0 ≤ _; rw [h0]; exact Nat.zero_le _, fun p => by show (List.replicate n 0)[p]?.getD 0 ≤ _; rw [h0]; exact Nat.zero_le _⟩
theorem nextRow_le {N : Nat} {m : Mon} (h : MonLow N m) (p r : Nat) : nextRow m p r ≤ N + 1 := by
  have := h.row p
  unfold nextRow; split <;> omega
theorem nextRow_pos (m : Mon) (p r : Nat) : 1 ≤ nextRow m p r := by unfold nextRow; split <;> omega
theorem MonLow.next {N : Nat} {m : Mon} (h : MonLow N m) {recover : List (List Nat)} {node r p k : Nat} (hr : r < 1048576) : MonLow (N + 1) (nextM recover node m r p k) := by
  refine ⟨fun q => ?_, fun q => ?_⟩
  · rw [last_next]; split
    · omega
    · exact h.last q
  · rw [row_next]; split
    · exact nextRow_le h p r
    · exact Nat.le_succ_of_le (h.row q)
theorem MonLow.report {N : Nat} {m : Mon} (h : MonLow N m) {recover : List (List Nat)} {node r k : Nat} {part : Int} : MonLow (N + 1) (reportT recover node m r part k).2 := by
  unfold reportT
  split
  · exact ⟨h.last, fun q => Nat.le_succ_of_le (h.row q)⟩
  · rename_i hb
    refine h.next ?_
    unfold badB at hb
    rw [decide_eq_true_eq] at hb
    omega
theorem MonLow.more {N N' : Nat} {m : Mon} (h : MonLow N m) (hn : N ≤ N') : MonLow N' m := ⟨h.last, fun q => Nat.le_trans (h.row q) hn⟩

/-! ### Rows (one partition that is started anew, round by round) -/
/-- The law's row: behind a rest of two rounds it begins again. -/
def rowT (row g : Nat) (first : Bool) : Nat := if first = true ∨ g = 2 then 1 else row + 1
theorem row_first {n p r : Nat} : nextRow (Mon.start n) p r = 1 := by
  have h0 : lastOf (Mon.start n) p = 0 := by
    show (List.replicate n 0)[p]?.getD 0 = 0
    by_cases h : p < n
    · rw [List.getElem?_replicate]; simp [h]
    · rw [List.getElem?_eq_none (by simpa using h)]; rfl
  unfold nextRow
  rw [if_neg (by omega)]
theorem row_on {m : Mon} {p r g : Nat} (hl : lastOf m p = r + 1) (hg : g ≤ 1) : nextRow m p (r + g) = rowOf m p + 1 := by
  unfold nextRow; rw [if_pos (by omega)]
theorem row_rest {m : Mon} {p r : Nat} (hl : lastOf m p = r + 1) : nextRow m p (r + 2) = 1 := by
  unfold nextRow; rw [if_neg (by omega)]

/-! ### Records kept till they are sealed -/
theorem note_take {node r p k did : Nat} {l : List Rec} : noteT node r p k did (l.take 4) = (l ++ [(⟨r, node, p, k, did⟩ : Rec)]).take 4 := by
  unfold noteT
  by_cases h : l.length < 4
  · rw [if_pos (by rw [List.length_take]; omega), List.take_of_length_le (by omega), List.take_of_length_le (by simp; omega)]
  · rw [if_neg (by rw [List.length_take]; omega), List.take_append_of_le_length (by omega)]

/-! ### What one partition does makes no other's row longer -/
structure Alike (p : Nat) (m n : Mon) : Prop where
  last : lastOf m p = lastOf n p
  row : rowOf m p = rowOf n p
theorem Alike.rfl' (p : Nat) (m : Mon) : Alike p m m := ⟨rfl, rfl⟩
theorem Alike.did {p r k : Nat} {m n : Mon} (h : Alike p m n) (recover : List (List Nat)) : didT recover m r p k = didT recover n r p k := by
  unfold didT nextRow
  rw [h.last, h.row]
theorem Alike.other {p q r k node : Nat} {m n : Mon} (h : Alike p m n) (hq : p ≠ q) (recover : List (List Nat)) : Alike p (nextM recover node m r q k) n :=
  ⟨by rw [last_next, if_neg (fun e => hq e.2.1)]; exact h.last, by rw [row_next, if_neg (fun e => hq e.2.1)]; exact h.row⟩
theorem Alike.same {p r k node node' N N' : Nat} {m n : Mon} (h : Alike p m n) (hm : MonOk N m) (hn : MonOk N' n) (hp : p < N) (hp' : p < N') (recover : List (List Nat)) : Alike p (nextM recover node m r p k) (nextM recover node' n r p k) := by
  refine ⟨?_, ?_⟩
  · rw [last_next, last_next, hm.last, hn.last, h.last]
    by_cases e : recOf recover p k = 1
    · rw [if_pos ⟨e, rfl, hp⟩, if_pos ⟨e, rfl, hp'⟩]
    · rw [if_neg (fun h => e h.1), if_neg (fun h => e h.1)]
  · rw [row_next, row_next, hm.row, hn.row, h.row]
    have e2 : nextRow m p r = nextRow n p r := by unfold nextRow; rw [h.last, h.row]
    by_cases e : recOf recover p k = 1
    · rw [if_pos ⟨e, rfl, hp⟩, if_pos ⟨e, rfl, hp'⟩, e2]
    · rw [if_neg (fun h => e h.1), if_neg (fun h => e h.1)]
theorem Alike.report_other {p r k node : Nat} {q : Nat} {m n : Mon} (h : Alike p m n) (hq : p ≠ q) (recover : List (List Nat)) : Alike p (reportT recover node m r (q : Int) k).2 n := by
  unfold reportT
  split
  · exact h
  · exact h.other hq recover
theorem Alike.report_same {p r k node node' : Nat} {m n : Mon} {recover : List (List Nat)} (h : Alike p m n) (hm : MonOk recover.length m) (hn : MonOk recover.length n) : (reportT recover node m r (p : Int) k).1 = (reportT recover node' n r (p : Int) k).1 ∧ Alike p (reportT recover node m r (p : Int) k).2 (reportT recover node' n r (p : Int) k).2 := by
  unfold reportT
  by_cases hb : badB recover.length r (p : Int) k = true
  · rw [if_pos hb, if_pos hb]; exact ⟨rfl, h⟩
  · rw [if_neg hb, if_neg hb]
    have hp : p < recover.length := by
      unfold badB at hb; rw [decide_eq_true_eq] at hb; omega
    exact ⟨by show (didT recover m r p k, 0) = (didT recover n r p k, 0); rw [h.did], h.same hm hn hp hp recover⟩

/-! ### The log -/
section
variable {α : Type}
def logT (l : List α) : List α := l.drop (l.length - 16)
def logPut (l : List α) (x : α) : List α := if 16 < l.length + 1 then (l ++ [x]).drop 1 else l ++ [x]
theorem log_len (l : List α) : (logT l).length = min l.length 16 := by unfold logT; rw [List.length_drop]; omega
theorem log_nil : logT ([] : List α) = [] := rfl
theorem log_put (l : List α) (x : α) : logPut (logT l) x = logT (l ++ [x]) := by
  unfold logPut
  rw [log_len]
  by_cases h : l.length < 16
  · rw [if_neg (by omega)]
    unfold logT
    rw [show l.length - 16 = 0 by omega, show (l ++ [x]).length - 16 = 0 by simp; omega]
    rfl
  · rw [if_pos (by omega)]
    unfold logT
    have e : (l ++ [x]).length - 16 = (l.length - 16) + 1 := by simp; omega
    rw [e, ← List.drop_append_of_le_length (by omega), List.drop_drop]
theorem log_take {l : List α} {i : Nat} {x : α} (h : l[i]? = some x) : logPut (logT (l.take i)) x = logT (l.take (i + 1)) := by
  rw [log_put, List.take_add_one, h]; rfl
/-- The law's cut of what was put. -/
theorem log_cut {l : List α} {i : Nat} (hi : i ≤ l.length) : logT (l.take i) = (l.take i).drop (i - 16) := by
  unfold logT; rw [List.length_take, show min i l.length = i by omega]
end
end HeaP
end Go.Proofs.YtabndibenffngaaDoor
