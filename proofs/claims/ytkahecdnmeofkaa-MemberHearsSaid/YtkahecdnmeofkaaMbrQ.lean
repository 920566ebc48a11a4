/- Plain: sets as bits, as the program and the document compute them; who bears a stamp, and the votes (chapter 12). No conditions beyond those that each states. -/
import Derived.KernelRfl
import Derived.Laws.Entries
import Derived.Test.YtkahecdnmeofkaaMbrP
import Derived.Test.YtkahecdnmeofkaaPlB
namespace MbrP
open Go

/-! ### One number -/
def just (n : Int) : Nat := if 0 ≤ n ∧ n < 7 then 2 ^ n.toNat else 0
def hasT (s : Nat) (n : Int) : Bool := (s &&& just n) != 0
def withT (s : Nat) (n : Int) : Nat := s ||| just n
def outT (s : Nat) (n : Int) : Nat := s &&& (255 - just n)
theorem just_out {n : Int} (h : ¬ (0 ≤ n ∧ n < 7)) : just n = 0 := if_neg h
theorem just_in {k : Nat} (h : k < 7) : just (k : Int) = 2 ^ k := by
  unfold just; rw [if_pos ⟨by omega, by omega⟩]; simp
theorem just_small (n : Int) : just n < 128 := by
  unfold just
  split
  · rename_i h
    obtain ⟨k, rfl⟩ := Int.eq_ofNat_of_zero_le h.1
    have : k < 7 := by omega
    have h2 : ∀ j : Fin 7, 2 ^ j.1 < 128 := by decide
    simpa using h2 ⟨k, this⟩
  · decide
theorem or_small {B : Nat} {a b : Nat} (ha : a < 2 ^ B) (hb : b < 2 ^ B) : a ||| b < 2 ^ B := Nat.or_lt_two_pow ha hb
theorem with_in {s : Nat} (h : s < 256) (n : Int) : withT s n < 256 := or_small (B := 8) h (Nat.lt_trans (just_small n) (by decide))
theorem with_in7 {s : Nat} (h : s < 128) (n : Int) : withT s n < 128 := or_small (B := 7) h (just_small n)
theorem out_in {s : Nat} (h : s < 256) (n : Int) : outT s n < 256 := Nat.lt_of_le_of_lt Nat.and_le_left h

theorem ofInt8 {a : Nat} (h : a < 256) : (BitVec.ofInt 8 (a : Int)).toNat = a := by
  rw [BitVec.toNat_ofInt]
  simp only [Nat.reducePow]
  omega
theorem wrap8 {a : Nat} (h : a < 256) : IntKind.u8.wrap (a : Int) = a := by
  have : IntKind.u8.wrap (a : Int) = (a : Int) % 256 := by simp [IntKind.wrap, IntKind.bits, IntKind.signed]
  rw [this]; omega
theorem bits_and {a b : Nat} (ha : a < 256) (hb : b < 256) : bits BinOp.and IntKind.u8 (a : Int) (b : Int) = ((a &&& b : Nat) : Int) := by
  have h : bits BinOp.and IntKind.u8 (a : Int) (b : Int) = IntKind.u8.wrap ((BitVec.ofInt 8 (a : Int) &&& BitVec.ofInt 8 (b : Int)).toNat : Int) := rfl
  rw [h, BitVec.toNat_and, ofInt8 ha, ofInt8 hb]
  exact wrap8 (Nat.lt_of_le_of_lt Nat.and_le_left ha)
theorem bits_or {a b : Nat} (ha : a < 256) (hb : b < 256) : bits BinOp.or IntKind.u8 (a : Int) (b : Int) = ((a ||| b : Nat) : Int) := by
  have h : bits BinOp.or IntKind.u8 (a : Int) (b : Int) = IntKind.u8.wrap ((BitVec.ofInt 8 (a : Int) ||| BitVec.ofInt 8 (b : Int)).toNat : Int) := rfl
  rw [h, BitVec.toNat_or, ofInt8 ha, ofInt8 hb]
  exact wrap8 (or_small (B := 8) ha hb)
theorem bits_out {a b : Nat} (ha : a < 256) (hb : b < 256) : bits BinOp.andNot IntKind.u8 (a : Int) (b : Int) = ((a &&& (255 - b) : Nat) : Int) := by
  have h : bits BinOp.andNot IntKind.u8 (a : Int) (b : Int) = IntKind.u8.wrap ((BitVec.ofInt 8 (a : Int) &&& ~~~BitVec.ofInt 8 (b : Int)).toNat : Int) := rfl
  rw [h, BitVec.toNat_and, BitVec.toNat_not, ofInt8 ha, ofInt8 hb]
  exact wrap8 (Nat.lt_of_le_of_lt Nat.and_le_left ha)
theorem shl_just {k : Nat} (h : k < 7) : IntKind.u8.wrap (1 * 2 ^ (k : Int).toNat) = ((just (k : Int) : Nat) : Int) := by
  rw [just_in h]
  have h2 : ∀ j : Fin 7, IntKind.u8.wrap (1 * 2 ^ (j.1 : Int).toNat) = ((2 ^ j.1 : Nat) : Int) := by decide +kernel
  exact h2 ⟨k, h⟩
theorem hasT_zero {s : Nat} {n : Int} (h : just n = 0) : hasT s n = false := by unfold hasT; rw [h]; simp
theorem hasT_fin : ∀ (s : Fin 256) (k : Fin 7), (s.1 &&& 2 ^ k.1 != 0) = s.1.testBit k.1 := by decide +kernel
theorem hasT_in {s : Nat} (hs : s < 256) {k : Nat} (hk : k < 7) : hasT s (k : Int) = s.testBit k := by
  unfold hasT; rw [just_in hk]; exact hasT_fin ⟨s, hs⟩ ⟨k, hk⟩
theorem shr_fin : ∀ (s : Fin 256) (k : Fin 8), ((s.1 : Int) / 2 ^ (k.1 : Int).toNat) = ((s.1 / 2 ^ k.1 : Nat) : Int) ∧ (s.1 / 2 ^ k.1 &&& 1) = (s.1.testBit k.1).toNat := by decide +kernel
/-- The document's: s>>k&1. -/
theorem shr_bit {s : Nat} (hs : s < 256) {k : Nat} (hk : k < 8) : bits BinOp.and IntKind.u8 ((s : Int) / 2 ^ (k : Int).toNat) 1 = ((s.testBit k).toNat : Int) := by
  obtain ⟨h1, h2⟩ := shr_fin ⟨s, hs⟩ ⟨k, hk⟩
  simp only at h1 h2
  rw [h1]
  have h3 : s / 2 ^ k < 256 := Nat.lt_of_le_of_lt (Nat.div_le_self _ _) hs
  exact (bits_and (b := 1) h3 (by decide)).trans (by rw [h2])

/-! ### Sets of some -/
def ofT (l : List Int) : Nat := l.foldl withT 0
theorem ofT_snoc (l : List Int) (x : Int) : ofT (l ++ [x]) = withT (ofT l) x := by unfold ofT; rw [List.foldl_append]; rfl
theorem ofT_take {l : List Int} {k : Nat} {x : Int} (h : l[k]? = some x) : ofT (l.take (k + 1)) = withT (ofT (l.take k)) x := by
  rw [List.take_add_one, h]; exact ofT_snoc _ _
theorem fold_in : ∀ (l : List Int) (s : Nat), s < 128 → l.foldl withT s < 128
  | [], _, h => h
  | x :: l, _, h => fold_in l _ (with_in7 h x)
theorem ofT_in (l : List Int) : ofT l < 128 := fold_in l 0 (by decide)
def ints (l : List Nat) : List Int := l.map Int.ofNat
theorem ints_length (l : List Nat) : (ints l).length = l.length := List.length_map _
theorem ints_get {l : List Nat} {j k : Nat} (h : l[j]? = some k) : (ints l)[j]? = some (k : Int) := by unfold ints; rw [List.getElem?_map, h]; rfl
theorem lst_lt {s k : Nat} (h : k ∈ lst s) : k < 7 := by unfold lst at h; simpa using (List.mem_filter.1 h).1
theorem lst_mem {s k : Nat} : k ∈ lst s ↔ k < 7 ∧ s.testBit k = true := by unfold lst; rw [List.mem_filter]; simp
theorem lst_length (s : Nat) : (lst s).length ≤ 7 := by unfold lst; exact Nat.le_trans (List.length_filter_le _ _) (by simp)
theorem ofT_lst_fin : ∀ q : Fin 128, ofT (ints (lst q.1)) = q.1 := by decide +kernel
theorem ofT_lst {q : Nat} (h : q < 128) : ofT (ints (lst q)) = q := ofT_lst_fin ⟨q, h⟩
theorem lst_nodup (s : Nat) : (lst s).Nodup := by unfold lst; exact List.Pairwise.filter _ List.nodup_range
/-- Seven bits of one's own. -/
theorem mask_fin : ∀ (r0 r1 r2 r3 r4 r5 r6 : Bool), (r0.toNat + 2 * r1.toNat + 4 * r2.toNat + 8 * r3.toNat + 16 * r4.toNat + 32 * r5.toNat + 64 * r6.toNat < 128) ∧ (List.range 7).map (fun k => (r0.toNat + 2 * r1.toNat + 4 * r2.toNat + 8 * r3.toNat + 16 * r4.toNat + 32 * r5.toNat + 64 * r6.toNat).testBit k) = [r0, r1, r2, r3, r4, r5, r6] := by decide +kernel
theorem mask (r : Nat → Bool) : ∃ q, q < 128 ∧ ∀ k, k < 7 → q.testBit k = r k := by
  obtain ⟨h1, h2⟩ := mask_fin (r 0) (r 1) (r 2) (r 3) (r 4) (r 5) (r 6)
  refine ⟨_, h1, fun k hk => ?_⟩
  have h3 := congrArg (fun l => l[k]?) h2
  simp only [List.getElem?_map, List.getElem?_range hk, Option.map_some] at h3
  match k, hk with
  | 0, _ => simpa using h3
  | 1, _ => simpa using h3
  | 2, _ => simpa using h3
  | 3, _ => simpa using h3
  | 4, _ => simpa using h3
  | 5, _ => simpa using h3
  | 6, _ => simpa using h3
/-- A set of some of a set's. -/
def sub (s : Nat) (p : Nat → Bool) : Nat := ofT (ints ((lst s).filter p))
theorem sub_in (s : Nat) (p : Nat → Bool) : sub s p < 128 := ofT_in _
theorem lst_sub (s : Nat) (p : Nat → Bool) : lst (sub s p) = (lst s).filter p := by
  obtain ⟨q, hq, hb⟩ := mask (fun k => p k && s.testBit k)
  have e : (lst s).filter p = lst q := by
    unfold lst
    rw [List.filter_filter]
    apply List.filter_congr
    intro k hk
    rw [hb k (by simpa using hk)]
  unfold sub
  rw [e, ofT_lst hq]
theorem sub_len (s : Nat) (p : Nat → Bool) : len8 (sub s p) = ((lst s).filter p).length := by
  rw [← lst_sub]
  exact ((lists_all ⟨_, sub_in s p⟩).2).symm
theorem sub_take {s : Nat} {p : Nat → Bool} {k n : Nat} (h : (lst s)[k]? = some n) : ofT (ints (((lst s).take (k + 1)).filter p)) = if p n = true then withT (ofT (ints (((lst s).take k).filter p))) (n : Int) else ofT (ints (((lst s).take k).filter p)) := by
  rw [List.take_add_one, h, List.filter_append]
  simp only [Option.toList, List.filter_cons, List.filter_nil]
  split
  · unfold ints; rw [List.map_append]; exact ofT_snoc _ _
  · simp

/-! ### Votes -/
section
variable {α : Type} [DecidableEq α]
def bear (s : Nat) (st : Nat → α) (x : α) : Nat := sub s (fun n => decide (st n = x))
theorem lst_bear (s : Nat) (st : Nat → α) (x : α) : lst (bear s st x) = (lst s).filter (fun n => decide (st n = x)) := lst_sub _ _
/-- Of a stamp the first who bears it. -/
def firstT (s : Nat) (st : Nat → α) (x : α) : Nat := ((lst s).filter (fun n => decide (st n = x))).headD 0
theorem first_is {s : Nat} {st : Nat → α} {x : α} (h : x ∈ (lst s).map st) : ((lst s).filter (fun n => decide (st n = x)))[0]? = some (firstT s st x) ∧ firstT s st x ∈ lst s ∧ st (firstT s st x) = x := by
  obtain ⟨n, hn, e⟩ := List.mem_map.1 h
  have hm : n ∈ (lst s).filter (fun n => decide (st n = x)) := List.mem_filter.2 ⟨hn, by simpa using e⟩
  unfold firstT
  cases hl : (lst s).filter (fun n => decide (st n = x)) with
  | nil => rw [hl] at hm; cases hm
  | cons a t =>
    have ha : a ∈ (lst s).filter (fun n => decide (st n = x)) := by rw [hl]; exact List.mem_cons_self
    obtain ⟨h1, h2⟩ := List.mem_filter.1 ha
    exact ⟨rfl, h1, by simpa using h2⟩
def votesT (s : Nat) (st : Nat → α) : List Int := (lst s).map fun n => ((firstT s st (st n) : Nat) : Int)
theorem cnt_votes {s : Nat} {st : Nat → α} {x : α} (hx : x ∈ (lst s).map st) : MidP.cnt ((firstT s st x : Nat) : Int) (votesT s st) = cnt x ((lst s).map st) := by
  unfold MidP.cnt cnt votesT
  rw [List.countP_map, List.countP_map]
  apply List.countP_congr
  intro n hn
  simp only [Function.comp, beq_iff_eq, decide_eq_true_eq]
  have h1 := (first_is (List.mem_map.2 ⟨n, hn, rfl⟩ : st n ∈ (lst s).map st)).2.2
  have h2 := (first_is hx).2.2
  constructor
  · intro e
    have e : firstT s st (st n) = firstT s st x := by omega
    rw [e, h2] at h1
    exact h1.symm
  · intro e
    rw [e]
theorem votes_length (s : Nat) (st : Nat → α) : (votesT s st).length = (lst s).length := List.length_map _
/-- What Most answers of the votes: the stamp that more than half bear. -/
theorem most_votes (s : Nat) (st : Nat → α) : MidP.mostT (votesT s st) = match mostT ((lst s).map st) with | some x => (((firstT s st x : Nat) : Int), true) | none => (0, false) := by
  cases h : mostT ((lst s).map st) with
  | some x =>
    have hm := mostT_some h
    have hx := most_mem hm
    refine MidP.mostT_yes ?_
    unfold MidP.Most
    unfold Most at hm
    rw [cnt_votes hx, votes_length]
    simpa using hm
  | none =>
    refine MidP.mostT_no fun v hv hm => ?_
    unfold votesT at hv
    obtain ⟨n, hn, rfl⟩ := List.mem_map.1 hv
    have hx : st n ∈ (lst s).map st := List.mem_map.2 ⟨n, hn, rfl⟩
    unfold MidP.Most at hm
    rw [cnt_votes hx, votes_length] at hm
    have : mostT ((lst s).map st) = some (st n) := mostT_yes (by unfold Most; simpa using hm)
    rw [h] at this
    cases this
end
end MbrP
