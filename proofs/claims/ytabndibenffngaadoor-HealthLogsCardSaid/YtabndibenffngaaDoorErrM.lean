/- What an error is in memory (errV, ErrIn), and the contract of fault.New. No conditions beyond the readings of memory that each states. · Plain facts on an error's links: what stands at the n-th step of unwrapping. No conditions. · Contract of the document's Number, E, At and Over: the texts that they make. Conditions: the number is an int64. · Contracts of the document's E, At and Over: the texts that they make. Conditions: numbers are int64; a cause's text has at most 1000000 bytes. · Contract of the law's Read at an error in memory: its text. Conditions: where the faults lie; each number from 1 to 1000000, each place from -1 on; at most 12 links. -/
import Derived.Test.YtabndibenffngaaDoorChecked
import Derived.WalkKit
import Derived.LaidEql
import Derived.Stop.Asserts
import Derived.RowKitTokens
import Derived.Lib.Hide
import Derived.ShutString
import Derived.Deep.RegionHeld3
namespace Go.Proofs.YtabndibenffngaaDoor
open Go.RowKit Go.Extern.Stop Go.Stop Go.Extern

/-- An error: faults (block, code, place), the outermost first, and perhaps a bare number below them. -/
def errV : List (Nat × Int × Int) → Option Int → Value
  | [], none => .nilIface
  | [], some n => .iface 30 (.int .i64 n)
  | (b, _, _) :: _, _ => .iface 80 (.pointer (some ⟨b, 0, none⟩))

/-- Its faults lie in memory, each in a block below the one that wraps it. -/
def ErrIn (w : World) (t : Option Int) : Nat → List (Nat × Int × Int) → Prop
  | _, [] => True
  | B, (b, c, a) :: r => b < B ∧ w.heap[b]? = some (.cells #[.int .i64 c, .int .i64 a, errV r t] 82 (0, 0)) ∧ ErrIn w t b r

theorem ErrIn.mono {w : World} {t : Option Int} : ∀ {l : List (Nat × Int × Int)} {B B' : Nat}, ErrIn w t B l → B ≤ B' → ErrIn w t B' l
  | [], _, _, _, _ => trivial
  | (_, _, _) :: _, _, _, ⟨h1, h2, h3⟩, hB => ⟨Nat.lt_of_lt_of_le h1 hB, h2, h3⟩

theorem ErrIn.keep {w w' : World} {t : Option Int} : ∀ {l : List (Nat × Int × Int)} {B : Nat}, ErrIn w t B l → (∀ k, k < B → w'.heap[k]? = w.heap[k]?) → ErrIn w' t B l
  | [], _, _, _ => trivial
  | (_, _, _) :: _, _, ⟨h1, h2, h3⟩, hk => ⟨h1, (hk _ h1).trans h2, h3.keep (fun k hk' => hk k (Nat.lt_trans hk' h1))⟩

theorem ErrIn.below {w w' : World} {t : Option Int} {l : List (Nat × Int × Int)} {B C : Nat} (h : ErrIn w t B l) (hb : Below C w w') (hB : B ≤ C) : ErrIn w' t B l :=
  h.keep fun k hk => hb.block k (by omega)

theorem ErrIn.tail {w : World} {t : Option Int} {B : Nat} {x : Nat × Int × Int} {l : List (Nat × Int × Int)} (h : ErrIn w t B (x :: l)) : ErrIn w t B l := by
  obtain ⟨b, c, a⟩ := x
  exact h.2.2.mono (Nat.le_of_lt h.1)

theorem ErrIn.drop {w : World} {t : Option Int} {B : Nat} : ∀ {l : List (Nat × Int × Int)} (n : Nat), ErrIn w t B l → ErrIn w t B (l.drop n)
  | _, 0, h => by simpa using h
  | [], _ + 1, _ => trivial
  | _ :: l, n + 1, h => by simpa using ErrIn.drop n h.tail

theorem cells3 {w : World} {b : Nat} {x y z : Value} {t : TypeId} (h : w.heap[b]? = some (.cells #[x, y, z] t (0, 0))) :
    w.cell? ⟨b, 0, none⟩ = some x ∧ w.cell? ⟨b, 1, none⟩ = some y ∧ w.cell? ⟨b, 2, none⟩ = some z := by
  refine ⟨?_, ?_, ?_⟩ <;> simp [World.cell?, h]

theorem asErrno_E (n : Value) (w : World) : (Instr.typeAssert (.iface 30 n) 25 30 true).run Tryd.prog w = .ok (.tuple #[n, .bool true]) w := by kernel_rfl
theorem asErrno_F (n : Value) (w : World) : (Instr.typeAssert (.iface 80 n) 25 30 true).run Tryd.prog w = .ok (.tuple #[.int .i64 0, .bool false]) w := by kernel_rfl
theorem asFault_F (n : Value) (w : World) : (Instr.typeAssert (.iface 80 n) 25 80 true).run Tryd.prog w = .ok (.tuple #[n, .bool true]) w := by kernel_rfl
theorem asFault_E (n : Value) (w : World) : (Instr.typeAssert (.iface 30 n) 25 80 true).run Tryd.prog w = .ok (.tuple #[.pointer none, .bool false]) w := by kernel_rfl

def place (a : Int) : Int := if a < -1 then -1 else a

theorem new_ok (a : Int) (w : World) :
    Calls Tryd.prog 11 #[.int .i64 0, .int .i64 a] w fun e w' => e = .returned .nilIface ∧ w = w' := by
  go_enter Tryd.func11, Tryd.ntmps11
  go_wp2
  go_ret
  exact ⟨rfl, rfl⟩

theorem new_some (c a : Int) (w : World) (hc : (c == 0) = false) :
    Calls Tryd.prog 11 #[.int .i64 c, .int .i64 a] w fun e w' => e = .returned (.iface 80 (.pointer (some ⟨w.heap.size, 0, none⟩))) ∧ w' = w.alloc (.cells #[.int .i64 c, .int .i64 (place a), .nilIface] 82) := by
  by_cases ha : a < -1
  · have hp : place a = -1 := if_pos ha
    rw [hp]; clear hp
    go_enter Tryd.func11, Tryd.ntmps11
    go_wp2
    all_goals (go_ret; exact ⟨rfl, rfl⟩)
  · have hp : place a = a := if_neg ha
    rw [hp]; clear hp
    go_enter Tryd.func11, Tryd.ntmps11
    go_wp2
    all_goals (go_ret; exact ⟨rfl, rfl⟩)

end Go.Proofs.YtabndibenffngaaDoor
namespace Go.Proofs.YtabndibenffngaaDoor
open Go.RowKit

/-- What n steps of unwrapping come to. -/
def errAt (l : List (Nat × Int × Int)) (t : Option Int) (n : Nat) : Value := errV (l.drop n) (if n ≤ l.length then t else none)
def nd (l : List (Nat × Int × Int)) (n : Nat) : Nat × Int × Int := l.getD n (0, 0, 0)
def flt (b : Nat) : Value := .iface 80 (.pointer (some ⟨b, 0, none⟩))

theorem errAt_zero (l : List (Nat × Int × Int)) (t : Option Int) : errAt l t 0 = errV l t := by simp [errAt]

theorem errAt_F {l : List (Nat × Int × Int)} {t : Option Int} {n : Nat} (h : n < l.length) : errAt l t n = flt (nd l n).1 := by
  unfold errAt nd flt
  rw [List.drop_eq_getElem_cons h, List.getD_eq_getElem?_getD, List.getElem?_eq_getElem h]
  rcases l[n] with ⟨b, c, a⟩
  simp [errV]

theorem errAt_end (l : List (Nat × Int × Int)) (t : Option Int) : errAt l t l.length = errV [] t := by simp [errAt]

theorem errAt_past {l : List (Nat × Int × Int)} {t : Option Int} {n : Nat} (h : l.length < n) : errAt l t n = .nilIface := by
  unfold errAt
  rw [List.drop_of_length_le (by omega), if_neg (by omega)]
  rfl

theorem ErrIn.node {w : World} {t : Option Int} : ∀ {l : List (Nat × Int × Int)} {B : Nat} {n : Nat}, ErrIn w t B l → n < l.length →
    (nd l n).1 < B ∧ w.heap[(nd l n).1]? = some (.cells #[.int .i64 (nd l n).2.1, .int .i64 (nd l n).2.2, errAt l t (n + 1)] 82 (0, 0))
  | [], _, _, _, h => absurd h (by simp)
  | (b, c, a) :: r, B, 0, ⟨h1, h2, _⟩, _ => by
    refine ⟨h1, ?_⟩
    have e : errAt ((b, c, a) :: r) t (0 + 1) = errV r t := by simp [errAt]
    rw [e]; exact h2
  | (b, c, a) :: r, B, n + 1, ⟨h1, _, h3⟩, h => by
    have h' : n < r.length := by simpa using h
    obtain ⟨g1, g2⟩ := ErrIn.node (n := n) h3 h'
    have e1 : nd ((b, c, a) :: r) (n + 1) = nd r n := by simp [nd]
    have e2 : errAt ((b, c, a) :: r) t (n + 1 + 1) = errAt r t (n + 1) := by simp [errAt]
    rw [e1, e2]
    exact ⟨by omega, g2⟩

theorem ErrIn.desc {w : World} {t : Option Int} : ∀ {l : List (Nat × Int × Int)} {B : Nat} {i j : Nat}, ErrIn w t B l → i < j → j < l.length → (nd l j).1 < (nd l i).1
  | [], _, _, _, _, _, h => absurd h (by simp)
  | (b, c, a) :: r, _, 0, j + 1, ⟨_, _, h3⟩, _, h => by
    have h' : j < r.length := by simpa using h
    have e : nd ((b, c, a) :: r) (j + 1) = nd r j := by simp [nd]
    rw [e]
    exact (ErrIn.node h3 h').1
  | (b, c, a) :: r, _, i + 1, j + 1, ⟨_, _, h3⟩, hij, h => by
    have h' : j < r.length := by simpa using h
    have e : nd ((b, c, a) :: r) (j + 1) = nd r j := by simp [nd]
    have e' : nd ((b, c, a) :: r) (i + 1) = nd r i := by simp [nd]
    rw [e, e']
    exact ErrIn.desc h3 (by omega) h'
  | (_, _, _) :: _, _, _, 0, _, h, _ => absurd h (by omega)

theorem cell0 {w : World} {p : Nat} {v : Value} {t : TypeId} (h : w.heap[p]? = some (.cells #[v] t (0, 0))) : w.cell? ⟨p, 0, none⟩ = some v ∧ w.frozen? ⟨p, 0, none⟩ = false := by
  simp [World.cell?, World.frozen?, h]

theorem set0 {w : World} {p : Nat} {v v' : Value} {t : TypeId} (h : w.heap[p]? = some (.cells #[v] t (0, 0))) : (w.setCell ⟨p, 0, none⟩ v').heap[p]? = some (.cells #[v'] t (0, 0)) := by
  simp only [World.setCell, Array.getElem?_modify, if_pos, h]; rfl

theorem far {w : World} {p b : Nat} {v : Value} (h : b ≠ p) : (w.setCell ⟨p, 0, none⟩ v).heap[b]? = w.heap[b]? :=
  Below.heap_setCell w ⟨p, 0, none⟩ v b h

theorem grown_set {w w' : World} {p : Nat} {v : Value} (h : w.grownBy w' (some p)) : w.grownBy (w'.setCell ⟨p, 0, none⟩ v) (some p) :=
  ⟨h.os, h.tape, h.output, by simpa [World.setCell] using h.size, fun k hk hne => (far (fun e => hne (by rw [e]))).trans (h.block k hk hne)⟩

theorem grown_refl (w : World) (row : Option Nat) : w.grownBy w row := ⟨rfl, rfl, rfl, Nat.le_refl _, fun _ _ _ => rfl⟩
end Go.Proofs.YtabndibenffngaaDoor
namespace Go.Proofs.YtabndibenffngaaDoor
open Go.RowKit Go.Extern.Stop Go.Stop Go.Extern

def digs : Nat → Nat → List UInt8 → List UInt8
  | 0, _, acc => acc
  | f + 1, n, acc => if n / 10 = 0 then (48 + UInt8.ofNat (n % 10)) :: acc else digs f (n / 10) ((48 + UInt8.ofNat (n % 10)) :: acc)

def numN (n : Nat) : List UInt8 := digs 20 n []

def strV (l : List UInt8) : Value := .string ⟨l.toArray⟩

theorem conv1 (b : Int) (w : World) : (convert 96 9 (.slice (some ⟨w.heap.size, 0, none⟩) 1 1)).run Tryd.prog (w.alloc (.cells #[.int .u8 b] 5)) = .ok (.string ⟨#[UInt8.ofNat b.toNat]⟩) (w.alloc (.cells #[.int .u8 b] 5)) := by
  rw [run_convert_bytes_string _ _ _ 5 _ _ _ Tryd.underlying96 Tryd.underlying5 Tryd.underlying9]
  rw [run_bytesToString _ _ 1 1 [b] ?_]
  · rfl
  · have hc : (w.alloc (.cells #[.int .u8 b] 5)).cell? ⟨w.heap.size, 0, none⟩ = some (.int .u8 b) := by
      rw [World.cell?_alloc_at _ _ _ _ rfl]; rfl
    simp [loadCells, go_sem, hc]

def NumRel (n : Nat) (w : World) (v s : Value) (wr : World) : Prop :=
  ∃ f m acc, v = .int .i64 (m : Nat) ∧ s = strV acc ∧ m < 10 ^ f ∧ m ≤ 9223372036854775807 ∧ f ≤ 20 ∧ 1 ≤ f ∧ acc.length + f = 20 ∧ digs f m acc = numN n ∧ Below w.heap.size w wr

set_option maxRecDepth 100000 in
set_option maxHeartbeats 1000000 in
theorem number_pos (n : Nat) (w : World) (hn : n ≤ 9223372036854775807) :
    Calls Tryd.prog 28 #[.int .i64 n] w fun e w' => e = .returned (strV (numN n)) ∧ Below w.heap.size w w' := by
  have h1 : ((n : Int) == -9223372036854775808) = false := by rw [beq_eq_false_iff_ne]; omega
  have h2 : decide ((n : Int) < 0) = false := by rw [decide_eq_false_iff_not]; omega
  have hcv := conv1
  have Hn := Lib.hid hn
  clear hn
  go_enter Tryd.func28, Tryd.ntmps28
  go_wp2_with fail
  go_loopw [0, 3] (NumRel n w) (fun v _ _ => (intOf v).toNat)
  case atStart => exact ⟨20, n, [], rfl, rfl, by have := Hn.out; omega, Hn.out, by omega, by omega, rfl, rfl, Below.refl _ _⟩
  case round =>
    obtain ⟨f, m, acc, rfl, rfl, hm, hm2, hf, hf1, hacc, hd, hb⟩ := hrel
    unfold strV
    have Hb := Lib.hid hb
    have Hd := Lib.hid hd
    have Hm := Lib.hid hm
    have Hm2 := Lib.hid hm2
    have Ha := Lib.hid hacc
    have Hf := Lib.hid hf1
    have hal : acc.length ≤ 20 := by omega
    clear hb hd hm hm2 hacc hf hf1 h1 h2
    have hw : Hid (wrap64 ((m : Int) / 10) = ((m / 10 : Nat) : Int)) := Lib.hid (by unfold wrap64; have := Hm2.out; omega)
    have hcat : Hid (∀ x : UInt8, ByteArray.mk #[x] ++ ByteArray.mk acc.toArray = ByteArray.mk (x :: acc).toArray) := Lib.hid fun x => ByteArray.mk_append_mk [x] acc
    by_cases hz : m / 10 = 0
    · have hz2 : (wrap64 ((m : Int) / 10) == 0) = true := by rw [hw.out, hz]; rfl
      have Hz := Lib.hid hz
      clear hz
      go_wp2_with fail
      go_ret
      refine ⟨?_, (Hb.out.alloc Hb.out.size _)⟩
      have hd := Hd.out
      obtain ⟨f', rfl⟩ : ∃ f', f = f' + 1 := ⟨f - 1, by have := Hf.out; omega⟩
      simp only [digs, if_pos Hz.out] at hd
      rw [← hd]
      show Ending.returned (Value.string _) = _
      rw [hcat.out]; rfl
    · have hz2 : (wrap64 ((m : Int) / 10) == 0) = false := by rw [hw.out, beq_eq_false_iff_ne]; omega
      have Hz := Lib.hid hz
      clear hz
      go_wp2_with fail
      go_roundw
      case rel =>
        rw [hw.out, hcat.out]
        have hd := Hd.out
        have ha := Ha.out
        have hm2 := Hm2.out
        have hm := Hm.out
        obtain ⟨f', rfl⟩ : ∃ f', f = f' + 1 := ⟨f - 1, by have := Hf.out; omega⟩
        simp only [digs, if_neg Hz.out] at hd
        have h10 : m / 10 < 10 ^ f' := by rw [Nat.pow_succ] at hm; omega
        have h1f : 1 ≤ f' := by
          rcases Nat.eq_zero_or_pos f' with rfl | h
          · simp at h10; exact absurd h10 (by have := Hz.out; omega)
          · exact h
        exact ⟨f', m / 10, _, rfl, rfl, h10, by omega, by omega, h1f, by simp; omega, hd, Hb.out.alloc Hb.out.size _⟩
      case measure => rw [hw.out]; simp only [intOf]; have := Hz.out; omega
end Go.Proofs.YtabndibenffngaaDoor
namespace Go.Proofs.YtabndibenffngaaDoor
open Go.RowKit Go.Extern.Stop Go.Stop Go.Extern

theorem digs_len : ∀ (f n : Nat) (acc : List UInt8), (digs f n acc).length ≤ acc.length + f
  | 0, _, _ => by simp [digs]
  | f + 1, n, acc => by
    unfold digs
    split
    · simp
    · have := digs_len f (n / 10) ((48 + UInt8.ofNat (n % 10)) :: acc)
      simp at this; omega
theorem numN_len (n : Nat) : (numN n).length ≤ 20 := by simpa [numN] using digs_len 20 n []

def numI (a : Int) : List UInt8 := if a < 0 then 45 :: numN (-a).toNat else numN a.toNat
theorem numI_len (a : Int) : (numI a).length ≤ 21 := by
  unfold numI
  split
  · have := numN_len (-a).toNat; simp; omega
  · have := numN_len a.toNat; omega

set_option maxRecDepth 100000 in
theorem number_neg (w : World) :
    Calls Tryd.prog 28 #[.int .i64 (-1)] w fun e w' => e = .returned (strV (45 :: numN 1)) ∧ Below w.heap.size w w' := by
  have h1 : ((-1 : Int) == -9223372036854775808) = false := by decide
  have H := Lib.hid (number_pos 1 w (by omega))
  have hl := numN_len 1
  have hcat : Hid (∀ x : UInt8, ByteArray.mk #[x] ++ ByteArray.mk (numN 1).toArray = ByteArray.mk (x :: numN 1).toArray) := Lib.hid fun x => ByteArray.mk_append_mk [x] (numN 1)
  unfold strV at *
  generalize numN 1 = l at *
  go_enter Tryd.func28, Tryd.ntmps28
  go_wp2_with fail
  refine H.out.mono ?_
  rintro e w1 ⟨rfl, hb⟩
  have Hb := Lib.hid hb
  clear hb
  go_wp2_with fail
  go_ret
  refine ⟨?_, Hb.out⟩
  rw [← hcat.out]; rfl

theorem number_any (a : Int) (w : World) (h1 : -1 ≤ a) (h2 : a ≤ 9223372036854775807) :
    Calls Tryd.prog 28 #[.int .i64 a] w fun e w' => e = .returned (strV (numI a)) ∧ Below w.heap.size w w' := by
  by_cases h : a = -1
  · subst h; exact number_neg w
  · obtain ⟨n, rfl⟩ := Int.eq_ofNat_of_zero_le (show 0 ≤ a by omega)
    have e : numI (n : Int) = numN n := by unfold numI; rw [if_neg (by omega)]; rfl
    rw [e]
    exact number_pos n w (by omega)

theorem e_any (n : Nat) (w : World) (h : n ≤ 1000000) :
    Calls Tryd.prog 33 #[.int .i64 n] w fun e w' => e = .returned (strV (numN n)) ∧ Below w.heap.size w w' := by
  have H := Lib.hid (number_pos n w (by omega))
  unfold strV at *
  go_enter Tryd.func33, Tryd.ntmps33
  go_wp2_with fail
  refine H.out.mono ?_
  rintro e w1 ⟨rfl, hb⟩
  have Hb := Lib.hid hb
  clear hb
  go_wp2_with fail
  go_ret
  exact ⟨rfl, Hb.out⟩

def plc (a : Int) : Int := if a < 0 then -1 else a
def atT (c : Nat) (a : Int) : List UInt8 := numN c ++ 64 :: numI (plc a)
theorem atT_len (c : Nat) (a : Int) : (atT c a).length ≤ 42 := by
  unfold atT
  have := numN_len c; have := numI_len (plc a)
  simp; omega

theorem cat3 (x y z : List UInt8) : ByteArray.mk x.toArray ++ ByteArray.mk y.toArray ++ ByteArray.mk z.toArray = ByteArray.mk (x ++ y ++ z).toArray := by
  rw [ByteArray.mk_append_mk, ByteArray.mk_append_mk]

set_option maxRecDepth 100000 in
theorem at_any (c : Nat) (a : Int) (w : World) (hc : c ≤ 1000000) (ha : a ≤ 9223372036854775807) :
    Calls Tryd.prog 12 #[.int .i64 c, .int .i64 a] w fun e w' => e = .returned (strV (atT c a)) ∧ Below w.heap.size w w' := by
  have H1 := Lib.hid (fun W => number_pos c W (by omega))
  have H2 := Lib.hid (fun W => number_any (plc a) W (by unfold plc; split <;> omega) (by unfold plc; split <;> omega))
  have hl1 := numN_len c
  have hl2 := numI_len (plc a)
  have hcat : Hid (ByteArray.mk (numN c).toArray ++ ByteArray.mk #[64] ++ ByteArray.mk (numI (plc a)).toArray = ByteArray.mk (atT c a).toArray) := Lib.hid (by
    refine (cat3 (numN c) [64] (numI (plc a))).trans ?_
    simp [atT])
  clear hc ha
  by_cases h : a < 0
  · have e : plc a = -1 := if_pos h
    rw [e] at H2 hl2 hcat
    generalize hA : atT c a = A at *
    clear e hA
    unfold strV at *
    generalize numN c = x at *
    generalize numI (-1) = y at *
    go_enter Tryd.func12, Tryd.ntmps12
    go_wp2_with fail
    refine (H1.out _).mono ?_
    rintro e w1 ⟨rfl, hb1⟩
    have Hb1 := Lib.hid hb1
    clear hb1
    go_wp2_with fail
    refine (H2.out _).mono ?_
    rintro e w2 ⟨rfl, hb2⟩
    have Hb2 := Lib.hid (Hb1.out.trans (hb2.mono Hb1.out.size))
    clear hb2
    go_wp2_with fail
    go_ret
    refine ⟨?_, Hb2.out⟩
    rw [← hcat.out]; rfl
  · have e : plc a = a := if_neg h
    rw [e] at H2 hl2 hcat
    generalize hA : atT c a = A at *
    clear e hA
    unfold strV at *
    generalize numN c = x at *
    generalize numI a = y at *
    go_enter Tryd.func12, Tryd.ntmps12
    go_wp2_with fail
    refine (H1.out _).mono ?_
    rintro e w1 ⟨rfl, hb1⟩
    have Hb1 := Lib.hid hb1
    clear hb1
    go_wp2_with fail
    refine (H2.out _).mono ?_
    rintro e w2 ⟨rfl, hb2⟩
    have Hb2 := Lib.hid (Hb1.out.trans (hb2.mono Hb1.out.size))
    clear hb2
    go_wp2_with fail
    go_ret
    refine ⟨?_, Hb2.out⟩
    rw [← hcat.out]; rfl

end Go.Proofs.YtabndibenffngaaDoor
namespace Go.Proofs.YtabndibenffngaaDoor
open Go.RowKit Go.Extern.Stop Go.Stop Go.Extern

def sep (first : Bool) : List UInt8 := if first then [] else [62]
def sufT (t : Option Int) : Bool → List (Nat × Int × Int) → List UInt8
  | first, [] => match t with
    | none => []
    | some m => sep first ++ numN m.toNat
  | first, (_, c, a) :: r => sep first ++ atT c.toNat a ++ sufT t false r

def Good (l : List (Nat × Int × Int)) (t : Option Int) : Prop :=
  (∀ n, n < l.length → 1 ≤ (nd l n).2.1 ∧ (nd l n).2.1 ≤ 199 ∧ -1 ≤ (nd l n).2.2 ∧ (nd l n).2.2 ≤ 9223372036854775807) ∧ ∀ m, t = some m → 1 ≤ m ∧ m ≤ 199

theorem sufT_at {l : List (Nat × Int × Int)} {t : Option Int} {n : Nat} (first : Bool) (h : n < l.length) :
    sufT t first (l.drop n) = sep first ++ atT (nd l n).2.1.toNat (nd l n).2.2 ++ sufT t false (l.drop (n + 1)) := by
  unfold nd
  rw [List.drop_eq_getElem_cons h, List.getD_eq_getElem?_getD, List.getElem?_eq_getElem h]
  rcases l[n] with ⟨b, c, a⟩
  simp [sufT]

def ReadRel (l : List (Nat × Int × Int)) (t : Option Int) (w : World) (v s k : Value) (wr : World) : Prop :=
  ∃ n acc, n ≤ l.length ∧ v = errAt l t n ∧ k = .int .i64 (n : Nat) ∧ s = strV acc ∧ acc.length ≤ 64 * n ∧ acc ++ sufT t (n == 0) (l.drop n) = sufT t true l ∧ Below w.heap.size w wr

def ReadPost (l : List (Nat × Int × Int)) (t : Option Int) (w : World) (e : Ending) (w' : World) : Prop := e = .returned (strV (sufT t true l)) ∧ Below w.heap.size w w'

theorem bcat (x y : List UInt8) : ByteArray.mk x.toArray ++ ByteArray.mk y.toArray = ByteArray.mk (x ++ y).toArray := ByteArray.mk_append_mk x y

set_option maxRecDepth 100000 in
set_option maxHeartbeats 2000000 in
theorem read_any (B : Nat) (l : List (Nat × Int × Int)) (t : Option Int) (w : World) (hl : l.length ≤ 12) (hB : B ≤ w.heap.size) (hin : ErrIn w t B l) (hgood : Good l t) :
    Calls Tryd.prog 18 #[errV l t] w (ReadPost l t w) := by
  have a1 := asErrno_E
  have a2 := asErrno_F
  have a3 := asFault_F
  have a4 := asFault_E
  have hst : Hid (ReadRel l t w (errV l t) (.string ⟨#[]⟩) (.int .i64 0) w) := Lib.hid ⟨0, [], Nat.zero_le _, (errAt_zero _ _).symm, rfl, rfl, by simp, by simp, Below.refl _ _⟩
  generalize errV l t = v0 at *
  go_enter Tryd.func18, Tryd.ntmps18
  go_wp2_with fail
  go_loopw [0, 3, 4] (ReadRel l t w) (fun _ _ k _ => l.length + 2 - (intOf k).toNat)
  case atStart => exact hst.out
  case round =>
    clear hst
    obtain ⟨n, acc, hn, rfl, rfl, rfl, hacc, htx, hb⟩ := hrel
    have Htx := Lib.hid htx
    have Hb := Lib.hid hb
    have hs := hb.size
    rcases Nat.lt_or_ge n l.length with hlt | hge
    · obtain ⟨hb1, hb2⟩ := ErrIn.node (n := n) hin hlt
      obtain ⟨k0, k1, k2⟩ := cells3 ((hb.block _ (by omega)).trans hb2)
      obtain ⟨g1, g2, g3, g4⟩ := hgood.1 n hlt
      rw [errAt_F hlt]
      have hrelN : Hid (∀ (acc' : List UInt8) (w' : World), acc' = acc ++ (sep (n == 0) ++ atT (nd l n).2.1.toNat (nd l n).2.2) → Below w.heap.size w w' → ReadRel l t w (errAt l t (n + 1)) (strV acc') (.int .i64 (↑n + 1)) w') := Lib.hid fun acc' w' h1 h2 => by
        refine ⟨n + 1, acc', by omega, rfl, by simp, rfl, ?_, ?_, h2⟩
        · have := atT_len (nd l n).2.1.toNat (nd l n).2.2
          have hsl : (sep (n == 0)).length ≤ 1 := by unfold sep; split <;> simp
          rw [h1]; simp; omega
        · rw [h1, ← Htx.out, sufT_at _ hlt]
          simp
      have hat : Hid (∀ W, Calls Tryd.prog 12 #[.int .i64 (nd l n).2.1, .int .i64 (nd l n).2.2] W fun e w' => e = .returned (strV (atT (nd l n).2.1.toNat (nd l n).2.2)) ∧ Below W.heap.size W w') := Lib.hid fun W => by
        have := at_any (nd l n).2.1.toNat (nd l n).2.2 W (by omega) g4
        rwa [Int.toNat_of_nonneg (by omega)] at this
      have hatl := atT_len (nd l n).2.1.toNat (nd l n).2.2
      generalize atT (nd l n).2.1.toNat (nd l n).2.2 = y at *
      generalize errAt l t (n + 1) = nx at *
      generalize (nd l n).1 = b at *
      generalize (nd l n).2.1 = c at *
      generalize (nd l n).2.2 = a at *
      have q1 : (c == 0) = false := by rw [beq_eq_false_iff_ne]; omega
      have q2 : decide (a < -1) = false := by rw [decide_eq_false_iff_not]; omega
      have q3 : decide ((20 : Int) < n) = false := by rw [decide_eq_false_iff_not]; omega
      have hal : acc.length ≤ 800 := by omega
      have hbw : b < wr.heap.size := by omega
      have hnl : n ≤ 12 := by omega
      have Hlt := Lib.hid hlt
      clear hacc htx hb hb1 hb2 hin hgood g1 g2 g3 g4 hB hs hn hl hlt
      unfold flt strV at *
      by_cases hn0 : n = 0
      · subst hn0
        have hsum : ∀ W : World, (Op.stringOp .add (ByteArray.mk acc.toArray) (ByteArray.mk y.toArray)).run Tryd.prog W = .ok (.string (ByteArray.mk acc.toArray ++ ByteArray.mk y.toArray)) W :=
          fun W => run_string_add_sum W _ _ (by simp [ByteArray.size]; omega)
        go_wp2_with fail
        go_region_held3 (fun w' => w'.cell? ⟨b, 0, none⟩ = some (.int .i64 c) ∧ w'.cell? ⟨b, 1, none⟩ = some (.int .i64 a) ∧ w'.cell? ⟨b, 2, none⟩ = some nx) (go_keep)
          (first | (go_at_call 12; refine (hat.out _).mono ?_; rintro e w1 ⟨rfl, hb1⟩; have e0 := hb1.cell (p := ⟨b, 0, none⟩) (by simp; omega); have e1 := hb1.cell (p := ⟨b, 1, none⟩) (by simp; omega); have e2 := hb1.cell (p := ⟨b, 2, none⟩) (by simp; omega); have Hb1 := Lib.hid hb1; clear hb1))
        go_wp2_with fail
        go_roundw
        case rel =>
          rw [bcat]
          exact hrelN.out _ _ (by simp [sep]) (Hb.out.drew.trans (Hb1.out.mono Hb.out.size))
        case measure => simp [intOf]
      · have q4 : decide ((0 : Int) < n) = true := by rw [decide_eq_true_iff]; omega
        have hsum : ∀ W : World, (Op.stringOp .add (ByteArray.mk acc.toArray ++ ByteArray.mk #[62]) (ByteArray.mk y.toArray)).run Tryd.prog W = .ok (.string (ByteArray.mk acc.toArray ++ ByteArray.mk #[62] ++ ByteArray.mk y.toArray)) W :=
          fun W => run_string_add_sum W _ _ (by simp [ByteArray.size]; omega)
        go_wp2_with fail
        go_region_held3 (fun w' => w'.cell? ⟨b, 0, none⟩ = some (.int .i64 c) ∧ w'.cell? ⟨b, 1, none⟩ = some (.int .i64 a) ∧ w'.cell? ⟨b, 2, none⟩ = some nx) (go_keep)
          (first | (go_at_call 12; refine (hat.out _).mono ?_; rintro e w1 ⟨rfl, hb1⟩; have e0 := hb1.cell (p := ⟨b, 0, none⟩) (by simp; omega); have e1 := hb1.cell (p := ⟨b, 1, none⟩) (by simp; omega); have e2 := hb1.cell (p := ⟨b, 2, none⟩) (by simp; omega); have Hb1 := Lib.hid hb1; clear hb1))
        go_wp2_with fail
        go_roundw
        case rel =>
          rw [cat3 acc [62] y]
          exact hrelN.out _ _ (by simp [sep, hn0]) (Hb.out.drew.trans (Hb1.out.mono Hb.out.size))
        case measure => simp [intOf]; have := Hlt.out; omega
    · obtain rfl : l.length = n := by omega
      rw [errAt_end]
      cases t with
      | none =>
        have hfin : Hid (ReadPost l none w (.returned (strV acc)) wr) := Lib.hid (by
          refine ⟨?_, hb⟩
          rw [← htx]
          simp [sufT])
        simp only [errV]
        clear hacc htx hb hin hgood hB hs hn hl hge
        unfold strV at *
        go_wp2_with fail
        go_ret
        exact hfin.out
      | some m =>
        obtain ⟨g1, g2⟩ := hgood.2 m rfl
        have hfin : Hid (∀ w', Below w.heap.size w w' → ReadPost l (some m) w (.returned (strV (acc ++ (sep (l.length == 0) ++ numN m.toNat)))) w') := Lib.hid fun w' h => by
          refine ⟨?_, h⟩
          rw [← htx]
          simp [sufT]
        have hE : Hid (∀ W, Calls Tryd.prog 33 #[.int .i64 m] W fun e w' => e = .returned (strV (numN m.toNat)) ∧ Below W.heap.size W w') := Lib.hid fun W => by
          have := e_any m.toNat W (by omega)
          rwa [Int.toNat_of_nonneg (by omega)] at this
        have hyl := numN_len m.toNat
        generalize numN m.toNat = y at *
        simp only [errV]
        have hal : acc.length ≤ 800 := by omega
        have hnl : l.length ≤ 12 := hl
        clear hacc htx hb hin hgood hB hs hn hl hge g1 g2
        unfold strV at *
        by_cases hn0 : l.length = 0
        · have q4 : decide ((0 : Int) < (l.length : Int)) = false := by rw [decide_eq_false_iff_not]; omega
          have q5 : decide (0 < l.length) = false := by rw [decide_eq_false_iff_not]; omega
          have Hn0 := Lib.hid hn0
          clear hn0
          go_wp2_with fail
          refine (hE.out _).mono ?_
          rintro e w1 ⟨rfl, hb1⟩
          have Hb1 := Lib.hid hb1
          clear hb1
          go_wp2_with fail
          go_ret
          have := hfin.out w1 (Hb.out.trans (Hb1.out.mono Hb.out.size))
          rw [Hn0.out] at this
          show ReadPost l (some m) w (.returned (.string _)) w1
          rw [bcat]
          simpa [sep] using this
        · have q4 : decide ((0 : Int) < (l.length : Int)) = true := by rw [decide_eq_true_iff]; omega
          have q5 : decide (0 < l.length) = true := by rw [decide_eq_true_iff]; omega
          have Hn0 := Lib.hid hn0
          clear hn0
          go_wp2_with fail
          refine (hE.out _).mono ?_
          rintro e w1 ⟨rfl, hb1⟩
          have Hb1 := Lib.hid hb1
          clear hb1
          go_wp2_with fail
          go_ret
          have := hfin.out w1 (Hb.out.trans (Hb1.out.mono Hb.out.size))
          show ReadPost l (some m) w (.returned (.string _)) w1
          rw [cat3 acc [62] y]
          simpa [sep, Hn0.out] using this
end Go.Proofs.YtabndibenffngaaDoor
