/- What an error is in memory (errV, ErrIn), and the contract of fault.New. No conditions beyond the readings of memory that each states. · Plain facts on an error's links: what stands at the n-th step of unwrapping. No conditions. · Contract of the document's Number, E, At and Over: the texts that they make. Conditions: the number is an int64. · Contracts of the document's E, At and Over: the texts that they make. Conditions: numbers are int64; a cause's text has at most 1000000 bytes. · Contract of the law's Read at an error in memory: its text. Conditions: where the faults lie; each number from 1 to 1000000, each place from -1 on; at most 12 links. -/
import Derived.Test.YtfgpfmhjnccccaaChecked
import Derived.WalkKit
import Derived.LaidEql
import Derived.Stop.Asserts
import Derived.RowKitTokens
import Derived.Lib.Hide
import Derived.ShutString
import Derived.Deep.RegionHeld3
namespace Go.Proofs.Ytfgpfmhjnccccaa
open Go.RowKit Go.Extern.Stop Go.Stop Go.Extern

theorem cells3 {w : World} {b : Nat} {x y z : Value} {t : TypeId} (h : w.heap[b]? = some (.cells #[x, y, z] t (0, 0))) :
    w.cell? ⟨b, 0, none⟩ = some x ∧ w.cell? ⟨b, 1, none⟩ = some y ∧ w.cell? ⟨b, 2, none⟩ = some z := by
  refine ⟨?_, ?_, ?_⟩ <;> simp [World.cell?, h]

def place (a : Int) : Int := if a < -1 then -1 else a

end Go.Proofs.Ytfgpfmhjnccccaa
namespace Go.Proofs.Ytfgpfmhjnccccaa
open Go.RowKit

def nd (l : List (Nat × Int × Int)) (n : Nat) : Nat × Int × Int := l.getD n (0, 0, 0)
theorem cell0 {w : World} {p : Nat} {v : Value} {t : TypeId} (h : w.heap[p]? = some (.cells #[v] t (0, 0))) : w.cell? ⟨p, 0, none⟩ = some v ∧ w.frozen? ⟨p, 0, none⟩ = false := by
  simp [World.cell?, World.frozen?, h]

theorem set0 {w : World} {p : Nat} {v v' : Value} {t : TypeId} (h : w.heap[p]? = some (.cells #[v] t (0, 0))) : (w.setCell ⟨p, 0, none⟩ v').heap[p]? = some (.cells #[v'] t (0, 0)) := by
  simp only [World.setCell, Array.getElem?_modify, if_pos, h]; rfl

theorem far {w : World} {p b : Nat} {v : Value} (h : b ≠ p) : (w.setCell ⟨p, 0, none⟩ v).heap[b]? = w.heap[b]? :=
  Below.heap_setCell w ⟨p, 0, none⟩ v b h

theorem grown_set {w w' : World} {p : Nat} {v : Value} (h : w.grownBy w' (some p)) : w.grownBy (w'.setCell ⟨p, 0, none⟩ v) (some p) :=
  ⟨h.os, h.tape, h.output, by simpa [World.setCell] using h.size, fun k hk hne => (far (fun e => hne (by rw [e]))).trans (h.block k hk hne)⟩

theorem grown_refl (w : World) (row : Option Nat) : w.grownBy w row := ⟨rfl, rfl, rfl, Nat.le_refl _, fun _ _ _ => rfl⟩
end Go.Proofs.Ytfgpfmhjnccccaa
namespace Go.Proofs.Ytfgpfmhjnccccaa
open Go.RowKit Go.Extern.Stop Go.Stop Go.Extern

def digs : Nat → Nat → List UInt8 → List UInt8
  | 0, _, acc => acc
  | f + 1, n, acc => if n / 10 = 0 then (48 + UInt8.ofNat (n % 10)) :: acc else digs f (n / 10) ((48 + UInt8.ofNat (n % 10)) :: acc)

def numN (n : Nat) : List UInt8 := digs 20 n []

def strV (l : List UInt8) : Value := .string ⟨l.toArray⟩

theorem conv1 (b : Int) (w : World) : (convert 64 9 (.slice (some ⟨w.heap.size, 0, none⟩) 1 1)).run Try.prog (w.alloc (.cells #[.int .u8 b] 5)) = .ok (.string ⟨#[UInt8.ofNat b.toNat]⟩) (w.alloc (.cells #[.int .u8 b] 5)) := by
  rw [run_convert_bytes_string _ _ _ 5 _ _ _ Try.underlying64 Try.underlying5 Try.underlying9]
  rw [run_bytesToString _ _ 1 1 [b] ?_]
  · rfl
  · have hc : (w.alloc (.cells #[.int .u8 b] 5)).cell? ⟨w.heap.size, 0, none⟩ = some (.int .u8 b) := by
      rw [World.cell?_alloc_at _ _ _ _ rfl]; rfl
    simp [loadCells, go_sem, hc]

def NumRel (n : Nat) (w : World) (v s : Value) (wr : World) : Prop :=
  ∃ f m acc, v = .int .i64 (m : Nat) ∧ s = strV acc ∧ m < 10 ^ f ∧ m ≤ 9223372036854775807 ∧ f ≤ 20 ∧ 1 ≤ f ∧ acc.length + f = 20 ∧ digs f m acc = numN n ∧ Below w.heap.size w wr

set_option maxRecDepth 100000 in
set_option maxHeartbeats 1000000 in
theorem number_pos (n : Nat) (w : World) (hn : n ≤ 9223372036854775807) :
    Calls Try.prog 33 #[.int .i64 n] w fun e w' => e = .returned (strV (numN n)) ∧ Below w.heap.size w w' := by
  have h1 : ((n : Int) == -9223372036854775808) = false := by rw [beq_eq_false_iff_ne]; omega
  have h2 : decide ((n : Int) < 0) = false := by rw [decide_eq_false_iff_not]; omega
  have hcv := conv1
  have Hn := Lib.hid hn
  clear hn
  go_enter Try.func33, Try.ntmps33
  go_wp2_with fail
  go_loopw [0, 3] (NumRel n w) (fun v _ _ => (intOf v).toNat)
  case atStart => exact ⟨20, n, [], rfl, rfl, by have := Hn.out; omega, Hn.out, by omega, by omega, rfl, rfl, Below.refl _ _⟩
  case round =>
    obtain ⟨f, m, acc, rfl, rfl, hm, hm2, hf, hf1, hacc, hd, hb⟩ := hrel
    unfold strV
    have Hb := Lib.hid hb
    have Hd := Lib.hid hd
    have Hm := Lib.hid hm
    have Hm2 := Lib.hid hm2
    have Ha := Lib.hid hacc
    have Hf := Lib.hid hf1
    have hal : acc.length ≤ 20 := by omega
    clear hb hd hm hm2 hacc hf hf1 h1 h2
    have hw : Hid (wrap64 ((m : Int) / 10) = ((m / 10 : Nat) : Int)) := Lib.hid (by unfold wrap64; have := Hm2.out; omega)
    have hcat : Hid (∀ x : UInt8, ByteArray.mk #[x] ++ ByteArray.mk acc.toArray = ByteArray.mk (x :: acc).toArray) := Lib.hid fun x => ByteArray.mk_append_mk [x] acc
    by_cases hz : m / 10 = 0
    · have hz2 : (wrap64 ((m : Int) / 10) == 0) = true := by rw [hw.out, hz]; rfl
      have Hz := Lib.hid hz
      clear hz
      go_wp2_with fail
      go_ret
      refine ⟨?_, (Hb.out.alloc Hb.out.size _)⟩
      have hd := Hd.out
      obtain ⟨f', rfl⟩ : ∃ f', f = f' + 1 := ⟨f - 1, by have := Hf.out; omega⟩
      simp only [digs, if_pos Hz.out] at hd
      rw [← hd]
      show Ending.returned (Value.string _) = _
      rw [hcat.out]; rfl
    · have hz2 : (wrap64 ((m : Int) / 10) == 0) = false := by rw [hw.out, beq_eq_false_iff_ne]; omega
      have Hz := Lib.hid hz
      clear hz
      go_wp2_with fail
      go_roundw
      case rel =>
        rw [hw.out, hcat.out]
        have hd := Hd.out
        have ha := Ha.out
        have hm2 := Hm2.out
        have hm := Hm.out
        obtain ⟨f', rfl⟩ : ∃ f', f = f' + 1 := ⟨f - 1, by have := Hf.out; omega⟩
        simp only [digs, if_neg Hz.out] at hd
        have h10 : m / 10 < 10 ^ f' := by rw [Nat.pow_succ] at hm; omega
        have h1f : 1 ≤ f' := by
          rcases Nat.eq_zero_or_pos f' with rfl | h
          · simp at h10; exact absurd h10 (by have := Hz.out; omega)
          · exact h
        exact ⟨f', m / 10, _, rfl, rfl, h10, by omega, by omega, h1f, by simp; omega, hd, Hb.out.alloc Hb.out.size _⟩
      case measure => rw [hw.out]; simp only [intOf]; have := Hz.out; omega
end Go.Proofs.Ytfgpfmhjnccccaa
namespace Go.Proofs.Ytfgpfmhjnccccaa
open Go.RowKit Go.Extern.Stop Go.Stop Go.Extern

theorem digs_len : ∀ (f n : Nat) (acc : List UInt8), (digs f n acc).length ≤ acc.length + f
  | 0, _, _ => by simp [digs]
  | f + 1, n, acc => by
    unfold digs
    split
    · simp
    · have := digs_len f (n / 10) ((48 + UInt8.ofNat (n % 10)) :: acc)
      simp at this; omega
theorem numN_len (n : Nat) : (numN n).length ≤ 20 := by simpa [numN] using digs_len 20 n []

def numI (a : Int) : List UInt8 := if a < 0 then 45 :: numN (-a).toNat else numN a.toNat
theorem numI_len (a : Int) : (numI a).length ≤ 21 := by
  unfold numI
  split
  · have := numN_len (-a).toNat; simp; omega
  · have := numN_len a.toNat; omega

set_option maxRecDepth 100000 in
theorem number_neg (w : World) :
    Calls Try.prog 33 #[.int .i64 (-1)] w fun e w' => e = .returned (strV (45 :: numN 1)) ∧ Below w.heap.size w w' := by
  have h1 : ((-1 : Int) == -9223372036854775808) = false := by decide
  have H := Lib.hid (number_pos 1 w (by omega))
  have hl := numN_len 1
  have hcat : Hid (∀ x : UInt8, ByteArray.mk #[x] ++ ByteArray.mk (numN 1).toArray = ByteArray.mk (x :: numN 1).toArray) := Lib.hid fun x => ByteArray.mk_append_mk [x] (numN 1)
  unfold strV at *
  generalize numN 1 = l at *
  go_enter Try.func33, Try.ntmps33
  go_wp2_with fail
  refine H.out.mono ?_
  rintro e w1 ⟨rfl, hb⟩
  have Hb := Lib.hid hb
  clear hb
  go_wp2_with fail
  go_ret
  refine ⟨?_, Hb.out⟩
  rw [← hcat.out]; rfl

theorem number_any (a : Int) (w : World) (h1 : -1 ≤ a) (h2 : a ≤ 9223372036854775807) :
    Calls Try.prog 33 #[.int .i64 a] w fun e w' => e = .returned (strV (numI a)) ∧ Below w.heap.size w w' := by
  by_cases h : a = -1
  · subst h; exact number_neg w
  · obtain ⟨n, rfl⟩ := Int.eq_ofNat_of_zero_le (show 0 ≤ a by omega)
    have e : numI (n : Int) = numN n := by unfold numI; rw [if_neg (by omega)]; rfl
    rw [e]
    exact number_pos n w (by omega)

def plc (a : Int) : Int := if a < 0 then -1 else a
def atT (c : Nat) (a : Int) : List UInt8 := numN c ++ 64 :: numI (plc a)
theorem atT_len (c : Nat) (a : Int) : (atT c a).length ≤ 42 := by
  unfold atT
  have := numN_len c; have := numI_len (plc a)
  simp; omega

theorem cat3 (x y z : List UInt8) : ByteArray.mk x.toArray ++ ByteArray.mk y.toArray ++ ByteArray.mk z.toArray = ByteArray.mk (x ++ y ++ z).toArray := by
  rw [ByteArray.mk_append_mk, ByteArray.mk_append_mk]

set_option maxRecDepth 100000 in
theorem at_any (c : Nat) (a : Int) (w : World) (hc : c ≤ 1000000) (ha : a ≤ 9223372036854775807) :
    Calls Try.prog 26 #[.int .i64 c, .int .i64 a] w fun e w' => e = .returned (strV (atT c a)) ∧ Below w.heap.size w w' := by
  have H1 := Lib.hid (fun W => number_pos c W (by omega))
  have H2 := Lib.hid (fun W => number_any (plc a) W (by unfold plc; split <;> omega) (by unfold plc; split <;> omega))
  have hl1 := numN_len c
  have hl2 := numI_len (plc a)
  have hcat : Hid (ByteArray.mk (numN c).toArray ++ ByteArray.mk #[64] ++ ByteArray.mk (numI (plc a)).toArray = ByteArray.mk (atT c a).toArray) := Lib.hid (by
    refine (cat3 (numN c) [64] (numI (plc a))).trans ?_
    simp [atT])
  clear hc ha
  by_cases h : a < 0
  · have e : plc a = -1 := if_pos h
    rw [e] at H2 hl2 hcat
    generalize hA : atT c a = A at *
    clear e hA
    unfold strV at *
    generalize numN c = x at *
    generalize numI (-1) = y at *
    go_enter Try.func26, Try.ntmps26
    go_wp2_with fail
    refine (H1.out _).mono ?_
    rintro e w1 ⟨rfl, hb1⟩
    have Hb1 := Lib.hid hb1
    clear hb1
    go_wp2_with fail
    refine (H2.out _).mono ?_
    rintro e w2 ⟨rfl, hb2⟩
    have Hb2 := Lib.hid (Hb1.out.trans (hb2.mono Hb1.out.size))
    clear hb2
    go_wp2_with fail
    go_ret
    refine ⟨?_, Hb2.out⟩
    rw [← hcat.out]; rfl
  · have e : plc a = a := if_neg h
    rw [e] at H2 hl2 hcat
    generalize hA : atT c a = A at *
    clear e hA
    unfold strV at *
    generalize numN c = x at *
    generalize numI a = y at *
    go_enter Try.func26, Try.ntmps26
    go_wp2_with fail
    refine (H1.out _).mono ?_
    rintro e w1 ⟨rfl, hb1⟩
    have Hb1 := Lib.hid hb1
    clear hb1
    go_wp2_with fail
    refine (H2.out _).mono ?_
    rintro e w2 ⟨rfl, hb2⟩
    have Hb2 := Lib.hid (Hb1.out.trans (hb2.mono Hb1.out.size))
    clear hb2
    go_wp2_with fail
    go_ret
    refine ⟨?_, Hb2.out⟩
    rw [← hcat.out]; rfl

end Go.Proofs.Ytfgpfmhjnccccaa
namespace Go.Proofs.Ytfgpfmhjnccccaa
open Go.RowKit Go.Extern.Stop Go.Stop Go.Extern

def sep (first : Bool) : List UInt8 := if first then [] else [62]
def sufT (t : Option Int) : Bool → List (Nat × Int × Int) → List UInt8
  | first, [] => match t with
    | none => []
    | some m => sep first ++ numN m.toNat
  | first, (_, c, a) :: r => sep first ++ atT c.toNat a ++ sufT t false r

def Good (l : List (Nat × Int × Int)) (t : Option Int) : Prop :=
  (∀ n, n < l.length → 1 ≤ (nd l n).2.1 ∧ (nd l n).2.1 ≤ 199 ∧ -1 ≤ (nd l n).2.2 ∧ (nd l n).2.2 ≤ 9223372036854775807) ∧ ∀ m, t = some m → 1 ≤ m ∧ m ≤ 199

theorem sufT_at {l : List (Nat × Int × Int)} {t : Option Int} {n : Nat} (first : Bool) (h : n < l.length) :
    sufT t first (l.drop n) = sep first ++ atT (nd l n).2.1.toNat (nd l n).2.2 ++ sufT t false (l.drop (n + 1)) := by
  unfold nd
  rw [List.drop_eq_getElem_cons h, List.getD_eq_getElem?_getD, List.getElem?_eq_getElem h]
  rcases l[n] with ⟨b, c, a⟩
  simp [sufT]

def ReadPost (l : List (Nat × Int × Int)) (t : Option Int) (w : World) (e : Ending) (w' : World) : Prop := e = .returned (strV (sufT t true l)) ∧ Below w.heap.size w w'

theorem bcat (x y : List UInt8) : ByteArray.mk x.toArray ++ ByteArray.mk y.toArray = ByteArray.mk (x ++ y).toArray := ByteArray.mk_append_mk x y

end Go.Proofs.Ytfgpfmhjnccccaa
