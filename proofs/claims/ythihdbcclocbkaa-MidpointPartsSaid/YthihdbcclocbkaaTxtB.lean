/- Contracts of the document's E, At and Over: the texts that they make. Conditions: numbers are int64; a cause's text has at most 1000000 bytes. -/
import Derived.Test.YthihdbcclocbkaaTxtA
namespace Go.Proofs.Ythihdbcclocbkaa
open Go.RowKit Go.Extern.Stop Go.Stop Go.Extern

theorem digs_len : ∀ (f n : Nat) (acc : List UInt8), (digs f n acc).length ≤ acc.length + f
  | 0, _, _ => by simp [digs]
  | f + 1, n, acc => by
    unfold digs
    split
    · simp
    · have := digs_len f (n / 10) ((48 + UInt8.ofNat (n % 10)) :: acc)
      simp at this; omega
theorem numN_len (n : Nat) : (numN n).length ≤ 20 := by simpa [numN] using digs_len 20 n []

def numI (a : Int) : List UInt8 := if a < 0 then 45 :: numN (-a).toNat else numN a.toNat
theorem numI_len (a : Int) : (numI a).length ≤ 21 := by
  unfold numI
  split
  · have := numN_len (-a).toNat; simp; omega
  · have := numN_len a.toNat; omega

set_option maxRecDepth 100000 in
theorem number_neg (w : World) :
    Calls Try.prog 29 #[.int .i64 (-1)] w fun e w' => e = .returned (strV (45 :: numN 1)) ∧ Below w.heap.size w w' := by
  have h1 : ((-1 : Int) == -9223372036854775808) = false := by decide
  have H := Lib.hid (number_pos 1 w (by omega))
  have hl := numN_len 1
  have hcat : Hid (∀ x : UInt8, ByteArray.mk #[x] ++ ByteArray.mk (numN 1).toArray = ByteArray.mk (x :: numN 1).toArray) := Lib.hid fun x => ByteArray.mk_append_mk [x] (numN 1)
  unfold strV at *
  generalize numN 1 = l at *
  go_enter Try.func29, Try.ntmps29
  go_wp2_with fail
  refine H.out.mono ?_
  rintro e w1 ⟨rfl, hb⟩
  have Hb := Lib.hid hb
  clear hb
  go_wp2_with fail
  go_ret
  refine ⟨?_, Hb.out⟩
  rw [← hcat.out]; rfl

theorem number_any (a : Int) (w : World) (h1 : -1 ≤ a) (h2 : a ≤ 9223372036854775807) :
    Calls Try.prog 29 #[.int .i64 a] w fun e w' => e = .returned (strV (numI a)) ∧ Below w.heap.size w w' := by
  by_cases h : a = -1
  · subst h; exact number_neg w
  · obtain ⟨n, rfl⟩ := Int.eq_ofNat_of_zero_le (show 0 ≤ a by omega)
    have e : numI (n : Int) = numN n := by unfold numI; rw [if_neg (by omega)]; rfl
    rw [e]
    exact number_pos n w (by omega)

theorem e_any (n : Nat) (w : World) (h : n ≤ 1000000) :
    Calls Try.prog 20 #[.int .i64 n] w fun e w' => e = .returned (strV (numN n)) ∧ Below w.heap.size w w' := by
  have H := Lib.hid (number_pos n w (by omega))
  unfold strV at *
  go_enter Try.func20, Try.ntmps20
  go_wp2_with fail
  refine H.out.mono ?_
  rintro e w1 ⟨rfl, hb⟩
  have Hb := Lib.hid hb
  clear hb
  go_wp2_with fail
  go_ret
  exact ⟨rfl, Hb.out⟩

def plc (a : Int) : Int := if a < 0 then -1 else a
def atT (c : Nat) (a : Int) : List UInt8 := numN c ++ 64 :: numI (plc a)
theorem atT_len (c : Nat) (a : Int) : (atT c a).length ≤ 42 := by
  unfold atT
  have := numN_len c; have := numI_len (plc a)
  simp; omega

theorem cat3 (x y z : List UInt8) : ByteArray.mk x.toArray ++ ByteArray.mk y.toArray ++ ByteArray.mk z.toArray = ByteArray.mk (x ++ y ++ z).toArray := by
  rw [ByteArray.mk_append_mk, ByteArray.mk_append_mk]

set_option maxRecDepth 100000 in
theorem at_any (c : Nat) (a : Int) (w : World) (hc : c ≤ 1000000) (ha : a ≤ 9223372036854775807) :
    Calls Try.prog 26 #[.int .i64 c, .int .i64 a] w fun e w' => e = .returned (strV (atT c a)) ∧ Below w.heap.size w w' := by
  have H1 := Lib.hid (fun W => number_pos c W (by omega))
  have H2 := Lib.hid (fun W => number_any (plc a) W (by unfold plc; split <;> omega) (by unfold plc; split <;> omega))
  have hl1 := numN_len c
  have hl2 := numI_len (plc a)
  have hcat : Hid (ByteArray.mk (numN c).toArray ++ ByteArray.mk #[64] ++ ByteArray.mk (numI (plc a)).toArray = ByteArray.mk (atT c a).toArray) := Lib.hid (by
    refine (cat3 (numN c) [64] (numI (plc a))).trans ?_
    simp [atT])
  clear hc ha
  by_cases h : a < 0
  · have e : plc a = -1 := if_pos h
    rw [e] at H2 hl2 hcat
    generalize hA : atT c a = A at *
    clear e hA
    unfold strV at *
    generalize numN c = x at *
    generalize numI (-1) = y at *
    go_enter Try.func26, Try.ntmps26
    go_wp2_with fail
    refine (H1.out _).mono ?_
    rintro e w1 ⟨rfl, hb1⟩
    have Hb1 := Lib.hid hb1
    clear hb1
    go_wp2_with fail
    refine (H2.out _).mono ?_
    rintro e w2 ⟨rfl, hb2⟩
    have Hb2 := Lib.hid (Hb1.out.trans (hb2.mono Hb1.out.size))
    clear hb2
    go_wp2_with fail
    go_ret
    refine ⟨?_, Hb2.out⟩
    rw [← hcat.out]; rfl
  · have e : plc a = a := if_neg h
    rw [e] at H2 hl2 hcat
    generalize hA : atT c a = A at *
    clear e hA
    unfold strV at *
    generalize numN c = x at *
    generalize numI a = y at *
    go_enter Try.func26, Try.ntmps26
    go_wp2_with fail
    refine (H1.out _).mono ?_
    rintro e w1 ⟨rfl, hb1⟩
    have Hb1 := Lib.hid hb1
    clear hb1
    go_wp2_with fail
    refine (H2.out _).mono ?_
    rintro e w2 ⟨rfl, hb2⟩
    have Hb2 := Lib.hid (Hb1.out.trans (hb2.mono Hb1.out.size))
    clear hb2
    go_wp2_with fail
    go_ret
    refine ⟨?_, Hb2.out⟩
    rw [← hcat.out]; rfl

end Go.Proofs.Ythihdbcclocbkaa
