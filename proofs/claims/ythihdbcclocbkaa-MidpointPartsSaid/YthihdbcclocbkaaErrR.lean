/- Contract of the law's Read at an error in memory: its text. Conditions: where the faults lie; each number from 1 to 1000000, each place from -1 on; at most 12 links. -/
import Derived.Test.YthihdbcclocbkaaErrP
import Derived.Test.YthihdbcclocbkaaTxtB
import Derived.Deep.RegionHeld3
namespace Go.Proofs.Ythihdbcclocbkaa
open Go.RowKit Go.Extern.Stop Go.Stop Go.Extern

def sep (first : Bool) : List UInt8 := if first then [] else [62]
def sufT (t : Option Int) : Bool → List (Nat × Int × Int) → List UInt8
  | first, [] => match t with
    | none => []
    | some m => sep first ++ numN m.toNat
  | first, (_, c, a) :: r => sep first ++ atT c.toNat a ++ sufT t false r

def Good (l : List (Nat × Int × Int)) (t : Option Int) : Prop :=
  (∀ n, n < l.length → 1 ≤ (nd l n).2.1 ∧ (nd l n).2.1 ≤ 199 ∧ -1 ≤ (nd l n).2.2 ∧ (nd l n).2.2 ≤ 9223372036854775807) ∧ ∀ m, t = some m → 1 ≤ m ∧ m ≤ 199

theorem sufT_at {l : List (Nat × Int × Int)} {t : Option Int} {n : Nat} (first : Bool) (h : n < l.length) :
    sufT t first (l.drop n) = sep first ++ atT (nd l n).2.1.toNat (nd l n).2.2 ++ sufT t false (l.drop (n + 1)) := by
  unfold nd
  rw [List.drop_eq_getElem_cons h, List.getD_eq_getElem?_getD, List.getElem?_eq_getElem h]
  rcases l[n] with ⟨b, c, a⟩
  simp [sufT]

def ReadRel (l : List (Nat × Int × Int)) (t : Option Int) (w : World) (v s k : Value) (wr : World) : Prop :=
  ∃ n acc, n ≤ l.length ∧ v = errAt l t n ∧ k = .int .i64 (n : Nat) ∧ s = strV acc ∧ acc.length ≤ 64 * n ∧ acc ++ sufT t (n == 0) (l.drop n) = sufT t true l ∧ Below w.heap.size w wr

def ReadPost (l : List (Nat × Int × Int)) (t : Option Int) (w : World) (e : Ending) (w' : World) : Prop := e = .returned (strV (sufT t true l)) ∧ Below w.heap.size w w'

theorem bcat (x y : List UInt8) : ByteArray.mk x.toArray ++ ByteArray.mk y.toArray = ByteArray.mk (x ++ y).toArray := ByteArray.mk_append_mk x y

set_option maxRecDepth 100000 in
set_option maxHeartbeats 2000000 in
theorem read_any (B : Nat) (l : List (Nat × Int × Int)) (t : Option Int) (w : World) (hl : l.length ≤ 12) (hB : B ≤ w.heap.size) (hin : ErrIn w t B l) (hgood : Good l t) :
    Calls Try.prog 17 #[errV l t] w (ReadPost l t w) := by
  have a1 := asErrno_E
  have a2 := asErrno_F
  have a3 := asFault_F
  have a4 := asFault_E
  have hst : Hid (ReadRel l t w (errV l t) (.string ⟨#[]⟩) (.int .i64 0) w) := Lib.hid ⟨0, [], Nat.zero_le _, (errAt_zero _ _).symm, rfl, rfl, by simp, by simp, Below.refl _ _⟩
  generalize errV l t = v0 at *
  go_enter Try.func17, Try.ntmps17
  go_wp2_with fail
  go_loopw [0, 3, 4] (ReadRel l t w) (fun _ _ k _ => l.length + 2 - (intOf k).toNat)
  case atStart => exact hst.out
  case round =>
    clear hst
    obtain ⟨n, acc, hn, rfl, rfl, rfl, hacc, htx, hb⟩ := hrel
    have Htx := Lib.hid htx
    have Hb := Lib.hid hb
    have hs := hb.size
    rcases Nat.lt_or_ge n l.length with hlt | hge
    · obtain ⟨hb1, hb2⟩ := ErrIn.node (n := n) hin hlt
      obtain ⟨k0, k1, k2⟩ := cells3 ((hb.block _ (by omega)).trans hb2)
      obtain ⟨g1, g2, g3, g4⟩ := hgood.1 n hlt
      rw [errAt_F hlt]
      have hrelN : Hid (∀ (acc' : List UInt8) (w' : World), acc' = acc ++ (sep (n == 0) ++ atT (nd l n).2.1.toNat (nd l n).2.2) → Below w.heap.size w w' → ReadRel l t w (errAt l t (n + 1)) (strV acc') (.int .i64 (↑n + 1)) w') := Lib.hid fun acc' w' h1 h2 => by
        refine ⟨n + 1, acc', by omega, rfl, by simp, rfl, ?_, ?_, h2⟩
        · have := atT_len (nd l n).2.1.toNat (nd l n).2.2
          have hsl : (sep (n == 0)).length ≤ 1 := by unfold sep; split <;> simp
          rw [h1]; simp; omega
        · rw [h1, ← Htx.out, sufT_at _ hlt]
          simp
      have hat : Hid (∀ W, Calls Try.prog 26 #[.int .i64 (nd l n).2.1, .int .i64 (nd l n).2.2] W fun e w' => e = .returned (strV (atT (nd l n).2.1.toNat (nd l n).2.2)) ∧ Below W.heap.size W w') := Lib.hid fun W => by
        have := at_any (nd l n).2.1.toNat (nd l n).2.2 W (by omega) g4
        rwa [Int.toNat_of_nonneg (by omega)] at this
      have hatl := atT_len (nd l n).2.1.toNat (nd l n).2.2
      generalize atT (nd l n).2.1.toNat (nd l n).2.2 = y at *
      generalize errAt l t (n + 1) = nx at *
      generalize (nd l n).1 = b at *
      generalize (nd l n).2.1 = c at *
      generalize (nd l n).2.2 = a at *
      have q1 : (c == 0) = false := by rw [beq_eq_false_iff_ne]; omega
      have q2 : decide (a < -1) = false := by rw [decide_eq_false_iff_not]; omega
      have q3 : decide ((20 : Int) < n) = false := by rw [decide_eq_false_iff_not]; omega
      have hal : acc.length ≤ 800 := by omega
      have hbw : b < wr.heap.size := by omega
      have hnl : n ≤ 12 := by omega
      have Hlt := Lib.hid hlt
      clear hacc htx hb hb1 hb2 hin hgood g1 g2 g3 g4 hB hs hn hl hlt
      unfold flt strV at *
      by_cases hn0 : n = 0
      · subst hn0
        have hsum : ∀ W : World, (Op.stringOp .add (ByteArray.mk acc.toArray) (ByteArray.mk y.toArray)).run Try.prog W = .ok (.string (ByteArray.mk acc.toArray ++ ByteArray.mk y.toArray)) W :=
          fun W => run_string_add_sum W _ _ (by simp [ByteArray.size]; omega)
        go_wp2_with fail
        go_region_held3 (fun w' => w'.cell? ⟨b, 0, none⟩ = some (.int .i64 c) ∧ w'.cell? ⟨b, 1, none⟩ = some (.int .i64 a) ∧ w'.cell? ⟨b, 2, none⟩ = some nx) (go_keep)
          (first | (go_at_call 26; refine (hat.out _).mono ?_; rintro e w1 ⟨rfl, hb1⟩; have e0 := hb1.cell (p := ⟨b, 0, none⟩) (by simp; omega); have e1 := hb1.cell (p := ⟨b, 1, none⟩) (by simp; omega); have e2 := hb1.cell (p := ⟨b, 2, none⟩) (by simp; omega); have Hb1 := Lib.hid hb1; clear hb1))
        go_wp2_with fail
        go_roundw
        case rel =>
          rw [bcat]
          exact hrelN.out _ _ (by simp [sep]) (Hb.out.drew.trans (Hb1.out.mono Hb.out.size))
        case measure => simp [intOf]
      · have q4 : decide ((0 : Int) < n) = true := by rw [decide_eq_true_iff]; omega
        have hsum : ∀ W : World, (Op.stringOp .add (ByteArray.mk acc.toArray ++ ByteArray.mk #[62]) (ByteArray.mk y.toArray)).run Try.prog W = .ok (.string (ByteArray.mk acc.toArray ++ ByteArray.mk #[62] ++ ByteArray.mk y.toArray)) W :=
          fun W => run_string_add_sum W _ _ (by simp [ByteArray.size]; omega)
        go_wp2_with fail
        go_region_held3 (fun w' => w'.cell? ⟨b, 0, none⟩ = some (.int .i64 c) ∧ w'.cell? ⟨b, 1, none⟩ = some (.int .i64 a) ∧ w'.cell? ⟨b, 2, none⟩ = some nx) (go_keep)
          (first | (go_at_call 26; refine (hat.out _).mono ?_; rintro e w1 ⟨rfl, hb1⟩; have e0 := hb1.cell (p := ⟨b, 0, none⟩) (by simp; omega); have e1 := hb1.cell (p := ⟨b, 1, none⟩) (by simp; omega); have e2 := hb1.cell (p := ⟨b, 2, none⟩) (by simp; omega); have Hb1 := Lib.hid hb1; clear hb1))
        go_wp2_with fail
        go_roundw
        case rel =>
          rw [cat3 acc [62] y]
          exact hrelN.out _ _ (by simp [sep, hn0]) (Hb.out.drew.trans (Hb1.out.mono Hb.out.size))
        case measure => simp [intOf]; have := Hlt.out; omega
    · obtain rfl : l.length = n := by omega
      rw [errAt_end]
      cases t with
      | none =>
        have hfin : Hid (ReadPost l none w (.returned (strV acc)) wr) := Lib.hid (by
          refine ⟨?_, hb⟩
          rw [← htx]
          simp [sufT])
        simp only [errV]
        clear hacc htx hb hin hgood hB hs hn hl hge
        unfold strV at *
        go_wp2_with fail
        go_ret
        exact hfin.out
      | some m =>
        obtain ⟨g1, g2⟩ := hgood.2 m rfl
        have hfin : Hid (∀ w', Below w.heap.size w w' → ReadPost l (some m) w (.returned (strV (acc ++ (sep (l.length == 0) ++ numN m.toNat)))) w') := Lib.hid fun w' h => by
          refine ⟨?_, h⟩
          rw [← htx]
          simp [sufT]
        have hE : Hid (∀ W, Calls Try.prog 20 #[.int .i64 m] W fun e w' => e = .returned (strV (numN m.toNat)) ∧ Below W.heap.size W w') := Lib.hid fun W => by
          have := e_any m.toNat W (by omega)
          rwa [Int.toNat_of_nonneg (by omega)] at this
        have hyl := numN_len m.toNat
        generalize numN m.toNat = y at *
        simp only [errV]
        have hal : acc.length ≤ 800 := by omega
        have hnl : l.length ≤ 12 := hl
        clear hacc htx hb hin hgood hB hs hn hl hge g1 g2
        unfold strV at *
        by_cases hn0 : l.length = 0
        · have q4 : decide ((0 : Int) < (l.length : Int)) = false := by rw [decide_eq_false_iff_not]; omega
          have q5 : decide (0 < l.length) = false := by rw [decide_eq_false_iff_not]; omega
          have Hn0 := Lib.hid hn0
          clear hn0
          go_wp2_with fail
          refine (hE.out _).mono ?_
          rintro e w1 ⟨rfl, hb1⟩
          have Hb1 := Lib.hid hb1
          clear hb1
          go_wp2_with fail
          go_ret
          have := hfin.out w1 (Hb.out.trans (Hb1.out.mono Hb.out.size))
          rw [Hn0.out] at this
          show ReadPost l (some m) w (.returned (.string _)) w1
          rw [bcat]
          simpa [sep] using this
        · have q4 : decide ((0 : Int) < (l.length : Int)) = true := by rw [decide_eq_true_iff]; omega
          have q5 : decide (0 < l.length) = true := by rw [decide_eq_true_iff]; omega
          have Hn0 := Lib.hid hn0
          clear hn0
          go_wp2_with fail
          refine (hE.out _).mono ?_
          rintro e w1 ⟨rfl, hb1⟩
          have Hb1 := Lib.hid hb1
          clear hb1
          go_wp2_with fail
          go_ret
          have := hfin.out w1 (Hb.out.trans (Hb1.out.mono Hb.out.size))
          show ReadPost l (some m) w (.returned (.string _)) w1
          rw [cat3 acc [62] y]
          simpa [sep, Hn0.out] using this
end Go.Proofs.Ythihdbcclocbkaa
