/- Contracts of the document's Cut and Middle. Conditions: where the ints lie, that they are ints. -/
import Derived.Test.YthihdbcclocbkaaMidD
import Derived.Test.YthihdbcclocbkaaMidC
import Derived.Test.YthihdbcclocbkaaErrR
namespace Go.Proofs.Ythihdbcclocbkaa
open Go.RowKit
set_option maxRecDepth 100000

theorem and_one (a : Int) : bits BinOp.and IntKind.i64 a 1 = a % 2 := by
  have h : bits BinOp.and IntKind.i64 a 1 = IntKind.i64.wrap ((BitVec.ofInt 64 a &&& BitVec.ofInt 64 1).toNat : Int) := rfl
  rw [h, BitVec.toNat_and]
  have e1 : (BitVec.ofInt 64 1).toNat = 1 := by decide
  rw [e1, Nat.and_one_is_mod, BitVec.toNat_ofInt]
  have e2 : (((a % ((2 ^ 64 : Nat) : Int)).toNat % 2 : Nat) : Int) = a % 2 := by
    rw [Int.natCast_emod, Int.toNat_of_nonneg (Int.emod_nonneg _ (by decide))]
    simp only [Nat.reducePow]
    omega
  rw [e2]
  exact IntWalk.i64_in _ ⟨by omega, by omega⟩

/-- What the document's Cut answers where it is an error. -/
def RefCutBad (w : World) (e : Ending) (w' : World) : Prop := e = .returned (.tuple #[.slice none 0 0, strV (numN 2)]) ∧ Below w.heap.size w w'
/-- .. and where it is none. -/
def RefCutGood (l : List Int) (f : Nat) (w : World) (e : Ending) (w' : World) : Prop :=
  ∃ g off cap, e = .returned (.tuple #[.slice (some ⟨g, off, none⟩) (l.length - 2 * f) cap, strV []]) ∧ Seg w' w.heap.size 3 1 (.slice (some ⟨g, off, none⟩) (l.length - 2 * f) cap) (l.length - 2 * f) (intV (MidP.cutT l f)) ∧ Below w.heap.size w w'

set_option maxHeartbeats 1000000 in
theorem refcut_bad (A : Option Addr) (n cap : Nat) (hn : n ≤ 1000000) (f : Int) (hf : ¬ Cuts n f) (w : World) : Calls Try.prog 11 #[.slice A n cap, .int .i64 f] w (RefCutBad w) := by
  unfold Cuts at hf
  have HE : Hid (∀ W, Calls Try.prog 20 #[.int .i64 2] W fun e w' => e = .returned (strV (numN 2)) ∧ Below W.heap.size W w') := Lib.hid (fun W => e_any 2 W (by omega))
  unfold RefCutBad
  generalize numN 2 = y at *
  unfold strV at *
  by_cases h0 : f < 0
  · have q0 : decide (f < 0) = true := decide_eq_true h0
    clear h0 hf
    go_enter Try.func11, Try.ntmps11
    go_wp2_with fail
    refine (HE.out _).mono ?_
    rintro e w1 ⟨rfl, hb⟩
    go_wp2_with fail
    go_ret2
    exact ⟨rfl, hb⟩
  have q0 : decide (f < 0) = false := decide_eq_false h0
  rcases Nat.eq_zero_or_pos n with rfl | hn0
  · clear h0 hf
    go_enter Try.func11, Try.ntmps11
    go_wp2_with fail
    refine (HE.out _).mono ?_
    rintro e w1 ⟨rfl, hb⟩
    go_wp2_with fail
    go_ret2
    exact ⟨rfl, hb⟩
  · obtain ⟨p, rfl⟩ : ∃ p, n = p + 1 := ⟨n - 1, by omega⟩
    have et : ((p : Int)).tdiv 2 = (p : Int) / 2 := Int.tdiv_eq_ediv_of_nonneg (by omega)
    have e0 : IntKind.i64.wrap (p : Int) = (p : Int) := IntWalk.i64_in _ (by omega)
    have e2 : IntKind.i64.wrap ((p : Int).tdiv 2) = (p : Int).tdiv 2 := IntWalk.i64_in _ (by omega)
    have q1 : decide ((p : Int).tdiv 2 < f) = true := decide_eq_true (by omega)
    have q1' : decide ((p : Int) / 2 < f) = true := decide_eq_true (by omega)
    have q2 : ((p : Int) + 1 == 0) = false := by rw [beq_eq_false_iff_ne]; omega
    clear h0 hf et hn0
    go_enter Try.func11, Try.ntmps11
    go_wp2_with fail
    refine (HE.out _).mono ?_
    rintro e w1 ⟨rfl, hb⟩
    go_wp2_with fail
    go_ret2
    exact ⟨rfl, hb⟩

set_option maxHeartbeats 1000000 in
theorem refcut_good (A : Option Addr) (n cap : Nat) (l : List Int) (hl : l.length = n) (hn : n ≤ 1000000) (f : Nat) (hf : 2 * f + 1 ≤ n) (w : World) (h : IntsIn w A l) : Calls Try.prog 11 #[.slice A n cap, .int .i64 (f : Nat)] w (RefCutGood l f w) := by
  have HC := Lib.hid (refsorted_any A n cap l hl hn w h)
  have Hl := Lib.hid hl
  obtain ⟨p, rfl⟩ : ∃ p, n = p + 1 := ⟨n - 1, by omega⟩
  have q0 : decide (((f : Nat) : Int) < 0) = false := decide_eq_false (by omega)
  have et : ((p : Int)).tdiv 2 = (p : Int) / 2 := Int.tdiv_eq_ediv_of_nonneg (by omega)
  have e0 : IntKind.i64.wrap (p : Int) = (p : Int) := IntWalk.i64_in _ (by omega)
  have e2 : IntKind.i64.wrap ((p : Int).tdiv 2) = (p : Int).tdiv 2 := IntWalk.i64_in _ (by omega)
  have q1 : decide ((p : Int).tdiv 2 < (f : Int)) = false := decide_eq_false (by omega)
  have q1' : decide ((p : Int) / 2 < (f : Int)) = false := decide_eq_false (by omega)
  have q2 : ((p : Int) + 1 == 0) = false := by rw [beq_eq_false_iff_ne]; omega
  have e3 : IntKind.i64.wrap ((p : Int) + 1 - (f : Int)) = (p : Int) + 1 - (f : Int) := IntWalk.i64_in _ (by omega)
  clear h hl et
  unfold RefCutGood
  unfold strV at *
  go_enter Try.func11, Try.ntmps11
  go_wp2_with fail
  refine HC.out.mono ?_
  rintro e w1 ⟨v, rfl, ho, hb⟩
  rw [Hl.out] at ho
  obtain ⟨g, c, rfl, hnc⟩ : ∃ g c, v = .slice (some ⟨g, 0, none⟩) (p + 1) c ∧ p + 1 ≤ c := by
    rcases ho.2 with ⟨-, h0⟩ | ⟨g, c, cur, rfl, -, -, h1, -⟩
    · omega
    · exact ⟨g, c, rfl, h1⟩
  have hrs := fun W => run_slice_ints W g 0 (p + 1) c (f : Int) ((p : Int) + 1 - (f : Int)) f (p + 1 - 2 * f) rfl (by omega) (by omega) (by omega)
  simp only [Nat.zero_add] at hrs
  have h1 := (Seg.of_own ho).mid (k := f) (m := p + 1 - 2 * f) (by omega)
  rw [Nat.zero_add] at h1
  have HF : Hid (RefCutGood l f w (.returned (.tuple #[.slice (some ⟨g, f, none⟩) (p + 1 - 2 * f) (c - f), .string ⟨#[]⟩])) w1) := Lib.hid (by
    refine ⟨g, f, c - f, by rw [Hl.out]; rfl, ?_, hb⟩
    unfold MidP.cutT
    rw [Hl.out, show p + 1 - f = f + (p + 1 - 2 * f) by omega]
    exact h1)
  clear ho hb HC h1
  go_wp2_with fail
  go_ret2
  exact HF.out

/-- What the document's Middle answers where it is an error. -/
def RefMidBad (w : World) (e : Ending) (w' : World) : Prop := e = .returned (.tuple #[.int .i64 0, strV (numN 2)]) ∧ Below w.heap.size w w'
/-- .. and where it is none. -/
def RefMidGood (m : Int) (w : World) (e : Ending) (w' : World) : Prop := e = .returned (.tuple #[.int .i64 m, strV []]) ∧ Below w.heap.size w w'

theorem numN2 : numN 2 = [50] := by kernel_rfl
set_option maxHeartbeats 1000000 in
theorem refmid_bad (A : Option Addr) (n cap : Nat) (hn : n ≤ 1000000) (f : Int) (hf : ¬ Cuts n f) (w : World) : Calls Try.prog 13 #[.slice A n cap, .int .i64 f] w (RefMidBad w) := by
  have HC := Lib.hid (refcut_bad A n cap hn f hf w)
  clear hf
  unfold RefMidBad RefCutBad at *
  rw [numN2] at *
  unfold strV at *
  go_enter Try.func13, Try.ntmps13
  go_wp2_with fail
  refine HC.out.mono ?_
  rintro e w1 ⟨rfl, hb⟩
  go_wp2_with fail
  go_ret2
  exact ⟨rfl, hb⟩

set_option maxHeartbeats 1000000 in
theorem refmid_good (A : Option Addr) (n cap : Nat) (l : List Int) (hl : l.length = n) (hn : n ≤ 1000000) (f : Nat) (hf : 2 * f + 1 ≤ n) (w : World) (h : IntsIn w A l) (hi : Ints l) : Calls Try.prog 13 #[.slice A n cap, .int .i64 (f : Nat)] w (RefMidGood (MidP.midT l f) w) := by
  have HC := Lib.hid (refcut_good A n cap l hl hn f hf w h)
  obtain ⟨k, hk⟩ : ∃ k, l.length - 2 * f = k + 1 := ⟨l.length - 2 * f - 1, by omega⟩
  have H1 := Lib.hid (MidP.first_at (l := l) (f := f) (by omega))
  have H2 : Hid ((MidP.cutT l f)[k]? = some (MidP.lastT l f)) := Lib.hid (by
    have := MidP.last_at (l := l) (f := f) (by omega)
    rwa [hk, Nat.add_sub_cancel] at this)
  obtain ⟨⟨i1, i2⟩, i3, i4⟩ := MidP.ends_in hi (f := f) (by omega)
  have HA := Lib.hid (fun W => refhalf_any (MidP.firstT l f) i1 i2 W)
  have HB := Lib.hid (fun W => refhalf_any (MidP.lastT l f) i3 i4 W)
  have HM : Hid (∀ z, z = (MidP.firstT l f + MidP.lastT l f) / 2 → z = MidP.midT l f) := Lib.hid (fun z h => h)
  unfold RefCutGood at HC
  unfold RefMidGood
  unfold strV at *
  rw [hk] at HC
  have eK : IntKind.i64.wrap (k : Int) = (k : Int) := IntWalk.i64_in _ (by omega)
  generalize MidP.firstT l f = a at *
  generalize MidP.lastT l f = b at *
  generalize MidP.midT l f = m at *
  generalize MidP.cutT l f = c at *
  clear h hi hl hk hf
  have ea := and_one a
  have eb := and_one b
  have hh := MidP.halves (a := a) (b := b)
  go_enter Try.func13, Try.ntmps13
  go_wp2_with fail
  refine HC.out.mono ?_
  rintro e w1 ⟨g, off, cp, rfl, hs, hb⟩
  have k0 : w1.cell? ⟨g, off, none⟩ = some (.int .i64 a) := hs.cell (intV_get H1.out)
  have k1 : w1.cell? ⟨g, off + k, none⟩ = some (.int .i64 b) := hs.cell (intV_get H2.out)
  have Hb := Lib.hid hb
  clear hs hb HC H1 H2
  go_wp2_with fail
  go_quiet (fail)
  by_cases ha : a % 2 = 1
  case neg =>
    have qa : (a % 2 == 1) = false := by rw [beq_eq_false_iff_ne]; exact ha
    rw [if_neg (fun h => ha h.1), Int.add_zero] at hh
    have ew2 : wrap64 (a / 2 + b / 2) = a / 2 + b / 2 := IntWalk.wrap64_in _ ⟨by omega, by omega⟩
    have HZ : Hid (a / 2 + b / 2 = m) := Lib.hid (HM.out _ hh)
    clear ha
    clear i1 i2 i3 i4 hh
    go_wp2_with fail
    refine (HA.out _).mono ?_
    rintro e w2 ⟨rfl, m1, rfl⟩
    go_wp2_with fail
    refine (HB.out _).mono ?_
    rintro e w3 ⟨rfl, m2, rfl⟩
    go_wp2_with fail
    go_ret2
    exact ⟨congrArg (fun z => Ending.returned (.tuple #[.int .i64 z, .string ⟨#[]⟩])) (ew2.trans HZ.out), below_drewNc Hb.out _⟩
  by_cases hb2 : b % 2 = 1
  case neg =>
    have qa : (a % 2 == 1) = true := by rw [beq_iff_eq]; exact ha
    have qb : (b % 2 == 1) = false := by rw [beq_eq_false_iff_ne]; exact hb2
    rw [if_neg (fun h => hb2 h.2), Int.add_zero] at hh
    have ew2 : wrap64 (a / 2 + b / 2) = a / 2 + b / 2 := IntWalk.wrap64_in _ ⟨by omega, by omega⟩
    have HZ : Hid (a / 2 + b / 2 = m) := Lib.hid (HM.out _ hh)
    clear ha hb2
    clear i1 i2 i3 i4 hh
    go_wp2_with fail
    refine (HA.out _).mono ?_
    rintro e w2 ⟨rfl, m1, rfl⟩
    go_wp2_with fail
    refine (HB.out _).mono ?_
    rintro e w3 ⟨rfl, m2, rfl⟩
    go_wp2_with fail
    go_ret2
    exact ⟨congrArg (fun z => Ending.returned (.tuple #[.int .i64 z, .string ⟨#[]⟩])) (ew2.trans HZ.out), below_drewNc Hb.out _⟩
  case pos =>
    have qa : (a % 2 == 1) = true := by rw [beq_iff_eq]; exact ha
    have qb : (b % 2 == 1) = true := by rw [beq_iff_eq]; exact hb2
    rw [if_pos ⟨ha, hb2⟩] at hh
    have ew2 : wrap64 (a / 2 + b / 2) = a / 2 + b / 2 := IntWalk.wrap64_in _ ⟨by omega, by omega⟩
    have ew3 : wrap64 (a / 2 + b / 2 + 1) = a / 2 + b / 2 + 1 := IntWalk.wrap64_in _ ⟨by omega, by omega⟩
    have HZ : Hid (a / 2 + b / 2 + 1 = m) := Lib.hid (HM.out _ hh)
    clear ha hb2
    clear i1 i2 i3 i4 hh
    go_wp2_with fail
    refine (HA.out _).mono ?_
    rintro e w2 ⟨rfl, m1, rfl⟩
    go_wp2_with fail
    refine (HB.out _).mono ?_
    rintro e w3 ⟨rfl, m2, rfl⟩
    go_wp2_with fail
    go_ret2
    exact ⟨congrArg (fun z => Ending.returned (.tuple #[.int .i64 z, .string ⟨#[]⟩])) (ew3.trans HZ.out), below_drewNc Hb.out _⟩
end Go.Proofs.Ythihdbcclocbkaa
