/- ClockParts: the walk of the law. Conditions: none. -/
import Derived.Test.YtieddkdkhgljkaaClkD
namespace Go.Proofs.Ytieddkdkhgljkaa
open Go.RowKit
set_option maxRecDepth 100000

theorem below_under {B : Nat} {a w : World} {n : Nat} (h : Below B (a.drewN n) w) : Below B a w := ⟨h.os, h.tape, h.output, h.size, h.block⟩
theorem parts_in {a b d : Int} (ha : RateIn a) (hb : RateIn b) (h0 : 0 ≤ d) (h1 : d ≤ 549755813888) : -219902325555200 ≤ (a - b) * d ∧ (a - b) * d ≤ 219902325555200 := by
  obtain ⟨a1, a2⟩ := ha
  obtain ⟨b1, b2⟩ := hb
  have x1 := Int.mul_le_mul_of_nonneg_right (show a - b ≤ 400 by omega) h0
  have x2 := Int.mul_le_mul_of_nonneg_right (show -400 ≤ a - b by omega) h0
  omega

/-- What the law asks of two clocks at one time. -/
def PartsQ (since a b d : Int) : Prop :=
  wrap64 (since + d) = since + d ∧ FarIn (since + d - since) ∧ wrap64 (a - b) = a - b ∧ wrap64 ((a - b) * d) = (a - b) * d ∧
  wrap64 (((a - b) * d).tdiv 1000000) = ((a - b) * d).tdiv 1000000 ∧
  wrap64 (ClkP.localT since a (since + d) - ClkP.localT since b (since + d)) = ClkP.localT since a (since + d) - ClkP.localT since b (since + d) ∧
  decide (wrap64 (ClkP.localT since a (since + d) - ClkP.localT since b (since + d) - ((a - b) * d).tdiv 1000000) ≤ 2) = true ∧
  decide (wrap64 (((a - b) * d).tdiv 1000000 - (ClkP.localT since a (since + d) - ClkP.localT since b (since + d))) ≤ 2) = true
theorem parts_q {since a b d : Int} (ha : LawfulIn since a) (hb : LawfulIn since b) (h0 : 0 ≤ d) (h1 : d ≤ 549755813888) : PartsQ since a b d := by
  have hp := parts_in ha.2.2 hb.2.2 h0 h1
  have s1 := ha.1
  have s2 := ha.2.1
  have hx := ClkP.local_small (since := since) (real := since + d) (m := 549755813888) ha.2.2 (by omega) (by omega)
  have hy := ClkP.local_small (since := since) (real := since + d) (m := 549755813888) hb.2.2 (by omega) (by omega)
  have hd := ClkP.parts (since := since) (a := a) (b := b) (d := d)
  have c1 := ha.2.2.1
  have c2 := ha.2.2.2
  have c3 := hb.2.2.1
  have c4 := hb.2.2.2
  have r1 := ClkP.quo_rest ((a - b) * d) 1000000
  have r2 := ClkP.rest_lt (a := (a - b) * d) (b := 1000000) (by decide)
  unfold PartsQ
  generalize ClkP.localT since a (since + d) = x at *
  generalize ClkP.localT since b (since + d) = y at *
  generalize ((a - b) * d).tmod 1000000 = r at *
  generalize ((a - b) * d).tdiv 1000000 = m at *
  generalize (a - b) * d = p at *
  refine ⟨IntWalk.wrap64_in _ (by omega), ⟨by omega, by omega⟩, IntWalk.wrap64_in _ (by omega), IntWalk.wrap64_in _ (by omega), IntWalk.wrap64_in _ (by omega), IntWalk.wrap64_in _ (by omega), ?_, ?_⟩
  · rw [IntWalk.wrap64_in _ (by omega)]; exact decide_eq_true hd.1
  · rw [IntWalk.wrap64_in _ (by omega)]; exact decide_eq_true hd.2

set_option maxHeartbeats 1000000 in
theorem parts_law (since a b at_ : Int) (w : World) : Calls Try.prog 5 #[.int .i64 since, .int .i64 a, .int .i64 b, .int .i64 at_] w (AwakePost w) := by
  have HA := Lib.hid (awake_any w)
  by_cases ha : LawfulIn since a
  case neg =>
    have HB := Lib.hid (lawful_no since a ha)
    clear ha
    go_enter Try.func5, Try.ntmps5
    go_wp2_with fail
    refine HA.out.mono ?_
    rintro e w0 ⟨rfl, hb⟩
    have Hb := Lib.hid hb
    clear hb HA
    go_wp2_with fail
    refine (HB.out _).mono ?_
    rintro e wx ⟨rfl, n1, rfl⟩
    go_wp2_with fail
    go_ret
    exact ⟨rfl, below_drewNc Hb.out _⟩
  have HLa := Lib.hid (lawful_yes since a ha)
  by_cases hb : LawfulIn since b
  case neg =>
    have HB := Lib.hid (lawful_no since b hb)
    clear ha hb
    go_enter Try.func5, Try.ntmps5
    go_wp2_with fail
    refine HA.out.mono ?_
    rintro e w0 ⟨rfl, hb⟩
    have Hb := Lib.hid hb
    clear hb HA
    go_wp2_with fail
    refine (HLa.out _).mono ?_
    rintro e wx ⟨rfl, n1, rfl⟩
    go_wp2_with fail
    refine (quiet_quiet (HB.out _)).mono ?_
    rintro e wx ⟨rfl, n2, rfl⟩
    go_wp2_with fail
    go_ret
    exact ⟨rfl, below_drewNc Hb.out _⟩
  have HLb := Lib.hid (lawful_yes since b hb)
  have HNa := Lib.hid (make_clock since a ha)
  have HNb := Lib.hid (make_clock since b hb)
  have HT := Lib.hid (near_any at_)
  have hnr := ClkP.near_mod at_
  generalize at_.tmod 549755813888 = d0 at *
  unfold ClkP.Near at hnr
  obtain ⟨n1, n2⟩ := hnr
  by_cases h0 : d0 < 0
  · have q0 : decide (d0 < 0) = true := decide_eq_true h0
    obtain ⟨d, hd⟩ : ∃ d, -d0 = d := ⟨_, rfl⟩
    have e0 : wrap64 (-d0) = d := by rw [IntWalk.wrap64_in _ (by omega)]; exact hd
    have h3 : 0 ≤ d := by omega
    have h4 : d ≤ 549755813888 := by omega
    clear h0 hd
    have hq := parts_q ha hb (d := d) (by omega) (by omega)
    obtain ⟨e1, hf, e2, e3, e4, e5, q1, q2⟩ := hq
    have Hf := Lib.hid hf
    generalize hX : ClkP.localT since a (since + d) = x at *
    generalize hY : ClkP.localT since b (since + d) = y at *
    clear ha hb n1 n2 hf h3 h4
    go_enter Try.func5, Try.ntmps5
    go_wp2_with fail
    refine HA.out.mono ?_
    rintro e w0 ⟨rfl, hb⟩
    have Hb := Lib.hid hb
    clear hb HA
    go_wp2_with fail
    refine (HLa.out _).mono ?_
    rintro e wx ⟨rfl, n1, rfl⟩
    go_wp2_with fail
    refine (quiet_quiet (HLb.out _)).mono ?_
    rintro e wx ⟨rfl, n2, rfl⟩
    go_wp2_with fail
    refine (quiet_quiet (HT.out _)).mono ?_
    rintro e wx ⟨rfl, n3, rfl⟩
    go_wp2_with fail
    refine (HNa.out _).mono ?_
    rintro e wx ⟨ba, w1, rfl, rfl, hMa, hlta, hba⟩
    replace Hb := Lib.hid ((below_drewNc Hb.out n3).trans (hba.mono Hb.out.size))
    clear hba
    have HM := Lib.hid (And.intro hMa hlta)
    clear hMa hlta
    unfold clockV at *
    go_wp2_with fail
    refine (HNb.out _).mono ?_
    rintro e wx ⟨bb, w2, rfl, rfl, hMb, hltb, hbb⟩
    have hbb2 := below_under hbb
    have hMa := HM.out.1.below hbb2 HM.out.2
    replace Hb := Lib.hid (Hb.out.trans (hbb2.mono Hb.out.size))
    have C1 := Lib.hid (fun n => hMa.local n (since + d) Hf.out)
    have C2 := Lib.hid (fun n => hMb.local n (since + d) Hf.out)
    rw [hX] at C1
    rw [hY] at C2
    clear hbb hbb2 hMa hMb hltb HM hX hY
    unfold clockV at *
    go_wp2_with fail
    refine (C1.out _).mono ?_
    rintro e wx ⟨rfl, n4, rfl⟩
    go_wp2_with fail
    refine (C2.out n4).mono ?_
    rintro e wx ⟨rfl, n5, rfl⟩
    go_wp2_with fail
    go_ret
    exact ⟨rfl, below_drewNc Hb.out _⟩
  · have q0 : decide (d0 < 0) = false := decide_eq_false h0
    have hq := parts_q ha hb (d := d0) (by omega) (by omega)
    obtain ⟨e1, hf, e2, e3, e4, e5, q1, q2⟩ := hq
    have Hf := Lib.hid hf
    generalize hX : ClkP.localT since a (since + d0) = x at *
    generalize hY : ClkP.localT since b (since + d0) = y at *
    clear ha hb n1 n2 hf h0
    go_enter Try.func5, Try.ntmps5
    go_wp2_with fail
    refine HA.out.mono ?_
    rintro e w0 ⟨rfl, hb⟩
    have Hb := Lib.hid hb
    clear hb HA
    go_wp2_with fail
    refine (HLa.out _).mono ?_
    rintro e wx ⟨rfl, n1, rfl⟩
    go_wp2_with fail
    refine (quiet_quiet (HLb.out _)).mono ?_
    rintro e wx ⟨rfl, n2, rfl⟩
    go_wp2_with fail
    refine (quiet_quiet (HT.out _)).mono ?_
    rintro e wx ⟨rfl, n3, rfl⟩
    go_wp2_with fail
    refine (HNa.out _).mono ?_
    rintro e wx ⟨ba, w1, rfl, rfl, hMa, hlta, hba⟩
    replace Hb := Lib.hid ((below_drewNc Hb.out n3).trans (hba.mono Hb.out.size))
    clear hba
    have HM := Lib.hid (And.intro hMa hlta)
    clear hMa hlta
    unfold clockV at *
    go_wp2_with fail
    refine (HNb.out _).mono ?_
    rintro e wx ⟨bb, w2, rfl, rfl, hMb, hltb, hbb⟩
    have hbb2 := below_under hbb
    have hMa := HM.out.1.below hbb2 HM.out.2
    replace Hb := Lib.hid (Hb.out.trans (hbb2.mono Hb.out.size))
    have C1 := Lib.hid (fun n => hMa.local n (since + d0) Hf.out)
    have C2 := Lib.hid (fun n => hMb.local n (since + d0) Hf.out)
    rw [hX] at C1
    rw [hY] at C2
    clear hbb hbb2 hMa hMb hltb HM hX hY
    unfold clockV at *
    go_wp2_with fail
    refine (C1.out _).mono ?_
    rintro e wx ⟨rfl, n4, rfl⟩
    go_wp2_with fail
    refine (C2.out n4).mono ?_
    rintro e wx ⟨rfl, n5, rfl⟩
    go_wp2_with fail
    go_ret
    exact ⟨rfl, below_drewNc Hb.out _⟩
end Go.Proofs.Ytieddkdkhgljkaa
