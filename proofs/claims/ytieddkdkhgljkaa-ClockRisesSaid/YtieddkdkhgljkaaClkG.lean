/- ClockRises: the walk of the law. Conditions: none. -/
import Derived.Test.YtieddkdkhgljkaaClkD
namespace Go.Proofs.Ytieddkdkhgljkaa
open Go.RowKit
set_option maxRecDepth 100000

/-- What the law asks of two moments of a clock. -/
def RisesQ (since rate a b : Int) : Prop :=
  wrap64 (since + a) = since + a ∧ wrap64 (since + b) = since + b ∧ wrap64 (b - a) = b - a ∧ wrap64 ((b - a).tdiv 1000000) = (b - a).tdiv 1000000 ∧
  wrap64 (1000000 + rate) = 1000000 + rate ∧ wrap64 ((b - a).tdiv 1000000 * (1000000 + rate)) = (b - a).tdiv 1000000 * (1000000 + rate) ∧
  wrap64 ((b - a).tmod 1000000 * (1000000 + rate)) = (b - a).tmod 1000000 * (1000000 + rate) ∧
  wrap64 (((b - a).tmod 1000000 * (1000000 + rate)).tdiv 1000000) = ((b - a).tmod 1000000 * (1000000 + rate)).tdiv 1000000 ∧
  wrap64 ((b - a).tdiv 1000000 * (1000000 + rate) + ((b - a).tmod 1000000 * (1000000 + rate)).tdiv 1000000) = (b - a).tdiv 1000000 * (1000000 + rate) + ((b - a).tmod 1000000 * (1000000 + rate)).tdiv 1000000 ∧
  wrap64 (ClkP.localT since rate (since + b) - ClkP.localT since rate (since + a)) = ClkP.localT since rate (since + b) - ClkP.localT since rate (since + a) ∧
  decide (ClkP.localT since rate (since + a) ≤ ClkP.localT since rate (since + b)) = true ∧
  decide (wrap64 (ClkP.localT since rate (since + b) - ClkP.localT since rate (since + a) - ((b - a).tdiv 1000000 * (1000000 + rate) + ((b - a).tmod 1000000 * (1000000 + rate)).tdiv 1000000)) ≤ 2) = true ∧
  decide (wrap64 ((b - a).tdiv 1000000 * (1000000 + rate) + ((b - a).tmod 1000000 * (1000000 + rate)).tdiv 1000000 - (ClkP.localT since rate (since + b) - ClkP.localT since rate (since + a))) ≤ 2) = true
theorem rises_q {since rate a b : Int} (hl : LawfulIn since rate) (ha : ClkP.Near a) (hb : ClkP.Near b) (h : a ≤ b) :
    RisesQ since rate a b ∧ FarIn (ClkP.localT since rate (since + a)) ∧ FarIn (ClkP.localT since rate (since + b)) ∧
    decide (ClkP.realT since rate (ClkP.localT since rate (since + a)) ≤ ClkP.realT since rate (ClkP.localT since rate (since + b))) = true := by
  obtain ⟨a1, a2⟩ := ha
  obtain ⟨b1, b2⟩ := hb
  have s1 := hl.1
  have s2 := hl.2.1
  have k1 := hl.2.2.1
  have k2 := hl.2.2.2
  have hx := ClkP.local_small (since := since) (real := since + a) (m := 549755813888) hl.2.2 (by omega) (by omega)
  have hy := ClkP.local_small (since := since) (real := since + b) (m := 549755813888) hl.2.2 (by omega) (by omega)
  obtain ⟨p1, p2, p3⟩ := ClkP.rises (since := since) hl.2.2 h
  have p4 := ClkP.real_rises (since := since) hl.2.2 p1
  have r1 := ClkP.quo_rest (b - a) 1000000
  have r2 := ClkP.rest_lt (a := b - a) (b := 1000000) (by decide)
  have r3 := ClkP.prod_in (a := (b - a).tdiv 1000000) (t := 1000000 + rate) (m := 1099512) (by omega) (by omega) (by omega) (by omega)
  have r4 := ClkP.prod_in (a := (b - a).tmod 1000000) (t := 1000000 + rate) (m := 1000000) (by omega) (by omega) (by omega) (by omega)
  have r5 := ClkP.quo_rest ((b - a).tmod 1000000 * (1000000 + rate)) 1000000
  have r6 := ClkP.rest_lt (a := (b - a).tmod 1000000 * (1000000 + rate)) (b := 1000000) (by decide)
  refine ⟨?_, ⟨by omega, by omega⟩, ⟨by omega, by omega⟩, decide_eq_true p4⟩
  clear p4
  unfold RisesQ
  generalize ClkP.localT since rate (since + a) = x at *
  generalize ClkP.localT since rate (since + b) = y at *
  generalize ((b - a).tmod 1000000 * (1000000 + rate)).tdiv 1000000 = u at *
  generalize ((b - a).tmod 1000000 * (1000000 + rate)).tmod 1000000 = u' at *
  generalize (b - a).tmod 1000000 * (1000000 + rate) = v at *
  generalize (b - a).tdiv 1000000 * (1000000 + rate) = z at *
  generalize (b - a).tdiv 1000000 = q at *
  generalize (b - a).tmod 1000000 = r at *
  refine ⟨IntWalk.wrap64_in _ (by omega), IntWalk.wrap64_in _ (by omega), IntWalk.wrap64_in _ (by omega), IntWalk.wrap64_in _ (by omega), IntWalk.wrap64_in _ (by omega), IntWalk.wrap64_in _ (by omega), IntWalk.wrap64_in _ (by omega), IntWalk.wrap64_in _ (by omega), IntWalk.wrap64_in _ (by omega), IntWalk.wrap64_in _ (by omega), decide_eq_true p1, ?_, ?_⟩
  · rw [IntWalk.wrap64_in _ (by omega)]; exact decide_eq_true p2
  · rw [IntWalk.wrap64_in _ (by omega)]; exact decide_eq_true p3

set_option maxHeartbeats 1000000 in
theorem rises_law (since rate aa bb : Int) (w : World) : Calls Try.prog 7 #[.int .i64 since, .int .i64 rate, .int .i64 aa, .int .i64 bb] w (AwakePost w) := by
  have HA := Lib.hid (awake_any w)
  by_cases hl : LawfulIn since rate
  case neg =>
    have HB := Lib.hid (clock_bad since rate hl)
    unfold NewBad at HB
    simp only [errV] at HB
    clear hl
    go_enter Try.func7, Try.ntmps7
    go_wp2_with fail
    refine HA.out.mono ?_
    rintro e w0 ⟨rfl, hb⟩
    have Hb := Lib.hid hb
    clear hb HA
    go_wp2_with fail
    refine (HB.out _).mono ?_
    rintro e wx ⟨rfl, rfl⟩
    go_wp2_with fail
    go_ret
    exact ⟨rfl, Hb.out⟩
  have HN := Lib.hid (make_clock since rate hl)
  have HTa := Lib.hid (near_any aa)
  have HTb := Lib.hid (near_any bb)
  have hna := ClkP.near_mod aa
  have hnb := ClkP.near_mod bb
  generalize aa.tmod 549755813888 = a at *
  generalize bb.tmod 549755813888 = b at *
  by_cases h0 : b < a
  · have qs : decide (b < a) = true := decide_eq_true h0
    have hle : b ≤ a := by omega
    clear h0
    obtain ⟨hq, hX, hY, q0⟩ := rises_q hl hnb hna hle
    obtain ⟨e1, e2, e3, e4, e5, e6, e7, e8, e9, e10, q1, q2, q3⟩ := hq
    have Ha := Lib.hid (farAt (since := since) hnb)
    have Hbb := Lib.hid (farAt (since := since) hna)
    generalize hx : ClkP.localT since rate (since + b) = x at *
    generalize hy : ClkP.localT since rate (since + a) = y at *
    generalize hu : ClkP.realT since rate x = u at *
    generalize hv : ClkP.realT since rate y = v at *
    have HX := Lib.hid hX
    have HY := Lib.hid hY
    clear hl hna hnb hle hX hY
    go_enter Try.func7, Try.ntmps7
    go_wp2_with fail
    refine HA.out.mono ?_
    rintro e w0 ⟨rfl, hb⟩
    have Hb := Lib.hid hb
    clear hb HA
    go_wp2_with fail
    refine (HN.out w0).mono ?_
    rintro e wx ⟨bk, w1, rfl, rfl, hM, hlt, hb⟩
    have C1 := Lib.hid (fun n => hM.local n (since + b) Ha.out)
    have C2 := Lib.hid (fun n => hM.local n (since + a) Hbb.out)
    have C3 := Lib.hid (fun n => hM.real n x HX.out)
    have C4 := Lib.hid (fun n => hM.real n y HY.out)
    rw [hx] at C1
    rw [hy] at C2
    rw [hu] at C3
    rw [hv] at C4
    replace Hb := Lib.hid (Hb.out.trans (hb.mono Hb.out.size))
    clear hM hlt hb HN HX HY Ha Hbb hx hy hu hv
    unfold clockV at *
    go_wp2_with fail
    refine (quiet_quiet (HTa.out _)).mono ?_
    rintro e wx ⟨rfl, n2, rfl⟩
    go_wp2_with fail
    refine (quiet_quiet (HTb.out _)).mono ?_
    rintro e wx ⟨rfl, n3, rfl⟩
    go_wp2_with fail
    refine (C1.out n3).mono ?_
    rintro e wx ⟨rfl, n4, rfl⟩
    go_wp2_with fail
    refine (C2.out n4).mono ?_
    rintro e wx ⟨rfl, n5, rfl⟩
    go_wp2_with fail
    refine (C3.out n5).mono ?_
    rintro e wx ⟨rfl, n6, rfl⟩
    go_wp2_with fail
    refine (C4.out n6).mono ?_
    rintro e wx ⟨rfl, n7, rfl⟩
    go_wp2_with fail
    go_ret
    exact ⟨rfl, below_drewNc Hb.out _⟩
  · have qs : decide (b < a) = false := decide_eq_false h0
    have hle : a ≤ b := by omega
    clear h0
    obtain ⟨hq, hX, hY, q0⟩ := rises_q hl hna hnb hle
    obtain ⟨e1, e2, e3, e4, e5, e6, e7, e8, e9, e10, q1, q2, q3⟩ := hq
    have Ha := Lib.hid (farAt (since := since) hna)
    have Hbb := Lib.hid (farAt (since := since) hnb)
    generalize hx : ClkP.localT since rate (since + a) = x at *
    generalize hy : ClkP.localT since rate (since + b) = y at *
    generalize hu : ClkP.realT since rate x = u at *
    generalize hv : ClkP.realT since rate y = v at *
    have HX := Lib.hid hX
    have HY := Lib.hid hY
    clear hl hna hnb hle hX hY
    go_enter Try.func7, Try.ntmps7
    go_wp2_with fail
    refine HA.out.mono ?_
    rintro e w0 ⟨rfl, hb⟩
    have Hb := Lib.hid hb
    clear hb HA
    go_wp2_with fail
    refine (HN.out w0).mono ?_
    rintro e wx ⟨bk, w1, rfl, rfl, hM, hlt, hb⟩
    have C1 := Lib.hid (fun n => hM.local n (since + a) Ha.out)
    have C2 := Lib.hid (fun n => hM.local n (since + b) Hbb.out)
    have C3 := Lib.hid (fun n => hM.real n x HX.out)
    have C4 := Lib.hid (fun n => hM.real n y HY.out)
    rw [hx] at C1
    rw [hy] at C2
    rw [hu] at C3
    rw [hv] at C4
    replace Hb := Lib.hid (Hb.out.trans (hb.mono Hb.out.size))
    clear hM hlt hb HN HX HY Ha Hbb hx hy hu hv
    unfold clockV at *
    go_wp2_with fail
    refine (quiet_quiet (HTa.out _)).mono ?_
    rintro e wx ⟨rfl, n2, rfl⟩
    go_wp2_with fail
    refine (quiet_quiet (HTb.out _)).mono ?_
    rintro e wx ⟨rfl, n3, rfl⟩
    go_wp2_with fail
    refine (C1.out n3).mono ?_
    rintro e wx ⟨rfl, n4, rfl⟩
    go_wp2_with fail
    refine (C2.out n4).mono ?_
    rintro e wx ⟨rfl, n5, rfl⟩
    go_wp2_with fail
    refine (C3.out n5).mono ?_
    rintro e wx ⟨rfl, n6, rfl⟩
    go_wp2_with fail
    refine (C4.out n6).mono ?_
    rintro e wx ⟨rfl, n7, rfl⟩
    go_wp2_with fail
    go_ret
    exact ⟨rfl, below_drewNc Hb.out _⟩
end Go.Proofs.Ytieddkdkhgljkaa
