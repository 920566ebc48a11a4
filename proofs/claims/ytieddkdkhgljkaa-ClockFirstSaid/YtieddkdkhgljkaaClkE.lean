/- ClockFirst: the walk of the law. Conditions: none. -/
import Derived.Test.YtieddkdkhgljkaaClkD
namespace Go.Proofs.Ytieddkdkhgljkaa
open Go.RowKit
set_option maxRecDepth 100000

set_option maxHeartbeats 1000000 in
theorem first_law (since rate loc : Int) (w : World) : Calls Try.prog 4 #[.int .i64 since, .int .i64 rate, .int .i64 loc] w (AwakePost w) := by
  have HA := Lib.hid (awake_any w)
  by_cases hl : LawfulIn since rate
  case neg =>
    have HB := Lib.hid (clock_bad since rate hl)
    unfold NewBad at HB
    simp only [errV] at HB
    clear hl
    go_enter Try.func4, Try.ntmps4
    go_wp2_with fail
    refine HA.out.mono ?_
    rintro e w0 ⟨rfl, hb⟩
    have Hb := Lib.hid hb
    clear hb HA
    go_wp2_with fail
    refine (HB.out _).mono ?_
    rintro e wx ⟨rfl, rfl⟩
    go_wp2_with fail
    go_ret
    exact ⟨rfl, Hb.out⟩
  have HN := Lib.hid (make_clock since rate hl)
  have HT := Lib.hid (near_any loc)
  have hnr := ClkP.near_mod loc
  generalize loc.tmod 549755813888 = d at *
  have h1 := hl.1
  have h2 := hl.2.1
  have hfar := farNear hnr
  unfold ClkP.Near at hnr
  obtain ⟨n1, n2⟩ := hnr
  have hs := ClkP.real_small (since := since) hl.2.2 (show -549755813888 ≤ d by omega) n2
  obtain ⟨p1, p2, p3, p4⟩ := ClkP.first (since := since) (loc := d) hl.2.2
  generalize hTT : ClkP.realT since rate d = t at *
  have HTT := Lib.hid hTT
  clear hTT
  have Hd := Lib.hid hfar
  have Ht := Lib.hid (show FarIn (t - since) from ⟨by omega, by omega⟩)
  have Ht1 := Lib.hid (show FarIn (t - 1 - since) from ⟨by omega, by omega⟩)
  have p5 := p4 t
  generalize hL : ClkP.localT since rate t = L at *
  generalize hL1 : ClkP.localT since rate (t - 1) = L1 at *
  have HL := Lib.hid (show FarIn L from ⟨by omega, by omega⟩)
  generalize hR : ClkP.realT since rate L = R at *
  have q1 : decide (d ≤ L) = true := decide_eq_true p1
  have q2 : decide (L1 < d) = true := decide_eq_true p2
  have q3 : decide (R ≤ t) = true := decide_eq_true p5
  have e1 : wrap64 (t - 1) = t - 1 := IntWalk.wrap64_in _ (by omega)
  have e2 : wrap64 (L - d) = L - d := IntWalk.wrap64_in _ (by omega)
  have P3 := Lib.hid p3
  clear p1 p2 p3 p4 p5 n1 n2 hs h1 h2 hfar hl
  go_enter Try.func4, Try.ntmps4
  go_wp2_with fail
  refine HA.out.mono ?_
  rintro e w0 ⟨rfl, hb⟩
  have Hb := Lib.hid hb
  clear hb HA
  go_wp2_with fail
  refine (HN.out w0).mono ?_
  rintro e wx ⟨b, w1, rfl, rfl, hM, hlt, hb⟩
  have C1 := Lib.hid (fun n => hM.real n d Hd.out)
  have C2 := Lib.hid (fun n => hM.local n t Ht.out)
  have C3 := Lib.hid (fun n => hM.local n (t - 1) Ht1.out)
  have C4 := Lib.hid (fun n => hM.real n L HL.out)
  rw [HTT.out] at C1
  rw [hL] at C2
  rw [hL1] at C3
  rw [hR] at C4
  replace Hb := Lib.hid (Hb.out.trans (hb.mono Hb.out.size))
  clear hM hlt hb HN Hd Ht Ht1 HL hL hL1 hR HTT
  unfold clockV at *
  go_wp2_with fail
  refine (quiet_quiet (HT.out _)).mono ?_
  rintro e wx ⟨rfl, n2, rfl⟩
  go_wp2_with fail
  rcases P3.out with h0 | ⟨h1, h2⟩
  · have e3 : (L - d == 0) = true := by rw [beq_iff_eq]; exact h0
    clear h0 P3
    refine (C1.out n2).mono ?_
    rintro e wx ⟨rfl, n3, rfl⟩
    go_wp2_with fail
    refine (C2.out n3).mono ?_
    rintro e wx ⟨rfl, n4, rfl⟩
    go_wp2_with fail
    refine (C2.out n4).mono ?_
    rintro e wx ⟨rfl, n5, rfl⟩
    go_wp2_with fail
    refine (C3.out n5).mono ?_
    rintro e wx ⟨rfl, n6, rfl⟩
    go_wp2_with fail
    refine (C2.out n6).mono ?_
    rintro e wx ⟨rfl, n7, rfl⟩
    go_wp2_with fail
    refine (C4.out n7).mono ?_
    rintro e wx ⟨rfl, n8, rfl⟩
    go_wp2_with fail
    go_ret
    exact ⟨rfl, below_drewNc Hb.out _⟩
  · have e3 : (L - d == 0) = false := by rw [beq_eq_false_iff_ne]; omega
    have e4 : (L - d == 1) = true := by rw [beq_iff_eq]; exact h1
    have e5 : decide (0 < rate) = true := decide_eq_true h2
    clear h1 h2 P3
    refine (C1.out n2).mono ?_
    rintro e wx ⟨rfl, n3, rfl⟩
    go_wp2_with fail
    refine (C2.out n3).mono ?_
    rintro e wx ⟨rfl, n4, rfl⟩
    go_wp2_with fail
    refine (C2.out n4).mono ?_
    rintro e wx ⟨rfl, n5, rfl⟩
    go_wp2_with fail
    refine (C3.out n5).mono ?_
    rintro e wx ⟨rfl, n6, rfl⟩
    go_wp2_with fail
    refine (C2.out n6).mono ?_
    rintro e wx ⟨rfl, n7, rfl⟩
    go_wp2_with fail
    refine (C4.out n7).mono ?_
    rintro e wx ⟨rfl, n8, rfl⟩
    go_wp2_with fail
    go_ret
    exact ⟨rfl, below_drewNc Hb.out _⟩
end Go.Proofs.Ytieddkdkhgljkaa
