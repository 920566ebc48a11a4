/- ClockShows, ClockFirst: the walks of the laws. Conditions: none. -/
import Derived.Test.YtieddkdkhgljkaaClkC
namespace Go.Proofs.Ytieddkdkhgljkaa
open Go.RowKit
set_option maxRecDepth 100000

theorem farNear {t : Int} (h : ClkP.Near t) : FarIn t := by unfold ClkP.Near at h; unfold FarIn; omega
theorem farAt {since t : Int} (h : ClkP.Near t) : FarIn (since + t - since) := by unfold ClkP.Near at h; unfold FarIn; omega

set_option maxHeartbeats 1000000 in
theorem shows_law (since rate at_ : Int) (w : World) : Calls Try.prog 3 #[.int .i64 since, .int .i64 rate, .int .i64 at_] w (AwakePost w) := by
  have HA := Lib.hid (awake_any w)
  by_cases hl : LawfulIn since rate
  case neg =>
    have HB := Lib.hid (clock_bad since rate hl)
    have HL := Lib.hid (lawful_no since rate hl)
    have HR : Hid (∀ W : World, Calls Try.prog 12 #[errV [] (some 2)] W (ReadPost [] (some 2) W)) := Lib.hid fun W => read_any 0 [] (some 2) W (by simp) (Nat.zero_le _) trivial ⟨fun n hn => absurd hn (by simp), fun m hm => by cases hm; omega⟩
    have HE : Hid (∀ W : World, Calls Try.prog 13 #[.int .i64 2] W fun e w' => e = .returned (strV (numN 2)) ∧ Below W.heap.size W w') := Lib.hid fun W => e_any 2 W (by omega)
    have hs : strV (sufT (some 2) true []) = strV (numN 2) := rfl
    unfold ReadPost at HR
    rw [hs] at HR
    clear hl hs
    generalize numN 2 = x at *
    unfold strV at *
    go_enter Try.func3, Try.ntmps3
    go_wp2_with fail
    refine HA.out.mono ?_
    rintro e w1 ⟨rfl, hb⟩
    have Hb := Lib.hid hb
    clear hb HA
    go_wp2_with fail
    refine (HB.out w1).mono ?_
    rintro e wx ⟨rfl, rfl⟩
    go_wp2_with fail
    refine (HL.out _).mono ?_
    rintro e wx ⟨rfl, n1, rfl⟩
    have Hb1 := Lib.hid (below_drewNc Hb.out n1)
    clear Hb
    generalize World.drewN _ n1 = w2 at *
    go_wp2_with fail
    refine (HR.out w2).mono ?_
    rintro e w3 ⟨rfl, hb3⟩
    have Hb3 := Lib.hid (Hb1.out.trans (hb3.mono Hb1.out.size))
    clear hb3 Hb1
    go_wp2_with fail
    refine (HE.out w3).mono ?_
    rintro e w4 ⟨rfl, hb4⟩
    have Hb4 := Lib.hid (Hb3.out.trans (hb4.mono Hb3.out.size))
    clear hb4 Hb3
    go_wp2_with fail
    go_ret
    exact ⟨rfl, Hb4.out⟩
  have HL := Lib.hid (lawful_yes since rate hl)
  have HN := Lib.hid (make_clock since rate hl)
  have HT := Lib.hid (near_any at_)
  have hnr := ClkP.near_mod at_
  generalize at_.tmod 549755813888 = d at *
  have hw : wrap64 (since + d) = since + d := IntWalk.wrap64_in _ (by unfold ClkP.Near at hnr; have h1 := hl.1; have h2 := hl.2.1; omega)
  have HF1 := Lib.hid (reflocal_any since rate (since + d) hl.2.2 (farAt hnr))
  have HF2 := Lib.hid (refreal_any since rate d hl.2.2 ⟨by have := hl.1; omega, by have := hl.2.1; omega⟩ (farNear hnr))
  have Hfar := Lib.hid (farAt (since := since) hnr)
  have Hnear := Lib.hid (farNear hnr)
  rw [← hw] at HF1 Hfar
  clear hl hnr hw
  go_enter Try.func3, Try.ntmps3
  go_wp2_with fail
  refine HA.out.mono ?_
  rintro e w0 ⟨rfl, hb⟩
  have Hb := Lib.hid hb
  clear hb HA
  go_wp2_with fail
  refine (HN.out w0).mono ?_
  rintro e wx ⟨b, w1, rfl, rfl, hM, hlt, hb⟩
  have C1 := Lib.hid hM.since
  have C2 := Lib.hid (fun n => hM.local n _ Hfar.out)
  have C3 := Lib.hid (fun n => hM.real n _ Hnear.out)
  have Hb1 := Lib.hid (Hb.out.trans (hb.mono Hb.out.size))
  clear hM hlt hb HN Hb Hfar Hnear
  generalize ClkP.localT since rate (wrap64 (since + d)) = x at *
  generalize ClkP.realT since rate d = y at *
  unfold clockV at *
  go_wp2_with fail
  refine (quiet_quiet (HL.out _)).mono ?_
  rintro e wx ⟨rfl, n1, rfl⟩
  go_wp2_with fail
  refine (quiet_quiet (HT.out _)).mono ?_
  rintro e wx ⟨rfl, n2, rfl⟩
  go_wp2_with fail
  refine (C1.out n2).mono ?_
  rintro e wx ⟨rfl, n3, rfl⟩
  go_wp2_with fail
  refine (C2.out n3).mono ?_
  rintro e wx ⟨rfl, n4, rfl⟩
  go_wp2_with fail
  refine (quiet_quiet (HF1.out _)).mono ?_
  rintro e wx ⟨rfl, n5, rfl⟩
  go_wp2_with fail
  refine (C3.out n5).mono ?_
  rintro e wx ⟨rfl, n6, rfl⟩
  go_wp2_with fail
  refine (quiet_quiet (HF2.out _)).mono ?_
  rintro e wx ⟨rfl, n7, rfl⟩
  go_wp2_with fail
  go_ret
  exact ⟨rfl, below_drewNc Hb1.out _⟩
end Go.Proofs.Ytieddkdkhgljkaa
