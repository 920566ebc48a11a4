/- ClockPlain: the walk of the law. Conditions: none. -/
import Derived.Test.YtieddkdkhgljkaaClkF
namespace Go.Proofs.Ytieddkdkhgljkaa
open Go.RowKit
set_option maxRecDepth 100000

theorem by_in (a : Int) : ∃ t : Int, 0 ≤ t ∧ t < 1000000 ∧ wrap64 ((IntKind.u64.wrap a).tmod 1000000) = t := by
  have e : IntKind.u64.wrap a = a % 18446744073709551616 := by simp [IntKind.wrap, IntKind.bits, IntKind.signed]
  rw [e]
  have h0 : 0 ≤ a % 18446744073709551616 := Int.emod_nonneg _ (by decide)
  generalize a % 18446744073709551616 = b at *
  rw [Int.tmod_eq_emod_of_nonneg h0]
  refine ⟨b % 1000000, by omega, by omega, IntWalk.wrap64_in _ (by omega)⟩
/-- A clock, or none. -/
def AnyPost (w : World) (e : Ending) (w' : World) : Prop := ∃ v x, e = .returned (.tuple #[v, x]) ∧ Below w.heap.size w w'
theorem any_clock (since rate : Int) (w : World) : Calls Try.prog 10 #[.int .i64 since, .int .i64 rate] w (AnyPost w) := by
  by_cases h : LawfulIn since rate
  · exact (clock_new since rate h w).mono fun _ _ ⟨b, he, _, _, _, h4⟩ => ⟨_, _, he, h4⟩
  · exact (clock_bad since rate h w).mono fun _ _ ⟨he, hw⟩ => ⟨_, _, he, hw ▸ Below.refl _ _⟩

set_option maxHeartbeats 1000000 in
theorem plain_law (since rate at_ by_ : Int) (w : World) : Calls Try.prog 8 #[.int .i64 since, .int .i64 rate, .int .i64 at_, .int .i64 by_] w (AwakePost w) := by
  have HA := Lib.hid (awake_any w)
  have HT := Lib.hid (near_any at_)
  have hnr := ClkP.near_mod at_
  obtain ⟨t, t1, t2, et⟩ := by_in by_
  generalize at_.tmod 549755813888 = d at *
  by_cases hl : LawfulIn since rate
  case neg =>
    have HB := Lib.hid (clock_bad since rate hl)
    unfold NewBad at HB
    simp only [errV] at HB
    clear hl hnr t1 t2
    go_enter Try.func8, Try.ntmps8
    go_wp2_with fail
    refine HA.out.mono ?_
    rintro e w0 ⟨rfl, hb⟩
    have Hb := Lib.hid hb
    clear hb HA
    go_wp2_with fail
    refine (HT.out _).mono ?_
    rintro e wx ⟨rfl, n1, rfl⟩
    go_wp2_with fail
    refine (HB.out _).mono ?_
    rintro e wx ⟨rfl, rfl⟩
    have Hb1 := Lib.hid (below_drewNc Hb.out n1)
    clear Hb
    generalize World.drewN _ n1 = w1 at *
    go_wp2_with fail
    refine (any_clock _ _ _).mono ?_
    rintro e w2 ⟨v, x, rfl, hb⟩
    replace Hb1 := Lib.hid (Hb1.out.trans (hb.mono Hb1.out.size))
    clear hb
    go_wp2_with fail
    refine (any_clock _ _ _).mono ?_
    rintro e w3 ⟨v', x', rfl, hb⟩
    replace Hb1 := Lib.hid (Hb1.out.trans (hb.mono Hb1.out.size))
    clear hb
    go_wp2_with fail
    go_ret
    exact ⟨rfl, Hb1.out⟩
  have s1 := hl.1
  have s2 := hl.2.1
  have ew : wrap64 (since + t) = since + t := IntWalk.wrap64_in _ (by omega)
  have HN := Lib.hid (make_clock since rate hl)
  have HP := Lib.hid (make_clock since 0 ⟨s1, s2, by omega, by omega⟩)
  by_cases hd : LawfulIn (since + t) rate
  case neg =>
    have HB := Lib.hid (clock_bad (since + t) rate hd)
    unfold NewBad at HB
    simp only [errV] at HB
    clear hl hd hnr t1 t2 s1 s2
    go_enter Try.func8, Try.ntmps8
    go_wp2_with fail
    refine HA.out.mono ?_
    rintro e w0 ⟨rfl, hb⟩
    have Hb := Lib.hid hb
    clear hb HA
    go_wp2_with fail
    refine (HT.out _).mono ?_
    rintro e wx ⟨rfl, n1, rfl⟩
    go_wp2_with fail
    refine (HN.out _).mono ?_
    rintro e wx ⟨bc, w1, rfl, rfl, -, -, hb⟩
    have Hb1 := Lib.hid ((below_drewNc Hb.out n1).trans (hb.mono Hb.out.size))
    clear hb Hb
    unfold clockV at *
    go_wp2_with fail
    refine (HB.out _).mono ?_
    rintro e wx ⟨rfl, rfl⟩
    go_wp2_with fail
    refine (any_clock _ _ _).mono ?_
    rintro e w3 ⟨v', x', rfl, hb⟩
    replace Hb1 := Lib.hid (Hb1.out.trans (hb.mono Hb1.out.size))
    clear hb
    go_wp2_with fail
    go_ret
    exact ⟨rfl, Hb1.out⟩
  have HD := Lib.hid (make_clock (since + t) rate hd)
  have n1 := hnr.1
  have n2 := hnr.2
  have hx := ClkP.real_small (since := since) hl.2.2 (show -549755813888 ≤ d by omega) n2
  have e1 : wrap64 (since + d) = since + d := IntWalk.wrap64_in _ (by omega)
  have e2 : wrap64 (since + t + d) = since + t + d := IntWalk.wrap64_in _ (by omega)
  have e3 : wrap64 (ClkP.realT since rate d + t) = ClkP.realT (since + t) rate d := by rw [IntWalk.wrap64_in _ (by omega), ClkP.later_real]
  have L1 := Lib.hid (farAt (since := since) hnr)
  have L2 := Lib.hid (farAt (since := since + t) hnr)
  have L3 := Lib.hid (farNear hnr)
  have x1 := Lib.hid (ClkP.plain_local since d)
  have x2 := Lib.hid (ClkP.plain_real since d)
  have x3 := Lib.hid (ClkP.later_local since rate t d)
  generalize hu : ClkP.realT since rate d = u at *
  generalize hv : ClkP.realT (since + t) rate d = v at *
  have Hu := Lib.hid hu
  have Hv := Lib.hid hv
  clear hl hd hnr t1 t2 s1 s2 n1 n2 hx hu hv
  go_enter Try.func8, Try.ntmps8
  go_wp2_with fail
  refine HA.out.mono ?_
  rintro e w0 ⟨rfl, hb⟩
  have Hb := Lib.hid hb
  clear hb HA
  go_wp2_with fail
  refine (HT.out _).mono ?_
  rintro e wx ⟨rfl, n1, rfl⟩
  go_wp2_with fail
  refine (HN.out _).mono ?_
  rintro e wx ⟨bc, w1, rfl, rfl, hMc, hlc, hb⟩
  replace Hb := Lib.hid ((below_drewNc Hb.out n1).trans (hb.mono Hb.out.size))
  have MC := Lib.hid (And.intro hMc hlc)
  clear hb hMc hlc
  unfold clockV at *
  go_wp2_with fail
  refine (HD.out _).mono ?_
  rintro e wx ⟨bd, w2, rfl, rfl, hMd, hld, hb⟩
  replace hb := below_under hb
  replace Hb := Lib.hid (Hb.out.trans (hb.mono Hb.out.size))
  replace MC := Lib.hid (And.intro (MC.out.1.below hb MC.out.2) (Nat.lt_of_lt_of_le MC.out.2 hb.size))
  have MD := Lib.hid (And.intro hMd hld)
  clear hb hMd hld
  unfold clockV at *
  go_wp2_with fail
  refine (HP.out _).mono ?_
  rintro e wx ⟨bp, w3, rfl, rfl, hMp, hlp, hb⟩
  replace hb := below_under hb
  replace Hb := Lib.hid (Hb.out.trans (hb.mono Hb.out.size))
  have C1 := Lib.hid (fun n => hMp.local n (since + d) L1.out)
  have C2 := Lib.hid (fun n => hMp.real n d L3.out)
  have C3 := Lib.hid (fun n => (MC.out.1.below hb MC.out.2).local n (since + d) L1.out)
  have C4 := Lib.hid (fun n => (MD.out.1.below hb MD.out.2).local n (since + t + d) L2.out)
  have C5 := Lib.hid (fun n => (MC.out.1.below hb MC.out.2).real n d L3.out)
  have C6 := Lib.hid (fun n => (MD.out.1.below hb MD.out.2).real n d L3.out)
  rw [x1.out] at C1
  rw [x2.out] at C2
  rw [x3.out] at C3
  rw [Hu.out] at C5
  rw [Hv.out] at C6
  clear hb hMp hlp MC MD L1 L2 L3 x1 x2 x3 Hu Hv
  generalize ClkP.localT (since + t) rate (since + t + d) = z at *
  unfold clockV at *
  go_wp2_with fail
  refine (C1.out _).mono ?_
  rintro e wx ⟨rfl, n2, rfl⟩
  go_wp2_with fail
  refine (C2.out n2).mono ?_
  rintro e wx ⟨rfl, n3, rfl⟩
  go_wp2_with fail
  refine (C3.out n3).mono ?_
  rintro e wx ⟨rfl, n4, rfl⟩
  go_wp2_with fail
  refine (C4.out n4).mono ?_
  rintro e wx ⟨rfl, n5, rfl⟩
  go_wp2_with fail
  refine (C5.out n5).mono ?_
  rintro e wx ⟨rfl, n6, rfl⟩
  go_wp2_with fail
  refine (C6.out n6).mono ?_
  rintro e wx ⟨rfl, n7, rfl⟩
  go_wp2_with fail
  go_ret
  exact ⟨rfl, below_drewNc Hb.out _⟩
end Go.Proofs.Ytieddkdkhgljkaa
