/- Awake of stage 11: true; errors read. Conditions: none. -/
import Derived.Test.YthhbdnjihhpalaaPacF
import Derived.Test.YthhbdnjihhpalaaSndRf
namespace Go.Proofs.Ythhbdnjihhpalaa
open Go.RowKit
set_option maxRecDepth 100000

theorem oneP_list : PacQ.cntd false 0 h0 z0 1 = [0] := by
  rw [PacQ.cntd_warm (by decide)]; rfl
theorem oneP_mid : MidP.midT (PacQ.cntd false 0 h0 z0 1) 0 = 0 := by
  have e : MidP.srt [0] = [0] := (MidP.srt_unique (by unfold MidP.Rising; decide) (List.Perm.refl _)).symm
  rw [oneP_list]
  unfold MidP.midT MidP.firstT MidP.lastT
  rw [e]; rfl
theorem oneP_next : nextT oneS.plain 700 0 0 = 2200 := by decide
theorem oneP_real : ClkP.realT 700 0 5 = 705 := by decide
theorem zdevs : PacQ.Devs z0 := PacQ.in_rep (by omega) 7

theorem read_one11 (W : World) : Calls Try.prog 12 #[.iface 63 (.int .i64 1)] W fun e w' => e = .returned (.string ⟨#[49]⟩) ∧ Below W.heap.size W w' :=
  read_any 0 [] (some 1) W (by simp) (Nat.zero_le _) trivial ⟨by simp, by simp⟩
theorem read_two11 (W : World) : Calls Try.prog 12 #[.iface 63 (.int .i64 2)] W fun e w' => e = .returned (.string ⟨#[50]⟩) ∧ Below W.heap.size W w' :=
  read_any 0 [] (some 2) W (by simp) (Nat.zero_le _) trivial ⟨by simp, by simp⟩
theorem read_nil11 (W : World) : Calls Try.prog 12 #[.nilIface] W fun e w' => e = .returned (.string ⟨#[]⟩) ∧ Below W.heap.size W w' :=
  read_any 0 [] none W (by simp) (Nat.zero_le _) trivial ⟨by simp, by simp⟩
theorem numN1 : numN 1 = [49] := by kernel_rfl

set_option maxHeartbeats 1000000 in
theorem awake11_any (w : World) : Calls Try.prog 6 #[] w (TruePost w) := by
  have H0 := Lib.hid (fun W => one_any W)
  have H1 := Lib.hid (fun W => pnew_good oneS 0 700 0 false W (oneS_in W) oneS_ok (by decide) (by decide))
  have H2 : Hid (∀ b bk W, PaceIn W b oneS 0 false bk 700 0 h0 z0 → Calls Try.prog 21 #[pv b] W (MidGood 2200 W)) := Lib.hid fun b bk W hW => by
    have h := pnext_good oneS 0 false bk 700 0 h0 z0 1 0 rfl rfl (by decide) zdevs (by rw [oneP_list]; decide) b W hW oneS_head
    rw [oneP_mid, oneP_next] at h
    exact h
  have H3 : Hid (∀ b bk W, PaceIn W b oneS 0 false bk 700 0 h0 z0 → Calls Try.prog 15 #[pv b, .int .i64 5] W (Quiet (.int .i64 705) W)) := Lib.hid fun b bk W hW => by
    have h := preal_any b oneS 0 false bk 700 0 h0 z0 5 (by unfold FarIn; omega) W hW
    rw [oneP_real] at h
    exact h
  simp only [oneS, CfgC.value] at H0 H1
  unfold pv MidGood at *
  go_enter Try.func6, Try.ntmps6
  go_wp2_with fail
  refine (H0.out _).mono ?_
  rintro e w1 ⟨rfl, hb1⟩
  have Hb1 := Lib.hid hb1
  clear hb1 H0
  go_wp2_with fail
  refine (H1.out _).mono ?_
  rintro e w2 ⟨b, bk, rfl, h1, h2, -, h3⟩
  have Hb2 := Lib.hid (Hb1.out.trans (h3.mono Hb1.out.size))
  have HN := Lib.hid (H2.out b bk w2 h1)
  have HR := Lib.hid (fun W (hW : Below w2.heap.size w2 W) => H3.out b bk W (h1.below hW))
  clear h1 h2 h3 H1 H2 H3 Hb1
  unfold pv
  go_wp2_with fail
  refine HN.out.mono ?_
  rintro e w3 ⟨rfl, hb3⟩
  have HR3 := Lib.hid (HR.out w3 hb3)
  have Hb3 := Lib.hid (Hb2.out.trans (hb3.mono Hb2.out.size))
  clear hb3 HN HR Hb2
  go_wp2_with fail
  refine HR3.out.mono ?_
  rintro e w4 ⟨rfl, m, rfl⟩
  go_wp2_with fail
  go_ret
  exact ⟨rfl, below_drewNc Hb3.out _⟩
end Go.Proofs.Ythhbdnjihhpalaa
