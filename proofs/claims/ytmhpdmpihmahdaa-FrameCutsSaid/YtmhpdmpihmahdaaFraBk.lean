/- FrameBack: the walk of the law at a frame in memory. Conditions: where its lists lie. -/
import Derived.Test.YtmhpdmpihmahdaaFraW
import Derived.Test.YtmhpdmpihmahdaaFraL
import Derived.Test.YtmhpdmpihmahdaaFraO
namespace Go.Proofs.Ytmhpdmpihmahdaa
open Go.RowKit
set_option maxRecDepth 100000

theorem fit_len {f : FrameP.Fr} (h : FrameP.Typed f) (hc : FrameP.chk f = none) : (FrameP.enc f).length ≤ 30000 := by
  obtain ⟨hfit, hm96, hr4⟩ := FrameP.chk_fits h hc
  rw [FrameP.enc_length hfit]
  have := FrameP.dataLen_le f.msgs 255 (fun m hm => (hfit.msgs m hm).2.2)
  omega

set_option maxHeartbeats 1000000 in
theorem back_law (x : FrameC) (w : World) (h : FrameIn w x) : Calls Try.prog 6 #[x.value] w (AwakePost w) := by
  have HA := Lib.hid (fun W => awake_any W)
  have HB0 := Lib.hid (boxF_below w x)
  have HFr0 := Lib.hid h
  have HFr := Lib.hid (h.below (boxF_below w x))
  have hW : Hid (boxF w x = w.alloc _) := Lib.hid rfl
  have HBOX := Lib.hid (fun wr hb => box9 (w := w) (wr := wr) (x := x) hb)
  have hty := h.typed
  by_cases h1 : 300 < x.mn
  · clear h hty
    obtain ⟨sender, round, members, MA, mn, mcap, msgs, kind, key, val, old, RA, rn, rcap, recs⟩ := x
    rw [show (boxF w ⟨sender, round, members, MA, mn, mcap, msgs, kind, key, val, old, RA, rn, rcap, recs⟩) = _ from hW.out] at HB0 HFr HBOX
    simp only at h1
    have q1 : decide ((300 : Int) < mn) = true := decide_eq_true (by omega)
    clear h1
    simp only [FrameC.value]
    clear hW HFr HFr0
    go_enter Try.func6, Try.ntmps6
    go_wp2_with fail
    refine (HA.out _).mono ?_
    rintro e w1 ⟨rfl, hb1⟩
    obtain ⟨b0, b1, b2, b3, b4, b5, b6, b7, b8⟩ := HBOX.out w1 hb1
    simp only at b0 b1 b2 b3 b4 b5 b6 b7 b8
    have Hb1 := Lib.hid hb1
    clear hb1 HA
    go_wp2_with fail
    go_ret
    exact ⟨rfl, HB0.out.trans (Hb1.out.mono (by simp))⟩
  · by_cases h2 : 300 < x.rn
    · clear h hty
      obtain ⟨sender, round, members, MA, mn, mcap, msgs, kind, key, val, old, RA, rn, rcap, recs⟩ := x
      rw [show (boxF w ⟨sender, round, members, MA, mn, mcap, msgs, kind, key, val, old, RA, rn, rcap, recs⟩) = _ from hW.out] at HB0 HFr HBOX
      simp only at h1 h2
      have q1 : decide ((300 : Int) < mn) = false := decide_eq_false (by omega)
      have q2 : decide ((300 : Int) < rn) = true := decide_eq_true (by omega)
      clear h1 h2
      simp only [FrameC.value]
      clear hW HFr HFr0
      go_enter Try.func6, Try.ntmps6
      go_wp2_with fail
      refine (HA.out _).mono ?_
      rintro e w1 ⟨rfl, hb1⟩
      obtain ⟨b0, b1, b2, b3, b4, b5, b6, b7, b8⟩ := HBOX.out w1 hb1
      simp only at b0 b1 b2 b3 b4 b5 b6 b7 b8
      have Hb1 := Lib.hid hb1
      clear hb1 HA
      go_wp2_with fail
      go_ret
      exact ⟨rfl, HB0.out.trans (Hb1.out.mono (by simp))⟩
    · have HCp : Hid (∀ W, FrameIn W x → Calls Try.prog 11 #[x.value] W (CopiedPost x.plain W)) := Lib.hid fun W hW => copied_any x W hW (by omega) (by omega)
      cases hc : FrameP.chk x.plain with
      | some c =>
        have HE : Hid (∀ y W, FrameIn W y → y.plain = x.plain → Calls Try.prog 12 #[y.value] W (EncBad c W)) := Lib.hid fun y W hW hy => encode_bad y W hW c (by rw [hy]; exact hc)
        clear h hc hty
        obtain ⟨sender, round, members, MA, mn, mcap, msgs, kind, key, val, old, RA, rn, rcap, recs⟩ := x
        rw [show (boxF w ⟨sender, round, members, MA, mn, mcap, msgs, kind, key, val, old, RA, rn, rcap, recs⟩) = _ from hW.out] at HB0 HFr HBOX
        simp only at h1 h2
        have q1 : decide ((300 : Int) < mn) = false := decide_eq_false (by omega)
        have q2 : decide ((300 : Int) < rn) = false := decide_eq_false (by omega)
        clear h1 h2
        simp only [FrameC.value] at HCp ⊢
        clear hW HFr0
        go_enter Try.func6, Try.ntmps6
        go_wp2_with fail
        refine (HA.out _).mono ?_
        rintro e w1 ⟨rfl, hb1⟩
        obtain ⟨b0, b1, b2, b3, b4, b5, b6, b7, b8⟩ := HBOX.out w1 hb1
        simp only at b0 b1 b2 b3 b4 b5 b6 b7 b8
        have Hb1 := Lib.hid hb1
        clear hb1 HA
        go_wp2_with fail
        refine (HCp.out _ (HFr.out.below Hb1.out)).mono ?_
        rintro e w2 ⟨v2, rfl, ⟨x2, rfl, hx2, hp2⟩, hb2⟩
        have Hx2 := Lib.hid hx2
        have Hp2 := Lib.hid hp2
        have Hb2 := Lib.hid (Hb1.out.trans (hb2.mono Hb1.out.size))
        clear hx2 hp2 hb2 HCp
        go_wp2_with fail
        refine (HE.out x2 _ Hx2.out Hp2.out).mono ?_
        rintro e w3 ⟨b, rfl, -, hb3⟩
        have Hb3 := Lib.hid (Hb2.out.trans (hb3.mono Hb2.out.size))
        clear hb3
        go_wp2_with fail
        go_ret
        exact ⟨rfl, HB0.out.trans (Hb3.out.mono (by simp))⟩
      | none =>
        have HE : Hid (∀ y W, FrameIn W y → y.plain = x.plain → Calls Try.prog 12 #[y.value] W (EncGood x.plain W)) := Lib.hid fun y W hW hy => by rw [← hy]; exact encode_good y W hW (by rw [hy]; exact hc)
        have HD : Hid (∀ A c W, (CrcP.seal4 (FrameP.enc x.plain)).length ≤ c → Bytes W W.heap.size A (CrcP.seal4 (FrameP.enc x.plain)) → Calls Try.prog 18 #[.slice A (CrcP.seal4 (FrameP.enc x.plain)).length c] W (DecGood x.plain W)) := Lib.hid fun A c W hc2 hby => by
          have h9 := decode_sealed A _ _ c rfl W (by rw [seal4_len]; have := fit_len hty hc; omega) hc2 hby _ rfl
          rw [FrameP.dec_enc (FrameP.chk_fits hty hc).1 hc] at h9
          exact h9
        have HSm : Hid (∀ y W, FrameIn W x → FrameIn W y → x.plain = y.plain → Calls Try.prog 17 #[x.value, y.value] W (fun e w' => e = .returned (.bool true) ∧ Below W.heap.size W w')) := Lib.hid fun y W h1 h2 h3 => same_any x y W h1 h2 h3
        clear h hc hty
        generalize hP : x.plain = P at *
        have HP := Lib.hid hP
        clear hP
        obtain ⟨sender, round, members, MA, mn, mcap, msgs, kind, key, val, old, RA, rn, rcap, recs⟩ := x
        rw [show (boxF w ⟨sender, round, members, MA, mn, mcap, msgs, kind, key, val, old, RA, rn, rcap, recs⟩) = _ from hW.out] at HB0 HFr HBOX
        simp only at h1 h2
        have q1 : decide ((300 : Int) < mn) = false := decide_eq_false (by omega)
        have q2 : decide ((300 : Int) < rn) = false := decide_eq_false (by omega)
        clear h1 h2
        simp only [FrameC.value] at HCp HSm ⊢
        clear hW HFr0
        go_enter Try.func6, Try.ntmps6
        go_wp2_with fail
        refine (HA.out _).mono ?_
        rintro e w1 ⟨rfl, hb1⟩
        obtain ⟨b0, b1, b2, b3, b4, b5, b6, b7, b8⟩ := HBOX.out w1 hb1
        simp only at b0 b1 b2 b3 b4 b5 b6 b7 b8
        have Hb1 := Lib.hid hb1
        clear hb1 HA
        go_wp2_with fail
        refine (HCp.out _ (HFr.out.below Hb1.out)).mono ?_
        rintro e w2 ⟨v2, rfl, ⟨x2, rfl, hx2, hp2⟩, hb2⟩
        have Hx2 := Lib.hid hx2
        have Hp2 := Lib.hid hp2
        have Hb2 := Lib.hid (Hb1.out.trans (hb2.mono Hb1.out.size))
        clear hx2 hp2 hb2 HCp
        go_wp2_with fail
        refine (HE.out x2 _ Hx2.out Hp2.out).mono ?_
        rintro e w3 ⟨v, g, rfl, hr3, hb3⟩
        have Hb3 := Lib.hid (Hb2.out.trans (hb3.mono Hb2.out.size))
        obtain ⟨A3, c3, rfl, hle3, -, hby3⟩ := hr3.bytes
        have HD3 := Lib.hid (HD.out A3 c3 w3 hle3 hby3)
        clear hr3 hb3 hle3 hby3 HD HE Hx2 Hp2
        generalize (CrcP.seal4 (FrameP.enc P)).length = sl at *
        go_wp2_with fail
        refine HD3.out.mono ?_
        rintro e w4 ⟨v4, rfl, ⟨x4, rfl, hx4, hp4⟩, hb4⟩
        have Hb4 := Lib.hid (Hb3.out.trans (hb4.mono Hb3.out.size))
        have Hx4 := Lib.hid hx4
        have Hp4 := Lib.hid hp4
        clear b0 b1 b2 b3 b4 b5 b6 b7 b8
        obtain ⟨b0, b1, b2, b3, b4, b5, b6, b7, b8⟩ := HBOX.out w4 Hb4.out
        simp only at b0 b1 b2 b3 b4 b5 b6 b7 b8
        have hz4 : w.heap.size < w4.heap.size := by have := Hb4.out.size; simp at this; omega
        clear hx4 hp4 hb4 HD3
        have HS4 : Hid (∀ o, Calls Try.prog 17 _ (w4.alloc o) _) := Lib.hid fun o => HSm.out x4 (w4.alloc o) (HFr.out.below (Hb4.out.alloc Hb4.out.size o)) (Hx4.out.below ((Below.refl _ _).alloc (Nat.le_refl _) o)) Hp4.out.symm
        obtain ⟨sender4, round4, members4, MA4, mn4, mcap4, msgs4, kind4, key4, val4, old4, RA4, rn4, rcap4, recs4⟩ := x4
        simp only [FrameC.value] at HS4 ⊢
        clear HSm
        go_wp2_with fail
        refine (HS4.out _).mono ?_
        rintro e w5 ⟨rfl, hb5⟩
        have Hb5 := Lib.hid ((Hb4.out.alloc Hb4.out.size _).trans (hb5.mono (by have := Hb4.out.size; simp at this ⊢; omega)))
        clear hb5
        go_wp2_with fail
        go_ret
        exact ⟨rfl, HB0.out.trans (Hb5.out.mono (by simp))⟩
end Go.Proofs.Ytmhpdmpihmahdaa
