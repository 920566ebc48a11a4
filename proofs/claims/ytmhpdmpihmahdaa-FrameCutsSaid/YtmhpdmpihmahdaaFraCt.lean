/- FrameCuts: the walk of the law at a frame in memory. Conditions: where its lists lie. -/
import Derived.Test.YtmhpdmpihmahdaaFraSs
import Derived.Test.YtmhpdmpihmahdaaFrk
namespace Go.Proofs.Ytmhpdmpihmahdaa
open Go.RowKit
set_option maxRecDepth 100000

theorem OutIn.empty (W : World) (N : Nat) (e : TypeId) (hN : N = W.heap.size) : OutIn W.heap.size e W [] (.slice (some ⟨N, 0, none⟩) 0 0) (W.alloc (.cells #[] e)) := by
  subst hN
  exact OutIn.first W #[] e [] 0 rfl rfl (by unfold maxLen; omega)

set_option maxHeartbeats 1000000 in
theorem cuts_law (x : FrameC) (at_ : Int) (Am : Option Addr) (lm : List UInt8) (m2 cm : Nat) (hlm : lm.length = m2) (w : World) (h : FrameIn w x) (hbm : Bytes w w.heap.size Am lm) : Calls Try.prog 7 #[x.value, .int .i64 at_, .slice Am m2 cm] w (AwakePost w) := by
  have HA := Lib.hid (fun W => awake_any W)
  have HB0 := Lib.hid (boxF_below w x)
  have HFr0 := Lib.hid h
  have HFr := Lib.hid (h.below (boxF_below w x))
  have hW : Hid (boxF w x = w.alloc _) := Lib.hid rfl
  have HBOX := Lib.hid (fun wr hb => box9 (w := w) (wr := wr) (x := x) hb)
  have hty := h.typed
  by_cases h1 : 300 < x.mn
  · clear h hty
    obtain ⟨sender, round, members, MA, mn, mcap, msgs, kind, key, val, old, RA, rn, rcap, recs⟩ := x
    rw [show (boxF w ⟨sender, round, members, MA, mn, mcap, msgs, kind, key, val, old, RA, rn, rcap, recs⟩) = _ from hW.out] at HB0 HFr HBOX
    simp only at h1
    have q1 : decide ((300 : Int) < mn) = true := decide_eq_true (by omega)
    clear h1
    simp only [FrameC.value]
    clear hW HFr HFr0
    go_enter Try.func7, Try.ntmps7
    go_wp2_with fail
    refine (HA.out _).mono ?_
    rintro e w1 ⟨rfl, hb1⟩
    obtain ⟨b0, b1, b2, b3, b4, b5, b6, b7, b8⟩ := HBOX.out w1 hb1
    simp only at b0 b1 b2 b3 b4 b5 b6 b7 b8
    have Hb1 := Lib.hid hb1
    clear hb1 HA
    go_wp2_with fail
    go_ret
    exact ⟨rfl, HB0.out.trans (Hb1.out.mono (by simp))⟩
  · by_cases h2 : 300 < x.rn
    · clear h hty
      obtain ⟨sender, round, members, MA, mn, mcap, msgs, kind, key, val, old, RA, rn, rcap, recs⟩ := x
      rw [show (boxF w ⟨sender, round, members, MA, mn, mcap, msgs, kind, key, val, old, RA, rn, rcap, recs⟩) = _ from hW.out] at HB0 HFr HBOX
      simp only at h1 h2
      have q1 : decide ((300 : Int) < mn) = false := decide_eq_false (by omega)
      have q2 : decide ((300 : Int) < rn) = true := decide_eq_true (by omega)
      clear h1 h2
      simp only [FrameC.value]
      clear hW HFr HFr0
      go_enter Try.func7, Try.ntmps7
      go_wp2_with fail
      refine (HA.out _).mono ?_
      rintro e w1 ⟨rfl, hb1⟩
      obtain ⟨b0, b1, b2, b3, b4, b5, b6, b7, b8⟩ := HBOX.out w1 hb1
      simp only at b0 b1 b2 b3 b4 b5 b6 b7 b8
      have Hb1 := Lib.hid hb1
      clear hb1 HA
      go_wp2_with fail
      go_ret
      exact ⟨rfl, HB0.out.trans (Hb1.out.mono (by simp))⟩
    · by_cases h3 : 1000 < m2
      · clear h hty
        obtain ⟨sender, round, members, MA, mn, mcap, msgs, kind, key, val, old, RA, rn, rcap, recs⟩ := x
        rw [show (boxF w ⟨sender, round, members, MA, mn, mcap, msgs, kind, key, val, old, RA, rn, rcap, recs⟩) = _ from hW.out] at HB0 HFr HBOX
        simp only at h1 h2
        have q1 : decide ((300 : Int) < mn) = false := decide_eq_false (by omega)
        have q2 : decide ((300 : Int) < rn) = false := decide_eq_false (by omega)
        have q3 : decide ((1000 : Int) < m2) = true := decide_eq_true (by omega)
        clear h1 h2 h3
        simp only [FrameC.value]
        clear hW HFr HFr0
        go_enter Try.func7, Try.ntmps7
        go_wp2_with fail
        refine (HA.out _).mono ?_
        rintro e w1 ⟨rfl, hb1⟩
        obtain ⟨b0, b1, b2, b3, b4, b5, b6, b7, b8⟩ := HBOX.out w1 hb1
        simp only at b0 b1 b2 b3 b4 b5 b6 b7 b8
        have Hb1 := Lib.hid hb1
        clear hb1 HA
        go_wp2_with fail
        go_ret
        exact ⟨rfl, HB0.out.trans (Hb1.out.mono (by simp))⟩
      · have HCp : Hid (∀ W, FrameIn W x → Calls Try.prog 11 #[x.value] W (CopiedPost x.plain W)) := Lib.hid fun W hW => copied_any x W hW (by omega) (by omega)
        cases hc : FrameP.chk x.plain with
        | some c =>
          have HE : Hid (∀ y W, FrameIn W y → y.plain = x.plain → Calls Try.prog 12 #[y.value] W (EncBad c W)) := Lib.hid fun y W hW hy => encode_bad y W hW c (by rw [hy]; exact hc)
          clear h hc hty
          obtain ⟨sender, round, members, MA, mn, mcap, msgs, kind, key, val, old, RA, rn, rcap, recs⟩ := x
          rw [show (boxF w ⟨sender, round, members, MA, mn, mcap, msgs, kind, key, val, old, RA, rn, rcap, recs⟩) = _ from hW.out] at HB0 HFr HBOX
          simp only at h1 h2
          have q1 : decide ((300 : Int) < mn) = false := decide_eq_false (by omega)
          have q2 : decide ((300 : Int) < rn) = false := decide_eq_false (by omega)
          have q3 : decide ((1000 : Int) < m2) = false := decide_eq_false (by omega)
          clear h1 h2 h3
          simp only [FrameC.value] at HCp ⊢
          clear hW HFr0
          go_enter Try.func7, Try.ntmps7
          go_wp2_with fail
          refine (HA.out _).mono ?_
          rintro e w1 ⟨rfl, hb1⟩
          obtain ⟨b0, b1, b2, b3, b4, b5, b6, b7, b8⟩ := HBOX.out w1 hb1
          simp only at b0 b1 b2 b3 b4 b5 b6 b7 b8
          have Hb1 := Lib.hid hb1
          clear hb1 HA
          go_wp2_with fail
          refine (HCp.out _ (HFr.out.below Hb1.out)).mono ?_
          rintro e w2 ⟨v2, rfl, ⟨x2, rfl, hx2, hp2⟩, hb2⟩
          have Hx2 := Lib.hid hx2
          have Hp2 := Lib.hid hp2
          have Hb2 := Lib.hid (Hb1.out.trans (hb2.mono Hb1.out.size))
          clear hx2 hp2 hb2 HCp
          go_wp2_with fail
          refine (HE.out x2 _ Hx2.out Hp2.out).mono ?_
          rintro e w3 ⟨b, rfl, -, hb3⟩
          have Hb3 := Lib.hid (Hb2.out.trans (hb3.mono Hb2.out.size))
          clear hb3
          go_wp2_with fail
          go_ret
          exact ⟨rfl, HB0.out.trans (Hb3.out.mono (by simp))⟩
        | none =>
          have HE : Hid (∀ y W, FrameIn W y → y.plain = x.plain → Calls Try.prog 12 #[y.value] W (EncGood x.plain W)) := Lib.hid fun y W hW hy => by rw [← hy]; exact encode_good y W hW (by rw [hy]; exact hc)
          obtain ⟨E, hE⟩ : ∃ E, E = FrameP.enc x.plain := ⟨_, rfl⟩
          obtain ⟨el, hel⟩ : ∃ el, el = E.length := ⟨_, rfl⟩
          have hfit := (FrameP.chk_fits hty hc).1
          have hEl : 14 ≤ el ∧ el ≤ 30000 := by
            have h8 := fit_len hty hc
            have h9 := FrameP.enc_length hfit
            rw [hel, hE]
            omega
          obtain ⟨t, ht, hat⟩ := at_in at_ el (by omega) (by omega)
          have HE2 := Lib.hid hE
          have Hel := Lib.hid hel
          have HDs : Hid (∀ A c W, (CrcP.seal4 (E.take t)).length ≤ c → Bytes W W.heap.size A (CrcP.seal4 (E.take t)) → Calls Try.prog 18 #[.slice A (CrcP.seal4 (E.take t)).length c] W (fun e w' => ∃ b, e = .returned (.tuple #[zeroC.value, .iface 76 (.pointer (some ⟨b, 0, none⟩))]) ∧ True ∧ Below W.heap.size W w')) := Lib.hid fun A c W hc2 hby => by
            have h9 := decode_sealed A _ _ c rfl W (by rw [seal4_len, List.length_take]; omega) hc2 hby _ rfl
            obtain ⟨e9, he9⟩ := FrameP.dec_cut hfit (n := t) (by rw [← hE, ← hel]; exact ht)
            rw [← hE] at he9
            rw [he9] at h9
            refine h9.mono ?_
            rintro e w' ⟨b, h1, -, h3⟩
            exact ⟨b, h1, trivial, h3⟩
          have HDl0 : Hid (m2 = 0 → ∀ A c W, (CrcP.seal4 (E ++ lm)).length ≤ c → Bytes W W.heap.size A (CrcP.seal4 (E ++ lm)) → Calls Try.prog 18 #[.slice A (CrcP.seal4 (E ++ lm)).length c] W (DecGood x.plain W)) := Lib.hid fun hm0 A c W hc2 hby => by
            obtain rfl := List.eq_nil_of_length_eq_zero (hlm.trans hm0)
            rw [List.append_nil] at hc2 hby ⊢
            have h9 := decode_sealed A _ _ c rfl W (by rw [seal4_len]; omega) hc2 hby _ rfl
            rw [hE, FrameP.dec_enc hfit hc] at h9
            rw [hE]
            exact h9
          have HDl1 : Hid (m2 ≠ 0 → ∀ A c W, (CrcP.seal4 (E ++ lm)).length ≤ c → Bytes W W.heap.size A (CrcP.seal4 (E ++ lm)) → Calls Try.prog 18 #[.slice A (CrcP.seal4 (E ++ lm)).length c] W (fun e w' => ∃ b, e = .returned (.tuple #[zeroC.value, .iface 76 (.pointer (some ⟨b, 0, none⟩))]) ∧ True ∧ Below W.heap.size W w')) := Lib.hid fun hm0 A c W hc2 hby => by
            have h9 := decode_sealed A _ _ c rfl W (by rw [seal4_len, List.length_append]; omega) hc2 hby _ rfl
            obtain ⟨e9, he9⟩ := FrameP.dec_more hfit lm (fun e => hm0 (by rw [← hlm, e]; rfl))
            rw [← hE] at he9
            rw [he9] at h9
            refine h9.mono ?_
            rintro e w' ⟨b, h1, -, h3⟩
            exact ⟨b, h1, trivial, h3⟩
          have Hat := Lib.hid hat
          have Hlm := Lib.hid hlm
          have Hbm := Lib.hid hbm
          clear h hc hty hE hel hat hfit hlm hbm
          generalize hP : x.plain = P at *
          clear hP
          obtain ⟨sender, round, members, MA, mn, mcap, msgs, kind, key, val, old, RA, rn, rcap, recs⟩ := x
          rw [show (boxF w ⟨sender, round, members, MA, mn, mcap, msgs, kind, key, val, old, RA, rn, rcap, recs⟩) = _ from hW.out] at HB0 HFr HBOX
          simp only at h1 h2
          have q1 : decide ((300 : Int) < mn) = false := decide_eq_false (by omega)
          have q2 : decide ((300 : Int) < rn) = false := decide_eq_false (by omega)
          have q3 : decide ((1000 : Int) < m2) = false := decide_eq_false (by omega)
          have hm3 : m2 ≤ 1000 := by omega
          clear h1 h2 h3
          simp only [FrameC.value] at HCp ⊢
          clear hW HFr0
          go_enter Try.func7, Try.ntmps7
          go_wp2_with fail
          refine (HA.out _).mono ?_
          rintro e w1 ⟨rfl, hb1⟩
          obtain ⟨b0, b1, b2, b3, b4, b5, b6, b7, b8⟩ := HBOX.out w1 hb1
          simp only at b0 b1 b2 b3 b4 b5 b6 b7 b8
          have Hb1 := Lib.hid hb1
          clear hb1 HA
          go_wp2_with fail
          refine (HCp.out _ (HFr.out.below Hb1.out)).mono ?_
          rintro e w2 ⟨v2, rfl, ⟨x2, rfl, hx2, hp2⟩, hb2⟩
          have Hx2 := Lib.hid hx2
          have Hp2 := Lib.hid hp2
          have Hb2 := Lib.hid (Hb1.out.trans (hb2.mono Hb1.out.size))
          clear hx2 hp2 hb2 HCp
          go_wp2_with fail
          refine (HE.out x2 _ Hx2.out Hp2.out).mono ?_
          rintro e w3 ⟨v, g, rfl, hr3, hb3⟩
          rw [← HE2.out] at hr3
          have Hb3 := Lib.hid (Hb2.out.trans (hb3.mono Hb2.out.size))
          obtain ⟨A3, c3, rfl, hle3, -, hby3⟩ := hr3.bytes
          have hsl3 : (CrcP.seal4 E).length = el + 4 := by rw [seal4_len, Hel.out]
          rw [hsl3] at hle3 ⊢
          have HbE : Hid (Bytes w3 w3.heap.size A3 E) := Lib.hid (by
            have h9 := hby3.take el
            rw [CrcP.seal4, List.take_left' Hel.out.symm] at h9
            exact h9)
          have hs1 := fun W => run_slice_to (P := Try.prog) W 35 5 Try.underlying35 (fun w => by kernel_rfl) A3 (el + 4) c3 (el : Int) (by omega) (by omega)
          have hs2 := fun W => run_slice_to (P := Try.prog) W 35 5 Try.underlying35 (fun w => by kernel_rfl) A3 el c3 (t : Int) (by omega) (by omega)
          simp only [Int.toNat_natCast] at hs1 hs2
          have HSt := Lib.hid (seal_any A3 (E.take t) t c3 (by rw [List.length_take, ← Hel.out]; omega) w3 (by omega) (HbE.out.take t))
          have hat := Hat.out
          clear hr3 hb3 hby3 HE Hx2 Hp2 hsl3 b0 b1 b2 b3 b4 b5 b6 b7 b8 HBOX HFr Hb1
          go_wp2_with fail
          clear hat hs1 hs2
          refine HSt.out.mono ?_
          rintro e w4 hs4
          obtain ⟨v4, g4, rfl, hr4, hb4⟩ := hs4.row
          obtain ⟨A4, c4, rfl, hle4, -, hby4⟩ := hr4.bytes
          have HD4 := Lib.hid (HDs.out A4 c4 w4 hle4 hby4)
          have Hb4 := Lib.hid hb4
          clear hs4 hr4 hb4 hle4 hby4 HDs HSt
          go_wp2_with fail
          refine HD4.out.mono ?_
          rintro e w5 ⟨b5, rfl, -, hb5⟩
          have Hb5 := Lib.hid (Hb4.out.trans (hb5.mono Hb4.out.size))
          unfold zeroC FrameC.value
          have HbE5 : Hid (∀ W, Below w5.heap.size w5 W → Bytes W W.heap.size A3 E) := Lib.hid fun W hW => by
            have h9 := Hb5.out.trans (hW.mono Hb5.out.size)
            exact (HbE.out.below h9 (Nat.le_refl _)).more h9.size
          have Hbm5 : Hid (∀ W, Below w5.heap.size w5 W → Bytes W W.heap.size Am lm) := Lib.hid fun W hW => by
            have h9 : Below w.heap.size w W := (HB0.out.trans (Hb3.out.mono (by simp))).trans ((Hb5.out.trans (hW.mono Hb5.out.size)).mono (by have := Hb3.out.size; simp at this; omega))
            exact (Hbm.out.below h9 (Nat.le_refl _)).more h9.size
          have HO0 : Hid (∀ o, OutIn (w5.heap.size + 1) 5 (w5.alloc o) [] (.slice (some ⟨w5.heap.size + 1, 0, none⟩) 0 0) ((w5.alloc o).alloc (.cells #[] 5))) := Lib.hid fun o => by
            have h9 := OutIn.empty (w5.alloc o) (w5.heap.size + 1) 5 (by simp)
            simpa using h9
          have HZ : Hid (∀ o l v W, OutIn (w5.heap.size + 1) 5 (w5.alloc o) l v W → Below w5.heap.size w5 W) := Lib.hid fun o l v W ho => ((Below.refl _ _).alloc (Nat.le_refl _) _).trans (ho.of.mono (by omega))
          have Hz0 := Lib.hid (show ∀ o, w5.heap.size + 1 ≤ (w5.alloc o).heap.size from fun o => by simp)
          clear hb5 HD4 HbE Hbm
          go_wp2_with (first
          | (at_builtin
             refine wpList_append_o rfl (.tmp 61) (.tmp 62) _ rfl (w5.heap.size + 1) 5 (.int .u8 0) _ (Hz0.out _) Try.underlying35 infoB rfl _ [] rfl (HO0.out _) _ A3 el c3 E rfl Hel.out.symm (HbE5.out _ (((Below.refl w5.heap.size w5).alloc (Nat.le_refl _) _).alloc (by simp) _)) (by simp; omega) ?_
             intro v6 w6 ho6
             have HO6 := Lib.hid ho6
             clear ho6)
          | (at_builtin
             refine wpList_append_o rfl (.tmp 63) (.tmp 64) _ rfl (w5.heap.size + 1) 5 (.int .u8 0) _ (Hz0.out _) Try.underlying35 infoB rfl _ _ rfl HO6.out _ Am m2 cm lm rfl Hlm.out (Hbm5.out _ (HZ.out _ _ _ _ HO6.out)) (by rw [List.nil_append, ← Hel.out]; omega) ?_
             intro v7 w7 ho7
             have Hb7 := Lib.hid (HZ.out _ _ _ _ ho7)
             obtain ⟨g7, hr7, -⟩ := ho7
             rw [List.nil_append] at hr7
             obtain ⟨A7, c7, rfl, hle7, -, hby7⟩ := hr7.bytes
             have HS7 := Lib.hid (seal_any A7 (E ++ lm) _ c7 rfl w7 (by rw [List.length_append, ← Hel.out, Hlm.out]; omega) hby7)
             clear hr7 hle7 hby7
             generalize (E ++ lm).length = L7 at HS7 ⊢)
          | fail)
          refine HS7.out.mono ?_
          rintro e w8 hs8
          obtain ⟨v8, g8, rfl, hr8, hb8⟩ := hs8.row
          obtain ⟨A8, c8, rfl, hle8, -, hby8⟩ := hr8.bytes
          have Hb8 := Lib.hid ((Hb3.out.trans (Hb5.out.mono Hb3.out.size)).trans (((Hb7.out.trans (hb8.mono Hb7.out.size))).mono (by have h1 := Hb3.out.size; have h2 := Hb5.out.size; simp at h1 ⊢; omega)))
          by_cases hm0 : m2 = 0
          · have HD7 := Lib.hid (HDl0.out hm0 A8 c8 w8 hle8 hby8)
            have q4 : ((m2 : Int) == 0) = true := by rw [hm0]; rfl
            clear hs8 hr8 hb8 hle8 hby8 HDl0 HDl1 HS7 hm0 HO0 HO6 HZ
            generalize (CrcP.seal4 (E ++ lm)).length = sl8 at *
            go_wp2_with fail
            refine HD7.out.mono ?_
            rintro e w9 ⟨v9, rfl, ⟨x9, rfl, -, -⟩, hb9⟩
            have Hb9 := Lib.hid (Hb8.out.trans (hb9.mono Hb8.out.size))
            obtain ⟨sender4, round4, members4, MA4, mn4, mcap4, msgs4, kind4, key4, val4, old4, RA4, rn4, rcap4, recs4⟩ := x9
            unfold FrameC.value
            clear hb9 HD7
            go_wp2_with fail
            go_ret
            exact ⟨rfl, HB0.out.trans ((Hb9.out.alloc Hb9.out.size _).mono (by simp))⟩
          · have HD7 := Lib.hid (HDl1.out hm0 A8 c8 w8 hle8 hby8)
            have q4 : ((m2 : Int) == 0) = false := by rw [beq_eq_false_iff_ne]; omega
            clear hs8 hr8 hb8 hle8 hby8 HDl0 HDl1 HS7 hm0 HO0 HO6 HZ
            generalize (CrcP.seal4 (E ++ lm)).length = sl8 at *
            go_wp2_with fail
            refine HD7.out.mono ?_
            rintro e w9 ⟨b9, rfl, -, hb9⟩
            have Hb9 := Lib.hid (Hb8.out.trans (hb9.mono Hb8.out.size))
            unfold zeroC FrameC.value
            clear hb9 HD7
            go_wp2_with fail
            go_ret
            exact ⟨rfl, HB0.out.trans ((Hb9.out.alloc Hb9.out.size _).mono (by simp))⟩
end Go.Proofs.Ytmhpdmpihmahdaa
