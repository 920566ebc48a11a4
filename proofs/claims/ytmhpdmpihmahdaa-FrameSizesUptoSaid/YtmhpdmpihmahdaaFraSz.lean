/- FrameSizes: the walk of the law at a frame in memory. Conditions: where its lists lie. -/
import Derived.Test.YtmhpdmpihmahdaaFraW
namespace Go.Proofs.Ytmhpdmpihmahdaa
open Go.RowKit
set_option maxRecDepth 100000

theorem dataLen_snoc : ∀ (l : List FrameP.Msg) (m : FrameP.Msg), FrameP.dataLen (l ++ [m]) = FrameP.dataLen l + m.data.length
  | [], m => by simp [FrameP.dataLen]
  | x :: l, m => by
    have := dataLen_snoc l m
    simp only [List.cons_append, FrameP.dataLen, this]
    omega
theorem dataLen_take {l : List MsgC} {k : Nat} {port : Int} {A : Option Addr} {m cap : Nat} {data : List UInt8} (h : l[k]? = some ⟨port, A, m, cap, data⟩) (hd : data.length = m) : FrameP.dataLen ((l.take (k + 1)).map MsgC.plain) = FrameP.dataLen ((l.take k).map MsgC.plain) + m := by
  rw [List.take_add_one, h, List.map_append, ← hd]
  exact dataLen_snoc _ _
theorem dataLen_part : ∀ (l : List FrameP.Msg) (k : Nat), FrameP.dataLen (l.take k) ≤ FrameP.dataLen l
  | [], k => by simp
  | x :: l, 0 => by simp [FrameP.dataLen]
  | x :: l, k + 1 => by
    have := dataLen_part l k
    simp only [List.take_succ_cons, FrameP.dataLen]
    omega

def SizesRel (mn rn : Nat) (msgs : List MsgC) (W : World) (v i : Value) (wr : World) : Prop :=
  ∃ k, k ≤ mn ∧ i = .int .i64 (k : Nat) ∧ v = .int .i64 ((18 + 2 * mn + 8 * rn + FrameP.dataLen ((msgs.take k).map MsgC.plain) : Nat) : Int) ∧ Below W.heap.size W wr

set_option maxHeartbeats 1000000 in
theorem sizes_law (x : FrameC) (w : World) (h : FrameIn w x) : Calls Try.prog 9 #[x.value] w (AwakePost w) := by
  have HA := Lib.hid (fun W => awake_any W)
  have HB0 := Lib.hid (boxF_below w x)
  have HFr := Lib.hid (h.below (boxF_below w x))
  have hW : Hid (boxF w x = w.alloc _) := Lib.hid rfl
  have HBOX := Lib.hid (fun wr hb => box9 (w := w) (wr := wr) (x := x) hb)
  cases hc : FrameP.chk x.plain with
  | some c =>
    have HE : Hid (∀ W, FrameIn W x → Calls Try.prog 12 #[x.value] W (EncBad c W)) := Lib.hid fun W hW => encode_bad x W hW c hc
    clear h hc
    obtain ⟨sender, round, members, MA, mn, mcap, msgs, kind, key, val, old, RA, rn, rcap, recs⟩ := x
    rw [show (boxF w ⟨sender, round, members, MA, mn, mcap, msgs, kind, key, val, old, RA, rn, rcap, recs⟩) = _ from hW.out] at HB0 HFr HBOX
    simp only [FrameC.value] at HE ⊢
    clear hW
    go_enter Try.func9, Try.ntmps9
    go_wp2_with fail
    refine (HA.out _).mono ?_
    rintro e w1 ⟨rfl, hb1⟩
    obtain ⟨b0, b1, b2, b3, b4, b5, b6, b7, b8⟩ := HBOX.out w1 hb1
    simp only at b0 b1 b2 b3 b4 b5 b6 b7 b8
    have Hb1 := Lib.hid hb1
    clear hb1
    go_wp2_with fail
    refine (HE.out _ (HFr.out.below Hb1.out)).mono ?_
    rintro e w2 ⟨b, rfl, -, hb2⟩
    have Hb2 := Lib.hid (Hb1.out.trans (hb2.mono Hb1.out.size))
    clear hb2
    go_wp2_with fail
    go_ret
    exact ⟨rfl, HB0.out.trans (Hb2.out.mono (by simp))⟩
  | none =>
    have HE : Hid (∀ W, FrameIn W x → Calls Try.prog 12 #[x.value] W (EncGood x.plain W)) := Lib.hid fun W hW => encode_good x W hW hc
    obtain ⟨hfit, hm96, hr4⟩ := FrameP.chk_fits h.typed hc
    have hml := h.mlen
    have hrl := h.rlen
    have hdl := FrameP.dataLen_le x.plain.msgs 255 (fun m hm => (hfit.msgs m hm).2.2)
    have Hlen : Hid ((CrcP.seal4 (FrameP.enc x.plain)).length = 18 + 2 * x.mn + 8 * x.rn + FrameP.dataLen (x.msgs.map MsgC.plain)) := Lib.hid (by
      rw [seal4_len, FrameP.enc_length hfit]
      simp only [FrameC.plain, List.length_map, hml, hrl]
      omega)
    simp only [FrameC.plain, List.length_map] at hm96 hr4 hdl
    have hmn : x.mn ≤ 96 := by omega
    have hrn : x.rn ≤ 4 := by omega
    have hdl2 : FrameP.dataLen (x.msgs.map MsgC.plain) ≤ 24480 := by omega
    have Hml := Lib.hid hml
    clear h hc hfit hm96 hr4 hml hrl hdl
    generalize hP : x.plain = P at *
    obtain ⟨sender, round, members, MA, mn, mcap, msgs, kind, key, val, old, RA, rn, rcap, recs⟩ := x
    clear hP
    rw [show (boxF w ⟨sender, round, members, MA, mn, mcap, msgs, kind, key, val, old, RA, rn, rcap, recs⟩) = _ from hW.out] at HB0 HFr HBOX
    simp only [FrameC.value] at HE ⊢
    simp only at Hlen hmn hrn hdl2 Hml
    have Hdl2 := Lib.hid hdl2
    clear hW hdl2
    go_enter Try.func9, Try.ntmps9
    go_wp2_with fail
    refine (HA.out _).mono ?_
    rintro e w1 ⟨rfl, hb1⟩
    obtain ⟨b0, b1, b2, b3, b4, b5, b6, b7, b8⟩ := HBOX.out w1 hb1
    simp only at b0 b1 b2 b3 b4 b5 b6 b7 b8
    have Hb1 := Lib.hid hb1
    clear hb1
    go_wp2_with fail
    refine (HE.out _ (HFr.out.below Hb1.out)).mono ?_
    rintro e w2 ⟨v, g, rfl, hr2, hb2⟩
    obtain ⟨A, c, rfl, -, -, -⟩ := hr2.bytes
    have Hb2 := Lib.hid (Hb1.out.trans (hb2.mono Hb1.out.size))
    rw [Hlen.out]
    clear b0 b1 b2 b3 b4 b5 b6 b7 b8
    obtain ⟨b0, b1, b2, b3, b4, b5, b6, b7, b8⟩ := HBOX.out w2 Hb2.out
    simp only at b0 b1 b2 b3 b4 b5 b6 b7 b8
    have h0 : Hid (SizesRel mn rn msgs w2 (.int .i64 (18 + 2 * (mn : Int) + 8 * (rn : Int))) (.int .i64 0) w2) := Lib.hid ⟨0, Nat.zero_le _, rfl, by simp only [List.take_zero, List.map_nil, FrameP.dataLen]; congr 1, Below.refl _ _⟩
    clear hr2 hb2 HE HA
    go_wp2_with fail
    go_loopw [5, 30] (SizesRel mn rn msgs w2) (fun _ i _ => (mn + 1 - intOf i).toNat)
    case atStart => exact h0.out
    case round =>
      clear h0 b0 b1 b2 b3 b4 b5 b6 b7 b8
      obtain ⟨k, hk, rfl, rfl, hb⟩ := hrel
      have Hb := Lib.hid hb
      clear hb
      by_cases hlt : k < mn
      · obtain ⟨b, off, e, hbl, hms⟩ := (HFr.out.below (Hb2.out.trans (Hb.out.mono Hb2.out.size))).msgs (by have := Hml.out; simp only at this ⊢; omega)
        change MA = some _ at e
        obtain ⟨⟨port, A5, m, cap5, data⟩, hmk⟩ : ∃ y, msgs[k]? = some y := ⟨_, List.getElem?_eq_getElem (by rw [Hml.out]; exact hlt)⟩
        obtain ⟨kp, kt, ok1, ok2, ok3, ok4, ok5⟩ := hms k _ hmk
        simp only at kp kt ok1 ok2 ok3 ok4 ok5
        have hdt := dataLen_take hmk ok1
        have hp1 := dataLen_part (msgs.map MsgC.plain) (k + 1)
        rw [← List.map_take, hdt] at hp1
        have hp2 := Hdl2.out
        have Hdt := Lib.hid hdt
        have hq1 : FrameP.dataLen ((msgs.take k).map MsgC.plain) ≤ 24480 := by omega
        have hq2 : m ≤ 24480 := by omega
        clear hms hmk ok1 ok4 hdt hp1 hp2
        subst e
        generalize FrameP.dataLen ((msgs.take k).map MsgC.plain) = D at *
        go_wp2_with fail
        go_roundw
        case rel => exact ⟨k + 1, by omega, by go_num, by rw [Hdt.out]; go_num, Hb.out.trans (((Below.refl _ _).alloc (Nat.le_refl _) _).mono Hb.out.size)⟩
        case measure => simp [intOf]; omega
      · have hkn : mn = k := by omega
        subst hkn
        have hfull : (msgs.take mn).map MsgC.plain = msgs.map MsgC.plain := by rw [List.take_of_length_le (by rw [Hml.out]; exact Nat.le_refl _)]
        rw [hfull]
        clear hfull
        generalize FrameP.dataLen (msgs.map MsgC.plain) = D at *
        go_wp2_with fail
        go_ret
        exact ⟨rfl, HB0.out.trans ((Hb2.out.trans (Hb.out.mono Hb2.out.size)).mono (by simp))⟩
end Go.Proofs.Ytmhpdmpihmahdaa
