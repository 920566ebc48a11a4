/- Contract of the document's Check at a frame in memory. Conditions: where its lists lie. -/
import Derived.Test.YtmhpdmpihmahdaaFraD
import Derived.Deep.DeepCutAuto
namespace Go.Proofs.Ytmhpdmpihmahdaa
open Go.RowKit

def RefChkPost (r : Option FrameP.Wrong) (w : World) (e : Ending) (w' : World) : Prop := e = .returned (strV (wrongT r)) ∧ Below w.heap.size w w'

theorem refcheck_sender (x : FrameC) (w : World) (h1 : 6 < x.sender) :
    Calls Try.prog 16 #[x.value] w (RefChkPost (FrameP.chk x.plain) w) := by
  have e : FrameP.chk x.plain = some (2, -1) := if_pos h1
  rw [e]; clear e
  have HB := Lib.hid (boxF_below w x)
  have HA := Lib.hid (fun W => at_any 2 (-1) W (by omega) (by omega))
  have hT : wrongT (some (2, -1)) = atT 2 (-1) := rfl
  unfold RefChkPost
  rw [hT]
  clear hT
  generalize atT 2 (-1) = t at *
  obtain ⟨sender, round, members, MA, mn, mcap, msgs, kind, key, val, old, RA, rn, rcap, recs⟩ := x
  have q1 : decide ((6 : Int) < sender) = true := decide_eq_true (by simp only at h1; omega)
  simp only [FrameC.value]
  unfold boxF at HB
  unfold strV at *
  simp only at HB
  clear h1
  go_enter Try.func16, Try.ntmps16
  go_wp2_with fail
  refine (HA.out _).mono ?_
  rintro e w1 ⟨rfl, hb⟩
  have Hb := Lib.hid hb
  clear hb
  go_wp2_with fail
  go_ret
  exact ⟨rfl, HB.out.trans (Hb.out.mono (by simp))⟩

theorem refcheck_many (x : FrameC) (w : World) (h1 : ¬ 6 < x.sender) (h2 : 96 < x.mn ∨ 4 < x.rn) (hm : x.msgs.length = x.mn) (hr : x.recs.length = x.rn) :
    Calls Try.prog 16 #[x.value] w (RefChkPost (FrameP.chk x.plain) w) := by
  have e : FrameP.chk x.plain = some (3, -1) := by
    unfold FrameP.chk
    rw [if_neg (show ¬ 6 < x.plain.sender from h1), if_pos (show 96 < x.plain.msgs.length ∨ 4 < x.plain.recs.length by simp only [FrameC.plain, List.length_map]; omega)]
  rw [e]; clear e
  have HB := Lib.hid (boxF_below w x)
  have HA := Lib.hid (fun W => at_any 3 (-1) W (by omega) (by omega))
  have hT : wrongT (some (3, -1)) = atT 3 (-1) := rfl
  unfold RefChkPost
  rw [hT]
  clear hT
  generalize atT 3 (-1) = t at *
  obtain ⟨sender, round, members, MA, mn, mcap, msgs, kind, key, val, old, RA, rn, rcap, recs⟩ := x
  have q1 : decide ((6 : Int) < sender) = false := decide_eq_false (by simp only at h1; omega)
  simp only [FrameC.value]
  unfold boxF at HB
  unfold strV at *
  simp only at HB h1 h2
  clear h1 hm hr
  by_cases h3 : 96 < mn
  · have q2 : decide ((96 : Int) < mn) = true := decide_eq_true (by omega)
    clear h2 h3
    go_enter Try.func16, Try.ntmps16
    go_wp2_with fail
    refine (HA.out _).mono ?_
    rintro e w1 ⟨rfl, hb⟩
    have Hb := Lib.hid hb
    clear hb
    go_wp2_with fail
    go_ret
    exact ⟨rfl, HB.out.trans (Hb.out.mono (by simp))⟩
  · have q2 : decide ((96 : Int) < mn) = false := decide_eq_false (by omega)
    have q3 : decide ((4 : Int) < rn) = true := decide_eq_true (by omega)
    clear h2 h3
    go_enter Try.func16, Try.ntmps16
    go_wp2_with fail
    refine (HA.out _).mono ?_
    rintro e w1 ⟨rfl, hb⟩
    have Hb := Lib.hid hb
    clear hb
    go_wp2_with fail
    go_ret
    exact ⟨rfl, HB.out.trans (Hb.out.mono (by simp))⟩

/-- How the check goes on behind the messages, in parts. -/
theorem chk_split (x : FrameC) (h1 : ¬ 6 < x.sender) (h2 : ¬ (96 < x.mn ∨ 4 < x.rn)) (hm : x.msgs.length = x.mn) (hr : x.recs.length = x.rn) :
    (∀ e, FrameP.chkMsgs 0 x.plain.msgs = some e → FrameP.chk x.plain = some e) ∧
    (FrameP.chkMsgs 0 x.plain.msgs = none → cmdCode x.kind x.key x.val x.old ≠ 0 → FrameP.chk x.plain = some ((cmdCode x.kind x.key x.val x.old).toNat, -1)) ∧
    (FrameP.chkMsgs 0 x.plain.msgs = none → cmdCode x.kind x.key x.val x.old = 0 → FrameP.chk x.plain = FrameP.chkRecs 0 x.recs) := by
  have hchk : FrameP.chk x.plain = match FrameP.chkMsgs 0 x.plain.msgs with
      | some e => some e
      | none => if 3 < x.kind then some (7, -1) else if FrameP.unlawful x.kind x.key x.val x.old then some (8, -1) else FrameP.chkRecs 0 x.recs := by
    unfold FrameP.chk
    rw [if_neg (show ¬ 6 < x.plain.sender from h1), if_neg (show ¬ (96 < x.plain.msgs.length ∨ 4 < x.plain.recs.length) by simp only [FrameC.plain, List.length_map]; omega)]
    rfl
  refine ⟨fun e he => by rw [hchk, he], fun he hc => ?_, fun he hc => ?_⟩
  · rw [hchk, he]
    simp only
    unfold cmdCode at hc ⊢
    by_cases h1 : 3 < x.kind
    · rw [if_pos h1, if_pos h1]; rfl
    · rw [if_neg h1] at hc ⊢
      rw [if_neg h1]
      by_cases h2 : FrameP.unlawful x.kind x.key x.val x.old
      · rw [if_pos h2, if_pos h2]; rfl
      · rw [if_neg h2] at hc; exact absurd rfl hc
  · rw [hchk, he]
    simp only
    unfold cmdCode at hc
    by_cases h1 : 3 < x.kind
    · rw [if_pos h1] at hc; cases hc
    · rw [if_neg h1] at hc ⊢
      by_cases h2 : FrameP.unlawful x.kind x.key x.val x.old
      · rw [if_pos h2] at hc; cases hc
      · rw [if_neg h2]

theorem not_dec (p : Prop) [Decidable p] : (!decide p) = decide (¬ p) := by simp

set_option maxRecDepth 100000 in
set_option maxHeartbeats 1000000 in
theorem refcheck_rest (x : FrameC) (w : World) (h : FrameIn w x) (h1 : ¬ 6 < x.sender) (h2 : ¬ (96 < x.mn ∨ 4 < x.rn)) :
    Calls Try.prog 16 #[x.value] w (RefChkPost (FrameP.chk x.plain) w) := by
  have HFr := Lib.hid h
  have hm := h.mlen
  have hr := h.rlen
  obtain ⟨hs1, hs2, hs3⟩ := chk_split x h1 h2 hm hr
  have HE1 := Lib.hid hs1
  have HE2 := Lib.hid hs2
  have HE3 := Lib.hid hs3
  clear hs1 hs2 hs3
  have HBOX := Lib.hid (fun wr hb => box9 (w := w) (wr := wr) (x := x) hb)
  have HB0 := Lib.hid (boxF_below w x)
  have HS := Lib.hid (boxF_size w x)
  have hW : Hid (boxF w x = w.alloc _) := Lib.hid rfl
  have HA := Lib.hid (fun (c : Nat) (a : Int) W hc ha => at_any c a W hc ha)
  generalize FrameP.chk x.plain = R at *
  clear h
  obtain ⟨sender, round, members, MA, mn, mcap, msgs, kind, key, val, old, RA, rn, rcap, recs⟩ := x
  simp only at h1 h2 hm hr
  simp only [FrameC.value]
  simp only at hW HE1 HE2 HE3
  have q1 : decide ((6 : Int) < sender) = false := decide_eq_false (by omega)
  have q2 : decide ((96 : Int) < mn) = false := decide_eq_false (by omega)
  have q3 : decide ((4 : Int) < rn) = false := decide_eq_false (by omega)
  have h96 : mn ≤ 96 := by omega
  have h4 : rn ≤ 4 := by omega
  have hst : Hid (ChkRel1 (msgs.map MsgC.plain) mn (boxF w ⟨sender, round, members, MA, mn, mcap, msgs, kind, key, val, old, RA, rn, rcap, recs⟩) (.int .i64 0) (boxF w ⟨sender, round, members, MA, mn, mcap, msgs, kind, key, val, old, RA, rn, rcap, recs⟩)) := Lib.hid ⟨0, Nat.zero_le _, rfl, rfl, Below.refl _ _⟩
  rw [show (boxF w ⟨sender, round, members, MA, mn, mcap, msgs, kind, key, val, old, RA, rn, rcap, recs⟩) = _ from hW.out] at HBOX HB0 HS hst
  clear hW h1 h2
  unfold strV at HA
  go_enter Try.func16, Try.ntmps16
  go_wp2_with fail
  go_loopw [3] (ChkRel1 (msgs.map MsgC.plain) mn (w.alloc (.cells #[.int .u8 (sender : Nat), .int .u32 (round : Nat), .int .u8 (members : Nat), .slice MA mn mcap, .int .u8 (kind : Nat), .int .u8 (key : Nat), .int .u16 (val : Nat), .int .u16 (old : Nat), .slice RA rn rcap] 32))) (fun i _ => (mn + 1 - intOf i).toNat)
  case atStart => exact hst.out
  case round =>
    clear hst
    obtain ⟨k, hk, rfl, hck, hb⟩ := hrel
    have Hb := Lib.hid hb
    have Hck := Lib.hid hck
    have hbw : Below w.heap.size w wr := HB0.out.trans (hb.mono (by rw [HS.out]; omega))
    have Hbw := Lib.hid hbw
    have Hfr := Lib.hid (HFr.out.below hbw)
    obtain ⟨b0, b1, b2, b3, b4, b5, b6, b7, b8⟩ := HBOX.out wr hb
    simp only at b0 b1 b2 b3 b4 b5 b6 b7 b8
    clear hbw hb hck
    by_cases hlt : k < mn
    · obtain ⟨b, off, e, hbl, hi⟩ := Hfr.out.msgs (by have := Hfr.out.mlen; simp only at this ⊢; omega)
      change MA = some _ at e
      obtain ⟨⟨port, A, m, cap, data⟩, hmk⟩ : ∃ y, msgs[k]? = some y := ⟨_, List.getElem?_eq_getElem (by omega)⟩
      obtain ⟨kp, kt, ok1, ok2, ok3, ok4, ok5⟩ := hi k _ hmk
      simp only at kp kt ok1 ok2 ok3 ok4 ok5
      have hst := Lib.hid (chkMsgs_at hmk ok1)
      have hrel : Hid (msgCode port m = 0 → ChkRel1 (msgs.map MsgC.plain) mn (w.alloc (.cells #[.int .u8 (sender : Nat), .int .u32 (round : Nat), .int .u8 (members : Nat), .slice MA mn mcap, .int .u8 (kind : Nat), .int .u8 (key : Nat), .int .u16 (val : Nat), .int .u16 (old : Nat), .slice RA rn rcap] 32)) (.int .i64 ((k : Int) + 1)) wr) := Lib.hid fun hc => by
        refine ⟨k + 1, by omega, by go_num, ?_, Hb.out⟩
        rw [← Hck.out, hst.out, if_pos hc]
      have hbad : Hid (∀ W, Below wr.heap.size wr W → msgCode port m ≠ 0 → RefChkPost R w (.returned (.string ⟨(atT (msgCode port m).toNat (k : Int)).toArray⟩)) W) := Lib.hid fun W hW hc => by
        have h0 := Hck.out
        rw [hst.out, if_neg hc] at h0
        rw [HE1.out _ h0.symm]
        exact ⟨rfl, Hbw.out.trans (hW.mono Hbw.out.size)⟩
      have hkk : k ≤ 96 := by omega
      clear hi hmk ok1 ok4 hst
      subst e
      by_cases h1 : port < 0
      · have q4 : decide (port < 0) = true := decide_eq_true h1
        have hc : msgCode port m = 2 := if_pos (.inl h1)
        rw [hc] at hrel hbad
        have HR0 := Lib.hid (fun W hW => hbad.out W hW (by omega))
        have HA2 := Lib.hid (fun W => HA.out 2 (k : Int) W (by omega) (by omega))
        clear hrel hbad hc h1
        go_wp2_with fail
        refine (HA2.out _).mono ?_
        rintro e w1 ⟨rfl, hb1⟩
        have Hb1 := Lib.hid hb1
        clear hb1
        go_wp2_with fail
        go_ret
        exact HR0.out _ Hb1.out
      · have q4 : decide (port < 0) = false := decide_eq_false h1
        by_cases h2 : 23 < port
        · have q5 : decide (23 < port) = true := decide_eq_true h2
          have hc : msgCode port m = 2 := if_pos (.inr h2)
          rw [hc] at hrel hbad
          have HR0 := Lib.hid (fun W hW => hbad.out W hW (by omega))
          have HA2 := Lib.hid (fun W => HA.out 2 (k : Int) W (by omega) (by omega))
          clear hrel hbad hc h1 h2
          go_wp2_with fail
          refine (HA2.out _).mono ?_
          rintro e w1 ⟨rfl, hb1⟩
          have Hb1 := Lib.hid hb1
          clear hb1
          go_wp2_with fail
          go_ret
          exact HR0.out _ Hb1.out
        · have q5 : decide (23 < port) = false := decide_eq_false h2
          by_cases h3 : 16 < m
          · have q6 : decide ((16 : Int) < m) = true := decide_eq_true (by omega)
            have hc : msgCode port m = 12 := by unfold msgCode; rw [if_neg (by omega), if_pos h3]
            rw [hc] at hrel hbad
            have HR0 := Lib.hid (fun W hW => hbad.out W hW (by omega))
            have HA2 := Lib.hid (fun W => HA.out 12 (k : Int) W (by omega) (by omega))
            clear hrel hbad hc h1 h2 h3
            go_wp2_with fail
            refine (HA2.out _).mono ?_
            rintro e w1 ⟨rfl, hb1⟩
            have Hb1 := Lib.hid hb1
            clear hb1
            go_wp2_with fail
            go_ret
            exact HR0.out _ Hb1.out
          · have q6 : decide ((16 : Int) < m) = false := decide_eq_false (by omega)
            have hc : msgCode port m = 0 := by unfold msgCode; rw [if_neg (by omega), if_neg h3]
            have HR0 := Lib.hid (hrel.out hc)
            clear hrel hbad hc h1 h2 h3
            go_wp2_with fail
            go_roundw
            case rel => exact HR0.out
            case measure => simp [intOf]; omega
    · have hkn : mn = k := by omega
      subst hkn
      have hnone : FrameP.chkMsgs 0 (msgs.map MsgC.plain) = none := by
        rw [← Hck.out, List.drop_of_length_le (by rw [List.length_map]; omega)]
        rfl
      have hsz := Hb.out.size
      by_cases h3 : 3 < kind
      · have q7 : decide ((3 : Int) < kind) = true := decide_eq_true (by omega)
        have hc : cmdCode kind key val old = 7 := if_pos h3
        have hR := HE2.out hnone (by rw [hc]; omega)
        rw [hc] at hR
        subst hR
        have HA2 := Lib.hid (fun W => HA.out 7 (-1) W (by omega) (by omega))
        clear hnone hc HE1 HE2 HE3 h3
        go_wp2_with fail
        refine (HA2.out _).mono ?_
        rintro e w1 ⟨rfl, hb1⟩
        have Hb1 := Lib.hid hb1
        clear hb1
        go_wp2_with fail
        go_ret
        exact ⟨rfl, Hbw.out.trans (((Below.refl _ _).alloc (Nat.le_refl _) _).trans (Hb1.out.mono (by simp)) |>.mono Hbw.out.size)⟩
      · have q7 : decide ((3 : Int) < kind) = false := decide_eq_false (by omega)
        go_upto_region 15 with (fail)
        go_cut [5] (fun s5 wx => s5 = .bool (decide (key = 0 ∧ val = 0 ∧ old = 0)) ∧ wx = wr.alloc (.cells #[.int .u8 (kind : Nat), .int .u8 (key : Nat), .int .u16 (val : Nat), .int .u16 (old : Nat)] 29))
        case first =>
          clear HE1 HE2 HE3 hnone h3
          by_cases z1 : key = 0
          · have y1 : ((key : Int) == 0) = true := by rw [z1]; rfl
            by_cases z2 : val = 0
            · have y2 : ((val : Int) == 0) = true := by rw [z2]; rfl
              by_cases z3 : old = 0
              · have y3 : ((old : Int) == 0) = true := by rw [z3]; rfl
                have Y4 : Hid (decide (key = 0 ∧ val = 0 ∧ old = 0) = true) := Lib.hid (decide_eq_true ⟨z1, z2, z3⟩)
                clear z1 z2 z3
                go_wp2_with fail
                go_meet
                exact ⟨by rw [Y4.out], rfl⟩
              · have y3 : ((old : Int) == 0) = false := by rw [beq_eq_false_iff_ne]; omega
                have Y4 : Hid (decide (key = 0 ∧ val = 0 ∧ old = 0) = false) := Lib.hid (decide_eq_false (fun h => z3 h.2.2))
                clear z1 z2 z3
                go_wp2_with fail
                go_meet
                exact ⟨by rw [Y4.out], rfl⟩
            · have y2 : ((val : Int) == 0) = false := by rw [beq_eq_false_iff_ne]; omega
              have Y4 : Hid (decide (key = 0 ∧ val = 0 ∧ old = 0) = false) := Lib.hid (decide_eq_false (fun h => z2 h.2.1))
              clear z1 z2
              go_wp2_with fail
              go_meet
              exact ⟨by rw [Y4.out], rfl⟩
          · have y1 : ((key : Int) == 0) = false := by rw [beq_eq_false_iff_ne]; omega
            have Y4 : Hid (decide (key = 0 ∧ val = 0 ∧ old = 0) = false) := Lib.hid (decide_eq_false (fun h => z1 h.1))
            clear z1
            go_wp2_with fail
            go_meet
            exact ⟨by rw [Y4.out], rfl⟩
        case rest =>
          obtain ⟨rfl, rfl⟩ := hcut
          generalize hz : decide (key = 0 ∧ val = 0 ∧ old = 0) = z
          have Z := Lib.hid hz
          clear hz
          go_upto_region 16 with (fail)
          go_cut [108] (fun s wx => s = .bool (decide (FrameP.unlawful kind key val old)) ∧ wx = wr.alloc (.cells #[.int .u8 (kind : Nat), .int .u8 (key : Nat), .int .u16 (val : Nat), .int .u16 (old : Nat)] 29))
          case first =>
            clear HE1 HE2 HE3 hnone
            by_cases z0 : kind = 0
            · have y0 : ((kind : Int) == 0) = true := by rw [z0]; rfl
              by_cases z1 : key = 0 ∧ val = 0 ∧ old = 0
              · have y1 : decide ((7 : Int) < key) = false := decide_eq_false (by omega)
                have y2 : ((kind : Int) != 3) = true := by rw [z0]; rfl
                have y3 : ((old : Int) != 0) = false := by rw [z1.2.2]; rfl
                have y4 : ((kind : Int) == 2) = false := by rw [z0]; rfl
                obtain rfl : z = true := by rw [← Z.out]; exact decide_eq_true z1
                have Y : Hid (decide (FrameP.unlawful kind key val old) = false) := Lib.hid (decide_eq_false (by unfold FrameP.unlawful; omega))
                clear z0 z1 h3 Z
                go_wp2_with fail
                go_meet
                exact ⟨by rw [Y.out], rfl⟩
              · obtain rfl : z = false := by rw [← Z.out]; exact decide_eq_false z1
                have Y : Hid (decide (FrameP.unlawful kind key val old) = true) := Lib.hid (decide_eq_true (by unfold FrameP.unlawful; omega))
                clear z0 z1 h3 Z
                go_wp2_with fail
                go_meet
                exact ⟨by rw [Y.out], rfl⟩
            · have y0 : ((kind : Int) == 0) = false := by rw [beq_eq_false_iff_ne]; omega
              clear Z
              by_cases z1 : 7 < key
              · have y1 : decide ((7 : Int) < key) = true := decide_eq_true (by omega)
                have Y : Hid (decide (FrameP.unlawful kind key val old) = true) := Lib.hid (decide_eq_true (by unfold FrameP.unlawful; omega))
                clear z0 z1 h3
                go_wp2_with fail
                go_meet
                exact ⟨by rw [Y.out], rfl⟩
              · have y1 : decide ((7 : Int) < key) = false := decide_eq_false (by omega)
                by_cases z2 : kind = 3
                · have y2 : ((kind : Int) != 3) = false := by rw [z2]; rfl
                  have y4 : ((kind : Int) == 2) = false := by rw [z2]; rfl
                  have Y : Hid (decide (FrameP.unlawful kind key val old) = false) := Lib.hid (decide_eq_false (by unfold FrameP.unlawful; omega))
                  clear z0 z1 z2 h3
                  go_wp2_with fail
                  go_meet
                  exact ⟨by rw [Y.out], rfl⟩
                · have y2 : ((kind : Int) != 3) = true := by rw [bne_iff_ne]; omega
                  by_cases z3 : old = 0
                  · have y3 : ((old : Int) != 0) = false := by rw [z3]; rfl
                    by_cases z4 : kind = 2
                    · have y4 : ((kind : Int) == 2) = true := by rw [z4]; rfl
                      by_cases z5 : val = 0
                      · have y5 : ((val : Int) != 0) = false := by rw [z5]; rfl
                        have Y : Hid (decide (FrameP.unlawful kind key val old) = false) := Lib.hid (decide_eq_false (by unfold FrameP.unlawful; omega))
                        clear z0 z1 z2 z3 z4 z5 h3
                        go_wp2_with fail
                        go_meet
                        exact ⟨by rw [Y.out], rfl⟩
                      · have y5 : ((val : Int) != 0) = true := by rw [bne_iff_ne]; omega
                        have Y : Hid (decide (FrameP.unlawful kind key val old) = true) := Lib.hid (decide_eq_true (by unfold FrameP.unlawful; omega))
                        clear z0 z1 z2 z3 z4 z5 h3
                        go_wp2_with fail
                        go_meet
                        exact ⟨by rw [Y.out], rfl⟩
                    · have y4 : ((kind : Int) == 2) = false := by rw [beq_eq_false_iff_ne]; omega
                      have Y : Hid (decide (FrameP.unlawful kind key val old) = false) := Lib.hid (decide_eq_false (by unfold FrameP.unlawful; omega))
                      clear z0 z1 z2 z3 z4 h3
                      go_wp2_with fail
                      go_meet
                      exact ⟨by rw [Y.out], rfl⟩
                  · have y3 : ((old : Int) != 0) = true := by rw [bne_iff_ne]; omega
                    have Y : Hid (decide (FrameP.unlawful kind key val old) = true) := Lib.hid (decide_eq_true (by unfold FrameP.unlawful; omega))
                    clear z0 z1 z2 z3 h3
                    go_wp2_with fail
                    go_meet
                    exact ⟨by rw [Y.out], rfl⟩
          case rest =>
            obtain ⟨rfl, rfl⟩ := hcut
            by_cases hu : FrameP.unlawful kind key val old
            · have hc : cmdCode kind key val old = 8 := by unfold cmdCode; rw [if_neg h3, if_pos hu]
              have hR := HE2.out hnone (by rw [hc]; omega)
              rw [hc] at hR
              subst hR
              rw [decide_eq_true hu]
              have HA2 := Lib.hid (fun W => HA.out 8 (-1) W (by omega) (by omega))
              clear hnone hc HE1 HE2 HE3 h3 hu
              go_wp2_with fail
              refine (HA2.out _).mono ?_
              rintro e w1 ⟨rfl, hb1⟩
              have Hb1 := Lib.hid hb1
              clear hb1
              go_wp2_with fail
              go_ret
              exact ⟨rfl, Hbw.out.trans (((Below.refl _ _).alloc (Nat.le_refl _) _).trans (Hb1.out.mono (by simp)) |>.mono Hbw.out.size)⟩
            · have hc : cmdCode kind key val old = 0 := by unfold cmdCode; rw [if_neg h3, if_neg hu]
              have hR := HE3.out hnone hc
              subst hR
              rw [decide_eq_false hu]
              have HBb := Lib.hid (Hb.out.alloc Hb.out.size (.cells #[.int .u8 (kind : Nat), .int .u8 (key : Nat), .int .u16 (val : Nat), .int .u16 (old : Nat)] 29))
              clear hnone hc HE1 HE2 HE3 h3 hu
              go_wp2_with fail
              go_loopw [6] (ChkRel2 recs rn (w.alloc (.cells #[.int .u8 (sender : Nat), .int .u32 (round : Nat), .int .u8 (members : Nat), .slice MA mn mcap, .int .u8 (kind : Nat), .int .u8 (key : Nat), .int .u16 (val : Nat), .int .u16 (old : Nat), .slice RA rn rcap] 32))) (fun i _ => (rn + 1 - intOf i).toNat)
              case atStart => exact ⟨0, Nat.zero_le _, rfl, rfl, HBb.out⟩
              case round =>
                clear HBb Hfr Hbw Hck Hb hsz b0 b1 b2 b3 b4 b5 b6 b7 b8
                obtain ⟨k, hk, rfl, hck, hb⟩ := hrel
                have Hb := Lib.hid hb
                have Hck := Lib.hid hck
                have hbw : Below w.heap.size w wr := HB0.out.trans (hb.mono (by rw [HS.out]; omega))
                have Hbw := Lib.hid hbw
                have Hfr := Lib.hid (HFr.out.below hbw)
                obtain ⟨b0, b1, b2, b3, b4, b5, b6, b7, b8⟩ := HBOX.out wr hb
                simp only at b0 b1 b2 b3 b4 b5 b6 b7 b8
                clear hbw hb hck
                by_cases hlt : k < rn
                · obtain ⟨b, off, e, hbl, hi⟩ := Hfr.out.recs (by have := Hfr.out.rlen; simp only at this ⊢; omega)
                  change RA = some _ at e
                  obtain ⟨y, hmk⟩ : ∃ y, recs[k]? = some y := ⟨_, List.getElem?_eq_getElem (by omega)⟩
                  obtain ⟨k0, k1, k2, k3, k4⟩ := hi k _ hmk
                  have hst := Lib.hid (chkRecs_step hmk)
                  have hrel : Hid (∀ W, Below wr.heap.size wr W → recCode y = 0 → ChkRel2 recs rn (w.alloc (.cells #[.int .u8 (sender : Nat), .int .u32 (round : Nat), .int .u8 (members : Nat), .slice MA mn mcap, .int .u8 (kind : Nat), .int .u8 (key : Nat), .int .u16 (val : Nat), .int .u16 (old : Nat), .slice RA rn rcap] 32)) (.int .i64 ((k : Int) + 1)) W) := Lib.hid fun W hW hc => by
                    refine ⟨k + 1, by omega, by go_num, ?_, Hb.out.trans (hW.mono Hb.out.size)⟩
                    rw [← Hck.out, hst.out, if_pos hc]
                  have hbad : Hid (∀ W, Below wr.heap.size wr W → recCode y = 50 → RefChkPost (FrameP.chkRecs 0 recs) w (.returned (.string ⟨(atT 50 (k : Int)).toArray⟩)) W) := Lib.hid fun W hW hc => by
                    have h0 := Hck.out
                    rw [hst.out, if_neg (by rw [hc]; omega), hc] at h0
                    rw [← h0]
                    exact ⟨rfl, Hbw.out.trans (hW.mono Hbw.out.size)⟩
                  have hk4 : k ≤ 4 := by omega
                  have HA2 := Lib.hid (fun W => HA.out 50 (k : Int) W (by omega) (by omega))
                  clear hi hmk hst
                  subst e
                  obtain ⟨rd, nd, pt, kd, dd⟩ := y
                  simp only at k0 k1 k2 k3 k4
                  by_cases z1 : 6 < nd
                  · have y1 : decide ((6 : Int) < nd) = true := decide_eq_true (by omega)
                    have HR0 := Lib.hid (fun W hW => hbad.out W hW (if_pos (by simp only; omega)))
                    clear hrel hbad z1
                    go_wp2_with fail
                    refine (HA2.out _).mono ?_
                    rintro e w1 ⟨rfl, hb1⟩
                    have Hb1 := Lib.hid hb1
                    clear hb1
                    go_wp2_with fail
                    go_ret
                    exact HR0.out _ (((Below.refl _ _).alloc (Nat.le_refl _) _).trans (Hb1.out.mono (by simp)))
                  · have y1 : decide ((6 : Int) < nd) = false := decide_eq_false (by omega)
                    by_cases z2 : 11 < pt
                    · have y2 : decide ((11 : Int) < pt) = true := decide_eq_true (by omega)
                      have HR0 := Lib.hid (fun W hW => hbad.out W hW (if_pos (by simp only; omega)))
                      clear hrel hbad z1 z2
                      go_wp2_with fail
                      refine (HA2.out _).mono ?_
                      rintro e w1 ⟨rfl, hb1⟩
                      have Hb1 := Lib.hid hb1
                      clear hb1
                      go_wp2_with fail
                      go_ret
                      exact HR0.out _ (((Below.refl _ _).alloc (Nat.le_refl _) _).trans (Hb1.out.mono (by simp)))
                    · have y2 : decide ((11 : Int) < pt) = false := decide_eq_false (by omega)
                      by_cases z3 : 3 < kd
                      · have y3 : decide ((3 : Int) < kd) = true := decide_eq_true (by omega)
                        have HR0 := Lib.hid (fun W hW => hbad.out W hW (if_pos (by simp only; omega)))
                        clear hrel hbad z1 z2 z3
                        go_wp2_with fail
                        refine (HA2.out _).mono ?_
                        rintro e w1 ⟨rfl, hb1⟩
                        have Hb1 := Lib.hid hb1
                        clear hb1
                        go_wp2_with fail
                        go_ret
                        exact HR0.out _ (((Below.refl _ _).alloc (Nat.le_refl _) _).trans (Hb1.out.mono (by simp)))
                      · have y3 : decide ((3 : Int) < kd) = false := decide_eq_false (by omega)
                        by_cases z4 : 3 < dd
                        · have y4 : decide ((3 : Int) < dd) = true := decide_eq_true (by omega)
                          have HR0 := Lib.hid (fun W hW => hbad.out W hW (if_pos (by simp only; omega)))
                          clear hrel hbad z1 z2 z3 z4
                          go_wp2_with fail
                          refine (HA2.out _).mono ?_
                          rintro e w1 ⟨rfl, hb1⟩
                          have Hb1 := Lib.hid hb1
                          clear hb1
                          go_wp2_with fail
                          go_ret
                          exact HR0.out _ (((Below.refl _ _).alloc (Nat.le_refl _) _).trans (Hb1.out.mono (by simp)))
                        · have y4 : decide ((3 : Int) < dd) = false := decide_eq_false (by omega)
                          have HR0 := Lib.hid (fun W hW => hrel.out W hW (if_neg (by simp only; omega)))
                          clear hrel hbad z1 z2 z3 z4
                          go_wp2_with fail
                          go_roundw
                          case rel => exact HR0.out _ ((Below.refl _ _).alloc (Nat.le_refl _) _)
                          case measure => simp [intOf]; omega
                · have hkn : rn = k := by omega
                  subst hkn
                  have hnone : FrameP.chkRecs 0 recs = none := by
                    rw [← Hck.out, List.drop_of_length_le (by omega)]
                    rfl
                  have HF : Hid (RefChkPost (FrameP.chkRecs 0 recs) w (.returned (.string ⟨#[]⟩)) wr) := Lib.hid (by rw [hnone]; exact ⟨rfl, Hbw.out⟩)
                  clear hnone
                  go_wp2_with fail
                  go_ret
                  exact HF.out

/-- The document's Check: of any frame. -/
theorem refcheck_any (x : FrameC) (w : World) (h : FrameIn w x) :
    Calls Try.prog 16 #[x.value] w (RefChkPost (FrameP.chk x.plain) w) := by
  by_cases h1 : 6 < x.sender
  · exact refcheck_sender x w h1
  · by_cases h2 : 96 < x.mn ∨ 4 < x.rn
    · exact refcheck_many x w h1 h2 h.mlen h.rlen
    · exact refcheck_rest x w h h1 h2
end Go.Proofs.Ytmhpdmpihmahdaa
