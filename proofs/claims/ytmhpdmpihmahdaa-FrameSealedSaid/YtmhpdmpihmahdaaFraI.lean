/- Contract of the document's Encode at a frame in memory. Conditions: where its lists lie. -/
import Derived.Test.YtmhpdmpihmahdaaFraE
import Derived.Test.YtmhpdmpihmahdaaFraH
import Derived.Test.YtmhpdmpihmahdaaFrk
import Derived.Test.YtmhpdmpihmahdaaWirD
import Derived.Deep.RegionHeld3
namespace Go.Proofs.Ytmhpdmpihmahdaa
open Go.RowKit
set_option maxRecDepth 100000

def RefEncBad (c : FrameP.Wrong) (w : World) (e : Ending) (w' : World) : Prop :=
  e = .returned (.tuple #[.slice none 0 0, strV (overT 40 (-1) (wrongT (some c)))]) ∧ Below w.heap.size w w'
def RefEncGood (f : FrameP.Fr) (w : World) (e : Ending) (w' : World) : Prop :=
  ∃ v g, e = .returned (.tuple #[v, .string ⟨#[]⟩]) ∧ Row w' w.heap.size 5 g v (CrcP.seal4 (FrameP.enc f)) ∧ Below w.heap.size w w'

theorem wrongT_len (c : FrameP.Wrong) : (wrongT (some c)).length ≤ 42 := atT_len c.1 c.2
theorem wrongT_emp (c : FrameP.Wrong) : (wrongT (some c)).isEmpty = false := by have := wrongT_ne c; cases h : wrongT (some c) <;> simp_all

theorem refencode_bad (x : FrameC) (w : World) (h : FrameIn w x) (c : FrameP.Wrong) (hc : FrameP.chk x.plain = some c) :
    Calls Try.prog 13 #[x.value] w (RefEncBad c w) := by
  have HB0 := Lib.hid (boxF_below w x)
  have HC : Hid (∀ W, FrameIn W x → Calls Try.prog 16 #[x.value] W (RefChkPost (some c) W)) := Lib.hid fun W hW => by rw [← hc]; exact refcheck_any x W hW
  have HFr := Lib.hid (h.below (boxF_below w x))
  have hW : Hid (boxF w x = w.alloc _) := Lib.hid rfl
  have HO := Lib.hid (fun W => over_any 40 (-1) (wrongT (some c)) W (by omega) (by omega) (by have := wrongT_len c; omega))
  have hne := wrongT_emp c
  clear h hc
  obtain ⟨sender, round, members, MA, mn, mcap, msgs, kind, key, val, old, RA, rn, rcap, recs⟩ := x
  rw [show (boxF w ⟨sender, round, members, MA, mn, mcap, msgs, kind, key, val, old, RA, rn, rcap, recs⟩) = _ from hW.out] at HB0 HFr
  simp only [FrameC.value] at HC ⊢
  unfold RefEncBad
  unfold RefChkPost at HC
  generalize overT 40 (-1) (wrongT (some c)) = t at *
  generalize wrongT (some c) = u at *
  unfold strV at *
  clear hW
  go_enter Try.func13, Try.ntmps13
  go_wp2_with fail
  refine (HC.out _ HFr.out).mono ?_
  rintro e w1 ⟨rfl, h3⟩
  have H3 := Lib.hid h3
  clear h3
  go_wp2_with fail
  refine (HO.out _).mono ?_
  rintro e w2 ⟨rfl, h4⟩
  have H4 := Lib.hid h4
  clear h4
  go_wp2_with fail
  go_ret2
  exact ⟨rfl, HB0.out.trans ((H3.out.trans (H4.out.mono H3.out.size)).mono (by simp))⟩

def OutRel1 (B : Nat) (W : World) (pre : List UInt8) (msgs : List MsgC) (n : Nat) (v i : Value) (wr : World) : Prop :=
  ∃ k, k ≤ n ∧ i = .int .i64 (k : Nat) ∧ OutIn B 5 W (pre ++ FrameP.msgsB ((msgs.take k).map MsgC.plain)) v wr
def OutRel2 (B : Nat) (W : World) (pre : List UInt8) (recs : List FrameP.Rec) (n : Nat) (v i : Value) (wr : World) : Prop :=
  ∃ k, k ≤ n ∧ i = .int .i64 (k : Nat) ∧ OutIn B 5 W (pre ++ FrameP.recsB (recs.take k)) v wr

theorem one_u8 (n : Nat) (h : n < 256) : #[Value.int .u8 ((n : Nat) : Int)] = (bytesV (WireP.num n 1)).toArray := by
  simp [bytesV, WireP.num]
  omega
theorem two_u8 (n m : Nat) (h : n < 256) (h2 : m < 256) : #[Value.int .u8 ((n : Nat) : Int), Value.int .u8 ((m : Nat) : Int)] = (bytesV (WireP.num n 1 ++ WireP.num m 1)).toArray := by
  simp [bytesV, WireP.num]
  omega
theorem four_u8 (n m p q : Nat) (h : n < 256) (h2 : m < 256) (h3 : p < 256) (h4 : q < 256) : #[Value.int .u8 ((n : Nat) : Int), Value.int .u8 ((m : Nat) : Int), Value.int .u8 ((p : Nat) : Int), Value.int .u8 ((q : Nat) : Int)] = (bytesV (WireP.num n 1 ++ (WireP.num m 1 ++ (WireP.num p 1 ++ WireP.num q 1)))).toArray := by
  simp [bytesV, WireP.num]
  omega

set_option maxHeartbeats 2000000 in
theorem refencode_good (x : FrameC) (w : World) (h : FrameIn w x) (hc : FrameP.chk x.plain = none) :
    Calls Try.prog 13 #[x.value] w (RefEncGood x.plain w) := by
  have HB0 := Lib.hid (boxF_below w x)
  have HC : Hid (∀ W, FrameIn W x → Calls Try.prog 16 #[x.value] W (fun e w' => e = .returned (.string ⟨#[]⟩) ∧ Below W.heap.size W w')) := Lib.hid fun W hW => by
    have h := refcheck_any x W hW
    rw [hc] at h
    exact h
  have HFr := Lib.hid (h.below (boxF_below w x))
  have hW : Hid (boxF w x = w.alloc _) := Lib.hid rfl
  have HBOX := Lib.hid (fun wr hb => box9 (w := w) (wr := wr) (x := x) hb)
  obtain ⟨hfit, hm96, hr4⟩ := FrameP.chk_fits h.typed hc
  have Hfit := Lib.hid hfit
  have hml := h.mlen
  have hrl := h.rlen
  have HMF : Hid (MsgsFit x.msgs) := Lib.hid fun y hy => by
    have := hfit.msgs y.plain (List.mem_map.2 ⟨y, hy, rfl⟩)
    exact ⟨this.1, by have := this.2.1; simp only [MsgC.plain] at this; omega⟩
  have Henc : Hid (FrameP.enc x.plain = WireP.num x.sender 1 ++ (WireP.num x.round 4 ++ (WireP.num x.members 1 ++ (WireP.num x.mn 1 ++ (FrameP.msgsB (x.msgs.map MsgC.plain) ++ (WireP.num x.kind 1 ++ (WireP.num x.key 1 ++ (WireP.num x.val 2 ++ (WireP.num x.old 2 ++ (WireP.num x.rn 1 ++ FrameP.recsB x.recs)))))))))) := Lib.hid (by
    simp only [FrameP.enc, FrameP.tailB, FrameC.plain, List.length_map, hml, hrl])
  simp only [FrameC.plain, List.length_map] at hm96
  have hmn : x.mn ≤ 96 := by omega
  have hrn : x.rn ≤ 4 := by simp only [FrameC.plain] at hr4; omega
  clear h hc hfit hml hrl hm96 hr4
  generalize hP : x.plain = P at *
  obtain ⟨sender, round, members, MA, mn, mcap, msgs, kind, key, val, old, RA, rn, rcap, recs⟩ := x
  obtain ⟨f1, f2, f3, -, -, f4, f5, f6, f7, -, f8⟩ := Hfit.out
  subst hP
  rw [show (boxF w ⟨sender, round, members, MA, mn, mcap, msgs, kind, key, val, old, RA, rn, rcap, recs⟩) = _ from hW.out] at HB0 HFr HBOX
  simp only [FrameC.value] at HC ⊢
  simp only [FrameC.plain] at f1 f2 f3 f4 f5 f6 f7 f8
  simp only at Henc HMF hmn hrn
  have Hf8 := Lib.hid f8
  clear hW Hfit f8
  go_enter Try.func13, Try.ntmps13
  go_wp2_with fail
  refine (HC.out _ HFr.out).mono ?_
  rintro e w1 ⟨rfl, h3⟩
  obtain ⟨b0, b1, b2, b3, b4, b5, b6, b7, b8⟩ := HBOX.out w1 h3
  simp only at b0 b1 b2 b3 b4 b5 b6 b7 b8
  have Hb1 := Lib.hid h3
  have Hfr1 := Lib.hid (HFr.out.below h3)
  have hz : w.heap.size < w1.heap.size := by have := h3.size; simp at this; omega
  have HBX : Hid (∀ l v w', OutIn w1.heap.size 5 w1 l v w' → Box9 w' w.heap.size ⟨sender, round, members, MA, mn, mcap, msgs, kind, key, val, old, RA, rn, rcap, recs⟩) := Lib.hid fun l v w' ho =>
    HBOX.out w' (Hb1.out.trans (ho.of.mono Hb1.out.size))
  have HO0 := Lib.hid (OutIn.first w1 _ 5 (WireP.num sender 1) 1 (one_u8 sender (by omega)) (WireP.num_length _ _) (by unfold maxLen; omega))
  have HN := Lib.hid (fun W => refnum_any round 4 f2 (by omega) (by omega) W)
  rw [put_num4] at HN
  clear h3 HC
  go_wp2_with fail
  refine (HN.out _).mono ?_
  rintro e w2 ⟨v2, g2, rfl, hr2, hb2⟩
  have ho2 := HO0.out.below (Nat.le_refl _) hb2
  obtain ⟨A2, cap2, rfl, -, -, hby2⟩ := hr2.bytes
  obtain ⟨b0, b1, b2, b3, b4, b5, b6, b7, b8⟩ := HBX.out _ _ _ ho2
  simp only at b0 b1 b2 b3 b4 b5 b6 b7 b8
  have HO2 := Lib.hid ho2
  have Hby2 := Lib.hid hby2
  have hcs := two_u8 members mn (by omega) (by omega)
  have Hcs := Lib.hid hcs
  have hmod : (mn : Int) % 256 = mn := by omega
  clear ho2 hr2 hb2 hby2 HO0 HN hcs
  go_wp2_with (first
  | (at_builtin
     refine wpList_append_o rfl (.tmp 17) (.tmp 21) _ rfl w1.heap.size 5 (.int .u8 0) w1 (Nat.le_refl _) Try.underlying35 infoB rfl _ _ rfl HO2.out w2.heap.size A2 _ cap2 (WireP.num round 4) rfl rfl Hby2.out (by simp [WireP.num_length]) ?_
     intro v3 w3 ho3
     clear b0 b1 b2 b3 b4 b5 b6 b7 b8
     obtain ⟨b0, b1, b2, b3, b4, b5, b6, b7, b8⟩ := HBX.out _ _ _ ho3
     simp only at b0 b1 b2 b3 b4 b5 b6 b7 b8
     have HO3 := Lib.hid ho3
     clear ho3)
  | (at_builtin
     refine wpList_append_ok rfl (.tmp 23) (.tmp 31) _ rfl w1.heap.size 5 (.int .u8 0) w1 (Nat.le_refl _) Try.underlying35 infoB rfl _ _ rfl HO3.out _ 2 _ _ (WireP.num members 1 ++ WireP.num mn 1) rfl rfl Hcs.out (by simp [WireP.num_length]) (by simp [WireP.num_length]) ?_
     intro v4 w4 ho4
     clear b0 b1 b2 b3 b4 b5 b6 b7 b8
     obtain ⟨b0, b1, b2, b3, b4, b5, b6, b7, b8⟩ := HBX.out _ _ _ ho4
     simp only at b0 b1 b2 b3 b4 b5 b6 b7 b8
     have HO4 := Lib.hid ho4
     clear ho4)
  | fail)
  have h0 : Hid (∃ pre, pre = WireP.num sender 1 ++ WireP.num round 4 ++ (WireP.num members 1 ++ WireP.num mn 1) ∧ pre.length = 7 ∧ OutRel1 w1.heap.size w1 pre msgs mn v4 (.int .i64 0) w4) := Lib.hid
    ⟨_, rfl, by simp [WireP.num_length], 0, Nat.zero_le _, rfl, by simpa [FrameP.msgsB] using HO4.out⟩
  obtain ⟨pre, hpre, hplen, hst⟩ := h0.out
  have Hpre := Lib.hid hpre
  have Hpl := Lib.hid hplen
  have Hst := Lib.hid hst
  clear hpre hplen hst h0 HO4 HO3 HO2 Hcs
  go_loopw [5, 6] (OutRel1 w1.heap.size w1 pre msgs mn) (fun _ i _ => (mn + 1 - intOf i).toNat)
  case atStart => exact Hst.out
  case round =>
    clear Hst b0 b1 b2 b3 b4 b5 b6 b7 b8
    obtain ⟨k, hk, rfl, ho⟩ := hrel
    obtain ⟨b0, b1, b2, b3, b4, b5, b6, b7, b8⟩ := HBX.out _ _ _ ho
    simp only at b0 b1 b2 b3 b4 b5 b6 b7 b8
    have HO := Lib.hid ho
    have hle := msgsB_le ((msgs.take k).map MsgC.plain)
    have hlen : (pre ++ FrameP.msgsB ((msgs.take k).map MsgC.plain)).length ≤ 30000 := by
      simp only [List.length_append, List.length_map, List.length_take, Hpl.out] at hle ⊢
      omega
    have Hlen := Lib.hid hlen
    clear ho hle hlen
    by_cases hlt : k < mn
    · have Hwr := Lib.hid HO.out.of
      obtain ⟨b, off, e, hbl, hms⟩ := (Hfr1.out.below Hwr.out).msgs (by have := Hfr1.out.mlen; simp only at this ⊢; omega)
      change MA = some _ at e
      obtain ⟨⟨port, A5, m, cap5, data⟩, hmk⟩ : ∃ y, msgs[k]? = some y := ⟨_, List.getElem?_eq_getElem (by have := Hfr1.out.mlen; simp only at this; omega)⟩
      obtain ⟨kp, kt, ok1, ok2, ok3, ok4, ok5⟩ := hms k _ hmk
      have hp := HMF.out _ (List.mem_of_getElem? hmk)
      simp only at kp kt ok1 ok2 ok3 ok4 ok5 hp
      obtain ⟨p, rfl⟩ := Int.eq_ofNat_of_zero_le hp.1
      have hmd := Lib.hid (msgsB_take hmk)
      have hp2 : p ≤ 255 := by omega
      have hpm : (p : Int) % 256 = p := by omega
      have Hcs := Lib.hid (one_u8 p (by omega))
      have HT : Hid (∀ W, Below wr.heap.size wr W → Calls Try.prog 30 #[.slice A5 m cap5] W (BytesPost (WireP.text data) W)) := Lib.hid fun W hW => reftext_any A5 m cap5 data ok1 ok2 W ((ok4.below hW (Nat.le_refl _)).more hW.size)
      have hbw : b < wr.heap.size := hbl
      have HKP : Hid (∀ l v w', OutIn w1.heap.size 5 w1 l v w' → w'.cell? ⟨b, off + k * 2 + 1, none⟩ = some (.slice A5 m cap5)) := Lib.hid fun l v w' ho => by
        obtain ⟨b', off', e', hbl', hms'⟩ := (Hfr1.out.below ho.of).msgs (by have := Hfr1.out.mlen; simp only at this ⊢; omega)
        have e2 : some (⟨b, off, none⟩ : Addr) = some ⟨b', off', none⟩ := e.symm.trans e'
        injection e2 with e2
        injection e2 with e3 e4
        subst e3 e4
        exact (hms' k _ hmk).text
      have Hend : Hid (∀ v w', OutIn w1.heap.size 5 w1 (pre ++ FrameP.msgsB ((msgs.take k).map MsgC.plain) ++ WireP.num p 1 ++ WireP.text data) v w' → OutRel1 w1.heap.size w1 pre msgs mn v (.int .i64 ((k : Int) + 1)) w') := Lib.hid fun v w' ho => by
        refine ⟨k + 1, by omega, by go_num, ?_⟩
        rw [hmd.out]
        have e9 : FrameP.msgB (MsgC.plain ⟨(p : Int), A5, m, cap5, data⟩) = WireP.num p 1 ++ WireP.text data := by
          simp only [FrameP.msgB, MsgC.plain]
          rw [show (((p : Int) % 256).toNat) = p by omega]
        rw [e9]
        simpa only [List.append_assoc] using ho
      have Hdat : Hid (∀ l v w', OutIn w1.heap.size 5 w1 l v w' → Bytes w' w'.heap.size A5 data) := Lib.hid fun l v w' ho => by
        obtain ⟨b', off', e', hbl', hms'⟩ := (Hfr1.out.below ho.of).msgs (by have := Hfr1.out.mlen; simp only at this ⊢; omega)
        exact (hms' k _ hmk).ok.bytes
      have Hd := Lib.hid ok1
      have htl := WireP.text_length data
      clear hms hmk ok1 ok4 hp hmd HT
      subst e
      generalize pre ++ FrameP.msgsB ((msgs.take k).map MsgC.plain) = l1 at *
      go_wp2_with (first
      | (at_builtin
         refine wpList_append_ok rfl (.tmp 40) (.tmp 48) _ rfl w1.heap.size 5 (.int .u8 0) w1 (Nat.le_refl _) Try.underlying35 infoB rfl _ _ rfl HO.out _ 1 _ _ (WireP.num p 1) rfl rfl Hcs.out (by simp [WireP.num_length]) (by have := Hlen.out; omega) ?_
         intro v5 w5 ho5
         have k5 := HKP.out _ _ _ ho5
         clear b0 b1 b2 b3 b4 b5 b6 b7 b8
         obtain ⟨b0, b1, b2, b3, b4, b5, b6, b7, b8⟩ := HBX.out _ _ _ ho5
         simp only at b0 b1 b2 b3 b4 b5 b6 b7 b8
         have HO5 := Lib.hid ho5
         clear ho5)
      | fail)
      refine (reftext_any A5 m cap5 data Hd.out ok2 w5 (Hdat.out _ _ _ HO5.out)).mono ?_
      rintro e w6 ⟨v6, g6, rfl, hr6, hb6⟩
      have ho6 := HO5.out.below (Nat.le_refl _) hb6
      obtain ⟨A6, cap6, rfl, -, -, hby6⟩ := hr6.bytes
      clear b0 b1 b2 b3 b4 b5 b6 b7 b8
      obtain ⟨b0, b1, b2, b3, b4, b5, b6, b7, b8⟩ := HBX.out _ _ _ ho6
      simp only at b0 b1 b2 b3 b4 b5 b6 b7 b8
      have HO6 := Lib.hid ho6
      have Hby6 := Lib.hid hby6
      clear ho6 hr6 hb6 hby6 k5
      go_wp2_with (at_builtin
                   refine wpList_append_o rfl (.tmp 50) (.tmp 57) _ rfl w1.heap.size 5 (.int .u8 0) w1 (Nat.le_refl _) Try.underlying35 infoB rfl _ _ rfl HO6.out w6.heap.size A6 _ cap6 (WireP.text data) rfl rfl Hby6.out (by have := Hlen.out; simp [WireP.num_length]; omega) ?_
                   intro v7 w7 ho7
                   have HO7 := Lib.hid ho7
                   clear ho7)
      go_roundw
      case rel => exact Hend.out _ _ HO7.out
      case measure => simp [intOf]; omega
    · have hkn : mn = k := by omega
      subst hkn
      have hfull : (msgs.take mn).map MsgC.plain = msgs.map MsgC.plain := by
        rw [List.take_of_length_le (by have := Hfr1.out.mlen; simp only at this; omega)]
      rw [hfull] at HO Hlen
      clear hfull
      generalize hl1 : pre ++ FrameP.msgsB (msgs.map MsgC.plain) = l1 at *
      have Hl1 := Lib.hid hl1
      clear hl1
      have Hcs1 := Lib.hid (two_u8 kind key f4 f5)
      have Hcs2 := Lib.hid (one_u8 rn (by omega))
      have hrm : (rn : Int) % 256 = rn := by omega
      have hl1 := Hlen.out
      go_wp2_with (first
      | (at_builtin
         refine wpList_append_ok rfl (.tmp 59) (.tmp 66) _ rfl w1.heap.size 5 (.int .u8 0) w1 (Nat.le_refl _) Try.underlying35 infoB rfl _ _ rfl HO.out _ 2 _ _ (WireP.num kind 1 ++ WireP.num key 1) rfl rfl Hcs1.out (by simp [WireP.num_length]) (by have := Hlen.out; omega) ?_
         intro v5 w5 ho5
         clear b0 b1 b2 b3 b4 b5 b6 b7 b8
         obtain ⟨b0, b1, b2, b3, b4, b5, b6, b7, b8⟩ := HBX.out _ _ _ ho5
         simp only at b0 b1 b2 b3 b4 b5 b6 b7 b8
         have HO5 := Lib.hid ho5
         clear ho5)
      | fail)
      refine (refnum_any val 2 (by omega) (by omega) (by omega) w5).mono ?_
      rw [put_num2]
      rintro e w6 ⟨v6, g6, rfl, hr6, hb6⟩
      have ho6 := HO5.out.below (Nat.le_refl _) hb6
      obtain ⟨A6, cap6, rfl, -, -, hby6⟩ := hr6.bytes
      clear b0 b1 b2 b3 b4 b5 b6 b7 b8
      obtain ⟨b0, b1, b2, b3, b4, b5, b6, b7, b8⟩ := HBX.out _ _ _ ho6
      simp only at b0 b1 b2 b3 b4 b5 b6 b7 b8
      have HO6 := Lib.hid ho6
      have Hby6 := Lib.hid hby6
      clear ho6 hr6 hb6 hby6
      go_wp2_with (first
      | (at_builtin
         refine wpList_append_o rfl (.tmp 68) (.tmp 73) _ rfl w1.heap.size 5 (.int .u8 0) w1 (Nat.le_refl _) Try.underlying35 infoB rfl _ _ rfl HO6.out w6.heap.size A6 _ cap6 (WireP.num val 2) rfl rfl Hby6.out (by have := Hlen.out; simp [WireP.num_length]; omega) ?_
         intro v7 w7 ho7
         clear b0 b1 b2 b3 b4 b5 b6 b7 b8
         obtain ⟨b0, b1, b2, b3, b4, b5, b6, b7, b8⟩ := HBX.out _ _ _ ho7
         simp only at b0 b1 b2 b3 b4 b5 b6 b7 b8
         have HO7 := Lib.hid ho7
         clear ho7)
      | fail)
      refine (refnum_any old 2 (by omega) (by omega) (by omega) w7).mono ?_
      rw [put_num2]
      rintro e w8 ⟨v8, g8, rfl, hr8, hb8⟩
      have ho8 := HO7.out.below (Nat.le_refl _) hb8
      obtain ⟨A8, cap8, rfl, -, -, hby8⟩ := hr8.bytes
      clear b0 b1 b2 b3 b4 b5 b6 b7 b8
      obtain ⟨b0, b1, b2, b3, b4, b5, b6, b7, b8⟩ := HBX.out _ _ _ ho8
      simp only at b0 b1 b2 b3 b4 b5 b6 b7 b8
      have HO8 := Lib.hid ho8
      have Hby8 := Lib.hid hby8
      clear ho8 hr8 hb8 hby8
      go_wp2_with (first
      | (at_builtin
         refine wpList_append_o rfl (.tmp 75) (.tmp 80) _ rfl w1.heap.size 5 (.int .u8 0) w1 (Nat.le_refl _) Try.underlying35 infoB rfl _ _ rfl HO8.out w8.heap.size A8 _ cap8 (WireP.num old 2) rfl rfl Hby8.out (by have := Hlen.out; simp [WireP.num_length]; omega) ?_
         intro v9 w9 ho9
         clear b0 b1 b2 b3 b4 b5 b6 b7 b8
         obtain ⟨b0, b1, b2, b3, b4, b5, b6, b7, b8⟩ := HBX.out _ _ _ ho9
         simp only at b0 b1 b2 b3 b4 b5 b6 b7 b8
         have HO9 := Lib.hid ho9
         clear ho9)
      | (at_builtin
         refine wpList_append_ok rfl (.tmp 82) (.tmp 87) _ rfl w1.heap.size 5 (.int .u8 0) w1 (Nat.le_refl _) Try.underlying35 infoB rfl _ _ rfl HO9.out _ 1 _ _ (WireP.num rn 1) rfl rfl Hcs2.out (by simp [WireP.num_length]) (by have := Hlen.out; simp [WireP.num_length]; omega) ?_
         intro v10 w10 ho10
         clear b0 b1 b2 b3 b4 b5 b6 b7 b8
         obtain ⟨b0, b1, b2, b3, b4, b5, b6, b7, b8⟩ := HBX.out _ _ _ ho10
         simp only at b0 b1 b2 b3 b4 b5 b6 b7 b8
         have HO10 := Lib.hid ho10
         clear ho10)
      | fail)
      have h0 : Hid (∃ pre, pre = l1 ++ (WireP.num kind 1 ++ WireP.num key 1) ++ WireP.num val 2 ++ WireP.num old 2 ++ WireP.num rn 1 ∧ pre.length ≤ 40000 ∧ OutRel2 w1.heap.size w1 pre recs rn v10 (.int .i64 0) w10) := Lib.hid
        ⟨_, rfl, by simp [WireP.num_length]; omega, 0, Nat.zero_le _, rfl, by simpa [FrameP.recsB] using HO10.out⟩
      obtain ⟨pre2, hpre2, hplen2, hst2⟩ := h0.out
      have Hpre2 := Lib.hid hpre2
      have Hpl2 := Lib.hid hplen2
      have Hst2 := Lib.hid hst2
      clear hpre2 hplen2 hst2 h0 HO10 HO9 HO8 HO7 HO6 HO5 HO Hcs1 Hcs2 hl1 Hby6 Hby8
      go_loopw [5, 7] (OutRel2 w1.heap.size w1 pre2 recs rn) (fun _ i _ => (rn + 1 - intOf i).toNat)
      case atStart => exact Hst2.out
      case round =>
        clear Hst2 b0 b1 b2 b3 b4 b5 b6 b7 b8
        obtain ⟨k, hk, rfl, ho⟩ := hrel
        obtain ⟨b0, b1, b2, b3, b4, b5, b6, b7, b8⟩ := HBX.out _ _ _ ho
        simp only at b0 b1 b2 b3 b4 b5 b6 b7 b8
        have HO := Lib.hid ho
        have hle := FrameP.recsB_length (recs.take k)
        have hlen : (pre2 ++ FrameP.recsB (recs.take k)).length ≤ 50000 := by
          have := Hpl2.out
          simp only [List.length_append, List.length_take] at hle ⊢
          omega
        have Hlen2 := Lib.hid hlen
        clear ho hle hlen
        by_cases hlt : k < rn
        · obtain ⟨b, off, e, hbl, hms⟩ := (Hfr1.out.below HO.out.of).recs (by have := Hfr1.out.rlen; simp only at this ⊢; omega)
          change RA = some _ at e
          obtain ⟨y, hmk⟩ : ∃ y, recs[k]? = some y := ⟨_, List.getElem?_eq_getElem (by have := Hfr1.out.rlen; simp only at this; omega)⟩
          obtain ⟨k0, k1, k2, k3, k4⟩ := hms k _ hmk
          have hp := Hf8.out _ (List.mem_of_getElem? hmk)
          have hmd := Lib.hid (recsB_take hmk)
          have HKP : Hid (∀ l v w', OutIn w1.heap.size 5 w1 l v w' → RecAt w' b (off + k * 5) y) := Lib.hid fun l v w' ho => by
            obtain ⟨b', off', e', hbl', hms'⟩ := (Hfr1.out.below ho.of).recs (by have := Hfr1.out.rlen; simp only at this ⊢; omega)
            have e2 : some (⟨b, off, none⟩ : Addr) = some ⟨b', off', none⟩ := e.symm.trans e'
            injection e2 with e2
            injection e2 with e3 e4
            subst e3 e4
            exact hms' k _ hmk
          have Hend : Hid (∀ v w' t, t = FrameP.recB y → OutIn w1.heap.size 5 w1 (pre2 ++ FrameP.recsB (recs.take k) ++ t) v w' → OutRel2 w1.heap.size w1 pre2 recs rn v (.int .i64 ((k : Int) + 1)) w') := Lib.hid fun v w' t ht ho => by
            subst ht
            refine ⟨k + 1, by omega, by go_num, ?_⟩
            rw [hmd.out]
            simpa only [List.append_assoc] using ho
          have Hcs := Lib.hid (four_u8 y.node y.part y.kind y.did hp.2.1 hp.2.2.1 hp.2.2.2.1 hp.2.2.2.2)
          have hp0 := hp.1
          obtain ⟨rd, nd, pt, kd, dd⟩ := y
          simp only at k0 k1 k2 k3 k4 hp0 Hcs
          clear hms hmk hp hmd
          subst e
          generalize pre2 ++ FrameP.recsB (recs.take k) = l2 at *
          go_wp2_with fail
          refine (refnum_any rd 4 hp0 (by omega) (by omega) wr).mono ?_
          rw [put_num4]
          rintro e w6 ⟨v6, g6, rfl, hr6, hb6⟩
          have ho6 := HO.out.below (Nat.le_refl _) hb6
          obtain ⟨A6, cap6, rfl, -, -, hby6⟩ := hr6.bytes
          have HO6 := Lib.hid ho6
          have Hby6 := Lib.hid hby6
          clear ho6 hr6 hb6 hby6 k0 k1 k2 k3 k4 b0 b1 b2 b3 b4 b5 b6 b7 b8
          go_wp2_with (at_builtin
                       refine wpList_append_o rfl (.tmp 96) (.tmp 103) _ rfl w1.heap.size 5 (.int .u8 0) w1 (Nat.le_refl _) Try.underlying35 infoB rfl _ _ rfl HO6.out w6.heap.size A6 _ cap6 (WireP.num rd 4) rfl rfl Hby6.out (by have := Hlen2.out; simp [WireP.num_length]; omega) ?_
                       intro v7 w7 ho7
                       obtain ⟨k0, k1, k2, k3, k4⟩ := HKP.out _ _ _ ho7
                       simp only at k0 k1 k2 k3 k4
                       obtain ⟨b0, b1, b2, b3, b4, b5, b6, b7, b8⟩ := HBX.out _ _ _ ho7
                       simp only at b0 b1 b2 b3 b4 b5 b6 b7 b8
                       have HO7 := Lib.hid ho7
                       clear ho7)
          clear b0 b1 b2 b3 b4 b5 b6 b7 k0
          have hlen7 : Hid ((l2 ++ WireP.num rd 4).length + 4 ≤ 140737488355328) := Lib.hid (by have := Hlen2.out; simp [WireP.num_length]; omega)
          go_region_held3 (fun w' => w'.cell? ⟨w.heap.size, 8, none⟩ = some (.slice (some ⟨b, off, none⟩) rn rcap) ∧ w'.cell? ⟨b, off + k * 5 + 1, none⟩ = some (.int .u8 (nd : Nat)) ∧ w'.cell? ⟨b, off + k * 5 + 2, none⟩ = some (.int .u8 (pt : Nat)) ∧ w'.cell? ⟨b, off + k * 5 + 3, none⟩ = some (.int .u8 (kd : Nat)) ∧ w'.cell? ⟨b, off + k * 5 + 4, none⟩ = some (.int .u8 (dd : Nat))) (go_keep)
            ((refine step_append_ok (by rfl) (.tmp 105) (.tmp 130) _ (by rfl) w1.heap.size 5 (.int .u8 0) w1 (Nat.le_refl _) Try.underlying35 infoB (by rfl) _ _ (by rfl) HO7.out.drew _ 4 _ _ (WireP.num nd 1 ++ (WireP.num pt 1 ++ (WireP.num kd 1 ++ WireP.num dd 1))) (by rfl) (by rfl) Hcs.out (by simp [WireP.num_length]) hlen7.out ?_; intro v8 w8 ho8; obtain ⟨-, z1, z2, z3, z4⟩ := HKP.out _ _ _ ho8; simp only at z1 z2 z3 z4; have z8 := (HBX.out _ _ _ ho8).c8; simp only at z8; have HO8 := Lib.hid ho8; clear ho8))
          go_wp2_with fail
          go_roundw
          case rel => exact Hend.out _ _ (WireP.num rd 4 ++ (WireP.num nd 1 ++ (WireP.num pt 1 ++ (WireP.num kd 1 ++ WireP.num dd 1)))) rfl (by have := HO8.out; simpa only [List.append_assoc] using this)
          case measure => simp [intOf]; omega
        · have hkn : rn = k := by omega
          subst hkn
          have hfull : recs.take rn = recs := List.take_of_length_le (by have := Hfr1.out.rlen; simp only at this; omega)
          rw [hfull] at HO Hlen2
          have HL : Hid (pre2 ++ FrameP.recsB recs = FrameP.enc (FrameC.plain ⟨sender, round, members, MA, mn, mcap, msgs, kind, key, val, old, RA, rn, rcap, recs⟩)) := Lib.hid (by
            rw [Henc.out, Hpre2.out, ← Hl1.out, Hpre.out]
            simp only [List.append_assoc])
          rw [HL.out] at HO Hlen2
          obtain ⟨g9, hr9, hb9⟩ := HO.out
          obtain ⟨A9, cap9, rfl, -, -, hby9⟩ := hr9.bytes
          have Hb9 := Lib.hid hb9
          have HSe := Lib.hid (refseal_any A9 _ _ cap9 rfl wr (by have := Hlen2.out; omega) hby9)
          clear hr9 hby9 hb9 HO hfull HL b0 b1 b2 b3 b4 b5 b6 b7
          generalize (FrameC.plain ⟨sender, round, members, MA, mn, mcap, msgs, kind, key, val, old, RA, rn, rcap, recs⟩) = FR at *
          go_wp2_with fail
          refine HSe.out.mono ?_
          rintro e w10 hs10
          obtain ⟨v11, g11, rfl, hr11, hb11⟩ := hs10.row
          have HF : Hid (RefEncGood FR w (.returned (.tuple #[v11, .string ⟨#[]⟩])) w10) := Lib.hid ⟨v11, g11, rfl, hr11.base (fun k hk => by have := (hr11.lt k hk).1; have h2 := Hb9.out.size; omega), (HB0.out.trans (Hb1.out.mono (by simp))).trans (((Hb9.out.trans (hb11.mono Hb9.out.size))).mono (by omega))⟩
          clear hs10 hr11 hb11
          go_wp2_with fail
          go_ret2
          exact HF.out
end Go.Proofs.Ytmhpdmpihmahdaa
