/- Contract of frame's Encode at a frame in memory. Conditions: where its lists lie. -/
import Derived.Test.YtmhpdmpihmahdaaFraG
import Derived.Test.YtmhpdmpihmahdaaErrA1
import Derived.Test.YtmhpdmpihmahdaaCrcE
import Derived.Test.YtmhpdmpihmahdaaTxtO
namespace Go.Proofs.Ytmhpdmpihmahdaa
open Go.RowKit
set_option maxRecDepth 100000

theorem PutIn.call {B bw : Nat} {g : Option Nat} {l d more : List UInt8} {W w : World} {K : FuncId} {args : Array Value} (h : PutIn B bw g l d W w) (hc : ∀ g1, WriterAt w B bw g1 (l ++ d) → Calls Try.prog K args w (PutPost B bw g1 (l ++ d) more w)) :
    Calls Try.prog K args w fun e w' => e = .returned (.tuple #[]) ∧ PutIn B bw g l (d ++ more) W w' := by
  obtain ⟨g1, h1, h2, h3⟩ := h
  refine (hc g1 h1).mono ?_
  rintro e w' ⟨g2, rfl, h4, h5, h6⟩
  exact ⟨rfl, PutIn.join h2 h3 ⟨g2, h4, h5, h6⟩⟩

/-- What is told of a frame that may not be. -/
def EncBad (c : FrameP.Wrong) (w : World) (e : Ending) (w' : World) : Prop :=
  ∃ b, e = .returned (.tuple #[.slice none 0 0, .iface 76 (.pointer (some ⟨b, 0, none⟩))]) ∧ ErrTextK 5 w' (.iface 76 (.pointer (some ⟨b, 0, none⟩))) (overT 40 (-1) (wrongT (some c))) ∧ Below w.heap.size w w'
/-- A frame's bytes, sealed, in new memory. -/
def EncGood (f : FrameP.Fr) (w : World) (e : Ending) (w' : World) : Prop :=
  ∃ v g, e = .returned (.tuple #[v, .nilIface]) ∧ Row w' w.heap.size 5 g v (CrcP.seal4 (FrameP.enc f)) ∧ Below w.heap.size w w'

theorem SealPost.row {l : List UInt8} {W w' : World} {e : Ending} (h : SealPost l W e w') : ∃ v g, e = .returned v ∧ Row w' W.heap.size 5 g v (CrcP.seal4 l) ∧ Below W.heap.size W w' := by
  obtain ⟨v, h1, h2, h3⟩ := h
  exact ⟨v, _, h1, ⟨rfl, by rw [seal4_len]; exact h2⟩, h3⟩

theorem wrongT_ne (c : FrameP.Wrong) : wrongT (some c) ≠ [] := by
  simp [wrongT, atT]

theorem encode_bad (x : FrameC) (w : World) (h : FrameIn w x) (c : FrameP.Wrong) (hc : FrameP.chk x.plain = some c) :
    Calls Try.prog 12 #[x.value] w (EncBad c w) := by
  have HB0 := Lib.hid (boxF_below w x)
  have HC : Hid (∀ W, FrameIn W x → Calls Try.prog 15 #[x.value] W (CheckPost (some c) W)) := Lib.hid fun W hW => by rw [← hc]; exact check_any x W hW
  have HFr := Lib.hid (h.below (boxF_below w x))
  have hW : Hid (boxF w x = w.alloc _) := Lib.hid rfl
  clear h hc
  obtain ⟨sender, round, members, MA, mn, mcap, msgs, kind, key, val, old, RA, rn, rcap, recs⟩ := x
  rw [show (boxF w ⟨sender, round, members, MA, mn, mcap, msgs, kind, key, val, old, RA, rn, rcap, recs⟩) = _ from hW.out] at HB0 HFr
  simp only [FrameC.value] at HC ⊢
  clear hW
  go_enter Try.func12, Try.ntmps12
  go_wp2_with fail
  refine (HC.out _ HFr.out).mono ?_
  rintro e w1 ⟨v, rfl, h1, ⟨b, rfl⟩, h3⟩
  have HF : Hid (EncBad c w (.returned (.tuple #[.slice none 0 0, .iface 76 (.pointer (some ⟨w1.heap.size, 0, none⟩))])) (w1.alloc (.cells #[.int .i64 40, .int .i64 (-1), .iface 76 (.pointer (some ⟨b, 0, none⟩))] 78))) := Lib.hid (by
    refine ⟨_, rfl, ?_, (HB0.out.trans (h3.mono (by simp))).alloc (by have := h3.size; simp at this; omega) _⟩
    have h4 := ErrTextK.wrap h1 40 (-1) (by omega) (by omega)
    rw [overT, if_neg (wrongT_ne c)]
    exact h4)
  have HW := Lib.hid (wrap_F 40 (-1) b w1 rfl)
  rw [place_of (-1) (by omega)] at HW
  clear h1 h3
  go_wp2_with fail
  refine HW.out.mono ?_
  rintro e w2 ⟨rfl, rfl⟩
  go_wp2_with fail
  go_ret2
  exact HF.out

set_option maxHeartbeats 1000000 in
theorem encode_good (x : FrameC) (w : World) (h : FrameIn w x) (hc : FrameP.chk x.plain = none) :
    Calls Try.prog 12 #[x.value] w (EncGood x.plain w) := by
  have HB0 := Lib.hid (boxF_below w x)
  have HC : Hid (∀ W, FrameIn W x → Calls Try.prog 15 #[x.value] W (CheckPost none W)) := Lib.hid fun W hW => by rw [← hc]; exact check_any x W hW
  have HFr := Lib.hid (h.below (boxF_below w x))
  have hW : Hid (boxF w x = w.alloc _) := Lib.hid rfl
  have HBOX := Lib.hid (fun wr hb => box9 (w := w) (wr := wr) (x := x) hb)
  obtain ⟨hfit, hm96, hr4⟩ := FrameP.chk_fits h.typed hc
  have Hfit := Lib.hid hfit
  have hml := h.mlen
  have hrl := h.rlen
  have HMF : Hid (MsgsFit x.msgs) := Lib.hid fun y hy => by
    have := hfit.msgs y.plain (List.mem_map.2 ⟨y, hy, rfl⟩)
    exact ⟨this.1, by have := this.2.1; simp only [MsgC.plain] at this; omega⟩
  have Henc : Hid (FrameP.enc x.plain = WireP.num x.sender 1 ++ (WireP.num x.round 4 ++ (WireP.num x.members 1 ++ (WireP.num x.mn 1 ++ (FrameP.msgsB (x.msgs.map MsgC.plain) ++ (WireP.num x.kind 1 ++ (WireP.num x.key 1 ++ (WireP.num x.val 2 ++ (WireP.num x.old 2 ++ (WireP.num x.rn 1 ++ FrameP.recsB x.recs)))))))))) := Lib.hid (by
    simp only [FrameP.enc, FrameP.tailB, FrameC.plain, List.length_map, hml, hrl])
  have hmb := msgsB_le (x.msgs.map MsgC.plain)
  simp only [FrameC.plain, List.length_map] at hmb hm96
  have Hmb : Hid ((FrameP.msgsB (x.msgs.map MsgC.plain)).length ≤ 25000) := Lib.hid (by omega)
  have hrb := FrameP.recsB_length x.recs
  have hmn : x.mn ≤ 96 := by omega
  have hrn : x.rn ≤ 4 := by simp only [FrameC.plain] at hr4; omega
  have Hrb : Hid ((FrameP.recsB x.recs).length ≤ 32) := Lib.hid (by omega)
  clear h hc hfit hml hrl hm96 hr4 hmb hrb
  generalize hP : x.plain = P at *
  obtain ⟨sender, round, members, MA, mn, mcap, msgs, kind, key, val, old, RA, rn, rcap, recs⟩ := x
  obtain ⟨f1, f2, f3, -, -, f4, f5, f6, f7, -, f8⟩ := Hfit.out
  subst hP
  rw [show (boxF w ⟨sender, round, members, MA, mn, mcap, msgs, kind, key, val, old, RA, rn, rcap, recs⟩) = _ from hW.out] at HB0 HFr HBOX
  simp only [FrameC.value] at HC ⊢
  simp only [FrameC.plain] at f1 f2 f3 f4 f5 f6 f7
  simp only at Henc HMF hmn hrn Hmb Hrb
  have Hf8 := Lib.hid f8
  clear hW Hfit f8
  go_enter Try.func12, Try.ntmps12
  go_wp2_with fail
  refine (HC.out _ HFr.out).mono ?_
  rintro e w1 ⟨v, rfl, h1, rfl, h3⟩
  obtain ⟨b0, b1, b2, b3, b4, b5, b6, b7, b8⟩ := HBOX.out w1 h3
  simp only at b0 b1 b2 b3 b4 b5 b6 b7 b8
  have Hb1 := Lib.hid h3
  have Hfr1 := Lib.hid (HFr.out.below h3)
  have hz : w.heap.size < w1.heap.size := by have := h3.size; simp at this; omega
  have HS := Lib.hid (PutIn.start (WriterAt.new w1 w1.heap.size (Nat.le_refl _)))
  have HN := Lib.hid (WriterAt.new w1 w1.heap.size (Nat.le_refl _))
  have HBx : Hid (∀ d w2, PutIn w1.heap.size w1.heap.size none [] d (w1.alloc (.cells #[.slice none 0 0] 61)) w2 → Below w1.heap.size w1 w2) := Lib.hid fun d w2 hi => ((Below.refl _ _).alloc (Nat.le_refl _) _).trans (hi.below HN.out (by simp))
  have HsN : Hid (w1.heap.size ≤ (w1.alloc (.cells #[.slice none 0 0] 61)).heap.size) := Lib.hid (by simp)
  clear h1 h3 HC
  go_wp2_with fail
  refine (HS.out.put sender 1 (by omega) (by simp) HsN.out).mono ?_
  rintro e w2 ⟨rfl, hi2⟩
  obtain ⟨b0, b1, b2, b3, b4, b5, b6, b7, b8⟩ := HBOX.out w2 (Hb1.out.trans ((HBx.out _ _ hi2).mono Hb1.out.size))
  simp only at b0 b1 b2 b3 b4 b5 b6 b7 b8
  have HI2 := Lib.hid hi2
  clear hi2
  go_wp2_with fail
  refine (HI2.out.call (fun g1 hw => putStamp_any w1.heap.size w1.heap.size g1 _ round members f2 f3 w2 (by simp [put_num1, WireP.num_length]) (HBx.out _ _ HI2.out).size hw)).mono ?_
  rintro e w3 ⟨rfl, hi3⟩
  obtain ⟨b0, b1, b2, b3, b4, b5, b6, b7, b8⟩ := HBOX.out w3 (Hb1.out.trans ((HBx.out _ _ hi3).mono Hb1.out.size))
  simp only at b0 b1 b2 b3 b4 b5 b6 b7 b8
  have HI3 := Lib.hid hi3
  clear hi3
  go_wp2_with fail
  refine (HI3.out.call (fun g1 hw => putMessages_any w1 w1.heap.size g1 _ MA mn mcap msgs Hfr1.out.msgs Hfr1.out.mlen (by omega) HMF.out w3 (HBx.out _ _ HI3.out) (by simp [put_num1, WireP.num_length]) hw)).mono ?_
  rintro e w4 ⟨rfl, hi4⟩
  obtain ⟨b0, b1, b2, b3, b4, b5, b6, b7, b8⟩ := HBOX.out w4 (Hb1.out.trans ((HBx.out _ _ hi4).mono Hb1.out.size))
  simp only at b0 b1 b2 b3 b4 b5 b6 b7 b8
  have HI4 := Lib.hid hi4
  clear hi4
  go_wp2_with fail
  refine (HI4.out.call (fun g1 hw => putCommand_any w1.heap.size w1.heap.size g1 _ kind key val old f4 f5 f6 f7 w4 (by have := Hmb.out; simp [put_num1, WireP.num_length]; omega) (HBx.out _ _ HI4.out).size hw)).mono ?_
  rintro e w5 ⟨rfl, hi5⟩
  obtain ⟨b0, b1, b2, b3, b4, b5, b6, b7, b8⟩ := HBOX.out w5 (Hb1.out.trans ((HBx.out _ _ hi5).mono Hb1.out.size))
  simp only at b0 b1 b2 b3 b4 b5 b6 b7 b8
  have HI5 := Lib.hid hi5
  clear hi5
  go_wp2_with fail
  refine (HI5.out.call (fun g1 hw => putRecords_any w1 w1.heap.size g1 _ RA rn rcap recs Hfr1.out.recs Hfr1.out.rlen (by omega) Hf8.out w5 (HBx.out _ _ HI5.out) (by have := Hmb.out; simp [put_num1, WireP.num_length]; omega) hw)).mono ?_
  rintro e w6 ⟨rfl, hi6⟩
  have HI6 := Lib.hid hi6
  have Hb6 := Lib.hid (HBx.out _ _ hi6)
  obtain ⟨g6, hw6, -, -⟩ := hi6
  have Hw6 := Lib.hid hw6
  have Hl6 : Hid (([] ++ ([] ++ WireP.put sender 1 ++ (WireP.num round 4 ++ WireP.num members 1) ++ (WireP.num mn 1 ++ FrameP.msgsB (List.map MsgC.plain msgs)) ++ (WireP.num kind 1 ++ (WireP.num key 1 ++ (WireP.num val 2 ++ WireP.num old 2))) ++ (WireP.num rn 1 ++ FrameP.recsB recs))) = FrameP.enc (FrameC.plain ⟨sender, round, members, MA, mn, mcap, msgs, kind, key, val, old, RA, rn, rcap, recs⟩)) := Lib.hid (by
    rw [Henc.out, put_num1]
    simp only [List.nil_append, List.append_assoc])
  rw [Hl6.out] at Hw6
  have hlen : Hid ((FrameP.enc (FrameC.plain ⟨sender, round, members, MA, mn, mcap, msgs, kind, key, val, old, RA, rn, rcap, recs⟩)).length ≤ 30000) := Lib.hid (by
    rw [Henc.out]
    have h1 := Hmb.out
    have h2 := Hrb.out
    simp only [List.length_append, WireP.num_length]
    omega)
  clear hw6 HI2 HI3 HI4 HI5 HI6 Henc Hl6 HMF Hf8 Hmb Hrb b0 b1 b2 b3 b4 b5 b6 b7 b8 HS HN HBx
  generalize (FrameC.plain ⟨sender, round, members, MA, mn, mcap, msgs, kind, key, val, old, RA, rn, rcap, recs⟩) = FR at *
  obtain ⟨P, hP⟩ : ∃ P, FrameP.enc FR = P := ⟨_, rfl⟩
  have HFR := Lib.hid hP
  rw [hP] at Hw6 hlen
  clear hP
  go_wp2_with fail
  refine (bytes_any w1.heap.size w1.heap.size g6 P w6 (by have := hlen.out; omega) Hw6.out).mono ?_
  rintro e w7 ⟨v7, g7, rfl, hr7, hb7⟩
  obtain ⟨A7, cap7, rfl, hc7, -, hby7⟩ := hr7.bytes
  have Hby7 := Lib.hid hby7
  have Hb7 := Lib.hid (Hb6.out.trans (hb7.mono Hb6.out.size))
  have HSe := Lib.hid (seal_any A7 P P.length cap7 rfl w7 (by have := hlen.out; omega) hby7)
  clear hr7 hby7 hb7 Hw6 Hb6
  go_wp2_with fail
  refine HSe.out.mono ?_
  rintro e w8 hs8
  obtain ⟨v8, g8, rfl, hr8, hb8⟩ := hs8.row
  have HF : Hid (EncGood FR w (.returned (.tuple #[v8, .nilIface])) w8) := Lib.hid ⟨v8, g8, rfl, by rw [HFR.out]; exact hr8.base (fun k hk => by have := (hr8.lt k hk).1; have h2 := Hb7.out.size; omega), (HB0.out.trans (Hb1.out.mono (by simp))).trans (((Hb7.out.trans (hb8.mono Hb7.out.size))).mono (by have := Hb1.out.size; simp at this; omega))⟩
  clear hs8 hr8 hb8
  go_wp2_with fail
  go_ret2
  exact HF.out
end Go.Proofs.Ytmhpdmpihmahdaa
