/- Contracts of frame's putMessages and putRecords. Conditions: where the Writer and the lists lie; ports from 0 to 255, at most 255 bytes of a message, at most 300 items. -/
import Derived.Test.YtmhpdmpihmahdaaFraF
namespace Go.Proofs.Ytmhpdmpihmahdaa
open Go.RowKit

theorem msgsB_snoc : ∀ (l : List FrameP.Msg) (m : FrameP.Msg), FrameP.msgsB (l ++ [m]) = FrameP.msgsB l ++ FrameP.msgB m
  | [], m => by simp [FrameP.msgsB]
  | x :: l, m => by simp [FrameP.msgsB, msgsB_snoc l m]
theorem recsB_snoc : ∀ (l : List FrameP.Rec) (m : FrameP.Rec), FrameP.recsB (l ++ [m]) = FrameP.recsB l ++ FrameP.recB m
  | [], m => by simp [FrameP.recsB]
  | x :: l, m => by simp [FrameP.recsB, recsB_snoc l m]
theorem msgsB_take {l : List MsgC} {k : Nat} {x : MsgC} (h : l[k]? = some x) : FrameP.msgsB ((l.take (k + 1)).map MsgC.plain) = FrameP.msgsB ((l.take k).map MsgC.plain) ++ FrameP.msgB x.plain := by
  rw [List.take_add_one, h, List.map_append]
  exact msgsB_snoc _ _
theorem recsB_take {l : List FrameP.Rec} {k : Nat} {x : FrameP.Rec} (h : l[k]? = some x) : FrameP.recsB (l.take (k + 1)) = FrameP.recsB (l.take k) ++ FrameP.recB x := by
  rw [List.take_add_one, h]
  exact recsB_snoc _ _
theorem msgsB_le : ∀ (l : List FrameP.Msg), (FrameP.msgsB l).length ≤ 257 * l.length
  | [] => by simp [FrameP.msgsB]
  | m :: r => by
    have h1 := msgsB_le r
    have h2 := WireP.text_length m.data
    simp only [FrameP.msgsB, FrameP.msgB, List.length_append, WireP.num_length, List.length_cons]
    omega

/-- What is known of messages that fit. -/
def MsgsFit (msgs : List MsgC) : Prop := ∀ x ∈ msgs, 0 ≤ x.port ∧ x.port ≤ 255

def PutMsgsRel (B bw : Nat) (g : Option Nat) (l : List UInt8) (msgs : List MsgC) (n : Nat) (w : World) (i : Value) (wr : World) : Prop :=
  ∃ k, k ≤ n ∧ i = .int .i64 (k : Nat) ∧ PutIn B bw g l (WireP.num n 1 ++ FrameP.msgsB ((msgs.take k).map MsgC.plain)) w wr
def PutRecsRel (B bw : Nat) (g : Option Nat) (l : List UInt8) (recs : List FrameP.Rec) (n : Nat) (w : World) (i : Value) (wr : World) : Prop :=
  ∃ k, k ≤ n ∧ i = .int .i64 (k : Nat) ∧ PutIn B bw g l (WireP.num n 1 ++ FrameP.recsB (recs.take k)) w wr

set_option maxHeartbeats 1000000 in
theorem putMessages_any (W0 : World) (bw : Nat) (g : Option Nat) (l : List UInt8) (A : Option Addr) (n cap : Nat) (msgs : List MsgC) (hm : MsgsIn W0 A msgs) (hn : msgs.length = n) (hn3 : n ≤ 255) (hf : MsgsFit msgs) (w : World) (hw : Below W0.heap.size W0 w) (hl : l.length ≤ 1000000) (h : WriterAt w W0.heap.size bw g l) :
    Calls Try.prog 24 #[.pointer (some ⟨bw, 0, none⟩), .slice A n cap] w (PutPost W0.heap.size bw g l (WireP.num n 1 ++ FrameP.msgsB (msgs.map MsgC.plain)) w) := by
  have H := Lib.hid h
  have HM := Lib.hid hm
  have Hn := Lib.hid hn
  have Hf := Lib.hid hf
  have Hw := Lib.hid hw
  have HP := Lib.hid ((PutIn.start h).put n 1 (by omega) (by simp; omega) hw.size)
  have hmod : (n : Int) % 4294967296 = n := by omega
  clear hm hn hf hw h
  go_enter Try.func24, Try.ntmps24
  go_wp2_with fail
  refine HP.out.mono ?_
  rintro e w1 ⟨rfl, hi1⟩
  have h0 : Hid (PutMsgsRel W0.heap.size bw g l msgs n w (.int .i64 0) w1) := Lib.hid ⟨0, Nat.zero_le _, rfl, by rw [put_num1] at hi1; simpa [FrameP.msgsB] using hi1⟩
  clear hi1 HP
  go_wp2_with fail
  go_loopw [13] (PutMsgsRel W0.heap.size bw g l msgs n w) (fun i _ => (n + 1 - intOf i).toNat)
  case atStart => exact h0.out
  case round =>
    clear h0
    obtain ⟨k, hk, rfl, hi⟩ := hrel
    have hbw : Below W0.heap.size W0 wr := Hw.out.trans (hi.below H.out Hw.out.size)
    have HI := Lib.hid hi
    have Hbw := Lib.hid hbw
    clear hi hbw
    by_cases hlt : k < n
    · obtain ⟨b, off, rfl, hbl, hms⟩ := (HM.out.below Hbw.out) (by rw [Hn.out]; omega)
      obtain ⟨⟨port, A2, m, cap2, data⟩, hmk⟩ : ∃ y, msgs[k]? = some y := ⟨_, List.getElem?_eq_getElem (by rw [Hn.out]; exact hlt)⟩
      obtain ⟨kp, kt, ok1, ok2, ok3, ok4, ok5⟩ := hms k _ hmk
      have hp := Hf.out _ (List.mem_of_getElem? hmk)
      simp only at kp kt ok1 ok2 ok3 ok4 ok5 hp
      obtain ⟨p, rfl⟩ := Int.eq_ofNat_of_zero_le hp.1
      have Hdat : Hid (Bytes wr W0.heap.size A2 data) := Lib.hid (by
        obtain ⟨b2, off2, e2, hb2, hms2⟩ := HM.out (by rw [Hn.out]; omega)
        exact ((hms2 k _ hmk).ok.bytes).below Hbw.out (Nat.le_refl _))
      have hmd := Lib.hid (msgsB_take hmk)
      obtain ⟨g1, hw1, hm1, ha1⟩ := HI.out
      have hle := msgsB_le ((msgs.take k).map MsgC.plain)
      have hlen : (l ++ (WireP.num n 1 ++ FrameP.msgsB ((msgs.take k).map MsgC.plain))).length ≤ 2000000 := by
        simp only [List.length_append, WireP.num_length, List.length_map, List.length_take] at hle ⊢
        omega
      have Hlen := Lib.hid hlen
      have HW1 := Lib.hid hw1
      have HS := Lib.hid (fun o => PutIn.start (hw1.alloc o))
      have Hm1 := Lib.hid hm1
      have Ha1 := Lib.hid ha1
      have HB := Lib.hid (show ∀ o, W0.heap.size ≤ (wr.alloc o).heap.size from fun o => by have := Hbw.out.size; simp; omega)
      have hpm : (p : Int) % 4294967296 = p := by omega
      have hp2 : p ≤ 255 := by omega
      have Hend : Hid (∀ w3 t, t = WireP.num p 1 ++ WireP.text data → PutIn W0.heap.size bw g1 (l ++ (WireP.num n 1 ++ FrameP.msgsB ((msgs.take k).map MsgC.plain))) t wr w3 → PutMsgsRel W0.heap.size bw g l msgs n w (.int .i64 ((k : Int) + 1)) w3) := Lib.hid fun w3 t ht hi => by
        subst ht
        refine ⟨k + 1, by omega, by go_num, ?_⟩
        have h9 := PutIn.join Hm1.out Ha1.out hi
        rw [hmd.out]
        have e9 : FrameP.msgB (MsgC.plain ⟨(p : Int), A2, m, cap2, data⟩) = WireP.num p 1 ++ WireP.text data := by
          simp only [FrameP.msgB, MsgC.plain]
          rw [show (((p : Int) % 256).toNat) = p by omega]
        rw [e9]
        simpa only [List.append_assoc] using h9
      have Hd := Lib.hid ok1
      clear hw1 hm1 ha1 hle hlen hms hmk ok1 ok4 hp hmd HI
      generalize l ++ (WireP.num n 1 ++ FrameP.msgsB ((msgs.take k).map MsgC.plain)) = l1 at *
      go_wp2_with fail
      refine ((HS.out _).put p 1 (by omega) (by have := Hlen.out; simp; omega) (HB.out _)).mono ?_
      rintro e w2 ⟨rfl, hi2⟩
      have c1 := box_keep HW1.out hi2 1 rfl
      have Hdat2 := Lib.hid (Hdat.out.below (((Below.refl W0.heap.size wr).alloc Hbw.out.size _).trans (hi2.below (HW1.out.alloc _) (HB.out _))) (Nat.le_refl _))
      have HI2 := Lib.hid hi2
      clear hi2
      go_wp2_with fail
      refine (HI2.out.text A2 m cap2 data Hd.out ok2 (by have := Hlen.out; simp [put_num1, WireP.num_length]; omega) (HB.out _) Hdat2.out).mono ?_
      rintro e w3 ⟨rfl, hi3⟩
      have HI3 := Lib.hid hi3
      clear hi3 c1
      go_wp2_with fail
      go_roundw
      case rel =>
        refine Hend.out _ _ rfl ?_
        have h9 := HI3.out
        rw [put_num1, List.nil_append] at h9
        exact h9.unalloc
      case measure => simp [intOf]; omega
    · have hkn : n = k := by omega
      subst hkn
      have HF : Hid (PutPost W0.heap.size bw g l (WireP.num n 1 ++ FrameP.msgsB (msgs.map MsgC.plain)) w (.returned (.tuple #[])) wr) := Lib.hid (HI.out.post (by rw [List.take_of_length_le (by rw [Hn.out]; exact Nat.le_refl _)]))
      go_wp2_with fail
      go_end0
      exact HF.out

set_option maxHeartbeats 1000000 in
theorem putRecords_any (W0 : World) (bw : Nat) (g : Option Nat) (l : List UInt8) (A : Option Addr) (n cap : Nat) (recs : List FrameP.Rec) (hm : RecsIn W0 A recs) (hn : recs.length = n) (hn3 : n ≤ 255) (hf : ∀ x ∈ recs, FrameP.RecFits x) (w : World) (hw : Below W0.heap.size W0 w) (hl : l.length ≤ 1000000) (h : WriterAt w W0.heap.size bw g l) :
    Calls Try.prog 26 #[.pointer (some ⟨bw, 0, none⟩), .slice A n cap] w (PutPost W0.heap.size bw g l (WireP.num n 1 ++ FrameP.recsB recs) w) := by
  have H := Lib.hid h
  have HM := Lib.hid hm
  have Hn := Lib.hid hn
  have Hf := Lib.hid hf
  have Hw := Lib.hid hw
  have HP := Lib.hid ((PutIn.start h).put n 1 (by omega) (by simp; omega) hw.size)
  have hmod : (n : Int) % 4294967296 = n := by omega
  clear hm hn hf hw h
  go_enter Try.func26, Try.ntmps26
  go_wp2_with fail
  refine HP.out.mono ?_
  rintro e w1 ⟨rfl, hi1⟩
  have h0 : Hid (PutRecsRel W0.heap.size bw g l recs n w (.int .i64 0) w1) := Lib.hid ⟨0, Nat.zero_le _, rfl, by rw [put_num1] at hi1; simpa [FrameP.recsB] using hi1⟩
  clear hi1 HP
  go_wp2_with fail
  go_loopw [13] (PutRecsRel W0.heap.size bw g l recs n w) (fun i _ => (n + 1 - intOf i).toNat)
  case atStart => exact h0.out
  case round =>
    clear h0
    obtain ⟨k, hk, rfl, hi⟩ := hrel
    have hbw : Below W0.heap.size W0 wr := Hw.out.trans (hi.below H.out Hw.out.size)
    have HI := Lib.hid hi
    have Hbw := Lib.hid hbw
    clear hi hbw
    by_cases hlt : k < n
    · obtain ⟨b, off, rfl, hbl, hms⟩ := (HM.out.below Hbw.out) (by rw [Hn.out]; omega)
      obtain ⟨y, hmk⟩ : ∃ y, recs[k]? = some y := ⟨_, List.getElem?_eq_getElem (by rw [Hn.out]; exact hlt)⟩
      obtain ⟨k0, k1, k2, k3, k4⟩ := hms k _ hmk
      have hp := Hf.out _ (List.mem_of_getElem? hmk)
      have hmd := Lib.hid (recsB_take hmk)
      obtain ⟨g1, hw1, hm1, ha1⟩ := HI.out
      have hle := FrameP.recsB_length (recs.take k)
      have hlen : (l ++ (WireP.num n 1 ++ FrameP.recsB (recs.take k))).length ≤ 2000000 := by
        simp only [List.length_append, WireP.num_length, List.length_take] at hle ⊢
        omega
      have Hlen := Lib.hid hlen
      have HW1 := Lib.hid hw1
      have HS := Lib.hid (fun o => PutIn.start (hw1.alloc o))
      have Hm1 := Lib.hid hm1
      have Ha1 := Lib.hid ha1
      have HB := Lib.hid (show ∀ o, W0.heap.size ≤ (wr.alloc o).heap.size from fun o => by have := Hbw.out.size; simp; omega)
      have Hend : Hid (∀ w3 t, t = FrameP.recB y → PutIn W0.heap.size bw g1 (l ++ (WireP.num n 1 ++ FrameP.recsB (recs.take k))) t wr w3 → PutRecsRel W0.heap.size bw g l recs n w (.int .i64 ((k : Int) + 1)) w3) := Lib.hid fun w3 t ht hi => by
        subst ht
        refine ⟨k + 1, by omega, by go_num, ?_⟩
        have h9 := PutIn.join Hm1.out Ha1.out hi
        rw [hmd.out]
        simpa only [List.append_assoc] using h9
      obtain ⟨rd, nd, pt, kd, dd⟩ := y
      obtain ⟨p0, p1, p2, p3, p4⟩ := hp
      simp only at k0 k1 k2 k3 k4 p0 p1 p2 p3 p4
      clear hw1 hm1 ha1 hle hlen hms hmk hmd HI
      generalize l ++ (WireP.num n 1 ++ FrameP.recsB (recs.take k)) = l1 at *
      go_wp2_with fail
      refine ((HS.out _).put rd 4 p0 (by have := Hlen.out; simp; omega) (HB.out _)).mono ?_
      rintro e w2 ⟨rfl, hi2⟩
      have c1 := box_keep HW1.out hi2 1 rfl
      have HI2 := Lib.hid hi2
      clear hi2
      go_wp2_with fail
      refine (HI2.out.put nd 1 (by omega) (by have := Hlen.out; simp [put_num4, WireP.num_length]; omega) (HB.out _)).mono ?_
      rintro e w3 ⟨rfl, hi3⟩
      have c2 := box_keep HW1.out hi3 2 rfl
      have HI3 := Lib.hid hi3
      clear hi3 c1
      go_wp2_with fail
      refine (HI3.out.put pt 1 (by omega) (by have := Hlen.out; simp [put_num1, put_num4, WireP.num_length]; omega) (HB.out _)).mono ?_
      rintro e w4 ⟨rfl, hi4⟩
      have c3 := box_keep HW1.out hi4 3 rfl
      have HI4 := Lib.hid hi4
      clear hi4 c2
      go_wp2_with fail
      refine (HI4.out.put kd 1 (by omega) (by have := Hlen.out; simp [put_num1, put_num4, WireP.num_length]; omega) (HB.out _)).mono ?_
      rintro e w5 ⟨rfl, hi5⟩
      have c4 := box_keep HW1.out hi5 4 rfl
      have HI5 := Lib.hid hi5
      clear hi5 c3
      go_wp2_with fail
      refine (HI5.out.put dd 1 (by omega) (by have := Hlen.out; simp [put_num1, put_num4, WireP.num_length]; omega) (HB.out _)).mono ?_
      rintro e w6 ⟨rfl, hi6⟩
      have HI6 := Lib.hid hi6
      clear hi6 c4
      go_wp2_with fail
      go_roundw
      case rel => exact Hend.out _ _ (by simp [put_num1, put_num4, FrameP.recB]) HI6.out.unalloc
      case measure => simp [intOf]; omega
    · have hkn : n = k := by omega
      subst hkn
      have HF : Hid (PutPost W0.heap.size bw g l (WireP.num n 1 ++ FrameP.recsB recs) w (.returned (.tuple #[])) wr) := Lib.hid (HI.out.post (by rw [List.take_of_length_le (by rw [Hn.out]; exact Nat.le_refl _)]))
      go_wp2_with fail
      go_end0
      exact HF.out
end Go.Proofs.Ytmhpdmpihmahdaa
