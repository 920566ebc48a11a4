/- Contracts of Frames. Conditions: where what was heard lies. -/
import Derived.Test.YtkahecdnmeofkaaMbrI
namespace Go.Proofs.Ytkahecdnmeofkaa
open Go.RowKit
set_option maxRecDepth 100000

theorem infoF12 : (Try.prog.info? 51).map (fun i => (i.zero, i.size, i.bytes)) = some (some (.agg zeroCs), 9, 72) := by kernel_rfl
theorem frame_one (y : FrameC) : ∀ u ∈ y.cells, u.oneCell' = true := by
  intro u hu
  simp only [FrameC.cells, List.mem_cons, List.not_mem_nil, or_false] at hu
  rcases hu with rfl | rfl | rfl | rfl | rfl | rfl | rfl | rfl | rfl <;> rfl
theorem frames_one (l : List FrameC) : ∀ u ∈ itemsV FrameC.cells l, u.oneCell' = true := itemsV_oneCell frame_one l
/-- Frames in a row of the call's own, each in memory that the row's block is no part of. -/
structure FrRow (W : World) (B : Nat) (v : Value) (k : Nat) (ys : List FrameC) : Prop where
  own : W.ownsRow B 51 9 v k (itemsV FrameC.cells ys)
  ok : ∀ y ∈ ys, FrameIn W y ∧ FrameOff (fun q => v.ownBlock = some q) y
theorem FrRow.below {W W' : World} {B k : Nat} {v : Value} {ys : List FrameC} (h : FrRow W B v k ys) (hb : Below W.heap.size W W') : FrRow W' B v k ys := ⟨ikeep h.own hb, fun y hy => ⟨(h.ok y hy).1.below hb, (h.ok y hy).2⟩⟩
theorem FrRow.len {W : World} {B k : Nat} {v : Value} {ys : List FrameC} (h : FrRow W B v k ys) : ys.length = k := by
  have := h.own.1; rw [itemsV_length FrameC.cells_length] at this; omega
/-- One more frame, appended. -/
theorem FrRow.more {W W1 : World} {B k : Nat} {v v' : Value} {ys : List FrameC} {y : FrameC} (h : FrRow W B v k ys) (hy : FrameIn W y) (ho : FrameOff (fun q => v.ownBlock = some q) y)
    (hr : W1.ownsRow B 51 9 v' (k + 1) (itemsV FrameC.cells (ys ++ [y]))) (ha : Apart (fun q => v.ownBlock = some q) W W1) (hv : v'.ownBlock = v.ownBlock ∨ ∃ q, v'.ownBlock = some q ∧ W.heap.size ≤ q) : FrRow W1 B v' (k + 1) (ys ++ [y]) := by
  have hall : ∀ z ∈ ys ++ [y], FrameIn W z ∧ FrameOff (fun q => v.ownBlock = some q) z := fun z hz => by
    rcases List.mem_append.1 hz with hz | hz
    · exact h.ok z hz
    · rw [List.mem_singleton.1 hz]; exact ⟨hy, ho⟩
  refine ⟨hr, fun z hz => ⟨(hall z hz).1.offs (hall z hz).2 ha, ?_⟩⟩
  rcases hv with hv | ⟨q0, hv, hq⟩
  · rw [hv]; exact (hall z hz).2
  · rw [hv]; exact (hall z hz).1.off_new (fun k e => by have e := Option.some.inj e; omega)
def plainAt (fs : List FrameC) (n : Nat) : FrameP.Fr := (fs[n]?.getD zeroC).plain
def FramesP (L : List Nat) (fs : List FrameC) (w : World) (e : Ending) (w' : World) : Prop :=
  ∃ v ys, e = .returned v ∧ FrRow w' w.heap.size v L.length ys ∧ ys.map FrameC.plain = L.map (plainAt fs) ∧ Below w.heap.size w w'
theorem frames_nil (w : World) : Calls Try.prog 26 #[.pointer none] w (fun e w' => e = .returned (.slice none 0 0) ∧ Below w.heap.size w w') := by
  have HM := Lib.hid (fun W => members_nil W)
  have HL := Lib.hid (fun W => list_any 0 (by decide) W)
  unfold MemP at HM
  unfold ListP at HL
  unfold setV at *
  go_enter Try.func26, Try.ntmps26
  go_wp2_with fail
  refine (HM.out _).mono ?_
  rintro e w1 ⟨rfl, hb1⟩
  have Hb1 := Lib.hid hb1
  clear hb1
  go_wp2_with fail
  refine (HL.out _).mono ?_
  rintro e w2 ⟨v2, rfl, ho2, hb2⟩
  obtain ⟨A2, c2, rfl, -⟩ := own_slice ho2
  have Hb2 := Lib.hid (Hb1.out.trans (hb2.mono Hb1.out.size))
  have h0 : (MbrP.lst 0).length = 0 := by decide
  rw [h0]
  clear ho2 hb2
  go_wp2_with fail
  go_loopw [3, 10] (fun v i W => v = .slice none 0 0 ∧ i = .int .i64 0 ∧ W = w2) (fun _ i _ => (1 - intOf i).toNat)
  case atStart => exact ⟨rfl, rfl, rfl⟩
  case round =>
    obtain ⟨rfl, rfl, rfl⟩ := hrel
    go_wp2_with fail
    go_ret
    exact ⟨rfl, Hb2.out⟩

def FrsR (L : List Nat) (fs : List FrameC) (w2 : World) (v i : Value) (W : World) : Prop :=
  ∃ k ys, k ≤ L.length ∧ i = .int .i64 (k : Nat) ∧ FrRow W w2.heap.size v k ys ∧ ys.map FrameC.plain = (L.take k).map (plainAt fs) ∧ Below w2.heap.size w2 W
set_option maxHeartbeats 4000000 in
theorem frames_any (mr mm s : Nat) (known : Bool) (fs : List FrameC) (b : Nat) (w : World) (h : HeardIn w b mr mm known s fs) :
    Calls Try.prog 26 #[hv b] w (FramesP (MbrP.lst (memT s fs (MbrP.rightT known (mr, mm) (stamps s fs)))) fs w) := by
  have HM := Lib.hid (members_any mr mm s known fs b w h)
  generalize hm : memT s fs (MbrP.rightT known (mr, mm) (stamps s fs)) = me at *
  have hme : me < 256 := by
    rw [← hm]
    cases MbrP.rightT known (mr, mm) (stamps s fs) with
    | none => exact (by decide : (0 : Nat) < 256)
    | some x => exact Nat.lt_trans (MbrP.sub_in _ _) (by decide)
  have HL := Lib.hid (fun W => list_any me hme W)
  have HH := Lib.hid (fun W (hW : Below w.heap.size w W) => h.below hW)
  have HC := Lib.hid (fun x W (hW : FrameIn W x) => fclone_any x W hW)
  have hlen := h.len
  have hsz := h.size
  have hll := MbrP.lst_length me
  clear h hm hme
  unfold MemP at HM
  unfold ListP at HL
  unfold hv setV at *
  generalize hLL : MbrP.lst me = LL at *
  have hL7 : ∀ n, n ∈ LL → n < 7 := fun n hn => MbrP.lst_lt (by rw [hLL]; exact hn)
  clear hLL
  go_enter Try.func26, Try.ntmps26
  go_wp2_with fail
  refine HM.out.mono ?_
  rintro e w1 ⟨rfl, hb1⟩
  have Hb1 := Lib.hid hb1
  clear hb1 HM
  go_wp2_with fail
  refine (HL.out _).mono ?_
  rintro e w2 ⟨v2, rfl, ho2, hb2⟩
  obtain ⟨A2, c2, rfl, hc2, hl2, hi2⟩ := own_ints ho2
  have HI := Lib.hid hi2
  have Hb2 := Lib.hid (Hb1.out.trans (hb2.mono Hb1.out.size))
  have HS0 : Hid (FrsR LL fs w2 (.slice none 0 0) (.int .i64 0) w2) := Lib.hid ⟨0, [], Nat.zero_le _, rfl, ⟨⟨rfl, .inl ⟨rfl, rfl⟩⟩, fun y hy => by cases hy⟩, by simp, Below.refl _ _⟩
  clear ho2 hb2 hi2 HL hl2 Hb1
  generalize hN : LL.length = N at *
  have HLl := Lib.hid hN
  clear hN
  go_wp2_with fail
  go_loopw [3, 10] (FrsR LL fs w2) (fun _ i _ => (8 - intOf i).toNat)
  case atStart => exact HS0.out
  case round =>
    clear HS0
    obtain ⟨k, ys, hk, rfl, hr, hp, hb⟩ := hrel
    rw [HLl.out] at hk
    obtain ⟨Av, cv, rfl, -⟩ := own_slice hr.own
    have HR := Lib.hid hr
    have Hp := Lib.hid hp
    have Hb := Lib.hid hb
    have Hbw := Lib.hid (Hb2.out.trans (hb.mono Hb2.out.size))
    clear hr hp hb
    by_cases hkn : k < N
    case neg =>
      obtain rfl : k = N := by omega
      have HF : Hid (FramesP LL fs w (.returned (.slice Av k cv)) wr) := Lib.hid ⟨_, ys, rfl, by rw [HLl.out]; exact ⟨ilow HR.out.own Hb2.out.size, HR.out.ok⟩, by rw [Hp.out, ← HLl.out, List.take_length], Hbw.out⟩
      have q1 : decide ((k : Int) < (k : Int)) = false := decide_eq_false (by omega)
      clear hk hkn HI
      go_wp2_with fail
      go_ret
      exact HF.out
    obtain ⟨n, hn⟩ : ∃ n, LL[k]? = some n := ⟨_, List.getElem?_eq_getElem (by rw [HLl.out]; exact hkn)⟩
    have hn7 : n < 7 := hL7 n (List.mem_of_getElem? hn)
    obtain ⟨x, hx⟩ : ∃ x, fs[n]? = some x := ⟨_, List.getElem?_eq_getElem (by omega)⟩
    obtain ⟨ba, oa, rfl, -, c0⟩ := (HI.out.below Hb.out).at_ (MbrP.ints_get hn)
    have HHr := HH.out wr Hbw.out
    have HCl := Lib.hid (HC.out x wr (HHr.frames x (List.mem_of_getElem? hx)))
    have hpx : plainAt fs n = x.plain := by unfold plainAt; rw [hx]; rfl
    have hpk : ∀ y : FrameC, y.plain = x.plain → (ys ++ [y]).map FrameC.plain = (LL.take (k + 1)).map (plainAt fs) := fun y hy => by
      rw [List.map_append, Hp.out, List.take_add_one, hn, List.map_append]
      simp [hy, hpx]
    have Hpk := Lib.hid hpk
    have q1 : decide ((k : Int) < (N : Int)) = true := decide_eq_true (by omega)
    have hkz : (k : Int) < (N : Int) := by omega
    have hnz : (n : Int) < 7 := by omega
    have e1 : IntKind.i64.wrap ((k : Int) + 1) = (k : Int) + 1 := IntWalk.i64_in _ (by omega)
    have HO := Lib.hid (fun (j : Nat) (u : Value) (hu : x.cells[j]? = some u) => HHr.fc hx hu)
    obtain ⟨s0, s1, s2, s3, s4, s5, s6, s7, s8, s9, s10, s11, s12, s13, s14⟩ := x
    have o0 : wr.cell? ⟨b, 4 + n * 9, none⟩ = some (.int .u8 (s0 : Nat)) := HO.out 0 _ rfl
    have o1 : wr.cell? ⟨b, 4 + n * 9 + 1, none⟩ = some (.int .u32 (s1 : Nat)) := HO.out 1 _ rfl
    have o2 : wr.cell? ⟨b, 4 + n * 9 + 2, none⟩ = some (.int .u8 (s2 : Nat)) := HO.out 2 _ rfl
    have o3 : wr.cell? ⟨b, 4 + n * 9 + 3, none⟩ = some (.slice s3 s4 s5) := HO.out 3 _ rfl
    have o4 : wr.cell? ⟨b, 4 + n * 9 + 4, none⟩ = some (.int .u8 (s7 : Nat)) := HO.out 4 _ rfl
    have o5 : wr.cell? ⟨b, 4 + n * 9 + 5, none⟩ = some (.int .u8 (s8 : Nat)) := HO.out 5 _ rfl
    have o6 : wr.cell? ⟨b, 4 + n * 9 + 6, none⟩ = some (.int .u16 (s9 : Nat)) := HO.out 6 _ rfl
    have o7 : wr.cell? ⟨b, 4 + n * 9 + 7, none⟩ = some (.int .u16 (s10 : Nat)) := HO.out 7 _ rfl
    have o8 : wr.cell? ⟨b, 4 + n * 9 + 8, none⟩ = some (.slice s11 s12 s13) := HO.out 8 _ rfl
    simp only [FrameC.value] at HCl
    clear hx hpx hpk hn HHr HI HC HO hL7
    go_wp2_with fail
    refine HCl.out.mono ?_
    rintro e w3 ⟨y, rfl, hy1, hy2, hy3, hb3⟩
    have HR3 := Lib.hid (HR.out.below hb3)
    have Hy1 := Lib.hid hy1
    have Hy2 := Lib.hid (Hpk.out y hy2)
    have Hoff : Hid (FrameOff (fun q => (Value.slice Av k cv).ownBlock = some q) y) := Lib.hid (hy3.off (fun q e => (HR.out.own.lt q e).2))
    have Hb3 := Lib.hid (Hb.out.trans (hb3.mono Hb.out.size))
    have hs3 : w2.heap.size ≤ w3.heap.size := Nat.le_trans Hb.out.size hb3.size
    have Hvy : Hid (y.value = .agg y.cells.toArray) := Lib.hid rfl
    clear o0 o1 o2 o3 o4 o5 o6 o7 o8 hy1 hy2 hy3 hb3 HCl HR Hpk Hb
    obtain ⟨y0, y1, y2, y3, y4, y5, y6, y7, y8, y9, y10, y11, y12, y13, y14⟩ := y
    simp only [FrameC.value]
    go_wp2_with (at_builtin
                 refine wpList_append_s rfl (.tmp 14) (.tmp 22) _ rfl w2.heap.size 51 _ 9 72 Try.underlying41 infoF12 rfl (by omega) _ k (itemsV FrameC.cells ys) rfl (HR3.out.own.alloc _) (some ⟨w3.heap.size, 0, none⟩) 1 1 (FrameC.cells ⟨y0, y1, y2, y3, y4, y5, y6, y7, y8, y9, y10, y11, y12, y13, y14⟩) rfl rfl (fun _ => ⟨_, rfl, laid_at w3 51 _ _ rfl⟩) (frame_one _) (by unfold maxLen; omega) (by omega) (by simp; omega) ?_
                 intro v5 w5 ho5 ha5 hb5
                 have ha50 : Apart (fun k' => (Value.slice Av k cv).ownBlock = some k') w3 w5 := ((Apart.refl _ w3).alloc _).trans ha5 (fun _ e => .inl e)
                 have HR5 : Hid (FrsR LL fs w2 v5 (.int .i64 ((k : Int) + 1)) w5) := Lib.hid ⟨k + 1, _, by rw [HLl.out]; exact hkn, by go_num, HR3.out.more Hy1.out Hoff.out (by rw [itemsV_append, itemsV_one']; exact ho5) ha50 (hb5.imp id (fun e => ⟨_, e, by simp⟩)), Hy2.out, Hb3.out.trans (ha50.below hs3 (fun q e => (HR3.out.own.lt q e).1))⟩
                 clear ho5 ha5 hb5 ha50 HR3 Hy1 Hy2 Hoff Hb3)
    go_roundw
    case rel => exact HR5.out
    case measure => simp [intOf]; omega
theorem hframes_any (mr mm s : Nat) (known : Bool) (st : Nat → Nat × Nat) (b : Nat) (w : World) (h : Hrd w b mr mm known s st) : Calls Try.prog 26 #[hv b] w (fun e w' => ∃ A c, e = .returned (.slice A (MbrP.lst (memS s st (rightS known mr mm s st))).length c) ∧ Below w.heap.size w w') := by
  obtain ⟨fs, h1, h2⟩ := h
  have h3 := frames_any mr mm s known fs b w h1
  rw [stamps_st h2, memT_st h2] at h3
  refine h3.mono fun _ _ ⟨v, ys, he, hr, _, hb⟩ => ?_
  obtain ⟨A, c, hv, -⟩ := own_slice hr.own
  exact ⟨A, c, by rw [he, hv]; rfl, hb⟩
theorem hagain_any (mr mm s : Nat) (known : Bool) (st : Nat → Nat × Nat) (k : Nat) (hk : k < 7) (x : FrameC) (hx : x.sender = k) (b : Nat) (w : World) (h : Hrd w b mr mm known s st) (hb : s.testBit k = true) : Calls Try.prog 21 #[hv b, .int .i64 (k : Nat), x.value] w (NoP w) := by
  obtain ⟨fs, h1, -⟩ := h
  exact hear_again k hk x hx b w h1 hb
end Go.Proofs.Ytkahecdnmeofkaa
