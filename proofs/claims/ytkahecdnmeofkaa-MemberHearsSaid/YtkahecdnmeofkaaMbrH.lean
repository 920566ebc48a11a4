/- Contracts of votes, Right, Members. Conditions: where what was heard lies. -/
import Derived.Test.YtkahecdnmeofkaaMbrG
namespace Go.Proofs.Ytkahecdnmeofkaa
open Go.RowKit
set_option maxRecDepth 100000

def VoteP (s : Nat) (fs : List FrameC) (w : World) (e : Ending) (w' : World) : Prop := ∃ v, e = .returned v ∧ w'.ownsRow w.heap.size 3 1 v (MbrP.lst s).length (intV (MbrP.votesT s (stOf fs))) ∧ Below w.heap.size w w'
def VotR (s : Nat) (fs : List FrameC) (w2 : World) (v i : Value) (W : World) : Prop :=
  ∃ k, k ≤ (MbrP.lst s).length ∧ i = .int .i64 (k : Nat) ∧ W.ownsRow w2.heap.size 3 1 v k (intV ((MbrP.votesT s (stOf fs)).take k)) ∧ Below w2.heap.size w2 W
set_option maxHeartbeats 2000000 in
theorem votes_any (mr mm s : Nat) (known : Bool) (fs : List FrameC) (b : Nat) (w : World) (h : HeardIn w b mr mm known s fs) : Calls Try.prog 33 #[hv b] w (VoteP s fs w) := by
  have HL := Lib.hid (fun W => list_any s (Nat.lt_trans h.small (by decide)) W)
  have HH := Lib.hid (fun W (hW : Below w.heap.size w W) => h.below hW)
  have HBe := Lib.hid (fun r m W (hW : HeardIn W b mr mm known s fs) => bearers_any mr mm s known fs r m b W hW)
  have HLb := Lib.hid (fun x W => list_any (MbrP.bear s (stOf fs) x) (Nat.lt_trans (MbrP.sub_in _ _) (by decide)) W)
  have hlen := h.len
  have c3 := h.c3
  have hsz := h.size
  have hll := MbrP.lst_length s
  clear h
  unfold BearP at HBe
  unfold hv stampV at *
  unfold setV at HL HBe HLb
  go_enter Try.func33, Try.ntmps33
  go_wp2_with fail
  refine (HL.out _).mono ?_
  rintro e w2 ⟨v2, rfl, ho2, hb2⟩
  obtain ⟨A2, c2, rfl, hc2, hl2, hi2⟩ := own_ints ho2
  have hs2 := hb2.size
  have HI := Lib.hid hi2
  have Hb2 := Lib.hid hb2
  have HS0 : Hid (VotR s fs w2 (.slice none 0 0) (.int .i64 0) w2) := Lib.hid ⟨0, Nat.zero_le _, rfl, ⟨rfl, .inl ⟨rfl, rfl⟩⟩, Below.refl _ _⟩
  clear ho2 hb2 hi2 HL hl2 c3
  generalize hN : (MbrP.lst s).length = N at *
  have HLl := Lib.hid hN
  clear hN
  go_wp2_with fail
  go_loopw [3, 12] (VotR s fs w2) (fun _ i _ => (8 - intOf i).toNat)
  case atStart => exact HS0.out
  case round =>
    clear HS0
    obtain ⟨k, hk, rfl, ho, hb⟩ := hrel
    have hbw : Below w.heap.size w wr := Hb2.out.trans (hb.mono Hb2.out.size)
    rw [HLl.out] at hk
    obtain ⟨Av, cv, rfl, -⟩ := own_slice ho
    have HO := Lib.hid ho
    have Hb := Lib.hid hb
    have Hbw := Lib.hid hbw
    clear ho hb hbw
    by_cases hkn : k < N
    case neg =>
      obtain rfl : k = N := by omega
      have HF : Hid (VoteP s fs w (.returned (.slice Av k cv)) wr) := Lib.hid ⟨_, rfl, by have h1 := HO.out; rw [← HLl.out] at h1 ⊢; rw [← MbrP.votes_length s (stOf fs), List.take_length] at h1; rw [MbrP.votes_length] at h1; exact ilow h1 Hb2.out.size, Hbw.out⟩
      have q1 : decide ((k : Int) < (k : Int)) = false := decide_eq_false (by omega)
      clear hk hkn HI
      go_wp2_with fail
      go_ret
      exact HF.out
    obtain ⟨n, hn⟩ : ∃ n, (MbrP.lst s)[k]? = some n := ⟨_, List.getElem?_eq_getElem (by rw [HLl.out]; exact hkn)⟩
    have hn7 : n < 7 := MbrP.lst_lt (List.mem_of_getElem? hn)
    obtain ⟨x, hx⟩ : ∃ x, fs[n]? = some x := ⟨_, List.getElem?_eq_getElem (by omega)⟩
    obtain ⟨ba, oa, rfl, -, c0⟩ := (HI.out.below Hb.out).at_ (MbrP.ints_get hn)
    have HHr := HH.out wr Hbw.out
    have f1 : wr.cell? ⟨b, 4 + n * 9 + 1, none⟩ = some (.int .u32 (x.round : Nat)) := HHr.fc hx rfl
    have f2 : wr.cell? ⟨b, 4 + n * 9 + 2, none⟩ = some (.int .u8 (x.members : Nat)) := HHr.fc hx rfl
    have q1 : decide ((k : Int) < (N : Int)) = true := decide_eq_true (by omega)
    have hkz : (k : Int) < (N : Int) := by omega
    have hnz : (n : Int) < 7 := by omega
    have e1 : IntKind.i64.wrap ((k : Int) + 1) = (k : Int) + 1 := IntWalk.i64_in _ (by omega)
    have hsx := stOf_at hx
    obtain ⟨fi1, fi2, fi3⟩ := MbrP.first_is (List.mem_map.2 ⟨n, List.mem_of_getElem? hn, rfl⟩ : stOf fs n ∈ (MbrP.lst s).map (stOf fs))
    rw [hsx] at fi1
    have hv1 : (MbrP.votesT s (stOf fs)).take (k + 1) = (MbrP.votesT s (stOf fs)).take k ++ [((MbrP.firstT s (stOf fs) (x.round, x.members) : Nat) : Int)] := by
      rw [List.take_add_one]
      unfold MbrP.votesT
      rw [List.getElem?_map, hn, Option.map_some, hsx]; rfl
    have HB3 := Lib.hid (HBe.out x.round x.members wr HHr)
    have HLx := Lib.hid (fun W => HLb.out (x.round, x.members) W)
    have hle : ((MbrP.lst s).filter (fun n => decide (stOf fs n = (x.round, x.members)))).length ≤ 7 := Nat.le_trans (List.length_filter_le _ _) (MbrP.lst_length s)
    have hl0 : 0 < ((MbrP.lst s).filter (fun n => decide (stOf fs n = (x.round, x.members)))).length := (List.getElem?_eq_some_iff.1 fi1).1
    have hlb := MbrP.lst_bear s (stOf fs) (x.round, x.members)
    unfold ListP at HLx
    rw [hlb] at HLx
    have Hfi := Lib.hid (MbrP.ints_get fi1)
    have Hv1 := Lib.hid hv1
    generalize x.round = xr at *
    generalize x.members = xm at *
    generalize MbrP.bear s (stOf fs) (xr, xm) = be at *
    generalize (MbrP.lst s).filter (fun n => decide (stOf fs n = (xr, xm))) = LB at *
    generalize MbrP.firstT s (stOf fs) (xr, xm) = ft at *
    clear hk hx hsx hn hlb HHr fi1 fi2 fi3 hv1 HI
    go_wp2_with fail
    refine HB3.out.mono ?_
    rintro e w3 ⟨rfl, hb3⟩
    have Hb3 := Lib.hid hb3
    clear hb3 HB3
    go_wp2_with fail
    refine (HLx.out _).mono ?_
    rintro e w4 ⟨v4, rfl, ho4, hb4⟩
    obtain ⟨A4, c4, rfl, hc4, hl4, hi4⟩ := own_ints ho4
    obtain ⟨ba4, oa4, rfl, -, c04⟩ := hi4.at_ Hfi.out
    have hb34 : Below wr.heap.size wr w4 := Hb3.out.trans (hb4.mono Hb3.out.size)
    have Hb34 := Lib.hid hb34
    have HO4 := Lib.hid (ikeep HO.out hb34)
    have hlz : (0 : Int) < (LB.length : Int) := by omega
    have hsz4 : w2.heap.size ≤ w4.heap.size := Nat.le_trans Hb.out.size hb34.size
    clear ho4 hb4 hi4 hl4 hb34 HO HLx Hb3
    rw [Nat.add_zero] at c04
    go_wp2_with (at_builtin
                 refine wpList_int1 rfl (.tmp 16) (.tmp 29) rfl w2.heap.size _ _ _ rfl HO4.out (ft : Int) rfl (by omega) hsz4 ?_
                 intro v5 w5 ho5 hb5
                 have HR : Hid (VotR s fs w2 v5 (.int .i64 ((k : Int) + 1)) w5) := Lib.hid ⟨k + 1, by rw [HLl.out]; exact hkn, by go_num, by rw [Hv1.out]; exact ho5, (Hb.out.trans (Hb34.out.mono Hb.out.size)).trans hb5⟩
                 clear ho5 hb5 HO4)
    go_roundw
    case rel => exact HR.out
    case measure => simp [intOf]; omega

theorem two_set {W : World} {b : Nat} {x y : Value} {t : TypeId} (h : W.heap[b]? = some (.cells #[x, y] t (0, 0))) (u0 u1 : Value) : ((W.setCell ⟨b, 0, none⟩ u0).setCell ⟨b, 1, none⟩ u1).heap[b]? = some (.cells #[u0, u1] t (0, 0)) := by
  rw [heap_set_at (heap_set_at h 0 u0) 1 u1]; rfl
def stamps (s : Nat) (fs : List FrameC) : List (Nat × Nat) := (MbrP.lst s).map (stOf fs)
def rightV : Option (Nat × Nat) → Value
  | some x => .tuple #[stampV x.1 x.2, .bool true]
  | none => .tuple #[stampV 0 0, .bool false]
def RightP (o : Option (Nat × Nat)) (w : World) (e : Ending) (w' : World) : Prop := e = .returned (rightV o) ∧ Below w.heap.size w w'
theorem right_nil (w : World) : Calls Try.prog 23 #[.pointer none] w (RightP none w) := by
  have HB := Lib.hid (fun o => (Below.refl w.heap.size w).alloc (Nat.le_refl _) o)
  go_enter Try.func23, Try.ntmps23
  go_wp2_with fail
  have hn := heap_alloc_new w (.cells #[.int .u32 0, .int .u8 0] 36)
  have r0 := cell_at hn 0 rfl
  have r1 := cell_at hn 1 rfl
  refine bodyPost_ret (v := rightV none) (by simp [results, Try.results23, go_sem, rightV, stampV, r0, r1]) rfl ?_
  exact ⟨rfl, HB.out _⟩
theorem right_known (mr mm s : Nat) (fs : List FrameC) (b : Nat) (w : World) (h : HeardIn w b mr mm true s fs) : Calls Try.prog 23 #[hv b] w (RightP (some (mr, mm)) w) := by
  have HB := Lib.hid (fun o => (Below.refl w.heap.size w).alloc (Nat.le_refl _) o)
  have c0 := h.c0
  have c1 := h.c1
  have c2 := h.c2
  have hsz := h.size
  unfold hv
  clear h
  go_enter Try.func23, Try.ntmps23
  go_wp2_with fail
  have hn := heap_alloc_new w (.cells #[.int .u32 (mr : Nat), .int .u8 (mm : Nat)] 36)
  have r0 := cell_at hn 0 rfl
  have r1 := cell_at hn 1 rfl
  refine bodyPost_ret (v := rightV (some (mr, mm))) (by simp [results, Try.results23, go_sem, rightV, stampV, r0, r1]) rfl ?_
  exact ⟨rfl, HB.out _⟩
theorem right_votes (mr mm s : Nat) (fs : List FrameC) (b : Nat) (w : World) (h : HeardIn w b mr mm false s fs) : Calls Try.prog 23 #[hv b] w (RightP (MbrP.mostT (stamps s fs)) w) := by
  have HB := Lib.hid (fun o => (Below.refl w.heap.size w).alloc (Nat.le_refl _) o)
  have HV := Lib.hid (fun o => votes_any mr mm s false fs b _ (h.below ((Below.refl w.heap.size w).alloc (Nat.le_refl _) o)))
  have HH := Lib.hid (fun o W (hW : Below (w.alloc o).heap.size (w.alloc o) W) => (h.below ((Below.refl w.heap.size w).alloc (Nat.le_refl _) o)).below hW)
  have c2 := h.c2
  have hsz := h.size
  have hlen := h.len
  have hll := MbrP.lst_length s
  have hmv := MbrP.most_votes s (stOf fs)
  have Hvl := Lib.hid (MbrP.votes_length s (stOf fs))
  unfold VoteP at HV
  unfold hv
  clear h
  go_enter Try.func23, Try.ntmps23
  go_wp2_with fail
  refine (HV.out _).mono ?_
  rintro e w2 ⟨v2, rfl, ho2, hb2⟩
  obtain ⟨A2, c2', rfl, hc2, hl2, hi2⟩ := own_ints ho2
  have Hw2 := Lib.hid ((HB.out (.cells #[.int .u32 0, .int .u8 0] 36)).trans (hb2.mono (by simp)))
  have hh2 := HH.out _ w2 hb2
  have hn2 := (hb2.block w.heap.size (by simp)).trans (heap_alloc_new w (.cells #[.int .u32 0, .int .u8 0] 36))
  have k0 : w2.cell? ⟨w.heap.size, 0, none⟩ = some (.int .u32 0) := cell_at hn2 0 rfl
  have k1 : w2.cell? ⟨w.heap.size, 1, none⟩ = some (.int .u8 0) := cell_at hn2 1 rfl
  have fn := fun i => free_at hn2 i
  have Hn2 := Lib.hid (fun (m : Nat) u0 u1 => two_set (W := w2.drewN m) hn2 u0 u1)
  have HM := Lib.hid (fun m => most_any A2 (MbrP.lst s).length c2' (MbrP.votesT s (stOf fs)) Hvl.out (by omega) (w2.drewN m) hi2)
  have HH2 := Lib.hid hh2
  have hs2 : w.heap.size < w2.heap.size := lt_of_block hn2
  unfold MostP at HM
  rw [hmv] at HM
  clear ho2 hb2 hi2 hl2 HV HB HH hmv hn2 hh2
  cases hm : MbrP.mostT (stamps s fs) with
  | none =>
    have Hm := Lib.hid hm
    unfold stamps at hm
    rw [hm] at HM
    clear hm
    simp only at HM
    go_wp2_with fail
    refine (HM.out 0).mono ?_
    rintro e w3 ⟨rfl, m, rfl⟩
    go_wp2_with fail
    have hf := Hn2.out m (.int .u32 0) (.int .u8 0)
    have r0 := cell_at hf 0 rfl
    have r1 := cell_at hf 1 rfl
    refine bodyPost_ret (v := rightV none) (by simp [results, Try.results23, go_sem, rightV, stampV, r0, r1]) rfl ?_
    rw [Hm.out]
    exact ⟨rfl, ((below_drewNc Hw2.out m).setCell (Nat.le_refl _) _).setCell (Nat.le_refl _) _⟩
  | some x =>
    have hx := MbrP.most_mem (MbrP.mostT_some hm)
    have Hm := Lib.hid hm
    unfold stamps at hm hx
    rw [hm] at HM
    obtain ⟨-, f2, f3⟩ := MbrP.first_is hx
    have f7 := MbrP.lst_lt f2
    simp only at HM
    generalize MbrP.firstT s (stOf fs) x = ft at *
    obtain ⟨y, hy⟩ : ∃ y, fs[ft]? = some y := ⟨_, List.getElem?_eq_getElem (by omega)⟩
    rw [stOf_at hy] at f3
    subst f3
    have g1 : w2.cell? ⟨b, 4 + ft * 9 + 1, none⟩ = some (.int .u32 (y.round : Nat)) := HH2.out.fc hy rfl
    have g2 : w2.cell? ⟨b, 4 + ft * 9 + 2, none⟩ = some (.int .u8 (y.members : Nat)) := HH2.out.fc hy rfl
    have hfz : (ft : Int) < 7 := by omega
    have HE : Hid (∀ m u0 u1, Below w.heap.size w (((w2.drewN m).setCell ⟨w.heap.size, 0, none⟩ u0).setCell ⟨w.heap.size, 1, none⟩ u1)) := Lib.hid fun m u0 u1 => ((below_drewNc Hw2.out m).setCell (Nat.le_refl _) u0).setCell (Nat.le_refl _) u1
    clear hm hx hy f2 HH2
    generalize y.round = yr at *
    generalize y.members = ym at *
    go_wp2_with fail
    refine (HM.out 0).mono ?_
    rintro e w3 ⟨rfl, m, rfl⟩
    go_wp2_with fail
    have hf := Hn2.out m (.int .u32 (yr : Nat)) (.int .u8 (ym : Nat))
    have r0 := cell_at hf 0 rfl
    have r1 := cell_at hf 1 rfl
    refine bodyPost_ret (v := rightV (some (yr, ym))) (by simp [results, Try.results23, go_sem, rightV, stampV, r0, r1]) rfl ?_
    rw [Hm.out]
    exact ⟨rfl, HE.out _ _ _⟩
theorem right_any (mr mm s : Nat) (known : Bool) (fs : List FrameC) (b : Nat) (w : World) (h : HeardIn w b mr mm known s fs) : Calls Try.prog 23 #[hv b] w (RightP (MbrP.rightT known (mr, mm) (stamps s fs)) w) := by
  cases known with
  | true => exact right_known mr mm s fs b w h
  | false => exact right_votes mr mm s fs b w h

def memT (s : Nat) (fs : List FrameC) : Option (Nat × Nat) → Nat
  | some x => MbrP.bear s (stOf fs) x
  | none => 0
def MemP (n : Nat) (w : World) (e : Ending) (w' : World) : Prop := e = .returned (setV n) ∧ Below w.heap.size w w'
theorem members_nil (w : World) : Calls Try.prog 27 #[.pointer none] w (MemP 0 w) := by
  have HR := Lib.hid (fun W => right_nil W)
  unfold RightP rightV stampV at HR
  unfold MemP setV
  go_enter Try.func27, Try.ntmps27
  go_wp2_with fail
  refine (HR.out _).mono ?_
  rintro e w1 ⟨rfl, hb1⟩
  have Hb1 := Lib.hid hb1
  have HB := Lib.hid (fun o => hb1.alloc hb1.size o)
  clear hb1
  go_wp2_with fail
  go_ret
  exact ⟨rfl, HB.out _⟩
theorem members_any (mr mm s : Nat) (known : Bool) (fs : List FrameC) (b : Nat) (w : World) (h : HeardIn w b mr mm known s fs) : Calls Try.prog 27 #[hv b] w (MemP (memT s fs (MbrP.rightT known (mr, mm) (stamps s fs))) w) := by
  have HR := Lib.hid (right_any mr mm s known fs b w h)
  have HBe := Lib.hid (fun r m W (hW : Below w.heap.size w W) => bearers_any mr mm s known fs r m b W (h.below hW))
  unfold RightP at HR
  unfold BearP at HBe
  unfold MemP
  unfold hv stampV at *
  clear h
  generalize MbrP.rightT known (mr, mm) (stamps s fs) = o at *
  cases o with
  | none =>
    unfold rightV stampV at HR
    unfold memT setV at *
    go_enter Try.func27, Try.ntmps27
    go_wp2_with fail
    refine HR.out.mono ?_
    rintro e w1 ⟨rfl, hb1⟩
    have HB := Lib.hid (fun o => hb1.alloc hb1.size o)
    clear hb1
    go_wp2_with fail
    go_ret
    exact ⟨rfl, HB.out _⟩
  | some x =>
    obtain ⟨r, m⟩ := x
    have HBr := Lib.hid (HBe.out r m)
    unfold rightV stampV at HR
    simp only [memT]
    unfold setV at *
    simp only at HR
    generalize MbrP.bear s (stOf fs) (r, m) = be at *
    go_enter Try.func27, Try.ntmps27
    go_wp2_with fail
    refine HR.out.mono ?_
    rintro e w1 ⟨rfl, hb1⟩
    have HB := Lib.hid (fun o => hb1.alloc hb1.size o)
    clear hb1
    go_wp2_with fail
    refine (HBr.out _ (HB.out _)).mono ?_
    rintro e w2 ⟨rfl, hb2⟩
    have HE := Lib.hid ((HB.out _).trans (hb2.mono (HB.out _).size))
    clear hb2
    go_wp2_with fail
    go_ret
    exact ⟨rfl, HE.out⟩
end Go.Proofs.Ytkahecdnmeofkaa
