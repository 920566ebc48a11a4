/- Contract of the document's Frames. Conditions: where what it gathered lies. -/
import Derived.Test.YtkahecdnmeofkaaMbrT
import Derived.Test.YtkahecdnmeofkaaMbrJ
namespace Go.Proofs.Ytkahecdnmeofkaa
open Go.RowKit
set_option maxRecDepth 100000

def selP (r : Nat × Nat) (n : Nat) (x : FrameC) : Bool := decide (x.sender = n) && decide (gst x = r)
def selI (got : List FrameC) (r : Nat × Nat) (n i : Nat) : List FrameC := (got.take i).filter (selP r n)
def sel (got : List FrameC) (r : Nat × Nat) (n : Nat) : List FrameC := selI got r n got.length
def allY (got : List FrameC) (r : Nat × Nat) (k : Nat) : List FrameC := (List.range k).flatMap (sel got r)
def allN (got : List FrameC) (r : Nat × Nat) (k : Nat) : List Nat := (List.range k).flatMap (fun n => (sel got r n).map (fun _ => n))
theorem allY_step (got : List FrameC) (r : Nat × Nat) (k : Nat) : allY got r (k + 1) = allY got r k ++ sel got r k := by unfold allY; rw [List.range_succ, List.flatMap_append]; simp
theorem allN_step (got : List FrameC) (r : Nat × Nat) (k : Nat) : allN got r (k + 1) = allN got r k ++ (sel got r k).map (fun _ => k) := by unfold allN; rw [List.range_succ, List.flatMap_append]; simp
theorem selI_len (got : List FrameC) (r : Nat × Nat) (n i : Nat) : (selI got r n i).length ≤ got.length := by
  unfold selI
  exact Nat.le_trans (List.length_filter_le _ _) (by rw [List.length_take]; omega)
theorem allY_len (got : List FrameC) (r : Nat × Nat) : ∀ k, (allY got r k).length ≤ k * got.length
  | 0 => by simp [allY]
  | k + 1 => by
    rw [allY_step, List.length_append, Nat.succ_mul]
    have := allY_len got r k
    have := selI_len got r k got.length
    unfold sel
    omega
theorem selI_step {got : List FrameC} {r : Nat × Nat} {n i : Nat} {x : FrameC} (h : got[i]? = some x) : selI got r n (i + 1) = if selP r n x = true then selI got r n i ++ [x] else selI got r n i := by
  unfold selI
  rw [List.take_add_one, h, List.filter_append]
  simp only [Option.toList, List.filter_cons, List.filter_nil]
  split <;> simp
theorem ofT_more (l : List Nat) (n : Nat) : MbrP.ofT (MbrP.ints (l ++ [n])) = MbrP.withT (MbrP.ofT (MbrP.ints l)) (n : Int) := by
  unfold MbrP.ints; rw [List.map_append]; exact MbrP.ofT_snoc _ _
def RFramesP (o : Option (Nat × Nat)) (got : List FrameC) (w : World) (e : Ending) (w' : World) : Prop :=
  ∃ v ys m, e = .returned (.tuple #[v, setV m]) ∧ FrRow w' w.heap.size v ys.length ys ∧ (ys, m) = (match o with | some r => (allY got r 7, MbrP.ofT (MbrP.ints (allN got r 7))) | none => ([], 0)) ∧ Below w.heap.size w w'
def RFrO (got : List FrameC) (r : Nat × Nat) (w3 : World) (v s n : Value) (W : World) : Prop :=
  ∃ k, k ≤ 7 ∧ n = .int .i64 (k : Nat) ∧ s = setV (MbrP.ofT (MbrP.ints (allN got r k))) ∧ FrRow W w3.heap.size v (allY got r k).length (allY got r k) ∧ Below w3.heap.size w3 W
def RFrI (got : List FrameC) (r : Nat × Nat) (k : Nat) (w3 : World) (v s i : Value) (W : World) : Prop :=
  ∃ q, q ≤ got.length ∧ i = .int .i64 (q : Nat) ∧ s = setV (MbrP.ofT (MbrP.ints (allN got r k ++ (selI got r k q).map (fun _ => k)))) ∧ FrRow W w3.heap.size v (allY got r k ++ selI got r k q).length (allY got r k ++ selI got r k q) ∧ Below w3.heap.size w3 W
set_option maxHeartbeats 4000000 in
theorem refframes_any (B rb mr mm : Nat) (known : Bool) (v : Value) (got : List FrameC) (hg : got.length ≤ 7) (w : World) (h : RefH w B rb mr mm known v got) (hf : ∀ x ∈ got, FrameIn w x) (h8 : ∀ x ∈ got, x.sender < 7) :
    Calls Try.prog 25 #[hv rb] w (RFramesP (MbrP.rightT known (mr, mm) (gstamps got)) got w) := by
  obtain ⟨Av, cv, rfl, -⟩ := own_slice h.own
  have HRi := Lib.hid (refright_any B rb mr mm known _ got hg w h)
  have HH := Lib.hid (fun W (hW : Below w.heap.size w W) => h.below hW)
  have HFi := Lib.hid (fun W (hW : Below w.heap.size w W) x hx => (hf x hx).below hW)
  have HOf := Lib.hid (fun x hx (F : Nat → Prop) hF => (hf x hx).off_new (F := F) hF)
  have hsz := h.size
  unfold RightP at HRi
  generalize MbrP.rightT known (mr, mm) (gstamps got) = o at *
  have HSnd := Lib.hid h8
  clear h hf h8
  cases o with
  | none =>
    have HF : Hid (∀ W, Below w.heap.size w W → RFramesP none got w (.returned (.tuple #[.slice none 0 0, .int .u8 0])) W) := Lib.hid fun W hW => ⟨_, [], 0, rfl, ⟨⟨rfl, .inl ⟨rfl, rfl⟩⟩, fun y hy => by cases hy⟩, rfl, hW⟩
    unfold rightV stampV at HRi
    unfold hv at *
    clear HH HFi HOf
    go_enter Try.func25, Try.ntmps25
    go_wp2_with fail
    refine HRi.out.mono ?_
    rintro e w2 ⟨rfl, hb2⟩
    have HB2 := Lib.hid (fun o => hb2.alloc hb2.size o)
    clear hb2
    go_wp2_with fail
    go_loopw [4, 5, 8] (fun vv ss nn W => vv = .slice none 0 0 ∧ ss = .int .u8 0 ∧ nn = .int .i64 0 ∧ W = w2.alloc (.cells #[.int .u32 0, .int .u8 0] 36)) (fun _ _ _ _ => 0)
    case atStart => exact ⟨rfl, rfl, rfl, rfl⟩
    case round =>
      obtain ⟨rfl, rfl, rfl, rfl⟩ := hrel
      go_wp2_with fail
      refine bodyPost_ret (v := .tuple #[.slice none 0 0, .int .u8 0]) (by simp [results, Try.results25, go_sem]) rfl ?_
      exact HF.out _ (HB2.out _)
  | some r =>
    obtain ⟨xr, xm⟩ := r
    have HF : Hid (∀ (w3 : World) vv W, Below w.heap.size w w3 → Below w3.heap.size w3 W → FrRow W w3.heap.size vv (allY got (xr, xm) 7).length (allY got (xr, xm) 7) → RFramesP (some (xr, xm)) got w (.returned (.tuple #[vv, setV (MbrP.ofT (MbrP.ints (allN got (xr, xm) 7)))])) W) := Lib.hid fun w3 vv W h3 hW hr => ⟨vv, _, _, rfl, ⟨ilow hr.own h3.size, hr.ok⟩, rfl, h3.trans (hW.mono h3.size)⟩
    unfold rightV stampV at HRi
    simp only at HRi
    unfold hv at *
    go_enter Try.func25, Try.ntmps25
    go_wp2_with fail
    refine HRi.out.mono ?_
    rintro e w2 ⟨rfl, hb2⟩
    have HB3 := Lib.hid (hb2.alloc hb2.size (.cells #[.int .u32 (xr : Nat), .int .u8 (xm : Nat)] 36))
    have hn := heap_alloc_new w2 (.cells #[.int .u32 (xr : Nat), .int .u8 (xm : Nat)] 36)
    clear hb2 HRi
    go_wp2_with fail
    generalize w2.alloc (.cells #[.int .u32 (xr : Nat), .int .u8 (xm : Nat)] 36) = w3 at *
    generalize w2.heap.size = qb at *
    have HN := Lib.hid hn
    have hs3 : qb < w3.heap.size := lt_of_block hn
    clear hn
    go_loopw [4, 5, 8] (RFrO got (xr, xm) w3) (fun _ _ n _ => (8 - intOf n).toNat)
    case atStart => exact ⟨0, Nat.zero_le _, rfl, rfl, ⟨⟨rfl, .inl ⟨rfl, rfl⟩⟩, fun y hy => by cases hy⟩, Below.refl _ _⟩
    case round =>
      obtain ⟨k, hk, rfl, rfl, hr, hb⟩ := hrel
      obtain ⟨Ay, cy, rfl, -⟩ := own_slice hr.own
      by_cases hk7 : k < 7
      case neg =>
        obtain rfl : k = 7 := by omega
        have HE := Lib.hid (HF.out w3 _ wr HB3.out hb hr)
        have q7 : decide (((7 : Nat) : Int) < 7) = false := by decide
        unfold setV at *
        generalize (allY got (xr, xm) 7).length = Ly at *
        generalize MbrP.ofT (MbrP.ints (allN got (xr, xm) 7)) = mz at *
        clear hr hb HF HH HFi HOf HN hk hk7
        go_wp2_with fail
        refine bodyPost_ret (v := .tuple #[.slice Ay Ly cy, .int .u8 (mz : Nat)]) (by simp [results, Try.results25, go_sem]) rfl ?_
        exact HE.out
      have q7 : decide ((k : Int) < 7) = true := decide_eq_true (by omega)
      have hI0 : Hid (RFrI got (xr, xm) k w3 (.slice Ay (allY got (xr, xm) k).length cy) (setV (MbrP.ofT (MbrP.ints (allN got (xr, xm) k)))) (.int .i64 0) wr) := Lib.hid ⟨0, Nat.zero_le _, rfl, by simp [selI], by simp only [selI, List.take_zero, List.filter_nil, List.append_nil]; exact hr, hb⟩
      have e1 : IntKind.i64.wrap ((k : Int) + 1) = (k : Int) + 1 := IntWalk.i64_in _ (by omega)
      have hpk := pow_just hk7
      have hyl := allY_len got (xr, xm) k
      have hyl2 : k * got.length ≤ 49 := Nat.mul_le_mul (Nat.le_of_lt hk7) hg
      clear hr hb HF
      unfold setV at *
      go_wp2_with fail
      go_loopw [4, 5, 9] (RFrI got (xr, xm) k w3) (fun _ _ i _ => (8 - intOf i).toNat)
      case atStart => exact hI0.out
      case round =>
        clear hI0
        obtain ⟨q, hq, rfl, rfl, hr, hb⟩ := hrel
        obtain ⟨Ay, cy, rfl, -⟩ := own_slice hr.own
        have hbw := HB3.out.trans (hb.mono HB3.out.size)
        have HHr := HH.out wr hbw
        have c3 := HHr.c3
        have hsl := selI_len got (xr, xm) k q
        have hsr := HHr.size
        have hwr := hb.size
        by_cases hqN : q < got.length
        case neg =>
          obtain rfl : q = got.length := by omega
          have HR : Hid (RFrO got (xr, xm) w3 (.slice Ay (allY got (xr, xm) k ++ selI got (xr, xm) k got.length).length cy) (setV (MbrP.ofT (MbrP.ints (allN got (xr, xm) k ++ (selI got (xr, xm) k got.length).map (fun _ => k))))) (.int .i64 ((k : Int) + 1)) wr) := Lib.hid ⟨k + 1, hk7, by go_num, by rw [allN_step]; rfl, by rw [allY_step]; exact hr, hb⟩
          have q8 : decide ((got.length : Int) < (got.length : Int)) = false := decide_eq_false (by omega)
          unfold setV at *
          generalize (allY got (xr, xm) k ++ selI got (xr, xm) k got.length).length = Ly at *
          generalize MbrP.ofT (MbrP.ints (allN got (xr, xm) k ++ (selI got (xr, xm) k got.length).map (fun _ => k))) = mz at *
          clear HHr hr hb HH HFi HOf hq hqN hbw
          go_wp2_with fail
          go_roundw
          case rel => exact HR.out
          case measure => simp [intOf]; omega
        obtain ⟨x, hx⟩ : ∃ x, got[q]? = some x := ⟨_, List.getElem?_eq_getElem hqN⟩
        obtain ⟨g, rfl, -, hfc⟩ := HHr.fr hx
        have hxm := List.mem_of_getElem? hx
        have hxs := HSnd.out x hxm
        have hst := selI_step (r := (xr, xm)) (n := k) hx
        have n0 : wr.cell? ⟨qb, 0, none⟩ = some (.int .u32 (xr : Nat)) := cell_at ((hb.block qb hs3).trans HN.out) 0 rfl
        have n1 : wr.cell? ⟨qb, 1, none⟩ = some (.int .u8 (xm : Nat)) := cell_at ((hb.block qb hs3).trans HN.out) 1 rfl
        have o0 : wr.cell? ⟨g, q * 9, none⟩ = some (.int .u8 (x.sender : Nat)) := hfc 0 _ rfl
        have o1 : wr.cell? ⟨g, q * 9 + 1, none⟩ = some (.int .u32 (x.round : Nat)) := hfc 1 _ rfl
        have o2 : wr.cell? ⟨g, q * 9 + 2, none⟩ = some (.int .u8 (x.members : Nat)) := hfc 2 _ rfl
        have q8 : decide ((q : Int) < (got.length : Int)) = true := decide_eq_true (by omega)
        have hqz : (q : Int) < (got.length : Int) := by omega
        have e2 : IntKind.i64.wrap ((q : Int) + 1) = (q : Int) + 1 := IntWalk.i64_in _ (by omega)
        have e3 : IntKind.i64.wrap (x.sender : Int) = (x.sender : Int) := IntWalk.i64_in _ (by omega)
        have HMiss : Hid (selP (xr, xm) k x = false → ∀ m', RFrI got (xr, xm) k w3 (.slice Ay (allY got (xr, xm) k ++ selI got (xr, xm) k q).length cy) (setV (MbrP.ofT (MbrP.ints (allN got (xr, xm) k ++ (selI got (xr, xm) k q).map (fun _ => k))))) (.int .i64 ((q : Int) + 1)) (wr.drewN m')) := Lib.hid fun hm m' =>
          ⟨q + 1, hqN, by go_num, by rw [hst, if_neg (by rw [hm]; decide)], by rw [hst, if_neg (by rw [hm]; decide)]; exact hr.below (below_drewNc (Below.refl _ _) m'), below_drewNc hb m'⟩
        by_cases hs : x.sender = k
        case neg =>
          have HM := Lib.hid (HMiss.out (by unfold selP; simp [hs]))
          have q9 : ((x.sender : Int) == (k : Int)) = false := by rw [beq_eq_false_iff_ne]; omega
          unfold setV at *
          generalize (allY got (xr, xm) k ++ selI got (xr, xm) k q).length = Ly at *
          generalize MbrP.ofT (MbrP.ints (allN got (xr, xm) k ++ (selI got (xr, xm) k q).map (fun _ => k))) = mz at *
          generalize x.sender = xs at *
          clear HMiss HHr hr hb HH HFi HOf hfc hst hx hxm hbw HSnd
          go_wp2_with fail
          go_quiet (fail)
          go_wp2_with fail
          go_roundw
          case rel => exact HM.out _
          case measure => simp [intOf]; omega
        by_cases hgx : gst x = (xr, xm)
        case neg =>
          have HM := Lib.hid (HMiss.out (by unfold selP; simp [hgx]))
          rw [show gst x = (x.round, x.members) from rfl] at hgx
          unfold setV at *
          generalize (allY got (xr, xm) k ++ selI got (xr, xm) k q).length = Ly at *
          generalize MbrP.ofT (MbrP.ints (allN got (xr, xm) k ++ (selI got (xr, xm) k q).map (fun _ => k))) = mz at *
          subst hs
          clear HMiss HHr hr hb HH HFi HOf hfc hst hx hxm hbw HSnd
          generalize x.sender = xs at *
          generalize x.round = yr at *
          generalize x.members = ym at *
          by_cases hyr : yr = xr
          · subst hyr
            have hm : ¬ ym = xm := fun e => hgx (by rw [e])
            have q5 : ((ym : Int) == (xm : Int)) = false := by rw [beq_eq_false_iff_ne]; omega
            clear hgx
            go_wp2_with fail
            go_quiet (fail)
            go_wp2_with fail
            go_roundw
            case rel => exact HM.out _
            case measure => simp [intOf]; omega
          · have q5 : ((yr : Int) == (xr : Int)) = false := by rw [beq_eq_false_iff_ne]; omega
            clear hgx
            go_wp2_with fail
            go_quiet (fail)
            go_wp2_with fail
            go_roundw
            case rel => exact HM.out _
            case measure => simp [intOf]; omega
        rw [if_pos (by unfold selP; simp [hs, hgx])] at hst
        have o3 : wr.cell? ⟨g, q * 9 + 3, none⟩ = some (.slice x.MA x.mn x.mcap) := hfc 3 _ rfl
        have o4 : wr.cell? ⟨g, q * 9 + 4, none⟩ = some (.int .u8 (x.kind : Nat)) := hfc 4 _ rfl
        have o5 : wr.cell? ⟨g, q * 9 + 5, none⟩ = some (.int .u8 (x.key : Nat)) := hfc 5 _ rfl
        have o6 : wr.cell? ⟨g, q * 9 + 6, none⟩ = some (.int .u16 (x.val : Nat)) := hfc 6 _ rfl
        have o7 : wr.cell? ⟨g, q * 9 + 7, none⟩ = some (.int .u16 (x.old : Nat)) := hfc 7 _ rfl
        have o8 : wr.cell? ⟨g, q * 9 + 8, none⟩ = some (.slice x.RA x.rn x.rcap) := hfc 8 _ rfl
        have HFx := Lib.hid (HFi.out wr hbw x hxm)
        have HOx : Hid (FrameOff (fun p => (Value.slice Ay (allY got (xr, xm) k ++ selI got (xr, xm) k q).length cy).ownBlock = some p) x) := Lib.hid (HOf.out x hxm _ (fun p e => Nat.le_trans HB3.out.size (hr.own.lt p e).1))
        have HNx : Hid (∀ v' W, FrRow W w3.heap.size v' ((allY got (xr, xm) k ++ selI got (xr, xm) k q).length + 1) ((allY got (xr, xm) k ++ selI got (xr, xm) k q) ++ [x]) → Below w3.heap.size w3 W → RFrI got (xr, xm) k w3 v' (setV (MbrP.withT (MbrP.ofT (MbrP.ints (allN got (xr, xm) k ++ (selI got (xr, xm) k q).map (fun _ => k)))) (k : Int))) (.int .i64 ((q : Int) + 1)) W) := Lib.hid fun v' W hr' hb' =>
          ⟨q + 1, hqN, by go_num, by rw [hst, List.map_append, ← List.append_assoc, List.map_cons, List.map_nil, ofT_more], by rw [hst, ← List.append_assoc, List.length_append]; exact hr', hb'⟩
        have hwk := MbrP.bits_or (a := MbrP.ofT (MbrP.ints (allN got (xr, xm) k ++ (selI got (xr, xm) k q).map (fun _ => k)))) (Nat.lt_trans (MbrP.ofT_in _) (by decide)) (just8 (k : Int))
        replace hwk : bits BinOp.or IntKind.u8 ((MbrP.ofT (MbrP.ints (allN got (xr, xm) k ++ (selI got (xr, xm) k q).map (fun _ => k))) : Nat) : Int) ((MbrP.just (k : Int) : Nat) : Int) = ((MbrP.withT (MbrP.ofT (MbrP.ints (allN got (xr, xm) k ++ (selI got (xr, xm) k q).map (fun _ => k)))) (k : Int) : Nat) : Int) := hwk
        have hLy : (allY got (xr, xm) k ++ selI got (xr, xm) k q).length ≤ 100 := by rw [List.length_append]; omega
        have HRw := Lib.hid hr
        have Hb := Lib.hid hb
        unfold setV at *
        generalize allY got (xr, xm) k ++ selI got (xr, xm) k q = YL at *
        generalize MbrP.withT (MbrP.ofT (MbrP.ints (allN got (xr, xm) k ++ (selI got (xr, xm) k q).map (fun _ => k)))) (k : Int) = mz2 at *
        generalize MbrP.ofT (MbrP.ints (allN got (xr, xm) k ++ (selI got (xr, xm) k q).map (fun _ => k))) = mz at *
        generalize MbrP.just (k : Int) = jk at *
        obtain ⟨hr1, hr2⟩ := Prod.mk.inj (show (x.round, x.members) = (xr, xm) from hgx)
        clear HMiss HHr hr hb HH HFi HOf hfc hst hx hxm hbw HSnd hgx HN
        obtain ⟨s0, s1, s2, s3, s4, s5, s6, s7, s8, s9, s10, s11, s12, s13, s14⟩ := x
        simp only at o0 o1 o2 o3 o4 o5 o6 o7 o8 hs hr1 hr2 hxs e3
        subst hs hr1 hr2
        go_wp2_with fail
        go_quiet (fail)
        go_wp2_with (at_builtin
                     refine wpList_append_s rfl (.tmp 54) (.tmp 62) _ rfl w3.heap.size 51 _ 9 72 Try.underlying41 infoF12 rfl (by omega) _ YL.length (itemsV FrameC.cells YL) rfl (ikeep HRw.out.own ((below_drewNc (Below.refl wr.heap.size wr) _).alloc (Nat.le_refl _) _)) (some ⟨wr.heap.size, 0, none⟩) 1 1 (FrameC.cells ⟨s0, s1, s2, s3, s4, s5, s6, s7, s8, s9, s10, s11, s12, s13, s14⟩) rfl rfl (fun _ => ⟨_, rfl, laid_at _ 51 _ _ rfl⟩) (frame_one _) (by unfold maxLen; omega) (by omega) (by simp; omega) ?_
                     intro v5 w5 ho5 ha5 hb5
                     have ha50 : Apart (fun p => (Value.slice Ay YL.length cy).ownBlock = some p) wr w5 := (((Apart.refl _ wr).drewN _).alloc _).trans ha5 (fun _ e => .inl e)
                     have HR := Lib.hid (HNx.out v5 w5 (HRw.out.more HFx.out HOx.out (by rw [itemsV_append, itemsV_one']; exact ho5) ha50 (hb5.imp id (fun e => ⟨_, e, by simp⟩))) (Hb.out.trans (ha50.below Hb.out.size (fun p e => (HRw.out.own.lt p e).1))))
                     clear ho5 ha5 hb5 ha50 HRw HFx HOx HNx Hb)
        go_roundw
        case rel => exact HR.out
        case measure => simp [intOf]; omega
end Go.Proofs.Ytkahecdnmeofkaa
