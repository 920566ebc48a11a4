/- MidpointCuts: the walk of the law at ints in memory. Conditions: where they lie, that they are ints. -/
import Derived.Test.YthihdbcclocbkaaMidG
namespace Go.Proofs.Ythihdbcclocbkaa
open Go.RowKit
set_option maxRecDepth 100000

theorem in_seg {W W' : World} {B e n m cap : Nat} {A : Option Addr} {l : List Int} (h : Seg W B e 1 (.slice A n cap) m (intV l)) (hb : Below W.heap.size W W') : IntsIn W' A l := by
  obtain ⟨A9, c9, e9, -, -, h9⟩ := (h.keep hb).ints
  cases e9
  exact h9
theorem in_front {W : World} {A : Option Addr} {l m : List Int} (h : IntsIn W A (l ++ m)) : IntsIn W A l := by
  have h9 := h.take l.length
  rwa [List.take_append_of_le_length (Nat.le_refl _), List.take_length] at h9
theorem drewn_below {a b : World} (h : ∃ m, b = a.drewN m) : Below a.heap.size a b := by
  obtain ⟨m, rfl⟩ := h
  exact below_drewNc (Below.refl _ _) m
theorem b2 {a b c : World} (h : Below a.heap.size a b) (k : Below b.heap.size b c) : Below a.heap.size a c := h.trans (k.mono h.size)

set_option maxHeartbeats 4000000 in
theorem mcuts_law (A : Option Addr) (n cap : Nat) (l : List Int) (hl : l.length = n) (f : Int) (w : World) (h : IntsIn w A l) (hi : Ints l) : Calls Try.prog 3 #[.slice A n cap, .int .i64 f] w (MTrue w) := by
  have HA := Lib.hid (awake10_any w)
  have Hl := Lib.hid hl
  have HI := Lib.hid h
  have Hin := Lib.hid hi
  clear h hl hi
  by_cases hn : n ≤ 300
  case neg =>
    have q1 : decide ((300 : Int) < (n : Int)) = true := decide_eq_true (by omega)
    have q2 : decide (300 < n) = true := decide_eq_true (by omega)
    clear hn
    go_enter Try.func3, Try.ntmps3
    go_wp2_with fail
    refine HA.out.mono ?_
    rintro e w1 ⟨rfl, hb1⟩
    go_wp2_with fail
    go_ret
    exact ⟨rfl, hb1⟩
  have q1 : decide ((300 : Int) < (n : Int)) = false := decide_eq_false (by omega)
  have q2 : decide (300 < n) = false := decide_eq_false (by omega)
  go_enter Try.func3, Try.ntmps3
  go_wp2_with fail
  refine HA.out.mono ?_
  rintro e w1 ⟨rfl, hb1⟩
  have Hb1 := Lib.hid hb1
  have HIn1 := Lib.hid (HI.out.below hb1)
  have HO := Lib.hid (World.ownsRow_lit (base := w1.heap.size) (e := 3) (size := 1) w1 #[] 0 (Nat.le_refl _) (by unfold maxLen; omega) rfl)
  have HB1 := Lib.hid (fun o => (Below.refl w1.heap.size w1).alloc (Nat.le_refl _) o)
  clear hb1 HI HA
  go_wp2_with (first
    | (at_builtin
       refine wpList_append_s rfl (.tmp 23) (.tmp 24) _ rfl w1.heap.size 3 (.int .i64 0) 1 8 Try.underlying22 infoInt rfl (by decide) _ 0 [] rfl HO.out A n cap (intV l) rfl (by rw [intV_length, Hl.out, Nat.mul_one]) (fun h0 => (HIn1.out.below (HB1.out _)).news (by rw [Hl.out]; exact h0)) (intV_one l) (by unfold maxLen; omega) (by omega) (by simp) ?_
       intro v2 w2 h1 h2 h3
       have Hb2 := Lib.hid (copy_below h2 h1)
       have Ho2 : Hid (w2.ownsRow w1.heap.size 3 1 v2 n (intV l)) := Lib.hid (by simpa using h1)
       clear h1 h2 h3)
    | (at_builtin
       refine wpList_append_s rfl (.tmp 25) (.tmp 26) _ rfl w1.heap.size 3 (.int .i64 0) 1 8 Try.underlying22 infoInt rfl (by decide) _ n (intV l) rfl (ikeep Ho2.out ((Below.refl w2.heap.size w2).alloc (Nat.le_refl _) _)) (some ⟨w2.heap.size, 0, none⟩) 1 1 (intV [77]) rfl rfl (fun _ => (lits_in w2 [77]).news (by decide)) (intV_one [77]) (by unfold maxLen; omega) (by omega) (by have := Hb2.out.size; simp; omega) ?_
       intro v3 w3 h1 h2 h3
       have hb3 : Below w1.heap.size w1 w3 := (Hb2.out.alloc Hb2.out.size (.cells #[.int .i64 77] 3)).trans (h2.below (by have := Hb2.out.size; simp; omega) (fun k e => (Ho2.out.lt k e).1))
       have h4 : w3.ownsRow w1.heap.size 3 1 v3 (n + 1) (intV (l ++ [77])) := by rw [intV_append]; exact h1
       obtain ⟨A3, c3, rfl, hc3, -, hi3⟩ := own_ints h4
       obtain ⟨b3, o3, rfl, -, -⟩ := hi3 (by simp)
       have Hi3 := Lib.hid hi3
       have Hb3 := Lib.hid hb3
       clear h1 h2 h3 h4 hi3 hb3 Ho2 Hb2))
  have HArg : Hid (∀ W, Below w3.heap.size w3 W → IntsIn W A l) := Lib.hid fun W hW => HIn1.out.below (b2 Hb3.out hW)
  have HAll : Hid (∀ W, Below w3.heap.size w3 W → IntsIn W (some ⟨b3, o3, none⟩) (l ++ [77])) := Lib.hid fun W hW => Hi3.out.below hW
  have HIn : Hid (∀ W, Below w3.heap.size w3 W → IntsIn W (some ⟨b3, o3, none⟩) l) := Lib.hid fun W hW => in_front (HAll.out W hW)
  have HF3 := Lib.hid (b2 Hb1.out Hb3.out)
  have hrf := fun W => run_slice_front (P := Try.prog) W 22 3 1 Try.underlying22 (fun w => by kernel_rfl) (some ⟨b3, o3, none⟩) (n + 1) c3 (n : Int) n rfl (by omega)
  have HRn := Lib.hid read_nil10
  have HR2 := Lib.hid read_two10
  have HMo := Lib.hid (fun W hW => most_any (some ⟨b3, o3, none⟩) n c3 l Hl.out (by omega) W (HIn.out W hW))
  have HRMo := Lib.hid (fun W hW => refmost_any A n cap l Hl.out (by omega) W (HArg.out W hW))
  unfold MostP at HMo HRMo
  obtain ⟨mv, mb⟩ := MidP.mostT l
  have hnz : (n : Int) < (n : Int) + 1 := by omega
  have hll : (l ++ [77])[n]? = some 77 := by rw [List.getElem?_append_right (by rw [Hl.out]; exact Nat.le_refl _), Hl.out, Nat.sub_self]; rfl
  have HL77 : Hid (∀ W, Below w3.heap.size w3 W → W.cell? ⟨b3, o3 + n, none⟩ = some (.int .i64 77)) := Lib.hid fun W hW => by
    obtain ⟨b', o', e', -, h2⟩ := (HAll.out W hW).at_ hll
    cases e'
    exact h2
  clear HIn1 Hb3 Hi3 HO HB1 Hb1 hll HAll
  by_cases hf : Cuts n f
  case neg =>
    have Hf := Lib.hid hf
    clear hf
    go_wp2_with fail
    refine (cut_bad (some ⟨b3, o3, none⟩) n c3 (by omega) f Hf.out w3).mono ?_
    rintro e w4 ⟨rfl, rfl⟩
    go_wp2_with fail
    refine (refcut_bad A n cap (by omega) f Hf.out w3).mono ?_
    rintro e w5 ⟨rfl, hb5⟩
    have Hs5 := Lib.hid hb5
    clear hb5
    go_wp2_with fail
    refine (mid_bad (some ⟨b3, o3, none⟩) n c3 (by omega) f Hf.out w5).mono ?_
    rintro e w6 ⟨rfl, hb6⟩
    have Hs6 := Lib.hid (b2 Hs5.out hb6)
    clear hb6 Hs5
    go_wp2_with fail
    refine (refmid_bad A n cap (by omega) f Hf.out w6).mono ?_
    rintro e w7 ⟨rfl, hb7⟩
    have Hs7 := Lib.hid (b2 Hs6.out hb7)
    clear hb7 Hs6
    go_wp2_with fail
    refine (HMo.out _ Hs7.out).mono ?_
    rintro e w8 ⟨rfl, hd8⟩
    have Hs8 := Lib.hid (b2 Hs7.out (drewn_below hd8))
    clear hd8
    clear Hs7
    go_wp2_with fail
    refine (HRMo.out _ Hs8.out).mono ?_
    rintro e w9 ⟨rfl, hd9⟩
    have Hs9 := Lib.hid (b2 Hs8.out (drewn_below hd9))
    clear hd9
    clear Hs8
    rw [numN2]
    unfold strV
    go_wp2_with fail
    refine (isame_any none none 0 0 0 [] rfl (by omega) _ (fun h0 => absurd h0 (by decide)) (fun h0 => absurd h0 (by decide))).mono ?_
    rintro e w10 ⟨rfl, hd10⟩
    have Hs10 := Lib.hid (b2 Hs9.out (drewn_below hd10))
    clear hd10
    clear Hs9
    go_wp2_with fail
    refine (HR2.out _).mono ?_
    rintro e w11 ⟨rfl, hb11⟩
    have Hs11 := Lib.hid (b2 Hs10.out hb11)
    clear hb11 Hs10
    go_wp2_with fail
    refine (HR2.out _).mono ?_
    rintro e w12 ⟨rfl, hb12⟩
    have Hs12 := Lib.hid (b2 Hs11.out hb12)
    clear hb12 Hs11
    go_wp2_with fail
    refine (isame_any (some ⟨b3, o3, none⟩) A n c3 cap l Hl.out (by omega) _ (HIn.out _ Hs12.out) (HArg.out _ Hs12.out)).mono ?_
    rintro e w13 ⟨rfl, hd13⟩
    have Hs13 := Lib.hid (b2 Hs12.out (drewn_below hd13))
    clear hd13
    clear Hs12
    have k77 := HL77.out _ Hs13.out
    go_wp2_with fail
    go_ret
    exact ⟨rfl, b2 HF3.out Hs13.out⟩
  obtain ⟨hf0, hf1⟩ := hf
  obtain ⟨fn, rfl⟩ : ∃ fn : Nat, f = fn := ⟨f.toNat, by omega⟩
  have hf2 : 2 * fn + 1 ≤ n := by omega
  clear hf0 hf1
  have hcl : (MidP.cutT l fn).length = n - 2 * fn := by rw [MidP.cutT_length, Hl.out]
  have HCut := Lib.hid (fun W hW => cut_good (some ⟨b3, o3, none⟩) n c3 l Hl.out (by omega) fn hf2 W (HIn.out W hW))
  have HRCut := Lib.hid (fun W hW => refcut_good A n cap l Hl.out (by omega) fn hf2 W (HArg.out W hW))
  have HMid := Lib.hid (fun W hW => mid_good (some ⟨b3, o3, none⟩) n c3 l Hl.out (by omega) fn hf2 W (HIn.out W hW) Hin.out)
  have HRMid := Lib.hid (fun W hW => refmid_good A n cap l Hl.out (by omega) fn hf2 W (HArg.out W hW) Hin.out)
  have Hcl := Lib.hid hcl
  unfold CutGood at HCut
  unfold RefCutGood strV at HRCut
  unfold RefMidGood strV at HRMid
  rw [Hl.out] at HCut HRCut
  generalize MidP.midT l fn = mm at *
  generalize MidP.cutT l fn = cc at *
  generalize hm : n - 2 * fn = m at *
  have hm1 : m ≤ 300 := by omega
  clear hm hcl
  go_wp2_with fail
  refine (HCut.out w3 (Below.refl _ _)).mono ?_
  rintro e w4 ⟨g4, o4, p4, rfl, hg4, hb4⟩
  have Hg4 := Lib.hid hg4
  have Hs4 := Lib.hid hb4
  clear hg4 hb4
  go_wp2_with fail
  refine (HRCut.out w4 Hs4.out).mono ?_
  rintro e w5 ⟨g5, o5, p5, rfl, hg5, hb5⟩
  have Hg5 := Lib.hid hg5
  have Hb45 := Lib.hid hb5
  have Hs5 := Lib.hid (b2 Hs4.out hb5)
  clear hg5 hb5 Hs4
  go_wp2_with fail
  refine (HMid.out w5 Hs5.out).mono ?_
  rintro e w6 ⟨rfl, hb6⟩
  have Hb56 := Lib.hid hb6
  have Hs6 := Lib.hid (b2 Hs5.out hb6)
  clear hb6 Hs5
  go_wp2_with fail
  refine (HRMid.out w6 Hs6.out).mono ?_
  rintro e w7 ⟨rfl, hb7⟩
  have Hs7 := Lib.hid (b2 Hs6.out hb7)
  have Ha : Hid (∀ W, Below w7.heap.size w7 W → IntsIn W (some ⟨g4, o4, none⟩) cc) := Lib.hid fun W hW => in_seg Hg4.out (b2 Hb45.out (b2 Hb56.out (b2 hb7 hW)))
  have Hb : Hid (∀ W, Below w7.heap.size w7 W → IntsIn W (some ⟨g5, o5, none⟩) cc) := Lib.hid fun W hW => in_seg Hg5.out (b2 Hb56.out (b2 hb7 hW))
  clear hb7 Hs6 Hg4 Hg5 Hb45 Hb56
  go_wp2_with fail
  refine (HMo.out _ Hs7.out).mono ?_
  rintro e w8 ⟨rfl, hd8⟩
  have Hs8 := Lib.hid (b2 Hs7.out (drewn_below hd8))
  have H78 := Lib.hid (drewn_below hd8)
  clear hd8
  go_wp2_with fail
  refine (HRMo.out _ Hs8.out).mono ?_
  rintro e w9 ⟨rfl, hd9⟩
  have Hs9 := Lib.hid (b2 Hs8.out (drewn_below hd9))
  have H79 := Lib.hid (b2 H78.out (drewn_below hd9))
  clear hd9 H78
  clear Hs7 Hs8
  go_wp2_with fail
  refine (isame_any (some ⟨g4, o4, none⟩) (some ⟨g5, o5, none⟩) m p4 p5 cc Hcl.out (by omega) _ (Ha.out _ H79.out) (Hb.out _ H79.out)).mono ?_
  rintro e w10 ⟨rfl, hd10⟩
  have Hs10 := Lib.hid (b2 Hs9.out (drewn_below hd10))
  clear hd10
  clear Hs9 Ha Hb
  go_wp2_with fail
  refine (HRn.out _).mono ?_
  rintro e w11 ⟨rfl, hb11⟩
  have Hs11 := Lib.hid (b2 Hs10.out hb11)
  clear hb11 Hs10
  go_wp2_with fail
  refine (HRn.out _).mono ?_
  rintro e w12 ⟨rfl, hb12⟩
  have Hs12 := Lib.hid (b2 Hs11.out hb12)
  clear hb12 Hs11
  go_wp2_with fail
  refine (isame_any (some ⟨b3, o3, none⟩) A n c3 cap l Hl.out (by omega) _ (HIn.out _ Hs12.out) (HArg.out _ Hs12.out)).mono ?_
  rintro e w13 ⟨rfl, hd13⟩
  have Hs13 := Lib.hid (b2 Hs12.out (drewn_below hd13))
  clear hd13
  clear Hs12
  have k77 := HL77.out _ Hs13.out
  go_wp2_with fail
  go_ret
  exact ⟨rfl, b2 HF3.out Hs13.out⟩
end Go.Proofs.Ythihdbcclocbkaa
