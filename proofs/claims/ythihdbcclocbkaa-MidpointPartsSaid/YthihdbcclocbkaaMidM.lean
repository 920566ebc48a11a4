/- MidpointParts: the walk of the law at ints in memory. Conditions: where they lie, that they are ints. -/
import Derived.Test.YthihdbcclocbkaaMidI
namespace Go.Proofs.Ythihdbcclocbkaa
open Go.RowKit
set_option maxRecDepth 100000

theorem count_take {l : List Int} {k : Nat} {x : Int} (p : Int → Bool) (h : l[k]? = some x) : (l.take (k + 1)).countP p = (l.take k).countP p + if p x = true then 1 else 0 := by
  rw [List.take_add_one, h, List.countP_append]
  simp [List.countP_cons]
theorem count_take_le (l : List Int) (k : Nat) (p : Int → Bool) : (l.take k).countP p ≤ k := by
  have := List.countP_le_length (p := p) (l := l.take k)
  rw [List.length_take] at this
  omega
theorem cell_lt {W : World} {p : Addr} {u : Value} (h : W.cell? p = some u) : p.block < W.heap.size := by
  apply Classical.byContradiction
  intro hn
  have : W.heap[p.block]? = none := Array.getElem?_eq_none (by omega)
  simp [World.cell?, this] at h
def PartR1 (m : Nat) (wa : World) (i : Value) (W : World) : Prop := ∃ k : Nat, k + 1 ≤ m ∧ i = .int .i64 ((k : Int) + 1) ∧ Below wa.heap.size wa W
def PartR2 (l : List Int) (a b : Int) (wa : World) (less more i : Value) (W : World) : Prop :=
  ∃ (k x y : Nat), k ≤ l.length ∧ i = .int .i64 (k : Nat) ∧ x = (l.take k).countP (fun x => decide (x < a)) ∧ y = (l.take k).countP (fun x => decide (b < x)) ∧ less = .int .i64 (x : Nat) ∧ more = .int .i64 (y : Nat) ∧ W = wa

set_option maxHeartbeats 4000000 in
theorem mparts_law (A : Option Addr) (n cap : Nat) (l : List Int) (hl : l.length = n) (f0 : Int) (w : World) (h : IntsIn w A l) (hi : Ints l) :
    Calls Try.prog 8 #[.slice A n cap, .int .i64 f0] w (MTrue w) := by
  have HA := Lib.hid (awake10_any w)
  have Hl := Lib.hid hl
  have HI := Lib.hid h
  have Hin := Lib.hid hi
  clear h hl hi
  by_cases hn1 : n < 1
  · obtain rfl : n = 0 := by omega
    clear hn1
    go_enter Try.func8, Try.ntmps8
    go_wp2_with fail
    refine HA.out.mono ?_
    rintro e w1 ⟨rfl, hb1⟩
    go_wp2_with fail
    go_ret
    exact ⟨rfl, hb1⟩
  have p1 : decide ((n : Int) < 1) = false := decide_eq_false (by omega)
  have p2 : decide (n < 1) = false := decide_eq_false hn1
  by_cases hn : n ≤ 100
  case neg =>
    have q1 : decide ((100 : Int) < (n : Int)) = true := decide_eq_true (by omega)
    have q2 : decide (100 < n) = true := decide_eq_true (by omega)
    clear hn
    go_enter Try.func8, Try.ntmps8
    go_wp2_with fail
    refine HA.out.mono ?_
    rintro e w1 ⟨rfl, hb1⟩
    go_wp2_with fail
    go_ret
    exact ⟨rfl, hb1⟩
  obtain ⟨p, rfl⟩ : ∃ p, n = p + 1 := ⟨n - 1, by omega⟩
  clear p1 p2
  have p1 : decide ((p : Int) + 1 < 1) = false := decide_eq_false (by omega)
  have q1 : decide ((100 : Int) < (p : Int) + 1) = false := decide_eq_false (by omega)
  obtain ⟨f, hf, ef⟩ := mod_of f0 ((p : Int) / 2 + 1) (by omega) (by omega)
  have eu : IntKind.u64.wrap ((p : Int) / 2 + 1) = (p : Int) / 2 + 1 := u64_in _ (by omega) (by omega)
  have zu : ¬ (p : Int) / 2 + 1 = 0 := by omega
  have e0 : IntKind.i64.wrap (p : Int) = (p : Int) := IntWalk.i64_in _ (by omega)
  have e1 : IntKind.i64.wrap ((p : Int) / 2) = (p : Int) / 2 := IntWalk.i64_in _ (by omega)
  have e2 : IntKind.i64.wrap ((p : Int) / 2 + 1) = (p : Int) / 2 + 1 := IntWalk.i64_in _ (by omega)
  have hf2 : 2 * f + 1 ≤ p + 1 := by omega
  obtain ⟨v, hv⟩ : ∃ v, l[0]? = some v := ⟨_, List.getElem?_eq_getElem (by rw [Hl.out]; omega)⟩
  obtain ⟨ba, oa, rfl, -, -⟩ := HI.out.at_ hv
  obtain ⟨mm, hm⟩ : ∃ mm, p = mm + 2 * f := ⟨p - 2 * f, by omega⟩
  have e3 : IntKind.i64.wrap (2 * (f : Int)) = 2 * (f : Int) := IntWalk.i64_in _ (by omega)
  have e4 : IntKind.i64.wrap ((p : Int) + 1 - 2 * (f : Int)) = (mm : Int) + 1 := by rw [show (p : Int) + 1 - 2 * (f : Int) = (mm : Int) + 1 by omega]; exact IntWalk.i64_in _ (by omega)
  have HLess : Hid (l.countP (fun x => decide (x < MidP.firstT l f)) ≤ f) := Lib.hid (MidP.less_few (by rw [Hl.out]; omega))
  have HMore : Hid (l.countP (fun x => decide (MidP.lastT l f < x)) ≤ f) := Lib.hid (MidP.more_few (by rw [Hl.out]; omega))
  have hfl := MidP.first_le_last (l := l) (f := f) (by rw [Hl.out]; omega)
  have hmid : MidP.firstT l f ≤ MidP.midT l f ∧ MidP.midT l f ≤ MidP.lastT l f := by unfold MidP.midT; omega
  have H1 := Lib.hid (MidP.first_at (l := l) (f := f) (by rw [Hl.out]; omega))
  have H2 : Hid ((MidP.cutT l f)[mm]? = some (MidP.lastT l f)) := Lib.hid (by
    have := MidP.last_at (l := l) (f := f) (by rw [Hl.out]; omega)
    rwa [Hl.out, show p + 1 - 2 * f - 1 = mm by omega] at this)
  have HRise : Hid (∀ (k : Nat) x y, (MidP.cutT l f)[k]? = some x → (MidP.cutT l f)[k + 1]? = some y → x ≤ y) := Lib.hid (fun k x y h1 h2 => MidP.cut_rises h1 h2)
  have HLen : Hid ((MidP.cutT l f).length = mm + 1) := Lib.hid (by rw [MidP.cutT_length, Hl.out]; omega)
  have HCut := Lib.hid (fun W A' n' cap' (e : n' = p + 1) hW => cut_good A' n' cap' l (Hl.out.trans e.symm) (by omega) f (by omega) W hW)
  have HMid := Lib.hid (fun W A' n' cap' (e : n' = p + 1) hW => mid_good A' n' cap' l (Hl.out.trans e.symm) (by omega) f (by omega) W hW Hin.out)
  unfold CutGood at HCut
  rw [Hl.out, show p + 1 - 2 * f = mm + 1 by omega] at HCut
  generalize MidP.midT l f = mv at *
  generalize MidP.firstT l f = a at *
  generalize MidP.lastT l f = b at *
  generalize MidP.cutT l f = cc at *
  have r1 : decide (a ≤ mv) = true := decide_eq_true hmid.1
  have r2 : decide (mv ≤ b) = true := decide_eq_true hmid.2
  have HArg : Hid (∀ W, Below w.heap.size w W → IntsIn W (some ⟨ba, oa, none⟩) l) := Lib.hid fun W hW => HI.out.below hW
  have Hm := Lib.hid hm
  have hmp : mm ≤ p := by omega
  clear hn1 hfl hmid hv HI hm
  go_enter Try.func8, Try.ntmps8
  go_wp2_with fail
  refine HA.out.mono ?_
  rintro e w1 ⟨rfl, hb1⟩
  have Hb1 := Lib.hid hb1
  have HO := Lib.hid (World.ownsRow_lit (base := w1.heap.size) (e := 3) (size := 1) w1 #[] 0 (Nat.le_refl _) (by unfold maxLen; omega) rfl)
  have HB1 := Lib.hid (fun o => (Below.refl w1.heap.size w1).alloc (Nat.le_refl _) o)
  clear hb1 HA
  go_wp2_with (at_builtin
               refine wpList_append_s rfl (.tmp 35) (.tmp 36) _ rfl w1.heap.size 3 (.int .i64 0) 1 8 Try.underlying22 infoInt rfl (by decide) _ 0 [] rfl HO.out (some ⟨ba, oa, none⟩) (p + 1) cap (intV l) rfl (by rw [intV_length, Hl.out, Nat.mul_one]) (fun h0 => (HArg.out _ (b2 Hb1.out (HB1.out _))).news (by rw [Hl.out]; exact h0)) (intV_one l) (by unfold maxLen; omega) (by omega) (by simp) ?_
               intro v2 w2 h1 h2 h3
               have Hb2 := Lib.hid (b2 Hb1.out (copy_below h2 h1))
               have h4 : w2.ownsRow w1.heap.size 3 1 v2 (p + 1) (intV l) := by simpa using h1
               obtain ⟨A3, c3, rfl, hc3, -, hi3⟩ := own_ints h4
               have HC := Lib.hid (HCut.out w2 A3 (p + 1) c3 rfl hi3)
               clear h1 h2 h3 h4 hi3)
  refine HC.out.mono ?_
  rintro e w3 ⟨g, off, cp, rfl, hs, hb3⟩
  have Hb3 := Lib.hid (b2 Hb2.out hb3)
  have HS := Lib.hid (fun W (hW : Below w3.heap.size w3 W) (k : Nat) x (hk : cc[k]? = some x) => (hs.keep hW).cell (intV_get hk))
  have HR0 : Hid (PartR1 (mm + 1) w3 (.int .i64 1) w3) := Lib.hid ⟨0, by omega, rfl, Below.refl _ _⟩
  clear hs hb3 HC Hb2 Hb1 HCut HO HB1
  go_wp2_with fail
  go_loopw [7] (PartR1 (mm + 1) w3) (fun i _ => (mm + 2 - intOf i).toNat)
  case atStart => exact HR0.out
  case round =>
    clear HR0
    obtain ⟨k, hk, rfl, hdq⟩ := hrel
    by_cases hkm : k < mm
    case pos =>
      obtain ⟨x, hx⟩ : ∃ x, cc[k]? = some x := ⟨_, List.getElem?_eq_getElem (by rw [HLen.out]; omega)⟩
      obtain ⟨y, hy⟩ : ∃ y, cc[k + 1]? = some y := ⟨_, List.getElem?_eq_getElem (by rw [HLen.out]; omega)⟩
      have cx : wr.cell? ⟨g, off + k, none⟩ = some (.int .i64 x) := HS.out _ hdq k x hx
      have cy : wr.cell? ⟨g, off + (k + 1), none⟩ = some (.int .i64 y) := HS.out _ hdq (k + 1) y hy
      have s1 : decide (y < x) = false := decide_eq_false (by have := HRise.out k x y hx hy; omega)
      have s2 : decide ((k : Int) + 1 < (mm : Int) + 1) = true := decide_eq_true (by omega)
      have s3 : IntKind.i64.wrap ((k : Int) + 1 - 1) = (k : Int) := by rw [Int.add_sub_cancel]; exact IntWalk.i64_in _ (by omega)
      have s5 : IntKind.i64.wrap (k : Int) = (k : Int) := IntWalk.i64_in _ (by omega)
      have s4 : IntKind.i64.wrap ((k : Int) + 1 + 1) = (k : Int) + 1 + 1 := IntWalk.i64_in _ (by omega)
      have hk1 : (k : Int) + 1 < (mm : Int) + 1 := by omega
      have hk2 : (k : Int) < (mm : Int) + 1 := by omega
      have hk3 : (0 : Int) ≤ (k : Int) + 1 := by omega
      have HR : Hid (∀ q', PartR1 (mm + 1) w3 (.int .i64 ((k : Int) + 1 + 1)) (wr.drewN q')) := Lib.hid fun q' => ⟨k + 1, by omega, by go_num, below_drewNc hdq q'⟩
      clear hx hy hdq
      go_wp2_with fail
      go_quiet (fail)
      go_wp2_with fail
      exact ⟨HR.out _, by simp [intOf]; omega⟩
    obtain rfl : k = mm := by omega
    have s1 : decide ((k : Int) + 1 < (k : Int) + 1) = false := decide_eq_false (by omega)
    have HR : Hid (PartR2 l a b wr (.int .i64 0) (.int .i64 0) (.int .i64 0) wr) := Lib.hid ⟨0, 0, 0, by omega, rfl, by simp, by simp, rfl, rfl, rfl⟩
    have ca : wr.cell? ⟨g, off, none⟩ = some (.int .i64 a) := HS.out _ hdq 0 a H1.out
    have cb : wr.cell? ⟨g, off + k, none⟩ = some (.int .i64 b) := HS.out _ hdq k b H2.out
    have s3 : IntKind.i64.wrap ((k : Int) + 1 - 1) = (k : Int) := by rw [Int.add_sub_cancel]; exact IntWalk.i64_in _ (by omega)
    have s5 : IntKind.i64.wrap (k : Int) = (k : Int) := IntWalk.i64_in _ (by omega)
    have hk2 : (k : Int) < (k : Int) + 1 := by omega
    have hk3 : (0 : Int) < (k : Int) + 1 := by omega
    have Hbr := Lib.hid (b2 Hb3.out hdq)
    clear hdq
    go_wp2_with fail
    go_loopw [8, 9, 72] (PartR2 l a b wr) (fun _ _ i _ => (p + 2 - intOf i).toNat)
    case atStart => exact HR.out
    case round =>
      clear HR
      obtain ⟨j, x, y, hj, rfl, hx, hy, rfl, rfl, rfl⟩ := hrel
      have hxj := count_take_le l j (fun x => decide (x < a))
      have hyj := count_take_le l j (fun x => decide (b < x))
      rw [← hx] at hxj
      rw [← hy] at hyj
      by_cases hjn : j < p + 1
      case neg =>
        obtain rfl : j = p + 1 := by have := Hl.out; omega
        have t0 : decide (((p + 1 : Nat) : Int) < (p : Int) + 1) = false := decide_eq_false (by omega)
        have t1 : decide ((x : Int) ≤ (f : Int)) = true := decide_eq_true (by
          have := HLess.out
          rw [← Hl.out, List.take_length] at hx
          omega)
        have t2 : decide ((y : Int) ≤ (f : Int)) = true := decide_eq_true (by
          have := HMore.out
          rw [← Hl.out, List.take_length] at hy
          omega)
        have t6 : x ≤ f := by have := of_decide_eq_true t1; omega
        have t7 : y ≤ f := by have := of_decide_eq_true t2; omega
        have HO2 := Lib.hid (World.ownsRow_lit (base := wr.heap.size) (e := 3) (size := 1) wr #[] 0 (Nat.le_refl _) (by unfold maxLen; omega) rfl)
        have HB2 := Lib.hid (fun o => (Below.refl wr.heap.size wr).alloc (Nat.le_refl _) o)
        have Hca := Lib.hid (fun W (hW : Below wr.heap.size wr W) => (World.cell?_of_block (w := wr) (a := ⟨g, off, none⟩) (hW.block g (cell_lt ca))).trans ca)
        have Hcb := Lib.hid (fun W (hW : Below wr.heap.size wr W) => (World.cell?_of_block (w := wr) (a := ⟨g, off + k, none⟩) (hW.block g (cell_lt ca))).trans cb)
        clear hx hy hjn ca cb
        go_wp2_with (at_builtin
                     refine wpList_append_s rfl (.tmp 95) (.tmp 96) _ rfl wr.heap.size 3 (.int .i64 0) 1 8 Try.underlying22 infoInt rfl (by decide) _ 0 [] rfl HO2.out (some ⟨ba, oa, none⟩) (p + 1) cap (intV l) rfl (by rw [intV_length, Hl.out, Nat.mul_one]) (fun h0 => (HArg.out _ (b2 Hbr.out (HB2.out _))).news (by rw [Hl.out]; exact h0)) (intV_one l) (by unfold maxLen; omega) (by omega) (by simp) ?_
                     intro v4 w4 h1 h2 h3
                     have hb4 := copy_below h2 h1
                     have Hb4 := Lib.hid (b2 Hbr.out hb4)
                     have h4 : w4.ownsRow wr.heap.size 3 1 v4 (p + 1) (intV l) := by simpa using h1
                     obtain ⟨A4, c4, rfl, hc4, -, hi4⟩ := own_ints h4
                     have HM := Lib.hid (HMid.out w4 A4 (p + 1) c4 rfl hi4)
                     have Hca4 := Lib.hid (fun W (hW : Below w4.heap.size w4 W) => Hca.out W (b2 hb4 hW))
                     have Hcb4 := Lib.hid (fun W (hW : Below w4.heap.size w4 W) => Hcb.out W (b2 hb4 hW))
                     clear h1 h2 h3 h4 hi4 hb4)
        refine HM.out.mono ?_
        rintro e w5 ⟨rfl, hb5⟩
        have ca := Hca4.out _ hb5
        have cb := Hcb4.out _ hb5
        have Hb5 := Lib.hid (b2 Hb4.out hb5)
        clear hb5 Hca Hcb Hca4 Hcb4 HM Hb4
        go_wp2_with fail
        go_ret
        exact ⟨rfl, Hb5.out⟩
      have t0 : decide ((j : Int) < (p : Int) + 1) = true := decide_eq_true (by omega)
      have hjz : (j : Int) < (p : Int) + 1 := by omega
      have t3 : IntKind.i64.wrap ((j : Int) + 1) = (j : Int) + 1 := IntWalk.i64_in _ (by omega)
      have t4 : IntKind.i64.wrap ((x : Int) + 1) = (x : Int) + 1 := IntWalk.i64_in _ (by omega)
      have t5 : IntKind.i64.wrap ((y : Int) + 1) = (y : Int) + 1 := IntWalk.i64_in _ (by omega)
      obtain ⟨z, hz⟩ : ∃ z, l[j]? = some z := ⟨_, List.getElem?_eq_getElem (by rw [Hl.out]; exact hjn)⟩
      have cz : wr.cell? ⟨ba, oa + j, none⟩ = some (.int .i64 z) := by
        obtain ⟨b', o', e', -, h9⟩ := (HArg.out _ Hbr.out).at_ hz
        cases e'
        exact h9
      have hx1 := count_take (fun x => decide (x < a)) hz
      have hy1 := count_take (fun x => decide (b < x)) hz
      rw [← hx] at hx1
      rw [← hy] at hy1
      have hjl : j + 1 ≤ l.length := by rw [Hl.out]; exact hjn
      clear hx hy
      by_cases hza : z < a
      case pos =>
        have u1 : decide (z < a) = true := decide_eq_true hza
        by_cases hzb : b < z
        case pos =>
          have u2 : decide (b < z) = true := decide_eq_true hzb
          rw [if_pos u1] at hx1
          rw [if_pos u2] at hy1
          have HR : Hid (PartR2 l a b wr (.int .i64 ((x : Int) + 1)) (.int .i64 ((y : Int) + 1)) (.int .i64 ((j : Int) + 1)) wr) := Lib.hid ⟨j + 1, x + 1, y + 1, hjl, by go_num, hx1.symm, hy1.symm, by go_num, by go_num, rfl⟩
          clear hx1 hy1 hza hzb hz hjl
          go_wp2_with fail
          go_roundw
          case rel => exact HR.out
          case measure => simp [intOf]; omega
        have u2 : decide (b < z) = false := decide_eq_false hzb
        rw [if_pos u1] at hx1
        rw [if_neg (by rw [u2]; decide)] at hy1
        have HR : Hid (PartR2 l a b wr (.int .i64 ((x : Int) + 1)) (.int .i64 (y : Int)) (.int .i64 ((j : Int) + 1)) wr) := Lib.hid ⟨j + 1, x + 1, y, hjl, by go_num, hx1.symm, hy1.symm, by go_num, by go_num, rfl⟩
        clear hx1 hy1 hza hzb hz hjl
        go_wp2_with fail
        go_roundw
        case rel => exact HR.out
        case measure => simp [intOf]; omega
      have u1 : decide (z < a) = false := decide_eq_false hza
      by_cases hzb : b < z
      case pos =>
        have u2 : decide (b < z) = true := decide_eq_true hzb
        rw [if_neg (by rw [u1]; decide)] at hx1
        rw [if_pos u2] at hy1
        have HR : Hid (PartR2 l a b wr (.int .i64 (x : Int)) (.int .i64 ((y : Int) + 1)) (.int .i64 ((j : Int) + 1)) wr) := Lib.hid ⟨j + 1, x, y + 1, hjl, by go_num, hx1.symm, hy1.symm, by go_num, by go_num, rfl⟩
        clear hx1 hy1 hza hzb hz hjl
        go_wp2_with fail
        go_roundw
        case rel => exact HR.out
        case measure => simp [intOf]; omega
      have u2 : decide (b < z) = false := decide_eq_false hzb
      rw [if_neg (by rw [u1]; decide)] at hx1
      rw [if_neg (by rw [u2]; decide)] at hy1
      have HR : Hid (PartR2 l a b wr (.int .i64 (x : Int)) (.int .i64 (y : Int)) (.int .i64 ((j : Int) + 1)) wr) := Lib.hid ⟨j + 1, x, y, hjl, by go_num, hx1.symm, hy1.symm, rfl, rfl, rfl⟩
      clear hx1 hy1 hza hzb hz hjl
      go_wp2_with fail
      go_roundw
      case rel => exact HR.out
      case measure => simp [intOf]; omega
end Go.Proofs.Ythihdbcclocbkaa
