/- MidpointHolds: the walk of the law at ints in memory. Conditions: where they lie, that they are ints. -/
import Derived.Test.YthihdbcclocbkaaMidH
import Derived.Laws.OwnMore
namespace Go.Proofs.Ythihdbcclocbkaa
open Go.RowKit
set_option maxRecDepth 100000

/-- int(uint(a) % uint(M)). -/
theorem mod_of (a M : Int) (h0 : 0 < M) (h1 : M ≤ 1000000) : ∃ t : Nat, (t : Int) < M ∧ wrap64 ((IntKind.u64.wrap a).tmod M) = (t : Int) := by
  have e : IntKind.u64.wrap a = a % 18446744073709551616 := by simp [IntKind.wrap, IntKind.bits, IntKind.signed]
  rw [e, Int.tmod_eq_emod_of_nonneg (Int.emod_nonneg _ (by decide))]
  have h2 : 0 ≤ a % 18446744073709551616 % M := Int.emod_nonneg _ (by omega)
  have h3 : a % 18446744073709551616 % M < M := Int.emod_lt_of_pos _ (by omega)
  generalize a % 18446744073709551616 % M = d at *
  exact ⟨d.toNat, by omega, by rw [IntWalk.wrap64_in d ⟨by omega, by omega⟩]; omega⟩
theorem u64_in (x : Int) (h0 : 0 ≤ x) (h1 : x ≤ 18446744073709551615) : IntKind.u64.wrap x = x := by
  have e : IntKind.u64.wrap x = x % 18446744073709551616 := by simp [IntKind.wrap, IntKind.bits, IntKind.signed]
  rw [e]; omega

theorem istored {W : World} {B n g c : Nat} {L : List Int} (h : W.ownsRow B 3 1 (.slice (some ⟨g, 0, none⟩) n c) n (intV L)) (k : Nat) (x : Int) : (W.setCell ⟨g, k, none⟩ (.int .i64 x)).ownsRow B 3 1 (.slice (some ⟨g, 0, none⟩) n c) n (intV (L.set k x)) := by
  rw [intV_set]
  exact (h.stored k (.int .i64 x)).1
theorem ints_set {L : List Int} {k : Nat} {x : Int} (h : Ints L) (hx : -9223372036854775808 ≤ x ∧ x ≤ 9223372036854775807) : Ints (L.set k x) := fun y hy => by
  rcases List.mem_or_eq_of_mem_set hy with h1 | h1
  · exact h y h1
  · subst h1; exact hx

def HoldR (l : List Int) (f n B g c : Nat) (w1 : World) (lo hi i : Value) (W : World) : Prop :=
  ∃ (k : Nat) (x y : Int) (cur : List Int), k ≤ n ∧ i = .int .i64 (k : Nat) ∧ lo = .int .i64 x ∧ hi = .int .i64 y ∧ cur.length = n ∧ Ints cur ∧ (∀ (j : Nat) (z : Int), f ≤ j → cur[j]? = some z → l[j]? = some z) ∧
    (∀ (j : Nat) (z : Int), f ≤ j → j < k → l[j]? = some z → x ≤ z ∧ z ≤ y) ∧ W.ownsRow B 3 1 (.slice (some ⟨g, 0, none⟩) n c) n (intV cur) ∧ Below w1.heap.size w1 W

set_option maxHeartbeats 4000000 in
theorem mholds_law (A : Option Addr) (n cap : Nat) (l : List Int) (hl : l.length = n) (f0 : Int) (A2 : Option Addr) (n2 cap2 : Nat) (odd : List Int) (hl2 : odd.length = n2) (w : World) (h : IntsIn w A l) (hi : Ints l) (h2 : IntsIn w A2 odd) (hi2 : Ints odd) :
    Calls Try.prog 4 #[.slice A n cap, .int .i64 f0, .slice A2 n2 cap2] w (MTrue w) := by
  have HA := Lib.hid (awake10_any w)
  have Hl := Lib.hid hl
  have HI := Lib.hid h
  have Hin := Lib.hid hi
  have Hl2 := Lib.hid hl2
  have HI2 := Lib.hid h2
  have Hin2 := Lib.hid hi2
  clear h hl hi h2 hl2 hi2
  by_cases hn1 : n < 1
  · obtain rfl : n = 0 := by omega
    clear hn1
    go_enter Try.func4, Try.ntmps4
    go_wp2_with fail
    refine HA.out.mono ?_
    rintro e w1 ⟨rfl, hb1⟩
    go_wp2_with fail
    go_ret
    exact ⟨rfl, hb1⟩
  have p1 : decide ((n : Int) < 1) = false := decide_eq_false (by omega)
  have p2 : decide (n < 1) = false := decide_eq_false hn1
  by_cases hn : n ≤ 100
  case neg =>
    have q1 : decide ((100 : Int) < (n : Int)) = true := decide_eq_true (by omega)
    have q2 : decide (100 < n) = true := decide_eq_true (by omega)
    clear hn
    go_enter Try.func4, Try.ntmps4
    go_wp2_with fail
    refine HA.out.mono ?_
    rintro e w1 ⟨rfl, hb1⟩
    go_wp2_with fail
    go_ret
    exact ⟨rfl, hb1⟩
  obtain ⟨p, rfl⟩ : ∃ p, n = p + 1 := ⟨n - 1, by omega⟩
  clear p1 p2
  have p1 : decide ((p : Int) + 1 < 1) = false := decide_eq_false (by omega)
  have q1 : decide ((100 : Int) < (p : Int) + 1) = false := decide_eq_false (by omega)
  obtain ⟨f, hf, ef⟩ := mod_of f0 ((p : Int) / 2 + 1) (by omega) (by omega)
  have eu : IntKind.u64.wrap ((p : Int) / 2 + 1) = (p : Int) / 2 + 1 := u64_in _ (by omega) (by omega)
  have zu : ¬ (p : Int) / 2 + 1 = 0 := by omega
  have e0 : IntKind.i64.wrap (p : Int) = (p : Int) := IntWalk.i64_in _ (by omega)
  have e1 : IntKind.i64.wrap ((p : Int) / 2) = (p : Int) / 2 := IntWalk.i64_in _ (by omega)
  have e2 : IntKind.i64.wrap ((p : Int) / 2 + 1) = (p : Int) / 2 + 1 := IntWalk.i64_in _ (by omega)
  have hfp : f < p + 1 := by omega
  have hfz : (f : Int) < (p : Int) + 1 := by omega
  obtain ⟨v, hv⟩ : ∃ v, l[f]? = some v := ⟨_, List.getElem?_eq_getElem (by rw [Hl.out]; exact hfp)⟩
  obtain ⟨ba, oa, rfl, -, -⟩ := HI.out.at_ hv
  have HV : Hid (∀ W, Below w.heap.size w W → W.cell? ⟨ba, oa + f, none⟩ = some (.int .i64 v)) := Lib.hid fun W hW => by
    obtain ⟨b', o', e', -, h9⟩ := (HI.out.below hW).at_ hv
    cases e'
    exact h9
  clear hn1
  go_enter Try.func4, Try.ntmps4
  go_wp2_with fail
  refine HA.out.mono ?_
  rintro e w1 ⟨rfl, hb1⟩
  have Hb1 := Lib.hid hb1
  have c0 := HV.out w1 hb1
  clear hb1 HA
  go_wp2_with fail
  go_quiet (fail)
  have hbu := below_drewNc Hb1.out nq
  clear Hb1 c0 HV
  generalize w1.drewN nq = u at *
  have HO := Lib.hid (World.ownsRow_lit (base := u.heap.size) (e := 3) (size := 1) u #[] 0 (Nat.le_refl _) (by unfold maxLen; omega) rfl)
  have HB1 := Lib.hid (fun o => (Below.refl u.heap.size u).alloc (Nat.le_refl _) o)
  have HIn1 := Lib.hid (fun W (hW : Below u.heap.size u W) => HI.out.below (b2 hbu hW))
  have Hbu := Lib.hid hbu
  clear hbu
  go_wp2_with (at_builtin
               refine wpList_append_s rfl (.tmp 41) (.tmp 42) _ rfl u.heap.size 3 (.int .i64 0) 1 8 Try.underlying22 infoInt rfl (by decide) _ 0 [] rfl HO.out (some ⟨ba, oa, none⟩) (p + 1) cap (intV l) rfl (by rw [intV_length, Hl.out, Nat.mul_one]) (fun h0 => (HIn1.out _ (HB1.out _)).news (by rw [Hl.out]; exact h0)) (intV_one l) (by unfold maxLen; omega) (by omega) (by simp) ?_
               intro v2 w2 h1 h2 h3
               have hb2 : Below u.heap.size u w2 := (HB1.out _).trans (h2.below (by simp) (fun k e => by have e : some u.heap.size = some k := e; cases e; exact Nat.le_refl _))
               have h4 : w2.ownsRow u.heap.size 3 1 v2 (p + 1) (intV l) := by simpa using h1
               obtain ⟨g, c, rfl, hgc⟩ : ∃ g c, v2 = .slice (some ⟨g, 0, none⟩) (p + 1) c ∧ p + 1 ≤ c := by
                 rcases h4.2 with ⟨-, h0⟩ | ⟨g, c, cur, rfl, -, -, h5, -⟩
                 · omega
                 · exact ⟨g, c, rfl, h5⟩
               have HS : Hid (HoldR l f (p + 1) u.heap.size g c u (.int .i64 v) (.int .i64 v) (.int .i64 0) w2) := Lib.hid ⟨0, v, v, l, by omega, rfl, rfl, rfl, Hl.out, Hin.out, fun j z _ hz => hz, fun j z _ hj => by omega, h4, hb2⟩
               clear h1 h2 h3 h4 hb2)
  go_loopw [7, 8, 46] (HoldR l f (p + 1) u.heap.size g c u) (fun _ _ i _ => (p + 2 - intOf i).toNat)
  case atStart => exact HS.out
  case round =>
    clear HS
    obtain ⟨k, x, y, cur, hk, rfl, rfl, rfl, hcl, hci, hcur, hrange, ho, hb⟩ := hrel
    by_cases hkn : k < p + 1
    case neg =>
      obtain rfl : k = p + 1 := by omega
      have HM := Lib.hid (mid_good (some ⟨g, 0, none⟩) (p + 1) c cur hcl (by omega) f (by omega) wr (fun _ => ⟨g, 0, rfl, (ho.lt g rfl).2, fun i x hx => by
        rw [Nat.zero_add, ho.cellAt i (by have := (List.getElem?_eq_some_iff.1 hx).1; omega)]
        exact intV_get hx⟩) hci)
      obtain ⟨m1, m2⟩ := MidP.mid_holds (l := cur) (f := f) (lo := x) (hi := y) (by omega) (fun i z hi hz => hrange i z hi (by have := (List.getElem?_eq_some_iff.1 hz).1; omega) (hcur i z hi hz))
      generalize MidP.midT cur f = m at *
      have r0 : decide (((p + 1 : Nat) : Int) < (p : Int) + 1) = false := decide_eq_false (by omega)
      have r1 : decide (x ≤ m) = true := decide_eq_true m1
      have r2 : decide (m ≤ y) = true := decide_eq_true m2
      have Hb := Lib.hid (b2 Hbu.out hb)
      clear hrange ho hb hcur hci hcl hkn
      go_wp2_with fail
      refine HM.out.mono ?_
      rintro e w9 ⟨rfl, hb9⟩
      have Hb9 := Lib.hid (b2 Hb.out hb9)
      clear hb9 Hb HM
      go_wp2_with fail
      go_ret
      exact ⟨rfl, Hb9.out⟩
    have r0 : decide ((k : Int) < (p : Int) + 1) = true := decide_eq_true (by omega)
    have hkz : (k : Int) < (p : Int) + 1 := by omega
    have e5 : IntKind.i64.wrap ((k : Int) + 1) = (k : Int) + 1 := IntWalk.i64_in _ (by omega)
    obtain ⟨z, hz⟩ : ∃ z, cur[k]? = some z := ⟨_, List.getElem?_eq_getElem (by rw [hcl]; exact hkn)⟩
    have cz : wr.cell? ⟨g, k, none⟩ = some (.int .i64 z) := by rw [ho.cellAt k (by omega)]; exact intV_get hz
    by_cases hfk : f ≤ k
    case pos =>
      have r1 : decide ((f : Int) ≤ (k : Int)) = true := decide_eq_true (by omega)
      have HR : Hid (∀ m x' y', x' ≤ x → x' ≤ z → y ≤ y' → z ≤ y' → HoldR l f (p + 1) u.heap.size g c u (.int .i64 x') (.int .i64 y') (.int .i64 ((k : Int) + 1)) (wr.drewN m)) := Lib.hid fun m x' y' h1 h2 h3 h4 => ⟨k + 1, x', y', cur, by omega, by go_num, rfl, rfl, hcl, hci, hcur, fun j v hj hjk hv => by
        rcases Nat.lt_or_eq_of_le (Nat.le_of_lt_succ hjk) with h5 | h5
        · have := hrange j v hj h5 hv; omega
        · subst h5
          have := hcur j z hj hz
          rw [hv] at this
          cases this
          omega, ikeep ho (below_drewNc (Below.refl _ _) m), below_drewNc hb m⟩
      clear hrange ho hb hcur hci hcl
      go_wp2_with fail
      go_quiet (fail)
      go_wp2_with fail
      exact ⟨HR.out _ _ _ (Int.min_le_left ..) (Int.min_le_right ..) (Int.le_max_left ..) (Int.le_max_right ..), by simp [intOf]; omega⟩
    have r1 : decide ((f : Int) ≤ (k : Int)) = false := decide_eq_false (by omega)
    by_cases hk2 : k < n2
    case neg =>
      have r2 : decide ((k : Int) < (n2 : Int)) = false := decide_eq_false (by omega)
      have HR : Hid (∀ m, HoldR l f (p + 1) u.heap.size g c u (.int .i64 x) (.int .i64 y) (.int .i64 ((k : Int) + 1)) (wr.drewN m)) := Lib.hid fun m => ⟨k + 1, x, y, cur, by omega, by go_num, rfl, rfl, hcl, hci, hcur, fun j v hj hjk hv => by omega, ikeep ho (below_drewNc (Below.refl _ _) m), below_drewNc hb m⟩
      clear hrange ho hb hcur hci hcl
      go_wp2_with fail
      go_roundw
      case rel => exact HR.out 0
      case measure => simp [intOf]; omega
    have r2 : decide ((k : Int) < (n2 : Int)) = true := decide_eq_true (by omega)
    have hkz2 : (k : Int) < (n2 : Int) := by omega
    obtain ⟨z2, hz2⟩ : ∃ z, odd[k]? = some z := ⟨_, List.getElem?_eq_getElem (by rw [Hl2.out]; exact hk2)⟩
    obtain ⟨bo, oo, rfl, -, co⟩ := (HI2.out.below (b2 Hbu.out hb)).at_ hz2
    have hfr : wr.frozen? ⟨g, k, none⟩ = false := ho.frozenAt k
    have HR : Hid (HoldR l f (p + 1) u.heap.size g c u (.int .i64 x) (.int .i64 y) (.int .i64 ((k : Int) + 1)) (wr.setCell ⟨g, k, none⟩ (.int .i64 z2))) := Lib.hid ⟨k + 1, x, y, cur.set k z2, by omega, by go_num, rfl, rfl, by rw [List.length_set]; exact hcl, ints_set hci (Hin2.out.get hz2), fun j v hj hv => by
        rw [List.getElem?_set_ne (by omega)] at hv
        exact hcur j v hj hv, fun j v hj hjk hv => by omega, istored ho k z2, hb.setCell (ho.lt g rfl).1 _⟩
    clear hrange ho hb hcur hci hcl
    go_wp2_with fail
    go_roundw
    case rel => exact HR.out
    case measure => simp [intOf]; omega
end Go.Proofs.Ythihdbcclocbkaa
