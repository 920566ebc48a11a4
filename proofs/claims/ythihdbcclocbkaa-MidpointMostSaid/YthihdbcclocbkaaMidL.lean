/- MidpointMost: the walk of the law at ints in memory. Conditions: where they lie, that they are ints. -/
import Derived.Test.YthihdbcclocbkaaMidI
namespace Go.Proofs.Ythihdbcclocbkaa
open Go.RowKit
set_option maxRecDepth 100000

def MostR (x : Int) (l : List Int) (n : Nat) (u : World) (all i : Value) (W : World) : Prop :=
  ∃ k : Nat, k ≤ n + 1 ∧ i = .int .i64 (k : Nat) ∧ W.ownsRow u.heap.size 3 1 all (n + k) (intV (l ++ List.replicate k x)) ∧ Below u.heap.size u W

set_option maxHeartbeats 4000000 in
theorem mmost_law (x : Int) (A : Option Addr) (n cap : Nat) (l : List Int) (hl : l.length = n) (f0 : Int) (w : World) (h : IntsIn w A l) (_ : Ints l) (_ : -9223372036854775808 ≤ x ∧ x ≤ 9223372036854775807) :
    Calls Try.prog 7 #[.int .i64 x, .slice A n cap, .int .i64 f0] w (MTrue w) := by
  have HA := Lib.hid (awake10_any w)
  have Hl := Lib.hid hl
  have HI := Lib.hid h
  clear h hl
  by_cases hn : n ≤ 100
  case neg =>
    have q1 : decide ((100 : Int) < (n : Int)) = true := decide_eq_true (by omega)
    have q2 : decide (100 < n) = true := decide_eq_true (by omega)
    clear hn
    go_enter Try.func7, Try.ntmps7
    go_wp2_with fail
    refine HA.out.mono ?_
    rintro e w1 ⟨rfl, hb1⟩
    go_wp2_with fail
    go_ret
    exact ⟨rfl, hb1⟩
  have q1 : decide ((100 : Int) < (n : Int)) = false := decide_eq_false (by omega)
  have q2 : decide (100 < n) = false := decide_eq_false (by omega)
  have HArg : Hid (∀ W, Below w.heap.size w W → IntsIn W A l) := Lib.hid fun W hW => HI.out.below hW
  have e1 : IntKind.i64.wrap ((n : Int) + 1) = (n : Int) + 1 := IntWalk.i64_in _ (by omega)
  clear HI
  go_enter Try.func7, Try.ntmps7
  go_wp2_with fail
  refine HA.out.mono ?_
  rintro e w1 ⟨rfl, hb1⟩
  have Hb1 := Lib.hid hb1
  have HO := Lib.hid (World.ownsRow_lit (base := w1.heap.size) (e := 3) (size := 1) w1 #[] 0 (Nat.le_refl _) (by unfold maxLen; omega) rfl)
  have HB1 := Lib.hid (fun o => (Below.refl w1.heap.size w1).alloc (Nat.le_refl _) o)
  clear hb1 HA
  go_wp2_with (at_builtin
               refine wpList_append_s rfl (.tmp 15) (.tmp 16) _ rfl w1.heap.size 3 (.int .i64 0) 1 8 Try.underlying22 infoInt rfl (by decide) _ 0 [] rfl HO.out A n cap (intV l) rfl (by rw [intV_length, Hl.out, Nat.mul_one]) (fun h0 => (HArg.out _ (b2 Hb1.out (HB1.out _))).news (by rw [Hl.out]; exact h0)) (intV_one l) (by unfold maxLen; omega) (by omega) (by simp) ?_
               intro v2 w2 h1 h2 h3
               have HS : Hid (MostR x l n w1 v2 (.int .i64 0) w2) := Lib.hid ⟨0, by omega, rfl, by simpa using h1, copy_below h2 h1⟩
               clear h1 h2 h3)
  go_loopw [7, 21] (MostR x l n w1) (fun _ i _ => (n + 2 - intOf i).toNat)
  case atStart => exact HS.out
  case round =>
    clear HS
    obtain ⟨k, hk, rfl, ho, hb⟩ := hrel
    by_cases hkn : k < n + 1
    case pos =>
      have s1 : decide ((k : Int) < (n : Int) + 1) = true := decide_eq_true (by omega)
      have s2 : IntKind.i64.wrap ((k : Int) + 1) = (k : Int) + 1 := IntWalk.i64_in _ (by omega)
      have hkz : (k : Int) < (n : Int) + 1 := by omega
      obtain ⟨Av, cv, rfl, -⟩ := own_slice ho
      have Hb := Lib.hid hb
      have Ho2 := Lib.hid ho
      clear ho hb
      go_wp2_with (at_builtin
                   refine wpList_append_s rfl (.tmp 23) (.tmp 25) _ rfl w1.heap.size 3 (.int .i64 0) 1 8 Try.underlying22 infoInt rfl (by decide) _ (n + k) (intV (l ++ List.replicate k x)) rfl (ikeep Ho2.out ((Below.refl wr.heap.size wr).alloc (Nat.le_refl _) _)) (some ⟨wr.heap.size, 0, none⟩) 1 1 (intV [x]) rfl rfl (fun _ => (lits_in wr [x]).news (Nat.succ_pos 0)) (intV_one [x]) (by unfold maxLen; omega) (by omega) (by have := Hb.out.size; simp; omega) ?_
                   intro v3 w3 h1 h2 h3
                   have hb3 : Below w1.heap.size w1 w3 := (Hb.out.alloc Hb.out.size (.cells #[.int .i64 x] 3)).trans (h2.below (by have := Hb.out.size; simp; omega) (fun k e => (Ho2.out.lt k e).1))
                   have HR : Hid (MostR x l n w1 v3 (.int .i64 ((k : Int) + 1)) w3) := Lib.hid ⟨k + 1, by omega, by go_num, by
                     rw [← intV_append, List.append_assoc, show List.replicate k x ++ [x] = List.replicate (k + 1) x by rw [← List.replicate_succ']] at h1
                     exact h1, hb3⟩
                   clear h1 h2 h3 hb3)
      go_roundw
      case rel => exact HR.out
      case measure => simp [intOf]; omega
    obtain rfl : k = n + 1 := by omega
    have s1 : decide (((n + 1 : Nat) : Int) < (n : Int) + 1) = false := decide_eq_false (by omega)
    obtain ⟨N, hN⟩ : ∃ N, N = n + (n + 1) := ⟨_, rfl⟩
    have hN1 : N ≤ 201 := by omega
    have hN0 : (0 : Int) < (N : Int) := by omega
    obtain ⟨t, ht, et⟩ := mod_of f0 (N : Int) (by omega) (by omega)
    have eu : IntKind.u64.wrap (N : Int) = (N : Int) := u64_in _ (by omega) (by omega)
    have zu : ¬ (N : Int) = 0 := by omega
    have hlt : (l ++ List.replicate (n + 1) x).length = N := by rw [List.length_append, List.length_replicate, Hl.out]; omega
    have HMo : Hid (MidP.mostT ((l ++ List.replicate (n + 1) x).drop t ++ (l ++ List.replicate (n + 1) x).take t) = (x, true)) := Lib.hid (by
      have := MidP.most_turned (l := l) (x := x) (from_ := t)
      rwa [Hl.out] at this)
    rw [← hN] at ho
    generalize l ++ List.replicate (n + 1) x = L at *
    obtain ⟨Av, cv, rfl, -⟩ := own_slice ho
    obtain ⟨A1, c1, hrun1, hc1⟩ := icut_from hlt ho t (by omega)
    obtain ⟨A2, c2, hrun2, hc2⟩ := icut_to hlt ho t (by omega)
    have Hc1 := Lib.hid (fun W (hW : Below wr.heap.size wr W) => hc1 W _ (ikeep ho hW))
    have Hc2 := Lib.hid (fun W (hW : Below wr.heap.size wr W) => hc2 W _ (ikeep ho hW))
    have eld : (intV (L.drop t)).length = (N - t) * 1 := by rw [intV_length, List.length_drop, hlt]; omega
    have elt : (intV (L.take t)).length = t * 1 := by rw [intV_length, List.length_take, hlt]; omega
    have Hb := Lib.hid (b2 Hb1.out hb)
    have hd0 : Below wr.heap.size wr wr.drew := (Below.refl _ _).drew
    have htN : t ≤ N := by omega
    have Hl2 := Lib.hid hlt
    have HtN := Lib.hid (show N - t + t = N by omega)
    clear hc1 hc2 ho hb hN hlt HArg Hb1 HO HB1
    go_wp2_with fail
    refine wp_region_held_drew (S := fun W => Below wr.heap.size wr W) (by kernel_rfl) hd0 (fun _ => ?_)
    refine wpAnyH_take (i := 1) (oi := ?oo1) (v := ?vv1) ?ii1 (by kernel_rfl) ?ff1 (by kernel_rfl) ?qq1 (Or.inl ⟨?ww1, ?yy1⟩) hd0 ?rr1
    case ii1 => simp only [List.getElem?_toArray, List.getElem?_cons_succ, List.getElem?_cons_zero]; rfl
    case ff1 => kernel_rfl
    case qq1 => exact fun _ _ _ h => h
    case ww1 => rfl
    case yy1 => intro W hW; go_simp <;> with_reducible rfl
    try simp only [Act.put, List.setIfInBounds_toArray, List.set_cons_zero, List.set_cons_succ]
    refine wpAnyH_take (i := 2) (oi := ?oo2) (v := ?vv2) ?ii2 (by kernel_rfl) ?ff2 (by kernel_rfl) ?qq2 (Or.inl ⟨?ww2, ?yy2⟩) hd0 ?rr2
    case ii2 => simp only [List.getElem?_toArray, List.getElem?_cons_succ, List.getElem?_cons_zero]; rfl
    case ff2 => kernel_rfl
    case qq2 => exact fun _ _ _ h => h
    case ww2 => rfl
    case yy2 => intro W hW; go_simp <;> with_reducible rfl
    try simp only [Act.put, List.setIfInBounds_toArray, List.set_cons_zero, List.set_cons_succ]
    refine wpAnyH_take (i := 3) (oi := ?oo3) (v := ?vv3) ?ii3 (by kernel_rfl) ?ff3 (by kernel_rfl) ?qq3 (Or.inl ⟨?ww3, ?yy3⟩) hd0 ?rr3
    case ii3 => simp only [List.getElem?_toArray, List.getElem?_cons_succ, List.getElem?_cons_zero]; rfl
    case ff3 => kernel_rfl
    case qq3 => exact fun _ _ _ h => h
    case ww3 => rfl
    case yy3 => intro W hW; go_simp <;> with_reducible rfl
    try simp only [Act.put, List.setIfInBounds_toArray, List.set_cons_zero, List.set_cons_succ]
    refine wpAnyH_take (i := 5) (oi := ?oo4) (v := ?vv4) ?ii4 (by kernel_rfl) ?ff4 (by kernel_rfl) ?qq4 (Or.inl ⟨?ww4, ?yy4⟩) hd0 ?rr4
    case ii4 => simp only [List.getElem?_toArray, List.getElem?_cons_succ, List.getElem?_cons_zero]; rfl
    case ff4 => kernel_rfl
    case qq4 => exact fun _ _ _ h => h
    case ww4 => rfl
    case yy4 => intro W hW; go_simp <;> with_reducible rfl
    try simp only [Act.put, List.setIfInBounds_toArray, List.set_cons_zero, List.set_cons_succ]
    refine wpAnyH_take (i := 6) (oi := ?oo5) (v := ?vv5) ?ii5 (by kernel_rfl) ?ff5 (by kernel_rfl) ?qq5 (Or.inl ⟨?ww5, ?yy5⟩) hd0 ?rr5
    case ii5 => simp only [List.getElem?_toArray, List.getElem?_cons_succ, List.getElem?_cons_zero]; rfl
    case ff5 => kernel_rfl
    case qq5 => exact fun _ _ _ h => h
    case ww5 => rfl
    case yy5 => intro W hW; go_simp <;> with_reducible rfl
    try simp only [Act.put, List.setIfInBounds_toArray, List.set_cons_zero, List.set_cons_succ]
    refine wpAnyH_take (i := 7) (oi := ?oo6) (v := ?vv6) ?ii6 (by kernel_rfl) ?ff6 (by kernel_rfl) ?qq6 (Or.inl ⟨?ww6, ?yy6⟩) hd0 ?rr6
    case ii6 => simp only [List.getElem?_toArray, List.getElem?_cons_succ, List.getElem?_cons_zero]; rfl
    case ff6 => kernel_rfl
    case qq6 => exact fun _ _ _ h => h
    case ww6 => rfl
    case yy6 => intro W hW; go_simp <;> with_reducible rfl
    try simp only [Act.put, List.setIfInBounds_toArray, List.set_cons_zero, List.set_cons_succ]
    refine wpAnyH_ready (rs := [0]) (by kernel_rfl) (by simp) ?_
    refine AllReadyH.cons (o := ?oo7) ?ii7 (fun K hK => ?_) AllReadyH.nil
    case ii7 => simp only [List.getElem?_toArray, List.getElem?_cons_zero]; rfl
    go_simp
    go_wp2_with fail
    refine hK.out _ _ (hd0.alloc hd0.size _) (fun _ => ?_)
    clear hK K
    have hd1 := hd0.alloc hd0.size (.cells #[] 3)
    refine wpAnyH_ready (rs := [4]) (by kernel_rfl) (by simp) ?_
    refine AllReadyH.cons (o := ?oo8) ?ii8 (fun K hK => ?_) AllReadyH.nil
    case ii8 => simp only [List.getElem?_toArray, List.getElem?_cons_succ, List.getElem?_cons_zero]; rfl
    refine step_append_m rfl (.tmp 35) (.tmp 38) _ rfl wr.heap.size 3 _ 1 8 Try.underlying22 infoInt rfl (by omega) _ 0 _ rfl (iempty wr.drew) A1 (N - t) c1 (intV (L.drop t)) rfl eld (Hc1.out _ hd1) (intV_one _) (by unfold maxLen; omega) (by omega) (hd1.size) ?_
    intro v2 w2 ho2 ha2 _
    have hd2 := ibelow hd1 (iempty wr.drew) (Nat.le_refl _) ha2
    rw [Nat.zero_add] at ho2
    have Ho2 := Lib.hid ho2
    clear ho2 ha2
    go_wp2_with fail
    refine hK.out _ _ hd2 (fun _ => ?_)
    clear hK K
    refine wpAnyH_ready (rs := [8]) (by kernel_rfl) (by simp) ?_
    refine AllReadyH.cons (o := ?oo9) ?ii9 (fun K hK => ?_) AllReadyH.nil
    case ii9 => simp only [List.getElem?_toArray, List.getElem?_cons_succ, List.getElem?_cons_zero]; rfl
    refine step_append_m rfl (.tmp 39) (.tmp 42) _ rfl wr.heap.size 3 _ 1 8 Try.underlying22 infoInt rfl (by omega) _ _ _ rfl (Ho2.out) A2 t c2 (intV (L.take t)) rfl elt (Hc2.out _ hd2) (intV_one _) (by unfold maxLen; omega) (by omega) (hd2.size) ?_
    intro v3 w3 ho3 ha3 _
    have hd3 := ibelow hd2 Ho2.out (Nat.le_refl _) ha3
    have ho4 : w3.ownsRow wr.heap.size 3 1 v3 N (intV (L.drop t ++ L.take t)) := by rw [← HtN.out, intV_append]; exact ho3
    obtain ⟨A3, c3, rfl, -, hl3, hi3⟩ := own_ints ho4
    have HM : Hid (Calls Try.prog 14 #[.slice A3 N c3] w3 (Quiet (.tuple #[.int .i64 x, .bool true]) w3)) := Lib.hid (by
      have h9 := most_any A3 N c3 _ hl3 (by omega) w3 hi3
      unfold MostP at h9
      rw [HMo.out] at h9
      exact h9)
    have Hb3 := Lib.hid (b2 Hb.out hd3)
    clear ho3 ho4 ha3 hl3 hi3 Ho2 HMo
    go_wp2_with fail
    refine hK.out _ _ hd3 (fun _ => ?_)
    clear hK K
    refine wpAnyH_take (i := 9) (oi := ?oo10) (v := ?vv10) ?ii10 (by kernel_rfl) ?ff10 (by kernel_rfl) ?qq10 (Or.inl ⟨?ww10, ?yy10⟩) hd3 ?rr10
    case ii10 => simp only [List.getElem?_toArray, List.getElem?_cons_succ, List.getElem?_cons_zero]; rfl
    case ff10 => kernel_rfl
    case qq10 => exact fun _ _ _ h => h
    case ww10 => rfl
    case yy10 => intro W hW; go_simp <;> with_reducible rfl
    try simp only [Act.put, List.setIfInBounds_toArray, List.set_cons_zero, List.set_cons_succ]
    refine wpAnyH_done (by kernel_rfl) ?_ _
    go_wp2_with fail
    refine HM.out.mono ?_
    rintro e w4 ⟨rfl, m, rfl⟩
    go_wp2_with fail
    go_ret
    exact ⟨rfl, below_drewNc Hb3.out _⟩
end Go.Proofs.Ythihdbcclocbkaa
