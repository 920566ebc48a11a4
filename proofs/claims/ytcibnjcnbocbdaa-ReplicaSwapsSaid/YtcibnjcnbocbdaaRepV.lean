/- ReplicaSwaps: the walk of the law. Conditions: where the numbers lie. -/
import Derived.Test.YtcibnjcnbocbdaaRepU
import Derived.Test.YtcibnjcnbocbdaaRepArg
namespace Go.Proofs.Ytcibnjcnbocbdaa
open Go.RowKit RepP Go.Maps
set_option maxRecDepth 100000

theorem OneG.len {W : World} {B b n : Nat} {t : T} (h : OneG W B b t n) : t.length = 8 := by
  obtain ⟨m, hr⟩ := h.2.get (i := 0) rfl
  exact hr.len
def SwR (w : World) (B b kk n : Nat) (v i : Value) (W : World) : Prop := ∃ k x t, k ≤ n ∧ k ≤ 100 ∧ i = .int .i64 (k : Nat) ∧ v = .int .u16 (x : Nat) ∧ x < 65536 ∧ OneG W B b t (k + 1) ∧ tat t kk = some x ∧ Below w.heap.size w W
theorem tmod8 (key : Nat) : (key : Int).tmod 8 = ((key % 8 : Nat) : Int) := rfl

set_option maxHeartbeats 4000000 in
theorem swaps_law (key old : Nat) (hold : old < 65536) (A : Option Addr) (n cap : Nat) (l : List Nat) (hl : l.length = n) (w : World) (h : ItemsIn u16s 1 w A l) (hr : ∀ x ∈ l, x < 65536) (hn : n * 2 ≤ 140737488355328) :
    Calls Try.prog 7 #[.int .u8 (key : Nat), .int .u16 (old : Nat), .slice A n cap] w (Tru14 w) := by
  have HW := Lib.hid (awake14_any w)
  have HN := Lib.hid (fun W => rnew_any W)
  have HI := Lib.hid h
  have Hl := Lib.hid hl
  have Hr := Lib.hid hr
  have ek := tmod8 key
  have hkk : key % 8 ≤ 7 := by omega
  generalize key % 8 = kk at *
  have hset : tat (applyT new ⟨1, kk, old, 0⟩) kk = some old := by
    rw [(put_apply (t := new) (c := ⟨1, kk, old, 0⟩) (.inl rfl) hkk).1]
    exact tat_set_same (by show kk < 8; omega) _
  have hdone : doneB ⟨1, kk, old, 0⟩ = true := set_done (.inl rfl) hkk
  have HA0 : Hid (∀ W B b, OneG W B b new 0 → Calls Try.prog 10 #[repV b, .agg #[.int .u8 1, .int .u8 (kk : Nat), .int .u16 (old : Nat), .int .u16 0]] W (fun e w' => (∃ v, e = .returned v) ∧ OneG w' B b (applyT new ⟨1, kk, old, 0⟩) 1 ∧ Below B W w')) := Lib.hid fun W B b h1 => by
    refine (one_apply h1 (by omega) ⟨1, kk, old, 0⟩ ⟨by show 1 ≤ 255; omega, by show kk ≤ 255; omega, hold, by show 0 < 65536; omega⟩).mono ?_
    rintro e w' ⟨h2, h3, h4⟩
    rw [hdone] at h3
    exact ⟨⟨_, h2⟩, h3, tag_below h4 h1.1⟩
  have hb3 : ∀ x, badT ⟨3, kk, x, old⟩ = 0 ∧ doneB ⟨3, kk, x, old⟩ = true := fun x => by
    have := set_done (c := ⟨3, kk, x, old⟩) (.inr (.inr rfl)) hkk
    exact ⟨done_bad this, this⟩
  have HA : Hid (∀ x t W B b q, x < 65536 → q ≤ 1000000 → OneG W B b t q → Calls Try.prog 10 #[repV b, .agg #[.int .u8 3, .int .u8 (kk : Nat), .int .u16 (x : Nat), .int .u16 (old : Nat)]] W (fun e w' => e = .returned (.tuple #[.bool (toldT t ⟨3, kk, x, old⟩), .nilIface]) ∧ OneG w' B b (applyT t ⟨3, kk, x, old⟩) (q + 1) ∧ Below B W w')) := Lib.hid fun x t W B b q hx hq h1 => by
    refine (one_apply h1 hq ⟨3, kk, x, old⟩ ⟨by show 3 ≤ 255; omega, by show kk ≤ 255; omega, hx, hold⟩).mono ?_
    rintro e w' ⟨h2, h3, h4⟩
    rw [(hb3 x).1] at h2
    rw [(hb3 x).2] at h3
    exact ⟨h2, h3, tag_below h4 h1.1⟩
  have HK : Hid (∀ x y t W B b q, OneG W B b t q → tat t kk = some y → Calls Try.prog 17 #[repV b, .int .u8 (kk : Nat)] W (fun e w' => e = .returned (.tuple #[.int .u16 (y : Nat), .nilIface]) ∧ w' = W) ∧ tat (applyT t ⟨3, kk, x, old⟩) kk = some (if y = old then x else y) ∧ toldT t ⟨3, kk, x, old⟩ = decide ((if y = old then x else y) ≠ y)) := Lib.hid fun x y t W B b q h1 h2 => by
    refine ⟨?_, swap_apply h1.len hkk h2⟩
    have := one_ask h1 kk (by omega)
    rw [h2] at this
    exact this
  clear h hl hr hdone hb3 hkk
  unfold repV at HA0 HA HK
  go_enter Try.func7, Try.ntmps7
  go_wp2_with fail
  refine HW.out.mono ?_
  rintro e w1 ⟨rfl, hb1⟩
  have HB1 := Lib.hid hb1
  clear hb1 HW
  go_wp2_with fail
  refine (HN.out w1).mono ?_
  rintro e w2 hN
  have hG := OneG.new hN
  obtain ⟨rfl, -, hb2, -⟩ := hN
  unfold repV
  have HAw := Lib.hid (HA0.out _ _ _ hG)
  have HB2 := Lib.hid (HB1.out.trans (hb2.mono HB1.out.size))
  have HBz := Lib.hid HB1.out.size
  clear HA0 hG hb2 HB1 HN
  generalize w1.heap.size = B at *
  go_wp2_with fail
  refine HAw.out.mono ?_
  rintro e w3 ⟨⟨vv, rfl⟩, hG, hb⟩
  have HB3 := Lib.hid (HB2.out.trans (hb.mono HBz.out))
  have HS0 : Hid (SwR w B B kk n (.int .u16 (old : Nat)) (.int .i64 0) w3) := Lib.hid ⟨0, old, _, Nat.zero_le _, by omega, rfl, rfl, hold, hG, hset, HB3.out⟩
  clear hG hb HB2 HAw HB3 hset
  go_wp2_with fail
  go_loopw [8, 9] (SwR w B B kk n) (fun _ i _ => (101 - intOf i).toNat)
  case atStart => exact HS0.out
  case round =>
    clear HS0
    obtain ⟨k, v, t, hk, hk1, rfl, rfl, hv, hG, ht, hb⟩ := hrel
    by_cases hc : k < n ∧ k < 100
    case neg =>
      have HF : Hid (Tru14 w (.returned (.bool true)) wr) := Lib.hid ⟨rfl, hb⟩
      clear hG hb ht HA HK HI Hr
      by_cases hkn : k < n
      · have q1 : ¬ ((k : Int) < 100) := by omega
        have q2 : (k : Int) < (n : Int) := by omega
        clear hc hkn
        go_wp2_with fail
        go_ret
        exact HF.out
      · have q2 : ¬ ((k : Int) < (n : Int)) := by omega
        clear hc hkn
        go_wp2_with fail
        go_ret
        exact HF.out
    obtain ⟨hkn, hk9⟩ := hc
    obtain ⟨x, hx⟩ : ∃ x, l[k]? = some x := ⟨_, List.getElem?_eq_getElem (by rw [Hl.out]; exact hkn)⟩
    obtain ⟨ba, oa, rfl, -, hcell⟩ := (HI.out.below (Below.refl _ _)) (by rw [Hl.out]; omega)
    have c0 : wr.cell? ⟨ba, oa + k, none⟩ = some (.int .u16 (x : Nat)) := by
      have := (HI.out.below (hb)) (by rw [Hl.out]; omega)
      obtain ⟨b1, o1, e1, -, h1⟩ := this
      cases e1
      have := h1 k x hx 0 _ rfl
      simpa using this
    have hx6 := Hr.out x (List.mem_of_getElem? hx)
    have q1 : (k : Int) < (n : Int) := by omega
    have q2 : (k : Int) < 100 := by omega
    have e1 : IntKind.i64.wrap ((k : Int) + 1) = (k : Int) + 1 := IntWalk.i64_in _ (by omega)
    obtain ⟨-, ht2, hto⟩ := HK.out x v t wr B B _ hG ht
    have HAw := Lib.hid (HA.out x t wr B B (k + 1) hx6 (by omega) hG)
    have HKn := Lib.hid (fun y W (h1 : OneG W B B (applyT t ⟨3, kk, x, old⟩) (k + 1 + 1)) h2 => (HK.out 0 y _ W B B _ h1 h2).1)
    have HR : Hid (∀ y W, y < 65536 → OneG W B B (applyT t ⟨3, kk, x, old⟩) (k + 1 + 1) → tat (applyT t ⟨3, kk, x, old⟩) kk = some y → Below B wr W → SwR w B B kk n (.int .u16 (y : Nat)) (.int .i64 ((k : Int) + 1)) W) := Lib.hid fun y W hy h1 h2 h3 => ⟨k + 1, y, _, hkn, hk9, by go_num, rfl, hy, h1, h2, hb.trans (h3.mono HBz.out)⟩
    have Ht2 := Lib.hid ht2
    clear hx hcell hG ht hb HK HA HI Hr ht2 hk hk1 hkn hk9
    generalize applyT t ⟨3, kk, x, old⟩ = t' at *
    rw [hto] at HAw
    clear hto
    by_cases hvo : v = old
    · subst hvo
      rw [if_pos rfl] at Ht2 HAw
      go_wp2_with fail
      refine HAw.out.mono ?_
      rintro e w5 ⟨rfl, hG, hb⟩
      have HKw := Lib.hid (HKn.out _ _ hG Ht2.out)
      have HRw := Lib.hid (HR.out _ _ hx6 hG Ht2.out hb)
      clear hG hb HAw HKn HR c0
      by_cases hxv : x = v
      · subst hxv
        go_wp2_with fail
        refine HKw.out.mono ?_
        rintro e w6 ⟨rfl, rfl⟩
        go_wp2_with fail
        go_roundw
        case rel => exact HRw.out
        case measure => simp [intOf]; omega
      · have hne : ¬ ((x : Int) = (v : Int)) := by omega
        have hbn : ((x : Int) != (v : Int)) = true := bne_iff_ne.2 hne
        clear Hl
        have hne2 : decide (x ≠ v) = true := decide_eq_true hxv
        rw [hne2]
        clear hxv hne2
        go_wp2_with fail
        refine HKw.out.mono ?_
        rintro e w6 ⟨rfl, rfl⟩
        go_wp2_with fail
        go_roundw
        case rel => exact HRw.out
        case measure => simp [intOf]; omega
    · rw [if_neg hvo] at Ht2 HAw
      have hne : ¬ ((v : Int) = (old : Int)) := by omega
      have hd : decide (v ≠ v) = false := by simp
      rw [hd] at HAw
      clear hvo hd
      go_wp2_with fail
      refine HAw.out.mono ?_
      rintro e w5 ⟨rfl, hG, hb⟩
      have HKw := Lib.hid (HKn.out _ _ hG Ht2.out)
      have HRw := Lib.hid (HR.out _ _ hv hG Ht2.out hb)
      clear hG hb HAw HKn HR c0
      go_wp2_with fail
      refine HKw.out.mono ?_
      rintro e w6 ⟨rfl, rfl⟩
      go_wp2_with fail
      go_roundw
      case rel => exact HRw.out
      case measure => simp [intOf]; omega
end Go.Proofs.Ytcibnjcnbocbdaa
