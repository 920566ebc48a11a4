/- Contract of the document's Right. Conditions: where what it gathered lies. -/
import Derived.Test.YtkahecdnmeofkaaMbrR
namespace Go.Proofs.Ytkahecdnmeofkaa
open Go.RowKit
set_option maxRecDepth 100000

theorem refright_known (B rb mr mm : Nat) (v : Value) (got : List FrameC) (w : World) (h : RefH w B rb mr mm true v got) : Calls Try.prog 24 #[hv rb] w (RightP (some (mr, mm)) w) := by
  have HB := Lib.hid (fun o => (Below.refl w.heap.size w).alloc (Nat.le_refl _) o)
  have c0 := h.c0
  have c1 := h.c1
  have c2 := h.c2
  have hsz := h.size
  unfold hv
  clear h
  go_enter Try.func24, Try.ntmps24
  go_wp2_with fail
  have hn := heap_alloc_new w (.cells #[.int .u32 (mr : Nat), .int .u8 (mm : Nat)] 36)
  have r0 := cell_at hn 0 rfl
  have r1 := cell_at hn 1 rfl
  refine bodyPost_ret (v := rightV (some (mr, mm))) (by simp [results, Try.results24, go_sem, rightV, stampV, r0, r1]) rfl ?_
  exact ⟨rfl, HB.out _⟩
def RRiR (got : List FrameC) (w5 : World) (i : Value) (W : World) : Prop := ∃ j m, j ≤ got.length ∧ i = .int .i64 (j : Nat) ∧ (∀ p x, p < j → got[p]? = some x → ¬ MbrP.Most (gstamps got) (gst x)) ∧ W = w5.drewN m
def RRiI (got : List FrameC) (s : Nat × Nat) (w5 : World) (n i : Value) (W : World) : Prop := ∃ q m, q ≤ got.length ∧ i = .int .i64 (q : Nat) ∧ n = .int .i64 (((got.take q).countP (fun y => decide (gst y = s)) : Nat) : Int) ∧ W = w5.drewN m
theorem rcnt_step {got : List FrameC} {q : Nat} {y : FrameC} {s : Nat × Nat} (h : got[q]? = some y) : (got.take (q + 1)).countP (fun y => decide (gst y = s)) = (got.take q).countP (fun y => decide (gst y = s)) + (if gst y = s then 1 else 0) := by
  rw [List.take_add_one, h, List.countP_append]
  by_cases hy : gst y = s <;> simp [hy]
theorem rcnt_le {got : List FrameC} {q : Nat} {s : Nat × Nat} : (got.take q).countP (fun y => decide (gst y = s)) ≤ got.length := Nat.le_trans (List.countP_le_length) (by rw [List.length_take]; omega)
theorem rcnt_all {got : List FrameC} {s : Nat × Nat} : MbrP.cnt s (gstamps got) = (got.take got.length).countP (fun y => decide (gst y = s)) := by
  unfold MbrP.cnt gstamps
  rw [List.countP_map, List.take_length]
  rfl
set_option maxHeartbeats 4000000 in
theorem refright_most (B rb mr mm : Nat) (v : Value) (got : List FrameC) (hg : got.length ≤ 7) (w : World) (h : RefH w B rb mr mm false v got) : Calls Try.prog 24 #[hv rb] w (RightP (MbrP.mostT (gstamps got)) w) := by
  obtain ⟨Av, cv, rfl, -⟩ := own_slice h.own
  have HB := Lib.hid ((Below.refl w.heap.size w).alloc (Nat.le_refl _) (.cells #[.int .u32 0, .int .u8 0] 36))
  have HH := Lib.hid (h.below HB.out)
  have hn := heap_alloc_new w (.cells #[.int .u32 0, .int .u8 0] 36)
  have hs5 : w.heap.size < (w.alloc (.cells #[.int .u32 0, .int .u8 0] 36)).heap.size := by simp
  have c2 := h.c2
  have hsz := h.size
  clear h
  have HNone : Hid ((∀ p x, p < got.length → got[p]? = some x → ¬ MbrP.Most (gstamps got) (gst x)) → MbrP.mostT (gstamps got) = none) := Lib.hid fun hno => MbrP.mostT_no fun s hs => by
    obtain ⟨x, hx, rfl⟩ := List.mem_map.1 hs
    obtain ⟨p, hp⟩ := List.getElem?_of_mem hx
    exact hno p x (List.getElem?_eq_some_iff.1 hp).1 hp
  have HSome : Hid (∀ s, MbrP.Most (gstamps got) s → MbrP.mostT (gstamps got) = some s) := Lib.hid fun s hs => MbrP.mostT_yes hs
  have hgl : (gstamps got).length = got.length := List.length_map _
  unfold hv
  go_enter Try.func24, Try.ntmps24
  go_wp2_with fail
  clear c2
  generalize w.alloc (.cells #[.int .u32 0, .int .u8 0] 36) = w5 at *
  have Hn5 := Lib.hid (fun (m : Nat) u0 u1 => two_set (W := w5.drewN m) hn u0 u1)
  have HBw := Lib.hid (fun (m : Nat) u0 u1 => ((below_drewNc HB.out m).setCell (p := ⟨w.heap.size, 0, none⟩) (Nat.le_refl _) u0).setCell (p := ⟨w.heap.size, 1, none⟩) (Nat.le_refl _) u1)
  have n0 : w5.cell? ⟨w.heap.size, 0, none⟩ = some (.int .u32 0) := cell_at hn 0 rfl
  have n1 : w5.cell? ⟨w.heap.size, 1, none⟩ = some (.int .u8 0) := cell_at hn 1 rfl
  have nf := fun i => free_at hn i
  clear hn HB
  go_loopw [4] (RRiR got w5) (fun i _ => (8 - intOf i).toNat)
  case atStart => exact ⟨0, 0, Nat.zero_le _, rfl, fun p x hp => by omega, rfl⟩
  case round =>
    obtain ⟨j, m, hj, rfl, hno, rfl⟩ := hrel
    have c3 := HH.out.c3
    have hrb5 := HH.out.size
    by_cases hjN : j < got.length
    case neg =>
      obtain rfl : j = got.length := by omega
      have hM := HNone.out hno
      have q3 : decide ((got.length : Int) < (got.length : Int)) = false := decide_eq_false (by omega)
      clear HNone HSome HH hno hj hjN
      go_wp2_with fail
      have hf := Hn5.out m (.int .u32 0) (.int .u8 0)
      have r0 := cell_at hf 0 rfl
      have r1 := cell_at hf 1 rfl
      refine bodyPost_ret (v := rightV none) (by simp [results, Try.results24, go_sem, rightV, stampV, r0, r1]) rfl ?_
      rw [hM]
      exact ⟨rfl, HBw.out _ _ _⟩
    obtain ⟨x, hx⟩ : ∃ x, got[j]? = some x := ⟨_, List.getElem?_eq_getElem hjN⟩
    obtain ⟨g, rfl, -, hfc⟩ := HH.out.fr hx
    have f1 : w5.cell? ⟨g, j * 9 + 1, none⟩ = some (.int .u32 (x.round : Nat)) := hfc 1 _ rfl
    have f2 : w5.cell? ⟨g, j * 9 + 2, none⟩ = some (.int .u8 (x.members : Nat)) := hfc 2 _ rfl
    have HFr := Lib.hid (fun (q : Nat) (y : FrameC) (hy : got[q]? = some y) => (by
      obtain ⟨g', e, -, hc⟩ := HH.out.fr hy
      cases e
      exact ⟨hc 1 _ rfl, hc 2 _ rfl⟩ : w5.cell? ⟨g, q * 9 + 1, none⟩ = some (.int .u32 (y.round : Nat)) ∧ w5.cell? ⟨g, q * 9 + 2, none⟩ = some (.int .u8 (y.members : Nat))))
    have HGo : Hid (¬ MbrP.Most (gstamps got) (gst x) → ∀ m' : Nat, RRiR got w5 (.int .i64 ((j : Int) + 1)) (w5.drewN m')) := Lib.hid fun hne m' => ⟨j + 1, m', hjN, by go_num, fun p y hp hy => by
      by_cases hpj : p = j
      · subst hpj; rw [hx] at hy; obtain rfl := Option.some.inj hy; exact hne
      · exact hno p y (by omega) hy, rfl⟩
    have HSx := Lib.hid (HSome.out (gst x))
    have hcx := rcnt_all (got := got) (s := gst x)
    have HMo : Hid (MbrP.Most (gstamps got) (gst x) ↔ got.length < 2 * (got.take got.length).countP (fun y => decide (gst y = gst x))) := Lib.hid (by unfold MbrP.Most; rw [hgl, hcx])
    have q3 : decide ((j : Int) < (got.length : Int)) = true := decide_eq_true (by omega)
    have hjz : (j : Int) < (got.length : Int) := by omega
    have e2 : IntKind.i64.wrap ((j : Int) + 1) = (j : Int) + 1 := IntWalk.i64_in _ (by omega)
    have hgs : gst x = (x.round, x.members) := rfl
    clear hfc HNone HSome HH hno hcx hgl hj
    go_wp2_with fail
    go_loopw [5, 6] (RRiI got (gst x) w5) (fun _ i _ => (8 - intOf i).toNat)
    case atStart => exact ⟨0, m, Nat.zero_le _, rfl, by simp, rfl⟩
    case round =>
      obtain ⟨q, m2, hq, rfl, rfl, rfl⟩ := hrel
      have hcl := rcnt_le (got := got) (q := q) (s := gst x)
      by_cases hqN : q < got.length
      case pos =>
        obtain ⟨y, hy⟩ : ∃ y, got[q]? = some y := ⟨_, List.getElem?_eq_getElem hqN⟩
        obtain ⟨g1, g2⟩ := HFr.out q y hy
        have hst := rcnt_step (s := gst x) hy
        have q4 : decide ((q : Int) < (got.length : Int)) = true := decide_eq_true (by omega)
        have hqz : (q : Int) < (got.length : Int) := by omega
        have e3 : IntKind.i64.wrap ((q : Int) + 1) = (q : Int) + 1 := IntWalk.i64_in _ (by omega)
        have hgy : gst y = (y.round, y.members) := rfl
        clear HGo HSx HMo HFr hy
        by_cases hyx : gst y = gst x
        case pos =>
          rw [if_pos hyx] at hst
          have HR : Hid (∀ m', RRiI got (gst x) w5 (.int .i64 ((((got.take q).countP (fun y => decide (gst y = gst x)) : Nat) : Int) + 1)) (.int .i64 ((q : Int) + 1)) (w5.drewN m')) := Lib.hid fun m' => ⟨q + 1, m', hqN, by go_num, by rw [hst]; rfl, rfl⟩
          rw [hgs, hgy] at hyx
          obtain ⟨hr, hm⟩ := Prod.mk.inj hyx
          rw [hr] at g1
          rw [hm] at g2
          generalize (got.take q).countP (fun y => decide (gst y = gst x)) = c at *
          have e4 : IntKind.i64.wrap ((c : Int) + 1) = (c : Int) + 1 := IntWalk.i64_in _ (by omega)
          clear hst hyx hr hm hgs hgy
          generalize got.length = L at *
          go_wp2_with fail
          go_quiet (fail)
          go_wp2_with fail
          go_roundw
          case rel => exact HR.out _
          case measure => simp [intOf]; omega
        rw [if_neg hyx] at hst
        have HR : Hid (∀ m', RRiI got (gst x) w5 (.int .i64 (((got.take q).countP (fun y => decide (gst y = gst x)) : Nat) : Int)) (.int .i64 ((q : Int) + 1)) (w5.drewN m')) := Lib.hid fun m' => ⟨q + 1, m', hqN, by go_num, by rw [hst]; rfl, rfl⟩
        rw [hgs, hgy] at hyx
        generalize (got.take q).countP (fun y => decide (gst y = gst x)) = c at *
        clear hst hgs hgy
        generalize y.round = yr at *
        generalize y.members = ym at *
        generalize x.round = xr at *
        generalize x.members = xm at *
        generalize got.length = L at *
        by_cases hr : yr = xr
        · subst hr
          have hm : ¬ ym = xm := fun e => hyx (by rw [e])
          have q5 : ((ym : Int) == (xm : Int)) = false := by rw [beq_eq_false_iff_ne]; omega
          clear hyx
          go_wp2_with fail
          go_quiet (fail)
          go_wp2_with fail
          go_roundw
          case rel => exact HR.out _
          case measure => simp [intOf]; omega
        · have q5 : ((yr : Int) == (xr : Int)) = false := by rw [beq_eq_false_iff_ne]; omega
          clear hyx
          go_wp2_with fail
          go_quiet (fail)
          go_wp2_with fail
          go_roundw
          case rel => exact HR.out _
          case measure => simp [intOf]; omega
      obtain rfl : q = got.length := by omega
      have q4 : decide ((got.length : Int) < (got.length : Int)) = false := decide_eq_false (by omega)
      have HMo2 := Lib.hid HMo.out
      generalize (got.take got.length).countP (fun y => decide (gst y = gst x)) = c at *
      have e5 : IntKind.i64.wrap (2 * (c : Int)) = 2 * (c : Int) := IntWalk.i64_in _ (by omega)
      clear HFr HMo hq hqN
      by_cases hmost : got.length < 2 * c
      case pos =>
        have hM := HSx.out (HMo2.out.2 hmost)
        have q6 : decide (2 * (c : Int) > (got.length : Int)) = true := decide_eq_true (by omega)
        clear HGo HSx HMo2
        generalize got.length = L at *
        go_wp2_with fail
        have hf := Hn5.out m2 (.int .u32 (x.round : Nat)) (.int .u8 (x.members : Nat))
        have r0 := cell_at hf 0 rfl
        have r1 := cell_at hf 1 rfl
        refine bodyPost_ret (v := rightV (some (x.round, x.members))) (by simp [results, Try.results24, go_sem, rightV, stampV, r0, r1]) rfl ?_
        rw [hM]
        exact ⟨rfl, HBw.out _ _ _⟩
      have HGo2 := Lib.hid (HGo.out (fun e => hmost (HMo2.out.1 e)))
      have q6 : decide (2 * (c : Int) > (got.length : Int)) = false := decide_eq_false (by omega)
      clear HGo HSx HMo2
      generalize got.length = L at *
      go_wp2_with fail
      go_roundw
      case rel => exact HGo2.out _
      case measure => simp [intOf]; omega
theorem refright_any (B rb mr mm : Nat) (known : Bool) (v : Value) (got : List FrameC) (hg : got.length ≤ 7) (w : World) (h : RefH w B rb mr mm known v got) : Calls Try.prog 24 #[hv rb] w (RightP (MbrP.rightT known (mr, mm) (gstamps got)) w) := by
  cases known with
  | true => exact refright_known B rb mr mm v got w h
  | false => exact refright_most B rb mr mm v got hg w h
end Go.Proofs.Ytkahecdnmeofkaa
