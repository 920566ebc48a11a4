/- Contracts of bearers, votes, Right, Members. Conditions: where what was heard lies. -/
import Derived.Test.YtkahecdnmeofkaaMbrF
import Derived.Test.YtkahecdnmeofkaaMidF
namespace Go.Proofs.Ytkahecdnmeofkaa
open Go.RowKit
set_option maxRecDepth 100000

def stOf (fs : List FrameC) (n : Nat) : Nat × Nat := ((fs[n]?.getD zeroC).round, (fs[n]?.getD zeroC).members)
theorem stOf_at {fs : List FrameC} {n : Nat} {x : FrameC} (h : fs[n]? = some x) : stOf fs n = (x.round, x.members) := by unfold stOf; rw [h]; rfl
def BearP (s : Nat) (fs : List FrameC) (r m : Nat) (w : World) (e : Ending) (w' : World) : Prop := e = .returned (setV (MbrP.bear s (stOf fs) (r, m))) ∧ Below w.heap.size w w'
def BeaR (s : Nat) (fs : List FrameC) (r m : Nat) (w : World) (sv i : Value) (W : World) : Prop :=
  ∃ k j, k ≤ (MbrP.lst s).length ∧ i = .int .i64 (k : Nat) ∧ sv = setV (MbrP.ofT (MbrP.ints (((MbrP.lst s).take k).filter (fun n => decide (stOf fs n = (r, m)))))) ∧ W = w.drewN j
set_option maxHeartbeats 2000000 in
theorem bearers_any (mr mm s : Nat) (known : Bool) (fs : List FrameC) (r m : Nat) (b : Nat) (w : World) (h : HeardIn w b mr mm known s fs) : Calls Try.prog 34 #[hv b, stampV r m] w (BearP s fs r m w) := by
  have HB := Lib.hid (fun o => (Below.refl w.heap.size w).alloc (Nat.le_refl _) o)
  have HL := Lib.hid (fun W => list_any s (Nat.lt_trans h.small (by decide)) W)
  have HH := Lib.hid (fun o => h.below ((Below.refl w.heap.size w).alloc (Nat.le_refl _) o))
  have hlen := h.len
  have c3 := h.c3
  have hsz := h.size
  have hll := MbrP.lst_length s
  clear h
  unfold hv stampV
  unfold setV at HL
  go_enter Try.func34, Try.ntmps34
  go_wp2_with fail
  refine (HL.out _).mono ?_
  rintro e w2 ⟨v2, rfl, ho2, hb2⟩
  have hs2 : w.heap.size + 1 ≤ w2.heap.size := by have := hb2.size; simpa using this
  obtain ⟨A2, c2, rfl, hc2, hl2, hi2⟩ := own_ints ho2
  have hb := (HB.out (.cells #[.int .u32 (r : Nat), .int .u8 (m : Nat)] 36)).trans (hb2.mono (by simp))
  have hn2 := (hb2.block w.heap.size (by simp)).trans (heap_alloc_new w (.cells #[.int .u32 (r : Nat), .int .u8 (m : Nat)] 36))
  have HH2 := Lib.hid ((HH.out (.cells #[.int .u32 (r : Nat), .int .u8 (m : Nat)] 36)).below hb2)
  have kb0 : w2.cell? ⟨w.heap.size, 0, none⟩ = some (.int .u32 (r : Nat)) := cell_at hn2 0 rfl
  have kb1 : w2.cell? ⟨w.heap.size, 1, none⟩ = some (.int .u8 (m : Nat)) := cell_at hn2 1 rfl
  have HI := Lib.hid hi2
  have Hb2 := Lib.hid hb
  have HS0 : Hid (BeaR s fs r m w2 (.int .u8 0) (.int .i64 0) w2) := Lib.hid ⟨0, 0, Nat.zero_le _, rfl, rfl, rfl⟩
  have HWi := Lib.hid (fun k (x : Int) (W : World) => with_any (MbrP.ofT (MbrP.ints (((MbrP.lst s).take k).filter (fun n => decide (stOf fs n = (r, m)))))) (Nat.lt_trans (MbrP.ofT_in _) (by decide)) x W)
  clear ho2 hb2 hi2 hn2 HH HL HB hl2 hb c3
  generalize hN : (MbrP.lst s).length = N at *
  have HLl := Lib.hid hN
  clear hN
  unfold BearP
  go_wp2_with fail
  go_loopw [5, 14] (BeaR s fs r m w2) (fun _ i _ => (8 - intOf i).toNat)
  case atStart => exact HS0.out
  case round =>
    clear HS0
    obtain ⟨k, j, hk, rfl, rfl, rfl⟩ := hrel
    rw [HLl.out] at hk
    by_cases hkn : k < N
    case neg =>
      obtain rfl : k = N := by omega
      have HF : Hid (∀ m', BearP s fs r m w (.returned (setV (MbrP.ofT (MbrP.ints (((MbrP.lst s).take k).filter (fun n => decide (stOf fs n = (r, m)))))))) (w2.drewN m')) := Lib.hid fun m' => ⟨by rw [← HLl.out, List.take_length]; rfl, below_drewNc Hb2.out m'⟩
      have q1 : decide ((k : Int) < (k : Int)) = false := decide_eq_false (by omega)
      unfold setV at HF
      generalize MbrP.ofT (MbrP.ints (((MbrP.lst s).take k).filter (fun n => decide (stOf fs n = (r, m))))) = z at *
      unfold setV
      clear hk hkn HI HWi kb0 kb1 HH2
      go_wp2_with fail
      go_ret
      exact HF.out _
    obtain ⟨n, hn⟩ : ∃ n, (MbrP.lst s)[k]? = some n := ⟨_, List.getElem?_eq_getElem (by rw [HLl.out]; exact hkn)⟩
    have hn7 : n < 7 := MbrP.lst_lt (List.mem_of_getElem? hn)
    obtain ⟨x, hx⟩ : ∃ x, fs[n]? = some x := ⟨_, List.getElem?_eq_getElem (by omega)⟩
    obtain ⟨ba, oa, rfl, -, c0⟩ := HI.out.at_ (MbrP.ints_get hn)
    have f1 : w2.cell? ⟨b, 4 + n * 9 + 1, none⟩ = some (.int .u32 (x.round : Nat)) := HH2.out.fc hx rfl
    have f2 : w2.cell? ⟨b, 4 + n * 9 + 2, none⟩ = some (.int .u8 (x.members : Nat)) := HH2.out.fc hx rfl
    have q1 : decide ((k : Int) < (N : Int)) = true := decide_eq_true (by omega)
    have hkz : (k : Int) < (N : Int) := by omega
    have hnz : (n : Int) < 7 := by omega
    have e1 : IntKind.i64.wrap ((k : Int) + 1) = (k : Int) + 1 := IntWalk.i64_in _ (by omega)
    have hst := MbrP.sub_take (p := fun n => decide (stOf fs n = (r, m))) hn
    have hsx := stOf_at hx
    have HWk := Lib.hid (HWi.out k n)
    by_cases hp : stOf fs n = (r, m)
    case pos =>
      rw [if_pos (by simpa using hp)] at hst
      rw [hsx] at hp
      obtain ⟨rfl, rfl⟩ := Prod.mk.inj hp
      have HR : Hid (∀ m', BeaR s fs x.round x.members w2 (setV (MbrP.withT (MbrP.ofT (MbrP.ints (((MbrP.lst s).take k).filter (fun n => decide (stOf fs n = (x.round, x.members)))))) n)) (.int .i64 ((k : Int) + 1)) (w2.drewN m')) := Lib.hid fun m' => ⟨k + 1, m', by rw [HLl.out]; exact hkn, by go_num, by rw [hst], rfl⟩
      unfold setV at *
      generalize MbrP.ofT (MbrP.ints (((MbrP.lst s).take k).filter (fun n => decide (stOf fs n = (x.round, x.members))))) = z at *
      clear hk hx HI HWi hst hsx hn hp HH2
      go_wp2_with fail
      go_quiet (fail)
      go_wp2_with fail
      refine (HWk.out _).mono ?_
      rintro e w1 ⟨rfl, rfl⟩
      go_wp2_with fail
      go_roundw
      case rel => exact HR.out _
      case measure => simp [intOf]; omega
    · rw [if_neg (by simpa using hp)] at hst
      rw [hsx] at hp
      have HR : Hid (∀ m', BeaR s fs r m w2 (setV (MbrP.ofT (MbrP.ints (((MbrP.lst s).take k).filter (fun n => decide (stOf fs n = (r, m))))))) (.int .i64 ((k : Int) + 1)) (w2.drewN m')) := Lib.hid fun m' => ⟨k + 1, m', by rw [HLl.out]; exact hkn, by go_num, by rw [hst], rfl⟩
      unfold setV at *
      generalize MbrP.ofT (MbrP.ints (((MbrP.lst s).take k).filter (fun n => decide (stOf fs n = (r, m))))) = z at *
      generalize x.round = xr at *
      generalize x.members = xm at *
      clear hk hx HI HWi hst hsx hn HH2 HWk
      by_cases hr : xr = r
      · subst hr
        have hm : ¬ xm = m := fun e => hp (by rw [e])
        have q4 : ((xm : Int) == (m : Int)) = false := by rw [beq_eq_false_iff_ne]; omega
        clear hp
        go_wp2_with fail
        go_quiet (fail)
        go_wp2_with fail
        go_roundw
        case rel => exact HR.out _
        case measure => simp [intOf]; omega
      · have q4 : ((xr : Int) == (r : Int)) = false := by rw [beq_eq_false_iff_ne]; omega
        clear hp
        go_wp2_with fail
        go_quiet (fail)
        go_wp2_with fail
        go_roundw
        case rel => exact HR.out _
        case measure => simp [intOf]; omega
end Go.Proofs.Ytkahecdnmeofkaa
