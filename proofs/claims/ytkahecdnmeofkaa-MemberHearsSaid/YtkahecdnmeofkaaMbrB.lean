/- Contracts of Of, List, and of the document's Len (loops). Conditions: sets of eight bits; where the numbers lie. -/
import Derived.Test.YtkahecdnmeofkaaMbrA
namespace Go.Proofs.Ytkahecdnmeofkaa
open Go.RowKit
set_option maxRecDepth 100000

/-- append of one int to a row of the call's own. -/
theorem wpList_int1 {w0 : World} {ops : Array Oper} {rest : List Oper} {o : Oper} {a : Act} {Q : Exit → Act → World → Prop} (hgd : o.guard = none) (s x : Operand)
    (ho : o.op = .call { callee := .builtin .append, args := #[s, x], argTypes := #[22, 22] }) (B : Nat) (v : Value) (n : Nat) (l : List Int) (hs : a.eval s = v) (hown : w0.ownsRow B 3 1 v n (intV l))
    (y : Int) (hx : a.eval x = .slice (some ⟨w0.heap.size, 0, none⟩) 1 1) (hn : n ≤ 1000000) (hB : B ≤ w0.heap.size)
    (h : ∀ v' w', w'.ownsRow B 3 1 v' (n + 1) (intV (l ++ [y])) → Below B w0 w' → wpList Try.prog ops Q rest (a.put o.dst v') w') :
    wpList Try.prog ops Q (o :: rest) a (w0.alloc (.cells #[.int .i64 y] 3)) := by
  refine wpList_append_s hgd s x 22 ho B 3 (.int .i64 0) 1 8 Try.underlying22 infoInt rfl (by decide) v n (intV l) hs (ikeep hown ((Below.refl w0.heap.size w0).alloc (Nat.le_refl _) _)) (some ⟨w0.heap.size, 0, none⟩) 1 1 (intV [y]) hx rfl
    (fun _ => ⟨_, rfl, fun j u hj => ?_⟩) (intV_one [y]) (by unfold maxLen; omega) (by omega) (by simp; omega) ?_
  · match j, hj with
    | 0, hj => simp [intV] at hj; subst hj; simp [Addr.add]
  · intro v' w' h1 h2 _
    refine h v' w' (by rw [intV_append]; exact h1) ?_
    exact ((Below.refl B w0).alloc hB _).trans (h2.below (by simp; omega) (fun k e => ((hown.lt k e).1)))

def RLenR (s : Nat) (w : World) (n i : Value) (W : World) : Prop := ∃ k m, k ≤ 8 ∧ i = .int .i64 (k : Nat) ∧ n = .int .i64 (((List.range k).countP (fun j => s.testBit j) : Nat) : Int) ∧ W = w.drewN m
theorem cnt_step (s k : Nat) : (List.range (k + 1)).countP (fun j => s.testBit j) = (List.range k).countP (fun j => s.testBit j) + (s.testBit k).toNat := by
  rw [List.range_succ, List.countP_append]
  cases h : s.testBit k <;> simp [h]
theorem cnt_le (s k : Nat) : (List.range k).countP (fun j => s.testBit j) ≤ k := by
  have := List.countP_le_length (p := fun j => s.testBit j) (l := List.range k)
  simpa using this
theorem reflen_any (s : Nat) (hs : s < 256) (w : World) : Calls Try.prog 16 #[setV s] w (Quiet (.int .i64 (MbrP.len8 s : Nat)) w) := by
  have HB := Lib.hid (fun k (hk : k < 8) => MbrP.shr_bit hs hk)
  clear hs
  unfold setV
  go_enter Try.func16, Try.ntmps16
  go_wp2_with fail
  go_loopw [3, 4] (RLenR s w) (fun _ i _ => (9 - intOf i).toNat)
  case atStart => exact ⟨0, 0, Nat.zero_le _, rfl, rfl, rfl⟩
  case round =>
    obtain ⟨k, m, hk, rfl, rfl, rfl⟩ := hrel
    by_cases hk8 : k < 8
    case neg =>
      obtain rfl : k = 8 := by omega
      have HF : Hid (∀ m', Quiet (.int .i64 (MbrP.len8 s : Nat)) w (.returned (.int .i64 (((List.range 8).countP (fun j => s.testBit j) : Nat) : Int))) (w.drewN m')) := Lib.hid fun m' => ⟨rfl, _, rfl⟩
      generalize (List.range 8).countP (fun j => s.testBit j) = c at *
      clear hk hk8 HB
      go_wp2_with fail
      go_ret
      exact HF.out _
    have hb := HB.out k hk8
    simp only [Int.toNat_natCast] at hb
    have q1 : decide ((k : Int) < 8) = true := decide_eq_true (by omega)
    have e1 : IntKind.i64.wrap ((k : Int) + 1) = (k : Int) + 1 := IntWalk.i64_in _ (by omega)
    have hc : (List.range k).countP (fun j => s.testBit j) ≤ 8 := Nat.le_trans (cnt_le s k) hk
    have hst := cnt_step s k
    cases ht : s.testBit k with
    | false =>
      rw [ht] at hb hst
      have HR : Hid (∀ m', RLenR s w (.int .i64 (((List.range k).countP (fun j => s.testBit j) : Nat) : Int)) (.int .i64 ((k : Int) + 1)) (w.drewN m')) := Lib.hid fun m' => ⟨k + 1, m', hk8, by go_num, by rw [hst]; rfl, rfl⟩
      generalize (List.range k).countP (fun j => s.testBit j) = c at *
      simp only [Bool.toNat_false] at hb
      clear HB hst ht
      go_wp2_with fail
      go_roundw
      case rel => exact HR.out _
      case measure => simp [intOf]; omega
    | true =>
      rw [ht] at hb hst
      have HR : Hid (∀ m', RLenR s w (.int .i64 ((((List.range k).countP (fun j => s.testBit j) : Nat) : Int) + 1)) (.int .i64 ((k : Int) + 1)) (w.drewN m')) := Lib.hid fun m' => ⟨k + 1, m', hk8, by go_num, by rw [hst]; rfl, rfl⟩
      generalize (List.range k).countP (fun j => s.testBit j) = c at *
      simp only [Bool.toNat_true] at hb
      have e2 : IntKind.i64.wrap ((c : Int) + 1) = (c : Int) + 1 := IntWalk.i64_in _ (by omega)
      clear HB hst ht
      go_wp2_with fail
      go_roundw
      case rel => exact HR.out _
      case measure => simp [intOf]; omega

def OfR (l : List Int) (w : World) (s i : Value) (W : World) : Prop := ∃ k m, k ≤ l.length ∧ i = .int .i64 (k : Nat) ∧ s = setV (MbrP.ofT (l.take k)) ∧ W = w.drewN m
theorem of_any (A : Option Addr) (n cap : Nat) (l : List Int) (hl : l.length = n) (hn : n ≤ 1000000) (w : World) (h : IntsIn w A l) : Calls Try.prog 10 #[.slice A n cap] w (Quiet (setV (MbrP.ofT l)) w) := by
  have HI := Lib.hid h
  have Hl := Lib.hid hl
  have HS0 : Hid (OfR l w (setV 0) (.int .i64 0) w) := Lib.hid ⟨0, 0, Nat.zero_le _, rfl, rfl, rfl⟩
  have HW := Lib.hid (fun k (x : Int) (W : World) => with_any (MbrP.ofT (l.take k)) (Nat.lt_trans (MbrP.ofT_in _) (by decide)) x W)
  clear h hl
  unfold setV at *
  go_enter Try.func10, Try.ntmps10
  go_wp2_with fail
  go_loopw [3, 8] (OfR l w) (fun _ i _ => (n + 1 - intOf i).toNat)
  case atStart => exact HS0.out
  case round =>
    clear HS0
    obtain ⟨k, m, hk, rfl, rfl, rfl⟩ := hrel
    by_cases hkn : k < n
    case neg =>
      obtain rfl : k = n := by have := Hl.out; omega
      have HF : Hid (∀ m', Quiet (setV (MbrP.ofT l)) w (.returned (setV (MbrP.ofT (l.take k)))) (w.drewN m')) := Lib.hid fun m' => ⟨by rw [← Hl.out, List.take_length], _, rfl⟩
      have q1 : decide ((k : Int) < (k : Int)) = false := decide_eq_false (by omega)
      unfold setV at *
      clear hk hkn HI HW
      go_wp2_with fail
      go_ret
      exact HF.out _
    obtain ⟨x, hx⟩ : ∃ x, l[k]? = some x := ⟨_, List.getElem?_eq_getElem (by rw [Hl.out]; exact hkn)⟩
    obtain ⟨ba, oa, rfl, -, c0⟩ := HI.out.at_ hx
    have q1 : decide ((k : Int) < (n : Int)) = true := decide_eq_true (by omega)
    have hkz : (k : Int) < (n : Int) := by omega
    have e1 : IntKind.i64.wrap ((k : Int) + 1) = (k : Int) + 1 := IntWalk.i64_in _ (by omega)
    have HWk := Lib.hid (HW.out k x)
    have HR : Hid (∀ m', OfR l w (setV (MbrP.withT (MbrP.ofT (l.take k)) x)) (.int .i64 ((k : Int) + 1)) (w.drewN m')) := Lib.hid fun m' => ⟨k + 1, m', by rw [Hl.out]; exact hkn, by go_num, by rw [MbrP.ofT_take hx], rfl⟩
    unfold setV at *
    clear hk hx HI HW
    go_wp2_with fail
    refine (HWk.out _).mono ?_
    rintro e w1 ⟨rfl, rfl⟩
    go_wp2_with fail
    go_roundw
    case rel => exact HR.out _
    case measure => simp [intOf]; omega

def ListP (s : Nat) (w : World) (e : Ending) (w' : World) : Prop := ∃ v, e = .returned v ∧ w'.ownsRow w.heap.size 3 1 v (MbrP.lst s).length (intV (MbrP.ints (MbrP.lst s))) ∧ Below w.heap.size w w'
def lstK (s k : Nat) : List Nat := (List.range k).filter (fun n => s.testBit n)
theorem lstK_length (s k : Nat) : (lstK s k).length ≤ k := by unfold lstK; exact Nat.le_trans (List.length_filter_le _ _) (by simp)
theorem lstK_step (s k : Nat) : lstK s (k + 1) = if s.testBit k = true then lstK s k ++ [k] else lstK s k := by
  unfold lstK
  rw [List.range_succ, List.filter_append]
  split
  · rename_i h; simp [h]
  · rename_i h; simp [h]
def LisR (s : Nat) (w : World) (v i : Value) (W : World) : Prop := ∃ k, k ≤ 7 ∧ i = .int .i64 (k : Nat) ∧ W.ownsRow w.heap.size 3 1 v (lstK s k).length (intV (MbrP.ints (lstK s k))) ∧ Below w.heap.size w W
theorem list_any (s : Nat) (hs : s < 256) (w : World) : Calls Try.prog 18 #[setV s] w (ListP s w) := by
  have HH := Lib.hid (fun (k : Nat) (hk : k < 7) W => (by have h := has_any s hs (k : Int) W; rw [MbrP.hasT_in hs hk] at h; exact h : Calls Try.prog 11 #[setV s, .int .i64 (k : Int)] W (PureM (.bool (s.testBit k)) W)))
  have HS0 : Hid (LisR s w (.slice none 0 0) (.int .i64 0) w) := Lib.hid ⟨0, by omega, rfl, ⟨rfl, .inl ⟨rfl, rfl⟩⟩, Below.refl _ _⟩
  unfold setV at *
  clear hs
  go_enter Try.func18, Try.ntmps18
  go_wp2_with fail
  go_loopw [3, 5] (LisR s w) (fun _ i _ => (8 - intOf i).toNat)
  case atStart => exact HS0.out
  case round =>
    clear HS0
    obtain ⟨k, hk, rfl, hO, hB⟩ := hrel
    obtain ⟨Av, cv, rfl, -⟩ := own_slice hO
    by_cases hk7 : k < 7
    case neg =>
      obtain rfl : k = 7 := by omega
      have HF : Hid (∀ W, Below wr.heap.size wr W → ListP s w (.returned (.slice Av (lstK s 7).length cv)) W) := Lib.hid fun W hW => ⟨_, rfl, ikeep hO hW, hB.trans (hW.mono hB.size)⟩
      clear hO hB HH
      go_wp2_with fail
      go_ret
      exact HF.out _ (Below.refl _ _)
    have q1 : decide ((k : Int) < 7) = true := decide_eq_true (by omega)
    have e1 : IntKind.i64.wrap ((k : Int) + 1) = (k : Int) + 1 := IntWalk.i64_in _ (by omega)
    have HHk := Lib.hid (HH.out k hk7)
    have hst := lstK_step s k
    have hlen := lstK_length s k
    cases ht : s.testBit k with
    | false =>
      rw [ht] at HHk
      rw [ht, if_neg (by decide)] at hst
      have HR : Hid (LisR s w (.slice Av (lstK s k).length cv) (.int .i64 ((k : Int) + 1)) wr) := Lib.hid ⟨k + 1, hk7, by go_num, by rw [hst]; exact hO, hB⟩
      clear hO hB HH hst
      go_wp2_with fail
      refine (HHk.out _).mono ?_
      rintro e w1 ⟨rfl, rfl⟩
      go_wp2_with fail
      go_roundw
      case rel => exact HR.out
      case measure => simp [intOf]; omega
    | true =>
      rw [ht] at HHk
      rw [ht, if_pos rfl] at hst
      have HO := Lib.hid hO
      have HBw := Lib.hid hB
      clear hO hB HH
      go_wp2_with fail
      refine (HHk.out _).mono ?_
      rintro e w1 ⟨rfl, rfl⟩
      go_wp2_with (at_builtin
                   refine wpList_int1 rfl (.tmp 11) (.tmp 13) rfl w.heap.size _ _ (MbrP.ints (lstK s k)) rfl HO.out (k : Int) rfl (by omega) HBw.out.size ?_
                   intro v2 w2 ho2 hb2
                   have HR : Hid (LisR s w v2 (.int .i64 ((k : Int) + 1)) w2) := Lib.hid ⟨k + 1, hk7, by go_num, by rw [hst]; simpa [MbrP.ints] using ho2, HBw.out.trans hb2⟩
                   clear ho2 hb2 HO HBw hst)
      go_roundw
      case rel => exact HR.out
      case measure => simp [intOf]; omega
end Go.Proofs.Ytkahecdnmeofkaa
