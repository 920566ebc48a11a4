/- Contract of Vote: the value that more than half of some tables have. Conditions: where the tables and their list lie. -/
import Derived.Test.YtcibnjcnbocbdaaRepU
namespace Go.Proofs.Ytcibnjcnbocbdaa
open Go.RowKit RepP Go.Maps
set_option maxRecDepth 100000

def u16L (v : Nat) : Lit := .int .u16 (v : Nat)
def i64D (n : Nat) : DataW Unit := .lit (.int .i64 (n : Nat))
theorem u16L_ne {j k : Nat} (h : j ≠ k) : u16L j ≠ u16L k := fun e => by simp [u16L] at e; omega
theorem keyU16 : Keyed Try.prog 27 := int_keyed Try.underlying27
theorem zeroI14 (w : World) : (zeroValue 3).run Try.prog w = .ok (.int .i64 0) w := by kernel_rfl
theorem keyOfU16 {v : Nat} (h : v < 65536) : keyOf Try.prog 27 (.int .u16 (v : Nat)) = some (u16L v) := keyOf_int_mk Try.underlying27 (u16L_wf h)
theorem i64_wf14 {n : Nat} (h : n ≤ 1000000) : (Lit.int .i64 (n : Nat)).wf = true := by
  show (decide (IntKind.min .i64 ≤ (n : Int)) && decide ((n : Int) ≤ IntKind.max .i64)) = true
  rw [show IntKind.min .i64 = -9223372036854775808 from by decide, show IntKind.max .i64 = 9223372036854775807 from by decide]
  simp; omega
/-- A map of counts tells how many of a list are each value. -/
def CTied (D : DataW Unit) (l : List (Option Nat)) : Prop := ∀ v : Nat, D.atKey (u16L v) (i64D 0) = i64D (cntI l (valI (some v)))
theorem CTied.start : CTied (.map []) [] := fun v => by kernel_rfl
theorem cntI_snoc (l : List (Option Nat)) (o : Option Nat) (x : Int) : cntI (l ++ [o]) x = cntI l x + if valI o = x then 1 else 0 := by
  unfold cntI
  rw [List.countP_append, List.countP_singleton]
  simp only [decide_eq_true_eq]
theorem CTied.put {D : DataW Unit} {l : List (Option Nat)} (h : CTied D l) (hD : IsMap D) {v c : Nat} (hc : cntI l (valI (some v)) = c) : CTied (D.put (u16L v) (i64D (c + 1))) (l ++ [some v]) := fun x => by
  rw [cntI_snoc]
  by_cases hx : x = v
  · subst hx
    rw [if_pos rfl, atKey_put_same hD (show WideAt.IsKeyLit (u16L x) from trivial), hc]
  · rw [atKey_put_other (u16L_ne hx), if_neg (fun e => hx (by simp only [valI] at e; omega)), Nat.add_zero]
    exact h x
theorem CTied.skip {D : DataW Unit} {l : List (Option Nat)} (h : CTied D l) : CTied D (l ++ [none]) := fun x => by
  rw [cntI_snoc, if_neg (fun e => by simp only [valI] at e; omega), Nat.add_zero]
  exact h x
theorem cntI_mono (l : List (Option Nat)) (i : Nat) (x : Int) : cntI (l.take i) x ≤ cntI l x := by
  unfold cntI
  exact List.Sublist.countP_le (List.take_sublist i l)
theorem cntI_len (l : List (Option Nat)) (x : Int) : cntI l x ≤ l.length := List.countP_le_length
theorem vote_none {l : List (Option Nat)} (h : ∀ v : Nat, 2 * cntI l (valI (some v)) ≤ l.length) : voteT l = none := by
  cases hv : voteT l with
  | none => rfl
  | some v =>
    have := (vote_some hv).2
    have := h v
    omega
def ptrVals (b : Nat) : List Value := [repV b]
/-- What each of some tables has at a key. -/
def osT (ts : List (Nat × T × Nat)) (key : Nat) : List (Option Nat) := ts.map fun x => tat x.2.1 key
def bsT (ts : List (Nat × T × Nat)) : List Nat := ts.map fun x => x.1
def VteP (o : Option Nat) (w : World) (e : Ending) (w' : World) : Prop := e = .returned (askV o) ∧ Below w.heap.size w w'
def VteR (w : World) (M n : Nat) (os : List (Option Nat)) (i : Value) (W : World) : Prop :=
  ∃ k D, k ≤ n ∧ i = .int .i64 (k : Nat) ∧ W.ownsMap Try.prog 27 (plainElem Try.prog 3) M k D ∧ CTied D (os.take k) ∧ (∀ v : Nat, 2 * cntI (os.take k) (valI (some v)) ≤ n) ∧ Below w.heap.size w W
theorem val_lt {W : World} {B : Nat} {ts : List (Nat × T × Nat)} (h : TabsG W B ts) {i b n : Nat} {t : T} (hi : ts[i]? = some (b, t, n)) {k v : Nat} (hv : tat t k = some v) : v < 65536 := by
  obtain ⟨m, hr⟩ := h.get hi
  have hm := hr.mp
  match m, hm with
  | none, hm => rw [hm k] at hv; cases hv
  | some M, ⟨D, _, hT⟩ => exact ((hT k).2 v hv).1

set_option maxHeartbeats 2000000 in
theorem vote_any (w : World) (B : Nat) (ts : List (Nat × T × Nat)) (h : TabsG w B ts) (A : Option Addr) (n cap : Nat) (hl : ts.length = n) (hn : n ≤ 1000) (ha : ItemsIn ptrVals 1 w A (bsT ts)) (key : Nat) (hk : key ≤ 255) :
    Calls Try.prog 19 #[.slice A n cap, .int .u8 (key : Nat)] w (VteP (voteT (osT ts key)) w) := by
  have hmm := @run_makeMap Try.prog
  have HA := Lib.hid ha
  have HH := Lib.hid h
  have Hl := Lib.hid hl
  have hol : (osT ts key).length = n := by unfold osT; rw [List.length_map, hl]
  have Hol := Lib.hid hol
  have HS0 : Hid (VteR w w.heap.size n (osT ts key) (.int .i64 0) (w.alloc (.map #[] 0))) := Lib.hid ⟨0, _, Nat.zero_le _, rfl, World.ownsMap_made w _ _ _, CTied.start, fun v => by rw [List.take_zero]; exact Nat.zero_le _, (Below.refl _ w).alloc (Nat.le_refl _) _⟩
  clear h ha hl hol
  go_enter Try.func19, Try.ntmps19
  go_wp2_with fail
  generalize (w.alloc (.map #[] 0)) = w1 at *
  go_loopw [14] (VteR w w.heap.size n (osT ts key)) (fun i _ => (n + 1 - intOf i).toNat)
  case atStart => exact HS0.out
  case round =>
    clear HS0 hmm
    obtain ⟨k, D, hkn, rfl, hM, hT, hno, hb⟩ := hrel
    have hG := HH.out.below hb
    by_cases hlt : k < n
    case neg =>
      obtain rfl : k = n := by omega
      have hv : voteT (osT ts key) = none := vote_none fun v => by
        have := hno v
        rw [← Hol.out, List.take_length] at this
        rwa [Hol.out] at this ⊢
      have HF : Hid (VteP (voteT (osT ts key)) w (.returned (.tuple #[.int .u16 0, .iface 60 (.int .i64 17)])) wr) := Lib.hid ⟨by rw [hv]; rfl, hb⟩
      have q1 : ¬ ((k : Int) < (k : Int)) := by omega
      clear hM hT hno hG hb hkn hlt HA Hl hv Hol HH
      go_wp2_with fail
      go_ret2
      exact HF.out
    obtain ⟨x, hx⟩ : ∃ x, ts[k]? = some x := ⟨_, List.getElem?_eq_getElem (by rw [Hl.out]; exact hlt)⟩
    obtain ⟨b, t, p⟩ := x
    obtain ⟨ba, oa, rfl, hba, hci⟩ := HA.out (by unfold bsT; rw [List.length_map, Hl.out]; omega)
    have c0 : wr.cell? ⟨ba, oa + k, none⟩ = some (.pointer (some ⟨b, 0, none⟩)) := by
      have := hci k b (by unfold bsT; rw [List.getElem?_map, hx]; rfl) 0 _ rfl
      rw [Nat.mul_one, Nat.add_zero] at this
      exact (hb.cell (p := ⟨ba, oa + k, none⟩) hba).trans this
    have ho : (osT ts key)[k]? = some (tat t key) := by unfold osT; rw [List.getElem?_map, hx]; rfl
    have hstep := RepP.take_one ho
    have hv6 : ∀ v, tat t key = some v → v < 65536 := fun v hv => val_lt hG hx hv
    have HAk := Lib.hid (tabs_ask wr B ts hG hx key hk)
    have q1 : (k : Int) < (n : Int) := by omega
    have e1 : IntKind.i64.wrap ((k : Int) + 1) = (k : Int) + 1 := IntWalk.i64_in _ (by omega)
    have Hb := Lib.hid hb
    unfold AskP14 askV repV at HAk
    clear hx hci hG
    generalize tat t key = o at *
    cases o with
    | none =>
      have HR : Hid (VteR w w.heap.size n (osT ts key) (.int .i64 ((k : Int) + 1)) wr) := Lib.hid ⟨k + 1, D, hlt, by go_num, hM.mono (Nat.le_succ k), by rw [hstep]; exact hT.skip, fun v => by
        rw [hstep, cntI_snoc, if_neg (fun e => by simp only [valI] at e; omega), Nat.add_zero]; exact hno v, hb⟩
      simp only [Option.getD_none, Option.isSome_none, errN] at HAk
      clear hM hT hno hb ho hstep hv6 HA Hl Hol hkn hlt HH Hb
      go_wp2_with fail
      refine HAk.out.mono ?_
      rintro e w2 ⟨rfl, rfl⟩
      clear HAk
      go_wp2_with fail
      go_roundw
      case rel => exact HR.out
      case measure => simp [intOf]; omega
    | some v =>
      simp only [Option.getD_some, Option.isSome_some, errN] at HAk
      obtain ⟨c, hc⟩ : ∃ c, cntI ((osT ts key).take k) (valI (some v)) = c := ⟨_, rfl⟩
      have hv7 := hv6 v rfl
      have hkey := keyOfU16 hv7
      have hck : c ≤ k := by rw [← hc]; exact Nat.le_trans (cntI_len _ _) (by rw [List.length_take]; omega)
      obtain ⟨c1, hc1⟩ : ∃ c1, c1 = c + 1 := ⟨_, rfl⟩
      have hl1 : (Instr.lookup 67 (.map (some w.heap.size)) (.int .u16 (v : Nat)) false).run Try.prog wr = .ok (.int .i64 (c : Nat)) wr := by
        obtain ⟨x, hrun, hat, -⟩ := hM.lookup_int keyU16 Try.underlying67 Try.underlying3 (zeroI14 _) hkey
        have h0 := hT v
        rw [hc] at h0
        rw [hrun]
        have h1 : i64D c = .lit (.int .i64 x) := h0.symm.trans hat
        unfold i64D at h1
        injection h1 with h1
        injection h1 with _ h1
        rw [h1]
      have HT1 : CTied (D.put (u16L v) (i64D c1)) ((osT ts key).take k ++ [some v]) := by rw [hc1]; exact hT.put hM.isMap hc
      have HL2 : Hid (∀ W, W.ownsMap Try.prog 27 (plainElem Try.prog 3) w.heap.size (k + 1) (D.put (u16L v) (i64D c1)) → (Instr.lookup 67 (.map (some w.heap.size)) (.int .u16 (v : Nat)) false).run Try.prog W = .ok (.int .i64 (c1 : Nat)) W) := Lib.hid fun W hW => by
        obtain ⟨x, hrun, hat, -⟩ := hW.lookup_int keyU16 Try.underlying67 Try.underlying3 (zeroI14 _) hkey
        have h0 := HT1 v
        rw [cntI_snoc, if_pos rfl, hc, ← hc1] at h0
        rw [hrun]
        have h1 : i64D c1 = .lit (.int .i64 x) := h0.symm.trans hat
        unfold i64D at h1
        injection h1 with h1
        injection h1 with _ h1
        rw [h1]
      have hval := plainElem_int (H := Unit) Try.underlying3 (i64_wf14 (n := c1) (by omega))
      have ew : IntKind.i64.wrap ((c : Int) + 1) = (c1 : Int) := by rw [IntWalk.i64_in _ (by omega)]; omega
      have hcnt : cntI ((osT ts key).take (k + 1)) (valI (some v)) = c1 := by rw [hstep, cntI_snoc, if_pos rfl, hc, hc1]
      have HY : Hid (n < 2 * c1 → ∀ W, Below w.heap.size w W → VteP (voteT (osT ts key)) w (.returned (.tuple #[.int .u16 (v : Nat), .nilIface])) W) := Lib.hid fun h1 W hW => by
        have h2 : voteT (osT ts key) = some v := vote_yes (by have := cntI_mono (osT ts key) (k + 1) (valI (some v)); rw [Hol.out]; omega)
        exact ⟨by rw [h2]; rfl, hW⟩
      have HR : Hid (¬ n < 2 * c1 → ∀ W, W.ownsMap Try.prog 27 (plainElem Try.prog 3) w.heap.size (k + 1) (D.put (u16L v) (i64D c1)) → Below w.heap.size w W → VteR w w.heap.size n (osT ts key) (.int .i64 ((k : Int) + 1)) W) := Lib.hid fun h1 W hW hb => ⟨k + 1, _, hlt, by go_num, hW, by rw [hstep]; exact HT1, fun y => by
        rw [hstep, cntI_snoc]
        by_cases hy : y = v
        · subst hy; rw [hc, if_pos rfl]; omega
        · rw [if_neg (fun e => hy (by simp only [valI] at e; omega))]; exact hno y, hb⟩
      have hq : ((n : Int).tdiv 2) = ((n / 2 : Nat) : Int) := rfl
      have hnh : n / 2 < c1 ↔ n < 2 * c1 := by omega
      have hz : w.heap.size < wr.heap.size := hM.lt
      obtain ⟨nh, hnh0⟩ : ∃ nh, nh = n / 2 := ⟨_, rfl⟩
      rw [← hnh0] at hq hnh
      have ew2 : IntKind.i64.wrap (nh : Int) = (nh : Int) := IntWalk.i64_in _ (by omega)
      have Hk := Lib.hid hck
      have hk1 : k < maxLen := by unfold maxLen; omega
      have Hnb := Lib.hid hnh0
      clear hT hno hb ho hstep hv6 HA Hl Hol hkn HH HT1 hcnt hc hc1 hck hv7 hnh0
      by_cases hw : n < 2 * c1
      · have q5 : (nh : Int) < (c1 : Int) := by have := hnh.2 hw; omega
        have HYw := Lib.hid (HY.out hw)
        clear HY HR hw hnh
        go_wp2_with fail
        refine HAk.out.mono ?_
        rintro e w2 ⟨rfl, rfl⟩
        clear HAk
        go_wp2_with (first | (at_mapUpdate; refine wpList_mapUpdate_own _ rfl _ _ _ 67 rfl 27 3 keyU16 Try.underlying67 _ w.heap.size k _ rfl hM hk1 _ _ _ rfl rfl hkey (i64D c1) [] hval ?_; intro w3 ho3 hg3; have hl2 := HL2.out w3 ho3; clear hl1) | fail)
        go_ret2
        exact HYw.out _ (Hb.out.grown hg3 (Nat.le_of_lt hM.lt) (fun j hj => by cases hj; exact Nat.le_refl _))
      · have q5 : ¬ ((nh : Int) < (c1 : Int)) := by have := fun h => hw (hnh.1 h); omega
        have HRw := Lib.hid (HR.out hw)
        clear HY HR hw hnh
        go_wp2_with fail
        refine HAk.out.mono ?_
        rintro e w2 ⟨rfl, rfl⟩
        clear HAk
        go_wp2_with (first | (at_mapUpdate; refine wpList_mapUpdate_own _ rfl _ _ _ 67 rfl 27 3 keyU16 Try.underlying67 _ w.heap.size k _ rfl hM hk1 _ _ _ rfl rfl hkey (i64D c1) [] hval ?_; intro w3 ho3 hg3; have hl2 := HL2.out w3 ho3; clear hl1) | fail)
        go_roundw
        case rel => exact HRw.out _ ho3 (Hb.out.grown hg3 (Nat.le_of_lt hM.lt) (fun j hj => by cases hj; exact Nat.le_refl _))
        case measure => simp [intOf]; omega
end Go.Proofs.Ytcibnjcnbocbdaa
