/- The document's Reader in memory (RefAt), and contracts of its Take, Text and End. Conditions: where it lies. -/
import Derived.Test.YtgceleipaiameaaWirG
import Derived.Test.YtgceleipaiameaaHeld
namespace Go.Proofs.Ytgceleipaiameaa
open Go.RowKit Go.Extern.Stop Go.Stop Go.Extern

/-- The document's Reader in block rr, over the bytes l, which lie elsewhere. -/
structure RefAt (w : World) (rr : Nat) (A : Option Addr) (n cap : Nat) (l : List UInt8) (a : Nat) (s : Bool) : Prop where
  block : w.heap[rr]? = some (.cells #[.slice A n cap, .int .i64 (a : Nat), strV (errText s a)] 89 (0, 0))
  bytes : Bytes w w.heap.size A l
  len : l.length = n
  cap_ : n ≤ cap
  most : n ≤ 5000
  other : 0 < l.length → blockOf A ≠ some rr
  place : a ≤ n

theorem RefAt.apart {w w' : World} {rr : Nat} {A : Option Addr} {n cap : Nat} {l : List UInt8} {a : Nat} {s : Bool} {F : Nat → Prop} (h : RefAt w rr A n cap l a s) (ha : Apart F w w') (hb : ¬ F rr) (hA : 0 < l.length → ∀ k, blockOf A = some k → ¬ F k) : RefAt w' rr A n cap l a s :=
  ⟨(ha.block rr (lt_of_block h.block) hb).trans h.block, (h.bytes.apart0 ha (Nat.le_refl _) hA).more ha.size, h.len, h.cap_, h.most, h.other, h.place⟩
theorem RefAt.below {w w' : World} {rr : Nat} {A : Option Addr} {n cap : Nat} {l : List UInt8} {a : Nat} {s : Bool} (h : RefAt w rr A n cap l a s) (ha : Below w.heap.size w w') : RefAt w' rr A n cap l a s :=
  h.apart (F := fun _ => False) (Apart.of_below' ha) (fun h => h) (fun _ _ _ h => h)
theorem RefAt.drew {w : World} {rr : Nat} {A : Option Addr} {n cap : Nat} {l : List UInt8} {a : Nat} {s : Bool} (h : RefAt w rr A n cap l a s) : RefAt w.drew rr A n cap l a s := ⟨h.block, h.bytes, h.len, h.cap_, h.most, h.other, h.place⟩
theorem RefAt.drewN {w : World} {rr : Nat} {A : Option Addr} {n cap : Nat} {l : List UInt8} {a : Nat} {s : Bool} (h : RefAt w rr A n cap l a s) (m : Nat) : RefAt (w.drewN m) rr A n cap l a s := ⟨h.block, h.bytes, h.len, h.cap_, h.most, h.other, h.place⟩

theorem ref_short {w : World} {rr : Nat} {A : Option Addr} {n cap : Nat} {l : List UInt8} {a : Nat} {s : Bool} (h : RefAt w rr A n cap l a s) : RefAt (w.setCell ⟨rr, 2, none⟩ (strV (atT 4 (a : Nat)))) rr A n cap l a true ∧ Apart (RF rr) w (w.setCell ⟨rr, 2, none⟩ (strV (atT 4 (a : Nat)))) := by
  have ha : Apart (RF rr) w (w.setCell ⟨rr, 2, none⟩ (strV (atT 4 (a : Nat)))) := Apart.setCell (F := RF rr) (p := ⟨rr, 2, none⟩) (Apart.refl _ _) (.inl rfl) _
  exact ⟨⟨(three_set h.block).2, (h.bytes.apart0 ha (Nat.le_refl _) (fun hl k e f => h.other hl (by rw [e]; exact congrArg some f))).more ha.size, h.len, h.cap_, h.most, h.other, h.place⟩, ha⟩
theorem ref_move {w : World} {rr : Nat} {A : Option Addr} {n cap : Nat} {l : List UInt8} {a : Nat} (h : RefAt w rr A n cap l a false) (a' : Nat) (ha' : a' ≤ n) : RefAt (w.setCell ⟨rr, 1, none⟩ (.int .i64 (a' : Nat))) rr A n cap l a' false ∧ Apart (RF rr) w (w.setCell ⟨rr, 1, none⟩ (.int .i64 (a' : Nat))) := by
  have ha : Apart (RF rr) w (w.setCell ⟨rr, 1, none⟩ (.int .i64 (a' : Nat))) := Apart.setCell (F := RF rr) (p := ⟨rr, 1, none⟩) (Apart.refl _ _) (.inl rfl) _
  exact ⟨⟨(three_set h.block).1, (h.bytes.apart0 ha (Nat.le_refl _) (fun hl k e f => h.other hl (by rw [e]; exact congrArg some f))).more ha.size, h.len, h.cap_, h.most, h.other, ha'⟩, ha⟩

theorem atT_ne' (c : Nat) (a : Int) : (atT c a).isEmpty = false := by simp [atT]

/-- What the document's Take answers. -/
def RefTakePost (rr : Nat) (A : Option Addr) (n cap : Nat) (l : List UInt8) (t : WireP.Took) (w : World) (e : Ending) (w' : World) : Prop :=
  e = .returned (.int .u32 (t.n : Nat)) ∧ RefAt w' rr A n cap l t.at_ t.short ∧ Apart (RF rr) w w'

theorem reftake_size (rr : Nat) (A : Option Addr) (n cap : Nat) (l : List UInt8) (a : Nat) (sh : Bool) (s : Int) (hs : s < 1 ∨ 4 < s) (w : World) (h : RefAt w rr A n cap l a sh) :
    Calls Try.prog 58 #[.pointer (some ⟨rr, 0, none⟩), .int .i64 s] w (RefTakePost rr A n cap l ⟨0, a, sh⟩ w) := by
  have HF : Hid (RefTakePost rr A n cap l ⟨0, a, sh⟩ w (.returned (.int .u32 0)) w) := Lib.hid ⟨rfl, h, Apart.refl _ _⟩
  clear h
  by_cases h1 : s < 1
  · have q1 : decide (s < 1) = true := decide_eq_true h1
    clear hs h1
    go_enter Try.func58, Try.ntmps58
    go_wp2_with fail
    go_ret
    exact HF.out
  · have q1 : decide (s < 1) = false := decide_eq_false h1
    have q2 : decide (4 < s) = true := by rw [decide_eq_true_iff]; omega
    clear hs h1
    go_enter Try.func58, Try.ntmps58
    go_wp2_with fail
    go_ret
    exact HF.out

theorem reftake_short (rr : Nat) (A : Option Addr) (n cap : Nat) (l : List UInt8) (a : Nat) (s : Nat) (hs : 1 ≤ s ∧ s ≤ 4) (w : World) (h : RefAt w rr A n cap l a true) :
    Calls Try.prog 58 #[.pointer (some ⟨rr, 0, none⟩), .int .i64 (s : Nat)] w (RefTakePost rr A n cap l ⟨0, a, true⟩ w) := by
  have HF : Hid (RefTakePost rr A n cap l ⟨0, a, true⟩ w (.returned (.int .u32 0)) w) := Lib.hid ⟨rfl, h, Apart.refl _ _⟩
  obtain ⟨k0, k1, k2, f0, f1, f2⟩ := three_cells h.block
  have q1 : decide ((s : Int) < 1) = false := by rw [decide_eq_false_iff_not]; omega
  have q2 : decide ((4 : Int) < s) = false := by rw [decide_eq_false_iff_not]; omega
  have he : errText true a = atT 4 (a : Nat) := rfl
  have hne := atT_ne' 4 (a : Nat)
  rw [he] at k2
  generalize atT 4 ((a : Nat) : Int) = x at *
  simp only [strV] at k2
  clear h hs he
  go_enter Try.func58, Try.ntmps58
  go_wp2_with fail
  go_ret
  exact HF.out

set_option maxHeartbeats 400000 in
theorem reftake_out (rr : Nat) (A : Option Addr) (n cap : Nat) (l : List UInt8) (a : Nat) (s : Nat) (hs : 1 ≤ s ∧ s ≤ 4) (hout : n < a + s) (w : World) (h : RefAt w rr A n cap l a false) :
    Calls Try.prog 58 #[.pointer (some ⟨rr, 0, none⟩), .int .i64 (s : Nat)] w (RefTakePost rr A n cap l ⟨0, a, true⟩ w) := by
  have H := Lib.hid h
  obtain ⟨k0, k1, k2, f0, f1, f2⟩ := three_cells h.block
  have q1 : decide ((s : Int) < 1) = false := by rw [decide_eq_false_iff_not]; omega
  have q2 : decide ((4 : Int) < s) = false := by rw [decide_eq_false_iff_not]; omega
  have q3 : decide ((n : Int) < (a : Int) + (s : Int)) = true := by rw [decide_eq_true_iff]; omega
  have hp := h.place
  have hmo := h.most
  have he : errText false a = [] := rfl
  rw [he] at k2
  simp only [strV] at k2
  have HA := Lib.hid (fun W => at_any 4 (a : Nat) W (by omega) (by omega))
  have HS := Lib.hid (fun (W : World) (hW : RefAt W rr A n cap l a false) => ref_short hW)
  have hs4 := hs.2
  generalize atT 4 ((a : Nat) : Int) = x at *
  simp only [strV] at HA HS
  clear h hs he hout
  go_enter Try.func58, Try.ntmps58
  go_wp2_with fail
  go_quiet (fail)
  go_wp2_with fail
  refine (HA.out _).mono ?_
  rintro e w1 ⟨rfl, hb1⟩
  replace hb1 : Below w.heap.size w w1 := ⟨hb1.os, hb1.tape, hb1.output, hb1.size, hb1.block⟩
  have h1 := H.out.below hb1
  obtain ⟨g0, g1, g2, g3, g4, g5⟩ := three_cells h1.block
  have HF : Hid (RefTakePost rr A n cap l ⟨0, a, true⟩ w (.returned (.int .u32 0)) (w1.setCell ⟨rr, 2, none⟩ (.string ⟨x.toArray⟩))) := Lib.hid (by
    obtain ⟨h2, h3⟩ := HS.out w1 h1
    exact ⟨rfl, h2, (Apart.of_below' hb1).trans h3 (fun _ e => .inl e)⟩)
  clear h1 hb1 H HS HA
  go_wp2_with fail
  go_ret
  exact HF.out

set_option maxHeartbeats 1000000 in
theorem reftake_in (rr : Nat) (A : Option Addr) (n cap : Nat) (l : List UInt8) (a : Nat) (s : Nat) (hs : 1 ≤ s ∧ s ≤ 4) (hin : a + s ≤ n) (w : World) (h : RefAt w rr A n cap l a false) :
    Calls Try.prog 58 #[.pointer (some ⟨rr, 0, none⟩), .int .i64 (s : Nat)] w (RefTakePost rr A n cap l ⟨WireP.val ((l.drop a).take s), a + s, false⟩ w) := by
  have H := Lib.hid h
  obtain ⟨k0, k1, k2, f0, f1, f2⟩ := three_cells h.block
  have q1 : decide ((s : Int) < 1) = false := by rw [decide_eq_false_iff_not]; omega
  have q2 : decide ((4 : Int) < s) = false := by rw [decide_eq_false_iff_not]; omega
  have q3 : decide ((n : Int) < (a : Int) + (s : Int)) = false := by rw [decide_eq_false_iff_not]; omega
  have hp := h.place
  have hmo := h.most
  have hl := h.len
  have he : errText false a = [] := rfl
  rw [he] at k2
  simp only [strV] at k2
  have HB : Hid (∀ k, k < s → ∃ b o, A = some ⟨b, o, none⟩ ∧ w.cell? ⟨b, o + (a + k), none⟩ = some (.int .u8 (((l.drop a).take s).getD k 0).toNat)) := Lib.hid fun k hk => by
    obtain ⟨b, o, e, _, h2⟩ := h.bytes.at_ (k := a + k) (by omega)
    refine ⟨b, o, e, h2.trans ?_⟩
    congr 3
    simp [List.getD, hk, List.getElem?_drop, List.getElem?_eq_getElem (show a + k < l.length by omega)]
  have Hl : Hid (((l.drop a).take s).length = s) := Lib.hid (by rw [List.length_take, List.length_drop]; omega)
  have HF : Hid (∀ (v : Value) m, v = .int .u32 (WireP.val ((l.drop a).take s) : Nat) → RefTakePost rr A n cap l ⟨WireP.val ((l.drop a).take s), a + s, false⟩ w (.returned v) ((w.setCell ⟨rr, 1, none⟩ (.int .i64 ((a : Int) + (s : Int)))).drewN m)) := Lib.hid fun v m hv => by
    obtain ⟨h1, h2⟩ := ref_move H.out (a + s) hin
    have e : ((a + s : Nat) : Int) = (a : Int) + (s : Int) := by omega
    rw [e] at h1 h2
    exact ⟨by rw [hv], h1.drewN m, h2.drewN m⟩
  have Hs := Lib.hid hs
  clear h he hl hs
  generalize (l.drop a).take s = t at *
  go_enter Try.func58, Try.ntmps58
  go_wp2_with fail
  go_quiet (fail)
  go_wp2_with fail
  go_loopw [5, 6] (fun v i wr => ∃ k m : Nat, k ≤ s ∧ i = .int .i64 k ∧ v = .int .u32 (WireP.val (t.take k) : Nat) ∧ wr = w.drewN m) (fun _ i _ => (s - intOf i).toNat)
  case atStart => exact ⟨0, _, by omega, rfl, rfl, rfl⟩
  case round =>
    obtain ⟨k, m, hk, rfl, rfl, rfl⟩ := hrel
    have hs4 := Hs.out.2
    by_cases hlt : k < s
    · obtain ⟨b, o, rfl, hcell⟩ := HB.out k hlt
      have hv : WireP.val (t.take (k + 1)) = WireP.val (t.take k) * 256 + (t.getD k 0).toNat := by
        rw [List.take_succ_eq_append_getElem (by rw [Hl.out]; exact hlt), WireP.val_append1]
        simp [List.getD, List.getElem?_eq_getElem (show k < t.length by rw [Hl.out]; exact hlt)]
      have hq : WireP.val (t.take k) < 16777216 := by
        have h1 := WireP.val_lt (t.take k)
        have h2 : (t.take k).length ≤ 3 := by rw [List.length_take]; omega
        have h3 : 256 ^ (t.take k).length ≤ 256 ^ 3 := Nat.pow_le_pow_right (by omega) h2
        omega
      have hc2 : (t.getD k 0).toNat < 256 := (t.getD k 0).toNat_lt
      have Hv := Lib.hid hv
      have hsum : IntKind.i64.wrap ((a : Int) + (k : Int)) = (a : Int) + (k : Int) := IntWalk.i64_in _ (by omega)
      clear hv
      generalize WireP.val (t.take k) = q at *
      generalize (t.getD k 0).toNat = c1 at *
      go_wp2_with fail
      go_quiet (fail)
      go_wp2_with fail
      go_roundw
      case rel => exact ⟨k + 1, _, by omega, by go_num, by rw [Hv.out]; go_num, rfl⟩
      case measure => simp [intOf]; omega
    · have : k = s := by omega
      subst this
      have hf : t.take k = t := List.take_of_length_le (by rw [Hl.out]; omega)
      have Hf := Lib.hid hf
      clear hf
      go_wp2_with fail
      go_ret
      exact HF.out _ _ (by rw [Hf.out]; rfl)

/-- The document's Take: of any size. -/
theorem reftake_any (rr : Nat) (A : Option Addr) (n cap : Nat) (l : List UInt8) (a : Nat) (sh : Bool) (s : Int) (w : World) (h : RefAt w rr A n cap l a sh) :
    Calls Try.prog 58 #[.pointer (some ⟨rr, 0, none⟩), .int .i64 s] w (RefTakePost rr A n cap l (WireP.take l a sh s) w) := by
  by_cases hs : s < 1 ∨ 4 < s
  · have e : WireP.take l a sh s = ⟨0, a, sh⟩ := by
      unfold WireP.take
      rw [if_pos (by rcases hs with h | h; exact .inl h; exact .inr (.inl h))]
    rw [e]
    exact reftake_size rr A n cap l a sh s hs w h
  · obtain ⟨k, rfl⟩ := Int.eq_ofNat_of_zero_le (show 0 ≤ s by omega)
    cases sh with
    | true =>
      have e : WireP.take l a true (k : Int) = ⟨0, a, true⟩ := by
        unfold WireP.take
        rw [if_pos (.inr (.inr rfl))]
      rw [e]
      exact reftake_short rr A n cap l a k (by omega) w h
    | false =>
      have hl := h.len
      by_cases hin : a + k ≤ n
      · have e : WireP.take l a false (k : Int) = ⟨WireP.val ((l.drop a).take k), a + k, false⟩ := by
          unfold WireP.take
          rw [if_neg (by simp; omega), Int.toNat_natCast, if_neg (by omega)]
        rw [e]
        exact reftake_in rr A n cap l a k (by omega) hin w h
      · have e : WireP.take l a false (k : Int) = ⟨0, a, true⟩ := by
          unfold WireP.take
          rw [if_neg (by simp; omega), Int.toNat_natCast, if_pos (by omega)]
        rw [e]
        exact reftake_out rr A n cap l a k (by omega) (by omega) w h
end Go.Proofs.Ytgceleipaiameaa
