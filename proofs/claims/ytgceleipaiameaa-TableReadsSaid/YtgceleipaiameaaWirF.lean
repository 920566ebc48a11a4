/- Contracts of the Reader's Take and Text. Conditions: where the Reader lies. -/
import Derived.Test.YtgceleipaiameaaWirE
namespace Go.Proofs.Ytgceleipaiameaa
open Go.RowKit

/-- What Take answers. -/
def TakePost (br : Nat) (A : Option Addr) (n cap : Nat) (l : List UInt8) (t : WireP.Took) (w : World) (e : Ending) (w' : World) : Prop :=
  e = .returned (.int .u32 (t.n : Nat)) ∧ ReaderAt w' br A n cap l t.at_ t.short ∧ Apart (RF br) w w'

theorem or_byte (q c : Nat) (hq : q < 16777216) (hc : c < 256) : bits .or .u32 ((q : Int) * 256) (c : Int) = ((q * 256 + c : Nat) : Int) := by
  have h := u32_or_nat (q * 256) c (by omega) (by omega)
  have e : ((q : Int) * 256) = ((q * 256 : Nat) : Int) := by omega
  rw [e, h]
  congr 1
  have := Nat.two_pow_add_eq_or_of_lt (i := 8) (b := c) (by omega) q
  rw [show q * 256 = 2 ^ 8 * q by omega, this]

set_option maxHeartbeats 1000000 in
theorem take_in (br : Nat) (A : Option Addr) (n cap : Nat) (l : List UInt8) (a s : Nat) (hs : 1 ≤ s ∧ s ≤ 4) (hin : a + s ≤ n) (w : World) (h : ReaderAt w br A n cap l a false) :
    Calls Try.prog 52 #[.pointer (some ⟨br, 0, none⟩), .int .i64 (s : Nat)] w (TakePost br A n cap l ⟨WireP.val ((l.drop a).take s), a + s, false⟩ w) := by
  have HE := enough_any br A n cap l a (s : Nat) (by omega) w h
  rw [Int.toNat_natCast, decide_eq_true hin] at HE
  have HE := Lib.hid HE
  have q1 : decide ((s : Int) < 1) = false := by rw [decide_eq_false_iff_not]; omega
  have q2 : decide ((4 : Int) < s) = false := by rw [decide_eq_false_iff_not]; omega
  have hl := h.len
  have Hl : Hid (((l.drop a).take s).length = s) := Lib.hid (by rw [List.length_take, List.length_drop]; omega)
  have HN := Lib.hid (fun w1 (h1 : ReaderAt w1 br A n cap l a false) => next_any br A n cap l a s false (by omega) hin w1 h1)
  have Hs := Lib.hid hs
  clear h hl hin hs
  go_enter Try.func52, Try.ntmps52
  go_wp2_with fail
  refine HE.out.mono ?_
  rintro e w1 ⟨rfl, h1, ha1⟩
  have H1 := Lib.hid h1
  have HA1 := Lib.hid ha1
  clear h1 ha1 HE
  go_wp2_with fail
  refine (HN.out w1 H1.out).mono ?_
  rintro e w2 ⟨b, o, c, rfl, hc, hbl, hby, h2, ha2⟩
  have HF : Hid (∀ v : Value, v = .int .u32 (WireP.val ((l.drop a).take s) : Nat) → TakePost br A n cap l ⟨WireP.val ((l.drop a).take s), a + s, false⟩ w (.returned v) w2) := Lib.hid fun v hv => ⟨by rw [hv], h2, HA1.out.trans ha2 (fun _ e => .inl e)⟩
  have Hby := Lib.hid hby
  clear hc hbl hby h2 ha2 HN H1 HA1
  generalize (l.drop a).take s = t at *
  go_wp2_with fail
  go_loop [5, 24] (fun v i => ∃ k : Nat, k ≤ s ∧ i = .int .i64 k ∧ v = .int .u32 (WireP.val (t.take k) : Nat)) (fun _ i => (s - intOf i).toNat)
  case atStart => exact ⟨0, by omega, rfl, rfl⟩
  case round =>
    obtain ⟨k, hk, rfl, rfl⟩ := hrel
    have hs4 := Hs.out.2
    by_cases hlt : k < s
    · obtain ⟨b', o', e1, hb, hcell⟩ := Hby.out.at_ (k := k) (by rw [Hl.out]; exact hlt)
      injection e1 with e1
      injection e1 with e1 e2 _
      subst e1 e2
      have hv : WireP.val (t.take (k + 1)) = WireP.val (t.take k) * 256 + (t[k]'(by rw [Hl.out]; exact hlt)).toNat := by
        rw [List.take_succ_eq_append_getElem (by rw [Hl.out]; exact hlt), WireP.val_append1]
      have hq : WireP.val (t.take k) < 16777216 := by
        have h1 := WireP.val_lt (t.take k)
        have h2 : (t.take k).length ≤ 3 := by rw [List.length_take]; omega
        have h3 : 256 ^ (t.take k).length ≤ 256 ^ 3 := Nat.pow_le_pow_right (by omega) h2
        omega
      have hc2 : (t[k]'(by rw [Hl.out]; exact hlt)).toNat < 256 := (t[k]'(by rw [Hl.out]; exact hlt)).toNat_lt
      have Hv := Lib.hid hv
      clear hv
      generalize WireP.val (t.take k) = q at *
      generalize (t[k]'(by rw [Hl.out]; exact hlt)).toNat = c1 at *
      have ho := or_byte q c1 hq hc2
      go_wp2_with fail
      go_round
      case rel => exact ⟨k + 1, by omega, by go_num, by rw [Hv.out]; go_num⟩
      case measure => simp [intOf]; omega
    · have : k = s := by omega
      subst this
      have hf : t.take k = t := List.take_of_length_le (by rw [Hl.out]; omega)
      have Hf := Lib.hid hf
      clear hf
      go_wp2_with fail
      go_ret
      exact HF.out _ (by rw [Hf.out]; rfl)

theorem take_size (br : Nat) (A : Option Addr) (n cap : Nat) (l : List UInt8) (a : Nat) (sh : Bool) (s : Int) (hs : s < 1 ∨ 4 < s) (w : World) (h : ReaderAt w br A n cap l a sh) :
    Calls Try.prog 52 #[.pointer (some ⟨br, 0, none⟩), .int .i64 s] w (TakePost br A n cap l ⟨0, a, sh⟩ w) := by
  have HF : Hid (TakePost br A n cap l ⟨0, a, sh⟩ w (.returned (.int .u32 0)) w) := Lib.hid ⟨rfl, h, Apart.refl _ _⟩
  clear h
  by_cases h1 : s < 1
  · have q1 : decide (s < 1) = true := decide_eq_true h1
    clear hs h1
    go_enter Try.func52, Try.ntmps52
    go_wp2_with fail
    go_ret
    exact HF.out
  · have q1 : decide (s < 1) = false := decide_eq_false h1
    have q2 : decide (4 < s) = true := by rw [decide_eq_true_iff]; omega
    clear hs h1
    go_enter Try.func52, Try.ntmps52
    go_wp2_with fail
    go_ret
    exact HF.out

theorem take_out (br : Nat) (A : Option Addr) (n cap : Nat) (l : List UInt8) (a : Nat) (sh : Bool) (s : Nat) (hs : 1 ≤ s ∧ s ≤ 4) (w : World) (hE : Calls Try.prog 61 #[.pointer (some ⟨br, 0, none⟩), .int .i64 (s : Nat)] w (EnoughPost br A n cap l a false w)) :
    Calls Try.prog 52 #[.pointer (some ⟨br, 0, none⟩), .int .i64 (s : Nat)] w (TakePost br A n cap l ⟨0, a, sh || true⟩ w) := by
  have HE := Lib.hid hE
  have q1 : decide ((s : Int) < 1) = false := by rw [decide_eq_false_iff_not]; omega
  have q2 : decide ((4 : Int) < s) = false := by rw [decide_eq_false_iff_not]; omega
  rw [Bool.or_true]
  clear hE hs
  go_enter Try.func52, Try.ntmps52
  go_wp2_with fail
  refine HE.out.mono ?_
  rintro e w1 ⟨rfl, h1, ha1⟩
  have HF : Hid (TakePost br A n cap l ⟨0, a, true⟩ w (.returned (.int .u32 0)) w1) := Lib.hid ⟨rfl, h1, ha1⟩
  clear h1 ha1
  go_wp2_with fail
  go_ret
  exact HF.out

/-- Take: of any size. -/
theorem take_any (br : Nat) (A : Option Addr) (n cap : Nat) (l : List UInt8) (a : Nat) (sh : Bool) (s : Int) (w : World) (h : ReaderAt w br A n cap l a sh) :
    Calls Try.prog 52 #[.pointer (some ⟨br, 0, none⟩), .int .i64 s] w (TakePost br A n cap l (WireP.take l a sh s) w) := by
  by_cases hs : s < 1 ∨ 4 < s
  · have e : WireP.take l a sh s = ⟨0, a, sh⟩ := by
      unfold WireP.take
      rw [if_pos (by rcases hs with h | h; exact .inl h; exact .inr (.inl h))]
    rw [e]
    exact take_size br A n cap l a sh s hs w h
  · obtain ⟨k, rfl⟩ := Int.eq_ofNat_of_zero_le (show 0 ≤ s by omega)
    cases sh with
    | true =>
      have e : WireP.take l a true (k : Int) = ⟨0, a, true⟩ := by
        unfold WireP.take
        rw [if_pos (.inr (.inr rfl))]
      rw [e]
      exact take_out br A n cap l a false k (by omega) w (enough_short br A n cap l a _ w h)
    | false =>
      have hl := h.len
      by_cases hin : a + k ≤ n
      · have e : WireP.take l a false (k : Int) = ⟨WireP.val ((l.drop a).take k), a + k, false⟩ := by
          unfold WireP.take
          rw [if_neg (by simp; omega), Int.toNat_natCast, if_neg (by omega)]
        rw [e]
        exact take_in br A n cap l a k (by omega) hin w h
      · have e : WireP.take l a false (k : Int) = ⟨0, a, true⟩ := by
          unfold WireP.take
          rw [if_neg (by simp; omega), Int.toNat_natCast, if_pos (by omega)]
        rw [e]
        have hE := enough_any br A n cap l a (k : Nat) (by omega) w h
        rw [Int.toNat_natCast, decide_eq_false hin] at hE
        exact take_out br A n cap l a false k (by omega) w hE

theorem take_nil (s : Int) (w : World) :
    Calls Try.prog 52 #[.pointer none, .int .i64 s] w fun e w' => e = .returned (.int .u32 0) ∧ w = w' := by
  have HE := Lib.hid (enough_nil (.int .i64 s) w)
  by_cases h1 : s < 1
  · have q1 : decide (s < 1) = true := decide_eq_true h1
    clear h1
    go_enter Try.func52, Try.ntmps52
    go_wp2_with fail
    go_ret
    exact ⟨rfl, rfl⟩
  · have q1 : decide (s < 1) = false := decide_eq_false h1
    by_cases h2 : 4 < s
    · have q2 : decide (4 < s) = true := decide_eq_true h2
      clear h1 h2
      go_enter Try.func52, Try.ntmps52
      go_wp2_with fail
      go_ret
      exact ⟨rfl, rfl⟩
    · have q2 : decide (4 < s) = false := decide_eq_false h2
      clear h1 h2
      go_enter Try.func52, Try.ntmps52
      go_wp2_with fail
      refine HE.out.mono ?_
      rintro e w1 ⟨rfl, rfl⟩
      go_wp2_with fail
      go_ret
      exact ⟨rfl, rfl⟩

/-- What Text answers: a new slice of the bytes. -/
def TellPost (br : Nat) (A : Option Addr) (n cap : Nat) (l : List UInt8) (t : WireP.Told) (w : World) (e : Ending) (w' : World) : Prop :=
  ∃ v g, e = .returned v ∧ Row w' w.heap.size 5 g v t.l ∧ ReaderAt w' br A n cap l t.at_ t.short ∧ Apart (RF br) w w'

end Go.Proofs.Ytgceleipaiameaa
