/- Errors by their numbers, read; two rows of like commands compared. Conditions: numbers below 200; where the rows lie. -/
import Derived.Test.YtcibnjcnbocbdaaRepF
namespace Go.Proofs.Ytcibnjcnbocbdaa
open Go.RowKit RepP Go.Maps
set_option maxRecDepth 100000

def txtN (n : Nat) : List UInt8 := if n = 0 then [] else numN n
def TxtP14 (n : Nat) (w : World) (e : Ending) (w' : World) : Prop := e = .returned (strV (txtN n)) ∧ Below w.heap.size w w'
theorem rread_any (n : Nat) (hn : n ≤ 199) (w : World) : Calls Try.prog 12 #[errN n] w (TxtP14 n w) := by
  unfold errN TxtP14 txtN
  by_cases h0 : n = 0
  · subst h0
    rw [if_pos rfl, if_pos rfl]
    exact read_any 0 [] none w (by simp) (Nat.zero_le _) trivial ⟨by simp, by simp⟩
  · rw [if_neg h0, if_neg h0]
    have := read_any 0 [] (some (n : Int)) w (by simp) (Nat.zero_le _) trivial ⟨by simp, fun m hm => by cases hm; omega⟩
    exact this.mono fun e w' h => ⟨by rw [h.1]; rfl, h.2⟩
theorem badT_cases (c : Cmd) : badT c = 0 ∨ badT c = 2 ∨ badT c = 7 := by
  unfold badT; split
  · exact .inl rfl
  · split
    · exact .inr (.inl rfl)
    · split
      · exact .inr (.inr rfl)
      · exact .inl rfl
theorem badT_le (c : Cmd) : badT c ≤ 199 := by rcases badT_cases c with h | h | h <;> omega

def SamR14 (n : Nat) (w : World) (i : Value) (W : World) : Prop := ∃ k m, k ≤ n ∧ i = .int .i64 (k : Nat) ∧ W = w.drewN m
set_option maxHeartbeats 1000000 in
theorem csame_any (A : Option Addr) (cap : Nat) (A' : Option Addr) (cap' n : Nat) (xs : List Cmd) (hn : xs.length = n) (hb : n ≤ 1000000) (w : World) (h : ItemsIn cmdVals 4 w A xs) (h' : ItemsIn cmdVals 4 w A' xs) :
    Calls Try.prog 14 #[.slice A n cap, .slice A' n cap'] w (Quiet (.bool true) w) := by
  have HI := Lib.hid h
  have HI' := Lib.hid h'
  have Hn := Lib.hid hn
  have HS0 : Hid (SamR14 n w (.int .i64 0) w) := Lib.hid ⟨0, 0, Nat.zero_le _, rfl, rfl⟩
  clear h h' hn
  go_enter Try.func14, Try.ntmps14
  go_wp2_with fail
  go_loopw [5] (SamR14 n w) (fun i _ => (n + 1 - intOf i).toNat)
  case atStart => exact HS0.out
  case round =>
    clear HS0
    obtain ⟨k, m, hk, rfl, rfl⟩ := hrel
    by_cases hkn : k < n
    case neg =>
      obtain rfl : k = n := by omega
      have HF : Hid (∀ m', Quiet (.bool true) w (.returned (.bool true)) (w.drewN m')) := Lib.hid fun m' => ⟨rfl, _, rfl⟩
      have q1 : decide ((k : Int) < (k : Int)) = false := decide_eq_false (by omega)
      clear hk hkn HI HI'
      go_wp2_with fail
      go_ret
      exact HF.out _
    have hne : 0 < xs.length := by have := Hn.out; omega
    obtain ⟨g, o, rfl, -, hc⟩ := HI.out hne
    obtain ⟨g', o', rfl, -, hc'⟩ := HI'.out hne
    obtain ⟨c, hx⟩ : ∃ c, xs[k]? = some c := ⟨_, List.getElem?_eq_getElem (by rw [Hn.out]; exact hkn)⟩
    obtain ⟨kind, key, val, old⟩ := c
    have c0 : w.cell? ⟨g, o + k * 4, none⟩ = some (.int .u8 (kind : Nat)) := hc k _ hx 0 _ rfl
    have c1 : w.cell? ⟨g, o + k * 4 + 1, none⟩ = some (.int .u8 (key : Nat)) := hc k _ hx 1 _ rfl
    have c2 : w.cell? ⟨g, o + k * 4 + 2, none⟩ = some (.int .u16 (val : Nat)) := hc k _ hx 2 _ rfl
    have c3 : w.cell? ⟨g, o + k * 4 + 3, none⟩ = some (.int .u16 (old : Nat)) := hc k _ hx 3 _ rfl
    have d0 : w.cell? ⟨g', o' + k * 4, none⟩ = some (.int .u8 (kind : Nat)) := hc' k _ hx 0 _ rfl
    have d1 : w.cell? ⟨g', o' + k * 4 + 1, none⟩ = some (.int .u8 (key : Nat)) := hc' k _ hx 1 _ rfl
    have d2 : w.cell? ⟨g', o' + k * 4 + 2, none⟩ = some (.int .u16 (val : Nat)) := hc' k _ hx 2 _ rfl
    have d3 : w.cell? ⟨g', o' + k * 4 + 3, none⟩ = some (.int .u16 (old : Nat)) := hc' k _ hx 3 _ rfl
    have q1 : decide ((k : Int) < (n : Int)) = true := decide_eq_true (by omega)
    have hkz : (k : Int) < (n : Int) := by omega
    have e1 : IntKind.i64.wrap ((k : Int) + 1) = (k : Int) + 1 := IntWalk.i64_in _ (by omega)
    have HR : Hid (∀ m', SamR14 n w (.int .i64 ((k : Int) + 1)) (w.drewN m')) := Lib.hid fun m' => ⟨k + 1, m', hkn, by go_num, rfl⟩
    clear hk hx HI HI' hc hc' hne
    go_wp2_with fail
    go_quiet (fail)
    go_wp2_with fail
    go_roundw
    case rel => exact HR.out _
    case measure => simp [intOf]; omega
end Go.Proofs.Ytcibnjcnbocbdaa
