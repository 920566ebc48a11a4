/- Contracts of frame's lawful, wrongCommand, wrongRecord. Conditions: numbers within their types. -/
import Derived.Test.YtmhpdmpihmahdaaFraB
namespace Go.Proofs.Ytmhpdmpihmahdaa
open Go.RowKit

def BoolPost (b : Bool) (w : World) (e : Ending) (w' : World) : Prop := e = .returned (.bool b) ∧ Below w.heap.size w w'

theorem beq_nat {a b : Nat} : (((a : Nat) : Int) == ((b : Nat) : Int)) = decide (a = b) := by
  by_cases h : a = b
  · subst h; simp
  · rw [decide_eq_false h, beq_eq_false_iff_ne]; omega

theorem lawful_none (key val old : Nat) (w : World) :
    Calls Try.prog 59 #[.agg #[.int .u8 0, .int .u8 (key : Nat), .int .u16 (val : Nat), .int .u16 (old : Nat)]] w (BoolPost (decide (key = 0 ∧ val = 0 ∧ old = 0)) w) := by
  have HB := Lib.hid (fun t => (Below.refl w.heap.size w).alloc (Nat.le_refl _) (.cells #[.int .u8 0, .int .u8 (key : Nat), .int .u16 (val : Nat), .int .u16 (old : Nat)] t))
  have b1 : ((key : Int) == 0) = decide (key = 0) := beq_nat (b := 0)
  have b2 : ((val : Int) == 0) = decide (val = 0) := beq_nat (b := 0)
  have b3 : ((old : Int) == 0) = decide (old = 0) := beq_nat (b := 0)
  by_cases h1 : key = 0
  · by_cases h2 : val = 0
    · by_cases h3 : old = 0
      · subst h1 h2 h3
        go_enter Try.func59, Try.ntmps59
        go_wp2_with fail
        go_ret
        exact ⟨rfl, HB.out _⟩
      · have e : decide (key = 0 ∧ val = 0 ∧ old = 0) = false := decide_eq_false (fun h => h3 h.2.2)
        have q : ((old : Int) == 0) = false := by rw [b3, decide_eq_false h3]
        rw [e]; subst h1 h2; clear b1 b2 b3 e h3
        go_enter Try.func59, Try.ntmps59
        go_wp2_with fail
        go_ret
        exact ⟨rfl, HB.out _⟩
    · have e : decide (key = 0 ∧ val = 0 ∧ old = 0) = false := decide_eq_false (fun h => h2 h.2.1)
      have q : ((val : Int) == 0) = false := by rw [b2, decide_eq_false h2]
      rw [e]; subst h1; clear b1 b2 b3 e h2
      go_enter Try.func59, Try.ntmps59
      go_wp2_with fail
      go_ret
      exact ⟨rfl, HB.out _⟩
  · have e : decide (key = 0 ∧ val = 0 ∧ old = 0) = false := decide_eq_false (fun h => h1 h.1)
    have q : ((key : Int) == 0) = false := by rw [b1, decide_eq_false h1]
    rw [e]; clear b1 b2 b3 e h1
    go_enter Try.func59, Try.ntmps59
    go_wp2_with fail
    go_ret
    exact ⟨rfl, HB.out _⟩

theorem lawful_some (kind key val old : Nat) (hk : kind ≠ 0) (w : World) :
    Calls Try.prog 59 #[.agg #[.int .u8 (kind : Nat), .int .u8 (key : Nat), .int .u16 (val : Nat), .int .u16 (old : Nat)]] w (BoolPost (decide (¬ FrameP.unlawful kind key val old)) w) := by
  have HB := Lib.hid (fun t => (Below.refl w.heap.size w).alloc (Nat.le_refl _) (.cells #[.int .u8 (kind : Nat), .int .u8 (key : Nat), .int .u16 (val : Nat), .int .u16 (old : Nat)] t))
  have q0 : ((kind : Int) == 0) = false := by rw [beq_eq_false_iff_ne]; omega
  by_cases h1 : key < 8
  · have q1 : decide ((key : Int) < 8) = true := decide_eq_true (by omega)
    by_cases h2 : old = 0
    · have q2 : ((old : Int) == 0) = true := by rw [h2]; rfl
      by_cases h3 : val = 0
      · have q3 : ((val : Int) == 0) = true := by rw [h3]; rfl
        have e : decide (¬ FrameP.unlawful kind key val old) = true := decide_eq_true (by unfold FrameP.unlawful; omega)
        rw [e]; clear e h1 h2 h3 hk
        go_enter Try.func59, Try.ntmps59
        go_wp2_with fail
        go_ret
        exact ⟨rfl, HB.out _⟩
      · have q3 : ((val : Int) == 0) = false := by rw [beq_eq_false_iff_ne]; omega
        by_cases h4 : kind = 2
        · have q4 : ((kind : Int) != 2) = false := by rw [h4]; rfl
          have e : decide (¬ FrameP.unlawful kind key val old) = false := decide_eq_false (by unfold FrameP.unlawful; omega)
          rw [e]; clear e h1 h2 h3 h4 hk
          go_enter Try.func59, Try.ntmps59
          go_wp2_with fail
          go_ret
          exact ⟨rfl, HB.out _⟩
        · have q4 : ((kind : Int) != 2) = true := by rw [bne_iff_ne]; omega
          have e : decide (¬ FrameP.unlawful kind key val old) = true := decide_eq_true (by unfold FrameP.unlawful; omega)
          rw [e]; clear e h1 h2 h3 h4 hk
          go_enter Try.func59, Try.ntmps59
          go_wp2_with fail
          go_ret
          exact ⟨rfl, HB.out _⟩
    · have q2 : ((old : Int) == 0) = false := by rw [beq_eq_false_iff_ne]; omega
      by_cases h5 : kind = 3
      · have q5 : ((kind : Int) == 3) = true := by rw [h5]; rfl
        have q4 : ((kind : Int) != 2) = true := by rw [h5]; rfl
        by_cases h3 : val = 0
        · have q3 : ((val : Int) == 0) = true := by rw [h3]; rfl
          have e : decide (¬ FrameP.unlawful kind key val old) = true := decide_eq_true (by unfold FrameP.unlawful; omega)
          rw [e]; clear e h1 h2 h3 h5 hk
          go_enter Try.func59, Try.ntmps59
          go_wp2_with fail
          go_ret
          exact ⟨rfl, HB.out _⟩
        · have q3 : ((val : Int) == 0) = false := by rw [beq_eq_false_iff_ne]; omega
          have e : decide (¬ FrameP.unlawful kind key val old) = true := decide_eq_true (by unfold FrameP.unlawful; omega)
          rw [e]; clear e h1 h2 h3 h5 hk
          go_enter Try.func59, Try.ntmps59
          go_wp2_with fail
          go_ret
          exact ⟨rfl, HB.out _⟩
      · have q5 : ((kind : Int) == 3) = false := by rw [beq_eq_false_iff_ne]; omega
        have e : decide (¬ FrameP.unlawful kind key val old) = false := decide_eq_false (by unfold FrameP.unlawful; omega)
        rw [e]; clear e h1 h2 h5 hk
        go_enter Try.func59, Try.ntmps59
        go_wp2_with fail
        go_ret
        exact ⟨rfl, HB.out _⟩
  · have q1 : decide ((key : Int) < 8) = false := decide_eq_false (by omega)
    have e : decide (¬ FrameP.unlawful kind key val old) = false := decide_eq_false (by unfold FrameP.unlawful; omega)
    rw [e]; clear e h1 hk
    go_enter Try.func59, Try.ntmps59
    go_wp2_with fail
    go_ret
    exact ⟨rfl, HB.out _⟩

/-- lawful: of a command of a known kind. -/
theorem lawful_any (kind key val old : Nat) (w : World) :
    Calls Try.prog 59 #[.agg #[.int .u8 (kind : Nat), .int .u8 (key : Nat), .int .u16 (val : Nat), .int .u16 (old : Nat)]] w (BoolPost (decide (¬ FrameP.unlawful kind key val old)) w) := by
  by_cases hk : kind = 0
  · subst hk
    have e : decide (¬ FrameP.unlawful 0 key val old) = decide (key = 0 ∧ val = 0 ∧ old = 0) := by
      rw [decide_eq_decide]
      unfold FrameP.unlawful
      omega
    rw [e]
    exact lawful_none key val old w
  · exact lawful_some kind key val old hk w

def cmdCode (kind key val old : Nat) : Int := if 3 < kind then 7 else if FrameP.unlawful kind key val old then 8 else 0

theorem wrongCommand_any (kind key val old : Nat) (w : World) :
    Calls Try.prog 36 #[.agg #[.int .u8 (kind : Nat), .int .u8 (key : Nat), .int .u16 (val : Nat), .int .u16 (old : Nat)]] w (NumPost (cmdCode kind key val old) w) := by
  have HB := Lib.hid (fun t => (Below.refl w.heap.size w).alloc (Nat.le_refl _) (.cells #[.int .u8 (kind : Nat), .int .u8 (key : Nat), .int .u16 (val : Nat), .int .u16 (old : Nat)] t))
  have HL := Lib.hid (fun W => lawful_any kind key val old W)
  by_cases h1 : 3 < kind
  · have q1 : decide ((3 : Int) < kind) = true := decide_eq_true (by omega)
    have e : cmdCode kind key val old = 7 := if_pos h1
    rw [e]; clear e h1
    go_enter Try.func36, Try.ntmps36
    go_wp2_with fail
    go_ret
    exact ⟨rfl, HB.out _⟩
  · have q1 : decide ((3 : Int) < kind) = false := decide_eq_false (by omega)
    by_cases h2 : FrameP.unlawful kind key val old
    · have e : cmdCode kind key val old = 8 := by unfold cmdCode; rw [if_neg h1, if_pos h2]
      rw [decide_eq_false (fun h => h h2)] at HL
      rw [e]; clear e h1 h2
      go_enter Try.func36, Try.ntmps36
      go_wp2_with fail
      refine (HL.out _).mono ?_
      rintro e w1 ⟨rfl, hb⟩
      have Hb := Lib.hid hb
      clear hb
      go_wp2_with fail
      go_ret
      exact ⟨rfl, (HB.out _).trans (Hb.out.mono (by simp))⟩
    · have e : cmdCode kind key val old = 0 := by unfold cmdCode; rw [if_neg h1, if_neg h2]
      rw [decide_eq_true h2] at HL
      rw [e]; clear e h1 h2
      go_enter Try.func36, Try.ntmps36
      go_wp2_with fail
      refine (HL.out _).mono ?_
      rintro e w1 ⟨rfl, hb⟩
      have Hb := Lib.hid hb
      clear hb
      go_wp2_with fail
      go_ret
      exact ⟨rfl, (HB.out _).trans (Hb.out.mono (by simp))⟩

def recCode (x : FrameP.Rec) : Int := if 6 < x.node ∨ 11 < x.part ∨ 3 < x.kind ∨ 3 < x.did then 50 else 0

theorem wrongRecord_any (x : FrameP.Rec) (w : World) :
    Calls Try.prog 37 #[.agg #[.int .u32 (x.round : Nat), .int .u8 (x.node : Nat), .int .u8 (x.part : Nat), .int .u8 (x.kind : Nat), .int .u8 (x.did : Nat)]] w (NumPost (recCode x) w) := by
  obtain ⟨rd, nd, pt, kd, dd⟩ := x
  have HB := Lib.hid (fun t => (Below.refl w.heap.size w).alloc (Nat.le_refl _) (.cells #[.int .u32 (rd : Nat), .int .u8 (nd : Nat), .int .u8 (pt : Nat), .int .u8 (kd : Nat), .int .u8 (dd : Nat)] t))
  simp only
  by_cases h1 : 7 ≤ nd
  · have q1 : decide ((7 : Int) ≤ nd) = true := decide_eq_true (by omega)
    have e : recCode ⟨rd, nd, pt, kd, dd⟩ = 50 := if_pos (.inl (by simp only; omega))
    rw [e]; clear e h1
    go_enter Try.func37, Try.ntmps37
    go_wp2_with fail
    go_ret
    exact ⟨rfl, HB.out _⟩
  · have q1 : decide ((7 : Int) ≤ nd) = false := decide_eq_false (by omega)
    by_cases h2 : 12 ≤ pt
    · have q2 : decide ((12 : Int) ≤ pt) = true := decide_eq_true (by omega)
      have e : recCode ⟨rd, nd, pt, kd, dd⟩ = 50 := if_pos (.inr (.inl (by simp only; omega)))
      rw [e]; clear e h1 h2
      go_enter Try.func37, Try.ntmps37
      go_wp2_with fail
      go_ret
      exact ⟨rfl, HB.out _⟩
    · have q2 : decide ((12 : Int) ≤ pt) = false := decide_eq_false (by omega)
      by_cases h3 : 3 < kd
      · have q3 : decide ((3 : Int) < kd) = true := decide_eq_true (by omega)
        have e : recCode ⟨rd, nd, pt, kd, dd⟩ = 50 := if_pos (.inr (.inr (.inl (by simp only; omega))))
        rw [e]; clear e h1 h2 h3
        go_enter Try.func37, Try.ntmps37
        go_wp2_with fail
        go_ret
        exact ⟨rfl, HB.out _⟩
      · have q3 : decide ((3 : Int) < kd) = false := decide_eq_false (by omega)
        by_cases h4 : 3 < dd
        · have q4 : decide ((3 : Int) < dd) = true := decide_eq_true (by omega)
          have e : recCode ⟨rd, nd, pt, kd, dd⟩ = 50 := if_pos (.inr (.inr (.inr (by simp only; omega))))
          rw [e]; clear e h1 h2 h3 h4
          go_enter Try.func37, Try.ntmps37
          go_wp2_with fail
          go_ret
          exact ⟨rfl, HB.out _⟩
        · have q4 : decide ((3 : Int) < dd) = false := decide_eq_false (by omega)
          have e : recCode ⟨rd, nd, pt, kd, dd⟩ = 0 := if_neg (by simp only; omega)
          rw [e]; clear e h1 h2 h3 h4
          go_enter Try.func37, Try.ntmps37
          go_wp2_with fail
          go_ret
          exact ⟨rfl, HB.out _⟩
end Go.Proofs.Ytmhpdmpihmahdaa
