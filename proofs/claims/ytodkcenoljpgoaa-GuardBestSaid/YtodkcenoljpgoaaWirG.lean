/- Contracts of the Reader's Text, Err and End, and how their errors read. Conditions: where the Reader lies. -/
import Derived.Test.YtodkcenoljpgoaaWirF
import Derived.Test.YtodkcenoljpgoaaErrR
import Derived.Deep.RegionHeld3
namespace Go.Proofs.Ytodkcenoljpgoaa
open Go.RowKit Go.Extern.Stop Go.Stop Go.Extern

theorem below_drewN {B : Nat} {a w : World} (h : Below B a w) (n : Nat) : Below B a (w.drewN n) := ⟨h.os, h.tape, h.output, h.size, h.block⟩

/-- An error in memory, of at most k links, and the text that the laws read of it. -/
def ErrTextK (k : Nat) (w : World) (v : Value) (x : List UInt8) : Prop := ∃ l t, v = errV l t ∧ l.length ≤ k ∧ ErrIn w t w.heap.size l ∧ Good l t ∧ x = sufT t true l
def ErrText (w : World) (v : Value) (x : List UInt8) : Prop := ErrTextK 4 w v x

theorem ErrTextK.below {k : Nat} {w w' : World} {v : Value} {x : List UInt8} (h : ErrTextK k w v x) (hb : Below w.heap.size w w') : ErrTextK k w' v x := by
  obtain ⟨l, t, h1, h2, h3, h4, h5⟩ := h
  exact ⟨l, t, h1, h2, (h3.below hb (Nat.le_refl _)).mono hb.size, h4, h5⟩
theorem ErrText.below {w w' : World} {v : Value} {x : List UInt8} (h : ErrText w v x) (hb : Below w.heap.size w w') : ErrText w' v x := ErrTextK.below h hb

theorem ErrTextK.none_ (k : Nat) (w : World) : ErrTextK k w .nilIface [] := ⟨[], none, rfl, by simp, trivial, ⟨fun n hn => absurd hn (by simp), fun m hm => by cases hm⟩, rfl⟩
theorem ErrText.none_ (w : World) : ErrText w .nilIface [] := ErrTextK.none_ 4 w

theorem ErrTextK.read {k : Nat} (hk : k ≤ 12) {w : World} {v : Value} {x : List UInt8} (h : ErrTextK k w v x) : Calls Try.prog 12 #[v] w fun e w' => e = .returned (strV x) ∧ Below w.heap.size w w' := by
  obtain ⟨l, t, rfl, h2, h3, h4, rfl⟩ := h
  exact read_any w.heap.size l t w (Nat.le_trans h2 hk) (Nat.le_refl _) h3 h4
theorem ErrText.read {w : World} {v : Value} {x : List UInt8} (h : ErrText w v x) : Calls Try.prog 12 #[v] w fun e w' => e = .returned (strV x) ∧ Below w.heap.size w w' := ErrTextK.read (by omega) h

/-- A fault over a fault. -/
theorem ErrTextK.wrap {k b : Nat} {w : World} {x : List UInt8} (h : ErrTextK k w (.iface 79 (.pointer (some ⟨b, 0, none⟩))) x) (c a : Int) (hc : 1 ≤ c ∧ c ≤ 199) (ha : -1 ≤ a ∧ a ≤ 9223372036854775807) :
    ErrTextK (k + 1) (w.alloc (.cells #[.int .i64 c, .int .i64 a, .iface 79 (.pointer (some ⟨b, 0, none⟩))] 81)) (.iface 79 (.pointer (some ⟨w.heap.size, 0, none⟩))) (atT c.toNat a ++ 62 :: x) := by
  obtain ⟨l, t, h1, h2, h3, h4, h5⟩ := h
  match l, h1 with
  | [], h1 => cases t <;> simp [errV] at h1
  | y :: r, h1 =>
    refine ⟨(w.heap.size, c, a) :: y :: r, t, rfl, by simp at h2 ⊢; omega, ⟨by simp, ?_, ?_⟩, ⟨fun n hn => ?_, h4.2⟩, ?_⟩
    · rw [← h1]; exact heap_alloc_new w _
    · exact h3.keep fun k hk => Below.heap_alloc _ _ _ hk
    · match n, hn with
      | 0, _ => exact ⟨hc.1, hc.2, ha.1, ha.2⟩
      | n + 1, hn => simpa [nd] using h4.1 n (by simpa using hn)
    · obtain ⟨y1, y2, y3⟩ := y
      rw [h5]
      simp [sufT, sep]

theorem place_of (a : Int) (h : -1 ≤ a) : place a = a := by unfold place; rw [if_neg (by omega)]

/-- A new fault. -/
theorem ErrText.new (w : World) (c a : Int) (hc : 1 ≤ c ∧ c ≤ 199) (ha : -1 ≤ a ∧ a ≤ 9223372036854775807) : ErrText (w.alloc (.cells #[.int .i64 c, .int .i64 a, .nilIface] 81)) (.iface 79 (.pointer (some ⟨w.heap.size, 0, none⟩))) (atT c.toNat a) := by
  refine ⟨[(w.heap.size, c, a)], none, rfl, by simp, ⟨by simp, heap_alloc_new w _, trivial⟩, ⟨fun n hn => ?_, fun m hm => by cases hm⟩, by simp [sufT, sep]⟩
  match n, hn with
  | 0, _ => exact ⟨hc.1, hc.2, ha.1, ha.2⟩

def errText (sh : Bool) (a : Nat) : List UInt8 := if sh then atT 4 a else []
def endText (sh : Bool) (a n : Nat) : List UInt8 := if sh then atT 4 a else if a < n then atT 5 a else []

/-- What Err and End answer. -/
def ErrPost (x : List UInt8) (ok : Bool) (w : World) (e : Ending) (w' : World) : Prop :=
  ∃ v, e = .returned v ∧ ErrText w' v x ∧ (if ok then v = .nilIface else ∃ b, v = .iface 79 (.pointer (some ⟨b, 0, none⟩))) ∧ Below w.heap.size w w'

theorem errpost_new (w W : World) (c a : Int) (hc : 1 ≤ c ∧ c ≤ 199) (ha : -1 ≤ a ∧ a ≤ 9223372036854775807) (hb : Below w.heap.size w W) :
    ErrPost (atT c.toNat a) false w (.returned (.iface 79 (.pointer (some ⟨W.heap.size, 0, none⟩)))) (W.alloc (.cells #[.int .i64 c, .int .i64 a, .nilIface] 81)) :=
  ⟨_, rfl, ErrText.new W c a hc ha, ⟨_, rfl⟩, hb.alloc hb.size _⟩

end Go.Proofs.Ytodkcenoljpgoaa
