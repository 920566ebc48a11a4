/- Contracts of the document's SameMessages, SameRecords, Same at frames that read alike: true. Conditions: where their lists lie. -/
import Derived.Test.YtdeodoppcflgfaaFraD
import Derived.Deep.QuietTactic
namespace Go.Proofs.Ytdeodoppcflgfaa
open Go.RowKit
set_option maxRecDepth 100000

theorem conv_w {w : World} {A : Option Addr} {n cap : Nat} {l : List UInt8} (hn : l.length = n) (h : Bytes w w.heap.size A l) : (convert 44 9 (.slice A n cap)).run Try.prog w = .ok (.string ⟨l.toArray⟩) w :=
  run_convert_b w 44 5 Try.underlying44 Try.underlying5 w.heap.size A l n cap hn h 9 Try.underlying9

def SameRel (n : Nat) (W : World) (i : Value) (wr : World) : Prop := ∃ k m, k ≤ n ∧ i = .int .i64 (k : Nat) ∧ wr = W.drewN m
def SamePost (W : World) (e : Ending) (w' : World) : Prop := e = .returned (.bool true) ∧ ∃ m, w' = W.drewN m

/-- Two lists of messages that say the same. -/
theorem plain_get {l l2 : List MsgC} (h : l.map MsgC.plain = l2.map MsgC.plain) {k : Nat} {x y : MsgC} (hx : l[k]? = some x) (hy : l2[k]? = some y) : x.port = y.port ∧ x.data = y.data := by
  have h1 : (l.map MsgC.plain)[k]? = some x.plain := by rw [List.getElem?_map, hx]; rfl
  have h2 : (l2.map MsgC.plain)[k]? = some y.plain := by rw [List.getElem?_map, hy]; rfl
  rw [h, h2] at h1
  injection h1 with h1
  simp only [MsgC.plain, FrameP.Msg.mk.injEq] at h1
  exact ⟨h1.1.symm, h1.2.symm⟩

set_option maxHeartbeats 1000000 in
theorem sameMsgs_any (A A2 : Option Addr) (n cap cap2 : Nat) (l l2 : List MsgC) (hn : l.length = n) (hp : l.map MsgC.plain = l2.map MsgC.plain) (w : World) (h1 : MsgsIn w A l) (h2 : MsgsIn w A2 l2) (hm : n ≤ 140737488355328) :
    Calls Try.prog 23 #[.slice A n cap, .slice A2 n cap2] w (SamePost w) := by
  have H1 := Lib.hid h1
  have H2 := Lib.hid h2
  have Hn := Lib.hid hn
  have Hp := Lib.hid hp
  have Hn2 : Hid (l2.length = n) := Lib.hid (by have := congrArg List.length hp; simp at this; omega)
  clear h1 h2 hn hp
  go_enter Try.func23, Try.ntmps23
  go_wp2_with fail
  go_loopw [5] (SameRel n w) (fun i _ => (n + 1 - intOf i).toNat)
  case atStart => exact ⟨0, 0, Nat.zero_le _, rfl, rfl⟩
  case round =>
    obtain ⟨k, m, hk, rfl, rfl⟩ := hrel
    by_cases hlt : k < n
    · obtain ⟨b, off, rfl, hb, hi⟩ := H1.out (by rw [Hn.out]; omega)
      obtain ⟨b', off', rfl, hb', hi'⟩ := H2.out (by rw [Hn2.out]; omega)
      obtain ⟨⟨p, D, q, c, t⟩, hmk⟩ : ∃ y, l[k]? = some y := ⟨_, List.getElem?_eq_getElem (by rw [Hn.out]; exact hlt)⟩
      obtain ⟨⟨p', D', q', c', t'⟩, hmk'⟩ : ∃ y, l2[k]? = some y := ⟨_, List.getElem?_eq_getElem (by rw [Hn2.out]; exact hlt)⟩
      obtain ⟨kp, kt, ok1, ok2, ok3, ok4, ok5⟩ := hi k _ hmk
      obtain ⟨kp', kt', ok1', ok2', ok3', ok4', ok5'⟩ := hi' k _ hmk'
      obtain ⟨e1, e2⟩ := plain_get Hp.out hmk hmk'
      simp only at kp kt ok1 ok2 ok3 ok4 ok5 kp' kt' ok1' ok2' ok3' ok4' ok5' e1 e2
      subst e1 e2
      have c1 : ∀ j, (convert 44 9 (.slice D q c)).run Try.prog (w.drewN j) = .ok (.string ⟨t.toArray⟩) (w.drewN j) := fun j => conv_w ok1 ok4
      have c2 : ∀ j, (convert 44 9 (.slice D' q' c')).run Try.prog (w.drewN j) = .ok (.string ⟨t.toArray⟩) (w.drewN j) := fun j => conv_w ok1' ok4'
      clear hi hi' hmk hmk' ok1 ok4 ok1' ok4'
      go_wp2_with fail
      go_quiet (fail)
      go_wp2_with fail
      go_roundw
      case rel => exact ⟨k + 1, _, by omega, by go_num, rfl⟩
      case measure => simp [intOf]; omega
    · go_wp2_with fail
      go_ret
      exact ⟨rfl, m, rfl⟩

theorem SamePost.below {W w' : World} {e : Ending} (h : SamePost W e w') : e = .returned (.bool true) ∧ Below W.heap.size W w' := by
  obtain ⟨h1, m, rfl⟩ := h
  exact ⟨h1, below_drewN (Below.refl _ _) m⟩

end Go.Proofs.Ytdeodoppcflgfaa
