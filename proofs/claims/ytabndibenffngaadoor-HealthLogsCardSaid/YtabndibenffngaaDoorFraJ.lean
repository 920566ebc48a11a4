/- Contracts of the document's SameMessages, SameRecords, Same at frames that read alike: true. Conditions: where their lists lie. -/
import Derived.Test.YtabndibenffngaaDoorFraD
import Derived.Deep.QuietTactic
namespace Go.Proofs.YtabndibenffngaaDoor
open Go.RowKit
set_option maxRecDepth 100000

theorem conv_w {w : World} {A : Option Addr} {n cap : Nat} {l : List UInt8} (hn : l.length = n) (h : Bytes w w.heap.size A l) : (convert 96 9 (.slice A n cap)).run Tryd.prog w = .ok (.string ⟨l.toArray⟩) w :=
  run_convert_b w 96 5 Tryd.underlying96 Tryd.underlying5 w.heap.size A l n cap hn h 9 Tryd.underlying9

def SameRel (n : Nat) (W : World) (i : Value) (wr : World) : Prop := ∃ k m, k ≤ n ∧ i = .int .i64 (k : Nat) ∧ wr = W.drewN m
def SamePost (W : World) (e : Ending) (w' : World) : Prop := e = .returned (.bool true) ∧ ∃ m, w' = W.drewN m

set_option maxHeartbeats 1000000 in
theorem sameRecs_any (A A2 : Option Addr) (n cap cap2 : Nat) (l : List FrameP.Rec) (hn : l.length = n) (w : World) (h1 : RecsIn w A l) (h2 : RecsIn w A2 l) (hm : n ≤ 140737488355328) :
    Calls Tryd.prog 21 #[.slice A n cap, .slice A2 n cap2] w (SamePost w) := by
  have H1 := Lib.hid h1
  have H2 := Lib.hid h2
  have Hn := Lib.hid hn
  clear h1 h2 hn
  go_enter Tryd.func21, Tryd.ntmps21
  go_wp2_with fail
  go_loopw [5] (SameRel n w) (fun i _ => (n + 1 - intOf i).toNat)
  case atStart => exact ⟨0, 0, Nat.zero_le _, rfl, rfl⟩
  case round =>
    obtain ⟨k, m, hk, rfl, rfl⟩ := hrel
    by_cases hlt : k < n
    · obtain ⟨b, off, rfl, hb, hi⟩ := H1.out (by rw [Hn.out]; omega)
      obtain ⟨b', off', rfl, hb', hi'⟩ := H2.out (by rw [Hn.out]; omega)
      obtain ⟨y, hmk⟩ : ∃ y, l[k]? = some y := ⟨_, List.getElem?_eq_getElem (by rw [Hn.out]; exact hlt)⟩
      obtain ⟨k0, k1, k2, k3, k4⟩ := hi k _ hmk
      obtain ⟨j0, j1, j2, j3, j4⟩ := hi' k _ hmk
      clear hi hi' hmk
      go_wp2_with fail
      go_quiet (fail)
      go_wp2_with fail
      go_roundw
      case rel => exact ⟨k + 1, _, by omega, by go_num, rfl⟩
      case measure => simp [intOf]; omega
    · go_wp2_with fail
      go_ret
      exact ⟨rfl, m, rfl⟩

/-- Two lists of messages that say the same. -/
theorem plain_get {l l2 : List MsgC} (h : l.map MsgC.plain = l2.map MsgC.plain) {k : Nat} {x y : MsgC} (hx : l[k]? = some x) (hy : l2[k]? = some y) : x.port = y.port ∧ x.data = y.data := by
  have h1 : (l.map MsgC.plain)[k]? = some x.plain := by rw [List.getElem?_map, hx]; rfl
  have h2 : (l2.map MsgC.plain)[k]? = some y.plain := by rw [List.getElem?_map, hy]; rfl
  rw [h, h2] at h1
  injection h1 with h1
  simp only [MsgC.plain, FrameP.Msg.mk.injEq] at h1
  exact ⟨h1.1.symm, h1.2.symm⟩

theorem SamePost.below {W w' : World} {e : Ending} (h : SamePost W e w') : e = .returned (.bool true) ∧ Below W.heap.size W w' := by
  obtain ⟨h1, m, rfl⟩ := h
  exact ⟨h1, below_drewN (Below.refl _ _) m⟩

end Go.Proofs.YtabndibenffngaaDoor
