/- Contracts of the document's SameMessages, SameRecords, Same at frames that read alike: true. Conditions: where their lists lie. -/
import Derived.Test.YtkahecdnmeofkaaFraD
import Derived.Deep.QuietTactic
namespace Go.Proofs.Ytkahecdnmeofkaa
open Go.RowKit
set_option maxRecDepth 100000

theorem conv_w {w : World} {A : Option Addr} {n cap : Nat} {l : List UInt8} (hn : l.length = n) (h : Bytes w w.heap.size A l) : (convert 71 9 (.slice A n cap)).run Try.prog w = .ok (.string ⟨l.toArray⟩) w :=
  run_convert_b w 71 5 Try.underlying71 Try.underlying5 w.heap.size A l n cap hn h 9 Try.underlying9

def SameRel (n : Nat) (W : World) (i : Value) (wr : World) : Prop := ∃ k m, k ≤ n ∧ i = .int .i64 (k : Nat) ∧ wr = W.drewN m
def SamePost (W : World) (e : Ending) (w' : World) : Prop := e = .returned (.bool true) ∧ ∃ m, w' = W.drewN m

set_option maxHeartbeats 1000000 in
theorem sameRecs_any (A A2 : Option Addr) (n cap cap2 : Nat) (l : List FrameP.Rec) (hn : l.length = n) (w : World) (h1 : RecsIn w A l) (h2 : RecsIn w A2 l) (hm : n ≤ 140737488355328) :
    Calls Try.prog 36 #[.slice A n cap, .slice A2 n cap2] w (SamePost w) := by
  have H1 := Lib.hid h1
  have H2 := Lib.hid h2
  have Hn := Lib.hid hn
  clear h1 h2 hn
  go_enter Try.func36, Try.ntmps36
  go_wp2_with fail
  go_loopw [5] (SameRel n w) (fun i _ => (n + 1 - intOf i).toNat)
  case atStart => exact ⟨0, 0, Nat.zero_le _, rfl, rfl⟩
  case round =>
    obtain ⟨k, m, hk, rfl, rfl⟩ := hrel
    by_cases hlt : k < n
    · obtain ⟨b, off, rfl, hb, hi⟩ := H1.out (by rw [Hn.out]; omega)
      obtain ⟨b', off', rfl, hb', hi'⟩ := H2.out (by rw [Hn.out]; omega)
      obtain ⟨y, hmk⟩ : ∃ y, l[k]? = some y := ⟨_, List.getElem?_eq_getElem (by rw [Hn.out]; exact hlt)⟩
      obtain ⟨k0, k1, k2, k3, k4⟩ := hi k _ hmk
      obtain ⟨j0, j1, j2, j3, j4⟩ := hi' k _ hmk
      clear hi hi' hmk
      go_wp2_with fail
      go_quiet (fail)
      go_wp2_with fail
      go_roundw
      case rel => exact ⟨k + 1, _, by omega, by go_num, rfl⟩
      case measure => simp [intOf]; omega
    · go_wp2_with fail
      go_ret
      exact ⟨rfl, m, rfl⟩

/-- Two lists of messages that say the same. -/
theorem plain_get {l l2 : List MsgC} (h : l.map MsgC.plain = l2.map MsgC.plain) {k : Nat} {x y : MsgC} (hx : l[k]? = some x) (hy : l2[k]? = some y) : x.port = y.port ∧ x.data = y.data := by
  have h1 : (l.map MsgC.plain)[k]? = some x.plain := by rw [List.getElem?_map, hx]; rfl
  have h2 : (l2.map MsgC.plain)[k]? = some y.plain := by rw [List.getElem?_map, hy]; rfl
  rw [h, h2] at h1
  injection h1 with h1
  simp only [MsgC.plain, FrameP.Msg.mk.injEq] at h1
  exact ⟨h1.1.symm, h1.2.symm⟩

set_option maxHeartbeats 1000000 in
theorem sameMsgs_any (A A2 : Option Addr) (n cap cap2 : Nat) (l l2 : List MsgC) (hn : l.length = n) (hp : l.map MsgC.plain = l2.map MsgC.plain) (w : World) (h1 : MsgsIn w A l) (h2 : MsgsIn w A2 l2) (hm : n ≤ 140737488355328) :
    Calls Try.prog 35 #[.slice A n cap, .slice A2 n cap2] w (SamePost w) := by
  have H1 := Lib.hid h1
  have H2 := Lib.hid h2
  have Hn := Lib.hid hn
  have Hp := Lib.hid hp
  have Hn2 : Hid (l2.length = n) := Lib.hid (by have := congrArg List.length hp; simp at this; omega)
  clear h1 h2 hn hp
  go_enter Try.func35, Try.ntmps35
  go_wp2_with fail
  go_loopw [5] (SameRel n w) (fun i _ => (n + 1 - intOf i).toNat)
  case atStart => exact ⟨0, 0, Nat.zero_le _, rfl, rfl⟩
  case round =>
    obtain ⟨k, m, hk, rfl, rfl⟩ := hrel
    by_cases hlt : k < n
    · obtain ⟨b, off, rfl, hb, hi⟩ := H1.out (by rw [Hn.out]; omega)
      obtain ⟨b', off', rfl, hb', hi'⟩ := H2.out (by rw [Hn2.out]; omega)
      obtain ⟨⟨p, D, q, c, t⟩, hmk⟩ : ∃ y, l[k]? = some y := ⟨_, List.getElem?_eq_getElem (by rw [Hn.out]; exact hlt)⟩
      obtain ⟨⟨p', D', q', c', t'⟩, hmk'⟩ : ∃ y, l2[k]? = some y := ⟨_, List.getElem?_eq_getElem (by rw [Hn2.out]; exact hlt)⟩
      obtain ⟨kp, kt, ok1, ok2, ok3, ok4, ok5⟩ := hi k _ hmk
      obtain ⟨kp', kt', ok1', ok2', ok3', ok4', ok5'⟩ := hi' k _ hmk'
      obtain ⟨e1, e2⟩ := plain_get Hp.out hmk hmk'
      simp only at kp kt ok1 ok2 ok3 ok4 ok5 kp' kt' ok1' ok2' ok3' ok4' ok5' e1 e2
      subst e1 e2
      have c1 : ∀ j, (convert 71 9 (.slice D q c)).run Try.prog (w.drewN j) = .ok (.string ⟨t.toArray⟩) (w.drewN j) := fun j => conv_w ok1 ok4
      have c2 : ∀ j, (convert 71 9 (.slice D' q' c')).run Try.prog (w.drewN j) = .ok (.string ⟨t.toArray⟩) (w.drewN j) := fun j => conv_w ok1' ok4'
      clear hi hi' hmk hmk' ok1 ok4 ok1' ok4'
      go_wp2_with fail
      go_quiet (fail)
      go_wp2_with fail
      go_roundw
      case rel => exact ⟨k + 1, _, by omega, by go_num, rfl⟩
      case measure => simp [intOf]; omega
    · go_wp2_with fail
      go_ret
      exact ⟨rfl, m, rfl⟩

theorem SamePost.below {W w' : World} {e : Ending} (h : SamePost W e w') : e = .returned (.bool true) ∧ Below W.heap.size W w' := by
  obtain ⟨h1, m, rfl⟩ := h
  exact ⟨h1, below_drewN (Below.refl _ _) m⟩

set_option maxHeartbeats 1000000 in
/-- Same: of two frames that read alike. -/
theorem same_any (x y : FrameC) (w : World) (hx : FrameIn w x) (hy : FrameIn w y) (he : x.plain = y.plain) :
    Calls Try.prog 28 #[x.value, y.value] w (fun e w' => e = .returned (.bool true) ∧ Below w.heap.size w w') := by
  have HM1 := Lib.hid (fun W (hW : Below w.heap.size w W) => (hx.msgs).below hW)
  have HM2 := Lib.hid (fun W (hW : Below w.heap.size w W) => (hy.msgs).below hW)
  have HR1 := Lib.hid (fun W (hW : Below w.heap.size w W) => (hx.recs).below hW)
  have HR2 := Lib.hid (fun W (hW : Below w.heap.size w W) => (hy.recs).below hW)
  have hml := hx.mlen
  have hml2 := hy.mlen
  have hrl := hx.rlen
  have hrl2 := hy.rlen
  have hmm : x.mn ≤ 140737488355328 := Nat.le_trans hx.mmost (by omega)
  have hrm : x.rn ≤ 140737488355328 := Nat.le_trans hx.rmost (by omega)
  obtain ⟨sender, round, members, MA, mn, mcap, msgs, kind, key, val, old, RA, rn, rcap, recs⟩ := x
  obtain ⟨sender', round', members', MA', mn', mcap', msgs', kind', key', val', old', RA', rn', rcap', recs'⟩ := y
  simp only [FrameC.plain, FrameP.Fr.mk.injEq] at he
  obtain ⟨rfl, rfl, rfl, hp, rfl, rfl, rfl, rfl, rfl⟩ := he
  simp only at HM1 HM2 HR1 HR2 hml hml2 hrl hrl2 hmm hrm
  have hmn : mn = mn' := by have := congrArg List.length hp; simp only [List.length_map] at this; omega
  have hrn : rn = rn' := by omega
  subst hmn hrn
  have HSM := Lib.hid (fun W hW => sameMsgs_any MA MA' mn mcap mcap' msgs msgs' hml hp W (HM1.out W hW) (HM2.out W hW) hmm)
  have HSR := Lib.hid (fun W hW => sameRecs_any RA RA' rn rcap rcap' recs hrl W (HR1.out W hW) (HR2.out W hW) hrm)
  simp only [FrameC.value]
  have HB := Lib.hid (fun o1 o2 => ((Below.refl w.heap.size w).alloc (Nat.le_refl _) o1).alloc (by simp) o2)
  clear hx hy hml hml2 hrl hrl2 hp HM1 HM2 HR1 HR2
  go_enter Try.func28, Try.ntmps28
  go_wp2_with fail
  refine (HSM.out _ (HB.out _ _)).mono ?_
  rintro e w1 h1
  obtain ⟨rfl, hb1⟩ := h1.below
  obtain ⟨hc, hf⟩ : (∀ b o, b < w.heap.size + 2 → w1.cell? ⟨b, o, none⟩ = _) ∧ True := ⟨fun b o hb => hb1.cell (p := ⟨b, o, none⟩) (by simp; omega), trivial⟩
  have Hb1 := Lib.hid hb1
  clear hb1 h1
  go_wp2_with fail
  refine (HSR.out _ ((HB.out _ _).trans (Hb1.out.mono (by simp; omega)))).mono ?_
  rintro e w2 h2
  obtain ⟨rfl, hb2⟩ := h2.below
  have Hb2 := Lib.hid (((HB.out _ _).trans (Hb1.out.mono (by simp; omega))).trans (hb2.mono (by have := Hb1.out.size; simp at this; omega)))
  clear hb2 h2
  go_wp2_with fail
  go_ret
  exact ⟨rfl, Hb2.out⟩
end Go.Proofs.Ytkahecdnmeofkaa
