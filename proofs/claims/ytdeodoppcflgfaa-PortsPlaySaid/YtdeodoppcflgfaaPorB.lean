/- Contracts of ways and put. Conditions: where the ports and the bytes lie, tables that are allowed, numbers in their ranges. -/
import Derived.Test.YtdeodoppcflgfaaPorA
import Derived.Test.YtdeodoppcflgfaaBcl
import Derived.Test.YtdeodoppcflgfaaDel
namespace Go.Proofs.Ytdeodoppcflgfaa
open Go.RowKit PorP
set_option maxRecDepth 100000

/-- Where a message goes. -/
def waysT (c : TableP.Cfg) (node src_ port : Int) (l : List UInt8) : List Int := if comesB c src_ port l = true then toT c node port.toNat else []
def WaysP (W : World) (B : Nat) (tos : List Int) (e : Ending) (w' : World) : Prop := ∃ v, e = .returned v ∧ Seg w' B 3 1 v tos.length (intV tos) ∧ Below W.heap.size W w'

set_option maxHeartbeats 2000000 in
theorem pways_any (w : World) (B : Nat) (c : TableP.Cfg) (x : PC) (h : PIn w B c x) (hl : c.ports.length ≤ 24) (src_ port : Int) (A : Option Addr) (n cap : Nat) (l : List UInt8) (hn : l.length = n) :
    Calls Try.prog 49 #[pv x, .int .i64 src_, .agg #[.int .i64 port, .slice A n cap]] w (WaysP w B (waysT c x.node src_ port l)) := by
  have hb := (Below.refl w.heap.size w).alloc (Nat.le_refl _) (.cells #[.int .i64 port, .slice A n cap] 68)
  have h1 := h.below hb
  have m0 := cell_at (heap_alloc_new w (.cells #[.int .i64 port, .slice A n cap] 68)) 0 rfl
  have m1 := cell_at (heap_alloc_new w (.cells #[.int .i64 port, .slice A n cap] 68)) 1 rfl
  have k0 := cell_at h1.hd 0 rfl
  have k1 := cell_at h1.hd 1 rfl
  have HL := Lib.hid h.len
  have HN : Hid (comesB c src_ port l = false → ∀ W', Below (w.alloc (.cells #[.int .i64 port, .slice A n cap] 68)).heap.size (w.alloc (.cells #[.int .i64 port, .slice A n cap] 68)) W' → WaysP w B (waysT c x.node src_ port l) (.returned (.slice none 0 0)) W') := Lib.hid fun e W' hw => by
    unfold waysT
    rw [e, if_neg (by decide)]
    exact ⟨_, rfl, Seg.nil _ _ _ _, hb.trans (hw.mono hb.size)⟩
  by_cases h0 : port < 0
  · have q1 : decide (port < 0) = true := decide_eq_true h0
    have HF := Lib.hid (HN.out (by unfold comesB; rw [decide_eq_false (by omega)]; rfl))
    unfold pv
    clear h h0 hl hb h1 HN
    go_enter Try.func49, Try.ntmps49
    go_wp2_with fail
    go_quiet (fail)
    go_wp2_with fail
    go_ret
    exact HF.out _ (by repeat' (first | exact Below.refl _ _ | refine below_drewNc ?_ _))
  have q1 : decide (port < 0) = false := decide_eq_false h0
  obtain ⟨k, rfl⟩ := Int.eq_ofNat_of_zero_le (show 0 ≤ port by omega)
  by_cases h2 : x.es.length ≤ k
  · have q2 : decide ((x.es.length : Int) ≤ (k : Int)) = true := decide_eq_true (by omega)
    have q3 : decide (x.es.length ≤ k) = true := decide_eq_true h2
    have HF := Lib.hid (HN.out (by
      unfold comesB
      rw [List.getElem?_eq_none (by rw [← HL.out]; simpa using h2)]
      simp))
    unfold pv
    clear h h0 hl hb h1 HN h2
    go_enter Try.func49, Try.ntmps49
    go_wp2_with fail
    go_quiet (fail)
    go_wp2_with fail
    go_ret
    exact HF.out _ (by repeat' (first | exact Below.refl _ _ | refine below_drewNc ?_ _))
  have q2 : decide ((x.es.length : Int) ≤ (k : Int)) = false := decide_eq_false (by omega)
  have q3 : decide (x.es.length ≤ k) = false := decide_eq_false h2
  obtain ⟨e, he⟩ : ∃ e, x.es[k]? = some e := ⟨_, List.getElem?_eq_getElem (by omega)⟩
  obtain ⟨p, hp⟩ := h.port he
  obtain ⟨tv, -, hbx, hsg⟩ := h1.box he hp
  have b2 := hbx.c2
  have b3 := hbx.c3
  have b6 := hbx.c6
  have b7 := hbx.c7
  have ec : comesB c src_ k l = (p.out && decide (nodeOf c p = src_) && decide ((l.length : Int) ≤ p.size)) := by
    unfold comesB
    rw [Int.toNat_natCast, hp]
    simp
  have HY : Hid (comesB c src_ k l = true → ∀ W', Below (w.alloc (.cells #[.int .i64 (k : Int), .slice A n cap] 68)).heap.size (w.alloc (.cells #[.int .i64 (k : Int), .slice A n cap] 68)) W' → WaysP w B (waysT c x.node src_ k l) (.returned tv) W') := Lib.hid fun e W' hw => by
    unfold waysT
    rw [e, if_pos rfl, Int.toNat_natCast]
    exact ⟨_, rfl, hsg.keep hw, hb.trans (hw.mono hb.size)⟩
  generalize comesB c src_ k l = D at *
  have hlt : k < x.es.length := by omega
  unfold pv
  generalize hNo : nodeOf c p = N at *
  generalize hpo : p.out = O at *
  generalize hps : p.size = Z at *
  generalize x.es.length = len at *
  have hn24 : len ≤ 24 := by have := HL.out; omega
  obtain ⟨A1, c1, rfl, -⟩ := hsg.slice
  generalize (toT c x.node k).length = tl at *
  subst hn
  clear h hp he hbx hNo hpo hps h0 h2 hl h1 hsg hb
  cases O with
  | false =>
    have HF := Lib.hid (HN.out (by rw [ec]; rfl))
    clear HN HY ec
    go_enter Try.func49, Try.ntmps49
    go_wp2_with fail
    go_quiet (fail)
    go_wp2_with fail
    go_quiet (fail)
    go_wp2_with fail
    go_quiet (fail)
    go_wp2_with fail
    go_ret
    exact HF.out _ (by repeat' (first | exact Below.refl _ _ | refine below_drewNc ?_ _))
  | true =>
    by_cases h4 : N = src_
    case neg =>
      have t2 : (N != src_) = true := by simp [h4]
      have HF := Lib.hid (HN.out (by rw [ec, decide_eq_false h4]; rfl))
      clear HN HY ec h4
      go_enter Try.func49, Try.ntmps49
      go_wp2_with fail
      go_quiet (fail)
      go_wp2_with fail
      go_quiet (fail)
      go_wp2_with fail
      go_quiet (fail)
      go_wp2_with fail
      go_ret
      exact HF.out _ (by repeat' (first | exact Below.refl _ _ | refine below_drewNc ?_ _))
    have t2 : (N != src_) = false := by simp [h4]
    by_cases h5 : (l.length : Int) ≤ Z
    case neg =>
      have t3 : decide (Z < (l.length : Int)) = true := decide_eq_true (by omega)
      have HF := Lib.hid (HN.out (by rw [ec, decide_eq_true h4, decide_eq_false h5]; rfl))
      clear HN HY ec h4 h5
      go_enter Try.func49, Try.ntmps49
      go_wp2_with fail
      go_quiet (fail)
      go_wp2_with fail
      go_quiet (fail)
      go_wp2_with fail
      go_quiet (fail)
      go_wp2_with fail
      go_ret
      exact HF.out _ (by repeat' (first | exact Below.refl _ _ | refine below_drewNc ?_ _))
    have t3 : decide (Z < (l.length : Int)) = false := decide_eq_false (by omega)
    have HF := Lib.hid (HY.out (by rw [ec, decide_eq_true h4, decide_eq_true h5]; rfl))
    clear HN HY ec h4 h5
    go_enter Try.func49, Try.ntmps49
    go_wp2_with fail
    go_quiet (fail)
    go_wp2_with fail
    go_quiet (fail)
    go_wp2_with fail
    go_quiet (fail)
    go_wp2_with fail
    go_ret
    exact HF.out _ (by repeat' (first | exact Below.refl _ _ | refine below_drewNc ?_ _))
end Go.Proofs.Ytdeodoppcflgfaa
