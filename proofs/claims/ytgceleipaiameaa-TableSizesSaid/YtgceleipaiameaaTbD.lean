/- Contract of table's Check at tables in memory. Conditions: where its lists lie. -/
import Derived.Test.YtgceleipaiameaaTbC3
namespace Go.Proofs.Ytgceleipaiameaa
open Go.RowKit
set_option maxRecDepth 100000

/-- The text of what is wrong. -/
def wrongT : Option FrameP.Wrong → List UInt8
  | none => []
  | some (c, p) => atT c p
theorem ErrPost.of_below {x : List UInt8} {ok : Bool} {w w0 w' : World} {e : Ending} (h : ErrPost x ok w0 e w') (hb : Below w.heap.size w w0) : ErrPost x ok w e w' := by
  obtain ⟨v, h1, h2, h3, h4⟩ := h
  exact ⟨v, h1, h2, h3, hb.trans (h4.mono hb.size)⟩
theorem ErrPost.ok {w w' : World} (hb : Below w.heap.size w w') : ErrPost [] true w (.returned .nilIface) w' := ⟨_, rfl, ErrText.none_ _, rfl, hb⟩
theorem errpost_at (w W : World) (c a : Int) (N : Nat) (hN : N = W.heap.size) (hc : 1 ≤ c ∧ c ≤ 199) (ha : -1 ≤ a ∧ a ≤ 9223372036854775807) (hb : Below w.heap.size w W) :
    ErrPost (atT c.toNat a) false w (.returned (.iface 71 (.pointer (some ⟨N, 0, none⟩)))) (W.alloc (.cells #[.int .i64 c, .int .i64 a, .nilIface] 73)) := by
  subst hN
  exact errpost_new w W c a hc ha hb
def CheckPost (c : Option FrameP.Wrong) (w : World) (e : Ending) (w' : World) : Prop := ErrPost (wrongT c) c.isNone w e w'

/-- Tables that were boxed. -/
def boxC (w : World) (x : CfgC) : World := w.alloc (.cells (cfgCells x) 26)
theorem boxC_size (w : World) (x : CfgC) : (boxC w x).heap.size = w.heap.size + 1 := by simp [boxC]
theorem boxC_below (w : World) (x : CfgC) : Below w.heap.size w (boxC w x) := (Below.refl _ _).alloc (Nat.le_refl _) _

theorem first_step {α : Type} {ok : α → Prop} [DecidablePred ok] {code : Nat} {l : List α} {k : Nat} {x : α} (h : l[k]? = some x) :
    TableP.first ok code k (l.drop k) = if ok x then TableP.first ok code (k + 1) (l.drop (k + 1)) else some (code, (k : Int)) := by
  obtain ⟨hk, rfl⟩ := List.getElem?_eq_some_iff.1 h
  rw [List.drop_eq_getElem_cons hk]
  rfl
theorem first_end {α : Type} {ok : α → Prop} [DecidablePred ok] {code : Nat} {l : List α} {k : Nat} (h : l.length ≤ k) : TableP.first ok code k (l.drop k) = none := by
  rw [List.drop_of_length_le h]; rfl

theorem check_head (x : CfgC) (w : World) (h1 : ¬ TableP.headOk x.plain) :
    Calls Try.prog 14 #[x.value] w (CheckPost (TableP.chk x.plain) w) := by
  have e : TableP.chk x.plain = some (2, -1) := by unfold TableP.chk; rw [if_neg h1]
  rw [e]; clear e
  have HF := Lib.hid (fun W N hN => errpost_at w W 2 (-1) N hN (by omega) (by omega))
  have HB := Lib.hid (boxC_below w x)
  have HS := Lib.hid (boxC_size w x)
  have HI : Hid (∀ W, Calls Try.prog 30 #[x.value] W (BoolPost false W)) := Lib.hid fun W => by have := inRange_any x W; rwa [decide_eq_false h1] at this
  obtain ⟨nodes, faulty, slot, gap, rho, dmin, dmax, margin, PA, pn, pcap, parts, QA, qn, qcap, ports, RA, rn, rcap, routes⟩ := x
  have HN := Lib.hid (fun W => new_some 2 (-1) W rfl)
  rw [place_of (-1) (by omega)] at HN
  simp only [CfgC.value] at HI ⊢
  simp only [boxC, cfgCells] at HB HS
  clear h1
  go_enter Try.func14, Try.ntmps14
  go_wp2_with fail
  refine (HI.out _).mono ?_
  rintro e w1 ⟨rfl, hb1⟩
  have Hb1 := Lib.hid (HB.out.trans (hb1.mono (by rw [HS.out]; omega)))
  clear hb1
  go_wp2_with fail
  refine (HN.out _).mono ?_
  rintro e w2 ⟨rfl, rfl⟩
  go_wp2_with fail
  go_ret
  exact HF.out _ _ rfl Hb1.out

theorem check_many (x : CfgC) (w : World) (h1 : TableP.headOk x.plain) (h2 : 12 < x.pn ∨ 24 < x.qn ∨ 24 < x.rn) (h : CfgIn w x) :
    Calls Try.prog 14 #[x.value] w (CheckPost (TableP.chk x.plain) w) := by
  have e : TableP.chk x.plain = some (3, -1) := by
    unfold TableP.chk
    rw [if_pos h1, if_pos (show 12 < x.plain.parts.length ∨ 24 < x.plain.ports.length ∨ 24 < x.plain.routes.length by have := h.plen; have := h.qlen; have := h.rlen; simp only [CfgC.plain]; omega)]
  rw [e]; clear e
  have HF := Lib.hid (fun W N hN => errpost_at w W 3 (-1) N hN (by omega) (by omega))
  have HB := Lib.hid (boxC_below w x)
  have HS := Lib.hid (boxC_size w x)
  have HX := Lib.hid (fun wr hb => box11 (w := w) (wr := wr) (x := x) (t := 26) hb)
  have HI : Hid (∀ W, Calls Try.prog 30 #[x.value] W (BoolPost true W)) := Lib.hid fun W => by have := inRange_any x W; rwa [decide_eq_true h1] at this
  clear h
  obtain ⟨nodes, faulty, slot, gap, rho, dmin, dmax, margin, PA, pn, pcap, parts, QA, qn, qcap, ports, RA, rn, rcap, routes⟩ := x
  have HN := Lib.hid (fun W => new_some 3 (-1) W rfl)
  rw [place_of (-1) (by omega)] at HN
  simp only [CfgC.value] at HI ⊢
  simp only [boxC, cfgCells] at HB HS HX
  simp only at h2
  clear h1
  go_enter Try.func14, Try.ntmps14
  go_wp2_with fail
  refine (HI.out _).mono ?_
  rintro e w1 ⟨rfl, hb1⟩
  obtain ⟨-, -, -, -, -, -, -, -, k8, k9, k10⟩ := HX.out w1 hb1
  simp only at k8 k9 k10
  have Hb1 := Lib.hid (HB.out.trans (hb1.mono (by rw [HS.out]; omega)))
  clear hb1 HX
  by_cases h3 : 12 < pn
  case pos =>
    have q : decide ((12 : Int) < pn) = true := decide_eq_true (by omega)
    clear h2 h3
    go_wp2_with fail
    refine (HN.out _).mono ?_
    rintro e w2 ⟨rfl, rfl⟩
    go_wp2_with fail
    go_ret
    exact HF.out _ _ rfl Hb1.out
  have q : decide ((12 : Int) < pn) = false := decide_eq_false (by omega)
  by_cases h4 : 24 < qn
  case pos =>
    have q2 : decide ((24 : Int) < qn) = true := decide_eq_true (by omega)
    clear h2 h3 h4
    go_wp2_with fail
    refine (HN.out _).mono ?_
    rintro e w2 ⟨rfl, rfl⟩
    go_wp2_with fail
    go_ret
    exact HF.out _ _ rfl Hb1.out
  have q2 : decide ((24 : Int) < qn) = false := decide_eq_false (by omega)
  have q3 : decide ((24 : Int) < rn) = true := decide_eq_true (by omega)
  clear h2 h3 h4
  go_wp2_with fail
  refine (HN.out _).mono ?_
  rintro e w2 ⟨rfl, rfl⟩
  go_wp2_with fail
  go_ret
  exact HF.out _ _ rfl Hb1.out

/-- What the rest of the check comes to. -/
theorem chk_parts {x : CfgC} (h1 : TableP.headOk x.plain) (h2 : ¬ (12 < x.pn ∨ 24 < x.qn ∨ 24 < x.rn)) (hp : x.parts.length = x.pn) (hq : x.ports.length = x.qn) (hr : x.routes.length = x.rn) :
    (∀ e, TableP.first (TableP.partOk x.nodes) 2 0 x.parts = some e → TableP.chk x.plain = some e) ∧
    (TableP.first (TableP.partOk x.nodes) 2 0 x.parts = none → (∀ e, TableP.first (TableP.portOk x.pn) 8 0 x.ports = some e → TableP.chk x.plain = some e) ∧
      (TableP.first (TableP.portOk x.pn) 8 0 x.ports = none → TableP.chk x.plain = TableP.first (TableP.routeOk x.qn) 72 0 x.routes)) := by
  have hchk : TableP.chk x.plain = match TableP.first (TableP.partOk x.nodes) 2 0 x.parts with
      | some e => some e
      | none => match TableP.first (TableP.portOk x.pn) 8 0 x.ports with
        | some e => some e
        | none => TableP.first (TableP.routeOk x.qn) 72 0 x.routes := by
    unfold TableP.chk
    rw [if_pos h1, if_neg (show ¬ (12 < x.plain.parts.length ∨ 24 < x.plain.ports.length ∨ 24 < x.plain.routes.length) by simp only [CfgC.plain]; omega)]
    simp only [CfgC.plain, hp, hq]
    rfl
  refine ⟨fun e he => by rw [hchk, he], fun hn => ⟨fun e he => by rw [hchk, hn]; simp only [he], fun he => by rw [hchk, hn]; simp only [he]⟩⟩
def ChkRel {α : Type} (ok : α → Prop) [DecidablePred ok] (code : Nat) (l : List α) (n : Nat) (W : World) (i : Value) (wr : World) : Prop :=
  ∃ k, k ≤ n ∧ i = .int .i64 (k : Nat) ∧ TableP.first ok code k (l.drop k) = TableP.first ok code 0 l ∧ Below W.heap.size W wr
end Go.Proofs.Ytgceleipaiameaa
