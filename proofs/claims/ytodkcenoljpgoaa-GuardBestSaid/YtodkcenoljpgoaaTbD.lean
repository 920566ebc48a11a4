/- Contract of table's Check at tables in memory. Conditions: where its lists lie. · Contract of table's Check at tables in memory: the lists. Conditions: where its lists lie. -/
import Derived.Test.YtodkcenoljpgoaaTbB
namespace Go.Proofs.Ytodkcenoljpgoaa
open Go.RowKit
set_option maxRecDepth 100000

/-- The text of what is wrong. -/
def wrongT : Option FrameP.Wrong → List UInt8
  | none => []
  | some (c, p) => atT c p
theorem ErrPost.of_below {x : List UInt8} {ok : Bool} {w w0 w' : World} {e : Ending} (h : ErrPost x ok w0 e w') (hb : Below w.heap.size w w0) : ErrPost x ok w e w' := by
  obtain ⟨v, h1, h2, h3, h4⟩ := h
  exact ⟨v, h1, h2, h3, hb.trans (h4.mono hb.size)⟩
theorem ErrPost.ok {w w' : World} (hb : Below w.heap.size w w') : ErrPost [] true w (.returned .nilIface) w' := ⟨_, rfl, ErrText.none_ _, rfl, hb⟩
theorem errpost_at (w W : World) (c a : Int) (N : Nat) (hN : N = W.heap.size) (hc : 1 ≤ c ∧ c ≤ 199) (ha : -1 ≤ a ∧ a ≤ 9223372036854775807) (hb : Below w.heap.size w W) :
    ErrPost (atT c.toNat a) false w (.returned (.iface 79 (.pointer (some ⟨N, 0, none⟩)))) (W.alloc (.cells #[.int .i64 c, .int .i64 a, .nilIface] 81)) := by
  subst hN
  exact errpost_new w W c a hc ha hb
def CheckPost (c : Option FrameP.Wrong) (w : World) (e : Ending) (w' : World) : Prop := ErrPost (wrongT c) c.isNone w e w'

/-- Tables that were boxed. -/
def boxC (w : World) (x : CfgC) : World := w.alloc (.cells (cfgCells x) 26)
theorem boxC_size (w : World) (x : CfgC) : (boxC w x).heap.size = w.heap.size + 1 := by simp [boxC]
theorem boxC_below (w : World) (x : CfgC) : Below w.heap.size w (boxC w x) := (Below.refl _ _).alloc (Nat.le_refl _) _

theorem first_step {α : Type} {ok : α → Prop} [DecidablePred ok] {code : Nat} {l : List α} {k : Nat} {x : α} (h : l[k]? = some x) :
    TableP.first ok code k (l.drop k) = if ok x then TableP.first ok code (k + 1) (l.drop (k + 1)) else some (code, (k : Int)) := by
  obtain ⟨hk, rfl⟩ := List.getElem?_eq_some_iff.1 h
  rw [List.drop_eq_getElem_cons hk]
  rfl
theorem first_end {α : Type} {ok : α → Prop} [DecidablePred ok] {code : Nat} {l : List α} {k : Nat} (h : l.length ≤ k) : TableP.first ok code k (l.drop k) = none := by
  rw [List.drop_of_length_le h]; rfl

theorem check_head (x : CfgC) (w : World) (h1 : ¬ TableP.headOk x.plain) :
    Calls Try.prog 32 #[x.value] w (CheckPost (TableP.chk x.plain) w) := by
  have e : TableP.chk x.plain = some (2, -1) := by unfold TableP.chk; rw [if_neg h1]
  rw [e]; clear e
  have HF := Lib.hid (fun W N hN => errpost_at w W 2 (-1) N hN (by omega) (by omega))
  have HB := Lib.hid (boxC_below w x)
  have HS := Lib.hid (boxC_size w x)
  have HI : Hid (∀ W, Calls Try.prog 43 #[x.value] W (BoolPost false W)) := Lib.hid fun W => by have := inRange_any x W; rwa [decide_eq_false h1] at this
  obtain ⟨nodes, faulty, slot, gap, rho, dmin, dmax, margin, PA, pn, pcap, parts, QA, qn, qcap, ports, RA, rn, rcap, routes⟩ := x
  have HN := Lib.hid (fun W => new_some 2 (-1) W rfl)
  rw [place_of (-1) (by omega)] at HN
  simp only [CfgC.value] at HI ⊢
  simp only [boxC, cfgCells] at HB HS
  clear h1
  go_enter Try.func32, Try.ntmps32
  go_wp2_with fail
  refine (HI.out _).mono ?_
  rintro e w1 ⟨rfl, hb1⟩
  have Hb1 := Lib.hid (HB.out.trans (hb1.mono (by rw [HS.out]; omega)))
  clear hb1
  go_wp2_with fail
  refine (HN.out _).mono ?_
  rintro e w2 ⟨rfl, rfl⟩
  go_wp2_with fail
  go_ret
  exact HF.out _ _ rfl Hb1.out

theorem check_many (x : CfgC) (w : World) (h1 : TableP.headOk x.plain) (h2 : 12 < x.pn ∨ 24 < x.qn ∨ 24 < x.rn) (h : CfgIn w x) :
    Calls Try.prog 32 #[x.value] w (CheckPost (TableP.chk x.plain) w) := by
  have e : TableP.chk x.plain = some (3, -1) := by
    unfold TableP.chk
    rw [if_pos h1, if_pos (show 12 < x.plain.parts.length ∨ 24 < x.plain.ports.length ∨ 24 < x.plain.routes.length by have := h.plen; have := h.qlen; have := h.rlen; simp only [CfgC.plain]; omega)]
  rw [e]; clear e
  have HF := Lib.hid (fun W N hN => errpost_at w W 3 (-1) N hN (by omega) (by omega))
  have HB := Lib.hid (boxC_below w x)
  have HS := Lib.hid (boxC_size w x)
  have HX := Lib.hid (fun wr hb => box11 (w := w) (wr := wr) (x := x) (t := 26) hb)
  have HI : Hid (∀ W, Calls Try.prog 43 #[x.value] W (BoolPost true W)) := Lib.hid fun W => by have := inRange_any x W; rwa [decide_eq_true h1] at this
  clear h
  obtain ⟨nodes, faulty, slot, gap, rho, dmin, dmax, margin, PA, pn, pcap, parts, QA, qn, qcap, ports, RA, rn, rcap, routes⟩ := x
  have HN := Lib.hid (fun W => new_some 3 (-1) W rfl)
  rw [place_of (-1) (by omega)] at HN
  simp only [CfgC.value] at HI ⊢
  simp only [boxC, cfgCells] at HB HS HX
  simp only at h2
  clear h1
  go_enter Try.func32, Try.ntmps32
  go_wp2_with fail
  refine (HI.out _).mono ?_
  rintro e w1 ⟨rfl, hb1⟩
  obtain ⟨-, -, -, -, -, -, -, -, k8, k9, k10⟩ := HX.out w1 hb1
  simp only at k8 k9 k10
  have Hb1 := Lib.hid (HB.out.trans (hb1.mono (by rw [HS.out]; omega)))
  clear hb1 HX
  by_cases h3 : 12 < pn
  case pos =>
    have q : decide ((12 : Int) < pn) = true := decide_eq_true (by omega)
    clear h2 h3
    go_wp2_with fail
    refine (HN.out _).mono ?_
    rintro e w2 ⟨rfl, rfl⟩
    go_wp2_with fail
    go_ret
    exact HF.out _ _ rfl Hb1.out
  have q : decide ((12 : Int) < pn) = false := decide_eq_false (by omega)
  by_cases h4 : 24 < qn
  case pos =>
    have q2 : decide ((24 : Int) < qn) = true := decide_eq_true (by omega)
    clear h2 h3 h4
    go_wp2_with fail
    refine (HN.out _).mono ?_
    rintro e w2 ⟨rfl, rfl⟩
    go_wp2_with fail
    go_ret
    exact HF.out _ _ rfl Hb1.out
  have q2 : decide ((24 : Int) < qn) = false := decide_eq_false (by omega)
  have q3 : decide ((24 : Int) < rn) = true := decide_eq_true (by omega)
  clear h2 h3 h4
  go_wp2_with fail
  refine (HN.out _).mono ?_
  rintro e w2 ⟨rfl, rfl⟩
  go_wp2_with fail
  go_ret
  exact HF.out _ _ rfl Hb1.out

/-- What the rest of the check comes to. -/
theorem chk_parts {x : CfgC} (h1 : TableP.headOk x.plain) (h2 : ¬ (12 < x.pn ∨ 24 < x.qn ∨ 24 < x.rn)) (hp : x.parts.length = x.pn) (hq : x.ports.length = x.qn) (hr : x.routes.length = x.rn) :
    (∀ e, TableP.first (TableP.partOk x.nodes) 2 0 x.parts = some e → TableP.chk x.plain = some e) ∧
    (TableP.first (TableP.partOk x.nodes) 2 0 x.parts = none → (∀ e, TableP.first (TableP.portOk x.pn) 8 0 x.ports = some e → TableP.chk x.plain = some e) ∧
      (TableP.first (TableP.portOk x.pn) 8 0 x.ports = none → TableP.chk x.plain = TableP.first (TableP.routeOk x.qn) 72 0 x.routes)) := by
  have hchk : TableP.chk x.plain = match TableP.first (TableP.partOk x.nodes) 2 0 x.parts with
      | some e => some e
      | none => match TableP.first (TableP.portOk x.pn) 8 0 x.ports with
        | some e => some e
        | none => TableP.first (TableP.routeOk x.qn) 72 0 x.routes := by
    unfold TableP.chk
    rw [if_pos h1, if_neg (show ¬ (12 < x.plain.parts.length ∨ 24 < x.plain.ports.length ∨ 24 < x.plain.routes.length) by simp only [CfgC.plain]; omega)]
    simp only [CfgC.plain, hp, hq]
    rfl
  refine ⟨fun e he => by rw [hchk, he], fun hn => ⟨fun e he => by rw [hchk, hn]; simp only [he], fun he => by rw [hchk, hn]; simp only [he]⟩⟩
def ChkRel {α : Type} (ok : α → Prop) [DecidablePred ok] (code : Nat) (l : List α) (n : Nat) (W : World) (i : Value) (wr : World) : Prop :=
  ∃ k, k ≤ n ∧ i = .int .i64 (k : Nat) ∧ TableP.first ok code k (l.drop k) = TableP.first ok code 0 l ∧ Below W.heap.size W wr
end Go.Proofs.Ytodkcenoljpgoaa
namespace Go.Proofs.Ytodkcenoljpgoaa
open Go.RowKit
set_option maxRecDepth 100000

set_option maxHeartbeats 4000000 in
theorem check_rest (x : CfgC) (w : World) (h : CfgIn w x) (h1 : TableP.headOk x.plain) (h2 : ¬ (12 < x.pn ∨ 24 < x.qn ∨ 24 < x.rn)) :
    Calls Try.prog 32 #[x.value] w (CheckPost (TableP.chk x.plain) w) := by
  have HFr := Lib.hid h
  obtain ⟨hs1, hs2⟩ := chk_parts h1 h2 h.plen h.qlen h.rlen
  have HE1 := Lib.hid hs1
  have HE2 := Lib.hid hs2
  clear hs1 hs2
  have HX := Lib.hid (fun wr hb => box11 (w := w) (wr := wr) (x := x) (t := 26) hb)
  have HB := Lib.hid (boxC_below w x)
  have HS := Lib.hid (boxC_size w x)
  have HEP := Lib.hid (fun c p W N hN hc hp => errpost_at w W c p N hN hc hp)
  have HI : Hid (∀ W, Calls Try.prog 43 #[x.value] W (BoolPost true W)) := Lib.hid fun W => by have := inRange_any x W; rwa [decide_eq_true h1] at this
  have hn7 : 0 ≤ x.nodes ∧ x.nodes ≤ 7 := by have := h1.1; simp only [TableP.up, CfgC.plain] at this; omega
  have hpl := h.plen
  have hql := h.qlen
  have hrl := h.rlen
  generalize TableP.chk x.plain = R at *
  clear h h1
  obtain ⟨nodes, faulty, slot, gap, rho, dmin, dmax, margin, PA, pn, pcap, parts, QA, qn, qcap, ports, RA, rn, rcap, routes⟩ := x
  simp only [CfgC.value] at HI ⊢
  simp only [boxC, cfgCells] at HB HS HX
  simp only at h2 HE1 HE2 hpl hql hrl hn7
  obtain ⟨nd, rfl⟩ := Int.eq_ofNat_of_zero_le hn7.1
  have q1 : decide ((12 : Int) < pn) = false := decide_eq_false (by omega)
  have q2 : decide ((24 : Int) < qn) = false := decide_eq_false (by omega)
  have q3 : decide ((24 : Int) < rn) = false := decide_eq_false (by omega)
  have hp12 : pn ≤ 12 := by omega
  have hq24 : qn ≤ 24 := by omega
  have hr24 : rn ≤ 24 := by omega
  have hnd : nd ≤ 7 := by omega
  clear h2 hn7
  go_enter Try.func32, Try.ntmps32
  go_wp2_with fail
  refine (HI.out _).mono ?_
  rintro e w1 ⟨rfl, hb1⟩
  have Hb1 := Lib.hid hb1
  obtain ⟨k0, -, -, -, -, -, -, -, k8, k9, k10⟩ := HX.out w1 hb1
  simp only at k0 k8 k9 k10
  clear hb1 HI
  go_wp2_with fail
  have HST := Lib.hid Hb1.out
  clear Hb1 k0 k8 k9 k10 q1 q2 q3
  go_loopw [33] (ChkRel (TableP.partOk (nd : Int)) 2 parts pn (w.alloc (.cells #[.int .i64 (nd : Nat), .int .i64 faulty, .int .i64 slot, .int .i64 gap, .int .i64 rho, .int .i64 dmin, .int .i64 dmax, .int .i64 margin, .slice PA pn pcap, .slice QA qn qcap, .slice RA rn rcap] 26))) (fun i _ => (pn + 1 - intOf i).toNat)
  case atStart => exact ⟨0, Nat.zero_le _, rfl, rfl, HST.out⟩
  case round =>
    clear HST
    obtain ⟨k, hk, rfl, hck, hb⟩ := hrel
    have Hb := Lib.hid hb
    have Hck := Lib.hid hck
    have hbw : Below w.heap.size w wr := HB.out.trans (hb.mono (by rw [HS.out]; omega))
    have Hbw := Lib.hid hbw
    have Hfr := Lib.hid (HFr.out.below hbw)
    obtain ⟨k0, -, -, -, -, -, -, -, k8, k9, k10⟩ := HX.out wr hb
    simp only at k0 k8 k9 k10
    have kA : ∀ o, (wr.alloc o).cell? ⟨w.heap.size, 0, none⟩ = some (.int .i64 (nd : Nat)) := fun o => (HX.out _ (hb.alloc hb.size o)).c0
    clear hbw hb hck
    by_cases hlt : k < pn
    · obtain ⟨y, hmk⟩ : ∃ y, parts[k]? = some y := ⟨_, List.getElem?_eq_getElem (by omega)⟩
      obtain ⟨b, off, e, hbl, c0, c1, c2, c3, c4, c5, c6, c7, c8⟩ := parts_at Hfr.out.parts hmk
      simp only at e
      have Hst := Lib.hid (first_step (ok := TableP.partOk (nd : Int)) (code := 2) hmk)
      have HP := Lib.hid (fun W => partInRange_any y nd hnd W)
      have Hnx : Hid (TableP.partOk (nd : Int) y → ∀ W, Below wr.heap.size wr W → ChkRel (TableP.partOk (nd : Int)) 2 parts pn (w.alloc (.cells #[.int .i64 (nd : Nat), .int .i64 faulty, .int .i64 slot, .int .i64 gap, .int .i64 rho, .int .i64 dmin, .int .i64 dmax, .int .i64 margin, .slice PA pn pcap, .slice QA qn qcap, .slice RA rn rcap] 26)) (.int .i64 ((k : Int) + 1)) W) := Lib.hid fun hy W hW => by
        refine ⟨k + 1, by omega, by go_num, ?_, Hb.out.trans (hW.mono Hb.out.size)⟩
        rw [← Hck.out, Hst.out, if_pos hy]
      have Hbad : Hid (¬ TableP.partOk (nd : Int) y → ∀ W N, N = W.heap.size → Below wr.heap.size wr W → CheckPost R w (.returned (.iface 79 (.pointer (some ⟨N, 0, none⟩)))) (W.alloc (.cells #[.int .i64 2, .int .i64 k, .nilIface] 81))) := Lib.hid fun hy W N hN hW => by
        have h0 := Hck.out
        rw [Hst.out, if_neg hy] at h0
        rw [HE1.out _ h0.symm]
        exact HEP.out 2 k W N hN (by omega) (by omega) (Hbw.out.trans (hW.mono Hbw.out.size))
      have HN := Lib.hid (fun W => new_some 2 (k : Int) W rfl)
      rw [place_of (k : Int) (by omega)] at HN
      clear hmk Hst Hfr
      subst e
      by_cases hy : TableP.partOk (nd : Int) y
      case pos =>
        have HR0 := Lib.hid (Hnx.out hy)
        rw [decide_eq_true hy] at HP
        obtain ⟨node, start, length, budget, words, r0, r1, r2, r3⟩ := y
        simp only at c0 c1 c2 c3 c4 c5 c6 c7 c8
        simp only [partVals] at HP
        clear Hnx Hbad hy HN
        go_wp2_with fail
        refine (HP.out _).mono ?_
        rintro e w1 ⟨rfl, hb1⟩
        have Hb1 := Lib.hid hb1
        clear hb1
        go_wp2_with fail
        go_roundw
        case rel => exact HR0.out _ (((Below.refl _ _).alloc (Nat.le_refl _) _).trans (Hb1.out.mono (by simp)))
        case measure => simp [intOf]; omega
      have HR0 := Lib.hid (Hbad.out hy)
      rw [decide_eq_false hy] at HP
      obtain ⟨node, start, length, budget, words, r0, r1, r2, r3⟩ := y
      simp only at c0 c1 c2 c3 c4 c5 c6 c7 c8
      simp only [partVals] at HP
      clear Hnx Hbad hy
      go_wp2_with fail
      refine (HP.out _).mono ?_
      rintro e w1 ⟨rfl, hb1⟩
      have Hb1 := Lib.hid hb1
      clear hb1
      go_wp2_with fail
      refine (HN.out _).mono ?_
      rintro e w2 ⟨rfl, rfl⟩
      go_wp2_with fail
      go_ret
      exact HR0.out _ _ rfl (((Below.refl _ _).alloc (Nat.le_refl _) _).trans (Hb1.out.mono (by simp)))
    have hkn : pn = k := by omega
    have hnone : TableP.first (TableP.partOk (nd : Int)) 2 0 parts = none := by
      rw [← Hck.out]; exact first_end (by omega)
    obtain ⟨hs1, hs2⟩ := HE2.out hnone
    have HE3 := Lib.hid hs1
    have HE4 := Lib.hid hs2
    clear HE1 HE2 hs1 hs2 hnone Hck kA
    have HST := Lib.hid Hb.out
    clear Hb Hbw Hfr
    subst hkn
    go_wp2_with fail
    clear k0 k8 k9 k10
    go_loopw [49] (ChkRel (TableP.portOk pn) 8 ports qn (w.alloc (.cells #[.int .i64 (nd : Nat), .int .i64 faulty, .int .i64 slot, .int .i64 gap, .int .i64 rho, .int .i64 dmin, .int .i64 dmax, .int .i64 margin, .slice PA pn pcap, .slice QA qn qcap, .slice RA rn rcap] 26))) (fun i _ => (qn + 1 - intOf i).toNat)
    case atStart => exact ⟨0, Nat.zero_le _, rfl, rfl, HST.out⟩
    case round =>
      clear HST
      obtain ⟨k, hk, rfl, hck, hb⟩ := hrel
      have Hb := Lib.hid hb
      have Hck := Lib.hid hck
      have hbw : Below w.heap.size w wr := HB.out.trans (hb.mono (by rw [HS.out]; omega))
      have Hbw := Lib.hid hbw
      have Hfr := Lib.hid (HFr.out.below hbw)
      obtain ⟨k0, -, -, -, -, -, -, -, k8, k9, k10⟩ := HX.out wr hb
      simp only at k0 k8 k9 k10
      have kA : ∀ o, (wr.alloc o).cell? ⟨w.heap.size, 8, none⟩ = some (.slice PA pn pcap) := fun o => (HX.out _ (hb.alloc hb.size o)).c8
      clear hbw hb hck
      by_cases hlt : k < qn
      · obtain ⟨y, hmk⟩ : ∃ y, ports[k]? = some y := ⟨_, List.getElem?_eq_getElem (by omega)⟩
        obtain ⟨b, off, e, hbl, c0, c1, c2, c3, c4, c5⟩ := ports_at Hfr.out.ports hmk
        simp only at e
        have Hst := Lib.hid (first_step (ok := TableP.portOk pn) (code := 8) hmk)
        have HP := Lib.hid (fun W => lawful_any y pn hp12 W)
        have Hnx : Hid (TableP.portOk pn y → ∀ W, Below wr.heap.size wr W → ChkRel (TableP.portOk pn) 8 ports qn (w.alloc (.cells #[.int .i64 (nd : Nat), .int .i64 faulty, .int .i64 slot, .int .i64 gap, .int .i64 rho, .int .i64 dmin, .int .i64 dmax, .int .i64 margin, .slice PA pn pcap, .slice QA qn qcap, .slice RA rn rcap] 26)) (.int .i64 ((k : Int) + 1)) W) := Lib.hid fun hy W hW => by
          refine ⟨k + 1, by omega, by go_num, ?_, Hb.out.trans (hW.mono Hb.out.size)⟩
          rw [← Hck.out, Hst.out, if_pos hy]
        have Hbad : Hid (¬ TableP.portOk pn y → ∀ W N, N = W.heap.size → Below wr.heap.size wr W → CheckPost R w (.returned (.iface 79 (.pointer (some ⟨N, 0, none⟩)))) (W.alloc (.cells #[.int .i64 8, .int .i64 k, .nilIface] 81))) := Lib.hid fun hy W N hN hW => by
          have h0 := Hck.out
          rw [Hst.out, if_neg hy] at h0
          rw [HE3.out _ h0.symm]
          exact HEP.out 8 k W N hN (by omega) (by omega) (Hbw.out.trans (hW.mono Hbw.out.size))
        have HN := Lib.hid (fun W => new_some 8 (k : Int) W rfl)
        rw [place_of (k : Int) (by omega)] at HN
        clear hmk Hst Hfr
        subst e
        by_cases hy : TableP.portOk pn y
        case pos =>
          have HR0 := Lib.hid (Hnx.out hy)
          rw [decide_eq_true hy] at HP
          obtain ⟨part, kind, out, size, depth, fresh⟩ := y
          simp only at c0 c1 c2 c3 c4 c5
          simp only [portVals] at HP
          clear Hnx Hbad hy HN
          go_wp2_with fail
          refine (HP.out _).mono ?_
          rintro e w1 ⟨rfl, hb1⟩
          have Hb1 := Lib.hid hb1
          clear hb1
          go_wp2_with fail
          go_roundw
          case rel => exact HR0.out _ (((Below.refl _ _).alloc (Nat.le_refl _) _).trans (Hb1.out.mono (by simp)))
          case measure => simp [intOf]; omega
        have HR0 := Lib.hid (Hbad.out hy)
        rw [decide_eq_false hy] at HP
        obtain ⟨part, kind, out, size, depth, fresh⟩ := y
        simp only at c0 c1 c2 c3 c4 c5
        simp only [portVals] at HP
        clear Hnx Hbad hy
        go_wp2_with fail
        refine (HP.out _).mono ?_
        rintro e w1 ⟨rfl, hb1⟩
        have Hb1 := Lib.hid hb1
        clear hb1
        go_wp2_with fail
        refine (HN.out _).mono ?_
        rintro e w2 ⟨rfl, rfl⟩
        go_wp2_with fail
        go_ret
        exact HR0.out _ _ rfl (((Below.refl _ _).alloc (Nat.le_refl _) _).trans (Hb1.out.mono (by simp)))
      have hkn : qn = k := by omega
      have hnone : TableP.first (TableP.portOk pn) 8 0 ports = none := by
        rw [← Hck.out]; exact first_end (by omega)
      have hR := HE4.out hnone
      subst hR
      clear HE3 HE4 hnone Hck kA
      subst hkn
      have HST := Lib.hid Hb.out
      clear Hb Hbw Hfr
      go_wp2_with fail
      clear k0 k8 k9 k10
      go_loopw [66] (ChkRel (TableP.routeOk qn) 72 routes rn (w.alloc (.cells #[.int .i64 (nd : Nat), .int .i64 faulty, .int .i64 slot, .int .i64 gap, .int .i64 rho, .int .i64 dmin, .int .i64 dmax, .int .i64 margin, .slice PA pn pcap, .slice QA qn qcap, .slice RA rn rcap] 26))) (fun i _ => (rn + 1 - intOf i).toNat)
      case atStart => exact ⟨0, Nat.zero_le _, rfl, rfl, HST.out⟩
      case round =>
        clear HST
        obtain ⟨k, hk, rfl, hck, hb⟩ := hrel
        have Hb := Lib.hid hb
        have Hck := Lib.hid hck
        have hbw : Below w.heap.size w wr := HB.out.trans (hb.mono (by rw [HS.out]; omega))
        have Hbw := Lib.hid hbw
        have Hfr := Lib.hid (HFr.out.below hbw)
        obtain ⟨k0, -, -, -, -, -, -, -, k8, k9, k10⟩ := HX.out wr hb
        simp only at k0 k8 k9 k10
        have kA : ∀ o, (wr.alloc o).cell? ⟨w.heap.size, 9, none⟩ = some (.slice QA qn qcap) := fun o => (HX.out _ (hb.alloc hb.size o)).c9
        clear hbw hb hck
        by_cases hlt : k < rn
        · obtain ⟨⟨src, dst⟩, hmk⟩ : ∃ y, routes[k]? = some y := ⟨_, List.getElem?_eq_getElem (by omega)⟩
          obtain ⟨b, off, e, hbl, c0, c1⟩ := routes_at Hfr.out.routes hmk
          simp only at e c0 c1
          have Hst := Lib.hid (first_step (ok := TableP.routeOk qn) (code := 72) hmk)
          have P0 := Lib.hid (fun W => place_any src qn (by omega) W)
          have P1 := Lib.hid (fun W => place_any dst qn (by omega) W)
          have Hnx : Hid (TableP.routeOk qn ⟨src, dst⟩ → ∀ W, Below wr.heap.size wr W → ChkRel (TableP.routeOk qn) 72 routes rn (w.alloc (.cells #[.int .i64 (nd : Nat), .int .i64 faulty, .int .i64 slot, .int .i64 gap, .int .i64 rho, .int .i64 dmin, .int .i64 dmax, .int .i64 margin, .slice PA pn pcap, .slice QA qn qcap, .slice RA rn rcap] 26)) (.int .i64 ((k : Int) + 1)) W) := Lib.hid fun hy W hW => by
            refine ⟨k + 1, by omega, by go_num, ?_, Hb.out.trans (hW.mono Hb.out.size)⟩
            rw [← Hck.out, Hst.out, if_pos hy]
          have Hbad : Hid (¬ TableP.routeOk qn ⟨src, dst⟩ → ∀ W N, N = W.heap.size → Below wr.heap.size wr W → CheckPost (TableP.first (TableP.routeOk qn) 72 0 routes) w (.returned (.iface 79 (.pointer (some ⟨N, 0, none⟩)))) (W.alloc (.cells #[.int .i64 72, .int .i64 k, .nilIface] 81))) := Lib.hid fun hy W N hN hW => by
            have h0 := Hck.out
            rw [Hst.out, if_neg hy] at h0
            rw [← h0]
            exact HEP.out 72 k W N hN (by omega) (by omega) (Hbw.out.trans (hW.mono Hbw.out.size))
          have HN := Lib.hid (fun W => new_some 72 (k : Int) W rfl)
          rw [place_of (k : Int) (by omega)] at HN
          clear hmk Hst Hfr
          subst e
          go_wp2_with fail
          refine (P0.out _).mono ?_
          rintro e w1 ⟨rfl, rfl⟩
          by_cases h0 : TableP.up src 0 ((qn : Int) - 1)
          case neg =>
            have HR0 := Lib.hid (Hbad.out (fun h => h0 h.1))
            rw [decide_eq_false h0]
            clear Hnx Hbad h0
            go_wp2_with fail
            refine (HN.out _).mono ?_
            rintro e w2 ⟨rfl, rfl⟩
            go_wp2_with fail
            go_ret
            exact HR0.out _ _ (by simp) ((Below.refl _ _).alloc (Nat.le_refl _) _)
          rw [decide_eq_true h0]
          have K0 := Lib.hid h0
          clear h0
          go_wp2_with fail
          refine (P1.out _).mono ?_
          rintro e w1 ⟨rfl, rfl⟩
          by_cases h1 : TableP.up dst 0 ((qn : Int) - 1)
          case neg =>
            have HR0 := Lib.hid (Hbad.out (fun h => h1 h.2))
            rw [decide_eq_false h1]
            clear Hnx Hbad h1
            go_wp2_with fail
            refine (HN.out _).mono ?_
            rintro e w2 ⟨rfl, rfl⟩
            go_wp2_with fail
            go_ret
            exact HR0.out _ _ (by simp) ((Below.refl _ _).alloc (Nat.le_refl _) _)
          rw [decide_eq_true h1]
          have HR0 := Lib.hid (Hnx.out ⟨K0.out, h1⟩)
          clear Hnx Hbad h1 HN
          go_wp2_with fail
          go_roundw
          case rel => exact HR0.out _ ((Below.refl _ _).alloc (Nat.le_refl _) _)
          case measure => simp [intOf]; omega
        have hkn : rn = k := by omega
        have hnone : TableP.first (TableP.routeOk qn) 72 0 routes = none := by
          rw [← Hck.out]; exact first_end (by omega)
        have HF : Hid (CheckPost (TableP.first (TableP.routeOk qn) 72 0 routes) w (.returned .nilIface) wr) := Lib.hid (by rw [hnone]; exact ErrPost.ok Hbw.out)
        subst hkn
        clear hnone
        go_wp2_with fail
        go_ret
        exact HF.out

/-- Check: of any tables. -/
theorem check_any (x : CfgC) (w : World) (h : CfgIn w x) :
    Calls Try.prog 32 #[x.value] w (CheckPost (TableP.chk x.plain) w) := by
  by_cases h1 : TableP.headOk x.plain
  · by_cases h2 : 12 < x.pn ∨ 24 < x.qn ∨ 24 < x.rn
    · exact check_many x w h1 h2 h
    · exact check_rest x w h h1 h2
  · exact check_head x w h1
end Go.Proofs.Ytodkcenoljpgoaa
