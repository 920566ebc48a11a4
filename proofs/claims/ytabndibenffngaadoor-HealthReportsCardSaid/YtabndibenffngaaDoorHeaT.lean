/- Contract of the Report of the document's monitor. Conditions: where it lies; at most 255 partitions; rows of at most 1000. -/
import Derived.Test.YtabndibenffngaaDoorHeaQ
import Derived.Test.YtabndibenffngaaDoorErrM
namespace Go.Proofs.YtabndibenffngaaDoor
open Go.RowKit HeaP
set_option maxRecDepth 100000

def txt15 (c : Nat) : List UInt8 := if c = 0 then [] else numN c
def RRepH (w : World) (B r node : Nat) (vs vl vw vo : Value) (parts : List TableP.Part) (m : Mon) (rd : Nat) (part : Int) (k : Nat) (e : Ending) (w' : World) : Prop :=
  e = .returned (.tuple #[.int .u8 ((reportT (parts.map sayOf) node m rd part k).1.1 : Nat), strV (txt15 (reportT (parts.map sayOf) node m rd part k).1.2)]) ∧
  ∃ vo', RMem w' B r node vs vl vw vo' parts (reportT (parts.map sayOf) node m rd part k).2 ∧ Apart (RFd r vl vw vo) w w' ∧ (vo'.ownBlock = vo.ownBlock ∨ ∃ q, vo'.ownBlock = some q ∧ w.heap.size ≤ q)
theorem rreport_bad (w : World) (B r node : Nat) (vs vl vw vo : Value) (parts : List TableP.Part) (m : Mon) (h : RMem w B r node vs vl vw vo parts m) (rd : Nat) (part : Int) (k : Nat) (hb : part < 0 ∨ (parts.length : Int) ≤ part ∨ 3 < k ∨ 1048576 ≤ rd) :
    Calls Tryd.prog 25 #[.pointer (some ⟨r, 0, none⟩), .int .u32 (rd : Nat), .int .i64 part, .int .i64 (k : Nat)] w (RRepH w B r node vs vl vw vo parts m rd part k) := by
  have hrep := report_bad (recover := parts.map sayOf) (node := node) (m := m) (r := rd) (part := part) (k := k) (by rw [List.length_map]; exact hb)
  have HF : Hid (∀ W, Below w.heap.size w W → RRepH w B r node vs vl vw vo parts m rd part k (.returned (.tuple #[.int .u8 0, strV (numN 2)])) W) := Lib.hid fun W hW => by
    unfold RRepH
    rw [hrep]
    refine ⟨?_, vo, h.keep hW, Apart.of_below' hW, .inl rfl⟩
    show _ = Ending.returned (.tuple #[.int .u8 0, strV (txt15 2)])
    rw [show txt15 2 = numN 2 from if_neg (by decide)]
  have HE := Lib.hid (fun W => e_any 2 W (by omega))
  obtain ⟨A, cap, rfl, -⟩ := own_slice h.ps
  have k1 : w.cell? ⟨r, 1, none⟩ = some (.slice A parts.length cap) := cell_at h.hd 1 rfl
  have hc : part < 0 ∨ 0 ≤ part ∧ (parts.length : Int) ≤ part ∨ 0 ≤ part ∧ part < (parts.length : Int) ∧ 3 < k ∨ 0 ≤ part ∧ part < (parts.length : Int) ∧ k ≤ 3 ∧ 1048576 ≤ rd := by omega
  clear h hrep hb
  generalize parts.length = n at *
  unfold strV at *
  generalize numN 2 = t2 at *
  have dk : decide ((k : Int) < 0) = false := decide_eq_false (by omega)
  rcases hc with h1 | ⟨h1, h2⟩ | ⟨h1, h2, h3⟩ | ⟨h1, h2, h3, h4⟩
  · have d1 : decide (part < 0) = true := decide_eq_true h1
    clear h1
    go_enter Tryd.func25, Tryd.ntmps25
    go_wp2_with fail
    refine (HE.out w).mono ?_
    rintro e w1 ⟨rfl, hb1⟩
    have HX := Lib.hid (HF.out w1 hb1)
    clear hb1
    go_wp2_with fail
    go_ret2
    exact HX.out
  · have d1 : decide (part < 0) = false := decide_eq_false (by omega)
    have d2 : decide ((n : Int) ≤ part) = true := decide_eq_true h2
    clear h1 h2
    go_enter Tryd.func25, Tryd.ntmps25
    go_wp2_with fail
    refine (HE.out w).mono ?_
    rintro e w1 ⟨rfl, hb1⟩
    have HX := Lib.hid (HF.out w1 hb1)
    clear hb1
    go_wp2_with fail
    go_ret2
    exact HX.out
  · have d1 : decide (part < 0) = false := decide_eq_false (by omega)
    have d2 : decide ((n : Int) ≤ part) = false := decide_eq_false (by omega)
    have d3 : decide ((3 : Int) < (k : Int)) = true := decide_eq_true (by omega)
    clear h1 h2 h3
    go_enter Tryd.func25, Tryd.ntmps25
    go_wp2_with fail
    refine (HE.out w).mono ?_
    rintro e w1 ⟨rfl, hb1⟩
    have HX := Lib.hid (HF.out w1 hb1)
    clear hb1
    go_wp2_with fail
    go_ret2
    exact HX.out
  · have d1 : decide (part < 0) = false := decide_eq_false (by omega)
    have d2 : decide ((n : Int) ≤ part) = false := decide_eq_false (by omega)
    have d3 : decide ((3 : Int) < (k : Int)) = false := decide_eq_false (by omega)
    have d4 : decide ((1048576 : Int) ≤ (rd : Int)) = true := decide_eq_true (by omega)
    clear h1 h2 h3 h4
    go_enter Tryd.func25, Tryd.ntmps25
    go_wp2_with fail
    refine (HE.out w).mono ?_
    rintro e w1 ⟨rfl, hb1⟩
    have HX := Lib.hid (HF.out w1 hb1)
    clear hb1
    go_wp2_with fail
    go_ret2
    exact HX.out

/-- Stores into the rows. -/
theorem rm_row {w : World} {B r node gw n cw : Nat} {vs vl vo : Value} {parts : List TableP.Part} {m : Mon} (hn : parts.length = n) (h : RMem w B r node vs vl (.slice (some ⟨gw, 0, none⟩) n cw) vo parts m) (p x : Nat) :
    RMem (w.setCell ⟨gw, p, none⟩ (.int .i64 (x : Nat))) B r node vs vl (.slice (some ⟨gw, 0, none⟩) n cw) vo parts ⟨m.last, m.row.set p x, m.out⟩ ∧ Apart (fun k => k = gw) w (w.setCell ⟨gw, p, none⟩ (.int .i64 (x : Nat))) := by
  have ha : Apart (fun k => k = gw) w (w.setCell ⟨gw, p, none⟩ (.int .i64 (x : Nat))) := (Apart.refl (fun k => k = gw) w).setCell (p := ⟨gw, p, none⟩) (.inl rfl) _
  have hr := h.row
  rw [hn] at hr
  have h1 := (hr.stored p (.int .i64 (x : Nat))).1
  refine ⟨⟨(ha.block r (lt_of_block h.hd) (fun e => own_off h.row h.hd (by decide) gw rfl e.symm)).trans h.hd, own_apart h.ps ha (fun k hk e => own_tag6 h.row h.ps (by decide) gw rfl (by rw [← e]; exact hk)), own_apart h.last ha (fun k hk e => h.lw k hk (by rw [e]; rfl)), ?_, h.lw, own_apart h.out ha (fun k hk e => own_tag6 h.row h.out (by decide) gw rfl (by rw [← e]; exact hk)), h.base⟩, ha⟩
  rw [hn, nV_set]
  exact h1
theorem rm_last {w : World} {B r node gl n cl : Nat} {vs vw vo : Value} {parts : List TableP.Part} {m : Mon} (hn : parts.length = n) (h : RMem w B r node vs (.slice (some ⟨gl, 0, none⟩) n cl) vw vo parts m) (p x : Nat) :
    RMem (w.setCell ⟨gl, p, none⟩ (.int .i64 (x : Nat))) B r node vs (.slice (some ⟨gl, 0, none⟩) n cl) vw vo parts ⟨m.last.set p x, m.row, m.out⟩ ∧ Apart (fun k => k = gl) w (w.setCell ⟨gl, p, none⟩ (.int .i64 (x : Nat))) := by
  have ha : Apart (fun k => k = gl) w (w.setCell ⟨gl, p, none⟩ (.int .i64 (x : Nat))) := (Apart.refl (fun k => k = gl) w).setCell (p := ⟨gl, p, none⟩) (.inl rfl) _
  have hr := h.last
  rw [hn] at hr
  have h1 := (hr.stored p (.int .i64 (x : Nat))).1
  refine ⟨⟨(ha.block r (lt_of_block h.hd) (fun e => own_off h.last h.hd (by decide) gl rfl e.symm)).trans h.hd, own_apart h.ps ha (fun k hk e => own_tag6 h.last h.ps (by decide) gl rfl (by rw [← e]; exact hk)), ?_, own_apart h.row ha (fun k hk e => h.lw gl rfl (by rw [← e]; exact hk)), h.lw, own_apart h.out ha (fun k hk e => own_tag6 h.last h.out (by decide) gl rfl (by rw [← e]; exact hk)), h.base⟩, ha⟩
  rw [hn, nV_set]
  exact h1
theorem RMem.frozen_row {w : World} {B e n g cap : Nat} {xs : List Value} (h : w.ownsRow B e 1 (.slice (some ⟨g, 0, none⟩) n cap) n xs) (j : Nat) : w.frozen? ⟨g, j, none⟩ = false := (Seg.of_own h).frozen j
theorem row_some {w : World} {B e size n : Nat} {v : Value} {xs : List Value} (h : w.ownsRow B e size v n xs) (hn : 0 < n) : ∃ g cap, v = .slice (some ⟨g, 0, none⟩) n cap ∧ n ≤ cap := by
  rcases h.2 with ⟨-, h0⟩ | ⟨g, cap, cur, rfl, -, -, hc, -⟩
  · omega
  · exact ⟨g, cap, rfl, hc⟩
/-- The monitor ahead of the record. -/
def midR (rec : List (List Nat)) (node : Nat) (m : Mon) (rd p k : Nat) : Mon := ⟨(nextM rec node m rd p k).last, (nextM rec node m rd p k).row, m.out⟩
theorem mid_yes {rec : List (List Nat)} {node : Nat} {m : Mon} {rd p k : Nat} (h : recOf rec p k = 1) : midR rec node m rd p k = ⟨m.last.set p (rd + 1), m.row.set p (nextRow m p rd), m.out⟩ := by
  unfold midR nextM; rw [if_pos h]
theorem mid_no {rec : List (List Nat)} {node : Nat} {m : Mon} {rd p k : Nat} (h : recOf rec p k ≠ 1) : midR rec node m rd p k = m := by
  unfold midR nextM; rw [if_neg h]
theorem nextR_out (rec : List (List Nat)) (node : Nat) (m : Mon) (r p k : Nat) : (nextM rec node m r p k).out = noteT node r p k (didT rec m r p k) m.out := by unfold nextM; split <;> rfl

def MidC (w : World) (B r node : Nat) (vs vl vw vo : Value) (parts : List TableP.Part) (m : Mon) (rd p k : Nat) (a : Value) (W : World) : Prop :=
  a = .int .u8 (didT (parts.map sayOf) m rd p k : Nat) ∧ RMem W B r node vs vl vw vo parts (midR (parts.map sayOf) node m rd p k) ∧ Apart (RFd r vl vw vo) w W
def R12 (r node : Nat) (vs vl vw vo : Value) (W : World) : Prop := W.heap[r]? = some (.cells #[.int .i64 (node : Nat), vs, vl, vw, vo] 93 (0, 0))
theorem infoRecR : (Tryd.prog.info? 69).map (fun i => (i.zero, i.size, i.bytes)) = some (some (.agg #[.int .u32 0, .int .u8 0, .int .u8 0, .int .u8 0, .int .u8 0]), 5, 8) := by kernel_rfl
theorem out_stored {w w2 : World} {B r node : Nat} {vs vl vw vo v' : Value} {parts : List TableP.Part} {m m' : Mon} (h : RMem w B r node vs vl vw vo parts m) (y : FrameP.Rec) (hm : m'.last = m.last) (hm2 : m'.row = m.row) (ho : m'.out = m.out ++ [y])
    (hown : w2.ownsRow B 69 5 v' (m.out.length + 1) (recsVals m.out ++ recVals y)) (ha : Apart (fun k => vo.ownBlock = some k) w w2) :
    RMem (w2.setCell ⟨r, 4, none⟩ v') B r node vs vl vw v' parts m' ∧ Apart (RFd r vl vw vo) w (w2.setCell ⟨r, 4, none⟩ v') := by
  have hd2 : w2.heap[r]? = some (.cells #[.int .i64 (node : Nat), vs, vl, vw, vo] 93 (0, 0)) := (ha.block r (lt_of_block h.hd) (fun e => own_off h.out h.hd (by decide) r e rfl)).trans h.hd
  have g1 := heap_setCell_same w2 r 4 _ _ v' hd2
  have a1 : Apart (fun k => k = r) w2 (w2.setCell ⟨r, 4, none⟩ v') := (Apart.refl (fun k => k = r) w2).setCell (p := ⟨r, 4, none⟩) (.inl rfl) _
  have p2 := own_apart h.ps ha (fun k hk e => own_tag6 h.ps h.out (by decide) k hk e)
  have l2 := own_apart h.last ha (fun k hk e => own_tag6 h.last h.out (by decide) k hk e)
  have w2' := own_apart h.row ha (fun k hk e => own_tag6 h.row h.out (by decide) k hk e)
  refine ⟨⟨g1, own_apart p2 a1 (fun k hk e => own_off p2 hd2 (by decide) k hk e), ?_, ?_, h.lw, ?_, h.base⟩, (ha.mono fun _ _ e => .inr (.inr (.inr e))).trans a1 fun _ e => .inl (.inl e)⟩
  · rw [hm]; exact own_apart l2 a1 (fun k hk e => own_off l2 hd2 (by decide) k hk e)
  · rw [hm2]; exact own_apart w2' a1 (fun k hk e => own_off w2' hd2 (by decide) k hk e)
  · have ho2 := own_apart hown a1 (fun k hk e => own_off hown hd2 (by decide) k hk e)
    rw [ho, List.length_append, List.length_singleton, recsVals_append]
    have e : recsVals [y] = recVals y := by simp [recsVals]
    rw [e]
    exact ho2
def R6S (r node gw p : Nat) (vs vl vw vo : Value) (ro : Nat) (W : World) : Prop := R12 r node vs vl vw vo W ∧ W.cell? ⟨gw, p, none⟩ = some (.int .i64 (ro : Nat))

set_option maxHeartbeats 8000000 in
theorem rreport_good (w : World) (B r node : Nat) (vs vl vw vo : Value) (parts : List TableP.Part) (m : Mon) (hv : MonV (parts.map sayOf) m) (hro : ∀ p, rowOf m p ≤ 1000) (h : RMem w B r node vs vl vw vo parts m) (hnode : node ≤ 255) (rd p k : Nat) (hp : p < parts.length) (hn : parts.length ≤ 255) (hk : k ≤ 3) (hr : rd < 1048576) (hB : B ≤ w.heap.size) :
    Calls Tryd.prog 25 #[.pointer (some ⟨r, 0, none⟩), .int .u32 (rd : Nat), .int .i64 (p : Nat), .int .i64 (k : Nat)] w (RRepH w B r node vs vl vw vo parts m rd (p : Int) k) := by
  obtain ⟨n, hnn⟩ : ∃ n, parts.length = n := ⟨_, rfl⟩
  have hps := h.ps
  have hla := h.last
  have hrw := h.row
  rw [hnn] at hps hla hrw
  obtain ⟨gs, cs, hvs, hcs⟩ := row_some hps (by omega)
  obtain ⟨gl, cl, hvl, hcl⟩ := row_some hla (by omega)
  obtain ⟨gw, cw, hvw, hcw⟩ := row_some hrw (by omega)
  subst hvs hvl hvw
  obtain ⟨part, hpart⟩ : ∃ x, parts[p]? = some x := ⟨_, List.getElem?_eq_getElem hp⟩
  have hrec : recOf (parts.map sayOf) p k = ((sayOf part)[k]?).getD 0 := by
    unfold recOf
    rw [List.getElem?_map, hpart]
    rfl
  have kS : w.cell? ⟨gs, p * 9 + 5 + k, none⟩ = some (.int .u8 (recOf (parts.map sayOf) p k : Nat)) := by
    have h1 := itemsV_at partVals_len parts p part hpart (5 + k) (by omega)
    have h2 := hps.cellAt (p * 9 + (5 + k)) (by omega)
    rw [h1] at h2
    rw [hrec, Nat.add_assoc, h2]
    have hc : k = 0 ∨ k = 1 ∨ k = 2 ∨ k = 3 := by omega
    rcases hc with rfl | rfl | rfl | rfl <;> rfl
  have hrep := report_ok (recover := parts.map sayOf) (node := node) (m := m) (p := p) (k := k) (by rw [List.length_map]; exact hp) hk hr
  have kL : w.cell? ⟨gl, p, none⟩ = some (.int .i64 (lastOf m p : Nat)) := by
    rw [hla.cellAt p (by omega)]
    exact nV_get (by rw [hv.ok.last, List.length_map]; exact hp)
  have kR : w.cell? ⟨gw, p, none⟩ = some (.int .i64 (rowOf m p : Nat)) := by
    rw [hrw.cellAt p (by omega)]
    exact nV_get (by rw [hv.ok.row, List.length_map]; exact hp)
  have hplen : p < m.row.length := by rw [hv.ok.row, List.length_map]; exact hp
  have HM := Lib.hid h
  have hkL : (nV m.last)[p]? = some (.int .i64 (lastOf m p : Nat)) := nV_get (by rw [hv.ok.last, List.length_map]; exact hp)
  have HkL := Lib.hid hkL
  clear hkL
  have k1 : w.cell? ⟨r, 1, none⟩ = some (.slice (some ⟨gs, 0, none⟩) n cs) := cell_at h.hd 1 rfl
  have k2 : w.cell? ⟨r, 2, none⟩ = some (.slice (some ⟨gl, 0, none⟩) n cl) := cell_at h.hd 2 rfl
  have k3 : w.cell? ⟨r, 3, none⟩ = some (.slice (some ⟨gw, 0, none⟩) n cw) := cell_at h.hd 3 rfl
  have fW := RMem.frozen_row hrw p
  have hlow := hv.low p
  have hrob := hro p
  have hout := hv.ok.out
  have HRep := Lib.hid hrep
  have Hnn := Lib.hid hnn
  have Hpl := Lib.hid hplen
  have d1 : decide ((p : Int) < 0) = false := decide_eq_false (by omega)
  have d2 : decide ((n : Int) ≤ (p : Int)) = false := decide_eq_false (by omega)
  have d2' : decide (n ≤ p) = false := decide_eq_false (by omega)
  have d0 : decide ((k : Int) < 0) = false := decide_eq_false (by omega)
  have d3 : decide ((3 : Int) < (k : Int)) = false := decide_eq_false (by omega)
  have d3' : decide (3 < k) = false := decide_eq_false (by omega)
  have d4 : decide ((1048576 : Int) ≤ (rd : Int)) = false := decide_eq_false (by omega)
  have d4' : decide (1048576 ≤ rd) = false := decide_eq_false (by omega)
  have hlt : p < n := by omega
  have hk4 : (k : Int) < 4 := by omega
  have b1 : IntKind.i64.wrap (rd : Int) = (rd : Int) := IntWalk.i64_in _ (by omega)
  obtain ⟨rd1, hrd1⟩ : ∃ x, x = rd + 1 := ⟨_, rfl⟩
  obtain ⟨la1, hla1⟩ : ∃ x, x = lastOf m p + 1 := ⟨_, rfl⟩
  obtain ⟨ro1, hro1⟩ : ∃ x, x = rowOf m p + 1 := ⟨_, rfl⟩
  have b2 : IntKind.i64.wrap ((rd : Int) + 1) = (rd1 : Int) := by rw [IntWalk.i64_in _ (by omega)]; omega
  have b3 : IntKind.i64.wrap ((lastOf m p : Int) + 1) = (la1 : Int) := by rw [IntWalk.i64_in _ (by omega)]; omega
  have b4 : IntKind.i64.wrap ((rowOf m p : Int) + 1) = (ro1 : Int) := by rw [IntWalk.i64_in _ (by omega)]; omega
  have Hrd1 := Lib.hid hrd1
  have Hla1 := Lib.hid hla1
  have Hro1 := Lib.hid hro1
  obtain ⟨aR, haR⟩ : ∃ x, recOf (parts.map sayOf) p k = x := ⟨_, rfl⟩
  rw [haR] at kS
  have HaR := Lib.hid haR
  have hllen : p < m.last.length := by rw [hv.ok.last, List.length_map]; exact hp
  have Hll := Lib.hid hllen
  clear h hps hla hrw hpart hrec hrep hp hv hro hplen haR hllen hrd1 hla1 hro1
  go_enter Tryd.func25, Tryd.ntmps25
  go_upto_if 46 with (fail)
  go_cut [10] (fun a wx => MidC w B r node (.slice (some ⟨gs, 0, none⟩) n cs) (.slice (some ⟨gl, 0, none⟩) n cl) (.slice (some ⟨gw, 0, none⟩) n cw) vo parts m rd p k a wx)
  case first =>
    by_cases h1 : aR = 1
    case neg =>
      have hne : ((aR : Int) == 1) = false := by rw [beq_eq_false_iff_ne]; omega
      have HF : Hid (MidC w B r node (.slice (some ⟨gs, 0, none⟩) n cs) (.slice (some ⟨gl, 0, none⟩) n cl) (.slice (some ⟨gw, 0, none⟩) n cw) vo parts m rd p k (.int .u8 (aR : Nat)) w) := Lib.hid ⟨by unfold didT; rw [HaR.out, if_neg h1], by rw [mid_no (by rw [HaR.out]; exact h1)]; exact HM.out, Apart.refl _ _⟩
      clear h1
      go_wp2_with fail
      go_meet
      exact HF.out
    have hye : ((aR : Int) == 1) = true := by rw [beq_iff_eq]; omega
    have HF : Hid (∀ x W a, nextRow m p rd = x → (if 3 ≤ x then 2 else 1) = a → RMem W B r node (.slice (some ⟨gs, 0, none⟩) n cs) (.slice (some ⟨gl, 0, none⟩) n cl) (.slice (some ⟨gw, 0, none⟩) n cw) vo parts ⟨m.last.set p rd1, m.row.set p x, m.out⟩ → Apart (RFd r (.slice (some ⟨gl, 0, none⟩) n cl) (.slice (some ⟨gw, 0, none⟩) n cw) vo) w W → MidC w B r node (.slice (some ⟨gs, 0, none⟩) n cs) (.slice (some ⟨gl, 0, none⟩) n cl) (.slice (some ⟨gw, 0, none⟩) n cw) vo parts m rd p k (.int .u8 (a : Nat)) W) := Lib.hid fun x W a e1 e2 h2 h3 =>
      ⟨by unfold didT; rw [HaR.out, if_pos h1, e1, e2], by rw [mid_yes (by rw [HaR.out]; exact h1), e1, ← Hrd1.out]; exact h2, h3⟩
    have h6 : nextRow m p rd = if 0 < lastOf m p ∧ rd ≤ lastOf m p then rowOf m p + 1 else 1 := rfl
    have H6 := Lib.hid h6
    have Ha1 := Lib.hid h1
    clear h6 h1
    generalize lastOf m p = la at *
    generalize rowOf m p = ro at *
    by_cases hin : 0 < la ∧ rd ≤ la
    case pos =>
      have hx1 : nextRow m p rd = ro1 := by rw [H6.out, if_pos hin, Hro1.out]
      have x1 : decide ((0 : Int) < (la : Int)) = true := decide_eq_true (by omega)
      have x2 : decide (0 < la) = true := decide_eq_true (by omega)
      have x3 : decide ((rd1 : Int) ≤ (la1 : Int)) = true := decide_eq_true (by have := Hrd1.out; have := Hla1.out; omega)
      have x4 : decide (rd1 ≤ la1) = true := decide_eq_true (by have := Hrd1.out; have := Hla1.out; omega)
      have hdr : R6S r node gw p (.slice (some ⟨gs, 0, none⟩) n cs) (.slice (some ⟨gl, 0, none⟩) n cl) (.slice (some ⟨gw, 0, none⟩) n cw) vo ro w.drew := ⟨HM.out.hd, kR⟩
      have hR1 : RMem ((w.setCell ⟨gw, p, none⟩ (.int .i64 (ro1 : Nat))).drew) B r node (.slice (some ⟨gs, 0, none⟩) n cs) (.slice (some ⟨gl, 0, none⟩) n cl) (.slice (some ⟨gw, 0, none⟩) n cw) vo parts ⟨m.last, m.row.set p ro1, m.out⟩ ∧ Apart (fun k => k = gw) w (w.setCell ⟨gw, p, none⟩ (.int .i64 (ro1 : Nat))).drew := ⟨(rm_row Hnn.out HM.out p ro1).1.keep (Below.refl _ _).drew, (rm_row Hnn.out HM.out p ro1).2.drew⟩
      have c3 : ∀ W, R6S r node gw p (.slice (some ⟨gs, 0, none⟩) n cs) (.slice (some ⟨gl, 0, none⟩) n cl) (.slice (some ⟨gw, 0, none⟩) n cw) vo ro W → W.cell? ⟨r, 3, none⟩ = some (.slice (some ⟨gw, 0, none⟩) n cw) := fun W hW => cell_at hW.1 3 rfl
      have cR : ∀ W, R6S r node gw p (.slice (some ⟨gs, 0, none⟩) n cs) (.slice (some ⟨gl, 0, none⟩) n cl) (.slice (some ⟨gw, 0, none⟩) n cw) vo ro W → W.cell? ⟨gw, p, none⟩ = some (.int .i64 (ro : Nat)) := fun W hW => hW.2
      have fD : w.drew.frozen? ⟨gw, p, none⟩ = false := fW
      have cD : w.drew.cell? ⟨gw, p, none⟩ = some (.int .i64 (ro : Nat)) := kR
      have Hx := Lib.hid hx1
      clear hx1 H6 hin
      go_upto_region 6 with (fail)
      refine wp_region_L_drew (st := 14) (S := fun W => R6S r node gw p (.slice (some ⟨gs, 0, none⟩) n cs) (.slice (some ⟨gl, 0, none⟩) n cl) (.slice (some ⟨gw, 0, none⟩) n cw) vo ro W) (by kernel_rfl) hdr (fun _ => ?_)
      refine tkL 0 (by simp only [tkA]; rfl) (by kernel_rfl) (by exact fun _ _ _ h => h) (by rfl) (by intro W hW; go_simp <;> with_reducible rfl) hdr ?_
      try simp only [Act.put, tkT, tk0, tkS]
      refine tkL 1 (by simp only [tkA, tkG]; rfl) (by kernel_rfl) (by exact fun _ _ _ h => h) (by rfl) (by intro W hW; go_simp <;> with_reducible rfl) hdr ?_
      try simp only [Act.put, tkT, tk0, tkS]
      refine tkL 2 (by simp only [tkA, tkG]; rfl) (by kernel_rfl) (by exact fun _ _ _ h => h) (by rfl) (by intro W hW; go_simp <;> with_reducible rfl) hdr ?_
      try simp only [Act.put, tkT, tk0, tkS]
      refine tkL 3 (by simp only [tkA, tkG]; rfl) (by kernel_rfl) (by exact fun _ _ _ h => h) (by rfl) (by intro W hW; go_simp <;> with_reducible rfl) hdr ?_
      try simp only [Act.put, tkT, tk0, tkS]
      refine tkL 4 (by simp only [tkA, tkG]; rfl) (by kernel_rfl) (by exact fun _ _ _ h => h) (by rfl) (by intro W hW; go_simp <;> with_reducible rfl) hdr ?_
      try simp only [Act.put, tkT, tk0, tkS]
      refine tkL 5 (by simp only [tkA, tkG]; rfl) (by kernel_rfl) (by exact fun _ _ _ h => h) (by rfl) (by intro W hW; go_simp <;> with_reducible rfl) hdr ?_
      try simp only [Act.put, tkT, tk0, tkS]
      refine tkL 6 (by simp only [tkA, tkG]; rfl) (by kernel_rfl) (by exact fun _ _ _ h => h) (by rfl) (by intro W hW; go_simp <;> with_reducible rfl) hdr ?_
      try simp only [Act.put, tkT, tk0, tkS]
      refine tkL 7 (by simp only [tkA, tkG]; rfl) (by kernel_rfl) (by exact fun _ _ _ h => h) (by rfl) (by intro W hW; go_simp <;> with_reducible rfl) hdr ?_
      try simp only [Act.put, tkT, tk0, tkS]
      refine tkL 8 (by simp only [tkA, tkG]; rfl) (by kernel_rfl) (by exact fun _ _ _ h => h) (by rfl) (by intro W hW; go_simp <;> with_reducible rfl) hdr ?_
      try simp only [Act.put, tkT, tk0, tkS]
      refine tkL 9 (by simp only [tkA, tkG]; rfl) (by kernel_rfl) (by exact fun _ _ _ h => h) (by rfl) (by intro W hW; go_simp <;> with_reducible rfl) hdr ?_
      try simp only [Act.put, tkT, tk0, tkS]
      refine tkL 10 (by simp only [tkA, tkG]; rfl) (by kernel_rfl) (by exact fun _ _ _ h => h) (by rfl) (by intro W hW; go_simp <;> with_reducible rfl) hdr ?_
      try simp only [Act.put, tkT, tk0, tkS]
      refine tkL 11 (by simp only [tkA, tkG]; rfl) (by kernel_rfl) (by exact fun _ _ _ h => h) (by rfl) (by intro W hW; go_simp <;> with_reducible rfl) hdr ?_
      try simp only [Act.put, tkT, tk0, tkS]
      refine tkL 12 (by simp only [tkA, tkG]; rfl) (by kernel_rfl) (by exact fun _ _ _ h => h) (by rfl) (by intro W hW; go_simp <;> with_reducible rfl) hdr ?_
      try simp only [Act.put, tkT, tk0, tkS]
      refine tkL 13 (by simp only [tkA, tkG]; rfl) (by kernel_rfl) (by exact fun _ _ _ h => h) (by rfl) (by intro W hW; go_simp <;> with_reducible rfl) hdr ?_
      try simp only [Act.put, tkT, tk0, tkS]
      clear c3 cR
      refine wpAnyL_last (k := 14) (by kernel_rfl) (by simp only [tkA, tkG]; rfl) (fun K hK => ?_)
      go_simp
      go_wp2_with fail
      refine hK.out _ _ ?_
      clear hK K
      refine wpAnyL_done (by kernel_rfl) ?_ _
      clear hdr fD cD
      go_upto_region 8 with (fail)
      by_cases h3 : 3 ≤ ro1
      · have y1 : decide ((3 : Int) ≤ (ro1 : Int)) = true := decide_eq_true (by omega)
        have y2 : decide (3 ≤ ro1) = true := decide_eq_true h3
        have HX := Lib.hid (fun W => HF.out ro1 W 2 Hx.out (if_pos h3))
        clear HF h3
        obtain ⟨hM1, hA1⟩ := hR1
        generalize (w.setCell ⟨gw, p, none⟩ (.int .i64 (ro1 : Nat))).drew = w1 at *
        have q2 : w1.cell? ⟨r, 2, none⟩ = some (.slice (some ⟨gl, 0, none⟩) n cl) := cell_at hM1.hd 2 rfl
        have hl1 := hM1.last
        rw [Hnn.out] at hl1
        have qL : w1.cell? ⟨gl, p, none⟩ = some (.int .i64 (la : Nat)) := by
          rw [hl1.cellAt p (by omega)]
          exact HkL.out
        have fL := RMem.frozen_row hl1 p
        have hR2 : RMem (w1.setCell ⟨gl, p, none⟩ (.int .i64 (rd1 : Nat))) B r node (.slice (some ⟨gs, 0, none⟩) n cs) (.slice (some ⟨gl, 0, none⟩) n cl) (.slice (some ⟨gw, 0, none⟩) n cw) vo parts ⟨m.last.set p rd1, m.row.set p ro1, m.out⟩ ∧ Apart (fun k => k = gl) w1 (w1.setCell ⟨gl, p, none⟩ (.int .i64 (rd1 : Nat))) := rm_last Hnn.out hM1 p rd1
        clear hM1 hl1
        go_upto_region 9 with (fail)
        obtain ⟨hM2, hA2⟩ := hR2
        generalize w1.setCell ⟨gl, p, none⟩ (.int .i64 (rd1 : Nat)) = w2 at *
        have q3 : w2.cell? ⟨r, 3, none⟩ = some (.slice (some ⟨gw, 0, none⟩) n cw) := cell_at hM2.hd 3 rfl
        have hr2 := hM2.row
        rw [Hnn.out] at hr2
        have qR : w2.cell? ⟨gw, p, none⟩ = some (.int .i64 (ro1 : Nat)) := by
          rw [hr2.cellAt p (by omega), nV_set, List.getElem?_set_self (by rw [nV_len]; exact Hpl.out)]
        have HZ := Lib.hid (HX.out w2 hM2 ((hA1.mono fun _ _ e => .inr (.inr (.inl (by rw [e]; rfl)))).trans hA2 fun _ e => .inl (.inr (.inl (by rw [e]; rfl)))))
        clear hM2 hr2 hA1 hA2 HX
        go_wp2_with fail
        go_meet
        exact HZ.out
      · have y1 : decide ((3 : Int) ≤ (ro1 : Int)) = false := decide_eq_false (by omega)
        have y2 : decide (3 ≤ ro1) = false := decide_eq_false h3
        have HX := Lib.hid (fun W => HF.out ro1 W aR Hx.out (by rw [if_neg h3, Ha1.out]))
        clear HF h3
        obtain ⟨hM1, hA1⟩ := hR1
        generalize (w.setCell ⟨gw, p, none⟩ (.int .i64 (ro1 : Nat))).drew = w1 at *
        have q2 : w1.cell? ⟨r, 2, none⟩ = some (.slice (some ⟨gl, 0, none⟩) n cl) := cell_at hM1.hd 2 rfl
        have hl1 := hM1.last
        rw [Hnn.out] at hl1
        have qL : w1.cell? ⟨gl, p, none⟩ = some (.int .i64 (la : Nat)) := by
          rw [hl1.cellAt p (by omega)]
          exact HkL.out
        have fL := RMem.frozen_row hl1 p
        have hR2 : RMem (w1.setCell ⟨gl, p, none⟩ (.int .i64 (rd1 : Nat))) B r node (.slice (some ⟨gs, 0, none⟩) n cs) (.slice (some ⟨gl, 0, none⟩) n cl) (.slice (some ⟨gw, 0, none⟩) n cw) vo parts ⟨m.last.set p rd1, m.row.set p ro1, m.out⟩ ∧ Apart (fun k => k = gl) w1 (w1.setCell ⟨gl, p, none⟩ (.int .i64 (rd1 : Nat))) := rm_last Hnn.out hM1 p rd1
        clear hM1 hl1
        go_upto_region 9 with (fail)
        obtain ⟨hM2, hA2⟩ := hR2
        generalize w1.setCell ⟨gl, p, none⟩ (.int .i64 (rd1 : Nat)) = w2 at *
        have q3 : w2.cell? ⟨r, 3, none⟩ = some (.slice (some ⟨gw, 0, none⟩) n cw) := cell_at hM2.hd 3 rfl
        have hr2 := hM2.row
        rw [Hnn.out] at hr2
        have qR : w2.cell? ⟨gw, p, none⟩ = some (.int .i64 (ro1 : Nat)) := by
          rw [hr2.cellAt p (by omega), nV_set, List.getElem?_set_self (by rw [nV_len]; exact Hpl.out)]
        have HZ := Lib.hid (HX.out w2 hM2 ((hA1.mono fun _ _ e => .inr (.inr (.inl (by rw [e]; rfl)))).trans hA2 fun _ e => .inl (.inr (.inl (by rw [e]; rfl)))))
        clear hM2 hr2 hA1 hA2 HX
        go_wp2_with fail
        go_meet
        exact HZ.out
    have hx1 : nextRow m p rd = 1 := by rw [H6.out, if_neg hin]
    have HX := Lib.hid (fun W => HF.out 1 W aR hx1 (by rw [Ha1.out]; rfl))
    have e0 : la = 0 ∨ 0 < la ∧ la < rd := by omega
    have hR1 : RMem (w.setCell ⟨gw, p, none⟩ (.int .i64 1)) B r node (.slice (some ⟨gs, 0, none⟩) n cs) (.slice (some ⟨gl, 0, none⟩) n cl) (.slice (some ⟨gw, 0, none⟩) n cw) vo parts ⟨m.last, m.row.set p 1, m.out⟩ ∧ Apart (fun k => k = gw) w (w.setCell ⟨gw, p, none⟩ (.int .i64 1)) := rm_row Hnn.out HM.out p 1
    clear H6 Ha1 hx1 HF hin
    rcases e0 with e0 | ⟨e0, e00⟩
    · have x1 : decide ((0 : Int) < (la : Int)) = false := decide_eq_false (by omega)
      have x2 : decide (0 < la) = false := decide_eq_false (by omega)
      clear e0
      go_upto_region 8 with (fail)
      obtain ⟨hM1, hA1⟩ := hR1
      generalize w.setCell ⟨gw, p, none⟩ (.int .i64 1) = w1 at *
      have q2 : w1.cell? ⟨r, 2, none⟩ = some (.slice (some ⟨gl, 0, none⟩) n cl) := cell_at hM1.hd 2 rfl
      have hl1 := hM1.last
      rw [Hnn.out] at hl1
      have qL : w1.cell? ⟨gl, p, none⟩ = some (.int .i64 (la : Nat)) := by
        rw [hl1.cellAt p (by omega)]
        exact HkL.out
      have fL := RMem.frozen_row hl1 p
      have hR2 : RMem (w1.setCell ⟨gl, p, none⟩ (.int .i64 (rd1 : Nat))) B r node (.slice (some ⟨gs, 0, none⟩) n cs) (.slice (some ⟨gl, 0, none⟩) n cl) (.slice (some ⟨gw, 0, none⟩) n cw) vo parts ⟨m.last.set p rd1, m.row.set p 1, m.out⟩ ∧ Apart (fun k => k = gl) w1 (w1.setCell ⟨gl, p, none⟩ (.int .i64 (rd1 : Nat))) := rm_last Hnn.out hM1 p rd1
      clear hM1 hl1
      go_upto_region 9 with (fail)
      obtain ⟨hM2, hA2⟩ := hR2
      generalize w1.setCell ⟨gl, p, none⟩ (.int .i64 (rd1 : Nat)) = w2 at *
      have q3 : w2.cell? ⟨r, 3, none⟩ = some (.slice (some ⟨gw, 0, none⟩) n cw) := cell_at hM2.hd 3 rfl
      have hr2 := hM2.row
      rw [Hnn.out] at hr2
      have qR : w2.cell? ⟨gw, p, none⟩ = some (.int .i64 1) := by
        rw [hr2.cellAt p (by omega), nV_set, List.getElem?_set_self (by rw [nV_len]; exact Hpl.out)]; rfl
      have HZ := Lib.hid (HX.out w2 hM2 ((hA1.mono fun _ _ e => .inr (.inr (.inl (by rw [e]; rfl)))).trans hA2 fun _ e => .inl (.inr (.inl (by rw [e]; rfl)))))
      clear hM2 hr2 hA1 hA2 HX
      go_wp2_with fail
      go_meet
      exact HZ.out
    · have x1 : decide ((0 : Int) < (la : Int)) = true := decide_eq_true (by omega)
      have x2 : decide (0 < la) = true := decide_eq_true (by omega)
      have x3 : decide ((rd1 : Int) ≤ (la1 : Int)) = false := decide_eq_false (by have := Hrd1.out; have := Hla1.out; omega)
      have x4 : decide (rd1 ≤ la1) = false := decide_eq_false (by have := Hrd1.out; have := Hla1.out; omega)
      clear e0 e00
      go_upto_region 8 with (fail)
      obtain ⟨hM1, hA1⟩ := hR1
      generalize w.setCell ⟨gw, p, none⟩ (.int .i64 1) = w1 at *
      have q2 : w1.cell? ⟨r, 2, none⟩ = some (.slice (some ⟨gl, 0, none⟩) n cl) := cell_at hM1.hd 2 rfl
      have hl1 := hM1.last
      rw [Hnn.out] at hl1
      have qL : w1.cell? ⟨gl, p, none⟩ = some (.int .i64 (la : Nat)) := by
        rw [hl1.cellAt p (by omega)]
        exact HkL.out
      have fL := RMem.frozen_row hl1 p
      have hR2 : RMem (w1.setCell ⟨gl, p, none⟩ (.int .i64 (rd1 : Nat))) B r node (.slice (some ⟨gs, 0, none⟩) n cs) (.slice (some ⟨gl, 0, none⟩) n cl) (.slice (some ⟨gw, 0, none⟩) n cw) vo parts ⟨m.last.set p rd1, m.row.set p 1, m.out⟩ ∧ Apart (fun k => k = gl) w1 (w1.setCell ⟨gl, p, none⟩ (.int .i64 (rd1 : Nat))) := rm_last Hnn.out hM1 p rd1
      clear hM1 hl1
      go_upto_region 9 with (fail)
      obtain ⟨hM2, hA2⟩ := hR2
      generalize w1.setCell ⟨gl, p, none⟩ (.int .i64 (rd1 : Nat)) = w2 at *
      have q3 : w2.cell? ⟨r, 3, none⟩ = some (.slice (some ⟨gw, 0, none⟩) n cw) := cell_at hM2.hd 3 rfl
      have hr2 := hM2.row
      rw [Hnn.out] at hr2
      have qR : w2.cell? ⟨gw, p, none⟩ = some (.int .i64 1) := by
        rw [hr2.cellAt p (by omega), nV_set, List.getElem?_set_self (by rw [nV_len]; exact Hpl.out)]; rfl
      have HZ := Lib.hid (HX.out w2 hM2 ((hA1.mono fun _ _ e => .inr (.inr (.inl (by rw [e]; rfl)))).trans hA2 fun _ e => .inl (.inr (.inl (by rw [e]; rfl)))))
      clear hM2 hr2 hA1 hA2 HX
      go_wp2_with fail
      go_meet
      exact HZ.out
  case rest =>
    obtain ⟨rfl, hM, hA⟩ := hcut
    have HM1 := Lib.hid hM
    have HA1 := Lib.hid hA
    obtain ⟨q, hq⟩ : ∃ q, m.out.length = q := ⟨_, rfl⟩
    obtain ⟨A2, cap2, hvo, -⟩ := own_slice hM.out
    change vo = .slice A2 m.out.length cap2 at hvo
    rw [hq] at hvo hout
    have HQ := Lib.hid hq
    have hwn : IntKind.u8.wrap (node : Int) = (node : Int) := by rw [IntKind.wrap_u8]; omega
    have hwp : IntKind.u8.wrap (p : Int) = (p : Int) := by rw [IntKind.wrap_u8]; omega
    have hwk : IntKind.u8.wrap (k : Int) = (k : Int) := by rw [IntKind.wrap_u8]; omega
    have Hnx := Lib.hid (nextR_out (parts.map sayOf) node m rd p k)
    have k4 : wc.cell? ⟨r, 4, none⟩ = some vo := cell_at hM.hd 4 rfl
    clear kS kL kR k1 k2 k3 fW b1 b2 b3 b4 Hrd1 Hla1 Hro1 HaR HM hM hA hq hlow hrob Hpl HkL Hll
    by_cases hfull : q < 4
    case neg =>
      have hfin : Hid (RRepH w B r node (.slice (some ⟨gs, 0, none⟩) n cs) (.slice (some ⟨gl, 0, none⟩) n cl) (.slice (some ⟨gw, 0, none⟩) n cw) vo parts m rd (p : Int) k (.returned (.tuple #[.int .u8 (didT (parts.map sayOf) m rd p k : Nat), .string ⟨#[]⟩])) wc) := Lib.hid (by
        unfold RRepH
        rw [HRep.out]
        have e : nextM (parts.map sayOf) node m rd p k = (midR (parts.map sayOf) node m rd p k) := by
          have e1 : (nextM (parts.map sayOf) node m rd p k).out = m.out := by rw [Hnx.out]; unfold noteT; rw [if_neg (by rw [HQ.out]; exact hfull)]
          show nextM (parts.map sayOf) node m rd p k = ⟨_, _, m.out⟩
          rw [← e1]
        exact ⟨rfl, vo, by rw [e]; exact HM1.out, HA1.out, .inl rfl⟩)
      have dq : decide ((q : Int) < 4) = false := decide_eq_false (by omega)
      have dq' : decide (q < 4) = false := decide_eq_false (by omega)
      clear HM1 HA1 Hnx HRep HQ hfull hout
      subst hvo
      generalize didT (parts.map sayOf) m rd p k = did at *
      go_wp2_with fail
      go_ret2
      exact hfin.out
    have dq : decide ((q : Int) < 4) = true := decide_eq_true (by omega)
    have dq' : decide (q < 4) = true := decide_eq_true (by omega)
    have hfin : Hid (∀ w2 v', w2.ownsRow B 69 5 v' (q + 1) (recsVals m.out ++ recVals ⟨rd, node, p, k, didT (parts.map sayOf) m rd p k⟩) → Apart (fun x => vo.ownBlock = some x) wc w2 → (v'.ownBlock = vo.ownBlock ∨ ∃ y, v'.ownBlock = some y ∧ wc.heap.size ≤ y) →
        RRepH w B r node (.slice (some ⟨gs, 0, none⟩) n cs) (.slice (some ⟨gl, 0, none⟩) n cl) (.slice (some ⟨gw, 0, none⟩) n cw) vo parts m rd (p : Int) k (.returned (.tuple #[.int .u8 (didT (parts.map sayOf) m rd p k : Nat), .string ⟨#[]⟩])) (w2.setCell ⟨r, 4, none⟩ v')) := Lib.hid fun w2 v' h3 h4 h5 => by
      unfold RRepH
      rw [HRep.out]
      rw [← HQ.out] at h3
      have h6 := out_stored (m' := nextM (parts.map sayOf) node m rd p k) HM1.out ⟨rd, node, p, k, didT (parts.map sayOf) m rd p k⟩ rfl rfl (by
        rw [Hnx.out]; unfold noteT; rw [if_pos (by rw [HQ.out]; exact hfull)]; rfl) h3 h4
      refine ⟨rfl, v', h6.1, HA1.out.trans h6.2 (fun _ e => .inl e), ?_⟩
      rcases h5 with h5 | ⟨y, h5, h7⟩
      · exact .inl h5
      · exact .inr ⟨y, h5, Nat.le_trans HA1.out.size h7⟩
    have HO : Hid (wc.ownsRow B 69 5 vo q (recsVals m.out)) := Lib.hid (by
      have := HM1.out.out
      change wc.ownsRow B 69 5 vo m.out.length (recsVals m.out) at this
      rw [HQ.out] at this
      exact this)
    have HD : Hid (R12 r node (.slice (some ⟨gs, 0, none⟩) n cs) (.slice (some ⟨gl, 0, none⟩) n cl) (.slice (some ⟨gw, 0, none⟩) n cw) vo wc) := Lib.hid HM1.out.hd
    have HBz : Hid (B ≤ wc.heap.size) := Lib.hid (Nat.le_trans hB HA1.out.size)
    have Hq4 := Lib.hid hfull
    clear Hnx HRep hfull hout HM1 HA1
    subst hvo
    generalize hD : didT (parts.map sayOf) m rd p k = did at *
    clear hD
    have hdr : R12 r node (.slice (some ⟨gs, 0, none⟩) n cs) (.slice (some ⟨gl, 0, none⟩) n cl) (.slice (some ⟨gw, 0, none⟩) n cw) (.slice A2 q cap2) wc.drew := HD.out
    have c0 : ∀ W, R12 r node (.slice (some ⟨gs, 0, none⟩) n cs) (.slice (some ⟨gl, 0, none⟩) n cl) (.slice (some ⟨gw, 0, none⟩) n cw) (.slice A2 q cap2) W → W.cell? ⟨r, 0, none⟩ = some (.int .i64 (node : Nat)) := fun W hW => cell_at hW 0 rfl
    have c4 : ∀ W, R12 r node (.slice (some ⟨gs, 0, none⟩) n cs) (.slice (some ⟨gl, 0, none⟩) n cl) (.slice (some ⟨gw, 0, none⟩) n cw) (.slice A2 q cap2) W → W.cell? ⟨r, 4, none⟩ = some (.slice A2 q cap2) := fun W hW => cell_at hW 4 rfl
    go_upto_region 12 with (fail)
    refine wp_region_L_drew (st := 21) (S := fun W => R12 r node (.slice (some ⟨gs, 0, none⟩) n cs) (.slice (some ⟨gl, 0, none⟩) n cl) (.slice (some ⟨gw, 0, none⟩) n cw) (.slice A2 q cap2) W) (by kernel_rfl) hdr (fun _ => ?_)
    refine tkL 0 (by simp only [tkA]; rfl) (by kernel_rfl) (by exact fun _ _ _ h => h) (by rfl) (by intro W hW; go_simp <;> with_reducible rfl) hdr ?_
    try simp only [Act.put, tkT, tk0, tkS]
    refine tkL 1 (by simp only [tkA, tkG]; rfl) (by kernel_rfl) (by exact fun _ _ _ h => h) (by rfl) (by intro W hW; go_simp <;> with_reducible rfl) hdr ?_
    try simp only [Act.put, tkT, tk0, tkS]
    refine tkL 2 (by simp only [tkA, tkG]; rfl) (by kernel_rfl) (by exact fun _ _ _ h => h) (by rfl) (by intro W hW; go_simp <;> with_reducible rfl) hdr ?_
    try simp only [Act.put, tkT, tk0, tkS]
    refine tkL 3 (by simp only [tkA, tkG]; rfl) (by kernel_rfl) (by exact fun _ _ _ h => h) (by rfl) (by intro W hW; go_simp <;> with_reducible rfl) hdr ?_
    try simp only [Act.put, tkT, tk0, tkS]
    refine tkL 4 (by simp only [tkA, tkG]; rfl) (by kernel_rfl) (by exact fun _ _ _ h => h) (by rfl) (by intro W hW; go_simp <;> with_reducible rfl) hdr ?_
    try simp only [Act.put, tkT, tk0, tkS]
    refine tkL 5 (by simp only [tkA, tkG]; rfl) (by kernel_rfl) (by exact fun _ _ _ h => h) (by rfl) (by intro W hW; go_simp <;> with_reducible rfl) hdr ?_
    try simp only [Act.put, tkT, tk0, tkS]
    refine tkL 6 (by simp only [tkA, tkG]; rfl) (by kernel_rfl) (by exact fun _ _ _ h => h) (by rfl) (by intro W hW; go_simp <;> with_reducible rfl) hdr ?_
    try simp only [Act.put, tkT, tk0, tkS]
    refine tkL 7 (by simp only [tkA, tkG]; rfl) (by kernel_rfl) (by exact fun _ _ _ h => h) (by rfl) (by intro W hW; go_simp <;> with_reducible rfl) hdr ?_
    try simp only [Act.put, tkT, tk0, tkS]
    refine tkL 8 (by simp only [tkA, tkG]; rfl) (by kernel_rfl) (by exact fun _ _ _ h => h) (by rfl) (by intro W hW; go_simp <;> with_reducible rfl) hdr ?_
    try simp only [Act.put, tkT, tk0, tkS]
    refine tkL 9 (by simp only [tkA, tkG]; rfl) (by kernel_rfl) (by exact fun _ _ _ h => h) (by rfl) (by intro W hW; go_simp <;> with_reducible rfl) hdr ?_
    try simp only [Act.put, tkT, tk0, tkS]
    refine tkL 10 (by simp only [tkA, tkG]; rfl) (by kernel_rfl) (by exact fun _ _ _ h => h) (by rfl) (by intro W hW; go_simp <;> with_reducible rfl) hdr ?_
    try simp only [Act.put, tkT, tk0, tkS]
    refine tkL 11 (by simp only [tkA, tkG]; rfl) (by kernel_rfl) (by exact fun _ _ _ h => h) (by rfl) (by intro W hW; go_simp <;> with_reducible rfl) hdr ?_
    try simp only [Act.put, tkT, tk0, tkS]
    refine tkL 12 (by simp only [tkA, tkG]; rfl) (by kernel_rfl) (by exact fun _ _ _ h => h) (by rfl) (by intro W hW; go_simp <;> with_reducible rfl) hdr ?_
    try simp only [Act.put, tkT, tk0, tkS]
    refine tkL 13 (by simp only [tkA, tkG]; rfl) (by kernel_rfl) (by exact fun _ _ _ h => h) (by rfl) (by intro W hW; go_simp <;> with_reducible rfl) hdr ?_
    try simp only [Act.put, tkT, tk0, tkS]
    refine tkL 14 (by simp only [tkA, tkG]; rfl) (by kernel_rfl) (by exact fun _ _ _ h => h) (by rfl) (by intro W hW; go_simp <;> with_reducible rfl) hdr ?_
    try simp only [Act.put, tkT, tk0, tkS]
    refine tkL 15 (by simp only [tkA, tkG]; rfl) (by kernel_rfl) (by exact fun _ _ _ h => h) (by rfl) (by intro W hW; go_simp <;> with_reducible rfl) hdr ?_
    try simp only [Act.put, tkT, tk0, tkS]
    refine tkL 16 (by simp only [tkA, tkG]; rfl) (by kernel_rfl) (by exact fun _ _ _ h => h) (by rfl) (by intro W hW; go_simp <;> with_reducible rfl) hdr ?_
    try simp only [Act.put, tkT, tk0, tkS]
    clear c0 c4 k4
    have Hsz := Lib.hid (lt_of_block hdr)
    have hda : R12 r node (.slice (some ⟨gs, 0, none⟩) n cs) (.slice (some ⟨gl, 0, none⟩) n cl) (.slice (some ⟨gw, 0, none⟩) n cw) (.slice A2 q cap2) (wc.drew.alloc (.cells (recVals ⟨rd, node, p, k, did⟩).toArray 69)) := (Below.heap_alloc _ _ _ Hsz.out).trans hdr
    clear hdr
    refine wpAnyL_one (k := 17) (by kernel_rfl) (by simp only [tkA, tkG]; rfl) (fun K hK => ?_)
    go_simp
    go_wp2_with fail
    refine hK.out _ _ (fun _ => hda) ?_
    clear hK K
    refine wpAnyL_one (k := 18) (by kernel_rfl) (by simp only [tkA, tkG]; rfl) (fun K hK => ?_)
    refine step_append_m rfl (.tmp 116) (.tmp 129) _ rfl B 69 _ 5 8 Tryd.underlying59 infoRecR rfl (by omega) _ q (recsVals m.out) rfl (HO.out.drew.alloc _) (some ⟨wc.drew.heap.size, 0, none⟩) 1 1 (recVals ⟨rd, node, p, k, did⟩) rfl rfl (fun _ => ⟨_, rfl, laid_at wc.drew _ (recVals ⟨rd, node, p, k, did⟩) wc.drew.heap.size rfl⟩) (recVals_oneH _) (by have := Hq4.out; unfold maxLen; omega) (by have := Hq4.out; omega) (by have := HBz.out; simp; omega) ?_
    intro v8 w8 ho8 ha8 hb8
    have ha80 : Apart (fun x => (Value.slice A2 q cap2).ownBlock = some x) wc w8 := ((Apart.refl _ wc).drew.alloc _).trans ha8 (fun _ e => .inl e)
    have hd8 : R12 r node (.slice (some ⟨gs, 0, none⟩) n cs) (.slice (some ⟨gl, 0, none⟩) n cl) (.slice (some ⟨gw, 0, none⟩) n cw) (.slice A2 q cap2) w8 := (ha80.block r Hsz.out (fun e => own_off HO.out HD.out (by decide) r e rfl)).trans HD.out
    obtain ⟨g8, c8, rfl, -, -⟩ := ho8.form (by omega)
    have HF8 := Lib.hid (hfin.out w8 _ ho8 ha80 (by
      rcases hb8 with e | e
      · exact .inl e
      · simp only [Value.ownBlock, Option.some.injEq] at e
        exact .inr ⟨g8, rfl, by rw [e]; simp⟩))
    have kb8 : w8.cell? ⟨r, 4, none⟩ = some (.slice A2 q cap2) := cell_at hd8 4 rfl
    have fb8 := free_at hd8 4
    clear ho8 ha8 hb8 ha80 hfin
    go_wp2_with fail
    refine hK.out _ _ (fun _ => hd8) ?_
    clear hK K
    refine tkL 19 (by simp only [tkA, tkG]; rfl) (by kernel_rfl) (by exact fun _ _ _ h => h) (by rfl) (by intro W hW; go_simp <;> with_reducible rfl) hd8 ?_
    try simp only [Act.put, tkT, tk0, tkS]
    refine tkL 20 (by simp only [tkA, tkG]; rfl) (by kernel_rfl) (by exact fun _ _ _ h => h) (by rfl) (by intro W hW; go_simp <;> with_reducible rfl) hd8 ?_
    try simp only [Act.put, tkT, tk0, tkS]
    refine wpAnyL_last (k := 21) (by kernel_rfl) (by simp only [tkA, tkG]; rfl) (fun K hK => ?_)
    go_simp
    go_wp2_with fail
    refine hK.out _ _ ?_
    clear hK K
    refine wpAnyL_done (by kernel_rfl) ?_ _
    clear hd8 hda
    go_wp2_with fail
    go_ret2
    exact HF8.out
theorem rreport_any (w : World) (B r node : Nat) (vs vl vw vo : Value) (parts : List TableP.Part) (m : Mon) (hv : MonV (parts.map sayOf) m) (hro : ∀ p, rowOf m p ≤ 1000) (h : RMem w B r node vs vl vw vo parts m) (hnode : node ≤ 255) (rd : Nat) (part : Int) (k : Nat) (hn : parts.length ≤ 255) (hB : B ≤ w.heap.size) :
    Calls Tryd.prog 25 #[.pointer (some ⟨r, 0, none⟩), .int .u32 (rd : Nat), .int .i64 part, .int .i64 (k : Nat)] w (RRepH w B r node vs vl vw vo parts m rd part k) := by
  by_cases hb : part < 0 ∨ (parts.length : Int) ≤ part ∨ 3 < k ∨ 1048576 ≤ rd
  · exact rreport_bad w B r node vs vl vw vo parts m h rd part k hb
  · obtain ⟨p, rfl⟩ := Int.eq_ofNat_of_zero_le (show 0 ≤ part by omega)
    exact rreport_good w B r node vs vl vw vo parts m hv hro h hnode rd p k (by omega) hn (by omega) (by omega) hB
end Go.Proofs.YtabndibenffngaaDoor
