/- The document's ports in memory; contracts of mine and find. Conditions: where the ports and the tables lie, tables that are allowed. · Contracts of the document's Grow and Clear. Conditions: where the ports and the tables lie, tables that are allowed. · Contracts of the document's New and Image. Conditions: where the tables and the ports lie, tables that are allowed. -/
import Derived.Test.YtdeodoppcflgfaaPorU
namespace Go.Proofs.Ytdeodoppcflgfaa
open Go.RowKit PorP
set_option maxRecDepth 100000

/-- The document's ports at block a, what they hold at block g; the tables as the argument's world w0 has them. -/
structure RIn (w0 W : World) (B : Nat) (x : CfgC) (node : Int) (a g : Nat) (es : List El) : Prop where
  hd : W.heap[a]? = some (.cells #[.int .i64 x.nodes, .int .i64 x.faulty, .int .i64 x.slot, .int .i64 x.gap, .int .i64 x.rho, .int .i64 x.dmin, .int .i64 x.dmax, .int .i64 x.margin, .slice x.PA x.pn x.pcap, .slice x.QA x.qn x.qcap, .slice x.RA x.rn x.rcap, .int .i64 node, .slice (some ⟨g, 0, none⟩) x.qn x.qn] 98 (0, 0))
  els : Els 0 101 false W B g es
  len : es.length = x.qn
  base : B ≤ a
  low : w0.heap.size ≤ B
  tab : Below w0.heap.size w0 W
  cfg : CfgIn w0 x
section
variable {w0 W W' : World} {B : Nat} {x : CfgC} {node : Int} {a g : Nat} {es es' : List El}
theorem RIn.lt (h : RIn w0 W B x node a g es) : a < W.heap.size := lt_of_block h.hd
theorem RIn.leB (h : RIn w0 W B x node a g es) : B ≤ W.heap.size := Nat.le_trans h.base (Nat.le_of_lt h.lt)
theorem RIn.below (h : RIn w0 W B x node a g es) (hb : Below W.heap.size W W') : RIn w0 W' B x node a g es :=
  ⟨(hb.block a h.lt).trans h.hd, h.els.below hb, h.len, h.base, h.low, h.tab.trans (hb.mono h.tab.size), h.cfg⟩
theorem RIn.drew (h : RIn w0 W B x node a g es) : RIn w0 W.drew B x node a g es := h.below (Below.refl _ _).drew
theorem RIn.cfgW (h : RIn w0 W B x node a g es) : CfgIn W x := h.cfg.below h.tab
/-- Behind a call of its own. -/
theorem RIn.goes (h : RIn w0 W B x node a g es) (he : Els 0 101 false W' B g es') (hl : es'.length = es.length) (hg : Goes g W W' es es') : RIn w0 W' B x node a g es' :=
  ⟨(hg.apart.block a h.lt (h.els.fOff h.hd (by decide) (by decide))).trans h.hd, he, hl.trans h.len, h.base, h.low, h.tab.trans ((hg.below h.els (Nat.le_refl _) h.leB).mono h.low), h.cfg⟩
theorem RIn.set (h : RIn w0 W B x node a g es) {i : Nat} {e e' : El} (_hi : es[i]? = some e) (he : Els 0 101 false W' B g (es.set i e') ∧ Goes g W W' es (es.set i e')) : RIn w0 W' B x node a g (es.set i e') :=
  h.goes he.1 (List.length_set ..) he.2
/-- Where other ports, or lists that are none of its own, are written. -/
theorem RIn.beside {F : Nat → Prop} (h : RIn w0 W B x node a g es) (ha : Apart F W W') (hB : ∀ k, F k → B ≤ k) (hF : ∀ k, EF g es k → ¬ F k) (hT : ∀ k, F k → ∃ cs t, W.heap[k]? = some (.cells cs t (0, 0)) ∧ t ≠ 5 ∧ t ≠ 98) : RIn w0 W' B x node a g es := by
  have hno : ∀ k cs t, W.heap[k]? = some (.cells cs t (0, 0)) → (t = 5 ∨ t = 98) → ¬ F k := fun k cs t hk ht hf => by
    obtain ⟨cs', t', e1, e2, e3⟩ := hT k hf
    rw [hk] at e1
    simp only [Option.some.injEq, Obj.cells.injEq] at e1
    obtain ⟨-, rfl, -⟩ := e1
    rcases ht with e | e
    · exact e2 e
    · exact e3 e
  refine ⟨(ha.block a h.lt (hno _ _ _ h.hd (.inr rfl))).trans h.hd, h.els.away ha hF (fun k hk => ?_), h.len, h.base, h.low, h.tab.trans ((Apart.below ha h.leB hB).mono h.low), h.cfg⟩
  obtain ⟨cs, hc⟩ := h.els.dTag hk
  exact hno k cs _ hc (.inl rfl)
theorem RIn.el (h : RIn w0 W B x node a g es) {i : Nat} {p : TableP.Port} (hi : x.plain.ports[i]? = some p) : ∃ e, es[i]? = some e := ⟨_, List.getElem?_eq_getElem (by rw [h.len, ← h.cfg.qlen]; exact (List.getElem?_eq_some_iff.1 hi).1)⟩
theorem RIn.port (h : RIn w0 W B x node a g es) {i : Nat} {e : El} (hi : es[i]? = some e) : ∃ p, x.plain.ports[i]? = some p := ⟨_, List.getElem?_eq_getElem (by show i < x.ports.length; rw [h.cfg.qlen, ← h.len]; exact (List.getElem?_eq_some_iff.1 hi).1)⟩
theorem RIn.stlen (h : RIn w0 W B x node a g es) : (elSt es).length = x.plain.ports.length := by
  unfold elSt
  rw [List.length_map, h.len, ← h.cfg.qlen]; rfl
theorem elSt_at {i : Nat} {e : El} (h : es[i]? = some e) : (elSt es)[i]? = some e.ps := by unfold elSt; rw [List.getElem?_map, h]; rfl
/-- The node of a port's partition, in memory. -/
theorem RIn.nodeAt (h : RIn w0 W B x node a g es) (hal : SndP.Allowed x.plain) {p : TableP.Port} (hp : p ∈ x.plain.ports) : ∃ (k b off : Nat), p.part = (k : Int) ∧ k < x.pn ∧ x.PA = some ⟨b, off, none⟩ ∧ W.cell? ⟨b, off + k * 9, none⟩ = some (.int .i64 (nodeOf x.plain p)) := by
  have h1 := (hal.port p hp).1
  rw [show x.plain.parts.length = x.pn from h.cfg.plen] at h1
  have h1 : 0 ≤ p.part ∧ p.part ≤ (x.pn : Int) - 1 := h1
  obtain ⟨k, hk⟩ := Int.eq_ofNat_of_zero_le h1.1
  have hkl : k < x.parts.length := by rw [h.cfg.plen]; omega
  obtain ⟨q, hq⟩ : ∃ q, x.parts[k]? = some q := ⟨_, List.getElem?_eq_getElem hkl⟩
  obtain ⟨b, off, e1, -, e2⟩ := parts_at h.cfgW.parts hq
  refine ⟨k, b, off, hk, by rw [← h.cfg.plen]; exact hkl, e1, ?_⟩
  have : nodeOf x.plain p = q.node := by
    unfold nodeOf
    rw [hk, Int.toNat_natCast, show x.plain.parts = x.parts from rfl, hq]; rfl
  rw [this]
  exact e2.c0
theorem RIn.portAt (h : RIn w0 W B x node a g es) {i : Nat} {p : TableP.Port} (hp : x.plain.ports[i]? = some p) : ∃ b off, x.QA = some ⟨b, off, none⟩ ∧ PortAt W b (off + i * 6) p := by
  obtain ⟨b, off, e1, -, e2⟩ := ports_at h.cfgW.ports hp
  exact ⟨b, off, e1, e2⟩
theorem RIn.qlt (h : RIn w0 W B x node a g es) {i : Nat} {p : TableP.Port} (hp : x.plain.ports[i]? = some p) : i < x.qn := by rw [← h.cfg.qlen]; exact (List.getElem?_eq_some_iff.1 hp).1
theorem RIn.q24 (h : RIn w0 W B x node a g es) (hal : SndP.Allowed x.plain) : x.qn ≤ 24 := by rw [← h.cfg.qlen]; exact hal.ports
end
def rpv (a : Nat) : Value := .pointer (some ⟨a, 0, none⟩)

set_option maxHeartbeats 2000000 in
theorem rmine_any (w0 w : World) (B : Nat) (x : CfgC) (node : Int) (a g : Nat) (es : List El) (h : RIn w0 w B x node a g es) (hal : SndP.Allowed x.plain) (i : Nat) (p : TableP.Port) (hp : x.plain.ports[i]? = some p) :
    Calls Try.prog 48 #[rpv a, .int .i64 (i : Nat)] w (Quiet (.bool (mineB x.plain node p)) w) := by
  obtain ⟨k, bP, oP, hk, hkn, hPA, kP⟩ := h.nodeAt hal (List.mem_of_getElem? hp)
  obtain ⟨bQ, oQ, hQA, hQ⟩ := h.portAt hp
  have kQ := hQ.c0
  rw [hk] at kQ
  have k8 := cell_at h.hd 8 rfl
  have k9 := cell_at h.hd 9 rfl
  have k11 := cell_at h.hd 11 rfl
  rw [hPA] at k8
  rw [hQA] at k9
  have hi := h.qlt hp
  have hq24 := h.q24 hal
  have hN : mineB x.plain node p = decide (nodeOf x.plain p = node) := rfl
  rw [hN]
  generalize nodeOf x.plain p = N at *
  generalize x.pn = pn at *
  generalize x.qn = qn at *
  generalize x.pcap = pcap at *
  generalize x.qcap = qcap at *
  have hpn : (k : Int) < (pn : Int) := by omega
  have hqn : (i : Int) < (qn : Int) := by omega
  unfold rpv
  clear h hal hp hk hPA hQA hQ hN
  by_cases hNn : N = node
  · have t1 : (N == node) = true := by simp [hNn]
    rw [show decide (N = node) = true from decide_eq_true hNn]
    clear hNn
    go_enter Try.func48, Try.ntmps48
    go_wp2_with fail
    go_quiet (fail)
    go_wp2_with fail
    go_ret
    exact ⟨rfl, _, rfl⟩
  · have t1 : (N == node) = false := by simp [hNn]
    rw [show decide (N = node) = false from decide_eq_false hNn]
    clear hNn
    go_enter Try.func48, Try.ntmps48
    go_wp2_with fail
    go_quiet (fail)
    go_wp2_with fail
    go_ret
    exact ⟨rfl, _, rfl⟩

set_option maxHeartbeats 4000000 in
theorem rfind_any (w0 w : World) (B : Nat) (x : CfgC) (node : Int) (a g : Nat) (es : List El) (h : RIn w0 w B x node a g es) (hal : SndP.Allowed x.plain) (part port : Int) (hport : port ≤ 9223372036854775807) (out : Bool) :
    Calls Try.prog 46 #[rpv a, .int .i64 part, .int .i64 port, .bool out] w (fun e w' => e = .returned (strV (errO (findT x.plain node part port out) port)) ∧ Below w.heap.size w w') := by
  have HAt := Lib.hid (fun W k (hk : k ≤ 1000000) => at_any k port W hk hport)
  have k8 := cell_at h.hd 8 rfl
  have k9 := cell_at h.hd 9 rfl
  have k11 := cell_at h.hd 11 rfl
  have k12 := cell_at h.hd 12 rfl
  have hq24 := h.q24 hal
  unfold rpv
  by_cases h0 : port < 0
  · have e1 : findT x.plain node part port out = some 17 := by unfold findT; rw [if_pos h0]
    have q1 : decide (port < 0) = true := decide_eq_true h0
    rw [e1]
    clear h h0 e1 hal
    generalize x.pn = pn at *
    generalize x.qn = qn at *
    have HE := Lib.hid (fun W => HAt.out W 17 (by omega))
    clear HAt
    unfold errO strV at *
    go_enter Try.func46, Try.ntmps46
    go_wp2_with fail
    go_quiet (fail)
    go_wp2_with fail
    refine (HE.out _).mono ?_
    rintro e w1 ⟨rfl, hb⟩
    have HF := Lib.hid ((below_drewN (Below.refl _ w) _).trans (hb.mono (Nat.le_refl _)))
    clear hb HE
    go_wp2_with fail
    go_ret
    exact ⟨rfl, HF.out⟩
  have q1 : decide (port < 0) = false := decide_eq_false h0
  obtain ⟨i, rfl⟩ := Int.eq_ofNat_of_zero_le (show 0 ≤ port by omega)
  by_cases h2 : x.qn ≤ i
  · have e1 : findT x.plain node part i out = some 17 := by
      unfold findT
      rw [if_neg h0, Int.toNat_natCast, List.getElem?_eq_none (by show x.ports.length ≤ i; rw [h.cfg.qlen]; exact h2)]
    have q2 : decide ((x.qn : Int) ≤ (i : Int)) = true := decide_eq_true (by omega)
    have q3 : decide (x.qn ≤ i) = true := decide_eq_true h2
    rw [e1]
    clear h h0 e1 hal h2
    generalize x.pn = pn at *
    generalize x.qn = qn at *
    have HE := Lib.hid (fun W => HAt.out W 17 (by omega))
    clear HAt
    unfold errO strV at *
    go_enter Try.func46, Try.ntmps46
    go_wp2_with fail
    go_quiet (fail)
    go_wp2_with fail
    refine (HE.out _).mono ?_
    rintro e w1 ⟨rfl, hb⟩
    have HF := Lib.hid ((below_drewN (Below.refl _ w) _).trans (hb.mono (Nat.le_refl _)))
    clear hb HE
    go_wp2_with fail
    go_ret
    exact ⟨rfl, HF.out⟩
  have q2 : decide ((x.qn : Int) ≤ (i : Int)) = false := decide_eq_false (by omega)
  have q3 : decide (x.qn ≤ i) = false := decide_eq_false h2
  obtain ⟨p, hp⟩ : ∃ p, x.plain.ports[i]? = some p := ⟨_, List.getElem?_eq_getElem (by show i < x.ports.length; rw [h.cfg.qlen]; omega)⟩
  have e1 : findT x.plain node part i out = if p.part = part ∧ mineB x.plain node p = true then (if p.out = out then none else some 13) else some 17 := by
    unfold findT
    rw [if_neg h0, Int.toNat_natCast, hp]
  obtain ⟨k, bP, oP, hk, hkn, hPA, kP⟩ := h.nodeAt hal (List.mem_of_getElem? hp)
  obtain ⟨bQ, oQ, hQA, hQ⟩ := h.portAt hp
  have kQ := hQ.c0
  have kO := hQ.c2
  rw [hPA] at k8
  rw [hQA] at k9
  rw [hk] at kQ
  rw [e1, hk, show mineB x.plain node p = decide (nodeOf x.plain p = node) from rfl]
  have hlt : i < x.qn := by omega
  generalize nodeOf x.plain p = N at *
  generalize p.out = po at *
  generalize x.pn = pn at *
  generalize x.qn = qn at *
  generalize x.pcap = pcap at *
  generalize x.qcap = qcap at *
  have hpn : (k : Int) < (pn : Int) := by omega
  have hqn : (i : Int) < (qn : Int) := by omega
  clear h hal hp hk hPA hQA hQ h0 h2 e1
  by_cases h3 : (k : Int) = part
  case neg =>
    have t1 : ((k : Int) == part) = false := by simp [h3]
    have t1' : ((k : Int) != part) = true := by simp [h3]
    rw [if_neg (fun e => h3 e.1)]
    clear h3
    have HE := Lib.hid (fun W => HAt.out W 17 (by omega))
    clear HAt
    unfold errO strV at *
    go_enter Try.func46, Try.ntmps46
    go_wp2_with fail
    go_quiet (fail)
    go_wp2_with fail
    refine (HE.out _).mono ?_
    rintro e w1 ⟨rfl, hb⟩
    have HF := Lib.hid ((below_drewN (Below.refl _ w) _).trans (hb.mono (Nat.le_refl _)))
    clear hb HE
    go_wp2_with fail
    go_ret
    exact ⟨rfl, HF.out⟩
  subst h3
  have t1 : ((k : Int) == (k : Int)) = true := by simp
  have t1' : ((k : Int) != (k : Int)) = false := by simp
  by_cases h4 : N = node
  case neg =>
    have t2 : (N == node) = false := by simp [h4]
    have t2' : (N != node) = true := by simp [h4]
    rw [if_neg (fun e => h4 (of_decide_eq_true e.2))]
    clear h4
    have HE := Lib.hid (fun W => HAt.out W 17 (by omega))
    clear HAt
    unfold errO strV at *
    go_enter Try.func46, Try.ntmps46
    go_wp2_with fail
    go_quiet (fail)
    go_wp2_with fail
    refine (HE.out _).mono ?_
    rintro e w1 ⟨rfl, hb⟩
    have HF := Lib.hid ((below_drewN (Below.refl _ w) _).trans (hb.mono (Nat.le_refl _)))
    clear hb HE
    go_wp2_with fail
    go_ret
    exact ⟨rfl, HF.out⟩
  have t2 : (N == node) = true := by simp [h4]
  have t2' : (N != node) = false := by simp [h4]
  rw [if_pos ⟨rfl, decide_eq_true h4⟩]
  clear h4
  by_cases h5 : po = out
  case neg =>
    have t3 : (po == out) = false := by simp [h5]
    have t3' : (po != out) = true := by simp [h5]
    rw [if_neg h5]
    clear h5
    have HE := Lib.hid (fun W => HAt.out W 13 (by omega))
    clear HAt
    unfold errO strV at *
    go_enter Try.func46, Try.ntmps46
    go_wp2_with fail
    go_quiet (fail)
    go_wp2_with fail
    refine (HE.out _).mono ?_
    rintro e w1 ⟨rfl, hb⟩
    have HF := Lib.hid ((below_drewN (Below.refl _ w) _).trans (hb.mono (Nat.le_refl _)))
    clear hb HE
    go_wp2_with fail
    go_ret
    exact ⟨rfl, HF.out⟩
  subst h5
  have t3 : (po == po) = true := by simp
  have t3' : (po != po) = false := by simp
  rw [if_pos rfl]
  clear HAt
  unfold errO strV at *
  go_enter Try.func46, Try.ntmps46
  go_wp2_with fail
  go_quiet (fail)
  go_wp2_with fail
  go_ret
  exact ⟨rfl, below_drewN (Below.refl _ w) _⟩
end Go.Proofs.Ytdeodoppcflgfaa
namespace Go.Proofs.Ytdeodoppcflgfaa
open Go.RowKit PorP
set_option maxRecDepth 100000

/-- What a call leaves. -/
def LeftR (w0 w : World) (B : Nat) (x : CfgC) (node : Int) (a g : Nat) (es : List El) (st : St) (w' : World) : Prop := ∃ es', RIn w0 w' B x node a g es' ∧ Goes g w w' es es' ∧ elSt es' = st
section
variable {w0 w w1 w2 : World} {B : Nat} {x : CfgC} {node : Int} {a g : Nat} {es : List El} {st : St}
theorem LeftR.same (h : RIn w0 w B x node a g es) (hb : Below w.heap.size w w1) : LeftR w0 w B x node a g es (elSt es) w1 := ⟨es, h.below hb, Goes.of_below hb _ _, rfl⟩
theorem LeftR.below (h : LeftR w0 w B x node a g es st w1) (hb : Below w1.heap.size w1 w2) : LeftR w0 w B x node a g es st w2 := by
  obtain ⟨es', h1, h2, h3⟩ := h
  exact ⟨es', h1.below hb, h2.trans (Goes.of_below hb _ _), h3⟩
theorem LeftR.after (h : LeftR w0 w1 B x node a g es st w2) (hb : Below w.heap.size w w1) : LeftR w0 w B x node a g es st w2 := by
  obtain ⟨es', h1, h2, h3⟩ := h
  exact ⟨es', h1, (Goes.of_below hb _ _).trans h2, h3⟩
end
def AllRR (f : TableP.Port → PS → PS) (w0 w : World) (B : Nat) (x : CfgC) (node : Int) (a g : Nat) (es : List El) (i : Value) (wr : World) : Prop :=
  ∃ k es', k ≤ x.qn ∧ i = .int .i64 (k : Nat) ∧ RIn w0 wr B x node a g es' ∧ Goes g w wr es es' ∧ elSt es' = mapK x.plain f (elSt es) k
def AllPR (f : TableP.Port → PS → PS) (w0 w : World) (B : Nat) (x : CfgC) (node : Int) (a g : Nat) (es : List El) (e : Ending) (w' : World) : Prop := e = .returned (.tuple #[]) ∧ LeftR w0 w B x node a g es (List.zipWith f x.plain.ports (elSt es)) w'

set_option maxHeartbeats 4000000 in
theorem rgrow_any (w0 w : World) (B : Nat) (x : CfgC) (node : Int) (a g : Nat) (es : List El) (h : RIn w0 w B x node a g es) (hal : SndP.Allowed x.plain) :
    Calls Try.prog 29 #[rpv a] w (AllPR ageF w0 w B x node a g es) := by
  have hq24 := h.q24 hal
  have Hlen := Lib.hid h.stlen
  have Hql : Hid (x.plain.ports.length = x.qn) := Lib.hid h.cfg.qlen
  have HS : Hid (AllRR ageF w0 w B x node a g es (.int .i64 0) w) := Lib.hid ⟨0, es, Nat.zero_le _, rfl, h, Goes.refl _ _ _, rfl⟩
  unfold rpv
  clear h hal
  go_enter Try.func29, Try.ntmps29
  go_wp2_with fail
  go_loopw [2] (AllRR ageF w0 w B x node a g es) (fun j _ => (x.qn + 1 - intOf j).toNat)
  case atStart => exact HS.out
  case round =>
    clear HS
    obtain ⟨k, es', hk, rfl, hr, hg, hst⟩ := hrel
    have k12 := cell_at hr.hd 12 rfl
    by_cases hlt : k < x.qn
    case neg =>
      obtain rfl : k = x.qn := by omega
      have q1 : decide ((x.qn : Int) < (x.qn : Int)) = false := decide_eq_false (by omega)
      have HF : Hid (AllPR ageF w0 w B x node a g es (.returned (.tuple #[])) wr) := Lib.hid ⟨rfl, es', hr, hg, by rw [hst, ← Hql.out, mapK_all Hlen.out]⟩
      clear hr hg hst
      go_wp2_with fail
      refine bodyPost_end (results_none rfl _ _ _) rfl ?_
      exact HF.out
    have q1 : decide ((k : Int) < (x.qn : Int)) = true := decide_eq_true (by omega)
    have q1' : decide (k < x.qn) = true := decide_eq_true hlt
    have hkz : (k : Int) < (x.qn : Int) := by omega
    obtain ⟨e, he⟩ : ∃ e, es'[k]? = some e := ⟨_, List.getElem?_eq_getElem (by rw [hr.len]; exact hlt)⟩
    obtain ⟨p, hq⟩ := hr.port he
    have hsk : (elSt es)[k]? = some e.ps := mapK_at Hlen.out (by rw [← hst]; exact elSt_at he)
    have hmap := mapK_step (f := ageF) (st := elSt es) hq hsk
    have kA : wr.cell? ⟨g, k * 2 + 1, none⟩ = some (.int .i64 (e.age : Nat)) := hr.els.cellA he
    have fA : wr.frozen? ⟨g, k * 2 + 1, none⟩ = false := hr.els.free _
    have e1 : IntKind.i64.wrap ((k : Int) + 1) = (k : Int) + 1 := IntWalk.i64_in _ (by omega)
    have h9 := (hr.els.ok e (List.mem_of_getElem? he)).2.2
    have hag : a ≠ g := fun e1 => by
      have h1 := hr.hd
      rw [e1, hr.els.row] at h1
      simp only [Option.some.injEq, Obj.cells.injEq] at h1
      exact absurd h1.2.1 (by decide)
    by_cases h9' : e.age < 9
    case pos =>
      have q2 : decide ((e.age : Int) < 9) = true := decide_eq_true (by omega)
      have q3 : decide (e.age < 9) = true := decide_eq_true h9'
      have e2 : IntKind.i64.wrap ((e.age : Int) + 1) = (e.age : Int) + 1 := IntWalk.i64_in _ (by omega)
      have hs1 := hr.els.setAge (by decide) (by decide) he (e.age + 1) (by omega)
      have h1 := hr.set he hs1
      have HR : Hid (AllRR ageF w0 w B x node a g es (.int .i64 ((k : Int) + 1)) (wr.setCell ⟨g, k * 2 + 1, none⟩ (.int .i64 ((e.age : Int) + 1))).drew) := Lib.hid (by
        refine ⟨k + 1, _, hlt, by go_num, h1.drew, (hg.trans hs1.2).trans (Goes.of_below (Below.refl _ _).drew _ _), ?_⟩
        rw [elSt_set, hmap, hst, show ageF p e.ps = ⟨e.ps.msgs, e.age + 1⟩ by unfold ageF; rw [if_pos (show e.ps.age < 9 from h9')]; rfl]; rfl)
      have hag2 : g ≠ a := Ne.symm hag
      generalize e.age = ag at *
      generalize x.qn = qn at *
      clear hr hg hst he hq hsk hmap hs1 h1
      go_wp2_with fail
      go_region
      go_wp2_with fail
      go_roundw
      case rel => exact HR.out
      case measure => simp [intOf]; omega
    case neg =>
      have q2 : decide ((e.age : Int) < 9) = false := decide_eq_false (by omega)
      have q3 : decide (e.age < 9) = false := decide_eq_false h9'
      have HR : Hid (AllRR ageF w0 w B x node a g es (.int .i64 ((k : Int) + 1)) wr) := Lib.hid ⟨k + 1, es', hlt, by go_num, hr, hg, by
        rw [hmap, hst, show ageF p e.ps = e.ps by unfold ageF; rw [if_neg (show ¬ e.ps.age < 9 from h9')]]
        exact (set_same (by rw [← hst]; exact elSt_at he)).symm⟩
      generalize e.age = ag at *
      generalize x.qn = qn at *
      clear hr hg hst he hq hsk hmap
      go_wp2_with fail
      go_roundw
      case rel => exact HR.out
      case measure => simp [intOf]; omega

set_option maxHeartbeats 4000000 in
theorem rclear_any (w0 w : World) (B : Nat) (x : CfgC) (node : Int) (a g : Nat) (es : List El) (h : RIn w0 w B x node a g es) (hal : SndP.Allowed x.plain) (part : Int) :
    Calls Try.prog 31 #[rpv a, .int .i64 part] w (AllPR (clrF part) w0 w B x node a g es) := by
  have hq24 := h.q24 hal
  have Hlen := Lib.hid h.stlen
  have Hql : Hid (x.plain.ports.length = x.qn) := Lib.hid h.cfg.qlen
  have HS : Hid (AllRR (clrF part) w0 w B x node a g es (.int .i64 0) w) := Lib.hid ⟨0, es, Nat.zero_le _, rfl, h, Goes.refl _ _ _, rfl⟩
  unfold rpv
  clear h hal
  go_enter Try.func31, Try.ntmps31
  go_wp2_with fail
  go_loopw [4] (AllRR (clrF part) w0 w B x node a g es) (fun j _ => (x.qn + 1 - intOf j).toNat)
  case atStart => exact HS.out
  case round =>
    clear HS
    obtain ⟨k, es', hk, rfl, hr, hg, hst⟩ := hrel
    have k12 := cell_at hr.hd 12 rfl
    by_cases hlt : k < x.qn
    case neg =>
      obtain rfl : k = x.qn := by omega
      have q1 : decide ((x.qn : Int) < (x.qn : Int)) = false := decide_eq_false (by omega)
      have HF : Hid (AllPR (clrF part) w0 w B x node a g es (.returned (.tuple #[])) wr) := Lib.hid ⟨rfl, es', hr, hg, by rw [hst, ← Hql.out, mapK_all Hlen.out]⟩
      clear hr hg hst
      go_wp2_with fail
      refine bodyPost_end (results_none rfl _ _ _) rfl ?_
      exact HF.out
    have q1 : decide ((k : Int) < (x.qn : Int)) = true := decide_eq_true (by omega)
    have q1' : decide (k < x.qn) = true := decide_eq_true hlt
    have hkz : (k : Int) < (x.qn : Int) := by omega
    obtain ⟨e, he⟩ : ∃ e, es'[k]? = some e := ⟨_, List.getElem?_eq_getElem (by rw [hr.len]; exact hlt)⟩
    obtain ⟨p, hq⟩ := hr.port he
    have hsk : (elSt es)[k]? = some e.ps := mapK_at Hlen.out (by rw [← hst]; exact elSt_at he)
    have hmap := mapK_step (f := clrF part) (st := elSt es) hq hsk
    have kA : wr.cell? ⟨g, k * 2 + 1, none⟩ = some (.int .i64 (e.age : Nat)) := hr.els.cellA he
    have kV : wr.cell? ⟨g, k * 2, none⟩ = some e.v := hr.els.cellV he
    have fA : wr.frozen? ⟨g, k * 2 + 1, none⟩ = false := hr.els.free _
    have fV : wr.frozen? ⟨g, k * 2, none⟩ = false := hr.els.free _
    have e1 : IntKind.i64.wrap ((k : Int) + 1) = (k : Int) + 1 := IntWalk.i64_in _ (by omega)
    obtain ⟨bQ, oQ, hQA, hQ⟩ := hr.portAt hq
    have kQ := hQ.c0
    have k9 := cell_at hr.hd 9 rfl
    rw [hQA] at k9
    obtain ⟨Ae, ce, hve, -⟩ := (hr.els.each e (List.mem_of_getElem? he)).seg.slice
    by_cases hP : p.part = part
    case neg =>
      have t1 : (p.part == part) = false := by simp [hP]
      have HR : Hid (AllRR (clrF part) w0 w B x node a g es (.int .i64 ((k : Int) + 1)) wr) := Lib.hid ⟨k + 1, es', hlt, by go_num, hr, hg, by
        rw [hmap, hst, show clrF part p e.ps = e.ps by unfold clrF; rw [if_neg hP]]
        exact (set_same (by rw [← hst]; exact elSt_at he)).symm⟩
      generalize p.part = PP at *
      generalize e.v = ev at *
      generalize x.qn = qn at *
      clear hr hg hst he hq hsk hmap hP hQ hQA kA kV
      go_wp2_with fail
      go_roundw
      case rel => exact HR.out
      case measure => simp [intOf]; omega
    have t1 : (p.part == part) = true := by simp [hP]
    have hs1 := hr.els.setNil (by decide) (by decide) he
    have h1 := hr.set he hs1
    have he1 : (es'.set k ⟨e.pre, .slice none 0 0, [], e.age⟩)[k]? = some ⟨e.pre, .slice none 0 0, [], e.age⟩ := List.getElem?_set_self (List.getElem?_eq_some_iff.1 he).1
    have hs2 := h1.els.setAge (by decide) (by decide) he1 0 (by omega)
    have h2 := h1.set he1 hs2
    have HR : Hid (AllRR (clrF part) w0 w B x node a g es (.int .i64 ((k : Int) + 1)) ((wr.setCell ⟨g, k * 2, none⟩ (.slice none 0 0)).setCell ⟨g, k * 2 + 1, none⟩ (.int .i64 0))) := Lib.hid ⟨k + 1, _, hlt, by go_num, h2, (hg.trans hs1.2).trans hs2.2, by
      rw [elSt_set, elSt_set, List.set_set, hmap, hst, show clrF part p e.ps = PS.empty by unfold clrF; rw [if_pos hP]]; rfl⟩
    generalize p.part = PP at *
    generalize e.v = ev at *
    generalize x.qn = qn at *
    clear hr hg hst he hq hsk hmap hP hQ hQA hs1 h1 he1 hs2 h2
    go_wp2_with fail
    go_roundw
    case rel => exact HR.out
    case measure => simp [intOf]; omega
end Go.Proofs.Ytdeodoppcflgfaa
namespace Go.Proofs.Ytdeodoppcflgfaa
open Go.RowKit PorP
set_option maxRecDepth 100000

theorem infoPort13 : (Try.prog.info? 101).map (fun i => (i.zero, i.size, i.bytes)) = some (some (.agg #[.slice none 0 0, .int .i64 0]), 2, 32) := by kernel_rfl
def el0 : El := ⟨[], .slice none 0 0, [], 0⟩
theorem make_ports (n : Nat) (hn : n ≤ 1000) (W : World) : (Instr.makeSlice 96 (.int .i64 (n : Nat)) (.int .i64 (n : Nat))).run Try.prog W = .ok (.slice (some ⟨W.heap.size, 0, none⟩) n n) (W.alloc (.cells (itemsV elVals (List.replicate n el0)).toArray 101)) := by
  obtain ⟨i, hi, hz, hs, hb⟩ := info_parts infoPort13
  have h1 := run_make (P := Try.prog) W 96 101 i _ Try.underlying96 hi hz .i64 .i64 n n (by omega) (by omega) (by rw [hb]; omega) (by omega)
  rw [Int.toNat_natCast, hs] at h1
  have h2 := made_items (vals := elVals) el0 (Value.cells (.agg #[.slice none 0 0, .int .i64 0])) (by rfl) (by decide) n
  have h3 : (Value.cells (.agg #[.slice none 0 0, .int .i64 0])).size = 2 := by rfl
  rw [h3] at h2
  rw [h1, ← h2]
def NewRP (w0 w : World) (x : CfgC) (node : Int) (e : Ending) (w' : World) : Prop :=
  ∃ a g es, e = .returned (rpv a) ∧ RIn w0 w' w.heap.size x node a g es ∧ elSt es = PorP.start x.plain ∧ (∀ k, EF g es k → w.heap.size ≤ k) ∧ Below w.heap.size w w'
theorem rnew_end (w0 w : World) (x : CfgC) (node : Int) (h : CfgIn w0 x) (h0 : Below w0.heap.size w0 w) (W : World) (hb : Below w.heap.size w W) :
    NewRP w0 w x node (.returned (.pointer (some ⟨W.heap.size + 1, 0, none⟩))) ((W.alloc (.cells (itemsV elVals (List.replicate x.qn el0)).toArray 101)).alloc (.cells #[.int .i64 x.nodes, .int .i64 x.faulty, .int .i64 x.slot, .int .i64 x.gap, .int .i64 x.rho, .int .i64 x.dmin, .int .i64 x.dmax, .int .i64 x.margin, .slice x.PA x.pn x.pcap, .slice x.QA x.qn x.qcap, .slice x.RA x.rn x.rcap, .int .i64 node, .slice (some ⟨W.heap.size, 0, none⟩) x.qn x.qn] 98)) := by
  have hr := heap_alloc_new W (.cells (itemsV elVals (List.replicate x.qn el0)).toArray 101)
  have hb1 := hb.alloc hb.size (.cells (itemsV elVals (List.replicate x.qn el0)).toArray 101)
  have hs1 : (W.alloc (.cells (itemsV elVals (List.replicate x.qn el0)).toArray 101)).heap.size = W.heap.size + 1 := by simp
  generalize W.alloc (.cells (itemsV elVals (List.replicate x.qn el0)).toArray 101) = W1 at *
  have hn := heap_alloc_new W1 (.cells #[.int .i64 x.nodes, .int .i64 x.faulty, .int .i64 x.slot, .int .i64 x.gap, .int .i64 x.rho, .int .i64 x.dmin, .int .i64 x.dmax, .int .i64 x.margin, .slice x.PA x.pn x.pcap, .slice x.QA x.qn x.qcap, .slice x.RA x.rn x.rcap, .int .i64 node, .slice (some ⟨W.heap.size, 0, none⟩) x.qn x.qn] 98)
  have hb2 := hb1.alloc hb1.size (.cells #[.int .i64 x.nodes, .int .i64 x.faulty, .int .i64 x.slot, .int .i64 x.gap, .int .i64 x.rho, .int .i64 x.dmin, .int .i64 x.dmax, .int .i64 x.margin, .slice x.PA x.pn x.pcap, .slice x.QA x.qn x.qcap, .slice x.RA x.rn x.rcap, .int .i64 node, .slice (some ⟨W.heap.size, 0, none⟩) x.qn x.qn] 98)
  have hb3 : Below W1.heap.size W1 (W1.alloc (.cells #[.int .i64 x.nodes, .int .i64 x.faulty, .int .i64 x.slot, .int .i64 x.gap, .int .i64 x.rho, .int .i64 x.dmin, .int .i64 x.dmax, .int .i64 x.margin, .slice x.PA x.pn x.pcap, .slice x.QA x.qn x.qcap, .slice x.RA x.rn x.rcap, .int .i64 node, .slice (some ⟨W.heap.size, 0, none⟩) x.qn x.qn] 98)) := (Below.refl _ _).alloc (Nat.le_refl _) _
  have hall : ∀ e ∈ List.replicate x.qn el0, e = el0 := fun e he => List.eq_of_mem_replicate he
  have hnone : ∀ (q : Nat) (i : Nat) (e : El), (List.replicate x.qn el0)[i]? = some e → e.v.ownBlock ≠ some q := fun q i e hi => by
    rw [hall e (List.mem_of_getElem? hi)]
    simp [el0, Value.ownBlock]
  have hgW : W.heap.size < W1.heap.size := by omega
  refine ⟨W.heap.size + 1, W.heap.size, List.replicate x.qn el0, rfl, ⟨by rw [← hs1]; exact hn, ⟨(hb3.block _ hgW).trans hr, fun e he => (by obtain rfl := hall e he; rfl), fun e he => (by obtain rfl := hall e he; exact LIn.nil _ _), fun i j e e' _ hi _ q hq => absurd hq (hnone q i e hi), fun hz => absurd hz (by decide), hb.size, fun e he => (by obtain rfl := hall e he; exact ⟨by simp [el0], by simp [el0], by simp [el0]⟩)⟩, List.length_replicate, by have := hb.size; omega, h0.size, h0.trans (hb2.mono h0.size), h⟩, ?_, fun k hk => ?_, hb2⟩
  · unfold PorP.start elSt
    rw [List.map_replicate, show x.plain.ports.length = x.qn from h.qlen]; rfl
  · rcases hk with rfl | ⟨e, he, hk⟩
    · exact hb.size
    · rw [hall e he] at hk
      simp [el0, Value.ownBlock] at hk

set_option maxHeartbeats 4000000 in
theorem rnew_any (w0 w : World) (x : CfgC) (node : Int) (h : CfgIn w0 x) (h0 : Below w0.heap.size w0 w) (hq : x.qn ≤ 24) : Calls Try.prog 19 #[x.value, .int .i64 node] w (NewRP w0 w x node) := by
  have HST := Lib.hid (BoxS.start w x)
  have HF := Lib.hid (fun W (hW : BoxS w x W) => rnew_end w0 w x node h h0 W hW.below)
  have hmk := fun W => make_ports x.qn (by omega) W
  have d0 : ∀ W, BoxS w x W → W.cell? ⟨w.heap.size, 0, none⟩ = some (.int .i64 x.nodes) := fun W hW => hW.cells.c0
  have d1 : ∀ W, BoxS w x W → W.cell? ⟨w.heap.size, 1, none⟩ = some (.int .i64 x.faulty) := fun W hW => hW.cells.c1
  have d2 : ∀ W, BoxS w x W → W.cell? ⟨w.heap.size, 2, none⟩ = some (.int .i64 x.slot) := fun W hW => hW.cells.c2
  have d3 : ∀ W, BoxS w x W → W.cell? ⟨w.heap.size, 3, none⟩ = some (.int .i64 x.gap) := fun W hW => hW.cells.c3
  have d4 : ∀ W, BoxS w x W → W.cell? ⟨w.heap.size, 4, none⟩ = some (.int .i64 x.rho) := fun W hW => hW.cells.c4
  have d5 : ∀ W, BoxS w x W → W.cell? ⟨w.heap.size, 5, none⟩ = some (.int .i64 x.dmin) := fun W hW => hW.cells.c5
  have d6 : ∀ W, BoxS w x W → W.cell? ⟨w.heap.size, 6, none⟩ = some (.int .i64 x.dmax) := fun W hW => hW.cells.c6
  have d7 : ∀ W, BoxS w x W → W.cell? ⟨w.heap.size, 7, none⟩ = some (.int .i64 x.margin) := fun W hW => hW.cells.c7
  have d8 : ∀ W, BoxS w x W → W.cell? ⟨w.heap.size, 8, none⟩ = some (.slice x.PA x.pn x.pcap) := fun W hW => hW.cells.c8
  have d9 : ∀ W, BoxS w x W → W.cell? ⟨w.heap.size, 9, none⟩ = some (.slice x.QA x.qn x.qcap) := fun W hW => hW.cells.c9
  have d10 : ∀ W, BoxS w x W → W.cell? ⟨w.heap.size, 10, none⟩ = some (.slice x.RA x.rn x.rcap) := fun W hW => hW.cells.c10
  simp only [CfgC.value]
  simp only [boxC, cfgCells] at HST
  have hStep : ∀ W o, BoxS w x W → BoxS w x (W.alloc o) := fun W o hW => hW.step ((Below.refl _ _).alloc (Nat.le_refl _) o)
  have HD := Lib.hid (fun W (hW : BoxS w x W) => hW.drew)
  have HStep := Lib.hid hStep
  clear h h0 hStep
  go_enter Try.func19, Try.ntmps19
  go_wp2_with fail
  generalize w.alloc _ = w1 at HST ⊢
  have hs0 := HD.out _ HST.out
  clear HST HD
  refine wp_region_held_drew (S := fun W => BoxS w x W) (by kernel_rfl) hs0 (fun _ => ?_)
  generalize w1.drew = w2 at *
  have hs1 := fun o => HStep.out _ o hs0
  have hs2 := fun o p => HStep.out _ p (hs1 o)
  have HF2 := Lib.hid (HF.out w2 hs0)
  clear HF HStep
  refine tkH 0 (by simp only [tkA]; rfl) (by kernel_rfl) (by exact fun _ _ _ h => h) (by rfl) (by intro W hW; go_simp <;> with_reducible rfl) hs0 ?_
  try simp only [Act.put, tkT, tk0, tkS]
  refine tkH 1 (by simp only [tkA, tkG]; rfl) (by kernel_rfl) (by exact fun _ _ _ h => h) (by rfl) (by intro W hW; go_simp <;> with_reducible rfl) hs0 ?_
  try simp only [Act.put, tkT, tk0, tkS]
  refine tkH 2 (by simp only [tkA, tkG]; rfl) (by kernel_rfl) (by exact fun _ _ _ h => h) (by rfl) (by intro W hW; go_simp <;> with_reducible rfl) hs0 ?_
  try simp only [Act.put, tkT, tk0, tkS]
  refine tkH 3 (by simp only [tkA, tkG]; rfl) (by kernel_rfl) (by exact fun _ _ _ h => h) (by rfl) (by intro W hW; go_simp <;> with_reducible rfl) hs0 ?_
  try simp only [Act.put, tkT, tk0, tkS]
  refine tkH 4 (by simp only [tkA, tkG]; rfl) (by kernel_rfl) (by exact fun _ _ _ h => h) (by rfl) (by intro W hW; go_simp <;> with_reducible rfl) hs0 ?_
  try simp only [Act.put, tkT, tk0, tkS]
  refine clH 5 (by kernel_rfl) (by simp only [tkA, tkG]; rfl) (fun K hK => ?_)
  go_simp
  go_wp2_with fail
  refine hK.out _ _ (hs1 _) (fun _ => ?_)
  clear hK K
  refine tkH 6 (by simp only [tkA, tkG]; rfl) (by kernel_rfl) (by exact fun _ _ _ h => h) (by rfl) (by intro W hW; go_simp <;> with_reducible rfl) (hs1 _) ?_
  try simp only [Act.put, tkT, tk0, tkS]
  refine clH 7 (by kernel_rfl) (by simp only [tkA, tkG]; rfl) (fun K hK => ?_)
  go_simp
  go_wp2_with fail
  refine hK.out _ _ (hs2 _ _) (fun _ => ?_)
  clear hK K
  refine tkH 8 (by simp only [tkA, tkG]; rfl) (by kernel_rfl) (by exact fun _ _ _ h => h) (by rfl) (by intro W hW; go_simp <;> with_reducible rfl) (hs2 _ _) ?_
  try simp only [Act.put, tkT, tk0, tkS]
  refine wpAnyH_done (by kernel_rfl) ?_ _
  go_wp2_with fail
  go_ret
  exact HF2.out
end Go.Proofs.Ytdeodoppcflgfaa
