/- SoundApart: the walk of the law at tables in memory. Conditions: where their lists lie. -/
import Derived.Test.YtpfhkcikjenjiaaSndI
import Derived.Test.YtpfhkcikjenjiaaTbY
import Derived.Test.YtpfhkcikjenjiaaSndF
import Derived.Maps.Own
import Derived.Maps.Views
namespace Go.Proofs.Ytpfhkcikjenjiaa
open Go.RowKit
set_option maxRecDepth 100000

/-- What a map's bool reads as. -/
def boolR : Value → Option (DataW Unit × List MemPlace)
  | .bool b => some (.lit (.bool b), [])
  | _ => none
theorem boolR_inv {v : Value} {b : Bool} {ps : List MemPlace} (h : boolR v = some (.lit (.bool b), ps)) : v = .bool b := by
  cases v <;> simp [boolR] at h
  rw [h.1]
theorem int_wf {n : Int} (h : -9223372036854775808 ≤ n ∧ n ≤ 9223372036854775807) : (Lit.int .i64 n).wf = true := by
  have := wrap64_wf n
  rwa [IntWalk.wrap64_in n ⟨by omega, by omega⟩] at this
/-- The keys that a map holds are none of these. -/
def Fresh6 (l : List TableP.Route) (k : Nat) (D : DataW Unit) : Prop := ∀ d : Int, (∀ r ∈ l.take k, r.dst ≠ d) → D.atKey (.int .i64 d) (.lit (.bool false)) = .lit (.bool false)
theorem Fresh6.start (l : List TableP.Route) : Fresh6 l 0 (.map []) := fun d _ => by kernel_rfl
theorem Fresh6.step {l : List TableP.Route} {k : Nat} {D : DataW Unit} {r : TableP.Route} (h : Fresh6 l k D) (hr : l[k]? = some r) : Fresh6 l (k + 1) (D.put (.int .i64 r.dst) (.lit (.bool true))) := fun d hd => by
  have hk := (List.getElem?_eq_some_iff.1 hr)
  rw [Maps.atKey_put_other]
  · exact h d fun q hq => hd q (by rw [List.take_add_one]; simp [hq])
  · intro e
    cases e
    exact hd r (by rw [List.take_add_one, hr]; simp) rfl
theorem meet_sym (a b : TableP.Part) : SndP.meetB a b = SndP.meetB b a := by simp only [SndP.meetB]; exact Bool.and_comm _ _
theorem apart_of {c : TableP.Cfg} (h : SndP.Works c) {i k : Nat} {p q : TableP.Part} (hp : c.parts[i]? = some p) (hq : c.parts[k]? = some q) (hik : i ≠ k) (hn : p.node = q.node) : SndP.meetB p q = false := by
  rcases Nat.lt_or_ge k i with hl | hl
  · have h1 := h.fit i p hp
    simp only [SndP.fitB, Bool.and_eq_true, Bool.not_eq_true', List.any_eq_false] at h1
    have h2 := h1.2 q (List.mem_take_iff_getElem.2 ⟨k, by have := (List.getElem?_eq_some_iff.1 hq).1; omega, (List.getElem?_eq_some_iff.1 hq).2⟩)
    simp only [SndP.clash, hn, decide_true, Bool.true_and, Bool.not_eq_true] at h2
    rw [meet_sym]; exact h2
  · have h1 := h.fit k q hq
    simp only [SndP.fitB, Bool.and_eq_true, Bool.not_eq_true', List.any_eq_false] at h1
    have h2 := h1.2 p (List.mem_take_iff_getElem.2 ⟨i, by have := (List.getElem?_eq_some_iff.1 hp).1; omega, (List.getElem?_eq_some_iff.1 hp).2⟩)
    simp only [SndP.clash, hn, decide_true, Bool.true_and, Bool.not_eq_true] at h2
    exact h2
theorem fits_of {c : TableP.Cfg} (h : SndP.Works c) {i : Nat} {p : TableP.Part} (hp : c.parts[i]? = some p) : p.start + p.length ≤ c.nodes * c.slot := by
  have h1 := h.fit i p hp
  simp only [SndP.fitB, Bool.and_eq_true, decide_eq_true_eq] at h1
  exact h1.1
/-- What a route of tables that work joins. -/
theorem joins_of {c : TableP.Cfg} (h : SndP.Works c) {k : Nat} {r : TableP.Route} (hr : c.routes[k]? = some r) :
    ∃ s d : Nat, r = ⟨(s : Int), (d : Int)⟩ ∧ s < c.ports.length ∧ d < c.ports.length ∧ ∃ pa pb, c.ports[s]? = some pa ∧ c.ports[d]? = some pb ∧ pa.out = true ∧ pb.out = false ∧ pa.kind = pb.kind ∧ ∀ q ∈ c.routes.take k, q.dst ≠ (d : Int) := by
  obtain ⟨h1, h2⟩ := h.allowed.route r (List.mem_of_getElem? hr)
  unfold TableP.up at h1 h2
  have h3 := h.join k r hr
  obtain ⟨src, dst⟩ := r
  simp only at h1 h2
  obtain ⟨s, rfl⟩ := Int.eq_ofNat_of_zero_le h1.1
  obtain ⟨d, rfl⟩ := Int.eq_ofNat_of_zero_le h2.1
  have hs : s < c.ports.length := by omega
  have hd : d < c.ports.length := by omega
  have ea := List.getElem?_eq_getElem hs
  have eb := List.getElem?_eq_getElem hd
  simp only [SndP.joinB, Int.toNat_natCast, ea, eb, Bool.and_eq_true, Bool.not_eq_true', decide_eq_true_eq, List.any_eq_false, SndP.leads] at h3
  exact ⟨s, d, rfl, hs, hd, _, _, ea, eb, h3.1.1.1.1, h3.1.1.1.2, h3.1.1.2, fun q hq => h3.2 q hq⟩

def ApRel (w : World) (x : CfgC) (n : Nat) (i : Value) (W : World) : Prop := ∃ k, k ≤ n ∧ i = .int .i64 (k : Nat) ∧ BoxS w x W
def ApIn (w : World) (x : CfgC) (N : Nat) (cs : Array Value) (t : TypeId) (n : Nat) (i : Value) (W : World) : Prop := ∃ k, k ≤ n ∧ i = .int .i64 (k : Nat) ∧ AndP w x N cs t W
def ApMap (w : World) (x : CfgC) (M : Nat) (l : List TableP.Route) (n : Nat) (i : Value) (W : World) : Prop := ∃ k D, k ≤ n ∧ i = .int .i64 (k : Nat) ∧ BoxS w x W ∧ W.ownsMap Try.prog 3 boolR M k D ∧ Fresh6 l k D

/-- A route laid beside the boxed tables, and the call's own map. -/
def ApS (w : World) (x : CfgC) (N : Nat) (cs : Array Value) (t : TypeId) (M k : Nat) (D : DataW Unit) (W : World) : Prop := AndP w x N cs t W ∧ W.ownsMap Try.prog 3 boolR M k D
theorem ApS.drew {w : World} {x : CfgC} {N : Nat} {cs : Array Value} {t : TypeId} {M k : Nat} {D : DataW Unit} {W : World} (h : ApS w x N cs t M k D W) : ApS w x N cs t M k D W.drew := ⟨⟨h.1.1.drew, h.1.2⟩, h.2.drew⟩

set_option maxHeartbeats 4000000 in
theorem apart_law (x : CfgC) (w : World) (h : CfgIn w x) : Calls Try.prog 5 #[x.value] w (TruePost w) := by
  have HA := Lib.hid (fun W => awake6_any W)
  have HLg := Lib.hid (fun W => long6_any x W)
  have HCf := Lib.hid (fun W (hW : BoxS w x W) => h.below hW.below)
  obtain ⟨L, hL⟩ : ∃ L, longB6 x = L := ⟨_, rfl⟩
  have HCp : Hid (L = false → ∀ W, BoxS w x W → Calls Try.prog 14 #[x.value] W (CopiedPost x.plain W)) := Lib.hid fun e W hW => by
    have := longB6_no (hL.trans e)
    exact copied_any x W (HCf.out W hW) (by omega) (by omega) (by omega)
  have HCk : Hid (∀ y W, CfgIn W y → y.plain = x.plain → Calls Try.prog 13 #[y.value] W (CheckPost (SndP.chk6 x.plain) W)) := Lib.hid fun y W hy e => by
    rw [← e]; exact scheck_any y W hy
  simp only [hL] at HLg
  have HST := Lib.hid (BoxS.start w x)
  have hmm := @run_makeMap Try.prog
  cases L with
  | true =>
    clear HCp HCk HCf hL h hmm
    obtain ⟨nodes, faulty, slot, gap, rho, dmin, dmax, margin, PA, pn, pcap, parts, QA, qn, qcap, ports, RA, rn, rcap, routes⟩ := x
    have d0 := fun W (hW : BoxS w ⟨nodes, faulty, slot, gap, rho, dmin, dmax, margin, PA, pn, pcap, parts, QA, qn, qcap, ports, RA, rn, rcap, routes⟩ W) => hW.cells.c0
    have d1 := fun W (hW : BoxS w ⟨nodes, faulty, slot, gap, rho, dmin, dmax, margin, PA, pn, pcap, parts, QA, qn, qcap, ports, RA, rn, rcap, routes⟩ W) => hW.cells.c1
    have d2 := fun W (hW : BoxS w ⟨nodes, faulty, slot, gap, rho, dmin, dmax, margin, PA, pn, pcap, parts, QA, qn, qcap, ports, RA, rn, rcap, routes⟩ W) => hW.cells.c2
    have d3 := fun W (hW : BoxS w ⟨nodes, faulty, slot, gap, rho, dmin, dmax, margin, PA, pn, pcap, parts, QA, qn, qcap, ports, RA, rn, rcap, routes⟩ W) => hW.cells.c3
    have d4 := fun W (hW : BoxS w ⟨nodes, faulty, slot, gap, rho, dmin, dmax, margin, PA, pn, pcap, parts, QA, qn, qcap, ports, RA, rn, rcap, routes⟩ W) => hW.cells.c4
    have d5 := fun W (hW : BoxS w ⟨nodes, faulty, slot, gap, rho, dmin, dmax, margin, PA, pn, pcap, parts, QA, qn, qcap, ports, RA, rn, rcap, routes⟩ W) => hW.cells.c5
    have d6 := fun W (hW : BoxS w ⟨nodes, faulty, slot, gap, rho, dmin, dmax, margin, PA, pn, pcap, parts, QA, qn, qcap, ports, RA, rn, rcap, routes⟩ W) => hW.cells.c6
    have d7 := fun W (hW : BoxS w ⟨nodes, faulty, slot, gap, rho, dmin, dmax, margin, PA, pn, pcap, parts, QA, qn, qcap, ports, RA, rn, rcap, routes⟩ W) => hW.cells.c7
    have d8 := fun W (hW : BoxS w ⟨nodes, faulty, slot, gap, rho, dmin, dmax, margin, PA, pn, pcap, parts, QA, qn, qcap, ports, RA, rn, rcap, routes⟩ W) => hW.cells.c8
    have d9 := fun W (hW : BoxS w ⟨nodes, faulty, slot, gap, rho, dmin, dmax, margin, PA, pn, pcap, parts, QA, qn, qcap, ports, RA, rn, rcap, routes⟩ W) => hW.cells.c9
    have d10 := fun W (hW : BoxS w ⟨nodes, faulty, slot, gap, rho, dmin, dmax, margin, PA, pn, pcap, parts, QA, qn, qcap, ports, RA, rn, rcap, routes⟩ W) => hW.cells.c10
    simp only at d0 d1 d2 d3 d4 d5 d6 d7 d8 d9 d10
    simp only [CfgC.value] at HLg ⊢
    simp only [boxC, cfgCells] at HST
    go_enter Try.func5, Try.ntmps5
    go_wp2_with fail
    refine (HA.out _).mono ?_
    rintro e w1 ⟨rfl, hb1⟩
    have hd1 := HST.out.step hb1
    clear hb1 HA
    have k0 := d0 _ hd1
    have k1 := d1 _ hd1
    have k2 := d2 _ hd1
    have k3 := d3 _ hd1
    have k4 := d4 _ hd1
    have k5 := d5 _ hd1
    have k6 := d6 _ hd1
    have k7 := d7 _ hd1
    have k8 := d8 _ hd1
    have k9 := d9 _ hd1
    have k10 := d10 _ hd1
    have Hd1 := Lib.hid hd1
    clear hd1
    go_wp2_with fail
    refine (HLg.out _).mono ?_
    rintro e w2 ⟨rfl, hb2⟩
    have hd2 := Hd1.out.step hb2
    clear hb2 Hd1 HLg k0 k1 k2 k3 k4 k5 k6 k7 k8 k9 k10
    have HF := Lib.hid hd2.below
    clear hd2
    go_wp2_with fail
    go_ret
    exact ⟨rfl, HF.out⟩
  | false =>
  replace HCp : Hid (∀ W, BoxS w x W → Calls Try.prog 14 #[x.value] W (CopiedPost x.plain W)) := Lib.hid (HCp.out rfl)
  cases hR : SndP.chk6 x.plain with
  | some f =>
    rw [hR] at HCk
    clear hR hL h HCf hmm
    generalize hP : x.plain = P at HCp HCk
    clear hP
    obtain ⟨nodes, faulty, slot, gap, rho, dmin, dmax, margin, PA, pn, pcap, parts, QA, qn, qcap, ports, RA, rn, rcap, routes⟩ := x
    have d0 := fun W (hW : BoxS w ⟨nodes, faulty, slot, gap, rho, dmin, dmax, margin, PA, pn, pcap, parts, QA, qn, qcap, ports, RA, rn, rcap, routes⟩ W) => hW.cells.c0
    have d1 := fun W (hW : BoxS w ⟨nodes, faulty, slot, gap, rho, dmin, dmax, margin, PA, pn, pcap, parts, QA, qn, qcap, ports, RA, rn, rcap, routes⟩ W) => hW.cells.c1
    have d2 := fun W (hW : BoxS w ⟨nodes, faulty, slot, gap, rho, dmin, dmax, margin, PA, pn, pcap, parts, QA, qn, qcap, ports, RA, rn, rcap, routes⟩ W) => hW.cells.c2
    have d3 := fun W (hW : BoxS w ⟨nodes, faulty, slot, gap, rho, dmin, dmax, margin, PA, pn, pcap, parts, QA, qn, qcap, ports, RA, rn, rcap, routes⟩ W) => hW.cells.c3
    have d4 := fun W (hW : BoxS w ⟨nodes, faulty, slot, gap, rho, dmin, dmax, margin, PA, pn, pcap, parts, QA, qn, qcap, ports, RA, rn, rcap, routes⟩ W) => hW.cells.c4
    have d5 := fun W (hW : BoxS w ⟨nodes, faulty, slot, gap, rho, dmin, dmax, margin, PA, pn, pcap, parts, QA, qn, qcap, ports, RA, rn, rcap, routes⟩ W) => hW.cells.c5
    have d6 := fun W (hW : BoxS w ⟨nodes, faulty, slot, gap, rho, dmin, dmax, margin, PA, pn, pcap, parts, QA, qn, qcap, ports, RA, rn, rcap, routes⟩ W) => hW.cells.c6
    have d7 := fun W (hW : BoxS w ⟨nodes, faulty, slot, gap, rho, dmin, dmax, margin, PA, pn, pcap, parts, QA, qn, qcap, ports, RA, rn, rcap, routes⟩ W) => hW.cells.c7
    have d8 := fun W (hW : BoxS w ⟨nodes, faulty, slot, gap, rho, dmin, dmax, margin, PA, pn, pcap, parts, QA, qn, qcap, ports, RA, rn, rcap, routes⟩ W) => hW.cells.c8
    have d9 := fun W (hW : BoxS w ⟨nodes, faulty, slot, gap, rho, dmin, dmax, margin, PA, pn, pcap, parts, QA, qn, qcap, ports, RA, rn, rcap, routes⟩ W) => hW.cells.c9
    have d10 := fun W (hW : BoxS w ⟨nodes, faulty, slot, gap, rho, dmin, dmax, margin, PA, pn, pcap, parts, QA, qn, qcap, ports, RA, rn, rcap, routes⟩ W) => hW.cells.c10
    simp only at d0 d1 d2 d3 d4 d5 d6 d7 d8 d9 d10
    simp only [CfgC.value] at HLg HCp ⊢
    simp only [boxC, cfgCells] at HST
    go_enter Try.func5, Try.ntmps5
    go_wp2_with fail
    refine (HA.out _).mono ?_
    rintro e w1 ⟨rfl, hb1⟩
    have hd1 := HST.out.step hb1
    clear hb1 HA
    have k0 := d0 _ hd1
    have k1 := d1 _ hd1
    have k2 := d2 _ hd1
    have k3 := d3 _ hd1
    have k4 := d4 _ hd1
    have k5 := d5 _ hd1
    have k6 := d6 _ hd1
    have k7 := d7 _ hd1
    have k8 := d8 _ hd1
    have k9 := d9 _ hd1
    have k10 := d10 _ hd1
    have Hd1 := Lib.hid hd1
    clear hd1
    go_wp2_with fail
    refine (HLg.out _).mono ?_
    rintro e w2 ⟨rfl, hb2⟩
    have hd2 := Hd1.out.step hb2
    clear hb2 Hd1 HLg k0 k1 k2 k3 k4 k5 k6 k7 k8 k9 k10
    have k0 := d0 _ hd2
    have k1 := d1 _ hd2
    have k2 := d2 _ hd2
    have k3 := d3 _ hd2
    have k4 := d4 _ hd2
    have k5 := d5 _ hd2
    have k6 := d6 _ hd2
    have k7 := d7 _ hd2
    have k8 := d8 _ hd2
    have k9 := d9 _ hd2
    have k10 := d10 _ hd2
    have Hd2 := Lib.hid hd2
    clear hd2
    go_wp2_with fail
    refine (HCp.out _ Hd2.out).mono ?_
    rintro e w3 ⟨v3, rfl, ⟨x3, rfl, hx3, hp3⟩, hb3⟩
    have HX := Lib.hid (HCk.out x3 _ hx3 hp3)
    have Hd3 := Lib.hid (Hd2.out.step hb3)
    clear hx3 hp3 hb3 Hd2 k0 k1 k2 k3 k4 k5 k6 k7 k8 k9 k10
    go_wp2_with fail
    refine HX.out.mono ?_
    rintro e w4 ⟨v4, rfl, -, ⟨b4, rfl⟩, hb4⟩
    have hd4 := Hd3.out.step hb4
    clear hb4
    have HF := Lib.hid hd4.below
    clear hd4
    go_wp2_with fail
    go_ret
    exact ⟨rfl, HF.out⟩
  | none =>
    rw [hR] at HCk
    have HW := Lib.hid (SndP.works hR)
    have hnum := SndP.nums_in HW.out.allowed.head
    have HPc := Lib.hid (fun W => prec_any x W HW.out.allowed.head)
    have Hpl := Lib.hid h.plen
    have Hql := Lib.hid h.qlen
    have Hrl := Lib.hid h.rlen
    have hl := longB6_no hL
    have HPA := Lib.hid (fun W (hW : BoxS w x W) k p (hk : x.parts[k]? = some p) => parts_at (h.parts.below hW.below) hk)
    have HQA := Lib.hid (fun W (hW : BoxS w x W) k p (hk : x.ports[k]? = some p) => ports_at (h.ports.below hW.below) hk)
    have HRA := Lib.hid (fun W (hW : BoxS w x W) k p (hk : x.routes[k]? = some p) => routes_at (h.routes.below hW.below) hk)
    have HWin := Lib.hid (fun q (hq : q ∈ x.parts) => win_of (HW.out.allowed.part q hq))
    have HFit := Lib.hid (fun i p (hp : x.parts[i]? = some p) => fits_of HW.out hp)
    have HAp := Lib.hid (fun i k p q (hp : x.parts[i]? = some p) (hq : x.parts[k]? = some q) (hik : i ≠ k) (hn : p.node = q.node) => apart_of HW.out hp hq hik hn)
    have HJo := Lib.hid (fun k r (hr : x.routes[k]? = some r) => joins_of HW.out hr)
    have HEnd : Hid (3 * x.faulty + 1 ≤ x.nodes ∧ 2 * x.margin < x.slot ∧ SndP.precT x.plain ≤ x.margin) := Lib.hid (by
      have a1 := HW.out.nodes
      have a2 := HW.out.margin
      have a3 := HW.out.slot
      have a4 := SndP.prec_in hnum
      have a5 := SndP.drift_in hnum
      have a6 : 64 ≤ SndP.precT x.plain := by unfold SndP.precT; have := hnum.dmin; omega
      have a7 := hnum.dmin
      simp only [CfgC.plain] at a1 a2 a3 a4 a5 a6 a7 ⊢
      omega)
    obtain ⟨hn1, hn2, hn3, hn4, hn5, hn6, hn7, hn8, hsl, -⟩ := hnum
    generalize SndP.precT x.plain = pc at *
    clear hR hL h HCf HW
    generalize hP : x.plain = P at HCp HCk
    clear hP
    obtain ⟨nodes, faulty, slot, gap, rho, dmin, dmax, margin, PA, pn, pcap, parts, QA, qn, qcap, ports, RA, rn, rcap, routes⟩ := x
    have d0 := fun W (hW : BoxS w ⟨nodes, faulty, slot, gap, rho, dmin, dmax, margin, PA, pn, pcap, parts, QA, qn, qcap, ports, RA, rn, rcap, routes⟩ W) => hW.cells.c0
    have d1 := fun W (hW : BoxS w ⟨nodes, faulty, slot, gap, rho, dmin, dmax, margin, PA, pn, pcap, parts, QA, qn, qcap, ports, RA, rn, rcap, routes⟩ W) => hW.cells.c1
    have d2 := fun W (hW : BoxS w ⟨nodes, faulty, slot, gap, rho, dmin, dmax, margin, PA, pn, pcap, parts, QA, qn, qcap, ports, RA, rn, rcap, routes⟩ W) => hW.cells.c2
    have d3 := fun W (hW : BoxS w ⟨nodes, faulty, slot, gap, rho, dmin, dmax, margin, PA, pn, pcap, parts, QA, qn, qcap, ports, RA, rn, rcap, routes⟩ W) => hW.cells.c3
    have d4 := fun W (hW : BoxS w ⟨nodes, faulty, slot, gap, rho, dmin, dmax, margin, PA, pn, pcap, parts, QA, qn, qcap, ports, RA, rn, rcap, routes⟩ W) => hW.cells.c4
    have d5 := fun W (hW : BoxS w ⟨nodes, faulty, slot, gap, rho, dmin, dmax, margin, PA, pn, pcap, parts, QA, qn, qcap, ports, RA, rn, rcap, routes⟩ W) => hW.cells.c5
    have d6 := fun W (hW : BoxS w ⟨nodes, faulty, slot, gap, rho, dmin, dmax, margin, PA, pn, pcap, parts, QA, qn, qcap, ports, RA, rn, rcap, routes⟩ W) => hW.cells.c6
    have d7 := fun W (hW : BoxS w ⟨nodes, faulty, slot, gap, rho, dmin, dmax, margin, PA, pn, pcap, parts, QA, qn, qcap, ports, RA, rn, rcap, routes⟩ W) => hW.cells.c7
    have d8 := fun W (hW : BoxS w ⟨nodes, faulty, slot, gap, rho, dmin, dmax, margin, PA, pn, pcap, parts, QA, qn, qcap, ports, RA, rn, rcap, routes⟩ W) => hW.cells.c8
    have d9 := fun W (hW : BoxS w ⟨nodes, faulty, slot, gap, rho, dmin, dmax, margin, PA, pn, pcap, parts, QA, qn, qcap, ports, RA, rn, rcap, routes⟩ W) => hW.cells.c9
    have d10 := fun W (hW : BoxS w ⟨nodes, faulty, slot, gap, rho, dmin, dmax, margin, PA, pn, pcap, parts, QA, qn, qcap, ports, RA, rn, rcap, routes⟩ W) => hW.cells.c10
    simp only at d0 d1 d2 d3 d4 d5 d6 d7 d8 d9 d10 Hpl Hql Hrl HPA HQA HRA HEnd HWin hl
    simp only [CfgC.plain] at hn1 hn2 hn3 hn4 hn5 hn6 hn7 hn8 hsl HFit HAp HJo
    simp only [CfgC.value] at HLg HCp HPc ⊢
    simp only [boxC, cfgCells] at HST
    go_enter Try.func5, Try.ntmps5
    go_wp2_with fail
    refine (HA.out _).mono ?_
    rintro e w1 ⟨rfl, hb1⟩
    have hd1 := HST.out.step hb1
    clear hb1 HA
    have k0 := d0 _ hd1
    have k1 := d1 _ hd1
    have k2 := d2 _ hd1
    have k3 := d3 _ hd1
    have k4 := d4 _ hd1
    have k5 := d5 _ hd1
    have k6 := d6 _ hd1
    have k7 := d7 _ hd1
    have k8 := d8 _ hd1
    have k9 := d9 _ hd1
    have k10 := d10 _ hd1
    have Hd1 := Lib.hid hd1
    clear hd1
    go_wp2_with fail
    refine (HLg.out _).mono ?_
    rintro e w2 ⟨rfl, hb2⟩
    have hd2 := Hd1.out.step hb2
    clear hb2 Hd1 HLg k0 k1 k2 k3 k4 k5 k6 k7 k8 k9 k10
    have k0 := d0 _ hd2
    have k1 := d1 _ hd2
    have k2 := d2 _ hd2
    have k3 := d3 _ hd2
    have k4 := d4 _ hd2
    have k5 := d5 _ hd2
    have k6 := d6 _ hd2
    have k7 := d7 _ hd2
    have k8 := d8 _ hd2
    have k9 := d9 _ hd2
    have k10 := d10 _ hd2
    have Hd2 := Lib.hid hd2
    clear hd2
    go_wp2_with fail
    refine (HCp.out _ Hd2.out).mono ?_
    rintro e w3 ⟨v3, rfl, ⟨x3, rfl, hx3, hp3⟩, hb3⟩
    have HX := Lib.hid (HCk.out x3 _ hx3 hp3)
    have Hd3 := Lib.hid (Hd2.out.step hb3)
    clear hx3 hp3 hb3 Hd2 k0 k1 k2 k3 k4 k5 k6 k7 k8 k9 k10 HCp HCk
    go_wp2_with fail
    refine HX.out.mono ?_
    rintro e w4 ⟨v4, rfl, -, hv4, hb4⟩
    obtain rfl : v4 = .nilIface := hv4
    have hd4 := Hd3.out.step hb4
    clear hb4 HX Hd3
    have k0 := d0 _ hd4
    have k1 := d1 _ hd4
    have k2 := d2 _ hd4
    have k3 := d3 _ hd4
    have k4 := d4 _ hd4
    have k5 := d5 _ hd4
    have k6 := d6 _ hd4
    have k7 := d7 _ hd4
    have k8 := d8 _ hd4
    have k9 := d9 _ hd4
    have k10 := d10 _ hd4
    have Hd4 := Lib.hid hd4
    clear hd4
    have e10 : IntKind.i64.wrap (nodes * slot) = nodes * slot := IntWalk.i64_in _ (by omega)
    obtain ⟨hl1, hl2, hl3⟩ := hl
    go_wp2_with fail
    clear k0 k1 k2 k3 k4 k5 k6 k7 k8 k9 k10
    go_loopw [23] (ApRel w ⟨nodes, faulty, slot, gap, rho, dmin, dmax, margin, PA, pn, pcap, parts, QA, qn, qcap, ports, RA, rn, rcap, routes⟩ pn) (fun i _ => (pn + 1 - intOf i).toNat)
    case atStart => exact ⟨0, Nat.zero_le _, rfl, Hd4.out⟩
    case round =>
      clear Hd4
      obtain ⟨k, hk, rfl, hb⟩ := hrel
      have Hb := Lib.hid hb
      have k0 := d0 _ hb
      have k1 := d1 _ hb
      have k2 := d2 _ hb
      have k3 := d3 _ hb
      have k4 := d4 _ hb
      have k5 := d5 _ hb
      have k6 := d6 _ hb
      have k7 := d7 _ hb
      have k8 := d8 _ hb
      have k9 := d9 _ hb
      have k10 := d10 _ hb
      clear hb
      by_cases hlt : k < pn
      case pos =>
        obtain ⟨p, hmk⟩ : ∃ y, parts[k]? = some y := ⟨_, List.getElem?_eq_getElem (by have := Hpl.out; omega)⟩
        obtain ⟨bp, op, ep, hbp, c0, c1, c2, c3, c4, c5, c6, c7, c8⟩ := HPA.out wr Hb.out k p hmk
        obtain ⟨hw1, hw2, hw3, hw4⟩ := HWin.out p (List.mem_of_getElem? hmk)
        have hfit := HFit.out k p hmk
        have HApk := Lib.hid (fun j q (hq : parts[j]? = some q) (hik : k ≠ j) (hn : p.node = q.node) => HAp.out k j p q hmk hq hik hn)
        clear hmk
        subst ep
        obtain ⟨node, start, length, budget, words, r0, r1, r2, r3⟩ := p
        simp only at c0 c1 c2 c3 c4 c5 c6 c7 c8 hw1 hw2 hw3 hw4 hfit
        simp only at HApk
        have e11 : IntKind.i64.wrap (start + length) = start + length := IntWalk.i64_in _ (by omega)
        have q0 : decide (nodes * slot < start + length) = false := decide_eq_false (by omega)
        have kb0 := fun o => d0 _ (Hb.out.alloc o)
        have kb2 := fun o => d2 _ (Hb.out.alloc o)
        have kb8 := fun o => d8 _ (Hb.out.alloc o)
        have HS0 := Lib.hid (AndP.start Hb.out #[.int .i64 node, .int .i64 start, .int .i64 length, .int .i64 budget, .int .i64 words, .int .u8 (r0 : Nat), .int .u8 (r1 : Nat), .int .u8 (r2 : Nat), .int .u8 (r3 : Nat)] 47 wr.heap.size rfl)
        have HN := Lib.hid (fun W (hW : BoxS w ⟨nodes, faulty, slot, gap, rho, dmin, dmax, margin, some ⟨bp, op, none⟩, pn, pcap, parts, QA, qn, qcap, ports, RA, rn, rcap, routes⟩ W) => (⟨k + 1, by omega, by go_num, hW⟩ : ApRel w ⟨nodes, faulty, slot, gap, rho, dmin, dmax, margin, some ⟨bp, op, none⟩, pn, pcap, parts, QA, qn, qcap, ports, RA, rn, rcap, routes⟩ pn (.int .i64 ((k : Int) + 1)) W))
        have Hw := Lib.hid (And.intro hw1 (And.intro hw2 (And.intro hw3 hw4)))
        clear hw1 hw2 hw3 hw4 hfit
        go_wp2_with fail
        clear k0 k1 k2 k3 k4 k5 k6 k7 k8 k9 k10 c0 c1 c2 c3 c4 c5 c6 c7 c8 kb0 kb2 kb8 q0
        clear Hb
        generalize wr.heap.size = N at *
        go_loopw [42] (ApIn w ⟨nodes, faulty, slot, gap, rho, dmin, dmax, margin, some ⟨bp, op, none⟩, pn, pcap, parts, QA, qn, qcap, ports, RA, rn, rcap, routes⟩ N #[.int .i64 node, .int .i64 start, .int .i64 length, .int .i64 budget, .int .i64 words, .int .u8 (r0 : Nat), .int .u8 (r1 : Nat), .int .u8 (r2 : Nat), .int .u8 (r3 : Nat)] 47 pn) (fun i _ => (pn + 1 - intOf i).toNat)
        case atStart => exact ⟨0, Nat.zero_le _, rfl, HS0.out⟩
        case round =>
          clear HS0
          obtain ⟨j, hj, rfl, hP⟩ := hrel
          have HP := Lib.hid hP
          have p0 := cell_at hP.2 0 rfl
          have pa0 := fun o => cell_at (hP.alloc o).2 0 rfl
          have p1 := cell_at hP.2 1 rfl
          have pa1 := fun o => cell_at (hP.alloc o).2 1 rfl
          have p2 := cell_at hP.2 2 rfl
          have pa2 := fun o => cell_at (hP.alloc o).2 2 rfl
          have p3 := cell_at hP.2 3 rfl
          have pa3 := fun o => cell_at (hP.alloc o).2 3 rfl
          have p4 := cell_at hP.2 4 rfl
          have pa4 := fun o => cell_at (hP.alloc o).2 4 rfl
          have p5 := cell_at hP.2 5 rfl
          have pa5 := fun o => cell_at (hP.alloc o).2 5 rfl
          have p6 := cell_at hP.2 6 rfl
          have pa6 := fun o => cell_at (hP.alloc o).2 6 rfl
          have p7 := cell_at hP.2 7 rfl
          have pa7 := fun o => cell_at (hP.alloc o).2 7 rfl
          have p8 := cell_at hP.2 8 rfl
          have pa8 := fun o => cell_at (hP.alloc o).2 8 rfl
          clear hP
          by_cases hjk : j < pn
          case pos =>
            obtain ⟨q, hq⟩ : ∃ y, parts[j]? = some y := ⟨_, List.getElem?_eq_getElem (by have := Hpl.out; omega)⟩
            obtain ⟨bq, oq, eq, hbq, c0, c1, c2, c3, c4, c5, c6, c7, c8⟩ := HPA.out wr HP.out.1 j q hq
            obtain ⟨hw1, hw2, hw3, hw4⟩ := HWin.out q (List.mem_of_getElem? hq)
            have hno := HApk.out j q hq
            have HR := Lib.hid (fun o => (⟨j + 1, by omega, by go_num, HP.out.alloc o⟩ : ApIn w ⟨nodes, faulty, slot, gap, rho, dmin, dmax, margin, some ⟨bp, op, none⟩, pn, pcap, parts, QA, qn, qcap, ports, RA, rn, rcap, routes⟩ N #[.int .i64 node, .int .i64 start, .int .i64 length, .int .i64 budget, .int .i64 words, .int .u8 (r0 : Nat), .int .u8 (r1 : Nat), .int .u8 (r2 : Nat), .int .u8 (r3 : Nat)] 47 pn (.int .i64 ((j : Int) + 1)) (wr.alloc o)))
            cases eq
            clear hq
            obtain ⟨node', start', length', budget', words', r0', r1', r2', r3'⟩ := q
            simp only at c0 c1 c2 c3 c4 c5 c6 c7 c8 hw1 hw2 hw3 hw4 hno
            have e12 : IntKind.i64.wrap (start' + length') = start' + length' := IntWalk.i64_in _ (by omega)
            clear hw1 hw2 hw3 hw4
            by_cases hkj : k = j
            case pos =>
              have q1 : ((k : Int) != (j : Int)) = false := by rw [bne_eq_false_iff_eq]; omega
              clear hno hkj
              go_wp2_with fail
              go_roundw
              case rel => exact HR.out _
              case measure => simp [intOf]; omega
            have q1 : ((k : Int) != (j : Int)) = true := by rw [bne_iff_ne]; omega
            by_cases hn : node = node'
            case neg =>
              have q2 : (node == node') = false := by rw [beq_eq_false_iff_ne]; exact hn
              clear hno hkj hn
              go_wp2_with fail
              go_roundw
              case rel => exact HR.out _
              case measure => simp [intOf]; omega
            have q2 : (node == node') = true := by rw [beq_iff_eq]; exact hn
            have hno2 := hno hkj hn
            simp only [SndP.meetB] at hno2
            by_cases h1 : start < start' + length'
            case neg =>
              have q3 : decide (start < start' + length') = false := decide_eq_false h1
              clear hno hno2 hkj hn h1
              go_wp2_with fail
              go_roundw
              case rel => exact HR.out _
              case measure => simp [intOf]; omega
            have q3 : decide (start < start' + length') = true := decide_eq_true h1
            rw [q3, Bool.true_and] at hno2
            clear hno hkj hn h1
            go_wp2_with fail
            go_roundw
            case rel => exact HR.out _
            case measure => simp [intOf]; omega
          have hjk2 : pn = j := by omega
          have HR := Lib.hid (HN.out _ HP.out.1)
          clear HP HN
          subst hjk2
          go_wp2_with fail
          go_roundw
          case rel => exact HR.out
          case measure => simp [intOf]; omega
      have hkn : pn = k := by omega
      clear HPA HFit HAp HWin
      have kb10 := fun o => d10 _ (Hb.out.alloc o)
      have HM0 := Lib.hid (World.ownsMap_made (H := Unit) wr Try.prog 3 boolR)
      have Hbm := Lib.hid (Hb.out.alloc (.map #[] 0))
      have HMle := Lib.hid (Below.size Hb.out)
      clear Hb
      subst hkn
      go_wp2_with fail
      clear k0 k1 k2 k3 k4 k5 k6 k7 k8 k9 k10 kb10
      generalize wr.alloc (.map #[] 0) = wm at *
      generalize wr.heap.size = M at *
      go_loopw [83] (ApMap w ⟨nodes, faulty, slot, gap, rho, dmin, dmax, margin, PA, pn, pcap, parts, QA, qn, qcap, ports, RA, rn, rcap, routes⟩ M routes rn) (fun i _ => (rn + 1 - intOf i).toNat)
      case atStart => exact ⟨0, _, Nat.zero_le _, rfl, Hbm.out, HM0.out, Fresh6.start _⟩
      case round =>
        clear HM0 Hbm
        obtain ⟨k, D, hk, rfl, hb, hown, hfr⟩ := hrel
        have Hb := Lib.hid hb
        have Hown := Lib.hid hown
        have Hfr := Lib.hid hfr
        have k0 := d0 _ hb
        have k1 := d1 _ hb
        have k2 := d2 _ hb
        have k3 := d3 _ hb
        have k4 := d4 _ hb
        have k5 := d5 _ hb
        have k6 := d6 _ hb
        have k7 := d7 _ hb
        have k8 := d8 _ hb
        have k9 := d9 _ hb
        have k10 := d10 _ hb
        clear hb hown hfr
        by_cases hlt : k < rn
        case pos =>
          obtain ⟨r, hmk⟩ : ∃ y, routes[k]? = some y := ⟨_, List.getElem?_eq_getElem (by have := Hrl.out; omega)⟩
          obtain ⟨s, d, hr, hs, hd, pa, pb, ea, eb, ho1, ho2, hkd, hnew⟩ := HJo.out k r hmk
          subst hr
          obtain ⟨br, or, er, -, c0, c1⟩ := HRA.out wr Hb.out k _ hmk
          have HQa := fun W hW => HQA.out W hW s pa ea
          have HQb := fun W hW => HQA.out W hW d pb eb
          obtain ⟨bq, oq, eq, -, -⟩ := HQa wr Hb.out
          rw [Hql.out] at hs hd
          have hlk : ∀ W, W.ownsMap Try.prog 3 boolR M k D → (Instr.lookup 48 (.map (some M)) (.int .i64 (d : Int)) false).run Try.prog W = .ok (.bool false) W := fun W hW => by
            obtain ⟨v, ps, h1, h2⟩ := hW.lookup (t := 48) (e := 4) (z := .bool false) (zd := .lit (.bool false)) (zp := []) (key := .int .i64 (d : Int)) (kl := .int .i64 (d : Int)) (Maps.int_keyed Try.underlying3) Try.underlying48 (by kernel_rfl) rfl (Maps.keyOf_int_mk Try.underlying3 (int_wf (by omega)))
            rw [Hfr.out (d : Int) hnew] at h2
            rw [boolR_inv h2] at h1
            exact h1
          have hkey : keyOf Try.prog 3 (.int .i64 (d : Int)) = some (.int .i64 (d : Int)) := Maps.keyOf_int_mk Try.underlying3 (int_wf (by omega))
          have HN := Lib.hid (fun W (hW : BoxS w ⟨nodes, faulty, slot, gap, rho, dmin, dmax, margin, PA, pn, pcap, parts, QA, qn, qcap, ports, RA, rn, rcap, routes⟩ W) (h2 : W.ownsMap Try.prog 3 boolR M (k + 1) (D.put (.int .i64 (d : Int)) (.lit (.bool true)))) => (⟨k + 1, _, by omega, by go_num, hW, h2, Hfr.out.step hmk⟩ : ApMap w ⟨nodes, faulty, slot, gap, rho, dmin, dmax, margin, PA, pn, pcap, parts, QA, qn, qcap, ports, RA, rn, rcap, routes⟩ M routes rn (.int .i64 ((k : Int) + 1)) W))
          clear hmk hnew
          subst er eq
          have PA2 : ∀ W, BoxS w ⟨nodes, faulty, slot, gap, rho, dmin, dmax, margin, PA, pn, pcap, parts, some ⟨bq, oq, none⟩, qn, qcap, ports, some ⟨br, or, none⟩, rn, rcap, routes⟩ W → PortAt W bq (oq + s * 6) pa := fun W hW => by
            obtain ⟨b', o', e1, -, h2⟩ := HQa W hW
            cases e1
            exact h2
          have PB2 : ∀ W, BoxS w ⟨nodes, faulty, slot, gap, rho, dmin, dmax, margin, PA, pn, pcap, parts, some ⟨bq, oq, none⟩, qn, qcap, ports, some ⟨br, or, none⟩, rn, rcap, routes⟩ W → PortAt W bq (oq + d * 6) pb := fun W hW => by
            obtain ⟨b', o', e1, -, h2⟩ := HQb W hW
            cases e1
            exact h2
          clear HQa HQb
          obtain ⟨part, kind, out, size, depth, fresh⟩ := pa
          obtain ⟨part', kind', out', size', depth', fresh'⟩ := pb
          simp only at ho1 ho2 hkd
          subst ho1 ho2 hkd
          have HS0 : Hid (ApS w ⟨nodes, faulty, slot, gap, rho, dmin, dmax, margin, PA, pn, pcap, parts, some ⟨bq, oq, none⟩, qn, qcap, ports, some ⟨br, or, none⟩, rn, rcap, routes⟩ wr.heap.size #[.int .i64 (s : Nat), .int .i64 (d : Nat)] 50 M k D (wr.alloc (.cells #[.int .i64 (s : Nat), .int .i64 (d : Nat)] 50))) := Lib.hid ⟨AndP.start Hb.out _ _ _ rfl, Hown.out.alloc _⟩
          go_upto_region 21 with (fail)
          have HS := Lib.hid HS0.out
          clear k0 k1 k2 k3 k4 k5 k6 k7 k8 k9 k10 c0 c1 HS0 Hb Hown
          generalize wr.alloc (.cells #[.int .i64 (s : Nat), .int .i64 (d : Nat)] 50) = w5 at *
          generalize wr.heap.size = N at *
          go_cut [126] (fun v wx => v = .bool false ∧ ApS w ⟨nodes, faulty, slot, gap, rho, dmin, dmax, margin, PA, pn, pcap, parts, some ⟨bq, oq, none⟩, qn, qcap, ports, some ⟨br, or, none⟩, rn, rcap, routes⟩ N #[.int .i64 (s : Nat), .int .i64 (d : Nat)] 50 M k D wx)
          case first =>
            have g9 := fun W (hW : ApS w ⟨nodes, faulty, slot, gap, rho, dmin, dmax, margin, PA, pn, pcap, parts, some ⟨bq, oq, none⟩, qn, qcap, ports, some ⟨br, or, none⟩, rn, rcap, routes⟩ N #[.int .i64 (s : Nat), .int .i64 (d : Nat)] 50 M k D W) => d9 W hW.1.1
            have r0 := fun W (hW : ApS w ⟨nodes, faulty, slot, gap, rho, dmin, dmax, margin, PA, pn, pcap, parts, some ⟨bq, oq, none⟩, qn, qcap, ports, some ⟨br, or, none⟩, rn, rcap, routes⟩ N #[.int .i64 (s : Nat), .int .i64 (d : Nat)] 50 M k D W) => cell_at hW.1.2 0 rfl
            have r1 := fun W (hW : ApS w ⟨nodes, faulty, slot, gap, rho, dmin, dmax, margin, PA, pn, pcap, parts, some ⟨bq, oq, none⟩, qn, qcap, ports, some ⟨br, or, none⟩, rn, rcap, routes⟩ N #[.int .i64 (s : Nat), .int .i64 (d : Nat)] 50 M k D W) => cell_at hW.1.2 1 rfl
            have u1 := fun W (hW : ApS w ⟨nodes, faulty, slot, gap, rho, dmin, dmax, margin, PA, pn, pcap, parts, some ⟨bq, oq, none⟩, qn, qcap, ports, some ⟨br, or, none⟩, rn, rcap, routes⟩ N #[.int .i64 (s : Nat), .int .i64 (d : Nat)] 50 M k D W) => (PA2 W hW.1.1).c1
            have u2 := fun W (hW : ApS w ⟨nodes, faulty, slot, gap, rho, dmin, dmax, margin, PA, pn, pcap, parts, some ⟨bq, oq, none⟩, qn, qcap, ports, some ⟨br, or, none⟩, rn, rcap, routes⟩ N #[.int .i64 (s : Nat), .int .i64 (d : Nat)] 50 M k D W) => (PA2 W hW.1.1).c2
            have v1 := fun W (hW : ApS w ⟨nodes, faulty, slot, gap, rho, dmin, dmax, margin, PA, pn, pcap, parts, some ⟨bq, oq, none⟩, qn, qcap, ports, some ⟨br, or, none⟩, rn, rcap, routes⟩ N #[.int .i64 (s : Nat), .int .i64 (d : Nat)] 50 M k D W) => (PB2 W hW.1.1).c1
            have v2 := fun W (hW : ApS w ⟨nodes, faulty, slot, gap, rho, dmin, dmax, margin, PA, pn, pcap, parts, some ⟨bq, oq, none⟩, qn, qcap, ports, some ⟨br, or, none⟩, rn, rcap, routes⟩ N #[.int .i64 (s : Nat), .int .i64 (d : Nat)] 50 M k D W) => (PB2 W hW.1.1).c2
            have hlk2 := fun W (hW : ApS w ⟨nodes, faulty, slot, gap, rho, dmin, dmax, margin, PA, pn, pcap, parts, some ⟨bq, oq, none⟩, qn, qcap, ports, some ⟨br, or, none⟩, rn, rcap, routes⟩ N #[.int .i64 (s : Nat), .int .i64 (d : Nat)] 50 M k D W) => hlk W hW.2
            simp only at u1 u2 v1 v2
            have hd0 := ApS.drew HS.out
            clear HN HS d0 d1 d2 d3 d4 d5 d6 d7 d8 d9 d10 PA2 PB2 hlk hkey
            go_wp2_with fail
            refine wp_region_held_drew (S := fun W => ApS w ⟨nodes, faulty, slot, gap, rho, dmin, dmax, margin, PA, pn, pcap, parts, some ⟨bq, oq, none⟩, qn, qcap, ports, some ⟨br, or, none⟩, rn, rcap, routes⟩ N #[.int .i64 (s : Nat), .int .i64 (d : Nat)] 50 M k D W) (by kernel_rfl) hd0 (fun _ => ?_)
            refine wpAnyH_take (i := 0) (oi := ?oo1) (v := ?vv1) ?ii1 (by kernel_rfl) ?ff1 (by kernel_rfl) ?qq1 (Or.inl ⟨?ww1, ?yy1⟩) hd0 ?rr1
            case ii1 => simp only [List.getElem?_toArray, List.getElem?_cons_zero]; rfl
            case ff1 => kernel_rfl
            case qq1 => exact fun _ _ _ h => h
            case ww1 => rfl
            case yy1 => intro W hW; go_simp <;> with_reducible rfl
            try simp only [Act.put, List.setIfInBounds_toArray, List.set_cons_zero, List.set_cons_succ]
            refine wpAnyH_take (i := 1) (oi := ?oo2) (v := ?vv2) ?ii2 (by kernel_rfl) ?ff2 (by kernel_rfl) ?qq2 (Or.inl ⟨?ww2, ?yy2⟩) hd0 ?rr2
            case ii2 => simp only [List.getElem?_toArray, List.getElem?_cons_succ, List.getElem?_cons_zero]; rfl
            case ff2 => kernel_rfl
            case qq2 => exact fun _ _ _ h => h
            case ww2 => rfl
            case yy2 => intro W hW; go_simp <;> with_reducible rfl
            try simp only [Act.put, List.setIfInBounds_toArray, List.set_cons_zero, List.set_cons_succ]
            refine wpAnyH_take (i := 2) (oi := ?oo3) (v := ?vv3) ?ii3 (by kernel_rfl) ?ff3 (by kernel_rfl) ?qq3 (Or.inl ⟨?ww3, ?yy3⟩) hd0 ?rr3
            case ii3 => simp only [List.getElem?_toArray, List.getElem?_cons_succ, List.getElem?_cons_zero]; rfl
            case ff3 => kernel_rfl
            case qq3 => exact fun _ _ _ h => h
            case ww3 => rfl
            case yy3 => intro W hW; go_simp <;> with_reducible rfl
            try simp only [Act.put, List.setIfInBounds_toArray, List.set_cons_zero, List.set_cons_succ]
            refine wpAnyH_take (i := 3) (oi := ?oo4) (v := ?vv4) ?ii4 (by kernel_rfl) ?ff4 (by kernel_rfl) ?qq4 (Or.inl ⟨?ww4, ?yy4⟩) hd0 ?rr4
            case ii4 => simp only [List.getElem?_toArray, List.getElem?_cons_succ, List.getElem?_cons_zero]; rfl
            case ff4 => kernel_rfl
            case qq4 => exact fun _ _ _ h => h
            case ww4 => rfl
            case yy4 => intro W hW; go_simp <;> with_reducible rfl
            try simp only [Act.put, List.setIfInBounds_toArray, List.set_cons_zero, List.set_cons_succ]
            refine wpAnyH_take (i := 4) (oi := ?oo5) (v := ?vv5) ?ii5 (by kernel_rfl) ?ff5 (by kernel_rfl) ?qq5 (Or.inl ⟨?ww5, ?yy5⟩) hd0 ?rr5
            case ii5 => simp only [List.getElem?_toArray, List.getElem?_cons_succ, List.getElem?_cons_zero]; rfl
            case ff5 => kernel_rfl
            case qq5 => exact fun _ _ _ h => h
            case ww5 => rfl
            case yy5 => intro W hW; go_simp <;> with_reducible rfl
            try simp only [Act.put, List.setIfInBounds_toArray, List.set_cons_zero, List.set_cons_succ]
            refine wpAnyH_take (i := 5) (oi := ?oo6) (v := ?vv6) ?ii6 (by kernel_rfl) ?ff6 (by kernel_rfl) ?qq6 (Or.inl ⟨?ww6, ?yy6⟩) hd0 ?rr6
            case ii6 => simp only [List.getElem?_toArray, List.getElem?_cons_succ, List.getElem?_cons_zero]; rfl
            case ff6 => kernel_rfl
            case qq6 => exact fun _ _ _ h => h
            case ww6 => rfl
            case yy6 => intro W hW; go_simp <;> with_reducible rfl
            try simp only [Act.put, List.setIfInBounds_toArray, List.set_cons_zero, List.set_cons_succ]
            refine wpAnyH_take (i := 6) (oi := ?oo7) (v := ?vv7) ?ii7 (by kernel_rfl) ?ff7 (by kernel_rfl) ?qq7 (Or.inl ⟨?ww7, ?yy7⟩) hd0 ?rr7
            case ii7 => simp only [List.getElem?_toArray, List.getElem?_cons_succ, List.getElem?_cons_zero]; rfl
            case ff7 => kernel_rfl
            case qq7 => exact fun _ _ _ h => h
            case ww7 => rfl
            case yy7 => intro W hW; go_simp <;> with_reducible rfl
            try simp only [Act.put, List.setIfInBounds_toArray, List.set_cons_zero, List.set_cons_succ]
            refine wpAnyH_take (i := 7) (oi := ?oo8) (v := ?vv8) ?ii8 (by kernel_rfl) ?ff8 (by kernel_rfl) ?qq8 (Or.inl ⟨?ww8, ?yy8⟩) hd0 ?rr8
            case ii8 => simp only [List.getElem?_toArray, List.getElem?_cons_succ, List.getElem?_cons_zero]; rfl
            case ff8 => kernel_rfl
            case qq8 => exact fun _ _ _ h => h
            case ww8 => rfl
            case yy8 => intro W hW; go_simp <;> with_reducible rfl
            try simp only [Act.put, List.setIfInBounds_toArray, List.set_cons_zero, List.set_cons_succ]
            refine wpAnyH_take (i := 8) (oi := ?oo9) (v := ?vv9) ?ii9 (by kernel_rfl) ?ff9 (by kernel_rfl) ?qq9 (Or.inl ⟨?ww9, ?yy9⟩) hd0 ?rr9
            case ii9 => simp only [List.getElem?_toArray, List.getElem?_cons_succ, List.getElem?_cons_zero]; rfl
            case ff9 => kernel_rfl
            case qq9 => exact fun _ _ _ h => h
            case ww9 => rfl
            case yy9 => intro W hW; go_simp <;> with_reducible rfl
            try simp only [Act.put, List.setIfInBounds_toArray, List.set_cons_zero, List.set_cons_succ]
            refine wpAnyH_take (i := 9) (oi := ?oo10) (v := ?vv10) ?ii10 (by kernel_rfl) ?ff10 (by kernel_rfl) ?qq10 (Or.inl ⟨?ww10, ?yy10⟩) hd0 ?rr10
            case ii10 => simp only [List.getElem?_toArray, List.getElem?_cons_succ, List.getElem?_cons_zero]; rfl
            case ff10 => kernel_rfl
            case qq10 => exact fun _ _ _ h => h
            case ww10 => rfl
            case yy10 => intro W hW; go_simp <;> with_reducible rfl
            try simp only [Act.put, List.setIfInBounds_toArray, List.set_cons_zero, List.set_cons_succ]
            refine wpAnyH_take (i := 10) (oi := ?oo11) (v := ?vv11) ?ii11 (by kernel_rfl) ?ff11 (by kernel_rfl) ?qq11 (Or.inl ⟨?ww11, ?yy11⟩) hd0 ?rr11
            case ii11 => simp only [List.getElem?_toArray, List.getElem?_cons_succ, List.getElem?_cons_zero]; rfl
            case ff11 => kernel_rfl
            case qq11 => exact fun _ _ _ h => h
            case ww11 => rfl
            case yy11 => intro W hW; go_simp <;> with_reducible rfl
            try simp only [Act.put, List.setIfInBounds_toArray, List.set_cons_zero, List.set_cons_succ]
            refine wpAnyH_take (i := 11) (oi := ?oo12) (v := ?vv12) ?ii12 (by kernel_rfl) ?ff12 (by kernel_rfl) ?qq12 (Or.inl ⟨?ww12, ?yy12⟩) hd0 ?rr12
            case ii12 => simp only [List.getElem?_toArray, List.getElem?_cons_succ, List.getElem?_cons_zero]; rfl
            case ff12 => kernel_rfl
            case qq12 => exact fun _ _ _ h => h
            case ww12 => rfl
            case yy12 => intro W hW; go_simp <;> with_reducible rfl
            try simp only [Act.put, List.setIfInBounds_toArray, List.set_cons_zero, List.set_cons_succ]
            refine wpAnyH_take (i := 12) (oi := ?oo13) (v := ?vv13) ?ii13 (by kernel_rfl) ?ff13 (by kernel_rfl) ?qq13 (Or.inl ⟨?ww13, ?yy13⟩) hd0 ?rr13
            case ii13 => simp only [List.getElem?_toArray, List.getElem?_cons_succ, List.getElem?_cons_zero]; rfl
            case ff13 => kernel_rfl
            case qq13 => exact fun _ _ _ h => h
            case ww13 => rfl
            case yy13 => intro W hW; go_simp <;> with_reducible rfl
            try simp only [Act.put, List.setIfInBounds_toArray, List.set_cons_zero, List.set_cons_succ]
            refine wpAnyH_take (i := 13) (oi := ?oo14) (v := ?vv14) ?ii14 (by kernel_rfl) ?ff14 (by kernel_rfl) ?qq14 (Or.inl ⟨?ww14, ?yy14⟩) hd0 ?rr14
            case ii14 => simp only [List.getElem?_toArray, List.getElem?_cons_succ, List.getElem?_cons_zero]; rfl
            case ff14 => kernel_rfl
            case qq14 => exact fun _ _ _ h => h
            case ww14 => rfl
            case yy14 => intro W hW; go_simp <;> with_reducible rfl
            try simp only [Act.put, List.setIfInBounds_toArray, List.set_cons_zero, List.set_cons_succ]
            refine wpAnyH_take (i := 14) (oi := ?oo15) (v := ?vv15) ?ii15 (by kernel_rfl) ?ff15 (by kernel_rfl) ?qq15 (Or.inl ⟨?ww15, ?yy15⟩) hd0 ?rr15
            case ii15 => simp only [List.getElem?_toArray, List.getElem?_cons_succ, List.getElem?_cons_zero]; rfl
            case ff15 => kernel_rfl
            case qq15 => exact fun _ _ _ h => h
            case ww15 => rfl
            case yy15 => intro W hW; go_simp <;> with_reducible rfl
            try simp only [Act.put, List.setIfInBounds_toArray, List.set_cons_zero, List.set_cons_succ]
            refine wpAnyH_take (i := 15) (oi := ?oo16) (v := ?vv16) ?ii16 (by kernel_rfl) ?ff16 (by kernel_rfl) ?qq16 (Or.inl ⟨?ww16, ?yy16⟩) hd0 ?rr16
            case ii16 => simp only [List.getElem?_toArray, List.getElem?_cons_succ, List.getElem?_cons_zero]; rfl
            case ff16 => kernel_rfl
            case qq16 => exact fun _ _ _ h => h
            case ww16 => rfl
            case yy16 => intro W hW; go_simp <;> with_reducible rfl
            try simp only [Act.put, List.setIfInBounds_toArray, List.set_cons_zero, List.set_cons_succ]
            refine wpAnyH_take (i := 16) (oi := ?oo17) (v := ?vv17) ?ii17 (by kernel_rfl) ?ff17 (by kernel_rfl) ?qq17 (Or.inl ⟨?ww17, ?yy17⟩) hd0 ?rr17
            case ii17 => simp only [List.getElem?_toArray, List.getElem?_cons_succ, List.getElem?_cons_zero]; rfl
            case ff17 => kernel_rfl
            case qq17 => exact fun _ _ _ h => h
            case ww17 => rfl
            case yy17 => intro W hW; go_simp <;> with_reducible rfl
            try simp only [Act.put, List.setIfInBounds_toArray, List.set_cons_zero, List.set_cons_succ]
            refine wpAnyH_take (i := 17) (oi := ?oo18) (v := ?vv18) ?ii18 (by kernel_rfl) ?ff18 (by kernel_rfl) ?qq18 (Or.inl ⟨?ww18, ?yy18⟩) hd0 ?rr18
            case ii18 => simp only [List.getElem?_toArray, List.getElem?_cons_succ, List.getElem?_cons_zero]; rfl
            case ff18 => kernel_rfl
            case qq18 => exact fun _ _ _ h => h
            case ww18 => rfl
            case yy18 => intro W hW; go_simp <;> with_reducible rfl
            try simp only [Act.put, List.setIfInBounds_toArray, List.set_cons_zero, List.set_cons_succ]
            refine wpAnyH_take (i := 18) (oi := ?oo19) (v := ?vv19) ?ii19 (by kernel_rfl) ?ff19 (by kernel_rfl) ?qq19 (Or.inl ⟨?ww19, ?yy19⟩) hd0 ?rr19
            case ii19 => simp only [List.getElem?_toArray, List.getElem?_cons_succ, List.getElem?_cons_zero]; rfl
            case ff19 => kernel_rfl
            case qq19 => exact fun _ _ _ h => h
            case ww19 => rfl
            case yy19 => intro W hW; go_simp <;> with_reducible rfl
            try simp only [Act.put, List.setIfInBounds_toArray, List.set_cons_zero, List.set_cons_succ]
            refine wpAnyH_take (i := 19) (oi := ?oo20) (v := ?vv20) ?ii20 (by kernel_rfl) ?ff20 (by kernel_rfl) ?qq20 (Or.inl ⟨?ww20, ?yy20⟩) hd0 ?rr20
            case ii20 => simp only [List.getElem?_toArray, List.getElem?_cons_succ, List.getElem?_cons_zero]; rfl
            case ff20 => kernel_rfl
            case qq20 => exact fun _ _ _ h => h
            case ww20 => rfl
            case yy20 => intro W hW; go_simp <;> with_reducible rfl
            try simp only [Act.put, List.setIfInBounds_toArray, List.set_cons_zero, List.set_cons_succ]
            refine wpAnyH_take (i := 20) (oi := ?oo21) (v := ?vv21) ?ii21 (by kernel_rfl) ?ff21 (by kernel_rfl) ?qq21 (Or.inl ⟨?ww21, ?yy21⟩) hd0 ?rr21
            case ii21 => simp only [List.getElem?_toArray, List.getElem?_cons_succ, List.getElem?_cons_zero]; rfl
            case ff21 => kernel_rfl
            case qq21 => exact fun _ _ _ h => h
            case ww21 => rfl
            case yy21 => intro W hW; go_simp <;> with_reducible rfl
            try simp only [Act.put, List.setIfInBounds_toArray, List.set_cons_zero, List.set_cons_succ]
            refine wpAnyH_take (i := 21) (oi := ?oo22) (v := ?vv22) ?ii22 (by kernel_rfl) ?ff22 (by kernel_rfl) ?qq22 (Or.inl ⟨?ww22, ?yy22⟩) hd0 ?rr22
            case ii22 => simp only [List.getElem?_toArray, List.getElem?_cons_succ, List.getElem?_cons_zero]; rfl
            case ff22 => kernel_rfl
            case qq22 => exact fun _ _ _ h => h
            case ww22 => rfl
            case yy22 => intro W hW; go_simp <;> with_reducible rfl
            try simp only [Act.put, List.setIfInBounds_toArray, List.set_cons_zero, List.set_cons_succ]
            refine wpAnyH_take (i := 22) (oi := ?oo23) (v := ?vv23) ?ii23 (by kernel_rfl) ?ff23 (by kernel_rfl) ?qq23 (Or.inl ⟨?ww23, ?yy23⟩) hd0 ?rr23
            case ii23 => simp only [List.getElem?_toArray, List.getElem?_cons_succ, List.getElem?_cons_zero]; rfl
            case ff23 => kernel_rfl
            case qq23 => exact fun _ _ _ h => h
            case ww23 => rfl
            case yy23 => intro W hW; go_simp <;> with_reducible rfl
            try simp only [Act.put, List.setIfInBounds_toArray, List.set_cons_zero, List.set_cons_succ]
            refine wpAnyH_take (i := 23) (oi := ?oo24) (v := ?vv24) ?ii24 (by kernel_rfl) ?ff24 (by kernel_rfl) ?qq24 (Or.inl ⟨?ww24, ?yy24⟩) hd0 ?rr24
            case ii24 => simp only [List.getElem?_toArray, List.getElem?_cons_succ, List.getElem?_cons_zero]; rfl
            case ff24 => kernel_rfl
            case qq24 => exact fun _ _ _ h => h
            case ww24 => rfl
            case yy24 => intro W hW; go_simp <;> with_reducible rfl
            try simp only [Act.put, List.setIfInBounds_toArray, List.set_cons_zero, List.set_cons_succ]
            refine wpAnyH_take (i := 24) (oi := ?oo25) (v := ?vv25) ?ii25 (by kernel_rfl) ?ff25 (by kernel_rfl) ?qq25 (Or.inl ⟨?ww25, ?yy25⟩) hd0 ?rr25
            case ii25 => simp only [List.getElem?_toArray, List.getElem?_cons_succ, List.getElem?_cons_zero]; rfl
            case ff25 => kernel_rfl
            case qq25 => exact fun _ _ _ h => h
            case ww25 => rfl
            case yy25 => intro W hW; go_simp <;> with_reducible rfl
            try simp only [Act.put, List.setIfInBounds_toArray, List.set_cons_zero, List.set_cons_succ]
            refine wpAnyH_take (i := 25) (oi := ?oo26) (v := ?vv26) ?ii26 (by kernel_rfl) ?ff26 (by kernel_rfl) ?qq26 (Or.inl ⟨?ww26, ?yy26⟩) hd0 ?rr26
            case ii26 => simp only [List.getElem?_toArray, List.getElem?_cons_succ, List.getElem?_cons_zero]; rfl
            case ff26 => kernel_rfl
            case qq26 => exact fun _ _ _ h => h
            case ww26 => rfl
            case yy26 => intro W hW; go_simp <;> with_reducible rfl
            try simp only [Act.put, List.setIfInBounds_toArray, List.set_cons_zero, List.set_cons_succ]
            refine wpAnyH_take (i := 26) (oi := ?oo27) (v := ?vv27) ?ii27 (by kernel_rfl) ?ff27 (by kernel_rfl) ?qq27 (Or.inl ⟨?ww27, ?yy27⟩) hd0 ?rr27
            case ii27 => simp only [List.getElem?_toArray, List.getElem?_cons_succ, List.getElem?_cons_zero]; rfl
            case ff27 => kernel_rfl
            case qq27 => exact fun _ _ _ h => h
            case ww27 => rfl
            case yy27 => intro W hW; go_simp <;> with_reducible rfl
            try simp only [Act.put, List.setIfInBounds_toArray, List.set_cons_zero, List.set_cons_succ]
            refine wpAnyH_take (i := 27) (oi := ?oo28) (v := ?vv28) ?ii28 (by kernel_rfl) ?ff28 (by kernel_rfl) ?qq28 (Or.inl ⟨?ww28, ?yy28⟩) hd0 ?rr28
            case ii28 => simp only [List.getElem?_toArray, List.getElem?_cons_succ, List.getElem?_cons_zero]; rfl
            case ff28 => kernel_rfl
            case qq28 => exact fun _ _ _ h => h
            case ww28 => rfl
            case yy28 => intro W hW; go_simp <;> with_reducible rfl
            try simp only [Act.put, List.setIfInBounds_toArray, List.set_cons_zero, List.set_cons_succ]
            refine wpAnyH_take (i := 28) (oi := ?oo29) (v := ?vv29) ?ii29 (by kernel_rfl) ?ff29 (by kernel_rfl) ?qq29 (Or.inl ⟨?ww29, ?yy29⟩) hd0 ?rr29
            case ii29 => simp only [List.getElem?_toArray, List.getElem?_cons_succ, List.getElem?_cons_zero]; rfl
            case ff29 => kernel_rfl
            case qq29 => exact fun _ _ _ h => h
            case ww29 => rfl
            case yy29 => intro W hW; go_simp <;> with_reducible rfl
            try simp only [Act.put, List.setIfInBounds_toArray, List.set_cons_zero, List.set_cons_succ]
            refine wpAnyH_take (i := 29) (oi := ?oo30) (v := ?vv30) ?ii30 (by kernel_rfl) ?ff30 (by kernel_rfl) ?qq30 (Or.inl ⟨?ww30, ?yy30⟩) hd0 ?rr30
            case ii30 => simp only [List.getElem?_toArray, List.getElem?_cons_succ, List.getElem?_cons_zero]; rfl
            case ff30 => kernel_rfl
            case qq30 => exact fun _ _ _ h => h
            case ww30 => rfl
            case yy30 => intro W hW; go_simp <;> with_reducible rfl
            try simp only [Act.put, List.setIfInBounds_toArray, List.set_cons_zero, List.set_cons_succ]
            refine wpAnyH_take (i := 30) (oi := ?oo31) (v := ?vv31) ?ii31 (by kernel_rfl) ?ff31 (by kernel_rfl) ?qq31 (Or.inl ⟨?ww31, ?yy31⟩) hd0 ?rr31
            case ii31 => simp only [List.getElem?_toArray, List.getElem?_cons_succ, List.getElem?_cons_zero]; rfl
            case ff31 => kernel_rfl
            case qq31 => exact fun _ _ _ h => h
            case ww31 => rfl
            case yy31 => intro W hW; go_simp <;> with_reducible rfl
            try simp only [Act.put, List.setIfInBounds_toArray, List.set_cons_zero, List.set_cons_succ]
            refine wpAnyH_take (i := 31) (oi := ?oo32) (v := ?vv32) ?ii32 (by kernel_rfl) ?ff32 (by kernel_rfl) ?qq32 (Or.inl ⟨?ww32, ?yy32⟩) hd0 ?rr32
            case ii32 => simp only [List.getElem?_toArray, List.getElem?_cons_succ, List.getElem?_cons_zero]; rfl
            case ff32 => kernel_rfl
            case qq32 => exact fun _ _ _ h => h
            case ww32 => rfl
            case yy32 => intro W hW; go_simp <;> with_reducible rfl
            try simp only [Act.put, List.setIfInBounds_toArray, List.set_cons_zero, List.set_cons_succ]
            refine wpAnyH_take (i := 32) (oi := ?oo33) (v := ?vv33) ?ii33 (by kernel_rfl) ?ff33 (by kernel_rfl) ?qq33 (Or.inl ⟨?ww33, ?yy33⟩) hd0 ?rr33
            case ii33 => simp only [List.getElem?_toArray, List.getElem?_cons_succ, List.getElem?_cons_zero]; rfl
            case ff33 => kernel_rfl
            case qq33 => exact fun _ _ _ h => h
            case ww33 => rfl
            case yy33 => intro W hW; go_simp <;> with_reducible rfl
            try simp only [Act.put, List.setIfInBounds_toArray, List.set_cons_zero, List.set_cons_succ]
            refine wpAnyH_take (i := 33) (oi := ?oo34) (v := ?vv34) ?ii34 (by kernel_rfl) ?ff34 (by kernel_rfl) ?qq34 (Or.inl ⟨?ww34, ?yy34⟩) hd0 ?rr34
            case ii34 => simp only [List.getElem?_toArray, List.getElem?_cons_succ, List.getElem?_cons_zero]; rfl
            case ff34 => kernel_rfl
            case qq34 => exact fun _ _ _ h => h
            case ww34 => rfl
            case yy34 => intro W hW; go_simp <;> with_reducible rfl
            try simp only [Act.put, List.setIfInBounds_toArray, List.set_cons_zero, List.set_cons_succ]
            refine wpAnyH_take (i := 34) (oi := ?oo35) (v := ?vv35) ?ii35 (by kernel_rfl) ?ff35 (by kernel_rfl) ?qq35 (Or.inl ⟨?ww35, ?yy35⟩) hd0 ?rr35
            case ii35 => simp only [List.getElem?_toArray, List.getElem?_cons_succ, List.getElem?_cons_zero]; rfl
            case ff35 => kernel_rfl
            case qq35 => exact fun _ _ _ h => h
            case ww35 => rfl
            case yy35 => intro W hW; go_simp <;> with_reducible rfl
            try simp only [Act.put, List.setIfInBounds_toArray, List.set_cons_zero, List.set_cons_succ]
            refine wpAnyH_take (i := 35) (oi := ?oo36) (v := ?vv36) ?ii36 (by kernel_rfl) ?ff36 (by kernel_rfl) ?qq36 (Or.inl ⟨?ww36, ?yy36⟩) hd0 ?rr36
            case ii36 => simp only [List.getElem?_toArray, List.getElem?_cons_succ, List.getElem?_cons_zero]; rfl
            case ff36 => kernel_rfl
            case qq36 => exact fun _ _ _ h => h
            case ww36 => rfl
            case yy36 => intro W hW; go_simp <;> with_reducible rfl
            try simp only [Act.put, List.setIfInBounds_toArray, List.set_cons_zero, List.set_cons_succ]
            refine wpAnyH_take (i := 36) (oi := ?oo37) (v := ?vv37) ?ii37 (by kernel_rfl) ?ff37 (by kernel_rfl) ?qq37 (Or.inl ⟨?ww37, ?yy37⟩) hd0 ?rr37
            case ii37 => simp only [List.getElem?_toArray, List.getElem?_cons_succ, List.getElem?_cons_zero]; rfl
            case ff37 => kernel_rfl
            case qq37 => exact fun _ _ _ h => h
            case ww37 => rfl
            case yy37 => intro W hW; go_simp <;> with_reducible rfl
            try simp only [Act.put, List.setIfInBounds_toArray, List.set_cons_zero, List.set_cons_succ]
            refine wpAnyH_take (i := 37) (oi := ?oo38) (v := ?vv38) ?ii38 (by kernel_rfl) ?ff38 (by kernel_rfl) ?qq38 (Or.inl ⟨?ww38, ?yy38⟩) hd0 ?rr38
            case ii38 => simp only [List.getElem?_toArray, List.getElem?_cons_succ, List.getElem?_cons_zero]; rfl
            case ff38 => kernel_rfl
            case qq38 => exact fun _ _ _ h => h
            case ww38 => rfl
            case yy38 => intro W hW; go_simp <;> with_reducible rfl
            try simp only [Act.put, List.setIfInBounds_toArray, List.set_cons_zero, List.set_cons_succ]
            refine wpAnyH_take (i := 38) (oi := ?oo39) (v := ?vv39) ?ii39 (by kernel_rfl) ?ff39 (by kernel_rfl) ?qq39 (Or.inl ⟨?ww39, ?yy39⟩) hd0 ?rr39
            case ii39 => simp only [List.getElem?_toArray, List.getElem?_cons_succ, List.getElem?_cons_zero]; rfl
            case ff39 => kernel_rfl
            case qq39 => exact fun _ _ _ h => h
            case ww39 => rfl
            case yy39 => intro W hW; go_simp <;> with_reducible rfl
            try simp only [Act.put, List.setIfInBounds_toArray, List.set_cons_zero, List.set_cons_succ]
            refine wpAnyH_take (i := 39) (oi := ?oo40) (v := ?vv40) ?ii40 (by kernel_rfl) ?ff40 (by kernel_rfl) ?qq40 (Or.inl ⟨?ww40, ?yy40⟩) hd0 ?rr40
            case ii40 => simp only [List.getElem?_toArray, List.getElem?_cons_succ, List.getElem?_cons_zero]; rfl
            case ff40 => kernel_rfl
            case qq40 => exact fun _ _ _ h => h
            case ww40 => rfl
            case yy40 => intro W hW; go_simp <;> with_reducible rfl
            try simp only [Act.put, List.setIfInBounds_toArray, List.set_cons_zero, List.set_cons_succ]
            refine wpAnyH_done (by kernel_rfl) ?_ _
            go_wp2_with fail
            go_meet
            exact ⟨rfl, hd0⟩
          case rest =>
          obtain ⟨rfl, hS⟩ := hcut
          have r1 := cell_at hS.1.2 1 rfl
          have HB5 := Lib.hid hS.1.1
          have hown := hS.2
          clear hS HS PA2 PB2 hlk d0 d1 d2 d3 d4 d5 d6 d7 d8 d9 d10
          go_wp2_with (first
            | (at_mapUpdate; refine wpList_mapUpdate_own _ rfl _ _ _ 48 rfl 3 4 (Maps.int_keyed Try.underlying3) Try.underlying48 boolR M k D rfl hown (by unfold maxLen; omega) _ _ _ rfl rfl hkey (.lit (.bool true)) [] rfl ?_)
            | fail)
          intro w6 hown6 hgrow6
          have HR := Lib.hid (HN.out w6 (Below.grown HB5.out hgrow6 HB5.out.size (fun j hj => by cases hj; exact HMle.out)) hown6)
          clear hown hown6 hgrow6 HN HB5 r1
          go_wp2_with fail
          go_roundw
          case rel => exact HR.out
          case measure => simp [intOf]; omega
        have hkn : rn = k := by omega
        clear Hown Hfr HJo HQA HRA hmm HMle
        subst hkn
        obtain ⟨a1, a2, a3⟩ := HEnd.out
        have e1 : IntKind.i64.wrap (3 * faulty) = 3 * faulty := IntWalk.i64_in _ (by omega)
        have e2 : IntKind.i64.wrap (3 * faulty + 1) = 3 * faulty + 1 := IntWalk.i64_in _ (by omega)
        have e3 : IntKind.i64.wrap (2 * margin) = 2 * margin := IntWalk.i64_in _ (by omega)
        have q1 : decide (3 * faulty + 1 ≤ nodes) = true := decide_eq_true a1
        have q2 : decide (2 * margin < slot) = true := decide_eq_true a2
        have q3 : decide (pc ≤ margin) = true := decide_eq_true a3
        have hd0 := BoxS.drew Hb.out
        clear a1 a2 a3 HEnd hn1 hn2 hn3 hn4 hn5 hn6 hn7 hn8 hsl e10 k0 k1 k2 k3 k4 k5 k6 k7 k8 k9 k10 Hb
        go_wp2_with fail
        refine wp_region_held_drew (S := fun W => BoxS w ⟨nodes, faulty, slot, gap, rho, dmin, dmax, margin, PA, pn, pcap, parts, QA, qn, qcap, ports, RA, rn, rcap, routes⟩ W) (by kernel_rfl) hd0 (fun _ => ?_)
        refine wpAnyH_take (i := 0) (oi := ?oo41) (v := ?vv41) ?ii41 (by kernel_rfl) ?ff41 (by kernel_rfl) ?qq41 (Or.inl ⟨?ww41, ?yy41⟩) hd0 ?rr41
        case ii41 => simp only [List.getElem?_toArray, List.getElem?_cons_zero]; rfl
        case ff41 => kernel_rfl
        case qq41 => exact fun _ _ _ h => h
        case ww41 => rfl
        case yy41 => intro W hW; go_simp <;> with_reducible rfl
        try simp only [Act.put, List.setIfInBounds_toArray, List.set_cons_zero, List.set_cons_succ]
        refine wpAnyH_take (i := 1) (oi := ?oo42) (v := ?vv42) ?ii42 (by kernel_rfl) ?ff42 (by kernel_rfl) ?qq42 (Or.inl ⟨?ww42, ?yy42⟩) hd0 ?rr42
        case ii42 => simp only [List.getElem?_toArray, List.getElem?_cons_succ, List.getElem?_cons_zero]; rfl
        case ff42 => kernel_rfl
        case qq42 => exact fun _ _ _ h => h
        case ww42 => rfl
        case yy42 => intro W hW; go_simp <;> with_reducible rfl
        try simp only [Act.put, List.setIfInBounds_toArray, List.set_cons_zero, List.set_cons_succ]
        refine wpAnyH_take (i := 2) (oi := ?oo43) (v := ?vv43) ?ii43 (by kernel_rfl) ?ff43 (by kernel_rfl) ?qq43 (Or.inl ⟨?ww43, ?yy43⟩) hd0 ?rr43
        case ii43 => simp only [List.getElem?_toArray, List.getElem?_cons_succ, List.getElem?_cons_zero]; rfl
        case ff43 => kernel_rfl
        case qq43 => exact fun _ _ _ h => h
        case ww43 => rfl
        case yy43 => intro W hW; go_simp <;> with_reducible rfl
        try simp only [Act.put, List.setIfInBounds_toArray, List.set_cons_zero, List.set_cons_succ]
        refine wpAnyH_take (i := 3) (oi := ?oo44) (v := ?vv44) ?ii44 (by kernel_rfl) ?ff44 (by kernel_rfl) ?qq44 (Or.inl ⟨?ww44, ?yy44⟩) hd0 ?rr44
        case ii44 => simp only [List.getElem?_toArray, List.getElem?_cons_succ, List.getElem?_cons_zero]; rfl
        case ff44 => kernel_rfl
        case qq44 => exact fun _ _ _ h => h
        case ww44 => rfl
        case yy44 => intro W hW; go_simp <;> with_reducible rfl
        try simp only [Act.put, List.setIfInBounds_toArray, List.set_cons_zero, List.set_cons_succ]
        refine wpAnyH_take (i := 4) (oi := ?oo45) (v := ?vv45) ?ii45 (by kernel_rfl) ?ff45 (by kernel_rfl) ?qq45 (Or.inl ⟨?ww45, ?yy45⟩) hd0 ?rr45
        case ii45 => simp only [List.getElem?_toArray, List.getElem?_cons_succ, List.getElem?_cons_zero]; rfl
        case ff45 => kernel_rfl
        case qq45 => exact fun _ _ _ h => h
        case ww45 => rfl
        case yy45 => intro W hW; go_simp <;> with_reducible rfl
        try simp only [Act.put, List.setIfInBounds_toArray, List.set_cons_zero, List.set_cons_succ]
        refine wpAnyH_take (i := 5) (oi := ?oo46) (v := ?vv46) ?ii46 (by kernel_rfl) ?ff46 (by kernel_rfl) ?qq46 (Or.inl ⟨?ww46, ?yy46⟩) hd0 ?rr46
        case ii46 => simp only [List.getElem?_toArray, List.getElem?_cons_succ, List.getElem?_cons_zero]; rfl
        case ff46 => kernel_rfl
        case qq46 => exact fun _ _ _ h => h
        case ww46 => rfl
        case yy46 => intro W hW; go_simp <;> with_reducible rfl
        try simp only [Act.put, List.setIfInBounds_toArray, List.set_cons_zero, List.set_cons_succ]
        refine wpAnyH_take (i := 6) (oi := ?oo47) (v := ?vv47) ?ii47 (by kernel_rfl) ?ff47 (by kernel_rfl) ?qq47 (Or.inl ⟨?ww47, ?yy47⟩) hd0 ?rr47
        case ii47 => simp only [List.getElem?_toArray, List.getElem?_cons_succ, List.getElem?_cons_zero]; rfl
        case ff47 => kernel_rfl
        case qq47 => exact fun _ _ _ h => h
        case ww47 => rfl
        case yy47 => intro W hW; go_simp <;> with_reducible rfl
        try simp only [Act.put, List.setIfInBounds_toArray, List.set_cons_zero, List.set_cons_succ]
        refine wpAnyH_take (i := 7) (oi := ?oo48) (v := ?vv48) ?ii48 (by kernel_rfl) ?ff48 (by kernel_rfl) ?qq48 (Or.inl ⟨?ww48, ?yy48⟩) hd0 ?rr48
        case ii48 => simp only [List.getElem?_toArray, List.getElem?_cons_succ, List.getElem?_cons_zero]; rfl
        case ff48 => kernel_rfl
        case qq48 => exact fun _ _ _ h => h
        case ww48 => rfl
        case yy48 => intro W hW; go_simp <;> with_reducible rfl
        try simp only [Act.put, List.setIfInBounds_toArray, List.set_cons_zero, List.set_cons_succ]
        refine wpAnyH_take (i := 8) (oi := ?oo49) (v := ?vv49) ?ii49 (by kernel_rfl) ?ff49 (by kernel_rfl) ?qq49 (Or.inl ⟨?ww49, ?yy49⟩) hd0 ?rr49
        case ii49 => simp only [List.getElem?_toArray, List.getElem?_cons_succ, List.getElem?_cons_zero]; rfl
        case ff49 => kernel_rfl
        case qq49 => exact fun _ _ _ h => h
        case ww49 => rfl
        case yy49 => intro W hW; go_simp <;> with_reducible rfl
        try simp only [Act.put, List.setIfInBounds_toArray, List.set_cons_zero, List.set_cons_succ]
        refine wpAnyH_take (i := 9) (oi := ?oo50) (v := ?vv50) ?ii50 (by kernel_rfl) ?ff50 (by kernel_rfl) ?qq50 (Or.inl ⟨?ww50, ?yy50⟩) hd0 ?rr50
        case ii50 => simp only [List.getElem?_toArray, List.getElem?_cons_succ, List.getElem?_cons_zero]; rfl
        case ff50 => kernel_rfl
        case qq50 => exact fun _ _ _ h => h
        case ww50 => rfl
        case yy50 => intro W hW; go_simp <;> with_reducible rfl
        try simp only [Act.put, List.setIfInBounds_toArray, List.set_cons_zero, List.set_cons_succ]
        refine wpAnyH_take (i := 10) (oi := ?oo51) (v := ?vv51) ?ii51 (by kernel_rfl) ?ff51 (by kernel_rfl) ?qq51 (Or.inl ⟨?ww51, ?yy51⟩) hd0 ?rr51
        case ii51 => simp only [List.getElem?_toArray, List.getElem?_cons_succ, List.getElem?_cons_zero]; rfl
        case ff51 => kernel_rfl
        case qq51 => exact fun _ _ _ h => h
        case ww51 => rfl
        case yy51 => intro W hW; go_simp <;> with_reducible rfl
        try simp only [Act.put, List.setIfInBounds_toArray, List.set_cons_zero, List.set_cons_succ]
        refine wpAnyH_take (i := 11) (oi := ?oo52) (v := ?vv52) ?ii52 (by kernel_rfl) ?ff52 (by kernel_rfl) ?qq52 (Or.inl ⟨?ww52, ?yy52⟩) hd0 ?rr52
        case ii52 => simp only [List.getElem?_toArray, List.getElem?_cons_succ, List.getElem?_cons_zero]; rfl
        case ff52 => kernel_rfl
        case qq52 => exact fun _ _ _ h => h
        case ww52 => rfl
        case yy52 => intro W hW; go_simp <;> with_reducible rfl
        try simp only [Act.put, List.setIfInBounds_toArray, List.set_cons_zero, List.set_cons_succ]
        refine wpAnyH_take (i := 12) (oi := ?oo53) (v := ?vv53) ?ii53 (by kernel_rfl) ?ff53 (by kernel_rfl) ?qq53 (Or.inl ⟨?ww53, ?yy53⟩) hd0 ?rr53
        case ii53 => simp only [List.getElem?_toArray, List.getElem?_cons_succ, List.getElem?_cons_zero]; rfl
        case ff53 => kernel_rfl
        case qq53 => exact fun _ _ _ h => h
        case ww53 => rfl
        case yy53 => intro W hW; go_simp <;> with_reducible rfl
        try simp only [Act.put, List.setIfInBounds_toArray, List.set_cons_zero, List.set_cons_succ]
        refine wpAnyH_take (i := 13) (oi := ?oo54) (v := ?vv54) ?ii54 (by kernel_rfl) ?ff54 (by kernel_rfl) ?qq54 (Or.inl ⟨?ww54, ?yy54⟩) hd0 ?rr54
        case ii54 => simp only [List.getElem?_toArray, List.getElem?_cons_succ, List.getElem?_cons_zero]; rfl
        case ff54 => kernel_rfl
        case qq54 => exact fun _ _ _ h => h
        case ww54 => rfl
        case yy54 => intro W hW; go_simp <;> with_reducible rfl
        try simp only [Act.put, List.setIfInBounds_toArray, List.set_cons_zero, List.set_cons_succ]
        refine wpAnyH_take (i := 14) (oi := ?oo55) (v := ?vv55) ?ii55 (by kernel_rfl) ?ff55 (by kernel_rfl) ?qq55 (Or.inl ⟨?ww55, ?yy55⟩) hd0 ?rr55
        case ii55 => simp only [List.getElem?_toArray, List.getElem?_cons_succ, List.getElem?_cons_zero]; rfl
        case ff55 => kernel_rfl
        case qq55 => exact fun _ _ _ h => h
        case ww55 => rfl
        case yy55 => intro W hW; go_simp <;> with_reducible rfl
        try simp only [Act.put, List.setIfInBounds_toArray, List.set_cons_zero, List.set_cons_succ]
        refine wpAnyH_take (i := 15) (oi := ?oo56) (v := ?vv56) ?ii56 (by kernel_rfl) ?ff56 (by kernel_rfl) ?qq56 (Or.inl ⟨?ww56, ?yy56⟩) hd0 ?rr56
        case ii56 => simp only [List.getElem?_toArray, List.getElem?_cons_succ, List.getElem?_cons_zero]; rfl
        case ff56 => kernel_rfl
        case qq56 => exact fun _ _ _ h => h
        case ww56 => rfl
        case yy56 => intro W hW; go_simp <;> with_reducible rfl
        try simp only [Act.put, List.setIfInBounds_toArray, List.set_cons_zero, List.set_cons_succ]
        refine wpAnyH_take (i := 16) (oi := ?oo57) (v := ?vv57) ?ii57 (by kernel_rfl) ?ff57 (by kernel_rfl) ?qq57 (Or.inl ⟨?ww57, ?yy57⟩) hd0 ?rr57
        case ii57 => simp only [List.getElem?_toArray, List.getElem?_cons_succ, List.getElem?_cons_zero]; rfl
        case ff57 => kernel_rfl
        case qq57 => exact fun _ _ _ h => h
        case ww57 => rfl
        case yy57 => intro W hW; go_simp <;> with_reducible rfl
        try simp only [Act.put, List.setIfInBounds_toArray, List.set_cons_zero, List.set_cons_succ]
        refine wpAnyH_take (i := 17) (oi := ?oo58) (v := ?vv58) ?ii58 (by kernel_rfl) ?ff58 (by kernel_rfl) ?qq58 (Or.inl ⟨?ww58, ?yy58⟩) hd0 ?rr58
        case ii58 => simp only [List.getElem?_toArray, List.getElem?_cons_succ, List.getElem?_cons_zero]; rfl
        case ff58 => kernel_rfl
        case qq58 => exact fun _ _ _ h => h
        case ww58 => rfl
        case yy58 => intro W hW; go_simp <;> with_reducible rfl
        try simp only [Act.put, List.setIfInBounds_toArray, List.set_cons_zero, List.set_cons_succ]
        refine wpAnyH_take (i := 18) (oi := ?oo59) (v := ?vv59) ?ii59 (by kernel_rfl) ?ff59 (by kernel_rfl) ?qq59 (Or.inl ⟨?ww59, ?yy59⟩) hd0 ?rr59
        case ii59 => simp only [List.getElem?_toArray, List.getElem?_cons_succ, List.getElem?_cons_zero]; rfl
        case ff59 => kernel_rfl
        case qq59 => exact fun _ _ _ h => h
        case ww59 => rfl
        case yy59 => intro W hW; go_simp <;> with_reducible rfl
        try simp only [Act.put, List.setIfInBounds_toArray, List.set_cons_zero, List.set_cons_succ]
        refine wpAnyH_ready (rs := [19]) (by kernel_rfl) (by simp) ?_
        refine AllReadyH.cons (o := ?oo60) ?ii60 (fun K hK => ?_) AllReadyH.nil
        case ii60 => simp only [List.getElem?_toArray, List.getElem?_cons_succ, List.getElem?_cons_zero]; rfl
        go_simp
        refine (HPc.out _).mono ?_
        rintro e w7 ⟨rfl, hb7⟩
        have hd7 := hd0.step hb7
        clear hb7
        go_wp2_with fail
        refine hK.out _ _ hd7 (fun _ => ?_)
        clear hK K
        refine wpAnyH_take (i := 20) (oi := ?oo61) (v := ?vv61) ?ii61 (by kernel_rfl) ?ff61 (by kernel_rfl) ?qq61 (Or.inl ⟨?ww61, ?yy61⟩) hd7 ?rr61
        case ii61 => simp only [List.getElem?_toArray, List.getElem?_cons_succ, List.getElem?_cons_zero]; rfl
        case ff61 => kernel_rfl
        case qq61 => exact fun _ _ _ h => h
        case ww61 => rfl
        case yy61 => intro W hW; go_simp <;> with_reducible rfl
        try simp only [Act.put, List.setIfInBounds_toArray, List.set_cons_zero, List.set_cons_succ]
        refine wpAnyH_take (i := 21) (oi := ?oo62) (v := ?vv62) ?ii62 (by kernel_rfl) ?ff62 (by kernel_rfl) ?qq62 (Or.inl ⟨?ww62, ?yy62⟩) hd7 ?rr62
        case ii62 => simp only [List.getElem?_toArray, List.getElem?_cons_succ, List.getElem?_cons_zero]; rfl
        case ff62 => kernel_rfl
        case qq62 => exact fun _ _ _ h => h
        case ww62 => rfl
        case yy62 => intro W hW; go_simp <;> with_reducible rfl
        try simp only [Act.put, List.setIfInBounds_toArray, List.set_cons_zero, List.set_cons_succ]
        refine wpAnyH_take (i := 22) (oi := ?oo63) (v := ?vv63) ?ii63 (by kernel_rfl) ?ff63 (by kernel_rfl) ?qq63 (Or.inl ⟨?ww63, ?yy63⟩) hd7 ?rr63
        case ii63 => simp only [List.getElem?_toArray, List.getElem?_cons_succ, List.getElem?_cons_zero]; rfl
        case ff63 => kernel_rfl
        case qq63 => exact fun _ _ _ h => h
        case ww63 => rfl
        case yy63 => intro W hW; go_simp <;> with_reducible rfl
        try simp only [Act.put, List.setIfInBounds_toArray, List.set_cons_zero, List.set_cons_succ]
        refine wpAnyH_done (by kernel_rfl) ?_ _
        have HF := Lib.hid hd7.below
        clear hd7
        go_wp2_with fail
        go_ret
        exact ⟨rfl, HF.out⟩
end Go.Proofs.Ytpfhkcikjenjiaa
