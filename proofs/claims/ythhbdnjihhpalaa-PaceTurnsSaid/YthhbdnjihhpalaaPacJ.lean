/- PaceTurns: the walk of the law where there is a pace. Conditions: where tables and comings lie, that there is one. -/
import Derived.Test.YthhbdnjihhpalaaPacI
namespace Go.Proofs.Ythhbdnjihhpalaa
open Go.RowKit
set_option maxRecDepth 100000

/-- What is left of a division by m. -/
theorem tmod_in11 (a m : Int) (hm : 0 < m) : -m < a.tmod m ∧ a.tmod m < m := ⟨Int.lt_tmod_of_pos a hm, Int.tmod_lt_of_pos a hm⟩
def TurnR (w : World) (x y : CfgC) (me since rate : Int) (cold : Bool) (b bk rb gd gh N n : Nat) (i : Value) (W : World) : Prop :=
  ∃ (k : Nat) (hs : List Bool) (ds : List Int), k ≤ n ∧ k ≤ 50 ∧ i = .int .i64 (k : Nat) ∧ PacQ.Devs ds ∧ PT w x y me since rate cold b bk rb gd gh N hs ds hs ds W
/-- How both Turns and Nexts end, at one state. -/
def Ends (w : World) (x y : CfgC) (me since rate : Int) (cold : Bool) (b bk rb gd gh N : Nat) (hs : List Bool) (ds : List Int) (v1 v2 v3 v4 : Value) : Prop :=
  (∀ W, PT w x y me since rate cold b bk rb gd gh N hs ds hs ds W → Calls Try.prog 13 #[pv b] W (fun e w' => e = .returned v1 ∧ PT w x y me since rate cold b bk rb gd gh N hs ds hs ds w')) ∧
  (∀ W, PT w x y me since rate cold b bk rb gd gh N hs ds hs ds W → Calls Try.prog 20 #[qv rb] W (fun e w' => e = .returned v2 ∧ PT w x y me since rate cold b bk rb gd gh N hs ds hs ds w')) ∧
  (∀ W, PT w x y me since rate cold b bk rb gd gh N hs ds hs ds W → Calls Try.prog 21 #[pv b] W (fun e w' => e = .returned v3 ∧ PT w x y me since rate cold b bk rb gd gh N hs ds hs ds w')) ∧
  (∀ W, PT w x y me since rate cold b bk rb gd gh N hs ds hs ds W → Calls Try.prog 22 #[qv rb] W (fun e w' => e = .returned v4 ∧ PT w x y me since rate cold b bk rb gd gh N hs ds hs ds w'))
theorem ends_any (w : World) (x y : CfgC) (me since rate : Int) (cold : Bool) (b bk rb gd gh N : Nat) (hs : List Bool) (ds : List Int) (e : y.plain = x.plain) (hN : x.nodes = (N : Int)) (hh : TableP.headOk x.plain) (hl : LawfulIn since rate) (hd : PacQ.Devs ds) :
    (∃ m nx, Ends w x y me since rate cold b bk rb gd gh N hs ds (.tuple #[.int .i64 m, .nilIface]) (.tuple #[.int .i64 m, strV []]) (.tuple #[.int .i64 nx, .nilIface]) (.tuple #[.int .i64 nx, strV []])) ∨
    Ends w x y me since rate cold b bk rb gd gh N hs ds (.tuple #[.int .i64 0, .iface 63 (.int .i64 2)]) (.tuple #[.int .i64 0, strV [50]]) (.tuple #[.int .i64 0, .iface 63 (.int .i64 2)]) (.tuple #[.int .i64 0, strV [50]]) := by
  have hx7 := (SndP.nums_in hh).nodes
  have hn7 : x.nodes ≤ 7 := hx7.2
  have hf2 := (SndP.nums_in hh).faulty
  have hf3 : 0 ≤ x.faulty := hf2.1
  obtain ⟨F, hF⟩ : ∃ F : Nat, x.faulty = (F : Int) := ⟨x.faulty.toNat, by omega⟩
  have hy : y.nodes = (N : Int) := (congrArg TableP.Cfg.nodes e).trans hN
  have hyF : y.faulty = (F : Int) := (congrArg TableP.Cfg.faulty e).trans hF
  have hhy : TableP.headOk y.plain := by rw [e]; exact hh
  by_cases hc : 2 * F + 1 ≤ (PacQ.cntd cold me hs ds N).length
  · refine .inl ⟨MidP.midT (PacQ.cntd cold me hs ds N) F, nextT x.plain since rate (MidP.midT (PacQ.cntd cold me hs ds N) F), fun W hW => ?_, fun W hW => ?_, fun W hW => ?_, fun W hW => ?_⟩
    · exact (pturn_good y me cold bk since rate hs ds N F hy hyF (by omega) hd hc b W hW.pace).mono fun e' w' ⟨h1, h2⟩ => ⟨h1, hW.step h2⟩
    · exact (rturn_good x me since rate cold gd gh N hs ds F hN hF (by omega) hd hc _ rb W hW.ref).mono fun e' w' ⟨h1, h2⟩ => ⟨h1, hW.step h2⟩
    · have h3 := pnext_good y me cold bk since rate hs ds N F hy hyF (by omega) hd hc b W hW.pace hhy
      rw [e] at h3
      exact h3.mono fun e' w' ⟨h1, h2⟩ => ⟨h1, hW.step h2⟩
    · exact (rnext_good x me since rate cold gd gh N hs ds F hN hF (by omega) hl hd hc _ rb W hW.ref hh).mono fun e' w' ⟨h1, h2⟩ => ⟨h1, hW.step h2⟩
  · refine .inr ⟨fun W hW => ?_, fun W hW => ?_, fun W hW => ?_, fun W hW => ?_⟩
    · exact (pturn_bad y me cold bk since rate hs ds N F hy hyF (by omega) hc b W hW.pace).mono fun e' w' ⟨h1, h2⟩ => ⟨h1, hW.step h2⟩
    · exact (rturn_bad x me since rate cold gd gh N hs ds F hN hF (by omega) hc _ rb W hW.ref).mono fun e' w' ⟨h1, h2⟩ => ⟨by rw [h1, numN2], hW.step h2⟩
    · exact (pnext_bad y me cold bk since rate hs ds N F hy hyF (by omega) hc b W hW.pace).mono fun e' w' ⟨h1, h2⟩ => ⟨h1, hW.step h2⟩
    · exact (rnext_bad x me since rate cold gd gh N hs ds F hN hF (by omega) hc _ rb W hW.ref).mono fun e' w' ⟨h1, h2⟩ => ⟨by rw [h1, numN2], hW.step h2⟩

set_option maxHeartbeats 3000000 in
theorem pturns_good (x : CfgC) (me since rate : Int) (cold : Bool) (A : Option Addr) (l : List HeardG) (n cap : Nat) (hl : l.length = n) (hn : n * 16 ≤ 140737488355328) (hf : SndP.chk6 x.plain = none) (hL : longB6 x = false) (hm : -1 ≤ me ∧ me < x.nodes) (hlw : LawfulIn since rate) (w : World) (h : CfgIn w x) (hin : ItemsIn heardVals 2 w A l) :
    Calls Try.prog 3 #[x.value, .agg #[.int .i64 me, .int .i64 since, .int .i64 rate, .bool cold], .slice A n cap] w (TruePost w) := by
  have HA := Lib.hid (fun W => awake11_any W)
  have HLg := Lib.hid (fun W => long6_any x W)
  rw [hL] at HLg
  have HST := Lib.hid (BoxWS.start w x me since rate cold)
  have HRc := Lib.hid (fun W (hW : BoxWS w x me since rate cold W) => rcheck_any x W (h.below hW.below))
  rw [hf] at HRc
  unfold RefChkPost strV at HRc
  simp only [wrongT] at HRc
  have HCp : Hid (∀ W, BoxWS w x me since rate cold W → Calls Try.prog 9 #[x.value] W (CopiedPost x.plain W)) := Lib.hid fun W hW => by
    have := longB6_no hL
    exact copied_any x W (h.below hW.below) (by omega) (by omega) (by omega)
  have HN : Hid (∀ y W, CfgIn W y → y.plain = x.plain → Calls Try.prog 8 #[y.value, .int .i64 me, .int .i64 since, .int .i64 rate, .bool cold] W (NewPace y me since rate cold W)) := Lib.hid fun y W hy e => pnew_good y me since rate cold W hy (by rw [e]; exact hf) (by have : y.nodes = x.nodes := congrArg TableP.Cfg.nodes e; omega) hlw
  have hhd := (SndP.works hf).allowed.head
  have hnn : 1 ≤ x.nodes ∧ x.nodes ≤ 7 := (SndP.nums_in hhd).nodes
  have HB := Lib.hid (fun (y : CfgC) (e : y.plain = x.plain) b bk rb gd gh N hs ds no t hN ht hd hl7 => hear_both w x y me since rate cold b bk rb gd gh N hs ds no t e hN hhd hlw.2.2 ht hd hl7)
  have HE := Lib.hid (fun (y : CfgC) (e : y.plain = x.plain) b bk rb gd gh N hs ds hN hd => ends_any w x y me since rate cold b bk rb gd gh N hs ds e hN hhd hlw hd)
  have HLo := Lib.hid (fun (y : CfgC) b bk rb gd gh N hs ds hs2 ds2 t (ht : FarIn (t - since)) W (hW : PT w x y me since rate cold b bk rb gd gh N hs ds hs2 ds2 W) => plocal_any b y me cold bk since rate hs ds t ht W hW.pace)
  have HRl := Lib.hid (fun t (ht : FarIn (t - since)) W => reflocal_any since rate t hlw.2.2 ht W)
  have HPd := Lib.hid (fun N (hN : x.nodes = ((N : Nat) : Int)) W => paced_any x me since rate cold N hN (by omega) W)
  have HIn := Lib.hid (fun W (hW : BoxWS w x me since rate cold W) k y hy => heard_cells (hin.below hW.below) (k := k) (n := y.node) (o := y.behind) (show l[k]? = some y from hy))
  have HL := Lib.hid hl
  obtain ⟨s1, s2, s3, s4⟩ := hlw
  clear hL h hin hl hhd hf
  obtain ⟨nodes, faulty, slot, gap, rho, dmin, dmax, margin, PA, pn, pcap, parts, QA, qn, qcap, ports, RA, rn, rcap, routes⟩ := x
  have d0 := fun W (hW : BoxWS w ⟨nodes, faulty, slot, gap, rho, dmin, dmax, margin, PA, pn, pcap, parts, QA, qn, qcap, ports, RA, rn, rcap, routes⟩ me since rate cold W) => hW.cells.c0
  have d1 := fun W (hW : BoxWS w ⟨nodes, faulty, slot, gap, rho, dmin, dmax, margin, PA, pn, pcap, parts, QA, qn, qcap, ports, RA, rn, rcap, routes⟩ me since rate cold W) => hW.cells.c1
  have d2 := fun W (hW : BoxWS w ⟨nodes, faulty, slot, gap, rho, dmin, dmax, margin, PA, pn, pcap, parts, QA, qn, qcap, ports, RA, rn, rcap, routes⟩ me since rate cold W) => hW.cells.c2
  have d3 := fun W (hW : BoxWS w ⟨nodes, faulty, slot, gap, rho, dmin, dmax, margin, PA, pn, pcap, parts, QA, qn, qcap, ports, RA, rn, rcap, routes⟩ me since rate cold W) => hW.cells.c3
  have d4 := fun W (hW : BoxWS w ⟨nodes, faulty, slot, gap, rho, dmin, dmax, margin, PA, pn, pcap, parts, QA, qn, qcap, ports, RA, rn, rcap, routes⟩ me since rate cold W) => hW.cells.c4
  have d5 := fun W (hW : BoxWS w ⟨nodes, faulty, slot, gap, rho, dmin, dmax, margin, PA, pn, pcap, parts, QA, qn, qcap, ports, RA, rn, rcap, routes⟩ me since rate cold W) => hW.cells.c5
  have d6 := fun W (hW : BoxWS w ⟨nodes, faulty, slot, gap, rho, dmin, dmax, margin, PA, pn, pcap, parts, QA, qn, qcap, ports, RA, rn, rcap, routes⟩ me since rate cold W) => hW.cells.c6
  have d7 := fun W (hW : BoxWS w ⟨nodes, faulty, slot, gap, rho, dmin, dmax, margin, PA, pn, pcap, parts, QA, qn, qcap, ports, RA, rn, rcap, routes⟩ me since rate cold W) => hW.cells.c7
  have d8 := fun W (hW : BoxWS w ⟨nodes, faulty, slot, gap, rho, dmin, dmax, margin, PA, pn, pcap, parts, QA, qn, qcap, ports, RA, rn, rcap, routes⟩ me since rate cold W) => hW.cells.c8
  have d9 := fun W (hW : BoxWS w ⟨nodes, faulty, slot, gap, rho, dmin, dmax, margin, PA, pn, pcap, parts, QA, qn, qcap, ports, RA, rn, rcap, routes⟩ me since rate cold W) => hW.cells.c9
  have d10 := fun W (hW : BoxWS w ⟨nodes, faulty, slot, gap, rho, dmin, dmax, margin, PA, pn, pcap, parts, QA, qn, qcap, ports, RA, rn, rcap, routes⟩ me since rate cold W) => hW.cells.c10
  have e0 : ∀ W, BoxWS w ⟨nodes, faulty, slot, gap, rho, dmin, dmax, margin, PA, pn, pcap, parts, QA, qn, qcap, ports, RA, rn, rcap, routes⟩ me since rate cold W → W.cell? ⟨w.heap.size + 1, 0, none⟩ = some (.int .i64 me) := fun W hW => hW.w0
  have e1 : ∀ W, BoxWS w ⟨nodes, faulty, slot, gap, rho, dmin, dmax, margin, PA, pn, pcap, parts, QA, qn, qcap, ports, RA, rn, rcap, routes⟩ me since rate cold W → W.cell? ⟨w.heap.size + 1, 1, none⟩ = some (.int .i64 since) := fun W hW => hW.w1
  have e2 : ∀ W, BoxWS w ⟨nodes, faulty, slot, gap, rho, dmin, dmax, margin, PA, pn, pcap, parts, QA, qn, qcap, ports, RA, rn, rcap, routes⟩ me since rate cold W → W.cell? ⟨w.heap.size + 1, 2, none⟩ = some (.int .i64 rate) := fun W hW => hW.w2
  have e3 : ∀ W, BoxWS w ⟨nodes, faulty, slot, gap, rho, dmin, dmax, margin, PA, pn, pcap, parts, QA, qn, qcap, ports, RA, rn, rcap, routes⟩ me since rate cold W → W.cell? ⟨w.heap.size + 1, 3, none⟩ = some (.bool cold) := fun W hW => hW.w3
  simp only at d0 d1 d2 d3 d4 d5 d6 d7 d8 d9 d10 hnn hm
  have q0 : decide (me < -1) = false := decide_eq_false (by omega)
  have q1 : decide (nodes ≤ me) = false := decide_eq_false (by omega)
  have q2 : decide (since < 0) = false := decide_eq_false (by omega)
  have q3 : decide (1125899906842624 < since) = false := decide_eq_false (by omega)
  have q4 : decide (rate < -200) = false := decide_eq_false (by omega)
  have q5 : decide (200 < rate) = false := decide_eq_false (by omega)
  clear hm
  simp only [CfgC.value] at HLg HRc HCp HPd ⊢
  simp only [boxW, boxC, cfgCells, whoCells] at HST
  obtain ⟨N, rfl⟩ : ∃ N : Nat, nodes = N := ⟨nodes.toNat, by omega⟩
  go_enter Try.func3, Try.ntmps3
  go_wp2_with fail
  refine (HA.out _).mono ?_
  rintro e w1 ⟨rfl, hb1⟩
  have hd1 := HST.out.step hb1
  clear hb1 HA
  have k0 := d0 _ hd1
  have k1 := d1 _ hd1
  have k2 := d2 _ hd1
  have k3 := d3 _ hd1
  have k4 := d4 _ hd1
  have k5 := d5 _ hd1
  have k6 := d6 _ hd1
  have k7 := d7 _ hd1
  have k8 := d8 _ hd1
  have k9 := d9 _ hd1
  have k10 := d10 _ hd1
  have j0 := e0 _ hd1
  have j1 := e1 _ hd1
  have j2 := e2 _ hd1
  have j3 := e3 _ hd1
  have Hd1 := Lib.hid hd1
  clear hd1
  go_wp2_with fail
  refine (HLg.out _).mono ?_
  rintro e w2 ⟨rfl, hb2⟩
  have hd2 := Hd1.out.step hb2
  clear hb2 Hd1 HLg k0 k1 k2 k3 k4 k5 k6 k7 k8 k9 k10 j0 j1 j2 j3
  go_wp2_with fail
  refine wp_region_held_drew (S := fun W => BoxWS w ⟨(N : Int), faulty, slot, gap, rho, dmin, dmax, margin, PA, pn, pcap, parts, QA, qn, qcap, ports, RA, rn, rcap, routes⟩ me since rate cold W) (by kernel_rfl) hd2.drew (fun _ => ?_)
  refine wpAnyH_take (i := 0) (oi := ?oo1) (v := ?vv1) ?ii1 (by kernel_rfl) ?ff1 (by kernel_rfl) ?qq1 (Or.inl ⟨?ww1, ?yy1⟩) hd2.drew ?rr1
  case ii1 => simp only [List.getElem?_toArray, List.getElem?_cons_zero]; rfl
  case ff1 => kernel_rfl
  case qq1 => exact fun _ _ _ h => h
  case ww1 => rfl
  case yy1 => intro W hW; go_simp <;> with_reducible rfl
  try simp only [Act.put, List.setIfInBounds_toArray, List.set_cons_zero, List.set_cons_succ]
  refine wpAnyH_take (i := 2) (oi := ?oo2) (v := ?vv2) ?ii2 (by kernel_rfl) ?ff2 (by kernel_rfl) ?qq2 (Or.inl ⟨?ww2, ?yy2⟩) hd2.drew ?rr2
  case ii2 => simp only [List.getElem?_toArray, List.getElem?_cons_succ, List.getElem?_cons_zero]; rfl
  case ff2 => kernel_rfl
  case qq2 => exact fun _ _ _ h => h
  case ww2 => rfl
  case yy2 => intro W hW; go_simp <;> with_reducible rfl
  try simp only [Act.put, List.setIfInBounds_toArray, List.set_cons_zero, List.set_cons_succ]
  refine wpAnyH_take (i := 3) (oi := ?oo3) (v := ?vv3) ?ii3 (by kernel_rfl) ?ff3 (by kernel_rfl) ?qq3 (Or.inl ⟨?ww3, ?yy3⟩) hd2.drew ?rr3
  case ii3 => simp only [List.getElem?_toArray, List.getElem?_cons_succ, List.getElem?_cons_zero]; rfl
  case ff3 => kernel_rfl
  case qq3 => exact fun _ _ _ h => h
  case ww3 => rfl
  case yy3 => intro W hW; go_simp <;> with_reducible rfl
  try simp only [Act.put, List.setIfInBounds_toArray, List.set_cons_zero, List.set_cons_succ]
  refine wpAnyH_take (i := 4) (oi := ?oo4) (v := ?vv4) ?ii4 (by kernel_rfl) ?ff4 (by kernel_rfl) ?qq4 (Or.inl ⟨?ww4, ?yy4⟩) hd2.drew ?rr4
  case ii4 => simp only [List.getElem?_toArray, List.getElem?_cons_succ, List.getElem?_cons_zero]; rfl
  case ff4 => kernel_rfl
  case qq4 => exact fun _ _ _ h => h
  case ww4 => rfl
  case yy4 => intro W hW; go_simp <;> with_reducible rfl
  try simp only [Act.put, List.setIfInBounds_toArray, List.set_cons_zero, List.set_cons_succ]
  refine wpAnyH_take (i := 5) (oi := ?oo5) (v := ?vv5) ?ii5 (by kernel_rfl) ?ff5 (by kernel_rfl) ?qq5 (Or.inl ⟨?ww5, ?yy5⟩) hd2.drew ?rr5
  case ii5 => simp only [List.getElem?_toArray, List.getElem?_cons_succ, List.getElem?_cons_zero]; rfl
  case ff5 => kernel_rfl
  case qq5 => exact fun _ _ _ h => h
  case ww5 => rfl
  case yy5 => intro W hW; go_simp <;> with_reducible rfl
  try simp only [Act.put, List.setIfInBounds_toArray, List.set_cons_zero, List.set_cons_succ]
  refine wpAnyH_take (i := 6) (oi := ?oo6) (v := ?vv6) ?ii6 (by kernel_rfl) ?ff6 (by kernel_rfl) ?qq6 (Or.inl ⟨?ww6, ?yy6⟩) hd2.drew ?rr6
  case ii6 => simp only [List.getElem?_toArray, List.getElem?_cons_succ, List.getElem?_cons_zero]; rfl
  case ff6 => kernel_rfl
  case qq6 => exact fun _ _ _ h => h
  case ww6 => rfl
  case yy6 => intro W hW; go_simp <;> with_reducible rfl
  try simp only [Act.put, List.setIfInBounds_toArray, List.set_cons_zero, List.set_cons_succ]
  refine wpAnyH_take (i := 7) (oi := ?oo7) (v := ?vv7) ?ii7 (by kernel_rfl) ?ff7 (by kernel_rfl) ?qq7 (Or.inl ⟨?ww7, ?yy7⟩) hd2.drew ?rr7
  case ii7 => simp only [List.getElem?_toArray, List.getElem?_cons_succ, List.getElem?_cons_zero]; rfl
  case ff7 => kernel_rfl
  case qq7 => exact fun _ _ _ h => h
  case ww7 => rfl
  case yy7 => intro W hW; go_simp <;> with_reducible rfl
  try simp only [Act.put, List.setIfInBounds_toArray, List.set_cons_zero, List.set_cons_succ]
  refine wpAnyH_take (i := 8) (oi := ?oo8) (v := ?vv8) ?ii8 (by kernel_rfl) ?ff8 (by kernel_rfl) ?qq8 (Or.inl ⟨?ww8, ?yy8⟩) hd2.drew ?rr8
  case ii8 => simp only [List.getElem?_toArray, List.getElem?_cons_succ, List.getElem?_cons_zero]; rfl
  case ff8 => kernel_rfl
  case qq8 => exact fun _ _ _ h => h
  case ww8 => rfl
  case yy8 => intro W hW; go_simp <;> with_reducible rfl
  try simp only [Act.put, List.setIfInBounds_toArray, List.set_cons_zero, List.set_cons_succ]
  refine wpAnyH_take (i := 9) (oi := ?oo9) (v := ?vv9) ?ii9 (by kernel_rfl) ?ff9 (by kernel_rfl) ?qq9 (Or.inl ⟨?ww9, ?yy9⟩) hd2.drew ?rr9
  case ii9 => simp only [List.getElem?_toArray, List.getElem?_cons_succ, List.getElem?_cons_zero]; rfl
  case ff9 => kernel_rfl
  case qq9 => exact fun _ _ _ h => h
  case ww9 => rfl
  case yy9 => intro W hW; go_simp <;> with_reducible rfl
  try simp only [Act.put, List.setIfInBounds_toArray, List.set_cons_zero, List.set_cons_succ]
  refine wpAnyH_ready (rs := [1]) (by kernel_rfl) (by simp) ?_
  refine AllReadyH.cons (o := ?oo10) ?ii10 (fun K hK => ?_) AllReadyH.nil
  case ii10 => simp only [List.getElem?_toArray, List.getElem?_cons_succ, List.getElem?_cons_zero]; rfl
  go_simp
  refine (HCp.out _ hd2.drew).mono ?_
  rintro e w3 ⟨v3, rfl, ⟨y, rfl, hx3, hp3⟩, hb3⟩
  have hd3 := hd2.drew.step hb3
  have HN3 := Lib.hid (HN.out y _ hx3 hp3)
  replace HB := Lib.hid (HB.out y hp3)
  replace HE := Lib.hid (HE.out y hp3)
  replace HLo := Lib.hid (HLo.out y)
  clear hx3 hp3 hb3 hd2 HN HCp
  go_wp2_with fail
  refine hK.out _ _ hd3 (fun _ => ?_)
  clear hK K
  refine wpAnyH_ready (rs := [10]) (by kernel_rfl) (by simp) ?_
  refine AllReadyH.cons (o := ?oo11) ?ii11 (fun K hK => ?_) AllReadyH.nil
  case ii11 => simp only [List.getElem?_toArray, List.getElem?_cons_succ, List.getElem?_cons_zero]; rfl
  go_simp
  refine HN3.out.mono ?_
  rintro e w4 ⟨b, bk, rfl, hp4, hlo, -, hb4⟩
  have hd4 := hd3.step hb4
  have HP4 := Lib.hid (fun W (hW : Below w4.heap.size w4 W) => hp4.below hW)
  have HLo4 := Lib.hid (Nat.le_trans hd3.size hlo)
  clear hb4 HN3 hd3 hp4 hlo
  go_wp2_with fail
  refine hK.out _ _ hd4 (fun _ => ?_)
  clear hK K
  refine wpAnyH_take (i := 11) (oi := ?oo12) (v := ?vv12) ?ii12 (by kernel_rfl) ?ff12 (by kernel_rfl) ?qq12 (Or.inl ⟨?ww12, ?yy12⟩) hd4 ?rr12
  case ii12 => simp only [List.getElem?_toArray, List.getElem?_cons_succ, List.getElem?_cons_zero]; rfl
  case ff12 => kernel_rfl
  case qq12 => exact fun _ _ _ h => h
  case ww12 => rfl
  case yy12 => intro W hW; go_simp <;> with_reducible rfl
  try simp only [Act.put, List.setIfInBounds_toArray, List.set_cons_zero, List.set_cons_succ]
  refine wpAnyH_take (i := 12) (oi := ?oo13) (v := ?vv13) ?ii13 (by kernel_rfl) ?ff13 (by kernel_rfl) ?qq13 (Or.inl ⟨?ww13, ?yy13⟩) hd4 ?rr13
  case ii13 => simp only [List.getElem?_toArray, List.getElem?_cons_succ, List.getElem?_cons_zero]; rfl
  case ff13 => kernel_rfl
  case qq13 => exact fun _ _ _ h => h
  case ww13 => rfl
  case yy13 => intro W hW; go_simp <;> with_reducible rfl
  try simp only [Act.put, List.setIfInBounds_toArray, List.set_cons_zero, List.set_cons_succ]
  refine wpAnyH_take (i := 13) (oi := ?oo14) (v := ?vv14) ?ii14 (by kernel_rfl) ?ff14 (by kernel_rfl) ?qq14 (Or.inl ⟨?ww14, ?yy14⟩) hd4 ?rr14
  case ii14 => simp only [List.getElem?_toArray, List.getElem?_cons_succ, List.getElem?_cons_zero]; rfl
  case ff14 => kernel_rfl
  case qq14 => exact fun _ _ _ h => h
  case ww14 => rfl
  case yy14 => intro W hW; go_simp <;> with_reducible rfl
  try simp only [Act.put, List.setIfInBounds_toArray, List.set_cons_zero, List.set_cons_succ]
  refine wpAnyH_take (i := 14) (oi := ?oo15) (v := ?vv15) ?ii15 (by kernel_rfl) ?ff15 (by kernel_rfl) ?qq15 (Or.inl ⟨?ww15, ?yy15⟩) hd4 ?rr15
  case ii15 => simp only [List.getElem?_toArray, List.getElem?_cons_succ, List.getElem?_cons_zero]; rfl
  case ff15 => kernel_rfl
  case qq15 => exact fun _ _ _ h => h
  case ww15 => rfl
  case yy15 => intro W hW; go_simp <;> with_reducible rfl
  try simp only [Act.put, List.setIfInBounds_toArray, List.set_cons_zero, List.set_cons_succ]
  refine wpAnyH_take (i := 15) (oi := ?oo16) (v := ?vv16) ?ii16 (by kernel_rfl) ?ff16 (by kernel_rfl) ?qq16 (Or.inl ⟨?ww16, ?yy16⟩) hd4 ?rr16
  case ii16 => simp only [List.getElem?_toArray, List.getElem?_cons_succ, List.getElem?_cons_zero]; rfl
  case ff16 => kernel_rfl
  case qq16 => exact fun _ _ _ h => h
  case ww16 => rfl
  case yy16 => intro W hW; go_simp <;> with_reducible rfl
  try simp only [Act.put, List.setIfInBounds_toArray, List.set_cons_zero, List.set_cons_succ]
  refine wpAnyH_done (by kernel_rfl) ?_ _
  have k0 := d0 _ hd4
  have k1 := d1 _ hd4
  have k2 := d2 _ hd4
  have k3 := d3 _ hd4
  have k4 := d4 _ hd4
  have k5 := d5 _ hd4
  have k6 := d6 _ hd4
  have k7 := d7 _ hd4
  have k8 := d8 _ hd4
  have k9 := d9 _ hd4
  have k10 := d10 _ hd4
  have j0 := e0 _ hd4
  have j1 := e1 _ hd4
  have j2 := e2 _ hd4
  have j3 := e3 _ hd4
  have Hd4 := Lib.hid hd4
  clear hd4
  unfold pv at *
  go_wp2_with fail
  refine (HRc.out _ Hd4.out).mono ?_
  rintro e w5 ⟨rfl, hb5⟩
  have hd5 := Hd4.out.step hb5
  have Hb5 := Lib.hid hb5
  clear hb5 Hd4 HRc k0 k1 k2 k3 k4 k5 k6 k7 k8 k9 k10 j0 j1 j2 j3
  have k0 := d0 _ hd5
  have k1 := d1 _ hd5
  have k2 := d2 _ hd5
  have k3 := d3 _ hd5
  have k4 := d4 _ hd5
  have k5 := d5 _ hd5
  have k6 := d6 _ hd5
  have k7 := d7 _ hd5
  have k8 := d8 _ hd5
  have k9 := d9 _ hd5
  have k10 := d10 _ hd5
  have j0 := e0 _ hd5
  have j1 := e1 _ hd5
  have j2 := e2 _ hd5
  have j3 := e3 _ hd5
  have Hd5 := Lib.hid hd5
  clear hd5
  go_wp2_with fail
  refine (read_nil11 _).mono ?_
  rintro e w6 ⟨rfl, hb6⟩
  have hd6 := Hd5.out.step hb6
  have Hb6 := Lib.hid (Hb5.out.trans (hb6.mono Hb5.out.size))
  clear hb6 Hd5 Hb5 k0 k1 k2 k3 k4 k5 k6 k7 k8 k9 k10 j0 j1 j2 j3
  have k0 := d0 _ hd6
  have k1 := d1 _ hd6
  have k2 := d2 _ hd6
  have k3 := d3 _ hd6
  have k4 := d4 _ hd6
  have k5 := d5 _ hd6
  have k6 := d6 _ hd6
  have k7 := d7 _ hd6
  have k8 := d8 _ hd6
  have k9 := d9 _ hd6
  have k10 := d10 _ hd6
  have j0 := e0 _ hd6
  have j1 := e1 _ hd6
  have j2 := e2 _ hd6
  have j3 := e3 _ hd6
  have Hd6 := Lib.hid hd6
  clear hd6
  go_wp2_with fail
  refine (HPd.out N rfl _).mono ?_
  rintro e w7 ⟨rb, gd, gh, rfl, hr7, hb7⟩
  have hd7 := Hd6.out.step hb7
  have HS : Hid (TurnR w ⟨(N : Int), faulty, slot, gap, rho, dmin, dmax, margin, PA, pn, pcap, parts, QA, qn, qcap, ports, RA, rn, rcap, routes⟩ y me since rate cold b bk rb gd gh N n (.int .i64 0) w7) := Lib.hid
    ⟨0, h0, z0, by omega, by omega, rfl, zdevs, hd7, HP4.out _ (Hb6.out.trans (hb7.mono Hb6.out.size)), ⟨hr7.at_, Nat.le_trans Hd6.out.size hr7.lo, ilow hr7.devs Hd6.out.size, ilow hr7.has Hd6.out.size, hr7.hlen, hr7.dlen⟩, HLo4.out⟩
  clear hb7 hr7 hd7 Hd6 Hb6 HP4 HLo4 HPd k0 k1 k2 k3 k4 k5 k6 k7 k8 k9 k10 j0 j1 j2 j3
  unfold qv at *
  go_wp2_with fail
  go_loopw [13] (TurnR w ⟨(N : Int), faulty, slot, gap, rho, dmin, dmax, margin, PA, pn, pcap, parts, QA, qn, qcap, ports, RA, rn, rcap, routes⟩ y me since rate cold b bk rb gd gh N n) (fun i _ => (51 - intOf i).toNat)
  case atStart => exact HS.out
  case round =>
    clear HS
    obtain ⟨k, hs, ds, hk, hk2, rfl, hdv, hG⟩ := hrel
    have HG := Lib.hid hG
    clear hG
    by_cases hkn : k < n ∧ k < 50
    case neg =>
      have HE9 := HE.out b bk rb gd gh N hs ds rfl hdv
      clear HB HLo HRl HIn HE hdv
      unfold Ends pv qv strV at HE9
      rcases HE9 with ⟨m, nx, HE9⟩ | HE9
      · obtain ⟨hT1, hT2, hT3, hT4⟩ := HE9
        have T1 := Lib.hid hT1
        have T2 := Lib.hid hT2
        have T3 := Lib.hid hT3
        have T4 := Lib.hid hT4
        clear hT1 hT2 hT3 hT4
        by_cases hkn1 : k < n
        · obtain rfl : k = 50 := by omega
          have q6 : decide ((50 : Int) < (n : Int)) = true := decide_eq_true (by omega)
          have q6n : decide (50 < n) = true := decide_eq_true (by omega)
          clear hkn hkn1
          go_wp2_with fail
          refine (T1.out _ HG.out).mono ?_
          rintro e w8 ⟨rfl, hg8⟩
          have HG8 := Lib.hid hg8
          clear hg8 HG T1
          go_wp2_with fail
          refine (T2.out _ HG8.out).mono ?_
          rintro e w9 ⟨rfl, hg9⟩
          have HG9 := Lib.hid hg9
          clear hg9 HG8 T2
          go_wp2_with fail
          refine (T3.out _ HG9.out).mono ?_
          rintro e w10 ⟨rfl, hg10⟩
          have HG10 := Lib.hid hg10
          clear hg10 HG9 T3
          go_wp2_with fail
          refine (T4.out _ HG10.out).mono ?_
          rintro e w11 ⟨rfl, hg11⟩
          have HF := Lib.hid hg11.box.below
          clear hg11 HG10 T4
          go_wp2_with fail
          refine (read_nil11 _).mono ?_
          rintro e w12 ⟨rfl, hb12⟩
          have HF12 := Lib.hid (HF.out.trans (hb12.mono HF.out.size))
          clear hb12 HF
          go_wp2_with fail
          refine (read_nil11 _).mono ?_
          rintro e w13 ⟨rfl, hb13⟩
          have HF13 := Lib.hid (HF12.out.trans (hb13.mono HF12.out.size))
          clear hb13 HF12
          go_wp2_with fail
          go_ret
          exact ⟨rfl, HF13.out⟩
        · have q6 : decide ((k : Int) < (n : Int)) = false := decide_eq_false (by omega)
          have q6n : decide (k < n) = false := decide_eq_false (by omega)
          clear hkn hkn1
          go_wp2_with fail
          refine (T1.out _ HG.out).mono ?_
          rintro e w8 ⟨rfl, hg8⟩
          have HG8 := Lib.hid hg8
          clear hg8 HG T1
          go_wp2_with fail
          refine (T2.out _ HG8.out).mono ?_
          rintro e w9 ⟨rfl, hg9⟩
          have HG9 := Lib.hid hg9
          clear hg9 HG8 T2
          go_wp2_with fail
          refine (T3.out _ HG9.out).mono ?_
          rintro e w10 ⟨rfl, hg10⟩
          have HG10 := Lib.hid hg10
          clear hg10 HG9 T3
          go_wp2_with fail
          refine (T4.out _ HG10.out).mono ?_
          rintro e w11 ⟨rfl, hg11⟩
          have HF := Lib.hid hg11.box.below
          clear hg11 HG10 T4
          go_wp2_with fail
          refine (read_nil11 _).mono ?_
          rintro e w12 ⟨rfl, hb12⟩
          have HF12 := Lib.hid (HF.out.trans (hb12.mono HF.out.size))
          clear hb12 HF
          go_wp2_with fail
          refine (read_nil11 _).mono ?_
          rintro e w13 ⟨rfl, hb13⟩
          have HF13 := Lib.hid (HF12.out.trans (hb13.mono HF12.out.size))
          clear hb13 HF12
          go_wp2_with fail
          go_ret
          exact ⟨rfl, HF13.out⟩
      · obtain ⟨hT1, hT2, hT3, hT4⟩ := HE9
        have T1 := Lib.hid hT1
        have T2 := Lib.hid hT2
        have T3 := Lib.hid hT3
        have T4 := Lib.hid hT4
        clear hT1 hT2 hT3 hT4
        by_cases hkn1 : k < n
        · obtain rfl : k = 50 := by omega
          have q6 : decide ((50 : Int) < (n : Int)) = true := decide_eq_true (by omega)
          have q6n : decide (50 < n) = true := decide_eq_true (by omega)
          clear hkn hkn1
          go_wp2_with fail
          refine (T1.out _ HG.out).mono ?_
          rintro e w8 ⟨rfl, hg8⟩
          have HG8 := Lib.hid hg8
          clear hg8 HG T1
          go_wp2_with fail
          refine (T2.out _ HG8.out).mono ?_
          rintro e w9 ⟨rfl, hg9⟩
          have HG9 := Lib.hid hg9
          clear hg9 HG8 T2
          go_wp2_with fail
          refine (T3.out _ HG9.out).mono ?_
          rintro e w10 ⟨rfl, hg10⟩
          have HG10 := Lib.hid hg10
          clear hg10 HG9 T3
          go_wp2_with fail
          refine (T4.out _ HG10.out).mono ?_
          rintro e w11 ⟨rfl, hg11⟩
          have HF := Lib.hid hg11.box.below
          clear hg11 HG10 T4
          go_wp2_with fail
          refine (read_two11 _).mono ?_
          rintro e w12 ⟨rfl, hb12⟩
          have HF12 := Lib.hid (HF.out.trans (hb12.mono HF.out.size))
          clear hb12 HF
          go_wp2_with fail
          refine (read_two11 _).mono ?_
          rintro e w13 ⟨rfl, hb13⟩
          have HF13 := Lib.hid (HF12.out.trans (hb13.mono HF12.out.size))
          clear hb13 HF12
          go_wp2_with fail
          go_ret
          exact ⟨rfl, HF13.out⟩
        · have q6 : decide ((k : Int) < (n : Int)) = false := decide_eq_false (by omega)
          have q6n : decide (k < n) = false := decide_eq_false (by omega)
          clear hkn hkn1
          go_wp2_with fail
          refine (T1.out _ HG.out).mono ?_
          rintro e w8 ⟨rfl, hg8⟩
          have HG8 := Lib.hid hg8
          clear hg8 HG T1
          go_wp2_with fail
          refine (T2.out _ HG8.out).mono ?_
          rintro e w9 ⟨rfl, hg9⟩
          have HG9 := Lib.hid hg9
          clear hg9 HG8 T2
          go_wp2_with fail
          refine (T3.out _ HG9.out).mono ?_
          rintro e w10 ⟨rfl, hg10⟩
          have HG10 := Lib.hid hg10
          clear hg10 HG9 T3
          go_wp2_with fail
          refine (T4.out _ HG10.out).mono ?_
          rintro e w11 ⟨rfl, hg11⟩
          have HF := Lib.hid hg11.box.below
          clear hg11 HG10 T4
          go_wp2_with fail
          refine (read_two11 _).mono ?_
          rintro e w12 ⟨rfl, hb12⟩
          have HF12 := Lib.hid (HF.out.trans (hb12.mono HF.out.size))
          clear hb12 HF
          go_wp2_with fail
          refine (read_two11 _).mono ?_
          rintro e w13 ⟨rfl, hb13⟩
          have HF13 := Lib.hid (HF12.out.trans (hb13.mono HF12.out.size))
          clear hb13 HF12
          go_wp2_with fail
          go_ret
          exact ⟨rfl, HF13.out⟩
    obtain ⟨hkn, hk50⟩ := hkn
    obtain ⟨⟨no, of⟩, hx⟩ : ∃ y, l[k]? = some y := ⟨_, List.getElem?_eq_getElem (by have := HL.out; omega)⟩
    obtain ⟨bc, oc, ec, -, -, -⟩ := HIn.out wr HG.out.box k _ hx
    have c0 : ∀ W, BoxWS w ⟨(N : Int), faulty, slot, gap, rho, dmin, dmax, margin, PA, pn, pcap, parts, QA, qn, qcap, ports, RA, rn, rcap, routes⟩ me since rate cold W → W.cell? ⟨bc, oc + k * 2, none⟩ = some (.int .i64 no) := fun W hW => by
      obtain ⟨b', o', e', -, h2, -⟩ := HIn.out W hW k _ hx
      rw [ec] at e'
      cases e'
      exact h2
    have c1 : ∀ W, BoxWS w ⟨(N : Int), faulty, slot, gap, rho, dmin, dmax, margin, PA, pn, pcap, parts, QA, qn, qcap, ports, RA, rn, rcap, routes⟩ me since rate cold W → W.cell? ⟨bc, oc + k * 2 + 1, none⟩ = some (.int .i64 of) := fun W hW => by
      obtain ⟨b', o', e', -, -, h2⟩ := HIn.out W hW k _ hx
      rw [ec] at e'
      cases e'
      exact h2
    clear hx HIn
    subst ec
    have q6 : decide ((k : Int) < (n : Int)) = true := decide_eq_true (by omega)
    have q6n : decide (k < n) = true := decide_eq_true hkn
    have q7 : decide ((k : Int) < 50) = true := decide_eq_true (by omega)
    have q7n : decide (k < 50) = true := decide_eq_true hk50
    have ek1 : IntKind.i64.wrap ((k : Int) + 1) = (k : Int) + 1 := IntWalk.i64_in _ (by omega)
    obtain ⟨o, ho, hob⟩ : ∃ o, of.tmod 4294967296 = o ∧ (-4294967296 < o ∧ o < 4294967296) := ⟨_, rfl, tmod_in11 of 4294967296 (by omega)⟩
    have eO : wrap64 (of.tmod 4294967296) = o := by rw [ho]; exact IntWalk.wrap64_in o ⟨by omega, by omega⟩
    have eO2 : IntKind.i64.wrap (of.tmod 4294967296) = o := by rw [ho]; exact IntWalk.i64_in o ⟨by omega, by omega⟩
    have eA : IntKind.i64.wrap (since + o) = since + o := IntWalk.i64_in _ (by omega)
    have eW : wrap64 (since + of.tmod 4294967296) = since + o := by rw [ho]; exact IntWalk.wrap64_in _ ⟨by omega, by omega⟩
    have hfar : FarIn (since + o - since) := by unfold FarIn; omega
    have hh7 := HG.out.pace.hlen
    obtain ⟨r, hs', ds', hdv', hH1, hH2⟩ := HB.out b bk rb gd gh N hs ds no (since + o) rfl (by unfold PacQ.Soon; omega) hdv hh7
    have H1 := Lib.hid hH1
    have H2 := Lib.hid hH2
    have H3 := Lib.hid (fun W hW => HLo.out b bk rb gd gh N hs' ds' hs' ds' (since + o) hfar W hW)
    have H4 := Lib.hid (fun W => HRl.out (since + o) hfar W)
    have HR : Hid (∀ W, PT w ⟨(N : Int), faulty, slot, gap, rho, dmin, dmax, margin, PA, pn, pcap, parts, QA, qn, qcap, ports, RA, rn, rcap, routes⟩ y me since rate cold b bk rb gd gh N hs' ds' hs' ds' W → TurnR w ⟨(N : Int), faulty, slot, gap, rho, dmin, dmax, margin, PA, pn, pcap, parts, QA, qn, qcap, ports, RA, rn, rcap, routes⟩ y me since rate cold b bk rb gd gh N n (.int .i64 ((k : Int) + 1)) W) := Lib.hid fun W hW => ⟨k + 1, hs', ds', by omega, by omega, by go_num, hdv', hW⟩
    have hbx := HG.out.box
    have c1w := c1 _ hbx
    have j1 := e1 _ hbx
    clear HB HLo HRl HE hH1 hH2 hdv hdv' hh7 hfar hob ho
    generalize ClkP.localT since rate (since + o) = lv at *
    generalize hre : since + o = real at *
    unfold pv qv at *
    go_wp2_with fail
    go_quiet (fail)
    have HG8 := Lib.hid (fun m => HG.out.drewN m)
    clear HG c1w j1 hbx hre eO eO2 eA
    go_wp2_with fail
    simp only [eW]
    have hg0 := (HG8.out nq).step (Below.refl _ _).drew
    clear HG8
    cases r
    · refine wp_region_held_drew (S := fun W => BoxWS w ⟨(N : Int), faulty, slot, gap, rho, dmin, dmax, margin, PA, pn, pcap, parts, QA, qn, qcap, ports, RA, rn, rcap, routes⟩ me since rate cold W) (by kernel_rfl) hg0.box (fun _ => ?_)
      refine wpAnyH_take (i := 0) (oi := ?oo17) (v := ?vv17) ?ii17 (by kernel_rfl) ?ff17 (by kernel_rfl) ?qq17 (Or.inl ⟨?ww17, ?yy17⟩) hg0.box ?rr17
      case ii17 => simp only [List.getElem?_toArray, List.getElem?_cons_zero]; rfl
      case ff17 => kernel_rfl
      case qq17 => exact fun _ _ _ h => h
      case ww17 => rfl
      case yy17 => intro W hW; go_simp <;> with_reducible rfl
      try simp only [Act.put, List.setIfInBounds_toArray, List.set_cons_zero, List.set_cons_succ]
      refine wpAnyH_take (i := 1) (oi := ?oo18) (v := ?vv18) ?ii18 (by kernel_rfl) ?ff18 (by kernel_rfl) ?qq18 (Or.inl ⟨?ww18, ?yy18⟩) hg0.box ?rr18
      case ii18 => simp only [List.getElem?_toArray, List.getElem?_cons_succ, List.getElem?_cons_zero]; rfl
      case ff18 => kernel_rfl
      case qq18 => exact fun _ _ _ h => h
      case ww18 => rfl
      case yy18 => intro W hW; go_simp <;> with_reducible rfl
      try simp only [Act.put, List.setIfInBounds_toArray, List.set_cons_zero, List.set_cons_succ]
      refine wpAnyH_take (i := 2) (oi := ?oo19) (v := ?vv19) ?ii19 (by kernel_rfl) ?ff19 (by kernel_rfl) ?qq19 (Or.inl ⟨?ww19, ?yy19⟩) hg0.box ?rr19
      case ii19 => simp only [List.getElem?_toArray, List.getElem?_cons_succ, List.getElem?_cons_zero]; rfl
      case ff19 => kernel_rfl
      case qq19 => exact fun _ _ _ h => h
      case ww19 => rfl
      case yy19 => intro W hW; go_simp <;> with_reducible rfl
      try simp only [Act.put, List.setIfInBounds_toArray, List.set_cons_zero, List.set_cons_succ]
      refine wpAnyH_take (i := 3) (oi := ?oo20) (v := ?vv20) ?ii20 (by kernel_rfl) ?ff20 (by kernel_rfl) ?qq20 (Or.inl ⟨?ww20, ?yy20⟩) hg0.box ?rr20
      case ii20 => simp only [List.getElem?_toArray, List.getElem?_cons_succ, List.getElem?_cons_zero]; rfl
      case ff20 => kernel_rfl
      case qq20 => exact fun _ _ _ h => h
      case ww20 => rfl
      case yy20 => intro W hW; go_simp <;> with_reducible rfl
      try simp only [Act.put, List.setIfInBounds_toArray, List.set_cons_zero, List.set_cons_succ]
      refine wpAnyH_take (i := 4) (oi := ?oo21) (v := ?vv21) ?ii21 (by kernel_rfl) ?ff21 (by kernel_rfl) ?qq21 (Or.inl ⟨?ww21, ?yy21⟩) hg0.box ?rr21
      case ii21 => simp only [List.getElem?_toArray, List.getElem?_cons_succ, List.getElem?_cons_zero]; rfl
      case ff21 => kernel_rfl
      case qq21 => exact fun _ _ _ h => h
      case ww21 => rfl
      case yy21 => intro W hW; go_simp <;> with_reducible rfl
      try simp only [Act.put, List.setIfInBounds_toArray, List.set_cons_zero, List.set_cons_succ]
      refine wpAnyH_take (i := 5) (oi := ?oo22) (v := ?vv22) ?ii22 (by kernel_rfl) ?ff22 (by kernel_rfl) ?qq22 (Or.inl ⟨?ww22, ?yy22⟩) hg0.box ?rr22
      case ii22 => simp only [List.getElem?_toArray, List.getElem?_cons_succ, List.getElem?_cons_zero]; rfl
      case ff22 => kernel_rfl
      case qq22 => exact fun _ _ _ h => h
      case ww22 => rfl
      case yy22 => intro W hW; go_simp <;> with_reducible rfl
      try simp only [Act.put, List.setIfInBounds_toArray, List.set_cons_zero, List.set_cons_succ]
      refine wpAnyH_take (i := 6) (oi := ?oo23) (v := ?vv23) ?ii23 (by kernel_rfl) ?ff23 (by kernel_rfl) ?qq23 (Or.inl ⟨?ww23, ?yy23⟩) hg0.box ?rr23
      case ii23 => simp only [List.getElem?_toArray, List.getElem?_cons_succ, List.getElem?_cons_zero]; rfl
      case ff23 => kernel_rfl
      case qq23 => exact fun _ _ _ h => h
      case ww23 => rfl
      case yy23 => intro W hW; go_simp <;> with_reducible rfl
      try simp only [Act.put, List.setIfInBounds_toArray, List.set_cons_zero, List.set_cons_succ]
      refine wpAnyH_take (i := 8) (oi := ?oo24) (v := ?vv24) ?ii24 (by kernel_rfl) ?ff24 (by kernel_rfl) ?qq24 (Or.inl ⟨?ww24, ?yy24⟩) hg0.box ?rr24
      case ii24 => simp only [List.getElem?_toArray, List.getElem?_cons_succ, List.getElem?_cons_zero]; rfl
      case ff24 => kernel_rfl
      case qq24 => exact fun _ _ _ h => h
      case ww24 => rfl
      case yy24 => intro W hW; go_simp <;> with_reducible rfl
      try simp only [Act.put, List.setIfInBounds_toArray, List.set_cons_zero, List.set_cons_succ]
      refine wpAnyH_take (i := 9) (oi := ?oo25) (v := ?vv25) ?ii25 (by kernel_rfl) ?ff25 (by kernel_rfl) ?qq25 (Or.inl ⟨?ww25, ?yy25⟩) hg0.box ?rr25
      case ii25 => simp only [List.getElem?_toArray, List.getElem?_cons_succ, List.getElem?_cons_zero]; rfl
      case ff25 => kernel_rfl
      case qq25 => exact fun _ _ _ h => h
      case ww25 => rfl
      case yy25 => intro W hW; go_simp <;> with_reducible rfl
      try simp only [Act.put, List.setIfInBounds_toArray, List.set_cons_zero, List.set_cons_succ]
      refine wpAnyH_take (i := 10) (oi := ?oo26) (v := ?vv26) ?ii26 (by kernel_rfl) ?ff26 (by kernel_rfl) ?qq26 (Or.inl ⟨?ww26, ?yy26⟩) hg0.box ?rr26
      case ii26 => simp only [List.getElem?_toArray, List.getElem?_cons_succ, List.getElem?_cons_zero]; rfl
      case ff26 => kernel_rfl
      case qq26 => exact fun _ _ _ h => h
      case ww26 => rfl
      case yy26 => intro W hW; go_simp <;> with_reducible rfl
      try simp only [Act.put, List.setIfInBounds_toArray, List.set_cons_zero, List.set_cons_succ]
      refine wpAnyH_take (i := 11) (oi := ?oo27) (v := ?vv27) ?ii27 (by kernel_rfl) ?ff27 (by kernel_rfl) ?qq27 (Or.inl ⟨?ww27, ?yy27⟩) hg0.box ?rr27
      case ii27 => simp only [List.getElem?_toArray, List.getElem?_cons_succ, List.getElem?_cons_zero]; rfl
      case ff27 => kernel_rfl
      case qq27 => exact fun _ _ _ h => h
      case ww27 => rfl
      case yy27 => intro W hW; go_simp <;> with_reducible rfl
      try simp only [Act.put, List.setIfInBounds_toArray, List.set_cons_zero, List.set_cons_succ]
      refine wpAnyH_take (i := 12) (oi := ?oo28) (v := ?vv28) ?ii28 (by kernel_rfl) ?ff28 (by kernel_rfl) ?qq28 (Or.inl ⟨?ww28, ?yy28⟩) hg0.box ?rr28
      case ii28 => simp only [List.getElem?_toArray, List.getElem?_cons_succ, List.getElem?_cons_zero]; rfl
      case ff28 => kernel_rfl
      case qq28 => exact fun _ _ _ h => h
      case ww28 => rfl
      case yy28 => intro W hW; go_simp <;> with_reducible rfl
      try simp only [Act.put, List.setIfInBounds_toArray, List.set_cons_zero, List.set_cons_succ]
      refine wpAnyH_take (i := 13) (oi := ?oo29) (v := ?vv29) ?ii29 (by kernel_rfl) ?ff29 (by kernel_rfl) ?qq29 (Or.inl ⟨?ww29, ?yy29⟩) hg0.box ?rr29
      case ii29 => simp only [List.getElem?_toArray, List.getElem?_cons_succ, List.getElem?_cons_zero]; rfl
      case ff29 => kernel_rfl
      case qq29 => exact fun _ _ _ h => h
      case ww29 => rfl
      case yy29 => intro W hW; go_simp <;> with_reducible rfl
      try simp only [Act.put, List.setIfInBounds_toArray, List.set_cons_zero, List.set_cons_succ]
      refine wpAnyH_take (i := 14) (oi := ?oo30) (v := ?vv30) ?ii30 (by kernel_rfl) ?ff30 (by kernel_rfl) ?qq30 (Or.inl ⟨?ww30, ?yy30⟩) hg0.box ?rr30
      case ii30 => simp only [List.getElem?_toArray, List.getElem?_cons_succ, List.getElem?_cons_zero]; rfl
      case ff30 => kernel_rfl
      case qq30 => exact fun _ _ _ h => h
      case ww30 => rfl
      case yy30 => intro W hW; go_simp <;> with_reducible rfl
      try simp only [Act.put, List.setIfInBounds_toArray, List.set_cons_zero, List.set_cons_succ]
      refine wpAnyH_ready (rs := [7]) (by kernel_rfl) (by simp) ?_
      refine AllReadyH.cons (o := ?oo31) ?ii31 (fun K hK => ?_) AllReadyH.nil
      case ii31 => simp only [List.getElem?_toArray, List.getElem?_cons_succ, List.getElem?_cons_zero]; rfl
      go_simp
      refine (H1.out _ hg0).mono ?_
      rintro e w8 ⟨rfl, hg1⟩
      clear hg0 H1
      go_wp2_with fail
      refine hK.out _ _ hg1.box (fun _ => ?_)
      clear hK K
      refine wpAnyH_ready (rs := [15]) (by kernel_rfl) (by simp) ?_
      refine AllReadyH.cons (o := ?oo32) ?ii32 (fun K hK => ?_) AllReadyH.nil
      case ii32 => simp only [List.getElem?_toArray, List.getElem?_cons_succ, List.getElem?_cons_zero]; rfl
      go_simp
      refine (H2.out _ hg1).mono ?_
      rintro e w9 ⟨rfl, hg2⟩
      clear hg1 H2
      go_wp2_with fail
      refine hK.out _ _ hg2.box (fun _ => ?_)
      clear hK K
      refine wpAnyH_take (i := 16) (oi := ?oo33) (v := ?vv33) ?ii33 (by kernel_rfl) ?ff33 (by kernel_rfl) ?qq33 (Or.inl ⟨?ww33, ?yy33⟩) hg2.box ?rr33
      case ii33 => simp only [List.getElem?_toArray, List.getElem?_cons_succ, List.getElem?_cons_zero]; rfl
      case ff33 => kernel_rfl
      case qq33 => exact fun _ _ _ h => h
      case ww33 => rfl
      case yy33 => intro W hW; go_simp <;> with_reducible rfl
      try simp only [Act.put, List.setIfInBounds_toArray, List.set_cons_zero, List.set_cons_succ]
      refine wpAnyH_take (i := 17) (oi := ?oo34) (v := ?vv34) ?ii34 (by kernel_rfl) ?ff34 (by kernel_rfl) ?qq34 (Or.inl ⟨?ww34, ?yy34⟩) hg2.box ?rr34
      case ii34 => simp only [List.getElem?_toArray, List.getElem?_cons_succ, List.getElem?_cons_zero]; rfl
      case ff34 => kernel_rfl
      case qq34 => exact fun _ _ _ h => h
      case ww34 => rfl
      case yy34 => intro W hW; go_simp <;> with_reducible rfl
      try simp only [Act.put, List.setIfInBounds_toArray, List.set_cons_zero, List.set_cons_succ]
      refine wpAnyH_take (i := 18) (oi := ?oo35) (v := ?vv35) ?ii35 (by kernel_rfl) ?ff35 (by kernel_rfl) ?qq35 (Or.inl ⟨?ww35, ?yy35⟩) hg2.box ?rr35
      case ii35 => simp only [List.getElem?_toArray, List.getElem?_cons_succ, List.getElem?_cons_zero]; rfl
      case ff35 => kernel_rfl
      case qq35 => exact fun _ _ _ h => h
      case ww35 => rfl
      case yy35 => intro W hW; go_simp <;> with_reducible rfl
      try simp only [Act.put, List.setIfInBounds_toArray, List.set_cons_zero, List.set_cons_succ]
      refine wpAnyH_take (i := 19) (oi := ?oo36) (v := ?vv36) ?ii36 (by kernel_rfl) ?ff36 (by kernel_rfl) ?qq36 (Or.inl ⟨?ww36, ?yy36⟩) hg2.box ?rr36
      case ii36 => simp only [List.getElem?_toArray, List.getElem?_cons_succ, List.getElem?_cons_zero]; rfl
      case ff36 => kernel_rfl
      case qq36 => exact fun _ _ _ h => h
      case ww36 => rfl
      case yy36 => intro W hW; go_simp <;> with_reducible rfl
      try simp only [Act.put, List.setIfInBounds_toArray, List.set_cons_zero, List.set_cons_succ]
      refine wpAnyH_take (i := 21) (oi := ?oo37) (v := ?vv37) ?ii37 (by kernel_rfl) ?ff37 (by kernel_rfl) ?qq37 (Or.inl ⟨?ww37, ?yy37⟩) hg2.box ?rr37
      case ii37 => simp only [List.getElem?_toArray, List.getElem?_cons_succ, List.getElem?_cons_zero]; rfl
      case ff37 => kernel_rfl
      case qq37 => exact fun _ _ _ h => h
      case ww37 => rfl
      case yy37 => intro W hW; go_simp <;> with_reducible rfl
      try simp only [Act.put, List.setIfInBounds_toArray, List.set_cons_zero, List.set_cons_succ]
      refine wpAnyH_take (i := 22) (oi := ?oo38) (v := ?vv38) ?ii38 (by kernel_rfl) ?ff38 (by kernel_rfl) ?qq38 (Or.inl ⟨?ww38, ?yy38⟩) hg2.box ?rr38
      case ii38 => simp only [List.getElem?_toArray, List.getElem?_cons_succ, List.getElem?_cons_zero]; rfl
      case ff38 => kernel_rfl
      case qq38 => exact fun _ _ _ h => h
      case ww38 => rfl
      case yy38 => intro W hW; go_simp <;> with_reducible rfl
      try simp only [Act.put, List.setIfInBounds_toArray, List.set_cons_zero, List.set_cons_succ]
      refine wpAnyH_take (i := 23) (oi := ?oo39) (v := ?vv39) ?ii39 (by kernel_rfl) ?ff39 (by kernel_rfl) ?qq39 (Or.inl ⟨?ww39, ?yy39⟩) hg2.box ?rr39
      case ii39 => simp only [List.getElem?_toArray, List.getElem?_cons_succ, List.getElem?_cons_zero]; rfl
      case ff39 => kernel_rfl
      case qq39 => exact fun _ _ _ h => h
      case ww39 => rfl
      case yy39 => intro W hW; go_simp <;> with_reducible rfl
      try simp only [Act.put, List.setIfInBounds_toArray, List.set_cons_zero, List.set_cons_succ]
      refine wpAnyH_take (i := 24) (oi := ?oo40) (v := ?vv40) ?ii40 (by kernel_rfl) ?ff40 (by kernel_rfl) ?qq40 (Or.inl ⟨?ww40, ?yy40⟩) hg2.box ?rr40
      case ii40 => simp only [List.getElem?_toArray, List.getElem?_cons_succ, List.getElem?_cons_zero]; rfl
      case ff40 => kernel_rfl
      case qq40 => exact fun _ _ _ h => h
      case ww40 => rfl
      case yy40 => intro W hW; go_simp <;> with_reducible rfl
      try simp only [Act.put, List.setIfInBounds_toArray, List.set_cons_zero, List.set_cons_succ]
      refine wpAnyH_take (i := 25) (oi := ?oo41) (v := ?vv41) ?ii41 (by kernel_rfl) ?ff41 (by kernel_rfl) ?qq41 (Or.inl ⟨?ww41, ?yy41⟩) hg2.box ?rr41
      case ii41 => simp only [List.getElem?_toArray, List.getElem?_cons_succ, List.getElem?_cons_zero]; rfl
      case ff41 => kernel_rfl
      case qq41 => exact fun _ _ _ h => h
      case ww41 => rfl
      case yy41 => intro W hW; go_simp <;> with_reducible rfl
      try simp only [Act.put, List.setIfInBounds_toArray, List.set_cons_zero, List.set_cons_succ]
      refine wpAnyH_ready (rs := [20]) (by kernel_rfl) (by simp) ?_
      refine AllReadyH.cons (o := ?oo42) ?ii42 (fun K hK => ?_) AllReadyH.nil
      case ii42 => simp only [List.getElem?_toArray, List.getElem?_cons_succ, List.getElem?_cons_zero]; rfl
      go_simp
      refine (H3.out _ hg2).mono ?_
      rintro e w10 ⟨rfl, m10, rfl⟩
      have hg3 := hg2.drewN m10
      clear H3
      go_wp2_with fail
      refine hK.out _ _ hg3.box (fun _ => ?_)
      clear hK K
      refine wpAnyH_ready (rs := [26]) (by kernel_rfl) (by simp) ?_
      refine AllReadyH.cons (o := ?oo43) ?ii43 (fun K hK => ?_) AllReadyH.nil
      case ii43 => simp only [List.getElem?_toArray, List.getElem?_cons_succ, List.getElem?_cons_zero]; rfl
      go_simp
      refine (H4.out _).mono ?_
      rintro e w11 ⟨rfl, m11, rfl⟩
      have hg4 := hg2.drewN (m10 + m11)
      clear hg3 hg2 H4
      go_wp2_with fail
      refine hK.out _ _ hg4.box (fun _ => ?_)
      clear hK K
      refine wpAnyH_take (i := 27) (oi := ?oo44) (v := ?vv44) ?ii44 (by kernel_rfl) ?ff44 (by kernel_rfl) ?qq44 (Or.inl ⟨?ww44, ?yy44⟩) hg4.box ?rr44
      case ii44 => simp only [List.getElem?_toArray, List.getElem?_cons_succ, List.getElem?_cons_zero]; rfl
      case ff44 => kernel_rfl
      case qq44 => exact fun _ _ _ h => h
      case ww44 => rfl
      case yy44 => intro W hW; go_simp <;> with_reducible rfl
      try simp only [Act.put, List.setIfInBounds_toArray, List.set_cons_zero, List.set_cons_succ]
      refine wpAnyH_take (i := 28) (oi := ?oo45) (v := ?vv45) ?ii45 (by kernel_rfl) ?ff45 (by kernel_rfl) ?qq45 (Or.inl ⟨?ww45, ?yy45⟩) hg4.box ?rr45
      case ii45 => simp only [List.getElem?_toArray, List.getElem?_cons_succ, List.getElem?_cons_zero]; rfl
      case ff45 => kernel_rfl
      case qq45 => exact fun _ _ _ h => h
      case ww45 => rfl
      case yy45 => intro W hW; go_simp <;> with_reducible rfl
      try simp only [Act.put, List.setIfInBounds_toArray, List.set_cons_zero, List.set_cons_succ]
      refine wpAnyH_done (by kernel_rfl) ?_ _
      have HF := Lib.hid (HR.out _ hg4)
      clear hg4 HR
      go_wp2_with fail
      go_roundw
      case rel => exact HF.out
      case measure => simp [intOf]; omega
    · refine wp_region_held_drew (S := fun W => BoxWS w ⟨(N : Int), faulty, slot, gap, rho, dmin, dmax, margin, PA, pn, pcap, parts, QA, qn, qcap, ports, RA, rn, rcap, routes⟩ me since rate cold W) (by kernel_rfl) hg0.box (fun _ => ?_)
      refine wpAnyH_take (i := 0) (oi := ?oo46) (v := ?vv46) ?ii46 (by kernel_rfl) ?ff46 (by kernel_rfl) ?qq46 (Or.inl ⟨?ww46, ?yy46⟩) hg0.box ?rr46
      case ii46 => simp only [List.getElem?_toArray, List.getElem?_cons_zero]; rfl
      case ff46 => kernel_rfl
      case qq46 => exact fun _ _ _ h => h
      case ww46 => rfl
      case yy46 => intro W hW; go_simp <;> with_reducible rfl
      try simp only [Act.put, List.setIfInBounds_toArray, List.set_cons_zero, List.set_cons_succ]
      refine wpAnyH_take (i := 1) (oi := ?oo47) (v := ?vv47) ?ii47 (by kernel_rfl) ?ff47 (by kernel_rfl) ?qq47 (Or.inl ⟨?ww47, ?yy47⟩) hg0.box ?rr47
      case ii47 => simp only [List.getElem?_toArray, List.getElem?_cons_succ, List.getElem?_cons_zero]; rfl
      case ff47 => kernel_rfl
      case qq47 => exact fun _ _ _ h => h
      case ww47 => rfl
      case yy47 => intro W hW; go_simp <;> with_reducible rfl
      try simp only [Act.put, List.setIfInBounds_toArray, List.set_cons_zero, List.set_cons_succ]
      refine wpAnyH_take (i := 2) (oi := ?oo48) (v := ?vv48) ?ii48 (by kernel_rfl) ?ff48 (by kernel_rfl) ?qq48 (Or.inl ⟨?ww48, ?yy48⟩) hg0.box ?rr48
      case ii48 => simp only [List.getElem?_toArray, List.getElem?_cons_succ, List.getElem?_cons_zero]; rfl
      case ff48 => kernel_rfl
      case qq48 => exact fun _ _ _ h => h
      case ww48 => rfl
      case yy48 => intro W hW; go_simp <;> with_reducible rfl
      try simp only [Act.put, List.setIfInBounds_toArray, List.set_cons_zero, List.set_cons_succ]
      refine wpAnyH_take (i := 3) (oi := ?oo49) (v := ?vv49) ?ii49 (by kernel_rfl) ?ff49 (by kernel_rfl) ?qq49 (Or.inl ⟨?ww49, ?yy49⟩) hg0.box ?rr49
      case ii49 => simp only [List.getElem?_toArray, List.getElem?_cons_succ, List.getElem?_cons_zero]; rfl
      case ff49 => kernel_rfl
      case qq49 => exact fun _ _ _ h => h
      case ww49 => rfl
      case yy49 => intro W hW; go_simp <;> with_reducible rfl
      try simp only [Act.put, List.setIfInBounds_toArray, List.set_cons_zero, List.set_cons_succ]
      refine wpAnyH_take (i := 4) (oi := ?oo50) (v := ?vv50) ?ii50 (by kernel_rfl) ?ff50 (by kernel_rfl) ?qq50 (Or.inl ⟨?ww50, ?yy50⟩) hg0.box ?rr50
      case ii50 => simp only [List.getElem?_toArray, List.getElem?_cons_succ, List.getElem?_cons_zero]; rfl
      case ff50 => kernel_rfl
      case qq50 => exact fun _ _ _ h => h
      case ww50 => rfl
      case yy50 => intro W hW; go_simp <;> with_reducible rfl
      try simp only [Act.put, List.setIfInBounds_toArray, List.set_cons_zero, List.set_cons_succ]
      refine wpAnyH_take (i := 5) (oi := ?oo51) (v := ?vv51) ?ii51 (by kernel_rfl) ?ff51 (by kernel_rfl) ?qq51 (Or.inl ⟨?ww51, ?yy51⟩) hg0.box ?rr51
      case ii51 => simp only [List.getElem?_toArray, List.getElem?_cons_succ, List.getElem?_cons_zero]; rfl
      case ff51 => kernel_rfl
      case qq51 => exact fun _ _ _ h => h
      case ww51 => rfl
      case yy51 => intro W hW; go_simp <;> with_reducible rfl
      try simp only [Act.put, List.setIfInBounds_toArray, List.set_cons_zero, List.set_cons_succ]
      refine wpAnyH_take (i := 6) (oi := ?oo52) (v := ?vv52) ?ii52 (by kernel_rfl) ?ff52 (by kernel_rfl) ?qq52 (Or.inl ⟨?ww52, ?yy52⟩) hg0.box ?rr52
      case ii52 => simp only [List.getElem?_toArray, List.getElem?_cons_succ, List.getElem?_cons_zero]; rfl
      case ff52 => kernel_rfl
      case qq52 => exact fun _ _ _ h => h
      case ww52 => rfl
      case yy52 => intro W hW; go_simp <;> with_reducible rfl
      try simp only [Act.put, List.setIfInBounds_toArray, List.set_cons_zero, List.set_cons_succ]
      refine wpAnyH_take (i := 8) (oi := ?oo53) (v := ?vv53) ?ii53 (by kernel_rfl) ?ff53 (by kernel_rfl) ?qq53 (Or.inl ⟨?ww53, ?yy53⟩) hg0.box ?rr53
      case ii53 => simp only [List.getElem?_toArray, List.getElem?_cons_succ, List.getElem?_cons_zero]; rfl
      case ff53 => kernel_rfl
      case qq53 => exact fun _ _ _ h => h
      case ww53 => rfl
      case yy53 => intro W hW; go_simp <;> with_reducible rfl
      try simp only [Act.put, List.setIfInBounds_toArray, List.set_cons_zero, List.set_cons_succ]
      refine wpAnyH_take (i := 9) (oi := ?oo54) (v := ?vv54) ?ii54 (by kernel_rfl) ?ff54 (by kernel_rfl) ?qq54 (Or.inl ⟨?ww54, ?yy54⟩) hg0.box ?rr54
      case ii54 => simp only [List.getElem?_toArray, List.getElem?_cons_succ, List.getElem?_cons_zero]; rfl
      case ff54 => kernel_rfl
      case qq54 => exact fun _ _ _ h => h
      case ww54 => rfl
      case yy54 => intro W hW; go_simp <;> with_reducible rfl
      try simp only [Act.put, List.setIfInBounds_toArray, List.set_cons_zero, List.set_cons_succ]
      refine wpAnyH_take (i := 10) (oi := ?oo55) (v := ?vv55) ?ii55 (by kernel_rfl) ?ff55 (by kernel_rfl) ?qq55 (Or.inl ⟨?ww55, ?yy55⟩) hg0.box ?rr55
      case ii55 => simp only [List.getElem?_toArray, List.getElem?_cons_succ, List.getElem?_cons_zero]; rfl
      case ff55 => kernel_rfl
      case qq55 => exact fun _ _ _ h => h
      case ww55 => rfl
      case yy55 => intro W hW; go_simp <;> with_reducible rfl
      try simp only [Act.put, List.setIfInBounds_toArray, List.set_cons_zero, List.set_cons_succ]
      refine wpAnyH_take (i := 11) (oi := ?oo56) (v := ?vv56) ?ii56 (by kernel_rfl) ?ff56 (by kernel_rfl) ?qq56 (Or.inl ⟨?ww56, ?yy56⟩) hg0.box ?rr56
      case ii56 => simp only [List.getElem?_toArray, List.getElem?_cons_succ, List.getElem?_cons_zero]; rfl
      case ff56 => kernel_rfl
      case qq56 => exact fun _ _ _ h => h
      case ww56 => rfl
      case yy56 => intro W hW; go_simp <;> with_reducible rfl
      try simp only [Act.put, List.setIfInBounds_toArray, List.set_cons_zero, List.set_cons_succ]
      refine wpAnyH_take (i := 12) (oi := ?oo57) (v := ?vv57) ?ii57 (by kernel_rfl) ?ff57 (by kernel_rfl) ?qq57 (Or.inl ⟨?ww57, ?yy57⟩) hg0.box ?rr57
      case ii57 => simp only [List.getElem?_toArray, List.getElem?_cons_succ, List.getElem?_cons_zero]; rfl
      case ff57 => kernel_rfl
      case qq57 => exact fun _ _ _ h => h
      case ww57 => rfl
      case yy57 => intro W hW; go_simp <;> with_reducible rfl
      try simp only [Act.put, List.setIfInBounds_toArray, List.set_cons_zero, List.set_cons_succ]
      refine wpAnyH_take (i := 13) (oi := ?oo58) (v := ?vv58) ?ii58 (by kernel_rfl) ?ff58 (by kernel_rfl) ?qq58 (Or.inl ⟨?ww58, ?yy58⟩) hg0.box ?rr58
      case ii58 => simp only [List.getElem?_toArray, List.getElem?_cons_succ, List.getElem?_cons_zero]; rfl
      case ff58 => kernel_rfl
      case qq58 => exact fun _ _ _ h => h
      case ww58 => rfl
      case yy58 => intro W hW; go_simp <;> with_reducible rfl
      try simp only [Act.put, List.setIfInBounds_toArray, List.set_cons_zero, List.set_cons_succ]
      refine wpAnyH_take (i := 14) (oi := ?oo59) (v := ?vv59) ?ii59 (by kernel_rfl) ?ff59 (by kernel_rfl) ?qq59 (Or.inl ⟨?ww59, ?yy59⟩) hg0.box ?rr59
      case ii59 => simp only [List.getElem?_toArray, List.getElem?_cons_succ, List.getElem?_cons_zero]; rfl
      case ff59 => kernel_rfl
      case qq59 => exact fun _ _ _ h => h
      case ww59 => rfl
      case yy59 => intro W hW; go_simp <;> with_reducible rfl
      try simp only [Act.put, List.setIfInBounds_toArray, List.set_cons_zero, List.set_cons_succ]
      refine wpAnyH_ready (rs := [7]) (by kernel_rfl) (by simp) ?_
      refine AllReadyH.cons (o := ?oo60) ?ii60 (fun K hK => ?_) AllReadyH.nil
      case ii60 => simp only [List.getElem?_toArray, List.getElem?_cons_succ, List.getElem?_cons_zero]; rfl
      go_simp
      refine (H1.out _ hg0).mono ?_
      rintro e w8 ⟨rfl, hg1⟩
      clear hg0 H1
      go_wp2_with fail
      refine hK.out _ _ hg1.box (fun _ => ?_)
      clear hK K
      refine wpAnyH_ready (rs := [15]) (by kernel_rfl) (by simp) ?_
      refine AllReadyH.cons (o := ?oo61) ?ii61 (fun K hK => ?_) AllReadyH.nil
      case ii61 => simp only [List.getElem?_toArray, List.getElem?_cons_succ, List.getElem?_cons_zero]; rfl
      go_simp
      refine (H2.out _ hg1).mono ?_
      rintro e w9 ⟨rfl, hg2⟩
      clear hg1 H2
      go_wp2_with fail
      refine hK.out _ _ hg2.box (fun _ => ?_)
      clear hK K
      refine wpAnyH_take (i := 16) (oi := ?oo62) (v := ?vv62) ?ii62 (by kernel_rfl) ?ff62 (by kernel_rfl) ?qq62 (Or.inl ⟨?ww62, ?yy62⟩) hg2.box ?rr62
      case ii62 => simp only [List.getElem?_toArray, List.getElem?_cons_succ, List.getElem?_cons_zero]; rfl
      case ff62 => kernel_rfl
      case qq62 => exact fun _ _ _ h => h
      case ww62 => rfl
      case yy62 => intro W hW; go_simp <;> with_reducible rfl
      try simp only [Act.put, List.setIfInBounds_toArray, List.set_cons_zero, List.set_cons_succ]
      refine wpAnyH_take (i := 17) (oi := ?oo63) (v := ?vv63) ?ii63 (by kernel_rfl) ?ff63 (by kernel_rfl) ?qq63 (Or.inl ⟨?ww63, ?yy63⟩) hg2.box ?rr63
      case ii63 => simp only [List.getElem?_toArray, List.getElem?_cons_succ, List.getElem?_cons_zero]; rfl
      case ff63 => kernel_rfl
      case qq63 => exact fun _ _ _ h => h
      case ww63 => rfl
      case yy63 => intro W hW; go_simp <;> with_reducible rfl
      try simp only [Act.put, List.setIfInBounds_toArray, List.set_cons_zero, List.set_cons_succ]
      refine wpAnyH_take (i := 18) (oi := ?oo64) (v := ?vv64) ?ii64 (by kernel_rfl) ?ff64 (by kernel_rfl) ?qq64 (Or.inl ⟨?ww64, ?yy64⟩) hg2.box ?rr64
      case ii64 => simp only [List.getElem?_toArray, List.getElem?_cons_succ, List.getElem?_cons_zero]; rfl
      case ff64 => kernel_rfl
      case qq64 => exact fun _ _ _ h => h
      case ww64 => rfl
      case yy64 => intro W hW; go_simp <;> with_reducible rfl
      try simp only [Act.put, List.setIfInBounds_toArray, List.set_cons_zero, List.set_cons_succ]
      refine wpAnyH_take (i := 19) (oi := ?oo65) (v := ?vv65) ?ii65 (by kernel_rfl) ?ff65 (by kernel_rfl) ?qq65 (Or.inl ⟨?ww65, ?yy65⟩) hg2.box ?rr65
      case ii65 => simp only [List.getElem?_toArray, List.getElem?_cons_succ, List.getElem?_cons_zero]; rfl
      case ff65 => kernel_rfl
      case qq65 => exact fun _ _ _ h => h
      case ww65 => rfl
      case yy65 => intro W hW; go_simp <;> with_reducible rfl
      try simp only [Act.put, List.setIfInBounds_toArray, List.set_cons_zero, List.set_cons_succ]
      refine wpAnyH_take (i := 21) (oi := ?oo66) (v := ?vv66) ?ii66 (by kernel_rfl) ?ff66 (by kernel_rfl) ?qq66 (Or.inl ⟨?ww66, ?yy66⟩) hg2.box ?rr66
      case ii66 => simp only [List.getElem?_toArray, List.getElem?_cons_succ, List.getElem?_cons_zero]; rfl
      case ff66 => kernel_rfl
      case qq66 => exact fun _ _ _ h => h
      case ww66 => rfl
      case yy66 => intro W hW; go_simp <;> with_reducible rfl
      try simp only [Act.put, List.setIfInBounds_toArray, List.set_cons_zero, List.set_cons_succ]
      refine wpAnyH_take (i := 22) (oi := ?oo67) (v := ?vv67) ?ii67 (by kernel_rfl) ?ff67 (by kernel_rfl) ?qq67 (Or.inl ⟨?ww67, ?yy67⟩) hg2.box ?rr67
      case ii67 => simp only [List.getElem?_toArray, List.getElem?_cons_succ, List.getElem?_cons_zero]; rfl
      case ff67 => kernel_rfl
      case qq67 => exact fun _ _ _ h => h
      case ww67 => rfl
      case yy67 => intro W hW; go_simp <;> with_reducible rfl
      try simp only [Act.put, List.setIfInBounds_toArray, List.set_cons_zero, List.set_cons_succ]
      refine wpAnyH_take (i := 23) (oi := ?oo68) (v := ?vv68) ?ii68 (by kernel_rfl) ?ff68 (by kernel_rfl) ?qq68 (Or.inl ⟨?ww68, ?yy68⟩) hg2.box ?rr68
      case ii68 => simp only [List.getElem?_toArray, List.getElem?_cons_succ, List.getElem?_cons_zero]; rfl
      case ff68 => kernel_rfl
      case qq68 => exact fun _ _ _ h => h
      case ww68 => rfl
      case yy68 => intro W hW; go_simp <;> with_reducible rfl
      try simp only [Act.put, List.setIfInBounds_toArray, List.set_cons_zero, List.set_cons_succ]
      refine wpAnyH_take (i := 24) (oi := ?oo69) (v := ?vv69) ?ii69 (by kernel_rfl) ?ff69 (by kernel_rfl) ?qq69 (Or.inl ⟨?ww69, ?yy69⟩) hg2.box ?rr69
      case ii69 => simp only [List.getElem?_toArray, List.getElem?_cons_succ, List.getElem?_cons_zero]; rfl
      case ff69 => kernel_rfl
      case qq69 => exact fun _ _ _ h => h
      case ww69 => rfl
      case yy69 => intro W hW; go_simp <;> with_reducible rfl
      try simp only [Act.put, List.setIfInBounds_toArray, List.set_cons_zero, List.set_cons_succ]
      refine wpAnyH_take (i := 25) (oi := ?oo70) (v := ?vv70) ?ii70 (by kernel_rfl) ?ff70 (by kernel_rfl) ?qq70 (Or.inl ⟨?ww70, ?yy70⟩) hg2.box ?rr70
      case ii70 => simp only [List.getElem?_toArray, List.getElem?_cons_succ, List.getElem?_cons_zero]; rfl
      case ff70 => kernel_rfl
      case qq70 => exact fun _ _ _ h => h
      case ww70 => rfl
      case yy70 => intro W hW; go_simp <;> with_reducible rfl
      try simp only [Act.put, List.setIfInBounds_toArray, List.set_cons_zero, List.set_cons_succ]
      refine wpAnyH_ready (rs := [20]) (by kernel_rfl) (by simp) ?_
      refine AllReadyH.cons (o := ?oo71) ?ii71 (fun K hK => ?_) AllReadyH.nil
      case ii71 => simp only [List.getElem?_toArray, List.getElem?_cons_succ, List.getElem?_cons_zero]; rfl
      go_simp
      refine (H3.out _ hg2).mono ?_
      rintro e w10 ⟨rfl, m10, rfl⟩
      have hg3 := hg2.drewN m10
      clear H3
      go_wp2_with fail
      refine hK.out _ _ hg3.box (fun _ => ?_)
      clear hK K
      refine wpAnyH_ready (rs := [26]) (by kernel_rfl) (by simp) ?_
      refine AllReadyH.cons (o := ?oo72) ?ii72 (fun K hK => ?_) AllReadyH.nil
      case ii72 => simp only [List.getElem?_toArray, List.getElem?_cons_succ, List.getElem?_cons_zero]; rfl
      go_simp
      refine (H4.out _).mono ?_
      rintro e w11 ⟨rfl, m11, rfl⟩
      have hg4 := hg2.drewN (m10 + m11)
      clear hg3 hg2 H4
      go_wp2_with fail
      refine hK.out _ _ hg4.box (fun _ => ?_)
      clear hK K
      refine wpAnyH_take (i := 27) (oi := ?oo73) (v := ?vv73) ?ii73 (by kernel_rfl) ?ff73 (by kernel_rfl) ?qq73 (Or.inl ⟨?ww73, ?yy73⟩) hg4.box ?rr73
      case ii73 => simp only [List.getElem?_toArray, List.getElem?_cons_succ, List.getElem?_cons_zero]; rfl
      case ff73 => kernel_rfl
      case qq73 => exact fun _ _ _ h => h
      case ww73 => rfl
      case yy73 => intro W hW; go_simp <;> with_reducible rfl
      try simp only [Act.put, List.setIfInBounds_toArray, List.set_cons_zero, List.set_cons_succ]
      refine wpAnyH_take (i := 28) (oi := ?oo74) (v := ?vv74) ?ii74 (by kernel_rfl) ?ff74 (by kernel_rfl) ?qq74 (Or.inl ⟨?ww74, ?yy74⟩) hg4.box ?rr74
      case ii74 => simp only [List.getElem?_toArray, List.getElem?_cons_succ, List.getElem?_cons_zero]; rfl
      case ff74 => kernel_rfl
      case qq74 => exact fun _ _ _ h => h
      case ww74 => rfl
      case yy74 => intro W hW; go_simp <;> with_reducible rfl
      try simp only [Act.put, List.setIfInBounds_toArray, List.set_cons_zero, List.set_cons_succ]
      refine wpAnyH_done (by kernel_rfl) ?_ _
      have HF := Lib.hid (HR.out _ hg4)
      clear hg4 HR
      go_wp2_with fail
      go_roundw
      case rel => exact HF.out
      case measure => simp [intOf]; omega

theorem pturns_law (x : CfgC) (me since rate : Int) (cold : Bool) (A : Option Addr) (l : List HeardG) (n cap : Nat) (hl : l.length = n) (hn : n * 16 ≤ 140737488355328) (w : World) (h : CfgIn w x) (hin : ItemsIn heardVals 2 w A l) :
    Calls Try.prog 3 #[x.value, .agg #[.int .i64 me, .int .i64 since, .int .i64 rate, .bool cold], .slice A n cap] w (TruePost w) := by
  cases hL : longB6 x with
  | true => exact pturns_long x me since rate cold A n cap hL w
  | false =>
    cases hf : SndP.chk6 x.plain with
    | some f => exact pturns_bad x me since rate cold A n cap f hf hL w h
    | none =>
      by_cases h0 : me < -1
      · exact pturns_range0 x me since rate cold A n cap hf hL h0 w h
      by_cases h1 : x.nodes ≤ me
      · exact pturns_range1 x me since rate cold A n cap hf hL ⟨by omega, h1⟩ w h
      by_cases h2 : since < 0
      · exact pturns_range2 x me since rate cold A n cap hf hL ⟨⟨by omega, by omega⟩, h2⟩ w h
      by_cases h3 : 1125899906842624 < since
      · exact pturns_range3 x me since rate cold A n cap hf hL ⟨⟨by omega, by omega⟩, by omega, h3⟩ w h
      by_cases h4 : rate < -200
      · exact pturns_range4 x me since rate cold A n cap hf hL ⟨⟨by omega, by omega⟩, by omega, by omega, h4⟩ w h
      by_cases h5 : 200 < rate
      · exact pturns_range5 x me since rate cold A n cap hf hL ⟨⟨by omega, by omega⟩, by omega, by omega, by omega, h5⟩ w h
      exact pturns_good x me since rate cold A l n cap hl hn hf hL ⟨by omega, by omega⟩ ⟨by omega, by omega, by omega, by omega⟩ w h hin
end Go.Proofs.Ythhbdnjihhpalaa
