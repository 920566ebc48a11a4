/- FramesFind: the walk of the law at tables in memory. Conditions: where their lists lie; the time is an int. -/
import Derived.Test.YtfgpfmhjnccccaaWinC
import Derived.BigQuiet
namespace Go.Proofs.Ytfgpfmhjnccccaa
open Go.RowKit
set_option maxRecDepth 100000

theorem wf_int17 {n : Int} (h : (Lit.int .i64 n).wf = true) : -9223372036854775808 ≤ n ∧ n ≤ 9223372036854775807 := by
  have h1 : (decide (IntKind.min .i64 ≤ n) && decide (n ≤ IntKind.max .i64)) = true := h
  rw [show IntKind.min .i64 = -9223372036854775808 from by decide, show IntKind.max .i64 = 9223372036854775807 from by decide] at h1
  simpa using h1
/-- A condition on worlds, kept shut. -/
def InF (S : World → Prop) (W : World) : Prop := S W
/-- The copy boxed, the windows and the order in rows of the call's own. -/
structure FfS (w3 : World) (y : CfgC) (v : Value) (LW : List WinP.Win) (ov : Value) (LO : List Nat) (W : World) : Prop where
  box : BoxS w3 y W
  wins : WRow W 0 v LW
  ord : W.ownsRow 0 3 1 ov LO.length (idxV LO)
theorem FfS.step {w3 : World} {y : CfgC} {v : Value} {LW : List WinP.Win} {ov : Value} {LO : List Nat} {W W' : World} (h : FfS w3 y v LW ov LO W) (hb : Below W.heap.size W W') : FfS w3 y v LW ov LO W' := ⟨h.box.step hb, h.wins.keep hb, own_keep h.ord hb⟩
def FfR (w3 : World) (y : CfgC) (v : Value) (LW : List WinP.Win) (ov : Value) (LO : List Nat) (i : Value) (W : World) : Prop := ∃ k, k ≤ LW.length ∧ i = .int .i64 (k : Nat) ∧ FfS w3 y v LW ov LO W
set_option maxHeartbeats 8000000 in
theorem ffind_law (x : CfgC) (node t : Int) (ht : -9223372036854775808 ≤ t ∧ t ≤ 9223372036854775807) (w : World) (h : CfgIn w x) : Calls Try.prog 3 #[x.value, .int .i64 node, .int .i64 t] w (TruePost w) := by
  have HA := Lib.hid (fun W => awake17_any W)
  have HWk := Lib.hid (fun W (hW : BoxS w x W) => works_any x W (h.below hW.below))
  have HST := Lib.hid (BoxS.start w x)
  obtain ⟨L, hL⟩ : ∃ L, worksB x = L := ⟨_, rfl⟩
  rw [hL] at HWk
  cases L with
  | false =>
    clear h hL
    obtain ⟨nodes, faulty, slot, gap, rho, dmin, dmax, margin, PA, pn, pcap, parts, QA, qn, qcap, ports, RA, rn, rcap, routes⟩ := x
    obtain ⟨d0, d1, d2, d3, d4, d5, d6, d7, d8, d9, d10⟩ := cfgFacts (fun W (hW : BoxS w ⟨nodes, faulty, slot, gap, rho, dmin, dmax, margin, PA, pn, pcap, parts, QA, qn, qcap, ports, RA, rn, rcap, routes⟩ W) => hW.cells)
    simp only at d0 d1 d2 d3 d4 d5 d6 d7 d8 d9 d10
    simp only [CfgC.value] at HWk ⊢
    simp only [boxC, cfgCells] at HST
    go_enter Try.func3, Try.ntmps3
    go_wp2_with fail
    refine (HA.out _).mono ?_
    rintro e w1 ⟨rfl, hb1⟩
    have hd1 := HST.out.step hb1
    clear hb1 HA
    obtain ⟨k0, k1, k2, k3, k4, k5, k6, k7, k8, k9, k10⟩ := eleven hd1 d0 d1 d2 d3 d4 d5 d6 d7 d8 d9 d10
    have Hd1 := Lib.hid hd1
    clear hd1
    go_wp2_with fail
    refine (HWk.out _ Hd1.out).mono ?_
    rintro e w2 ⟨rfl, hb2⟩
    have hd2 := Hd1.out.step hb2
    clear hb2 Hd1 HWk k0 k1 k2 k3 k4 k5 k6 k7 k8 k9 k10
    have HF := Lib.hid hd2.below
    clear hd2
    go_wp2_with fail
    go_ret
    exact ⟨rfl, HF.out⟩
  | true =>
  have hwk : SndP.Works x.plain := by
    unfold worksB at hL
    simp only [Bool.and_eq_true] at hL
    exact SndP.works (Option.isNone_iff_eq_none.1 hL.2)
  have hpl := h.plen
  have HP12 : Hid (x.pn ≤ 12) := Lib.hid (by have h1 : x.parts.length ≤ 12 := hwk.allowed.parts; omega)
  have HLow : Hid (∀ W, BoxS w x W → Below w.heap.size w W) := Lib.hid fun W hW => hW.below
  have hqn : x.qn ≤ 24 := by have := hwk.allowed.ports; rw [show x.plain.ports.length = x.qn from h.qlen] at this; exact this
  have hrn : x.rn ≤ 24 := by have := hwk.allowed.routes; rw [show x.plain.routes.length = x.rn from h.rlen] at this; exact this
  have hp12 := HP12.out
  have HCp := Lib.hid (fun W (hW : BoxS w x W) => copied_any x W (h.below hW.below) (by omega) (by omega) (by omega))
  have HNa := Lib.hid (fun (y : CfgC) (hp : y.plain = x.plain) W (hW : CfgIn W y) => by have := wnext_any y node t ht W hW (by rw [hp]; exact hwk); rw [hp] at this; exact this)
  have HWa := Lib.hid (fun (y : CfgC) (hp : y.plain = x.plain) W (hW : CfgIn W y) => by have := windows_any y node W hW (by rw [hp]; exact hwk); rw [hp] at this; exact this)
  have HAa := Lib.hid (fun (y : CfgC) (hp : y.plain = x.plain) W (hW : CfgIn W y) => by have := wat_any y node t ht W hW (by rw [hp]; exact hwk); rw [hp] at this; exact this)
  have HIa := Lib.hid (fun (y : CfgC) (hp : y.plain = x.plain) W (hW : CfgIn W y) => by have := widle_any y node W hW (by rw [hp]; exact hwk); rw [hp] at this; exact this)
  have HNb := Lib.hid (fun W (hW : BoxS w x W) => refnext_any x node t ht W (h.below hW.below) hwk)
  have HOb := Lib.hid (fun W (hW : BoxS w x W) => reforder_any x node W (h.below hW.below) hp12)
  have HAb := Lib.hid (fun W (hW : BoxS w x W) => refat_any x node t ht W (h.below hW.below) hwk)
  have HIb := Lib.hid (fun W (hW : BoxS w x W) => refidle_any x node W (h.below hW.below) hwk)
  have HPA := Lib.hid (fun W (hW : BoxS w x W) k p (hk : x.parts[k]? = some p) => parts_at (h.parts.below hW.below) hk)
  have HLen : Hid ((WinP.winsT x.plain node).length = (OrdP.ord x.parts node).length) := Lib.hid (WinP.wins_len x.plain node)
  have HL12 : Hid ((WinP.winsT x.plain node).length ≤ 12) := Lib.hid (by have h1 : x.parts.length ≤ 12 := hwk.allowed.parts; have h2 := WinP.wins_length x.plain node; exact Nat.le_trans h2 h1)
  have HMem : Hid (∀ (k q : Nat), (OrdP.ord x.parts node)[k]? = some q → ∃ p, x.parts[q]? = some p ∧ q < x.pn ∧ (WinP.winsT x.plain node)[k]? = some ⟨q, p.start, p.start + p.length⟩ ∧ 0 ≤ p.start ∧ 1 ≤ p.length ∧ p.start + p.length ≤ 1000000000) := Lib.hid fun k q hq => by
    obtain ⟨p, hp, -⟩ := WinP.ord_mem.1 (List.mem_of_getElem? hq)
    have := (List.getElem?_eq_some_iff.1 hp).1
    exact ⟨p, hp, by omega, WinP.wins_get' (c := x.plain) hq hp, WinP.part_fit hwk hp⟩
  generalize WinP.winsT x.plain node = LW at *
  generalize OrdP.ord x.parts node = LO at *
  generalize WinP.atT x.plain node t = av at *
  generalize WinP.idleT x.plain node = idl at *
  generalize WinP.nextT x.plain node t = nx at *
  have HPl : Hid (∀ y : CfgC, y.plain = x.plain → y.plain = x.plain) := Lib.hid fun y hy => hy
  clear h hwk hpl hL hqn hrn hp12
  obtain ⟨nodes, faulty, slot, gap, rho, dmin, dmax, margin, PA, pn, pcap, parts, QA, qn, qcap, ports, RA, rn, rcap, routes⟩ := x
  obtain ⟨d0, d1, d2, d3, d4, d5, d6, d7, d8, d9, d10⟩ := cfgFacts (fun W (hW : BoxS w ⟨nodes, faulty, slot, gap, rho, dmin, dmax, margin, PA, pn, pcap, parts, QA, qn, qcap, ports, RA, rn, rcap, routes⟩ W) => hW.cells)
  simp only at d0 d1 d2 d3 d4 d5 d6 d7 d8 d9 d10 HP12 HLow HPA HMem
  simp only [CfgC.value] at HWk HCp HNb HOb HAb HIb ⊢
  simp only [boxC, cfgCells] at HST
  go_enter Try.func3, Try.ntmps3
  go_wp2_with fail
  refine (HA.out _).mono ?_
  rintro e w1 ⟨rfl, hb1⟩
  have hd1 := HST.out.step hb1
  clear hb1 HA
  obtain ⟨k0, k1, k2, k3, k4, k5, k6, k7, k8, k9, k10⟩ := eleven hd1 d0 d1 d2 d3 d4 d5 d6 d7 d8 d9 d10
  have Hd1 := Lib.hid hd1
  clear hd1
  go_wp2_with fail
  refine (HWk.out _ Hd1.out).mono ?_
  rintro e w2 ⟨rfl, hb2⟩
  have hd2 := Hd1.out.step hb2
  clear hb2 Hd1 HWk k0 k1 k2 k3 k4 k5 k6 k7 k8 k9 k10
  obtain ⟨k0, k1, k2, k3, k4, k5, k6, k7, k8, k9, k10⟩ := eleven hd2 d0 d1 d2 d3 d4 d5 d6 d7 d8 d9 d10
  go_wp2_with fail
  clear k0 k1 k2 k3 k4 k5 k6 k7 k8 k9 k10
  refine (HCp.out _ hd2).mono ?_
  rintro e w3 ⟨_, rfl, ⟨y, rfl, hy, hyp⟩, hb3⟩
  have hd3 := hd2.step hb3
  have HN1 := Lib.hid (fun W (hW : BoxS w3 y W) => HNa.out y hyp W (hy.below hW.below))
  have HW1 := Lib.hid (fun W (hW : BoxS w3 y W) => HWa.out y hyp W (hy.below hW.below))
  have HA1 := Lib.hid (fun W (hW : BoxS w3 y W) => HAa.out y hyp W (hy.below hW.below))
  have HI1 := Lib.hid (fun W (hW : BoxS w3 y W) => HIa.out y hyp W (hy.below hW.below))
  have HX := Lib.hid (fun W (hW : BoxS w3 y W) => hd3.step hW.below)
  have hs0 := BoxS.start w3 y
  obtain ⟨e0, e1, e2, e3, e4, e5, e6, e7, e8, e9, e10⟩ := cfgFacts (fun W (hW : BoxS w3 y W) => hW.cells)
  have f0 := fun W (hW : BoxS w3 y W) => d0 W (HX.out W hW)
  have f1 := fun W (hW : BoxS w3 y W) => d1 W (HX.out W hW)
  have f2 := fun W (hW : BoxS w3 y W) => d2 W (HX.out W hW)
  have f3 := fun W (hW : BoxS w3 y W) => d3 W (HX.out W hW)
  have f4 := fun W (hW : BoxS w3 y W) => d4 W (HX.out W hW)
  have f5 := fun W (hW : BoxS w3 y W) => d5 W (HX.out W hW)
  have f6 := fun W (hW : BoxS w3 y W) => d6 W (HX.out W hW)
  have f7 := fun W (hW : BoxS w3 y W) => d7 W (HX.out W hW)
  have f8 := fun W (hW : BoxS w3 y W) => d8 W (HX.out W hW)
  have f9 := fun W (hW : BoxS w3 y W) => d9 W (HX.out W hW)
  have f10 := fun W (hW : BoxS w3 y W) => d10 W (HX.out W hW)
  clear hb3 hd2 hd3 HCp HNa HWa HAa HIa hy hyp HPl d0 d1 d2 d3 d4 d5 d6 d7 d8 d9 d10
  obtain ⟨ynodes, yfaulty, yslot, ygap, yrho, ydmin, ydmax, ymargin, yPA, ypn, ypcap, yparts, yQA, yqn, yqcap, yports, yRA, yrn, yrcap, yroutes⟩ := y
  simp only at e0 e1 e2 e3 e4 e5 e6 e7 e8 e9 e10
  simp only [CfgC.value] at HN1 HW1 HA1 HI1 ⊢
  have HS0 := Lib.hid hs0
  obtain ⟨k0, k1, k2, k3, k4, k5, k6, k7, k8, k9, k10⟩ := eleven hs0 e0 e1 e2 e3 e4 e5 e6 e7 e8 e9 e10
  clear hs0
  simp only [boxC, cfgCells] at HS0 k0 k1 k2 k3 k4 k5 k6 k7 k8 k9 k10
  go_wp2_with fail
  clear k0 k1 k2 k3 k4 k5 k6 k7 k8 k9 k10
  refine (HN1.out _ HS0.out).mono ?_
  rintro e w4 ⟨rfl, hb4⟩
  have hs4 := HS0.out.step hb4
  have HS4 : Hid (BoxS w3 ⟨ynodes, yfaulty, yslot, ygap, yrho, ydmin, ydmax, ymargin, yPA, ypn, ypcap, yparts, yQA, yqn, yqcap, yports, yRA, yrn, yrcap, yroutes⟩ w4) := Lib.hid hs4
  obtain ⟨k0, k1, k2, k3, k4, k5, k6, k7, k8, k9, k10⟩ := eleven hs4 f0 f1 f2 f3 f4 f5 f6 f7 f8 f9 f10
  clear hb4 HN1 HS0 hs4
  go_wp2_with fail
  clear k0 k1 k2 k3 k4 k5 k6 k7 k8 k9 k10
  refine (HNb.out _ (HX.out _ HS4.out)).mono ?_
  rintro e w5 ⟨rfl, hb5⟩
  have hs5 := (HS4.out.step hb5).drew
  clear hb5 HNb HS4
  go_upto_region 8 with (fail)
  refine wp_region_held_drew (S := fun W => BoxS w3 ⟨ynodes, yfaulty, yslot, ygap, yrho, ydmin, ydmax, ymargin, yPA, ypn, ypcap, yparts, yQA, yqn, yqcap, yports, yRA, yrn, yrcap, yroutes⟩ W) (by kernel_rfl) hs5 (fun _ => ?_)
  refine tkH 0 (by simp only [tkA]; rfl) (by kernel_rfl) (by exact fun _ _ _ h => h) (by rfl) (by intro W hW; go_simp <;> with_reducible rfl) hs5 ?_
  try simp only [Act.put, tkT, tk0, tkS]
  refine tkH 1 (by simp only [tkA, tkG]; rfl) (by kernel_rfl) (by exact fun _ _ _ h => h) (by rfl) (by intro W hW; go_simp <;> with_reducible rfl) hs5 ?_
  try simp only [Act.put, tkT, tk0, tkS]
  refine tkH 3 (by simp only [tkA, tkG]; rfl) (by kernel_rfl) (by exact fun _ _ _ h => h) (by rfl) (by intro W hW; go_simp <;> with_reducible rfl) hs5 ?_
  try simp only [Act.put, tkT, tk0, tkS]
  refine tkH 4 (by simp only [tkA, tkG]; rfl) (by kernel_rfl) (by exact fun _ _ _ h => h) (by rfl) (by intro W hW; go_simp <;> with_reducible rfl) hs5 ?_
  try simp only [Act.put, tkT, tk0, tkS]
  refine clH 2 (by kernel_rfl) (by simp only [tkA, tkG]; rfl) (fun K hK => ?_)
  go_simp
  refine (HW1.out _ hs5).mono ?_
  rintro e w6 ⟨v, rfl, hr, hb6⟩
  have hs6 := hs5.step hb6
  clear HW1
  go_wp2_with fail
  refine hK.out _ _ hs6 (fun _ => ?_)
  clear hK K
  refine clH 5 (by kernel_rfl) (by simp only [tkA, tkG]; rfl) (fun K hK => ?_)
  go_simp
  refine (HOb.out _ (HX.out _ hs6)).mono ?_
  rintro e w7 ⟨ov, rfl, ho, hb7⟩
  have hs7 := hs6.step hb7
  clear HOb
  go_wp2_with fail
  refine hK.out _ _ hs7 (fun _ => ?_)
  clear hK K
  refine tkH 6 (by simp only [tkA, tkG]; rfl) (by kernel_rfl) (by exact fun _ _ _ h => h) (by rfl) (by intro W hW; go_simp <;> with_reducible rfl) hs7 ?_
  try simp only [Act.put, tkT, tk0, tkS]
  refine tkH 7 (by simp only [tkA, tkG]; rfl) (by kernel_rfl) (by exact fun _ _ _ h => h) (by rfl) (by intro W hW; go_simp <;> with_reducible rfl) hs7 ?_
  try simp only [Act.put, tkT, tk0, tkS]
  refine wpAnyH_done (by kernel_rfl) ?_ _
  have HR0 : Hid (FfR w3 ⟨ynodes, yfaulty, yslot, ygap, yrho, ydmin, ydmax, ymargin, yPA, ypn, ypcap, yparts, yQA, yqn, yqcap, yports, yRA, yrn, yrcap, yroutes⟩ v LW ov LO (.int .i64 0) w7) := Lib.hid ⟨0, Nat.zero_le _, rfl, hs7, own_low (hr.keep hb7) (Nat.zero_le _), own_low ho (Nat.zero_le _)⟩
  obtain ⟨vA, vc, hv, -⟩ := own_slice hr
  obtain ⟨oA, oc, hov, -⟩ := own_slice ho
  rw [← HLen.out] at hov
  subst hv hov
  clear hs5 hs6 hs7 hr ho hb6 hb7
  go_wp2_with fail
  go_loopw [50] (FfR w3 ⟨ynodes, yfaulty, yslot, ygap, yrho, ydmin, ydmax, ymargin, yPA, ypn, ypcap, yparts, yQA, yqn, yqcap, yports, yRA, yrn, yrcap, yroutes⟩ (.slice vA LW.length vc) LW (.slice oA LW.length oc) LO) (fun i _ => (LW.length + 1 - intOf i).toNat)
  case atStart => exact HR0.out
  case round =>
    clear HR0
    obtain ⟨k, hk, rfl, hs⟩ := hrel
    have hl12 := HL12.out
    by_cases hlt : k < LW.length
    case pos =>
      have q1 : decide ((k : Int) < (LW.length : Int)) = true := decide_eq_true (by omega)
      have q0 : decide (k < LW.length) = true := decide_eq_true hlt
      have e2_ : IntKind.i64.wrap ((k : Int) + 1) = (k : Int) + 1 := IntWalk.i64_in _ (by omega)
      obtain ⟨q, hq⟩ : ∃ q, LO[k]? = some q := ⟨_, List.getElem?_eq_getElem (by have := HLen.out; omega)⟩
      obtain ⟨p, hp, hqn, hwq, p1, p2, p3⟩ := HMem.out k q hq
      have hbx := HX.out _ hs.box
      obtain ⟨bp, op, ep, -, -⟩ := HPA.out _ hbx q p hp
      have HP9 := fun W (hW : FfS w3 ⟨ynodes, yfaulty, yslot, ygap, yrho, ydmin, ydmax, ymargin, yPA, ypn, ypcap, yparts, yQA, yqn, yqcap, yports, yRA, yrn, yrcap, yroutes⟩ (.slice vA LW.length vc) LW (.slice oA LW.length oc) LO W) => HPA.out W (HX.out W hW.box) q p hp
      subst ep
      obtain ⟨g, c, ev, -, -, -⟩ := hs.wins.at_ hwq
      obtain ⟨go, c', ev', -⟩ := idx_at hs.ord hq
      simp only [Value.slice.injEq, true_and] at ev ev'
      obtain ⟨rfl, rfl⟩ := ev
      obtain ⟨rfl, -, rfl⟩ := ev'
      obtain ⟨S, hS⟩ : ∃ S : World → Prop, S = FfS w3 ⟨ynodes, yfaulty, yslot, ygap, yrho, ydmin, ydmax, ymargin, yPA, ypn, ypcap, yparts, yQA, yqn, yqcap, yports, yRA, yrn, yrcap, yroutes⟩ (.slice (some ⟨g, 0, none⟩) LW.length vc) LW (.slice (some ⟨go, 0, none⟩) LW.length oc) LO := ⟨_, rfl⟩
      have hS1 : ∀ W, InF S W → FfS w3 ⟨ynodes, yfaulty, yslot, ygap, yrho, ydmin, ydmax, ymargin, yPA, ypn, ypcap, yparts, yQA, yqn, yqcap, yports, yRA, yrn, yrcap, yroutes⟩ (.slice (some ⟨g, 0, none⟩) LW.length vc) LW (.slice (some ⟨go, 0, none⟩) LW.length oc) LO W := fun W hW => by unfold InF at hW; rw [← hS]; exact hW
      have HS2 : Hid (∀ W, FfS w3 ⟨ynodes, yfaulty, yslot, ygap, yrho, ydmin, ydmax, ymargin, yPA, ypn, ypcap, yparts, yQA, yqn, yqcap, yports, yRA, yrn, yrcap, yroutes⟩ (.slice (some ⟨g, 0, none⟩) LW.length vc) LW (.slice (some ⟨go, 0, none⟩) LW.length oc) LO W → InF S W) := Lib.hid fun W hW => by unfold InF; rw [hS]; exact hW
      clear hS
      have s8 := fun W (hW : InF S W) => f8 W (hS1 W hW).box
      have so : ∀ W, InF S W → W.cell? ⟨go, k, none⟩ = some (.int .i64 (q : Nat)) := fun W hW => by
        obtain ⟨g', c', ev, h1⟩ := idx_at (hS1 W hW).ord hq
        simp only [Value.slice.injEq, Option.some.injEq, Addr.mk.injEq, and_true, true_and] at ev
        obtain ⟨rfl, -⟩ := ev
        exact h1
      have sw : ∀ W, InF S W → W.cell? ⟨g, k * 3, none⟩ = some (.int .i64 (q : Nat)) ∧ W.cell? ⟨g, k * 3 + 1, none⟩ = some (.int .i64 p.start) ∧ W.cell? ⟨g, k * 3 + 2, none⟩ = some (.int .i64 (p.start + p.length)) := fun W hW => by
        obtain ⟨g', c', ev, h1⟩ := (hS1 W hW).wins.at_ hwq
        simp only [Value.slice.injEq, Option.some.injEq, Addr.mk.injEq, and_true, true_and] at ev
        obtain ⟨rfl, -⟩ := ev
        exact h1
      have sw0 := fun W hW => (sw W hW).1
      have sw1 := fun W hW => (sw W hW).2.1
      have sw2 := fun W hW => (sw W hW).2.2
      have sp : ∀ W, InF S W → PartAt W bp (op + q * 9) p := fun W hW => by
        obtain ⟨b', o', ep', -, h1⟩ := HP9 W (hS1 W hW)
        simp only [Option.some.injEq, Addr.mk.injEq, and_true] at ep'
        obtain ⟨rfl, rfl⟩ := ep'
        exact h1
      obtain ⟨node1, start, length, budget, words, r0, r1, r2, r3⟩ := p
      simp only at p1 p2 p3 sw0 sw1 sw2
      have u0 := fun W hW => (sp W hW).c0
      have u1 := fun W hW => (sp W hW).c1
      have u2 := fun W hW => (sp W hW).c2
      have u3 := fun W hW => (sp W hW).c3
      have u4 := fun W hW => (sp W hW).c4
      have u5 := fun W hW => (sp W hW).c5
      have u6 := fun W hW => (sp W hW).c6
      have u7 := fun W hW => (sp W hW).c7
      have u8 := fun W hW => (sp W hW).c8
      simp only at u0 u1 u2 u3 u4 u5 u6 u7 u8
      have q2 : decide (q < pn) = true := decide_eq_true hqn
      have q3 : decide ((q : Int) < (pn : Int)) = true := decide_eq_true (by omega)
      have e1_ : IntKind.i64.wrap (start + length) = start + length := IntWalk.i64_in _ (by omega)
      have HR1 : Hid (∀ W, InF S W → FfR w3 ⟨ynodes, yfaulty, yslot, ygap, yrho, ydmin, ydmax, ymargin, yPA, ypn, ypcap, yparts, yQA, yqn, yqcap, yports, yRA, yrn, yrcap, yroutes⟩ (.slice (some ⟨g, 0, none⟩) LW.length vc) LW (.slice (some ⟨go, 0, none⟩) LW.length oc) LO (.int .i64 ((k : Int) + 1)) W) := Lib.hid fun W hW => ⟨k + 1, hlt, by go_num, hS1 W hW⟩
      have HSt : Hid (∀ W W', InF S W → Below W.heap.size W W' → InF S W') := Lib.hid fun W W' hW hb => HS2.out W' ((hS1 W hW).step hb)
      have hs0 := HSt.out _ wr.drew (HS2.out _ hs) (Below.refl _ _).drew
      clear hs hbx HS2 hS1 sw sp HP9 hwq hq hp HMem e0 e1 e2 e3 e4 e5 e6 e7 e8 e9 e10 f0 f1 f2 f3 f4 f5 f6 f7 f8 f9 f10 HX HA1 HI1 HAb HIb HPA HLow
      go_upto_region 14 with (fail)
      refine wp_region_held_drew (S := fun W => InF S W) (by kernel_rfl) hs0 (fun _ => ?_)
      refine tkH 0 (by simp only [tkA]; rfl) (by kernel_rfl) (by exact fun _ _ _ h => h) (by rfl) (by intro W hW; go_simp <;> with_reducible rfl) hs0 ?_
      try simp only [Act.put, tkT, tk0, tkS]
      refine tkH 1 (by simp only [tkA, tkG]; rfl) (by kernel_rfl) (by exact fun _ _ _ h => h) (by rfl) (by intro W hW; go_simp <;> with_reducible rfl) hs0 ?_
      try simp only [Act.put, tkT, tk0, tkS]
      refine tkH 2 (by simp only [tkA, tkG]; rfl) (by kernel_rfl) (by exact fun _ _ _ h => h) (by rfl) (by intro W hW; go_simp <;> with_reducible rfl) hs0 ?_
      try simp only [Act.put, tkT, tk0, tkS]
      refine tkH 3 (by simp only [tkA, tkG]; rfl) (by kernel_rfl) (by exact fun _ _ _ h => h) (by rfl) (by intro W hW; go_simp <;> with_reducible rfl) hs0 ?_
      try simp only [Act.put, tkT, tk0, tkS]
      refine tkH 4 (by simp only [tkA, tkG]; rfl) (by kernel_rfl) (by exact fun _ _ _ h => h) (by rfl) (by intro W hW; go_simp <;> with_reducible rfl) hs0 ?_
      try simp only [Act.put, tkT, tk0, tkS]
      refine tkH 5 (by simp only [tkA, tkG]; rfl) (by kernel_rfl) (by exact fun _ _ _ h => h) (by rfl) (by intro W hW; go_simp <;> with_reducible rfl) hs0 ?_
      try simp only [Act.put, tkT, tk0, tkS]
      refine tkH 6 (by simp only [tkA, tkG]; rfl) (by kernel_rfl) (by exact fun _ _ _ h => h) (by rfl) (by intro W hW; go_simp <;> with_reducible rfl) hs0 ?_
      try simp only [Act.put, tkT, tk0, tkS]
      refine tkH 7 (by simp only [tkA, tkG]; rfl) (by kernel_rfl) (by exact fun _ _ _ h => h) (by rfl) (by intro W hW; go_simp <;> with_reducible rfl) hs0 ?_
      try simp only [Act.put, tkT, tk0, tkS]
      refine clH 8 (by kernel_rfl) (by simp only [tkA, tkG]; rfl) (fun K hK => ?_)
      go_simp
      have hs1 := HSt.out _ _ hs0 ((Below.refl wr.drew.heap.size wr.drew).alloc (Nat.le_refl _) (.cells #[.int .i64 0, .int .i64 0, .int .i64 0, .int .i64 0, .int .i64 0, .int .u8 0, .int .u8 0, .int .u8 0, .int .u8 0] 39))
      go_wp2_with fail
      refine hK.out _ _ hs1 (fun _ => ?_)
      clear hK K
      refine clH 9 (by kernel_rfl) (by simp only [tkA, tkG]; rfl) (fun K hK => ?_)
      go_simp
      have hs2 := HSt.out _ _ hs0 ((Below.refl wr.drew.heap.size wr.drew).alloc (Nat.le_refl _) (.cells #[.int .i64 node1, .int .i64 start, .int .i64 length, .int .i64 budget, .int .i64 words, .int .u8 (r0 : Nat), .int .u8 (r1 : Nat), .int .u8 (r2 : Nat), .int .u8 (r3 : Nat)] 39))
      go_wp2_with fail
      refine hK.out _ _ hs2 (fun _ => ?_)
      clear hK K
      refine wpAnyH_done (by kernel_rfl) ?_ _
      have hx : ((wr.alloc (.cells #[.int .i64 node1, .int .i64 start, .int .i64 length, .int .i64 budget, .int .i64 words, .int .u8 (r0 : Nat), .int .u8 (r1 : Nat), .int .u8 (r2 : Nat), .int .u8 (r3 : Nat)] 39)).drew).heap[wr.heap.size]? = some (.cells #[.int .i64 node1, .int .i64 start, .int .i64 length, .int .i64 budget, .int .i64 words, .int .u8 (r0 : Nat), .int .u8 (r1 : Nat), .int .u8 (r2 : Nat), .int .u8 (r3 : Nat)] 39 (0, 0)) := heap_alloc_new wr (.cells #[.int .i64 node1, .int .i64 start, .int .i64 length, .int .i64 budget, .int .i64 words, .int .u8 (r0 : Nat), .int .u8 (r1 : Nat), .int .u8 (r2 : Nat), .int .u8 (r3 : Nat)] 39 (0, 0))
      replace hs2 : InF S ((wr.alloc (.cells #[.int .i64 node1, .int .i64 start, .int .i64 length, .int .i64 budget, .int .i64 words, .int .u8 (r0 : Nat), .int .u8 (r1 : Nat), .int .u8 (r2 : Nat), .int .u8 (r3 : Nat)] 39)).drew) := hs2
      clear hs0 hs1 s8
      generalize ((wr.alloc (.cells #[.int .i64 node1, .int .i64 start, .int .i64 length, .int .i64 budget, .int .i64 words, .int .u8 (r0 : Nat), .int .u8 (r1 : Nat), .int .u8 (r2 : Nat), .int .u8 (r3 : Nat)] 39)).drew) = wb at *
      have b0 := cell_at hx 0 rfl
      have b1 := cell_at hx 1 rfl
      have b2 := cell_at hx 2 rfl
      have o0 := so _ hs2
      have t0 := sw0 _ hs2
      have t1 := sw1 _ hs2
      have t2 := sw2 _ hs2
      have HS2 := Lib.hid hs2
      clear hs2 so sw0 sw1 sw2 hx u0 u1 u2 u3 u4 u5 u6 u7 u8
      go_wp2_with fail
      go_quiet (fail)
      go_wp2_with fail
      go_roundw
      case rel => exact HR1.out _ (HSt.out _ _ HS2.out (below_drewNc (Below.refl _ _) _))
      case measure => simp [intOf]; omega
    have hkn : k = LW.length := by omega
    subst hkn
    have q1 : decide ((LW.length : Int) < (LW.length : Int)) = false := decide_eq_false (by omega)
    have hs0 := hs.box.drew
    clear hs HMem HPA
    go_upto_region 18 with (fail)
    refine wp_region_held_drew (S := fun W => BoxS w3 ⟨ynodes, yfaulty, yslot, ygap, yrho, ydmin, ydmax, ymargin, yPA, ypn, ypcap, yparts, yQA, yqn, yqcap, yports, yRA, yrn, yrcap, yroutes⟩ W) (by kernel_rfl) hs0 (fun _ => ?_)
    refine tkH 0 (by simp only [tkA]; rfl) (by kernel_rfl) (by exact fun _ _ _ h => h) (by rfl) (by intro W hW; go_simp <;> with_reducible rfl) hs0 ?_
    try simp only [Act.put, tkT, tk0, tkS]
    refine tkH 1 (by simp only [tkA, tkG]; rfl) (by kernel_rfl) (by exact fun _ _ _ h => h) (by rfl) (by intro W hW; go_simp <;> with_reducible rfl) hs0 ?_
    try simp only [Act.put, tkT, tk0, tkS]
    refine tkH 2 (by simp only [tkA, tkG]; rfl) (by kernel_rfl) (by exact fun _ _ _ h => h) (by rfl) (by intro W hW; go_simp <;> with_reducible rfl) hs0 ?_
    try simp only [Act.put, tkT, tk0, tkS]
    refine tkH 4 (by simp only [tkA, tkG]; rfl) (by kernel_rfl) (by exact fun _ _ _ h => h) (by rfl) (by intro W hW; go_simp <;> with_reducible rfl) hs0 ?_
    try simp only [Act.put, tkT, tk0, tkS]
    refine tkH 5 (by simp only [tkA, tkG]; rfl) (by kernel_rfl) (by exact fun _ _ _ h => h) (by rfl) (by intro W hW; go_simp <;> with_reducible rfl) hs0 ?_
    try simp only [Act.put, tkT, tk0, tkS]
    refine tkH 6 (by simp only [tkA, tkG]; rfl) (by kernel_rfl) (by exact fun _ _ _ h => h) (by rfl) (by intro W hW; go_simp <;> with_reducible rfl) hs0 ?_
    try simp only [Act.put, tkT, tk0, tkS]
    refine clH 3 (by kernel_rfl) (by simp only [tkA, tkG]; rfl) (fun K hK => ?_)
    go_simp
    refine (HA1.out _ hs0).mono ?_
    rintro e w6 ⟨rfl, hb6⟩
    have hs6 := hs0.step hb6
    clear hb6 HA1
    go_wp2_with fail
    refine hK.out _ _ hs6 (fun _ => ?_)
    clear hK K
    refine clH 7 (by kernel_rfl) (by simp only [tkA, tkG]; rfl) (fun K hK => ?_)
    go_simp
    refine (HAb.out _ (HX.out _ hs6)).mono ?_
    rintro e w7 ⟨rfl, hb7⟩
    have hs7 := hs6.step hb7
    clear hb7 HAb
    go_wp2_with fail
    refine hK.out _ _ hs7 (fun _ => ?_)
    clear hK K
    refine tkH 8 (by simp only [tkA, tkG]; rfl) (by kernel_rfl) (by exact fun _ _ _ h => h) (by rfl) (by intro W hW; go_simp <;> with_reducible rfl) hs7 ?_
    try simp only [Act.put, tkT, tk0, tkS]
    refine tkH 9 (by simp only [tkA, tkG]; rfl) (by kernel_rfl) (by exact fun _ _ _ h => h) (by rfl) (by intro W hW; go_simp <;> with_reducible rfl) hs7 ?_
    try simp only [Act.put, tkT, tk0, tkS]
    refine tkH 10 (by simp only [tkA, tkG]; rfl) (by kernel_rfl) (by exact fun _ _ _ h => h) (by rfl) (by intro W hW; go_simp <;> with_reducible rfl) hs7 ?_
    try simp only [Act.put, tkT, tk0, tkS]
    refine tkH 11 (by simp only [tkA, tkG]; rfl) (by kernel_rfl) (by exact fun _ _ _ h => h) (by rfl) (by intro W hW; go_simp <;> with_reducible rfl) hs7 ?_
    try simp only [Act.put, tkT, tk0, tkS]
    refine tkH 12 (by simp only [tkA, tkG]; rfl) (by kernel_rfl) (by exact fun _ _ _ h => h) (by rfl) (by intro W hW; go_simp <;> with_reducible rfl) hs7 ?_
    try simp only [Act.put, tkT, tk0, tkS]
    refine tkH 13 (by simp only [tkA, tkG]; rfl) (by kernel_rfl) (by exact fun _ _ _ h => h) (by rfl) (by intro W hW; go_simp <;> with_reducible rfl) hs7 ?_
    try simp only [Act.put, tkT, tk0, tkS]
    refine tkH 14 (by simp only [tkA, tkG]; rfl) (by kernel_rfl) (by exact fun _ _ _ h => h) (by rfl) (by intro W hW; go_simp <;> with_reducible rfl) hs7 ?_
    try simp only [Act.put, tkT, tk0, tkS]
    refine tkH 15 (by simp only [tkA, tkG]; rfl) (by kernel_rfl) (by exact fun _ _ _ h => h) (by rfl) (by intro W hW; go_simp <;> with_reducible rfl) hs7 ?_
    try simp only [Act.put, tkT, tk0, tkS]
    refine tkH 16 (by simp only [tkA, tkG]; rfl) (by kernel_rfl) (by exact fun _ _ _ h => h) (by rfl) (by intro W hW; go_simp <;> with_reducible rfl) hs7 ?_
    try simp only [Act.put, tkT, tk0, tkS]
    refine tkH 17 (by simp only [tkA, tkG]; rfl) (by kernel_rfl) (by exact fun _ _ _ h => h) (by rfl) (by intro W hW; go_simp <;> with_reducible rfl) hs7 ?_
    try simp only [Act.put, tkT, tk0, tkS]
    refine tkH 18 (by simp only [tkA, tkG]; rfl) (by kernel_rfl) (by exact fun _ _ _ h => h) (by rfl) (by intro W hW; go_simp <;> with_reducible rfl) hs7 ?_
    try simp only [Act.put, tkT, tk0, tkS]
    refine tkH 19 (by simp only [tkA, tkG]; rfl) (by kernel_rfl) (by exact fun _ _ _ h => h) (by rfl) (by intro W hW; go_simp <;> with_reducible rfl) hs7 ?_
    try simp only [Act.put, tkT, tk0, tkS]
    refine tkH 20 (by simp only [tkA, tkG]; rfl) (by kernel_rfl) (by exact fun _ _ _ h => h) (by rfl) (by intro W hW; go_simp <;> with_reducible rfl) hs7 ?_
    try simp only [Act.put, tkT, tk0, tkS]
    refine tkH 21 (by simp only [tkA, tkG]; rfl) (by kernel_rfl) (by exact fun _ _ _ h => h) (by rfl) (by intro W hW; go_simp <;> with_reducible rfl) hs7 ?_
    try simp only [Act.put, tkT, tk0, tkS]
    refine tkH 23 (by simp only [tkA, tkG]; rfl) (by kernel_rfl) (by exact fun _ _ _ h => h) (by rfl) (by intro W hW; go_simp <;> with_reducible rfl) hs7 ?_
    try simp only [Act.put, tkT, tk0, tkS]
    refine tkH 24 (by simp only [tkA, tkG]; rfl) (by kernel_rfl) (by exact fun _ _ _ h => h) (by rfl) (by intro W hW; go_simp <;> with_reducible rfl) hs7 ?_
    try simp only [Act.put, tkT, tk0, tkS]
    refine clH 22 (by kernel_rfl) (by simp only [tkA, tkG]; rfl) (fun K hK => ?_)
    go_simp
    refine (HI1.out _ hs7).mono ?_
    rintro e w8 ⟨rfl, hb8⟩
    have hs8 := hs7.step hb8
    clear hb8 HI1
    go_wp2_with fail
    refine hK.out _ _ hs8 (fun _ => ?_)
    clear hK K
    refine clH 25 (by kernel_rfl) (by simp only [tkA, tkG]; rfl) (fun K hK => ?_)
    go_simp
    refine (HIb.out _ (HX.out _ hs8)).mono ?_
    rintro e w9 ⟨rfl, hb9⟩
    have hs9 := hs8.step hb9
    have HF := Lib.hid (HLow.out _ (HX.out _ hs9))
    clear hb9 HIb
    go_wp2_with fail
    refine hK.out _ _ hs9 (fun _ => ?_)
    clear hK K
    refine tkH 26 (by simp only [tkA, tkG]; rfl) (by kernel_rfl) (by exact fun _ _ _ h => h) (by rfl) (by intro W hW; go_simp <;> with_reducible rfl) hs9 ?_
    try simp only [Act.put, tkT, tk0, tkS]
    refine tkH 27 (by simp only [tkA, tkG]; rfl) (by kernel_rfl) (by exact fun _ _ _ h => h) (by rfl) (by intro W hW; go_simp <;> with_reducible rfl) hs9 ?_
    try simp only [Act.put, tkT, tk0, tkS]
    refine tkH 28 (by simp only [tkA, tkG]; rfl) (by kernel_rfl) (by exact fun _ _ _ h => h) (by rfl) (by intro W hW; go_simp <;> with_reducible rfl) hs9 ?_
    try simp only [Act.put, tkT, tk0, tkS]
    refine wpAnyH_done (by kernel_rfl) ?_ _
    clear hs0 hs6 hs7 hs8 hs9 e0 e1 e2 e3 e4 e5 e6 e7 e8 e9 e10 f0 f1 f2 f3 f4 f5 f6 f7 f8 f9 f10
    go_wp2_with fail
    go_ret
    exact ⟨rfl, HF.out⟩
end Go.Proofs.Ytfgpfmhjnccccaa
