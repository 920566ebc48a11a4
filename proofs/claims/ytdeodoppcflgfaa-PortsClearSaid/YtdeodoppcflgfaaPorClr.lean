/- PortsClear: the walk of the law. Conditions: where the tables and the messages lie. -/
import Derived.Test.YtdeodoppcflgfaaPorZ
namespace Go.Proofs.Ytdeodoppcflgfaa
open Go.RowKit PorP
set_option maxRecDepth 100000

theorem BoxS.touch {w W W' : World} {x : CfgC} {B : Nat} (h : BoxS w x W) (ht : Touch B W W') (hB : (boxC w x).heap.size ≤ B) (hW : B ≤ W.heap.size) : BoxS w x W' := h.trans ((ht.below hW).mono hB)
theorem keep_take {c : TableP.Cfg} {part : Int} {ys : List MsgC} {k : Nat} {y : MsgC} (h : ys[k]? = some y) : (ys.take (k + 1)).filter (fun y => keepM c part y.plain) = (ys.take k).filter (fun y => keepM c part y.plain) ++ if keepM c part y.plain = true then [y] else [] := by
  rw [List.take_add_one, h, List.filter_append]
  simp only [Option.toList_some, List.filter_cons, List.filter_nil]

theorem node_of' (a : Int) (N : Nat) (hN : 1 ≤ N) (hN7 : N ≤ 7) : ∃ t : Nat, t < N ∧ wrap64 ((IntKind.u64.wrap a).tmod (N : Int)) = (t : Int) := by
  obtain ⟨t, h1, h2⟩ := mod_of a (N : Int) (by omega) (by omega)
  exact ⟨t, by omega, h2⟩
set_option maxHeartbeats 16000000 in
theorem pclear_law (x : CfgC) (node part : Int) (A : Option Addr) (n cap : Nat) (ms : List MsgC) (hlen : ms.length = n) (hn : n ≤ cap) (hn2 : n ≤ 4398046511104) (w : World) (h : CfgIn w x) (hm : MsgsIn w A ms) : Calls Try.prog 9 #[x.value, .int .i64 node, .int .i64 part, .slice A n cap] w (AwakeP w) := by
  have HA := Lib.hid (fun W => awake13_any W)
  have HWk := Lib.hid (fun W (hW : BoxS w x W) => works_any x W (h.below hW.below))
  have HST := Lib.hid (BoxS.start w x)
  obtain ⟨L, hL⟩ : ∃ L, worksB x = L := ⟨_, rfl⟩
  rw [hL] at HWk
  cases L with
  | false =>
    clear h hL hn hn2 hlen hm
    obtain ⟨nodes, faulty, slot, gap, rho, dmin, dmax, margin, PA, pn, pcap, parts, QA, qn, qcap, ports, RA, rn, rcap, routes⟩ := x
    obtain ⟨d0, d1, d2, d3, d4, d5, d6, d7, d8, d9, d10⟩ := cfgFacts (fun W (hW : BoxS w ⟨nodes, faulty, slot, gap, rho, dmin, dmax, margin, PA, pn, pcap, parts, QA, qn, qcap, ports, RA, rn, rcap, routes⟩ W) => hW.cells)
    simp only at d0 d1 d2 d3 d4 d5 d6 d7 d8 d9 d10
    simp only [CfgC.value] at HWk ⊢
    simp only [boxC, cfgCells] at HST
    go_enter Try.func9, Try.ntmps9
    go_wp2_with fail
    refine (HA.out _).mono ?_
    rintro e w1 ⟨rfl, hb1⟩
    have hd1 := HST.out.step hb1
    clear hb1 HA
    obtain ⟨k0, k1, k2, k3, k4, k5, k6, k7, k8, k9, k10⟩ := eleven hd1 d0 d1 d2 d3 d4 d5 d6 d7 d8 d9 d10
    have Hd1 := Lib.hid hd1
    clear hd1
    go_wp2_with fail
    refine (HWk.out _ Hd1.out).mono ?_
    rintro e w2 ⟨rfl, hb2⟩
    have hd2 := Hd1.out.step hb2
    clear hb2 Hd1 HWk k0 k1 k2 k3 k4 k5 k6 k7 k8 k9 k10
    have HF := Lib.hid hd2.below
    clear hd2
    go_wp2_with fail
    go_ret
    exact ⟨rfl, HF.out⟩
  | true =>
  have hR : SndP.chk6 x.plain = none := by
    unfold worksB at hL
    simp only [Bool.and_eq_true] at hL
    exact Option.isNone_iff_eq_none.1 hL.2
  have hal := (SndP.works hR).allowed
  have hhd := hal.head.1
  have hN1 : 1 ≤ x.nodes ∧ x.nodes ≤ 7 := hhd
  have hpl := hal.ports
  have hpt := hal.parts
  have hpp := hal.port
  have hpn : x.parts.length = x.pn := h.plen
  have hpn12 : x.pn ≤ 12 := by rw [← hpn]; exact hpt
  have HNew : Hid (∀ W, BoxS w x W → ∀ node, 0 ≤ node ∧ node < x.nodes → Calls Try.prog 12 #[x.value, .int .i64 node] W (NewP W x.plain node)) := Lib.hid (fun W hW node hn => pornew_good x node W (h.below hW.below) hR hn)
  have HPo : Hid (∀ W, BoxS w x W → ItemsIn portVals 6 W x.QA x.ports) := Lib.hid (fun W hW => (h.below hW.below).ports)
  have HC : Hid (∀ W, BoxS w x W → Calls Try.prog 26 #[.slice A n cap] W (CopP W ms)) := Lib.hid (fun W hW => by
    have := copied13_any W A cap ms (by omega) (by omega) (hm.below hW.below)
    rw [hlen] at this
    exact this)
  have Hlen := Lib.hid hlen
  have Hal := Lib.hid hal
  have Hpp : Hid (∀ p ∈ x.ports, 0 ≤ p.part ∧ p.part ≤ (x.pn : Int) - 1) := Lib.hid (fun p hp => by
    have h1 := (hpp p hp).1
    rw [show x.plain.parts.length = x.pn from hpn] at h1
    exact h1)
  have HQl : Hid (x.ports.length = x.qn ∧ x.qn ≤ 24) := Lib.hid ⟨h.qlen, by rw [← h.qlen]; exact hpl⟩
  have HBw : Hid (∀ W, BoxS w x W → Below w.heap.size w W) := Lib.hid (fun W hW => hW.below)
  have HStep : Hid (∀ W W', BoxS w x W → Below W.heap.size W W' → BoxS w x W') := Lib.hid (fun W W' hW hb => hW.step hb)
  have HTch : Hid (∀ W0 W W' B, BoxS w x W0 → W0.heap.size ≤ B → BoxS w x W → Touch B W W' → B ≤ W.heap.size → BoxS w x W') := Lib.hid (fun W0 W W' B h0 h1 hW ht hB => hW.touch ht (Nat.le_trans h0.size h1) hB)
  have HApt : Hid (∀ W0 W W' B (F : Nat → Prop), BoxS w x W0 → W0.heap.size ≤ B → BoxS w x W → Apart F W W' → (∀ q, F q → B ≤ q) → B ≤ W.heap.size → BoxS w x W') := Lib.hid (fun W0 W W' B F h0 h1 hW ht hF hB => hW.trans ((ht.below hB hF).mono (Nat.le_trans h0.size h1)))
  have d0 : ∀ W, BoxS w x W → W.cell? ⟨w.heap.size, 0, none⟩ = some (.int .i64 x.nodes) := fun W hW => hW.cells.c0
  have d1 : ∀ W, BoxS w x W → W.cell? ⟨w.heap.size, 1, none⟩ = some (.int .i64 x.faulty) := fun W hW => hW.cells.c1
  have d2 : ∀ W, BoxS w x W → W.cell? ⟨w.heap.size, 2, none⟩ = some (.int .i64 x.slot) := fun W hW => hW.cells.c2
  have d3 : ∀ W, BoxS w x W → W.cell? ⟨w.heap.size, 3, none⟩ = some (.int .i64 x.gap) := fun W hW => hW.cells.c3
  have d4 : ∀ W, BoxS w x W → W.cell? ⟨w.heap.size, 4, none⟩ = some (.int .i64 x.rho) := fun W hW => hW.cells.c4
  have d5 : ∀ W, BoxS w x W → W.cell? ⟨w.heap.size, 5, none⟩ = some (.int .i64 x.dmin) := fun W hW => hW.cells.c5
  have d6 : ∀ W, BoxS w x W → W.cell? ⟨w.heap.size, 6, none⟩ = some (.int .i64 x.dmax) := fun W hW => hW.cells.c6
  have d7 : ∀ W, BoxS w x W → W.cell? ⟨w.heap.size, 7, none⟩ = some (.int .i64 x.margin) := fun W hW => hW.cells.c7
  have d8 : ∀ W, BoxS w x W → W.cell? ⟨w.heap.size, 8, none⟩ = some (.slice x.PA x.pn x.pcap) := fun W hW => hW.cells.c8
  have d9 : ∀ W, BoxS w x W → W.cell? ⟨w.heap.size, 9, none⟩ = some (.slice x.QA x.qn x.qcap) := fun W hW => hW.cells.c9
  have d10 : ∀ W, BoxS w x W → W.cell? ⟨w.heap.size, 10, none⟩ = some (.slice x.RA x.rn x.rcap) := fun W hW => hW.cells.c10
  have HPl : Hid (x.plain.ports = x.ports) := Lib.hid rfl
  obtain ⟨N, hN⟩ := Int.eq_ofNat_of_zero_le (show 0 ≤ x.nodes by omega)
  simp only [CfgC.value] at HWk HNew ⊢
  simp only [boxC, cfgCells] at HST
  rw [hN] at HST HWk HNew d0 hN1 ⊢
  have HN1 : Hid (1 ≤ N ∧ N ≤ 7) := Lib.hid ⟨by omega, by omega⟩
  clear hL hR h hm hal hhd hpl hpt hpp hpn hlen hN1 hN
  generalize x.plain = c at *
  generalize BoxS w x = Kept at *
  by_cases h60 : 60 < n
  case pos =>
    have q1 : decide ((60 : Int) < (n : Int)) = true := decide_eq_true (by omega)
    have q2 : decide (60 < n) = true := decide_eq_true h60
    clear h60 hn hn2 hpn12
    go_enter Try.func9, Try.ntmps9
    go_wp2_with fail
    refine (HA.out _).mono ?_
    rintro e w1 ⟨rfl, hb1⟩
    have hd1 := HStep.out _ _ HST.out hb1
    clear hb1 HA
    obtain ⟨k0, k1, k2, k3, k4, k5, k6, k7, k8, k9, k10⟩ := eleven hd1 d0 d1 d2 d3 d4 d5 d6 d7 d8 d9 d10
    have Hd1 := Lib.hid hd1
    clear hd1
    go_wp2_with fail
    refine (HWk.out _ Hd1.out).mono ?_
    rintro e w2 ⟨rfl, hb2⟩
    have hd2 := HStep.out _ _ Hd1.out hb2
    clear hb2 Hd1 HWk k0 k1 k2 k3 k4 k5 k6 k7 k8 k9 k10
    obtain ⟨k0, k1, k2, k3, k4, k5, k6, k7, k8, k9, k10⟩ := eleven hd2 d0 d1 d2 d3 d4 d5 d6 d7 d8 d9 d10
    have HF := Lib.hid (HBw.out _ hd2)
    clear hd2
    go_wp2_with fail
    go_ret
    exact ⟨rfl, HF.out⟩
  have q1 : decide ((60 : Int) < (n : Int)) = false := decide_eq_false (by omega)
  have q2 : decide (60 < n) = false := decide_eq_false h60
  by_cases hp0 : x.pn = 0
  case pos =>
    have q3 : (((x.pn : Nat) : Int) == 0) = true := by rw [hp0]; rfl
    clear h60 hn hn2 hpn12 hp0
    go_enter Try.func9, Try.ntmps9
    go_wp2_with fail
    refine (HA.out _).mono ?_
    rintro e w1 ⟨rfl, hb1⟩
    have hd1 := HStep.out _ _ HST.out hb1
    clear hb1 HA
    obtain ⟨k0, k1, k2, k3, k4, k5, k6, k7, k8, k9, k10⟩ := eleven hd1 d0 d1 d2 d3 d4 d5 d6 d7 d8 d9 d10
    have Hd1 := Lib.hid hd1
    clear hd1
    go_wp2_with fail
    refine (HWk.out _ Hd1.out).mono ?_
    rintro e w2 ⟨rfl, hb2⟩
    have hd2 := HStep.out _ _ Hd1.out hb2
    clear hb2 Hd1 HWk k0 k1 k2 k3 k4 k5 k6 k7 k8 k9 k10
    obtain ⟨k0, k1, k2, k3, k4, k5, k6, k7, k8, k9, k10⟩ := eleven hd2 d0 d1 d2 d3 d4 d5 d6 d7 d8 d9 d10
    have HF := Lib.hid (HBw.out _ hd2)
    clear hd2
    go_wp2_with fail
    go_ret
    exact ⟨rfl, HF.out⟩
  have q3 : (((x.pn : Nat) : Int) == 0) = false := by rw [beq_eq_false_iff_ne]; omega
  obtain ⟨t, ht, et⟩ := node_of' node N HN1.out.1 HN1.out.2
  obtain ⟨u, hu, eu⟩ := mod_of part x.pn (by omega) (by omega)
  have e1 : IntKind.u64.wrap (N : Int) = (N : Int) := u64_in _ (by omega) (by have := HN1.out.2; omega)
  have e2 : IntKind.u64.wrap ((x.pn : Nat) : Int) = ((x.pn : Nat) : Int) := u64_in _ (by omega) (by omega)
  have zN : ¬ ((N : Nat) : Int) = 0 := by have := HN1.out.1; omega
  have zP : ¬ ((x.pn : Nat) : Int) = 0 := by omega
  have Hn60 : Hid (n ≤ 60) := Lib.hid (by omega)
  have Htu : Hid (t < N ∧ u < x.pn ∧ 0 < x.pn) := Lib.hid ⟨ht, by omega, by omega⟩
  clear h60 hn hn2 hpn12 hp0 ht hu
  go_enter Try.func9, Try.ntmps9
  go_wp2_with fail
  refine (HA.out _).mono ?_
  rintro e w1 ⟨rfl, hb1⟩
  have hd1 := HStep.out _ _ HST.out hb1
  clear hb1 HA
  obtain ⟨k0, k1, k2, k3, k4, k5, k6, k7, k8, k9, k10⟩ := eleven hd1 d0 d1 d2 d3 d4 d5 d6 d7 d8 d9 d10
  have Hd1 := Lib.hid hd1
  clear hd1
  go_wp2_with fail
  refine (HWk.out _ Hd1.out).mono ?_
  rintro e w2 ⟨rfl, hb2⟩
  have hd2 := HStep.out _ _ Hd1.out hb2
  clear hb2 Hd1 HWk k0 k1 k2 k3 k4 k5 k6 k7 k8 k9 k10
  obtain ⟨k0, k1, k2, k3, k4, k5, k6, k7, k8, k9, k10⟩ := eleven hd2 d0 d1 d2 d3 d4 d5 d6 d7 d8 d9 d10
  have Hd2 := Lib.hid hd2
  clear hd2
  go_wp2_with fail
  go_quiet (fail)
  go_wp2_with fail
  have Hd2n : Hid (∀ m, Kept (w2.drewN m)) := Lib.hid fun m => HStep.out _ _ Hd2.out (below_drewN (Below.refl _ _) m)
  refine (HNew.out _ (Hd2n.out _) t (by have := Htu.out.1; omega)).mono ?_
  rintro e w3 ⟨y, rfl, ny, py, sy, hb3⟩
  have hd3 := HStep.out _ _ (Hd2n.out _) hb3
  rw [et, eu]
  clear k0 k1 k2 k3 k4 k5 k6 k7 k8 k9 k10 zN zP e1 e2 et eu q1 q2 q3
  generalize e2d : World.drewN w2 _ = w2d at *
  have hk2 : Kept w2d := e2d ▸ Hd2n.out _
  have Hk2 := Lib.hid hk2
  have HI0 : Hid (InR c Kept w2d.heap.size y.a (t : Int) N (.int .i64 0) w3) := Lib.hid ⟨0, PorP.start c, Nat.zero_le _, rfl, ⟨hb3.size, y, rfl, ny, sy, py⟩, hd3⟩
  unfold pv
  generalize y.a = ya at *
  clear ny py sy hb3 hd3 hk2 e2d Hd2n Hd2 HNew HST
  go_wp2_with fail
  go_loopw [11] (InR c Kept w2d.heap.size ya (t : Int) N) (fun j _ => (N + 1 - intOf j).toNat)
  case atStart => exact HI0.out
  case round =>
    clear HI0
    obtain ⟨k, st, hk, rfl, hs, hkp⟩ := hrel
    have k0 := d0 _ hkp
    by_cases hlt : k < N
    case pos =>
      have hN7 := HN1.out.2
      have q3 : decide ((k : Int) < (N : Int)) = true := decide_eq_true (by omega)
      have q4 : decide (k < N) = true := decide_eq_true hlt
      have e1 : IntKind.i64.wrap ((k : Int) + 1) = (k : Int) + 1 := IntWalk.i64_in _ (by omega)
      have HCk := Lib.hid (HC.out _ hkp)
      have HSk := Lib.hid hs
      have HKk := Lib.hid hkp
      have Hlt := Lib.hid hlt
      clear hs hkp hN7 hk hlt
      go_wp2_with fail
      refine HCk.out.mono ?_
      rintro e w4 ⟨A4, c4, ys, rfl, hy4, hm4, hp4, hf4, hb4⟩
      rw [Hlen.out] at hy4
      obtain ⟨dk, hdk⟩ : ∃ dk, deliverT c t (k : Int) ((ms.map MsgC.plain).map (fun m => (m.port, m.data))) st = dk := ⟨_, rfl⟩
      have HD4 := Lib.hid (solo_deliver HSk.out hb4 Hal.out (k : Int) A4 n c4 ys hy4 (by have := Hn60.out; omega) hm4 hf4 _ hp4 dk.1 dk.2 hdk)
      have hk4 := HStep.out _ _ HKk.out hb4
      have HNx : Hid (∀ w', SoloE w' w2d.heap.size c ya t dk.2 → Touch w2d.heap.size w4 w' → InR c Kept w2d.heap.size ya (t : Int) N (.int .i64 ((k : Int) + 1)) w') := Lib.hid fun w' h1 h2 => ⟨k + 1, dk.2, Hlt.out, by go_num, h1, HTch.out _ _ _ _ Hk2.out (Nat.le_refl _) hk4 h2 (Nat.le_trans HSk.out.1 hb4.size)⟩
      rw [Hlen.out]
      clear hy4 hm4 hp4 hf4 hb4 hdk hk4 k0 HCk
      go_wp2_with fail
      refine HD4.out.mono ?_
      rintro e w5 ⟨rfl, hS5, hT5⟩
      have HR := Lib.hid (HNx.out w5 hS5 hT5)
      clear hS5 hT5 HD4 HNx HSk HKk
      go_wp2_with fail
      go_roundw
      case rel => exact HR.out
      case measure => have := Hlt.out; simp [intOf]; omega
    case neg =>
      obtain rfl : k = N := by omega
      have q3 : decide ((k : Int) < (k : Int)) = false := decide_eq_false (by omega)
      have HIm := Lib.hid (solo_image hs Hal.out _ rfl)
      have Hs := Lib.hid hs
      have Hkp := Lib.hid hkp
      clear hs hkp hk hlt HC Hlen
      go_wp2_with fail
      refine HIm.out.mono ?_
      rintro e w6 ⟨AI, nI, cI, ys, rfl, hyn, hO, hpl, hb6⟩
      subst hyn
      have hk6 := HStep.out _ _ Hkp.out hb6
      have HIl : Hid (∀ q, (Value.slice AI ys.length cI).ownBlock = some q → q < w6.heap.size) := Lib.hid fun q hq => (hO.row.lt q hq).2
      have HPl2 := Lib.hid hpl
      have HW0 : Hid (WantR c Kept w2d.heap.size ya (t : Int) (u : Int) st w6.heap.size (.slice AI ys.length cI) ys (.slice none 0 0) (.int .i64 0) w6) := Lib.hid ⟨0, [], Nat.zero_le _, rfl, rfl, OutM.nil _ _, fun q hq => by simp [Value.ownBlock] at hq, hO.low Hs.out.1, Hs.out.below hb6, hk6, Nat.le_refl _⟩
      have Hmost : Hid (ys.length ≤ 96) := Lib.hid (by
        have h1 := congrArg List.length hpl
        rw [List.length_map] at h1
        rw [h1]
        exact img_most Hs.out.most _ Hal.out.ports)
      have HPt : Hid (∀ y ∈ ys, ∃ (i : Nat) (p : TableP.Port), y.port = (i : Int) ∧ c.ports[i]? = some p) := Lib.hid fun y hy => img_port (c := c) (st := st) (m := y.plain) _ (by rw [← hpl]; exact List.mem_map_of_mem hy)
      clear k0 q3 HIm hO hpl hb6 hk6 Hs Hkp
      go_wp2_with fail
      go_loopw [12, 68] (WantR c Kept w2d.heap.size ya (t : Int) (u : Int) st w6.heap.size (.slice AI ys.length cI) ys) (fun _ j _ => (ys.length + 1 - intOf j).toNat)
      case atStart => exact HW0.out
      case round =>
        clear HW0
        obtain ⟨k, zs, hk, rfl, hz, ho, hvq, hoI, hs, hkp, hN6⟩ := hrel
        obtain ⟨Av, cv, rfl, -, -⟩ := ho.reads
        have hmost := Hmost.out
        by_cases hlt : k < ys.length
        case pos =>
          obtain ⟨yk, hy⟩ : ∃ yk, ys[k]? = some yk := ⟨_, List.getElem?_eq_getElem hlt⟩
          obtain ⟨AI', cI', eI, -, hin⟩ := hoI.reads
          injection eI with eI1 eI2 eI3
          subst eI1
          clear eI2 eI3
          obtain ⟨bm, om, rfl, hbm, hmi⟩ := hin (by omega)
          obtain ⟨kp, kt, kok⟩ := hmi k yk hy
          have howm := hoI.each yk (List.mem_of_getElem? hy)
          have hkt := keep_take (c := c) (part := (u : Int)) hy
          have hmem := List.mem_of_getElem? hy
          obtain ⟨i, p, hip, hp⟩ := HPt.out yk hmem
          obtain ⟨port, D, m, cc, data⟩ := yk
          simp only at hip kp kt
          subst hip
          have hdm : data.length = m := kok.len
          subst hdm
          have hkm : keepM c (u : Int) (MsgC.plain ⟨(i : Int), D, data.length, cc, data⟩) = decide (p.part ≠ (u : Int)) := by
            unfold keepM MsgC.plain
            simp only [Int.toNat_natCast, hp]
          have hiq : i < x.qn := by rw [← HQl.out.1, ← HPl.out]; exact (List.getElem?_eq_some_iff.1 hp).1
          have hq24 := HQl.out.2
          have hpx : x.ports[i]? = some p := by rw [← HPl.out]; exact hp
          have hbx : Below wr.heap.size wr (wr.alloc (.cells #[.int .i64 (i : Nat), .slice D data.length cc] 68)) := (Below.refl _ _).alloc (Nat.le_refl _) _
          have hk7 := HStep.out _ _ hkp hbx
          have hnb := heap_alloc_new wr (.cells #[.int .i64 (i : Nat), .slice D data.length cc] 68)
          have m0 := cell_at hnb 0 rfl
          have m1 := cell_at hnb 1 rfl
          obtain ⟨bq, oq, hqa, -, hqi⟩ := HPo.out _ hk7 (by rw [HQl.out.1]; omega)
          have kq : (wr.alloc (.cells #[.int .i64 (i : Nat), .slice D data.length cc] 68)).cell? ⟨bq, oq + i * 6, none⟩ = some (.int .i64 p.part) := hqi i p hpx 0 _ rfl
          have k9 := d9 _ hk7
          rw [hqa] at k9
          have q3 : decide ((k : Int) < (ys.length : Int)) = true := decide_eq_true (by omega)
          have q4 : decide (k < ys.length) = true := decide_eq_true hlt
          have hkz : (k : Int) < (ys.length : Int) := by omega
          have q5 : (i : Int) < (x.qn : Int) := by omega
          have e1 : IntKind.i64.wrap ((k : Int) + 1) = (k : Int) + 1 := IntWalk.i64_in _ (by omega)
          have Hlt := Lib.hid hlt
          have hzl : zs.length ≤ 96 := by
            rw [hz]
            exact Nat.le_trans (List.length_filter_le _ _) (by rw [List.length_take]; omega)
          have hB7 : w2d.heap.size ≤ (wr.alloc (.cells #[.int .i64 (i : Nat), .slice D data.length cc] 68)).heap.size := Nat.le_trans hs.1 hbx.size
          have ho7 := ho.below hbx
          have hoI7 := hoI.below hbx
          have hs7 := hs.below hbx
          have hN7 : w6.heap.size ≤ (wr.alloc (.cells #[.int .i64 (i : Nat), .slice D data.length cc] 68)).heap.size := Nat.le_trans hN6 hbx.size
          by_cases hpu : p.part = (u : Int)
          case pos =>
            have p1 : (p.part == (u : Int)) = true := by simp [hpu]
            have p2 : (p.part != (u : Int)) = false := by simp [hpu]
            have HR : Hid (WantR c Kept w2d.heap.size ya (t : Int) (u : Int) st w6.heap.size (.slice (some ⟨bm, om, none⟩) ys.length cI) ys (.slice Av zs.length cv) (.int .i64 ((k : Int) + 1)) (wr.alloc (.cells #[.int .i64 (i : Nat), .slice D data.length cc] 68))) := Lib.hid ⟨k + 1, zs, hlt, by go_num, by rw [hkt, hkm, ← hz, if_neg (by simp [hpu])]; simp, ho7, hvq, hoI7, hs7, hk7, hN7⟩
            clear hz ho hvq hoI hs hkp hN6 hin hmi kok howm hkt hmem hp hkm hpx hbx hk7 hnb hqi hqa hpu ho7 hoI7 hs7 hN7 hB7 hy hbm
            go_wp2_with fail
            go_roundw
            case rel => exact HR.out
            case measure => have := Hlt.out; simp [intOf]; omega
          case neg =>
            have p1 : (p.part == (u : Int)) = false := by simp [hpu]
            have p2 : (p.part != (u : Int)) = true := by simp [hpu]
            have hbx2 : ∀ o, Below (wr.alloc (.cells #[.int .i64 (i : Nat), .slice D data.length cc] 68)).heap.size (wr.alloc (.cells #[.int .i64 (i : Nat), .slice D data.length cc] 68)) ((wr.alloc (.cells #[.int .i64 (i : Nat), .slice D data.length cc] 68)).alloc o) := fun o => (Below.refl _ _).alloc (Nat.le_refl _) _
            have HNx : Hid (∀ o v9 w9, w9.ownsRow w2d.heap.size 68 2 v9 (zs.length + 1) (msgVals zs ++ MsgC.vals ⟨(i : Int), D, data.length, cc, data⟩) → Apart (fun q => (Value.slice Av zs.length cv).ownBlock = some q) ((wr.alloc (.cells #[.int .i64 (i : Nat), .slice D data.length cc] 68)).alloc o) w9 → (v9.ownBlock = (Value.slice Av zs.length cv).ownBlock ∨ ∃ q, v9.ownBlock = some q ∧ w6.heap.size ≤ q) →
                WantR c Kept w2d.heap.size ya (t : Int) (u : Int) st w6.heap.size (.slice (some ⟨bm, om, none⟩) ys.length cI) ys v9 (.int .i64 ((k : Int) + 1)) w9) := Lib.hid fun o v9 w9 h1 h2 h3 => by
              have ho8 := ho7.below (hbx2 o)
              have ha : ∀ q, (Value.slice Av zs.length cv).ownBlock = some q → w6.heap.size ≤ q := hvq
              have hk8 := HStep.out _ _ hk7 (hbx2 o)
              refine ⟨k + 1, zs ++ [⟨(i : Int), D, data.length, cc, data⟩], hlt, by go_num, by rw [hkt, hkm, ← hz, if_pos (by simp [hpu])], ho8.more (y := ⟨(i : Int), D, data.length, cc, data⟩) h1 ?_ h2, fun q hq => ?_, (hoI7.below (hbx2 o)).keep ho8 HIl.out ha h2, (hs7.below (hbx2 o)).out ho8 h2, ?_, Nat.le_trans hN7 (Nat.le_trans (hbx2 o).size h2.size)⟩
              · exact ⟨own_apart (F := fun _ => False) howm.row (Apart.of_below' (hbx.trans ((hbx2 o).mono hbx.size))) (fun _ _ h => h), howm.most, howm.ports⟩
              · rcases h3 with e | ⟨q', e, hq'⟩
                · exact hvq q (by rw [← e]; exact hq)
                · rw [hq] at e
                  have := Option.some.inj e
                  omega
              · exact HApt.out _ _ _ _ _ Hk2.out (Nat.le_refl _) hk8 h2 (fun q hq => (ho8.row.lt q hq).1) (Nat.le_trans hB7 (hbx2 o).size)
            have HO7 : Hid (∀ o, ((wr.alloc (.cells #[.int .i64 (i : Nat), .slice D data.length cc] 68)).alloc o).ownsRow w2d.heap.size 68 2 (.slice Av zs.length cv) zs.length (msgVals zs)) := Lib.hid fun o => ho7.row.alloc _
            have hsz : w6.heap.size ≤ wr.heap.size := hN6
            have hB8 : w2d.heap.size ≤ wr.heap.size := hs.1
            generalize zs.length = L at *
            clear hz ho hvq hoI hs hkp hN6 hin hmi kok howm hkt hmem hp hkm hpx hbx hk7 hnb hqi hqa hpu ho7 hoI7 hs7 hN7 hB7 hy hbx2 hbm
            go_wp2_with (at_builtin
                         go_loud (
                         refine wpList_append_s rfl (.tmp 81) (.tmp 83) _ rfl w2d.heap.size 68 _ 2 32 Try.underlying39 infoM rfl (by omega) _ L (msgVals zs) rfl (HO7.out _) (some ⟨wr.heap.size + 1, 0, none⟩) 1 1 (MsgC.vals ⟨(i : Int), D, data.length, cc, data⟩) rfl rfl ?n2 ?n3 (by unfold maxLen; omega) (by omega) (by simp; omega) ?_
                         case n2 => exact fun _ => ⟨_, rfl, laid_at (wr.alloc (.cells #[.int .i64 (i : Nat), .slice D data.length cc] 68)) 68 _ _ (by simp)⟩
                         case n3 =>
                           intro u hu
                           simp only [MsgC.vals, List.mem_cons, List.not_mem_nil, or_false] at hu
                           rcases hu with rfl | rfl <;> rfl
                         intro v9 w9 ho9 ha9 hb9
                         have HR2 := Lib.hid (HNx.out _ v9 w9 ho9 ha9 (hb9.imp id fun e => ⟨_, e, by simp; omega⟩))
                         obtain ⟨A9, c9, rfl, -⟩ := own_slice ho9
                         clear ho9 ha9 hb9 HNx HO7))
            go_roundw
            case rel => exact HR2.out
            case measure => have := Hlt.out; simp [intOf]; omega
        case neg =>
          obtain rfl : k = ys.length := by omega
          have q3 : decide ((ys.length : Int) < (ys.length : Int)) = false := decide_eq_false (by omega)
          rw [List.take_length] at hz
          have hzp : zs.map MsgC.plain = imgP c (fun p => !false || p.out) (clearT c (u : Int) st) c.ports.length := by
            rw [img_clear, ← HPl2.out, hz, List.filter_map]; rfl
          have hzl : zs.length ≤ 96 := by
            rw [hz]
            exact Nat.le_trans (List.length_filter_le _ _) hmost
          have HZ := Lib.hid (And.intro hzp hzl)
          have hst := hs.len
          have hcl : ∀ q : Int, (∀ p ∈ x.ports, p.part ≠ q) → clearT c q (clearT c (u : Int) st) = clearT c (u : Int) st := fun q hq => clear_none (by unfold clearT; rw [List.length_zipWith, hst]; exact Nat.min_self _) (by rw [HPl.out]; exact hq)
          have Hcl1 := Lib.hid (hcl (-1) (fun p hp h => by have := (Hpp.out p hp).1; omega))
          have Hcl2 := Lib.hid (hcl ((x.pn : Nat) : Int) (fun p hp h => by have := (Hpp.out p hp).2; omega))
          have HC1 := Lib.hid (solo_clear hs Hal.out.ports (u : Int))
          have Hkp := Lib.hid hkp
          have Ho := Lib.hid ho
          have Hs1 := Lib.hid hs.1
          clear hk hlt hz ho hvq hoI hs hkp hN6 hzp hzl hst hcl hmost HPt HIl Hmost
          go_wp2_with fail
          refine HC1.out.mono ?_
          rintro e w8 ⟨rfl, hs8, hT8⟩
          have Hk8 := Lib.hid (HTch.out _ _ _ _ Hk2.out (Nat.le_refl _) Hkp.out hT8 Hs1.out)
          have Ho8 := Lib.hid (hT8.out Ho.out)
          have Hs8 := Lib.hid hs8
          clear hs8 hT8 HC1 Hkp Ho Hs1 q3
          go_wp2_with fail
          refine (solo_clear Hs8.out Hal.out.ports (-1)).mono ?_
          rintro e w9 ⟨rfl, hs9, hT9⟩
          rw [Hcl1.out] at hs9
          have hk9 := HTch.out _ _ _ _ Hk2.out (Nat.le_refl _) Hk8.out hT9 Hs8.out.1
          have k8 := d8 _ hk9
          have Hk9 := Lib.hid hk9
          have Ho9 := Lib.hid (hT9.out Ho8.out)
          have Hs9 := Lib.hid hs9
          clear hs9 hT9 hk9 Hk8 Ho8 Hs8
          go_wp2_with fail
          refine (solo_clear Hs9.out Hal.out.ports ((x.pn : Nat) : Int)).mono ?_
          rintro e w10 ⟨rfl, hs10, hT10⟩
          rw [Hcl2.out] at hs10
          have Hk10 := Lib.hid (HTch.out _ _ _ _ Hk2.out (Nat.le_refl _) Hk9.out hT10 Hs9.out.1)
          have Ho10 := Lib.hid (hT10.out Ho9.out)
          have Hs10 := Lib.hid hs10
          clear hs10 hT10 Hk9 Ho9 Hs9 k8
          go_wp2_with fail
          refine (solo_image Hs10.out Hal.out _ rfl).mono ?_
          rintro e w11 ⟨A11, n11, c11, ys2, rfl, hyn2, hO2, hpl2, hb11⟩
          have hl2 : ys2.length = zs.length := by
            have h1 := congrArg List.length (hpl2.trans HZ.out.1.symm)
            simpa using h1
          rw [hl2] at hyn2
          subst hyn2
          have Hk11 := Lib.hid (HBw.out _ (HStep.out _ _ Hk10.out hb11))
          have ho11 := Ho10.out.below hb11
          have HSm : Hid (Calls Try.prog 23 #[.slice A11 zs.length c11, .slice Av zs.length cv] w11 (SamePost w11)) := Lib.hid (by
            obtain ⟨Aa, ca, ea, -, hina⟩ := hO2.reads
            obtain ⟨Ab, cb, eb, -, hinb⟩ := ho11.reads
            injection ea with ea1 ea2 ea3
            injection eb with eb1 eb2 eb3
            subst ea1 eb1
            exact sameMsgs_any A11 Av zs.length c11 cv ys2 zs hl2 (hpl2.trans HZ.out.1.symm) w11 hina hinb (by have := HZ.out.2; omega))
          clear hl2 hO2 hpl2 hb11 ho11 Hk10 Ho10 Hs10
          go_wp2_with fail
          refine HSm.out.mono ?_
          rintro e w12 ⟨rfl, m12, rfl⟩
          have HF := Lib.hid (below_drewN Hk11.out m12)
          clear HSm
          go_wp2_with fail
          go_ret
          exact ⟨rfl, HF.out⟩
end Go.Proofs.Ytdeodoppcflgfaa
