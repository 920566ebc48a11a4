/- FramesWalk: the walk of the law at tables in memory. Conditions: where their lists lie. -/
import Derived.Test.YtfgpfmhjnccccaaWinC
import Derived.Test.YtfgpfmhjnccccaaSndL
import Derived.BigQuiet
namespace Go.Proofs.Ytfgpfmhjnccccaa
open Go.RowKit
set_option maxRecDepth 100000

/-- What has been seen: a map's keys. -/
def SeenD (l : List Int) (D : DataW Unit) : Prop := ∀ n : Int, D.atKey (.int .i64 n) (.lit (.bool false)) = .lit (.bool (decide (n ∈ l)))
theorem SeenD.nil : SeenD [] (.map []) := fun n => by kernel_rfl
theorem SeenD.put {l : List Int} {D : DataW Unit} (h : SeenD l D) (hD : Maps.IsMap D) (v : Int) : SeenD (v :: l) (D.put (.int .i64 v) (.lit (.bool true))) := fun n => by
  by_cases hn : n = v
  · subst hn
    rw [Maps.atKey_put_same hD (show WideAt.IsKeyLit (Lit.int .i64 n) from trivial)]
    simp
  · rw [Maps.atKey_put_other (by intro e; cases e; exact hn rfl), h n]
    congr 2
    simp [hn]
/-- The boxed tables and a map of what has been seen. -/
structure FwS (w : World) (x : CfgC) (M n : Nat) (seen : List Int) (W : World) : Prop where
  box : BoxS w x W
  hi : (boxC w x).heap.size ≤ M
  map : ∃ D, W.ownsMap Try.prog 3 boolR M n D ∧ SeenD seen D ∧ Maps.IsMap D
theorem FwS.step {w : World} {x : CfgC} {M n : Nat} {seen : List Int} {W W' : World} (h : FwS w x M n seen W) (hb : Below W.heap.size W W') : FwS w x M n seen W' := by
  obtain ⟨D, ⟨es, clock, h1, h2⟩, h3⟩ := h.map
  exact ⟨h.box.step hb, h.hi, D, ⟨es, clock, (hb.block M (Array.getElem?_eq_some_iff.1 h1).1).trans h1, h2⟩, h3⟩
theorem FwS.look {w : World} {x : CfgC} {M n : Nat} {seen : List Int} {W : World} (h : FwS w x M n seen W) {v : Int} (hv : -9223372036854775808 ≤ v ∧ v ≤ 9223372036854775807) : (Instr.lookup 46 (.map (some M)) (.int .i64 v) false).run Try.prog W = .ok (.bool (decide (v ∈ seen))) W := by
  obtain ⟨D, hW, hfr, -⟩ := h.map
  obtain ⟨u, ps, h1, h2⟩ := hW.lookup (t := 46) (e := 4) (z := .bool false) (zd := .lit (.bool false)) (zp := []) (key := .int .i64 v) (kl := .int .i64 v) (Maps.int_keyed Try.underlying3) Try.underlying46 (by kernel_rfl) rfl (Maps.keyOf_int_mk Try.underlying3 (int_wf hv))
  rw [hfr v] at h2
  rw [boolR_inv h2] at h1
  exact h1
/-- The walk from change to change. -/
def FwR (w : World) (x : CfgC) (Wk : Option Int → List Int → Nat → Prop) (M : Nat) (at_ ok n : Value) (W : World) : Prop := ∃ (k : Nat) (b : Option Int) (seen : List Int), at_ = .int .i64 (b.getD 0) ∧ ok = .bool b.isSome ∧ n = .int .i64 (k : Nat) ∧ Wk b seen k ∧ WinP.InR b ∧ FwS w x M k seen W
def FwL (w : World) (x : CfgC) (M k : Nat) (seen : List Int) (v : Value) (L : List WinP.Win) (i : Value) (W : World) : Prop := ∃ j, j ≤ L.length ∧ i = .int .i64 (j : Nat) ∧ FwS w x M k seen W ∧ WRow W 0 v L
theorem FwS.put {w : World} {x : CfgC} {M n : Nat} {seen : List Int} {W W' : World} {D : DataW Unit} {v : Int} (h : FwS w x M n seen W) (h1 : W'.ownsMap Try.prog 3 boolR M (n + 1) (D.put (.int .i64 v) (.lit (.bool true)))) (hg : W.grownBy W' (some M)) (hD : SeenD seen D) (hm : Maps.IsMap D) : FwS w x M (n + 1) (v :: seen) W' :=
  ⟨Below.grown h.box hg h.box.size (fun j hj => by cases hj; exact h.hi), h.hi, _, h1, hD.put hm v, hm.put _ _⟩
theorem nextIn {c : TableP.Cfg} (h : SndP.Works c) (node t : Int) : WinP.InR (WinP.nextT c node t) := fun v hv => by
  obtain ⟨h1, -, -⟩ := WinP.next_some hv
  obtain ⟨k, p, hp, -, h2⟩ := WinP.mem_chg.1 h1
  have := WinP.part_fit h hp
  omega
set_option maxHeartbeats 8000000 in
theorem fwalk_law (x : CfgC) (node : Int) (w : World) (h : CfgIn w x) : Calls Try.prog 5 #[x.value, .int .i64 node] w (TruePost w) := by
  have HA := Lib.hid (fun W => awake17_any W)
  have HWk := Lib.hid (fun W (hW : BoxS w x W) => works_any x W (h.below hW.below))
  have HST := Lib.hid (BoxS.start w x)
  obtain ⟨L, hL⟩ : ∃ L, worksB x = L := ⟨_, rfl⟩
  rw [hL] at HWk
  cases L with
  | false =>
    clear h hL
    obtain ⟨nodes, faulty, slot, gap, rho, dmin, dmax, margin, PA, pn, pcap, parts, QA, qn, qcap, ports, RA, rn, rcap, routes⟩ := x
    obtain ⟨d0, d1, d2, d3, d4, d5, d6, d7, d8, d9, d10⟩ := cfgFacts (fun W (hW : BoxS w ⟨nodes, faulty, slot, gap, rho, dmin, dmax, margin, PA, pn, pcap, parts, QA, qn, qcap, ports, RA, rn, rcap, routes⟩ W) => hW.cells)
    simp only at d0 d1 d2 d3 d4 d5 d6 d7 d8 d9 d10
    simp only [CfgC.value] at HWk ⊢
    simp only [boxC, cfgCells] at HST
    go_enter Try.func5, Try.ntmps5
    go_wp2_with fail
    refine (HA.out _).mono ?_
    rintro e w1 ⟨rfl, hb1⟩
    have hd1 := HST.out.step hb1
    clear hb1 HA
    obtain ⟨k0, k1, k2, k3, k4, k5, k6, k7, k8, k9, k10⟩ := eleven hd1 d0 d1 d2 d3 d4 d5 d6 d7 d8 d9 d10
    have Hd1 := Lib.hid hd1
    clear hd1
    go_wp2_with fail
    refine (HWk.out _ Hd1.out).mono ?_
    rintro e w2 ⟨rfl, hb2⟩
    have hd2 := Hd1.out.step hb2
    clear hb2 Hd1 HWk k0 k1 k2 k3 k4 k5 k6 k7 k8 k9 k10
    have HF := Lib.hid hd2.below
    clear hd2
    go_wp2_with fail
    go_ret
    exact ⟨rfl, HF.out⟩
  | true =>
  have hwk : SndP.Works x.plain := by
    unfold worksB at hL
    simp only [Bool.and_eq_true] at hL
    exact SndP.works (Option.isNone_iff_eq_none.1 hL.2)
  have hpl := h.plen
  have HP12 : Hid (x.pn ≤ 12) := Lib.hid (by have h1 : x.parts.length ≤ 12 := hwk.allowed.parts; omega)
  have HLow : Hid (∀ W, BoxS w x W → Below w.heap.size w W) := Lib.hid fun W hW => hW.below
  have HL12 : Hid ((WinP.winsT x.plain node).length ≤ 12) := Lib.hid (by have h1 : x.parts.length ≤ 12 := hwk.allowed.parts; have h2 := WinP.wins_length x.plain node; exact Nat.le_trans h2 h1)
  have HW := Lib.hid (fun W (hW : BoxS w x W) => windows_any x node W (h.below hW.below) hwk)
  have HNx := Lib.hid (fun t (ht : -9223372036854775808 ≤ t ∧ t ≤ 9223372036854775807) W (hW : BoxS w x W) => wnext_any x node t ht W (h.below hW.below) hwk)
  have HAt := Lib.hid (fun t (ht : -9223372036854775808 ≤ t ∧ t ≤ 9223372036854775807) W (hW : BoxS w x W) => wat_any x node t ht W (h.below hW.below) hwk)
  have HStart := Lib.hid (WinP.Walk.start (WinP.works_fit hwk) node)
  have HStep : Hid (∀ v seen n, WinP.Walk x.plain node (some v) seen n → v ∉ seen ∧ n < 24 ∧ WinP.Walk x.plain node (WinP.nextT x.plain node v) (v :: seen) (n + 1)) := Lib.hid fun v seen n hw => by
    obtain ⟨h1, h2, h3⟩ := hw.step
    have h4 := WinP.chg_len x.plain.parts node
    have h5 : x.plain.parts.length ≤ 12 := hwk.allowed.parts
    exact ⟨h1, by omega, h3⟩
  have HSame : Hid (∀ v u, WinP.nextT x.plain node v = some u → WinP.atT x.plain node v = WinP.atT x.plain node (u - 1)) := Lib.hid fun v u hu => WinP.next_same (WinP.works_fit hwk) hu
  have HInR := Lib.hid (fun t => nextIn hwk node t)
  have HAll : Hid (∀ seen n, WinP.Walk x.plain node none seen n → ∀ (k : Nat) (y : WinP.Win), (WinP.winsT x.plain node)[k]? = some y → (y.open_ ∈ seen ∧ y.close ∈ seen) ∧ 0 ≤ y.open_ ∧ y.open_ < y.close ∧ y.close ≤ 1000000000) := Lib.hid fun seen n hw k y hy => by
    have h1 := WinP.wins_fit hwk hy
    refine ⟨?_, h1.1, h1.2.1, h1.2.2.1⟩
    obtain ⟨q, p, _, hp, hn, rfl⟩ := WinP.wins_get hy
    exact ⟨hw.all _ (WinP.mem_chg.2 ⟨q, p, hp, hn, .inl rfl⟩), hw.all _ (WinP.mem_chg.2 ⟨q, p, hp, hn, .inr rfl⟩)⟩
  generalize WinP.Walk x.plain node = Wk at *
  generalize WinP.winsT x.plain node = L at *
  generalize WinP.nextT x.plain node = nx at *
  generalize WinP.atT x.plain node = atF at *
  clear h hwk hpl hL
  obtain ⟨nodes, faulty, slot, gap, rho, dmin, dmax, margin, PA, pn, pcap, parts, QA, qn, qcap, ports, RA, rn, rcap, routes⟩ := x
  obtain ⟨d0, d1, d2, d3, d4, d5, d6, d7, d8, d9, d10⟩ := cfgFacts (fun W (hW : BoxS w ⟨nodes, faulty, slot, gap, rho, dmin, dmax, margin, PA, pn, pcap, parts, QA, qn, qcap, ports, RA, rn, rcap, routes⟩ W) => hW.cells)
  simp only at d0 d1 d2 d3 d4 d5 d6 d7 d8 d9 d10 HP12 HLow HW HNx HAt
  simp only [CfgC.value] at HWk HW HNx HAt ⊢
  simp only [boxC, cfgCells] at HST
  go_enter Try.func5, Try.ntmps5
  go_wp2_with fail
  refine (HA.out _).mono ?_
  rintro e w1 ⟨rfl, hb1⟩
  have hd1 := HST.out.step hb1
  clear hb1 HA
  obtain ⟨k0, k1, k2, k3, k4, k5, k6, k7, k8, k9, k10⟩ := eleven hd1 d0 d1 d2 d3 d4 d5 d6 d7 d8 d9 d10
  have Hd1 := Lib.hid hd1
  clear hd1
  go_wp2_with fail
  refine (HWk.out _ Hd1.out).mono ?_
  rintro e w2 ⟨rfl, hb2⟩
  have hd2 := Hd1.out.step hb2
  clear hb2 Hd1 HWk k0 k1 k2 k3 k4 k5 k6 k7 k8 k9 k10
  have hmm := @run_makeMap Try.prog
  have HS0 : Hid (FwS w ⟨nodes, faulty, slot, gap, rho, dmin, dmax, margin, PA, pn, pcap, parts, QA, qn, qcap, ports, RA, rn, rcap, routes⟩ w2.heap.size 0 [] (w2.alloc (.map #[] 0))) := Lib.hid ⟨hd2.alloc _, hd2.size, _, World.ownsMap_made (H := Unit) w2 Try.prog 3 boolR, SeenD.nil, Maps.isMap_empty⟩
  clear hd2
  obtain ⟨k0, k1, k2, k3, k4, k5, k6, k7, k8, k9, k10⟩ := eleven HS0.out.box d0 d1 d2 d3 d4 d5 d6 d7 d8 d9 d10
  go_wp2_with fail
  generalize (w2.alloc (.map #[] 0)) = wm at *
  generalize w2.heap.size = M at *
  clear hmm k0 k1 k2 k3 k4 k5 k6 k7 k8 k9 k10
  refine (HNx.out (-1) (by decide) _ HS0.out.box).mono ?_
  rintro e w3 ⟨rfl, hb3⟩
  have HR0 : Hid (FwR w ⟨nodes, faulty, slot, gap, rho, dmin, dmax, margin, PA, pn, pcap, parts, QA, qn, qcap, ports, RA, rn, rcap, routes⟩ Wk M (.int .i64 ((nx (-1)).getD 0)) (.bool (nx (-1)).isSome) (.int .i64 0) w3) := Lib.hid ⟨0, nx (-1), [], rfl, rfl, rfl, HStart.out, HInR.out _, HS0.out.step hb3⟩
  clear hb3 HS0 HStart
  go_wp2_with fail
  go_loopw [6, 7, 8] (FwR w ⟨nodes, faulty, slot, gap, rho, dmin, dmax, margin, PA, pn, pcap, parts, QA, qn, qcap, ports, RA, rn, rcap, routes⟩ Wk M) (fun _ _ n _ => (30 - intOf n).toNat)
  case atStart => exact HR0.out
  case round =>
    clear HR0
    obtain ⟨k, b, seen, rfl, rfl, rfl, hwalk, hin, hs⟩ := hrel
    cases b with
    | some v =>
      obtain ⟨hv0, hv1⟩ := hin v rfl
      obtain ⟨hnew, hk24, hwalk2⟩ := HStep.out v seen k hwalk
      have q1 : decide ((40 : Int) < (k : Int)) = false := decide_eq_false (by omega)
      have q2 : decide (40 < k) = false := decide_eq_false (by omega)
      have e2 : IntKind.i64.wrap ((k : Int) + 1) = (k : Int) + 1 := IntWalk.i64_in _ (by omega)
      have hlk := hs.look (v := v) (by omega)
      rw [decide_eq_false hnew] at hlk
      have hkey : keyOf Try.prog 3 (.int .i64 v) = some (.int .i64 v) := Maps.keyOf_int_mk Try.underlying3 (int_wf (by omega))
      obtain ⟨D, hown, hD, hm⟩ := hs.map
      have HSs := Lib.hid hs
      have HD := Lib.hid hD
      have HM := Lib.hid hm
      have HWk2 := Lib.hid hwalk2
      clear hwalk hwalk2 hin hs hD hm HStep HAll
      simp only [Option.getD_some, Option.isSome_some]
      go_wp2_with (first
        | (at_mapUpdate; refine wpList_mapUpdate_own _ rfl _ _ _ 46 rfl 3 4 (Maps.int_keyed Try.underlying3) Try.underlying46 boolR M k D rfl hown (by unfold maxLen; omega) _ _ _ rfl rfl hkey (.lit (.bool true)) [] rfl ?_)
        | fail)
      intro w6 hown6 hgrow6
      have HS6 := Lib.hid (HSs.out.put hown6 hgrow6 HD.out HM.out)
      clear hown hown6 hgrow6 HSs HD HM hlk hkey
      obtain ⟨k0, k1, k2, k3, k4, k5, k6, k7, k8, k9, k10⟩ := eleven HS6.out.box d0 d1 d2 d3 d4 d5 d6 d7 d8 d9 d10
      go_wp2_with fail
      clear k0 k1 k2 k3 k4 k5 k6 k7 k8 k9 k10
      refine (HNx.out v (by omega) _ HS6.out.box).mono ?_
      rintro e w7 ⟨rfl, hb7⟩
      have HS7 := Lib.hid (HS6.out.step hb7)
      clear hb7 HS6 HNx
      have HIn7 := Lib.hid (HInR.out v)
      have hsame := HSame.out v
      have hA1 := HAt.out v (by omega)
      clear HInR HSame
      generalize nx v = nb at *
      cases nb with
      | none =>
        have HR1 : Hid (∀ m, FwR w ⟨nodes, faulty, slot, gap, rho, dmin, dmax, margin, PA, pn, pcap, parts, QA, qn, qcap, ports, RA, rn, rcap, routes⟩ Wk M (.int .i64 0) (.bool false) (.int .i64 ((k : Int) + 1)) (w7.drewN m)) := Lib.hid fun m => ⟨k + 1, none, _, rfl, rfl, by go_num, HWk2.out, HIn7.out, HS7.out.step (below_drewNc (Below.refl _ _) m)⟩
        clear HS7 HWk2 HIn7 hsame hA1 HAt
        simp only [Option.getD_none, Option.isSome_none]
        go_wp2_with fail
        go_quiet (fail)
        go_wp2_with fail
        go_roundw
        case rel => exact HR1.out _
        case measure => simp [intOf]; omega
      | some u =>
        obtain ⟨hu0, hu1⟩ := HIn7.out u rfl
        have e3 : IntKind.i64.wrap (u - 1) = u - 1 := IntWalk.i64_in _ (by omega)
        have hA2 := HAt.out (u - 1) (by omega)
        rw [← hsame u rfl] at hA2
        have HA1 := Lib.hid hA1
        have HA2 := Lib.hid hA2
        have hs0 := HS7.out.step (Below.refl _ _).drew
        have HR1 : Hid (∀ W', FwS w ⟨nodes, faulty, slot, gap, rho, dmin, dmax, margin, PA, pn, pcap, parts, QA, qn, qcap, ports, RA, rn, rcap, routes⟩ M (k + 1) (v :: seen) W' → FwR w ⟨nodes, faulty, slot, gap, rho, dmin, dmax, margin, PA, pn, pcap, parts, QA, qn, qcap, ports, RA, rn, rcap, routes⟩ Wk M (.int .i64 u) (.bool true) (.int .i64 ((k : Int) + 1)) W') := Lib.hid fun W' h' => ⟨k + 1, some u, _, rfl, rfl, by go_num, HWk2.out, HIn7.out, h'⟩
        have f0 := fun W (hW : FwS w ⟨nodes, faulty, slot, gap, rho, dmin, dmax, margin, PA, pn, pcap, parts, QA, qn, qcap, ports, RA, rn, rcap, routes⟩ M (k + 1) (v :: seen) W) => d0 W hW.box
        have f1 := fun W (hW : FwS w ⟨nodes, faulty, slot, gap, rho, dmin, dmax, margin, PA, pn, pcap, parts, QA, qn, qcap, ports, RA, rn, rcap, routes⟩ M (k + 1) (v :: seen) W) => d1 W hW.box
        have f2 := fun W (hW : FwS w ⟨nodes, faulty, slot, gap, rho, dmin, dmax, margin, PA, pn, pcap, parts, QA, qn, qcap, ports, RA, rn, rcap, routes⟩ M (k + 1) (v :: seen) W) => d2 W hW.box
        have f3 := fun W (hW : FwS w ⟨nodes, faulty, slot, gap, rho, dmin, dmax, margin, PA, pn, pcap, parts, QA, qn, qcap, ports, RA, rn, rcap, routes⟩ M (k + 1) (v :: seen) W) => d3 W hW.box
        have f4 := fun W (hW : FwS w ⟨nodes, faulty, slot, gap, rho, dmin, dmax, margin, PA, pn, pcap, parts, QA, qn, qcap, ports, RA, rn, rcap, routes⟩ M (k + 1) (v :: seen) W) => d4 W hW.box
        have f5 := fun W (hW : FwS w ⟨nodes, faulty, slot, gap, rho, dmin, dmax, margin, PA, pn, pcap, parts, QA, qn, qcap, ports, RA, rn, rcap, routes⟩ M (k + 1) (v :: seen) W) => d5 W hW.box
        have f6 := fun W (hW : FwS w ⟨nodes, faulty, slot, gap, rho, dmin, dmax, margin, PA, pn, pcap, parts, QA, qn, qcap, ports, RA, rn, rcap, routes⟩ M (k + 1) (v :: seen) W) => d6 W hW.box
        have f7 := fun W (hW : FwS w ⟨nodes, faulty, slot, gap, rho, dmin, dmax, margin, PA, pn, pcap, parts, QA, qn, qcap, ports, RA, rn, rcap, routes⟩ M (k + 1) (v :: seen) W) => d7 W hW.box
        have f8 := fun W (hW : FwS w ⟨nodes, faulty, slot, gap, rho, dmin, dmax, margin, PA, pn, pcap, parts, QA, qn, qcap, ports, RA, rn, rcap, routes⟩ M (k + 1) (v :: seen) W) => d8 W hW.box
        have f9 := fun W (hW : FwS w ⟨nodes, faulty, slot, gap, rho, dmin, dmax, margin, PA, pn, pcap, parts, QA, qn, qcap, ports, RA, rn, rcap, routes⟩ M (k + 1) (v :: seen) W) => d9 W hW.box
        have f10 := fun W (hW : FwS w ⟨nodes, faulty, slot, gap, rho, dmin, dmax, margin, PA, pn, pcap, parts, QA, qn, qcap, ports, RA, rn, rcap, routes⟩ M (k + 1) (v :: seen) W) => d10 W hW.box
        clear HS7 HWk2 HIn7 hsame hA1 hA2 HAt
        generalize atF v = av at *
        simp only [Option.getD_some, Option.isSome_some]
        go_upto_region 14 with (fail)
        refine wp_region_held_drew (S := fun W => FwS w ⟨nodes, faulty, slot, gap, rho, dmin, dmax, margin, PA, pn, pcap, parts, QA, qn, qcap, ports, RA, rn, rcap, routes⟩ M (k + 1) (v :: seen) W) (by kernel_rfl) hs0 (fun _ => ?_)
        refine tkH 0 (by simp only [tkA]; rfl) (by kernel_rfl) (by exact fun _ _ _ h => h) (by rfl) (by intro W hW; go_simp <;> with_reducible rfl) hs0 ?_
        try simp only [Act.put, tkT, tk0, tkS]
        refine tkH 1 (by simp only [tkA, tkG]; rfl) (by kernel_rfl) (by exact fun _ _ _ h => h) (by rfl) (by intro W hW; go_simp <;> with_reducible rfl) hs0 ?_
        try simp only [Act.put, tkT, tk0, tkS]
        refine tkH 2 (by simp only [tkA, tkG]; rfl) (by kernel_rfl) (by exact fun _ _ _ h => h) (by rfl) (by intro W hW; go_simp <;> with_reducible rfl) hs0 ?_
        try simp only [Act.put, tkT, tk0, tkS]
        refine tkH 3 (by simp only [tkA, tkG]; rfl) (by kernel_rfl) (by exact fun _ _ _ h => h) (by rfl) (by intro W hW; go_simp <;> with_reducible rfl) hs0 ?_
        try simp only [Act.put, tkT, tk0, tkS]
        refine tkH 4 (by simp only [tkA, tkG]; rfl) (by kernel_rfl) (by exact fun _ _ _ h => h) (by rfl) (by intro W hW; go_simp <;> with_reducible rfl) hs0 ?_
        try simp only [Act.put, tkT, tk0, tkS]
        refine tkH 6 (by simp only [tkA, tkG]; rfl) (by kernel_rfl) (by exact fun _ _ _ h => h) (by rfl) (by intro W hW; go_simp <;> with_reducible rfl) hs0 ?_
        try simp only [Act.put, tkT, tk0, tkS]
        refine tkH 7 (by simp only [tkA, tkG]; rfl) (by kernel_rfl) (by exact fun _ _ _ h => h) (by rfl) (by intro W hW; go_simp <;> with_reducible rfl) hs0 ?_
        try simp only [Act.put, tkT, tk0, tkS]
        refine tkH 8 (by simp only [tkA, tkG]; rfl) (by kernel_rfl) (by exact fun _ _ _ h => h) (by rfl) (by intro W hW; go_simp <;> with_reducible rfl) hs0 ?_
        try simp only [Act.put, tkT, tk0, tkS]
        refine tkH 9 (by simp only [tkA, tkG]; rfl) (by kernel_rfl) (by exact fun _ _ _ h => h) (by rfl) (by intro W hW; go_simp <;> with_reducible rfl) hs0 ?_
        try simp only [Act.put, tkT, tk0, tkS]
        refine clH 5 (by kernel_rfl) (by simp only [tkA, tkG]; rfl) (fun K hK => ?_)
        go_simp
        refine (HA1.out _ hs0.box).mono ?_
        rintro e w8 ⟨rfl, hb8⟩
        have hs8 := hs0.step hb8
        clear hb8 HA1
        go_wp2_with fail
        refine hK.out _ _ hs8 (fun _ => ?_)
        clear hK K
        refine clH 10 (by kernel_rfl) (by simp only [tkA, tkG]; rfl) (fun K hK => ?_)
        go_simp
        refine (HA2.out _ hs8.box).mono ?_
        rintro e w9 ⟨rfl, hb9⟩
        have hs9 := hs8.step hb9
        clear hb9 HA2
        go_wp2_with fail
        refine hK.out _ _ hs9 (fun _ => ?_)
        clear hK K
        refine tkH 11 (by simp only [tkA, tkG]; rfl) (by kernel_rfl) (by exact fun _ _ _ h => h) (by rfl) (by intro W hW; go_simp <;> with_reducible rfl) hs9 ?_
        try simp only [Act.put, tkT, tk0, tkS]
        refine tkH 12 (by simp only [tkA, tkG]; rfl) (by kernel_rfl) (by exact fun _ _ _ h => h) (by rfl) (by intro W hW; go_simp <;> with_reducible rfl) hs9 ?_
        try simp only [Act.put, tkT, tk0, tkS]
        refine wpAnyH_done (by kernel_rfl) ?_ _
        have HS9 := Lib.hid hs9
        clear hs0 hs8 hs9 f0 f1 f2 f3 f4 f5 f6 f7 f8 f9 f10
        go_wp2_with fail
        go_roundw
        case rel => exact HR1.out _ HS9.out
        case measure => simp [intOf]; omega
    | none =>
      have HY := Lib.hid (HAll.out seen k hwalk)
      have HS1 := Lib.hid hs
      clear hwalk hin hs HStep HSame HInR HNx HAt HAll
      obtain ⟨k0, k1, k2, k3, k4, k5, k6, k7, k8, k9, k10⟩ := eleven HS1.out.box d0 d1 d2 d3 d4 d5 d6 d7 d8 d9 d10
      simp only [Option.getD_none, Option.isSome_none]
      generalize wr = wo at *
      go_wp2_with fail
      clear k0 k1 k2 k3 k4 k5 k6 k7 k8 k9 k10
      refine (HW.out _ HS1.out.box).mono ?_
      rintro e w5 ⟨vv, rfl, hr, hb5⟩
      have HR2 : Hid (FwL w ⟨nodes, faulty, slot, gap, rho, dmin, dmax, margin, PA, pn, pcap, parts, QA, qn, qcap, ports, RA, rn, rcap, routes⟩ M k seen vv L (.int .i64 0) w5) := Lib.hid ⟨0, Nat.zero_le _, rfl, HS1.out.step hb5, own_low hr (Nat.zero_le _)⟩
      obtain ⟨vA, vc, hv, -⟩ := own_slice hr
      subst hv
      clear hr hb5 HS1 HW
      go_wp2_with fail
      go_loopw [63] (FwL w ⟨nodes, faulty, slot, gap, rho, dmin, dmax, margin, PA, pn, pcap, parts, QA, qn, qcap, ports, RA, rn, rcap, routes⟩ M k seen (.slice vA L.length vc) L) (fun i _ => (L.length + 1 - intOf i).toNat)
      case atStart => exact HR2.out
      case round =>
        clear HR2
        obtain ⟨j, hj, rfl, hs, hr⟩ := hrel
        have hl12 := HL12.out
        by_cases hlt : j < L.length
        case pos =>
          obtain ⟨y, hy⟩ : ∃ y, L[j]? = some y := ⟨_, List.getElem?_eq_getElem hlt⟩
          obtain ⟨g, c, ev, c0, c1, c2⟩ := hr.at_ hy
          simp only [Value.slice.injEq, true_and] at ev
          obtain ⟨rfl, rfl⟩ := ev
          obtain ⟨⟨m1, m2⟩, g1, g2, g3⟩ := HY.out j y hy
          have q1 : decide ((j : Int) < (L.length : Int)) = true := decide_eq_true (by omega)
          have q0 : decide (j < L.length) = true := decide_eq_true hlt
          have e2 : IntKind.i64.wrap ((j : Int) + 1) = (j : Int) + 1 := IntWalk.i64_in _ (by omega)
          have hbb := (Below.refl wr.heap.size wr).alloc (Nat.le_refl _) (.cells #[.int .i64 (y.part : Nat), .int .i64 y.open_, .int .i64 y.close] 41)
          have hs1 := hs.step hbb
          have hl1 := hs1.look (v := y.open_) (by omega)
          have hl2 := hs1.look (v := y.close) (by omega)
          rw [decide_eq_true m1] at hl1
          rw [decide_eq_true m2] at hl2
          have hx := heap_alloc_new wr (.cells #[.int .i64 (y.part : Nat), .int .i64 y.open_, .int .i64 y.close] 41 (0, 0))
          have HR1 : Hid (FwL w ⟨nodes, faulty, slot, gap, rho, dmin, dmax, margin, PA, pn, pcap, parts, QA, qn, qcap, ports, RA, rn, rcap, routes⟩ M k seen (.slice (some ⟨g, 0, none⟩) L.length vc) L (.int .i64 ((j : Int) + 1)) (wr.alloc (.cells #[.int .i64 (y.part : Nat), .int .i64 y.open_, .int .i64 y.close] 41))) := Lib.hid ⟨j + 1, hlt, by go_num, hs1, hr.keep hbb⟩
          clear hs hr hy HY HLow hbb hs1
          go_upto_region 20 with (fail)
          clear c0 c1 c2
          generalize (wr.alloc (.cells #[.int .i64 (y.part : Nat), .int .i64 y.open_, .int .i64 y.close] 41)) = wb at *
          generalize wr.heap.size = N at *
          have b0 := cell_at hx 0 rfl
          have b1 := cell_at hx 1 rfl
          have b2 := cell_at hx 2 rfl
          go_wp2_with fail
          go_roundw
          case rel => exact HR1.out
          case measure => simp [intOf]; omega
        have hkn : j = L.length := by omega
        subst hkn
        have q1 : decide ((L.length : Int) < (L.length : Int)) = false := decide_eq_false (by omega)
        have HF := Lib.hid (HLow.out _ hs.box)
        clear hs hr HY HLow
        go_wp2_with fail
        go_ret
        exact ⟨rfl, HF.out⟩
end Go.Proofs.Ytfgpfmhjnccccaa
