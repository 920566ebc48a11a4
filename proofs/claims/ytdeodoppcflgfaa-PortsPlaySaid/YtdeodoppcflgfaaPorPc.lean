/- PortsPlay: the walk of the law. Conditions: where the tables and the acts lie. -/
import Derived.Test.YtdeodoppcflgfaaPorPl
import Derived.Test.YtdeodoppcflgfaaPorAct
import Derived.Test.YtdeodoppcflgfaaTbCp
namespace Go.Proofs.Ytdeodoppcflgfaa
open Go.RowKit PorP
set_option maxRecDepth 100000

theorem wrongT_some (f : FrameP.Wrong) : (wrongT (some f)).isEmpty = false := by
  obtain ⟨c, a⟩ := f
  exact atT_some c a
def PlayR (w : World) (x : CfgC) (node : Int) (B pa ra n : Nat) (i : Value) (W : World) : Prop :=
  ∃ (k : Nat) (sp sr : St), k ≤ n ∧ k ≤ 120 ∧ i = .int .i64 (k : Nat) ∧ Play w x node B pa ra sp sr W ∧ Like x.plain sp sr ∧ Bare x.plain node sp

theorem RIn.lower {w0 W : World} {B B' : Nat} {x : CfgC} {node : Int} {a g : Nat} {es : List El} (h : RIn w0 W B x node a g es) (hb : B' ≤ B) (h0 : w0.heap.size ≤ B') : RIn w0 W B' x node a g es :=
  ⟨h.hd, ⟨h.els.row, h.els.pres, fun e he => (h.els.each e he).low hb, h.els.apart, fun hz => absurd hz (by decide), Nat.le_trans hb h.els.base, h.els.ok⟩, h.len, Nat.le_trans hb h.base, h0, h.tab, h.cfg⟩
theorem Play.most {w W : World} {x : CfgC} {node : Int} {B pa ra : Nat} {sp sr : St} (h : Play w x node B pa ra sp sr W) : ∀ s ∈ sp, s.msgs.length ≤ 4 := by
  obtain ⟨y, rg, es, h⟩ := h
  rw [← h.ys]
  intro s hs
  obtain ⟨e, he, rfl⟩ := List.mem_map.1 hs
  have := (h.py.els.ok e he).1
  simpa [El.ps] using this
theorem u7 (a : Int) : ∃ t : Nat, t < 7 ∧ (IntKind.u64.wrap a).tmod 7 = (t : Int) := by
  have h0 : 0 ≤ IntKind.u64.wrap a := by
    have h1 : IntKind.u64.wrap a = a % (18446744073709551616 : Int) := rfl
    rw [h1]; omega
  have h2 := Int.tmod_nonneg (7 : Int) h0
  have h3 := Int.tmod_lt_of_pos (IntKind.u64.wrap a) (show (0 : Int) < 7 by omega)
  obtain ⟨t, ht⟩ := Int.eq_ofNat_of_zero_le h2
  exact ⟨t, by omega, ht⟩
/-- The act's box. -/
def ActB (ab : Nat) (acs : Array Value) (W : World) : Prop := W.heap[ab]? = some (.cells acs 46 (0, 0))
theorem ActB.below {ab : Nat} {acs : Array Value} {W W' : World} (h : ActB ab acs W) (hb : Below W.heap.size W W') : ActB ab acs W' := (hb.block ab (lt_of_block h)).trans h
theorem ActB.alloc {ab : Nat} {acs : Array Value} {W : World} (h : ActB ab acs W) (o : Obj) : ActB ab acs (W.alloc o) := h.below ((Below.refl _ _).alloc (Nat.le_refl _) _)
theorem ActB.touch {ab B : Nat} {acs : Array Value} {W W' : World} (h : ActB ab acs W) (ht : TouchP B W W') : ActB ab acs W' := ht.off h (by decide) (by decide) (by decide)
theorem own_block8 {W : World} {B : Nat} {A : Option Addr} {cap : Nat} {l : List UInt8} (h : W.ownsRow B 5 1 (.slice A l.length cap) l.length (bytesV l)) : Bytes W W.heap.size A l ∧ ByteBlock W A l := by
  obtain ⟨A', c', e1, -, -, hby, -⟩ := own_bytes h
  injection e1 with e1
  subst e1
  refine ⟨hby, fun _ k hk => ?_⟩
  obtain ⟨cur, hc⟩ := (Seg.of_own h).block k (by rw [ownBlock_slice]; exact hk)
  exact ⟨_, _, hc⟩
theorem img_pair {c : TableP.Cfg} {node : Int} {sp sr : St} (hL : Like c sp sr) (hB : Bare c node sp) : imgP c (fun p => !false || p.out) sp c.ports.length = imgP c (shown c node false) sr c.ports.length := by
  rw [hB.img false, img_all hB.len, img_all hL.lb]
  unfold msgsT
  rw [hL.image]
theorem seal_pair {c : TableP.Cfg} {node : Int} {sp sr : St} (hL : Like c sp sr) (hB : Bare c node sp) : imgP c TableP.Port.out sp c.ports.length = imgP c (shown c node true) sr c.ports.length := by
  have h1 : TableP.Port.out = (fun p => !true || p.out) := by funext p; simp
  rw [h1, hB.img true, img_all hB.len, img_all hL.lb]
  unfold msgsT
  rw [hL.image]

set_option maxHeartbeats 16000000 in
theorem play_law (x : CfgC) (node : Int) (A : Option Addr) (n cap : Nat) (l : List ActP) (hlen : l.length = n) (hn : n ≤ 140737488355328) (w : World) (h : CfgIn w x) (hm : ActsP w A l) : Calls Try.prog 3 #[x.value, .int .i64 node, .slice A n cap] w (AwakeP w) := by
  have HA := Lib.hid (fun W => awake13_any W)
  have HLg := Lib.hid (fun W => long6_any x W)
  have HST := Lib.hid (BoxS.start w x)
  have HBw : Hid (∀ W, BoxS w x W → Below w.heap.size w W) := Lib.hid (fun W hW => hW.below)
  have HStep : Hid (∀ W W', BoxS w x W → Below W.heap.size W W' → BoxS w x W') := Lib.hid (fun W W' hW hb => hW.step hb)
  have d0 : ∀ W, BoxS w x W → W.cell? ⟨w.heap.size, 0, none⟩ = some (.int .i64 x.nodes) := fun W hW => hW.cells.c0
  have d1 : ∀ W, BoxS w x W → W.cell? ⟨w.heap.size, 1, none⟩ = some (.int .i64 x.faulty) := fun W hW => hW.cells.c1
  have d2 : ∀ W, BoxS w x W → W.cell? ⟨w.heap.size, 2, none⟩ = some (.int .i64 x.slot) := fun W hW => hW.cells.c2
  have d3 : ∀ W, BoxS w x W → W.cell? ⟨w.heap.size, 3, none⟩ = some (.int .i64 x.gap) := fun W hW => hW.cells.c3
  have d4 : ∀ W, BoxS w x W → W.cell? ⟨w.heap.size, 4, none⟩ = some (.int .i64 x.rho) := fun W hW => hW.cells.c4
  have d5 : ∀ W, BoxS w x W → W.cell? ⟨w.heap.size, 5, none⟩ = some (.int .i64 x.dmin) := fun W hW => hW.cells.c5
  have d6 : ∀ W, BoxS w x W → W.cell? ⟨w.heap.size, 6, none⟩ = some (.int .i64 x.dmax) := fun W hW => hW.cells.c6
  have d7 : ∀ W, BoxS w x W → W.cell? ⟨w.heap.size, 7, none⟩ = some (.int .i64 x.margin) := fun W hW => hW.cells.c7
  have d8 : ∀ W, BoxS w x W → W.cell? ⟨w.heap.size, 8, none⟩ = some (.slice x.PA x.pn x.pcap) := fun W hW => hW.cells.c8
  have d9 : ∀ W, BoxS w x W → W.cell? ⟨w.heap.size, 9, none⟩ = some (.slice x.QA x.qn x.qcap) := fun W hW => hW.cells.c9
  have d10 : ∀ W, BoxS w x W → W.cell? ⟨w.heap.size, 10, none⟩ = some (.slice x.RA x.rn x.rcap) := fun W hW => hW.cells.c10
  obtain ⟨L, hL⟩ : ∃ L, longB6 x = L := ⟨_, rfl⟩
  rw [hL] at HLg
  unfold BoolPost at HLg
  cases L with
  | true =>
    clear h hm hlen hL
    simp only [CfgC.value] at HLg ⊢
    simp only [boxC, cfgCells] at HST
    generalize BoxS w x = Kept at *
    go_enter Try.func3, Try.ntmps3
    go_wp2_with fail
    refine (HA.out _).mono ?_
    rintro e w1 ⟨rfl, hb1⟩
    have hd1 := HStep.out _ _ HST.out hb1
    clear hb1 HA
    obtain ⟨k0, k1, k2, k3, k4, k5, k6, k7, k8, k9, k10⟩ := eleven hd1 d0 d1 d2 d3 d4 d5 d6 d7 d8 d9 d10
    have Hd1 := Lib.hid hd1
    clear hd1
    go_wp2_with fail
    refine (HLg.out _).mono ?_
    rintro e w2 ⟨rfl, hb2⟩
    have hd2 := HStep.out _ _ Hd1.out hb2
    clear hb2 Hd1 HLg k0 k1 k2 k3 k4 k5 k6 k7 k8 k9 k10
    have HF := Lib.hid (HBw.out _ hd2)
    clear hd2
    go_wp2_with fail
    go_ret
    exact ⟨rfl, HF.out⟩
  | false =>
  obtain ⟨hp40, hq60, hr60⟩ := longB6_no hL
  have HCp : Hid (∀ W, BoxS w x W → Calls Try.prog 13 #[x.value] W (CopiedPost x.plain W)) := Lib.hid (fun W hW => copied_any x W (h.below hW.below) (by omega) (by omega) (by omega))
  have HCk : Hid (∀ W, BoxS w x W → Calls Try.prog 14 #[x.value] W (RefChkPost (SndP.chk6 x.plain) W)) := Lib.hid (fun W hW => rcheck_any x W (h.below hW.below))
  unfold CopiedPost at HCp
  unfold RefChkPost at HCk
  obtain ⟨R, hR⟩ : ∃ R, SndP.chk6 x.plain = R := ⟨_, rfl⟩
  rw [hR] at HCk
  cases R with
  | some f =>
    have HNew : Hid (∀ W (x3 : CfgC), CfgIn W x3 → x3.plain = x.plain → Calls Try.prog 12 #[x3.value, .int .i64 node] W (NoPorts (wrongT (some f)) W)) := Lib.hid (fun W x3 h3 e3 => pornew_bad x3 node W h3 f (by rw [e3]; exact hR))
    have hT := wrongT_some f
    have HSl := Lib.hid (fun W => pseal_nil W)
    have HWr := Lib.hid (fun W => pwrite_nil 0 0 (.slice none 0 0) W)
    have HRd : Hid (∀ W : World, Calls Try.prog 16 #[.iface 75 (.int .i64 1)] W (ReadPost [] (some 1) W)) := Lib.hid fun W => read_any 0 [] (some 1) W (by simp) (Nat.zero_le _) trivial ⟨fun n hn => absurd hn (by simp), fun m hm => by simp at hm; omega⟩
    clear h hm hlen hL hp40 hq60 hr60 hR
    generalize wrongT (some f) = T at *
    have HRd : Hid (∀ W : World, Calls Try.prog 16 #[.iface 75 (.int .i64 1)] W (fun e w' => e = .returned (.string ⟨#[49]⟩) ∧ Below W.heap.size W w')) := HRd
    unfold strV at HCk
    unfold NoPorts at HNew
    simp only [CfgC.value] at HLg HCp HCk ⊢
    simp only [boxC, cfgCells] at HST
    generalize BoxS w x = Kept at *
    go_enter Try.func3, Try.ntmps3
    go_wp2_with fail
    refine (HA.out _).mono ?_
    rintro e w1 ⟨rfl, hb1⟩
    have hd1 := HStep.out _ _ HST.out hb1
    clear hb1 HA
    obtain ⟨k0, k1, k2, k3, k4, k5, k6, k7, k8, k9, k10⟩ := eleven hd1 d0 d1 d2 d3 d4 d5 d6 d7 d8 d9 d10
    have Hd1 := Lib.hid hd1
    clear hd1
    go_wp2_with fail
    refine (HLg.out _).mono ?_
    rintro e w2 ⟨rfl, hb2⟩
    have hd2 := HStep.out _ _ Hd1.out hb2
    clear hb2 Hd1 HLg k0 k1 k2 k3 k4 k5 k6 k7 k8 k9 k10
    obtain ⟨k0, k1, k2, k3, k4, k5, k6, k7, k8, k9, k10⟩ := eleven hd2 d0 d1 d2 d3 d4 d5 d6 d7 d8 d9 d10
    have Hd2 := Lib.hid hd2
    clear hd2
    go_wp2_with fail
    refine (HCp.out _ Hd2.out).mono ?_
    rintro e w3 ⟨v3, rfl, ⟨x3, rfl, hx3, ex3⟩, hb3⟩
    have hd3 := HStep.out _ _ Hd2.out hb3
    have HN3 := Lib.hid (HNew.out w3 x3 hx3 ex3)
    generalize x3.value = v3 at *
    clear hb3 Hd2 HCp HNew hx3 ex3 k0 k1 k2 k3 k4 k5 k6 k7 k8 k9 k10
    obtain ⟨k0, k1, k2, k3, k4, k5, k6, k7, k8, k9, k10⟩ := eleven hd3 d0 d1 d2 d3 d4 d5 d6 d7 d8 d9 d10
    have Hd3 := Lib.hid hd3
    clear hd3
    go_wp2_with fail
    refine HN3.out.mono ?_
    rintro e w4 ⟨b, rfl, ht4, hb4⟩
    have hd4 := HStep.out _ _ Hd3.out hb4
    have HT4 := Lib.hid ht4
    clear hb4 Hd3 HN3 ht4 k0 k1 k2 k3 k4 k5 k6 k7 k8 k9 k10
    obtain ⟨k0, k1, k2, k3, k4, k5, k6, k7, k8, k9, k10⟩ := eleven hd4 d0 d1 d2 d3 d4 d5 d6 d7 d8 d9 d10
    have Hd4 := Lib.hid hd4
    clear hd4
    go_wp2_with fail
    refine (HCk.out _ Hd4.out).mono ?_
    rintro e w5 ⟨rfl, hb5⟩
    have hd5 := HStep.out _ _ Hd4.out hb5
    have HT5 := Lib.hid (ErrText.read (HT4.out.below hb5))
    unfold strV at HT5
    have k0 := d0 _ hd5
    have Hd5 := Lib.hid hd5
    clear hb5 HCk Hd4 HT4 hd5 k1 k2 k3 k4 k5 k6 k7 k8 k9 k10
    go_wp2_with fail
    refine HT5.out.mono ?_
    rintro e w6 ⟨rfl, hb6⟩
    have Hd6 := Lib.hid (HStep.out _ _ Hd5.out hb6)
    clear hb6 HT5 Hd5 k0
    go_wp2_with fail
    refine (HSl.out _).mono ?_
    rintro e w7 ⟨rfl, rfl⟩
    go_wp2_with fail
    refine (HWr.out _).mono ?_
    rintro e w8 ⟨rfl, rfl⟩
    go_wp2_with fail
    refine (HRd.out _).mono ?_
    rintro e w9 ⟨rfl, hb9⟩
    have HF := Lib.hid (HBw.out _ (HStep.out _ _ Hd6.out hb9))
    clear hb9 HRd HWr HSl
    go_wp2_with fail
    go_ret
    exact ⟨rfl, HF.out⟩
  | none =>
  have HCk : Hid (∀ W, BoxS w x W → Calls Try.prog 14 #[x.value] W (fun e w' => e = .returned (.string ⟨#[]⟩) ∧ Below W.heap.size W w')) := HCk
  by_cases hrg : node < 0 ∨ x.nodes ≤ node
  case pos =>
    have HNew : Hid (∀ W (x3 : CfgC), CfgIn W x3 → x3.plain = x.plain → Calls Try.prog 12 #[x3.value, .int .i64 node] W (NoPorts2 W)) := Lib.hid (fun W x3 h3 e3 => pornew_range x3 node W h3 (by rw [e3]; exact hR) (by rw [show x3.nodes = x.nodes from congrArg TableP.Cfg.nodes e3]; exact hrg))
    have HSl := Lib.hid (fun W => pseal_nil W)
    have HWr := Lib.hid (fun W => pwrite_nil 0 0 (.slice none 0 0) W)
    have HRd0 : Hid (∀ W : World, Calls Try.prog 16 #[.iface 75 (.int .i64 1)] W (ReadPost [] (some 1) W)) := Lib.hid fun W => read_any 0 [] (some 1) W (by simp) (Nat.zero_le _) trivial ⟨fun n hn => absurd hn (by simp), fun m hm => by simp at hm; omega⟩
    have HRd : Hid (∀ W : World, Calls Try.prog 16 #[.iface 75 (.int .i64 1)] W (fun e w' => e = .returned (.string ⟨#[49]⟩) ∧ Below W.heap.size W w')) := HRd0
    have HR20 : Hid (∀ W : World, Calls Try.prog 16 #[.iface 75 (.int .i64 2)] W (ReadPost [] (some 2) W)) := Lib.hid fun W => read_any 0 [] (some 2) W (by simp) (Nat.zero_le _) trivial ⟨fun n hn => absurd hn (by simp), fun m hm => by simp at hm; omega⟩
    have HR2 : Hid (∀ W : World, Calls Try.prog 16 #[.iface 75 (.int .i64 2)] W (fun e w' => e = .returned (.string ⟨#[50]⟩) ∧ Below W.heap.size W w')) := HR20
    have HE20 : Hid (∀ W : World, Calls Try.prog 15 #[.int .i64 2] W fun e w' => e = .returned (strV (numN 2)) ∧ Below W.heap.size W w') := Lib.hid fun W => e_any 2 W (by omega)
    have HE2 : Hid (∀ W : World, Calls Try.prog 15 #[.int .i64 2] W fun e w' => e = .returned (.string ⟨#[50]⟩) ∧ Below W.heap.size W w') := HE20
    clear h hm hlen hL hp40 hq60 hr60 hR HRd0 HR20 HE20
    unfold NoPorts2 at HNew
    simp only [CfgC.value] at HLg HCp HCk ⊢
    simp only [boxC, cfgCells] at HST
    generalize BoxS w x = Kept at *
    by_cases hn0 : node < 0
    case pos =>
      have q1 : decide (node < 0) = true := decide_eq_true hn0
      clear hrg hn0
      go_enter Try.func3, Try.ntmps3
      go_wp2_with fail
      refine (HA.out _).mono ?_
      rintro e w1 ⟨rfl, hb1⟩
      have hd1 := HStep.out _ _ HST.out hb1
      clear hb1 HA
      obtain ⟨k0, k1, k2, k3, k4, k5, k6, k7, k8, k9, k10⟩ := eleven hd1 d0 d1 d2 d3 d4 d5 d6 d7 d8 d9 d10
      have Hd1 := Lib.hid hd1
      clear hd1
      go_wp2_with fail
      refine (HLg.out _).mono ?_
      rintro e w2 ⟨rfl, hb2⟩
      have hd2 := HStep.out _ _ Hd1.out hb2
      clear hb2 Hd1 HLg k0 k1 k2 k3 k4 k5 k6 k7 k8 k9 k10
      obtain ⟨k0, k1, k2, k3, k4, k5, k6, k7, k8, k9, k10⟩ := eleven hd2 d0 d1 d2 d3 d4 d5 d6 d7 d8 d9 d10
      have Hd2 := Lib.hid hd2
      clear hd2
      go_wp2_with fail
      refine (HCp.out _ Hd2.out).mono ?_
      rintro e w3 ⟨v3, rfl, ⟨x3, rfl, hx3, ex3⟩, hb3⟩
      have hd3 := HStep.out _ _ Hd2.out hb3
      have HN3 := Lib.hid (HNew.out w3 x3 hx3 ex3)
      generalize x3.value = v3 at *
      clear hb3 Hd2 HCp HNew hx3 ex3 k0 k1 k2 k3 k4 k5 k6 k7 k8 k9 k10
      obtain ⟨k0, k1, k2, k3, k4, k5, k6, k7, k8, k9, k10⟩ := eleven hd3 d0 d1 d2 d3 d4 d5 d6 d7 d8 d9 d10
      have Hd3 := Lib.hid hd3
      clear hd3
      go_wp2_with fail
      refine HN3.out.mono ?_
      rintro e w4 ⟨rfl, hb4⟩
      have hd4 := HStep.out _ _ Hd3.out hb4
      clear hb4 Hd3 HN3 k0 k1 k2 k3 k4 k5 k6 k7 k8 k9 k10
      obtain ⟨k0, k1, k2, k3, k4, k5, k6, k7, k8, k9, k10⟩ := eleven hd4 d0 d1 d2 d3 d4 d5 d6 d7 d8 d9 d10
      have Hd4 := Lib.hid hd4
      clear hd4
      go_wp2_with fail
      refine (HCk.out _ Hd4.out).mono ?_
      rintro e w5 ⟨rfl, hb5⟩
      have hd5 := HStep.out _ _ Hd4.out hb5
      have k0 := d0 _ hd5
      have Hd5 := Lib.hid hd5
      clear hb5 HCk Hd4 hd5 k1 k2 k3 k4 k5 k6 k7 k8 k9 k10
      go_wp2_with fail
      refine (HE2.out _).mono ?_
      rintro e w5b ⟨rfl, hb5b⟩
      have Hd5b := Lib.hid (HStep.out _ _ Hd5.out hb5b)
      clear hb5b HE2 Hd5 k0
      go_wp2_with fail
      refine (HR2.out _).mono ?_
      rintro e w6 ⟨rfl, hb6⟩
      have Hd6 := Lib.hid (HStep.out _ _ Hd5b.out hb6)
      clear hb6 HR2 Hd5b
      go_wp2_with fail
      refine (HSl.out _).mono ?_
      rintro e w7 ⟨rfl, rfl⟩
      go_wp2_with fail
      refine (HWr.out _).mono ?_
      rintro e w8 ⟨rfl, rfl⟩
      go_wp2_with fail
      refine (HRd.out _).mono ?_
      rintro e w9 ⟨rfl, hb9⟩
      have HF := Lib.hid (HBw.out _ (HStep.out _ _ Hd6.out hb9))
      clear hb9 HRd HWr HSl
      go_wp2_with fail
      go_ret
      exact ⟨rfl, HF.out⟩
    case neg =>
      have q1 : decide (node < 0) = false := decide_eq_false hn0
      have q2 : decide (x.nodes ≤ node) = true := decide_eq_true (by omega)
      clear hrg hn0
      go_enter Try.func3, Try.ntmps3
      go_wp2_with fail
      refine (HA.out _).mono ?_
      rintro e w1 ⟨rfl, hb1⟩
      have hd1 := HStep.out _ _ HST.out hb1
      clear hb1 HA
      obtain ⟨k0, k1, k2, k3, k4, k5, k6, k7, k8, k9, k10⟩ := eleven hd1 d0 d1 d2 d3 d4 d5 d6 d7 d8 d9 d10
      have Hd1 := Lib.hid hd1
      clear hd1
      go_wp2_with fail
      refine (HLg.out _).mono ?_
      rintro e w2 ⟨rfl, hb2⟩
      have hd2 := HStep.out _ _ Hd1.out hb2
      clear hb2 Hd1 HLg k0 k1 k2 k3 k4 k5 k6 k7 k8 k9 k10
      obtain ⟨k0, k1, k2, k3, k4, k5, k6, k7, k8, k9, k10⟩ := eleven hd2 d0 d1 d2 d3 d4 d5 d6 d7 d8 d9 d10
      have Hd2 := Lib.hid hd2
      clear hd2
      go_wp2_with fail
      refine (HCp.out _ Hd2.out).mono ?_
      rintro e w3 ⟨v3, rfl, ⟨x3, rfl, hx3, ex3⟩, hb3⟩
      have hd3 := HStep.out _ _ Hd2.out hb3
      have HN3 := Lib.hid (HNew.out w3 x3 hx3 ex3)
      generalize x3.value = v3 at *
      clear hb3 Hd2 HCp HNew hx3 ex3 k0 k1 k2 k3 k4 k5 k6 k7 k8 k9 k10
      obtain ⟨k0, k1, k2, k3, k4, k5, k6, k7, k8, k9, k10⟩ := eleven hd3 d0 d1 d2 d3 d4 d5 d6 d7 d8 d9 d10
      have Hd3 := Lib.hid hd3
      clear hd3
      go_wp2_with fail
      refine HN3.out.mono ?_
      rintro e w4 ⟨rfl, hb4⟩
      have hd4 := HStep.out _ _ Hd3.out hb4
      clear hb4 Hd3 HN3 k0 k1 k2 k3 k4 k5 k6 k7 k8 k9 k10
      obtain ⟨k0, k1, k2, k3, k4, k5, k6, k7, k8, k9, k10⟩ := eleven hd4 d0 d1 d2 d3 d4 d5 d6 d7 d8 d9 d10
      have Hd4 := Lib.hid hd4
      clear hd4
      go_wp2_with fail
      refine (HCk.out _ Hd4.out).mono ?_
      rintro e w5 ⟨rfl, hb5⟩
      have hd5 := HStep.out _ _ Hd4.out hb5
      have k0 := d0 _ hd5
      have Hd5 := Lib.hid hd5
      clear hb5 HCk Hd4 hd5 k1 k2 k3 k4 k5 k6 k7 k8 k9 k10
      go_wp2_with fail
      refine (HE2.out _).mono ?_
      rintro e w5b ⟨rfl, hb5b⟩
      have Hd5b := Lib.hid (HStep.out _ _ Hd5.out hb5b)
      clear hb5b HE2 Hd5 k0
      go_wp2_with fail
      refine (HR2.out _).mono ?_
      rintro e w6 ⟨rfl, hb6⟩
      have Hd6 := Lib.hid (HStep.out _ _ Hd5b.out hb6)
      clear hb6 HR2 Hd5b
      go_wp2_with fail
      refine (HSl.out _).mono ?_
      rintro e w7 ⟨rfl, rfl⟩
      go_wp2_with fail
      refine (HWr.out _).mono ?_
      rintro e w8 ⟨rfl, rfl⟩
      go_wp2_with fail
      refine (HRd.out _).mono ?_
      rintro e w9 ⟨rfl, hb9⟩
      have HF := Lib.hid (HBw.out _ (HStep.out _ _ Hd6.out hb9))
      clear hb9 HRd HWr HSl
      go_wp2_with fail
      go_ret
      exact ⟨rfl, HF.out⟩
  have q1 : decide (node < 0) = false := decide_eq_false (by omega)
  have q2 : decide (x.nodes ≤ node) = false := decide_eq_false (by omega)
  have hal := (SndP.works hR).allowed
  have HNew : Hid (∀ W (x3 : CfgC), CfgIn W x3 → x3.plain = x.plain → Calls Try.prog 12 #[x3.value, .int .i64 node] W (NewP W x.plain node)) := Lib.hid (fun W x3 h3 e3 => by
    have h1 := pornew_good x3 node W h3 (by rw [e3]; exact hR) (by rw [show x3.nodes = x.nodes from congrArg TableP.Cfg.nodes e3]; omega)
    rw [e3] at h1
    exact h1)
  have HNr : Hid (∀ W, BoxS w x W → Calls Try.prog 19 #[x.value, .int .i64 node] W (NewRP w W x node)) := Lib.hid (fun W hW => rnew_any w W x node h hW.below (by rw [← h.qlen]; exact hal.ports))
  have HPlay : Hid (∀ w3 w4 w6 w7 (y : PC) ra rg es, BoxS w x w3 → y.node = node → PIn w4 w3.heap.size x.plain y → elSt y.es = PorP.start x.plain → Below w4.heap.size w4 w6 → BoxS w x w6 → RIn w w7 w6.heap.size x node ra rg es → elSt es = PorP.start x.plain → (∀ k, EF rg es k → w6.heap.size ≤ k) → Below w6.heap.size w6 w7 → PlayR w x node (boxC w x).heap.size y.a ra n (.int .i64 0) w7) := Lib.hid fun w3 w4 w6 w7 y ra rg es h3 hy hp hs h46 h6 hr hrs hrf h67 => by
    have hb47 := h46.trans (h67.mono h46.size)
    refine ⟨0, PorP.start x.plain, PorP.start x.plain, Nat.zero_le _, by omega, rfl, ⟨y, rg, es, rfl, hy, hs, hrs, (hp.below hb47).low h3.size, hr.lower h6.size (by rw [boxC_size]; omega), fun k hk hr2 => ?_, h6.step h67, Nat.le_refl _⟩, Like.start _, Bare.start _ _⟩
    have h1 := (hp.els.fLt hk).2
    have h2 := hrf k hr2
    have h3 := h46.size
    omega
  have Hal := Lib.hid hal
  have Hm := Lib.hid hm
  have Hlen := Lib.hid hlen
  have HBx : Hid (∀ sp sr W pa ra, Play w x node (boxC w x).heap.size pa ra sp sr W → BoxS w x W) := Lib.hid fun sp sr W pa ra hP => hP.box
  have HRn : Hid (∀ W : World, Calls Try.prog 16 #[.nilIface] W (fun e w' => e = .returned (.string ⟨#[]⟩) ∧ Below W.heap.size W w')) := Lib.hid fun W => ErrText.read (ErrText.none_ W)
  clear h hm hlen hL hp40 hq60 hr60 hR hal hrg
  unfold NewP at HNew
  unfold NewRP at HNr
  simp only [CfgC.value] at HLg HCp HCk HNr ⊢
  simp only [boxC, cfgCells] at HST
  obtain ⟨Kept, hKept⟩ : ∃ Kept, Kept = BoxS w x := ⟨_, rfl⟩
  rw [← hKept] at HST HStep HCp HCk HNr HPlay HBx HBw d0 d1 d2 d3 d4 d5 d6 d7 d8 d9 d10
  clear hKept
  go_enter Try.func3, Try.ntmps3
  go_wp2_with fail
  refine (HA.out _).mono ?_
  rintro e w1 ⟨rfl, hb1⟩
  have hd1 := HStep.out _ _ HST.out hb1
  clear hb1 HA
  obtain ⟨k0, k1, k2, k3, k4, k5, k6, k7, k8, k9, k10⟩ := eleven hd1 d0 d1 d2 d3 d4 d5 d6 d7 d8 d9 d10
  have Hd1 := Lib.hid hd1
  clear hd1
  go_wp2_with fail
  refine (HLg.out _).mono ?_
  rintro e w2 ⟨rfl, hb2⟩
  have hd2 := HStep.out _ _ Hd1.out hb2
  clear hb2 Hd1 HLg k0 k1 k2 k3 k4 k5 k6 k7 k8 k9 k10
  obtain ⟨k0, k1, k2, k3, k4, k5, k6, k7, k8, k9, k10⟩ := eleven hd2 d0 d1 d2 d3 d4 d5 d6 d7 d8 d9 d10
  have Hd2 := Lib.hid hd2
  clear hd2
  go_wp2_with fail
  refine (HCp.out _ Hd2.out).mono ?_
  rintro e w3 ⟨v3, rfl, ⟨x3, rfl, hx3, ex3⟩, hb3⟩
  have hd3 := HStep.out _ _ Hd2.out hb3
  have HN3 := Lib.hid (HNew.out w3 x3 hx3 ex3)
  generalize x3.value = v3 at *
  clear hb3 Hd2 HCp HNew hx3 ex3 k0 k1 k2 k3 k4 k5 k6 k7 k8 k9 k10
  obtain ⟨k0, k1, k2, k3, k4, k5, k6, k7, k8, k9, k10⟩ := eleven hd3 d0 d1 d2 d3 d4 d5 d6 d7 d8 d9 d10
  have Hd3 := Lib.hid hd3
  clear hd3
  go_wp2_with fail
  refine HN3.out.mono ?_
  rintro e w4 ⟨y, rfl, ny, py, sy, hb4⟩
  have hd4 := HStep.out _ _ Hd3.out hb4
  have Hy := Lib.hid (And.intro ny (And.intro py sy))
  unfold pv
  clear hb4 HN3 ny py sy k0 k1 k2 k3 k4 k5 k6 k7 k8 k9 k10
  obtain ⟨k0, k1, k2, k3, k4, k5, k6, k7, k8, k9, k10⟩ := eleven hd4 d0 d1 d2 d3 d4 d5 d6 d7 d8 d9 d10
  have Hd4 := Lib.hid hd4
  clear hd4
  go_wp2_with fail
  refine (HCk.out _ Hd4.out).mono ?_
  rintro e w5 ⟨rfl, hb5⟩
  have hd5 := HStep.out _ _ Hd4.out hb5
  have Hb5 := Lib.hid hb5
  clear hb5 HCk Hd4 k0 k1 k2 k3 k4 k5 k6 k7 k8 k9 k10
  have k0 := d0 _ hd5
  have Hd5 := Lib.hid hd5
  clear hd5
  go_wp2_with fail
  refine (HRn.out _).mono ?_
  rintro e w6 ⟨rfl, hb6⟩
  have hd6 := HStep.out _ _ Hd5.out hb6
  have Hb6 := Lib.hid (Hb5.out.trans (hb6.mono Hb5.out.size))
  clear hb6 Hb5 Hd5 k0
  obtain ⟨k0, k1, k2, k3, k4, k5, k6, k7, k8, k9, k10⟩ := eleven hd6 d0 d1 d2 d3 d4 d5 d6 d7 d8 d9 d10
  have Hd6 := Lib.hid hd6
  clear hd6
  go_wp2_with fail
  refine (HNr.out _ Hd6.out).mono ?_
  rintro e w7 ⟨ra, rg, es, rfl, hr7, hs7, hf7, hb7⟩
  have HS := Lib.hid (HPlay.out w3 w4 w6 w7 y ra rg es Hd3.out Hy.out.1 Hy.out.2.1 Hy.out.2.2 Hb6.out Hd6.out hr7 hs7 hf7 hb7)
  unfold rpv
  generalize y.a = pa at *
  clear hr7 hs7 hf7 hb7 HNr HPlay Hd3 Hy Hb6 Hd6 HRn d0 d1 d2 d3 d4 d5 d6 d7 d8 d9 d10 q1 q2 k0 k1 k2 k3 k4 k5 k6 k7 k8 k9 k10 HST HStep
  go_wp2_with fail
  generalize (boxC w x).heap.size = B at *
  go_loopw [11] (PlayR w x node B pa ra n) (fun j _ => (n + 1 - intOf j).toNat)
  case atStart => exact HS.out
  case round =>
    clear HS
    obtain ⟨k, sp, sr, hk, hk2, rfl, hP, hLk, hBr⟩ := hrel
    have hlen120 : k ≤ 120 := hk2
    by_cases hlt : k < n
    case neg =>
      have q1 : decide ((k : Int) < (n : Int)) = false := decide_eq_false (by omega)
      have q1' : decide (k < n) = false := decide_eq_false hlt
      clear hk hk2 hlen120 Hm Hlen
      go_wp2_with fail
      refine (play_image hP Hal.out).mono ?_
      rintro e w8 ⟨A8, n8, c8, ys, rfl, hyn, hO, hpl, hP8⟩
      have HO8 := Lib.hid hO
      have Hpl := Lib.hid hpl
      have HIm := Lib.hid (rplay_image hP8 Hal.out)
      clear hO hpl hP8
      go_wp2_with fail
      refine HIm.out.mono ?_
      rintro e w9 ⟨A9, n9, c9, ys2, rfl, hyn2, hM9, hpl2, hP9, hb9⟩
      have hpp := Hpl.out.trans ((img_pair hLk hBr).trans hpl2.symm)
      have hnn : n8 = n9 := by
        have h1 := congrArg List.length hpp
        rw [List.length_map, List.length_map] at h1
        omega
      subst hnn
      have HSm := Lib.hid (sameMsgs_any A8 A9 n8 c8 c9 ys ys2 hyn hpp w9 (by
        obtain ⟨Aa, ca, ea, -, hina⟩ := (HO8.out.below hb9).reads
        injection ea with ea1 ea2 ea3
        subst ea1
        exact hina) hM9 (by
        have h1 := congrArg List.length Hpl.out
        rw [List.length_map] at h1
        have h2 := imgP_len (c := x.plain) (sel := fun p => !false || p.out) hP.most x.plain.ports.length
        have h3 := Hal.out.ports
        omega))

      have HF := Lib.hid (HBw.out _ (HBx.out _ _ _ _ _ hP9))
      clear hpp hyn hyn2 hM9 hpl2 hP9 hb9 HO8 Hpl HIm hP hLk hBr
      go_wp2_with fail
      refine HSm.out.mono ?_
      rintro e w10 ⟨rfl, m10, rfl⟩
      have HF2 := Lib.hid (below_drewN HF.out m10)
      clear HSm HF
      go_wp2_with fail
      go_ret
      exact ⟨rfl, HF2.out⟩
    have q1 : decide ((k : Int) < (n : Int)) = true := decide_eq_true (by omega)
    have q1' : decide (k < n) = true := decide_eq_true hlt
    by_cases hl120 : k < 120
    case neg =>
      have q2 : decide ((k : Int) < 120) = false := decide_eq_false (by omega)
      have q2' : decide (k < 120) = false := decide_eq_false hl120
      clear hk hk2 hlen120 Hm Hlen hl120
      go_wp2_with fail
      refine (play_image hP Hal.out).mono ?_
      rintro e w8 ⟨A8, n8, c8, ys, rfl, hyn, hO, hpl, hP8⟩
      have HO8 := Lib.hid hO
      have Hpl := Lib.hid hpl
      have HIm := Lib.hid (rplay_image hP8 Hal.out)
      clear hO hpl hP8
      go_wp2_with fail
      refine HIm.out.mono ?_
      rintro e w9 ⟨A9, n9, c9, ys2, rfl, hyn2, hM9, hpl2, hP9, hb9⟩
      have hpp := Hpl.out.trans ((img_pair hLk hBr).trans hpl2.symm)
      have hnn : n8 = n9 := by
        have h1 := congrArg List.length hpp
        rw [List.length_map, List.length_map] at h1
        omega
      subst hnn
      have HSm := Lib.hid (sameMsgs_any A8 A9 n8 c8 c9 ys ys2 hyn hpp w9 (by
        obtain ⟨Aa, ca, ea, -, hina⟩ := (HO8.out.below hb9).reads
        injection ea with ea1 ea2 ea3
        subst ea1
        exact hina) hM9 (by
        have h1 := congrArg List.length Hpl.out
        rw [List.length_map] at h1
        have h2 := imgP_len (c := x.plain) (sel := fun p => !false || p.out) hP.most x.plain.ports.length
        have h3 := Hal.out.ports
        omega))

      have HF := Lib.hid (HBw.out _ (HBx.out _ _ _ _ _ hP9))
      clear hpp hyn hyn2 hM9 hpl2 hP9 hb9 HO8 Hpl HIm hP hLk hBr
      go_wp2_with fail
      refine HSm.out.mono ?_
      rintro e w10 ⟨rfl, m10, rfl⟩
      have HF2 := Lib.hid (below_drewN HF.out m10)
      clear HSm HF
      go_wp2_with fail
      go_ret
      exact ⟨rfl, HF2.out⟩
    have q2 : decide ((k : Int) < 120) = true := decide_eq_true (by omega)
    have q2' : decide (k < 120) = true := decide_eq_true hl120
    obtain ⟨y, hy⟩ : ∃ y, l[k]? = some y := ⟨_, List.getElem?_eq_getElem (by rw [Hlen.out]; exact hlt)⟩
    obtain ⟨ba, oa, rfl, hba, hai⟩ := (Hm.out.below (HBw.out _ (HBx.out _ _ _ _ _ hP))) (by rw [Hlen.out]; omega)
    have hya := hai k y hy
    have HOk : Hid (∀ W, Below w.heap.size w W → ActPOk W y) := Lib.hid fun W hW => by
      obtain ⟨b', o', -, -, h'⟩ := (Hm.out.below hW) (by rw [Hlen.out]; omega)
      exact (h' k y hy).ok
    have HMs : Hid (MsgsIn w y.L y.ms) := Lib.hid ((HOk.out w (Below.refl _ _)).msgs)
    have c0 := hya.c0
    have c1 := hya.c1
    have c2 := hya.c2
    have c3 := hya.c3
    have c4 := hya.c4
    have c5 := hya.c5
    obtain ⟨kind, part, port, src_, yA, ym, ycap, data, yL, ln, lcap, ms⟩ := y
    simp only at c0 c1 c2 c3 c4 c5 HMs
    have e1 : IntKind.i64.wrap ((k : Int) + 1) = (k : Int) + 1 := IntWalk.i64_in _ (by omega)
    have hkz : (k : Int) < (n : Int) := by omega
    have Hlt := Lib.hid hlt
    have HNx : Hid (∀ sp' sr' W', Play w x node B pa ra sp' sr' W' → Like x.plain sp' sr' → Bare x.plain node sp' → PlayR w x node B pa ra n (.int .i64 ((k : Int) + 1)) W') := Lib.hid fun sp' sr' W' h1 h2 h3 => ⟨k + 1, sp', sr', hlt, hl120, by go_num, h1, h2, h3⟩
    obtain ⟨t, ht, eK⟩ := u7 kind
    have hba1 : Below wr.heap.size wr (wr.alloc (.cells #[.int .i64 kind, .int .i64 part, .int .i64 port, .int .i64 src_, .slice yA ym ycap, .slice yL ln lcap] 46)) := (Below.refl _ _).alloc (Nat.le_refl _) _
    have hA0 : ActB wr.heap.size #[.int .i64 kind, .int .i64 part, .int .i64 port, .int .i64 src_, .slice yA ym ycap, .slice yL ln lcap] (wr.alloc (.cells #[.int .i64 kind, .int .i64 part, .int .i64 port, .int .i64 src_, .slice yA ym ycap, .slice yL ln lcap] 46)) := heap_alloc_new wr _
    have hPa := hP.below hba1
    have a0 : (wr.alloc (.cells #[.int .i64 kind, .int .i64 part, .int .i64 port, .int .i64 src_, .slice yA ym ycap, .slice yL ln lcap] 46)).cell? ⟨wr.heap.size, 0, none⟩ = some (.int .i64 kind) := cell_at hA0 0 rfl
    clear hya hai hy hba hP hk hk2 hlen120 hlt hl120
    have h7 : t = 0 ∨ t = 1 ∨ t = 2 ∨ t = 3 ∨ t = 4 ∨ t = 5 ∨ t = 6 := by omega
    clear ht
    rcases h7 with rfl | rfl | rfl | rfl | rfl | rfl | rfl
    · have eK0 : (IntKind.u64.wrap kind).tmod 7 = (0 : Int) := eK
      clear eK
      go_wp2_with fail
      clear c0 c1 c2 c3 c4 c5 a0 eK0 q1 q1' q2 q2'
      generalize wr.alloc (.cells #[.int .i64 kind, .int .i64 part, .int .i64 port, .int .i64 src_, .slice yA ym ycap, .slice yL ln lcap] 46) = wa at *
      generalize wr.heap.size = ab at *

      obtain ⟨acs, hacs⟩ : ∃ acs : Array Value, acs = #[.int .i64 kind, .int .i64 part, .int .i64 port, .int .i64 src_, .slice yA ym ycap, .slice yL ln lcap] := ⟨_, rfl⟩
      rw [← hacs] at hA0
      have Hacs := Lib.hid hacs
      have a1 : ∀ W, ActB ab acs W → W.cell? ⟨ab, 1, none⟩ = some (.int .i64 part) := fun W hW => cell_at hW 1 (by rw [Hacs.out]; rfl)
      have a2 : ∀ W, ActB ab acs W → W.cell? ⟨ab, 2, none⟩ = some (.int .i64 port) := fun W hW => cell_at hW 2 (by rw [Hacs.out]; rfl)
      have a4 : ∀ W, ActB ab acs W → W.cell? ⟨ab, 4, none⟩ = some (.slice yA ym ycap) := fun W hW => cell_at hW 4 (by rw [Hacs.out]; rfl)

      have hok := HOk.out wa.drew (HBw.out _ (HBx.out _ _ _ _ _ (hPa.below (Below.refl _ wa).drew)))
      have hpr := hok.port
      have hmost := hok.most
      have hdl := hok.len
      simp only at hpr hmost hdl
      have HBy := Lib.hid hok.bytes
      simp only at HBy
      have hd0 : ActB ab acs wa.drew := hA0
      have HPd := Lib.hid (hPa.below (Below.refl _ wa).drew)
      have hw1 := (hLk.write node part port data)
      have hw2 := hBr.write part port data
      have hw3 := hw1.2
      have hw4 := hw1.1
      generalize hwp : writeP x.plain node sp part port data = RP at *
      generalize hwr : writeT x.plain node sr part port data = RR at *
      obtain ⟨o1, st1⟩ := RP
      obtain ⟨o2, st2⟩ := RR
      simp only at hw2 hw3 hw4
      subst hw4
      have HLk := Lib.hid hw3
      have HBr := Lib.hid hw2
      have Hdl := Lib.hid hdl
      have Hwp := Lib.hid hwp
      have Hwr := Lib.hid hwr
      clear hok hPa hLk hBr hw1 hw2 hw3 hacs hdl hwp hwr hba1
      refine wp_region_held_drew (S := fun W => ActB ab acs W) (by kernel_rfl) hd0 (fun _ => ?_)
      generalize wa.drew = w0 at *
      refine tkH 0 (by simp only [tkA]; rfl) (by kernel_rfl) (by exact fun _ _ _ h => h) (by rfl) (by intro W hW; go_simp <;> with_reducible rfl) hd0 ?_
      try simp only [Act.put, tkT, tk0, tkS]
      refine tkH 1 (by simp only [tkA, tkG]; rfl) (by kernel_rfl) (by exact fun _ _ _ h => h) (by rfl) (by intro W hW; go_simp <;> with_reducible rfl) hd0 ?_
      try simp only [Act.put, tkT, tk0, tkS]
      refine tkH 2 (by simp only [tkA, tkG]; rfl) (by kernel_rfl) (by exact fun _ _ _ h => h) (by rfl) (by intro W hW; go_simp <;> with_reducible rfl) hd0 ?_
      try simp only [Act.put, tkT, tk0, tkS]
      refine tkH 3 (by simp only [tkA, tkG]; rfl) (by kernel_rfl) (by exact fun _ _ _ h => h) (by rfl) (by intro W hW; go_simp <;> with_reducible rfl) hd0 ?_
      try simp only [Act.put, tkT, tk0, tkS]
      refine tkH 4 (by simp only [tkA, tkG]; rfl) (by kernel_rfl) (by exact fun _ _ _ h => h) (by rfl) (by intro W hW; go_simp <;> with_reducible rfl) hd0 ?_
      try simp only [Act.put, tkT, tk0, tkS]
      refine tkH 6 (by simp only [tkA, tkG]; rfl) (by kernel_rfl) (by exact fun _ _ _ h => h) (by rfl) (by intro W hW; go_simp <;> with_reducible rfl) hd0 ?_
      try simp only [Act.put, tkT, tk0, tkS]
      refine tkH 7 (by simp only [tkA, tkG]; rfl) (by kernel_rfl) (by exact fun _ _ _ h => h) (by rfl) (by intro W hW; go_simp <;> with_reducible rfl) hd0 ?_
      try simp only [Act.put, tkT, tk0, tkS]
      refine tkH 11 (by simp only [tkA, tkG]; rfl) (by kernel_rfl) (by exact fun _ _ _ h => h) (by rfl) (by intro W hW; go_simp <;> with_reducible rfl) hd0 ?_
      try simp only [Act.put, tkT, tk0, tkS]
      refine tkH 12 (by simp only [tkA, tkG]; rfl) (by kernel_rfl) (by exact fun _ _ _ h => h) (by rfl) (by intro W hW; go_simp <;> with_reducible rfl) hd0 ?_
      try simp only [Act.put, tkT, tk0, tkS]
      refine tkH 13 (by simp only [tkA, tkG]; rfl) (by kernel_rfl) (by exact fun _ _ _ h => h) (by rfl) (by intro W hW; go_simp <;> with_reducible rfl) hd0 ?_
      try simp only [Act.put, tkT, tk0, tkS]
      refine tkH 14 (by simp only [tkA, tkG]; rfl) (by kernel_rfl) (by exact fun _ _ _ h => h) (by rfl) (by intro W hW; go_simp <;> with_reducible rfl) hd0 ?_
      try simp only [Act.put, tkT, tk0, tkS]
      refine tkH 15 (by simp only [tkA, tkG]; rfl) (by kernel_rfl) (by exact fun _ _ _ h => h) (by rfl) (by intro W hW; go_simp <;> with_reducible rfl) hd0 ?_
      try simp only [Act.put, tkT, tk0, tkS]
      refine tkH 16 (by simp only [tkA, tkG]; rfl) (by kernel_rfl) (by exact fun _ _ _ h => h) (by rfl) (by intro W hW; go_simp <;> with_reducible rfl) hd0 ?_
      try simp only [Act.put, tkT, tk0, tkS]
      refine tkH 17 (by simp only [tkA, tkG]; rfl) (by kernel_rfl) (by exact fun _ _ _ h => h) (by rfl) (by intro W hW; go_simp <;> with_reducible rfl) hd0 ?_
      try simp only [Act.put, tkT, tk0, tkS]
      refine clH 5 (by kernel_rfl) (by simp only [tkA, tkG]; rfl) (fun K hK => ?_)
      go_simp
      go_wp2_with fail
      refine hK.out _ _ (hd0.alloc _) (fun _ => ?_)
      clear hK K
      refine clH 8 (by kernel_rfl) (by simp only [tkA, tkG]; rfl) (fun K hK => ?_)
      refine step_copy rfl (.tmp 102) (.tmp 104) rfl rfl yA ym ycap data rfl Hdl.out HBy.out hmost ?_
      intro Ae ce w7 he7 hb7
      have hd7 := hd0.below hb7
      have hby7 := own_block8 he7
      have HPw := Lib.hid (play_write (HPd.out.below hb7) Hal.out part port hpr Ae data.length ce data rfl hby7.1 hby7.2)
      rw [Hwp.out] at HPw
      have HBy7 := Lib.hid ((HBy.out.below hb7 (Nat.le_refl _)).more hb7.size)
      clear he7 hb7 hby7 HPd HBy
      go_wp2_with fail
      refine hK.out _ _ hd7 (fun _ => ?_)
      clear hK K
      refine clH 9 (by kernel_rfl) (by simp only [tkA, tkG]; rfl) (fun K hK => ?_)
      go_simp
      refine HPw.out.mono ?_
      rintro e w8 ⟨v, rfl, hv8, hP8, hT8⟩
      have hd8 := hd7.touch hT8
      have HP8 := Lib.hid hP8
      have HRd := Lib.hid (ErrText.read hv8.text)
      unfold strV at HRd
      have HOk8 := Lib.hid (HOk.out w8 (HBw.out _ (HBx.out _ _ _ _ _ hP8)))
      clear hv8 hP8 hT8 HPw HBy7
      go_wp2_with fail
      refine hK.out _ _ hd8 (fun _ => ?_)
      clear hK K
      refine clH 10 (by kernel_rfl) (by simp only [tkA, tkG]; rfl) (fun K hK => ?_)
      go_simp
      refine HRd.out.mono ?_
      rintro e w9 ⟨rfl, hb9⟩
      have hd9 := hd8.below hb9
      have HRw := Lib.hid (rplay_write (HP8.out.below hb9) Hal.out part port hpr yA ym ycap data Hdl.out hmost (HOk8.out.below hb9).bytes)
      rw [Hwr.out] at HRw
      unfold strV at HRw
      clear hb9 HRd HP8 HOk8
      go_wp2_with fail
      refine hK.out _ _ hd9 (fun _ => ?_)
      clear hK K
      refine clH 18 (by kernel_rfl) (by simp only [tkA, tkG]; rfl) (fun K hK => ?_)
      go_simp
      refine HRw.out.mono ?_
      rintro e w10 ⟨rfl, hP10, hT10⟩
      have hd10 := hd9.touch hT10
      have HR := Lib.hid (HNx.out _ _ _ hP10 HLk.out HBr.out)
      clear hP10 hT10 HRw
      go_wp2_with fail
      refine hK.out _ _ hd10 (fun _ => ?_)
      clear hK K
      refine tkH 19 (by simp only [tkA, tkG]; rfl) (by kernel_rfl) (by exact fun _ _ _ h => h) (by rfl) (by intro W hW; go_simp <;> with_reducible rfl) hd10 ?_
      try simp only [Act.put, tkT, tk0, tkS]
      refine wpAnyH_done (by kernel_rfl) ?_ _
      clear hd0 hd7 hd8 hd9 hd10 a1 a2 a4
      go_wp2_with fail

      go_roundw
      case rel => exact HR.out
      case measure => have := Hlt.out; simp [intOf]; omega
    · have a1 : (wr.alloc (.cells #[.int .i64 kind, .int .i64 part, .int .i64 port, .int .i64 src_, .slice yA ym ycap, .slice yL ln lcap] 46)).cell? ⟨wr.heap.size, 1, none⟩ = some (.int .i64 part) := cell_at hA0 1 rfl
      have a2 : (wr.alloc (.cells #[.int .i64 kind, .int .i64 part, .int .i64 port, .int .i64 src_, .slice yA ym ycap, .slice yL ln lcap] 46)).cell? ⟨wr.heap.size, 2, none⟩ = some (.int .i64 port) := cell_at hA0 2 rfl

      have eK0 : (IntKind.u64.wrap kind).tmod 7 = (1 : Int) := eK
      clear eK
      go_wp2_with fail
      clear c0 c1 c2 c3 c4 c5 a0 a1 a2 eK0 q1 q1' q2 q2'
      generalize wr.alloc (.cells #[.int .i64 kind, .int .i64 part, .int .i64 port, .int .i64 src_, .slice yA ym ycap, .slice yL ln lcap] 46) = wa at *
      generalize wr.heap.size = ab at *

      have hok := HOk.out wa (HBw.out _ (HBx.out _ _ _ _ _ hPa))
      have hpr := hok.port
      simp only at hpr
      have HRp := Lib.hid (play_read hPa Hal.out part port hpr)
      have hw1 := hLk.read node part port
      have hw2 := hBr.read part port
      have hw3 := hw1.2
      have hw4 := hw1.1
      generalize readT x.plain node sp part port = RP at *
      obtain ⟨R2, hR2⟩ : ∃ R2, readT x.plain node sr part port = R2 := ⟨_, rfl⟩
      rw [hR2] at hw3 hw4
      obtain ⟨⟨d, fr, o⟩, st1⟩ := RP
      obtain ⟨R3, st2⟩ := R2
      simp only at hw2 hw3 hw4 HRp
      subst hw4
      have HLk := Lib.hid hw3
      have HBr := Lib.hid hw2
      have HR2 := Lib.hid hR2
      clear hok hPa hLk hBr hw1 hw2 hw3 hR2 hba1
      refine HRp.out.mono ?_
      rintro e w8 ⟨A8, c8, ev, rfl, ho8, hv8, hP8, hT8⟩
      have hA8 := hA0.touch hT8
      have a1 := cell_at hA8 1 rfl
      have a2 := cell_at hA8 2 rfl
      have Ho8 := Lib.hid ho8
      have Hv8 := Lib.hid hv8.text
      have HRr := Lib.hid (rplay_read hP8 Hal.out part port hpr)
      rw [HR2.out] at HRr
      simp only at HRr
      unfold strV at HRr
      clear ho8 hv8 hP8 hT8 HRp hA0 hA8
      go_wp2_with fail
      refine HRr.out.mono ?_
      rintro e w9 ⟨A9, c9, rfl, hy9, hP9, hT9⟩
      have kx : (convert 44 9 (.slice A8 (d.length : Nat) c8)).run Try.prog w9 = .ok (.string ⟨d.toArray⟩) w9 := conv_w rfl (own_block8 (hT9.own Ho8.out (by decide) (by decide) (by decide))).1
      have ky : (convert 44 9 (.slice A9 (d.length : Nat) c9)).run Try.prog w9 = .ok (.string ⟨d.toArray⟩) w9 := conv_w rfl hy9
      have HRd := Lib.hid (ErrText.read (Hv8.out.touchP hT9))
      unfold strV at HRd
      have HP9 := Lib.hid hP9
      clear hy9 hP9 hT9 HRr Ho8 Hv8 a1 a2
      go_wp2_with fail
      refine HRd.out.mono ?_
      rintro e w10 ⟨rfl, hb10⟩
      have HR := Lib.hid (HNx.out _ _ _ (HP9.out.below hb10) HLk.out HBr.out)
      clear hb10 HRd HP9 kx ky
      go_wp2_with fail

      go_roundw
      case rel => exact HR.out
      case measure => have := Hlt.out; simp [intOf]; omega
    · have eK0 : (IntKind.u64.wrap kind).tmod 7 = (2 : Int) := eK
      clear eK
      go_wp2_with fail
      clear c0 c1 c2 c3 c4 c5 a0 eK0 q1 q1' q2 q2'
      generalize wr.alloc (.cells #[.int .i64 kind, .int .i64 part, .int .i64 port, .int .i64 src_, .slice yA ym ycap, .slice yL ln lcap] 46) = wa at *
      generalize wr.heap.size = ab at *

      have hw5 := seal_pair hLk hBr
      have hw2 : Bare x.plain node (List.zipWith outF x.plain.ports sp) := by rw [hBr.outs]; exact hBr.sealS
      have hw3 : Like x.plain (List.zipWith outF x.plain.ports sp) (PorP.sealS x.plain node sr) := by rw [hBr.outs]; exact hLk.sealS node
      have hmo := imgP_len (c := x.plain) (sel := TableP.Port.out) hPa.most x.plain.ports.length
      have hp24 := Hal.out.ports
      have HLk := Lib.hid hw3
      have HBr := Lib.hid hw2
      have HSp := Lib.hid (play_seal hPa Hal.out)
      clear hLk hBr hw2 hw3 hPa hba1
      refine HSp.out.mono ?_
      rintro e w8 ⟨A8, n8, c8, ys, rfl, hyn, hO, hpl, hP8, hT8⟩
      have HO8 := Lib.hid hO
      have Hpl := Lib.hid hpl
      have HSr := Lib.hid (rplay_seal hP8 Hal.out)
      clear hO hpl hP8 hT8 HSp
      go_wp2_with fail
      refine HSr.out.mono ?_
      rintro e w9 ⟨A9, n9, c9, ys2, rfl, hyn2, hM9, hpl2, hP9, hT9⟩
      have hpp := Hpl.out.trans (hw5.trans hpl2.symm)
      have hnn : n8 = n9 := by
        have h1 := congrArg List.length hpp
        rw [List.length_map, List.length_map] at h1
        omega
      subst hnn
      have HSm := Lib.hid (sameMsgs_any A8 A9 n8 c8 c9 ys ys2 hyn hpp w9 (by
        obtain ⟨Aa, ca, ea, -, hina⟩ := (hT9.out HO8.out).reads
        injection ea with ea1 ea2 ea3
        subst ea1
        exact hina) hM9 (by
        have h1 := congrArg List.length Hpl.out
        rw [List.length_map] at h1
        omega))
      have HR0 : Hid (∀ m, PlayR w x node B pa ra n (.int .i64 ((k : Int) + 1)) (w9.drewN m)) := Lib.hid fun m => HNx.out _ _ _ (hP9.below (below_drewN (Below.refl _ _) m)) HLk.out HBr.out
      clear hpp hyn hyn2 hM9 hpl2 hP9 hT9 HO8 Hpl HSr hw5 hmo hp24
      go_wp2_with fail
      refine HSm.out.mono ?_
      rintro e w10 ⟨rfl, m10, rfl⟩
      have HR := Lib.hid (HR0.out m10)
      clear HSm HR0
      go_wp2_with fail

      go_roundw
      case rel => exact HR.out
      case measure => have := Hlt.out; simp [intOf]; omega
    · have eK0 : (IntKind.u64.wrap kind).tmod 7 = (3 : Int) := eK
      clear eK
      have a5 : (wr.alloc (.cells #[.int .i64 kind, .int .i64 part, .int .i64 port, .int .i64 src_, .slice yA ym ycap, .slice yL ln lcap] 46)).cell? ⟨wr.heap.size, 5, none⟩ = some (.slice yL ln lcap) := cell_at hA0 5 rfl
      have hok := HOk.out _ (HBw.out _ (HBx.out _ _ _ _ _ hPa))
      have hml := hok.mlen
      have hmc := hok.mcap
      have hmm := hok.mmost
      simp only at hml hmc hmm
      by_cases hl100 : 100 < ln
      case pos =>
        have q3 : decide ((100 : Int) < (ln : Int)) = true := decide_eq_true (by omega)
        have q3' : decide (100 < ln) = true := decide_eq_true hl100
        have HR := Lib.hid (HNx.out _ _ _ hPa hLk hBr)
        clear hok hPa hLk hBr hA0 hml hmc hmm hba1
        go_wp2_with fail
        go_roundw
        case rel => exact HR.out
        case measure => have := Hlt.out; simp [intOf]; omega
      have q3 : decide ((100 : Int) < (ln : Int)) = false := decide_eq_false (by omega)
      have q3' : decide (100 < ln) = false := decide_eq_false hl100
      go_wp2_with fail
      clear c0 c1 c2 c3 c4 c5 a0 eK0 q1 q1' q2 q2' a5 q3 q3'
      generalize wr.alloc (.cells #[.int .i64 kind, .int .i64 part, .int .i64 port, .int .i64 src_, .slice yA ym ycap, .slice yL ln lcap] 46) = wa at *
      generalize wr.heap.size = ab at *

      obtain ⟨acs, hacs⟩ : ∃ acs : Array Value, acs = #[.int .i64 kind, .int .i64 part, .int .i64 port, .int .i64 src_, .slice yA ym ycap, .slice yL ln lcap] := ⟨_, rfl⟩
      rw [← hacs] at hA0
      have Hacs := Lib.hid hacs
      have a3 : ∀ W, ActB ab acs W → W.cell? ⟨ab, 3, none⟩ = some (.int .i64 src_) := fun W hW => cell_at hW 3 (by rw [Hacs.out]; rfl)
      have a5 : ∀ W, ActB ab acs W → W.cell? ⟨ab, 5, none⟩ = some (.slice yL ln lcap) := fun W hW => cell_at hW 5 (by rw [Hacs.out]; rfl)

      have hd0 : ActB ab acs wa.drew := hA0
      have hP0 := hPa.below (Below.refl _ wa).drew
      have HPd := Lib.hid hP0
      have hw1 := Like.deliver node src_ (pairsT ms) hLk
      have hw2 := Bare.deliver (src_ := src_) (pairsT ms) hBr
      have hw3 := hw1.2
      have hw4 := hw1.1
      have hle := deliver_le x.plain node src_ (pairsT ms) sp
      have HCop := Lib.hid (copied13_any wa.drew yL lcap ms (by rw [hml]; exact hmc) (by rw [hml]; exact hmm) (HMs.out.below (HBw.out _ (HBx.out _ _ _ _ _ hP0))))
      generalize hdp : deliverT x.plain node src_ (pairsT ms) sp = RP at *
      generalize hdr : deliverT x.plain node src_ (pairsT ms) sr = RR at *
      obtain ⟨n1, st1⟩ := RP
      obtain ⟨n2, st2⟩ := RR
      simp only at hw2 hw3 hw4
      subst hw4
      have HLk := Lib.hid hw3
      have HBr := Lib.hid hw2
      have Hdp := Lib.hid hdp
      have Hdr := Lib.hid hdr
      have Hml := Lib.hid hml
      rw [hml] at HCop
      unfold CopP at HCop
      have p1 : (((n1 : Nat) : Int) == ((n1 : Nat) : Int)) = true := by simp
      have p2 : (((n1 : Nat) : Int) != ((n1 : Nat) : Int)) = false := by simp
      clear hok hPa hP0 hLk hBr hw1 hw2 hw3 hacs hml hdp hdr hba1 hle
      refine wp_region_held_drew (S := fun W => ActB ab acs W) (by kernel_rfl) hd0 (fun _ => ?_)
      generalize wa.drew = w0 at *
      refine tkH 0 (by simp only [tkA]; rfl) (by kernel_rfl) (by exact fun _ _ _ h => h) (by rfl) (by intro W hW; go_simp <;> with_reducible rfl) hd0 ?_
      try simp only [Act.put, tkT, tk0, tkS]
      refine tkH 1 (by simp only [tkA, tkG]; rfl) (by kernel_rfl) (by exact fun _ _ _ h => h) (by rfl) (by intro W hW; go_simp <;> with_reducible rfl) hd0 ?_
      try simp only [Act.put, tkT, tk0, tkS]
      refine tkH 2 (by simp only [tkA, tkG]; rfl) (by kernel_rfl) (by exact fun _ _ _ h => h) (by rfl) (by intro W hW; go_simp <;> with_reducible rfl) hd0 ?_
      try simp only [Act.put, tkT, tk0, tkS]
      refine tkH 3 (by simp only [tkA, tkG]; rfl) (by kernel_rfl) (by exact fun _ _ _ h => h) (by rfl) (by intro W hW; go_simp <;> with_reducible rfl) hd0 ?_
      try simp only [Act.put, tkT, tk0, tkS]
      refine tkH 4 (by simp only [tkA, tkG]; rfl) (by kernel_rfl) (by exact fun _ _ _ h => h) (by rfl) (by intro W hW; go_simp <;> with_reducible rfl) hd0 ?_
      try simp only [Act.put, tkT, tk0, tkS]
      refine tkH 7 (by simp only [tkA, tkG]; rfl) (by kernel_rfl) (by exact fun _ _ _ h => h) (by rfl) (by intro W hW; go_simp <;> with_reducible rfl) hd0 ?_
      try simp only [Act.put, tkT, tk0, tkS]
      refine tkH 8 (by simp only [tkA, tkG]; rfl) (by kernel_rfl) (by exact fun _ _ _ h => h) (by rfl) (by intro W hW; go_simp <;> with_reducible rfl) hd0 ?_
      try simp only [Act.put, tkT, tk0, tkS]
      refine tkH 9 (by simp only [tkA, tkG]; rfl) (by kernel_rfl) (by exact fun _ _ _ h => h) (by rfl) (by intro W hW; go_simp <;> with_reducible rfl) hd0 ?_
      try simp only [Act.put, tkT, tk0, tkS]
      refine tkH 10 (by simp only [tkA, tkG]; rfl) (by kernel_rfl) (by exact fun _ _ _ h => h) (by rfl) (by intro W hW; go_simp <;> with_reducible rfl) hd0 ?_
      try simp only [Act.put, tkT, tk0, tkS]
      refine tkH 11 (by simp only [tkA, tkG]; rfl) (by kernel_rfl) (by exact fun _ _ _ h => h) (by rfl) (by intro W hW; go_simp <;> with_reducible rfl) hd0 ?_
      try simp only [Act.put, tkT, tk0, tkS]
      refine clH 5 (by kernel_rfl) (by simp only [tkA, tkG]; rfl) (fun K hK => ?_)
      go_simp
      refine HCop.out.mono ?_
      rintro e w7 ⟨A7, c7, zs, rfl, hz7, hm7, hp7, hf7, hb7⟩
      have hd7 := hd0.below hb7
      have hpz : pairsT zs = pairsT ms := by
        rw [← pairs_plains, ← pairs_plains, hp7]
      have HPd7 := Lib.hid (play_deliver HPd.out hb7 Hal.out src_ A7 ln c7 zs (by rw [hz7]; exact Hml.out) (by omega) hm7 hf7)
      rw [hpz, Hdp.out] at HPd7
      rw [Hml.out]
      clear hz7 hm7 hp7 hf7 hb7 hpz HCop HPd
      go_wp2_with fail
      refine hK.out _ _ hd7 (fun _ => ?_)
      clear hK K
      refine clH 6 (by kernel_rfl) (by simp only [tkA, tkG]; rfl) (fun K hK => ?_)
      go_simp
      refine HPd7.out.mono ?_
      rintro e w8 ⟨rfl, hP8, hT8⟩
      have hd8 := hd7.touch hT8
      have HRd := Lib.hid (rplay_deliver hP8 Hal.out src_ yL ln lcap ms Hml.out (by omega) HMs.out)
      rw [Hdr.out] at HRd
      clear hP8 hT8 HPd7
      go_wp2_with fail
      refine hK.out _ _ hd8 (fun _ => ?_)
      clear hK K
      refine clH 12 (by kernel_rfl) (by simp only [tkA, tkG]; rfl) (fun K hK => ?_)
      go_simp
      refine HRd.out.mono ?_
      rintro e w9 ⟨rfl, hP9, hT9⟩
      have hd9 := hd8.touch hT9
      have HR := Lib.hid (HNx.out _ _ _ hP9 HLk.out HBr.out)
      clear hP9 hT9 HRd
      go_wp2_with fail
      refine hK.out _ _ hd9 (fun _ => ?_)
      clear hK K
      refine tkH 13 (by simp only [tkA, tkG]; rfl) (by kernel_rfl) (by exact fun _ _ _ h => h) (by rfl) (by intro W hW; go_simp <;> with_reducible rfl) hd9 ?_
      try simp only [Act.put, tkT, tk0, tkS]
      refine wpAnyH_done (by kernel_rfl) ?_ _
      clear hd0 hd7 hd8 hd9 a3 a5
      go_wp2_with fail

      go_roundw
      case rel => exact HR.out
      case measure => have := Hlt.out; simp [intOf]; omega
    · have eK0 : (IntKind.u64.wrap kind).tmod 7 = (4 : Int) := eK
      clear eK
      go_wp2_with fail
      clear c0 c1 c2 c3 c4 c5 a0 eK0 q1 q1' q2 q2'
      generalize wr.alloc (.cells #[.int .i64 kind, .int .i64 part, .int .i64 port, .int .i64 src_, .slice yA ym ycap, .slice yL ln lcap] 46) = wa at *
      generalize wr.heap.size = ab at *

      have hw2 := hBr.grow
      have hw3 := hLk.grow
      rw [← age_all hBr.len] at hw2
      rw [← age_all hBr.len, ← age_all hLk.lb] at hw3
      have HLk := Lib.hid hw3
      have HBr := Lib.hid hw2
      have HAp := Lib.hid (play_age hPa Hal.out)
      clear hLk hBr hw2 hw3 hPa hba1
      refine HAp.out.mono ?_
      rintro e w8 ⟨rfl, hP8⟩
      have HGr := Lib.hid (rplay_grow hP8 Hal.out)
      clear hP8 HAp
      go_wp2_with fail
      refine HGr.out.mono ?_
      rintro e w9 ⟨rfl, hP9⟩
      have HR := Lib.hid (HNx.out _ _ _ hP9 HLk.out HBr.out)
      clear hP9 HGr
      go_wp2_with fail

      go_roundw
      case rel => exact HR.out
      case measure => have := Hlt.out; simp [intOf]; omega
    · have a1 : (wr.alloc (.cells #[.int .i64 kind, .int .i64 part, .int .i64 port, .int .i64 src_, .slice yA ym ycap, .slice yL ln lcap] 46)).cell? ⟨wr.heap.size, 1, none⟩ = some (.int .i64 part) := cell_at hA0 1 rfl

      have eK0 : (IntKind.u64.wrap kind).tmod 7 = (5 : Int) := eK
      clear eK
      go_wp2_with fail
      clear c0 c1 c2 c3 c4 c5 a0 a1 eK0 q1 q1' q2 q2'
      generalize wr.alloc (.cells #[.int .i64 kind, .int .i64 part, .int .i64 port, .int .i64 src_, .slice yA ym ycap, .slice yL ln lcap] 46) = wa at *
      generalize wr.heap.size = ab at *

      have hw2 := hBr.clear part
      have hw3 := hLk.clear part
      have HLk := Lib.hid hw3
      have HBr := Lib.hid hw2
      have HAp := Lib.hid (play_clear hPa Hal.out part)
      clear hLk hBr hw2 hw3 hPa hba1
      refine HAp.out.mono ?_
      rintro e w8 ⟨rfl, hP8, hT8⟩
      have a1 := cell_at (hA0.touch hT8) 1 rfl
      have HGr := Lib.hid (rplay_clear hP8 Hal.out part)
      clear hP8 hT8 HAp hA0
      go_wp2_with fail
      refine HGr.out.mono ?_
      rintro e w9 ⟨rfl, hP9⟩
      have HR := Lib.hid (HNx.out _ _ _ hP9 HLk.out HBr.out)
      clear hP9 HGr a1
      go_wp2_with fail

      go_roundw
      case rel => exact HR.out
      case measure => have := Hlt.out; simp [intOf]; omega
    · have eK0 : (IntKind.u64.wrap kind).tmod 7 = (6 : Int) := eK
      clear eK
      go_wp2_with fail
      clear c0 c1 c2 c3 c4 c5 a0 eK0 q1 q1' q2 q2'
      generalize wr.alloc (.cells #[.int .i64 kind, .int .i64 part, .int .i64 port, .int .i64 src_, .slice yA ym ycap, .slice yL ln lcap] 46) = wa at *
      generalize wr.heap.size = ab at *

      refine (play_image hPa Hal.out).mono ?_
      rintro e w8 ⟨A8, n8, c8, ys, rfl, hyn, hO, hpl, hP8⟩
      have HO8 := Lib.hid hO
      have Hpl := Lib.hid hpl
      have HIm := Lib.hid (rplay_image hP8 Hal.out)
      clear hO hpl hP8
      go_wp2_with fail
      refine HIm.out.mono ?_
      rintro e w9 ⟨A9, n9, c9, ys2, rfl, hyn2, hM9, hpl2, hP9, hb9⟩
      have hpp := Hpl.out.trans ((img_pair hLk hBr).trans hpl2.symm)
      have hnn : n8 = n9 := by
        have h1 := congrArg List.length hpp
        rw [List.length_map, List.length_map] at h1
        omega
      subst hnn
      have HSm := Lib.hid (sameMsgs_any A8 A9 n8 c8 c9 ys ys2 hyn hpp w9 (by
        obtain ⟨Aa, ca, ea, -, hina⟩ := (HO8.out.below hb9).reads
        injection ea with ea1 ea2 ea3
        subst ea1
        exact hina) hM9 (by
        have h1 := congrArg List.length Hpl.out
        rw [List.length_map] at h1
        have h2 := imgP_len (c := x.plain) (sel := fun p => !false || p.out) hPa.most x.plain.ports.length
        have h3 := Hal.out.ports
        omega))

      have HR0 : Hid (∀ m, PlayR w x node B pa ra n (.int .i64 ((k : Int) + 1)) (w9.drewN m)) := Lib.hid fun m => HNx.out _ _ _ (hP9.below (below_drewN (Below.refl _ _) m)) hLk hBr
      clear hpp hyn hyn2 hM9 hpl2 hP9 hb9 HO8 Hpl HIm hPa hLk hBr
      go_wp2_with fail
      refine HSm.out.mono ?_
      rintro e w10 ⟨rfl, m10, rfl⟩
      have HR := Lib.hid (HR0.out m10)
      clear HSm HR0
      go_wp2_with fail

      go_roundw
      case rel => exact HR.out
      case measure => have := Hlt.out; simp [intOf]; omega
end Go.Proofs.Ytdeodoppcflgfaa
