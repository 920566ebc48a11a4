/- Contract of the document's Deliver. Conditions: where the tables, the ports and the messages lie, tables that are allowed; at most 100 messages. -/
import Derived.Test.YtdeodoppcflgfaaPorRg
namespace Go.Proofs.Ytdeodoppcflgfaa
open Go.RowKit PorP
set_option maxRecDepth 100000

theorem LeftR.goes {w0 w w1 w2 : World} {B : Nat} {x : CfgC} {node : Int} {a g : Nat} {es es1 : List El} {st : St} (hg : Goes g w w1 es es1) (h : LeftR w0 w1 B x node a g es1 st w2) : LeftR w0 w B x node a g es st w2 := by
  obtain ⟨es', h1, h2, h3⟩ := h
  exact ⟨es', h1, hg.trans h2, h3⟩
theorem routes_le (c : TableP.Cfg) (node : Int) (port : Nat) (d : List UInt8) (rs : List TableP.Route) (st : St) : (routesT c node port d rs st).1 ≤ rs.length := by
  rw [routes_puts]
  refine Nat.le_trans (puts_le _ _ _ _) ?_
  rw [List.length_map]
  exact List.length_filter_le _ _
def DlvRP (w0 w : World) (B : Nat) (x : CfgC) (node : Int) (a g : Nat) (es : List El) (r : Nat × St) (e : Ending) (w' : World) : Prop := e = .returned (.int .i64 (r.1 : Nat)) ∧ LeftR w0 w B x node a g es r.2 w'
def DlvRO (w0 w : World) (B : Nat) (x : CfgC) (node : Int) (a g : Nat) (es : List El) (src_ : Int) (ms : List MsgC) (f i : Value) (wr : World) : Prop :=
  ∃ k, k ≤ ms.length ∧ i = .int .i64 (k : Nat) ∧ f = .int .i64 ((deliverT x.plain node src_ ((pairsT ms).take k) (elSt es)).1 : Nat) ∧ LeftR w0 w B x node a g es (deliverT x.plain node src_ ((pairsT ms).take k) (elSt es)).2 wr
def DlvRI (w0 w : World) (B : Nat) (x : CfgC) (node : Int) (a g : Nat) (es : List El) (port : Nat) (d : List UInt8) (n0 : Nat) (st0 : St) (q : Nat) (mc : Array Value) (f i : Value) (wr : World) : Prop :=
  ∃ j, j ≤ x.rn ∧ i = .int .i64 (j : Nat) ∧ f = .int .i64 ((n0 + (routesT x.plain node port d (x.plain.routes.take j) st0).1 : Nat)) ∧ LeftR w0 w B x node a g es (routesT x.plain node port d (x.plain.routes.take j) st0).2 wr ∧ wr.heap[q]? = some (.cells mc 68 (0, 0))
def RDS (a g : Nat) (hc : Array Value) (es : List El) (q : Nat) (mc : Array Value) (W : World) : Prop := RS a g hc es W ∧ W.heap[q]? = some (.cells mc 68 (0, 0))
theorem RDS.below {a g : Nat} {hc : Array Value} {es : List El} {q : Nat} {mc : Array Value} {W W' : World} (h : RDS a g hc es q mc W) (hb : Below W.heap.size W W') : RDS a g hc es q mc W' := ⟨h.1.below hb, (hb.block q (lt_of_block h.2)).trans h.2⟩
theorem RDS.alloc {a g : Nat} {hc : Array Value} {es : List El} {q : Nat} {mc : Array Value} {W : World} (h : RDS a g hc es q mc W) (o : Obj) : RDS a g hc es q mc (W.alloc o) := h.below ((Below.refl _ _).alloc (Nat.le_refl _) _)
theorem LeftR.rin {w0 w W : World} {B : Nat} {x : CfgC} {node : Int} {a g : Nat} {es : List El} {st : St} (h : LeftR w0 w B x node a g es st W) : ∃ es', RIn w0 W B x node a g es' ∧ elSt es' = st := by
  obtain ⟨es', h1, -, h3⟩ := h
  exact ⟨es', h1, h3⟩

set_option maxHeartbeats 8000000 in
theorem rdeliver_any (w0 w : World) (B : Nat) (x : CfgC) (node : Int) (a g : Nat) (es : List El) (h : RIn w0 w B x node a g es) (hal : SndP.Allowed x.plain) (src_ : Int) (A : Option Addr) (cap : Nat) (ms : List MsgC) (hn : ms.length ≤ 100) (hm : MsgsIn w0 A ms) :
    Calls Try.prog 27 #[rpv a, .int .i64 src_, .slice A ms.length cap] w (DlvRP w0 w B x node a g es (deliverT x.plain node src_ (pairsT ms) (elSt es))) := by
  have HS : Hid (DlvRO w0 w B x node a g es src_ ms (.int .i64 0) (.int .i64 0) w) := Lib.hid ⟨0, Nat.zero_le _, rfl, rfl, LeftR.same h (Below.refl _ _)⟩
  have Hm := Lib.hid hm
  have Hal := Lib.hid hal
  have hq24 := h.q24 hal
  have hr24 : x.plain.routes.length ≤ 24 := hal.routes
  have Hrn : Hid (x.plain.routes.length = x.rn) := Lib.hid h.cfg.rlen
  have Hqn : Hid (x.plain.ports.length = x.qn) := Lib.hid h.cfg.qlen
  have Hle : Hid (w0.heap.size ≤ w.heap.size) := Lib.hid (Nat.le_trans h.low h.leB)
  unfold rpv
  clear h hal hm
  obtain ⟨n, hN⟩ : ∃ n, ms.length = n := ⟨_, rfl⟩
  have HN := Lib.hid hN
  rw [hN] at hn ⊢
  clear hN
  go_enter Try.func27, Try.ntmps27
  go_wp2_with fail
  go_loopw [7, 8] (DlvRO w0 w B x node a g es src_ ms) (fun _ j _ => (n + 1 - intOf j).toNat)
  case atStart => exact HS.out
  case round =>
    clear HS
    obtain ⟨k, hk, rfl, rfl, hL⟩ := hrel
    rw [HN.out] at hk
    by_cases hlt : k < n
    case neg =>
      obtain rfl : k = n := by omega
      have q1 : decide ((k : Int) < (k : Int)) = false := decide_eq_false (by omega)
      have hall : (pairsT ms).take k = pairsT ms := List.take_of_length_le (by unfold pairsT; rw [List.length_map, HN.out]; exact Nat.le_refl _)
      have HF : Hid (DlvRP w0 w B x node a g es (deliverT x.plain node src_ (pairsT ms) (elSt es)) (.returned (.int .i64 ((deliverT x.plain node src_ ((pairsT ms).take k) (elSt es)).1 : Nat))) wr) := Lib.hid (by rw [hall] at hL ⊢; exact ⟨rfl, hL⟩)
      clear hL hall
      go_wp2_with fail
      go_ret
      exact HF.out
    have q1 : decide ((k : Int) < (n : Int)) = true := decide_eq_true (by omega)
    have q1' : decide (k < n) = true := decide_eq_true hlt
    have hkz : (k : Int) < (n : Int) := by omega
    obtain ⟨y, hy⟩ : ∃ y, ms[k]? = some y := ⟨_, List.getElem?_eq_getElem (by rw [HN.out]; exact hlt)⟩
    obtain ⟨es1, hr1, hst1⟩ := hL.rin
    obtain ⟨b, off, hA, hb, hi⟩ := (Hm.out.below hr1.tab) (by rw [HN.out]; omega)
    obtain ⟨kp, kt, ok⟩ := hi k y hy
    have hstep := deliver_take (c := x.plain) (node := node) (src_ := src_) (st := elSt es) (pairs_at hy)
    have hle := deliver_le x.plain node src_ ((pairsT ms).take k) (elSt es)
    have hle2 : x.plain.routes.length * ((pairsT ms).take k).length ≤ 24 * 100 := Nat.mul_le_mul hr24 (by rw [List.length_take]; omega)
    obtain ⟨port, D, m, cc, data⟩ := y
    simp only at kp kt hstep
    obtain ⟨ok1, ok2, ok3, ok4, ok5⟩ := ok
    simp only at ok1 ok2 ok3 ok4 ok5
    subst hA
    have HBy : Hid (∀ W, Below w0.heap.size w0 W → Bytes W W.heap.size D data) := Lib.hid fun W hW => by
      obtain ⟨b', o', -, -, hi'⟩ := (Hm.out.below hW) (by rw [HN.out]; omega)
      exact (hi' k _ hy).ok.bytes
    generalize deliverT x.plain node src_ ((pairsT ms).take k) (elSt es) = R0 at *
    obtain ⟨n0, st0⟩ := R0
    simp only at hL hle hstep hst1
    have HSkip : Hid (comesB x.plain src_ port data = false → ∀ W, Below wr.heap.size wr W → DlvRO w0 w B x node a g es src_ ms (.int .i64 (n0 : Nat)) (.int .i64 ((k : Int) + 1)) W) := Lib.hid fun hc W hW => ⟨k + 1, by rw [HN.out]; exact hlt, by go_num, by rw [hstep]; unfold PorP.oneT; rw [hc]; rfl, by rw [hstep]; unfold PorP.oneT; rw [hc]; exact hL.below hW⟩
    have HEnd : Hid (comesB x.plain src_ port data = true → ∀ W, LeftR w0 w B x node a g es (routesT x.plain node port.toNat data x.plain.routes st0).2 W → DlvRO w0 w B x node a g es src_ ms (.int .i64 ((n0 + (routesT x.plain node port.toNat data x.plain.routes st0).1 : Nat))) (.int .i64 ((k : Int) + 1)) W) := Lib.hid fun hc W hW => ⟨k + 1, by rw [HN.out]; exact hlt, by go_num, by rw [hstep]; unfold PorP.oneT; rw [hc]; rfl, by rw [hstep]; unfold PorP.oneT; rw [hc]; exact hW⟩
    have e1 : IntKind.i64.wrap ((k : Int) + 1) = (k : Int) + 1 := IntWalk.i64_in _ (by omega)
    have hb5 : Below wr.heap.size wr (wr.alloc (.cells #[.int .i64 port, .slice D m cc] 68)) := (Below.refl _ _).alloc (Nat.le_refl _) _
    have hq5 : (wr.alloc (.cells #[.int .i64 port, .slice D m cc] 68)).heap[wr.heap.size]? = some (.cells #[.int .i64 port, .slice D m cc] 68 (0, 0)) := heap_alloc_new wr _
    have hL5 := hL.below hb5
    have HL5 := Lib.hid hL5
    have k12 := cell_at (hr1.below hb5).hd 12 rfl
    have k9 := cell_at (hr1.below hb5).hd 9 rfl
    have k8 := cell_at (hr1.below hb5).hd 8 rfl
    have m0 := cell_at hq5 0 rfl
    have m1 := cell_at hq5 1 rfl
    have Hlt := Lib.hid hlt
    by_cases h0 : port < 0
    case pos =>
      have q2 : decide (port < 0) = true := decide_eq_true h0
      have HR := Lib.hid (HSkip.out (by unfold comesB; rw [decide_eq_false (by omega)]; rfl))
      have HR2 : Hid (∀ j, DlvRO w0 w B x node a g es src_ ms (.int .i64 (n0 : Nat)) (.int .i64 ((k : Int) + 1)) (World.drewN (wr.alloc (.cells #[.int .i64 port, .slice D m cc] 68)) j)) := Lib.hid fun j => HR.out _ (below_drewNc hb5 _)
      clear HSkip HEnd HBy HL5 hL5 hb5 hq5 hr1 hst1 hL hi ok4 hstep hy HR
      go_wp2_with fail
      go_quiet (fail)
      go_wp2_with fail
      go_roundw
      case rel => exact HR2.out _
      case measure => have := Hlt.out; simp [intOf]; omega
    have q2 : decide (port < 0) = false := decide_eq_false h0
    obtain ⟨i, rfl⟩ := Int.eq_ofNat_of_zero_le (show 0 ≤ port by omega)
    by_cases hiq : x.qn ≤ i
    case pos =>
      have q3 : decide ((x.qn : Int) ≤ (i : Int)) = true := decide_eq_true (by omega)
      have q4 : decide (x.qn ≤ i) = true := decide_eq_true hiq
      have HR := Lib.hid (HSkip.out (by unfold comesB; rw [Int.toNat_natCast, List.getElem?_eq_none (by rw [Hqn.out]; exact hiq)]; simp))
      have HR2 : Hid (∀ j, DlvRO w0 w B x node a g es src_ ms (.int .i64 (n0 : Nat)) (.int .i64 ((k : Int) + 1)) (World.drewN (wr.alloc (.cells #[.int .i64 (i : Nat), .slice D m cc] 68)) j)) := Lib.hid fun j => HR.out _ (below_drewNc hb5 _)
      clear HSkip HEnd HBy HL5 hL5 hb5 hq5 hr1 hst1 hL hi ok4 hstep hy HR
      go_wp2_with fail
      go_quiet (fail)
      go_wp2_with fail
      go_roundw
      case rel => exact HR2.out _
      case measure => have := Hlt.out; simp [intOf]; omega
    have q3 : decide ((x.qn : Int) ≤ (i : Int)) = false := decide_eq_false (by omega)
    have q4 : decide (x.qn ≤ i) = false := decide_eq_false hiq
    have hiz : (i : Int) < (x.qn : Int) := by omega
    obtain ⟨p, hp⟩ : ∃ p, x.plain.ports[i]? = some p := ⟨_, List.getElem?_eq_getElem (by rw [Hqn.out]; omega)⟩
    have hcm : comesB x.plain src_ (i : Int) data = (p.out && decide (nodeOf x.plain p = src_) && decide ((m : Int) ≤ p.size)) := by
      unfold comesB
      rw [Int.toNat_natCast, hp, decide_eq_true (show (0 : Int) ≤ (i : Int) by omega), ok1]; rfl
    rw [hcm, Int.toNat_natCast] at HEnd
    rw [hcm] at HSkip
    obtain ⟨bQ, oQ, hQA, hQ1⟩ := (hr1.below hb5).portAt hp
    rw [hQA] at k9
    obtain ⟨pi, bP, oP, hpi, hpil, hPA, kN⟩ := (hr1.below hb5).nodeAt Hal.out (List.mem_of_getElem? hp)
    rw [hPA] at k8
    have p0 := hQ1.c0
    have p1 := hQ1.c1
    have p2 := hQ1.c2
    have p3 := hQ1.c3
    have p4 := hQ1.c4
    have p5 := hQ1.c5
    rw [hpi] at p0
    have hpz : (pi : Int) < (x.pn : Int) := by omega
    clear hQ1 hL hi hstep hy ok4
    generalize hNo : nodeOf x.plain p = No at *
    go_wp2_with fail
    generalize wr.alloc (.cells #[.int .i64 (i : Nat), .slice D m cc] 68) = w5 at *
    go_quiet (fail)
    go_wp2_with fail
    obtain ⟨w6, hw6⟩ : ∃ w6, w6 = w5.drewN nq := ⟨_, rfl⟩
    rw [← hw6]
    have h56 : Below w5.heap.size w5 w6 := by rw [hw6]; exact below_drewN (Below.refl _ _) _
    have hr6 := (hr1.below hb5).below h56
    have hq6 := (h56.block _ (lt_of_block hq5)).trans hq5
    have hL6 := hL5.below h56
    have hb6 := hb5.trans (h56.mono hb5.size)
    clear k8 k9 k12 m0 m1 p0 p1 p2 p3 p4 p5 kN HL5
    have HQ6 : Hid (∀ W, Below w6.heap.size w6 W → PortAt W bQ (oQ + i * 6) p) := Lib.hid fun W hW => by
      obtain ⟨b', o', e1, e2⟩ := (hr6.below hW).portAt hp
      rw [hQA] at e1
      injection e1 with e1
      injection e1 with e1 e3
      subst e1 e3
      exact e2
    have HN6 : Hid (∀ W, Below w6.heap.size w6 W → W.cell? ⟨bP, oP + pi * 9, none⟩ = some (.int .i64 No)) := Lib.hid fun W hW => by
      obtain ⟨pi', b', o', e0, -, e1, e2⟩ := (hr6.below hW).nodeAt Hal.out (List.mem_of_getElem? hp)
      rw [hPA] at e1
      injection e1 with e1
      injection e1 with e1 e3
      subst e1 e3
      have : pi' = pi := by omega
      rw [this, hNo] at e2
      exact e2
    have Hr6 := Lib.hid (fun W (hW : Below w6.heap.size w6 W) => hr6.below hW)
    have Hq6 := Lib.hid (fun W (hW : Below w6.heap.size w6 W) => (hW.block _ (lt_of_block hq6)).trans hq6)
    have HL6 := Lib.hid (fun W (hW : Below w6.heap.size w6 W) => hL6.below hW)
    have r9 : ∀ W, Below w6.heap.size w6 W → W.cell? ⟨a, 9, none⟩ = some (.slice (some ⟨bQ, oQ, none⟩) x.qn x.qcap) := fun W hW => by rw [← hQA]; exact cell_at (hr6.below hW).hd 9 rfl
    have rm0 : ∀ W, Below w6.heap.size w6 W → W.cell? ⟨wr.heap.size, 0, none⟩ = some (.int .i64 (i : Nat)) := fun W hW => cell_at (Hq6.out W hW) 0 rfl
    have rp0 : ∀ W, Below w6.heap.size w6 W → W.cell? ⟨bQ, oQ + i * 6, none⟩ = some (.int .i64 (pi : Nat)) := fun W hW => by rw [← hpi]; exact (HQ6.out W hW).c0
    have rp1 : ∀ W, Below w6.heap.size w6 W → W.cell? ⟨bQ, oQ + i * 6 + 1, none⟩ = some (.int .u8 (p.kind : Nat)) := fun W hW => (HQ6.out W hW).c1
    have rp2 : ∀ W, Below w6.heap.size w6 W → W.cell? ⟨bQ, oQ + i * 6 + 2, none⟩ = some (.bool p.out) := fun W hW => (HQ6.out W hW).c2
    have rp3 : ∀ W, Below w6.heap.size w6 W → W.cell? ⟨bQ, oQ + i * 6 + 3, none⟩ = some (.int .i64 p.size) := fun W hW => (HQ6.out W hW).c3
    have rp4 : ∀ W, Below w6.heap.size w6 W → W.cell? ⟨bQ, oQ + i * 6 + 4, none⟩ = some (.int .i64 p.depth) := fun W hW => (HQ6.out W hW).c4
    have rp5 : ∀ W, Below w6.heap.size w6 W → W.cell? ⟨bQ, oQ + i * 6 + 5, none⟩ = some (.int .i64 p.fresh) := fun W hW => (HQ6.out W hW).c5
    have hd0 : Below w6.heap.size w6 w6.drew := (Below.refl _ _).drew
    have hb06 := Lib.hid hb6
    have Hp := Lib.hid hp
    have Hhd := Lib.hid (fun W (hW : Below w6.heap.size w6 W) => (hr6.below hW).hd)
    have HQA := Lib.hid hQA
    have HPA := Lib.hid hPA
    have hp12 : x.pn ≤ 12 := by rw [← hr6.cfg.plen]; exact Hal.out.parts
    clear hr1 hb5 hq5 h56 hr6 hq6 hL6 hL5 hb6 hp hcm
    clear hw6
    refine wp_region_held_drew (S := fun W => Below w6.heap.size w6 W) (by kernel_rfl) hd0 (fun _ => ?_)
    have hds : w6.drew.heap.size = w6.heap.size := rfl
    generalize w6.drew = w7 at *
    refine tkH 0 (by simp only [tkA]; rfl) (by kernel_rfl) (by exact fun _ _ _ h => h) (by rfl) (by intro W hW; go_simp <;> with_reducible rfl) hd0 ?_
    try simp only [Act.put, tkT, tk0, tkS]
    refine tkH 1 (by simp only [tkA, tkG]; rfl) (by kernel_rfl) (by exact fun _ _ _ h => h) (by rfl) (by intro W hW; go_simp <;> with_reducible rfl) hd0 ?_
    try simp only [Act.put, tkT, tk0, tkS]
    refine tkH 2 (by simp only [tkA, tkG]; rfl) (by kernel_rfl) (by exact fun _ _ _ h => h) (by rfl) (by intro W hW; go_simp <;> with_reducible rfl) hd0 ?_
    try simp only [Act.put, tkT, tk0, tkS]
    refine tkH 3 (by simp only [tkA, tkG]; rfl) (by kernel_rfl) (by exact fun _ _ _ h => h) (by rfl) (by intro W hW; go_simp <;> with_reducible rfl) hd0 ?_
    try simp only [Act.put, tkT, tk0, tkS]
    refine tkH 4 (by simp only [tkA, tkG]; rfl) (by kernel_rfl) (by exact fun _ _ _ h => h) (by rfl) (by intro W hW; go_simp <;> with_reducible rfl) hd0 ?_
    try simp only [Act.put, tkT, tk0, tkS]
    refine tkH 5 (by simp only [tkA, tkG]; rfl) (by kernel_rfl) (by exact fun _ _ _ h => h) (by rfl) (by intro W hW; go_simp <;> with_reducible rfl) hd0 ?_
    try simp only [Act.put, tkT, tk0, tkS]
    refine tkH 6 (by simp only [tkA, tkG]; rfl) (by kernel_rfl) (by exact fun _ _ _ h => h) (by rfl) (by intro W hW; go_simp <;> with_reducible rfl) hd0 ?_
    try simp only [Act.put, tkT, tk0, tkS]
    refine tkH 7 (by simp only [tkA, tkG]; rfl) (by kernel_rfl) (by exact fun _ _ _ h => h) (by rfl) (by intro W hW; go_simp <;> with_reducible rfl) hd0 ?_
    try simp only [Act.put, tkT, tk0, tkS]
    refine tkH 8 (by simp only [tkA, tkG]; rfl) (by kernel_rfl) (by exact fun _ _ _ h => h) (by rfl) (by intro W hW; go_simp <;> with_reducible rfl) hd0 ?_
    try simp only [Act.put, tkT, tk0, tkS]
    have hz := heap_alloc_new w7 (.cells #[.int .i64 0, .int .u8 0, .bool false, .int .i64 0, .int .i64 0, .int .i64 0] 63)
    rw [hds] at hz
    have hd1 : Below w6.heap.size w6 (w7.alloc (.cells #[.int .i64 0, .int .u8 0, .bool false, .int .i64 0, .int .i64 0, .int .i64 0] 63)) := hd0.alloc hd0.size _
    refine clH 9 (by kernel_rfl) (by simp only [tkA, tkG]; rfl) (fun K hK => ?_)
    go_simp
    go_wp2_with fail
    refine hK.out _ _ hd1 (fun _ => ?_)
    clear hK K
    generalize w7.alloc (.cells #[.int .i64 0, .int .u8 0, .bool false, .int .i64 0, .int .i64 0, .int .i64 0] 63) = w7a at *
    have z0 : w7a.cell? ⟨w6.heap.size, 0, none⟩ = some (.int .i64 0) := cell_at hz 0 rfl
    have z1 : w7a.cell? ⟨w6.heap.size, 1, none⟩ = some (.int .u8 0) := cell_at hz 1 rfl
    have z2 : w7a.cell? ⟨w6.heap.size, 2, none⟩ = some (.bool false) := cell_at hz 2 rfl
    have z3 : w7a.cell? ⟨w6.heap.size, 3, none⟩ = some (.int .i64 0) := cell_at hz 3 rfl
    have z4 : w7a.cell? ⟨w6.heap.size, 4, none⟩ = some (.int .i64 0) := cell_at hz 4 rfl
    have z5 : w7a.cell? ⟨w6.heap.size, 5, none⟩ = some (.int .i64 0) := cell_at hz 5 rfl
    have zf := fun o => free_at hz o
    have hx8 := storeAll_heap (b := w6.heap.size) (t := 63) [.int .i64 (pi : Nat), .int .u8 (p.kind : Nat), .bool p.out, .int .i64 p.size, .int .i64 p.depth, .int .i64 p.fresh] 0 w7a [] [.int .i64 0, .int .u8 0, .bool false, .int .i64 0, .int .i64 0, .int .i64 0] hz rfl rfl
    have hd2 : Below w6.heap.size w6 (storeAll w7a w6.heap.size [.int .i64 (pi : Nat), .int .u8 (p.kind : Nat), .bool p.out, .int .i64 p.size, .int .i64 p.depth, .int .i64 p.fresh] 0) := hd1.trans (Apart.below (storeAll_apart w6.heap.size _ 0 w7a) hd1.size (fun q hq => by subst hq; exact Nat.le_refl _))
    simp only [storeAll, Nat.zero_add] at hx8 hd2
    have Hx8 := Lib.hid hx8
    have Hd2 := Lib.hid hd2
    clear hx8 hd2 hd1 hz hds
    refine clH 10 (by kernel_rfl) (by simp only [tkA, tkG]; rfl) (fun K hK => ?_)
    go_simp
    go_wp2_with fail
    refine hK.out _ _ Hd2.out (fun _ => ?_)
    clear hK K
    refine wpAnyH_done (by kernel_rfl) ?_ _
    clear z0 z1 z2 z3 z4 z5 zf hd0 rp0 rp1 rp2 rp3 rp4 rp5 r9 rm0
    generalize hW8 : World.setCell (World.setCell (World.setCell (World.setCell (World.setCell (World.setCell w7a _ _) _ _) _ _) _ _) _ _) _ _ = w8 at *
    have hx8 := Hx8.out
    simp only [List.nil_append] at hx8
    have hd8 := Hd2.out
    have hb08 := Lib.hid (hb06.out.trans (hd8.mono hb06.out.size))
    have Hr8 := Hr6.out w8 hd8
    have HL8 := HL6.out w8 hd8
    have Hq8 := Hq6.out w8 hd8
    have s0 : w8.cell? ⟨w6.heap.size, 0, none⟩ = some (.int .i64 (pi : Nat)) := cell_at hx8 0 rfl
    have s2 : w8.cell? ⟨w6.heap.size, 2, none⟩ = some (.bool p.out) := cell_at hx8 2 rfl
    have s3 : w8.cell? ⟨w6.heap.size, 3, none⟩ = some (.int .i64 p.size) := cell_at hx8 3 rfl
    have m1 : w8.cell? ⟨wr.heap.size, 1, none⟩ = some (.slice D m cc) := cell_at Hq8 1 rfl
    have k8 : w8.cell? ⟨a, 8, none⟩ = some (.slice (some ⟨bP, oP, none⟩) x.pn x.pcap) := by rw [← HPA.out]; exact cell_at Hr8.hd 8 rfl
    have kN := HN6.out w8 hd8
    have hpo2 := (Hal.out.port p (List.mem_of_getElem? Hp.out)).2.1
    unfold TableP.up at hpo2
    have HCA : Hid True := Lib.hid trivial
    clear Hx8 Hd2 hd8 hW8
    cases hO : p.out with
    | false =>
      rw [hO] at s2 HSkip
      have HR := Lib.hid (HSkip.out rfl)
      have HR2 : Hid (∀ j, DlvRO w0 w B x node a g es src_ ms (.int .i64 (n0 : Nat)) (.int .i64 ((k : Int) + 1)) (w8.drewN j)) := Lib.hid fun j => HR.out _ (hb08.out.trans (below_drewNc (Below.refl _ _) j |>.mono hb08.out.size))
      clear HSkip HEnd HBy HR Hr8 HL8 Hq8 HQ6 HN6 Hr6 Hq6 HL6 Hhd hx8 HCA
      go_wp2_with fail
      go_quiet (fail)
      go_wp2_with fail
      go_roundw
      case rel => exact HR2.out _
      case measure => have := Hlt.out; simp [intOf]; omega
    | true =>
    rw [hO] at s2 HSkip HEnd
    by_cases hns : No = src_
    case neg =>
      have t1 : (No == src_) = false := by simp [hns]
      have t1' : (No != src_) = true := by simp [hns]
      have HR := Lib.hid (HSkip.out (by rw [decide_eq_false hns]; rfl))
      have HR2 : Hid (∀ j, DlvRO w0 w B x node a g es src_ ms (.int .i64 (n0 : Nat)) (.int .i64 ((k : Int) + 1)) (w8.drewN j)) := Lib.hid fun j => HR.out _ (hb08.out.trans (below_drewNc (Below.refl _ _) j |>.mono hb08.out.size))
      clear HSkip HEnd HBy HR Hr8 HL8 Hq8 HQ6 HN6 Hr6 Hq6 HL6 Hhd hx8 HCA
      go_wp2_with fail
      go_quiet (fail)
      go_wp2_with fail
      go_roundw
      case rel => exact HR2.out _
      case measure => have := Hlt.out; simp [intOf]; omega
    have t1 : (No == src_) = true := by simp [hns]
    have t1' : (No != src_) = false := by simp [hns]
    by_cases hsz : (m : Int) ≤ p.size
    case neg =>
      have t2 : decide (p.size < (m : Int)) = true := decide_eq_true (by omega)
      have HR := Lib.hid (HSkip.out (by rw [decide_eq_false hsz]; simp))
      have HR2 : Hid (∀ j, DlvRO w0 w B x node a g es src_ ms (.int .i64 (n0 : Nat)) (.int .i64 ((k : Int) + 1)) (w8.drewN j)) := Lib.hid fun j => HR.out _ (hb08.out.trans (below_drewNc (Below.refl _ _) j |>.mono hb08.out.size))
      clear HSkip HEnd HBy HR Hr8 HL8 Hq8 HQ6 HN6 Hr6 Hq6 HL6 Hhd hx8 HCA
      go_wp2_with fail
      go_quiet (fail)
      go_wp2_with fail
      go_roundw
      case rel => exact HR2.out _
      case measure => have := Hlt.out; simp [intOf]; omega
    have t2 : decide (p.size < (m : Int)) = false := decide_eq_false (by omega)
    have hd16 : data.length ≤ 16 := by rw [ok1]; omega
    have hm47 : m ≤ 140737488355328 := by omega
    have HEnd2 := Lib.hid (HEnd.out (by rw [decide_eq_true hns, decide_eq_true hsz]; rfl))
    have HI0 : Hid (∀ q, DlvRI w0 w B x node a g es i data n0 st0 wr.heap.size #[.int .i64 (i : Nat), .slice D m cc] (.int .i64 (n0 : Nat)) (.int .i64 0) (w8.drewN q)) := Lib.hid fun q => ⟨0, Nat.zero_le _, rfl, by simp [routesT], (by simpa [routesT] using HL8.below (below_drewN (Below.refl _ _) q)), Hq8⟩
    obtain ⟨mc, hmc⟩ : ∃ mc : Array Value, mc = #[.int .i64 (i : Nat), .slice D m cc] := ⟨_, rfl⟩
    rw [← hmc] at HI0
    have Hmc := Lib.hid hmc
    clear hmc
    have Hd16 := Lib.hid hd16
    have Hok1 := Lib.hid ok1
    have hn0 : n0 ≤ 2400 := by omega
    clear ok1 HSkip HEnd Hr8 HL8 Hq8 HQ6 HN6 Hr6 Hq6 HL6 Hhd hx8 HCA hpo2 hd16 hsz hns
    go_wp2_with fail
    go_quiet (fail)
    go_wp2_with fail
    have HI := Lib.hid (HI0.out nq)
    generalize wr.heap.size = qb at *
    clear HI0 s0 s2 s3 m1 k8 kN t1 t1' t2
    go_loopw [7, 11] (DlvRI w0 w B x node a g es i data n0 st0 qb mc) (fun _ j _ => (x.rn + 1 - intOf j).toNat)
    case atStart => exact HI.out
    case round =>
      clear HI
      obtain ⟨j, hj, rfl, rfl, hLj, hqj⟩ := hrel
      obtain ⟨es', hr, hg, hst'⟩ := hLj
      have k10 := cell_at hr.hd 10 rfl
      by_cases hlj : j < x.rn
      case neg =>
        obtain rfl : j = x.rn := by omega
        have q5 : decide ((x.rn : Int) < (x.rn : Int)) = false := decide_eq_false (by omega)
        rw [List.take_of_length_le (by rw [Hrn.out]; exact Nat.le_refl _)] at hst' ⊢
        have HR := Lib.hid (HEnd2.out wr ⟨es', hr, hg, hst'⟩)
        clear hr hg hst' hqj HEnd2 HBy
        go_wp2_with fail
        go_roundw
        case rel => exact HR.out
        case measure => have := Hlt.out; simp [intOf]; omega
      have q5 : decide ((j : Int) < (x.rn : Int)) = true := decide_eq_true (by omega)
      have q5' : decide (j < x.rn) = true := decide_eq_true hlj
      have hjz : (j : Int) < (x.rn : Int) := by omega
      have hrn24 : x.rn ≤ 24 := by rw [← Hrn.out]; exact hr24
      have e2 : IntKind.i64.wrap ((j : Int) + 1) = (j : Int) + 1 := IntWalk.i64_in _ (by omega)
      obtain ⟨r, hrr⟩ : ∃ r, x.plain.routes[j]? = some r := ⟨_, List.getElem?_eq_getElem (by rw [Hrn.out]; exact hlj)⟩
      obtain ⟨bR, oR, hRA, -, hR1⟩ := routes_at hr.cfgW.routes (show x.routes[j]? = some r from hrr)
      have hro := Hal.out.route r (List.mem_of_getElem? hrr)
      unfold TableP.routeOk TableP.up at hro
      obtain ⟨si, hsi⟩ := Int.eq_ofNat_of_zero_le hro.1.1
      obtain ⟨t, hti⟩ := Int.eq_ofNat_of_zero_le hro.2.1
      have htl : t < x.qn := by rw [← Hqn.out]; omega
      have htz : (t : Int) < (x.qn : Int) := by omega
      obtain ⟨p2, hp2⟩ : ∃ p, x.plain.ports[t]? = some p := ⟨_, List.getElem?_eq_getElem (by rw [Hqn.out]; exact htl)⟩
      obtain ⟨e, he⟩ := hr.el hp2
      have hrt := routes_take (c := x.plain) (node := node) (port := i) (d := data) (st := st0) hrr
      have hse : (routesT x.plain node i data (x.plain.routes.take j) st0).2[t]? = some e.ps := by rw [← hst']; exact elSt_at he
      have hov0 : PorP.overT x.plain node i data (routesT x.plain node i data (x.plain.routes.take j) st0).2 r = if si = i then (if mineB x.plain node p2 = true ∧ room p2 e.ps = true then (1, (routesT x.plain node i data (x.plain.routes.take j) st0).2.set t (putT p2 e.ps data)) else (0, (routesT x.plain node i data (x.plain.routes.take j) st0).2)) else (0, (routesT x.plain node i data (x.plain.routes.take j) st0).2) := by
        unfold PorP.overT
        rw [hsi, hti, Int.toNat_natCast, hp2, hse]
        by_cases h1 : si = i
        · rw [if_pos (by omega), if_pos h1]
        · rw [if_neg (by omega), if_neg h1]
      have hle3 := routes_le x.plain node i data (x.plain.routes.take j) st0
      rw [List.length_take] at hle3
      have r0 := hR1.c0
      have r1 := hR1.c1
      rw [hsi] at r0
      rw [hti] at r1
      rw [hRA] at k10
      have m0 : wr.cell? ⟨qb, 0, none⟩ = some (.int .i64 (i : Nat)) := cell_at hqj 0 (by rw [Hmc.out]; rfl)
      have k12 := cell_at hr.hd 12 rfl
      obtain ⟨b2, o2, hQ2, hP2⟩ := hr.portAt hp2
      have k9 := cell_at hr.hd 9 rfl
      rw [hQ2] at k9
      have pk := hP2.c1
      have pd := hP2.c4
      obtain ⟨fv, hfv⟩ : ∃ fv, n0 + (routesT x.plain node i data (x.plain.routes.take j) st0).1 = fv := ⟨_, rfl⟩
      have hf24 : fv ≤ 2424 := by omega
      rw [hfv]
      have e3 : IntKind.i64.wrap ((fv : Int) + 1) = (fv : Int) + 1 := IntWalk.i64_in _ (by omega)
      have HSk : Hid (PorP.overT x.plain node i data (routesT x.plain node i data (x.plain.routes.take j) st0).2 r = (0, (routesT x.plain node i data (x.plain.routes.take j) st0).2) → ∀ q, DlvRI w0 w B x node a g es i data n0 st0 qb mc (.int .i64 (fv : Nat)) (.int .i64 ((j : Int) + 1)) (wr.drewN q)) := Lib.hid fun h1 q => ⟨j + 1, hlj, by go_num, by rw [hrt, h1]; simp only [Nat.add_zero]; rw [hfv], by rw [hrt, h1]; exact LeftR.below ⟨es', hr, hg, hst'⟩ (below_drewN (Below.refl _ _) q), hqj⟩
      have HMi : Hid (∀ q, Calls Try.prog 48 #[.pointer (some ⟨a, 0, none⟩), .int .i64 (t : Nat)] (wr.drewN q) (Quiet (.bool (mineB x.plain node p2)) (wr.drewN q))) := Lib.hid fun q => rmine_any w0 _ B x node a g es' (hr.below (below_drewN (Below.refl _ _) q)) Hal.out t p2 hp2
      by_cases hss : si = i
      case neg =>
        rw [if_neg hss] at hov0
        have t1 : ((si : Int) == (i : Int)) = false := by rw [beq_eq_false_iff_ne]; omega
        have t1' : ((si : Int) != (i : Int)) = true := by rw [bne_iff_ne]; omega
        have HR := Lib.hid (HSk.out hov0)
        clear HSk HEnd2 HBy hr hg hst' hqj hrt hov0 hse he hp2 hrr hR1 hP2 hro
        go_wp2_with fail
        go_quiet ((go_at_call 48; exact quiet_quiet (HMi.out _)))
        go_wp2_with fail
        go_roundw
        case rel => exact HR.out _
        case measure => simp [intOf]; omega
      rw [if_pos hss] at hov0
      have t1 : ((si : Int) == (i : Int)) = true := by rw [hss]; simp
      have t1' : ((si : Int) != (i : Int)) = false := by rw [hss]; simp
      cases hmi : mineB x.plain node p2 with
      | false =>
        rw [hmi] at HMi hov0
        have HR := Lib.hid (HSk.out (by rw [hov0, if_neg (fun h => by cases h.1)]))
        clear HSk HEnd2 HBy hr hg hst' hqj hrt hov0 hse he hp2 hrr hR1 hP2 hro
        go_wp2_with fail
        go_quiet ((go_at_call 48; exact quiet_quiet (HMi.out _)))
        go_wp2_with fail
        go_roundw
        case rel => exact HR.out _
        case measure => simp [intOf]; omega
      | true =>
      rw [hmi] at HMi hov0
      obtain ⟨hc, hhc⟩ : ∃ hc : Array Value, hc = #[.int .i64 x.nodes, .int .i64 x.faulty, .int .i64 x.slot, .int .i64 x.gap, .int .i64 x.rho, .int .i64 x.dmin, .int .i64 x.dmax, .int .i64 x.margin, .slice x.PA x.pn x.pcap, .slice x.QA x.qn x.qcap, .slice x.RA x.rn x.rcap, .int .i64 node, .slice (some ⟨g, 0, none⟩) x.qn x.qn] := ⟨_, rfl⟩
      have hpo3 := (Hal.out.port p2 (List.mem_of_getElem? hp2)).2.2
      have hd16 := Hd16.out
      have hk1d : p2.kind = 1 ∨ p2.kind ≠ 1 := by omega
      rcases hk1d with hk1 | hk1
      · -- sampling: the others go
        rw [if_pos ⟨rfl, by unfold room; rw [hk1]; rfl⟩] at hov0
        have hov := hov0
        have t3 : (((p2.kind : Nat) : Int) == 1) = true := by rw [hk1]; rfl
        obtain ⟨Ae, ce, hve, -⟩ := (hr.els.each e (List.mem_of_getElem? he)).seg.slice
        have kV : wr.cell? ⟨g, t * 2, none⟩ = some (.slice Ae e.msgs.length ce) := by rw [← hve]; exact hr.els.cellV he
        have kA : wr.cell? ⟨g, t * 2 + 1, none⟩ = some (.int .i64 (e.age : Nat)) := hr.els.cellA he
        have fV : wr.frozen? ⟨g, t * 2, none⟩ = false := hr.els.free _
        have fA : wr.frozen? ⟨g, t * 2 + 1, none⟩ = false := hr.els.free _
        have Hr := Lib.hid hr
        have Hg := Lib.hid hg
        have Hst := Lib.hid hst'
        have Hqj := Lib.hid hqj
        have Hrt := Lib.hid hrt
        have Hov := Lib.hid hov
        have He := Lib.hid he
        have Hfv := Lib.hid hfv
        have Hhc := Lib.hid hhc
        generalize hel : e.msgs.length = eln at kV
        clear HSk HEnd2 hr hg hst' hqj hrt hov0 hov hse he hp2 hrr hR1 hP2 hro hfv hhc hve hel hpo3
        go_wp2_with fail
        go_quiet ((go_at_call 48; exact quiet_quiet (HMi.out _)))
        go_wp2_with fail
        clear kV kA fV fA k12 k9 k10 m0 r0 r1 pk pd HMi
        obtain ⟨W2, hW2⟩ : ∃ W2, W2 = ((wr.drewN nq).setCell ⟨g, t * 2, none⟩ (.slice none 0 0)).setCell ⟨g, t * 2 + 1, none⟩ (.int .i64 0) := ⟨_, rfl⟩
        rw [← hW2]
        have hbn : Below wr.heap.size wr (wr.drewN nq) := below_drewN (Below.refl _ _) _
        have hr1 := Hr.out.below hbn
        have hs1 := hr1.els.setNil (by decide) (by decide) He.out
        have h1 := hr1.set He.out hs1
        have he1 : (es'.set t ⟨e.pre, .slice none 0 0, [], e.age⟩)[t]? = some ⟨e.pre, .slice none 0 0, [], e.age⟩ := List.getElem?_set_self (List.getElem?_eq_some_iff.1 He.out).1
        have hs2 := h1.els.setAge (by decide) (by decide) he1 0 (by omega)
        have h2 := h1.set he1 hs2
        have hgW0 := ((Hg.out.trans (Goes.of_below hbn _ _)).trans hs1.2).trans hs2.2
        obtain ⟨ES, hES0⟩ : ∃ ES, ES = (es'.set t ⟨e.pre, .slice none 0 0, [], e.age⟩).set t ⟨e.pre, .slice none 0 0, [], 0⟩ := ⟨_, rfl⟩
        obtain ⟨E, hE0⟩ : ∃ E : El, E = ⟨e.pre, .slice none 0 0, [], 0⟩ := ⟨_, rfl⟩
        have hrW : RIn w0 W2 B x node a g ES := by rw [hW2, hES0]; exact h2
        have hgW : Goes g w W2 es ES := by rw [hW2, hES0]; exact hgW0
        have hE : ES[t]? = some E := by rw [hES0, hE0]; exact List.getElem?_set_self (by have := (List.getElem?_eq_some_iff.1 He.out).1; simpa using this)
        have hE3 : E.msgs.length ≤ 3 := by rw [hE0]; simp
        have hqW : W2.drew.heap[qb]? = some (.cells mc 68 (0, 0)) := by
          have hne : qb ≠ g := fun e1 => by
            have h5 := Hqj.out
            rw [e1, Hr.out.els.row] at h5
            simp only [Option.some.injEq, Obj.cells.injEq] at h5
            exact absurd h5.2.1 (by decide)
          rw [hW2]
          exact (heap_set_other _ _ hne).trans ((heap_set_other _ _ hne).trans Hqj.out)
        have hES : (elSt ES).set t ⟨E.ps.msgs ++ [data], E.age⟩ = (routesT x.plain node i data (x.plain.routes.take j) st0).2.set t (putT p2 e.ps data) := by
          rw [hES0, hE0, elSt_set, elSt_set, List.set_set, List.set_set, Hst.out, show putT p2 e.ps data = ⟨[data], 0⟩ by unfold putT; rw [if_pos hk1]]
          rfl
        have hhc := Hhc.out
        have hrt := Hrt.out
        have hov := Hov.out
        have hfv := Hfv.out
        clear hr1 hs1 h1 he1 hs2 h2 hgW0 hbn
        -- the list grows
        have hdW : RDS a g hc ES qb mc W2.drew := ⟨⟨by rw [hhc]; exact hrW.drew.hd, hrW.drew.els.row⟩, hqW⟩
        obtain ⟨Av, cv, hev, -⟩ := (hrW.els.each E (List.mem_of_getElem? hE)).seg.slice
        have rV : ∀ W, RDS a g hc ES qb mc W → W.cell? ⟨g, t * 2, none⟩ = some (.slice Av E.msgs.length cv) := fun W hW => by rw [← hev]; exact rs_cell hW.1 hrW.els.pres hE
        have rM : ∀ W, RDS a g hc ES qb mc W → W.cell? ⟨qb, 1, none⟩ = some (.slice D m cc) := fun W hW => cell_at hW.2 1 (by rw [Hmc.out]; rfl)
        have HAdd : Hid (∀ w7 Ae ce o w9 v, w7.ownsRow W2.drew.heap.size 5 1 (.slice Ae data.length ce) data.length (bytesV data) → Below W2.drew.heap.size W2.drew w7 → Seg w9 B 44 1 v (E.msgs.length + 1) (itemsV txtVals E.msgs ++ [.slice Ae data.length ce]) → Apart (fun k => (Value.slice Av E.msgs.length cv).ownBlock = some k) (w7.alloc o) w9 → Moved (w7.alloc o) (Value.slice Av E.msgs.length cv).ownBlock v.ownBlock → DlvRI w0 w B x node a g es i data n0 st0 qb mc (.int .i64 ((fv : Int) + 1)) (.int .i64 ((j : Int) + 1)) (w9.setCell ⟨g, t * 2, none⟩ v) ∧ RDS a g hc ES qb mc w9) := Lib.hid fun w7 Ae ce o w9 v h1 h2 h3 h4 h5 => by
          rw [← hev] at h4 h5
          have h6 := radd_more hrW.drew hE h2 h1 (Nat.le_refl _) o h3 h4 h5 hE3 hd16 hdW.1
          have hba : Below w7.heap.size w7 (w7.alloc o) := (Below.refl _ _).alloc (Nat.le_refl _) _
          have hq7 : (w7.alloc o).heap[qb]? = some (.cells mc 68 (0, 0)) := (hba.block qb (lt_of_block ((h2.block qb (lt_of_block hdW.2)).trans hdW.2))).trans ((h2.block qb (lt_of_block hdW.2)).trans hdW.2)
          have hq9 : w9.heap[qb]? = some (.cells mc 68 (0, 0)) := (h4.block qb (lt_of_block hq7) (fun hf => by
            have hsg := (hrW.drew.below (h2.trans (hba.mono h2.size))).els.each E (List.mem_of_getElem? hE)
            exact hsg.seg.off hq7 (by decide) qb hf rfl)).trans hq7
          refine ⟨⟨j + 1, hlj, by go_num, by rw [hrt, hov]; dsimp only; rw [← Nat.add_assoc, hfv]; go_num, ?_, (heap_set_other (t * 2) v (fun e1 => by
            subst e1
            have := h6.2.2
            rw [hq9] at this
            simp only [Option.some.injEq, Obj.cells.injEq] at this
            exact absurd this.2.1 (by decide))).trans hq9⟩, h6.2, hq9⟩
          rw [hrt, hov]
          refine LeftR.goes (hgW.trans (Goes.of_below (Below.refl _ _).drew _ _)) ?_
          have h7 := h6.1
          rw [hES] at h7
          exact h7
        have HB5 := Lib.hid (HBy.out W2.drew hrW.drew.tab)
        have HSeg : Hid (∀ w7 o, Below W2.drew.heap.size W2.drew w7 → Seg (w7.alloc o) B 44 1 (.slice Av E.msgs.length cv) E.msgs.length (itemsV txtVals E.msgs) ∧ B ≤ w7.heap.size) := Lib.hid fun w7 o h7 => by
          have hs := (hrW.els.each E (List.mem_of_getElem? hE)).seg
          rw [hev] at hs
          have h8 : Below W2.heap.size W2 (w7.alloc o) := ((Below.refl _ W2).drew.trans h7).trans ((Below.refl _ w7).alloc (Nat.le_refl _) o |>.mono h7.size)
          exact ⟨hs.keep h8, Nat.le_trans hrW.leB h7.size⟩
        generalize E.msgs.length = el at *
        generalize itemsV txtVals E.msgs = els at *
        clear hrW hqW hgW hES hov hrt hfv hev hhc hE hd16 hES0 hE0 hW2
        refine wp_region_L_drew (st := 13) (S := fun W => RDS a g hc ES qb mc W) (by kernel_rfl) hdW (fun _ => ?_)
        generalize W2.drew = w6 at *
        refine tkL 0 (by simp only [tkA]; rfl) (by kernel_rfl) (by exact fun _ _ _ h => h) (by rfl) (by intro W hW; go_simp <;> with_reducible rfl) hdW ?_
        try simp only [Act.put, tkT, tk0, tkS]
        refine tkL 1 (by simp only [tkA, tkG]; rfl) (by kernel_rfl) (by exact fun _ _ _ h => h) (by rfl) (by intro W hW; go_simp <;> with_reducible rfl) hdW ?_
        try simp only [Act.put, tkT, tk0, tkS]
        refine tkL 2 (by simp only [tkA, tkG]; rfl) (by kernel_rfl) (by exact fun _ _ _ h => h) (by rfl) (by intro W hW; go_simp <;> with_reducible rfl) hdW ?_
        try simp only [Act.put, tkT, tk0, tkS]
        refine tkL 3 (by simp only [tkA, tkG]; rfl) (by kernel_rfl) (by exact fun _ _ _ h => h) (by rfl) (by intro W hW; go_simp <;> with_reducible rfl) hdW ?_
        try simp only [Act.put, tkT, tk0, tkS]
        refine tkL 4 (by simp only [tkA, tkG]; rfl) (by kernel_rfl) (by exact fun _ _ _ h => h) (by rfl) (by intro W hW; go_simp <;> with_reducible rfl) hdW ?_
        try simp only [Act.put, tkT, tk0, tkS]
        refine tkL 6 (by simp only [tkA, tkG]; rfl) (by kernel_rfl) (by exact fun _ _ _ h => h) (by rfl) (by intro W hW; go_simp <;> with_reducible rfl) hdW ?_
        try simp only [Act.put, tkT, tk0, tkS]
        refine tkL 7 (by simp only [tkA, tkG]; rfl) (by kernel_rfl) (by exact fun _ _ _ h => h) (by rfl) (by intro W hW; go_simp <;> with_reducible rfl) hdW ?_
        try simp only [Act.put, tkT, tk0, tkS]
        refine wpAnyL_one (k := 5) (by kernel_rfl) (by simp only [tkA, tkG]; rfl) (fun K hK => ?_)
        go_simp
        go_wp2_with fail
        refine hK.out _ _ (fun _ => (hdW.alloc _)) ?_
        clear hK K
        refine wpAnyL_one (k := 8) (by kernel_rfl) (by simp only [tkA, tkG]; rfl) (fun K hK => ?_)
        refine step_copy rfl (.tmp 150) (.tmp 152) rfl rfl D m cc data rfl Hok1.out HB5.out hm47 ?_
        intro Ae ce w7 he7 hb7
        have hd7 := hdW.below hb7
        have HR := Lib.hid (fun o w9 v => HAdd.out w7 Ae ce o w9 v he7 hb7)
        have HSg := Lib.hid (fun o => (HSeg.out w7 o hb7).1)
        have hB7 := (HSeg.out w7 (.cells #[] 5) hb7).2
        clear he7 hb7 HAdd HB5 HSeg
        go_wp2_with fail
        refine hK.out _ _ (fun _ => hd7) ?_
        clear hK K
        refine wpAnyL_one (k := 9) (by kernel_rfl) (by simp only [tkA, tkG]; rfl) (fun K hK => ?_)
        go_simp
        go_wp2_with fail
        refine hK.out _ _ (fun _ => (hd7.alloc _)) ?_
        clear hK K
        refine wpAnyL_one (k := 10) (by kernel_rfl) (by simp only [tkA, tkG]; rfl) (fun K hK => ?_)
        refine step_append_seg rfl (.tmp 149) (.tmp 154) _ rfl B 44 _ 1 24 Try.underlying59 infoBs9 rfl (by omega) _ el els rfl (HSg.out _) (some ⟨w7.heap.size, 0, none⟩) 1 1 [.slice Ae data.length ce] rfl rfl (fun _ => ⟨_, rfl, fun j u hj => ?ca1⟩) (fun u hu => ?ca2) (by unfold maxLen; omega) (by omega) (by simp; omega) ?_
        case ca1 =>
          have hj0 : j = 0 := by have := (List.getElem?_eq_some_iff.1 hj).1; simp at this; omega
          subst hj0
          simp only [List.getElem?_cons_zero, Option.some.injEq] at hj
          subst hj
          exact cell_at (heap_alloc_new w7 _) 0 rfl
        case ca2 =>
          simp only [List.mem_singleton] at hu
          subst hu
          rfl
        intro v9 w9 hs9 ha9 hm9
        obtain ⟨hR, hd9⟩ := HR.out _ w9 v9 hs9 ha9 hm9
        obtain ⟨A9, c9, rfl, -⟩ := hs9.slice
        have HR2 := Lib.hid hR
        have f9 := free_at hd9.1.2 (t * 2)
        have k99 := rV w9 hd9
        clear hs9 ha9 hm9 HR HSg hR hd7 hdW
        go_wp2_with fail
        refine hK.out _ _ (fun _ => hd9) ?_
        clear hK K
        refine tkL 11 (by simp only [tkA, tkG]; rfl) (by kernel_rfl) (by exact fun _ _ _ h => h) (by rfl) (by intro W hW; go_simp <;> with_reducible rfl) hd9 ?_
        try simp only [Act.put, tkT, tk0, tkS]
        refine tkL 12 (by simp only [tkA, tkG]; rfl) (by kernel_rfl) (by exact fun _ _ _ h => h) (by rfl) (by intro W hW; go_simp <;> with_reducible rfl) hd9 ?_
        try simp only [Act.put, tkT, tk0, tkS]
        refine wpAnyL_last (k := 13) (by kernel_rfl) (by simp only [tkA, tkG]; rfl) (fun K hK => ?_)
        go_simp
        go_wp2_with fail
        refine hK.out _ _ ?_
        clear hK K
        refine wpAnyL_done (by kernel_rfl) ?_ _
        clear hd9 f9 k99 rV rM
        go_wp2_with fail
        go_roundw
        case rel => exact HR2.out
        case measure => simp [intOf]; omega
      · -- queuing
        have hk2 : p2.kind = 2 ∧ TableP.up p2.depth 1 4 := by
          rcases hpo3 with ⟨h1, -⟩ | ⟨h1, h2, -⟩
          · exact absurd h1 hk1
          · exact ⟨h1, h2⟩
        obtain ⟨hk2, hdep⟩ := hk2
        unfold TableP.up at hdep
        have t3 : (((p2.kind : Nat) : Int) == 1) = false := by rw [beq_eq_false_iff_ne]; omega
        obtain ⟨Ae, ce, hve, -⟩ := (hr.els.each e (List.mem_of_getElem? he)).seg.slice
        have kV : wr.cell? ⟨g, t * 2, none⟩ = some (.slice Ae e.msgs.length ce) := by rw [← hve]; exact hr.els.cellV he
        by_cases hdp : (e.msgs.length : Int) < p2.depth
        case neg =>
          have t4 : decide (p2.depth ≤ (e.msgs.length : Int)) = true := decide_eq_true (by omega)
          have HR := Lib.hid (HSk.out (by
            rw [hov0, if_neg]
            intro h
            have h2 := h.2
            unfold room at h2
            rw [hk2, decide_eq_false (by simpa [El.ps] using hdp)] at h2
            cases h2))
          generalize e.msgs.length = eln at *
          clear HSk HEnd2 HBy hr hg hst' hqj hrt hov0 hse he hp2 hrr hR1 hP2 hro hfv hhc hve hpo3 hdp hk2
          go_wp2_with fail
          go_quiet ((go_at_call 48; exact quiet_quiet (HMi.out _)))
          go_wp2_with fail
          go_quiet (fail)
          go_wp2_with fail
          go_roundw
          case rel => exact HR.out _
          case measure => simp [intOf]; omega
        have t4 : decide (p2.depth ≤ (e.msgs.length : Int)) = false := decide_eq_false (by omega)
        rw [if_pos ⟨rfl, by unfold room; rw [decide_eq_true (by simpa [El.ps] using hdp)]; simp⟩] at hov0
        have hov := hov0
        have Hr := Lib.hid hr
        have Hg := Lib.hid hg
        have Hst := Lib.hid hst'
        have Hqj := Lib.hid hqj
        have Hrt := Lib.hid hrt
        have Hov := Lib.hid hov
        have He := Lib.hid he
        have Hfv := Lib.hid hfv
        have Hhc := Lib.hid hhc
        have HE3 : Hid (e.msgs.length ≤ 3) := Lib.hid (by omega)
        generalize hel : e.msgs.length = eln at kV t4
        clear HSk HEnd2 hr hg hst' hqj hrt hov0 hov hse he hp2 hrr hR1 hP2 hro hfv hhc hve hel hpo3 hdp hk2
        go_wp2_with fail
        go_quiet ((go_at_call 48; exact quiet_quiet (HMi.out _)))
        go_wp2_with fail
        go_quiet (fail)
        go_wp2_with fail
        clear kV k12 k9 k10 m0 r0 r1 pk pd HMi
        generalize hW2 : World.drewN (World.drewN wr _) _ = W2
        have hbn : Below wr.heap.size wr W2 := by rw [← hW2]; exact below_drewNc (below_drewNc (Below.refl _ _) _) _
        obtain ⟨ES, hES0⟩ : ∃ ES, ES = es' := ⟨_, rfl⟩
        obtain ⟨E, hE0⟩ : ∃ E : El, E = e := ⟨_, rfl⟩
        have hrW : RIn w0 W2 B x node a g ES := by rw [hES0]; exact Hr.out.below hbn
        have hgW : Goes g w W2 es ES := by rw [hES0]; exact Hg.out.trans (Goes.of_below hbn _ _)
        have hE : ES[t]? = some E := by rw [hES0, hE0]; exact He.out
        have hE3 : E.msgs.length ≤ 3 := by rw [hE0]; exact HE3.out
        have hqW : W2.drew.heap[qb]? = some (.cells mc 68 (0, 0)) := by rw [← hW2]; exact Hqj.out
        have hES : (elSt ES).set t ⟨E.ps.msgs ++ [data], E.age⟩ = (routesT x.plain node i data (x.plain.routes.take j) st0).2.set t (putT p2 e.ps data) := by
          rw [hES0, hE0, Hst.out, show putT p2 e.ps data = ⟨e.ps.msgs ++ [data], e.age⟩ by unfold putT; rw [if_neg hk1]; rfl]
        have hhc := Hhc.out
        have hrt := Hrt.out
        have hov := Hov.out
        have hfv := Hfv.out
        -- the list grows
        have hdW : RDS a g hc ES qb mc W2.drew := ⟨⟨by rw [hhc]; exact hrW.drew.hd, hrW.drew.els.row⟩, hqW⟩
        obtain ⟨Av, cv, hev, -⟩ := (hrW.els.each E (List.mem_of_getElem? hE)).seg.slice
        have rV : ∀ W, RDS a g hc ES qb mc W → W.cell? ⟨g, t * 2, none⟩ = some (.slice Av E.msgs.length cv) := fun W hW => by rw [← hev]; exact rs_cell hW.1 hrW.els.pres hE
        have rM : ∀ W, RDS a g hc ES qb mc W → W.cell? ⟨qb, 1, none⟩ = some (.slice D m cc) := fun W hW => cell_at hW.2 1 (by rw [Hmc.out]; rfl)
        have HAdd : Hid (∀ w7 Ae ce o w9 v, w7.ownsRow W2.drew.heap.size 5 1 (.slice Ae data.length ce) data.length (bytesV data) → Below W2.drew.heap.size W2.drew w7 → Seg w9 B 44 1 v (E.msgs.length + 1) (itemsV txtVals E.msgs ++ [.slice Ae data.length ce]) → Apart (fun k => (Value.slice Av E.msgs.length cv).ownBlock = some k) (w7.alloc o) w9 → Moved (w7.alloc o) (Value.slice Av E.msgs.length cv).ownBlock v.ownBlock → DlvRI w0 w B x node a g es i data n0 st0 qb mc (.int .i64 ((fv : Int) + 1)) (.int .i64 ((j : Int) + 1)) (w9.setCell ⟨g, t * 2, none⟩ v) ∧ RDS a g hc ES qb mc w9) := Lib.hid fun w7 Ae ce o w9 v h1 h2 h3 h4 h5 => by
          rw [← hev] at h4 h5
          have h6 := radd_more hrW.drew hE h2 h1 (Nat.le_refl _) o h3 h4 h5 hE3 hd16 hdW.1
          have hba : Below w7.heap.size w7 (w7.alloc o) := (Below.refl _ _).alloc (Nat.le_refl _) _
          have hq7 : (w7.alloc o).heap[qb]? = some (.cells mc 68 (0, 0)) := (hba.block qb (lt_of_block ((h2.block qb (lt_of_block hdW.2)).trans hdW.2))).trans ((h2.block qb (lt_of_block hdW.2)).trans hdW.2)
          have hq9 : w9.heap[qb]? = some (.cells mc 68 (0, 0)) := (h4.block qb (lt_of_block hq7) (fun hf => by
            have hsg := (hrW.drew.below (h2.trans (hba.mono h2.size))).els.each E (List.mem_of_getElem? hE)
            exact hsg.seg.off hq7 (by decide) qb hf rfl)).trans hq7
          refine ⟨⟨j + 1, hlj, by go_num, by rw [hrt, hov]; dsimp only; rw [← Nat.add_assoc, hfv]; go_num, ?_, (heap_set_other (t * 2) v (fun e1 => by
            subst e1
            have := h6.2.2
            rw [hq9] at this
            simp only [Option.some.injEq, Obj.cells.injEq] at this
            exact absurd this.2.1 (by decide))).trans hq9⟩, h6.2, hq9⟩
          rw [hrt, hov]
          refine LeftR.goes (hgW.trans (Goes.of_below (Below.refl _ _).drew _ _)) ?_
          have h7 := h6.1
          rw [hES] at h7
          exact h7
        have HB5 := Lib.hid (HBy.out W2.drew hrW.drew.tab)
        have HSeg : Hid (∀ w7 o, Below W2.drew.heap.size W2.drew w7 → Seg (w7.alloc o) B 44 1 (.slice Av E.msgs.length cv) E.msgs.length (itemsV txtVals E.msgs) ∧ B ≤ w7.heap.size) := Lib.hid fun w7 o h7 => by
          have hs := (hrW.els.each E (List.mem_of_getElem? hE)).seg
          rw [hev] at hs
          have h8 : Below W2.heap.size W2 (w7.alloc o) := ((Below.refl _ W2).drew.trans h7).trans ((Below.refl _ w7).alloc (Nat.le_refl _) o |>.mono h7.size)
          exact ⟨hs.keep h8, Nat.le_trans hrW.leB h7.size⟩
        generalize E.msgs.length = el at *
        generalize itemsV txtVals E.msgs = els at *
        clear hrW hqW hgW hES hov hrt hfv hev hhc hE hd16 hES0 hE0 hW2
        refine wp_region_L_drew (st := 13) (S := fun W => RDS a g hc ES qb mc W) (by kernel_rfl) hdW (fun _ => ?_)
        generalize W2.drew = w6 at *
        refine tkL 0 (by simp only [tkA]; rfl) (by kernel_rfl) (by exact fun _ _ _ h => h) (by rfl) (by intro W hW; go_simp <;> with_reducible rfl) hdW ?_
        try simp only [Act.put, tkT, tk0, tkS]
        refine tkL 1 (by simp only [tkA, tkG]; rfl) (by kernel_rfl) (by exact fun _ _ _ h => h) (by rfl) (by intro W hW; go_simp <;> with_reducible rfl) hdW ?_
        try simp only [Act.put, tkT, tk0, tkS]
        refine tkL 2 (by simp only [tkA, tkG]; rfl) (by kernel_rfl) (by exact fun _ _ _ h => h) (by rfl) (by intro W hW; go_simp <;> with_reducible rfl) hdW ?_
        try simp only [Act.put, tkT, tk0, tkS]
        refine tkL 3 (by simp only [tkA, tkG]; rfl) (by kernel_rfl) (by exact fun _ _ _ h => h) (by rfl) (by intro W hW; go_simp <;> with_reducible rfl) hdW ?_
        try simp only [Act.put, tkT, tk0, tkS]
        refine tkL 4 (by simp only [tkA, tkG]; rfl) (by kernel_rfl) (by exact fun _ _ _ h => h) (by rfl) (by intro W hW; go_simp <;> with_reducible rfl) hdW ?_
        try simp only [Act.put, tkT, tk0, tkS]
        refine tkL 6 (by simp only [tkA, tkG]; rfl) (by kernel_rfl) (by exact fun _ _ _ h => h) (by rfl) (by intro W hW; go_simp <;> with_reducible rfl) hdW ?_
        try simp only [Act.put, tkT, tk0, tkS]
        refine tkL 7 (by simp only [tkA, tkG]; rfl) (by kernel_rfl) (by exact fun _ _ _ h => h) (by rfl) (by intro W hW; go_simp <;> with_reducible rfl) hdW ?_
        try simp only [Act.put, tkT, tk0, tkS]
        refine wpAnyL_one (k := 5) (by kernel_rfl) (by simp only [tkA, tkG]; rfl) (fun K hK => ?_)
        go_simp
        go_wp2_with fail
        refine hK.out _ _ (fun _ => (hdW.alloc _)) ?_
        clear hK K
        refine wpAnyL_one (k := 8) (by kernel_rfl) (by simp only [tkA, tkG]; rfl) (fun K hK => ?_)
        refine step_copy rfl (.tmp 150) (.tmp 152) rfl rfl D m cc data rfl Hok1.out HB5.out hm47 ?_
        intro Ae ce w7 he7 hb7
        have hd7 := hdW.below hb7
        have HR := Lib.hid (fun o w9 v => HAdd.out w7 Ae ce o w9 v he7 hb7)
        have HSg := Lib.hid (fun o => (HSeg.out w7 o hb7).1)
        have hB7 := (HSeg.out w7 (.cells #[] 5) hb7).2
        clear he7 hb7 HAdd HB5 HSeg
        go_wp2_with fail
        refine hK.out _ _ (fun _ => hd7) ?_
        clear hK K
        refine wpAnyL_one (k := 9) (by kernel_rfl) (by simp only [tkA, tkG]; rfl) (fun K hK => ?_)
        go_simp
        go_wp2_with fail
        refine hK.out _ _ (fun _ => (hd7.alloc _)) ?_
        clear hK K
        refine wpAnyL_one (k := 10) (by kernel_rfl) (by simp only [tkA, tkG]; rfl) (fun K hK => ?_)
        refine step_append_seg rfl (.tmp 149) (.tmp 154) _ rfl B 44 _ 1 24 Try.underlying59 infoBs9 rfl (by omega) _ el els rfl (HSg.out _) (some ⟨w7.heap.size, 0, none⟩) 1 1 [.slice Ae data.length ce] rfl rfl (fun _ => ⟨_, rfl, fun j u hj => ?cb1⟩) (fun u hu => ?cb2) (by unfold maxLen; omega) (by omega) (by simp; omega) ?_
        case cb1 =>
          have hj0 : j = 0 := by have := (List.getElem?_eq_some_iff.1 hj).1; simp at this; omega
          subst hj0
          simp only [List.getElem?_cons_zero, Option.some.injEq] at hj
          subst hj
          exact cell_at (heap_alloc_new w7 _) 0 rfl
        case cb2 =>
          simp only [List.mem_singleton] at hu
          subst hu
          rfl
        intro v9 w9 hs9 ha9 hm9
        obtain ⟨hR, hd9⟩ := HR.out _ w9 v9 hs9 ha9 hm9
        obtain ⟨A9, c9, rfl, -⟩ := hs9.slice
        have HR2 := Lib.hid hR
        have f9 := free_at hd9.1.2 (t * 2)
        have k99 := rV w9 hd9
        clear hs9 ha9 hm9 HR HSg hR hd7 hdW
        go_wp2_with fail
        refine hK.out _ _ (fun _ => hd9) ?_
        clear hK K
        refine tkL 11 (by simp only [tkA, tkG]; rfl) (by kernel_rfl) (by exact fun _ _ _ h => h) (by rfl) (by intro W hW; go_simp <;> with_reducible rfl) hd9 ?_
        try simp only [Act.put, tkT, tk0, tkS]
        refine tkL 12 (by simp only [tkA, tkG]; rfl) (by kernel_rfl) (by exact fun _ _ _ h => h) (by rfl) (by intro W hW; go_simp <;> with_reducible rfl) hd9 ?_
        try simp only [Act.put, tkT, tk0, tkS]
        refine wpAnyL_last (k := 13) (by kernel_rfl) (by simp only [tkA, tkG]; rfl) (fun K hK => ?_)
        go_simp
        go_wp2_with fail
        refine hK.out _ _ ?_
        clear hK K
        refine wpAnyL_done (by kernel_rfl) ?_ _
        clear hd9 f9 k99 rV rM
        go_wp2_with fail
        go_roundw
        case rel => exact HR2.out
        case measure => simp [intOf]; omega
end Go.Proofs.Ytdeodoppcflgfaa
