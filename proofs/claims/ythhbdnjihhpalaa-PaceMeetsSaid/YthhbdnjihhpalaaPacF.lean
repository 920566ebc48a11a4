/- The document's pace: Hear, Turn, Next. Conditions: where it lies, numbers in their ranges. -/
import Derived.Test.YthhbdnjihhpalaaPacE
import Derived.Test.YthhbdnjihhpalaaMidBa
namespace Go.Proofs.Ythhbdnjihhpalaa
open Go.RowKit
set_option maxRecDepth 100000

theorem rhear_low (x : CfgC) (me since rate : Int) (cold : Bool) (gd gh N : Nat) (hs : List Bool) (ds : List Int) (n : Int) (t : Int) (B b : Nat) (w : World) (h : RefIn w B b x me since rate cold gd gh N hs ds) (hn : n < 0 ∧ 1 ≤ x.nodes) :
    Calls Try.prog 18 #[qv b, .int .i64 n, .int .i64 t] w (Quiet (.bool false) w) := by
  have hc : RefS B b x me since rate cold gd gh N hs ds w := h
  clear h
  obtain ⟨nodes, faulty, slot, gap, rho, dmin, dmax, margin, PA, pn, pcap, parts, QA, qn, qcap, ports, RA, rn, rcap, routes⟩ := x
  have d0 := fun W (hW : RefS B b ⟨nodes, faulty, slot, gap, rho, dmin, dmax, margin, PA, pn, pcap, parts, QA, qn, qcap, ports, RA, rn, rcap, routes⟩ me since rate cold gd gh N hs ds W) => hW.cfg.c0
  have d1 := fun W (hW : RefS B b ⟨nodes, faulty, slot, gap, rho, dmin, dmax, margin, PA, pn, pcap, parts, QA, qn, qcap, ports, RA, rn, rcap, routes⟩ me since rate cold gd gh N hs ds W) => hW.cfg.c1
  have d2 := fun W (hW : RefS B b ⟨nodes, faulty, slot, gap, rho, dmin, dmax, margin, PA, pn, pcap, parts, QA, qn, qcap, ports, RA, rn, rcap, routes⟩ me since rate cold gd gh N hs ds W) => hW.cfg.c2
  have d3 := fun W (hW : RefS B b ⟨nodes, faulty, slot, gap, rho, dmin, dmax, margin, PA, pn, pcap, parts, QA, qn, qcap, ports, RA, rn, rcap, routes⟩ me since rate cold gd gh N hs ds W) => hW.cfg.c3
  have d4 := fun W (hW : RefS B b ⟨nodes, faulty, slot, gap, rho, dmin, dmax, margin, PA, pn, pcap, parts, QA, qn, qcap, ports, RA, rn, rcap, routes⟩ me since rate cold gd gh N hs ds W) => hW.cfg.c4
  have d5 := fun W (hW : RefS B b ⟨nodes, faulty, slot, gap, rho, dmin, dmax, margin, PA, pn, pcap, parts, QA, qn, qcap, ports, RA, rn, rcap, routes⟩ me since rate cold gd gh N hs ds W) => hW.cfg.c5
  have d6 := fun W (hW : RefS B b ⟨nodes, faulty, slot, gap, rho, dmin, dmax, margin, PA, pn, pcap, parts, QA, qn, qcap, ports, RA, rn, rcap, routes⟩ me since rate cold gd gh N hs ds W) => hW.cfg.c6
  have d7 := fun W (hW : RefS B b ⟨nodes, faulty, slot, gap, rho, dmin, dmax, margin, PA, pn, pcap, parts, QA, qn, qcap, ports, RA, rn, rcap, routes⟩ me since rate cold gd gh N hs ds W) => hW.cfg.c7
  have d8 := fun W (hW : RefS B b ⟨nodes, faulty, slot, gap, rho, dmin, dmax, margin, PA, pn, pcap, parts, QA, qn, qcap, ports, RA, rn, rcap, routes⟩ me since rate cold gd gh N hs ds W) => hW.cfg.c8
  have d9 := fun W (hW : RefS B b ⟨nodes, faulty, slot, gap, rho, dmin, dmax, margin, PA, pn, pcap, parts, QA, qn, qcap, ports, RA, rn, rcap, routes⟩ me since rate cold gd gh N hs ds W) => hW.cfg.c9
  have d10 := fun W (hW : RefS B b ⟨nodes, faulty, slot, gap, rho, dmin, dmax, margin, PA, pn, pcap, parts, QA, qn, qcap, ports, RA, rn, rcap, routes⟩ me since rate cold gd gh N hs ds W) => hW.cfg.c10
  simp only at d0 d1 d2 d3 d4 d5 d6 d7 d8 d9 d10 hn
  have k0 := d0 _ hc
  have q1 : decide (n < 0) = true := decide_eq_true hn.1
  clear hn hc
  unfold qv
  go_enter Try.func18, Try.ntmps18
  go_wp2_with fail
  go_ret
  exact ⟨rfl, 0, rfl⟩

theorem rhear_high (x : CfgC) (me since rate : Int) (cold : Bool) (gd gh N : Nat) (hs : List Bool) (ds : List Int) (n : Int) (t : Int) (B b : Nat) (w : World) (h : RefIn w B b x me since rate cold gd gh N hs ds) (hn : 0 ≤ n ∧ x.nodes ≤ n) :
    Calls Try.prog 18 #[qv b, .int .i64 n, .int .i64 t] w (Quiet (.bool false) w) := by
  have hc : RefS B b x me since rate cold gd gh N hs ds w := h
  clear h
  obtain ⟨nodes, faulty, slot, gap, rho, dmin, dmax, margin, PA, pn, pcap, parts, QA, qn, qcap, ports, RA, rn, rcap, routes⟩ := x
  have d0 := fun W (hW : RefS B b ⟨nodes, faulty, slot, gap, rho, dmin, dmax, margin, PA, pn, pcap, parts, QA, qn, qcap, ports, RA, rn, rcap, routes⟩ me since rate cold gd gh N hs ds W) => hW.cfg.c0
  have d1 := fun W (hW : RefS B b ⟨nodes, faulty, slot, gap, rho, dmin, dmax, margin, PA, pn, pcap, parts, QA, qn, qcap, ports, RA, rn, rcap, routes⟩ me since rate cold gd gh N hs ds W) => hW.cfg.c1
  have d2 := fun W (hW : RefS B b ⟨nodes, faulty, slot, gap, rho, dmin, dmax, margin, PA, pn, pcap, parts, QA, qn, qcap, ports, RA, rn, rcap, routes⟩ me since rate cold gd gh N hs ds W) => hW.cfg.c2
  have d3 := fun W (hW : RefS B b ⟨nodes, faulty, slot, gap, rho, dmin, dmax, margin, PA, pn, pcap, parts, QA, qn, qcap, ports, RA, rn, rcap, routes⟩ me since rate cold gd gh N hs ds W) => hW.cfg.c3
  have d4 := fun W (hW : RefS B b ⟨nodes, faulty, slot, gap, rho, dmin, dmax, margin, PA, pn, pcap, parts, QA, qn, qcap, ports, RA, rn, rcap, routes⟩ me since rate cold gd gh N hs ds W) => hW.cfg.c4
  have d5 := fun W (hW : RefS B b ⟨nodes, faulty, slot, gap, rho, dmin, dmax, margin, PA, pn, pcap, parts, QA, qn, qcap, ports, RA, rn, rcap, routes⟩ me since rate cold gd gh N hs ds W) => hW.cfg.c5
  have d6 := fun W (hW : RefS B b ⟨nodes, faulty, slot, gap, rho, dmin, dmax, margin, PA, pn, pcap, parts, QA, qn, qcap, ports, RA, rn, rcap, routes⟩ me since rate cold gd gh N hs ds W) => hW.cfg.c6
  have d7 := fun W (hW : RefS B b ⟨nodes, faulty, slot, gap, rho, dmin, dmax, margin, PA, pn, pcap, parts, QA, qn, qcap, ports, RA, rn, rcap, routes⟩ me since rate cold gd gh N hs ds W) => hW.cfg.c7
  have d8 := fun W (hW : RefS B b ⟨nodes, faulty, slot, gap, rho, dmin, dmax, margin, PA, pn, pcap, parts, QA, qn, qcap, ports, RA, rn, rcap, routes⟩ me since rate cold gd gh N hs ds W) => hW.cfg.c8
  have d9 := fun W (hW : RefS B b ⟨nodes, faulty, slot, gap, rho, dmin, dmax, margin, PA, pn, pcap, parts, QA, qn, qcap, ports, RA, rn, rcap, routes⟩ me since rate cold gd gh N hs ds W) => hW.cfg.c9
  have d10 := fun W (hW : RefS B b ⟨nodes, faulty, slot, gap, rho, dmin, dmax, margin, PA, pn, pcap, parts, QA, qn, qcap, ports, RA, rn, rcap, routes⟩ me since rate cold gd gh N hs ds W) => hW.cfg.c10
  simp only at d0 d1 d2 d3 d4 d5 d6 d7 d8 d9 d10 hn
  have k0 := d0 _ hc
  have q1 : decide (n < 0) = false := decide_eq_false (by omega)
  have q2 : decide (nodes ≤ n) = true := decide_eq_true hn.2
  clear hn hc
  unfold qv
  go_enter Try.func18, Try.ntmps18
  go_wp2_with fail
  go_ret
  exact ⟨rfl, 0, rfl⟩

theorem rhear_own (x : CfgC) (me since rate : Int) (cold : Bool) (gd gh N : Nat) (hs : List Bool) (ds : List Int) (k : Nat) (t : Int) (B b : Nat) (w : World) (h : RefIn w B b x me since rate cold gd gh N hs ds) (hn : (k : Int) < x.nodes ∧ x.nodes = (N : Int)) (hm : (k : Int) = me) (hcold : cold = false) :
    Calls Try.prog 18 #[qv b, .int .i64 (k : Nat), .int .i64 t] w (Quiet (.bool false) w) := by
  have hc : RefS B b x me since rate cold gd gh N hs ds w := h
  have k11 := h.c11
  have k14 := h.c14
  have k16 := h.c16
  subst hcold
  clear h
  obtain ⟨nodes, faulty, slot, gap, rho, dmin, dmax, margin, PA, pn, pcap, parts, QA, qn, qcap, ports, RA, rn, rcap, routes⟩ := x
  have d0 := fun W (hW : RefS B b ⟨nodes, faulty, slot, gap, rho, dmin, dmax, margin, PA, pn, pcap, parts, QA, qn, qcap, ports, RA, rn, rcap, routes⟩ me since rate false gd gh N hs ds W) => hW.cfg.c0
  have d1 := fun W (hW : RefS B b ⟨nodes, faulty, slot, gap, rho, dmin, dmax, margin, PA, pn, pcap, parts, QA, qn, qcap, ports, RA, rn, rcap, routes⟩ me since rate false gd gh N hs ds W) => hW.cfg.c1
  have d2 := fun W (hW : RefS B b ⟨nodes, faulty, slot, gap, rho, dmin, dmax, margin, PA, pn, pcap, parts, QA, qn, qcap, ports, RA, rn, rcap, routes⟩ me since rate false gd gh N hs ds W) => hW.cfg.c2
  have d3 := fun W (hW : RefS B b ⟨nodes, faulty, slot, gap, rho, dmin, dmax, margin, PA, pn, pcap, parts, QA, qn, qcap, ports, RA, rn, rcap, routes⟩ me since rate false gd gh N hs ds W) => hW.cfg.c3
  have d4 := fun W (hW : RefS B b ⟨nodes, faulty, slot, gap, rho, dmin, dmax, margin, PA, pn, pcap, parts, QA, qn, qcap, ports, RA, rn, rcap, routes⟩ me since rate false gd gh N hs ds W) => hW.cfg.c4
  have d5 := fun W (hW : RefS B b ⟨nodes, faulty, slot, gap, rho, dmin, dmax, margin, PA, pn, pcap, parts, QA, qn, qcap, ports, RA, rn, rcap, routes⟩ me since rate false gd gh N hs ds W) => hW.cfg.c5
  have d6 := fun W (hW : RefS B b ⟨nodes, faulty, slot, gap, rho, dmin, dmax, margin, PA, pn, pcap, parts, QA, qn, qcap, ports, RA, rn, rcap, routes⟩ me since rate false gd gh N hs ds W) => hW.cfg.c6
  have d7 := fun W (hW : RefS B b ⟨nodes, faulty, slot, gap, rho, dmin, dmax, margin, PA, pn, pcap, parts, QA, qn, qcap, ports, RA, rn, rcap, routes⟩ me since rate false gd gh N hs ds W) => hW.cfg.c7
  have d8 := fun W (hW : RefS B b ⟨nodes, faulty, slot, gap, rho, dmin, dmax, margin, PA, pn, pcap, parts, QA, qn, qcap, ports, RA, rn, rcap, routes⟩ me since rate false gd gh N hs ds W) => hW.cfg.c8
  have d9 := fun W (hW : RefS B b ⟨nodes, faulty, slot, gap, rho, dmin, dmax, margin, PA, pn, pcap, parts, QA, qn, qcap, ports, RA, rn, rcap, routes⟩ me since rate false gd gh N hs ds W) => hW.cfg.c9
  have d10 := fun W (hW : RefS B b ⟨nodes, faulty, slot, gap, rho, dmin, dmax, margin, PA, pn, pcap, parts, QA, qn, qcap, ports, RA, rn, rcap, routes⟩ me since rate false gd gh N hs ds W) => hW.cfg.c10
  simp only at d0 d1 d2 d3 d4 d5 d6 d7 d8 d9 d10 hn
  have k0 := d0 _ hc
  have q1 : decide ((k : Int) < 0) = false := decide_eq_false (by omega)
  have q2 : decide (nodes ≤ (k : Int)) = false := decide_eq_false (by omega)
  have hk7 : k < N := by omega
  have hk7i : (k : Int) < (N : Int) := by omega
  have q3 : decide ((k : Int) = me) = true := decide_eq_true hm
  have q4 : ((k : Int) == me) = true := by rw [beq_iff_eq]; exact hm
  clear hm
  clear hn hc
  unfold qv
  go_enter Try.func18, Try.ntmps18
  go_wp2_with fail
  go_ret
  exact ⟨rfl, 0, rfl⟩

theorem rhear_again1 (x : CfgC) (me since rate : Int) (cold : Bool) (gd gh N : Nat) (hs : List Bool) (ds : List Int) (k : Nat) (t : Int) (B b : Nat) (w : World) (h : RefIn w B b x me since rate cold gd gh N hs ds) (hn : (k : Int) < x.nodes ∧ x.nodes = (N : Int)) (hp : hs[k]? = some true) (hm : ¬ (k : Int) = me) :
    Calls Try.prog 18 #[qv b, .int .i64 (k : Nat), .int .i64 t] w (Quiet (.bool false) w) := by
  have hc : RefS B b x me since rate cold gd gh N hs ds w := h
  have k11 := h.c11
  have k14 := h.c14
  have k16 := h.c16
  have hB := h.bit hp (by omega)
  clear h
  obtain ⟨nodes, faulty, slot, gap, rho, dmin, dmax, margin, PA, pn, pcap, parts, QA, qn, qcap, ports, RA, rn, rcap, routes⟩ := x
  have d0 := fun W (hW : RefS B b ⟨nodes, faulty, slot, gap, rho, dmin, dmax, margin, PA, pn, pcap, parts, QA, qn, qcap, ports, RA, rn, rcap, routes⟩ me since rate cold gd gh N hs ds W) => hW.cfg.c0
  have d1 := fun W (hW : RefS B b ⟨nodes, faulty, slot, gap, rho, dmin, dmax, margin, PA, pn, pcap, parts, QA, qn, qcap, ports, RA, rn, rcap, routes⟩ me since rate cold gd gh N hs ds W) => hW.cfg.c1
  have d2 := fun W (hW : RefS B b ⟨nodes, faulty, slot, gap, rho, dmin, dmax, margin, PA, pn, pcap, parts, QA, qn, qcap, ports, RA, rn, rcap, routes⟩ me since rate cold gd gh N hs ds W) => hW.cfg.c2
  have d3 := fun W (hW : RefS B b ⟨nodes, faulty, slot, gap, rho, dmin, dmax, margin, PA, pn, pcap, parts, QA, qn, qcap, ports, RA, rn, rcap, routes⟩ me since rate cold gd gh N hs ds W) => hW.cfg.c3
  have d4 := fun W (hW : RefS B b ⟨nodes, faulty, slot, gap, rho, dmin, dmax, margin, PA, pn, pcap, parts, QA, qn, qcap, ports, RA, rn, rcap, routes⟩ me since rate cold gd gh N hs ds W) => hW.cfg.c4
  have d5 := fun W (hW : RefS B b ⟨nodes, faulty, slot, gap, rho, dmin, dmax, margin, PA, pn, pcap, parts, QA, qn, qcap, ports, RA, rn, rcap, routes⟩ me since rate cold gd gh N hs ds W) => hW.cfg.c5
  have d6 := fun W (hW : RefS B b ⟨nodes, faulty, slot, gap, rho, dmin, dmax, margin, PA, pn, pcap, parts, QA, qn, qcap, ports, RA, rn, rcap, routes⟩ me since rate cold gd gh N hs ds W) => hW.cfg.c6
  have d7 := fun W (hW : RefS B b ⟨nodes, faulty, slot, gap, rho, dmin, dmax, margin, PA, pn, pcap, parts, QA, qn, qcap, ports, RA, rn, rcap, routes⟩ me since rate cold gd gh N hs ds W) => hW.cfg.c7
  have d8 := fun W (hW : RefS B b ⟨nodes, faulty, slot, gap, rho, dmin, dmax, margin, PA, pn, pcap, parts, QA, qn, qcap, ports, RA, rn, rcap, routes⟩ me since rate cold gd gh N hs ds W) => hW.cfg.c8
  have d9 := fun W (hW : RefS B b ⟨nodes, faulty, slot, gap, rho, dmin, dmax, margin, PA, pn, pcap, parts, QA, qn, qcap, ports, RA, rn, rcap, routes⟩ me since rate cold gd gh N hs ds W) => hW.cfg.c9
  have d10 := fun W (hW : RefS B b ⟨nodes, faulty, slot, gap, rho, dmin, dmax, margin, PA, pn, pcap, parts, QA, qn, qcap, ports, RA, rn, rcap, routes⟩ me since rate cold gd gh N hs ds W) => hW.cfg.c10
  simp only at d0 d1 d2 d3 d4 d5 d6 d7 d8 d9 d10 hn
  have k0 := d0 _ hc
  have q1 : decide ((k : Int) < 0) = false := decide_eq_false (by omega)
  have q2 : decide (nodes ≤ (k : Int)) = false := decide_eq_false (by omega)
  have hk7 : k < N := by omega
  have hk7i : (k : Int) < (N : Int) := by omega
  have q3 : decide ((k : Int) = me) = false := decide_eq_false hm
  have q4 : ((k : Int) == me) = false := by rw [beq_eq_false_iff_ne]; exact hm
  clear hm
  clear hn hc
  unfold qv
  go_enter Try.func18, Try.ntmps18
  go_wp2_with fail
  go_ret
  exact ⟨rfl, 0, rfl⟩

theorem rhear_again2 (x : CfgC) (me since rate : Int) (cold : Bool) (gd gh N : Nat) (hs : List Bool) (ds : List Int) (k : Nat) (t : Int) (B b : Nat) (w : World) (h : RefIn w B b x me since rate cold gd gh N hs ds) (hn : (k : Int) < x.nodes ∧ x.nodes = (N : Int)) (hp : hs[k]? = some true) (hm : (k : Int) = me) (hcold : cold = true) :
    Calls Try.prog 18 #[qv b, .int .i64 (k : Nat), .int .i64 t] w (Quiet (.bool false) w) := by
  have hc : RefS B b x me since rate cold gd gh N hs ds w := h
  have k11 := h.c11
  have k14 := h.c14
  have k16 := h.c16
  have hB := h.bit hp (by omega)
  subst hcold
  clear h
  obtain ⟨nodes, faulty, slot, gap, rho, dmin, dmax, margin, PA, pn, pcap, parts, QA, qn, qcap, ports, RA, rn, rcap, routes⟩ := x
  have d0 := fun W (hW : RefS B b ⟨nodes, faulty, slot, gap, rho, dmin, dmax, margin, PA, pn, pcap, parts, QA, qn, qcap, ports, RA, rn, rcap, routes⟩ me since rate true gd gh N hs ds W) => hW.cfg.c0
  have d1 := fun W (hW : RefS B b ⟨nodes, faulty, slot, gap, rho, dmin, dmax, margin, PA, pn, pcap, parts, QA, qn, qcap, ports, RA, rn, rcap, routes⟩ me since rate true gd gh N hs ds W) => hW.cfg.c1
  have d2 := fun W (hW : RefS B b ⟨nodes, faulty, slot, gap, rho, dmin, dmax, margin, PA, pn, pcap, parts, QA, qn, qcap, ports, RA, rn, rcap, routes⟩ me since rate true gd gh N hs ds W) => hW.cfg.c2
  have d3 := fun W (hW : RefS B b ⟨nodes, faulty, slot, gap, rho, dmin, dmax, margin, PA, pn, pcap, parts, QA, qn, qcap, ports, RA, rn, rcap, routes⟩ me since rate true gd gh N hs ds W) => hW.cfg.c3
  have d4 := fun W (hW : RefS B b ⟨nodes, faulty, slot, gap, rho, dmin, dmax, margin, PA, pn, pcap, parts, QA, qn, qcap, ports, RA, rn, rcap, routes⟩ me since rate true gd gh N hs ds W) => hW.cfg.c4
  have d5 := fun W (hW : RefS B b ⟨nodes, faulty, slot, gap, rho, dmin, dmax, margin, PA, pn, pcap, parts, QA, qn, qcap, ports, RA, rn, rcap, routes⟩ me since rate true gd gh N hs ds W) => hW.cfg.c5
  have d6 := fun W (hW : RefS B b ⟨nodes, faulty, slot, gap, rho, dmin, dmax, margin, PA, pn, pcap, parts, QA, qn, qcap, ports, RA, rn, rcap, routes⟩ me since rate true gd gh N hs ds W) => hW.cfg.c6
  have d7 := fun W (hW : RefS B b ⟨nodes, faulty, slot, gap, rho, dmin, dmax, margin, PA, pn, pcap, parts, QA, qn, qcap, ports, RA, rn, rcap, routes⟩ me since rate true gd gh N hs ds W) => hW.cfg.c7
  have d8 := fun W (hW : RefS B b ⟨nodes, faulty, slot, gap, rho, dmin, dmax, margin, PA, pn, pcap, parts, QA, qn, qcap, ports, RA, rn, rcap, routes⟩ me since rate true gd gh N hs ds W) => hW.cfg.c8
  have d9 := fun W (hW : RefS B b ⟨nodes, faulty, slot, gap, rho, dmin, dmax, margin, PA, pn, pcap, parts, QA, qn, qcap, ports, RA, rn, rcap, routes⟩ me since rate true gd gh N hs ds W) => hW.cfg.c9
  have d10 := fun W (hW : RefS B b ⟨nodes, faulty, slot, gap, rho, dmin, dmax, margin, PA, pn, pcap, parts, QA, qn, qcap, ports, RA, rn, rcap, routes⟩ me since rate true gd gh N hs ds W) => hW.cfg.c10
  simp only at d0 d1 d2 d3 d4 d5 d6 d7 d8 d9 d10 hn
  have k0 := d0 _ hc
  have q1 : decide ((k : Int) < 0) = false := decide_eq_false (by omega)
  have q2 : decide (nodes ≤ (k : Int)) = false := decide_eq_false (by omega)
  have hk7 : k < N := by omega
  have hk7i : (k : Int) < (N : Int) := by omega
  have q3 : decide ((k : Int) = me) = true := decide_eq_true hm
  have q4 : ((k : Int) == me) = true := by rw [beq_iff_eq]; exact hm
  clear hm
  clear hn hc
  unfold qv
  go_enter Try.func18, Try.ntmps18
  go_wp2_with fail
  go_ret
  exact ⟨rfl, 0, rfl⟩

/-- What Hear does where it is true. -/
def RHearP (x : CfgC) (me since rate : Int) (cold : Bool) (gd gh N : Nat) (hs : List Bool) (ds : List Int) (B b k : Nat) (d : Int) (w : World) (e : Ending) (w' : World) : Prop :=
  e = .returned (.bool true) ∧ RefIn w' B b x me since rate cold gd gh N (hs.set k true) (ds.set k d) ∧ Apart (fun q => q = gd ∨ q = gh) w w'

set_option maxHeartbeats 4000000 in
theorem rhear_yes (x : CfgC) (me since rate : Int) (cold : Bool) (gd gh N : Nat) (hs : List Bool) (ds : List Int) (k : Nat) (hN : x.nodes = (N : Int)) (hkN : k < N) (hp : hs[k]? = some false) (hm : (k : Int) ≠ me ∨ cold = true) (hr : RateIn rate) (t : Int) (ht : PacQ.Soon (t - since)) (B b : Nat) (w : World) (h : RefIn w B b x me since rate cold gd gh N hs ds) (hh : TableP.headOk x.plain) :
    Calls Try.prog 18 #[qv b, .int .i64 (k : Nat), .int .i64 t] w (RHearP x me since rate cold gd gh N hs ds B b k (PacQ.devT x.plain since rate k t) w) := by
  have hx7 := (SndP.nums_in hh).nodes
  have hn7 : x.nodes ≤ 7 := hx7.2
  have hk7 : k < 7 := by omega
  have hkNi : (k : Int) < (N : Int) := by omega
  obtain ⟨f1, f2, f3⟩ := PacQ.dev_small (SndP.nums_in hh) (n := (k : Int)) ⟨by omega, by omega⟩ (show ClkP.RateOk rate from hr) ht
  have hfar : FarIn (t - since) := by obtain ⟨a1, a2⟩ := ht; unfold FarIn; omega
  have C0 := Lib.hid (fun W => reflocal_any since rate t hr hfar W)
  have C1 := Lib.hid (fun W => refsend_any x k ⟨by omega, by omega⟩ W hh)
  have C2 := Lib.hid (fun W => refmean_any x W hh)
  obtain ⟨d0', hd0'⟩ : ∃ d, ds[k]? = some d := ⟨_, List.getElem?_eq_getElem (by rw [h.dlen]; exact hk7)⟩
  have hB := h.bit hp hkN
  have hFr := h.bfree k
  have k11 := h.c11
  have k14 := h.c14
  have k16 := h.c16
  have HD := Lib.hid (fun W (hW : RefS B b x me since rate cold gd gh N (hs.set k true) ds W) => RefIn.dev hW hd0' hkN)
  have HDF := Lib.hid (fun W (hW : RefS B b x me since rate cold gd gh N (hs.set k true) ds W) => RefIn.dfree hW k)
  have H1 : Hid (RefS B b x me since rate cold gd gh N (hs.set k true) ds (w.setCell ⟨gh, k, none⟩ (.bool true))) := Lib.hid (h.storedBit k true)
  have A1 : Hid (Apart (fun q => q = gd ∨ q = gh) w (w.setCell ⟨gh, k, none⟩ (.bool true))) := Lib.hid ((Apart.refl (fun q => q = gd ∨ q = gh) w).setCell (p := ⟨gh, k, none⟩) (.inl (.inr rfl)) _)
  have HE : Hid (∀ w1 W, RefS B b x me since rate cold gd gh N (hs.set k true) ds W → Apart (fun q => q = gd ∨ q = gh) w w1 → Below w1.heap.size w1 W →
      RHearP x me since rate cold gd gh N hs ds B b k (PacQ.devT x.plain since rate k t) w (.returned (.bool true)) (W.setCell ⟨gd, k, none⟩ (.int .i64 (PacQ.devT x.plain since rate k t)))) := Lib.hid fun w1 W hW ha hb =>
    ⟨rfl, RefIn.storedDev hW k _, (ha.trans (Apart.of_below' (F := fun q => q = gd ∨ q = gh) hb) (fun _ h => .inl h)).setCell (p := ⟨gd, k, none⟩) (.inl (.inl rfl)) _⟩
  have q1 : decide ((k : Int) < 0) = false := decide_eq_false (by omega)
  have q2 : decide (x.nodes ≤ (k : Int)) = false := decide_eq_false (by omega)
  have E1 : PacQ.devT x.plain since rate k t = ClkP.localT since rate t - SndP.sendT x.plain k - SndP.meanT x.plain := rfl
  have hc : RefS B b x me since rate cold gd gh N hs ds w := h
  have hm' : (decide ((k : Int) = me) = false ∧ ((k : Int) == me) = false) ∨ (decide ((k : Int) = me) = true ∧ ((k : Int) == me) = true ∧ cold = true) := by
    by_cases g : (k : Int) = me
    · refine .inr ⟨decide_eq_true g, by rw [beq_iff_eq]; exact g, ?_⟩
      rcases hm with h | h
      · exact absurd g h
      · exact h
    · exact .inl ⟨decide_eq_false g, by rw [beq_eq_false_iff_ne]; exact g⟩
  clear hm
  generalize PacQ.devT x.plain since rate k t = dv at *
  generalize ClkP.localT since rate t = lv at *
  generalize SndP.sendT x.plain k = sd at *
  generalize SndP.meanT x.plain = mn at *
  have e1 : IntKind.i64.wrap (lv - sd) = lv - sd := IntWalk.i64_in _ (by omega)
  have e2 : IntKind.i64.wrap (lv - sd - mn) = dv := by rw [E1]; exact IntWalk.i64_in _ (by omega)
  clear h hh hN hx7 hn7 hp f1 f2 f3 E1 ht hfar hr
  obtain ⟨nodes, faulty, slot, gap, rho, dmin, dmax, margin, PA, pn, pcap, parts, QA, qn, qcap, ports, RA, rn, rcap, routes⟩ := x
  have d0 := fun W (hW : RefS B b ⟨nodes, faulty, slot, gap, rho, dmin, dmax, margin, PA, pn, pcap, parts, QA, qn, qcap, ports, RA, rn, rcap, routes⟩ me since rate cold gd gh N hs ds W) => hW.cfg.c0
  have d1 := fun W (hW : RefS B b ⟨nodes, faulty, slot, gap, rho, dmin, dmax, margin, PA, pn, pcap, parts, QA, qn, qcap, ports, RA, rn, rcap, routes⟩ me since rate cold gd gh N hs ds W) => hW.cfg.c1
  have d2 := fun W (hW : RefS B b ⟨nodes, faulty, slot, gap, rho, dmin, dmax, margin, PA, pn, pcap, parts, QA, qn, qcap, ports, RA, rn, rcap, routes⟩ me since rate cold gd gh N hs ds W) => hW.cfg.c2
  have d3 := fun W (hW : RefS B b ⟨nodes, faulty, slot, gap, rho, dmin, dmax, margin, PA, pn, pcap, parts, QA, qn, qcap, ports, RA, rn, rcap, routes⟩ me since rate cold gd gh N hs ds W) => hW.cfg.c3
  have d4 := fun W (hW : RefS B b ⟨nodes, faulty, slot, gap, rho, dmin, dmax, margin, PA, pn, pcap, parts, QA, qn, qcap, ports, RA, rn, rcap, routes⟩ me since rate cold gd gh N hs ds W) => hW.cfg.c4
  have d5 := fun W (hW : RefS B b ⟨nodes, faulty, slot, gap, rho, dmin, dmax, margin, PA, pn, pcap, parts, QA, qn, qcap, ports, RA, rn, rcap, routes⟩ me since rate cold gd gh N hs ds W) => hW.cfg.c5
  have d6 := fun W (hW : RefS B b ⟨nodes, faulty, slot, gap, rho, dmin, dmax, margin, PA, pn, pcap, parts, QA, qn, qcap, ports, RA, rn, rcap, routes⟩ me since rate cold gd gh N hs ds W) => hW.cfg.c6
  have d7 := fun W (hW : RefS B b ⟨nodes, faulty, slot, gap, rho, dmin, dmax, margin, PA, pn, pcap, parts, QA, qn, qcap, ports, RA, rn, rcap, routes⟩ me since rate cold gd gh N hs ds W) => hW.cfg.c7
  have d8 := fun W (hW : RefS B b ⟨nodes, faulty, slot, gap, rho, dmin, dmax, margin, PA, pn, pcap, parts, QA, qn, qcap, ports, RA, rn, rcap, routes⟩ me since rate cold gd gh N hs ds W) => hW.cfg.c8
  have d9 := fun W (hW : RefS B b ⟨nodes, faulty, slot, gap, rho, dmin, dmax, margin, PA, pn, pcap, parts, QA, qn, qcap, ports, RA, rn, rcap, routes⟩ me since rate cold gd gh N hs ds W) => hW.cfg.c9
  have d10 := fun W (hW : RefS B b ⟨nodes, faulty, slot, gap, rho, dmin, dmax, margin, PA, pn, pcap, parts, QA, qn, qcap, ports, RA, rn, rcap, routes⟩ me since rate cold gd gh N hs ds W) => hW.cfg.c10
  simp only at d0 d1 d2 d3 d4 d5 d6 d7 d8 d9 d10 q2
  have k0 := d0 _ hc
  clear d0 d1 d2 d3 d4 d5 d6 d7 d8 d9 d10 hc
  have d0 := fun W (hW : RefS B b ⟨nodes, faulty, slot, gap, rho, dmin, dmax, margin, PA, pn, pcap, parts, QA, qn, qcap, ports, RA, rn, rcap, routes⟩ me since rate cold gd gh N (hs.set k true) ds W) => hW.cfg.c0
  have d1 := fun W (hW : RefS B b ⟨nodes, faulty, slot, gap, rho, dmin, dmax, margin, PA, pn, pcap, parts, QA, qn, qcap, ports, RA, rn, rcap, routes⟩ me since rate cold gd gh N (hs.set k true) ds W) => hW.cfg.c1
  have d2 := fun W (hW : RefS B b ⟨nodes, faulty, slot, gap, rho, dmin, dmax, margin, PA, pn, pcap, parts, QA, qn, qcap, ports, RA, rn, rcap, routes⟩ me since rate cold gd gh N (hs.set k true) ds W) => hW.cfg.c2
  have d3 := fun W (hW : RefS B b ⟨nodes, faulty, slot, gap, rho, dmin, dmax, margin, PA, pn, pcap, parts, QA, qn, qcap, ports, RA, rn, rcap, routes⟩ me since rate cold gd gh N (hs.set k true) ds W) => hW.cfg.c3
  have d4 := fun W (hW : RefS B b ⟨nodes, faulty, slot, gap, rho, dmin, dmax, margin, PA, pn, pcap, parts, QA, qn, qcap, ports, RA, rn, rcap, routes⟩ me since rate cold gd gh N (hs.set k true) ds W) => hW.cfg.c4
  have d5 := fun W (hW : RefS B b ⟨nodes, faulty, slot, gap, rho, dmin, dmax, margin, PA, pn, pcap, parts, QA, qn, qcap, ports, RA, rn, rcap, routes⟩ me since rate cold gd gh N (hs.set k true) ds W) => hW.cfg.c5
  have d6 := fun W (hW : RefS B b ⟨nodes, faulty, slot, gap, rho, dmin, dmax, margin, PA, pn, pcap, parts, QA, qn, qcap, ports, RA, rn, rcap, routes⟩ me since rate cold gd gh N (hs.set k true) ds W) => hW.cfg.c6
  have d7 := fun W (hW : RefS B b ⟨nodes, faulty, slot, gap, rho, dmin, dmax, margin, PA, pn, pcap, parts, QA, qn, qcap, ports, RA, rn, rcap, routes⟩ me since rate cold gd gh N (hs.set k true) ds W) => hW.cfg.c7
  have d8 := fun W (hW : RefS B b ⟨nodes, faulty, slot, gap, rho, dmin, dmax, margin, PA, pn, pcap, parts, QA, qn, qcap, ports, RA, rn, rcap, routes⟩ me since rate cold gd gh N (hs.set k true) ds W) => hW.cfg.c8
  have d9 := fun W (hW : RefS B b ⟨nodes, faulty, slot, gap, rho, dmin, dmax, margin, PA, pn, pcap, parts, QA, qn, qcap, ports, RA, rn, rcap, routes⟩ me since rate cold gd gh N (hs.set k true) ds W) => hW.cfg.c9
  have d10 := fun W (hW : RefS B b ⟨nodes, faulty, slot, gap, rho, dmin, dmax, margin, PA, pn, pcap, parts, QA, qn, qcap, ports, RA, rn, rcap, routes⟩ me since rate cold gd gh N (hs.set k true) ds W) => hW.cfg.c10
  have d12 : ∀ W, RefS B b ⟨nodes, faulty, slot, gap, rho, dmin, dmax, margin, PA, pn, pcap, parts, QA, qn, qcap, ports, RA, rn, rcap, routes⟩ me since rate cold gd gh N (hs.set k true) ds W → W.cell? ⟨b, 12, none⟩ = some (.int .i64 since) := fun W hW => RefIn.c12 hW
  have d13 : ∀ W, RefS B b ⟨nodes, faulty, slot, gap, rho, dmin, dmax, margin, PA, pn, pcap, parts, QA, qn, qcap, ports, RA, rn, rcap, routes⟩ me since rate cold gd gh N (hs.set k true) ds W → W.cell? ⟨b, 13, none⟩ = some (.int .i64 rate) := fun W hW => RefIn.c13 hW
  have d15 : ∀ W, RefS B b ⟨nodes, faulty, slot, gap, rho, dmin, dmax, margin, PA, pn, pcap, parts, QA, qn, qcap, ports, RA, rn, rcap, routes⟩ me since rate cold gd gh N (hs.set k true) ds W → W.cell? ⟨b, 15, none⟩ = some (.slice (some ⟨gd, 0, none⟩) N N) := fun W hW => RefIn.c15 hW
  simp only at d0 d1 d2 d3 d4 d5 d6 d7 d8 d9 d10 C0 C1 C2 HE
  simp only [CfgC.value] at C1 C2
  unfold qv at *
  generalize hs.set k true = hs1 at *
  rcases hm' with ⟨q3, q4⟩ | ⟨q3, q4, rfl⟩
  · go_enter Try.func18, Try.ntmps18
    go_wp2_with fail
    clear hB hFr k11 k14 k16 k0
    generalize w.setCell ⟨gh, k, none⟩ (.bool true) = w1 at *
    have hg0 : RefS B b ⟨nodes, faulty, slot, gap, rho, dmin, dmax, margin, PA, pn, pcap, parts, QA, qn, qcap, ports, RA, rn, rcap, routes⟩ me since rate cold gd gh N hs1 ds w1.drew := RefIn.drew H1.out
    have hb0 : Below w1.heap.size w1 w1.drew := (Below.refl _ _).drew
    clear H1
    refine wp_region_L_drew (st := 29) (S := fun W => RefS B b ⟨nodes, faulty, slot, gap, rho, dmin, dmax, margin, PA, pn, pcap, parts, QA, qn, qcap, ports, RA, rn, rcap, routes⟩ me since rate cold gd gh N hs1 ds W) (by kernel_rfl) hg0 (fun _ => ?_)
    refine wpAnyL_take (i := 0) (f := 12) (oi := ?oo1) (v := ?vv1) ?ii1 (by kernel_rfl) ?ff1 (by kernel_rfl) ?pp1 ?qq1 (Or.inl ⟨?ww1, ?yy1⟩) hg0 ?rr1
    case ii1 => simp only [List.getElem?_toArray, List.getElem?_cons_zero]; rfl
    case ff1 => kernel_rfl
    case pp1 => kernel_rfl
    case qq1 => exact fun _ _ _ h => h
    case ww1 => rfl
    case yy1 => intro W hW; go_simp <;> with_reducible rfl
    try simp only [Act.put, List.setIfInBounds_toArray, List.set_cons_zero, List.set_cons_succ]
    refine wpAnyL_take (i := 1) (f := 12) (oi := ?oo2) (v := ?vv2) ?ii2 (by kernel_rfl) ?ff2 (by kernel_rfl) ?pp2 ?qq2 (Or.inl ⟨?ww2, ?yy2⟩) hg0 ?rr2
    case ii2 => simp only [List.getElem?_toArray, List.getElem?_cons_succ, List.getElem?_cons_zero]; rfl
    case ff2 => kernel_rfl
    case pp2 => kernel_rfl
    case qq2 => exact fun _ _ _ h => h
    case ww2 => rfl
    case yy2 => intro W hW; go_simp <;> with_reducible rfl
    try simp only [Act.put, List.setIfInBounds_toArray, List.set_cons_zero, List.set_cons_succ]
    refine wpAnyL_take (i := 2) (f := 12) (oi := ?oo3) (v := ?vv3) ?ii3 (by kernel_rfl) ?ff3 (by kernel_rfl) ?pp3 ?qq3 (Or.inl ⟨?ww3, ?yy3⟩) hg0 ?rr3
    case ii3 => simp only [List.getElem?_toArray, List.getElem?_cons_succ, List.getElem?_cons_zero]; rfl
    case ff3 => kernel_rfl
    case pp3 => kernel_rfl
    case qq3 => exact fun _ _ _ h => h
    case ww3 => rfl
    case yy3 => intro W hW; go_simp <;> with_reducible rfl
    try simp only [Act.put, List.setIfInBounds_toArray, List.set_cons_zero, List.set_cons_succ]
    refine wpAnyL_take (i := 3) (f := 12) (oi := ?oo4) (v := ?vv4) ?ii4 (by kernel_rfl) ?ff4 (by kernel_rfl) ?pp4 ?qq4 (Or.inl ⟨?ww4, ?yy4⟩) hg0 ?rr4
    case ii4 => simp only [List.getElem?_toArray, List.getElem?_cons_succ, List.getElem?_cons_zero]; rfl
    case ff4 => kernel_rfl
    case pp4 => kernel_rfl
    case qq4 => exact fun _ _ _ h => h
    case ww4 => rfl
    case yy4 => intro W hW; go_simp <;> with_reducible rfl
    try simp only [Act.put, List.setIfInBounds_toArray, List.set_cons_zero, List.set_cons_succ]
    refine wpAnyL_take (i := 4) (f := 12) (oi := ?oo5) (v := ?vv5) ?ii5 (by kernel_rfl) ?ff5 (by kernel_rfl) ?pp5 ?qq5 (Or.inl ⟨?ww5, ?yy5⟩) hg0 ?rr5
    case ii5 => simp only [List.getElem?_toArray, List.getElem?_cons_succ, List.getElem?_cons_zero]; rfl
    case ff5 => kernel_rfl
    case pp5 => kernel_rfl
    case qq5 => exact fun _ _ _ h => h
    case ww5 => rfl
    case yy5 => intro W hW; go_simp <;> with_reducible rfl
    try simp only [Act.put, List.setIfInBounds_toArray, List.set_cons_zero, List.set_cons_succ]
    refine wpAnyL_take (i := 5) (f := 12) (oi := ?oo6) (v := ?vv6) ?ii6 (by kernel_rfl) ?ff6 (by kernel_rfl) ?pp6 ?qq6 (Or.inl ⟨?ww6, ?yy6⟩) hg0 ?rr6
    case ii6 => simp only [List.getElem?_toArray, List.getElem?_cons_succ, List.getElem?_cons_zero]; rfl
    case ff6 => kernel_rfl
    case pp6 => kernel_rfl
    case qq6 => exact fun _ _ _ h => h
    case ww6 => rfl
    case yy6 => intro W hW; go_simp <;> with_reducible rfl
    try simp only [Act.put, List.setIfInBounds_toArray, List.set_cons_zero, List.set_cons_succ]
    refine wpAnyL_take (i := 6) (f := 12) (oi := ?oo7) (v := ?vv7) ?ii7 (by kernel_rfl) ?ff7 (by kernel_rfl) ?pp7 ?qq7 (Or.inl ⟨?ww7, ?yy7⟩) hg0 ?rr7
    case ii7 => simp only [List.getElem?_toArray, List.getElem?_cons_succ, List.getElem?_cons_zero]; rfl
    case ff7 => kernel_rfl
    case pp7 => kernel_rfl
    case qq7 => exact fun _ _ _ h => h
    case ww7 => rfl
    case yy7 => intro W hW; go_simp <;> with_reducible rfl
    try simp only [Act.put, List.setIfInBounds_toArray, List.set_cons_zero, List.set_cons_succ]
    refine wpAnyL_take (i := 7) (f := 12) (oi := ?oo8) (v := ?vv8) ?ii8 (by kernel_rfl) ?ff8 (by kernel_rfl) ?pp8 ?qq8 (Or.inl ⟨?ww8, ?yy8⟩) hg0 ?rr8
    case ii8 => simp only [List.getElem?_toArray, List.getElem?_cons_succ, List.getElem?_cons_zero]; rfl
    case ff8 => kernel_rfl
    case pp8 => kernel_rfl
    case qq8 => exact fun _ _ _ h => h
    case ww8 => rfl
    case yy8 => intro W hW; go_simp <;> with_reducible rfl
    try simp only [Act.put, List.setIfInBounds_toArray, List.set_cons_zero, List.set_cons_succ]
    refine wpAnyL_take (i := 8) (f := 12) (oi := ?oo9) (v := ?vv9) ?ii9 (by kernel_rfl) ?ff9 (by kernel_rfl) ?pp9 ?qq9 (Or.inl ⟨?ww9, ?yy9⟩) hg0 ?rr9
    case ii9 => simp only [List.getElem?_toArray, List.getElem?_cons_succ, List.getElem?_cons_zero]; rfl
    case ff9 => kernel_rfl
    case pp9 => kernel_rfl
    case qq9 => exact fun _ _ _ h => h
    case ww9 => rfl
    case yy9 => intro W hW; go_simp <;> with_reducible rfl
    try simp only [Act.put, List.setIfInBounds_toArray, List.set_cons_zero, List.set_cons_succ]
    refine wpAnyL_take (i := 9) (f := 12) (oi := ?oo10) (v := ?vv10) ?ii10 (by kernel_rfl) ?ff10 (by kernel_rfl) ?pp10 ?qq10 (Or.inl ⟨?ww10, ?yy10⟩) hg0 ?rr10
    case ii10 => simp only [List.getElem?_toArray, List.getElem?_cons_succ, List.getElem?_cons_zero]; rfl
    case ff10 => kernel_rfl
    case pp10 => kernel_rfl
    case qq10 => exact fun _ _ _ h => h
    case ww10 => rfl
    case yy10 => intro W hW; go_simp <;> with_reducible rfl
    try simp only [Act.put, List.setIfInBounds_toArray, List.set_cons_zero, List.set_cons_succ]
    refine wpAnyL_take (i := 10) (f := 12) (oi := ?oo11) (v := ?vv11) ?ii11 (by kernel_rfl) ?ff11 (by kernel_rfl) ?pp11 ?qq11 (Or.inl ⟨?ww11, ?yy11⟩) hg0 ?rr11
    case ii11 => simp only [List.getElem?_toArray, List.getElem?_cons_succ, List.getElem?_cons_zero]; rfl
    case ff11 => kernel_rfl
    case pp11 => kernel_rfl
    case qq11 => exact fun _ _ _ h => h
    case ww11 => rfl
    case yy11 => intro W hW; go_simp <;> with_reducible rfl
    try simp only [Act.put, List.setIfInBounds_toArray, List.set_cons_zero, List.set_cons_succ]
    refine wpAnyL_take (i := 11) (f := 12) (oi := ?oo12) (v := ?vv12) ?ii12 (by kernel_rfl) ?ff12 (by kernel_rfl) ?pp12 ?qq12 (Or.inl ⟨?ww12, ?yy12⟩) hg0 ?rr12
    case ii12 => simp only [List.getElem?_toArray, List.getElem?_cons_succ, List.getElem?_cons_zero]; rfl
    case ff12 => kernel_rfl
    case pp12 => kernel_rfl
    case qq12 => exact fun _ _ _ h => h
    case ww12 => rfl
    case yy12 => intro W hW; go_simp <;> with_reducible rfl
    try simp only [Act.put, List.setIfInBounds_toArray, List.set_cons_zero, List.set_cons_succ]
    refine wpAnyL_take (i := 12) (f := 12) (oi := ?oo13) (v := ?vv13) ?ii13 (by kernel_rfl) ?ff13 (by kernel_rfl) ?pp13 ?qq13 (Or.inl ⟨?ww13, ?yy13⟩) hg0 ?rr13
    case ii13 => simp only [List.getElem?_toArray, List.getElem?_cons_succ, List.getElem?_cons_zero]; rfl
    case ff13 => kernel_rfl
    case pp13 => kernel_rfl
    case qq13 => exact fun _ _ _ h => h
    case ww13 => rfl
    case yy13 => intro W hW; go_simp <;> with_reducible rfl
    try simp only [Act.put, List.setIfInBounds_toArray, List.set_cons_zero, List.set_cons_succ]
    refine wpAnyL_take (i := 13) (f := 12) (oi := ?oo14) (v := ?vv14) ?ii14 (by kernel_rfl) ?ff14 (by kernel_rfl) ?pp14 ?qq14 (Or.inl ⟨?ww14, ?yy14⟩) hg0 ?rr14
    case ii14 => simp only [List.getElem?_toArray, List.getElem?_cons_succ, List.getElem?_cons_zero]; rfl
    case ff14 => kernel_rfl
    case pp14 => kernel_rfl
    case qq14 => exact fun _ _ _ h => h
    case ww14 => rfl
    case yy14 => intro W hW; go_simp <;> with_reducible rfl
    try simp only [Act.put, List.setIfInBounds_toArray, List.set_cons_zero, List.set_cons_succ]
    refine wpAnyL_take (i := 15) (f := 12) (oi := ?oo15) (v := ?vv15) ?ii15 (by kernel_rfl) ?ff15 (by kernel_rfl) ?pp15 ?qq15 (Or.inl ⟨?ww15, ?yy15⟩) hg0 ?rr15
    case ii15 => simp only [List.getElem?_toArray, List.getElem?_cons_succ, List.getElem?_cons_zero]; rfl
    case ff15 => kernel_rfl
    case pp15 => kernel_rfl
    case qq15 => exact fun _ _ _ h => h
    case ww15 => rfl
    case yy15 => intro W hW; go_simp <;> with_reducible rfl
    try simp only [Act.put, List.setIfInBounds_toArray, List.set_cons_zero, List.set_cons_succ]
    refine wpAnyL_take (i := 16) (f := 12) (oi := ?oo16) (v := ?vv16) ?ii16 (by kernel_rfl) ?ff16 (by kernel_rfl) ?pp16 ?qq16 (Or.inl ⟨?ww16, ?yy16⟩) hg0 ?rr16
    case ii16 => simp only [List.getElem?_toArray, List.getElem?_cons_succ, List.getElem?_cons_zero]; rfl
    case ff16 => kernel_rfl
    case pp16 => kernel_rfl
    case qq16 => exact fun _ _ _ h => h
    case ww16 => rfl
    case yy16 => intro W hW; go_simp <;> with_reducible rfl
    try simp only [Act.put, List.setIfInBounds_toArray, List.set_cons_zero, List.set_cons_succ]
    refine wpAnyL_take (i := 17) (f := 12) (oi := ?oo17) (v := ?vv17) ?ii17 (by kernel_rfl) ?ff17 (by kernel_rfl) ?pp17 ?qq17 (Or.inl ⟨?ww17, ?yy17⟩) hg0 ?rr17
    case ii17 => simp only [List.getElem?_toArray, List.getElem?_cons_succ, List.getElem?_cons_zero]; rfl
    case ff17 => kernel_rfl
    case pp17 => kernel_rfl
    case qq17 => exact fun _ _ _ h => h
    case ww17 => rfl
    case yy17 => intro W hW; go_simp <;> with_reducible rfl
    try simp only [Act.put, List.setIfInBounds_toArray, List.set_cons_zero, List.set_cons_succ]
    refine wpAnyL_take (i := 18) (f := 12) (oi := ?oo18) (v := ?vv18) ?ii18 (by kernel_rfl) ?ff18 (by kernel_rfl) ?pp18 ?qq18 (Or.inl ⟨?ww18, ?yy18⟩) hg0 ?rr18
    case ii18 => simp only [List.getElem?_toArray, List.getElem?_cons_succ, List.getElem?_cons_zero]; rfl
    case ff18 => kernel_rfl
    case pp18 => kernel_rfl
    case qq18 => exact fun _ _ _ h => h
    case ww18 => rfl
    case yy18 => intro W hW; go_simp <;> with_reducible rfl
    try simp only [Act.put, List.setIfInBounds_toArray, List.set_cons_zero, List.set_cons_succ]
    refine wpAnyL_take (i := 19) (f := 12) (oi := ?oo19) (v := ?vv19) ?ii19 (by kernel_rfl) ?ff19 (by kernel_rfl) ?pp19 ?qq19 (Or.inl ⟨?ww19, ?yy19⟩) hg0 ?rr19
    case ii19 => simp only [List.getElem?_toArray, List.getElem?_cons_succ, List.getElem?_cons_zero]; rfl
    case ff19 => kernel_rfl
    case pp19 => kernel_rfl
    case qq19 => exact fun _ _ _ h => h
    case ww19 => rfl
    case yy19 => intro W hW; go_simp <;> with_reducible rfl
    try simp only [Act.put, List.setIfInBounds_toArray, List.set_cons_zero, List.set_cons_succ]
    refine wpAnyL_take (i := 22) (f := 12) (oi := ?oo20) (v := ?vv20) ?ii20 (by kernel_rfl) ?ff20 (by kernel_rfl) ?pp20 ?qq20 (Or.inl ⟨?ww20, ?yy20⟩) hg0 ?rr20
    case ii20 => simp only [List.getElem?_toArray, List.getElem?_cons_succ, List.getElem?_cons_zero]; rfl
    case ff20 => kernel_rfl
    case pp20 => kernel_rfl
    case qq20 => exact fun _ _ _ h => h
    case ww20 => rfl
    case yy20 => intro W hW; go_simp <;> with_reducible rfl
    try simp only [Act.put, List.setIfInBounds_toArray, List.set_cons_zero, List.set_cons_succ]
    refine wpAnyL_take (i := 23) (f := 12) (oi := ?oo21) (v := ?vv21) ?ii21 (by kernel_rfl) ?ff21 (by kernel_rfl) ?pp21 ?qq21 (Or.inl ⟨?ww21, ?yy21⟩) hg0 ?rr21
    case ii21 => simp only [List.getElem?_toArray, List.getElem?_cons_succ, List.getElem?_cons_zero]; rfl
    case ff21 => kernel_rfl
    case pp21 => kernel_rfl
    case qq21 => exact fun _ _ _ h => h
    case ww21 => rfl
    case yy21 => intro W hW; go_simp <;> with_reducible rfl
    try simp only [Act.put, List.setIfInBounds_toArray, List.set_cons_zero, List.set_cons_succ]
    refine wpAnyL_take (i := 24) (f := 12) (oi := ?oo22) (v := ?vv22) ?ii22 (by kernel_rfl) ?ff22 (by kernel_rfl) ?pp22 ?qq22 (Or.inl ⟨?ww22, ?yy22⟩) hg0 ?rr22
    case ii22 => simp only [List.getElem?_toArray, List.getElem?_cons_succ, List.getElem?_cons_zero]; rfl
    case ff22 => kernel_rfl
    case pp22 => kernel_rfl
    case qq22 => exact fun _ _ _ h => h
    case ww22 => rfl
    case yy22 => intro W hW; go_simp <;> with_reducible rfl
    try simp only [Act.put, List.setIfInBounds_toArray, List.set_cons_zero, List.set_cons_succ]
    refine wpAnyL_take (i := 25) (f := 12) (oi := ?oo23) (v := ?vv23) ?ii23 (by kernel_rfl) ?ff23 (by kernel_rfl) ?pp23 ?qq23 (Or.inl ⟨?ww23, ?yy23⟩) hg0 ?rr23
    case ii23 => simp only [List.getElem?_toArray, List.getElem?_cons_succ, List.getElem?_cons_zero]; rfl
    case ff23 => kernel_rfl
    case pp23 => kernel_rfl
    case qq23 => exact fun _ _ _ h => h
    case ww23 => rfl
    case yy23 => intro W hW; go_simp <;> with_reducible rfl
    try simp only [Act.put, List.setIfInBounds_toArray, List.set_cons_zero, List.set_cons_succ]
    refine wpAnyL_one (k := 14) (o := ?oo24) (by kernel_rfl) ?ii24 (fun K hK => ?_)
    case ii24 => simp only [List.getElem?_toArray, List.getElem?_cons_succ, List.getElem?_cons_zero]; rfl
    go_simp
    refine (C0.out _).mono ?_
    rintro e w2 ⟨rfl, hm2⟩
    have hb2 := drewn_below' hm2
    have hg1 : RefS B b ⟨nodes, faulty, slot, gap, rho, dmin, dmax, margin, PA, pn, pcap, parts, QA, qn, qcap, ports, RA, rn, rcap, routes⟩ me since rate cold gd gh N hs1 ds w2 := RefIn.below hg0 hb2
    have hb1' := hb0.trans (hb2.mono hb0.size)
    clear hb2 hg0 hb0 C0 hm2
    go_wp2_with fail
    refine hK.out _ _ (fun _ => hg1) ?_
    clear hK K
    refine wpAnyL_one (k := 20) (o := ?oo25) (by kernel_rfl) ?ii25 (fun K hK => ?_)
    case ii25 => simp only [List.getElem?_toArray, List.getElem?_cons_succ, List.getElem?_cons_zero]; rfl
    go_simp
    refine (C1.out _).mono ?_
    rintro e w3 ⟨rfl, hb2⟩
    have hg2 : RefS B b ⟨nodes, faulty, slot, gap, rho, dmin, dmax, margin, PA, pn, pcap, parts, QA, qn, qcap, ports, RA, rn, rcap, routes⟩ me since rate cold gd gh N hs1 ds w3 := RefIn.below hg1 hb2
    have hb2' := hb1'.trans (hb2.mono hb1'.size)
    clear hb2 hg1 hb1' C1
    go_wp2_with fail
    refine hK.out _ _ (fun _ => hg2) ?_
    clear hK K
    refine wpAnyL_take (i := 21) (f := 12) (oi := ?oo26) (v := ?vv26) ?ii26 (by kernel_rfl) ?ff26 (by kernel_rfl) ?pp26 ?qq26 (Or.inl ⟨?ww26, ?yy26⟩) hg2 ?rr26
    case ii26 => simp only [List.getElem?_toArray, List.getElem?_cons_succ, List.getElem?_cons_zero]; rfl
    case ff26 => kernel_rfl
    case pp26 => kernel_rfl
    case qq26 => exact fun _ _ _ h => h
    case ww26 => rfl
    case yy26 => intro W hW; go_simp <;> with_reducible rfl
    try simp only [Act.put, List.setIfInBounds_toArray, List.set_cons_zero, List.set_cons_succ]
    refine wpAnyL_one (k := 26) (o := ?oo27) (by kernel_rfl) ?ii27 (fun K hK => ?_)
    case ii27 => simp only [List.getElem?_toArray, List.getElem?_cons_succ, List.getElem?_cons_zero]; rfl
    go_simp
    refine (C2.out _).mono ?_
    rintro e w4 ⟨rfl, hb3⟩
    have hg3 : RefS B b ⟨nodes, faulty, slot, gap, rho, dmin, dmax, margin, PA, pn, pcap, parts, QA, qn, qcap, ports, RA, rn, rcap, routes⟩ me since rate cold gd gh N hs1 ds w4 := RefIn.below hg2 hb3
    have hb3' := hb2'.trans (hb3.mono hb2'.size)
    clear hb3 hg2 hb2' C2
    go_wp2_with fail
    refine hK.out _ _ (fun _ => hg3) ?_
    clear hK K
    refine wpAnyL_take (i := 27) (f := 12) (oi := ?oo28) (v := ?vv28) ?ii28 (by kernel_rfl) ?ff28 (by kernel_rfl) ?pp28 ?qq28 (Or.inl ⟨?ww28, ?yy28⟩) hg3 ?rr28
    case ii28 => simp only [List.getElem?_toArray, List.getElem?_cons_succ, List.getElem?_cons_zero]; rfl
    case ff28 => kernel_rfl
    case pp28 => kernel_rfl
    case qq28 => exact fun _ _ _ h => h
    case ww28 => rfl
    case yy28 => intro W hW; go_simp <;> with_reducible rfl
    try simp only [Act.put, List.setIfInBounds_toArray, List.set_cons_zero, List.set_cons_succ]
    refine wpAnyL_take (i := 28) (f := 12) (oi := ?oo29) (v := ?vv29) ?ii29 (by kernel_rfl) ?ff29 (by kernel_rfl) ?pp29 ?qq29 (Or.inl ⟨?ww29, ?yy29⟩) hg3 ?rr29
    case ii29 => simp only [List.getElem?_toArray, List.getElem?_cons_succ, List.getElem?_cons_zero]; rfl
    case ff29 => kernel_rfl
    case pp29 => kernel_rfl
    case qq29 => exact fun _ _ _ h => h
    case ww29 => rfl
    case yy29 => intro W hW; go_simp <;> with_reducible rfl
    try simp only [Act.put, List.setIfInBounds_toArray, List.set_cons_zero, List.set_cons_succ]
    have kD := HD.out _ hg3
    have kF := HDF.out _ hg3
    have HFin := Lib.hid (HE.out _ _ hg3 A1.out hb3')
    clear hg3 hb3' HD HDF HE A1 d0 d1 d2 d3 d4 d5 d6 d7 d8 d9 d10 d12 d13 d15
    refine wpAnyL_last (k := 29) (o := ?oo30) (by kernel_rfl) ?ii30 (fun K hK => ?_)
    case ii30 => simp only [List.getElem?_toArray, List.getElem?_cons_succ, List.getElem?_cons_zero]; rfl
    go_simp
    go_wp2_with fail
    refine hK.out _ _ ?_
    clear hK K
    refine wpAnyL_done (by kernel_rfl) ?_ _
    clear kD kF
    go_wp2_with fail
    go_ret
    exact HFin.out
  · go_enter Try.func18, Try.ntmps18
    go_wp2_with fail
    clear hB hFr k11 k14 k16 k0
    generalize w.setCell ⟨gh, k, none⟩ (.bool true) = w1 at *
    have hg0 : RefS B b ⟨nodes, faulty, slot, gap, rho, dmin, dmax, margin, PA, pn, pcap, parts, QA, qn, qcap, ports, RA, rn, rcap, routes⟩ me since rate true gd gh N hs1 ds w1.drew := RefIn.drew H1.out
    have hb0 : Below w1.heap.size w1 w1.drew := (Below.refl _ _).drew
    clear H1
    refine wp_region_L_drew (st := 29) (S := fun W => RefS B b ⟨nodes, faulty, slot, gap, rho, dmin, dmax, margin, PA, pn, pcap, parts, QA, qn, qcap, ports, RA, rn, rcap, routes⟩ me since rate true gd gh N hs1 ds W) (by kernel_rfl) hg0 (fun _ => ?_)
    refine wpAnyL_take (i := 0) (f := 12) (oi := ?oo31) (v := ?vv31) ?ii31 (by kernel_rfl) ?ff31 (by kernel_rfl) ?pp31 ?qq31 (Or.inl ⟨?ww31, ?yy31⟩) hg0 ?rr31
    case ii31 => simp only [List.getElem?_toArray, List.getElem?_cons_zero]; rfl
    case ff31 => kernel_rfl
    case pp31 => kernel_rfl
    case qq31 => exact fun _ _ _ h => h
    case ww31 => rfl
    case yy31 => intro W hW; go_simp <;> with_reducible rfl
    try simp only [Act.put, List.setIfInBounds_toArray, List.set_cons_zero, List.set_cons_succ]
    refine wpAnyL_take (i := 1) (f := 12) (oi := ?oo32) (v := ?vv32) ?ii32 (by kernel_rfl) ?ff32 (by kernel_rfl) ?pp32 ?qq32 (Or.inl ⟨?ww32, ?yy32⟩) hg0 ?rr32
    case ii32 => simp only [List.getElem?_toArray, List.getElem?_cons_succ, List.getElem?_cons_zero]; rfl
    case ff32 => kernel_rfl
    case pp32 => kernel_rfl
    case qq32 => exact fun _ _ _ h => h
    case ww32 => rfl
    case yy32 => intro W hW; go_simp <;> with_reducible rfl
    try simp only [Act.put, List.setIfInBounds_toArray, List.set_cons_zero, List.set_cons_succ]
    refine wpAnyL_take (i := 2) (f := 12) (oi := ?oo33) (v := ?vv33) ?ii33 (by kernel_rfl) ?ff33 (by kernel_rfl) ?pp33 ?qq33 (Or.inl ⟨?ww33, ?yy33⟩) hg0 ?rr33
    case ii33 => simp only [List.getElem?_toArray, List.getElem?_cons_succ, List.getElem?_cons_zero]; rfl
    case ff33 => kernel_rfl
    case pp33 => kernel_rfl
    case qq33 => exact fun _ _ _ h => h
    case ww33 => rfl
    case yy33 => intro W hW; go_simp <;> with_reducible rfl
    try simp only [Act.put, List.setIfInBounds_toArray, List.set_cons_zero, List.set_cons_succ]
    refine wpAnyL_take (i := 3) (f := 12) (oi := ?oo34) (v := ?vv34) ?ii34 (by kernel_rfl) ?ff34 (by kernel_rfl) ?pp34 ?qq34 (Or.inl ⟨?ww34, ?yy34⟩) hg0 ?rr34
    case ii34 => simp only [List.getElem?_toArray, List.getElem?_cons_succ, List.getElem?_cons_zero]; rfl
    case ff34 => kernel_rfl
    case pp34 => kernel_rfl
    case qq34 => exact fun _ _ _ h => h
    case ww34 => rfl
    case yy34 => intro W hW; go_simp <;> with_reducible rfl
    try simp only [Act.put, List.setIfInBounds_toArray, List.set_cons_zero, List.set_cons_succ]
    refine wpAnyL_take (i := 4) (f := 12) (oi := ?oo35) (v := ?vv35) ?ii35 (by kernel_rfl) ?ff35 (by kernel_rfl) ?pp35 ?qq35 (Or.inl ⟨?ww35, ?yy35⟩) hg0 ?rr35
    case ii35 => simp only [List.getElem?_toArray, List.getElem?_cons_succ, List.getElem?_cons_zero]; rfl
    case ff35 => kernel_rfl
    case pp35 => kernel_rfl
    case qq35 => exact fun _ _ _ h => h
    case ww35 => rfl
    case yy35 => intro W hW; go_simp <;> with_reducible rfl
    try simp only [Act.put, List.setIfInBounds_toArray, List.set_cons_zero, List.set_cons_succ]
    refine wpAnyL_take (i := 5) (f := 12) (oi := ?oo36) (v := ?vv36) ?ii36 (by kernel_rfl) ?ff36 (by kernel_rfl) ?pp36 ?qq36 (Or.inl ⟨?ww36, ?yy36⟩) hg0 ?rr36
    case ii36 => simp only [List.getElem?_toArray, List.getElem?_cons_succ, List.getElem?_cons_zero]; rfl
    case ff36 => kernel_rfl
    case pp36 => kernel_rfl
    case qq36 => exact fun _ _ _ h => h
    case ww36 => rfl
    case yy36 => intro W hW; go_simp <;> with_reducible rfl
    try simp only [Act.put, List.setIfInBounds_toArray, List.set_cons_zero, List.set_cons_succ]
    refine wpAnyL_take (i := 6) (f := 12) (oi := ?oo37) (v := ?vv37) ?ii37 (by kernel_rfl) ?ff37 (by kernel_rfl) ?pp37 ?qq37 (Or.inl ⟨?ww37, ?yy37⟩) hg0 ?rr37
    case ii37 => simp only [List.getElem?_toArray, List.getElem?_cons_succ, List.getElem?_cons_zero]; rfl
    case ff37 => kernel_rfl
    case pp37 => kernel_rfl
    case qq37 => exact fun _ _ _ h => h
    case ww37 => rfl
    case yy37 => intro W hW; go_simp <;> with_reducible rfl
    try simp only [Act.put, List.setIfInBounds_toArray, List.set_cons_zero, List.set_cons_succ]
    refine wpAnyL_take (i := 7) (f := 12) (oi := ?oo38) (v := ?vv38) ?ii38 (by kernel_rfl) ?ff38 (by kernel_rfl) ?pp38 ?qq38 (Or.inl ⟨?ww38, ?yy38⟩) hg0 ?rr38
    case ii38 => simp only [List.getElem?_toArray, List.getElem?_cons_succ, List.getElem?_cons_zero]; rfl
    case ff38 => kernel_rfl
    case pp38 => kernel_rfl
    case qq38 => exact fun _ _ _ h => h
    case ww38 => rfl
    case yy38 => intro W hW; go_simp <;> with_reducible rfl
    try simp only [Act.put, List.setIfInBounds_toArray, List.set_cons_zero, List.set_cons_succ]
    refine wpAnyL_take (i := 8) (f := 12) (oi := ?oo39) (v := ?vv39) ?ii39 (by kernel_rfl) ?ff39 (by kernel_rfl) ?pp39 ?qq39 (Or.inl ⟨?ww39, ?yy39⟩) hg0 ?rr39
    case ii39 => simp only [List.getElem?_toArray, List.getElem?_cons_succ, List.getElem?_cons_zero]; rfl
    case ff39 => kernel_rfl
    case pp39 => kernel_rfl
    case qq39 => exact fun _ _ _ h => h
    case ww39 => rfl
    case yy39 => intro W hW; go_simp <;> with_reducible rfl
    try simp only [Act.put, List.setIfInBounds_toArray, List.set_cons_zero, List.set_cons_succ]
    refine wpAnyL_take (i := 9) (f := 12) (oi := ?oo40) (v := ?vv40) ?ii40 (by kernel_rfl) ?ff40 (by kernel_rfl) ?pp40 ?qq40 (Or.inl ⟨?ww40, ?yy40⟩) hg0 ?rr40
    case ii40 => simp only [List.getElem?_toArray, List.getElem?_cons_succ, List.getElem?_cons_zero]; rfl
    case ff40 => kernel_rfl
    case pp40 => kernel_rfl
    case qq40 => exact fun _ _ _ h => h
    case ww40 => rfl
    case yy40 => intro W hW; go_simp <;> with_reducible rfl
    try simp only [Act.put, List.setIfInBounds_toArray, List.set_cons_zero, List.set_cons_succ]
    refine wpAnyL_take (i := 10) (f := 12) (oi := ?oo41) (v := ?vv41) ?ii41 (by kernel_rfl) ?ff41 (by kernel_rfl) ?pp41 ?qq41 (Or.inl ⟨?ww41, ?yy41⟩) hg0 ?rr41
    case ii41 => simp only [List.getElem?_toArray, List.getElem?_cons_succ, List.getElem?_cons_zero]; rfl
    case ff41 => kernel_rfl
    case pp41 => kernel_rfl
    case qq41 => exact fun _ _ _ h => h
    case ww41 => rfl
    case yy41 => intro W hW; go_simp <;> with_reducible rfl
    try simp only [Act.put, List.setIfInBounds_toArray, List.set_cons_zero, List.set_cons_succ]
    refine wpAnyL_take (i := 11) (f := 12) (oi := ?oo42) (v := ?vv42) ?ii42 (by kernel_rfl) ?ff42 (by kernel_rfl) ?pp42 ?qq42 (Or.inl ⟨?ww42, ?yy42⟩) hg0 ?rr42
    case ii42 => simp only [List.getElem?_toArray, List.getElem?_cons_succ, List.getElem?_cons_zero]; rfl
    case ff42 => kernel_rfl
    case pp42 => kernel_rfl
    case qq42 => exact fun _ _ _ h => h
    case ww42 => rfl
    case yy42 => intro W hW; go_simp <;> with_reducible rfl
    try simp only [Act.put, List.setIfInBounds_toArray, List.set_cons_zero, List.set_cons_succ]
    refine wpAnyL_take (i := 12) (f := 12) (oi := ?oo43) (v := ?vv43) ?ii43 (by kernel_rfl) ?ff43 (by kernel_rfl) ?pp43 ?qq43 (Or.inl ⟨?ww43, ?yy43⟩) hg0 ?rr43
    case ii43 => simp only [List.getElem?_toArray, List.getElem?_cons_succ, List.getElem?_cons_zero]; rfl
    case ff43 => kernel_rfl
    case pp43 => kernel_rfl
    case qq43 => exact fun _ _ _ h => h
    case ww43 => rfl
    case yy43 => intro W hW; go_simp <;> with_reducible rfl
    try simp only [Act.put, List.setIfInBounds_toArray, List.set_cons_zero, List.set_cons_succ]
    refine wpAnyL_take (i := 13) (f := 12) (oi := ?oo44) (v := ?vv44) ?ii44 (by kernel_rfl) ?ff44 (by kernel_rfl) ?pp44 ?qq44 (Or.inl ⟨?ww44, ?yy44⟩) hg0 ?rr44
    case ii44 => simp only [List.getElem?_toArray, List.getElem?_cons_succ, List.getElem?_cons_zero]; rfl
    case ff44 => kernel_rfl
    case pp44 => kernel_rfl
    case qq44 => exact fun _ _ _ h => h
    case ww44 => rfl
    case yy44 => intro W hW; go_simp <;> with_reducible rfl
    try simp only [Act.put, List.setIfInBounds_toArray, List.set_cons_zero, List.set_cons_succ]
    refine wpAnyL_take (i := 15) (f := 12) (oi := ?oo45) (v := ?vv45) ?ii45 (by kernel_rfl) ?ff45 (by kernel_rfl) ?pp45 ?qq45 (Or.inl ⟨?ww45, ?yy45⟩) hg0 ?rr45
    case ii45 => simp only [List.getElem?_toArray, List.getElem?_cons_succ, List.getElem?_cons_zero]; rfl
    case ff45 => kernel_rfl
    case pp45 => kernel_rfl
    case qq45 => exact fun _ _ _ h => h
    case ww45 => rfl
    case yy45 => intro W hW; go_simp <;> with_reducible rfl
    try simp only [Act.put, List.setIfInBounds_toArray, List.set_cons_zero, List.set_cons_succ]
    refine wpAnyL_take (i := 16) (f := 12) (oi := ?oo46) (v := ?vv46) ?ii46 (by kernel_rfl) ?ff46 (by kernel_rfl) ?pp46 ?qq46 (Or.inl ⟨?ww46, ?yy46⟩) hg0 ?rr46
    case ii46 => simp only [List.getElem?_toArray, List.getElem?_cons_succ, List.getElem?_cons_zero]; rfl
    case ff46 => kernel_rfl
    case pp46 => kernel_rfl
    case qq46 => exact fun _ _ _ h => h
    case ww46 => rfl
    case yy46 => intro W hW; go_simp <;> with_reducible rfl
    try simp only [Act.put, List.setIfInBounds_toArray, List.set_cons_zero, List.set_cons_succ]
    refine wpAnyL_take (i := 17) (f := 12) (oi := ?oo47) (v := ?vv47) ?ii47 (by kernel_rfl) ?ff47 (by kernel_rfl) ?pp47 ?qq47 (Or.inl ⟨?ww47, ?yy47⟩) hg0 ?rr47
    case ii47 => simp only [List.getElem?_toArray, List.getElem?_cons_succ, List.getElem?_cons_zero]; rfl
    case ff47 => kernel_rfl
    case pp47 => kernel_rfl
    case qq47 => exact fun _ _ _ h => h
    case ww47 => rfl
    case yy47 => intro W hW; go_simp <;> with_reducible rfl
    try simp only [Act.put, List.setIfInBounds_toArray, List.set_cons_zero, List.set_cons_succ]
    refine wpAnyL_take (i := 18) (f := 12) (oi := ?oo48) (v := ?vv48) ?ii48 (by kernel_rfl) ?ff48 (by kernel_rfl) ?pp48 ?qq48 (Or.inl ⟨?ww48, ?yy48⟩) hg0 ?rr48
    case ii48 => simp only [List.getElem?_toArray, List.getElem?_cons_succ, List.getElem?_cons_zero]; rfl
    case ff48 => kernel_rfl
    case pp48 => kernel_rfl
    case qq48 => exact fun _ _ _ h => h
    case ww48 => rfl
    case yy48 => intro W hW; go_simp <;> with_reducible rfl
    try simp only [Act.put, List.setIfInBounds_toArray, List.set_cons_zero, List.set_cons_succ]
    refine wpAnyL_take (i := 19) (f := 12) (oi := ?oo49) (v := ?vv49) ?ii49 (by kernel_rfl) ?ff49 (by kernel_rfl) ?pp49 ?qq49 (Or.inl ⟨?ww49, ?yy49⟩) hg0 ?rr49
    case ii49 => simp only [List.getElem?_toArray, List.getElem?_cons_succ, List.getElem?_cons_zero]; rfl
    case ff49 => kernel_rfl
    case pp49 => kernel_rfl
    case qq49 => exact fun _ _ _ h => h
    case ww49 => rfl
    case yy49 => intro W hW; go_simp <;> with_reducible rfl
    try simp only [Act.put, List.setIfInBounds_toArray, List.set_cons_zero, List.set_cons_succ]
    refine wpAnyL_take (i := 22) (f := 12) (oi := ?oo50) (v := ?vv50) ?ii50 (by kernel_rfl) ?ff50 (by kernel_rfl) ?pp50 ?qq50 (Or.inl ⟨?ww50, ?yy50⟩) hg0 ?rr50
    case ii50 => simp only [List.getElem?_toArray, List.getElem?_cons_succ, List.getElem?_cons_zero]; rfl
    case ff50 => kernel_rfl
    case pp50 => kernel_rfl
    case qq50 => exact fun _ _ _ h => h
    case ww50 => rfl
    case yy50 => intro W hW; go_simp <;> with_reducible rfl
    try simp only [Act.put, List.setIfInBounds_toArray, List.set_cons_zero, List.set_cons_succ]
    refine wpAnyL_take (i := 23) (f := 12) (oi := ?oo51) (v := ?vv51) ?ii51 (by kernel_rfl) ?ff51 (by kernel_rfl) ?pp51 ?qq51 (Or.inl ⟨?ww51, ?yy51⟩) hg0 ?rr51
    case ii51 => simp only [List.getElem?_toArray, List.getElem?_cons_succ, List.getElem?_cons_zero]; rfl
    case ff51 => kernel_rfl
    case pp51 => kernel_rfl
    case qq51 => exact fun _ _ _ h => h
    case ww51 => rfl
    case yy51 => intro W hW; go_simp <;> with_reducible rfl
    try simp only [Act.put, List.setIfInBounds_toArray, List.set_cons_zero, List.set_cons_succ]
    refine wpAnyL_take (i := 24) (f := 12) (oi := ?oo52) (v := ?vv52) ?ii52 (by kernel_rfl) ?ff52 (by kernel_rfl) ?pp52 ?qq52 (Or.inl ⟨?ww52, ?yy52⟩) hg0 ?rr52
    case ii52 => simp only [List.getElem?_toArray, List.getElem?_cons_succ, List.getElem?_cons_zero]; rfl
    case ff52 => kernel_rfl
    case pp52 => kernel_rfl
    case qq52 => exact fun _ _ _ h => h
    case ww52 => rfl
    case yy52 => intro W hW; go_simp <;> with_reducible rfl
    try simp only [Act.put, List.setIfInBounds_toArray, List.set_cons_zero, List.set_cons_succ]
    refine wpAnyL_take (i := 25) (f := 12) (oi := ?oo53) (v := ?vv53) ?ii53 (by kernel_rfl) ?ff53 (by kernel_rfl) ?pp53 ?qq53 (Or.inl ⟨?ww53, ?yy53⟩) hg0 ?rr53
    case ii53 => simp only [List.getElem?_toArray, List.getElem?_cons_succ, List.getElem?_cons_zero]; rfl
    case ff53 => kernel_rfl
    case pp53 => kernel_rfl
    case qq53 => exact fun _ _ _ h => h
    case ww53 => rfl
    case yy53 => intro W hW; go_simp <;> with_reducible rfl
    try simp only [Act.put, List.setIfInBounds_toArray, List.set_cons_zero, List.set_cons_succ]
    refine wpAnyL_one (k := 14) (o := ?oo54) (by kernel_rfl) ?ii54 (fun K hK => ?_)
    case ii54 => simp only [List.getElem?_toArray, List.getElem?_cons_succ, List.getElem?_cons_zero]; rfl
    go_simp
    refine (C0.out _).mono ?_
    rintro e w2 ⟨rfl, hm2⟩
    have hb2 := drewn_below' hm2
    have hg1 : RefS B b ⟨nodes, faulty, slot, gap, rho, dmin, dmax, margin, PA, pn, pcap, parts, QA, qn, qcap, ports, RA, rn, rcap, routes⟩ me since rate true gd gh N hs1 ds w2 := RefIn.below hg0 hb2
    have hb1' := hb0.trans (hb2.mono hb0.size)
    clear hb2 hg0 hb0 C0 hm2
    go_wp2_with fail
    refine hK.out _ _ (fun _ => hg1) ?_
    clear hK K
    refine wpAnyL_one (k := 20) (o := ?oo55) (by kernel_rfl) ?ii55 (fun K hK => ?_)
    case ii55 => simp only [List.getElem?_toArray, List.getElem?_cons_succ, List.getElem?_cons_zero]; rfl
    go_simp
    refine (C1.out _).mono ?_
    rintro e w3 ⟨rfl, hb2⟩
    have hg2 : RefS B b ⟨nodes, faulty, slot, gap, rho, dmin, dmax, margin, PA, pn, pcap, parts, QA, qn, qcap, ports, RA, rn, rcap, routes⟩ me since rate true gd gh N hs1 ds w3 := RefIn.below hg1 hb2
    have hb2' := hb1'.trans (hb2.mono hb1'.size)
    clear hb2 hg1 hb1' C1
    go_wp2_with fail
    refine hK.out _ _ (fun _ => hg2) ?_
    clear hK K
    refine wpAnyL_take (i := 21) (f := 12) (oi := ?oo56) (v := ?vv56) ?ii56 (by kernel_rfl) ?ff56 (by kernel_rfl) ?pp56 ?qq56 (Or.inl ⟨?ww56, ?yy56⟩) hg2 ?rr56
    case ii56 => simp only [List.getElem?_toArray, List.getElem?_cons_succ, List.getElem?_cons_zero]; rfl
    case ff56 => kernel_rfl
    case pp56 => kernel_rfl
    case qq56 => exact fun _ _ _ h => h
    case ww56 => rfl
    case yy56 => intro W hW; go_simp <;> with_reducible rfl
    try simp only [Act.put, List.setIfInBounds_toArray, List.set_cons_zero, List.set_cons_succ]
    refine wpAnyL_one (k := 26) (o := ?oo57) (by kernel_rfl) ?ii57 (fun K hK => ?_)
    case ii57 => simp only [List.getElem?_toArray, List.getElem?_cons_succ, List.getElem?_cons_zero]; rfl
    go_simp
    refine (C2.out _).mono ?_
    rintro e w4 ⟨rfl, hb3⟩
    have hg3 : RefS B b ⟨nodes, faulty, slot, gap, rho, dmin, dmax, margin, PA, pn, pcap, parts, QA, qn, qcap, ports, RA, rn, rcap, routes⟩ me since rate true gd gh N hs1 ds w4 := RefIn.below hg2 hb3
    have hb3' := hb2'.trans (hb3.mono hb2'.size)
    clear hb3 hg2 hb2' C2
    go_wp2_with fail
    refine hK.out _ _ (fun _ => hg3) ?_
    clear hK K
    refine wpAnyL_take (i := 27) (f := 12) (oi := ?oo58) (v := ?vv58) ?ii58 (by kernel_rfl) ?ff58 (by kernel_rfl) ?pp58 ?qq58 (Or.inl ⟨?ww58, ?yy58⟩) hg3 ?rr58
    case ii58 => simp only [List.getElem?_toArray, List.getElem?_cons_succ, List.getElem?_cons_zero]; rfl
    case ff58 => kernel_rfl
    case pp58 => kernel_rfl
    case qq58 => exact fun _ _ _ h => h
    case ww58 => rfl
    case yy58 => intro W hW; go_simp <;> with_reducible rfl
    try simp only [Act.put, List.setIfInBounds_toArray, List.set_cons_zero, List.set_cons_succ]
    refine wpAnyL_take (i := 28) (f := 12) (oi := ?oo59) (v := ?vv59) ?ii59 (by kernel_rfl) ?ff59 (by kernel_rfl) ?pp59 ?qq59 (Or.inl ⟨?ww59, ?yy59⟩) hg3 ?rr59
    case ii59 => simp only [List.getElem?_toArray, List.getElem?_cons_succ, List.getElem?_cons_zero]; rfl
    case ff59 => kernel_rfl
    case pp59 => kernel_rfl
    case qq59 => exact fun _ _ _ h => h
    case ww59 => rfl
    case yy59 => intro W hW; go_simp <;> with_reducible rfl
    try simp only [Act.put, List.setIfInBounds_toArray, List.set_cons_zero, List.set_cons_succ]
    have kD := HD.out _ hg3
    have kF := HDF.out _ hg3
    have HFin := Lib.hid (HE.out _ _ hg3 A1.out hb3')
    clear hg3 hb3' HD HDF HE A1 d0 d1 d2 d3 d4 d5 d6 d7 d8 d9 d10 d12 d13 d15
    refine wpAnyL_last (k := 29) (o := ?oo60) (by kernel_rfl) ?ii60 (fun K hK => ?_)
    case ii60 => simp only [List.getElem?_toArray, List.getElem?_cons_succ, List.getElem?_cons_zero]; rfl
    go_simp
    go_wp2_with fail
    refine hK.out _ _ ?_
    clear hK K
    refine wpAnyL_done (by kernel_rfl) ?_ _
    clear kD kF
    go_wp2_with fail
    go_ret
    exact HFin.out

def RCtdR (w : World) (N : Nat) (cold : Bool) (me : Int) (hs : List Bool) (ds : List Int) (v i : Value) (W : World) : Prop :=
  ∃ k, k ≤ N ∧ i = .int .i64 (k : Nat) ∧ W.ownsRow w.heap.size 3 1 v (PacQ.cntd cold me hs ds k).length (intV (PacQ.cntd cold me hs ds k)) ∧ Below w.heap.size w W
theorem rctd_more {w wr w9 : World} {N k n : Nat} {cold : Bool} {me : Int} {hs : List Bool} {ds : List Int} {l : List Int} {d : Int} {v9 : Value} (hk : k < N) (e : PacQ.cntd cold me hs ds (k + 1) = l ++ [d]) (hn : n = l.length)
    (hb : Below w.heap.size w wr) (h1 : w9.ownsRow w.heap.size 3 1 v9 (n + 1) (intV l ++ [.int .i64 d])) (h2 : Below w.heap.size wr w9) : RCtdR w N cold me hs ds v9 (.int .i64 ((k : Int) + 1)) w9 := by
  refine ⟨k + 1, hk, by go_num, ?_, hb.trans h2⟩
  rw [e, List.length_append, intV_append]
  subst hn
  exact h1

set_option maxHeartbeats 4000000 in
theorem rturn_good (x : CfgC) (me since rate : Int) (cold : Bool) (gd gh N : Nat) (hs : List Bool) (ds : List Int) (F : Nat) (hN : x.nodes = (N : Int)) (hF : x.faulty = (F : Int)) (hN7 : N ≤ 7) (hd : PacQ.Devs ds) (hf : 2 * F + 1 ≤ (PacQ.cntd cold me hs ds N).length) (B b : Nat) (w : World) (h : RefIn w B b x me since rate cold gd gh N hs ds) :
    Calls Try.prog 20 #[qv b] w (RefMidGood (MidP.midT (PacQ.cntd cold me hs ds N) F) w) := by
  have hi := ints_of (PacQ.cntd_in (cold := cold) (me := me) (hs := hs) hd (k := N) (by rw [h.dlen]; exact hN7))
  have hlenN := PacQ.cntd_len (cold := cold) (me := me) (hs := hs) (ds := ds) (k := N)
  have HM : Hid (∀ l, l = PacQ.cntd cold me hs ds N → ∀ A cap W, IntsIn W A l → Calls Try.prog 43 #[.slice A l.length cap, .int .i64 (F : Nat)] W (RefMidGood (MidP.midT (PacQ.cntd cold me hs ds N) F) W)) := Lib.hid fun l hl A cap W hW => by subst hl; exact refmid_good A _ cap _ rfl (by omega) F hf W hW hi
  generalize MidP.midT (PacQ.cntd cold me hs ds N) F = m at *
  clear hi hlenN hf hd
  unfold RefMidGood at *
  have HS0 : Hid (RCtdR w N cold me hs ds (.slice none 0 0) (.int .i64 0) w) := Lib.hid ⟨0, Nat.zero_le _, rfl, World.ownsRow_nil _ _ _ _, Below.refl _ _⟩
  have HPI := Lib.hid (fun W (hW : Below w.heap.size w W) => h.below hW)
  have HK0 : Hid (∀ W, RefIn W B b x me since rate cold gd gh N hs ds → W.cell? ⟨b, 0, none⟩ = some (.int .i64 (N : Nat))) := Lib.hid fun W hW => by rw [← hN]; exact hW.cfg.c0
  have HK1 : Hid (∀ W, RefIn W B b x me since rate cold gd gh N hs ds → W.cell? ⟨b, 1, none⟩ = some (.int .i64 (F : Nat))) := Lib.hid fun W hW => by rw [← hF]; exact hW.cfg.c1
  have hh7 := h.hlen
  have hd7 := h.dlen
  clear h hN hF
  unfold qv
  go_enter Try.func20, Try.ntmps20
  go_wp2_with fail
  go_loopw [4, 5] (RCtdR w N cold me hs ds) (fun _ i _ => (N + 1 - intOf i).toNat)
  case atStart => exact HS0.out
  case round =>
    clear HS0
    obtain ⟨k, hk, rfl, ho, hb⟩ := hrel
    obtain ⟨wo, ewo⟩ : ∃ wo, wo = wr := ⟨_, rfl⟩
    subst ewo
    have HP := Lib.hid (HPI.out wo hb)
    obtain ⟨l, hl⟩ : ∃ l, l = PacQ.cntd cold me hs ds k := ⟨_, rfl⟩
    have hlen := PacQ.cntd_len (cold := cold) (me := me) (hs := hs) (ds := ds) (k := k)
    rw [← hl] at ho hlen
    by_cases hkn : k < N
    case neg =>
      obtain rfl : k = N := by omega
      obtain ⟨Av, cv, rfl, -, -, hiv⟩ := own_ints ho
      have k0 := HK0.out _ HP.out
      have k1 := HK1.out _ HP.out
      have HC := Lib.hid (HM.out l hl Av cv wo hiv)
      have q1 : decide ((k : Int) < (k : Int)) = false := decide_eq_false (by omega)
      have HB := Lib.hid hb
      generalize l.length = n at *
      clear ho hb hk hkn hl hlen hh7 hd7 HPI hiv HK0 HK1 HM
      go_wp2_with fail
      refine HC.out.mono ?_
      rintro e w1 ⟨rfl, hb1⟩
      have HB1 := Lib.hid (HB.out.trans (hb1.mono HB.out.size))
      clear hb1 HB k0 k1
      unfold strV
      go_wp2_with fail
      go_ret2
      exact ⟨rfl, HB1.out⟩
    obtain ⟨n, hln⟩ : ∃ n, l.length = n := ⟨_, rfl⟩
    rw [hln] at ho hlen
    have hkN : k + 1 ≤ N := hkn
    obtain ⟨p, hp⟩ : ∃ p, hs[k]? = some p := ⟨_, List.getElem?_eq_getElem (by omega)⟩
    obtain ⟨d, hd⟩ : ∃ d, ds[k]? = some d := ⟨_, List.getElem?_eq_getElem (by omega)⟩
    have q1 : decide ((k : Int) < (N : Int)) = true := decide_eq_true (by omega)
    have q1n : decide (k < N) = true := decide_eq_true hkn
    have e1 : IntKind.i64.wrap ((k : Int) + 1) = (k : Int) + 1 := IntWalk.i64_in _ (by omega)
    have hk7 : k < N := by omega
    have hk7i : (k : Int) < (N : Int) := by omega
    have hk77 : k < 7 := by omega
    have HK := Lib.hid hkn
    obtain ⟨A0, c0, rfl, -⟩ := own_slice ho
    clear hh7 hd7 HK1 HM
    cases cold
    · -- it is not cold
      have et : PacQ.cntd false me hs ds (k + 1) = l ++ [d] := by rw [hl]; exact PacQ.cntd_yes (by simp [PacQ.takes]) hd
      have HR := Lib.hid (fun n9 v9 w9 hn h1 h2 => rctd_more (w := w) (wr := wo) (w9 := w9) (N := N) (n := n9) (v9 := v9) hkN et hn hb h1 h2)
      have HO := Lib.hid ho
      have HB := Lib.hid hb
      have k0 := HK0.out _ HP.out
      have k14 := HP.out.c14
      have k16 := HP.out.c16
      have k15 := HP.out.c15
      have kB := HP.out.bit hp hkn
      have kD := HP.out.dev hd hkn
      have HLn := Lib.hid hln
      clear ho hb hk hkn hkN hl et HP hp hd hln HPI HK0
      go_wp2_with (first
        | (at_builtin
           refine wpList_append_s rfl (.tmp 37) (.tmp 45) _ rfl w.heap.size 3 (.int .i64 0) 1 8 Try.underlying53 infoInt rfl (by decide) _ n (intV l) rfl (HO.out.alloc _) (some ⟨wo.heap.size, 0, none⟩) 1 1 [.int .i64 d] rfl rfl (fun _ => ⟨_, rfl, fun j u hu => by cases j with | zero => exact cell_at (heap_alloc_new wo _) 0 (by simpa using hu) | succ j => simp at hu⟩) (by simp [Value.oneCell']) (by unfold maxLen; omega) (by omega) (by have := HB.out.size; simp; omega) ?_
           intro v9 w9 h1 h2 h3
           have HR9 := Lib.hid (HR.out n v9 w9 HLn.out.symm h1 (((Below.refl w.heap.size wo).alloc (Nat.le_trans HB.out.size (Nat.le_refl _)) _).trans (h2.below (by have := HB.out.size; simp; omega) (fun q e => (HO.out.lt q e).1))))
           obtain ⟨A9, c9, rfl, -⟩ := own_slice h1
           clear h1 h2 h3))
      go_roundw
      case rel => exact HR9.out
      case measure => have := HK.out; simp [intOf]; omega
    · cases p
      · -- cold, not heard
        have et : PacQ.cntd true me hs ds (k + 1) = l := by rw [hl]; exact PacQ.cntd_no (by rw [PacQ.takes, PacQ.getD_at hp]; rfl)
        have HR : Hid (RCtdR w N true me hs ds (.slice A0 n c0) (.int .i64 ((k : Int) + 1)) wo) := Lib.hid ⟨k + 1, hkN, by go_num, by rw [et, hln]; exact ho, hb⟩
        have k0 := HK0.out _ HP.out
        have k14 := HP.out.c14
        have k16 := HP.out.c16
        have kB := HP.out.bit hp hkn
        clear ho hb hk hkn hkN hl et HP hp hd hln HPI HK0
        go_wp2_with fail
        go_roundw
        case rel => exact HR.out
        case measure => have := HK.out; simp [intOf]; omega
      · by_cases hm : (k : Int) = me
        · -- cold, itself
          have et : PacQ.cntd true me hs ds (k + 1) = l := by rw [hl]; exact PacQ.cntd_no (by rw [PacQ.takes, PacQ.getD_at hp]; simp [hm])
          have HR : Hid (RCtdR w N true me hs ds (.slice A0 n c0) (.int .i64 ((k : Int) + 1)) wo) := Lib.hid ⟨k + 1, hkN, by go_num, by rw [et, hln]; exact ho, hb⟩
          have k0 := HK0.out _ HP.out
          have k14 := HP.out.c14
          have k16 := HP.out.c16
          have k11 := HP.out.c11
          have q3 : decide ((k : Int) = me) = true := decide_eq_true hm
          have q4 : ((k : Int) == me) = true := by rw [beq_iff_eq]; exact hm
          have q5 : ((k : Int) != me) = false := by rw [bne, q4]; rfl
          clear hm
          have kB := HP.out.bit hp hkn
          clear ho hb hk hkn hkN hl et HP hp hd hln HPI HK0
          go_wp2_with fail
          go_roundw
          case rel => exact HR.out
          case measure => have := HK.out; simp [intOf]; omega
        · -- cold, another
          have et : PacQ.cntd true me hs ds (k + 1) = l ++ [d] := by rw [hl]; exact PacQ.cntd_yes (by rw [PacQ.takes, PacQ.getD_at hp]; simp [hm]) hd
          have HR := Lib.hid (fun n9 v9 w9 hn h1 h2 => rctd_more (w := w) (wr := wo) (w9 := w9) (N := N) (n := n9) (v9 := v9) hkN et hn hb h1 h2)
          have HO := Lib.hid ho
          have HB := Lib.hid hb
          have k0 := HK0.out _ HP.out
          have k14 := HP.out.c14
          have k16 := HP.out.c16
          have k15 := HP.out.c15
          have k11 := HP.out.c11
          have q3 : decide ((k : Int) = me) = false := decide_eq_false hm
          have q4 : ((k : Int) == me) = false := by rw [beq_eq_false_iff_ne]; exact hm
          have q5 : ((k : Int) != me) = true := by rw [bne, q4]; rfl
          clear hm
          have kB := HP.out.bit hp hkn
          have kD := HP.out.dev hd hkn
          have HLn := Lib.hid hln
          clear ho hb hk hkn hkN hl et HP hp hd hln HPI HK0
          go_wp2_with (first
            | (at_builtin
               refine wpList_append_s rfl (.tmp 37) (.tmp 45) _ rfl w.heap.size 3 (.int .i64 0) 1 8 Try.underlying53 infoInt rfl (by decide) _ n (intV l) rfl (HO.out.alloc _) (some ⟨wo.heap.size, 0, none⟩) 1 1 [.int .i64 d] rfl rfl (fun _ => ⟨_, rfl, fun j u hu => by cases j with | zero => exact cell_at (heap_alloc_new wo _) 0 (by simpa using hu) | succ j => simp at hu⟩) (by simp [Value.oneCell']) (by unfold maxLen; omega) (by omega) (by have := HB.out.size; simp; omega) ?_
               intro v9 w9 h1 h2 h3
               have HR9 := Lib.hid (HR.out n v9 w9 HLn.out.symm h1 (((Below.refl w.heap.size wo).alloc (Nat.le_trans HB.out.size (Nat.le_refl _)) _).trans (h2.below (by have := HB.out.size; simp; omega) (fun q e => (HO.out.lt q e).1))))
               obtain ⟨A9, c9, rfl, -⟩ := own_slice h1
               clear h1 h2 h3))
          go_roundw
          case rel => exact HR9.out
          case measure => have := HK.out; simp [intOf]; omega

set_option maxHeartbeats 4000000 in
theorem rturn_bad (x : CfgC) (me since rate : Int) (cold : Bool) (gd gh N : Nat) (hs : List Bool) (ds : List Int) (F : Nat) (hN : x.nodes = (N : Int)) (hF : x.faulty = (F : Int)) (hN7 : N ≤ 7) (hf : ¬ 2 * F + 1 ≤ (PacQ.cntd cold me hs ds N).length) (B b : Nat) (w : World) (h : RefIn w B b x me since rate cold gd gh N hs ds) :
    Calls Try.prog 20 #[qv b] w (RefMidBad w) := by
  have hlenN := PacQ.cntd_len (cold := cold) (me := me) (hs := hs) (ds := ds) (k := N)
  have HM : Hid (∀ l, l = PacQ.cntd cold me hs ds N → ∀ A cap W, IntsIn W A l → Calls Try.prog 43 #[.slice A l.length cap, .int .i64 (F : Nat)] W (RefMidBad W)) := Lib.hid fun l hl A cap W _ => by subst hl; exact refmid_bad A _ cap (by omega) F (by unfold Cuts; omega) W
  clear hlenN hf
  unfold RefMidBad at *
  rw [numN2] at *
  have HS0 : Hid (RCtdR w N cold me hs ds (.slice none 0 0) (.int .i64 0) w) := Lib.hid ⟨0, Nat.zero_le _, rfl, World.ownsRow_nil _ _ _ _, Below.refl _ _⟩
  have HPI := Lib.hid (fun W (hW : Below w.heap.size w W) => h.below hW)
  have HK0 : Hid (∀ W, RefIn W B b x me since rate cold gd gh N hs ds → W.cell? ⟨b, 0, none⟩ = some (.int .i64 (N : Nat))) := Lib.hid fun W hW => by rw [← hN]; exact hW.cfg.c0
  have HK1 : Hid (∀ W, RefIn W B b x me since rate cold gd gh N hs ds → W.cell? ⟨b, 1, none⟩ = some (.int .i64 (F : Nat))) := Lib.hid fun W hW => by rw [← hF]; exact hW.cfg.c1
  have hh7 := h.hlen
  have hd7 := h.dlen
  clear h hN hF
  unfold qv
  go_enter Try.func20, Try.ntmps20
  go_wp2_with fail
  go_loopw [4, 5] (RCtdR w N cold me hs ds) (fun _ i _ => (N + 1 - intOf i).toNat)
  case atStart => exact HS0.out
  case round =>
    clear HS0
    obtain ⟨k, hk, rfl, ho, hb⟩ := hrel
    obtain ⟨wo, ewo⟩ : ∃ wo, wo = wr := ⟨_, rfl⟩
    subst ewo
    have HP := Lib.hid (HPI.out wo hb)
    obtain ⟨l, hl⟩ : ∃ l, l = PacQ.cntd cold me hs ds k := ⟨_, rfl⟩
    have hlen := PacQ.cntd_len (cold := cold) (me := me) (hs := hs) (ds := ds) (k := k)
    rw [← hl] at ho hlen
    by_cases hkn : k < N
    case neg =>
      obtain rfl : k = N := by omega
      obtain ⟨Av, cv, rfl, -, -, hiv⟩ := own_ints ho
      have k0 := HK0.out _ HP.out
      have k1 := HK1.out _ HP.out
      have HC := Lib.hid (HM.out l hl Av cv wo hiv)
      have q1 : decide ((k : Int) < (k : Int)) = false := decide_eq_false (by omega)
      have HB := Lib.hid hb
      generalize l.length = n at *
      clear ho hb hk hkn hl hlen hh7 hd7 HPI hiv HK0 HK1 HM
      go_wp2_with fail
      refine HC.out.mono ?_
      rintro e w1 ⟨rfl, hb1⟩
      have HB1 := Lib.hid (HB.out.trans (hb1.mono HB.out.size))
      clear hb1 HB k0 k1
      unfold strV
      go_wp2_with fail
      go_ret2
      exact ⟨rfl, HB1.out⟩
    obtain ⟨n, hln⟩ : ∃ n, l.length = n := ⟨_, rfl⟩
    rw [hln] at ho hlen
    have hkN : k + 1 ≤ N := hkn
    obtain ⟨p, hp⟩ : ∃ p, hs[k]? = some p := ⟨_, List.getElem?_eq_getElem (by omega)⟩
    obtain ⟨d, hd⟩ : ∃ d, ds[k]? = some d := ⟨_, List.getElem?_eq_getElem (by omega)⟩
    have q1 : decide ((k : Int) < (N : Int)) = true := decide_eq_true (by omega)
    have q1n : decide (k < N) = true := decide_eq_true hkn
    have e1 : IntKind.i64.wrap ((k : Int) + 1) = (k : Int) + 1 := IntWalk.i64_in _ (by omega)
    have hk7 : k < N := by omega
    have hk7i : (k : Int) < (N : Int) := by omega
    have hk77 : k < 7 := by omega
    have HK := Lib.hid hkn
    obtain ⟨A0, c0, rfl, -⟩ := own_slice ho
    clear hh7 hd7 HK1 HM
    cases cold
    · -- it is not cold
      have et : PacQ.cntd false me hs ds (k + 1) = l ++ [d] := by rw [hl]; exact PacQ.cntd_yes (by simp [PacQ.takes]) hd
      have HR := Lib.hid (fun n9 v9 w9 hn h1 h2 => rctd_more (w := w) (wr := wo) (w9 := w9) (N := N) (n := n9) (v9 := v9) hkN et hn hb h1 h2)
      have HO := Lib.hid ho
      have HB := Lib.hid hb
      have k0 := HK0.out _ HP.out
      have k14 := HP.out.c14
      have k16 := HP.out.c16
      have k15 := HP.out.c15
      have kB := HP.out.bit hp hkn
      have kD := HP.out.dev hd hkn
      have HLn := Lib.hid hln
      clear ho hb hk hkn hkN hl et HP hp hd hln HPI HK0
      go_wp2_with (first
        | (at_builtin
           refine wpList_append_s rfl (.tmp 37) (.tmp 45) _ rfl w.heap.size 3 (.int .i64 0) 1 8 Try.underlying53 infoInt rfl (by decide) _ n (intV l) rfl (HO.out.alloc _) (some ⟨wo.heap.size, 0, none⟩) 1 1 [.int .i64 d] rfl rfl (fun _ => ⟨_, rfl, fun j u hu => by cases j with | zero => exact cell_at (heap_alloc_new wo _) 0 (by simpa using hu) | succ j => simp at hu⟩) (by simp [Value.oneCell']) (by unfold maxLen; omega) (by omega) (by have := HB.out.size; simp; omega) ?_
           intro v9 w9 h1 h2 h3
           have HR9 := Lib.hid (HR.out n v9 w9 HLn.out.symm h1 (((Below.refl w.heap.size wo).alloc (Nat.le_trans HB.out.size (Nat.le_refl _)) _).trans (h2.below (by have := HB.out.size; simp; omega) (fun q e => (HO.out.lt q e).1))))
           obtain ⟨A9, c9, rfl, -⟩ := own_slice h1
           clear h1 h2 h3))
      go_roundw
      case rel => exact HR9.out
      case measure => have := HK.out; simp [intOf]; omega
    · cases p
      · -- cold, not heard
        have et : PacQ.cntd true me hs ds (k + 1) = l := by rw [hl]; exact PacQ.cntd_no (by rw [PacQ.takes, PacQ.getD_at hp]; rfl)
        have HR : Hid (RCtdR w N true me hs ds (.slice A0 n c0) (.int .i64 ((k : Int) + 1)) wo) := Lib.hid ⟨k + 1, hkN, by go_num, by rw [et, hln]; exact ho, hb⟩
        have k0 := HK0.out _ HP.out
        have k14 := HP.out.c14
        have k16 := HP.out.c16
        have kB := HP.out.bit hp hkn
        clear ho hb hk hkn hkN hl et HP hp hd hln HPI HK0
        go_wp2_with fail
        go_roundw
        case rel => exact HR.out
        case measure => have := HK.out; simp [intOf]; omega
      · by_cases hm : (k : Int) = me
        · -- cold, itself
          have et : PacQ.cntd true me hs ds (k + 1) = l := by rw [hl]; exact PacQ.cntd_no (by rw [PacQ.takes, PacQ.getD_at hp]; simp [hm])
          have HR : Hid (RCtdR w N true me hs ds (.slice A0 n c0) (.int .i64 ((k : Int) + 1)) wo) := Lib.hid ⟨k + 1, hkN, by go_num, by rw [et, hln]; exact ho, hb⟩
          have k0 := HK0.out _ HP.out
          have k14 := HP.out.c14
          have k16 := HP.out.c16
          have k11 := HP.out.c11
          have q3 : decide ((k : Int) = me) = true := decide_eq_true hm
          have q4 : ((k : Int) == me) = true := by rw [beq_iff_eq]; exact hm
          have q5 : ((k : Int) != me) = false := by rw [bne, q4]; rfl
          clear hm
          have kB := HP.out.bit hp hkn
          clear ho hb hk hkn hkN hl et HP hp hd hln HPI HK0
          go_wp2_with fail
          go_roundw
          case rel => exact HR.out
          case measure => have := HK.out; simp [intOf]; omega
        · -- cold, another
          have et : PacQ.cntd true me hs ds (k + 1) = l ++ [d] := by rw [hl]; exact PacQ.cntd_yes (by rw [PacQ.takes, PacQ.getD_at hp]; simp [hm]) hd
          have HR := Lib.hid (fun n9 v9 w9 hn h1 h2 => rctd_more (w := w) (wr := wo) (w9 := w9) (N := N) (n := n9) (v9 := v9) hkN et hn hb h1 h2)
          have HO := Lib.hid ho
          have HB := Lib.hid hb
          have k0 := HK0.out _ HP.out
          have k14 := HP.out.c14
          have k16 := HP.out.c16
          have k15 := HP.out.c15
          have k11 := HP.out.c11
          have q3 : decide ((k : Int) = me) = false := decide_eq_false hm
          have q4 : ((k : Int) == me) = false := by rw [beq_eq_false_iff_ne]; exact hm
          have q5 : ((k : Int) != me) = true := by rw [bne, q4]; rfl
          clear hm
          have kB := HP.out.bit hp hkn
          have kD := HP.out.dev hd hkn
          have HLn := Lib.hid hln
          clear ho hb hk hkn hkN hl et HP hp hd hln HPI HK0
          go_wp2_with (first
            | (at_builtin
               refine wpList_append_s rfl (.tmp 37) (.tmp 45) _ rfl w.heap.size 3 (.int .i64 0) 1 8 Try.underlying53 infoInt rfl (by decide) _ n (intV l) rfl (HO.out.alloc _) (some ⟨wo.heap.size, 0, none⟩) 1 1 [.int .i64 d] rfl rfl (fun _ => ⟨_, rfl, fun j u hu => by cases j with | zero => exact cell_at (heap_alloc_new wo _) 0 (by simpa using hu) | succ j => simp at hu⟩) (by simp [Value.oneCell']) (by unfold maxLen; omega) (by omega) (by have := HB.out.size; simp; omega) ?_
               intro v9 w9 h1 h2 h3
               have HR9 := Lib.hid (HR.out n v9 w9 HLn.out.symm h1 (((Below.refl w.heap.size wo).alloc (Nat.le_trans HB.out.size (Nat.le_refl _)) _).trans (h2.below (by have := HB.out.size; simp; omega) (fun q e => (HO.out.lt q e).1))))
               obtain ⟨A9, c9, rfl, -⟩ := own_slice h1
               clear h1 h2 h3))
          go_roundw
          case rel => exact HR9.out
          case measure => have := HK.out; simp [intOf]; omega

theorem rnext_bad (x : CfgC) (me since rate : Int) (cold : Bool) (gd gh N : Nat) (hs : List Bool) (ds : List Int) (F : Nat) (hN : x.nodes = (N : Int)) (hF : x.faulty = (F : Int)) (hN7 : N ≤ 7) (hf : ¬ 2 * F + 1 ≤ (PacQ.cntd cold me hs ds N).length) (B b : Nat) (w : World) (h : RefIn w B b x me since rate cold gd gh N hs ds) :
    Calls Try.prog 22 #[qv b] w (RefMidBad w) := by
  have HC := Lib.hid (rturn_bad x me since rate cold gd gh N hs ds F hN hF hN7 hf B b w h)
  clear h hN hF hN7 hf
  unfold qv RefMidBad at *
  rw [numN2] at *
  unfold strV at *
  go_enter Try.func22, Try.ntmps22
  go_wp2_with fail
  refine HC.out.mono ?_
  rintro e w1 ⟨rfl, hb1⟩
  go_wp2_with fail
  go_ret2
  exact ⟨rfl, hb1⟩
set_option maxHeartbeats 2000000 in
theorem rnext_good (x : CfgC) (me since rate : Int) (cold : Bool) (gd gh N : Nat) (hs : List Bool) (ds : List Int) (F : Nat) (hN : x.nodes = (N : Int)) (hF : x.faulty = (F : Int)) (hN7 : N ≤ 7) (hl : LawfulIn since rate) (hd : PacQ.Devs ds) (hf : 2 * F + 1 ≤ (PacQ.cntd cold me hs ds N).length) (B b : Nat) (w : World) (h : RefIn w B b x me since rate cold gd gh N hs ds) (hh : TableP.headOk x.plain) :
    Calls Try.prog 22 #[qv b] w (RefMidGood (nextT x.plain since rate (MidP.midT (PacQ.cntd cold me hs ds N) F)) w) := by
  have HC := Lib.hid (rturn_good x me since rate cold gd gh N hs ds F hN hF hN7 hd hf B b w h)
  have hm := devs_mid (PacQ.cntd_in (cold := cold) (me := me) (hs := hs) hd (k := N) (by rw [h.dlen]; exact hN7)) hf
  generalize MidP.midT (PacQ.cntd cold me hs ds N) F = m at *
  have hr : 0 ≤ SndP.roundT x.plain ∧ SndP.roundT x.plain ≤ 134217728 := by
    have h1 := (SndP.nums_in hh).slots
    have h2 := (SndP.nums_in hh).gap
    unfold SndP.roundT
    omega
  have HR := Lib.hid (fun W => refround_any x W hh)
  unfold nextT
  generalize SndP.roundT x.plain = rd at *
  have e1 : IntKind.i64.wrap (rd + m) = rd + m := IntWalk.i64_in _ (by omega)
  have HL := Lib.hid (fun W => refreal_any since rate (rd + m) hl.2.2 ⟨by have := hl.1; omega, by have := hl.2.1; omega⟩ (by unfold FarIn; omega) W)
  have HP := Lib.hid (fun W (hW : Below w.heap.size w W) => (h.below hW : RefS B b x me since rate cold gd gh N hs ds W))
  clear h hd hN hF hN7 hf hr hm hh hl
  generalize ClkP.realT since rate (rd + m) = nx at *
  obtain ⟨nodes, faulty, slot, gap, rho, dmin, dmax, margin, PA, pn, pcap, parts, QA, qn, qcap, ports, RA, rn, rcap, routes⟩ := x
  have d0 := fun W (hW : RefS B b ⟨nodes, faulty, slot, gap, rho, dmin, dmax, margin, PA, pn, pcap, parts, QA, qn, qcap, ports, RA, rn, rcap, routes⟩ me since rate cold gd gh N hs ds W) => hW.cfg.c0
  have d1 := fun W (hW : RefS B b ⟨nodes, faulty, slot, gap, rho, dmin, dmax, margin, PA, pn, pcap, parts, QA, qn, qcap, ports, RA, rn, rcap, routes⟩ me since rate cold gd gh N hs ds W) => hW.cfg.c1
  have d2 := fun W (hW : RefS B b ⟨nodes, faulty, slot, gap, rho, dmin, dmax, margin, PA, pn, pcap, parts, QA, qn, qcap, ports, RA, rn, rcap, routes⟩ me since rate cold gd gh N hs ds W) => hW.cfg.c2
  have d3 := fun W (hW : RefS B b ⟨nodes, faulty, slot, gap, rho, dmin, dmax, margin, PA, pn, pcap, parts, QA, qn, qcap, ports, RA, rn, rcap, routes⟩ me since rate cold gd gh N hs ds W) => hW.cfg.c3
  have d4 := fun W (hW : RefS B b ⟨nodes, faulty, slot, gap, rho, dmin, dmax, margin, PA, pn, pcap, parts, QA, qn, qcap, ports, RA, rn, rcap, routes⟩ me since rate cold gd gh N hs ds W) => hW.cfg.c4
  have d5 := fun W (hW : RefS B b ⟨nodes, faulty, slot, gap, rho, dmin, dmax, margin, PA, pn, pcap, parts, QA, qn, qcap, ports, RA, rn, rcap, routes⟩ me since rate cold gd gh N hs ds W) => hW.cfg.c5
  have d6 := fun W (hW : RefS B b ⟨nodes, faulty, slot, gap, rho, dmin, dmax, margin, PA, pn, pcap, parts, QA, qn, qcap, ports, RA, rn, rcap, routes⟩ me since rate cold gd gh N hs ds W) => hW.cfg.c6
  have d7 := fun W (hW : RefS B b ⟨nodes, faulty, slot, gap, rho, dmin, dmax, margin, PA, pn, pcap, parts, QA, qn, qcap, ports, RA, rn, rcap, routes⟩ me since rate cold gd gh N hs ds W) => hW.cfg.c7
  have d8 := fun W (hW : RefS B b ⟨nodes, faulty, slot, gap, rho, dmin, dmax, margin, PA, pn, pcap, parts, QA, qn, qcap, ports, RA, rn, rcap, routes⟩ me since rate cold gd gh N hs ds W) => hW.cfg.c8
  have d9 := fun W (hW : RefS B b ⟨nodes, faulty, slot, gap, rho, dmin, dmax, margin, PA, pn, pcap, parts, QA, qn, qcap, ports, RA, rn, rcap, routes⟩ me since rate cold gd gh N hs ds W) => hW.cfg.c9
  have d10 := fun W (hW : RefS B b ⟨nodes, faulty, slot, gap, rho, dmin, dmax, margin, PA, pn, pcap, parts, QA, qn, qcap, ports, RA, rn, rcap, routes⟩ me since rate cold gd gh N hs ds W) => hW.cfg.c10
  have d12 : ∀ W, RefS B b ⟨nodes, faulty, slot, gap, rho, dmin, dmax, margin, PA, pn, pcap, parts, QA, qn, qcap, ports, RA, rn, rcap, routes⟩ me since rate cold gd gh N hs ds W → W.cell? ⟨b, 12, none⟩ = some (.int .i64 since) := fun W hW => RefIn.c12 hW
  have d13 : ∀ W, RefS B b ⟨nodes, faulty, slot, gap, rho, dmin, dmax, margin, PA, pn, pcap, parts, QA, qn, qcap, ports, RA, rn, rcap, routes⟩ me since rate cold gd gh N hs ds W → W.cell? ⟨b, 13, none⟩ = some (.int .i64 rate) := fun W hW => RefIn.c13 hW
  simp only at d0 d1 d2 d3 d4 d5 d6 d7 d8 d9 d10 HR HL HP
  simp only [CfgC.value] at HR
  unfold qv RefMidGood strV at *
  go_enter Try.func22, Try.ntmps22
  go_wp2_with fail
  refine HC.out.mono ?_
  rintro e w1 ⟨rfl, hb1⟩
  have hb1d := hb1.drew
  have hg0 := HP.out _ hb1d
  clear hb1 HC
  go_wp2_with fail
  refine wp_region_held_drew (S := fun W => RefS B b ⟨nodes, faulty, slot, gap, rho, dmin, dmax, margin, PA, pn, pcap, parts, QA, qn, qcap, ports, RA, rn, rcap, routes⟩ me since rate cold gd gh N hs ds W) (by kernel_rfl) hg0 (fun _ => ?_)
  refine wpAnyH_take (i := 0) (oi := ?oo61) (v := ?vv61) ?ii61 (by kernel_rfl) ?ff61 (by kernel_rfl) ?qq61 (Or.inl ⟨?ww61, ?yy61⟩) hg0 ?rr61
  case ii61 => simp only [List.getElem?_toArray, List.getElem?_cons_zero]; rfl
  case ff61 => kernel_rfl
  case qq61 => exact fun _ _ _ h => h
  case ww61 => rfl
  case yy61 => intro W hW; go_simp <;> with_reducible rfl
  try simp only [Act.put, List.setIfInBounds_toArray, List.set_cons_zero, List.set_cons_succ]
  refine wpAnyH_take (i := 1) (oi := ?oo62) (v := ?vv62) ?ii62 (by kernel_rfl) ?ff62 (by kernel_rfl) ?qq62 (Or.inl ⟨?ww62, ?yy62⟩) hg0 ?rr62
  case ii62 => simp only [List.getElem?_toArray, List.getElem?_cons_succ, List.getElem?_cons_zero]; rfl
  case ff62 => kernel_rfl
  case qq62 => exact fun _ _ _ h => h
  case ww62 => rfl
  case yy62 => intro W hW; go_simp <;> with_reducible rfl
  try simp only [Act.put, List.setIfInBounds_toArray, List.set_cons_zero, List.set_cons_succ]
  refine wpAnyH_take (i := 2) (oi := ?oo63) (v := ?vv63) ?ii63 (by kernel_rfl) ?ff63 (by kernel_rfl) ?qq63 (Or.inl ⟨?ww63, ?yy63⟩) hg0 ?rr63
  case ii63 => simp only [List.getElem?_toArray, List.getElem?_cons_succ, List.getElem?_cons_zero]; rfl
  case ff63 => kernel_rfl
  case qq63 => exact fun _ _ _ h => h
  case ww63 => rfl
  case yy63 => intro W hW; go_simp <;> with_reducible rfl
  try simp only [Act.put, List.setIfInBounds_toArray, List.set_cons_zero, List.set_cons_succ]
  refine wpAnyH_take (i := 3) (oi := ?oo64) (v := ?vv64) ?ii64 (by kernel_rfl) ?ff64 (by kernel_rfl) ?qq64 (Or.inl ⟨?ww64, ?yy64⟩) hg0 ?rr64
  case ii64 => simp only [List.getElem?_toArray, List.getElem?_cons_succ, List.getElem?_cons_zero]; rfl
  case ff64 => kernel_rfl
  case qq64 => exact fun _ _ _ h => h
  case ww64 => rfl
  case yy64 => intro W hW; go_simp <;> with_reducible rfl
  try simp only [Act.put, List.setIfInBounds_toArray, List.set_cons_zero, List.set_cons_succ]
  refine wpAnyH_take (i := 4) (oi := ?oo65) (v := ?vv65) ?ii65 (by kernel_rfl) ?ff65 (by kernel_rfl) ?qq65 (Or.inl ⟨?ww65, ?yy65⟩) hg0 ?rr65
  case ii65 => simp only [List.getElem?_toArray, List.getElem?_cons_succ, List.getElem?_cons_zero]; rfl
  case ff65 => kernel_rfl
  case qq65 => exact fun _ _ _ h => h
  case ww65 => rfl
  case yy65 => intro W hW; go_simp <;> with_reducible rfl
  try simp only [Act.put, List.setIfInBounds_toArray, List.set_cons_zero, List.set_cons_succ]
  refine wpAnyH_take (i := 5) (oi := ?oo66) (v := ?vv66) ?ii66 (by kernel_rfl) ?ff66 (by kernel_rfl) ?qq66 (Or.inl ⟨?ww66, ?yy66⟩) hg0 ?rr66
  case ii66 => simp only [List.getElem?_toArray, List.getElem?_cons_succ, List.getElem?_cons_zero]; rfl
  case ff66 => kernel_rfl
  case qq66 => exact fun _ _ _ h => h
  case ww66 => rfl
  case yy66 => intro W hW; go_simp <;> with_reducible rfl
  try simp only [Act.put, List.setIfInBounds_toArray, List.set_cons_zero, List.set_cons_succ]
  refine wpAnyH_take (i := 6) (oi := ?oo67) (v := ?vv67) ?ii67 (by kernel_rfl) ?ff67 (by kernel_rfl) ?qq67 (Or.inl ⟨?ww67, ?yy67⟩) hg0 ?rr67
  case ii67 => simp only [List.getElem?_toArray, List.getElem?_cons_succ, List.getElem?_cons_zero]; rfl
  case ff67 => kernel_rfl
  case qq67 => exact fun _ _ _ h => h
  case ww67 => rfl
  case yy67 => intro W hW; go_simp <;> with_reducible rfl
  try simp only [Act.put, List.setIfInBounds_toArray, List.set_cons_zero, List.set_cons_succ]
  refine wpAnyH_take (i := 7) (oi := ?oo68) (v := ?vv68) ?ii68 (by kernel_rfl) ?ff68 (by kernel_rfl) ?qq68 (Or.inl ⟨?ww68, ?yy68⟩) hg0 ?rr68
  case ii68 => simp only [List.getElem?_toArray, List.getElem?_cons_succ, List.getElem?_cons_zero]; rfl
  case ff68 => kernel_rfl
  case qq68 => exact fun _ _ _ h => h
  case ww68 => rfl
  case yy68 => intro W hW; go_simp <;> with_reducible rfl
  try simp only [Act.put, List.setIfInBounds_toArray, List.set_cons_zero, List.set_cons_succ]
  refine wpAnyH_take (i := 8) (oi := ?oo69) (v := ?vv69) ?ii69 (by kernel_rfl) ?ff69 (by kernel_rfl) ?qq69 (Or.inl ⟨?ww69, ?yy69⟩) hg0 ?rr69
  case ii69 => simp only [List.getElem?_toArray, List.getElem?_cons_succ, List.getElem?_cons_zero]; rfl
  case ff69 => kernel_rfl
  case qq69 => exact fun _ _ _ h => h
  case ww69 => rfl
  case yy69 => intro W hW; go_simp <;> with_reducible rfl
  try simp only [Act.put, List.setIfInBounds_toArray, List.set_cons_zero, List.set_cons_succ]
  refine wpAnyH_take (i := 9) (oi := ?oo70) (v := ?vv70) ?ii70 (by kernel_rfl) ?ff70 (by kernel_rfl) ?qq70 (Or.inl ⟨?ww70, ?yy70⟩) hg0 ?rr70
  case ii70 => simp only [List.getElem?_toArray, List.getElem?_cons_succ, List.getElem?_cons_zero]; rfl
  case ff70 => kernel_rfl
  case qq70 => exact fun _ _ _ h => h
  case ww70 => rfl
  case yy70 => intro W hW; go_simp <;> with_reducible rfl
  try simp only [Act.put, List.setIfInBounds_toArray, List.set_cons_zero, List.set_cons_succ]
  refine wpAnyH_take (i := 10) (oi := ?oo71) (v := ?vv71) ?ii71 (by kernel_rfl) ?ff71 (by kernel_rfl) ?qq71 (Or.inl ⟨?ww71, ?yy71⟩) hg0 ?rr71
  case ii71 => simp only [List.getElem?_toArray, List.getElem?_cons_succ, List.getElem?_cons_zero]; rfl
  case ff71 => kernel_rfl
  case qq71 => exact fun _ _ _ h => h
  case ww71 => rfl
  case yy71 => intro W hW; go_simp <;> with_reducible rfl
  try simp only [Act.put, List.setIfInBounds_toArray, List.set_cons_zero, List.set_cons_succ]
  refine wpAnyH_take (i := 11) (oi := ?oo72) (v := ?vv72) ?ii72 (by kernel_rfl) ?ff72 (by kernel_rfl) ?qq72 (Or.inl ⟨?ww72, ?yy72⟩) hg0 ?rr72
  case ii72 => simp only [List.getElem?_toArray, List.getElem?_cons_succ, List.getElem?_cons_zero]; rfl
  case ff72 => kernel_rfl
  case qq72 => exact fun _ _ _ h => h
  case ww72 => rfl
  case yy72 => intro W hW; go_simp <;> with_reducible rfl
  try simp only [Act.put, List.setIfInBounds_toArray, List.set_cons_zero, List.set_cons_succ]
  refine wpAnyH_take (i := 13) (oi := ?oo73) (v := ?vv73) ?ii73 (by kernel_rfl) ?ff73 (by kernel_rfl) ?qq73 (Or.inl ⟨?ww73, ?yy73⟩) hg0 ?rr73
  case ii73 => simp only [List.getElem?_toArray, List.getElem?_cons_succ, List.getElem?_cons_zero]; rfl
  case ff73 => kernel_rfl
  case qq73 => exact fun _ _ _ h => h
  case ww73 => rfl
  case yy73 => intro W hW; go_simp <;> with_reducible rfl
  try simp only [Act.put, List.setIfInBounds_toArray, List.set_cons_zero, List.set_cons_succ]
  refine wpAnyH_ready (rs := [12]) (by kernel_rfl) (by simp) ?_
  refine AllReadyH.cons (o := ?oo74) ?ii74 (fun K hK => ?_) AllReadyH.nil
  case ii74 => simp only [List.getElem?_toArray, List.getElem?_cons_succ, List.getElem?_cons_zero]; rfl
  go_simp
  refine (HR.out _).mono ?_
  rintro e w2 ⟨rfl, hb2⟩
  have hb2' := hb1d.trans (hb2.mono hb1d.size)
  have hg1 : RefS B b ⟨nodes, faulty, slot, gap, rho, dmin, dmax, margin, PA, pn, pcap, parts, QA, qn, qcap, ports, RA, rn, rcap, routes⟩ me since rate cold gd gh N hs ds w2 := RefIn.below hg0 hb2
  clear hb2 HR hb1d hg0
  go_wp2_with fail
  refine hK.out _ _ hg1 (fun _ => ?_)
  clear hK K
  refine wpAnyH_take (i := 14) (oi := ?oo75) (v := ?vv75) ?ii75 (by kernel_rfl) ?ff75 (by kernel_rfl) ?qq75 (Or.inl ⟨?ww75, ?yy75⟩) hg1 ?rr75
  case ii75 => simp only [List.getElem?_toArray, List.getElem?_cons_succ, List.getElem?_cons_zero]; rfl
  case ff75 => kernel_rfl
  case qq75 => exact fun _ _ _ h => h
  case ww75 => rfl
  case yy75 => intro W hW; go_simp <;> with_reducible rfl
  try simp only [Act.put, List.setIfInBounds_toArray, List.set_cons_zero, List.set_cons_succ]
  refine wpAnyH_ready (rs := [15]) (by kernel_rfl) (by simp) ?_
  refine AllReadyH.cons (o := ?oo76) ?ii76 (fun K hK => ?_) AllReadyH.nil
  case ii76 => simp only [List.getElem?_toArray, List.getElem?_cons_succ, List.getElem?_cons_zero]; rfl
  go_simp
  refine (HL.out _).mono ?_
  rintro e w3 ⟨rfl, hm3⟩
  have hb3 := drewn_below' hm3
  have hb3' := hb2'.trans (hb3.mono hb2'.size)
  have hg2 : RefS B b ⟨nodes, faulty, slot, gap, rho, dmin, dmax, margin, PA, pn, pcap, parts, QA, qn, qcap, ports, RA, rn, rcap, routes⟩ me since rate cold gd gh N hs ds w3 := RefIn.below hg1 hb3
  clear hb3 hm3 HL hb2' hg1
  go_wp2_with fail
  refine hK.out _ _ hg2 (fun _ => ?_)
  clear hK K
  refine wpAnyH_take (i := 16) (oi := ?oo77) (v := ?vv77) ?ii77 (by kernel_rfl) ?ff77 (by kernel_rfl) ?qq77 (Or.inl ⟨?ww77, ?yy77⟩) hg2 ?rr77
  case ii77 => simp only [List.getElem?_toArray, List.getElem?_cons_succ, List.getElem?_cons_zero]; rfl
  case ff77 => kernel_rfl
  case qq77 => exact fun _ _ _ h => h
  case ww77 => rfl
  case yy77 => intro W hW; go_simp <;> with_reducible rfl
  try simp only [Act.put, List.setIfInBounds_toArray, List.set_cons_zero, List.set_cons_succ]
  refine wpAnyH_take (i := 17) (oi := ?oo78) (v := ?vv78) ?ii78 (by kernel_rfl) ?ff78 (by kernel_rfl) ?qq78 (Or.inl ⟨?ww78, ?yy78⟩) hg2 ?rr78
  case ii78 => simp only [List.getElem?_toArray, List.getElem?_cons_succ, List.getElem?_cons_zero]; rfl
  case ff78 => kernel_rfl
  case qq78 => exact fun _ _ _ h => h
  case ww78 => rfl
  case yy78 => intro W hW; go_simp <;> with_reducible rfl
  try simp only [Act.put, List.setIfInBounds_toArray, List.set_cons_zero, List.set_cons_succ]
  refine wpAnyH_done (by kernel_rfl) ?_ _
  go_wp2_with fail
  go_ret2
  exact ⟨rfl, hb3'⟩
end Go.Proofs.Ythhbdnjihhpalaa
