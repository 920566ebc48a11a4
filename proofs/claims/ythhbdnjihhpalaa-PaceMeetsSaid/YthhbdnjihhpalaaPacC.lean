/- Hear of a pace. Conditions: where it lies, numbers in their ranges. -/
import Derived.Test.YthhbdnjihhpalaaPacB
import Derived.Test.YthhbdnjihhpalaaMem
namespace Go.Proofs.Ythhbdnjihhpalaa
open Go.RowKit
set_option maxRecDepth 100000

theorem drewn_below' {a b : World} (h : ∃ m, b = a.drewN m) : Below a.heap.size a b := by
  obtain ⟨m, rfl⟩ := h
  exact below_drewNc (Below.refl _ _) m
/-- What holds of every world behind one in which a pace lies. -/
def PacS (b : Nat) (x : CfgC) (me : Int) (cold : Bool) (bk : Nat) (since rate : Int) (hs : List Bool) (ds : List Int) (W : World) : Prop := PaceIn W b x me cold bk since rate hs ds
theorem PacS.cfg {b : Nat} {x : CfgC} {me : Int} {cold : Bool} {bk : Nat} {since rate : Int} {hs : List Bool} {ds : List Int} {W : World} (h : PacS b x me cold bk since rate hs ds W) : Box11 W b x := PaceIn.cfg h

theorem phear_low (x : CfgC) (me : Int) (cold : Bool) (bk : Nat) (since rate : Int) (hs : List Bool) (ds : List Int) (n : Int) (t : Int) (b : Nat) (w : World) (h : PaceIn w b x me cold bk since rate hs ds) (hn : n < 0 ∧ 1 ≤ x.nodes) :
    Calls Try.prog 14 #[pv b, .int .i64 n, .int .i64 t] w (Quiet (.bool false) w) := by
  have hc : PacS b x me cold bk since rate hs ds w := h
  clear h
  obtain ⟨nodes, faulty, slot, gap, rho, dmin, dmax, margin, PA, pn, pcap, parts, QA, qn, qcap, ports, RA, rn, rcap, routes⟩ := x
  have d0 := fun W (hW : PacS b ⟨nodes, faulty, slot, gap, rho, dmin, dmax, margin, PA, pn, pcap, parts, QA, qn, qcap, ports, RA, rn, rcap, routes⟩ me cold bk since rate hs ds W) => hW.cfg.c0
  have d1 := fun W (hW : PacS b ⟨nodes, faulty, slot, gap, rho, dmin, dmax, margin, PA, pn, pcap, parts, QA, qn, qcap, ports, RA, rn, rcap, routes⟩ me cold bk since rate hs ds W) => hW.cfg.c1
  have d2 := fun W (hW : PacS b ⟨nodes, faulty, slot, gap, rho, dmin, dmax, margin, PA, pn, pcap, parts, QA, qn, qcap, ports, RA, rn, rcap, routes⟩ me cold bk since rate hs ds W) => hW.cfg.c2
  have d3 := fun W (hW : PacS b ⟨nodes, faulty, slot, gap, rho, dmin, dmax, margin, PA, pn, pcap, parts, QA, qn, qcap, ports, RA, rn, rcap, routes⟩ me cold bk since rate hs ds W) => hW.cfg.c3
  have d4 := fun W (hW : PacS b ⟨nodes, faulty, slot, gap, rho, dmin, dmax, margin, PA, pn, pcap, parts, QA, qn, qcap, ports, RA, rn, rcap, routes⟩ me cold bk since rate hs ds W) => hW.cfg.c4
  have d5 := fun W (hW : PacS b ⟨nodes, faulty, slot, gap, rho, dmin, dmax, margin, PA, pn, pcap, parts, QA, qn, qcap, ports, RA, rn, rcap, routes⟩ me cold bk since rate hs ds W) => hW.cfg.c5
  have d6 := fun W (hW : PacS b ⟨nodes, faulty, slot, gap, rho, dmin, dmax, margin, PA, pn, pcap, parts, QA, qn, qcap, ports, RA, rn, rcap, routes⟩ me cold bk since rate hs ds W) => hW.cfg.c6
  have d7 := fun W (hW : PacS b ⟨nodes, faulty, slot, gap, rho, dmin, dmax, margin, PA, pn, pcap, parts, QA, qn, qcap, ports, RA, rn, rcap, routes⟩ me cold bk since rate hs ds W) => hW.cfg.c7
  have d8 := fun W (hW : PacS b ⟨nodes, faulty, slot, gap, rho, dmin, dmax, margin, PA, pn, pcap, parts, QA, qn, qcap, ports, RA, rn, rcap, routes⟩ me cold bk since rate hs ds W) => hW.cfg.c8
  have d9 := fun W (hW : PacS b ⟨nodes, faulty, slot, gap, rho, dmin, dmax, margin, PA, pn, pcap, parts, QA, qn, qcap, ports, RA, rn, rcap, routes⟩ me cold bk since rate hs ds W) => hW.cfg.c9
  have d10 := fun W (hW : PacS b ⟨nodes, faulty, slot, gap, rho, dmin, dmax, margin, PA, pn, pcap, parts, QA, qn, qcap, ports, RA, rn, rcap, routes⟩ me cold bk since rate hs ds W) => hW.cfg.c10
  simp only at d0 d1 d2 d3 d4 d5 d6 d7 d8 d9 d10 hn
  have k0 := d0 _ hc
  have q1 : decide (n < 0) = true := decide_eq_true hn.1
  clear hn hc
  unfold pv
  go_enter Try.func14, Try.ntmps14
  go_wp2_with fail
  go_ret
  exact ⟨rfl, 0, rfl⟩

theorem phear_high (x : CfgC) (me : Int) (cold : Bool) (bk : Nat) (since rate : Int) (hs : List Bool) (ds : List Int) (n : Int) (t : Int) (b : Nat) (w : World) (h : PaceIn w b x me cold bk since rate hs ds) (hn : 0 ≤ n ∧ x.nodes ≤ n) :
    Calls Try.prog 14 #[pv b, .int .i64 n, .int .i64 t] w (Quiet (.bool false) w) := by
  have hc : PacS b x me cold bk since rate hs ds w := h
  clear h
  obtain ⟨nodes, faulty, slot, gap, rho, dmin, dmax, margin, PA, pn, pcap, parts, QA, qn, qcap, ports, RA, rn, rcap, routes⟩ := x
  have d0 := fun W (hW : PacS b ⟨nodes, faulty, slot, gap, rho, dmin, dmax, margin, PA, pn, pcap, parts, QA, qn, qcap, ports, RA, rn, rcap, routes⟩ me cold bk since rate hs ds W) => hW.cfg.c0
  have d1 := fun W (hW : PacS b ⟨nodes, faulty, slot, gap, rho, dmin, dmax, margin, PA, pn, pcap, parts, QA, qn, qcap, ports, RA, rn, rcap, routes⟩ me cold bk since rate hs ds W) => hW.cfg.c1
  have d2 := fun W (hW : PacS b ⟨nodes, faulty, slot, gap, rho, dmin, dmax, margin, PA, pn, pcap, parts, QA, qn, qcap, ports, RA, rn, rcap, routes⟩ me cold bk since rate hs ds W) => hW.cfg.c2
  have d3 := fun W (hW : PacS b ⟨nodes, faulty, slot, gap, rho, dmin, dmax, margin, PA, pn, pcap, parts, QA, qn, qcap, ports, RA, rn, rcap, routes⟩ me cold bk since rate hs ds W) => hW.cfg.c3
  have d4 := fun W (hW : PacS b ⟨nodes, faulty, slot, gap, rho, dmin, dmax, margin, PA, pn, pcap, parts, QA, qn, qcap, ports, RA, rn, rcap, routes⟩ me cold bk since rate hs ds W) => hW.cfg.c4
  have d5 := fun W (hW : PacS b ⟨nodes, faulty, slot, gap, rho, dmin, dmax, margin, PA, pn, pcap, parts, QA, qn, qcap, ports, RA, rn, rcap, routes⟩ me cold bk since rate hs ds W) => hW.cfg.c5
  have d6 := fun W (hW : PacS b ⟨nodes, faulty, slot, gap, rho, dmin, dmax, margin, PA, pn, pcap, parts, QA, qn, qcap, ports, RA, rn, rcap, routes⟩ me cold bk since rate hs ds W) => hW.cfg.c6
  have d7 := fun W (hW : PacS b ⟨nodes, faulty, slot, gap, rho, dmin, dmax, margin, PA, pn, pcap, parts, QA, qn, qcap, ports, RA, rn, rcap, routes⟩ me cold bk since rate hs ds W) => hW.cfg.c7
  have d8 := fun W (hW : PacS b ⟨nodes, faulty, slot, gap, rho, dmin, dmax, margin, PA, pn, pcap, parts, QA, qn, qcap, ports, RA, rn, rcap, routes⟩ me cold bk since rate hs ds W) => hW.cfg.c8
  have d9 := fun W (hW : PacS b ⟨nodes, faulty, slot, gap, rho, dmin, dmax, margin, PA, pn, pcap, parts, QA, qn, qcap, ports, RA, rn, rcap, routes⟩ me cold bk since rate hs ds W) => hW.cfg.c9
  have d10 := fun W (hW : PacS b ⟨nodes, faulty, slot, gap, rho, dmin, dmax, margin, PA, pn, pcap, parts, QA, qn, qcap, ports, RA, rn, rcap, routes⟩ me cold bk since rate hs ds W) => hW.cfg.c10
  simp only at d0 d1 d2 d3 d4 d5 d6 d7 d8 d9 d10 hn
  have k0 := d0 _ hc
  have q1 : decide (n < 0) = false := decide_eq_false (by omega)
  have q2 : decide (nodes ≤ n) = true := decide_eq_true hn.2
  clear hn hc
  unfold pv
  go_enter Try.func14, Try.ntmps14
  go_wp2_with fail
  go_ret
  exact ⟨rfl, 0, rfl⟩

theorem phear_again (x : CfgC) (me : Int) (cold : Bool) (bk : Nat) (since rate : Int) (hs : List Bool) (ds : List Int) (k : Nat) (t : Int) (b : Nat) (w : World) (h : PaceIn w b x me cold bk since rate hs ds) (hn : (k : Int) < x.nodes ∧ x.nodes ≤ 7) (hp : hs[k]? = some true) :
    Calls Try.prog 14 #[pv b, .int .i64 (k : Nat), .int .i64 t] w (Quiet (.bool false) w) := by
  have hc : PacS b x me cold bk since rate hs ds w := h
  have hB := h.bit hp
  clear h
  obtain ⟨nodes, faulty, slot, gap, rho, dmin, dmax, margin, PA, pn, pcap, parts, QA, qn, qcap, ports, RA, rn, rcap, routes⟩ := x
  have d0 := fun W (hW : PacS b ⟨nodes, faulty, slot, gap, rho, dmin, dmax, margin, PA, pn, pcap, parts, QA, qn, qcap, ports, RA, rn, rcap, routes⟩ me cold bk since rate hs ds W) => hW.cfg.c0
  have d1 := fun W (hW : PacS b ⟨nodes, faulty, slot, gap, rho, dmin, dmax, margin, PA, pn, pcap, parts, QA, qn, qcap, ports, RA, rn, rcap, routes⟩ me cold bk since rate hs ds W) => hW.cfg.c1
  have d2 := fun W (hW : PacS b ⟨nodes, faulty, slot, gap, rho, dmin, dmax, margin, PA, pn, pcap, parts, QA, qn, qcap, ports, RA, rn, rcap, routes⟩ me cold bk since rate hs ds W) => hW.cfg.c2
  have d3 := fun W (hW : PacS b ⟨nodes, faulty, slot, gap, rho, dmin, dmax, margin, PA, pn, pcap, parts, QA, qn, qcap, ports, RA, rn, rcap, routes⟩ me cold bk since rate hs ds W) => hW.cfg.c3
  have d4 := fun W (hW : PacS b ⟨nodes, faulty, slot, gap, rho, dmin, dmax, margin, PA, pn, pcap, parts, QA, qn, qcap, ports, RA, rn, rcap, routes⟩ me cold bk since rate hs ds W) => hW.cfg.c4
  have d5 := fun W (hW : PacS b ⟨nodes, faulty, slot, gap, rho, dmin, dmax, margin, PA, pn, pcap, parts, QA, qn, qcap, ports, RA, rn, rcap, routes⟩ me cold bk since rate hs ds W) => hW.cfg.c5
  have d6 := fun W (hW : PacS b ⟨nodes, faulty, slot, gap, rho, dmin, dmax, margin, PA, pn, pcap, parts, QA, qn, qcap, ports, RA, rn, rcap, routes⟩ me cold bk since rate hs ds W) => hW.cfg.c6
  have d7 := fun W (hW : PacS b ⟨nodes, faulty, slot, gap, rho, dmin, dmax, margin, PA, pn, pcap, parts, QA, qn, qcap, ports, RA, rn, rcap, routes⟩ me cold bk since rate hs ds W) => hW.cfg.c7
  have d8 := fun W (hW : PacS b ⟨nodes, faulty, slot, gap, rho, dmin, dmax, margin, PA, pn, pcap, parts, QA, qn, qcap, ports, RA, rn, rcap, routes⟩ me cold bk since rate hs ds W) => hW.cfg.c8
  have d9 := fun W (hW : PacS b ⟨nodes, faulty, slot, gap, rho, dmin, dmax, margin, PA, pn, pcap, parts, QA, qn, qcap, ports, RA, rn, rcap, routes⟩ me cold bk since rate hs ds W) => hW.cfg.c9
  have d10 := fun W (hW : PacS b ⟨nodes, faulty, slot, gap, rho, dmin, dmax, margin, PA, pn, pcap, parts, QA, qn, qcap, ports, RA, rn, rcap, routes⟩ me cold bk since rate hs ds W) => hW.cfg.c10
  simp only at d0 d1 d2 d3 d4 d5 d6 d7 d8 d9 d10 hn
  have k0 := d0 _ hc
  have q1 : decide ((k : Int) < 0) = false := decide_eq_false (by omega)
  have q2 : decide (nodes ≤ (k : Int)) = false := decide_eq_false (by omega)
  have hk7 : k < 7 := by omega
  have hk7i : (k : Int) < 7 := by omega
  clear hn hc
  unfold pv
  go_enter Try.func14, Try.ntmps14
  go_wp2_with fail
  go_ret
  exact ⟨rfl, 0, rfl⟩

theorem phear_own (x : CfgC) (me : Int) (cold : Bool) (bk : Nat) (since rate : Int) (hs : List Bool) (ds : List Int) (k : Nat) (t : Int) (b : Nat) (w : World) (h : PaceIn w b x me cold bk since rate hs ds) (hn : (k : Int) < x.nodes ∧ x.nodes ≤ 7) (hp : hs[k]? = some false) (hm : (k : Int) = me) (hcold : cold = false) :
    Calls Try.prog 14 #[pv b, .int .i64 (k : Nat), .int .i64 t] w (Quiet (.bool false) w) := by
  have hc : PacS b x me cold bk since rate hs ds w := h
  have hB := h.bit hp
  have k11 := h.c11
  have k12 := h.c12
  subst hcold
  clear h
  obtain ⟨nodes, faulty, slot, gap, rho, dmin, dmax, margin, PA, pn, pcap, parts, QA, qn, qcap, ports, RA, rn, rcap, routes⟩ := x
  have d0 := fun W (hW : PacS b ⟨nodes, faulty, slot, gap, rho, dmin, dmax, margin, PA, pn, pcap, parts, QA, qn, qcap, ports, RA, rn, rcap, routes⟩ me false bk since rate hs ds W) => hW.cfg.c0
  have d1 := fun W (hW : PacS b ⟨nodes, faulty, slot, gap, rho, dmin, dmax, margin, PA, pn, pcap, parts, QA, qn, qcap, ports, RA, rn, rcap, routes⟩ me false bk since rate hs ds W) => hW.cfg.c1
  have d2 := fun W (hW : PacS b ⟨nodes, faulty, slot, gap, rho, dmin, dmax, margin, PA, pn, pcap, parts, QA, qn, qcap, ports, RA, rn, rcap, routes⟩ me false bk since rate hs ds W) => hW.cfg.c2
  have d3 := fun W (hW : PacS b ⟨nodes, faulty, slot, gap, rho, dmin, dmax, margin, PA, pn, pcap, parts, QA, qn, qcap, ports, RA, rn, rcap, routes⟩ me false bk since rate hs ds W) => hW.cfg.c3
  have d4 := fun W (hW : PacS b ⟨nodes, faulty, slot, gap, rho, dmin, dmax, margin, PA, pn, pcap, parts, QA, qn, qcap, ports, RA, rn, rcap, routes⟩ me false bk since rate hs ds W) => hW.cfg.c4
  have d5 := fun W (hW : PacS b ⟨nodes, faulty, slot, gap, rho, dmin, dmax, margin, PA, pn, pcap, parts, QA, qn, qcap, ports, RA, rn, rcap, routes⟩ me false bk since rate hs ds W) => hW.cfg.c5
  have d6 := fun W (hW : PacS b ⟨nodes, faulty, slot, gap, rho, dmin, dmax, margin, PA, pn, pcap, parts, QA, qn, qcap, ports, RA, rn, rcap, routes⟩ me false bk since rate hs ds W) => hW.cfg.c6
  have d7 := fun W (hW : PacS b ⟨nodes, faulty, slot, gap, rho, dmin, dmax, margin, PA, pn, pcap, parts, QA, qn, qcap, ports, RA, rn, rcap, routes⟩ me false bk since rate hs ds W) => hW.cfg.c7
  have d8 := fun W (hW : PacS b ⟨nodes, faulty, slot, gap, rho, dmin, dmax, margin, PA, pn, pcap, parts, QA, qn, qcap, ports, RA, rn, rcap, routes⟩ me false bk since rate hs ds W) => hW.cfg.c8
  have d9 := fun W (hW : PacS b ⟨nodes, faulty, slot, gap, rho, dmin, dmax, margin, PA, pn, pcap, parts, QA, qn, qcap, ports, RA, rn, rcap, routes⟩ me false bk since rate hs ds W) => hW.cfg.c9
  have d10 := fun W (hW : PacS b ⟨nodes, faulty, slot, gap, rho, dmin, dmax, margin, PA, pn, pcap, parts, QA, qn, qcap, ports, RA, rn, rcap, routes⟩ me false bk since rate hs ds W) => hW.cfg.c10
  simp only at d0 d1 d2 d3 d4 d5 d6 d7 d8 d9 d10 hn
  have k0 := d0 _ hc
  have q1 : decide ((k : Int) < 0) = false := decide_eq_false (by omega)
  have q2 : decide (nodes ≤ (k : Int)) = false := decide_eq_false (by omega)
  have hk7 : k < 7 := by omega
  have hk7i : (k : Int) < 7 := by omega
  have q3 : decide ((k : Int) = me) = true := decide_eq_true hm
  have q4 : ((k : Int) == me) = true := by rw [beq_iff_eq]; exact hm
  clear hm
  clear hn hc
  unfold pv
  go_enter Try.func14, Try.ntmps14
  go_wp2_with fail
  go_ret
  exact ⟨rfl, 0, rfl⟩

/-- What Hear does where it is true: a node is heard, with its deviation. -/
def HearP (x : CfgC) (me : Int) (cold : Bool) (bk : Nat) (since rate : Int) (hs : List Bool) (ds : List Int) (b k : Nat) (d : Int) (w : World) (e : Ending) (w' : World) : Prop :=
  e = .returned (.bool true) ∧ PaceIn w' b x me cold bk since rate (hs.set k true) (ds.set k d) ∧ Apart (fun q => q = b) w w'

set_option maxHeartbeats 4000000 in
theorem phear_yes (x : CfgC) (me : Int) (cold : Bool) (bk : Nat) (since rate : Int) (hs : List Bool) (ds : List Int) (k : Nat) (hn : (k : Int) < x.nodes) (hp : hs[k]? = some false) (hm : (k : Int) ≠ me ∨ cold = true) (t : Int) (ht : PacQ.Soon (t - since)) (b : Nat) (w : World) (h : PaceIn w b x me cold bk since rate hs ds) (hh : TableP.headOk x.plain) :
    Calls Try.prog 14 #[pv b, .int .i64 (k : Nat), .int .i64 t] w (HearP x me cold bk since rate hs ds b k (PacQ.devT x.plain since rate k t) w) := by
  have hx7 := (SndP.nums_in hh).nodes
  have hn7 : x.nodes ≤ 7 := hx7.2
  have hk7 : k < 7 := by omega
  have hk7i : (k : Int) < 7 := by omega
  obtain ⟨f1, f2, f3⟩ := PacQ.dev_small (SndP.nums_in hh) (n := (k : Int)) ⟨by omega, by omega⟩ (show ClkP.RateOk rate from h.clk.rate) ht
  have hfar : FarIn (t - since) := by obtain ⟨a1, a2⟩ := ht; unfold FarIn; omega
  have C0 := Lib.hid (fun W (hW : PaceIn W b x me cold bk since rate (hs.set k true) ds) => plocal_any b x me cold bk since rate (hs.set k true) ds t hfar W hW)
  have C1 := Lib.hid (fun W => send_any x k ⟨by omega, by omega⟩ W hh)
  have C2 := Lib.hid (fun W => mean_any x W hh)
  obtain ⟨d0', hd0'⟩ : ∃ d, ds[k]? = some d := ⟨_, List.getElem?_eq_getElem (by rw [h.dlen]; exact hk7)⟩
  have hB := h.bit hp
  have hFr := h.free (14 + k)
  have k11 := h.c11
  have k12 := h.c12
  have HD := Lib.hid (fun W (hW : PacS b x me cold bk since rate (hs.set k true) ds W) => PaceIn.dev hW hd0')
  have HDF := Lib.hid (fun W (hW : PacS b x me cold bk since rate (hs.set k true) ds W) => PaceIn.free hW (21 + k))
  have H1 : Hid (PacS b x me cold bk since rate (hs.set k true) ds (w.setCell ⟨b, 14 + k, none⟩ (.bool true))) := Lib.hid (h.storedBit hk7 true)
  have A1 : Hid (Apart (fun q => q = b) w (w.setCell ⟨b, 14 + k, none⟩ (.bool true))) := Lib.hid ((Apart.refl (fun q => q = b) w).setCell (p := ⟨b, 14 + k, none⟩) (.inl rfl) _)
  have HE : Hid (∀ w1 W, PacS b x me cold bk since rate (hs.set k true) ds W → Apart (fun q => q = b) w w1 → Below w1.heap.size w1 W →
      HearP x me cold bk since rate hs ds b k (PacQ.devT x.plain since rate k t) w (.returned (.bool true)) (W.setCell ⟨b, 21 + k, none⟩ (.int .i64 (PacQ.devT x.plain since rate k t)))) := Lib.hid fun w1 W hW ha hb =>
    ⟨rfl, PaceIn.storedDev hW k _, (ha.trans (Apart.of_below' (F := fun q => q = b) hb) (fun _ h => .inl h)).setCell (p := ⟨b, 21 + k, none⟩) (.inl rfl) _⟩
  have q1 : decide ((k : Int) < 0) = false := decide_eq_false (by omega)
  have q2 : decide (x.nodes ≤ (k : Int)) = false := decide_eq_false (by omega)
  have E1 : PacQ.devT x.plain since rate k t = ClkP.localT since rate t - SndP.sendT x.plain k - SndP.meanT x.plain := rfl
  have hc : PacS b x me cold bk since rate hs ds w := h
  have hm' : (decide ((k : Int) = me) = false ∧ ((k : Int) == me) = false) ∨ (decide ((k : Int) = me) = true ∧ ((k : Int) == me) = true ∧ cold = true) := by
    by_cases g : (k : Int) = me
    · refine .inr ⟨decide_eq_true g, by rw [beq_iff_eq]; exact g, ?_⟩
      rcases hm with h | h
      · exact absurd g h
      · exact h
    · exact .inl ⟨decide_eq_false g, by rw [beq_eq_false_iff_ne]; exact g⟩
  clear hm
  generalize PacQ.devT x.plain since rate k t = dv at *
  generalize ClkP.localT since rate t = lv at *
  generalize SndP.sendT x.plain k = sd at *
  generalize SndP.meanT x.plain = mn at *
  have e1 : IntKind.i64.wrap (lv - sd) = lv - sd := IntWalk.i64_in _ (by omega)
  have e2 : IntKind.i64.wrap (lv - sd - mn) = dv := by rw [E1]; exact IntWalk.i64_in _ (by omega)
  clear h hh hn hx7 hn7 hp f1 f2 f3 E1 ht hfar
  obtain ⟨nodes, faulty, slot, gap, rho, dmin, dmax, margin, PA, pn, pcap, parts, QA, qn, qcap, ports, RA, rn, rcap, routes⟩ := x
  have d0 := fun W (hW : PacS b ⟨nodes, faulty, slot, gap, rho, dmin, dmax, margin, PA, pn, pcap, parts, QA, qn, qcap, ports, RA, rn, rcap, routes⟩ me cold bk since rate hs ds W) => hW.cfg.c0
  have d1 := fun W (hW : PacS b ⟨nodes, faulty, slot, gap, rho, dmin, dmax, margin, PA, pn, pcap, parts, QA, qn, qcap, ports, RA, rn, rcap, routes⟩ me cold bk since rate hs ds W) => hW.cfg.c1
  have d2 := fun W (hW : PacS b ⟨nodes, faulty, slot, gap, rho, dmin, dmax, margin, PA, pn, pcap, parts, QA, qn, qcap, ports, RA, rn, rcap, routes⟩ me cold bk since rate hs ds W) => hW.cfg.c2
  have d3 := fun W (hW : PacS b ⟨nodes, faulty, slot, gap, rho, dmin, dmax, margin, PA, pn, pcap, parts, QA, qn, qcap, ports, RA, rn, rcap, routes⟩ me cold bk since rate hs ds W) => hW.cfg.c3
  have d4 := fun W (hW : PacS b ⟨nodes, faulty, slot, gap, rho, dmin, dmax, margin, PA, pn, pcap, parts, QA, qn, qcap, ports, RA, rn, rcap, routes⟩ me cold bk since rate hs ds W) => hW.cfg.c4
  have d5 := fun W (hW : PacS b ⟨nodes, faulty, slot, gap, rho, dmin, dmax, margin, PA, pn, pcap, parts, QA, qn, qcap, ports, RA, rn, rcap, routes⟩ me cold bk since rate hs ds W) => hW.cfg.c5
  have d6 := fun W (hW : PacS b ⟨nodes, faulty, slot, gap, rho, dmin, dmax, margin, PA, pn, pcap, parts, QA, qn, qcap, ports, RA, rn, rcap, routes⟩ me cold bk since rate hs ds W) => hW.cfg.c6
  have d7 := fun W (hW : PacS b ⟨nodes, faulty, slot, gap, rho, dmin, dmax, margin, PA, pn, pcap, parts, QA, qn, qcap, ports, RA, rn, rcap, routes⟩ me cold bk since rate hs ds W) => hW.cfg.c7
  have d8 := fun W (hW : PacS b ⟨nodes, faulty, slot, gap, rho, dmin, dmax, margin, PA, pn, pcap, parts, QA, qn, qcap, ports, RA, rn, rcap, routes⟩ me cold bk since rate hs ds W) => hW.cfg.c8
  have d9 := fun W (hW : PacS b ⟨nodes, faulty, slot, gap, rho, dmin, dmax, margin, PA, pn, pcap, parts, QA, qn, qcap, ports, RA, rn, rcap, routes⟩ me cold bk since rate hs ds W) => hW.cfg.c9
  have d10 := fun W (hW : PacS b ⟨nodes, faulty, slot, gap, rho, dmin, dmax, margin, PA, pn, pcap, parts, QA, qn, qcap, ports, RA, rn, rcap, routes⟩ me cold bk since rate hs ds W) => hW.cfg.c10
  simp only at d0 d1 d2 d3 d4 d5 d6 d7 d8 d9 d10 q2
  have k0 := d0 _ hc
  clear d0 d1 d2 d3 d4 d5 d6 d7 d8 d9 d10 hc
  have d0 := fun W (hW : PacS b ⟨nodes, faulty, slot, gap, rho, dmin, dmax, margin, PA, pn, pcap, parts, QA, qn, qcap, ports, RA, rn, rcap, routes⟩ me cold bk since rate (hs.set k true) ds W) => hW.cfg.c0
  have d1 := fun W (hW : PacS b ⟨nodes, faulty, slot, gap, rho, dmin, dmax, margin, PA, pn, pcap, parts, QA, qn, qcap, ports, RA, rn, rcap, routes⟩ me cold bk since rate (hs.set k true) ds W) => hW.cfg.c1
  have d2 := fun W (hW : PacS b ⟨nodes, faulty, slot, gap, rho, dmin, dmax, margin, PA, pn, pcap, parts, QA, qn, qcap, ports, RA, rn, rcap, routes⟩ me cold bk since rate (hs.set k true) ds W) => hW.cfg.c2
  have d3 := fun W (hW : PacS b ⟨nodes, faulty, slot, gap, rho, dmin, dmax, margin, PA, pn, pcap, parts, QA, qn, qcap, ports, RA, rn, rcap, routes⟩ me cold bk since rate (hs.set k true) ds W) => hW.cfg.c3
  have d4 := fun W (hW : PacS b ⟨nodes, faulty, slot, gap, rho, dmin, dmax, margin, PA, pn, pcap, parts, QA, qn, qcap, ports, RA, rn, rcap, routes⟩ me cold bk since rate (hs.set k true) ds W) => hW.cfg.c4
  have d5 := fun W (hW : PacS b ⟨nodes, faulty, slot, gap, rho, dmin, dmax, margin, PA, pn, pcap, parts, QA, qn, qcap, ports, RA, rn, rcap, routes⟩ me cold bk since rate (hs.set k true) ds W) => hW.cfg.c5
  have d6 := fun W (hW : PacS b ⟨nodes, faulty, slot, gap, rho, dmin, dmax, margin, PA, pn, pcap, parts, QA, qn, qcap, ports, RA, rn, rcap, routes⟩ me cold bk since rate (hs.set k true) ds W) => hW.cfg.c6
  have d7 := fun W (hW : PacS b ⟨nodes, faulty, slot, gap, rho, dmin, dmax, margin, PA, pn, pcap, parts, QA, qn, qcap, ports, RA, rn, rcap, routes⟩ me cold bk since rate (hs.set k true) ds W) => hW.cfg.c7
  have d8 := fun W (hW : PacS b ⟨nodes, faulty, slot, gap, rho, dmin, dmax, margin, PA, pn, pcap, parts, QA, qn, qcap, ports, RA, rn, rcap, routes⟩ me cold bk since rate (hs.set k true) ds W) => hW.cfg.c8
  have d9 := fun W (hW : PacS b ⟨nodes, faulty, slot, gap, rho, dmin, dmax, margin, PA, pn, pcap, parts, QA, qn, qcap, ports, RA, rn, rcap, routes⟩ me cold bk since rate (hs.set k true) ds W) => hW.cfg.c9
  have d10 := fun W (hW : PacS b ⟨nodes, faulty, slot, gap, rho, dmin, dmax, margin, PA, pn, pcap, parts, QA, qn, qcap, ports, RA, rn, rcap, routes⟩ me cold bk since rate (hs.set k true) ds W) => hW.cfg.c10
  simp only at d0 d1 d2 d3 d4 d5 d6 d7 d8 d9 d10 C0 C1 C2 HE
  simp only [CfgC.value] at C1 C2
  unfold pv at *
  generalize hs.set k true = hs1 at *
  rcases hm' with ⟨q3, q4⟩ | ⟨q3, q4, rfl⟩
  · go_enter Try.func14, Try.ntmps14
    go_wp2_with fail
    clear hB hFr k11 k12 k0
    generalize w.setCell ⟨b, 14 + k, none⟩ (.bool true) = w1 at *
    have hg0 : PacS b ⟨nodes, faulty, slot, gap, rho, dmin, dmax, margin, PA, pn, pcap, parts, QA, qn, qcap, ports, RA, rn, rcap, routes⟩ me cold bk since rate hs1 ds w1.drew := PaceIn.drew H1.out
    have hb0 : Below w1.heap.size w1 w1.drew := (Below.refl _ _).drew
    clear H1
    refine wp_region_L_drew (st := 21) (S := fun W => PacS b ⟨nodes, faulty, slot, gap, rho, dmin, dmax, margin, PA, pn, pcap, parts, QA, qn, qcap, ports, RA, rn, rcap, routes⟩ me cold bk since rate hs1 ds W) (by kernel_rfl) hg0 (fun _ => ?_)
    refine wpAnyL_take (i := 0) (f := 12) (oi := ?oo1) (v := ?vv1) ?ii1 (by kernel_rfl) ?ff1 (by kernel_rfl) ?pp1 ?qq1 (Or.inl ⟨?ww1, ?yy1⟩) hg0 ?rr1
    case ii1 => simp only [List.getElem?_toArray, List.getElem?_cons_zero]; rfl
    case ff1 => kernel_rfl
    case pp1 => kernel_rfl
    case qq1 => exact fun _ _ _ h => h
    case ww1 => rfl
    case yy1 => intro W hW; go_simp <;> with_reducible rfl
    try simp only [Act.put, List.setIfInBounds_toArray, List.set_cons_zero, List.set_cons_succ]
    refine wpAnyL_take (i := 1) (f := 12) (oi := ?oo2) (v := ?vv2) ?ii2 (by kernel_rfl) ?ff2 (by kernel_rfl) ?pp2 ?qq2 (Or.inl ⟨?ww2, ?yy2⟩) hg0 ?rr2
    case ii2 => simp only [List.getElem?_toArray, List.getElem?_cons_succ, List.getElem?_cons_zero]; rfl
    case ff2 => kernel_rfl
    case pp2 => kernel_rfl
    case qq2 => exact fun _ _ _ h => h
    case ww2 => rfl
    case yy2 => intro W hW; go_simp <;> with_reducible rfl
    try simp only [Act.put, List.setIfInBounds_toArray, List.set_cons_zero, List.set_cons_succ]
    refine wpAnyL_take (i := 2) (f := 12) (oi := ?oo3) (v := ?vv3) ?ii3 (by kernel_rfl) ?ff3 (by kernel_rfl) ?pp3 ?qq3 (Or.inl ⟨?ww3, ?yy3⟩) hg0 ?rr3
    case ii3 => simp only [List.getElem?_toArray, List.getElem?_cons_succ, List.getElem?_cons_zero]; rfl
    case ff3 => kernel_rfl
    case pp3 => kernel_rfl
    case qq3 => exact fun _ _ _ h => h
    case ww3 => rfl
    case yy3 => intro W hW; go_simp <;> with_reducible rfl
    try simp only [Act.put, List.setIfInBounds_toArray, List.set_cons_zero, List.set_cons_succ]
    refine wpAnyL_take (i := 3) (f := 12) (oi := ?oo4) (v := ?vv4) ?ii4 (by kernel_rfl) ?ff4 (by kernel_rfl) ?pp4 ?qq4 (Or.inl ⟨?ww4, ?yy4⟩) hg0 ?rr4
    case ii4 => simp only [List.getElem?_toArray, List.getElem?_cons_succ, List.getElem?_cons_zero]; rfl
    case ff4 => kernel_rfl
    case pp4 => kernel_rfl
    case qq4 => exact fun _ _ _ h => h
    case ww4 => rfl
    case yy4 => intro W hW; go_simp <;> with_reducible rfl
    try simp only [Act.put, List.setIfInBounds_toArray, List.set_cons_zero, List.set_cons_succ]
    refine wpAnyL_take (i := 5) (f := 12) (oi := ?oo5) (v := ?vv5) ?ii5 (by kernel_rfl) ?ff5 (by kernel_rfl) ?pp5 ?qq5 (Or.inl ⟨?ww5, ?yy5⟩) hg0 ?rr5
    case ii5 => simp only [List.getElem?_toArray, List.getElem?_cons_succ, List.getElem?_cons_zero]; rfl
    case ff5 => kernel_rfl
    case pp5 => kernel_rfl
    case qq5 => exact fun _ _ _ h => h
    case ww5 => rfl
    case yy5 => intro W hW; go_simp <;> with_reducible rfl
    try simp only [Act.put, List.setIfInBounds_toArray, List.set_cons_zero, List.set_cons_succ]
    refine wpAnyL_take (i := 6) (f := 12) (oi := ?oo6) (v := ?vv6) ?ii6 (by kernel_rfl) ?ff6 (by kernel_rfl) ?pp6 ?qq6 (Or.inl ⟨?ww6, ?yy6⟩) hg0 ?rr6
    case ii6 => simp only [List.getElem?_toArray, List.getElem?_cons_succ, List.getElem?_cons_zero]; rfl
    case ff6 => kernel_rfl
    case pp6 => kernel_rfl
    case qq6 => exact fun _ _ _ h => h
    case ww6 => rfl
    case yy6 => intro W hW; go_simp <;> with_reducible rfl
    try simp only [Act.put, List.setIfInBounds_toArray, List.set_cons_zero, List.set_cons_succ]
    refine wpAnyL_take (i := 7) (f := 12) (oi := ?oo7) (v := ?vv7) ?ii7 (by kernel_rfl) ?ff7 (by kernel_rfl) ?pp7 ?qq7 (Or.inl ⟨?ww7, ?yy7⟩) hg0 ?rr7
    case ii7 => simp only [List.getElem?_toArray, List.getElem?_cons_succ, List.getElem?_cons_zero]; rfl
    case ff7 => kernel_rfl
    case pp7 => kernel_rfl
    case qq7 => exact fun _ _ _ h => h
    case ww7 => rfl
    case yy7 => intro W hW; go_simp <;> with_reducible rfl
    try simp only [Act.put, List.setIfInBounds_toArray, List.set_cons_zero, List.set_cons_succ]
    refine wpAnyL_take (i := 8) (f := 12) (oi := ?oo8) (v := ?vv8) ?ii8 (by kernel_rfl) ?ff8 (by kernel_rfl) ?pp8 ?qq8 (Or.inl ⟨?ww8, ?yy8⟩) hg0 ?rr8
    case ii8 => simp only [List.getElem?_toArray, List.getElem?_cons_succ, List.getElem?_cons_zero]; rfl
    case ff8 => kernel_rfl
    case pp8 => kernel_rfl
    case qq8 => exact fun _ _ _ h => h
    case ww8 => rfl
    case yy8 => intro W hW; go_simp <;> with_reducible rfl
    try simp only [Act.put, List.setIfInBounds_toArray, List.set_cons_zero, List.set_cons_succ]
    refine wpAnyL_take (i := 9) (f := 12) (oi := ?oo9) (v := ?vv9) ?ii9 (by kernel_rfl) ?ff9 (by kernel_rfl) ?pp9 ?qq9 (Or.inl ⟨?ww9, ?yy9⟩) hg0 ?rr9
    case ii9 => simp only [List.getElem?_toArray, List.getElem?_cons_succ, List.getElem?_cons_zero]; rfl
    case ff9 => kernel_rfl
    case pp9 => kernel_rfl
    case qq9 => exact fun _ _ _ h => h
    case ww9 => rfl
    case yy9 => intro W hW; go_simp <;> with_reducible rfl
    try simp only [Act.put, List.setIfInBounds_toArray, List.set_cons_zero, List.set_cons_succ]
    refine wpAnyL_take (i := 12) (f := 12) (oi := ?oo10) (v := ?vv10) ?ii10 (by kernel_rfl) ?ff10 (by kernel_rfl) ?pp10 ?qq10 (Or.inl ⟨?ww10, ?yy10⟩) hg0 ?rr10
    case ii10 => simp only [List.getElem?_toArray, List.getElem?_cons_succ, List.getElem?_cons_zero]; rfl
    case ff10 => kernel_rfl
    case pp10 => kernel_rfl
    case qq10 => exact fun _ _ _ h => h
    case ww10 => rfl
    case yy10 => intro W hW; go_simp <;> with_reducible rfl
    try simp only [Act.put, List.setIfInBounds_toArray, List.set_cons_zero, List.set_cons_succ]
    refine wpAnyL_take (i := 13) (f := 12) (oi := ?oo11) (v := ?vv11) ?ii11 (by kernel_rfl) ?ff11 (by kernel_rfl) ?pp11 ?qq11 (Or.inl ⟨?ww11, ?yy11⟩) hg0 ?rr11
    case ii11 => simp only [List.getElem?_toArray, List.getElem?_cons_succ, List.getElem?_cons_zero]; rfl
    case ff11 => kernel_rfl
    case pp11 => kernel_rfl
    case qq11 => exact fun _ _ _ h => h
    case ww11 => rfl
    case yy11 => intro W hW; go_simp <;> with_reducible rfl
    try simp only [Act.put, List.setIfInBounds_toArray, List.set_cons_zero, List.set_cons_succ]
    refine wpAnyL_take (i := 14) (f := 12) (oi := ?oo12) (v := ?vv12) ?ii12 (by kernel_rfl) ?ff12 (by kernel_rfl) ?pp12 ?qq12 (Or.inl ⟨?ww12, ?yy12⟩) hg0 ?rr12
    case ii12 => simp only [List.getElem?_toArray, List.getElem?_cons_succ, List.getElem?_cons_zero]; rfl
    case ff12 => kernel_rfl
    case pp12 => kernel_rfl
    case qq12 => exact fun _ _ _ h => h
    case ww12 => rfl
    case yy12 => intro W hW; go_simp <;> with_reducible rfl
    try simp only [Act.put, List.setIfInBounds_toArray, List.set_cons_zero, List.set_cons_succ]
    refine wpAnyL_take (i := 15) (f := 12) (oi := ?oo13) (v := ?vv13) ?ii13 (by kernel_rfl) ?ff13 (by kernel_rfl) ?pp13 ?qq13 (Or.inl ⟨?ww13, ?yy13⟩) hg0 ?rr13
    case ii13 => simp only [List.getElem?_toArray, List.getElem?_cons_succ, List.getElem?_cons_zero]; rfl
    case ff13 => kernel_rfl
    case pp13 => kernel_rfl
    case qq13 => exact fun _ _ _ h => h
    case ww13 => rfl
    case yy13 => intro W hW; go_simp <;> with_reducible rfl
    try simp only [Act.put, List.setIfInBounds_toArray, List.set_cons_zero, List.set_cons_succ]
    refine wpAnyL_take (i := 18) (f := 12) (oi := ?oo14) (v := ?vv14) ?ii14 (by kernel_rfl) ?ff14 (by kernel_rfl) ?pp14 ?qq14 (Or.inl ⟨?ww14, ?yy14⟩) hg0 ?rr14
    case ii14 => simp only [List.getElem?_toArray, List.getElem?_cons_succ, List.getElem?_cons_zero]; rfl
    case ff14 => kernel_rfl
    case pp14 => kernel_rfl
    case qq14 => exact fun _ _ _ h => h
    case ww14 => rfl
    case yy14 => intro W hW; go_simp <;> with_reducible rfl
    try simp only [Act.put, List.setIfInBounds_toArray, List.set_cons_zero, List.set_cons_succ]
    refine wpAnyL_take (i := 19) (f := 12) (oi := ?oo15) (v := ?vv15) ?ii15 (by kernel_rfl) ?ff15 (by kernel_rfl) ?pp15 ?qq15 (Or.inl ⟨?ww15, ?yy15⟩) hg0 ?rr15
    case ii15 => simp only [List.getElem?_toArray, List.getElem?_cons_succ, List.getElem?_cons_zero]; rfl
    case ff15 => kernel_rfl
    case pp15 => kernel_rfl
    case qq15 => exact fun _ _ _ h => h
    case ww15 => rfl
    case yy15 => intro W hW; go_simp <;> with_reducible rfl
    try simp only [Act.put, List.setIfInBounds_toArray, List.set_cons_zero, List.set_cons_succ]
    refine wpAnyL_one (k := 4) (o := ?oo16) (by kernel_rfl) ?ii16 (fun K hK => ?_)
    case ii16 => simp only [List.getElem?_toArray, List.getElem?_cons_succ, List.getElem?_cons_zero]; rfl
    go_simp
    refine (C0.out _ hg0).mono ?_
    rintro e w2 ⟨rfl, hm2⟩
    have hb2 := drewn_below' hm2
    have hg1 : PacS b ⟨nodes, faulty, slot, gap, rho, dmin, dmax, margin, PA, pn, pcap, parts, QA, qn, qcap, ports, RA, rn, rcap, routes⟩ me cold bk since rate hs1 ds w2 := PaceIn.below hg0 hb2
    have hb1' := hb0.trans (hb2.mono hb0.size)
    clear hb2 hg0 hb0 C0 hm2
    go_wp2_with fail
    refine hK.out _ _ (fun _ => hg1) ?_
    clear hK K
    refine wpAnyL_one (k := 10) (o := ?oo17) (by kernel_rfl) ?ii17 (fun K hK => ?_)
    case ii17 => simp only [List.getElem?_toArray, List.getElem?_cons_succ, List.getElem?_cons_zero]; rfl
    go_simp
    refine (C1.out _).mono ?_
    rintro e w3 ⟨rfl, hb2⟩
    have hg2 : PacS b ⟨nodes, faulty, slot, gap, rho, dmin, dmax, margin, PA, pn, pcap, parts, QA, qn, qcap, ports, RA, rn, rcap, routes⟩ me cold bk since rate hs1 ds w3 := PaceIn.below hg1 hb2
    have hb2' := hb1'.trans (hb2.mono hb1'.size)
    clear hb2 hg1 hb1' C1
    go_wp2_with fail
    refine hK.out _ _ (fun _ => hg2) ?_
    clear hK K
    refine wpAnyL_take (i := 11) (f := 12) (oi := ?oo18) (v := ?vv18) ?ii18 (by kernel_rfl) ?ff18 (by kernel_rfl) ?pp18 ?qq18 (Or.inl ⟨?ww18, ?yy18⟩) hg2 ?rr18
    case ii18 => simp only [List.getElem?_toArray, List.getElem?_cons_succ, List.getElem?_cons_zero]; rfl
    case ff18 => kernel_rfl
    case pp18 => kernel_rfl
    case qq18 => exact fun _ _ _ h => h
    case ww18 => rfl
    case yy18 => intro W hW; go_simp <;> with_reducible rfl
    try simp only [Act.put, List.setIfInBounds_toArray, List.set_cons_zero, List.set_cons_succ]
    refine wpAnyL_one (k := 16) (o := ?oo19) (by kernel_rfl) ?ii19 (fun K hK => ?_)
    case ii19 => simp only [List.getElem?_toArray, List.getElem?_cons_succ, List.getElem?_cons_zero]; rfl
    go_simp
    refine (C2.out _).mono ?_
    rintro e w4 ⟨rfl, hb3⟩
    have hg3 : PacS b ⟨nodes, faulty, slot, gap, rho, dmin, dmax, margin, PA, pn, pcap, parts, QA, qn, qcap, ports, RA, rn, rcap, routes⟩ me cold bk since rate hs1 ds w4 := PaceIn.below hg2 hb3
    have hb3' := hb2'.trans (hb3.mono hb2'.size)
    clear hb3 hg2 hb2' C2
    go_wp2_with fail
    refine hK.out _ _ (fun _ => hg3) ?_
    clear hK K
    refine wpAnyL_take (i := 17) (f := 12) (oi := ?oo20) (v := ?vv20) ?ii20 (by kernel_rfl) ?ff20 (by kernel_rfl) ?pp20 ?qq20 (Or.inl ⟨?ww20, ?yy20⟩) hg3 ?rr20
    case ii20 => simp only [List.getElem?_toArray, List.getElem?_cons_succ, List.getElem?_cons_zero]; rfl
    case ff20 => kernel_rfl
    case pp20 => kernel_rfl
    case qq20 => exact fun _ _ _ h => h
    case ww20 => rfl
    case yy20 => intro W hW; go_simp <;> with_reducible rfl
    try simp only [Act.put, List.setIfInBounds_toArray, List.set_cons_zero, List.set_cons_succ]
    refine wpAnyL_take (i := 20) (f := 12) (oi := ?oo21) (v := ?vv21) ?ii21 (by kernel_rfl) ?ff21 (by kernel_rfl) ?pp21 ?qq21 (Or.inl ⟨?ww21, ?yy21⟩) hg3 ?rr21
    case ii21 => simp only [List.getElem?_toArray, List.getElem?_cons_succ, List.getElem?_cons_zero]; rfl
    case ff21 => kernel_rfl
    case pp21 => kernel_rfl
    case qq21 => exact fun _ _ _ h => h
    case ww21 => rfl
    case yy21 => intro W hW; go_simp <;> with_reducible rfl
    try simp only [Act.put, List.setIfInBounds_toArray, List.set_cons_zero, List.set_cons_succ]
    have kD := HD.out _ hg3
    have kF := HDF.out _ hg3
    have HFin := Lib.hid (HE.out _ _ hg3 A1.out hb3')
    clear hg3 hb3' HD HDF HE A1 d0 d1 d2 d3 d4 d5 d6 d7 d8 d9 d10
    refine wpAnyL_last (k := 21) (o := ?oo22) (by kernel_rfl) ?ii22 (fun K hK => ?_)
    case ii22 => simp only [List.getElem?_toArray, List.getElem?_cons_succ, List.getElem?_cons_zero]; rfl
    go_simp
    go_wp2_with fail
    refine hK.out _ _ ?_
    clear hK K
    refine wpAnyL_done (by kernel_rfl) ?_ _
    clear kD kF
    go_wp2_with fail
    go_ret
    exact HFin.out
  · go_enter Try.func14, Try.ntmps14
    go_wp2_with fail
    clear hB hFr k11 k12 k0
    generalize w.setCell ⟨b, 14 + k, none⟩ (.bool true) = w1 at *
    have hg0 : PacS b ⟨nodes, faulty, slot, gap, rho, dmin, dmax, margin, PA, pn, pcap, parts, QA, qn, qcap, ports, RA, rn, rcap, routes⟩ me true bk since rate hs1 ds w1.drew := PaceIn.drew H1.out
    have hb0 : Below w1.heap.size w1 w1.drew := (Below.refl _ _).drew
    clear H1
    refine wp_region_L_drew (st := 21) (S := fun W => PacS b ⟨nodes, faulty, slot, gap, rho, dmin, dmax, margin, PA, pn, pcap, parts, QA, qn, qcap, ports, RA, rn, rcap, routes⟩ me true bk since rate hs1 ds W) (by kernel_rfl) hg0 (fun _ => ?_)
    refine wpAnyL_take (i := 0) (f := 12) (oi := ?oo23) (v := ?vv23) ?ii23 (by kernel_rfl) ?ff23 (by kernel_rfl) ?pp23 ?qq23 (Or.inl ⟨?ww23, ?yy23⟩) hg0 ?rr23
    case ii23 => simp only [List.getElem?_toArray, List.getElem?_cons_zero]; rfl
    case ff23 => kernel_rfl
    case pp23 => kernel_rfl
    case qq23 => exact fun _ _ _ h => h
    case ww23 => rfl
    case yy23 => intro W hW; go_simp <;> with_reducible rfl
    try simp only [Act.put, List.setIfInBounds_toArray, List.set_cons_zero, List.set_cons_succ]
    refine wpAnyL_take (i := 1) (f := 12) (oi := ?oo24) (v := ?vv24) ?ii24 (by kernel_rfl) ?ff24 (by kernel_rfl) ?pp24 ?qq24 (Or.inl ⟨?ww24, ?yy24⟩) hg0 ?rr24
    case ii24 => simp only [List.getElem?_toArray, List.getElem?_cons_succ, List.getElem?_cons_zero]; rfl
    case ff24 => kernel_rfl
    case pp24 => kernel_rfl
    case qq24 => exact fun _ _ _ h => h
    case ww24 => rfl
    case yy24 => intro W hW; go_simp <;> with_reducible rfl
    try simp only [Act.put, List.setIfInBounds_toArray, List.set_cons_zero, List.set_cons_succ]
    refine wpAnyL_take (i := 2) (f := 12) (oi := ?oo25) (v := ?vv25) ?ii25 (by kernel_rfl) ?ff25 (by kernel_rfl) ?pp25 ?qq25 (Or.inl ⟨?ww25, ?yy25⟩) hg0 ?rr25
    case ii25 => simp only [List.getElem?_toArray, List.getElem?_cons_succ, List.getElem?_cons_zero]; rfl
    case ff25 => kernel_rfl
    case pp25 => kernel_rfl
    case qq25 => exact fun _ _ _ h => h
    case ww25 => rfl
    case yy25 => intro W hW; go_simp <;> with_reducible rfl
    try simp only [Act.put, List.setIfInBounds_toArray, List.set_cons_zero, List.set_cons_succ]
    refine wpAnyL_take (i := 3) (f := 12) (oi := ?oo26) (v := ?vv26) ?ii26 (by kernel_rfl) ?ff26 (by kernel_rfl) ?pp26 ?qq26 (Or.inl ⟨?ww26, ?yy26⟩) hg0 ?rr26
    case ii26 => simp only [List.getElem?_toArray, List.getElem?_cons_succ, List.getElem?_cons_zero]; rfl
    case ff26 => kernel_rfl
    case pp26 => kernel_rfl
    case qq26 => exact fun _ _ _ h => h
    case ww26 => rfl
    case yy26 => intro W hW; go_simp <;> with_reducible rfl
    try simp only [Act.put, List.setIfInBounds_toArray, List.set_cons_zero, List.set_cons_succ]
    refine wpAnyL_take (i := 5) (f := 12) (oi := ?oo27) (v := ?vv27) ?ii27 (by kernel_rfl) ?ff27 (by kernel_rfl) ?pp27 ?qq27 (Or.inl ⟨?ww27, ?yy27⟩) hg0 ?rr27
    case ii27 => simp only [List.getElem?_toArray, List.getElem?_cons_succ, List.getElem?_cons_zero]; rfl
    case ff27 => kernel_rfl
    case pp27 => kernel_rfl
    case qq27 => exact fun _ _ _ h => h
    case ww27 => rfl
    case yy27 => intro W hW; go_simp <;> with_reducible rfl
    try simp only [Act.put, List.setIfInBounds_toArray, List.set_cons_zero, List.set_cons_succ]
    refine wpAnyL_take (i := 6) (f := 12) (oi := ?oo28) (v := ?vv28) ?ii28 (by kernel_rfl) ?ff28 (by kernel_rfl) ?pp28 ?qq28 (Or.inl ⟨?ww28, ?yy28⟩) hg0 ?rr28
    case ii28 => simp only [List.getElem?_toArray, List.getElem?_cons_succ, List.getElem?_cons_zero]; rfl
    case ff28 => kernel_rfl
    case pp28 => kernel_rfl
    case qq28 => exact fun _ _ _ h => h
    case ww28 => rfl
    case yy28 => intro W hW; go_simp <;> with_reducible rfl
    try simp only [Act.put, List.setIfInBounds_toArray, List.set_cons_zero, List.set_cons_succ]
    refine wpAnyL_take (i := 7) (f := 12) (oi := ?oo29) (v := ?vv29) ?ii29 (by kernel_rfl) ?ff29 (by kernel_rfl) ?pp29 ?qq29 (Or.inl ⟨?ww29, ?yy29⟩) hg0 ?rr29
    case ii29 => simp only [List.getElem?_toArray, List.getElem?_cons_succ, List.getElem?_cons_zero]; rfl
    case ff29 => kernel_rfl
    case pp29 => kernel_rfl
    case qq29 => exact fun _ _ _ h => h
    case ww29 => rfl
    case yy29 => intro W hW; go_simp <;> with_reducible rfl
    try simp only [Act.put, List.setIfInBounds_toArray, List.set_cons_zero, List.set_cons_succ]
    refine wpAnyL_take (i := 8) (f := 12) (oi := ?oo30) (v := ?vv30) ?ii30 (by kernel_rfl) ?ff30 (by kernel_rfl) ?pp30 ?qq30 (Or.inl ⟨?ww30, ?yy30⟩) hg0 ?rr30
    case ii30 => simp only [List.getElem?_toArray, List.getElem?_cons_succ, List.getElem?_cons_zero]; rfl
    case ff30 => kernel_rfl
    case pp30 => kernel_rfl
    case qq30 => exact fun _ _ _ h => h
    case ww30 => rfl
    case yy30 => intro W hW; go_simp <;> with_reducible rfl
    try simp only [Act.put, List.setIfInBounds_toArray, List.set_cons_zero, List.set_cons_succ]
    refine wpAnyL_take (i := 9) (f := 12) (oi := ?oo31) (v := ?vv31) ?ii31 (by kernel_rfl) ?ff31 (by kernel_rfl) ?pp31 ?qq31 (Or.inl ⟨?ww31, ?yy31⟩) hg0 ?rr31
    case ii31 => simp only [List.getElem?_toArray, List.getElem?_cons_succ, List.getElem?_cons_zero]; rfl
    case ff31 => kernel_rfl
    case pp31 => kernel_rfl
    case qq31 => exact fun _ _ _ h => h
    case ww31 => rfl
    case yy31 => intro W hW; go_simp <;> with_reducible rfl
    try simp only [Act.put, List.setIfInBounds_toArray, List.set_cons_zero, List.set_cons_succ]
    refine wpAnyL_take (i := 12) (f := 12) (oi := ?oo32) (v := ?vv32) ?ii32 (by kernel_rfl) ?ff32 (by kernel_rfl) ?pp32 ?qq32 (Or.inl ⟨?ww32, ?yy32⟩) hg0 ?rr32
    case ii32 => simp only [List.getElem?_toArray, List.getElem?_cons_succ, List.getElem?_cons_zero]; rfl
    case ff32 => kernel_rfl
    case pp32 => kernel_rfl
    case qq32 => exact fun _ _ _ h => h
    case ww32 => rfl
    case yy32 => intro W hW; go_simp <;> with_reducible rfl
    try simp only [Act.put, List.setIfInBounds_toArray, List.set_cons_zero, List.set_cons_succ]
    refine wpAnyL_take (i := 13) (f := 12) (oi := ?oo33) (v := ?vv33) ?ii33 (by kernel_rfl) ?ff33 (by kernel_rfl) ?pp33 ?qq33 (Or.inl ⟨?ww33, ?yy33⟩) hg0 ?rr33
    case ii33 => simp only [List.getElem?_toArray, List.getElem?_cons_succ, List.getElem?_cons_zero]; rfl
    case ff33 => kernel_rfl
    case pp33 => kernel_rfl
    case qq33 => exact fun _ _ _ h => h
    case ww33 => rfl
    case yy33 => intro W hW; go_simp <;> with_reducible rfl
    try simp only [Act.put, List.setIfInBounds_toArray, List.set_cons_zero, List.set_cons_succ]
    refine wpAnyL_take (i := 14) (f := 12) (oi := ?oo34) (v := ?vv34) ?ii34 (by kernel_rfl) ?ff34 (by kernel_rfl) ?pp34 ?qq34 (Or.inl ⟨?ww34, ?yy34⟩) hg0 ?rr34
    case ii34 => simp only [List.getElem?_toArray, List.getElem?_cons_succ, List.getElem?_cons_zero]; rfl
    case ff34 => kernel_rfl
    case pp34 => kernel_rfl
    case qq34 => exact fun _ _ _ h => h
    case ww34 => rfl
    case yy34 => intro W hW; go_simp <;> with_reducible rfl
    try simp only [Act.put, List.setIfInBounds_toArray, List.set_cons_zero, List.set_cons_succ]
    refine wpAnyL_take (i := 15) (f := 12) (oi := ?oo35) (v := ?vv35) ?ii35 (by kernel_rfl) ?ff35 (by kernel_rfl) ?pp35 ?qq35 (Or.inl ⟨?ww35, ?yy35⟩) hg0 ?rr35
    case ii35 => simp only [List.getElem?_toArray, List.getElem?_cons_succ, List.getElem?_cons_zero]; rfl
    case ff35 => kernel_rfl
    case pp35 => kernel_rfl
    case qq35 => exact fun _ _ _ h => h
    case ww35 => rfl
    case yy35 => intro W hW; go_simp <;> with_reducible rfl
    try simp only [Act.put, List.setIfInBounds_toArray, List.set_cons_zero, List.set_cons_succ]
    refine wpAnyL_take (i := 18) (f := 12) (oi := ?oo36) (v := ?vv36) ?ii36 (by kernel_rfl) ?ff36 (by kernel_rfl) ?pp36 ?qq36 (Or.inl ⟨?ww36, ?yy36⟩) hg0 ?rr36
    case ii36 => simp only [List.getElem?_toArray, List.getElem?_cons_succ, List.getElem?_cons_zero]; rfl
    case ff36 => kernel_rfl
    case pp36 => kernel_rfl
    case qq36 => exact fun _ _ _ h => h
    case ww36 => rfl
    case yy36 => intro W hW; go_simp <;> with_reducible rfl
    try simp only [Act.put, List.setIfInBounds_toArray, List.set_cons_zero, List.set_cons_succ]
    refine wpAnyL_take (i := 19) (f := 12) (oi := ?oo37) (v := ?vv37) ?ii37 (by kernel_rfl) ?ff37 (by kernel_rfl) ?pp37 ?qq37 (Or.inl ⟨?ww37, ?yy37⟩) hg0 ?rr37
    case ii37 => simp only [List.getElem?_toArray, List.getElem?_cons_succ, List.getElem?_cons_zero]; rfl
    case ff37 => kernel_rfl
    case pp37 => kernel_rfl
    case qq37 => exact fun _ _ _ h => h
    case ww37 => rfl
    case yy37 => intro W hW; go_simp <;> with_reducible rfl
    try simp only [Act.put, List.setIfInBounds_toArray, List.set_cons_zero, List.set_cons_succ]
    refine wpAnyL_one (k := 4) (o := ?oo38) (by kernel_rfl) ?ii38 (fun K hK => ?_)
    case ii38 => simp only [List.getElem?_toArray, List.getElem?_cons_succ, List.getElem?_cons_zero]; rfl
    go_simp
    refine (C0.out _ hg0).mono ?_
    rintro e w2 ⟨rfl, hm2⟩
    have hb2 := drewn_below' hm2
    have hg1 : PacS b ⟨nodes, faulty, slot, gap, rho, dmin, dmax, margin, PA, pn, pcap, parts, QA, qn, qcap, ports, RA, rn, rcap, routes⟩ me true bk since rate hs1 ds w2 := PaceIn.below hg0 hb2
    have hb1' := hb0.trans (hb2.mono hb0.size)
    clear hb2 hg0 hb0 C0 hm2
    go_wp2_with fail
    refine hK.out _ _ (fun _ => hg1) ?_
    clear hK K
    refine wpAnyL_one (k := 10) (o := ?oo39) (by kernel_rfl) ?ii39 (fun K hK => ?_)
    case ii39 => simp only [List.getElem?_toArray, List.getElem?_cons_succ, List.getElem?_cons_zero]; rfl
    go_simp
    refine (C1.out _).mono ?_
    rintro e w3 ⟨rfl, hb2⟩
    have hg2 : PacS b ⟨nodes, faulty, slot, gap, rho, dmin, dmax, margin, PA, pn, pcap, parts, QA, qn, qcap, ports, RA, rn, rcap, routes⟩ me true bk since rate hs1 ds w3 := PaceIn.below hg1 hb2
    have hb2' := hb1'.trans (hb2.mono hb1'.size)
    clear hb2 hg1 hb1' C1
    go_wp2_with fail
    refine hK.out _ _ (fun _ => hg2) ?_
    clear hK K
    refine wpAnyL_take (i := 11) (f := 12) (oi := ?oo40) (v := ?vv40) ?ii40 (by kernel_rfl) ?ff40 (by kernel_rfl) ?pp40 ?qq40 (Or.inl ⟨?ww40, ?yy40⟩) hg2 ?rr40
    case ii40 => simp only [List.getElem?_toArray, List.getElem?_cons_succ, List.getElem?_cons_zero]; rfl
    case ff40 => kernel_rfl
    case pp40 => kernel_rfl
    case qq40 => exact fun _ _ _ h => h
    case ww40 => rfl
    case yy40 => intro W hW; go_simp <;> with_reducible rfl
    try simp only [Act.put, List.setIfInBounds_toArray, List.set_cons_zero, List.set_cons_succ]
    refine wpAnyL_one (k := 16) (o := ?oo41) (by kernel_rfl) ?ii41 (fun K hK => ?_)
    case ii41 => simp only [List.getElem?_toArray, List.getElem?_cons_succ, List.getElem?_cons_zero]; rfl
    go_simp
    refine (C2.out _).mono ?_
    rintro e w4 ⟨rfl, hb3⟩
    have hg3 : PacS b ⟨nodes, faulty, slot, gap, rho, dmin, dmax, margin, PA, pn, pcap, parts, QA, qn, qcap, ports, RA, rn, rcap, routes⟩ me true bk since rate hs1 ds w4 := PaceIn.below hg2 hb3
    have hb3' := hb2'.trans (hb3.mono hb2'.size)
    clear hb3 hg2 hb2' C2
    go_wp2_with fail
    refine hK.out _ _ (fun _ => hg3) ?_
    clear hK K
    refine wpAnyL_take (i := 17) (f := 12) (oi := ?oo42) (v := ?vv42) ?ii42 (by kernel_rfl) ?ff42 (by kernel_rfl) ?pp42 ?qq42 (Or.inl ⟨?ww42, ?yy42⟩) hg3 ?rr42
    case ii42 => simp only [List.getElem?_toArray, List.getElem?_cons_succ, List.getElem?_cons_zero]; rfl
    case ff42 => kernel_rfl
    case pp42 => kernel_rfl
    case qq42 => exact fun _ _ _ h => h
    case ww42 => rfl
    case yy42 => intro W hW; go_simp <;> with_reducible rfl
    try simp only [Act.put, List.setIfInBounds_toArray, List.set_cons_zero, List.set_cons_succ]
    refine wpAnyL_take (i := 20) (f := 12) (oi := ?oo43) (v := ?vv43) ?ii43 (by kernel_rfl) ?ff43 (by kernel_rfl) ?pp43 ?qq43 (Or.inl ⟨?ww43, ?yy43⟩) hg3 ?rr43
    case ii43 => simp only [List.getElem?_toArray, List.getElem?_cons_succ, List.getElem?_cons_zero]; rfl
    case ff43 => kernel_rfl
    case pp43 => kernel_rfl
    case qq43 => exact fun _ _ _ h => h
    case ww43 => rfl
    case yy43 => intro W hW; go_simp <;> with_reducible rfl
    try simp only [Act.put, List.setIfInBounds_toArray, List.set_cons_zero, List.set_cons_succ]
    have kD := HD.out _ hg3
    have kF := HDF.out _ hg3
    have HFin := Lib.hid (HE.out _ _ hg3 A1.out hb3')
    clear hg3 hb3' HD HDF HE A1 d0 d1 d2 d3 d4 d5 d6 d7 d8 d9 d10
    refine wpAnyL_last (k := 21) (o := ?oo44) (by kernel_rfl) ?ii44 (fun K hK => ?_)
    case ii44 => simp only [List.getElem?_toArray, List.getElem?_cons_succ, List.getElem?_cons_zero]; rfl
    go_simp
    go_wp2_with fail
    refine hK.out _ _ ?_
    clear hK K
    refine wpAnyL_done (by kernel_rfl) ?_ _
    clear kD kF
    go_wp2_with fail
    go_ret
    exact HFin.out
end Go.Proofs.Ythhbdnjihhpalaa
