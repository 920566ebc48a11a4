/- Two partitions that read alike are the same. No conditions. · Contract of the document's Same at tables that read alike: true. Conditions: where their lists lie. -/
import Derived.Test.YtgceleipaiameaaTbD
import Derived.Deep.QuietTactic
import Derived.BigQuiet
namespace Go.Proofs.Ytgceleipaiameaa
open Go.RowKit
set_option maxRecDepth 100000

theorem eq_arr (d : Nat) (r0 r1 r2 r3 : Int) (w : World) : (Op.equalIn (d + 2) 58 (.agg #[.int .u8 r0, .int .u8 r1, .int .u8 r2, .int .u8 r3]) (.agg #[.int .u8 r0, .int .u8 r1, .int .u8 r2, .int .u8 r3])).run Try.prog w = .ok true w := by
  have hs : (sizeOf 57).run Try.prog w = .ok 1 w := by kernel_rfl
  unfold Op.equalIn
  have p0 : (part 57 #[.int .u8 r0, .int .u8 r1, .int .u8 r2, .int .u8 r3] 0).run Try.prog w = .ok (.int .u8 r0) w := by kernel_rfl
  have p1 : (part 57 #[.int .u8 r0, .int .u8 r1, .int .u8 r2, .int .u8 r3] 1).run Try.prog w = .ok (.int .u8 r1) w := by kernel_rfl
  have p2 : (part 57 #[.int .u8 r0, .int .u8 r1, .int .u8 r2, .int .u8 r3] 2).run Try.prog w = .ok (.int .u8 r2) w := by kernel_rfl
  have p3 : (part 57 #[.int .u8 r0, .int .u8 r1, .int .u8 r2, .int .u8 r3] 3).run Try.prog w = .ok (.int .u8 r3) w := by kernel_rfl
  have hr : List.range' 0 4 = [0, 1, 2, 3] := rfl
  have he : ∀ (r : Int), (Op.equalIn (d + 1) 57 (.int .u8 r) (.int .u8 r)).run Try.prog w = .ok true w := fun r => by
    rw [run_equalIn_int (k' := .u8) w d 57 .u8 r r Try.underlying57]
    simp
  simp [run_underlying Try.underlying58, hs, hr, he, p0, p1, p2, p3]
theorem neq_part (p : TableP.Part) (w : World) : (binOp .neq 60 (.agg (partVals p).toArray) (.agg (partVals p).toArray)).run Try.prog w = .ok (.bool false) w := by
  have h := fun w => eq_arr 9997 (p.r0 : Nat) (p.r1 : Nat) (p.r2 : Nat) (p.r3 : Nat) w
  simp only [partVals]
  simp [go_sem, h]
end Go.Proofs.Ytgceleipaiameaa
namespace Go.Proofs.Ytgceleipaiameaa
open Go.RowKit
set_option maxRecDepth 100000

def SameRel (n : Nat) (W : World) (i : Value) (wr : World) : Prop := ∃ k m, k ≤ n ∧ i = .int .i64 (k : Nat) ∧ wr = W.drewN m

set_option maxHeartbeats 8000000 in
/-- Same: of two tables that read alike. -/
theorem same_any (x y : CfgC) (w : World) (hx : CfgIn w x) (hy : CfgIn w y) (he : x.plain = y.plain) :
    Calls Try.prog 16 #[x.value, y.value] w (fun e w' => e = .returned (.bool true) ∧ Below w.heap.size w w') := by
  have HB := Lib.hid (fun o1 o2 m => below_drewN' (((Below.refl w.heap.size w).alloc (Nat.le_refl _) o1).alloc (by simp) o2) m)
  have hbb := fun o1 o2 => ((Below.refl w.heap.size w).alloc (Nat.le_refl _) o1).alloc (by simp) o2
  have HP1 := Lib.hid (fun o1 o2 => hx.parts.below (hbb o1 o2))
  have HP2 := Lib.hid (fun o1 o2 => hy.parts.below (hbb o1 o2))
  have HQ1 := Lib.hid (fun o1 o2 => hx.ports.below (hbb o1 o2))
  have HQ2 := Lib.hid (fun o1 o2 => hy.ports.below (hbb o1 o2))
  have HR1 := Lib.hid (fun o1 o2 => hx.routes.below (hbb o1 o2))
  have HR2 := Lib.hid (fun o1 o2 => hy.routes.below (hbb o1 o2))
  have e1 := hx.plen
  have e2 := hx.qlen
  have e3 := hx.rlen
  have e4 := hy.plen
  have e5 := hy.qlen
  have e6 := hy.rlen
  have m1 := hx.pmost
  have m2 := hx.qmost
  have m3 := hx.rmost
  have c1 := hx.pcap_
  have c2 := hx.qcap_
  have c3 := hx.rcap_
  have d1 := hy.pcap_
  have d2 := hy.qcap_
  have d3 := hy.rcap_
  obtain ⟨nodes, faulty, slot, gap, rho, dmin, dmax, margin, PA, pn, pcap, parts, QA, qn, qcap, ports, RA, rn, rcap, routes⟩ := x
  obtain ⟨nodes', faulty', slot', gap', rho', dmin', dmax', margin', PA', pn', pcap', parts', QA', qn', qcap', ports', RA', rn', rcap', routes'⟩ := y
  simp only [CfgC.plain, TableP.Cfg.mk.injEq] at he
  obtain ⟨rfl, rfl, rfl, rfl, rfl, rfl, rfl, rfl, rfl, rfl, rfl⟩ := he
  simp only at HP1 HP2 HQ1 HQ2 HR1 HR2 e1 e2 e3 e4 e5 e6 m1 m2 m3 c1 c2 c3 d1 d2 d3
  subst e1 e2 e3 e4 e5 e6
  obtain ⟨pn, hpn⟩ : ∃ n, parts.length = n := ⟨_, rfl⟩
  obtain ⟨qn, hqn⟩ : ∃ n, ports.length = n := ⟨_, rfl⟩
  obtain ⟨rn, hrn⟩ : ∃ n, routes.length = n := ⟨_, rfl⟩
  have Hpn := Lib.hid hpn
  have Hqn := Lib.hid hqn
  have Hrn := Lib.hid hrn
  simp only [CfgC.value]
  rw [hpn] at m1 c1 d1
  rw [hqn] at m2 c2 d2
  rw [hrn] at m3 c3 d3
  rw [hpn, hqn, hrn]
  clear hx hy hbb hpn hqn hrn
  go_enter Try.func16, Try.ntmps16
  go_wp2_with fail
  go_loopw [5] (SameRel pn ((w.alloc (.cells #[.int .i64 nodes, .int .i64 faulty, .int .i64 slot, .int .i64 gap, .int .i64 rho, .int .i64 dmin, .int .i64 dmax, .int .i64 margin, .slice PA pn pcap, .slice QA qn qcap, .slice RA rn rcap] 26)).alloc (.cells #[.int .i64 nodes, .int .i64 faulty, .int .i64 slot, .int .i64 gap, .int .i64 rho, .int .i64 dmin, .int .i64 dmax, .int .i64 margin, .slice PA' pn pcap', .slice QA' qn qcap', .slice RA' rn rcap'] 26))) (fun i _ => (pn + 1 - intOf i).toNat)
  case atStart => exact ⟨0, 0, Nat.zero_le _, rfl, rfl⟩
  case round =>
    obtain ⟨k, m, hk, rfl, rfl⟩ := hrel
    by_cases hlt : k < pn
    · obtain ⟨y, hmk⟩ : ∃ y, parts[k]? = some y := ⟨_, List.getElem?_eq_getElem (by rw [Hpn.out]; exact hlt)⟩
      obtain ⟨b, off, f1, hb, k0, k1, k2, k3, k4, k5, k6, k7, k8⟩ := parts_at (HP1.out (.cells #[.int .i64 nodes, .int .i64 faulty, .int .i64 slot, .int .i64 gap, .int .i64 rho, .int .i64 dmin, .int .i64 dmax, .int .i64 margin, .slice PA pn pcap, .slice QA qn qcap, .slice RA rn rcap] 26) (.cells #[.int .i64 nodes, .int .i64 faulty, .int .i64 slot, .int .i64 gap, .int .i64 rho, .int .i64 dmin, .int .i64 dmax, .int .i64 margin, .slice PA' pn pcap', .slice QA' qn qcap', .slice RA' rn rcap'] 26)) hmk
      obtain ⟨b', off', f2, hb', j0, j1, j2, j3, j4, j5, j6, j7, j8⟩ := parts_at (HP2.out (.cells #[.int .i64 nodes, .int .i64 faulty, .int .i64 slot, .int .i64 gap, .int .i64 rho, .int .i64 dmin, .int .i64 dmax, .int .i64 margin, .slice PA pn pcap, .slice QA qn qcap, .slice RA rn rcap] 26) (.cells #[.int .i64 nodes, .int .i64 faulty, .int .i64 slot, .int .i64 gap, .int .i64 rho, .int .i64 dmin, .int .i64 dmax, .int .i64 margin, .slice PA' pn pcap', .slice QA' qn qcap', .slice RA' rn rcap'] 26)) hmk
      subst f1 f2
      clear hmk
      have hq := fun W => neq_part y W
      simp only [partVals] at hq
      go_wp2_with fail
      go_quiet (fail)
      go_wp2_with fail
      go_roundw
      case rel => exact ⟨k + 1, _, by omega, by go_num, rfl⟩
      case measure => simp [intOf]; omega
    have hkn : pn = k := by omega
    subst hkn
    go_wp2_with fail
    go_loopw [6] (SameRel qn ((w.alloc (.cells #[.int .i64 nodes, .int .i64 faulty, .int .i64 slot, .int .i64 gap, .int .i64 rho, .int .i64 dmin, .int .i64 dmax, .int .i64 margin, .slice PA pn pcap, .slice QA qn qcap, .slice RA rn rcap] 26)).alloc (.cells #[.int .i64 nodes, .int .i64 faulty, .int .i64 slot, .int .i64 gap, .int .i64 rho, .int .i64 dmin, .int .i64 dmax, .int .i64 margin, .slice PA' pn pcap', .slice QA' qn qcap', .slice RA' rn rcap'] 26))) (fun i _ => (qn + 1 - intOf i).toNat)
    case atStart => exact ⟨0, _, Nat.zero_le _, rfl, rfl⟩
    case round =>
      obtain ⟨k, m, hk, rfl, rfl⟩ := hrel
      by_cases hlt : k < qn
      · obtain ⟨y, hmk⟩ : ∃ y, ports[k]? = some y := ⟨_, List.getElem?_eq_getElem (by rw [Hqn.out]; exact hlt)⟩
        obtain ⟨b, off, f1, hb, k0, k1, k2, k3, k4, k5⟩ := ports_at (HQ1.out (.cells #[.int .i64 nodes, .int .i64 faulty, .int .i64 slot, .int .i64 gap, .int .i64 rho, .int .i64 dmin, .int .i64 dmax, .int .i64 margin, .slice PA pn pcap, .slice QA qn qcap, .slice RA rn rcap] 26) (.cells #[.int .i64 nodes, .int .i64 faulty, .int .i64 slot, .int .i64 gap, .int .i64 rho, .int .i64 dmin, .int .i64 dmax, .int .i64 margin, .slice PA' pn pcap', .slice QA' qn qcap', .slice RA' rn rcap'] 26)) hmk
        obtain ⟨b', off', f2, hb', j0, j1, j2, j3, j4, j5⟩ := ports_at (HQ2.out (.cells #[.int .i64 nodes, .int .i64 faulty, .int .i64 slot, .int .i64 gap, .int .i64 rho, .int .i64 dmin, .int .i64 dmax, .int .i64 margin, .slice PA pn pcap, .slice QA qn qcap, .slice RA rn rcap] 26) (.cells #[.int .i64 nodes, .int .i64 faulty, .int .i64 slot, .int .i64 gap, .int .i64 rho, .int .i64 dmin, .int .i64 dmax, .int .i64 margin, .slice PA' pn pcap', .slice QA' qn qcap', .slice RA' rn rcap'] 26)) hmk
        subst f1 f2
        clear hmk
        go_wp2_with fail
        go_quiet (fail)
        go_wp2_with fail
        go_roundw
        case rel => exact ⟨k + 1, _, by omega, by go_num, rfl⟩
        case measure => simp [intOf]; omega
      have hkn : qn = k := by omega
      subst hkn
      go_wp2_with fail
      go_loopw [7] (SameRel rn ((w.alloc (.cells #[.int .i64 nodes, .int .i64 faulty, .int .i64 slot, .int .i64 gap, .int .i64 rho, .int .i64 dmin, .int .i64 dmax, .int .i64 margin, .slice PA pn pcap, .slice QA qn qcap, .slice RA rn rcap] 26)).alloc (.cells #[.int .i64 nodes, .int .i64 faulty, .int .i64 slot, .int .i64 gap, .int .i64 rho, .int .i64 dmin, .int .i64 dmax, .int .i64 margin, .slice PA' pn pcap', .slice QA' qn qcap', .slice RA' rn rcap'] 26))) (fun i _ => (rn + 1 - intOf i).toNat)
      case atStart => exact ⟨0, _, Nat.zero_le _, rfl, rfl⟩
      case round =>
        obtain ⟨k, m, hk, rfl, rfl⟩ := hrel
        by_cases hlt : k < rn
        · obtain ⟨y, hmk⟩ : ∃ y, routes[k]? = some y := ⟨_, List.getElem?_eq_getElem (by rw [Hrn.out]; exact hlt)⟩
          obtain ⟨b, off, f1, hb, k0, k1⟩ := routes_at (HR1.out (.cells #[.int .i64 nodes, .int .i64 faulty, .int .i64 slot, .int .i64 gap, .int .i64 rho, .int .i64 dmin, .int .i64 dmax, .int .i64 margin, .slice PA pn pcap, .slice QA qn qcap, .slice RA rn rcap] 26) (.cells #[.int .i64 nodes, .int .i64 faulty, .int .i64 slot, .int .i64 gap, .int .i64 rho, .int .i64 dmin, .int .i64 dmax, .int .i64 margin, .slice PA' pn pcap', .slice QA' qn qcap', .slice RA' rn rcap'] 26)) hmk
          obtain ⟨b', off', f2, hb', j0, j1⟩ := routes_at (HR2.out (.cells #[.int .i64 nodes, .int .i64 faulty, .int .i64 slot, .int .i64 gap, .int .i64 rho, .int .i64 dmin, .int .i64 dmax, .int .i64 margin, .slice PA pn pcap, .slice QA qn qcap, .slice RA rn rcap] 26) (.cells #[.int .i64 nodes, .int .i64 faulty, .int .i64 slot, .int .i64 gap, .int .i64 rho, .int .i64 dmin, .int .i64 dmax, .int .i64 margin, .slice PA' pn pcap', .slice QA' qn qcap', .slice RA' rn rcap'] 26)) hmk
          subst f1 f2
          clear hmk
          go_wp2_with fail
          go_quiet (fail)
          go_wp2_with fail
          go_roundw
          case rel => exact ⟨k + 1, _, by omega, by go_num, rfl⟩
          case measure => simp [intOf]; omega
        have hkn : rn = k := by omega
        subst hkn
        go_wp2_with fail
        go_ret
        exact ⟨rfl, HB.out _ _ _⟩
end Go.Proofs.Ytgceleipaiameaa
