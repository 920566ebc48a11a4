/- The walk of the law FaultHas: it tells true, and nothing that was there turns. Conditions: errors.errorType holds the type error; what made makes of the argument. -/
import Derived.Test.YtinjaidmoghjjaaDoorTxtE
import Derived.Test.YtinjaidmoghjjaaDoorErrU
namespace Go.Proofs.YtinjaidmoghjjaaDoor
open Go.RowKit Go.Extern.Stop Go.Stop Go.Extern

theorem eqSame (b : Nat) (w : World) : (binOp .eql 25 (flt b) (flt b)).run Tryd.prog w = .ok (.bool true) w := by
  obtain ⟨i, hi, hcmp⟩ := Option.map_eq_some_iff.1 infoF
  obtain ⟨j, hj, _⟩ := Option.map_eq_some_iff.1 infoS
  exact run_eql_iface_ptr_same w ⟨b, 0, none⟩ Tryd.underlying25 Tryd.underlying36 hi hcmp hj

theorem code_nat2 (c : Int) : ∃ n : Nat, wrap64 ((IntKind.u64.wrap c).tmod 199) = (n : Int) ∧ n < 199 := by
  have h : 0 ≤ IntKind.u64.wrap c := by rw [IntKind.wrap_u64]; omega
  have h1 : (IntKind.u64.wrap c).tmod 199 = (IntKind.u64.wrap c) % 199 := by rw [Int.tmod_eq_emod_of_nonneg h]
  rw [h1]
  refine ⟨((IntKind.u64.wrap c) % 199).toNat, ?_, by omega⟩
  unfold wrap64
  omega

theorem grown_below {w w1 w' : World} {tb : Nat} (h : Below w.heap.size w w1) (hg : w1.grownBy w' (some tb)) (ht : w.heap.size ≤ tb) : Below w.heap.size w w' :=
  h.grown hg h.size (fun k hk => by cases hk; exact ht)

set_option maxRecDepth 100000 in
set_option maxHeartbeats 4000000 in
theorem has_law (a : Option Addr) (len cap : Nat) (c : Int) (w : World) (hg : HasType w) (hmade : ∀ W, Below w.heap.size w W → Calls Tryd.prog 7 #[.slice a len cap] W (MadePost W)) :
    Calls Tryd.prog 4 #[.slice a len cap, .int .i64 c] w fun e w' => e = .returned (.bool true) ∧ Below w.heap.size w w' := by
  have HA := Lib.hid (awake_any w hg)
  have HM := Lib.hid hmade
  have Hg := Lib.hid hg
  obtain ⟨cn, hcn, hcn2⟩ := code_nat2 c
  clear hg hmade
  go_enter Tryd.func4, Tryd.ntmps4
  go_wp2_with fail
  refine HA.out.mono ?_
  rintro e w1 ⟨rfl, hb1⟩
  have K1 := Lib.hid (HM.out w1 hb1)
  have B1 := Lib.hid hb1
  clear hb1
  go_wp2_with fail
  refine K1.out.mono ?_
  rintro e w2 ⟨l, t, rfl, ⟨hl, hin, hgood⟩, hb2⟩
  have B2 := Lib.hid (B1.out.trans (hb2.mono B1.out.size))
  have T2 := Lib.hid (Hg.out.keep (B2.out.block 0 Hg.out.pos))
  have htl := sufT_len t l true
  have hl12 : l.length ≤ 12 := by omega
  have K2 : Hid (Calls Tryd.prog 14 #[strV (sufT t true l), .int .i64 (1 + ↑cn)] w2 fun e w' => e = .returned (.bool (decide ((1 + ↑cn : Int) ∈ codes l t))) ∧ Below w2.heap.size w2 w') := Lib.hid (by
    have := refHas_any (sufT t true l) (1 + ↑cn) w2 (by omega)
    rwa [trailP_text hgood] at this)
  have K3 : Hid (∀ W, Below w2.heap.size w2 W → (Calls Tryd.prog 15 #[errV l t, .int .i64 (1 + ↑cn)] W fun e w' => e = .returned (.bool (decide ((1 + ↑cn : Int) ∈ codes l t))) ∧ Below W.heap.size W w') ∧
      (Calls Tryd.prog 16 #[errV l t, .iface 33 (.int .i64 (1 + ↑cn))] W fun e w' => e = .returned (.bool (decide ((1 + ↑cn : Int) ∈ codes l t))) ∧ W = w')) := Lib.hid fun W h =>
    ⟨has_any w2.heap.size l t _ W (by omega) h.size (hin.below h (Nat.le_refl _)), isTop w2.heap.size l t _ W (hin.below h (Nat.le_refl _))⟩
  generalize strV (sufT t true l) = tx at *
  generalize decide ((1 + ↑cn : Int) ∈ codes l t) = d at *
  have hv := errV_cases l t
  clear hb2 hin hgood hl hl12 htl B1 K1
  generalize errV l t = v at *
  rcases hv with rfl | ⟨m, rfl⟩ | ⟨b, rfl⟩
  · cases d
    all_goals
      go_wp2_with fail
      refine K2.out.mono ?_
      rintro e w3 ⟨rfl, hb3⟩
      have K4 := Lib.hid ((K3.out w3 hb3).1)
      have B3 := Lib.hid (B2.out.trans (hb3.mono B2.out.size))
      clear hb3
      go_wp2_with fail
      refine K4.out.mono ?_
      rintro e w4 ⟨rfl, hb4⟩
      have B4 := Lib.hid (B3.out.trans (hb4.mono B3.out.size))
      clear hb4
      have a0 := asFault_nil
      go_wp2_with fail
      refine (as_nil _ _).mono ?_
      rintro e w5 ⟨rfl, rfl⟩
      go_wp2_with fail
      go_ret
      exact ⟨rfl, B4.out.alloc B4.out.size _⟩
  · cases d
    all_goals
      go_wp2_with fail
      refine K2.out.mono ?_
      rintro e w3 ⟨rfl, hb3⟩
      have K4 := Lib.hid ((K3.out w3 hb3).1)
      have B3 := Lib.hid (B2.out.trans (hb3.mono B2.out.size))
      have B23 := Lib.hid hb3
      clear hb3
      go_wp2_with fail
      refine K4.out.mono ?_
      rintro e w4 ⟨rfl, hb4⟩
      have B4 := Lib.hid (B3.out.trans (hb4.mono B3.out.size))
      have B24 := Lib.hid (B23.out.trans (hb4.mono B23.out.size))
      have K5 := Lib.hid ((K3.out w4 B24.out).2)
      clear hb4
      go_wp2_with fail
      refine K5.out.mono ?_
      rintro e w5 ⟨rfl, rfl⟩
      have a0 := asFault_E
      have b4 : Below w.heap.size w (w4.alloc (.cells #[.pointer none] 36)) := B4.out.alloc B4.out.size _
      have K6 := Lib.hid (as_no m w4.heap.size (w4.alloc (.cells #[.pointer none] 36)) (Hg.out.keep (b4.block 0 Hg.out.pos)) (by simp))
      have B5 := Lib.hid b4
      clear b4
      go_wp2_with fail
      refine K6.out.mono ?_
      rintro e w6 ⟨r, rfl, h6, rfl, -⟩
      have B6 := Lib.hid (grown_below B5.out h6 B4.out.size)
      clear h6
      go_wp2_with fail
      go_ret
      exact ⟨rfl, B6.out⟩
  · cases d
    all_goals
      go_wp2_with fail
      refine K2.out.mono ?_
      rintro e w3 ⟨rfl, hb3⟩
      have K4 := Lib.hid ((K3.out w3 hb3).1)
      have B3 := Lib.hid (B2.out.trans (hb3.mono B2.out.size))
      have B23 := Lib.hid hb3
      clear hb3
      go_wp2_with fail
      refine K4.out.mono ?_
      rintro e w4 ⟨rfl, hb4⟩
      have B4 := Lib.hid (B3.out.trans (hb4.mono B3.out.size))
      have B24 := Lib.hid (B23.out.trans (hb4.mono B23.out.size))
      have K5 := Lib.hid ((K3.out w4 B24.out).2)
      clear hb4
      go_wp2_with fail
      refine K5.out.mono ?_
      rintro e w5 ⟨rfl, rfl⟩
      have a0 := eqSame b
      unfold flt at a0
      have b4 : Below w.heap.size w (w4.alloc (.cells #[.pointer none] 36)) := B4.out.alloc B4.out.size _
      have K6 := Lib.hid (as_F ⟨b, 0, none⟩ w4.heap.size (.pointer none) (w4.alloc (.cells #[.pointer none] 36)) (Hg.out.keep (b4.block 0 Hg.out.pos)) (newAt _ _) (by simp))
      have B5 := Lib.hid b4
      clear b4
      go_wp2_with fail
      refine K6.out.mono ?_
      rintro e w6 ⟨r, rfl, h6, rfl, h7⟩
      have B6 := Lib.hid (grown_below B5.out h6 B4.out.size)
      obtain ⟨k0, k1⟩ := cell0 h7
      clear h6 h7
      go_wp2_with fail
      go_ret
      exact ⟨rfl, B6.out⟩
end Go.Proofs.YtinjaidmoghjjaaDoor
