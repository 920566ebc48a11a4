/- The laws' tables with any budget are lawful. No conditions beyond those that each states. · ApexBudget: every input is answered with true. Conditions: where the ops lie; errors.errorType holds the type error. -/
import Derived.Test.YtemcgegickpdbaaGreatDoorSl24
import Derived.Test.YtemcgegickpdbaaGreatDoorSl27
namespace Go.Proofs.YtemcgegickpdbaaGreatDoor
open Go.RowKit
set_option maxRecDepth 100000
theorem qok_b (b : Nat) (hb : b < 65) : SndP.chk6 (cQ (wPs ((b : Nat) : Int) 2 1 0 0 0)) = none := by
  have h : ∀ t : Fin 65, SndP.chk6 (cQ (wPs ((t.val : Nat) : Int) 2 1 0 0 0)) = none := by decide +kernel
  exact h ⟨b, hb⟩
end Go.Proofs.YtemcgegickpdbaaGreatDoor
namespace Go.Proofs.YtemcgegickpdbaaGreatDoor
open Go.RowKit
set_option maxRecDepth 100000

/-- The loop over the results: what was done so far, whether the budget's end was met. -/
def BuR (w : World) (bw N : Nat) (b : Nat) (l : List OpC) (g : ApeP.Got) (gb : Nat) (ys : List ResC) (vc vo vi : Value) (W : World) : Prop :=
  ∃ (k : Nat) (ov : Bool), k ≤ ys.length ∧ vi = .int .i64 (k : Nat) ∧ vo = .bool ov ∧ vc = .int .i64 (ApeP.costs ((l.map OpC.plain).take (if ov = true then k - 1 else k))) ∧ (ov = true → k = ys.length ∧ ∃ r ∈ g.res, r.code = 151) ∧ (ov = false → ∀ j r, j < k → g.res[j]? = some r → r.code ≠ 151) ∧ Below w.heap.size w W ∧
    W.heap[bw]? = some (.cells #[.int .i64 2, .int .i64 0, .int .i64 1000, .int .i64 500, .int .i64 0, .int .i64 0, .int .i64 0, .int .i64 98, .slice (some ⟨N, 0, none⟩) 2 2, .slice (some ⟨N + 1, 0, none⟩) 4 4, .slice (some ⟨N + 2, 0, none⟩) 2 2] 26 (0, 0)) ∧ W.cell? ⟨N, 3, none⟩ = some (.int .i64 (b : Nat)) ∧ (∀ i y, ys[i]? = some y → W.cell? ⟨gb, i * 4, none⟩ = some (.int .i64 (y.code : Nat)))
def BuS (w : World) (bw N b : Nat) (W : World) : Prop := Below w.heap.size w W ∧ W.heap[bw]? = some (.cells #[.int .i64 2, .int .i64 0, .int .i64 1000, .int .i64 500, .int .i64 0, .int .i64 0, .int .i64 0, .int .i64 98, .slice (some ⟨N, 0, none⟩) 2 2, .slice (some ⟨N + 1, 0, none⟩) 4 4, .slice (some ⟨N + 2, 0, none⟩) 2 2] 26 (0, 0)) ∧ W.cell? ⟨N, 3, none⟩ = some (.int .i64 (b : Nat))
theorem BuS.below {w W W' : World} {bw N b : Nat} (h : BuS w bw N b W) (hb : Below W.heap.size W W') : BuS w bw N b W' := ⟨h.1.trans (hb.mono h.1.size), (hb.block _ (lt_of_block h.2.1)).trans h.2.1, (hb.cell (p := ⟨N, 3, none⟩) (World.block_lt_of_cell? W _ h.2.2)).trans h.2.2⟩
set_option maxHeartbeats 16000000 in
theorem budget_law (a : Int) (A : Option Addr) (n cap : Nat) (l : List OpC) (hl : l.length = n) (w : World) (hg : HasType w) (hops : OpsAt w A l) : Calls Tryz.prog 4 #[.int .i64 a, .slice A n cap] w (HTrue w) := by
  have HAw := Lib.hid (awake16_any w hg)
  have HG0 := Lib.hid hg
  by_cases h200 : 200 < n
  · have q1 : decide ((200 : Int) < (n : Int)) = true := decide_eq_true (by omega)
    have q2 : decide (200 < n) = true := decide_eq_true h200
    clear hops hl hg h200
    go_enter Tryz.func4, Tryz.ntmps4
    go_wp2_with fail
    refine HAw.out.mono ?_
    rintro e w1 ⟨rfl, hb1⟩
    have HF := Lib.hid hb1
    clear hb1
    go_wp2_with fail
    go_ret
    exact ⟨rfl, HF.out⟩
  have q1 : decide ((200 : Int) < (n : Int)) = false := decide_eq_false (by omega)
  have q2 : decide (200 < n) = false := decide_eq_false h200
  obtain ⟨b, hb65, hbm⟩ : ∃ b : Nat, b < 65 ∧ (IntKind.u64.wrap a).tmod 65 = (b : Int) := by
    rw [IntKind.wrap_u64]
    refine ⟨((a % 18446744073709551616).tmod 65).toNat, ?_, ?_⟩ <;> (have h0 : 0 ≤ a % 18446744073709551616 := by omega) <;> rw [Int.tmod_eq_emod_of_nonneg h0] <;> omega
  have hbw : IntKind.i64.wrap (b : Int) = (b : Int) := IntWalk.i64_in _ (by omega)
  have HOps := Lib.hid hops
  have HL := Lib.hid hl
  have Hb65 := Lib.hid hb65
  have Hn200 : Hid (n ≤ 200) := Lib.hid (by omega)
  have HOk := Lib.hid (qok_b b hb65)
  clear hops hl hg h200 hb65
  go_enter Tryz.func4, Tryz.ntmps4
  go_wp2_with fail
  refine HAw.out.mono ?_
  rintro e w1 ⟨rfl, hb1⟩
  have Hb1 := Lib.hid hb1
  have HG1 := Lib.hid (HG0.out.keep (hb1.block 0 HG0.out.pos))
  clear hb1 HAw
  go_wp2_with fail
  refine (wired_any w1).mono ?_
  rintro e w2 ⟨rfl, hwi, hbw⟩
  obtain ⟨N, hN⟩ : ∃ N, N = w1.heap.size + 2 := ⟨_, rfl⟩
  rw [← hN] at hwi ⊢
  simp only [wC, CfgC.value]
  have hq2 := WirQ.of hwi
  have hb3 : Below w2.heap.size w2 (w2.alloc (.cells #[.int .i64 2, .int .i64 0, .int .i64 1000, .int .i64 500, .int .i64 0, .int .i64 0, .int .i64 0, .int .i64 98, .slice (some ⟨N, 0, none⟩) 2 2, .slice (some ⟨N + 1, 0, none⟩) 4 4, .slice (some ⟨N + 2, 0, none⟩) 2 2] 26)) := (Below.refl _ _).alloc (Nat.le_refl _) _
  have hq00 : WirQ (w2.alloc (.cells #[.int .i64 2, .int .i64 0, .int .i64 1000, .int .i64 500, .int .i64 0, .int .i64 0, .int .i64 0, .int .i64 98, .slice (some ⟨N, 0, none⟩) 2 2, .slice (some ⟨N + 1, 0, none⟩) 4 4, .slice (some ⟨N + 2, 0, none⟩) 2 2] 26)) N (wPs 9 2 0 0 0 0) := hq2.below hb3
  have hbox00 : (w2.alloc (.cells #[.int .i64 2, .int .i64 0, .int .i64 1000, .int .i64 500, .int .i64 0, .int .i64 0, .int .i64 0, .int .i64 98, .slice (some ⟨N, 0, none⟩) 2 2, .slice (some ⟨N + 1, 0, none⟩) 4 4, .slice (some ⟨N + 2, 0, none⟩) 2 2] 26)).heap[w2.heap.size]? = some (.cells #[.int .i64 2, .int .i64 0, .int .i64 1000, .int .i64 500, .int .i64 0, .int .i64 0, .int .i64 0, .int .i64 98, .slice (some ⟨N, 0, none⟩) 2 2, .slice (some ⟨N + 1, 0, none⟩) 4 4, .slice (some ⟨N + 2, 0, none⟩) 2 2] 26 (0, 0)) := newAt _ _
  have hNb : N < w2.heap.size := lt_of_block hq2.parts
  have hbw0 := Hb1.out.trans (hbw.mono Hb1.out.size)
  have hbw3 : Below w.heap.size w (w2.alloc (.cells #[.int .i64 2, .int .i64 0, .int .i64 1000, .int .i64 500, .int .i64 0, .int .i64 0, .int .i64 0, .int .i64 98, .slice (some ⟨N, 0, none⟩) 2 2, .slice (some ⟨N + 1, 0, none⟩) 4 4, .slice (some ⟨N + 2, 0, none⟩) 2 2] 26)) := hbw0.trans (hb3.mono hbw0.size)
  have hN1 : w1.heap.size ≤ N := by omega
  have hg3 : HasType (w2.alloc (.cells #[.int .i64 2, .int .i64 0, .int .i64 1000, .int .i64 500, .int .i64 0, .int .i64 0, .int .i64 0, .int .i64 98, .slice (some ⟨N, 0, none⟩) 2 2, .slice (some ⟨N + 1, 0, none⟩) 4 4, .slice (some ⟨N + 2, 0, none⟩) 2 2] 26)) := HG1.out.keep ((hbw.trans (hb3.mono hbw.size)).block 0 HG1.out.pos)
  have hq2l := hb3.size
  have hbl := hbw.size
  clear hN
  go_upto_region 6 with (fail)
  generalize (w2.alloc (.cells #[.int .i64 2, .int .i64 0, .int .i64 1000, .int .i64 500, .int .i64 0, .int .i64 0, .int .i64 0, .int .i64 98, .slice (some ⟨N, 0, none⟩) 2 2, .slice (some ⟨N + 1, 0, none⟩) 4 4, .slice (some ⟨N + 2, 0, none⟩) 2 2] 26)) = w3 at *
  have hq0 := hq00
  have hbox0 := hbox00
  have hfz : ∀ j, w3.frozen? ⟨N, j, none⟩ = false := fun j => free_at hq0.parts j
  have hne : w2.heap.size ≠ N := by omega
  have kp3 : w3.cell? ⟨N, 3, none⟩ = some (.int .i64 9) := hq0.cell 3 rfl
  have kb8 : w3.cell? ⟨w2.heap.size, 8, none⟩ = some (.slice (some ⟨N, 0, none⟩) 2 2) := cell_at hbox0 8 rfl
  have hq0b : WirQ (w3.setCell ⟨N, 3, none⟩ (.int .i64 (b : Nat))) N (wPs ((b : Nat) : Int) 2 0 0 0 0) := hq0.set 3 (.int .i64 (b : Nat)) rfl
  have hbox0b : (w3.setCell ⟨N, 3, none⟩ (.int .i64 (b : Nat))).heap[w2.heap.size]? = some (.cells #[.int .i64 2, .int .i64 0, .int .i64 1000, .int .i64 500, .int .i64 0, .int .i64 0, .int .i64 0, .int .i64 98, .slice (some ⟨N, 0, none⟩) 2 2, .slice (some ⟨N + 1, 0, none⟩) 4 4, .slice (some ⟨N + 2, 0, none⟩) 2 2] 26 (0, 0)) := (Below.heap_setCell _ _ _ _ hne).trans hbox0
  have hstb : Below w1.heap.size w3 (w3.setCell ⟨N, 3, none⟩ (.int .i64 (b : Nat))) := ((Apart.refl (fun k => k = N) _).setCell (p := ⟨N, _, none⟩) (.inl rfl) _).below (Nat.le_trans hbl hq2l) fun k e => by omega
  have hbw3b : Below w.heap.size w (w3.setCell ⟨N, 3, none⟩ (.int .i64 (b : Nat))) := hbw3.trans (hstb.mono Hb1.out.size)
  have hg3b : HasType (w3.setCell ⟨N, 3, none⟩ (.int .i64 (b : Nat))) := hg3.keep (hstb.block 0 HG1.out.pos)
  have hfzb : ∀ j, (w3.setCell ⟨N, 3, none⟩ (.int .i64 (b : Nat))).frozen? ⟨N, j, none⟩ = false := fun j => free_at hq0b.parts j
  have hq2lb : w2.heap.size ≤ (w3.setCell ⟨N, 3, none⟩ (.int .i64 (b : Nat))).heap.size := Nat.le_trans hq2l hstb.size
  clear hstb
  go_upto_region 7 with (fail)
  clear hq0 hbox0 hbw3 hg3 hfz hq2l hq00 hbox00 kp3 kb8
  generalize (w3.setCell ⟨N, 3, none⟩ (.int .i64 (b : Nat))) = w3b at *
  have hq0 := hq0b
  have hbox0 := hbox0b
  have hbw3 := hbw3b
  have hg3 := hg3b
  have hfz := hfzb
  have hq2l := hq2lb
  have hq00 := hq0b
  have hbox00 := hbox0b
  clear hq0b hbox0b hbw3b hg3b hfzb hq2lb
  have kb81 : w3b.cell? ⟨w2.heap.size, 8, none⟩ = some (.slice (some ⟨N, 0, none⟩) 2 2) := cell_at hbox0 8 rfl
  have kq5 : w3b.cell? ⟨N, 5, none⟩ = some (.int .u8 0) := hq0.cell 5 rfl
  have kq6 : w3b.cell? ⟨N, 6, none⟩ = some (.int .u8 0) := hq0.cell 6 rfl
  have kq7 : w3b.cell? ⟨N, 7, none⟩ = some (.int .u8 0) := hq0.cell 7 rfl
  have kq8 : w3b.cell? ⟨N, 8, none⟩ = some (.int .u8 0) := hq0.cell 8 rfl
  have hq : WirQ ((((w3b.setCell ⟨N, 5, none⟩ (.int .u8 1)).setCell ⟨N, 6, none⟩ (.int .u8 0)).setCell ⟨N, 7, none⟩ (.int .u8 0)).setCell ⟨N, 8, none⟩ (.int .u8 0)) N (wPs ((b : Nat) : Int) 2 1 0 0 0) := (((hq0.set 5 (.int .u8 1) (ps' := wPs ((b : Nat) : Int) 2 1 0 0 0) rfl).set 6 (.int .u8 0) (ps' := wPs ((b : Nat) : Int) 2 1 0 0 0) rfl).set 7 (.int .u8 0) (ps' := wPs ((b : Nat) : Int) 2 1 0 0 0) rfl).set 8 (.int .u8 0) (ps' := wPs ((b : Nat) : Int) 2 1 0 0 0) rfl
  have hbox4 : ((((w3b.setCell ⟨N, 5, none⟩ (.int .u8 1)).setCell ⟨N, 6, none⟩ (.int .u8 0)).setCell ⟨N, 7, none⟩ (.int .u8 0)).setCell ⟨N, 8, none⟩ (.int .u8 0)).heap[w2.heap.size]? = some (.cells #[.int .i64 2, .int .i64 0, .int .i64 1000, .int .i64 500, .int .i64 0, .int .i64 0, .int .i64 0, .int .i64 98, .slice (some ⟨N, 0, none⟩) 2 2, .slice (some ⟨N + 1, 0, none⟩) 4 4, .slice (some ⟨N + 2, 0, none⟩) 2 2] 26 (0, 0)) := (Below.heap_setCell _ _ _ _ hne).trans ((Below.heap_setCell _ _ _ _ hne).trans ((Below.heap_setCell _ _ _ _ hne).trans ((Below.heap_setCell _ _ _ _ hne).trans hbox0)))
  have hst : Below w1.heap.size w3b ((((w3b.setCell ⟨N, 5, none⟩ (.int .u8 1)).setCell ⟨N, 6, none⟩ (.int .u8 0)).setCell ⟨N, 7, none⟩ (.int .u8 0)).setCell ⟨N, 8, none⟩ (.int .u8 0)) := by
    have hA : Apart (fun k => k = N) w3b ((((w3b.setCell ⟨N, 5, none⟩ (.int .u8 1)).setCell ⟨N, 6, none⟩ (.int .u8 0)).setCell ⟨N, 7, none⟩ (.int .u8 0)).setCell ⟨N, 8, none⟩ (.int .u8 0)) := by
      first
      | exact Apart.refl _ _
      | exact (Apart.refl (fun k => k = N) _).setCell (p := ⟨N, _, none⟩) (.inl rfl) _
      | exact ((Apart.refl (fun k => k = N) _).setCell (p := ⟨N, _, none⟩) (.inl rfl) _).setCell (p := ⟨N, _, none⟩) (.inl rfl) _
      | exact ((((Apart.refl (fun k => k = N) _).setCell (p := ⟨N, _, none⟩) (.inl rfl) _).setCell (p := ⟨N, _, none⟩) (.inl rfl) _).setCell (p := ⟨N, _, none⟩) (.inl rfl) _).setCell (p := ⟨N, _, none⟩) (.inl rfl) _
      | exact (((((Apart.refl (fun k => k = N) _).setCell (p := ⟨N, _, none⟩) (.inl rfl) _).setCell (p := ⟨N, _, none⟩) (.inl rfl) _).setCell (p := ⟨N, _, none⟩) (.inl rfl) _).setCell (p := ⟨N, _, none⟩) (.inl rfl) _).setCell (p := ⟨N, _, none⟩) (.inl rfl) _
    exact hA.below (Nat.le_trans hbl hq2l) fun k e => by omega
  have hb4 : Below w.heap.size w ((((w3b.setCell ⟨N, 5, none⟩ (.int .u8 1)).setCell ⟨N, 6, none⟩ (.int .u8 0)).setCell ⟨N, 7, none⟩ (.int .u8 0)).setCell ⟨N, 8, none⟩ (.int .u8 0)) := hbw3.trans (hst.mono Hb1.out.size)
  have hg4 : HasType ((((w3b.setCell ⟨N, 5, none⟩ (.int .u8 1)).setCell ⟨N, 6, none⟩ (.int .u8 0)).setCell ⟨N, 7, none⟩ (.int .u8 0)).setCell ⟨N, 8, none⟩ (.int .u8 0)) := hg3.keep (hst.block 0 HG1.out.pos)
  have HNb := Lib.hid hNb
  have HQ := Lib.hid hq
  have HBox := Lib.hid hbox4
  have HB4 := Lib.hid hb4
  have HG4 := Lib.hid hg4
  clear hN1 hwi hq2 hb3 hq0 hq00 hbox00 hq2l hbl hbw hbw0 hbw3 hg3 hst hb4 hg4 hq hbox4 hbox0
  go_upto_region 8 with (fail)
  clear kb81 kq5 kq6 kq7 kq8 hfz
  generalize ((((w3b.setCell ⟨N, 5, none⟩ (.int .u8 1)).setCell ⟨N, 6, none⟩ (.int .u8 0)).setCell ⟨N, 7, none⟩ (.int .u8 0)).setCell ⟨N, 8, none⟩ (.int .u8 0)) = w4 at *
  have H4z := Lib.hid HG4.out.pos
  have hbox4 := HBox.out
  have bx0 := cell_at hbox4 0 rfl
  have bx1 := cell_at hbox4 1 rfl
  have bx2 := cell_at hbox4 2 rfl
  have bx3 := cell_at hbox4 3 rfl
  have bx4 := cell_at hbox4 4 rfl
  have bx5 := cell_at hbox4 5 rfl
  have bx6 := cell_at hbox4 6 rfl
  have bx7 := cell_at hbox4 7 rfl
  have bx8 := cell_at hbox4 8 rfl
  have bx9 := cell_at hbox4 9 rfl
  have bx10 := cell_at hbox4 10 rfl
  have HHost : Hid (Calls Tryz.prog 11 #[.agg #[.int .i64 2, .int .i64 0, .int .i64 1000, .int .i64 500, .int .i64 0, .int .i64 0, .int .i64 0, .int .i64 98, .slice (some ⟨N, 0, none⟩) 2 2, .slice (some ⟨N + 1, 0, none⟩) 4 4, .slice (some ⟨N + 2, 0, none⟩) 2 2], .int .i64 0] w4 (HostP w4 (cQ (wPs ((b : Nat) : Int) 2 1 0 0 0)) 0)) := Lib.hid (qhost_any N (wPs ((b : Nat) : Int) 2 1 0 0 0) rfl HOk.out w4 HQ.out)
  clear hbox4
  go_wp2_with fail
  clear bx0 bx1 bx2 bx3 bx4 bx5 bx6 bx7 bx8 bx9 bx10
  refine HHost.out.mono ?_
  rintro e w5 ⟨h, rfl, hh, hb5⟩
  have hb56 : Below w5.heap.size w5 (w5.alloc (.cells #[.pointer (some ⟨h.x.a, 0, none⟩), .pointer (some ⟨h.tb, 0, none⟩), .pointer (some ⟨h.mb, 0, none⟩), .pointer (some ⟨h.cb, 0, none⟩)] 36)) := (Below.refl _ _).alloc (Nat.le_refl _) _
  have hbx5 : (w5.alloc (.cells #[.pointer (some ⟨h.x.a, 0, none⟩), .pointer (some ⟨h.tb, 0, none⟩), .pointer (some ⟨h.mb, 0, none⟩), .pointer (some ⟨h.cb, 0, none⟩)] 36)).heap[w5.heap.size]? = some (.cells #[.pointer (some ⟨h.x.a, 0, none⟩), .pointer (some ⟨h.tb, 0, none⟩), .pointer (some ⟨h.mb, 0, none⟩), .pointer (some ⟨h.cb, 0, none⟩)] 36 (0, 0)) := newAt _ _
  have HHs := Lib.hid (hh.below hb56)
  have HHb := Lib.hid hbx5
  have hb46 := hb5.trans (hb56.mono hb5.size)
  have HB46 := Lib.hid hb46
  have HB6 := Lib.hid (HB4.out.trans (hb46.mono HB4.out.size))
  have HQ6 := Lib.hid (HQ.out.below hb46)
  have HBox6 := Lib.hid ((hb46.block _ (lt_of_block HBox.out)).trans HBox.out)
  have HG6 := Lib.hid (HG4.out.keep (hb46.block 0 HG4.out.pos))
  have H45 := Lib.hid hb5.size
  clear hh hb5 hb56 hbx5 hb46 HHost HQ HBox HG4
  simp only [hostV]
  go_upto_region 9 with (fail)
  generalize (w5.alloc (.cells #[.pointer (some ⟨h.x.a, 0, none⟩), .pointer (some ⟨h.tb, 0, none⟩), .pointer (some ⟨h.mb, 0, none⟩), .pointer (some ⟨h.cb, 0, none⟩)] 36)) = w6 at *
  have hbox4 := HBox6.out
  have bx0 := cell_at hbox4 0 rfl
  have bx1 := cell_at hbox4 1 rfl
  have bx2 := cell_at hbox4 2 rfl
  have bx3 := cell_at hbox4 3 rfl
  have bx4 := cell_at hbox4 4 rfl
  have bx5 := cell_at hbox4 5 rfl
  have bx6 := cell_at hbox4 6 rfl
  have bx7 := cell_at hbox4 7 rfl
  have bx8 := cell_at hbox4 8 rfl
  have bx9 := cell_at hbox4 9 rfl
  have bx10 := cell_at hbox4 10 rfl
  have HNew : Hid (Calls Tryz.prog 14 #[.agg #[.int .i64 2, .int .i64 0, .int .i64 1000, .int .i64 500, .int .i64 0, .int .i64 0, .int .i64 0, .int .i64 98, .slice (some ⟨N, 0, none⟩) 2 2, .slice (some ⟨N + 1, 0, none⟩) 4 4, .slice (some ⟨N + 2, 0, none⟩) 2 2], .int .i64 0] w6 (QNew w6 ((b : Nat) : Int) 2)) := Lib.hid (qnew_any N ((b : Nat) : Int) 2 1 0 0 0 (by decide) w6 HQ6.out)
  clear hbox4
  go_wp2_with fail
  clear bx0 bx1 bx2 bx3 bx4 bx5 bx6 bx7 bx8 bx9 bx10
  refine HNew.out.mono ?_
  rintro e w7 ⟨pb, wv, rfl, hp, hb7⟩
  have HP7 := Lib.hid (hp.low16 HB46.out.size)
  have HH7 := Lib.hid (HHs.out.below hb7)
  have HHb7 := Lib.hid ((hb7.block _ (lt_of_block HHb.out)).trans HHb.out)
  have HB7 := Lib.hid (HB6.out.trans (hb7.mono HB6.out.size))
  have HQ7 := Lib.hid (HQ6.out.below hb7)
  have HBox7 := Lib.hid ((hb7.block _ (lt_of_block HBox6.out)).trans HBox6.out)
  have HG7 := Lib.hid (HG6.out.keep (hb7.block 0 HG6.out.pos))
  have HB47 := Lib.hid (HB46.out.trans (hb7.mono HB46.out.size))
  clear hp hb7 HNew HHs HHb HB6 HQ6 HBox6 HG6
  go_upto_region 12 with (fail)
  have hal := (SndP.works HOk.out).allowed
  have HAl := Lib.hid hal
  -- the copy and the run
  have HCp : Hid (Calls Tryz.prog 18 #[.slice A n cap] w7.drew (CopP16 w7.drew l)) := Lib.hid (copied16_any w7.drew A n cap l HL.out (by have := Hn200.out; omega) ((HOps.out.below HB7.out).below (Below.refl _ _).drew))
  have hd0 : w7.drew.heap[w5.heap.size]? = some (.cells #[.pointer (some ⟨h.x.a, 0, none⟩), .pointer (some ⟨h.tb, 0, none⟩), .pointer (some ⟨h.mb, 0, none⟩), .pointer (some ⟨h.cb, 0, none⟩)] 36 (0, 0)) := HHb7.out
  have x0 : ∀ W : World, W.heap[w5.heap.size]? = some (.cells #[.pointer (some ⟨h.x.a, 0, none⟩), .pointer (some ⟨h.tb, 0, none⟩), .pointer (some ⟨h.mb, 0, none⟩), .pointer (some ⟨h.cb, 0, none⟩)] 36 (0, 0)) → W.cell? ⟨w5.heap.size, 0, none⟩ = some (.pointer (some ⟨h.x.a, 0, none⟩)) := fun W hW => cell_at hW 0 rfl
  have x1 : ∀ W : World, W.heap[w5.heap.size]? = some (.cells #[.pointer (some ⟨h.x.a, 0, none⟩), .pointer (some ⟨h.tb, 0, none⟩), .pointer (some ⟨h.mb, 0, none⟩), .pointer (some ⟨h.cb, 0, none⟩)] 36 (0, 0)) → W.cell? ⟨w5.heap.size, 1, none⟩ = some (.pointer (some ⟨h.tb, 0, none⟩)) := fun W hW => cell_at hW 1 rfl
  have x2 : ∀ W : World, W.heap[w5.heap.size]? = some (.cells #[.pointer (some ⟨h.x.a, 0, none⟩), .pointer (some ⟨h.tb, 0, none⟩), .pointer (some ⟨h.mb, 0, none⟩), .pointer (some ⟨h.cb, 0, none⟩)] 36 (0, 0)) → W.cell? ⟨w5.heap.size, 2, none⟩ = some (.pointer (some ⟨h.mb, 0, none⟩)) := fun W hW => cell_at hW 2 rfl
  have x3 : ∀ W : World, W.heap[w5.heap.size]? = some (.cells #[.pointer (some ⟨h.x.a, 0, none⟩), .pointer (some ⟨h.tb, 0, none⟩), .pointer (some ⟨h.mb, 0, none⟩), .pointer (some ⟨h.cb, 0, none⟩)] 36 (0, 0)) → W.cell? ⟨w5.heap.size, 3, none⟩ = some (.pointer (some ⟨h.cb, 0, none⟩)) := fun W hW => cell_at hW 3 rfl
  refine wp_region_held_drew (S := fun W => W.heap[w5.heap.size]? = some (.cells #[.pointer (some ⟨h.x.a, 0, none⟩), .pointer (some ⟨h.tb, 0, none⟩), .pointer (some ⟨h.mb, 0, none⟩), .pointer (some ⟨h.cb, 0, none⟩)] 36 (0, 0))) (by kernel_rfl) hd0 (fun _ => ?_)
  refine tkH 0 (by simp only [tkA]; rfl) (by kernel_rfl) (by exact fun _ _ _ h => h) (by rfl) (by intro W hW; go_simp <;> with_reducible rfl) hd0 ?_
  try simp only [Act.put, tkT, tk0, tkS]
  refine tkH 1 (by simp only [tkA, tkG]; rfl) (by kernel_rfl) (by exact fun _ _ _ h => h) (by rfl) (by intro W hW; go_simp <;> with_reducible rfl) hd0 ?_
  try simp only [Act.put, tkT, tk0, tkS]
  refine tkH 2 (by simp only [tkA, tkG]; rfl) (by kernel_rfl) (by exact fun _ _ _ h => h) (by rfl) (by intro W hW; go_simp <;> with_reducible rfl) hd0 ?_
  try simp only [Act.put, tkT, tk0, tkS]
  refine clH 3 (by kernel_rfl) (by simp only [tkA, tkG]; rfl) (fun K hK => ?_)
  go_simp
  refine HCp.out.mono ?_
  rintro e w8 ⟨A8, c8, l8, rfl, hl8, hops8, hpl8, hb8⟩
  rw [HL.out] at hl8
  have hb78 : Below w7.heap.size w7 w8 := (Below.refl w7.heap.size w7).drew.trans hb8
  have hd8 := (hb8.block _ (lt_of_block hd0)).trans hd0
  have hn0 := Hn200.out
  have HRun : Hid (Calls Tryz.prog 17 #[.pointer (some ⟨pb, 0, none⟩), .agg #[.pointer (some ⟨h.x.a, 0, none⟩), .pointer (some ⟨h.tb, 0, none⟩), .pointer (some ⟨h.mb, 0, none⟩), .pointer (some ⟨h.cb, 0, none⟩)], .int .u32 1, .slice A8 n c8] w8 (RunP w8 w4.heap.size (cQ (wPs ((b : Nat) : Int) 2 1 0 0 0)) 0 ApeP.recB RepP.new h pb 0 ((b : Nat) : Int) wv (ApeP.runG (ApeP.opP (cQ (wPs ((b : Nat) : Int) 2 1 0 0 0)) 0 0 RepP.new) ApeP.recB 0 0 1 (l.map OpC.plain) ((b : Nat) : Int) (⟨List.replicate 2 0, PorP.start (cQ (wPs ((b : Nat) : Int) 2 1 0 0 0)), HeaP.Mon.start 2, ⟨0, 0, 0, 0⟩⟩ : ApeP.AS)))) := Lib.hid (by
    rw [← hpl8]
    exact run_any (s := (⟨List.replicate 2 0, PorP.start (cQ (wPs ((b : Nat) : Int) 2 1 0 0 0)), HeaP.Mon.start 2, ⟨0, 0, 0, 0⟩⟩ : ApeP.AS)) (HH7.out.below hb78) (HP7.out.below hb78) HAl.out (Nat.le_trans HB47.out.size hb78.size) H4z.out (HG7.out.keep (hb78.block 0 HG7.out.pos)) new_tat (show (2 : Nat) ≤ 255 by decide) (by omega) (by have := Hb65.out; omega) 1 A8 n c8 l8 hl8 (by omega) hops8)
  have HB8 := Lib.hid (HB7.out.trans (hb78.mono HB7.out.size))
  have HT8 : Hid (∀ h2 W, Went w8 h wv h2 W → TouchA w4.heap.size w8 W) := Lib.hid fun h2 W hw => hw.touch (HH7.out.below hb78) (HP7.out.below hb78)
  have HQ8 := Lib.hid (HQ7.out.below hb78)
  have HBox8 := Lib.hid ((hb78.block _ (lt_of_block HBox7.out)).trans HBox7.out)
  have HB48 := Lib.hid (HB47.out.trans (hb78.mono HB47.out.size))
  rw [HL.out]
  clear hl8 hops8 hpl8 hb8 hb78 hn0
  go_wp2_with fail
  refine hK.out _ _ hd8 (fun _ => ?_)
  clear hK K
  refine clH 4 (by kernel_rfl) (by simp only [tkA, tkG]; rfl) (fun K hK => ?_)
  go_simp
  refine HRun.out.mono ?_
  rintro e w9 ⟨v, ys, h2, rfl, ho, hres, -, -, hwn, -, hlf⟩
  have ht := HT8.out h2 w9 hwn
  have hd9 := ht.off hd8 tag_host
  have hb89 := ht.below HB48.out.size
  have HB9 := Lib.hid (HB8.out.trans (hb89.mono HB4.out.size))
  have HBox9 := Lib.hid (ht.off HBox8.out (by unfold Tag16; decide))
  have HQ9 : Hid (w9.cell? ⟨N, 3, none⟩ = some (.int .i64 (b : Nat))) := Lib.hid (cell_at (ht.off HQ8.out.parts (by unfold Tag16; decide)) 3 rfl)
  obtain ⟨hbud, hcalm⟩ := ApeP.budget_run (cQ (wPs ((b : Nat) : Int) 2 1 0 0 0)) RepP.new (l.map OpC.plain) b (⟨List.replicate 2 0, PorP.start (cQ (wPs ((b : Nat) : Int) 2 1 0 0 0)), HeaP.Mon.start 2, ⟨0, 0, 0, 0⟩⟩ : ApeP.AS) (PorP.start_length _) rfl
  generalize (ApeP.runG (ApeP.opP (cQ (wPs ((b : Nat) : Int) 2 1 0 0 0)) 0 0 RepP.new) ApeP.recB 0 0 1 (l.map OpC.plain) ((b : Nat) : Int) (⟨List.replicate 2 0, PorP.start (cQ (wPs ((b : Nat) : Int) 2 1 0 0 0)), HeaP.Mon.start 2, ⟨0, 0, 0, 0⟩⟩ : ApeP.AS)) = g at *
  have HBud := Lib.hid hbud
  have HCalm := Lib.hid hcalm
  have HRes := Lib.hid hres
  have HOut := Lib.hid ho
  have HLf := Lib.hid hlf
  clear hwn ht hb89 hbud hcalm hres ho hlf HRun HT8 HCp
  go_wp2_with fail
  refine hK.out _ _ hd9 (fun _ => ?_)
  clear hK K
  refine tkH 5 (by simp only [tkA, tkG]; rfl) (by kernel_rfl) (by exact fun _ _ _ h => h) (by rfl) (by intro W hW; go_simp <;> with_reducible rfl) hd9 ?_
  try simp only [Act.put, tkT, tk0, tkS]
  refine tkH 6 (by simp only [tkA, tkG]; rfl) (by kernel_rfl) (by exact fun _ _ _ h => h) (by rfl) (by intro W hW; go_simp <;> with_reducible rfl) hd9 ?_
  try simp only [Act.put, tkT, tk0, tkS]
  refine tkH 7 (by simp only [tkA, tkG]; rfl) (by kernel_rfl) (by exact fun _ _ _ h => h) (by rfl) (by intro W hW; go_simp <;> with_reducible rfl) hd9 ?_
  try simp only [Act.put, tkT, tk0, tkS]
  refine tkH 8 (by simp only [tkA, tkG]; rfl) (by kernel_rfl) (by exact fun _ _ _ h => h) (by rfl) (by intro W hW; go_simp <;> with_reducible rfl) hd9 ?_
  try simp only [Act.put, tkT, tk0, tkS]
  refine tkH 9 (by simp only [tkA, tkG]; rfl) (by kernel_rfl) (by exact fun _ _ _ h => h) (by rfl) (by intro W hW; go_simp <;> with_reducible rfl) hd9 ?_
  try simp only [Act.put, tkT, tk0, tkS]
  refine tkH 10 (by simp only [tkA, tkG]; rfl) (by kernel_rfl) (by exact fun _ _ _ h => h) (by rfl) (by intro W hW; go_simp <;> with_reducible rfl) hd9 ?_
  try simp only [Act.put, tkT, tk0, tkS]
  refine tkH 11 (by simp only [tkA, tkG]; rfl) (by kernel_rfl) (by exact fun _ _ _ h => h) (by rfl) (by intro W hW; go_simp <;> with_reducible rfl) hd9 ?_
  try simp only [Act.put, tkT, tk0, tkS]
  refine wpAnyH_done (by kernel_rfl) ?_ _
  clear hd0 hd8 hd9 x0 x1 x2 x3
  -- the results
  have hys : ys.length = g.res.length := by rw [← HRes.out, List.length_map]
  obtain ⟨va, cb', rfl, -⟩ := own_slice HOut.out.row
  obtain ⟨gb, hgb, hcells⟩ : ∃ gb, (0 < ys.length → va = some ⟨gb, 0, none⟩) ∧ ∀ i y, ys[i]? = some y → w9.cell? ⟨gb, i * 4, none⟩ = some (.int .i64 (y.code : Nat)) := by
    rcases Nat.eq_zero_or_pos ys.length with h0 | h0
    · exact ⟨0, fun h => by omega, fun i y hy => by rw [List.eq_nil_of_length_eq_zero h0] at hy; simp at hy⟩
    · obtain ⟨g1, c, e, -, hc⟩ := HOut.out.cells h0
      injection e with e1
      exact ⟨g1, fun _ => e1, fun i y hy => (hc i y hy).1⟩
  have HGb := Lib.hid hgb
  have HYs := Lib.hid hys
  obtain ⟨n9, hn9⟩ : ∃ q, ys.length = q := ⟨_, rfl⟩
  have HN9 := Lib.hid hn9
  rw [hn9]
  have HS0 : Hid (BuR w w2.heap.size N b l g gb ys (.int .i64 0) (.bool false) (.int .i64 0) w9) := Lib.hid ⟨0, false, Nat.zero_le _, rfl, rfl, rfl, (fun h => by cases h), (fun _ j r hj => by omega), HB9.out, HBox9.out, HQ9.out, hcells⟩
  have hn9l : n9 ≤ n := by rw [← hn9, hys]; have := HBud.out.len; rw [List.length_map, HL.out] at this; exact this
  have HN9l := Lib.hid hn9l
  clear hcells hgb hys hn9 HB9 HBox9 HQ9 hn9l
  go_wp2_with fail
  go_loopw [13, 14, 62] (BuR w w2.heap.size N b l g gb ys) (fun _ _ i _ => (n9 + 1 - intOf i).toNat)
  case atStart => exact HS0.out
  case round =>
    clear HS0
    obtain ⟨k, ov, hk, rfl, rfl, rfl, hov, hno, hbl, hbx, hn3, hcl⟩ := hrel
    have hN9 := HN9.out
    have hNl := HN9l.out
    have h200 := Hn200.out
    have hL := HL.out
    have hb65 := Hb65.out
    by_cases hlt : k < n9
    case neg =>
      have hkn : k = n9 := by omega
      have p1 : decide ((k : Int) < (n9 : Int)) = false := decide_eq_false (by omega)
      have p2 : decide (k < n9) = false := decide_eq_false hlt
      have kb8 : wr.cell? ⟨w2.heap.size, 8, none⟩ = some (.slice (some ⟨N, 0, none⟩) 2 2) := cell_at hbx 8 rfl
      have hlow := HBud.out.low
      have hys := HYs.out
      have m1 : decide ((b : Int) < (b : Int) - g.left) = false := decide_eq_false (by omega)
      cases ov with
      | true =>
        obtain ⟨-, hex⟩ := hov rfl
        rcases HCalm.out with ⟨c1, -, -⟩ | ⟨-, c3⟩
        · obtain ⟨r, hr, hr2⟩ := hex; exact absurd hr2 (c1 r hr)
        have hcost : ApeP.costs ((l.map OpC.plain).take (k - 1)) ≤ b := by
          rcases Nat.eq_zero_or_pos k with h0 | h0
          · rw [h0]; simp [ApeP.costs]
          · exact HBud.out.ahead (by omega)
        rw [c3]
        simp only [if_true]
        generalize ApeP.costs ((l.map OpC.plain).take (k - 1)) = cst at *
        have m2 : decide ((b : Int) < cst) = false := decide_eq_false (by omega)
        have HF := Lib.hid hbl
        clear hov hno hex hcl hbx hbl hkn hlow hcost
        go_wp2_with fail
        go_ret
        exact ⟨rfl, HF.out⟩
      | false =>
        have hall : ∀ r ∈ g.res, r.code ≠ 151 := fun r hr => by
          obtain ⟨j, hj⟩ := List.getElem?_of_mem hr
          exact hno rfl j r (by have := (List.getElem?_eq_some_iff.1 hj).1; omega) hj
        have hwh := HBud.out.whole hall
        rcases HCalm.out with ⟨-, c2, c3⟩ | ⟨⟨r, hr, hr2⟩, -⟩
        case inr => exact absurd hr2 (hall r hr)
        have hkk : k = g.res.length := by omega
        have hnn : n9 = n := by rw [List.length_map, hL] at c2; omega
        rw [← hkk] at hwh
        rw [c3]
        simp only [Bool.false_eq_true, if_false]
        generalize ApeP.costs ((l.map OpC.plain).take k) = cst at *
        have e9 : (b : Int) - g.left = cst := by omega
        rw [e9] at m1 ⊢
        subst hnn
        have HF := Lib.hid hbl
        clear hov hno hcl hbx hbl hkn hlow hwh hkk hall c2 c3
        go_wp2_with fail
        go_ret
        exact ⟨by simp, HF.out⟩
    case pos =>
      have hov' : ov = false := by
        cases ov with
        | false => rfl
        | true => have := (hov rfl).1; omega
      subst hov'
      obtain rfl := HGb.out (by omega)
      have hys := HYs.out
      obtain ⟨y, hy⟩ : ∃ y, ys[k]? = some y := ⟨_, List.getElem?_eq_getElem (by omega)⟩
      have hgr : g.res[k]? = some y.plain := by rw [← HRes.out, List.getElem?_map, hy]; rfl
      obtain ⟨x, hx⟩ : ∃ x, l[k]? = some x := ⟨_, List.getElem?_eq_getElem (by omega)⟩
      have hpx : (l.map OpC.plain)[k]? = some x.plain := by rw [List.getElem?_map, hx]; rfl
      have kc : wr.cell? ⟨gb, k * 4, none⟩ = some (.int .i64 (y.code : Nat)) := hcl k y hy
      obtain ⟨ab, ao, rfl, habl, hit⟩ := HOps.out.items (by omega)
      have p1 : decide ((k : Int) < (n9 : Int)) = true := decide_eq_true (by omega)
      have p2 : decide (k < n9) = true := decide_eq_true hlt
      have p3 : decide ((k : Int) < (n : Int)) = true := decide_eq_true (by omega)
      have p4 : decide (k < n) = true := decide_eq_true (by omega)
      have hkn : k < n := by omega
      have hkn' : (k : Int) < (n : Int) := by omega
      have e8 : IntKind.i64.wrap ((k : Int) + 1) = (k : Int) + 1 := IntWalk.i64_in _ (by omega)
      have hcostp := ApeP.cost_pos x.plain
      have hcs0 := ApeP.costs_nonneg ((l.map OpC.plain).take k)
      simp only [Bool.false_eq_true, if_false] at *
      have hcs : ApeP.costs ((l.map OpC.plain).take (k + 1)) = ApeP.costs ((l.map OpC.plain).take k) + ApeP.costT x.plain := ApeP.costs_take hpx
      have HCost := Lib.hid (fun W => cost_any x W)
      have hcell : ∀ W, Below w.heap.size w W → ∀ j u, (opVals x)[j]? = some u → W.cell? ⟨ab, ao + k * 6 + j, none⟩ = some u := fun W hW j u hu => (hW.cell (p := ⟨ab, _, none⟩) habl).trans (hit k x hx j u hu)
      by_cases h151 : y.code = 151
      · obtain ⟨b1, b2, o, b3, b4, b5⟩ := HBud.out.each k y.plain hgr h151
        rw [hpx] at b3
        obtain rfl := Option.some.inj b3
        have hklast : k + 1 = n9 := by omega
        have HNx : Hid (∀ W, BuS w w2.heap.size N b W → (∀ i y, ys[i]? = some y → W.cell? ⟨gb, i * 4, none⟩ = some (.int .i64 (y.code : Nat))) → BuR w w2.heap.size N b l g gb ys (.int .i64 (ApeP.costs ((l.map OpC.plain).take k))) (.bool true) (.int .i64 ((k : Int) + 1)) W) := Lib.hid fun W hW hc => by
          refine ⟨k + 1, true, by omega, by go_num, rfl, ?_, fun _ => ⟨by omega, y.plain, List.mem_of_getElem? hgr, h151⟩, (fun h => by cases h), hW.1, hW.2.1, hW.2.2, hc⟩
          simp
        rw [h151] at kc
        have hgbl : gb < wr.heap.size := World.block_lt_of_cell? wr _ kc
        have HCl := Lib.hid hcl
        have e9 : IntKind.i64.wrap ((n9 : Int) - 1) = (k : Int) := by rw [IntWalk.i64_in _ (by omega)]; omega
        generalize ApeP.costs ((l.map OpC.plain).take k) = cst at *
        have e10 : IntKind.i64.wrap ((b : Int) - cst) = (b : Int) - cst := IntWalk.i64_in _ (by omega)
        have m6 : decide (ApeP.costT x.plain ≤ (b : Int) - cst) = false := decide_eq_false (by omega)
        have hS : BuS w w2.heap.size N b wr.drew := ⟨hbl.drew, hbx, hn3⟩
        have c8 : ∀ W, BuS w w2.heap.size N b W → W.cell? ⟨w2.heap.size, 8, none⟩ = some (.slice (some ⟨N, 0, none⟩) 2 2) := fun W hW => cell_at hW.2.1 8 rfl
        have c3 : ∀ W, BuS w w2.heap.size N b W → W.cell? ⟨N, 3, none⟩ = some (.int .i64 (b : Nat)) := fun W hW => hW.2.2
        obtain ⟨xk, xp, xa, xb, xc, xD, xm, xcap, xd⟩ := x
        have a0 : ∀ W, BuS w w2.heap.size N b W → W.cell? ⟨ab, ao + k * 6, none⟩ = some (.int .u8 (xk : Nat)) := fun W hW => hcell W hW.1 0 _ rfl
        have a1 : ∀ W, BuS w w2.heap.size N b W → W.cell? ⟨ab, ao + k * 6 + 1, none⟩ = some (.int .i64 xp) := fun W hW => hcell W hW.1 1 _ rfl
        have a2 : ∀ W, BuS w w2.heap.size N b W → W.cell? ⟨ab, ao + k * 6 + 2, none⟩ = some (.int .i64 xa) := fun W hW => hcell W hW.1 2 _ rfl
        have a3 : ∀ W, BuS w w2.heap.size N b W → W.cell? ⟨ab, ao + k * 6 + 3, none⟩ = some (.int .i64 xb) := fun W hW => hcell W hW.1 3 _ rfl
        have a4 : ∀ W, BuS w w2.heap.size N b W → W.cell? ⟨ab, ao + k * 6 + 4, none⟩ = some (.int .i64 xc) := fun W hW => hcell W hW.1 4 _ rfl
        have a5 : ∀ W, BuS w w2.heap.size N b W → W.cell? ⟨ab, ao + k * 6 + 5, none⟩ = some (.slice xD xm xcap) := fun W hW => hcell W hW.1 5 _ rfl
        unfold opV at HCost
        simp only at HCost
        generalize ApeP.costT (⟨xk, xp, xa, xb, xc, xD, xm, xcap, xd⟩ : OpC).plain = ct at *
        clear hov hno hbl hbx hn3 hcl hy hgr hx hpx hit hcell b1 b2 b4 b5 hcs hcs0 hcostp
        go_upto_region 19 with (fail)
        refine wp_region_held_drew (S := fun W => BuS w w2.heap.size N b W) (by kernel_rfl) hS (fun _ => ?_)
        refine tkH 0 (by simp only [tkA]; rfl) (by kernel_rfl) (by exact fun _ _ _ h => h) (by rfl) (by intro W hW; go_simp <;> with_reducible rfl) hS ?_
        try simp only [Act.put, tkT, tk0, tkS]
        refine tkH 1 (by simp only [tkA, tkG]; rfl) (by kernel_rfl) (by exact fun _ _ _ h => h) (by rfl) (by intro W hW; go_simp <;> with_reducible rfl) hS ?_
        try simp only [Act.put, tkT, tk0, tkS]
        refine tkH 2 (by simp only [tkA, tkG]; rfl) (by kernel_rfl) (by exact fun _ _ _ h => h) (by rfl) (by intro W hW; go_simp <;> with_reducible rfl) hS ?_
        try simp only [Act.put, tkT, tk0, tkS]
        refine tkH 3 (by simp only [tkA, tkG]; rfl) (by kernel_rfl) (by exact fun _ _ _ h => h) (by rfl) (by intro W hW; go_simp <;> with_reducible rfl) hS ?_
        try simp only [Act.put, tkT, tk0, tkS]
        refine tkH 4 (by simp only [tkA, tkG]; rfl) (by kernel_rfl) (by exact fun _ _ _ h => h) (by rfl) (by intro W hW; go_simp <;> with_reducible rfl) hS ?_
        try simp only [Act.put, tkT, tk0, tkS]
        refine tkH 5 (by simp only [tkA, tkG]; rfl) (by kernel_rfl) (by exact fun _ _ _ h => h) (by rfl) (by intro W hW; go_simp <;> with_reducible rfl) hS ?_
        try simp only [Act.put, tkT, tk0, tkS]
        refine tkH 6 (by simp only [tkA, tkG]; rfl) (by kernel_rfl) (by exact fun _ _ _ h => h) (by rfl) (by intro W hW; go_simp <;> with_reducible rfl) hS ?_
        try simp only [Act.put, tkT, tk0, tkS]
        refine tkH 7 (by simp only [tkA, tkG]; rfl) (by kernel_rfl) (by exact fun _ _ _ h => h) (by rfl) (by intro W hW; go_simp <;> with_reducible rfl) hS ?_
        try simp only [Act.put, tkT, tk0, tkS]
        refine tkH 8 (by simp only [tkA, tkG]; rfl) (by kernel_rfl) (by exact fun _ _ _ h => h) (by rfl) (by intro W hW; go_simp <;> with_reducible rfl) hS ?_
        try simp only [Act.put, tkT, tk0, tkS]
        refine tkH 9 (by simp only [tkA, tkG]; rfl) (by kernel_rfl) (by exact fun _ _ _ h => h) (by rfl) (by intro W hW; go_simp <;> with_reducible rfl) hS ?_
        try simp only [Act.put, tkT, tk0, tkS]
        refine tkH 11 (by simp only [tkA, tkG]; rfl) (by kernel_rfl) (by exact fun _ _ _ h => h) (by rfl) (by intro W hW; go_simp <;> with_reducible rfl) hS ?_
        try simp only [Act.put, tkT, tk0, tkS]
        refine tkH 12 (by simp only [tkA, tkG]; rfl) (by kernel_rfl) (by exact fun _ _ _ h => h) (by rfl) (by intro W hW; go_simp <;> with_reducible rfl) hS ?_
        try simp only [Act.put, tkT, tk0, tkS]
        refine tkH 13 (by simp only [tkA, tkG]; rfl) (by kernel_rfl) (by exact fun _ _ _ h => h) (by rfl) (by intro W hW; go_simp <;> with_reducible rfl) hS ?_
        try simp only [Act.put, tkT, tk0, tkS]
        refine tkH 14 (by simp only [tkA, tkG]; rfl) (by kernel_rfl) (by exact fun _ _ _ h => h) (by rfl) (by intro W hW; go_simp <;> with_reducible rfl) hS ?_
        try simp only [Act.put, tkT, tk0, tkS]
        refine tkH 15 (by simp only [tkA, tkG]; rfl) (by kernel_rfl) (by exact fun _ _ _ h => h) (by rfl) (by intro W hW; go_simp <;> with_reducible rfl) hS ?_
        try simp only [Act.put, tkT, tk0, tkS]
        refine tkH 16 (by simp only [tkA, tkG]; rfl) (by kernel_rfl) (by exact fun _ _ _ h => h) (by rfl) (by intro W hW; go_simp <;> with_reducible rfl) hS ?_
        try simp only [Act.put, tkT, tk0, tkS]
        refine tkH 17 (by simp only [tkA, tkG]; rfl) (by kernel_rfl) (by exact fun _ _ _ h => h) (by rfl) (by intro W hW; go_simp <;> with_reducible rfl) hS ?_
        try simp only [Act.put, tkT, tk0, tkS]
        refine clH 10 (by kernel_rfl) (by simp only [tkA, tkG]; rfl) (fun K hK => ?_)
        go_simp
        refine (HCost.out _).mono ?_
        rintro e wz ⟨rfl, hbz⟩
        have hS2 := hS.below hbz
        have HR := Lib.hid (HNx.out wz hS2 (fun i y hy => (hbz.cell (p := ⟨gb, _, none⟩) hgbl).trans (HCl.out i y hy)))
        clear hbz
        go_wp2_with fail
        refine hK.out _ _ hS2 (fun _ => ?_)
        clear hK K
        refine tkH 18 (by simp only [tkA, tkG]; rfl) (by kernel_rfl) (by exact fun _ _ _ h => h) (by rfl) (by intro W hW; go_simp <;> with_reducible rfl) hS2 ?_
        try simp only [Act.put, tkT, tk0, tkS]
        refine tkH 19 (by simp only [tkA, tkG]; rfl) (by kernel_rfl) (by exact fun _ _ _ h => h) (by rfl) (by intro W hW; go_simp <;> with_reducible rfl) hS2 ?_
        try simp only [Act.put, tkT, tk0, tkS]
        refine wpAnyH_done (by kernel_rfl) ?_ _
        clear a0 a1 a2 a3 a4 a5 c3 c8 hS hS2
        go_wp2_with fail
        go_roundw
        case rel => exact HR.out
        case measure => simp [intOf]; omega
      · have hdone := HBud.out.done hgr h151
        have HNx : Hid (∀ W, BuS w w2.heap.size N b W → (∀ i y, ys[i]? = some y → W.cell? ⟨gb, i * 4, none⟩ = some (.int .i64 (y.code : Nat))) → BuR w w2.heap.size N b l g gb ys (.int .i64 (ApeP.costs ((l.map OpC.plain).take k) + ApeP.costT x.plain)) (.bool false) (.int .i64 ((k : Int) + 1)) W) := Lib.hid fun W hW hc => by
          refine ⟨k + 1, false, by omega, by go_num, rfl, ?_, (fun h => by cases h), fun _ j r hj hr => ?_, hW.1, hW.2.1, hW.2.2, hc⟩
          · simp only [Bool.false_eq_true, if_false]; rw [hcs]
          · by_cases hjk : j = k
            · subst hjk; rw [hgr] at hr; obtain rfl := Option.some.inj hr; exact h151
            · exact hno (by trivial) j r (by omega) hr
        have hgbl : gb < wr.heap.size := World.block_lt_of_cell? wr _ kc
        have HCl := Lib.hid hcl
        rw [hcs] at hdone
        generalize ApeP.costs ((l.map OpC.plain).take k) = cst at *
        have m6 : ((y.code : Int) == 151) = false := by rw [beq_eq_false_iff_ne]; omega
        have m7 : (y.code == 151) = false := by rw [beq_eq_false_iff_ne]; exact h151
        have e10 : IntKind.i64.wrap (cst + ApeP.costT x.plain) = cst + ApeP.costT x.plain := IntWalk.i64_in _ (by omega)
        generalize y.code = yc at *
        have hS : BuS w w2.heap.size N b wr := ⟨hbl, hbx, hn3⟩
        obtain ⟨xk, xp, xa, xb, xc, xD, xm, xcap, xd⟩ := x
        have a0 : wr.cell? ⟨ab, ao + k * 6, none⟩ = some (.int .u8 (xk : Nat)) := hcell wr hbl 0 _ rfl
        have a1 : wr.cell? ⟨ab, ao + k * 6 + 1, none⟩ = some (.int .i64 xp) := hcell wr hbl 1 _ rfl
        have a2 : wr.cell? ⟨ab, ao + k * 6 + 2, none⟩ = some (.int .i64 xa) := hcell wr hbl 2 _ rfl
        have a3 : wr.cell? ⟨ab, ao + k * 6 + 3, none⟩ = some (.int .i64 xb) := hcell wr hbl 3 _ rfl
        have a4 : wr.cell? ⟨ab, ao + k * 6 + 4, none⟩ = some (.int .i64 xc) := hcell wr hbl 4 _ rfl
        have a5 : wr.cell? ⟨ab, ao + k * 6 + 5, none⟩ = some (.slice xD xm xcap) := hcell wr hbl 5 _ rfl
        unfold opV at HCost
        simp only at HCost
        generalize ApeP.costT (⟨xk, xp, xa, xb, xc, xD, xm, xcap, xd⟩ : OpC).plain = ct at *
        clear hov hno hbl hbx hn3 hcl hy hgr hx hpx hit hcell hcs hcs0 hcostp hdone
        go_wp2_with fail
        refine (HCost.out _).mono ?_
        rintro e wz ⟨rfl, hbz⟩
        have HR := Lib.hid (HNx.out wz (hS.below hbz) (fun i y hy => (hbz.cell (p := ⟨gb, _, none⟩) hgbl).trans (HCl.out i y hy)))
        clear hbz hS a0 a1 a2 a3 a4 a5
        go_wp2_with fail
        go_roundw
        case rel => exact HR.out
        case measure => simp [intOf]; omega
end Go.Proofs.YtemcgegickpdbaaGreatDoor
