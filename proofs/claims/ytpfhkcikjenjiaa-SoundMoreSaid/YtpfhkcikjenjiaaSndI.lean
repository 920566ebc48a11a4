/- Awake of stage 6: true. Conditions: none. -/
import Derived.Test.YtpfhkcikjenjiaaSndH
namespace Go.Proofs.Ytpfhkcikjenjiaa
open Go.RowKit
set_option maxRecDepth 100000

def oneS : CfgC := ⟨1, 0, 1000, 500, 0, 0, 0, 98, none, 0, 0, [], none, 0, 0, [], none, 0, 0, []⟩
def oneT : CfgC := ⟨1, 0, 1000, 500, 0, 0, 0, 97, none, 0, 0, [], none, 0, 0, [], none, 0, 0, []⟩
theorem flat_in (x : CfgC) (h : x.pn = 0 ∧ x.pcap = 0 ∧ x.parts = [] ∧ x.PA = none ∧ x.qn = 0 ∧ x.qcap = 0 ∧ x.ports = [] ∧ x.QA = none ∧ x.rn = 0 ∧ x.rcap = 0 ∧ x.routes = [] ∧ x.RA = none) (W : World) : CfgIn W x := by
  obtain ⟨nodes, faulty, slot, gap, rho, dmin, dmax, margin, PA, pn, pcap, parts, QA, qn, qcap, ports, RA, rn, rcap, routes⟩ := x
  obtain ⟨rfl, rfl, rfl, rfl, rfl, rfl, rfl, rfl, rfl, rfl, rfl, rfl⟩ := h
  exact ⟨ItemsIn.nil _ _ _ _, rfl, Nat.le_refl _, by simp, ItemsIn.nil _ _ _ _, rfl, Nat.le_refl _, by simp, ItemsIn.nil _ _ _ _, rfl, Nat.le_refl _, by simp⟩
theorem oneS_in (W : World) : CfgIn W oneS := flat_in _ ⟨rfl, rfl, rfl, rfl, rfl, rfl, rfl, rfl, rfl, rfl, rfl, rfl⟩ W
theorem oneT_in (W : World) : CfgIn W oneT := flat_in _ ⟨rfl, rfl, rfl, rfl, rfl, rfl, rfl, rfl, rfl, rfl, rfl, rfl⟩ W
theorem oneS_ok : SndP.chk6 oneS.plain = none := by decide
theorem oneT_bad : SndP.chk6 oneT.plain = some (74, -1) := by decide
theorem oneS_head : TableP.headOk oneS.plain := by decide
theorem oneS_round : SndP.roundT oneS.plain = 1500 := by decide
theorem oneS_prec : SndP.precT oneS.plain = 96 := by decide
theorem oneT_text : wrongT (some (74, -1)) = [55, 52, 64, 45, 49] := by kernel_rfl

theorem one_any (w : World) : Calls Try.prog 33 #[] w (fun e w' => e = .returned oneS.value ∧ Below w.heap.size w w') := by
  have HB := Lib.hid (fun o => (Below.refl w.heap.size w).alloc (Nat.le_refl _) o)
  simp only [oneS, CfgC.value]
  go_enter Try.func33, Try.ntmps33
  go_wp2_with fail
  have hfin := heap_alloc_new w (.cells #[.int .i64 1, .int .i64 0, .int .i64 1000, .int .i64 500, .int .i64 0, .int .i64 0, .int .i64 0, .int .i64 98, .slice none 0 0, .slice none 0 0, .slice none 0 0] 26 (0, 0))
  have r0 := cell_at hfin 0 rfl
  have r1 := cell_at hfin 1 rfl
  have r2 := cell_at hfin 2 rfl
  have r3 := cell_at hfin 3 rfl
  have r4 := cell_at hfin 4 rfl
  have r5 := cell_at hfin 5 rfl
  have r6 := cell_at hfin 6 rfl
  have r7 := cell_at hfin 7 rfl
  have r8 := cell_at hfin 8 rfl
  have r9 := cell_at hfin 9 rfl
  have r10 := cell_at hfin 10 rfl
  refine bodyPost_ret (v := .agg #[.int .i64 1, .int .i64 0, .int .i64 1000, .int .i64 500, .int .i64 0, .int .i64 0, .int .i64 0, .int .i64 98, .slice none 0 0, .slice none 0 0, .slice none 0 0]) (by simp [results, Try.results33, go_sem, r0, r1, r2, r3, r4, r5, r6, r7, r8, r9, r10]) rfl ?_
  exact ⟨rfl, HB.out _⟩

/-- Two boxes of tables. -/
def boxD (w : World) (x y : CfgC) : World := (boxC w x).alloc (.cells (cfgCells y) 26)
theorem boxD_size (w : World) (x y : CfgC) : (boxD w x y).heap.size = w.heap.size + 1 + 1 := by simp [boxD, boxC]
theorem boxD_below (w : World) (x y : CfgC) : Below w.heap.size w (boxD w x y) := (boxC_below w x).alloc (boxC_below w x).size _
theorem boxD_one {w wr : World} {x y : CfgC} (h : Below (boxD w x y).heap.size (boxD w x y) wr) : Box11 wr w.heap.size x :=
  box11 (t := 26) (((Below.refl (boxC w x).heap.size (boxC w x)).alloc (Nat.le_refl _) _).trans (h.mono (show (boxC w x).heap.size ≤ (boxD w x y).heap.size from by rw [boxD_size, boxC_size]; omega)))
theorem boxD_two {w wr : World} {x y : CfgC} (h : Below (boxD w x y).heap.size (boxD w x y) wr) : Box11 wr (w.heap.size + 1) y := by
  have := box11 (w := boxC w x) (x := y) (t := 26) h
  rwa [boxC_size] at this

set_option maxHeartbeats 2000000 in
theorem awake6_any (w : World) : Calls Try.prog 10 #[] w (TruePost w) := by
  have H1 := Lib.hid (fun W => one_any W)
  have H2 : Hid (∀ W, Calls Try.prog 13 #[oneS.value] W (CheckPost none W)) := Lib.hid fun W => by
    have := scheck_any oneS W (oneS_in W); rwa [oneS_ok] at this
  have H3 : Hid (∀ W, Calls Try.prog 17 #[oneS.value] W (IntPost 1500 W)) := Lib.hid fun W => by
    have := round_any oneS W oneS_head; rwa [oneS_round] at this
  have H4 : Hid (∀ W, Calls Try.prog 21 #[oneS.value] W (IntPost 96 W)) := Lib.hid fun W => by
    have := prec_any oneS W oneS_head; rwa [oneS_prec] at this
  have H5 : Hid (∀ W, Calls Try.prog 13 #[oneT.value] W (CheckPost (some (74, -1)) W)) := Lib.hid fun W => by
    have := scheck_any oneT W (oneT_in W); rwa [oneT_bad] at this
  have HBX := Lib.hid (fun w W (hW : Below (boxD w oneS oneT).heap.size (boxD w oneS oneT) W) => (⟨boxD_one hW, boxD_two hW⟩ : Box11 W w.heap.size oneS ∧ Box11 W (w.heap.size + 1) oneT))
  have HBB := Lib.hid (fun w => boxD_below w oneS oneT)
  simp only [oneS, oneT, CfgC.value] at H1 H2 H3 H4 H5
  simp only [oneS, oneT, boxD, boxC, cfgCells] at HBX HBB
  go_enter Try.func10, Try.ntmps10
  go_wp2_with fail
  refine (H1.out _).mono ?_
  rintro e w1 ⟨rfl, hb1⟩
  have Hb1 := Lib.hid hb1
  clear hb1
  go_wp2_with fail
  refine (H2.out _).mono ?_
  rintro e w2 ⟨v, rfl, h1, hv, h3⟩
  obtain rfl : v = .nilIface := hv
  have Hb2 := Lib.hid h3
  clear h1 h3
  obtain ⟨⟨a0, a1, a2, a3, a4, a5, a6, a7, a8, a9, a10⟩, ⟨b0, b1, b2, b3, b4, b5, b6, b7, b8, b9, b10⟩⟩ := HBX.out w1 _ Hb2.out
  simp only at a0 a1 a2 a3 a4 a5 a6 a7 a8 a9 a10 b0 b1 b2 b3 b4 b5 b6 b7 b8 b9 b10
  go_wp2_with fail
  refine (H3.out _).mono ?_
  rintro e w3 ⟨rfl, hb3⟩
  have Hb3 := Lib.hid (Hb2.out.trans (hb3.mono Hb2.out.size))
  clear hb3
  clear a0 a1 a2 a3 a4 a5 a6 a7 a8 a9 a10 b0 b1 b2 b3 b4 b5 b6 b7 b8 b9 b10
  obtain ⟨⟨a0, a1, a2, a3, a4, a5, a6, a7, a8, a9, a10⟩, ⟨b0, b1, b2, b3, b4, b5, b6, b7, b8, b9, b10⟩⟩ := HBX.out w1 _ Hb3.out
  simp only at a0 a1 a2 a3 a4 a5 a6 a7 a8 a9 a10 b0 b1 b2 b3 b4 b5 b6 b7 b8 b9 b10
  go_wp2_with fail
  refine (H4.out _).mono ?_
  rintro e w4 ⟨rfl, hb4⟩
  have Hb4 := Lib.hid (Hb3.out.trans (hb4.mono Hb3.out.size))
  clear hb4
  clear a0 a1 a2 a3 a4 a5 a6 a7 a8 a9 a10 b0 b1 b2 b3 b4 b5 b6 b7 b8 b9 b10
  obtain ⟨⟨a0, a1, a2, a3, a4, a5, a6, a7, a8, a9, a10⟩, ⟨b0, b1, b2, b3, b4, b5, b6, b7, b8, b9, b10⟩⟩ := HBX.out w1 _ Hb4.out
  simp only at a0 a1 a2 a3 a4 a5 a6 a7 a8 a9 a10 b0 b1 b2 b3 b4 b5 b6 b7 b8 b9 b10
  go_wp2_with fail
  refine (H5.out _).mono ?_
  rintro e w5 ⟨v, rfl, hx, ⟨b, rfl⟩, hb5⟩
  rw [oneT_text] at hx
  have HR := Lib.hid (ErrTextK.read (by omega) hx)
  have Hb5 := Lib.hid (Hb4.out.trans (hb5.mono Hb4.out.size))
  clear hx hb5
  clear a0 a1 a2 a3 a4 a5 a6 a7 a8 a9 a10 b0 b1 b2 b3 b4 b5 b6 b7 b8 b9 b10
  unfold strV at HR
  go_wp2_with fail
  refine HR.out.mono ?_
  rintro e w6 ⟨rfl, hb6⟩
  have HF : Hid (Below w.heap.size w w6) := Lib.hid (Hb1.out.trans (((HBB.out w1).trans ((Hb5.out.trans (hb6.mono Hb5.out.size)).mono (HBB.out w1).size)).mono Hb1.out.size))
  clear hb6
  go_wp2_with fail
  go_ret
  exact ⟨rfl, HF.out⟩
end Go.Proofs.Ytpfhkcikjenjiaa
