/- Contract of letters.step. Conditions: the letters are words of 32 bits. -/
import Derived.Test.YtpabgkmjhcmonaaDigD
import Derived.Test.YtpabgkmjhcmonaaCpy
namespace Go.Proofs.Ytpabgkmjhcmonaa
open Go.RowKit
set_option maxRecDepth 100000

theorem quiet_one {P : Program} {f : FuncId} {args : Array Value} {w : World} {n : Nat} {v : Value}
    (h : Calls P f args (w.drewN n) fun e w' => e = .returned v ∧ w.drewN n = w') : Calls P f args (w.drewN n) fun e w'' => e = .returned v ∧ ∃ m, w'' = w.drewN m :=
  h.mono fun _ _ ⟨he, hm⟩ => ⟨he, n, hm.symm⟩

/-- The letters, one step on: x is what the step adds. -/
def oneX (r : DigP.Reg) (x : Nat) : Nat := (r.h + DigP.up1 r.e + DigP.pick r.e r.f r.g + x) % 4294967296
def stepX (r : DigP.Reg) (x : Nat) : DigP.Reg := ⟨(oneX r x + DigP.twoT r) % 4294967296, r.a, r.b, r.c, (r.d + oneX r x) % 4294967296, r.e, r.f, r.g⟩
theorem stepX_is (r : DigP.Reg) (k x : Nat) : stepX r ((k + x) % 4294967296) = DigP.stepR r k x := by
  have : oneX r ((k + x) % 4294967296) = DigP.oneT r k x := by unfold oneX DigP.oneT; omega
  unfold stepX DigP.stepR
  rw [this]

theorem not32 (q : Nat) (hq : q < 4294967296) : bits .xor .u32 IntKind.u32.max (q : Int) = ((q ^^^ 4294967295 : Nat) : Int) := by
  have h := u32_xor_nat 4294967295 q (by decide) hq
  rw [Nat.xor_comm] at h
  exact h
theorem xor_two (a b : Nat) (ha : a < 4294967296) (hb : b < 4294967296) : bits .xor .u32 (a : Int) (b : Int) = ((a ^^^ b : Nat) : Int) := u32_xor_nat a b ha hb
theorem xor_three (a b c : Nat) (ha : a < 4294967296) (hb : b < 4294967296) (hc : c < 4294967296) : bits .xor .u32 (bits .xor .u32 (a : Int) (b : Int)) (c : Int) = ((a ^^^ b ^^^ c : Nat) : Int) := by
  rw [u32_xor_nat a b ha hb, u32_xor_nat _ c (DigP.xor_lt ha hb) hc]
theorem up1_is (e : Nat) (he : e < 4294967296) : bits BinOp.xor IntKind.u32 (bits BinOp.xor IntKind.u32 ((DigP.rotr e 6 : Nat) : Int) ((DigP.rotr e 11 : Nat) : Int)) ((DigP.rotr e 25 : Nat) : Int) = (DigP.up1 e : Nat) := xor_three _ _ _ (DigP.rotr_lt he) (DigP.rotr_lt he) (DigP.rotr_lt he)
theorem up0_is (e : Nat) (he : e < 4294967296) : bits BinOp.xor IntKind.u32 (bits BinOp.xor IntKind.u32 ((DigP.rotr e 2 : Nat) : Int) ((DigP.rotr e 13 : Nat) : Int)) ((DigP.rotr e 22 : Nat) : Int) = (DigP.up0 e : Nat) := xor_three _ _ _ (DigP.rotr_lt he) (DigP.rotr_lt he) (DigP.rotr_lt he)
theorem pick_is (e f g : Nat) (he : e < 4294967296) (hf : f < 4294967296) (hg : g < 4294967296) : bits BinOp.xor IntKind.u32 (bits BinOp.and IntKind.u32 (e : Int) (f : Int)) (bits BinOp.and IntKind.u32 (bits BinOp.xor IntKind.u32 IntKind.u32.max (e : Int)) (g : Int)) = (DigP.pick e f g : Nat) := by
  rw [not32 e he, u32_and_nat e f he hf, u32_and_nat _ g (DigP.xor_lt he (by decide)) hg, u32_xor_nat _ _ (DigP.and_lt hf) (DigP.and_lt hg)]
  rfl
theorem most_is (a b c : Nat) (ha : a < 4294967296) (hb : b < 4294967296) (hc : c < 4294967296) : bits BinOp.xor IntKind.u32 (bits BinOp.xor IntKind.u32 (bits BinOp.and IntKind.u32 (a : Int) (b : Int)) (bits BinOp.and IntKind.u32 (a : Int) (c : Int))) (bits BinOp.and IntKind.u32 (b : Int) (c : Int)) = (DigP.most a b c : Nat) := by
  rw [u32_and_nat a b ha hb, u32_and_nat a c ha hc, u32_and_nat b c hb hc]
  exact xor_three _ _ _ (DigP.and_lt hb) (DigP.and_lt hc) (DigP.and_lt hc)

theorem slice8_from (W : World) (b : Nat) : (Instr.sliceAt 42 (.pointer (some ⟨b, 0, none⟩)) (some (.int .i64 1)) none none).run Try.prog W = .ok (.slice (some ⟨b, 1, none⟩) 7 7) W := by
  have hu : Try.prog.underlying 42 = some (.array (Try.prog.arrayLen 42) (Try.prog.elem 42)) := by kernel_rfl
  have hl : Try.prog.arrayLen 42 = 8 := by kernel_rfl
  have hs : (Go.sizeOf (Try.prog.elem 42)).run Try.prog W = .ok 1 W := by kernel_rfl
  rw [run_sliceAt_array_l W _ _ hu .i64 _ (by omega) (by rw [hl]; omega), hs, hl]
  simp [Result.andThen, slicedAt, Addr.add]
theorem slice8_to (W : World) (b : Nat) : (Instr.sliceAt 42 (.pointer (some ⟨b, 0, none⟩)) none (some (.int .i64 7)) none).run Try.prog W = .ok (.slice (some ⟨b, 0, none⟩) 7 8) W := by
  have hu : Try.prog.underlying 42 = some (.array (Try.prog.arrayLen 42) (Try.prog.elem 42)) := by kernel_rfl
  have hl : Try.prog.arrayLen 42 = 8 := by kernel_rfl
  have hs : (Go.sizeOf (Try.prog.elem 42)).run Try.prog W = .ok 1 W := by kernel_rfl
  rw [run_sliceAt_array_h W _ _ hu .i64 _ (by omega) (by rw [hl]; omega), hs, hl]
  simp [Result.andThen, slicedAt, Addr.add]

set_option maxHeartbeats 4000000 in
theorem step_any (b : Nat) (r : DigP.Reg) (hr : DigP.RegOk r) (x : Nat) (w : World) (h : ArrIn w b 42 (u32V r.list)) :
    Calls Try.prog 25 #[.pointer (some ⟨b, 0, none⟩), .int .u32 x] w fun e w' => e = .returned (.tuple #[]) ∧ ArrIn w' b 42 (u32V (stepX r x).list) ∧ Apart (fun k => k = b) w w' := by
  obtain ⟨r0, r1, r2, r3, r4, r5, r6, r7⟩ := r
  obtain ⟨l0, l1, l2, l3, l4, l5, l6, l7⟩ := hr
  simp only at l0 l1 l2 l3 l4 l5 l6 l7
  have H6 := Lib.hid (fun W => right_any r4 6 l4 (by decide) (by decide) W)
  have H11 := Lib.hid (fun W => right_any r4 11 l4 (by decide) (by decide) W)
  have H25 := Lib.hid (fun W => right_any r4 25 l4 (by decide) (by decide) W)
  have H2 := Lib.hid (fun W => right_any r0 2 l0 (by decide) (by decide) W)
  have H13 := Lib.hid (fun W => right_any r0 13 l0 (by decide) (by decide) W)
  have H22 := Lib.hid (fun W => right_any r0 22 l0 (by decide) (by decide) W)
  have c0 : w.cell? ⟨b, 0, none⟩ = some (.int .u32 (r0 : Nat)) := h.cell rfl
  have c1 : w.cell? ⟨b, 1, none⟩ = some (.int .u32 (r1 : Nat)) := h.cell rfl
  have c2 : w.cell? ⟨b, 2, none⟩ = some (.int .u32 (r2 : Nat)) := h.cell rfl
  have c3 : w.cell? ⟨b, 3, none⟩ = some (.int .u32 (r3 : Nat)) := h.cell rfl
  have c4 : w.cell? ⟨b, 4, none⟩ = some (.int .u32 (r4 : Nat)) := h.cell rfl
  have c5 : w.cell? ⟨b, 5, none⟩ = some (.int .u32 (r5 : Nat)) := h.cell rfl
  have c6 : w.cell? ⟨b, 6, none⟩ = some (.int .u32 (r6 : Nat)) := h.cell rfl
  have c7 : w.cell? ⟨b, 7, none⟩ = some (.int .u32 (r7 : Nat)) := h.cell rfl
  simp only [show ((6 : Nat) : Int) = 6 from rfl, show ((11 : Nat) : Int) = 11 from rfl, show ((25 : Nat) : Int) = 25 from rfl, show ((2 : Nat) : Int) = 2 from rfl, show ((13 : Nat) : Int) = 13 from rfl, show ((22 : Nat) : Int) = 22 from rfl] at H6 H11 H25 H2 H13 H22
  have HA := Lib.hid h
  have e1 : ((r7 : Int) + bits BinOp.xor IntKind.u32 (bits BinOp.xor IntKind.u32 ((DigP.rotr r4 6 : Nat) : Int) ((DigP.rotr r4 11 : Nat) : Int)) ((DigP.rotr r4 25 : Nat) : Int) + bits BinOp.xor IntKind.u32 (bits BinOp.and IntKind.u32 (r4 : Int) (r5 : Int)) (bits BinOp.and IntKind.u32 (bits BinOp.xor IntKind.u32 IntKind.u32.max (r4 : Int)) (r6 : Int)) + (x : Int)) % 4294967296 = (oneX ⟨r0, r1, r2, r3, r4, r5, r6, r7⟩ x : Nat) := by
    rw [up1_is r4 l4, pick_is r4 r5 r6 l4 l5 l6]
    simp only [oneX]
    generalize DigP.up1 r4 = u
    generalize DigP.pick r4 r5 r6 = v
    omega
  have e2 : (bits BinOp.xor IntKind.u32 (bits BinOp.xor IntKind.u32 ((DigP.rotr r0 2 : Nat) : Int) ((DigP.rotr r0 13 : Nat) : Int)) ((DigP.rotr r0 22 : Nat) : Int) + bits BinOp.xor IntKind.u32 (bits BinOp.xor IntKind.u32 (bits BinOp.and IntKind.u32 (r0 : Int) (r1 : Int)) (bits BinOp.and IntKind.u32 (r0 : Int) (r2 : Int))) (bits BinOp.and IntKind.u32 (r1 : Int) (r2 : Int))) % 4294967296 = (DigP.twoT ⟨r0, r1, r2, r3, r4, r5, r6, r7⟩ : Nat) := by
    rw [up0_is r0 l0, most_is r0 r1 r2 l0 l1 l2]
    simp only [DigP.twoT]
    generalize DigP.up0 r0 = u
    generalize DigP.most r0 r1 r2 = v
    omega
  have lo : oneX ⟨r0, r1, r2, r3, r4, r5, r6, r7⟩ x < 4294967296 := Nat.mod_lt _ (by decide)
  have lt : DigP.twoT ⟨r0, r1, r2, r3, r4, r5, r6, r7⟩ < 4294967296 := Nat.mod_lt _ (by decide)
  have HP : Hid (stepX ⟨r0, r1, r2, r3, r4, r5, r6, r7⟩ x = ⟨(oneX ⟨r0, r1, r2, r3, r4, r5, r6, r7⟩ x + DigP.twoT ⟨r0, r1, r2, r3, r4, r5, r6, r7⟩) % 4294967296, r0, r1, r2, (r3 + oneX ⟨r0, r1, r2, r3, r4, r5, r6, r7⟩ x) % 4294967296, r4, r5, r6⟩) := Lib.hid rfl
  generalize oneX ⟨r0, r1, r2, r3, r4, r5, r6, r7⟩ x = o at *
  generalize DigP.twoT ⟨r0, r1, r2, r3, r4, r5, r6, r7⟩ = t at *
  generalize hst : stepX ⟨r0, r1, r2, r3, r4, r5, r6, r7⟩ x = r' at HP ⊢
  clear h hst
  go_enter Try.func25, Try.ntmps25
  go_wp2_with fail
  go_quiet (fail)
  go_wp2_with fail
  have ha1 : ArrIn (w.drewN nq) b 42 _ := HA.out
  have hp1 : Apart (fun k => k = b) w (w.drewN nq) := (Apart.refl _ _).drewN _
  clear c0 c1 c2 c3 c4 c5 c6 c7
  generalize w.drewN nq = u1 at *
  have c0 : u1.cell? ⟨b, 0, none⟩ = some (.int .u32 (r0 : Nat)) := ha1.cell rfl
  have c1 : u1.cell? ⟨b, 1, none⟩ = some (.int .u32 (r1 : Nat)) := ha1.cell rfl
  have c2 : u1.cell? ⟨b, 2, none⟩ = some (.int .u32 (r2 : Nat)) := ha1.cell rfl
  have c3 : u1.cell? ⟨b, 3, none⟩ = some (.int .u32 (r3 : Nat)) := ha1.cell rfl
  have c4 : u1.cell? ⟨b, 4, none⟩ = some (.int .u32 (r4 : Nat)) := ha1.cell rfl
  have c5 : u1.cell? ⟨b, 5, none⟩ = some (.int .u32 (r5 : Nat)) := ha1.cell rfl
  have c6 : u1.cell? ⟨b, 6, none⟩ = some (.int .u32 (r6 : Nat)) := ha1.cell rfl
  have c7 : u1.cell? ⟨b, 7, none⟩ = some (.int .u32 (r7 : Nat)) := ha1.cell rfl
  go_quiet ((go_at_call 27; with_reducible first | exact quiet_one (H6.out _) | exact quiet_one (H11.out _) | exact quiet_one (H25.out _)))
  go_wp2_with fail
  have ha2 : ArrIn (u1.drewN nq) b 42 _ := ha1
  have hp2 : Apart (fun k => k = b) w (u1.drewN nq) := hp1.drewN _
  clear c0 c1 c2 c3 c4 c5 c6 c7 ha1 hp1
  generalize u1.drewN nq = u2 at *
  have c0 : u2.cell? ⟨b, 0, none⟩ = some (.int .u32 (r0 : Nat)) := ha2.cell rfl
  have c1 : u2.cell? ⟨b, 1, none⟩ = some (.int .u32 (r1 : Nat)) := ha2.cell rfl
  have c2 : u2.cell? ⟨b, 2, none⟩ = some (.int .u32 (r2 : Nat)) := ha2.cell rfl
  have c3 : u2.cell? ⟨b, 3, none⟩ = some (.int .u32 (r3 : Nat)) := ha2.cell rfl
  have c4 : u2.cell? ⟨b, 4, none⟩ = some (.int .u32 (r4 : Nat)) := ha2.cell rfl
  have c5 : u2.cell? ⟨b, 5, none⟩ = some (.int .u32 (r5 : Nat)) := ha2.cell rfl
  have c6 : u2.cell? ⟨b, 6, none⟩ = some (.int .u32 (r6 : Nat)) := ha2.cell rfl
  have c7 : u2.cell? ⟨b, 7, none⟩ = some (.int .u32 (r7 : Nat)) := ha2.cell rfl
  go_quiet ((go_at_call 27; with_reducible first | exact quiet_one (H2.out _) | exact quiet_one (H13.out _) | exact quiet_one (H22.out _)))
  go_wp2_with fail
  have ha3 : ArrIn (u2.drewN nq).drew b 42 _ := ha2
  have hp3 : Apart (fun k => k = b) w (u2.drewN nq).drew := (hp2.drewN _).drew
  have hs1 := fun W => slice8_from W b
  have hs2 := fun W => slice8_to W b
  clear c0 c1 c2 c3 c4 c5 c6 c7 ha2 hp2
  refine wp_region_L_drew (st := 6) (S := fun W => W = (u2.drewN nq).drew) (by kernel_rfl) rfl (fun _ => ?_)
  refine tkL 0 (by simp only [tkA]; rfl) (by kernel_rfl) (by exact fun _ _ _ h => h) (by rfl) (by intro W hW; go_simp <;> with_reducible rfl) rfl ?_
  try simp only [Act.put, tkT, tk0, tkS]
  refine tkL 1 (by simp only [tkA, tkG]; rfl) (by kernel_rfl) (by exact fun _ _ _ h => h) (by rfl) (by intro W hW; go_simp <;> with_reducible rfl) rfl ?_
  try simp only [Act.put, tkT, tk0, tkS]
  refine tkL 2 (by simp only [tkA, tkG]; rfl) (by kernel_rfl) (by exact fun _ _ _ h => h) (by rfl) (by intro W hW; go_simp <;> with_reducible rfl) rfl ?_
  try simp only [Act.put, tkT, tk0, tkS]
  refine tkL 3 (by simp only [tkA, tkG]; rfl) (by kernel_rfl) (by exact fun _ _ _ h => h) (by rfl) (by intro W hW; go_simp <;> with_reducible rfl) rfl ?_
  try simp only [Act.put, tkT, tk0, tkS]
  refine tkL 4 (by simp only [tkA, tkG]; rfl) (by kernel_rfl) (by exact fun _ _ _ h => h) (by rfl) (by intro W hW; go_simp <;> with_reducible rfl) rfl ?_
  try simp only [Act.put, tkT, tk0, tkS]
  refine tkL 5 (by simp only [tkA, tkG]; rfl) (by kernel_rfl) (by exact fun _ _ _ h => h) (by rfl) (by intro W hW; go_simp <;> with_reducible rfl) rfl ?_
  try simp only [Act.put, tkT, tk0, tkS]
  generalize (u2.drewN nq).drew = u3 at *
  refine wpAnyL_last (k := 6) (by kernel_rfl) (by simp only [tkA, tkG]; rfl) (fun K hK => ?_)
  refine step_copy_rows rfl (.tmp 80) (.tmp 83) _ _ rfl 37 1 Try.underlying48 (by kernel_rfl) b 1 7 7 ⟨b, 0, none⟩ 7 8 rfl rfl _ _ ha3 7 rfl (u32V [r0, r1, r2, r3, r4, r5, r6]) rfl (fun j v hj => ?_) (by simp [u32V, DigP.Reg.list]) (u32V_one _) ?_
  · rw [addr_addB, Nat.zero_add]
    refine ha3.cell ?_
    have hj2 := (List.getElem?_eq_some_iff.1 hj).1
    have hj3 : (u32V (DigP.Reg.list ⟨r0, r1, r2, r3, r4, r5, r6, r7⟩)) = u32V [r0, r1, r2, r3, r4, r5, r6] ++ u32V [r7] := rfl
    rw [hj3, List.getElem?_append_left hj2]
    exact hj
  intro w3 hg3 hap3
  have ha4 : ArrIn w3 b 42 (u32V [r0, r0, r1, r2, r3, r4, r5, r6]) := hg3
  have hp4 : Apart (fun k => k = b) w w3 := hp3.trans hap3 (fun _ e => .inl e)
  refine hK.out _ _ ?_
  clear hK K ha3 hp3 hg3 hap3
  refine wpAnyL_done (by kernel_rfl) ?_ _
  have k4 : w3.cell? ⟨b, 4, none⟩ = some (.int .u32 (r3 : Nat)) := ha4.cell rfl
  have f4 := ha4.free 4
  have k0 : w3.cell? ⟨b, 0, none⟩ = some (.int .u32 (r0 : Nat)) := ha4.cell rfl
  have f0 := ha4.free 0
  go_wp2_with fail
  go_region
  have HF : Hid (ArrIn ((w3.setCell ⟨b, 4, none⟩ (.int .u32 (((r3 : Int) + (o : Int)) % 4294967296))).setCell ⟨b, 0, none⟩ (.int .u32 (((o : Int) + (t : Int)) % 4294967296))).drew b 42 (u32V r'.list)) := Lib.hid (by
    have h1 := (ha4.set 4 (.int .u32 (((r3 : Int) + (o : Int)) % 4294967296))).set 0 (.int .u32 (((o : Int) + (t : Int)) % 4294967296))
    rw [HP.out]
    have z1 : ((r3 : Int) + (o : Int)) % 4294967296 = (((r3 + o) % 4294967296 : Nat) : Int) := by omega
    have z2 : ((o : Int) + (t : Int)) % 4294967296 = (((o + t) % 4294967296 : Nat) : Int) := by omega
    rw [z1, z2] at h1 ⊢
    exact h1)
  have HG : Hid (Apart (fun k => k = b) w ((w3.setCell ⟨b, 4, none⟩ (.int .u32 (((r3 : Int) + (o : Int)) % 4294967296))).setCell ⟨b, 0, none⟩ (.int .u32 (((o : Int) + (t : Int)) % 4294967296))).drew) := Lib.hid ((hp4.setCell (p := ⟨b, 4, none⟩) (.inl rfl) _).setCell (p := ⟨b, 0, none⟩) (.inl rfl) _).drew
  clear ha4 hp4 HA HP
  go_wp2_with fail
  refine bodyPost_end (results_none rfl _ _ _) rfl ⟨rfl, HF.out, HG.out⟩
end Go.Proofs.Ytpabgkmjhcmonaa
