/- Contracts of table's takePort and takePart. Conditions: where the Reader lies. -/
import Derived.Test.YtgceleipaiameaaTbR
namespace Go.Proofs.Ytgceleipaiameaa
open Go.RowKit
set_option maxRecDepth 100000

/-- What takePort answers. -/
def PortPost (br : Nat) (A : Option Addr) (n cap : Nat) (l : List UInt8) (x0 x1 x2 x3 x4 x5 : WireP.Took) (w : World) (e : Ending) (w' : World) : Prop :=
  if 1 < x2.n then e = .returned (.tuple #[.agg #[.int .i64 (x0.n : Nat), .int .u8 (x1.n : Nat), .bool false, .int .i64 0, .int .i64 0, .int .i64 0], .bool false]) ∧ TakeIn br A n cap l w x2.at_ x2.short w'
  else e = .returned (.tuple #[.agg (portVals ⟨x0.n, x1.n, x2.n == 1, x3.n, x4.n, x5.n⟩).toArray, .bool true]) ∧ TakeIn br A n cap l w x5.at_ x5.short w'

theorem beq_one (n : Nat) : (((n : Nat) : Int) == 1) = (n == 1) := by
  by_cases h : n = 1
  · subst h; rfl
  · rw [beq_eq_false_iff_ne.2 h, beq_eq_false_iff_ne]; omega

set_option maxHeartbeats 2000000 in
theorem takePort_any (br : Nat) (A : Option Addr) (n cap : Nat) (l : List UInt8) (a : Nat) (s : Bool) (w : World) (h : ReaderAt w br A n cap l a s) (hA : ∀ k, blockOf A = some k → k < w.heap.size) (x0 x1 x2 x3 x4 x5 : WireP.Took) (h0 : WireP.take l a s 1 = x0) (h1 : WireP.take l x0.at_ x0.short 1 = x1) (h2 : WireP.take l x1.at_ x1.short 1 = x2) (h3 : WireP.take l x2.at_ x2.short 1 = x3) (h4 : WireP.take l x3.at_ x3.short 1 = x4) (h5 : WireP.take l x4.at_ x4.short 1 = x5) :
    Calls Try.prog 56 #[.pointer (some ⟨br, 0, none⟩)] w (PortPost br A n cap l x0 x1 x2 x3 x4 x5 w) := by
  have HS : Hid (∀ o xs t, Bx br (w.heap.size + 1) A n cap l ((w.alloc o).alloc (.cells xs t)) t a s xs ((w.alloc o).alloc (.cells xs t))) := Lib.hid fun o xs t => Bx.start2 h
  have HO := Lib.hid (BxOk.start2 h hA)
  have hbr := h.lt
  have HA := Lib.hid hA
  have HD : Hid (takesD l ((1 : Nat) : Int) 1 a s = ([x0.n], x0.at_, x0.short)) := Lib.hid (by
    show takesD l 1 1 a s = _
    simp only [takesD, h0])
  have HD2 : Hid (takesD l ((1 : Nat) : Int) 3 x2.at_ x2.short = ([x3.n, x4.n, x5.n], x5.at_, x5.short)) := Lib.hid (by
    show takesD l 1 3 x2.at_ x2.short = _
    simp only [takesD, h3, h4, h5])
  have l1 := take_lt1 l x0.at_ x0.short
  rw [h1] at l1
  have m1 : (x1.n : Int) % 256 = x1.n := by omega
  have K1 := Lib.hid h1
  have K2 := Lib.hid h2
  clear h hA h0 h1 h2 h3 h4 h5
  go_enter Try.func56, Try.ntmps56
  go_wp2_with fail
  refine Calls.mono ((HS.out _ _ _).takes HO.out 1 ?hs1 [(w.heap.size + 1, 0)] ?hp1 1 _ _ ?hn1 ?hN1 _ _ ?hc1 ?hz1) ?hr1
  case hs1 => omega
  case hp1 => simp
  case hn1 => rfl
  case hN1 => simp
  case hc1 => rfl
  case hz1 => omega
  rintro e w1 ⟨rfl, hb1⟩
  rw [HD.out] at hb1
  simp [setAll] at hb1
  have HB1 := Lib.hid hb1
  clear hb1
  go_wp2_with fail
  refine (HB1.out.take HO.out 1).mono ?_
  rw [K1.out]
  rintro e w2 ⟨rfl, hb2, -⟩
  have k1 := cell_at hb2.box 1 rfl
  have f1 := free_at hb2.box 1
  have HB2 := Lib.hid (hb2.store HO.out 1 (.int .u8 (x1.n : Nat)))
  clear hb2
  go_wp2_with fail
  refine (HB2.out.take HO.out 1).mono ?_
  rw [K2.out]
  rintro e w3 ⟨rfl, hb3, -⟩
  simp at hb3
  have HB3 := Lib.hid hb3
  clear hb3 k1 f1
  by_cases hlt : 1 < x2.n
  case pos =>
    have q : decide ((1 : Int) < x2.n) = true := decide_eq_true (by omega)
    have HP : Hid (∀ w', TakeIn br A n cap l w x2.at_ x2.short w' → PortPost br A n cap l x0 x1 x2 x3 x4 x5 w (.returned (.tuple #[.agg #[.int .i64 (x0.n : Nat), .int .u8 (x1.n : Nat), .bool false, .int .i64 0, .int .i64 0, .int .i64 0], .bool false])) w') := Lib.hid fun w' ht => by
      unfold PortPost
      rw [if_pos hlt]
      exact ⟨rfl, ht⟩
    have hb3 := HB3.out
    have k0 := cell_at hb3.box 0 rfl
    have k1 := cell_at hb3.box 1 rfl
    have k2 := cell_at hb3.box 2 rfl
    have k3 := cell_at hb3.box 3 rfl
    have k4 := cell_at hb3.box 4 rfl
    have k5 := cell_at hb3.box 5 rfl
    have hres := hb3.res hbr
    have Hres := Lib.hid hres
    have r0 := cell_at hres 0 rfl
    have r1 := cell_at hres 1 rfl
    have r2 := cell_at hres 2 rfl
    have r3 := cell_at hres 3 rfl
    have r4 := cell_at hres 4 rfl
    have r5 := cell_at hres 5 rfl
    have f := fun i => free_at hres i
    clear hb3 hres hlt
    go_wp2_with fail
    clear k0 k1 k2 k3 k4 k5 r0 r1 r2 r3 r4 r5 f
    show bodyPost _ _ _ _ _ (storeAll w3 w.heap.size [.int .i64 (x0.n : Nat), .int .u8 (x1.n : Nat), .bool false, .int .i64 0, .int .i64 0, .int .i64 0] 0)
    have hfin := storeAll_heap (b := w.heap.size) [.int .i64 (x0.n : Nat), .int .u8 (x1.n : Nat), .bool false, .int .i64 0, .int .i64 0, .int .i64 0] 0 w3 [] [_, _, _, _, _, _] Hres.out rfl rfl
    have HF := Lib.hid (HB3.out.fin hbr HA.out [.int .i64 (x0.n : Nat), .int .u8 (x1.n : Nat), .bool false, .int .i64 0, .int .i64 0, .int .i64 0] 0)
    generalize storeAll w3 w.heap.size [.int .i64 (x0.n : Nat), .int .u8 (x1.n : Nat), .bool false, .int .i64 0, .int .i64 0, .int .i64 0] 0 = Wf at *
    rw [List.nil_append] at hfin
    have r0 := cell_at hfin 0 rfl
    have r1 := cell_at hfin 1 rfl
    have r2 := cell_at hfin 2 rfl
    have r3 := cell_at hfin 3 rfl
    have r4 := cell_at hfin 4 rfl
    have r5 := cell_at hfin 5 rfl
    refine bodyPost_ret (v := .tuple #[.agg #[.int .i64 (x0.n : Nat), .int .u8 (x1.n : Nat), .bool false, .int .i64 0, .int .i64 0, .int .i64 0], .bool false]) (by simp [results, Try.results56, go_sem, r0, r1, r2, r3, r4, r5]) rfl ?_
    exact HP.out _ HF.out
  have q : decide ((1 : Int) < x2.n) = false := decide_eq_false (by omega)
  have HP : Hid (∀ w', TakeIn br A n cap l w x5.at_ x5.short w' → PortPost br A n cap l x0 x1 x2 x3 x4 x5 w (.returned (.tuple #[.agg (portVals ⟨x0.n, x1.n, x2.n == 1, x3.n, x4.n, x5.n⟩).toArray, .bool true])) w') := Lib.hid fun w' ht => by
    unfold PortPost
    rw [if_neg hlt]
    exact ⟨rfl, ht⟩
  have hb3 := HB3.out
  have k2 := cell_at hb3.box 2 rfl
  have f2 := free_at hb3.box 2
  have hq := beq_one x2.n
  generalize hob : (x2.n == 1) = ob at *
  have HB4 := Lib.hid (hb3.store HO.out 2 (.bool ob))
  clear hb3 hlt hob
  go_wp2_with fail
  refine Calls.mono (HB4.out.takes HO.out 1 ?hs2 [(w.heap.size + 1, 3), (w.heap.size + 1, 4), (w.heap.size + 1, 5)] ?hp2 3 _ _ ?hn2 ?hN2 _ _ ?hc2 ?hz2) ?hr2
  case hs2 => omega
  case hp2 => simp
  case hn2 => rfl
  case hN2 => simp [World.setCell]
  case hc2 => rfl
  case hz2 => omega
  rintro e w5 ⟨rfl, hb5⟩
  rw [HD2.out] at hb5
  simp [setAll] at hb5
  have HB5 := Lib.hid hb5
  have k0 := cell_at hb5.box 0 rfl
  have k1 := cell_at hb5.box 1 rfl
  clear k2
  have k2 := cell_at hb5.box 2 rfl
  have k3 := cell_at hb5.box 3 rfl
  have k4 := cell_at hb5.box 4 rfl
  have k5 := cell_at hb5.box 5 rfl
  have hres := hb5.res hbr
  have Hres := Lib.hid hres
  have r0 := cell_at hres 0 rfl
  have r1 := cell_at hres 1 rfl
  have r2 := cell_at hres 2 rfl
  have r3 := cell_at hres 3 rfl
  have r4 := cell_at hres 4 rfl
  have r5 := cell_at hres 5 rfl
  have f := fun i => free_at hres i
  clear hb5 hres
  go_wp2_with fail
  clear k0 k1 k2 k3 k4 k5 r0 r1 r2 r3 r4 r5 f
  show bodyPost _ _ _ _ _ (storeAll w5 w.heap.size (portVals ⟨x0.n, x1.n, ob, x3.n, x4.n, x5.n⟩) 0)
  have hfin := storeAll_heap (b := w.heap.size) (portVals ⟨x0.n, x1.n, ob, x3.n, x4.n, x5.n⟩) 0 w5 [] [_, _, _, _, _, _] Hres.out rfl rfl
  have HF := Lib.hid (HB5.out.fin hbr HA.out (portVals ⟨x0.n, x1.n, ob, x3.n, x4.n, x5.n⟩) 0)
  generalize storeAll w5 w.heap.size (portVals ⟨x0.n, x1.n, ob, x3.n, x4.n, x5.n⟩) 0 = Wf at *
  rw [List.nil_append] at hfin
  have r0 := cell_at hfin 0 rfl
  have r1 := cell_at hfin 1 rfl
  have r2 := cell_at hfin 2 rfl
  have r3 := cell_at hfin 3 rfl
  have r4 := cell_at hfin 4 rfl
  have r5 := cell_at hfin 5 rfl
  refine bodyPost_ret (v := .tuple #[.agg (portVals ⟨x0.n, x1.n, ob, x3.n, x4.n, x5.n⟩).toArray, .bool true]) (by simp [results, Try.results56, go_sem, r0, r1, r2, r3, r4, r5, portVals]) rfl ?_
  exact HP.out _ HF.out
end Go.Proofs.Ytgceleipaiameaa
