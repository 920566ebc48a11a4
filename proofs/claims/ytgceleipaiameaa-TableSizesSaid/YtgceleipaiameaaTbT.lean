/- Contract of table's takePart. Conditions: where the Reader lies. -/
import Derived.Test.YtgceleipaiameaaTbS
namespace Go.Proofs.Ytgceleipaiameaa
open Go.RowKit
set_option maxRecDepth 100000

set_option maxHeartbeats 2000000 in
theorem takePart_any (br : Nat) (A : Option Addr) (n cap : Nat) (l : List UInt8) (a : Nat) (s : Bool) (w : World) (h : ReaderAt w br A n cap l a s) (hA : ∀ k, blockOf A = some k → k < w.heap.size) (x0 x1 x2 x3 x4 x5 x6 x7 x8 : WireP.Took) (h0 : WireP.take l a s 1 = x0) (h1 : WireP.take l x0.at_ x0.short 4 = x1) (h2 : WireP.take l x1.at_ x1.short 4 = x2) (h3 : WireP.take l x2.at_ x2.short 1 = x3) (h4 : WireP.take l x3.at_ x3.short 1 = x4) (h5 : WireP.take l x4.at_ x4.short 1 = x5) (h6 : WireP.take l x5.at_ x5.short 1 = x6) (h7 : WireP.take l x6.at_ x6.short 1 = x7) (h8 : WireP.take l x7.at_ x7.short 1 = x8) :
    Calls Try.prog 55 #[.pointer (some ⟨br, 0, none⟩)] w (fun e w' => e = .returned (.agg (partVals ⟨x0.n, x1.n, x2.n, x3.n, x4.n, x5.n, x6.n, x7.n, x8.n⟩).toArray) ∧ TakeIn br A n cap l w x8.at_ x8.short w') := by
  have HS : Hid (∀ o xs t, Bx br (w.heap.size + 1) A n cap l ((w.alloc o).alloc (.cells xs t)) t a s xs ((w.alloc o).alloc (.cells xs t))) := Lib.hid fun o xs t => Bx.start2 h
  have HO := Lib.hid (BxOk.start2 h hA)
  have hbr := h.lt
  have HA := Lib.hid hA
  have HD : Hid (takesD l ((1 : Nat) : Int) 1 a s = ([x0.n], x0.at_, x0.short)) := Lib.hid (by
    show takesD l 1 1 a s = _
    simp only [takesD, h0])
  have HD2 : Hid (takesD l ((4 : Nat) : Int) 2 x0.at_ x0.short = ([x1.n, x2.n], x2.at_, x2.short)) := Lib.hid (by
    show takesD l 4 2 x0.at_ x0.short = _
    simp only [takesD, h1, h2])
  have HD3 : Hid (takesD l ((1 : Nat) : Int) 2 x2.at_ x2.short = ([x3.n, x4.n], x4.at_, x4.short)) := Lib.hid (by
    show takesD l 1 2 x2.at_ x2.short = _
    simp only [takesD, h3, h4])
  have m5 : (x5.n : Int) % 256 = x5.n := by have := take_lt1 l x4.at_ x4.short; rw [h5] at this; omega
  have m6 : (x6.n : Int) % 256 = x6.n := by have := take_lt1 l x5.at_ x5.short; rw [h6] at this; omega
  have m7 : (x7.n : Int) % 256 = x7.n := by have := take_lt1 l x6.at_ x6.short; rw [h7] at this; omega
  have m8 : (x8.n : Int) % 256 = x8.n := by have := take_lt1 l x7.at_ x7.short; rw [h8] at this; omega
  have K5 := Lib.hid h5
  have K6 := Lib.hid h6
  have K7 := Lib.hid h7
  have K8 := Lib.hid h8
  clear h hA h0 h1 h2 h3 h4 h5 h6 h7 h8
  simp only [partVals]
  go_enter Try.func55, Try.ntmps55
  go_wp2_with fail
  refine Calls.mono ((HS.out _ _ _).takes HO.out 1 ?hs1 [(w.heap.size + 1, 0)] ?hp1 1 _ _ ?hn1 ?hN1 _ _ ?hc1 ?hz1) ?hr1
  case hs1 => omega
  case hp1 => simp
  case hn1 => rfl
  case hN1 => simp
  case hc1 => rfl
  case hz1 => omega
  rintro e w1 ⟨rfl, hb1⟩
  rw [HD.out] at hb1
  simp [setAll] at hb1
  have HB1 := Lib.hid hb1
  clear hb1
  go_wp2_with fail
  refine Calls.mono (HB1.out.takes HO.out 4 ?hs2 [(w.heap.size + 1, 1), (w.heap.size + 1, 2)] ?hp2 2 _ _ ?hn2 ?hN2 _ _ ?hc2 ?hz2) ?hr2
  case hs2 => omega
  case hp2 => simp
  case hn2 => rfl
  case hN2 => simp
  case hc2 => rfl
  case hz2 => omega
  rintro e w2 ⟨rfl, hb2⟩
  rw [HD2.out] at hb2
  simp [setAll] at hb2
  have HB2 := Lib.hid hb2
  clear hb2
  go_wp2_with fail
  refine Calls.mono (HB2.out.takes HO.out 1 ?hs3 [(w.heap.size + 1, 3), (w.heap.size + 1, 4)] ?hp3 2 _ _ ?hn3 ?hN3 _ _ ?hc3 ?hz3) ?hr3
  case hs3 => omega
  case hp3 => simp
  case hn3 => rfl
  case hN3 => simp
  case hc3 => rfl
  case hz3 => omega
  rintro e w3 ⟨rfl, hb3⟩
  rw [HD3.out] at hb3
  simp [setAll] at hb3
  have HB3 := Lib.hid hb3
  clear hb3
  go_wp2_with fail
  go_loopw [19] (fun i wx => (i = .int .i64 0 ∧ Bx br (w.heap.size + 1) A n cap l ((w.alloc (.cells #[.int .i64 0, .int .i64 0, .int .i64 0, .int .i64 0, .int .i64 0, .int .u8 0, .int .u8 0, .int .u8 0, .int .u8 0] 60)).alloc (.cells #[.int .i64 0, .int .i64 0, .int .i64 0, .int .i64 0, .int .i64 0, .int .u8 0, .int .u8 0, .int .u8 0, .int .u8 0] 60)) 60 x4.at_ x4.short #[.int .i64 (x0.n : Nat), .int .i64 (x1.n : Nat), .int .i64 (x2.n : Nat), .int .i64 (x3.n : Nat), .int .i64 (x4.n : Nat), .int .u8 0, .int .u8 0, .int .u8 0, .int .u8 0] wx) ∨ (i = .int .i64 1 ∧ Bx br (w.heap.size + 1) A n cap l ((w.alloc (.cells #[.int .i64 0, .int .i64 0, .int .i64 0, .int .i64 0, .int .i64 0, .int .u8 0, .int .u8 0, .int .u8 0, .int .u8 0] 60)).alloc (.cells #[.int .i64 0, .int .i64 0, .int .i64 0, .int .i64 0, .int .i64 0, .int .u8 0, .int .u8 0, .int .u8 0, .int .u8 0] 60)) 60 x5.at_ x5.short #[.int .i64 (x0.n : Nat), .int .i64 (x1.n : Nat), .int .i64 (x2.n : Nat), .int .i64 (x3.n : Nat), .int .i64 (x4.n : Nat), .int .u8 (x5.n : Nat), .int .u8 0, .int .u8 0, .int .u8 0] wx) ∨ (i = .int .i64 2 ∧ Bx br (w.heap.size + 1) A n cap l ((w.alloc (.cells #[.int .i64 0, .int .i64 0, .int .i64 0, .int .i64 0, .int .i64 0, .int .u8 0, .int .u8 0, .int .u8 0, .int .u8 0] 60)).alloc (.cells #[.int .i64 0, .int .i64 0, .int .i64 0, .int .i64 0, .int .i64 0, .int .u8 0, .int .u8 0, .int .u8 0, .int .u8 0] 60)) 60 x6.at_ x6.short #[.int .i64 (x0.n : Nat), .int .i64 (x1.n : Nat), .int .i64 (x2.n : Nat), .int .i64 (x3.n : Nat), .int .i64 (x4.n : Nat), .int .u8 (x5.n : Nat), .int .u8 (x6.n : Nat), .int .u8 0, .int .u8 0] wx) ∨ (i = .int .i64 3 ∧ Bx br (w.heap.size + 1) A n cap l ((w.alloc (.cells #[.int .i64 0, .int .i64 0, .int .i64 0, .int .i64 0, .int .i64 0, .int .u8 0, .int .u8 0, .int .u8 0, .int .u8 0] 60)).alloc (.cells #[.int .i64 0, .int .i64 0, .int .i64 0, .int .i64 0, .int .i64 0, .int .u8 0, .int .u8 0, .int .u8 0, .int .u8 0] 60)) 60 x7.at_ x7.short #[.int .i64 (x0.n : Nat), .int .i64 (x1.n : Nat), .int .i64 (x2.n : Nat), .int .i64 (x3.n : Nat), .int .i64 (x4.n : Nat), .int .u8 (x5.n : Nat), .int .u8 (x6.n : Nat), .int .u8 (x7.n : Nat), .int .u8 0] wx) ∨ (i = .int .i64 4 ∧ Bx br (w.heap.size + 1) A n cap l ((w.alloc (.cells #[.int .i64 0, .int .i64 0, .int .i64 0, .int .i64 0, .int .i64 0, .int .u8 0, .int .u8 0, .int .u8 0, .int .u8 0] 60)).alloc (.cells #[.int .i64 0, .int .i64 0, .int .i64 0, .int .i64 0, .int .i64 0, .int .u8 0, .int .u8 0, .int .u8 0, .int .u8 0] 60)) 60 x8.at_ x8.short #[.int .i64 (x0.n : Nat), .int .i64 (x1.n : Nat), .int .i64 (x2.n : Nat), .int .i64 (x3.n : Nat), .int .i64 (x4.n : Nat), .int .u8 (x5.n : Nat), .int .u8 (x6.n : Nat), .int .u8 (x7.n : Nat), .int .u8 (x8.n : Nat)] wx)) (fun i _ => (5 - intOf i).toNat)
  case atStart => exact .inl ⟨rfl, HB3.out⟩
  case round =>
    clear HB1 HB2 HB3 HS
    rcases hrel with ⟨rfl, hb⟩ | ⟨rfl, hb⟩ | ⟨rfl, hb⟩ | ⟨rfl, hb⟩ | ⟨rfl, hb⟩
    · have HB := Lib.hid hb
      clear hb
      go_wp2_with fail
      refine (HB.out.take HO.out 1).mono ?_
      rw [K5.out]
      rintro e w5 ⟨rfl, hb5, -⟩
      have k5 := cell_at hb5.box 5 rfl
      have f5 := free_at hb5.box 5
      have hb6 := hb5.store HO.out 5 (.int .u8 (x5.n : Nat))
      simp at hb6
      have HB6 := Lib.hid hb6
      clear hb5 hb6
      go_wp2_with fail
      go_roundw
      case rel => exact (.inr (.inl ⟨rfl, HB6.out⟩))
      case measure => simp [intOf]
    · have HB := Lib.hid hb
      clear hb
      go_wp2_with fail
      refine (HB.out.take HO.out 1).mono ?_
      rw [K6.out]
      rintro e w5 ⟨rfl, hb5, -⟩
      have k5 := cell_at hb5.box 6 rfl
      have f5 := free_at hb5.box 6
      have hb6 := hb5.store HO.out 6 (.int .u8 (x6.n : Nat))
      simp at hb6
      have HB6 := Lib.hid hb6
      clear hb5 hb6
      go_wp2_with fail
      go_roundw
      case rel => exact (.inr (.inr (.inl ⟨rfl, HB6.out⟩)))
      case measure => simp [intOf]
    · have HB := Lib.hid hb
      clear hb
      go_wp2_with fail
      refine (HB.out.take HO.out 1).mono ?_
      rw [K7.out]
      rintro e w5 ⟨rfl, hb5, -⟩
      have k5 := cell_at hb5.box 7 rfl
      have f5 := free_at hb5.box 7
      have hb6 := hb5.store HO.out 7 (.int .u8 (x7.n : Nat))
      simp at hb6
      have HB6 := Lib.hid hb6
      clear hb5 hb6
      go_wp2_with fail
      go_roundw
      case rel => exact (.inr (.inr (.inr (.inl ⟨rfl, HB6.out⟩))))
      case measure => simp [intOf]
    · have HB := Lib.hid hb
      clear hb
      go_wp2_with fail
      refine (HB.out.take HO.out 1).mono ?_
      rw [K8.out]
      rintro e w5 ⟨rfl, hb5, -⟩
      have k5 := cell_at hb5.box 8 rfl
      have f5 := free_at hb5.box 8
      have hb6 := hb5.store HO.out 8 (.int .u8 (x8.n : Nat))
      simp at hb6
      have HB6 := Lib.hid hb6
      clear hb5 hb6
      go_wp2_with fail
      go_roundw
      case rel => exact (.inr (.inr (.inr (.inr (⟨rfl, HB6.out⟩)))))
      case measure => simp [intOf]
    · have HB := Lib.hid hb
      have k0 := cell_at hb.box 0 rfl
      have k1 := cell_at hb.box 1 rfl
      have k2 := cell_at hb.box 2 rfl
      have k3 := cell_at hb.box 3 rfl
      have k4 := cell_at hb.box 4 rfl
      have k5 := cell_at hb.box 5 rfl
      have k6 := cell_at hb.box 6 rfl
      have k7 := cell_at hb.box 7 rfl
      have k8 := cell_at hb.box 8 rfl
      have hres := hb.res hbr
      have Hres := Lib.hid hres
      have r0 := cell_at hres 0 rfl
      have r1 := cell_at hres 1 rfl
      have r2 := cell_at hres 2 rfl
      have r3 := cell_at hres 3 rfl
      have r4 := cell_at hres 4 rfl
      have r5 := cell_at hres 5 rfl
      have r6 := cell_at hres 6 rfl
      have r7 := cell_at hres 7 rfl
      have r8 := cell_at hres 8 rfl
      have f := fun i => free_at hres i
      clear hb hres
      go_wp2_with fail
      clear k0 k1 k2 k3 k4 k5 k6 k7 k8 r0 r1 r2 r3 r4 r5 r6 r7 r8 f
      show bodyPost _ _ _ _ _ (storeAll wr w.heap.size [.int .i64 (x0.n : Nat), .int .i64 (x1.n : Nat), .int .i64 (x2.n : Nat), .int .i64 (x3.n : Nat), .int .i64 (x4.n : Nat), .int .u8 (x5.n : Nat), .int .u8 (x6.n : Nat), .int .u8 (x7.n : Nat), .int .u8 (x8.n : Nat)] 0)
      have hfin := storeAll_heap (b := w.heap.size) [.int .i64 (x0.n : Nat), .int .i64 (x1.n : Nat), .int .i64 (x2.n : Nat), .int .i64 (x3.n : Nat), .int .i64 (x4.n : Nat), .int .u8 (x5.n : Nat), .int .u8 (x6.n : Nat), .int .u8 (x7.n : Nat), .int .u8 (x8.n : Nat)] 0 wr [] [_, _, _, _, _, _, _, _, _] Hres.out rfl rfl
      have HF := Lib.hid (HB.out.fin hbr HA.out [.int .i64 (x0.n : Nat), .int .i64 (x1.n : Nat), .int .i64 (x2.n : Nat), .int .i64 (x3.n : Nat), .int .i64 (x4.n : Nat), .int .u8 (x5.n : Nat), .int .u8 (x6.n : Nat), .int .u8 (x7.n : Nat), .int .u8 (x8.n : Nat)] 0)
      generalize storeAll wr w.heap.size [.int .i64 (x0.n : Nat), .int .i64 (x1.n : Nat), .int .i64 (x2.n : Nat), .int .i64 (x3.n : Nat), .int .i64 (x4.n : Nat), .int .u8 (x5.n : Nat), .int .u8 (x6.n : Nat), .int .u8 (x7.n : Nat), .int .u8 (x8.n : Nat)] 0 = Wf at *
      rw [List.nil_append] at hfin
      have r0 := cell_at hfin 0 rfl
      have r1 := cell_at hfin 1 rfl
      have r2 := cell_at hfin 2 rfl
      have r3 := cell_at hfin 3 rfl
      have r4 := cell_at hfin 4 rfl
      have r5 := cell_at hfin 5 rfl
      have r6 := cell_at hfin 6 rfl
      have r7 := cell_at hfin 7 rfl
      have r8 := cell_at hfin 8 rfl
      refine bodyPost_ret (v := .agg #[.int .i64 (x0.n : Nat), .int .i64 (x1.n : Nat), .int .i64 (x2.n : Nat), .int .i64 (x3.n : Nat), .int .i64 (x4.n : Nat), .int .u8 (x5.n : Nat), .int .u8 (x6.n : Nat), .int .u8 (x7.n : Nat), .int .u8 (x8.n : Nat)]) (by simp [results, Try.results55, go_sem, r0, r1, r2, r3, r4, r5, r6, r7, r8]) rfl ?_
      exact ⟨rfl, HF.out⟩
end Go.Proofs.Ytgceleipaiameaa
