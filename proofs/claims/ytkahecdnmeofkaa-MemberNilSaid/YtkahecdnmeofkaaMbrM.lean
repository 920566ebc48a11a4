/- MemberNil: true. Conditions: none. -/
import Derived.Test.YtkahecdnmeofkaaMbrL
namespace Go.Proofs.Ytkahecdnmeofkaa
open Go.RowKit
set_option maxRecDepth 100000

set_option maxHeartbeats 1000000 in
theorem mnil_law (line : Int) (x : FrameC) (w : World) : Calls Try.prog 6 #[.int .i64 line, x.value] w (MTrue12 w) := by
  have HB := Lib.hid (fun o => (Below.refl w.heap.size w).alloc (Nat.le_refl _) o)
  have HA := Lib.hid (fun W => awake12_any W)
  have C0 := Lib.hid (fun W => right_nil W)
  have C1 := Lib.hid (fun W => hear_nil line x W)
  have C2 := Lib.hid (fun W => members_nil W)
  have C3 := Lib.hid (fun W => frames_nil W)
  unfold MTrue12 at *
  unfold RightP rightV stampV at C0
  unfold NoP at C1
  unfold MemP setV at C2
  obtain ⟨sender, round, members, MA, mn, mcap, msgs, kind, key, val, old, RA, rn, rcap, recs⟩ := x
  simp only [FrameC.value] at C1 ⊢
  go_enter Try.func6, Try.ntmps6
  go_wp2_with fail
  refine (HA.out _).mono ?_
  rintro e w1 ⟨rfl, hb1⟩
  have hn1 := (hb1.block w.heap.size (by simp)).trans (heap_alloc_new w (.cells #[.int .u8 (sender : Nat), .int .u32 (round : Nat), .int .u8 (members : Nat), .slice MA mn mcap, .int .u8 (kind : Nat), .int .u8 (key : Nat), .int .u16 (val : Nat), .int .u16 (old : Nat), .slice RA rn rcap] 51))
  have Hb1 := Lib.hid ((HB.out (.cells #[.int .u8 (sender : Nat), .int .u32 (round : Nat), .int .u8 (members : Nat), .slice MA mn mcap, .int .u8 (kind : Nat), .int .u8 (key : Nat), .int .u16 (val : Nat), .int .u16 (old : Nat), .slice RA rn rcap] 51)).trans (hb1.mono (by simp)))
  have Hn1 := Lib.hid hn1
  have hs1 : w.heap.size < w1.heap.size := lt_of_block hn1
  clear hb1 hn1 HA HB
  go_wp2_with fail
  refine (C0.out _).mono ?_
  rintro e w2 ⟨rfl, hb2⟩
  have HBA := Lib.hid (fun o => hb2.alloc hb2.size o)
  have hs2 := hb2.size
  clear hb2
  go_upto_region 5 with (fail)
  have hn3 := ((HBA.out (.cells #[.int .u32 0, .int .u8 0] 36)).block w.heap.size hs1).trans Hn1.out
  have hb3 := Hb1.out.trans ((HBA.out (.cells #[.int .u32 0, .int .u8 0] 36)).mono Hb1.out.size)
  have r0 := cell_at hn3 0 rfl
  have r1 := cell_at hn3 1 rfl
  have r2 := cell_at hn3 2 rfl
  have r3 := cell_at hn3 3 rfl
  have r4 := cell_at hn3 4 rfl
  have r5 := cell_at hn3 5 rfl
  have r6 := cell_at hn3 6 rfl
  have r7 := cell_at hn3 7 rfl
  have r8 := cell_at hn3 8 rfl
  have hst := heap_alloc_new w2 (.cells #[.int .u32 0, .int .u8 0] 36)
  have Hst := Lib.hid hst
  have Hb3 := Lib.hid hb3
  clear hst hb3 hn3 HBA Hn1 Hb1 C0
  generalize w2.alloc (.cells #[.int .u32 0, .int .u8 0] 36) = w3 at *
  generalize w2.heap.size = q at *
  go_wp2_with fail
  refine (C1.out _).mono ?_
  rintro e w4 ⟨rfl, hb4⟩
  have hst4 := (hb4.block _ (lt_of_block Hst.out)).trans Hst.out
  have s0 := cell_at hst4 0 rfl
  have s1 := cell_at hst4 1 rfl
  have Hb4 := Lib.hid (Hb3.out.trans (hb4.mono Hb3.out.size))
  clear hst4 hb4 r0 r1 r2 r3 r4 r5 r6 r7 r8 Hst Hb3
  go_wp2_with fail
  refine (C2.out _).mono ?_
  rintro e w5 ⟨rfl, hb5⟩
  have Hb5 := Lib.hid (Hb4.out.trans (hb5.mono Hb4.out.size))
  clear hb5 s0 s1
  go_wp2_with fail
  refine (C3.out _).mono ?_
  rintro e w6 ⟨rfl, hb6⟩
  have Hb6 := Lib.hid (Hb5.out.trans (hb6.mono Hb5.out.size))
  clear hb6
  go_wp2_with fail
  go_ret
  exact ⟨rfl, Hb6.out⟩
end Go.Proofs.Ytkahecdnmeofkaa
