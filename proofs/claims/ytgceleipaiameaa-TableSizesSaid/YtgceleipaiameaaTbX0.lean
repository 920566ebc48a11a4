/- Two partitions that read alike are the same. No conditions. -/
import Derived.Test.YtgceleipaiameaaTbE
namespace Go.Proofs.Ytgceleipaiameaa
open Go.RowKit
set_option maxRecDepth 100000

theorem eq_arr (d : Nat) (r0 r1 r2 r3 : Int) (w : World) : (Op.equalIn (d + 2) 58 (.agg #[.int .u8 r0, .int .u8 r1, .int .u8 r2, .int .u8 r3]) (.agg #[.int .u8 r0, .int .u8 r1, .int .u8 r2, .int .u8 r3])).run Try.prog w = .ok true w := by
  have hs : (sizeOf 57).run Try.prog w = .ok 1 w := by kernel_rfl
  unfold Op.equalIn
  have p0 : (part 57 #[.int .u8 r0, .int .u8 r1, .int .u8 r2, .int .u8 r3] 0).run Try.prog w = .ok (.int .u8 r0) w := by kernel_rfl
  have p1 : (part 57 #[.int .u8 r0, .int .u8 r1, .int .u8 r2, .int .u8 r3] 1).run Try.prog w = .ok (.int .u8 r1) w := by kernel_rfl
  have p2 : (part 57 #[.int .u8 r0, .int .u8 r1, .int .u8 r2, .int .u8 r3] 2).run Try.prog w = .ok (.int .u8 r2) w := by kernel_rfl
  have p3 : (part 57 #[.int .u8 r0, .int .u8 r1, .int .u8 r2, .int .u8 r3] 3).run Try.prog w = .ok (.int .u8 r3) w := by kernel_rfl
  have hr : List.range' 0 4 = [0, 1, 2, 3] := rfl
  have he : ∀ (r : Int), (Op.equalIn (d + 1) 57 (.int .u8 r) (.int .u8 r)).run Try.prog w = .ok true w := fun r => by
    rw [run_equalIn_int (k' := .u8) w d 57 .u8 r r Try.underlying57]
    simp
  simp [run_underlying Try.underlying58, hs, hr, he, p0, p1, p2, p3]
theorem neq_part (p : TableP.Part) (w : World) : (binOp .neq 60 (.agg (partVals p).toArray) (.agg (partVals p).toArray)).run Try.prog w = .ok (.bool false) w := by
  have h := fun w => eq_arr 9997 (p.r0 : Nat) (p.r1 : Nat) (p.r2 : Nat) (p.r3 : Nat) w
  simp only [partVals]
  simp [go_sem, h]
end Go.Proofs.Ytgceleipaiameaa
