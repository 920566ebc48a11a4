import Derived.LaidLaws
import Derived.OpenShut
import Derived.LaidHandle
import Derived.Stop.Joined
import Derived.Test.YtfgpfmhjnccccaaGreatDoorSa13
namespace Go.Proofs.YtfgpfmhjnccccaaGreatDoor
open Go.ChangeShapes Go.WideShapes Go.RowKit Go.Deep
def laidOf:List (String × DataW Unit):=[("errors.errorType",Rows.laid_errors_errorType)]
noncomputable def laidWorld (os:Os):World:=
 let w0:=World.holding Tryz.prog os ⟨#[],#[],[]⟩
 { w0 with heap:=w0.heap.modify 0 fun
  | .cells _ t frozen=>.cells #[.iface 243 (.agg #[.pointer (some ⟨1,58,none⟩)])] t frozen
  | o=>o }
theorem zu9 (os:Os) (args:Array Value):laidMetH Tryz.prog laidOf ((laidWorld os).forCall (fun _ _=>0) ⟨#[],args,[]⟩).memory:=
 laidMetH_of_parts (laidMet_nil _ _) (by kernel_rfl)
end Go.Proofs.YtfgpfmhjnccccaaGreatDoor
