import Derived.Test.YtfgpfmhjnccccaaGreatDoorSa15
import Derived.Test.YtfgpfmhjnccccaaGreatDoorSa04
namespace Go.Proofs.YtfgpfmhjnccccaaGreatDoor
open Go.ChangeShapes Go.WideShapes Go.RowKit Go.Deep
set_option maxRecDepth 100000
theorem etGlobal:Tryz.prog.globalNamed "errors.errorType" = some 0:=by kernel_rfl
theorem etType:(Tryz.prog.cutTypes.find? (·.1 == "internal/reflectlite.rtype")).map (·.2)=some 243:=by kernel_rfl
theorem etSize:Tryz.prog.types.size=285:=by kernel_rfl
theorem etRow:((List.range 285).filter fun t=>Tryz.prog.rowNamed t [101,114,114,111,114])=[58]:=by kernel_rfl
theorem zq1 {W:World} (h:laidMetH Tryz.prog laidOf W):HasType W:=by
 have h':laidMet Tryz.prog [] W∧handlesMet Tryz.prog laidOf W:=h
 obtain ⟨name,u,ty,e1,e2,e3,e4,e5⟩:=h'.2 _ (List.mem_singleton.2 rfl)
 have en:name=[101,114,114,111,114]:=(Option.some.inj e1).symm
 subst en
 obtain rfl:=Option.some.inj (etType.symm.trans e2)
 have hm:ty∈(List.range 285).filter fun t=>Tryz.prog.rowNamed t [101,114,114,111,114]:=List.mem_filter.2 ⟨List.mem_range.2 (by rw [← etSize];exact e3),e4⟩
 rw [etRow] at hm
 obtain rfl:=List.mem_singleton.1 hm
 have hh:typeHandle Tryz.prog 58 = .pointer (some ⟨1,58,none⟩):=by kernel_rfl
 rw [hh] at e5
 simpa [HasType] using World.var?_cell etGlobal e5 0
end Go.Proofs.YtfgpfmhjnccccaaGreatDoor
