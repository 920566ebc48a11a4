import Derived.Test.YtfgpfmhjnccccaaGreatDoorSa17
import Derived.Test.YtfgpfmhjnccccaaGreatDoorSa13
namespace Go.Proofs.YtfgpfmhjnccccaaGreatDoor
open Go.RowKit RepP Go.Maps
set_option maxRecDepth 100000
def u16V (l:List Nat):List Value:=l.map fun v=>.int .u16 (v:Nat)
def refCells (vs:List Nat) (hs:List Bool) (n:Nat):Array Value:=⟨u16V vs ++ (bitV hs ++ [.int .i64 (n:Nat)])⟩
structure RefC (W:World) (b:Nat) (vs:List Nat) (hs:List Bool) (n:Nat):Prop where
 at_:W.heap[b]? = some (.cells (refCells vs hs n) 46 (0,0))
 vlen:vs.length=8
 hlen:hs.length=8
section
variable {W W':World} {b n:Nat} {vs:List Nat} {hs:List Bool}
theorem RefC.lt (h:RefC W b vs hs n):b < W.heap.size:=(Array.getElem?_eq_some_iff.1 h.at_).1
theorem RefC.apart {F:Nat→Prop} (h:RefC W b vs hs n) (ha:Apart F W W') (hF:¬ F b):RefC W' b vs hs n:=⟨(ha.block b h.lt hF).trans h.at_,h.vlen,h.hlen⟩
theorem RefC.below (h:RefC W b vs hs n) (hb:Below W.heap.size W W'):RefC W' b vs hs n:=h.apart (F:=fun _=>False) (Apart.of_below' hb) (fun h=>h)
theorem RefC.val (h:RefC W b vs hs n) {k v:Nat} (hk:vs[k]? = some v):W.cell? ⟨b,k,none⟩=some (.int .u16 (v:Nat)):=by
 refine za0 h.at_ k ?_
 have h2:k < vs.length:=(List.getElem?_eq_some_iff.1 hk).1
 simp only [refCells,List.getElem?_toArray]
 rw [List.getElem?_append_left (by simpa [u16V] using h2)]
 simp [u16V,hk]
theorem RefC.has (h:RefC W b vs hs n) {k:Nat} {p:Bool} (hk:hs[k]? = some p):W.cell? ⟨b,8 + k,none⟩=some (.bool p):=by
 refine za0 h.at_ _ ?_
 have h2:k < hs.length:=(List.getElem?_eq_some_iff.1 hk).1
 simp only [refCells,List.getElem?_toArray]
 rw [List.getElem?_append_right (by simp [u16V,h.vlen]),List.getElem?_append_left (by simp [u16V,bitV,h.vlen,h2])]
 simp [u16V,bitV,h.vlen,hk]
end
def valsT (t:T):List Nat:=t.map (·.getD 0)
def hasT14 (t:T):List Bool:=t.map (·.isSome)
theorem valsT_at {t:T} {k:Nat} (h:k < t.length):(valsT t)[k]? = some ((tat t k).getD 0):=by simp [valsT,zL3 h]
theorem hasT_at {t:T} {k:Nat} (h:k < t.length):(hasT14 t)[k]? = some (tat t k).isSome:=by simp [hasT14,zL3 h]
def RefT (W:World) (b:Nat) (t:T) (n:Nat):Prop:=t.length=8∧RefC W b (valsT t) (hasT14 t) n
theorem RefT.below {W W':World} {b n:Nat} {t:T} (h:RefT W b t n) (hb:Below W.heap.size W W'):RefT W' b t n:=⟨h.1,h.2.below hb⟩
theorem RefT.apart {W W':World} {b n:Nat} {t:T} {F:Nat→Prop} (h:RefT W b t n) (ha:Apart F W W') (hF:¬ F b):RefT W' b t n:=⟨h.1,h.2.apart ha hF⟩
theorem RefT.new (w:World):RefT (w.alloc (.cells #[.int .u16 0,.int .u16 0,.int .u16 0,.int .u16 0,.int .u16 0,.int .u16 0,.int .u16 0,.int .u16 0,.bool false,.bool false,.bool false,.bool false,.bool false,.bool false,.bool false,.bool false,.int .i64 0] 46)) w.heap.size new 0:=
 ⟨zL2,heap_alloc_new w _,rfl,rfl⟩
end Go.Proofs.YtfgpfmhjnccccaaGreatDoor
