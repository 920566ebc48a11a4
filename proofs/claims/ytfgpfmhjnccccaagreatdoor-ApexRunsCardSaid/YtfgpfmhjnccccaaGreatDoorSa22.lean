import Derived.Test.YtfgpfmhjnccccaaGreatDoorSa20
import Derived.Test.YtfgpfmhjnccccaaGreatDoorSa01
import Derived.Test.YtfgpfmhjnccccaaGreatDoorSa07
import Derived.Test.YtfgpfmhjnccccaaGreatDoorSa12
import Derived.Test.YtfgpfmhjnccccaaGreatDoorSa13
namespace Go.Proofs.YtfgpfmhjnccccaaGreatDoor
open Go.RowKit PorP
set_option maxRecDepth 100000
def wParts:List TableP.Part:=[⟨0,0,10,9,2,0,0,0,0⟩,⟨1,0,10,9,2,0,0,0,0⟩]
def wPorts (z0 z1 d0 d1 fr:Int):List TableP.Port:=[⟨0,2,true,z0,d0,0⟩,⟨1,2,false,z1,d1,0⟩,⟨0,1,true,4,0,0⟩,⟨1,1,false,4,0,fr⟩]
def wRoutes:List TableP.Route:=[⟨0,1⟩,⟨2,3⟩]
def wC (N:Nat) (z0 z1 d0 d1 fr:Int):CfgC:=⟨2,0,1000,500,0,0,0,98,some ⟨N,0,none⟩,2,2,wParts,some ⟨N + 1,0,none⟩,4,4,wPorts z0 z1 d0 d1 fr,some ⟨N + 2,0,none⟩,2,2,wRoutes⟩
structure WirIn (W:World) (N:Nat) (z0 z1 d0 d1 fr:Int):Prop where
 parts:W.heap[N]? = some (.cells (itemsV partVals wParts).toArray 66 (0,0))
 ports:W.heap[N + 1]? = some (.cells (itemsV portVals (wPorts z0 z1 d0 d1 fr)).toArray 127 (0,0))
 routes:W.heap[N + 2]? = some (.cells (itemsV routeVals wRoutes).toArray 142 (0,0))
theorem zl6 {α:Type} {vals:α→List Value} {size:Nat} (hs:∀ x,(vals x).length=size) {W:World} {g:Nat} {t:TypeId} {l:List α} (h:W.heap[g]? = some (.cells (itemsV vals l).toArray t (0,0))):ItemsIn vals size W (some ⟨g,0,none⟩) l:=fun _=>by
 refine ⟨g,0,rfl,lt_of_block h,fun i x hx j u hu=>?_⟩
 have hj:j < size:=by rw [← hs x];exact (List.getElem?_eq_some_iff.1 hu).1
 rw [Nat.zero_add]
 refine za0 h _ ?_
 rw [List.getElem?_toArray,ze0 hs l i x hx j hj]
 exact hu
def WirP (w:World) (e:Ending) (w':World):Prop:=e = .returned (wC (w.heap.size + 2) 1 1 2 1 1).value∧WirIn w' (w.heap.size + 2) 1 1 2 1 1∧Below w.heap.size w w'
theorem zJ8 (w:World) (a b p q r:Obj):(((((w.alloc a).alloc b).alloc p).alloc q).alloc r).heap[w.heap.size + 2]? = some p∧(((((w.alloc a).alloc b).alloc p).alloc q).alloc r).heap[w.heap.size + 2 + 1]? = some q∧(((((w.alloc a).alloc b).alloc p).alloc q).alloc r).heap[w.heap.size + 2 + 2]? = some r∧(((((w.alloc a).alloc b).alloc p).alloc q).alloc r).heap[w.heap.size]? = some a:=by
 have h1:(((w.alloc a).alloc b).alloc p).heap.size=w.heap.size + 2 + 1:=by simp
 have h2:((w.alloc a).alloc b).heap.size=w.heap.size + 2:=by simp
 refine ⟨?_,?_,?_,?_⟩
 ·rw [heap_alloc_old _ _ (by simp),heap_alloc_old _ _ (by simp),← h2];exact heap_alloc_new _ _
 ·rw [heap_alloc_old _ _ (by simp),← h1];exact heap_alloc_new _ _
 ·have h3:((((w.alloc a).alloc b).alloc p).alloc q).heap.size=w.heap.size + 2 + 2:=by simp
  rw [← h3];exact heap_alloc_new _ _
 ·rw [heap_alloc_old _ _ (by simp;omega),heap_alloc_old _ _ (by simp;omega),heap_alloc_old _ _ (by simp;omega),heap_alloc_old _ _ (by simp)];exact heap_alloc_new _ _
theorem zJ9 (w:World) (a b p q r:Obj):Below w.heap.size w (((((w.alloc a).alloc b).alloc p).alloc q).alloc r):=((((((Below.refl _ w).alloc (Nat.le_refl _) a).alloc (by simp) b).alloc (by simp;omega) p).alloc (by simp;omega) q).alloc (by simp;omega) r)
set_option maxHeartbeats 4000000 in
theorem wired_any (w:World):Calls Tryz.prog 24 #[] w (WirP w):=by
 go_enter Tryz.func24,Tryz.ntmps24
 go_wp2_with fail
 refine bodyPost_ret (v:=(wC (w.heap.size + 2) 1 1 2 1 1).value) (by simp [results,Tryz.results24,go_sem];rfl) rfl ?_
 have h:=zJ8 w (.cells (cfgCells (wC (w.heap.size + 2) 1 1 2 1 1)) 26) (.cells (cfgCells (wC (w.heap.size + 2) 1 1 2 1 1)) 26) (.cells (itemsV partVals wParts).toArray 66) (.cells (itemsV portVals (wPorts 1 1 2 1 1)).toArray 127) (.cells (itemsV routeVals wRoutes).toArray 142)
 exact ⟨rfl,⟨h.1,h.2.1,h.2.2.1⟩,zJ9 _ _ _ _ _ _⟩
end Go.Proofs.YtfgpfmhjnccccaaGreatDoor
