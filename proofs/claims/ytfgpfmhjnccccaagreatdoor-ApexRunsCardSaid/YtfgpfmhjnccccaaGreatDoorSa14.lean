import Derived.Laws.IdiomArrays
import Derived.Test.YtfgpfmhjnccccaaGreatDoorSa13
import Derived.Test.YtfgpfmhjnccccaaGreatDoorSa07
namespace Go.Proofs.YtfgpfmhjnccccaaGreatDoor
open Go.ChangeShapes Go.WideShapes Go.RowKit Go.Deep
set_option maxRecDepth 100000
theorem zI4:Tryz.prog.cellsOf 66=9:=by kernel_rfl
theorem zI5:Tryz.prog.cellsOf 127=6:=by kernel_rfl
theorem zB9:Tryz.prog.cellsOf 142=2:=by kernel_rfl
theorem cells_cfg:Tryz.prog.cellsOf 26=11:=by kernel_rfl
theorem zc9:Tryz.prog.cellsOf 3=1:=by kernel_rfl
theorem cells_bl:Tryz.prog.cellsOf 4=1:=by kernel_rfl
theorem cells_ac:Tryz.prog.cellsOf 63=1:=by kernel_rfl
theorem cells_pk:Tryz.prog.cellsOf 125=1:=by kernel_rfl
theorem cells_ar:Tryz.prog.cellsOf 64=4:=by kernel_rfl
theorem cells_ps:Tryz.prog.cellsOf 22=1:=by kernel_rfl
theorem cells_qs:Tryz.prog.cellsOf 23=1:=by kernel_rfl
theorem cells_rs:Tryz.prog.cellsOf 24=1:=by kernel_rfl
theorem zI6:Tryz.prog.bytesOf 66=48:=by kernel_rfl
theorem zI7:Tryz.prog.bytesOf 127=40:=by kernel_rfl
theorem zC0:Tryz.prog.bytesOf 142=16:=by kernel_rfl
section
variable {H:Type} {enc:TypeId × Value→H} {w:World}
theorem zq0 {t:TypeId} (hu:Tryz.prog.underlying t=some (.int .u8)) {m:Nat} {c:Value} {y:DataW H × List MemPlace} (g:DataW.trod enc Tryz.prog w 0 (fun _=>true) true m t [c]=some y):∃ k:Nat,c = .int .u8 (k:Nat)∧k < 256:=by
 obtain ⟨k,e,_,hw⟩:=DataW.trod_int hu g
 have b:=bounds_u8 hw
 obtain ⟨q,rfl⟩:=Int.eq_ofNat_of_zero_le b.1
 simp at e
 exact ⟨q,e,by omega⟩
theorem zc2 {m:Nat} {c:Value} {y:DataW H × List MemPlace} (g:DataW.trod enc Tryz.prog w 0 (fun _=>true) true m 3 [c]=some y):∃ k:Int,c = .int .i64 k:=by
 obtain ⟨k,e,_,_⟩:=DataW.trod_int Tryz.underlying3 g
 simp at e
 exact ⟨k,e⟩
theorem part_at {n:Nat} {a:Addr} {cs:List Value} {x:DataW H × List MemPlace}
 (hc:w.cells? 0 a 9=some cs) (ht:DataW.trod enc Tryz.prog w 0 (fun _=>true) true n 66 cs=some x) :
 ∃ y:TableP.Part,∀ j u,(partVals y)[j]? = some u→w.cell? (a.add j)=some u:=by
 obtain ⟨_,hlen,hcell⟩:=World.cells?_some hc
 obtain ⟨xs,m,_,hx,_,hxl,hf⟩:=DataW.trod_struct Tryz.underlying66 ht
 match cs,hlen with
 | [c0,c1,c2,c3,c4,c5,c6,c7,c8],_=>
  match xs,hxl with
  | [y0,y1,y2,y3,y4,y5],_=>
   have g0:=hf 0 _ rfl
   have g1:=hf 1 _ rfl
   have g2:=hf 2 _ rfl
   have g3:=hf 3 _ rfl
   have g4:=hf 4 _ rfl
   have g5:=hf 5 _ rfl
   change DataW.trod enc Tryz.prog w 0 (fun _=>true) true m 3 (([c0,c1,c2,c3,c4,c5,c6,c7,c8].drop 0).take (Tryz.prog.cellsOf 3))=_ at g0
   change DataW.trod enc Tryz.prog w 0 (fun _=>true) true m 3 (([c0,c1,c2,c3,c4,c5,c6,c7,c8].drop 1).take (Tryz.prog.cellsOf 3))=_ at g1
   change DataW.trod enc Tryz.prog w 0 (fun _=>true) true m 3 (([c0,c1,c2,c3,c4,c5,c6,c7,c8].drop 2).take (Tryz.prog.cellsOf 3))=_ at g2
   change DataW.trod enc Tryz.prog w 0 (fun _=>true) true m 3 (([c0,c1,c2,c3,c4,c5,c6,c7,c8].drop 3).take (Tryz.prog.cellsOf 3))=_ at g3
   change DataW.trod enc Tryz.prog w 0 (fun _=>true) true m 3 (([c0,c1,c2,c3,c4,c5,c6,c7,c8].drop 4).take (Tryz.prog.cellsOf 3))=_ at g4
   change DataW.trod enc Tryz.prog w 0 (fun _=>true) true m 64 (([c0,c1,c2,c3,c4,c5,c6,c7,c8].drop 5).take (Tryz.prog.cellsOf 64))=_ at g5
   rw [zc9] at g0 g1 g2 g3 g4
   rw [cells_ar] at g5
   obtain ⟨k0,e0⟩:=zc2 g0
   obtain ⟨k1,e1⟩:=zc2 g1
   obtain ⟨k2,e2⟩:=zc2 g2
   obtain ⟨k3,e3⟩:=zc2 g3
   obtain ⟨k4,e4⟩:=zc2 g4
   have g5':DataW.trod enc Tryz.prog w 0 (fun _=>true) true m 64 [c5,c6,c7,c8]=some y5:=g5
   obtain ⟨q5,z5,z6,z7,z8,_,a5,a6,a7,a8⟩:=trod_array4 Tryz.underlying64 cells_ac g5'
   obtain ⟨k5,e5,_⟩:=zq0 Tryz.underlying63 a5
   obtain ⟨k6,e6,_⟩:=zq0 Tryz.underlying63 a6
   obtain ⟨k7,e7,_⟩:=zq0 Tryz.underlying63 a7
   obtain ⟨k8,e8,_⟩:=zq0 Tryz.underlying63 a8
   refine ⟨⟨k0,k1,k2,k3,k4,k5,k6,k7,k8⟩,fun j u hj=>?_⟩
   have hj9:j < 9:=(List.getElem?_eq_some_iff.1 hj).1
   rw [hcell j hj9,← hj]
   subst e0 e1 e2 e3 e4 e5 e6 e7 e8
   rfl
theorem port_at {n:Nat} {a:Addr} {cs:List Value} {x:DataW H × List MemPlace}
 (hc:w.cells? 0 a 6=some cs) (ht:DataW.trod enc Tryz.prog w 0 (fun _=>true) true n 127 cs=some x) :
 ∃ y:TableP.Port,∀ j u,(portVals y)[j]? = some u→w.cell? (a.add j)=some u:=by
 obtain ⟨_,hlen,hcell⟩:=World.cells?_some hc
 obtain ⟨xs,m,_,hx,_,hxl,hf⟩:=DataW.trod_struct Tryz.underlying127 ht
 match cs,hlen with
 | [c0,c1,c2,c3,c4,c5],_=>
  match xs,hxl with
  | [y0,y1,y2,y3,y4,y5],_=>
   have g0:=hf 0 _ rfl
   have g1:=hf 1 _ rfl
   have g2:=hf 2 _ rfl
   have g3:=hf 3 _ rfl
   have g4:=hf 4 _ rfl
   have g5:=hf 5 _ rfl
   change DataW.trod enc Tryz.prog w 0 (fun _=>true) true m 3 (([c0,c1,c2,c3,c4,c5].drop 0).take (Tryz.prog.cellsOf 3))=_ at g0
   change DataW.trod enc Tryz.prog w 0 (fun _=>true) true m 125 (([c0,c1,c2,c3,c4,c5].drop 1).take (Tryz.prog.cellsOf 125))=_ at g1
   change DataW.trod enc Tryz.prog w 0 (fun _=>true) true m 4 (([c0,c1,c2,c3,c4,c5].drop 2).take (Tryz.prog.cellsOf 4))=_ at g2
   change DataW.trod enc Tryz.prog w 0 (fun _=>true) true m 3 (([c0,c1,c2,c3,c4,c5].drop 3).take (Tryz.prog.cellsOf 3))=_ at g3
   change DataW.trod enc Tryz.prog w 0 (fun _=>true) true m 3 (([c0,c1,c2,c3,c4,c5].drop 4).take (Tryz.prog.cellsOf 3))=_ at g4
   change DataW.trod enc Tryz.prog w 0 (fun _=>true) true m 3 (([c0,c1,c2,c3,c4,c5].drop 5).take (Tryz.prog.cellsOf 3))=_ at g5
   rw [zc9] at g0 g3 g4 g5
   rw [cells_pk] at g1
   rw [cells_bl] at g2
   obtain ⟨k0,e0⟩:=zc2 g0
   obtain ⟨k1,e1,_⟩:=zq0 Tryz.underlying125 g1
   obtain ⟨k2,e2,_⟩:=DataW.trod_bool Tryz.underlying4 g2
   obtain ⟨k3,e3⟩:=zc2 g3
   obtain ⟨k4,e4⟩:=zc2 g4
   obtain ⟨k5,e5⟩:=zc2 g5
   simp at e2
   refine ⟨⟨k0,k1,k2,k3,k4,k5⟩,fun j u hj=>?_⟩
   have hj6:j < 6:=(List.getElem?_eq_some_iff.1 hj).1
   rw [hcell j hj6,← hj]
   subst e0 e1 e2 e3 e4 e5
   rfl
theorem route_at {n:Nat} {a:Addr} {cs:List Value} {x:DataW H × List MemPlace}
 (hc:w.cells? 0 a 2=some cs) (ht:DataW.trod enc Tryz.prog w 0 (fun _=>true) true n 142 cs=some x) :
 ∃ y:TableP.Route,∀ j u,(routeVals y)[j]? = some u→w.cell? (a.add j)=some u:=by
 obtain ⟨_,hlen,hcell⟩:=World.cells?_some hc
 obtain ⟨xs,m,_,hx,_,hxl,hf⟩:=DataW.trod_struct Tryz.underlying142 ht
 match cs,hlen with
 | [c0,c1],_=>
  match xs,hxl with
  | [y0,y1],_=>
   have g0:=hf 0 _ rfl
   have g1:=hf 1 _ rfl
   change DataW.trod enc Tryz.prog w 0 (fun _=>true) true m 3 (([c0,c1].drop 0).take (Tryz.prog.cellsOf 3))=_ at g0
   change DataW.trod enc Tryz.prog w 0 (fun _=>true) true m 3 (([c0,c1].drop 1).take (Tryz.prog.cellsOf 3))=_ at g1
   rw [zc9] at g0 g1
   obtain ⟨k0,e0⟩:=zc2 g0
   obtain ⟨k1,e1⟩:=zc2 g1
   refine ⟨⟨k0,k1⟩,fun j u hj=>?_⟩
   have hj2:j < 2:=(List.getElem?_eq_some_iff.1 hj).1
   rw [hcell j hj2,← hj]
   subst e0 e1
   rfl
theorem zC1 {α:Type} (z:α) (n:Nat) (P:Nat→α→Prop) (h:∀ i,i < n→∃ y,P i y):∃ l:List α,l.length=n∧∀ i x,l[i]? = some x→P i x:=by
 have h2:∀ i,∃ y,i < n→P i y:=fun i=>by
  by_cases hi:i < n
  ·obtain ⟨y,hy⟩:=h i hi
   exact ⟨y,fun _=>hy⟩
  ·exact ⟨z,fun h'=>absurd h' hi⟩
 obtain ⟨f,hf⟩:=Classical.axiomOfChoice h2
 refine ⟨(List.range n).map f,by simp,fun i x hx=>?_⟩
 rw [List.getElem?_map] at hx
 by_cases hi:i < n
 ·rw [List.getElem?_range hi] at hx
  simp at hx
  subst hx
  exact hf i hi
 ·rw [List.getElem?_eq_none (by simpa using hi)] at hx
  cases hx
theorem zI8 {fuel:Nat} {c:Value} {x:DataW H × List MemPlace} (h:DataW.trod enc Tryz.prog w 0 (fun _=>true) true fuel 22 [c]=some x) (hw:∀ k∈x.1.weights Tryz.prog 22,k≤reachBytes) :
 ∃ A l n cap,c = .slice A n cap∧l.length=n∧n≤cap∧n≤140737488355328∧ItemsIn partVals 9 w A l:=by
 rcases open_slice Tryz.underlying22 h with ⟨hcs,hx⟩ | ⟨a,len,cap,m,n,D,Pl,hcs,hb,hl,hm,hmm,hx,hi⟩
 ·injection hcs with hcs
  exact ⟨none,[],0,0,hcs,rfl,Nat.le_refl _,by omega,fun h=>absurd h (by simp)⟩
 ·injection hcs with hcs
  simp only [if_true] at hmm
  obtain rfl:cap=m:=hmm.symm
  rw [zI4] at hi
  have hd:∃ r,x.1 = .slice ((List.range len).map D) r:=⟨_,by rw [hx]⟩
  obtain ⟨r,hd⟩:=hd
  have hlen:len≤140737488355328:=by
   have:=hw (((List.range len).map D).length * 48 + r.length * 48) (by
    rw [hd]
    simp only [DataW.weights,Tryz.underlying22,List.mem_cons]
    refine .inl ?_
    rw [zI6]
    first | rfl | (simp;done) | (simp;omega))
   simp [reachBytes] at this
   omega
  have hat:∀ i,i < len→∃ y:TableP.Part,∀ j u,(partVals y)[j]? = some u→w.cell? ((a.add (i * 9)).add j)=some u:=fun i hil=>by
   obtain ⟨cs',h1,h2⟩:=hi i (by omega)
   exact part_at h1 h2
  obtain ⟨l,hll,hl2⟩:=zC1 (⟨0,0,0,0,0,0,0,0,0⟩:TableP.Part) len _ hat
  refine ⟨some a,l,len,cap,hcs,hll,hl,hlen,fun hn=>?_⟩
  obtain ⟨b,off,spot⟩:=a
  have hpos:0 < len:=by omega
  obtain ⟨y0,hy0⟩:=hat 0 hpos
  have c0:=hy0 0 _ rfl
  have hspot:spot=none:=by simpa [Addr.add] using World.cell?_spot c0
  subst hspot
  refine ⟨b,off,rfl,by simpa [Addr.add] using World.block_lt_of_cell? w _ c0,fun i y hy j u hu=>?_⟩
  have h1:=hl2 i y hy j u hu
  simp only [zc4] at h1
  exact h1
theorem zI9 {fuel:Nat} {c:Value} {x:DataW H × List MemPlace} (h:DataW.trod enc Tryz.prog w 0 (fun _=>true) true fuel 23 [c]=some x) (hw:∀ k∈x.1.weights Tryz.prog 23,k≤reachBytes) :
 ∃ A l n cap,c = .slice A n cap∧l.length=n∧n≤cap∧n≤140737488355328∧ItemsIn portVals 6 w A l:=by
 rcases open_slice Tryz.underlying23 h with ⟨hcs,hx⟩ | ⟨a,len,cap,m,n,D,Pl,hcs,hb,hl,hm,hmm,hx,hi⟩
 ·injection hcs with hcs
  exact ⟨none,[],0,0,hcs,rfl,Nat.le_refl _,by omega,fun h=>absurd h (by simp)⟩
 ·injection hcs with hcs
  simp only [if_true] at hmm
  obtain rfl:cap=m:=hmm.symm
  rw [zI5] at hi
  have hd:∃ r,x.1 = .slice ((List.range len).map D) r:=⟨_,by rw [hx]⟩
  obtain ⟨r,hd⟩:=hd
  have hlen:len≤140737488355328:=by
   have:=hw (((List.range len).map D).length * 40 + r.length * 40) (by
    rw [hd]
    simp only [DataW.weights,Tryz.underlying23,List.mem_cons]
    refine .inl ?_
    rw [zI7]
    first | rfl | (simp;done) | (simp;omega))
   simp [reachBytes] at this
   omega
  have hat:∀ i,i < len→∃ y:TableP.Port,∀ j u,(portVals y)[j]? = some u→w.cell? ((a.add (i * 6)).add j)=some u:=fun i hil=>by
   obtain ⟨cs',h1,h2⟩:=hi i (by omega)
   exact port_at h1 h2
  obtain ⟨l,hll,hl2⟩:=zC1 (⟨0,0,false,0,0,0⟩:TableP.Port) len _ hat
  refine ⟨some a,l,len,cap,hcs,hll,hl,hlen,fun hn=>?_⟩
  obtain ⟨b,off,spot⟩:=a
  have hpos:0 < len:=by omega
  obtain ⟨y0,hy0⟩:=hat 0 hpos
  have c0:=hy0 0 _ rfl
  have hspot:spot=none:=by simpa [Addr.add] using World.cell?_spot c0
  subst hspot
  refine ⟨b,off,rfl,by simpa [Addr.add] using World.block_lt_of_cell? w _ c0,fun i y hy j u hu=>?_⟩
  have h1:=hl2 i y hy j u hu
  simp only [zc4] at h1
  exact h1
theorem zC2 {fuel:Nat} {c:Value} {x:DataW H × List MemPlace} (h:DataW.trod enc Tryz.prog w 0 (fun _=>true) true fuel 24 [c]=some x) (hw:∀ k∈x.1.weights Tryz.prog 24,k≤reachBytes) :
 ∃ A l n cap,c = .slice A n cap∧l.length=n∧n≤cap∧n≤140737488355328∧ItemsIn routeVals 2 w A l:=by
 rcases open_slice Tryz.underlying24 h with ⟨hcs,hx⟩ | ⟨a,len,cap,m,n,D,Pl,hcs,hb,hl,hm,hmm,hx,hi⟩
 ·injection hcs with hcs
  exact ⟨none,[],0,0,hcs,rfl,Nat.le_refl _,by omega,fun h=>absurd h (by simp)⟩
 ·injection hcs with hcs
  simp only [if_true] at hmm
  obtain rfl:cap=m:=hmm.symm
  rw [zB9] at hi
  have hd:∃ r,x.1 = .slice ((List.range len).map D) r:=⟨_,by rw [hx]⟩
  obtain ⟨r,hd⟩:=hd
  have hlen:len≤140737488355328:=by
   have:=hw (((List.range len).map D).length * 16 + r.length * 16) (by
    rw [hd]
    simp only [DataW.weights,Tryz.underlying24,List.mem_cons]
    refine .inl ?_
    rw [zC0]
    first | rfl | (simp;done) | (simp;omega))
   simp [reachBytes] at this
   omega
  have hat:∀ i,i < len→∃ y:TableP.Route,∀ j u,(routeVals y)[j]? = some u→w.cell? ((a.add (i * 2)).add j)=some u:=fun i hil=>by
   obtain ⟨cs',h1,h2⟩:=hi i (by omega)
   exact route_at h1 h2
  obtain ⟨l,hll,hl2⟩:=zC1 (⟨0,0⟩:TableP.Route) len _ hat
  refine ⟨some a,l,len,cap,hcs,hll,hl,hlen,fun hn=>?_⟩
  obtain ⟨b,off,spot⟩:=a
  have hpos:0 < len:=by omega
  obtain ⟨y0,hy0⟩:=hat 0 hpos
  have c0:=hy0 0 _ rfl
  have hspot:spot=none:=by simpa [Addr.add] using World.cell?_spot c0
  subst hspot
  refine ⟨b,off,rfl,by simpa [Addr.add] using World.block_lt_of_cell? w _ c0,fun i y hy j u hu=>?_⟩
  have h1:=hl2 i y hy j u hu
  simp only [zc4] at h1
  exact h1
theorem cfg_open {v:Value} {d:DataW H} {p:List MemPlace} {r:Reach} {b0:Nat}
 (hv:Value.okWide Tryz.prog w r b0 26 v) (h:DataW.Trod enc Tryz.prog w 0 (fun _=>true) true 26 v d p) (hw:∀ k∈d.weights Tryz.prog 26,k≤reachBytes) :
 ∃ x:CfgC,v=x.value∧CfgIn w x:=by
 obtain ⟨cs,rfl,hsz⟩:=okWide_struct Tryz.underlying26 hv
 obtain ⟨l⟩:=cs
 match l,hsz.trans cells_cfg with
 | [c0,c1,c2,c3,c4,c5,c6,c7,c8,c9,c10],_=>
  obtain ⟨fuel,hf⟩:=h
  obtain ⟨xs,n,_,hx,_,hlen,hg⟩:=DataW.trod_struct Tryz.underlying26 hf
  match xs,hlen with
  | [y0,y1,y2,y3,y4,y5,y6,y7,y8,y9,y10],_=>
   have g0:=hg 0 _ rfl
   change DataW.trod enc Tryz.prog w 0 (fun _=>true) true n 3 (([c0,c1,c2,c3,c4,c5,c6,c7,c8,c9,c10].drop 0).take (Tryz.prog.cellsOf 3))=_ at g0
   rw [zc9] at g0
   have g1:=hg 1 _ rfl
   change DataW.trod enc Tryz.prog w 0 (fun _=>true) true n 3 (([c0,c1,c2,c3,c4,c5,c6,c7,c8,c9,c10].drop 1).take (Tryz.prog.cellsOf 3))=_ at g1
   rw [zc9] at g1
   have g2:=hg 2 _ rfl
   change DataW.trod enc Tryz.prog w 0 (fun _=>true) true n 3 (([c0,c1,c2,c3,c4,c5,c6,c7,c8,c9,c10].drop 2).take (Tryz.prog.cellsOf 3))=_ at g2
   rw [zc9] at g2
   have g3:=hg 3 _ rfl
   change DataW.trod enc Tryz.prog w 0 (fun _=>true) true n 3 (([c0,c1,c2,c3,c4,c5,c6,c7,c8,c9,c10].drop 3).take (Tryz.prog.cellsOf 3))=_ at g3
   rw [zc9] at g3
   have g4:=hg 4 _ rfl
   change DataW.trod enc Tryz.prog w 0 (fun _=>true) true n 3 (([c0,c1,c2,c3,c4,c5,c6,c7,c8,c9,c10].drop 4).take (Tryz.prog.cellsOf 3))=_ at g4
   rw [zc9] at g4
   have g5:=hg 5 _ rfl
   change DataW.trod enc Tryz.prog w 0 (fun _=>true) true n 3 (([c0,c1,c2,c3,c4,c5,c6,c7,c8,c9,c10].drop 5).take (Tryz.prog.cellsOf 3))=_ at g5
   rw [zc9] at g5
   have g6:=hg 6 _ rfl
   change DataW.trod enc Tryz.prog w 0 (fun _=>true) true n 3 (([c0,c1,c2,c3,c4,c5,c6,c7,c8,c9,c10].drop 6).take (Tryz.prog.cellsOf 3))=_ at g6
   rw [zc9] at g6
   have g7:=hg 7 _ rfl
   change DataW.trod enc Tryz.prog w 0 (fun _=>true) true n 3 (([c0,c1,c2,c3,c4,c5,c6,c7,c8,c9,c10].drop 7).take (Tryz.prog.cellsOf 3))=_ at g7
   rw [zc9] at g7
   have g8:=hg 8 _ rfl
   change DataW.trod enc Tryz.prog w 0 (fun _=>true) true n 22 (([c0,c1,c2,c3,c4,c5,c6,c7,c8,c9,c10].drop 8).take (Tryz.prog.cellsOf 22))=_ at g8
   rw [cells_ps] at g8
   have g9:=hg 9 _ rfl
   change DataW.trod enc Tryz.prog w 0 (fun _=>true) true n 23 (([c0,c1,c2,c3,c4,c5,c6,c7,c8,c9,c10].drop 9).take (Tryz.prog.cellsOf 23))=_ at g9
   rw [cells_qs] at g9
   have g10:=hg 10 _ rfl
   change DataW.trod enc Tryz.prog w 0 (fun _=>true) true n 24 (([c0,c1,c2,c3,c4,c5,c6,c7,c8,c9,c10].drop 10).take (Tryz.prog.cellsOf 24))=_ at g10
   rw [cells_rs] at g10
   obtain ⟨k0,rfl⟩:=zc2 (c:=c0) g0
   obtain ⟨k1,rfl⟩:=zc2 (c:=c1) g1
   obtain ⟨k2,rfl⟩:=zc2 (c:=c2) g2
   obtain ⟨k3,rfl⟩:=zc2 (c:=c3) g3
   obtain ⟨k4,rfl⟩:=zc2 (c:=c4) g4
   obtain ⟨k5,rfl⟩:=zc2 (c:=c5) g5
   obtain ⟨k6,rfl⟩:=zc2 (c:=c6) g6
   obtain ⟨k7,rfl⟩:=zc2 (c:=c7) g7
   obtain ⟨PA,Pl,Pn,Pcap,rfl,P1,P2,P3,P4⟩:=zI8 (c:=c8) g8 (fun k hk=>hw k (by
    have hx1:=congrArg Prod.fst hx
    simp only at hx1
    rw [hx1]
    simp only [DataW.weights,Tryz.underlying26]
    exact DataW.weights_mem_each (j:=8) (t:=22) (d:=y8.1) rfl rfl k hk))
   obtain ⟨QA,Ql,Qn,Qcap,rfl,Q1,Q2,Q3,Q4⟩:=zI9 (c:=c9) g9 (fun k hk=>hw k (by
    have hx1:=congrArg Prod.fst hx
    simp only at hx1
    rw [hx1]
    simp only [DataW.weights,Tryz.underlying26]
    exact DataW.weights_mem_each (j:=9) (t:=23) (d:=y9.1) rfl rfl k hk))
   obtain ⟨RA,Rl,Rn,Rcap,rfl,R1,R2,R3,R4⟩:=zC2 (c:=c10) g10 (fun k hk=>hw k (by
    have hx1:=congrArg Prod.fst hx
    simp only at hx1
    rw [hx1]
    simp only [DataW.weights,Tryz.underlying26]
    exact DataW.weights_mem_each (j:=10) (t:=24) (d:=y10.1) rfl rfl k hk))
   exact ⟨⟨k0,k1,k2,k3,k4,k5,k6,k7,PA,Pn,Pcap,Pl,QA,Qn,Qcap,Ql,RA,Rn,Rcap,Rl⟩,rfl,⟨P4,P1,P2,P3,Q4,Q1,Q2,Q3,R4,R1,R2,R3⟩⟩
end
end Go.Proofs.YtfgpfmhjnccccaaGreatDoor
