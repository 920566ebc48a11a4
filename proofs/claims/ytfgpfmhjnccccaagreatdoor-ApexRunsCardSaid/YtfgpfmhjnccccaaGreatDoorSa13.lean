import Derived.Test.YtfgpfmhjnccccaaGreatDoorRows
import Derived.Below
import Derived.Carry
import Derived.ChangeSame
import Derived.ChangeVars
import Derived.ChangeOld
import Derived.JoinedOf
import Derived.RowKit
import Derived.RowKitTokens
import Derived.Deep.Slices
import Derived.ChangeSlices
import Derived.OpenShut
import Derived.SizedLaws
import Derived.Test.YtfgpfmhjnccccaaGreatDoorChecked
import Derived.KernelRfl
import Derived.Test.YtfgpfmhjnccccaaGreatDoorSa02
import Derived.Test.YtfgpfmhjnccccaaGreatDoorSa03
namespace Go.Proofs.YtfgpfmhjnccccaaGreatDoor
open Go.ChangeShapes Go.WideShapes Go.RowKit
theorem rowLaidOut:laidOutB Tryz.prog=true:=by kernel_rfl
theorem zl4 {H:Type} {enc:TypeId × Value→H} {P:Program} (hl:laidOutB P=true) {W W':World} (hb:Below W.heap.size W W') :
 ∀ {ts:List TypeId} {vs:List Value} {ds:List (DataW H)} {ps:List MemPlace},(∀ t∈ts,P.readableRec t=true∧t < P.types.size)→DataW.TrodAll enc P W 0 (fun _=>true) true ts vs ds ps→(∀ x∈ps,x.block < W.heap.size) →
  DataW.TrodAll enc P W' 0 (fun b=>decide (b < W.heap.size)) true ts vs ds ps
 | [],[],[],_,_,h,_=>h
 | t :: _,_ :: _,_ :: _,_,hr,⟨p,q,h1,h2,he⟩,hlt=>by
  subst he
  exact ⟨p,q,h1.elim fun f hf=>Below.trod hl (hr t (by simp)).1 (hr t (by simp)).2 ⟨f,hf⟩ hb (fun x hx=>hlt x (List.mem_append_left _ hx)),zl4 hl hb (fun t' ht'=>hr t' (by simp [ht'])) h2 (fun x hx=>hlt x (List.mem_append_right _ hx)),rfl⟩
 | [],[],_ :: _,_,_,h,_=>absurd h (by simp [DataW.TrodAll])
 | [],_ :: _,_,_,_,h,_=>absurd h (by simp [DataW.TrodAll])
 | _ :: _,[],_,_,_,h,_=>absurd h (by simp [DataW.TrodAll])
 | _ :: _,_ :: _,[],_,_,h,_=>absurd h (by simp [DataW.TrodAll])
theorem law_post {H:Type} {enc:TypeId × Value→H} {P:Program} {f:Func} {s:ChangeSpec} {apart fresh handsOn:Bool} {W W':World} {args:Array Value} {ds gs:List (DataW H)} {before:List MemPlace} {tb:TypeId}
 (hl:laidOutB P=true) (hr:∀ t∈f.params.toList,P.readableRec t=true∧t < P.types.size) (htb:P.underlying tb=some .bool) (hrt:f.resultTypes=#[tb]) (hv:s.vars=[])
 (hfn:s.fn H (ds ++ gs) = { results:=[.lit (.bool true)],args:=ds })
 (hW:DataW.Whole enc P f.params.toList s.vars apart W args.toList ds gs before) (hb:Below W.heap.size W W') :
 s.post enc P f apart fresh handsOn false W args (.bool true) W':=by
 have hlt:=hW.lt
 obtain ⟨p,q,hA,hV,he,h1,h2⟩:=hW
 rw [hv] at hV
 obtain ⟨hgs,hq⟩:=trodVars_none hV
 subst hgs
 subst hq
 refine ⟨ds,[],before,[],p,[],⟨p,[],hA,by rw [hv];rfl,he,h1,h2⟩,?_,?_,?_,hb.frame _,fun h=>by cases h⟩
 ·rw [hrt,hfn]
  exact trodAll_mk1 (shut_bool htb true)
 ·rw [hfn]
  exact zl4 hl hb hr hA (fun x hx=>hlt x (by rw [he];exact List.mem_append_left _ hx))
 ·rw [hv,hfn]
  rfl
open Go.ChangeShapes Go.WideShapes Go.RowKit Go.Deep
set_option maxRecDepth 100000
theorem zE5:Tryz.prog.cellsOf 5=1:=by kernel_rfl
def BytesArg (W:World) (v:Value):Prop:=∃ A l n cap,v = .slice A n cap∧l.length=n∧n≤cap∧cap≤9223372036854775807∧Bytes W W.heap.size A l
theorem bytes_open {H:Type} {enc:TypeId × Value→H} {w:World} {v:Value} {d:DataW H} {p:List MemPlace} {r:Reach} {b0:Nat}
 (hv:Value.okWide Tryz.prog w r b0 89 v) (h:DataW.Trod enc Tryz.prog w 0 (fun _=>true) true 89 v d p):BytesArg w v:=by
 obtain ⟨a0,len,cap,rfl⟩:=okWide_slice Tryz.underlying89 hv
 obtain ⟨fuel,hf⟩:=h
 rcases open_ints Tryz.underlying89 Tryz.underlying5 zE5 hf with ⟨hcs,hx⟩ | ⟨a,len',cap',zs,hcs,hb,hl,hm,hz,hx,hc,hw⟩
 ·simp [Value.cells] at hcs
  obtain ⟨rfl,rfl,rfl⟩:=hcs
  exact ⟨none,[],0,0,rfl,rfl,by omega,by omega,Bytes.none_⟩
 ·simp [Value.cells] at hcs
  obtain ⟨rfl,rfl,rfl⟩:=hcs
  simp only [if_true] at hz
  refine ⟨some a,(zs.take len).map (fun z=>UInt8.ofNat z.toNat),len,cap,rfl,by simp;omega,hl,by unfold maxLen at hm;omega,fun hn=>?_⟩
  have hn':0 < len:=by simpa [hz,Nat.min_eq_left hl] using hn
  obtain ⟨b,off,spot⟩:=a
  have h0:=hc 0 (by omega)
  have hspot:spot=none:=by simpa [Addr.add] using World.cell?_spot h0
  subst hspot
  refine ⟨b,off,rfl,by simpa [Addr.add] using World.block_lt_of_cell? w _ h0,fun i c hi=>?_⟩
  have hil:i < len:=by
   have:=(List.getElem?_eq_some_iff.1 hi).1
   simp at this
   omega
  have hci:=hc i (by omega)
  rw [zc4] at hci
  rw [hci]
  rw [List.getElem?_map,List.getElem?_take_of_lt hil,List.getElem?_eq_getElem (by omega)] at hi
  simp at hi
  have hzi:zs.getD i 0=zs[i]:=by simp [List.getD,List.getElem?_eq_getElem (show i < zs.length by omega)]
  have hwf:=hw zs[i] (List.getElem_mem _)
  have hr:0≤zs[i]∧zs[i] < 256:=by
   have:=hwf
   simp [Lit.wf,IntKind.min,IntKind.max,IntKind.signed,IntKind.bits] at this
   omega
  rw [hzi,← hi]
  congr 2
  simp
  omega
theorem bytes_u8:Tryz.prog.bytesOf 5=1:=by kernel_rfl
theorem zI1 {H:Type} {enc:TypeId × Value→H} {w:World} {fuel:Nat} {v:Value} {x:DataW H × List MemPlace}
 (h:DataW.trod enc Tryz.prog w 0 (fun _=>true) true fuel 89 [v]=some x) (hw:∀ k∈x.1.weights Tryz.prog 89,k≤reachBytes) :
 ∃ A l n cap,v = .slice A n cap∧l.length=n∧n≤cap∧cap≤140737488351232∧Bytes w w.heap.size A l:=by
 rcases open_ints Tryz.underlying89 Tryz.underlying5 zE5 h with ⟨hcs,hx⟩ | ⟨a,len,cap,zs,hcs,hb,hl,hm,hz,hx,hc,hwf⟩
 ·injection hcs with hcs
  exact ⟨none,[],0,0,hcs,rfl,by omega,by omega,Bytes.none_⟩
 ·injection hcs with hcs
  simp only [if_true] at hz
  have hcap:cap≤140737488351232:=by
   have:=hw ((zs.take len).length * 1 + (zs.drop len).length * 1) (by
    rw [hx]
    simp only [DataW.weights,Tryz.underlying89,List.mem_cons]
    refine .inl ?_
    rw [bytes_u8]
    simp [lits])
   simp [reachBytes] at this
   omega
  refine ⟨some a,(zs.take len).map (fun z=>UInt8.ofNat z.toNat),len,cap,hcs,by simp;omega,hl,hcap,fun hn=>?_⟩
  have hn':0 < len:=by simpa [hz,Nat.min_eq_left hl] using hn
  obtain ⟨b,off,spot⟩:=a
  have h0:=hc 0 (by omega)
  have hspot:spot=none:=by simpa [Addr.add] using World.cell?_spot h0
  subst hspot
  refine ⟨b,off,rfl,by simpa [Addr.add] using World.block_lt_of_cell? w _ h0,fun i c hi=>?_⟩
  have hil:i < len:=by
   have:=(List.getElem?_eq_some_iff.1 hi).1
   simp at this
   omega
  have hci:=hc i (by omega)
  rw [zc4] at hci
  rw [hci]
  rw [List.getElem?_map,List.getElem?_take_of_lt hil,List.getElem?_eq_getElem (by omega)] at hi
  simp at hi
  have hzi:zs.getD i 0=zs[i]:=by simp [List.getD,List.getElem?_eq_getElem (show i < zs.length by omega)]
  have hwf:=hwf zs[i] (List.getElem_mem _)
  have hr:0≤zs[i]∧zs[i] < 256:=by
   have:=hwf
   simp [Lit.wf,IntKind.min,IntKind.max,IntKind.signed,IntKind.bits] at this
   omega
  rw [hzi,← hi]
  congr 2
  simp
  omega
theorem zi5 {H:Type} {P:Program} {e:TypeId}:∀ {ds:List (DataW H)} {d:DataW H},d∈ds→∀ n∈d.weights P e,n∈DataW.weightsAll P e ds
 | x :: ds,d,h,n,hn=>by
  simp only [DataW.weightsAll,List.mem_append]
  rcases List.mem_cons.1 h with rfl | h
  ·exact .inl hn
  ·exact .inr (zi5 h n hn)
 | [],_,h,_,_=>absurd h (by simp)
open Go.ChangeShapes Go.WideShapes Go.RowKit Go.Deep
set_option maxRecDepth 100000
section
variable {P:Program} {H:Type} {enc:TypeId × Value→H} {w:World}
theorem zI2 {α:Type} (z:α) (n:Nat) (R:Nat→α→Prop) (h:∀ i,i < n→∃ y,R i y):∃ l:List α,l.length=n∧∀ i x,l[i]? = some x→R i x:=by
 have h2:∀ i,∃ y,i < n→R i y:=fun i=>by
  by_cases hi:i < n
  ·obtain ⟨y,hy⟩:=h i hi
   exact ⟨y,fun _=>hy⟩
  ·exact ⟨z,fun h'=>absurd h' hi⟩
 obtain ⟨f,hf⟩:=Classical.axiomOfChoice h2
 refine ⟨(List.range n).map f,by simp,fun i x hx=>?_⟩
 rw [List.getElem?_map] at hx
 by_cases hi:i < n
 ·rw [List.getElem?_range hi] at hx
  simp at hx
  subst hx
  exact hf i hi
 ·rw [List.getElem?_eq_none (by simpa using hi)] at hx
  cases hx
end
theorem own:ownKnob Tryz.prog.godebug=none:=by kernel_rfl
open Go.RowKit
theorem zy7 {α:Type} {Q:α→Prop} (vals:α→List Value) (size:Nat) {W:World} {A:Option Addr} {l:List {x:α // Q x}} (h:ItemsIn (fun y:{x:α // Q x}=>vals y.1) size W A l):ItemsIn vals size W A (l.map Subtype.val)∧∀ x∈l.map Subtype.val,Q x:=by
 refine ⟨fun h0=>?_,fun x hx=>?_⟩
 ·obtain ⟨b,off,e,hb,hc⟩:=h (by rw [List.length_map] at h0;exact h0)
  refine ⟨b,off,e,hb,fun i x hx j u hu=>?_⟩
  rw [List.getElem?_map] at hx
  obtain ⟨y,hy,rfl⟩:=Option.map_eq_some_iff.1 hx
  exact hc i y hy j u hu
 ·obtain ⟨y,-,rfl⟩:=List.mem_map.1 hx
  exact y.2
open Go.ChangeShapes Go.WideShapes Go.RowKit Go.Deep
set_option maxRecDepth 100000
section
variable {H:Type} {enc:TypeId × Value→H} {w:World}
theorem nat_c15 {k:IntKind} {t:TypeId} (hu:Tryz.prog.underlying t=some (.int k)) (hk:k.signed=false) {m:Nat} {c:Value} {y:DataW H × List MemPlace} (g:DataW.trod enc Tryz.prog w 0 (fun _=>true) true m t [c]=some y):∃ n:Nat,c = .int k (n:Nat)∧(n:Int)≤k.max:=by
 obtain ⟨z,e,-,hw⟩:=DataW.trod_int hu g
 simp at e
 subst e
 have hb:k.min≤z∧z≤k.max:=by simpa [Lit.wf] using hw
 have h0:0≤z:=by
  have:k.min=0:=by cases k<;>first | rfl | cases hk
  omega
 exact ⟨z.toNat,by rw [Int.toNat_of_nonneg h0],by rw [Int.toNat_of_nonneg h0];exact hb.2⟩
theorem u32_c15 {m:Nat} {c:Value} {y:DataW H × List MemPlace} (g:DataW.trod enc Tryz.prog w 0 (fun _=>true) true m 67 [c]=some y):∃ n:Nat,c = .int .u32 (n:Nat)∧n < 4294967296:=by
 obtain ⟨n,e,h⟩:=nat_c15 Tryz.underlying67 rfl g
 exact ⟨n,e,by have h2:(n:Int)≤4294967295:=h;omega⟩
theorem u8_c15 {t:TypeId} (hu:Tryz.prog.underlying t=some (.int .u8)) {m:Nat} {c:Value} {y:DataW H × List MemPlace} (g:DataW.trod enc Tryz.prog w 0 (fun _=>true) true m t [c]=some y):∃ n:Nat,c = .int .u8 (n:Nat)∧n≤255:=by
 obtain ⟨n,e,h⟩:=nat_c15 hu rfl g
 exact ⟨n,e,by have h2:(n:Int)≤255:=h;omega⟩
theorem zp8 {m:Nat} {c:Value} {y:DataW H × List MemPlace} (g:DataW.trod enc Tryz.prog w 0 (fun _=>true) true m 3 [c]=some y):∃ k:Int,c = .int .i64 k∧-9223372036854775808≤k∧k≤9223372036854775807:=by
 obtain ⟨z,e,-,hw⟩:=DataW.trod_int Tryz.underlying3 g
 simp at e
 subst e
 exact ⟨z,rfl,bounds_i64 hw⟩
theorem bool_c15 {m:Nat} {c:Value} {y:DataW H × List MemPlace} (g:DataW.trod enc Tryz.prog w 0 (fun _=>true) true m 4 [c]=some y):∃ b:Bool,c = .bool b∧True:=by
 obtain ⟨b,e,_⟩:=DataW.trod_bool Tryz.underlying4 g
 simp at e
 exact ⟨b,e,trivial⟩
end
open Go.ChangeShapes Go.WideShapes Go.RowKit Go.Deep
set_option maxRecDepth 100000
section
variable {H:Type} {enc:TypeId × Value→H} {w:World}
theorem zp9 {α:Type} (vals:α→List Value) (size bytes:Nat) (z:α) {t e:TypeId} (ht:Tryz.prog.underlying t=some (.slice e)) (hc:Tryz.prog.cellsOf e=size) (hby:Tryz.prog.bytesOf e=bytes) (hv0:∀ y,∃ u,(vals y)[0]? = some u)
 (hat:∀ (n:Nat) (a:Addr) (cs:List Value) (x:DataW H × List MemPlace),w.cells? 0 a size=some cs→DataW.trod enc Tryz.prog w 0 (fun _=>true) true n e cs=some x→(∀ k∈x.1.weights Tryz.prog e,k≤reachBytes)→∃ y:α,∀ j u,(vals y)[j]? = some u→w.cell? (a.add j)=some u)
 {fuel:Nat} {c:Value} {x:DataW H × List MemPlace} (h:DataW.trod enc Tryz.prog w 0 (fun _=>true) true fuel t [c]=some x) (hw:∀ k∈x.1.weights Tryz.prog t,k≤reachBytes) :
 ∃ A l n cap,c = .slice A n cap∧l.length=n∧n≤cap∧n * bytes≤140737488355328∧ItemsIn vals size w A l:=by
 rcases open_slice ht h with ⟨hcs,hx⟩ | ⟨a,len,cap,m,n,D,Pl,hcs,hb,hl,hm,hmm,hx,hi⟩
 ·injection hcs with hcs
  exact ⟨none,[],0,0,hcs,rfl,Nat.le_refl _,by omega,fun h=>absurd h (by simp)⟩
 ·injection hcs with hcs
  simp only [if_true] at hmm
  obtain rfl:cap=m:=hmm.symm
  rw [hc] at hi
  have hd:∃ r,x.1 = .slice ((List.range len).map D) r:=⟨_,by rw [hx]⟩
  obtain ⟨r,hd⟩:=hd
  have hlen:len * bytes≤140737488355328:=by
   have:=hw (((List.range len).map D).length * bytes + r.length * bytes) (by
    rw [hd]
    simp only [DataW.weights,ht,List.mem_cons]
    refine .inl ?_
    rw [hby,Nat.add_mul])
   rw [List.length_map,List.length_range] at this
   simp only [reachBytes] at this
   omega
  have hat2:∀ i,i < len→∃ y:α,∀ j u,(vals y)[j]? = some u→w.cell? ((a.add (i * size)).add j)=some u:=fun i hil=>by
   obtain ⟨cs',h1,h2⟩:=hi i (by omega)
   refine hat _ _ _ _ h1 h2 (fun k hk=>hw k ?_)
   rw [hd]
   simp only [DataW.weights,ht,List.mem_cons,List.mem_append]
   exact .inr (.inl (zi5 (List.mem_map.2 ⟨i,List.mem_range.2 hil,rfl⟩) k hk))
  obtain ⟨l,hll,hl2⟩:=zI2 z len _ hat2
  refine ⟨some a,l,len,cap,hcs,hll,hl,hlen,fun hn=>?_⟩
  obtain ⟨b,off,spot⟩:=a
  have hpos:0 < len:=by omega
  obtain ⟨y0,hy0⟩:=hat2 0 hpos
  obtain ⟨u0,hu0⟩:=hv0 y0
  have c0:=hy0 0 _ hu0
  have hspot:spot=none:=by simpa [Addr.add] using World.cell?_spot c0
  subst hspot
  refine ⟨b,off,rfl,by simpa [Addr.add] using World.block_lt_of_cell? w _ c0,fun i y hy j u hu=>?_⟩
  have h1:=hl2 i y hy j u hu
  simp only [zc4] at h1
  exact h1
theorem zB8 {α:Type} (vals:α→List Value) (size bytes:Nat) (z:α) {t e:TypeId} (ht:Tryz.prog.underlying t=some (.slice e)) (hc:Tryz.prog.cellsOf e=size) (hby:Tryz.prog.bytesOf e=bytes) (hv0:∀ y,∃ u,(vals y)[0]? = some u)
 (hat:∀ (n:Nat) (a:Addr) (cs:List Value) (x:DataW H × List MemPlace),w.cells? 0 a size=some cs→DataW.trod enc Tryz.prog w 0 (fun _=>true) true n e cs=some x→(∀ k∈x.1.weights Tryz.prog e,k≤reachBytes)→∃ y:α,∀ j u,(vals y)[j]? = some u→w.cell? (a.add j)=some u)
 {v:Value} {d:DataW H} {p:List MemPlace} {r:Reach} {b0:Nat} (hv:Value.okWide Tryz.prog w r b0 t v) (h:DataW.Trod enc Tryz.prog w 0 (fun _=>true) true t v d p) (hw:∀ k∈d.weights Tryz.prog t,k≤reachBytes) :
 ∃ A l n cap,v = .slice A n cap∧l.length=n∧n≤cap∧n * bytes≤140737488355328∧ItemsIn vals size w A l:=by
 obtain ⟨a0,len,cap,rfl⟩:=okWide_slice ht hv
 obtain ⟨fuel,hf⟩:=h
 have hf':DataW.trod enc Tryz.prog w 0 (fun _=>true) true fuel t [.slice a0 len cap]=some (d,p):=hf
 exact zp9 vals size bytes z ht hc hby hv0 hat hf' hw
theorem op_at (n:Nat) (a:Addr) (cs:List Value) (x:DataW H × List MemPlace) (hc:w.cells? 0 a 6=some cs) (ht:DataW.trod enc Tryz.prog w 0 (fun _=>true) true n 91 cs=some x) (hw:∀ k∈x.1.weights Tryz.prog 91,k≤reachBytes) :
 ∃ y:{x:OpC // OpOk w x},∀ j u,((fun y:{x:OpC // OpOk w x}=>opVals y.1) y)[j]? = some u→w.cell? (a.add j)=some u:=by
 obtain ⟨_,hlen,hcell⟩:=World.cells?_some hc
 obtain ⟨xs,m,_,hx,_,hxl,hf⟩:=DataW.trod_struct Tryz.underlying91 ht
 match cs,hlen with
 | [c0,c1,c2,c3,c4,c5],_=>
  match xs,hxl with
  | [y0,y1,y2,y3,y4,y5],_=>
   have g0:=hf 0 _ rfl
   change DataW.trod enc Tryz.prog w 0 (fun _=>true) true m 88 (([c0,c1,c2,c3,c4,c5].drop 0).take (Tryz.prog.cellsOf 88))=_ at g0
   rw [show Tryz.prog.cellsOf 88=1 by kernel_rfl] at g0
   have g1:=hf 1 _ rfl
   change DataW.trod enc Tryz.prog w 0 (fun _=>true) true m 3 (([c0,c1,c2,c3,c4,c5].drop 1).take (Tryz.prog.cellsOf 3))=_ at g1
   have g2:=hf 2 _ rfl
   change DataW.trod enc Tryz.prog w 0 (fun _=>true) true m 3 (([c0,c1,c2,c3,c4,c5].drop 2).take (Tryz.prog.cellsOf 3))=_ at g2
   have g3:=hf 3 _ rfl
   change DataW.trod enc Tryz.prog w 0 (fun _=>true) true m 3 (([c0,c1,c2,c3,c4,c5].drop 3).take (Tryz.prog.cellsOf 3))=_ at g3
   have g4:=hf 4 _ rfl
   change DataW.trod enc Tryz.prog w 0 (fun _=>true) true m 3 (([c0,c1,c2,c3,c4,c5].drop 4).take (Tryz.prog.cellsOf 3))=_ at g4
   rw [show Tryz.prog.cellsOf 3=1 by kernel_rfl] at g1 g2 g3 g4
   have g5:=hf 5 _ rfl
   change DataW.trod enc Tryz.prog w 0 (fun _=>true) true m 89 (([c0,c1,c2,c3,c4,c5].drop 5).take (Tryz.prog.cellsOf 89))=_ at g5
   rw [show Tryz.prog.cellsOf 89=1 by kernel_rfl] at g5
   obtain ⟨k0,rfl,l0⟩:=u8_c15 Tryz.underlying88 (c:=c0) (y:=y0) g0
   obtain ⟨k1,rfl,l1⟩:=zp8 (c:=c1) g1
   obtain ⟨k2,rfl,l2⟩:=zp8 (c:=c2) g2
   obtain ⟨k3,rfl,l3⟩:=zp8 (c:=c3) g3
   obtain ⟨k4,rfl,l4⟩:=zp8 (c:=c4) g4
   have g5':DataW.trod enc Tryz.prog w 0 (fun _=>true) true m 89 [c5]=some y5:=g5
   obtain ⟨A,l,q,cap,rfl,h1,h2,h3,h4⟩:=zI1 g5' (fun k hk=>hw k (by
    rw [hx]
    simp only [DataW.weights,Tryz.underlying91]
    exact DataW.weights_mem_each (j:=5) (t:=89) (d:=y5.1) rfl rfl k hk))
   exact ⟨⟨⟨k0,k1,k2,k3,k4,A,q,cap,l⟩,l0,l1,l2,l3,l4,h1,h2,Nat.le_trans h2 h3,h4⟩,fun j u hu=>by rw [hcell j (List.getElem?_eq_some_iff.1 hu).1];exact hu⟩
theorem ops_trod {fuel:Nat} {c:Value} {x:DataW H × List MemPlace} (h:DataW.trod enc Tryz.prog w 0 (fun _=>true) true fuel 68 [c]=some x) (hw:∀ k∈x.1.weights Tryz.prog 68,k≤reachBytes) :
 ∃ A l n cap,c = .slice A n cap∧l.length=n∧n≤cap∧n * 64≤140737488355328∧OpsAt w A l:=by
 obtain ⟨A,l,n,cap,rfl,hl,hc,hn,hi⟩:=zp9 (fun y:{x:OpC // OpOk w x}=>opVals y.1) 6 64 ⟨zOp,zOp_ok w⟩ Tryz.underlying68 (by kernel_rfl) (by kernel_rfl) (fun _=>⟨_,rfl⟩) op_at h hw
 obtain ⟨h1,h2⟩:=zy7 opVals 6 hi
 exact ⟨A,l.map Subtype.val,n,cap,rfl,by rw [List.length_map,hl],hc,hn,h1,h2⟩
theorem turn_at (n:Nat) (a:Addr) (cs:List Value) (x:DataW H × List MemPlace) (hc:w.cells? 0 a 4=some cs) (ht:DataW.trod enc Tryz.prog w 0 (fun _=>true) true n 70 cs=some x) (hw:∀ k∈x.1.weights Tryz.prog 70,k≤reachBytes) :
 ∃ y:{x:TurnC // TurnOk w x},∀ j u,((fun y:{x:TurnC // TurnOk w x}=>turnVals y.1) y)[j]? = some u→w.cell? (a.add j)=some u:=by
 obtain ⟨_,hlen,hcell⟩:=World.cells?_some hc
 obtain ⟨xs,m,_,hx,_,hxl,hf⟩:=DataW.trod_struct Tryz.underlying70 ht
 match cs,hlen with
 | [c0,c1,c2,c3],_=>
  match xs,hxl with
  | [y0,y1,y2,y3],_=>
   have g0:=hf 0 _ rfl
   change DataW.trod enc Tryz.prog w 0 (fun _=>true) true m 3 (([c0,c1,c2,c3].drop 0).take (Tryz.prog.cellsOf 3))=_ at g0
   rw [show Tryz.prog.cellsOf 3=1 by kernel_rfl] at g0
   have g1:=hf 1 _ rfl
   change DataW.trod enc Tryz.prog w 0 (fun _=>true) true m 4 (([c0,c1,c2,c3].drop 1).take (Tryz.prog.cellsOf 4))=_ at g1
   rw [show Tryz.prog.cellsOf 4=1 by kernel_rfl] at g1
   have g2:=hf 2 _ rfl
   change DataW.trod enc Tryz.prog w 0 (fun _=>true) true m 67 (([c0,c1,c2,c3].drop 2).take (Tryz.prog.cellsOf 67))=_ at g2
   rw [show Tryz.prog.cellsOf 67=1 by kernel_rfl] at g2
   have g3:=hf 3 _ rfl
   change DataW.trod enc Tryz.prog w 0 (fun _=>true) true m 68 (([c0,c1,c2,c3].drop 3).take (Tryz.prog.cellsOf 68))=_ at g3
   rw [show Tryz.prog.cellsOf 68=1 by kernel_rfl] at g3
   obtain ⟨k0,rfl,l0⟩:=zp8 (c:=c0) g0
   obtain ⟨k1,rfl,_⟩:=bool_c15 (c:=c1) g1
   obtain ⟨k2,rfl,l2⟩:=u32_c15 (c:=c2) g2
   have g3':DataW.trod enc Tryz.prog w 0 (fun _=>true) true m 68 [c3]=some y3:=g3
   obtain ⟨A,l,q,cap,rfl,h1,h2,h3,h4⟩:=ops_trod g3' (fun k hk=>hw k (by
    rw [hx]
    simp only [DataW.weights,Tryz.underlying70]
    exact DataW.weights_mem_each (j:=3) (t:=68) (d:=y3.1) rfl rfl k hk))
   exact ⟨⟨⟨k0,k1,k2,A,q,cap,l⟩,l0,l2,h1,h2,h3,h4⟩,fun j u hu=>by rw [hcell j (List.getElem?_eq_some_iff.1 hu).1];exact hu⟩
theorem zI3 {v:Value} {d:DataW H} {p:List MemPlace} {r:Reach} {b0:Nat} (hv:Value.okWide Tryz.prog w r b0 27 v) (h:DataW.Trod enc Tryz.prog w 0 (fun _=>true) true 27 v d p) (hw:∀ k∈d.weights Tryz.prog 27,k≤reachBytes) :
 ∃ A l n cap,v = .slice A n cap∧l.length=n∧n≤cap∧n * 40≤140737488355328∧ItemsIn turnVals 4 w A l∧∀ x∈l,TurnOk w x:=by
 obtain ⟨A,l,n,cap,rfl,hl,hc,hn,hi⟩:=zB8 (fun y:{x:TurnC // TurnOk w x}=>turnVals y.1) 4 40 ⟨⟨0,false,0,none,0,0,[]⟩,by decide,by decide,rfl,Nat.le_refl _,by decide,fun h=>absurd h (by simp),fun x hx=>by cases hx⟩ Tryz.underlying27 (by kernel_rfl) (by kernel_rfl) (fun _=>⟨_,rfl⟩) turn_at hv h hw
 obtain ⟨h1,h2⟩:=zy7 turnVals 4 hi
 exact ⟨A,l.map Subtype.val,n,cap,rfl,by rw [List.length_map,hl],hc,hn,h1,h2⟩
end
end Go.Proofs.YtfgpfmhjnccccaaGreatDoor
