import Derived.Test.YtfgpfmhjnccccaaGreatDoorChecked
import Derived.WalkKit
import Derived.Lib.Hide
import Derived.Outline
import Derived.OwnWalk
import Derived.RegionTactic
import Derived.BigQuiet
import Derived.Tactics2
import Derived.StillTactics
import Derived.Laws.Pointers
import Derived.Deep.RegionHeld3
import Derived.Deep.QuietTactic
import Derived.Test.YtfgpfmhjnccccaaGreatDoorSa01
import Derived.Test.YtfgpfmhjnccccaaGreatDoorSa02
import Derived.Test.YtfgpfmhjnccccaaGreatDoorSa04
import Derived.Test.YtfgpfmhjnccccaaGreatDoorSa03
import Derived.Test.YtfgpfmhjnccccaaGreatDoorSa06
import Derived.Test.YtfgpfmhjnccccaaGreatDoorSa05
namespace Go.Proofs.YtfgpfmhjnccccaaGreatDoor
open Go.RowKit
open Go.RowKit
open Go.RowKit
section
variable {P:Program}
theorem zt7 (W:World) (t e:TypeId) (ht:P.underlying t=some (.slice e)) (hz:∀ w,(Go.sizeOf e).run P w = .ok 1 w) (b o:Nat) (len cap:Nat) (lo hi:Int) (k n:Nat) (hlo:lo=k) (hhi:hi=(k + n:Nat)) (hn:0 < n) (h2:k + n≤cap) :
 (Instr.slice t (.slice (some ⟨b,o,none⟩) len cap) (some (.int .i64 lo)) (some (.int .i64 hi)) none).run P W = .ok (.slice (some ⟨b,o + k,none⟩) n (cap - k)) W:=by
 subst hlo hhi
 have ht':P.underlying t=some (.slice (P.elem t)):=by simp [Program.elem,ht]
 have he:P.elem t=e:=by simp [Program.elem,ht]
 rw [run_slice_lh W t _ _ _ ht' .i64 .i64 _ _ (by omega) (by omega) (by omega),he,hz]
 have ha:(⟨b,o,none⟩:Addr).add (k * 1)=⟨b,o + k,none⟩:=by rw [Nat.mul_one];exact zc4 b o k
 simp only [Result.andThen,sliced,Int.toNat_natCast]
 rw [if_neg (by omega)]
 simp only [Option.map_some,ha]
 congr 2
 omega
end
open Go.RowKit
open Go.RowKit Go.Extern.Stop Go.Stop Go.Extern
theorem zc1 {B:Nat} {a w:World} (h:Below B a w) (n:Nat):Below B a (w.drewN n):=⟨h.os,h.tape,h.output,h.size,h.block⟩
def ErrTextK (k:Nat) (w:World) (v:Value) (x:List UInt8):Prop:=∃ l t,v=errV l t∧l.length≤k∧ErrIn w t w.heap.size l∧Good l t∧x=sufT t true l
def ErrText (w:World) (v:Value) (x:List UInt8):Prop:=ErrTextK 4 w v x
theorem ErrTextK.none_ (k:Nat) (w:World):ErrTextK k w .nilIface []:=⟨[],none,rfl,by simp,trivial,⟨fun n hn=>absurd hn (by simp),fun m hm=>by cases hm⟩,rfl⟩
theorem ErrText.none_ (w:World):ErrText w .nilIface []:=ErrTextK.none_ 4 w
theorem zf9 (a:Int) (h:-1≤a):place a=a:=by unfold place;rw [if_neg (by omega)]
theorem ErrText.new (w:World) (c a:Int) (hc:1≤c∧c≤199) (ha:-1≤a∧a≤9223372036854775807):ErrText (w.alloc (.cells #[.int .i64 c,.int .i64 a,.nilIface] 192)) (.iface 190 (.pointer (some ⟨w.heap.size,0,none⟩))) (atT c.toNat a):=by
 refine ⟨[(w.heap.size,c,a)],none,rfl,by simp,⟨by simp,heap_alloc_new w _,trivial⟩,⟨fun n hn=>?_,fun m hm=>by cases hm⟩,by simp [sufT,sep]⟩
 match n,hn with
 | 0,_=>exact ⟨hc.1,hc.2,ha.1,ha.2⟩
def ErrPost (x:List UInt8) (ok:Bool) (w:World) (e:Ending) (w':World):Prop:=
 ∃ v,e = .returned v∧ErrText w' v x∧(if ok then v = .nilIface else ∃ b,v = .iface 190 (.pointer (some ⟨b,0,none⟩)))∧Below w.heap.size w w'
theorem zA8 (w W:World) (c a:Int) (hc:1≤c∧c≤199) (ha:-1≤a∧a≤9223372036854775807) (hb:Below w.heap.size w W) :
 ErrPost (atT c.toNat a) false w (.returned (.iface 190 (.pointer (some ⟨W.heap.size,0,none⟩)))) (W.alloc (.cells #[.int .i64 c,.int .i64 a,.nilIface] 192)):=
 ⟨_,rfl,ErrText.new W c a hc ha,⟨_,rfl⟩,hb.alloc hb.size _⟩
open Go.RowKit
def partVals (p:TableP.Part):List Value:=[.int .i64 p.node,.int .i64 p.start,.int .i64 p.length,.int .i64 p.budget,.int .i64 p.words,.int .u8 (p.r0:Nat),.int .u8 (p.r1:Nat),.int .u8 (p.r2:Nat),.int .u8 (p.r3:Nat)]
def portVals (p:TableP.Port):List Value:=[.int .i64 p.part,.int .u8 (p.kind:Nat),.bool p.out,.int .i64 p.size,.int .i64 p.depth,.int .i64 p.fresh]
def routeVals (p:TableP.Route):List Value:=[.int .i64 p.src,.int .i64 p.dst]
structure PartAt (W:World) (b o:Nat) (p:TableP.Part):Prop where
 c0:W.cell? ⟨b,o,none⟩=some (.int .i64 p.node)
 c1:W.cell? ⟨b,o + 1,none⟩=some (.int .i64 p.start)
 c2:W.cell? ⟨b,o + 2,none⟩=some (.int .i64 p.length)
 c3:W.cell? ⟨b,o + 3,none⟩=some (.int .i64 p.budget)
 c4:W.cell? ⟨b,o + 4,none⟩=some (.int .i64 p.words)
 c5:W.cell? ⟨b,o + 5,none⟩=some (.int .u8 (p.r0:Nat))
 c6:W.cell? ⟨b,o + 6,none⟩=some (.int .u8 (p.r1:Nat))
 c7:W.cell? ⟨b,o + 7,none⟩=some (.int .u8 (p.r2:Nat))
 c8:W.cell? ⟨b,o + 8,none⟩=some (.int .u8 (p.r3:Nat))
structure PortAt (W:World) (b o:Nat) (p:TableP.Port):Prop where
 c0:W.cell? ⟨b,o,none⟩=some (.int .i64 p.part)
 c1:W.cell? ⟨b,o + 1,none⟩=some (.int .u8 (p.kind:Nat))
 c2:W.cell? ⟨b,o + 2,none⟩=some (.bool p.out)
 c3:W.cell? ⟨b,o + 3,none⟩=some (.int .i64 p.size)
 c4:W.cell? ⟨b,o + 4,none⟩=some (.int .i64 p.depth)
 c5:W.cell? ⟨b,o + 5,none⟩=some (.int .i64 p.fresh)
structure RouteAt (W:World) (b o:Nat) (p:TableP.Route):Prop where
 c0:W.cell? ⟨b,o,none⟩=some (.int .i64 p.src)
 c1:W.cell? ⟨b,o + 1,none⟩=some (.int .i64 p.dst)
theorem zf0 {W:World} {A:Option Addr} {l:List TableP.Part} (h:ItemsIn partVals 9 W A l) {k:Nat} {p:TableP.Part} (hk:l[k]? = some p):∃ b off,A=some ⟨b,off,none⟩∧b < W.heap.size∧PartAt W b (off + k * 9) p:=by
 obtain ⟨b,off,e,hb,hi⟩:=h (by have:=(List.getElem?_eq_some_iff.1 hk).1;omega)
 have:=hi k p hk
 exact ⟨b,off,e,hb,⟨this 0 _ rfl,this 1 _ rfl,this 2 _ rfl,this 3 _ rfl,this 4 _ rfl,this 5 _ rfl,this 6 _ rfl,this 7 _ rfl,this 8 _ rfl⟩⟩
theorem zh2 {W:World} {A:Option Addr} {l:List TableP.Port} (h:ItemsIn portVals 6 W A l) {k:Nat} {p:TableP.Port} (hk:l[k]? = some p):∃ b off,A=some ⟨b,off,none⟩∧b < W.heap.size∧PortAt W b (off + k * 6) p:=by
 obtain ⟨b,off,e,hb,hi⟩:=h (by have:=(List.getElem?_eq_some_iff.1 hk).1;omega)
 have:=hi k p hk
 exact ⟨b,off,e,hb,⟨this 0 _ rfl,this 1 _ rfl,this 2 _ rfl,this 3 _ rfl,this 4 _ rfl,this 5 _ rfl⟩⟩
theorem zg7 {W:World} {A:Option Addr} {l:List TableP.Route} (h:ItemsIn routeVals 2 W A l) {k:Nat} {p:TableP.Route} (hk:l[k]? = some p):∃ b off,A=some ⟨b,off,none⟩∧b < W.heap.size∧RouteAt W b (off + k * 2) p:=by
 obtain ⟨b,off,e,hb,hi⟩:=h (by have:=(List.getElem?_eq_some_iff.1 hk).1;omega)
 have:=hi k p hk
 exact ⟨b,off,e,hb,⟨this 0 _ rfl,this 1 _ rfl⟩⟩
theorem zg0 (p:TableP.Part):(partVals p).length=9:=rfl
theorem zg1 (p:TableP.Port):(portVals p).length=6:=rfl
theorem zf1 (p:TableP.Route):(routeVals p).length=2:=rfl
theorem zx2 (p:TableP.Part):∀ u∈partVals p,u.oneCell'=true:=by
 intro u hu
 simp only [partVals,List.mem_cons,List.not_mem_nil,or_false] at hu
 rcases hu with rfl | rfl | rfl | rfl | rfl | rfl | rfl | rfl | rfl<;>rfl
theorem zx3 (p:TableP.Port):∀ u∈portVals p,u.oneCell'=true:=by
 intro u hu
 simp only [portVals,List.mem_cons,List.not_mem_nil,or_false] at hu
 rcases hu with rfl | rfl | rfl | rfl | rfl | rfl<;>rfl
theorem zt8 (p:TableP.Route):∀ u∈routeVals p,u.oneCell'=true:=by
 intro u hu
 simp only [routeVals,List.mem_cons,List.not_mem_nil,or_false] at hu
 rcases hu with rfl | rfl<;>rfl
structure CfgC where
 nodes:Int
 faulty:Int
 slot:Int
 gap:Int
 rho:Int
 dmin:Int
 dmax:Int
 margin:Int
 PA:Option Addr
 pn:Nat
 pcap:Nat
 parts:List TableP.Part
 QA:Option Addr
 qn:Nat
 qcap:Nat
 ports:List TableP.Port
 RA:Option Addr
 rn:Nat
 rcap:Nat
 routes:List TableP.Route
def CfgC.value (x:CfgC):Value:=.agg #[.int .i64 x.nodes,.int .i64 x.faulty,.int .i64 x.slot,.int .i64 x.gap,.int .i64 x.rho,.int .i64 x.dmin,.int .i64 x.dmax,.int .i64 x.margin,.slice x.PA x.pn x.pcap,.slice x.QA x.qn x.qcap,.slice x.RA x.rn x.rcap]
def CfgC.plain (x:CfgC):TableP.Cfg:=⟨x.nodes,x.faulty,x.slot,x.gap,x.rho,x.dmin,x.dmax,x.margin,x.parts,x.ports,x.routes⟩
structure CfgIn (W:World) (x:CfgC):Prop where
 parts:ItemsIn partVals 9 W x.PA x.parts
 plen:x.parts.length=x.pn
 pcap_:x.pn≤x.pcap
 pmost:x.pn≤140737488355328
 ports:ItemsIn portVals 6 W x.QA x.ports
 qlen:x.ports.length=x.qn
 qcap_:x.qn≤x.qcap
 qmost:x.qn≤140737488355328
 routes:ItemsIn routeVals 2 W x.RA x.routes
 rlen:x.routes.length=x.rn
 rcap_:x.rn≤x.rcap
 rmost:x.rn≤140737488355328
theorem CfgIn.below {W W':World} {x:CfgC} (h:CfgIn W x) (hw:Below W.heap.size W W'):CfgIn W' x:=
 ⟨h.parts.below hw,h.plen,h.pcap_,h.pmost,h.ports.below hw,h.qlen,h.qcap_,h.qmost,h.routes.below hw,h.rlen,h.rcap_,h.rmost⟩
def CfgAt (W:World) (v:Value) (f:TableP.Cfg):Prop:=∃ x:CfgC,v=x.value∧CfgIn W x∧x.plain=f
def cfgCells (x:CfgC):Array Value:=#[.int .i64 x.nodes,.int .i64 x.faulty,.int .i64 x.slot,.int .i64 x.gap,.int .i64 x.rho,.int .i64 x.dmin,.int .i64 x.dmax,.int .i64 x.margin,.slice x.PA x.pn x.pcap,.slice x.QA x.qn x.qcap,.slice x.RA x.rn x.rcap]
structure Box11 (w:World) (b:Nat) (x:CfgC):Prop where
 c0:w.cell? ⟨b,0,none⟩=some (.int .i64 x.nodes)
 c1:w.cell? ⟨b,1,none⟩=some (.int .i64 x.faulty)
 c2:w.cell? ⟨b,2,none⟩=some (.int .i64 x.slot)
 c3:w.cell? ⟨b,3,none⟩=some (.int .i64 x.gap)
 c4:w.cell? ⟨b,4,none⟩=some (.int .i64 x.rho)
 c5:w.cell? ⟨b,5,none⟩=some (.int .i64 x.dmin)
 c6:w.cell? ⟨b,6,none⟩=some (.int .i64 x.dmax)
 c7:w.cell? ⟨b,7,none⟩=some (.int .i64 x.margin)
 c8:w.cell? ⟨b,8,none⟩=some (.slice x.PA x.pn x.pcap)
 c9:w.cell? ⟨b,9,none⟩=some (.slice x.QA x.qn x.qcap)
 c10:w.cell? ⟨b,10,none⟩=some (.slice x.RA x.rn x.rcap)
theorem cfgFacts {S:World→Prop} {b:Nat} {x:CfgC} (h:∀ W,S W→Box11 W b x) :
 (∀ W,S W→W.cell? ⟨b,0,none⟩=some (.int .i64 x.nodes))∧(∀ W,S W→W.cell? ⟨b,1,none⟩=some (.int .i64 x.faulty))∧(∀ W,S W→W.cell? ⟨b,2,none⟩=some (.int .i64 x.slot)) ∧
 (∀ W,S W→W.cell? ⟨b,3,none⟩=some (.int .i64 x.gap))∧(∀ W,S W→W.cell? ⟨b,4,none⟩=some (.int .i64 x.rho))∧(∀ W,S W→W.cell? ⟨b,5,none⟩=some (.int .i64 x.dmin)) ∧
 (∀ W,S W→W.cell? ⟨b,6,none⟩=some (.int .i64 x.dmax))∧(∀ W,S W→W.cell? ⟨b,7,none⟩=some (.int .i64 x.margin))∧(∀ W,S W→W.cell? ⟨b,8,none⟩=some (.slice x.PA x.pn x.pcap)) ∧
 (∀ W,S W→W.cell? ⟨b,9,none⟩=some (.slice x.QA x.qn x.qcap))∧(∀ W,S W→W.cell? ⟨b,10,none⟩=some (.slice x.RA x.rn x.rcap)):=
 ⟨fun W h0=>(h W h0).c0,fun W h0=>(h W h0).c1,fun W h0=>(h W h0).c2,fun W h0=>(h W h0).c3,fun W h0=>(h W h0).c4,fun W h0=>(h W h0).c5,fun W h0=>(h W h0).c6,fun W h0=>(h W h0).c7,fun W h0=>(h W h0).c8,fun W h0=>(h W h0).c9,fun W h0=>(h W h0).c10⟩
theorem box11 {w wr:World} {x:CfgC} {t:TypeId} (h:Below (w.alloc (.cells (cfgCells x) t)).heap.size (w.alloc (.cells (cfgCells x) t)) wr):Box11 wr w.heap.size x:=by
 have h0:wr.heap[w.heap.size]? = some (.cells (cfgCells x) t (0,0)):=(h.block _ (by simp)).trans (heap_alloc_new w _)
 exact ⟨za0 h0 0 rfl,za0 h0 1 rfl,za0 h0 2 rfl,za0 h0 3 rfl,za0 h0 4 rfl,za0 h0 5 rfl,za0 h0 6 rfl,za0 h0 7 rfl,za0 h0 8 rfl,za0 h0 9 rfl,za0 h0 10 rfl⟩
open Go.RowKit
def Pure (v:Value) (w:World) (e:Ending) (w':World):Prop:=e = .returned v∧w=w'
theorem zd5 {P:Program} {f:FuncId} {args:Array Value} {w:World} {n:Nat} {v:Value}
 (h:Calls P f args (w.drewN n) (Pure v (w.drewN n))):Calls P f args (w.drewN n) fun e w''=>e = .returned v∧∃ m,w''=w.drewN m:=
 h.mono fun _ _ ⟨he,hm⟩=>⟨he,n,hm.symm⟩
theorem zb5 (n a b:Int) (w:World) :
 Calls Tryz.prog 114 #[.int .i64 n,.int .i64 a,.int .i64 b] w (Pure (.bool (decide (TableP.up n a b))) w):=by
 by_cases h1:a≤n
 ·have e:decide (TableP.up n a b)=decide (n≤b):=by unfold TableP.up;simp [h1]
  have q1:decide (a≤n)=true:=decide_eq_true h1
  rw [e];clear e h1
  go_enter Tryz.func114,Tryz.ntmps114
  go_wp2_with fail
  go_ret
  exact ⟨rfl,rfl⟩
 ·have e:decide (TableP.up n a b)=false:=by unfold TableP.up;simp [h1]
  have q1:decide (a≤n)=false:=decide_eq_false h1
  rw [e];clear e h1
  go_enter Tryz.func114,Tryz.ntmps114
  go_wp2_with fail
  go_ret
  exact ⟨rfl,rfl⟩
theorem zb6 (n a b:Int) (w:World) :
 Calls Tryz.prog 58 #[.int .i64 n,.int .i64 a,.int .i64 b] w (Pure (.bool (decide (TableP.up n a b))) w):=by
 by_cases h1:a≤n
 ·have e:decide (TableP.up n a b)=decide (n≤b):=by unfold TableP.up;simp [h1]
  have q1:decide (a≤n)=true:=decide_eq_true h1
  rw [e];clear e h1
  go_enter Tryz.func58,Tryz.ntmps58
  go_wp2_with fail
  go_ret
  exact ⟨rfl,rfl⟩
 ·have e:decide (TableP.up n a b)=false:=by unfold TableP.up;simp [h1]
  have q1:decide (a≤n)=false:=decide_eq_false h1
  rw [e];clear e h1
  go_enter Tryz.func58,Tryz.ntmps58
  go_wp2_with fail
  go_ret
  exact ⟨rfl,rfl⟩
theorem zj0 (n:Int) (m:Nat) (hm:m≤140737488355328) (w:World) :
 Calls Tryz.prog 87 #[.int .i64 n,.int .i64 (m:Nat)] w (Pure (.bool (decide (TableP.up n 0 ((m:Int) - 1)))) w):=by
 have HW:=Lib.hid (fun W=>zb5 n 0 ((m:Int) - 1) W)
 have hw:IntKind.i64.wrap ((m:Int) - 1)=(m:Int) - 1:=IntWalk.i64_in _ (by omega)
 go_enter Tryz.func87,Tryz.ntmps87
 go_wp2_with fail
 refine (HW.out _).mono ?_
 rintro e w1 ⟨rfl,rfl⟩
 go_wp2_with fail
 go_ret
 exact ⟨rfl,rfl⟩
theorem zt9 (o:Bool) (w:World) :
 Calls Tryz.prog 115 #[.bool o] w (Pure (.int .i64 (if o then 0 else 8)) w):=by
 cases o with
 | true=>
  go_enter Tryz.func115,Tryz.ntmps115
  go_wp2_with fail
  go_ret
  exact ⟨rfl,rfl⟩
 | false=>
  go_enter Tryz.func115,Tryz.ntmps115
  go_wp2_with fail
  go_ret
  exact ⟨rfl,rfl⟩
open Go.RowKit
set_option maxRecDepth 100000
def BoolPost (b:Bool) (w:World) (e:Ending) (w':World):Prop:=e = .returned (.bool b)∧Below w.heap.size w w'
set_option maxHeartbeats 1000000 in
theorem zk6 (x:CfgC) (w:World) :
 Calls Tryz.prog 84 #[x.value] w (BoolPost (decide (TableP.headOk x.plain)) w):=by
 have HT:Hid (TableP.headOk x.plain→Ending.returned (.bool true) = .returned (.bool (decide (TableP.headOk x.plain)))):=Lib.hid fun h=>by rw [decide_eq_true h]
 have HN:Hid (¬ TableP.headOk x.plain→Ending.returned (.bool false) = .returned (.bool (decide (TableP.headOk x.plain)))):=Lib.hid fun h=>by rw [decide_eq_false h]
 obtain ⟨nodes,faulty,slot,gap,rho,dmin,dmax,margin,PA,pn,pcap,parts,QA,qn,qcap,ports,RA,rn,rcap,routes⟩:=x
 have HB:=Lib.hid (fun t=>(Below.refl w.heap.size w).alloc (Nat.le_refl _) (.cells (cfgCells ⟨nodes,faulty,slot,gap,rho,dmin,dmax,margin,PA,pn,pcap,parts,QA,qn,qcap,ports,RA,rn,rcap,routes⟩) t))
 simp only [cfgCells] at HB
 simp only [CfgC.value]
 unfold TableP.headOk at HT HN
 simp only [CfgC.plain] at HT HN
 have U0:=Lib.hid (fun W=>zb5 nodes 1 7 W)
 have U1:=Lib.hid (fun W=>zb5 faulty 0 2 W)
 have U2:=Lib.hid (fun W=>zb5 slot 1 16777216 W)
 have U3:=Lib.hid (fun W=>zb5 gap 0 16777216 W)
 have U4:=Lib.hid (fun W=>zb5 rho 0 200 W)
 have U5:=Lib.hid (fun W=>zb5 dmax 0 1048576 W)
 have U6:=Lib.hid (fun W=>zb5 dmin 0 dmax W)
 have U7:=Lib.hid (fun W=>zb5 margin 0 16777216 W)
 unfold BoolPost
 simp only [CfgC.plain,TableP.headOk]
 generalize hD:decide (TableP.up nodes 1 7∧TableP.up faulty 0 2∧TableP.up slot 1 16777216∧TableP.up gap 0 16777216∧TableP.up rho 0 200∧TableP.up dmax 0 1048576∧TableP.up dmin 0 dmax∧TableP.up margin 0 16777216)=D at *
 clear hD
 go_enter Tryz.func84,Tryz.ntmps84
 go_wp2_with fail
 refine (U0.out _).mono ?_
 rintro e w1 ⟨rfl,rfl⟩
 by_cases h0:TableP.up nodes 1 7
 case neg=>
  have HF:=Lib.hid (HN.out (fun h=>h0 h.1))
  rw [decide_eq_false h0]
  clear h0
  go_wp2_with fail
  go_ret
  exact ⟨HF.out,HB.out _⟩
 rw [decide_eq_true h0]
 have K0:=Lib.hid h0
 clear h0
 go_wp2_with fail
 refine (U1.out _).mono ?_
 rintro e w2 ⟨rfl,rfl⟩
 by_cases h1:TableP.up faulty 0 2
 case neg=>
  have HF:=Lib.hid (HN.out (fun h=>h1 h.2.1))
  rw [decide_eq_false h1]
  clear h1
  go_wp2_with fail
  go_ret
  exact ⟨HF.out,HB.out _⟩
 rw [decide_eq_true h1]
 have K1:=Lib.hid h1
 clear h1
 go_wp2_with fail
 refine (U2.out _).mono ?_
 rintro e w3 ⟨rfl,rfl⟩
 by_cases h2:TableP.up slot 1 16777216
 case neg=>
  have HF:=Lib.hid (HN.out (fun h=>h2 h.2.2.1))
  rw [decide_eq_false h2]
  clear h2
  go_wp2_with fail
  go_ret
  exact ⟨HF.out,HB.out _⟩
 rw [decide_eq_true h2]
 have K2:=Lib.hid h2
 clear h2
 go_wp2_with fail
 refine (U3.out _).mono ?_
 rintro e w4 ⟨rfl,rfl⟩
 by_cases h3:TableP.up gap 0 16777216
 case neg=>
  have HF:=Lib.hid (HN.out (fun h=>h3 h.2.2.2.1))
  rw [decide_eq_false h3]
  clear h3
  go_wp2_with fail
  go_ret
  exact ⟨HF.out,HB.out _⟩
 rw [decide_eq_true h3]
 have K3:=Lib.hid h3
 clear h3
 go_wp2_with fail
 refine (U4.out _).mono ?_
 rintro e w5 ⟨rfl,rfl⟩
 by_cases h4:TableP.up rho 0 200
 case neg=>
  have HF:=Lib.hid (HN.out (fun h=>h4 h.2.2.2.2.1))
  rw [decide_eq_false h4]
  clear h4
  go_wp2_with fail
  go_ret
  exact ⟨HF.out,HB.out _⟩
 rw [decide_eq_true h4]
 have K4:=Lib.hid h4
 clear h4
 go_wp2_with fail
 refine (U5.out _).mono ?_
 rintro e w6 ⟨rfl,rfl⟩
 by_cases h5:TableP.up dmax 0 1048576
 case neg=>
  have HF:=Lib.hid (HN.out (fun h=>h5 h.2.2.2.2.2.1))
  rw [decide_eq_false h5]
  clear h5
  go_wp2_with fail
  go_ret
  exact ⟨HF.out,HB.out _⟩
 rw [decide_eq_true h5]
 have K5:=Lib.hid h5
 clear h5
 go_wp2_with fail
 refine (U6.out _).mono ?_
 rintro e w7 ⟨rfl,rfl⟩
 by_cases h6:TableP.up dmin 0 dmax
 case neg=>
  have HF:=Lib.hid (HN.out (fun h=>h6 h.2.2.2.2.2.2.1))
  rw [decide_eq_false h6]
  clear h6
  go_wp2_with fail
  go_ret
  exact ⟨HF.out,HB.out _⟩
 rw [decide_eq_true h6]
 have K6:=Lib.hid h6
 clear h6
 go_wp2_with fail
 refine (U7.out _).mono ?_
 rintro e w8 ⟨rfl,rfl⟩
 by_cases h7:TableP.up margin 0 16777216
 case neg=>
  have HF:=Lib.hid (HN.out (fun h=>h7 h.2.2.2.2.2.2.2))
  rw [decide_eq_false h7]
  clear h7
  go_wp2_with fail
  go_ret
  exact ⟨HF.out,HB.out _⟩
 rw [decide_eq_true h7]
 have K7:=Lib.hid h7
 clear h7
 go_wp2_with fail
 go_ret
 exact ⟨HT.out ⟨K0.out,K1.out,K2.out,K3.out,K4.out,K5.out,K6.out,K7.out⟩,HB.out _⟩
open Go.RowKit
set_option maxRecDepth 100000
theorem zi4 {B:Nat} {a w:World} (h:Below B a w) (m:Nat):Below B a (w.drewN m):=⟨h.os,h.tape,h.output,h.size,h.block⟩
set_option maxHeartbeats 2000000 in
theorem zp5 (x:TableP.Part) (nodes:Nat) (hn:nodes≤7) (w:World) :
 Calls Tryz.prog 85 #[.agg (partVals x).toArray,.int .i64 (nodes:Nat)] w (BoolPost (decide (TableP.partOk nodes x)) w):=by
 have HT:Hid (TableP.partOk nodes x→Ending.returned (.bool true) = .returned (.bool (decide (TableP.partOk nodes x)))):=Lib.hid fun h=>by rw [decide_eq_true h]
 have HN:Hid (¬ TableP.partOk nodes x→Ending.returned (.bool false) = .returned (.bool (decide (TableP.partOk nodes x)))):=Lib.hid fun h=>by rw [decide_eq_false h]
 have HB:=Lib.hid (fun t m=>zi4 ((Below.refl w.heap.size w).alloc (Nat.le_refl _) (.cells (partVals x).toArray t)) m)
 have HB0:=Lib.hid (fun t=>((Below.refl w.heap.size w).alloc (Nat.le_refl _) (.cells (partVals x).toArray t)))
 obtain ⟨node,start,length,budget,words,r0,r1,r2,r3⟩:=x
 simp only [partVals] at HB HB0 ⊢
 unfold BoolPost
 generalize hD:decide (TableP.partOk nodes ⟨node,start,length,budget,words,r0,r1,r2,r3⟩)=D at *
 simp only [TableP.partOk] at HT HN
 clear hD
 have i0:∀ w:World,(Instr.index 64 (.agg #[.int .u8 (r0:Nat),.int .u8 (r1:Nat),.int .u8 (r2:Nat),.int .u8 (r3:Nat)]) (.int .i64 0)).run Tryz.prog w = .ok (.int .u8 (r0:Nat)) w:=fun _=>by kernel_rfl
 have i1:∀ w:World,(Instr.index 64 (.agg #[.int .u8 (r0:Nat),.int .u8 (r1:Nat),.int .u8 (r2:Nat),.int .u8 (r3:Nat)]) (.int .i64 1)).run Tryz.prog w = .ok (.int .u8 (r1:Nat)) w:=fun _=>by kernel_rfl
 have i2:∀ w:World,(Instr.index 64 (.agg #[.int .u8 (r0:Nat),.int .u8 (r1:Nat),.int .u8 (r2:Nat),.int .u8 (r3:Nat)]) (.int .i64 2)).run Tryz.prog w = .ok (.int .u8 (r2:Nat)) w:=fun _=>by kernel_rfl
 have i3:∀ w:World,(Instr.index 64 (.agg #[.int .u8 (r0:Nat),.int .u8 (r1:Nat),.int .u8 (r2:Nat),.int .u8 (r3:Nat)]) (.int .i64 3)).run Tryz.prog w = .ok (.int .u8 (r3:Nat)) w:=fun _=>by kernel_rfl
 go_enter Tryz.func85,Tryz.ntmps85
 go_wp2_with fail
 go_loopw [9] (fun i wr=>(∃ k:Nat,k≤4∧i = .int .i64 (k:Nat)∧(0 < k→r0≤3)∧(1 < k→r1≤3)∧(2 < k→r2≤3)∧(3 < k→r3≤3))∧wr=w.alloc (.cells #[.int .i64 node,.int .i64 start,.int .i64 length,.int .i64 budget,.int .i64 words,.int .u8 (r0:Nat),.int .u8 (r1:Nat),.int .u8 (r2:Nat),.int .u8 (r3:Nat)] 66)) (fun i _=>(5 - intOf i).toNat)
 case atStart=>exact ⟨⟨0,by omega,rfl,fun h=>by omega,fun h=>by omega,fun h=>by omega,fun h=>by omega⟩,rfl⟩
 case round=>
  obtain ⟨⟨k,hk,rfl,g0,g1,g2,g3⟩,rfl⟩:=hrel
  have hk4:k=0∨k=1∨k=2∨k=3∨k=4:=by omega
  rcases hk4 with rfl | rfl | rfl | rfl | rfl
  ·by_cases hr:r0≤3
   ·have q1:decide ((3:Int) < r0)=false:=decide_eq_false (by omega)
    have HG:=Lib.hid (And.intro g0 (And.intro g1 (And.intro g2 g3)))
    have Hr:=Lib.hid hr
    clear g0 g1 g2 g3 hr HT HN HB HB0
    go_wp2_with fail
    go_roundw
    case rel=>exact ⟨⟨1,by omega,rfl,fun _=>Hr.out,fun h=>by omega,fun h=>by omega,fun h=>by omega⟩,trivial⟩
    case measure=>simp [intOf]
   ·have q1:decide ((3:Int) < r0)=true:=decide_eq_true (by omega)
    have HF:=Lib.hid (HN.out (fun h=>hr h.2.2.2.2.2.1))
    clear g0 g1 g2 g3 hr HT HN
    go_wp2_with fail
    go_ret
    exact ⟨HF.out,HB0.out _⟩
  ·by_cases hr:r1≤3
   ·have q1:decide ((3:Int) < r1)=false:=decide_eq_false (by omega)
    have HG:=Lib.hid (And.intro g0 (And.intro g1 (And.intro g2 g3)))
    have Hr:=Lib.hid hr
    clear g0 g1 g2 g3 hr HT HN HB HB0
    go_wp2_with fail
    go_roundw
    case rel=>exact ⟨⟨2,by omega,rfl,fun _=>HG.out.1 (by omega),fun _=>Hr.out,fun h=>by omega,fun h=>by omega⟩,trivial⟩
    case measure=>simp [intOf]
   ·have q1:decide ((3:Int) < r1)=true:=decide_eq_true (by omega)
    have HF:=Lib.hid (HN.out (fun h=>hr h.2.2.2.2.2.2.1))
    clear g0 g1 g2 g3 hr HT HN
    go_wp2_with fail
    go_ret
    exact ⟨HF.out,HB0.out _⟩
  ·by_cases hr:r2≤3
   ·have q1:decide ((3:Int) < r2)=false:=decide_eq_false (by omega)
    have HG:=Lib.hid (And.intro g0 (And.intro g1 (And.intro g2 g3)))
    have Hr:=Lib.hid hr
    clear g0 g1 g2 g3 hr HT HN HB HB0
    go_wp2_with fail
    go_roundw
    case rel=>exact ⟨⟨3,by omega,rfl,fun _=>HG.out.1 (by omega),fun _=>HG.out.2.1 (by omega),fun _=>Hr.out,fun h=>by omega⟩,trivial⟩
    case measure=>simp [intOf]
   ·have q1:decide ((3:Int) < r2)=true:=decide_eq_true (by omega)
    have HF:=Lib.hid (HN.out (fun h=>hr h.2.2.2.2.2.2.2.1))
    clear g0 g1 g2 g3 hr HT HN
    go_wp2_with fail
    go_ret
    exact ⟨HF.out,HB0.out _⟩
  ·by_cases hr:r3≤3
   ·have q1:decide ((3:Int) < r3)=false:=decide_eq_false (by omega)
    have HG:=Lib.hid (And.intro g0 (And.intro g1 (And.intro g2 g3)))
    have Hr:=Lib.hid hr
    clear g0 g1 g2 g3 hr HT HN HB HB0
    go_wp2_with fail
    go_roundw
    case rel=>exact ⟨⟨4,by omega,rfl,fun _=>HG.out.1 (by omega),fun _=>HG.out.2.1 (by omega),fun _=>HG.out.2.2.1 (by omega),fun _=>Hr.out⟩,trivial⟩
    case measure=>simp [intOf]
   ·have q1:decide ((3:Int) < r3)=true:=decide_eq_true (by omega)
    have HF:=Lib.hid (HN.out (fun h=>hr h.2.2.2.2.2.2.2.2))
    clear g0 g1 g2 g3 hr HT HN
    go_wp2_with fail
    go_ret
    exact ⟨HF.out,HB0.out _⟩
  ·have HG:=Lib.hid (And.intro (g0 (by omega)) (And.intro (g1 (by omega)) (And.intro (g2 (by omega)) (g3 (by omega)))))
   clear g0 g1 g2 g3
   have U0:=Lib.hid (fun W=>zj0 node nodes (by omega) W)
   have U1:=Lib.hid (fun W=>zb5 start 0 268435456 W)
   have U2:=Lib.hid (fun W=>zb5 length 1 268435456 W)
   have U3:=Lib.hid (fun W=>zb5 budget 0 64 W)
   have U4:=Lib.hid (fun W=>zb5 words 0 16 W)
   clear hn
   go_wp2_with fail
   refine (U0.out _).mono ?_
   rintro e w1 ⟨rfl,rfl⟩
   by_cases h0:TableP.up node 0 ((nodes:Int) - 1)
   case neg=>
    have HF:=Lib.hid (HN.out (fun h=>h0 h.1))
    rw [decide_eq_false h0]
    clear h0
    go_wp2_with fail
    go_ret
    exact ⟨HF.out,HB0.out _⟩
   rw [decide_eq_true h0]
   have K0:=Lib.hid h0
   clear h0
   go_wp2_with fail
   refine (U1.out _).mono ?_
   rintro e w2 ⟨rfl,rfl⟩
   by_cases h1:TableP.up start 0 268435456
   case neg=>
    have HF:=Lib.hid (HN.out (fun h=>h1 h.2.1))
    rw [decide_eq_false h1]
    clear h1
    go_wp2_with fail
    go_ret
    exact ⟨HF.out,HB0.out _⟩
   rw [decide_eq_true h1]
   have K1:=Lib.hid h1
   clear h1
   go_wp2_with fail
   refine (U2.out _).mono ?_
   rintro e w3 ⟨rfl,rfl⟩
   by_cases h2:TableP.up length 1 268435456
   case neg=>
    have HF:=Lib.hid (HN.out (fun h=>h2 h.2.2.1))
    rw [decide_eq_false h2]
    clear h2
    go_wp2_with fail
    go_ret
    exact ⟨HF.out,HB0.out _⟩
   rw [decide_eq_true h2]
   have K2:=Lib.hid h2
   clear h2
   go_wp2_with fail
   refine (U3.out _).mono ?_
   rintro e w4 ⟨rfl,rfl⟩
   by_cases h3:TableP.up budget 0 64
   case neg=>
    have HF:=Lib.hid (HN.out (fun h=>h3 h.2.2.2.1))
    rw [decide_eq_false h3]
    clear h3
    go_wp2_with fail
    go_ret
    exact ⟨HF.out,HB0.out _⟩
   rw [decide_eq_true h3]
   have K3:=Lib.hid h3
   clear h3
   go_wp2_with fail
   refine (U4.out _).mono ?_
   rintro e w5 ⟨rfl,rfl⟩
   by_cases h4:TableP.up words 0 16
   case neg=>
    have HF:=Lib.hid (HN.out (fun h=>h4 h.2.2.2.2.1))
    rw [decide_eq_false h4]
    clear h4
    go_wp2_with fail
    go_ret
    exact ⟨HF.out,HB0.out _⟩
   rw [decide_eq_true h4]
   have K4:=Lib.hid h4
   clear h4
   go_wp2_with fail
   go_ret
   exact ⟨HT.out ⟨K0.out,K1.out,K2.out,K3.out,K4.out,HG.out.1,HG.out.2.1,HG.out.2.2.1,HG.out.2.2.2⟩,HB0.out _⟩
open Go.RowKit
set_option maxRecDepth 100000
set_option maxHeartbeats 2000000 in
theorem zG3 (x:TableP.Port) (np:Nat) (hn:np≤12) (w:World) :
 Calls Tryz.prog 86 #[.agg (portVals x).toArray,.int .i64 (np:Nat)] w (BoolPost (decide (TableP.portOk np x)) w):=by
 have HT:Hid (TableP.portOk np x→Ending.returned (.bool true) = .returned (.bool (decide (TableP.portOk np x)))):=Lib.hid fun h=>by rw [decide_eq_true h]
 have HN:Hid (¬ TableP.portOk np x→Ending.returned (.bool false) = .returned (.bool (decide (TableP.portOk np x)))):=Lib.hid fun h=>by rw [decide_eq_false h]
 have HB:=Lib.hid (fun t=>((Below.refl w.heap.size w).alloc (Nat.le_refl _) (.cells (portVals x).toArray t)))
 have HM:=Lib.hid (fun t m=>zi4 ((Below.refl w.heap.size w).alloc (Nat.le_refl _) (.cells (portVals x).toArray t)) m)
 obtain ⟨part,kind,out,size,depth,fresh⟩:=x
 simp only [portVals] at HB HM ⊢
 unfold BoolPost
 generalize hD:decide (TableP.portOk np ⟨part,kind,out,size,depth,fresh⟩)=D at *
 simp only [TableP.portOk] at HT HN
 clear hD
 have U0:=Lib.hid (fun W=>zj0 part np (by omega) W)
 have U1:=Lib.hid (fun W=>zb5 size 0 16 W)
 have U2:=Lib.hid (fun W=>zt9 out W)
 have U3:=Lib.hid (fun m W=>zb5 fresh 0 m W)
 have U4:=Lib.hid (fun W=>zb5 depth 1 4 W)
 clear hn
 go_enter Tryz.func86,Tryz.ntmps86
 go_wp2_with fail
 refine (U0.out _).mono ?_
 rintro e w1 ⟨rfl,rfl⟩
 by_cases h0:TableP.up part 0 ((np:Int) - 1)
 case neg=>
  have HF:=Lib.hid (HN.out (fun h=>h0 h.1))
  rw [decide_eq_false h0]
  clear h0
  go_wp2_with fail
  go_ret
  exact ⟨HF.out,HB.out _⟩
 rw [decide_eq_true h0]
 have K0:=Lib.hid h0
 clear h0
 go_wp2_with fail
 refine (U1.out _).mono ?_
 rintro e w1 ⟨rfl,rfl⟩
 by_cases h1:TableP.up size 0 16
 case neg=>
  have HF:=Lib.hid (HN.out (fun h=>h1 h.2.1))
  rw [decide_eq_false h1]
  clear h1
  go_wp2_with fail
  go_ret
  exact ⟨HF.out,HB.out _⟩
 rw [decide_eq_true h1]
 have K1:=Lib.hid h1
 clear h1
 by_cases hk:kind=1
 case pos=>
  subst hk
  have qk:(((1:Nat):Int) == 1)=true:=rfl
  by_cases hd:depth=0
  case neg=>
   have qd:(depth == 0)=false:=by rw [beq_eq_false_iff_ne];exact hd
   have HF:=Lib.hid (HN.out (fun h=>by
    rcases h.2.2 with ⟨_,h3,_⟩ | ⟨h3,_⟩
    ·exact hd h3
    ·cases h3))
   clear hd
   go_wp2_with fail
   go_quiet (fail)
   go_wp2_with fail
   go_ret
   exact ⟨HF.out,HM.out _ _⟩
  subst hd
  by_cases hf:TableP.up fresh 0 (if out=true then 0 else 8)
  case neg=>
   have HF:=Lib.hid (HN.out (fun h=>by
    rcases h.2.2 with ⟨_,_,⟨h3,h4⟩,h5⟩ | ⟨h3,_⟩
    ·refine hf ⟨h3,?_⟩
     cases out with
     | true=>
      have:fresh=0:=Classical.byContradiction fun h=>h5 ⟨rfl,h⟩
      simp [this]
     | false=>simpa using h4
    ·cases h3))
   have U5:Hid (∀ W,Calls Tryz.prog 114 #[.int .i64 fresh,.int .i64 0,.int .i64 (if out=true then 0 else 8)] W (Pure (.bool false) W)):=Lib.hid fun W=>by have:=U3.out (if out=true then 0 else 8) W;rwa [decide_eq_false hf] at this
   clear hf U3 HT HN
   generalize (if out=true then (0:Int) else 8)=bb at *
   go_wp2_with fail
   go_quiet ((first | (go_at_call 115;exact zd5 (U2.out _)) | (go_at_call 114;exact zd5 (U5.out _))))
   go_wp2_with fail
   go_ret
   exact ⟨HF.out,HM.out _ _⟩
  have HF:=Lib.hid (HT.out ⟨K0.out,K1.out,.inl ⟨rfl,rfl,⟨hf.1,by have:=hf.2;cases out<;>simp at this<;>omega⟩,fun h=>by
   have h1:=hf.1
   have h2:=hf.2
   rw [if_pos h.1] at h2
   exact h.2 (by omega)⟩⟩)
  have U5:Hid (∀ W,Calls Tryz.prog 114 #[.int .i64 fresh,.int .i64 0,.int .i64 (if out=true then 0 else 8)] W (Pure (.bool true) W)):=Lib.hid fun W=>by have:=U3.out (if out=true then 0 else 8) W;rwa [decide_eq_true hf] at this
  clear hf U3 HT HN
  generalize (if out=true then (0:Int) else 8)=bb at *
  go_wp2_with fail
  go_quiet ((first | (go_at_call 115;exact zd5 (U2.out _)) | (go_at_call 114;exact zd5 (U5.out _))))
  go_wp2_with fail
  go_ret
  exact ⟨HF.out,HM.out _ _⟩
 have qk:((kind:Int) == 1)=false:=by rw [beq_eq_false_iff_ne];omega
 by_cases hk2:kind=2
 case neg=>
  have qk2:((kind:Int) == 2)=false:=by rw [beq_eq_false_iff_ne];omega
  have HF:=Lib.hid (HN.out (fun h=>by
   rcases h.2.2 with ⟨h3,_⟩ | ⟨h3,_⟩
   ·exact hk h3
   ·exact hk2 h3))
  clear hk hk2
  go_wp2_with fail
  go_ret
  exact ⟨HF.out,HB.out _⟩
 subst hk2
 clear hk qk
 go_wp2_with fail
 refine (U4.out _).mono ?_
 rintro e w1 ⟨rfl,rfl⟩
 by_cases h4:TableP.up depth 1 4
 case neg=>
  have HF:=Lib.hid (HN.out (fun h=>by
   rcases h.2.2 with ⟨h3,_⟩ | ⟨_,h3,_⟩
   ·cases h3
   ·exact h4 h3))
  rw [decide_eq_false h4]
  clear h4
  go_wp2_with fail
  go_ret
  exact ⟨HF.out,HB.out _⟩
 rw [decide_eq_true h4]
 have K4:=Lib.hid h4
 clear h4
 by_cases hf:fresh=0
 case neg=>
  have qf:(fresh == 0)=false:=by rw [beq_eq_false_iff_ne];exact hf
  have HF:=Lib.hid (HN.out (fun h=>by
   rcases h.2.2 with ⟨h3,_⟩ | ⟨_,_,h3⟩
   ·cases h3
   ·exact hf h3))
  clear hf
  go_wp2_with fail
  go_ret
  exact ⟨HF.out,HB.out _⟩
 subst hf
 have HF:=Lib.hid (HT.out ⟨K0.out,K1.out,.inr ⟨trivial,K4.out,rfl⟩⟩)
 go_wp2_with fail
 go_ret
 exact ⟨HF.out,HB.out _⟩
open Go.RowKit
set_option maxRecDepth 100000
def wrongT:Option FrameP.Wrong→List UInt8
 | none=>[]
 | some (c,p)=>atT c p
theorem ErrPost.of_below {x:List UInt8} {ok:Bool} {w w0 w':World} {e:Ending} (h:ErrPost x ok w0 e w') (hb:Below w.heap.size w w0):ErrPost x ok w e w':=by
 obtain ⟨v,h1,h2,h3,h4⟩:=h
 exact ⟨v,h1,h2,h3,hb.trans (h4.mono hb.size)⟩
theorem ErrPost.ok {w w':World} (hb:Below w.heap.size w w'):ErrPost [] true w (.returned .nilIface) w':=⟨_,rfl,ErrText.none_ _,rfl,hb⟩
theorem zj1 (w W:World) (c a:Int) (N:Nat) (hN:N=W.heap.size) (hc:1≤c∧c≤199) (ha:-1≤a∧a≤9223372036854775807) (hb:Below w.heap.size w W) :
 ErrPost (atT c.toNat a) false w (.returned (.iface 190 (.pointer (some ⟨N,0,none⟩)))) (W.alloc (.cells #[.int .i64 c,.int .i64 a,.nilIface] 192)):=by
 subst hN
 exact zA8 w W c a hc ha hb
def CheckPost (c:Option FrameP.Wrong) (w:World) (e:Ending) (w':World):Prop:=ErrPost (wrongT c) c.isNone w e w'
def boxC (w:World) (x:CfgC):World:=w.alloc (.cells (cfgCells x) 26)
theorem zb7 (w:World) (x:CfgC):(boxC w x).heap.size=w.heap.size + 1:=by simp [boxC]
theorem zb1 (w:World) (x:CfgC):Below w.heap.size w (boxC w x):=(Below.refl _ _).alloc (Nat.le_refl _) _
theorem zf6 {α:Type} {ok:α→Prop} [DecidablePred ok] {code:Nat} {l:List α} {k:Nat} {x:α} (h:l[k]? = some x) :
 TableP.first ok code k (l.drop k)=if ok x then TableP.first ok code (k + 1) (l.drop (k + 1)) else some (code,(k:Int)):=by
 obtain ⟨hk,rfl⟩:=List.getElem?_eq_some_iff.1 h
 rw [List.drop_eq_getElem_cons hk]
 rfl
theorem zg8 {α:Type} {ok:α→Prop} [DecidablePred ok] {code:Nat} {l:List α} {k:Nat} (h:l.length≤k):TableP.first ok code k (l.drop k)=none:=by
 rw [List.drop_of_length_le h];rfl
theorem zG4 (x:CfgC) (w:World) (h1:¬ TableP.headOk x.plain) :
 Calls Tryz.prog 60 #[x.value] w (CheckPost (TableP.chk x.plain) w):=by
 have e:TableP.chk x.plain=some (2,-1):=by unfold TableP.chk;rw [if_neg h1]
 rw [e];clear e
 have HF:=Lib.hid (fun W N hN=>zj1 w W 2 (-1) N hN (by omega) (by omega))
 have HB:=Lib.hid (zb1 w x)
 have HS:=Lib.hid (zb7 w x)
 have HI:Hid (∀ W,Calls Tryz.prog 84 #[x.value] W (BoolPost false W)):=Lib.hid fun W=>by have:=zk6 x W;rwa [decide_eq_false h1] at this
 obtain ⟨nodes,faulty,slot,gap,rho,dmin,dmax,margin,PA,pn,pcap,parts,QA,qn,qcap,ports,RA,rn,rcap,routes⟩:=x
 have HN:=Lib.hid (fun W=>zd4 2 (-1) W rfl)
 rw [zf9 (-1) (by omega)] at HN
 simp only [CfgC.value] at HI ⊢
 simp only [boxC,cfgCells] at HB HS
 clear h1
 go_enter Tryz.func60,Tryz.ntmps60
 go_wp2_with fail
 refine (HI.out _).mono ?_
 rintro e w1 ⟨rfl,hb1⟩
 have Hb1:=Lib.hid (HB.out.trans (hb1.mono (by rw [HS.out];omega)))
 clear hb1
 go_wp2_with fail
 refine (HN.out _).mono ?_
 rintro e w2 ⟨rfl,rfl⟩
 go_wp2_with fail
 go_ret
 exact HF.out _ _ rfl Hb1.out
theorem zG5 (x:CfgC) (w:World) (h1:TableP.headOk x.plain) (h2:12 < x.pn∨24 < x.qn∨24 < x.rn) (h:CfgIn w x) :
 Calls Tryz.prog 60 #[x.value] w (CheckPost (TableP.chk x.plain) w):=by
 have e:TableP.chk x.plain=some (3,-1):=by
  unfold TableP.chk
  rw [if_pos h1,if_pos (show 12 < x.plain.parts.length∨24 < x.plain.ports.length∨24 < x.plain.routes.length by have:=h.plen;have:=h.qlen;have:=h.rlen;simp only [CfgC.plain];omega)]
 rw [e];clear e
 have HF:=Lib.hid (fun W N hN=>zj1 w W 3 (-1) N hN (by omega) (by omega))
 have HB:=Lib.hid (zb1 w x)
 have HS:=Lib.hid (zb7 w x)
 have HX:=Lib.hid (fun wr hb=>box11 (w:=w) (wr:=wr) (x:=x) (t:=26) hb)
 have HI:Hid (∀ W,Calls Tryz.prog 84 #[x.value] W (BoolPost true W)):=Lib.hid fun W=>by have:=zk6 x W;rwa [decide_eq_true h1] at this
 clear h
 obtain ⟨nodes,faulty,slot,gap,rho,dmin,dmax,margin,PA,pn,pcap,parts,QA,qn,qcap,ports,RA,rn,rcap,routes⟩:=x
 have HN:=Lib.hid (fun W=>zd4 3 (-1) W rfl)
 rw [zf9 (-1) (by omega)] at HN
 simp only [CfgC.value] at HI ⊢
 simp only [boxC,cfgCells] at HB HS HX
 simp only at h2
 clear h1
 go_enter Tryz.func60,Tryz.ntmps60
 go_wp2_with fail
 refine (HI.out _).mono ?_
 rintro e w1 ⟨rfl,hb1⟩
 obtain ⟨-,-,-,-,-,-,-,-,k8,k9,k10⟩:=HX.out w1 hb1
 simp only at k8 k9 k10
 have Hb1:=Lib.hid (HB.out.trans (hb1.mono (by rw [HS.out];omega)))
 clear hb1 HX
 by_cases h3:12 < pn
 case pos=>
  have q:decide ((12:Int) < pn)=true:=decide_eq_true (by omega)
  clear h2 h3
  go_wp2_with fail
  refine (HN.out _).mono ?_
  rintro e w2 ⟨rfl,rfl⟩
  go_wp2_with fail
  go_ret
  exact HF.out _ _ rfl Hb1.out
 have q:decide ((12:Int) < pn)=false:=decide_eq_false (by omega)
 by_cases h4:24 < qn
 case pos=>
  have q2:decide ((24:Int) < qn)=true:=decide_eq_true (by omega)
  clear h2 h3 h4
  go_wp2_with fail
  refine (HN.out _).mono ?_
  rintro e w2 ⟨rfl,rfl⟩
  go_wp2_with fail
  go_ret
  exact HF.out _ _ rfl Hb1.out
 have q2:decide ((24:Int) < qn)=false:=decide_eq_false (by omega)
 have q3:decide ((24:Int) < rn)=true:=decide_eq_true (by omega)
 clear h2 h3 h4
 go_wp2_with fail
 refine (HN.out _).mono ?_
 rintro e w2 ⟨rfl,rfl⟩
 go_wp2_with fail
 go_ret
 exact HF.out _ _ rfl Hb1.out
theorem zx4 {x:CfgC} (h1:TableP.headOk x.plain) (h2:¬ (12 < x.pn∨24 < x.qn∨24 < x.rn)) (hp:x.parts.length=x.pn) (hq:x.ports.length=x.qn) (hr:x.routes.length=x.rn) :
 (∀ e,TableP.first (TableP.partOk x.nodes) 2 0 x.parts=some e→TableP.chk x.plain=some e) ∧
 (TableP.first (TableP.partOk x.nodes) 2 0 x.parts=none→(∀ e,TableP.first (TableP.portOk x.pn) 8 0 x.ports=some e→TableP.chk x.plain=some e) ∧
  (TableP.first (TableP.portOk x.pn) 8 0 x.ports=none→TableP.chk x.plain=TableP.first (TableP.routeOk x.qn) 72 0 x.routes)):=by
 have hchk:TableP.chk x.plain=match TableP.first (TableP.partOk x.nodes) 2 0 x.parts with
  | some e=>some e
  | none=>match TableP.first (TableP.portOk x.pn) 8 0 x.ports with
   | some e=>some e
   | none=>TableP.first (TableP.routeOk x.qn) 72 0 x.routes:=by
  unfold TableP.chk
  rw [if_pos h1,if_neg (show ¬ (12 < x.plain.parts.length∨24 < x.plain.ports.length∨24 < x.plain.routes.length) by simp only [CfgC.plain];omega)]
  simp only [CfgC.plain,hp,hq]
  rfl
 refine ⟨fun e he=>by rw [hchk,he],fun hn=>⟨fun e he=>by rw [hchk,hn];simp only [he],fun he=>by rw [hchk,hn];simp only [he]⟩⟩
def ChkRel {α:Type} (ok:α→Prop) [DecidablePred ok] (code:Nat) (l:List α) (n:Nat) (W:World) (i:Value) (wr:World):Prop:=
 ∃ k,k≤n∧i = .int .i64 (k:Nat)∧TableP.first ok code k (l.drop k)=TableP.first ok code 0 l∧Below W.heap.size W wr
open Go.RowKit
set_option maxRecDepth 100000
set_option maxHeartbeats 4000000 in
theorem zG6 (x:CfgC) (w:World) (h:CfgIn w x) (h1:TableP.headOk x.plain) (h2:¬ (12 < x.pn∨24 < x.qn∨24 < x.rn)) :
 Calls Tryz.prog 60 #[x.value] w (CheckPost (TableP.chk x.plain) w):=by
 have HFr:=Lib.hid h
 obtain ⟨hs1,hs2⟩:=zx4 h1 h2 h.plen h.qlen h.rlen
 have HE1:=Lib.hid hs1
 have HE2:=Lib.hid hs2
 clear hs1 hs2
 have HX:=Lib.hid (fun wr hb=>box11 (w:=w) (wr:=wr) (x:=x) (t:=26) hb)
 have HB:=Lib.hid (zb1 w x)
 have HS:=Lib.hid (zb7 w x)
 have HEP:=Lib.hid (fun c p W N hN hc hp=>zj1 w W c p N hN hc hp)
 have HI:Hid (∀ W,Calls Tryz.prog 84 #[x.value] W (BoolPost true W)):=Lib.hid fun W=>by have:=zk6 x W;rwa [decide_eq_true h1] at this
 have hn7:0≤x.nodes∧x.nodes≤7:=by have:=h1.1;simp only [TableP.up,CfgC.plain] at this;omega
 have hpl:=h.plen
 have hql:=h.qlen
 have hrl:=h.rlen
 generalize TableP.chk x.plain=R at *
 clear h h1
 obtain ⟨nodes,faulty,slot,gap,rho,dmin,dmax,margin,PA,pn,pcap,parts,QA,qn,qcap,ports,RA,rn,rcap,routes⟩:=x
 simp only [CfgC.value] at HI ⊢
 simp only [boxC,cfgCells] at HB HS HX
 simp only at h2 HE1 HE2 hpl hql hrl hn7
 obtain ⟨nd,rfl⟩:=Int.eq_ofNat_of_zero_le hn7.1
 have q1:decide ((12:Int) < pn)=false:=decide_eq_false (by omega)
 have q2:decide ((24:Int) < qn)=false:=decide_eq_false (by omega)
 have q3:decide ((24:Int) < rn)=false:=decide_eq_false (by omega)
 have hp12:pn≤12:=by omega
 have hq24:qn≤24:=by omega
 have hr24:rn≤24:=by omega
 have hnd:nd≤7:=by omega
 clear h2 hn7
 go_enter Tryz.func60,Tryz.ntmps60
 go_wp2_with fail
 refine (HI.out _).mono ?_
 rintro e w1 ⟨rfl,hb1⟩
 have Hb1:=Lib.hid hb1
 obtain ⟨k0,-,-,-,-,-,-,-,k8,k9,k10⟩:=HX.out w1 hb1
 simp only at k0 k8 k9 k10
 clear hb1 HI
 go_wp2_with fail
 have HST:=Lib.hid Hb1.out
 clear Hb1 k0 k8 k9 k10 q1 q2 q3
 go_loopw [33] (ChkRel (TableP.partOk (nd:Int)) 2 parts pn (w.alloc (.cells #[.int .i64 (nd:Nat),.int .i64 faulty,.int .i64 slot,.int .i64 gap,.int .i64 rho,.int .i64 dmin,.int .i64 dmax,.int .i64 margin,.slice PA pn pcap,.slice QA qn qcap,.slice RA rn rcap] 26))) (fun i _=>(pn + 1 - intOf i).toNat)
 case atStart=>exact ⟨0,Nat.zero_le _,rfl,rfl,HST.out⟩
 case round=>
  clear HST
  obtain ⟨k,hk,rfl,hck,hb⟩:=hrel
  have Hb:=Lib.hid hb
  have Hck:=Lib.hid hck
  have hbw:Below w.heap.size w wr:=HB.out.trans (hb.mono (by rw [HS.out];omega))
  have Hbw:=Lib.hid hbw
  have Hfr:=Lib.hid (HFr.out.below hbw)
  obtain ⟨k0,-,-,-,-,-,-,-,k8,k9,k10⟩:=HX.out wr hb
  simp only at k0 k8 k9 k10
  have kA:∀ o,(wr.alloc o).cell? ⟨w.heap.size,0,none⟩=some (.int .i64 (nd:Nat)):=fun o=>(HX.out _ (hb.alloc hb.size o)).c0
  clear hbw hb hck
  by_cases hlt:k < pn
  ·obtain ⟨y,hmk⟩:∃ y,parts[k]? = some y:=⟨_,List.getElem?_eq_getElem (by omega)⟩
   obtain ⟨b,off,e,hbl,c0,c1,c2,c3,c4,c5,c6,c7,c8⟩:=zf0 Hfr.out.parts hmk
   simp only at e
   have Hst:=Lib.hid (zf6 (ok:=TableP.partOk (nd:Int)) (code:=2) hmk)
   have HP:=Lib.hid (fun W=>zp5 y nd hnd W)
   have Hnx:Hid (TableP.partOk (nd:Int) y→∀ W,Below wr.heap.size wr W→ChkRel (TableP.partOk (nd:Int)) 2 parts pn (w.alloc (.cells #[.int .i64 (nd:Nat),.int .i64 faulty,.int .i64 slot,.int .i64 gap,.int .i64 rho,.int .i64 dmin,.int .i64 dmax,.int .i64 margin,.slice PA pn pcap,.slice QA qn qcap,.slice RA rn rcap] 26)) (.int .i64 ((k:Int) + 1)) W):=Lib.hid fun hy W hW=>by
    refine ⟨k + 1,by omega,by go_num,?_,Hb.out.trans (hW.mono Hb.out.size)⟩
    rw [← Hck.out,Hst.out,if_pos hy]
   have Hbad:Hid (¬ TableP.partOk (nd:Int) y→∀ W N,N=W.heap.size→Below wr.heap.size wr W→CheckPost R w (.returned (.iface 190 (.pointer (some ⟨N,0,none⟩)))) (W.alloc (.cells #[.int .i64 2,.int .i64 k,.nilIface] 192))):=Lib.hid fun hy W N hN hW=>by
    have h0:=Hck.out
    rw [Hst.out,if_neg hy] at h0
    rw [HE1.out _ h0.symm]
    exact HEP.out 2 k W N hN (by omega) (by omega) (Hbw.out.trans (hW.mono Hbw.out.size))
   have HN:=Lib.hid (fun W=>zd4 2 (k:Int) W rfl)
   rw [zf9 (k:Int) (by omega)] at HN
   clear hmk Hst Hfr
   subst e
   by_cases hy:TableP.partOk (nd:Int) y
   case pos=>
    have HR0:=Lib.hid (Hnx.out hy)
    rw [decide_eq_true hy] at HP
    obtain ⟨node,start,length,budget,words,r0,r1,r2,r3⟩:=y
    simp only at c0 c1 c2 c3 c4 c5 c6 c7 c8
    simp only [partVals] at HP
    clear Hnx Hbad hy HN
    go_wp2_with fail
    refine (HP.out _).mono ?_
    rintro e w1 ⟨rfl,hb1⟩
    have Hb1:=Lib.hid hb1
    clear hb1
    go_wp2_with fail
    go_roundw
    case rel=>exact HR0.out _ (((Below.refl _ _).alloc (Nat.le_refl _) _).trans (Hb1.out.mono (by simp)))
    case measure=>simp [intOf];omega
   have HR0:=Lib.hid (Hbad.out hy)
   rw [decide_eq_false hy] at HP
   obtain ⟨node,start,length,budget,words,r0,r1,r2,r3⟩:=y
   simp only at c0 c1 c2 c3 c4 c5 c6 c7 c8
   simp only [partVals] at HP
   clear Hnx Hbad hy
   go_wp2_with fail
   refine (HP.out _).mono ?_
   rintro e w1 ⟨rfl,hb1⟩
   have Hb1:=Lib.hid hb1
   clear hb1
   go_wp2_with fail
   refine (HN.out _).mono ?_
   rintro e w2 ⟨rfl,rfl⟩
   go_wp2_with fail
   go_ret
   exact HR0.out _ _ rfl (((Below.refl _ _).alloc (Nat.le_refl _) _).trans (Hb1.out.mono (by simp)))
  have hkn:pn=k:=by omega
  have hnone:TableP.first (TableP.partOk (nd:Int)) 2 0 parts=none:=by
   rw [← Hck.out];exact zg8 (by omega)
  obtain ⟨hs1,hs2⟩:=HE2.out hnone
  have HE3:=Lib.hid hs1
  have HE4:=Lib.hid hs2
  clear HE1 HE2 hs1 hs2 hnone Hck kA
  have HST:=Lib.hid Hb.out
  clear Hb Hbw Hfr
  subst hkn
  go_wp2_with fail
  clear k0 k8 k9 k10
  go_loopw [49] (ChkRel (TableP.portOk pn) 8 ports qn (w.alloc (.cells #[.int .i64 (nd:Nat),.int .i64 faulty,.int .i64 slot,.int .i64 gap,.int .i64 rho,.int .i64 dmin,.int .i64 dmax,.int .i64 margin,.slice PA pn pcap,.slice QA qn qcap,.slice RA rn rcap] 26))) (fun i _=>(qn + 1 - intOf i).toNat)
  case atStart=>exact ⟨0,Nat.zero_le _,rfl,rfl,HST.out⟩
  case round=>
   clear HST
   obtain ⟨k,hk,rfl,hck,hb⟩:=hrel
   have Hb:=Lib.hid hb
   have Hck:=Lib.hid hck
   have hbw:Below w.heap.size w wr:=HB.out.trans (hb.mono (by rw [HS.out];omega))
   have Hbw:=Lib.hid hbw
   have Hfr:=Lib.hid (HFr.out.below hbw)
   obtain ⟨k0,-,-,-,-,-,-,-,k8,k9,k10⟩:=HX.out wr hb
   simp only at k0 k8 k9 k10
   have kA:∀ o,(wr.alloc o).cell? ⟨w.heap.size,8,none⟩=some (.slice PA pn pcap):=fun o=>(HX.out _ (hb.alloc hb.size o)).c8
   clear hbw hb hck
   by_cases hlt:k < qn
   ·obtain ⟨y,hmk⟩:∃ y,ports[k]? = some y:=⟨_,List.getElem?_eq_getElem (by omega)⟩
    obtain ⟨b,off,e,hbl,c0,c1,c2,c3,c4,c5⟩:=zh2 Hfr.out.ports hmk
    simp only at e
    have Hst:=Lib.hid (zf6 (ok:=TableP.portOk pn) (code:=8) hmk)
    have HP:=Lib.hid (fun W=>zG3 y pn hp12 W)
    have Hnx:Hid (TableP.portOk pn y→∀ W,Below wr.heap.size wr W→ChkRel (TableP.portOk pn) 8 ports qn (w.alloc (.cells #[.int .i64 (nd:Nat),.int .i64 faulty,.int .i64 slot,.int .i64 gap,.int .i64 rho,.int .i64 dmin,.int .i64 dmax,.int .i64 margin,.slice PA pn pcap,.slice QA qn qcap,.slice RA rn rcap] 26)) (.int .i64 ((k:Int) + 1)) W):=Lib.hid fun hy W hW=>by
     refine ⟨k + 1,by omega,by go_num,?_,Hb.out.trans (hW.mono Hb.out.size)⟩
     rw [← Hck.out,Hst.out,if_pos hy]
    have Hbad:Hid (¬ TableP.portOk pn y→∀ W N,N=W.heap.size→Below wr.heap.size wr W→CheckPost R w (.returned (.iface 190 (.pointer (some ⟨N,0,none⟩)))) (W.alloc (.cells #[.int .i64 8,.int .i64 k,.nilIface] 192))):=Lib.hid fun hy W N hN hW=>by
     have h0:=Hck.out
     rw [Hst.out,if_neg hy] at h0
     rw [HE3.out _ h0.symm]
     exact HEP.out 8 k W N hN (by omega) (by omega) (Hbw.out.trans (hW.mono Hbw.out.size))
    have HN:=Lib.hid (fun W=>zd4 8 (k:Int) W rfl)
    rw [zf9 (k:Int) (by omega)] at HN
    clear hmk Hst Hfr
    subst e
    by_cases hy:TableP.portOk pn y
    case pos=>
     have HR0:=Lib.hid (Hnx.out hy)
     rw [decide_eq_true hy] at HP
     obtain ⟨part,kind,out,size,depth,fresh⟩:=y
     simp only at c0 c1 c2 c3 c4 c5
     simp only [portVals] at HP
     clear Hnx Hbad hy HN
     go_wp2_with fail
     refine (HP.out _).mono ?_
     rintro e w1 ⟨rfl,hb1⟩
     have Hb1:=Lib.hid hb1
     clear hb1
     go_wp2_with fail
     go_roundw
     case rel=>exact HR0.out _ (((Below.refl _ _).alloc (Nat.le_refl _) _).trans (Hb1.out.mono (by simp)))
     case measure=>simp [intOf];omega
    have HR0:=Lib.hid (Hbad.out hy)
    rw [decide_eq_false hy] at HP
    obtain ⟨part,kind,out,size,depth,fresh⟩:=y
    simp only at c0 c1 c2 c3 c4 c5
    simp only [portVals] at HP
    clear Hnx Hbad hy
    go_wp2_with fail
    refine (HP.out _).mono ?_
    rintro e w1 ⟨rfl,hb1⟩
    have Hb1:=Lib.hid hb1
    clear hb1
    go_wp2_with fail
    refine (HN.out _).mono ?_
    rintro e w2 ⟨rfl,rfl⟩
    go_wp2_with fail
    go_ret
    exact HR0.out _ _ rfl (((Below.refl _ _).alloc (Nat.le_refl _) _).trans (Hb1.out.mono (by simp)))
   have hkn:qn=k:=by omega
   have hnone:TableP.first (TableP.portOk pn) 8 0 ports=none:=by
    rw [← Hck.out];exact zg8 (by omega)
   have hR:=HE4.out hnone
   subst hR
   clear HE3 HE4 hnone Hck kA
   subst hkn
   have HST:=Lib.hid Hb.out
   clear Hb Hbw Hfr
   go_wp2_with fail
   clear k0 k8 k9 k10
   go_loopw [66] (ChkRel (TableP.routeOk qn) 72 routes rn (w.alloc (.cells #[.int .i64 (nd:Nat),.int .i64 faulty,.int .i64 slot,.int .i64 gap,.int .i64 rho,.int .i64 dmin,.int .i64 dmax,.int .i64 margin,.slice PA pn pcap,.slice QA qn qcap,.slice RA rn rcap] 26))) (fun i _=>(rn + 1 - intOf i).toNat)
   case atStart=>exact ⟨0,Nat.zero_le _,rfl,rfl,HST.out⟩
   case round=>
    clear HST
    obtain ⟨k,hk,rfl,hck,hb⟩:=hrel
    have Hb:=Lib.hid hb
    have Hck:=Lib.hid hck
    have hbw:Below w.heap.size w wr:=HB.out.trans (hb.mono (by rw [HS.out];omega))
    have Hbw:=Lib.hid hbw
    have Hfr:=Lib.hid (HFr.out.below hbw)
    obtain ⟨k0,-,-,-,-,-,-,-,k8,k9,k10⟩:=HX.out wr hb
    simp only at k0 k8 k9 k10
    have kA:∀ o,(wr.alloc o).cell? ⟨w.heap.size,9,none⟩=some (.slice QA qn qcap):=fun o=>(HX.out _ (hb.alloc hb.size o)).c9
    clear hbw hb hck
    by_cases hlt:k < rn
    ·obtain ⟨⟨src,dst⟩,hmk⟩:∃ y,routes[k]? = some y:=⟨_,List.getElem?_eq_getElem (by omega)⟩
     obtain ⟨b,off,e,hbl,c0,c1⟩:=zg7 Hfr.out.routes hmk
     simp only at e c0 c1
     have Hst:=Lib.hid (zf6 (ok:=TableP.routeOk qn) (code:=72) hmk)
     have P0:=Lib.hid (fun W=>zj0 src qn (by omega) W)
     have P1:=Lib.hid (fun W=>zj0 dst qn (by omega) W)
     have Hnx:Hid (TableP.routeOk qn ⟨src,dst⟩→∀ W,Below wr.heap.size wr W→ChkRel (TableP.routeOk qn) 72 routes rn (w.alloc (.cells #[.int .i64 (nd:Nat),.int .i64 faulty,.int .i64 slot,.int .i64 gap,.int .i64 rho,.int .i64 dmin,.int .i64 dmax,.int .i64 margin,.slice PA pn pcap,.slice QA qn qcap,.slice RA rn rcap] 26)) (.int .i64 ((k:Int) + 1)) W):=Lib.hid fun hy W hW=>by
      refine ⟨k + 1,by omega,by go_num,?_,Hb.out.trans (hW.mono Hb.out.size)⟩
      rw [← Hck.out,Hst.out,if_pos hy]
     have Hbad:Hid (¬ TableP.routeOk qn ⟨src,dst⟩→∀ W N,N=W.heap.size→Below wr.heap.size wr W→CheckPost (TableP.first (TableP.routeOk qn) 72 0 routes) w (.returned (.iface 190 (.pointer (some ⟨N,0,none⟩)))) (W.alloc (.cells #[.int .i64 72,.int .i64 k,.nilIface] 192))):=Lib.hid fun hy W N hN hW=>by
      have h0:=Hck.out
      rw [Hst.out,if_neg hy] at h0
      rw [← h0]
      exact HEP.out 72 k W N hN (by omega) (by omega) (Hbw.out.trans (hW.mono Hbw.out.size))
     have HN:=Lib.hid (fun W=>zd4 72 (k:Int) W rfl)
     rw [zf9 (k:Int) (by omega)] at HN
     clear hmk Hst Hfr
     subst e
     go_wp2_with fail
     refine (P0.out _).mono ?_
     rintro e w1 ⟨rfl,rfl⟩
     by_cases h0:TableP.up src 0 ((qn:Int) - 1)
     case neg=>
      have HR0:=Lib.hid (Hbad.out (fun h=>h0 h.1))
      rw [decide_eq_false h0]
      clear Hnx Hbad h0
      go_wp2_with fail
      refine (HN.out _).mono ?_
      rintro e w2 ⟨rfl,rfl⟩
      go_wp2_with fail
      go_ret
      exact HR0.out _ _ (by simp) ((Below.refl _ _).alloc (Nat.le_refl _) _)
     rw [decide_eq_true h0]
     have K0:=Lib.hid h0
     clear h0
     go_wp2_with fail
     refine (P1.out _).mono ?_
     rintro e w1 ⟨rfl,rfl⟩
     by_cases h1:TableP.up dst 0 ((qn:Int) - 1)
     case neg=>
      have HR0:=Lib.hid (Hbad.out (fun h=>h1 h.2))
      rw [decide_eq_false h1]
      clear Hnx Hbad h1
      go_wp2_with fail
      refine (HN.out _).mono ?_
      rintro e w2 ⟨rfl,rfl⟩
      go_wp2_with fail
      go_ret
      exact HR0.out _ _ (by simp) ((Below.refl _ _).alloc (Nat.le_refl _) _)
     rw [decide_eq_true h1]
     have HR0:=Lib.hid (Hnx.out ⟨K0.out,h1⟩)
     clear Hnx Hbad h1 HN
     go_wp2_with fail
     go_roundw
     case rel=>exact HR0.out _ ((Below.refl _ _).alloc (Nat.le_refl _) _)
     case measure=>simp [intOf];omega
    have hkn:rn=k:=by omega
    have hnone:TableP.first (TableP.routeOk qn) 72 0 routes=none:=by
     rw [← Hck.out];exact zg8 (by omega)
    have HF:Hid (CheckPost (TableP.first (TableP.routeOk qn) 72 0 routes) w (.returned .nilIface) wr):=Lib.hid (by rw [hnone];exact ErrPost.ok Hbw.out)
    subst hkn
    clear hnone
    go_wp2_with fail
    go_ret
    exact HF.out
theorem zx5 (x:CfgC) (w:World) (h:CfgIn w x) :
 Calls Tryz.prog 60 #[x.value] w (CheckPost (TableP.chk x.plain) w):=by
 by_cases h1:TableP.headOk x.plain
 ·by_cases h2:12 < x.pn∨24 < x.qn∨24 < x.rn
  ·exact zG5 x w h1 h2 h
  ·exact zG6 x w h h1 h2
 ·exact zG4 x w h1
open Go.RowKit
set_option maxRecDepth 100000
theorem zG7 (W:World) (B N size:Nat) (e:TypeId) (hN:N=W.heap.size) (hB:B≤W.heap.size):(W.alloc (.cells #[] e)).ownsRow B e size (.slice (some ⟨N,0,none⟩) 0 0) 0 []:=by
 subst hN
 exact World.ownsRow_lit (base:=B) (e:=e) (size:=size) W #[] 0 hB (by unfold maxLen;omega) (by simp)
open Go.RowKit
set_option maxRecDepth 100000
theorem zE2 {w:World} {A:Option Addr} {n cap:Nat} {l:List UInt8} (hn:l.length=n) (h:Bytes w w.heap.size A l):(convert 89 9 (.slice A n cap)).run Tryz.prog w = .ok (.string ⟨l.toArray⟩) w:=
 zt1 w 89 5 Tryz.underlying89 Tryz.underlying5 w.heap.size A l n cap hn h 9 Tryz.underlying9
def SameRel (n:Nat) (W:World) (i:Value) (wr:World):Prop:=∃ k m,k≤n∧i = .int .i64 (k:Nat)∧wr=W.drewN m
def SamePost (W:World) (e:Ending) (w':World):Prop:=e = .returned (.bool true)∧∃ m,w'=W.drewN m
set_option maxHeartbeats 1000000 in
theorem zn3 (A A2:Option Addr) (n cap cap2:Nat) (l:List FrameP.Rec) (hn:l.length=n) (w:World) (h1:RecsIn w A l) (h2:RecsIn w A2 l) (hm:n≤140737488355328) :
 Calls Tryz.prog 21 #[.slice A n cap,.slice A2 n cap2] w (SamePost w):=by
 have H1:=Lib.hid h1
 have H2:=Lib.hid h2
 have Hn:=Lib.hid hn
 clear h1 h2 hn
 go_enter Tryz.func21,Tryz.ntmps21
 go_wp2_with fail
 go_loopw [5] (SameRel n w) (fun i _=>(n + 1 - intOf i).toNat)
 case atStart=>exact ⟨0,0,Nat.zero_le _,rfl,rfl⟩
 case round=>
  obtain ⟨k,m,hk,rfl,rfl⟩:=hrel
  by_cases hlt:k < n
  ·obtain ⟨b,off,rfl,hb,hi⟩:=H1.out (by rw [Hn.out];omega)
   obtain ⟨b',off',rfl,hb',hi'⟩:=H2.out (by rw [Hn.out];omega)
   obtain ⟨y,hmk⟩:∃ y,l[k]? = some y:=⟨_,List.getElem?_eq_getElem (by rw [Hn.out];exact hlt)⟩
   obtain ⟨k0,k1,k2,k3,k4⟩:=hi k _ hmk
   obtain ⟨j0,j1,j2,j3,j4⟩:=hi' k _ hmk
   clear hi hi' hmk
   go_wp2_with fail
   go_quiet (fail)
   go_wp2_with fail
   go_roundw
   case rel=>exact ⟨k + 1,_,by omega,by go_num,rfl⟩
   case measure=>simp [intOf];omega
  ·go_wp2_with fail
   go_ret
   exact ⟨rfl,m,rfl⟩
theorem zN1 {l l2:List MsgC} (h:l.map MsgC.plain=l2.map MsgC.plain) {k:Nat} {x y:MsgC} (hx:l[k]? = some x) (hy:l2[k]? = some y):x.port=y.port∧x.data=y.data:=by
 have h1:(l.map MsgC.plain)[k]? = some x.plain:=by rw [List.getElem?_map,hx];rfl
 have h2:(l2.map MsgC.plain)[k]? = some y.plain:=by rw [List.getElem?_map,hy];rfl
 rw [h,h2] at h1
 injection h1 with h1
 simp only [MsgC.plain,FrameP.Msg.mk.injEq] at h1
 exact ⟨h1.1.symm,h1.2.symm⟩
set_option maxHeartbeats 1000000 in
theorem zx6 (A A2:Option Addr) (n cap cap2:Nat) (l l2:List MsgC) (hn:l.length=n) (hp:l.map MsgC.plain=l2.map MsgC.plain) (w:World) (h1:MsgsIn w A l) (h2:MsgsIn w A2 l2) (hm:n≤140737488355328) :
 Calls Tryz.prog 18 #[.slice A n cap,.slice A2 n cap2] w (SamePost w):=by
 have H1:=Lib.hid h1
 have H2:=Lib.hid h2
 have Hn:=Lib.hid hn
 have Hp:=Lib.hid hp
 have Hn2:Hid (l2.length=n):=Lib.hid (by have:=congrArg List.length hp;simp at this;omega)
 clear h1 h2 hn hp
 go_enter Tryz.func18,Tryz.ntmps18
 go_wp2_with fail
 go_loopw [5] (SameRel n w) (fun i _=>(n + 1 - intOf i).toNat)
 case atStart=>exact ⟨0,0,Nat.zero_le _,rfl,rfl⟩
 case round=>
  obtain ⟨k,m,hk,rfl,rfl⟩:=hrel
  by_cases hlt:k < n
  ·obtain ⟨b,off,rfl,hb,hi⟩:=H1.out (by rw [Hn.out];omega)
   obtain ⟨b',off',rfl,hb',hi'⟩:=H2.out (by rw [Hn2.out];omega)
   obtain ⟨⟨p,D,q,c,t⟩,hmk⟩:∃ y,l[k]? = some y:=⟨_,List.getElem?_eq_getElem (by rw [Hn.out];exact hlt)⟩
   obtain ⟨⟨p',D',q',c',t'⟩,hmk'⟩:∃ y,l2[k]? = some y:=⟨_,List.getElem?_eq_getElem (by rw [Hn2.out];exact hlt)⟩
   obtain ⟨kp,kt,ok1,ok2,ok3,ok4,ok5⟩:=hi k _ hmk
   obtain ⟨kp',kt',ok1',ok2',ok3',ok4',ok5'⟩:=hi' k _ hmk'
   obtain ⟨e1,e2⟩:=zN1 Hp.out hmk hmk'
   simp only at kp kt ok1 ok2 ok3 ok4 ok5 kp' kt' ok1' ok2' ok3' ok4' ok5' e1 e2
   subst e1 e2
   have c1:∀ j,(convert 89 9 (.slice D q c)).run Tryz.prog (w.drewN j) = .ok (.string ⟨t.toArray⟩) (w.drewN j):=fun j=>zE2 ok1 ok4
   have c2:∀ j,(convert 89 9 (.slice D' q' c')).run Tryz.prog (w.drewN j) = .ok (.string ⟨t.toArray⟩) (w.drewN j):=fun j=>zE2 ok1' ok4'
   clear hi hi' hmk hmk' ok1 ok4 ok1' ok4'
   go_wp2_with fail
   go_quiet (fail)
   go_wp2_with fail
   go_roundw
   case rel=>exact ⟨k + 1,_,by omega,by go_num,rfl⟩
   case measure=>simp [intOf];omega
  ·go_wp2_with fail
   go_ret
   exact ⟨rfl,m,rfl⟩
open Go.RowKit Go.Extern.Stop Go.Stop Go.Extern
set_option maxRecDepth 100000
theorem zx7 (w:World):Calls Tryz.prog 74 #[.nilIface] w fun e w'=>e = .returned (.bool true)∧w=w':=by
 go_enter Tryz.func74,Tryz.ntmps74
 go_wp2
 go_ret
 exact ⟨rfl,rfl⟩
theorem zx8 (v:Value) (h:isErr v) (w:World):Calls Tryz.prog 74 #[v] w fun e w'=>e = .returned (.bool false)∧w=w':=by
 have h1:=zw4
 have h2:=zw3
 rcases h with ⟨n,rfl⟩ | ⟨b,rfl⟩
 ·go_enter Tryz.func74,Tryz.ntmps74
  go_wp2
  go_ret
  exact ⟨rfl,rfl⟩
 ·go_enter Tryz.func74,Tryz.ntmps74
  go_wp2
  go_ret
  exact ⟨rfl,rfl⟩
def BoolH (b:Bool) (w:World) (e:Ending) (w':World):Prop:=e = .returned (.bool b)∧Below w.heap.size w w'
theorem hone_any (B:Nat) (l:List (Nat × Int × Int)) (t:Option Int) (code:Int) (N:Nat) (w:World) (hl:l.length≤1000000) (hB:B≤w.heap.size) (hin:ErrIn w t B l) (hN:w.heap[N]? = some (.cells #[errV l t] 58 (0,0))) :
 Calls Tryz.prog 103 #[.int .i64 code,.pointer (some ⟨N,0,none⟩)] w (BoolH (decide (code∈codes l t)) w):=by
 have H:=Lib.hid (zM8 B l t code w hl hB hin)
 obtain ⟨k0,-⟩:=cell0 hN
 have hv:=zb4 l t
 clear hin hN
 generalize errV l t=v at *
 generalize decide (code∈codes l t)=d at *
 rcases hv with rfl | ⟨m,rfl⟩ | ⟨b,rfl⟩
 all_goals
  go_enter Tryz.func103,Tryz.ntmps103
  go_wp2_with fail
  refine H.out.mono ?_
  rintro e w' ⟨rfl,hb⟩
  have Hb:=Lib.hid hb
  clear hb
  go_wp2_with fail
  go_ret
  exact ⟨rfl,Hb.out⟩
def anyOf (l:List (Nat × Int × Int)) (t:Option Int) (cs:List Int):Bool:=cs.any fun c=>decide (c∈codes l t)
def IdxH (b:Bool) (w:World) (e:Ending) (w':World):Prop:=∃ r:Int,e = .returned (.int .i64 r)∧decide (0≤r)=b∧Below w.heap.size w w'
def IdxHR (p:Int→Bool) (cs:List Int) (n:Nat) (W:World) (i:Value) (wr:World):Prop:=∃ k,k≤n∧i = .int .i64 (k:Nat)∧(cs.take k).any p=false∧Below W.heap.size W wr
theorem zN2 {α:Type} {l:List α} {p:α→Bool} {k:Nat} {y:α} (h:l[k]? = some y):(l.take (k + 1)).any p=((l.take k).any p || p y):=by
 rw [List.take_add_one,h,List.any_append]
 simp
set_option maxHeartbeats 1000000 in
theorem zG8 (B:Nat) (l:List (Nat × Int × Int)) (t:Option Int) (cs:List Int) (n M N:Nat) (w:World) (hl:l.length≤1000000) (hB:B≤w.heap.size) (hin:ErrIn w t B l) (hN:w.heap[N]? = some (.cells #[errV l t] 58 (0,0)))
 (hn:cs.length=n) (hn9:n≤9) (hM:w.heap[M]? = some (.cells (cs.map (Value.int .i64)).toArray 92 (0,0))) :
 Calls Tryz.prog 120 #[.slice (some ⟨M,0,none⟩) n n,.func (.func 103) #[] #[.pointer (some ⟨N,0,none⟩)]] w (IdxH (anyOf l t cs) w):=by
 have hlt:=lt_of_block hN
 have hmt:=lt_of_block hM
 have HC:Hid (∀ W c,Below w.heap.size w W→Calls Tryz.prog 103 #[.int .i64 c,.pointer (some ⟨N,0,none⟩)] W (BoolH (decide (c∈codes l t)) W)):=Lib.hid fun W c hb=>
  hone_any B l t c N W hl (Nat.le_trans hB hb.size) (hin.below hb hB) ((hb.block N hlt).trans hN)
 have HK:Hid (∀ W k c,Below w.heap.size w W→cs[k]? = some c→W.cell? ⟨M,k,none⟩=some (.int .i64 c)):=Lib.hid fun W k c hb hc=>
  za0 ((hb.block M hmt).trans hM) k (by rw [List.getElem?_toArray,List.getElem?_map,hc];rfl)
 have HST:=Lib.hid (Below.refl w.heap.size w)
 unfold anyOf
 clear hin hN hM hlt hmt hB hl
 generalize hpr:(fun c=>decide (c∈codes l t))=pr at *
 have hpd:∀ c,decide (c∈codes l t)=pr c:=fun c=>by rw [← hpr]
 simp only [hpd] at HC
 clear hpr hpd
 go_enter Tryz.func120,Tryz.ntmps120
 go_wp2_with fail
 go_loopw [8] (IdxHR pr cs n w) (fun i _=>(n + 1 - intOf i).toNat)
 case atStart=>exact ⟨0,Nat.zero_le _,rfl,rfl,HST.out⟩
 case round=>
  clear HST
  obtain ⟨k,hk,rfl,hnone,hb⟩:=hrel
  have Hb:=Lib.hid hb
  have Hno:=Lib.hid hnone
  clear hb hnone
  by_cases hlt:k < n
  ·obtain ⟨y,hmk⟩:∃ y,cs[k]? = some y:=⟨_,List.getElem?_eq_getElem (by omega)⟩
   have c0:=HK.out wr k y Hb.out hmk
   have HP:=Lib.hid (HC.out wr y Hb.out)
   have Hta:=Lib.hid (zN2 (p:=pr) hmk)
   have Hmem:=Lib.hid (List.mem_of_getElem? hmk)
   clear hmk
   by_cases hy:pr y=true
   case pos=>
    have HF:Hid (∀ W,Below wr.heap.size wr W→IdxH (cs.any pr) w (.returned (.int .i64 (k:Nat))) W):=Lib.hid fun W hW=>⟨k,rfl,by rw [List.any_eq_true.2 ⟨y,Hmem.out,hy⟩];simp,Hb.out.trans (hW.mono Hb.out.size)⟩
    rw [hy] at HP
    clear hy Hta Hmem
    go_wp2_with fail
    refine HP.out.mono ?_
    rintro e w1 ⟨rfl,hb1⟩
    have HF2:=Lib.hid (HF.out _ hb1)
    clear hb1
    go_wp2_with fail
    go_ret
    exact HF2.out
   have hy2:pr y=false:=by simpa using hy
   have HR:Hid (∀ W,Below wr.heap.size wr W→IdxHR pr cs n w (.int .i64 ((k:Int) + 1)) W):=Lib.hid fun W hW=>by
    refine ⟨k + 1,by omega,by go_num,?_,Hb.out.trans (hW.mono Hb.out.size)⟩
    rw [Hta.out,Hno.out,hy2];rfl
   rw [hy2] at HP
   clear hy hy2 Hta Hmem
   go_wp2_with fail
   refine HP.out.mono ?_
   rintro e w1 ⟨rfl,hb1⟩
   have HR2:=Lib.hid (HR.out _ hb1)
   clear hb1
   go_wp2_with fail
   go_roundw
   case rel=>exact HR2.out
   case measure=>simp [intOf];omega
  have hkn:n=k:=by omega
  have HF:Hid (IdxH (cs.any pr) w (.returned (.int .i64 (-1))) wr):=Lib.hid ⟨-1,rfl,by
   have h0:=Hno.out
   rw [List.take_of_length_le (by omega)] at h0
   rw [h0];rfl,Hb.out⟩
  subst hkn
  go_wp2_with fail
  go_ret
  exact HF.out
theorem zu0 (B:Nat) (l:List (Nat × Int × Int)) (t:Option Int) (cs:List Int) (n M N:Nat) (w:World) (hl:l.length≤1000000) (hB:B≤w.heap.size) (hin:ErrIn w t B l) (hN:w.heap[N]? = some (.cells #[errV l t] 58 (0,0)))
 (hn:cs.length=n) (hn9:n≤9) (hM:w.heap[M]? = some (.cells (cs.map (Value.int .i64)).toArray 92 (0,0))) :
 Calls Tryz.prog 102 #[.slice (some ⟨M,0,none⟩) n n,.func (.func 103) #[] #[.pointer (some ⟨N,0,none⟩)]] w (BoolH (anyOf l t cs) w):=by
 have HC:=Lib.hid (zG8 B l t cs n M N w hl hB hin hN hn hn9 hM)
 clear hin hN hM
 generalize anyOf l t cs=bb at *
 go_enter Tryz.func102,Tryz.ntmps102
 go_wp2_with fail
 refine HC.out.mono ?_
 rintro e w1 ⟨r,rfl,rfl,hb1⟩
 have Hb:=Lib.hid hb1
 clear hb1
 go_wp2_with fail
 go_ret
 exact ⟨rfl,Hb.out⟩
theorem zA9 (B:Nat) (l:List (Nat × Int × Int)) (t:Option Int) (cs:List Int) (n M:Nat) (w:World) (hl:l.length≤1000000) (hB:B≤w.heap.size) (hin:ErrIn w t B l)
 (hn:cs.length=n) (hn9:n≤9) (hM:w.heap[M]? = some (.cells (cs.map (Value.int .i64)).toArray 92 (0,0))) :
 Calls Tryz.prog 75 #[errV l t,.slice (some ⟨M,0,none⟩) n n] w (BoolH (anyOf l t cs) w):=by
 have hmf:∀ (fn:Fn) (first cap:Array Value) (w:World),(Instr.makeFunc fn first cap).run Tryz.prog w = .ok (.func fn first cap) w:=fun _ _ _ _=>rfl
 have hb1:Below w.heap.size w (w.alloc (.cells #[errV l t] 58)):=(Below.refl _ _).alloc (Nat.le_refl _) _
 have HC:=Lib.hid (zu0 B l t cs n M w.heap.size (w.alloc (.cells #[errV l t] 58)) hl (Nat.le_trans hB hb1.size) (hin.below hb1 hB) (heap_alloc_new w _) hn hn9 ((hb1.block M (lt_of_block hM)).trans hM))
 have HB1:=Lib.hid hb1
 have hv:=zb4 l t
 clear hin hM hb1
 generalize anyOf l t cs=bb at *
 generalize errV l t=v at *
 rcases hv with rfl | ⟨m,rfl⟩ | ⟨b,rfl⟩
 all_goals
  go_enter Tryz.func75,Tryz.ntmps75
  go_wp2_with fail
  refine HC.out.mono ?_
  rintro e w1 ⟨rfl,hb2⟩
  have Hb:=Lib.hid (HB1.out.trans (hb2.mono HB1.out.size))
  clear hb2
  go_wp2_with fail
  go_ret
  exact ⟨rfl,Hb.out⟩
def kindI (cs:List Int):Option Nat:=
 if cs=[] then none
 else if 151∈cs then some 0
 else if 150∈cs then some 1
 else if 17∈cs∨13∈cs∨12∈cs then some 3
 else if 10∈cs∨11∈cs∨14∈cs then none
 else some 2
def kindV (o:Option Nat):Value:=.tuple #[.int .u8 (o.getD 0:Nat),.bool o.isSome]
def KindP (o:Option Nat) (w:World) (e:Ending) (w':World):Prop:=e = .returned (kindV o)∧Below w.heap.size w w'
theorem zh3 (l:List (Nat × Int × Int)) (t:Option Int):codes l t=[]↔errV l t = .nilIface:=by
 match l,t with
 | [],none=>simp [codes,errV]
 | [],some m=>simp [codes,errV]
 | (b,c,a) :: r,t=>simp [codes,errV]
theorem zl2 (B:Nat) (l:List (Nat × Int × Int)) (t:Option Int) (cs:List Int) (n:Nat) (w:World) (hl:l.length≤1000000) (hB:B≤w.heap.size) (hin:ErrIn w t B l) (hn:cs.length=n) (hn9:n≤9) (W:World) (hW:Below w.heap.size w W) (M:Nat) (hM:M=W.heap.size) (vs:Array Value) (hvs:vs=(cs.map (Value.int .i64)).toArray) :
 Calls Tryz.prog 75 #[errV l t,.slice (some ⟨M,0,none⟩) n n] (W.alloc (.cells vs 92)) (fun e w'=>e = .returned (.bool (anyOf l t cs))∧Below w.heap.size w w'):=by
 subst hM hvs
 have hb:Below w.heap.size w (W.alloc (.cells (cs.map (Value.int .i64)).toArray 92)):=hW.alloc hW.size _
 refine (zA9 B l t cs n W.heap.size _ hl (Nat.le_trans hB hb.size) (hin.below hb hB) hn hn9 (heap_alloc_new W _)).mono ?_
 rintro e w1 ⟨rfl,h1⟩
 exact ⟨rfl,hb.trans (h1.mono hb.size)⟩
set_option maxHeartbeats 1000000 in
theorem zN3 (B:Nat) (l:List (Nat × Int × Int)) (t:Option Int) (w:World) (hl:l.length≤1000000) (hB:B≤w.heap.size) (hin:ErrIn w t B l) :
 Calls Tryz.prog 48 #[errV l t] w (KindP (kindI (codes l t)) w):=by
 by_cases he:codes l t=[]
 ·have hk:kindI (codes l t)=none:=by unfold kindI;rw [if_pos he]
  rw [hk]
  have hv:=(zh3 l t).1 he
  have HF:Hid (KindP none w (.returned (.tuple #[.int .u8 0,.bool false])) w):=Lib.hid ⟨rfl,Below.refl _ _⟩
  rw [hv]
  clear he hk hv hin
  go_enter Tryz.func48,Tryz.ntmps48
  go_wp2_with fail
  refine (zx7 _).mono ?_
  rintro e w1 ⟨rfl,rfl⟩
  go_wp2_with fail
  go_ret2
  exact HF.out
 have HE:Hid (isErr (errV l t)):=Lib.hid (by
  rcases zb4 l t with h | ⟨m,h⟩ | ⟨b,h⟩
  ·exact absurd ((zh3 l t).2 h) he
  ·exact .inl ⟨_,h⟩
  ·exact .inr ⟨_,h⟩)
 have H1:=Lib.hid (zl2 B l t [151] 1 w hl hB hin rfl (by omega))
 have H2:=Lib.hid (zl2 B l t [150] 1 w hl hB hin rfl (by omega))
 have H3:=Lib.hid (zl2 B l t [17,13,12] 3 w hl hB hin rfl (by omega))
 have H4:=Lib.hid (zl2 B l t [10,11,14] 3 w hl hB hin rfl (by omega))
 have hk:kindI (codes l t)=if anyOf l t [151]=true then some 0 else if anyOf l t [150]=true then some 1 else if anyOf l t [17,13,12]=true then some 3 else if anyOf l t [10,11,14]=true then none else some 2:=by
  unfold kindI anyOf
  rw [if_neg he]
  simp only [List.any_cons,List.any_nil,Bool.or_false,Bool.or_eq_true,decide_eq_true_eq]
 have hv:=zb4 l t
 rw [hk]
 clear hk he hin
 generalize anyOf l t [151]=d1 at *
 generalize anyOf l t [150]=d2 at *
 generalize anyOf l t [17,13,12]=d3 at *
 generalize anyOf l t [10,11,14]=d4 at *
 generalize errV l t=v at *
 have HN:=Lib.hid (zx8 v HE.out w)
 have HB0:=Lib.hid (Below.refl w.heap.size w)
 have HF:Hid (∀ o x b W,kindV o = .tuple #[x,b]→Below w.heap.size w W→KindP o w (.returned (.tuple #[x,b])) W):=Lib.hid fun o x b W h1 h2=>⟨by rw [h1],h2⟩
 rcases hv with rfl | ⟨m,rfl⟩ | ⟨b,rfl⟩
 ·rcases HE.out with ⟨n,h⟩ | ⟨b,h⟩<;>cases h
 all_goals
  clear HE
  cases d1
  case true=>
   go_enter Tryz.func48,Tryz.ntmps48
   go_wp2_with fail
   refine HN.out.mono ?_
   rintro e w1 ⟨rfl,rfl⟩
   go_wp2_with fail
   refine (H1.out _ HB0.out _ rfl _ rfl).mono ?_
   rintro e w2 ⟨rfl,hb2⟩
   have Hb:=Lib.hid hb2
   clear hb2
   go_wp2_with fail
   go_ret2
   exact HF.out (some 0) _ _ _ rfl Hb.out
  cases d2
  case true=>
   go_enter Tryz.func48,Tryz.ntmps48
   go_wp2_with fail
   refine HN.out.mono ?_
   rintro e w1 ⟨rfl,rfl⟩
   go_wp2_with fail
   refine (H1.out _ HB0.out _ rfl _ rfl).mono ?_
   rintro e w2 ⟨rfl,hb2⟩
   have Hb2:=Lib.hid hb2
   clear hb2
   go_wp2_with fail
   refine (H2.out _ Hb2.out _ rfl _ rfl).mono ?_
   rintro e w3 ⟨rfl,hb3⟩
   have Hb:=Lib.hid hb3
   clear hb3
   go_wp2_with fail
   go_ret2
   exact HF.out (some 1) _ _ _ rfl Hb.out
  cases d3
  case true=>
   go_enter Tryz.func48,Tryz.ntmps48
   go_wp2_with fail
   refine HN.out.mono ?_
   rintro e w1 ⟨rfl,rfl⟩
   go_wp2_with fail
   refine (H1.out _ HB0.out _ rfl _ rfl).mono ?_
   rintro e w2 ⟨rfl,hb2⟩
   have Hb2:=Lib.hid hb2
   clear hb2
   go_wp2_with fail
   refine (H2.out _ Hb2.out _ rfl _ rfl).mono ?_
   rintro e w3 ⟨rfl,hb3⟩
   have Hb3:=Lib.hid hb3
   clear hb3
   go_wp2_with fail
   refine (H3.out _ Hb3.out _ rfl _ rfl).mono ?_
   rintro e w4 ⟨rfl,hb4⟩
   have Hb:=Lib.hid hb4
   clear hb4
   go_wp2_with fail
   go_ret2
   exact HF.out (some 3) _ _ _ rfl Hb.out
  cases d4
  case true=>
   go_enter Tryz.func48,Tryz.ntmps48
   go_wp2_with fail
   refine HN.out.mono ?_
   rintro e w1 ⟨rfl,rfl⟩
   go_wp2_with fail
   refine (H1.out _ HB0.out _ rfl _ rfl).mono ?_
   rintro e w2 ⟨rfl,hb2⟩
   have Hb2:=Lib.hid hb2
   clear hb2
   go_wp2_with fail
   refine (H2.out _ Hb2.out _ rfl _ rfl).mono ?_
   rintro e w3 ⟨rfl,hb3⟩
   have Hb3:=Lib.hid hb3
   clear hb3
   go_wp2_with fail
   refine (H3.out _ Hb3.out _ rfl _ rfl).mono ?_
   rintro e w4 ⟨rfl,hb4⟩
   have Hb4:=Lib.hid hb4
   clear hb4
   go_wp2_with fail
   refine (H4.out _ Hb4.out _ rfl _ rfl).mono ?_
   rintro e w5 ⟨rfl,hb5⟩
   have Hb:=Lib.hid hb5
   clear hb5
   go_wp2_with fail
   go_ret2
   exact HF.out none _ _ _ rfl Hb.out
  go_enter Tryz.func48,Tryz.ntmps48
  go_wp2_with fail
  refine HN.out.mono ?_
  rintro e w1 ⟨rfl,rfl⟩
  go_wp2_with fail
  refine (H1.out _ HB0.out _ rfl _ rfl).mono ?_
  rintro e w2 ⟨rfl,hb2⟩
  have Hb2:=Lib.hid hb2
  clear hb2
  go_wp2_with fail
  refine (H2.out _ Hb2.out _ rfl _ rfl).mono ?_
  rintro e w3 ⟨rfl,hb3⟩
  have Hb3:=Lib.hid hb3
  clear hb3
  go_wp2_with fail
  refine (H3.out _ Hb3.out _ rfl _ rfl).mono ?_
  rintro e w4 ⟨rfl,hb4⟩
  have Hb4:=Lib.hid hb4
  clear hb4
  go_wp2_with fail
  refine (H4.out _ Hb4.out _ rfl _ rfl).mono ?_
  rintro e w5 ⟨rfl,hb5⟩
  have Hb:=Lib.hid hb5
  clear hb5
  go_wp2_with fail
  go_ret2
  exact HF.out (some 2) _ _ _ rfl Hb.out
end Go.Proofs.YtfgpfmhjnccccaaGreatDoor
