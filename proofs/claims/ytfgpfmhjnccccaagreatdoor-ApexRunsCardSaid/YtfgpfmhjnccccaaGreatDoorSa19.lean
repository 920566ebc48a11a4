import Derived.Shelf.Sort.Plain
import Derived.Test.YtfgpfmhjnccccaaGreatDoorProg
import Derived.Lib.OwnBridge
import Derived.Lib.SliceRun
import Derived.BigQuiet
import Derived.Deep.CutBlock
import Derived.Deep.DeepCutAuto
import Derived.Laws.OwnMore
import Derived.Test.YtfgpfmhjnccccaaGreatDoorSa02
import Derived.Test.YtfgpfmhjnccccaaGreatDoorSa01
import Derived.Test.YtfgpfmhjnccccaaGreatDoorSa04
import Derived.Test.YtfgpfmhjnccccaaGreatDoorSa03
import Derived.Test.YtfgpfmhjnccccaaGreatDoorSa07
import Derived.Test.YtfgpfmhjnccccaaGreatDoorSa09
namespace Go.Proofs.YtfgpfmhjnccccaaGreatDoor
open Go.Shelf
open Go.RowKit Go.Sort
set_option maxRecDepth 100000
theorem infoInt:(Tryz.prog.info? 3).map (fun i=>(i.zero,i.size,i.bytes))=some (some (.int .i64 0),1,8):=by kernel_rfl
def intV (l:List Int):List Value:=l.map (Value.int .i64)
theorem zC3 (l m:List Int):intV (l ++ m)=intV l ++ intV m:=List.map_append
section
variable {W W':World} {A:Option Addr} {l:List Int}
end
open Go.RowKit Go.Sort
set_option maxRecDepth 100000
open Go.RowKit Go.Sort
set_option maxRecDepth 100000
open Go.RowKit
set_option maxRecDepth 100000
open Go.RowKit
set_option maxRecDepth 100000
open Go.RowKit PorP
set_option maxRecDepth 100000
structure PC where
 a:Nat
 g:Nat
 node:Int
 es:List El
def boxPre (c:TableP.Cfg) (p:TableP.Port) (tv:Value):List Value:=portVals p ++ [.int .i64 (nodeOf c p),tv]
structure PIn (W:World) (B:Nat) (c:TableP.Cfg) (x:PC):Prop where
 hd:W.heap[x.a]? = some (.cells #[.int .i64 x.node,.slice (some ⟨x.g,0,none⟩) x.es.length x.es.length] 124 (0,0))
 els:Els 8 130 true W B x.g x.es
 len:x.es.length=c.ports.length
 shape:∀ (i:Nat) (e:El) (p:TableP.Port),x.es[i]? = some e→c.ports[i]? = some p→∃ tv,e.pre=boxPre c p tv∧Seg W B 3 1 tv (toT c x.node i).length (intV (toT c x.node i))
 base:B≤x.a
structure BoxAt (W:World) (g o:Nat) (p:TableP.Port) (node:Int) (tv v:Value) (age:Nat):Prop where
 c0:W.cell? ⟨g,o,none⟩=some (.int .i64 p.part)
 c1:W.cell? ⟨g,o + 1,none⟩=some (.int .u8 (p.kind:Nat))
 c2:W.cell? ⟨g,o + 2,none⟩=some (.bool p.out)
 c3:W.cell? ⟨g,o + 3,none⟩=some (.int .i64 p.size)
 c4:W.cell? ⟨g,o + 4,none⟩=some (.int .i64 p.depth)
 c5:W.cell? ⟨g,o + 5,none⟩=some (.int .i64 p.fresh)
 c6:W.cell? ⟨g,o + 6,none⟩=some (.int .i64 node)
 c7:W.cell? ⟨g,o + 7,none⟩=some tv
 c8:W.cell? ⟨g,o + 8,none⟩=some v
 c9:W.cell? ⟨g,o + 9,none⟩=some (.int .i64 (age:Nat))
theorem BoxAt.below {W W':World} {g o:Nat} {p:TableP.Port} {node:Int} {tv v:Value} {age:Nat} (h:BoxAt W g o p node tv v age) (hg:g < W.heap.size) (hb:Below W.heap.size W W'):BoxAt W' g o p node tv v age:=
 ⟨(hb.cell (p:=⟨g,_,none⟩) hg).trans h.c0,(hb.cell (p:=⟨g,_,none⟩) hg).trans h.c1,(hb.cell (p:=⟨g,_,none⟩) hg).trans h.c2,(hb.cell (p:=⟨g,_,none⟩) hg).trans h.c3,(hb.cell (p:=⟨g,_,none⟩) hg).trans h.c4,(hb.cell (p:=⟨g,_,none⟩) hg).trans h.c5,(hb.cell (p:=⟨g,_,none⟩) hg).trans h.c6,(hb.cell (p:=⟨g,_,none⟩) hg).trans h.c7,(hb.cell (p:=⟨g,_,none⟩) hg).trans h.c8,(hb.cell (p:=⟨g,_,none⟩) hg).trans h.c9⟩
section
variable {W W':World} {B:Nat} {c:TableP.Cfg} {x:PC}
theorem PIn.port (h:PIn W B c x) {i:Nat} {e:El} (hi:x.es[i]? = some e):∃ p,c.ports[i]? = some p:=⟨_,List.getElem?_eq_getElem (by rw [← h.len];exact (List.getElem?_eq_some_iff.1 hi).1)⟩
theorem PIn.el (h:PIn W B c x) {i:Nat} {p:TableP.Port} (hi:c.ports[i]? = some p):∃ e,x.es[i]? = some e:=⟨_,List.getElem?_eq_getElem (by rw [h.len];exact (List.getElem?_eq_some_iff.1 hi).1)⟩
theorem PIn.box (h:PIn W B c x) {i:Nat} {e:El} {p:TableP.Port} (hi:x.es[i]? = some e) (hp:c.ports[i]? = some p):∃ tv,e.pre=boxPre c p tv∧BoxAt W x.g (i * 10) p (nodeOf c p) tv e.v e.age∧Seg W B 3 1 tv (toT c x.node i).length (intV (toT c x.node i)):=by
 obtain ⟨tv,h1,h2⟩:=h.shape i e p hi hp
 have hv:∀ j u,(elVals e)[j]? = some u→W.cell? ⟨x.g,i * 10 + j,none⟩=some u:=fun j u hu=>h.els.cell hi hu
 have he:elVals e=[.int .i64 p.part,.int .u8 (p.kind:Nat),.bool p.out,.int .i64 p.size,.int .i64 p.depth,.int .i64 p.fresh,.int .i64 (nodeOf c p),tv,e.v,.int .i64 (e.age:Nat)]:=by
  unfold elVals
  rw [h1];rfl
 rw [he] at hv
 exact ⟨tv,h1,⟨hv 0 _ rfl,hv 1 _ rfl,hv 2 _ rfl,hv 3 _ rfl,hv 4 _ rfl,hv 5 _ rfl,hv 6 _ rfl,hv 7 _ rfl,hv 8 _ rfl,hv 9 _ rfl⟩,h2⟩
theorem PIn.lt (h:PIn W B c x):x.a < W.heap.size:=lt_of_block h.hd
theorem PIn.away {F:Nat→Prop} (h:PIn W B c x) (ha:Apart F W W') (hF:∀ k,EF x.g x.es k→¬ F k) (hD:∀ k,ED x.es k→¬ F k) (h1:¬ F x.a) (h2:∀ k cs,W.heap[k]? = some (.cells cs 3 (0,0))→¬ F k):PIn W' B c x:=
 ⟨(ha.block x.a h.lt h1).trans h.hd,h.els.away ha hF hD,h.len,fun i e p hi hp=>by
  obtain ⟨tv,e1,e2⟩:=h.shape i e p hi hp
  exact ⟨tv,e1,e2.apart ha fun k hk=>by
   obtain ⟨cur,hc⟩:=e2.block k hk
   exact h2 k _ hc⟩,h.base⟩
theorem PIn.below (h:PIn W B c x) (hb:Below W.heap.size W W'):PIn W' B c x:=h.away (F:=fun _=>False) (Apart.of_below' hb) (fun _ _ h=>h) (fun _ _ h=>h) (fun h=>h) (fun _ _ _ h=>h)
theorem PIn.beside {F:Nat→Prop} (h:PIn W B c x) (ha:Apart F W W') (hF:∀ k,EF x.g x.es k→¬ F k) (hT:∀ k,F k→∃ cs t,W.heap[k]? = some (.cells cs t (0,0))∧t≠5∧t≠3∧t≠124):PIn W' B c x:=by
 have hno:∀ k cs t,W.heap[k]? = some (.cells cs t (0,0))→(t=5∨t=3∨t=124)→¬ F k:=fun k cs t hk ht hf=>by
  obtain ⟨cs',t',e1,e2,e3,e4⟩:=hT k hf
  rw [hk] at e1
  simp only [Option.some.injEq,Obj.cells.injEq] at e1
  obtain ⟨-,rfl,-⟩:=e1
  rcases ht with e | e | e
  ·exact e2 e
  ·exact e3 e
  ·exact e4 e
 refine h.away ha hF (fun k hk=>?_) (hno _ _ _ h.hd (.inr (.inr rfl))) (fun k cs hk=>hno k cs _ hk (.inr (.inl rfl)))
 obtain ⟨cs,hc⟩:=h.els.dTag hk
 exact hno k cs _ hc (.inl rfl)
theorem PIn.goes (h:PIn W B c x) {es':List El} (he:Els 8 130 true W' B x.g es') (hp:es'.map El.pre=x.es.map El.pre) (hg:Goes x.g W W' x.es es'):PIn W' B c { x with es:=es' }:=by
 have hl:es'.length=x.es.length:=by have:=congrArg List.length hp;simpa using this
 refine ⟨?_,he,hl.trans h.len,fun i e p hi hq=>?_,h.base⟩
 ·show W'.heap[x.a]? = some (.cells #[.int .i64 x.node,.slice (some ⟨x.g,0,none⟩) es'.length es'.length] 124 (0,0))
  rw [hl]
  exact (hg.apart.block x.a h.lt (h.els.fOff h.hd (by decide) (by decide))).trans h.hd
 ·obtain ⟨e0,h0⟩:=h.el hq
  obtain ⟨tv,e1,e2⟩:=h.shape i e0 p h0 hq
  have h3:=congrArg (fun l=>l[i]?) hp
  simp only [List.getElem?_map,h0] at h3
  rw [show (es'[i]?)=some e from hi] at h3
  have h4:e.pre=e0.pre:=by simpa using h3
  refine ⟨tv,h4.trans e1,e2.apart hg.apart fun k hk=>?_⟩
  obtain ⟨cur,hc⟩:=e2.block k hk
  exact h.els.fOff hc (by decide) (by decide)
theorem PIn.set (h:PIn W B c x) {i:Nat} {e e':El} (hi:x.es[i]? = some e) (he:Els 8 130 true W' B x.g (x.es.set i e')∧Goes x.g W W' x.es (x.es.set i e')) (hp:e'.pre=e.pre):PIn W' B c { x with es:=x.es.set i e' }:=
 h.goes he.1 (zL8 hi hp) he.2
end
def pv (x:PC):Value:=.pointer (some ⟨x.a,0,none⟩)
def foundV (c:TableP.Cfg) (x:PC) (part port:Int):Value:=if hasB c x.node part port=true then .pointer (some ⟨x.g,port.toNat * 10,none⟩) else .pointer none
set_option maxHeartbeats 1000000 in
theorem pfind_any (w:World) (B:Nat) (c:TableP.Cfg) (x:PC) (h:PIn w B c x) (part port:Int) (hl:c.ports.length≤24) :
 Calls Tryz.prog 96 #[pv x,.int .i64 part,.int .i64 port] w (Quiet (foundV c x part port) w):=by
 have k1:=za0 h.hd 1 rfl
 have k0:=za0 h.hd 0 rfl
 have HL:=Lib.hid h.len
 by_cases h0:port < 0
 ·have e1:foundV c x part port = .pointer none:=by
   unfold foundV hasB
   rw [if_neg (by simp;omega)]
  have q1:decide (port < 0)=true:=decide_eq_true h0
  rw [e1]
  unfold pv
  clear h h0 hl e1
  go_enter Tryz.func96,Tryz.ntmps96
  go_wp2_with fail
  go_ret
  exact ⟨rfl,0,rfl⟩
 have q1:decide (port < 0)=false:=decide_eq_false h0
 obtain ⟨k,rfl⟩:=Int.eq_ofNat_of_zero_le (show 0≤port by omega)
 by_cases h2:x.es.length≤k
 ·have e1:foundV c x part k = .pointer none:=by
   unfold foundV hasB
   rw [if_neg]
   rw [List.getElem?_eq_none (by rw [← HL.out];simpa using h2)]
   simp
  have q2:decide ((x.es.length:Int)≤(k:Int))=true:=decide_eq_true (by omega)
  have q3:decide (x.es.length≤k)=true:=decide_eq_true h2
  rw [e1]
  unfold pv
  clear h h0 hl e1 h2
  go_enter Tryz.func96,Tryz.ntmps96
  go_wp2_with fail
  go_ret
  exact ⟨rfl,0,rfl⟩
 have q2:decide ((x.es.length:Int)≤(k:Int))=false:=decide_eq_false (by omega)
 have q3:decide (x.es.length≤k)=false:=decide_eq_false h2
 obtain ⟨e,he⟩:∃ e,x.es[k]? = some e:=⟨_,List.getElem?_eq_getElem (by omega)⟩
 obtain ⟨p,hp⟩:=h.port he
 obtain ⟨tv,-,hbx,-⟩:=h.box he hp
 have b0:=hbx.c0
 have b6:=hbx.c6
 have ef:foundV c x part k=if p.part=part∧nodeOf c p=x.node then .pointer (some ⟨x.g,k * 10,none⟩) else .pointer none:=by
  unfold foundV hasB mineB
  rw [Int.toNat_natCast,hp]
  simp
 rw [ef]
 have hlt:k < x.es.length:=by omega
 generalize hN:nodeOf c p=N at *
 generalize hP:p.part=P at *
 unfold pv
 generalize x.es.length=n at *
 have hn24:n≤24:=by have:=HL.out;omega
 clear h hp he hbx hN hP ef h0 h2 hl
 by_cases h3:P=part
 ·have t1:(P != part)=false:=by simp [h3]
  by_cases h4:N=x.node
  ·have t2:(N != x.node)=false:=by simp [h4]
   rw [if_pos ⟨h3,h4⟩]
   clear h3 h4
   go_enter Tryz.func96,Tryz.ntmps96
   go_wp2_with fail
   go_quiet (fail)
   go_wp2_with fail
   go_ret
   exact ⟨rfl,_,rfl⟩
  ·have t2:(N != x.node)=true:=by simp [h4]
   rw [if_neg (fun e=>h4 e.2)]
   clear h3 h4
   go_enter Tryz.func96,Tryz.ntmps96
   go_wp2_with fail
   go_quiet (fail)
   go_wp2_with fail
   go_ret
   exact ⟨rfl,_,rfl⟩
 ·have t1:(P != part)=true:=by simp [h3]
  rw [if_neg (fun e=>h3 e.1)]
  clear h3
  go_enter Tryz.func96,Tryz.ntmps96
  go_wp2_with fail
  go_quiet (fail)
  go_wp2_with fail
  go_ret
  exact ⟨rfl,_,rfl⟩
open Go.RowKit PorP
set_option maxRecDepth 100000
def PutP (w:World) (B:Nat) (c:TableP.Cfg) (x:PC) (r:Nat × St) (e:Ending) (w':World):Prop:=
 e = .returned (.bool (decide (r.1=1)))∧∃ es',PIn w' B c { x with es:=es' }∧Goes x.g w w' x.es es'∧elSt es'=r.2
theorem zf2 {es:List El} {i:Nat} {e:El} (h:es[i]? = some e):(elSt es)[i]? = some e.ps:=by unfold elSt;rw [List.getElem?_map,h];rfl
theorem zj3 (es:List El) (i:Nat) (e:El):elSt (es.set i e)=(elSt es).set i e.ps:=by unfold elSt;rw [List.map_set]
def PRow (g:Nat) (es:List El) (W:World):Prop:=W.heap[g]? = some (.cells (itemsV elVals es).toArray 130 (0,0))
theorem rowV {g i:Nat} {es:List El} {W:World} {e:El} (hW:PRow g es W) (hp:∀ e∈es,e.pre.length=8) (hi:es[i]? = some e):W.cell? ⟨g,i * 10 + 8,none⟩=some e.v:=by
 refine za0 hW _ ?_
 rw [List.getElem?_toArray,zg4 es (size:=10) (fun y hy=>by simp [elVals,hp y hy]) i e hi 8 (by omega)]
 have:=hp e (List.mem_of_getElem? hi)
 rw [elVals,List.getElem?_append_right (by omega),this];rfl
def bxv (g o:Nat):Value:=.pointer (some ⟨g,o,none⟩)
theorem zl5 {c:TableP.Cfg} {st:St} {i:Nat} {p:TableP.Port} {s:PS} (hp:c.ports[i]? = some p) (hs:st[i]? = some s) (l:List UInt8):putOne c l st (i:Int)=if room p s=true then (1,st.set i (putT p s l)) else (0,st):=by
 unfold putOne
 rw [Int.toNat_natCast,hp,hs]
theorem zf8 {w:World} {B B' e size n:Nat} {v:Value} {xs:List Value} (h:w.ownsRow B e size v n xs) (hb:B'≤B):w.ownsRow B' e size v n xs:=
 ⟨h.1,h.2.imp id fun ⟨g,cap,cur,h1,h2,h3⟩=>⟨g,cap,cur,h1,Nat.le_trans hb h2,h3⟩⟩
structure PutR (w:World) (B:Nat) (c:TableP.Cfg) (x:PC) (r:Nat × St) (i:Nat) (A:Option Addr) (l:List UInt8) (W2:World) (E2:List El) (A1:Option Addr) (m c1:Nat) (ms:List Value):Prop where
 pin:PIn W2 B c { x with es:=E2 }
 own:W2.ownsRow B 89 1 (.slice A1 m c1) m ms
 low:m≤3
 cell:∀ W,PRow x.g E2 W→W.cell? ⟨x.g,i * 10 + 8,none⟩=some (.slice A1 m c1)
 fin:∀ ve v' w2,w2.ownsRow B 5 1 ve l.length (bytesV l)→Apart (fun k=>(Value.slice A1 m c1).ownBlock=some k) W2 w2→w2.ownsRow B 89 1 v' (m + 1) (ms ++ [ve])→Moved W2 (Value.slice A1 m c1).ownBlock v'.ownBlock→(∀ q,ve.ownBlock=some q→W2.heap.size≤q) →
  PutP w B c x r (.returned (.bool true)) (w2.setCell ⟨x.g,i * 10 + 8,none⟩ v')
 base:B≤W2.heap.size
 bytes:Bytes W2 W2.heap.size A l
theorem PutR.of {w W2:World} {B i:Nat} {c:TableP.Cfg} {x:PC} {A:Option Addr} {l:List UInt8} {E2:List El} {e2:El} {p:TableP.Port} {s:PS} (h:PIn W2 B c { x with es:=E2 }) (hg:Goes x.g w W2 x.es E2) (hi:E2[i]? = some e2) (h3:e2.msgs.length≤3) (hl:l.length≤16) (hB:B≤W2.heap.size) (hby:Bytes W2 W2.heap.size A l)
 (hst:(elSt E2).set i ⟨e2.ps.msgs ++ [l],e2.age⟩=(elSt x.es).set i (putT p s l)):∃ A1 m c1 ms,PutR w B c x (1,(elSt x.es).set i (putT p s l)) i A l W2 E2 A1 m c1 ms:=by
 have hem:=List.mem_of_getElem? hi
 have hown:=h.els.own rfl e2 hem
 obtain ⟨A1,c1,hv,-⟩:=za6 hown
 refine ⟨A1,e2.msgs.length,c1,itemsV txtVals e2.msgs,h,by rw [← hv];exact hown,h3,fun W hW=>by rw [← hv];exact rowV hW h.els.pres hi,fun ve v' w2 q1 q2 q3 q4 q5=>?_,hB,hby⟩
 rw [← hv] at q2 q4
 have hm:=h.els.more (by decide) (by decide) hi (v:=v') (ve:=ve) (l:=l) q2 q1 (Seg.of_own q3) (fun _=>q3) q4 q5 h3 hl
 have h4:=h.set hi hm rfl
 refine ⟨rfl,_,h4,hg.trans hm.2,?_⟩
 rw [zj3,← hst]
 simp [El.ps]
set_option maxHeartbeats 4000000 in
theorem bxput_any (w:World) (B:Nat) (c:TableP.Cfg) (x:PC) (h:PIn w B c x) (hB:B≤w.heap.size) (i:Nat) (p:TableP.Port) (hp:c.ports[i]? = some p) (hok:TableP.portOk c.parts.length p) (A:Option Addr) (n cap:Nat) (l:List UInt8) (hl:l.length=n) (hn:n≤16) (hby:Bytes w w.heap.size A l)
 (hoff:0 < l.length→∀ k,blockOf A=some k→¬ EF x.g x.es k) :
 Calls Tryz.prog 97 #[bxv x.g (i * 10),.slice A n cap] w (PutP w B c x (putOne c l (elSt x.es) (i:Int))):=by
 obtain ⟨e,he⟩:=h.el hp
 rw [zl5 hp (zf2 he)]
 have hem:=List.mem_of_getElem? he
 obtain ⟨tv,hpre,hbx,-⟩:=h.box he hp
 have b1:=hbx.c1
 have b4:=hbx.c4
 have b8:=hbx.c8
 have b9:=hbx.c9
 have fr:=fun o=>h.els.free o
 have h4:=h.els.ok e hem
 unfold bxv
 by_cases hk:p.kind=1
 case pos=>
  have hr:room p e.ps=true:=by unfold room;rw [hk];rfl
  rw [if_pos hr]
  rw [hk] at b1
  have hs1:=h.els.setNil (by decide) (by decide) he
  have h1:=h.set he hs1 rfl
  have he1:(x.es.set i ⟨e.pre,.slice none 0 0,[],e.age⟩)[i]? = some ⟨e.pre,.slice none 0 0,[],e.age⟩:=List.getElem?_set_self (List.getElem?_eq_some_iff.1 he).1
  have hs2:=h1.els.setAge (by decide) (by decide) he1 0 (by omega)
  have h2:=h1.set he1 hs2 rfl
  have hg2:=hs1.2.trans hs2.2
  simp only [List.set_set] at h2 hg2
  have he2:(x.es.set i ⟨e.pre,.slice none 0 0,[],0⟩)[i]? = some ⟨e.pre,.slice none 0 0,[],0⟩:=List.getElem?_set_self (List.getElem?_eq_some_iff.1 he).1
  have hRR:∃ W2,W2=(w.setCell ⟨x.g,i * 10 + 8,none⟩ (.slice none 0 0)).setCell ⟨x.g,i * 10 + 9,none⟩ (.int .i64 0)∧∃ E2 A1 m c1 ms,PutR w B c x (1,(elSt x.es).set i (putT p e.ps l)) i A l W2 E2 A1 m c1 ms:=by
   refine ⟨_,rfl,_,PutR.of h2 hg2 he2 (by simp) (by omega) (Nat.le_trans hB hg2.apart.size) ?_ ?_⟩
   ·exact (hby.apart0 hg2.apart (Nat.le_refl _) hoff).more hg2.apart.size
   ·rw [zj3,List.set_set]
    unfold putT
    rw [if_pos hk];rfl
  obtain ⟨W2,hW2,E2,A1,m,c1,ms,hR⟩:=hRR
  generalize (1,(elSt x.es).set i (putT p e.ps l))=R at *
  have HW2:=Lib.hid hW2
  obtain ⟨v0,hv0⟩:∃ v0,v0=e.v:=⟨_,rfl⟩
  rw [← hv0] at b8
  have HR0:=Lib.hid hR
  have Hl:=Lib.hid hl
  clear hs1 hs2 h1 he1 h2 hg2 he2 hW2 hv0 hby hoff hr hk hpre hbx h he hem h4 hp hok hR hl
  go_enter Tryz.func97,Tryz.ntmps97
  go_wp2_with fail
  rw [← HW2.out]
  clear b1 b4 b8 b9 fr HW2 hB
  obtain ⟨hpin,hown,h3,kd,hfin,hB,hby⟩:=HR0.out
  have hd0:PRow x.g E2 W2.drew:=hpin.els.row
  have HI:=Lib.hid hpin
  have HO:=Lib.hid hown
  have Hkd:=Lib.hid kd
  have HFin:=Lib.hid hfin
  have HB:=Lib.hid hB
  have HC:=Lib.hid (zj2 A n cap l Hl.out (by omega) W2.drew hby)
  clear hpin hown hfin hB hby HR0
  refine za9 (st:=11) (S:=fun W=>PRow x.g E2 W) (by kernel_rfl) hd0 (fun _=>?_)
  refine tL 0 hd0 ?_
  try simp only [Act.put,tkT,tk0,tkS]
  refine tL 1 hd0 ?_
  try simp only [Act.put,tkT,tk0,tkS]
  refine tL 2 hd0 ?_
  try simp only [Act.put,tkT,tk0,tkS]
  refine tL 3 hd0 ?_
  try simp only [Act.put,tkT,tk0,tkS]
  refine tL 4 hd0 ?_
  try simp only [Act.put,tkT,tk0,tkS]
  refine tL 5 hd0 ?_
  try simp only [Act.put,tkT,tk0,tkS]
  refine za8 (k:=6) (by kernel_rfl) (by simp only [tkA,tkG];rfl) (fun K hK=>?_)
  go_simp
  refine HC.out.mono ?_
  rintro e w6 ⟨Ae,ce,rfl,he,hb6⟩
  have hb06:Below W2.heap.size W2 w6:=(Below.refl W2.heap.size W2).drew.trans hb6
  have hI6:=HI.out.below hb06
  have hd6:PRow x.g E2 w6:=hI6.els.row
  have hown6:w6.ownsRow B 89 1 (.slice A1 m c1) m ms:=za3 HO.out (Apart.of_below' (F:=fun _=>False) hb06) (fun _ _ h=>h)
  have hda:PRow x.g E2 (w6.alloc (.cells #[.slice Ae l.length ce] 89)):=(hI6.below ((Below.refl _ _).alloc (Nat.le_refl _) _)).els.row
  have hB6:B≤w6.heap.size:=Nat.le_trans HB.out hb06.size
  have Ha6:=Lib.hid (Apart.of_below' (F:=fun k=>(Value.slice A1 m c1).ownBlock=some k) hb06)
  have Hn6:Hid (∀ q,(Value.slice Ae l.length ce).ownBlock=some q→W2.heap.size≤q):=Lib.hid fun q hq=>(he.lt q hq).1
  have He6:=Lib.hid (zf8 he HB.out)
  have Ho6:=Lib.hid hown6
  have Hs6:=Lib.hid hb06.size
  have hl16:l.length≤16:=by have:=Hl.out;omega
  clear he hb6 hI6 hd0 HC HI hown6 kd hb06
  go_wp2_with fail
  refine hK.out _ _ (fun _=>hd6) ?_
  clear hK K
  refine za8 (k:=7) (by kernel_rfl) (by simp only [tkA,tkG];rfl) (fun K hK=>?_)
  go_simp
  go_wp2_with fail
  refine hK.out _ _ (fun _=>hda) ?_
  clear hK K
  refine za8 (k:=8) (by kernel_rfl) (by simp only [tkA,tkG];rfl) (fun K hK=>?_)
  refine za7 rfl (.tmp 32) (.tmp 35) _ rfl B 89 _ 1 24 Tryz.underlying128 infoBs9 rfl (by omega) _ m ms rfl (Ho6.out.alloc _) (some ⟨w6.heap.size,0,none⟩) 1 1 [.slice Ae l.length ce] rfl rfl (fun _=>⟨_,rfl,fun j u hj=>?c11⟩) (fun u hu=>?c21) (by unfold maxLen;omega) (by omega) (by simp;omega) ?_
  case c11=>
   have hj0:j=0:=by have:=(List.getElem?_eq_some_iff.1 hj).1;simp at this;omega
   subst hj0
   simp only [List.getElem?_cons_zero,Option.some.injEq] at hj
   subst hj
   exact za0 (heap_alloc_new w6 _) 0 rfl
  case c21=>
   simp only [List.mem_singleton] at hu
   subst hu
   rfl
  intro v8 w8 ho8 ha8 hb8
  have ha80:Apart (fun k=>(Value.slice A1 m c1).ownBlock=some k) w6 w8:=((Apart.refl _ w6).alloc _).trans ha8 (fun _ e=>.inl e)
  have ha81:=Ha6.out.trans ha80 (fun _ e=>.inl e)
  have he8:=za3 He6.out ha80 (fun k hk=>ze8 He6.out Ho6.out (by decide) k hk)
  have hd8:PRow x.g E2 w8:=(ha80.block x.g (lt_of_block hd6) (fun e=>zb2 Ho6.out hd6 (by decide) x.g e rfl)).trans hd6
  have hmv:Moved W2 (Value.slice A1 m c1).ownBlock v8.ownBlock:=hb8.imp id fun e=>⟨_,e,by have:=Hs6.out;simp;omega⟩
  obtain ⟨g8,c8,rfl,-,-⟩:=ho8.form (by omega)
  have HR:=Lib.hid (HFin.out _ _ w8 he8 ha81 ho8 hmv Hn6.out)
  have f8:=za2 hd8 (i * 10 + 8)
  have k8:w8.cell? ⟨x.g,i * 10 + 8,none⟩=some (.slice A1 m c1):=Hkd.out w8 hd8
  clear ho8 ha8 hb8 ha80 ha81 he8 HFin He6 Ho6 Ha6 hmv Hn6 Hs6
  go_wp2_with fail
  refine hK.out _ _ (fun _=>hd8) ?_
  clear hK K
  refine tL 9 hd8 ?_
  try simp only [Act.put,tkT,tk0,tkS]
  refine tL 10 hd8 ?_
  try simp only [Act.put,tkT,tk0,tkS]
  refine zc0 (k:=11) (by kernel_rfl) (by simp only [tkA,tkG];rfl) (fun K hK=>?_)
  go_simp
  go_wp2_with fail
  refine hK.out _ _ ?_
  clear hK K
  refine zb9 (by kernel_rfl) ?_ _
  clear hd8 hda hd6
  go_wp2_with fail
  go_ret
  exact HR.out
 case neg=>
  have hk2:p.kind=2∧TableP.up p.depth 1 4:=by
   rcases hok.2.2 with ⟨h1,-⟩ | ⟨h1,h2,-⟩
   ·exact absurd h1 hk
   ·exact ⟨h1,h2⟩
  obtain ⟨hk2,hdep⟩:=hk2
  unfold TableP.up at hdep
  rw [hk2] at b1
  have hown0:=h.els.own rfl e hem
  obtain ⟨A0,c0,hv,-⟩:=za6 hown0
  rw [hv] at b8
  by_cases hd:(e.msgs.length:Int) < p.depth
  case neg=>
   have hr:room p e.ps=false:=by
    unfold room
    rw [hk2,decide_eq_false (by simpa [El.ps] using hd)];rfl
   rw [hr,if_neg (by decide)]
   have q1:decide (p.depth≤(e.msgs.length:Int))=true:=decide_eq_true (by omega)
   have HF:Hid (∀ W',Below w.heap.size w W'→PutP w B c x (0,elSt x.es) (.returned (.bool false)) W'):=Lib.hid fun W' hb=>⟨rfl,x.es,h.below hb,Goes.of_below hb _ _,rfl⟩
   generalize e.msgs.length=m at *
   generalize p.depth=D at *
   clear hby hoff hr hk hpre hbx h he hem h4 hp hok hl hd hdep hown0 hk2 hv
   go_enter Tryz.func97,Tryz.ntmps97
   go_wp2_with fail
   go_quiet (fail)
   go_wp2_with fail
   go_ret
   exact HF.out _ (by repeat' (first | exact Below.refl _ _ | refine zb0 ?_ _))
  have hr:room p e.ps=true:=by
   unfold room
   rw [decide_eq_true (by simpa [El.ps] using hd)];simp
  rw [if_pos hr]
  have q1:decide (p.depth≤(e.msgs.length:Int))=false:=decide_eq_false (by omega)
  have HRR:Hid (∀ W2,Below w.heap.size w W2→∃ E2 A1 m c1 ms,PutR w B c x (1,(elSt x.es).set i (putT p e.ps l)) i A l W2 E2 A1 m c1 ms):=Lib.hid fun W2 hb=>by
   refine ⟨x.es,PutR.of (h.below hb) (Goes.of_below hb _ _) he (by omega) (by omega) (Nat.le_trans hB hb.size) ((hby.below hb (Nat.le_refl _)).more hb.size) ?_⟩
   unfold putT
   rw [if_neg hk];rfl
  generalize (1,(elSt x.es).set i (putT p e.ps l))=R at *
  generalize e.msgs.length=m0 at *
  generalize p.depth=D at *
  have Hl:=Lib.hid hl
  clear hby hoff hr hk hpre hbx h he hem h4 hp hok hl hd hdep hown0 hk2 hv hB
  go_enter Tryz.func97,Tryz.ntmps97
  go_wp2_with fail
  go_quiet (fail)
  go_wp2_with fail
  obtain ⟨W2,hW2⟩:∃ W2,W2=w.drewN nq:=⟨_,rfl⟩
  rw [← hW2]
  obtain ⟨E2,A1,m,c1,ms,hR⟩:=HRR.out W2 (by rw [hW2];exact zb0 (Below.refl _ _) _)
  have HR0:=Lib.hid hR
  clear b1 b4 b8 b9 fr HRR q1 hW2 hR
  obtain ⟨hpin,hown,h3,kd,hfin,hB,hby⟩:=HR0.out
  have hd0:PRow x.g E2 W2.drew:=hpin.els.row
  have HI:=Lib.hid hpin
  have HO:=Lib.hid hown
  have Hkd:=Lib.hid kd
  have HFin:=Lib.hid hfin
  have HB:=Lib.hid hB
  have HC:=Lib.hid (zj2 A n cap l Hl.out (by omega) W2.drew hby)
  clear hpin hown hfin hB hby HR0
  refine za9 (st:=11) (S:=fun W=>PRow x.g E2 W) (by kernel_rfl) hd0 (fun _=>?_)
  refine tL 0 hd0 ?_
  try simp only [Act.put,tkT,tk0,tkS]
  refine tL 1 hd0 ?_
  try simp only [Act.put,tkT,tk0,tkS]
  refine tL 2 hd0 ?_
  try simp only [Act.put,tkT,tk0,tkS]
  refine tL 3 hd0 ?_
  try simp only [Act.put,tkT,tk0,tkS]
  refine tL 4 hd0 ?_
  try simp only [Act.put,tkT,tk0,tkS]
  refine tL 5 hd0 ?_
  try simp only [Act.put,tkT,tk0,tkS]
  refine za8 (k:=6) (by kernel_rfl) (by simp only [tkA,tkG];rfl) (fun K hK=>?_)
  go_simp
  refine HC.out.mono ?_
  rintro e w6 ⟨Ae,ce,rfl,he,hb6⟩
  have hb06:Below W2.heap.size W2 w6:=(Below.refl W2.heap.size W2).drew.trans hb6
  have hI6:=HI.out.below hb06
  have hd6:PRow x.g E2 w6:=hI6.els.row
  have hown6:w6.ownsRow B 89 1 (.slice A1 m c1) m ms:=za3 HO.out (Apart.of_below' (F:=fun _=>False) hb06) (fun _ _ h=>h)
  have hda:PRow x.g E2 (w6.alloc (.cells #[.slice Ae l.length ce] 89)):=(hI6.below ((Below.refl _ _).alloc (Nat.le_refl _) _)).els.row
  have hB6:B≤w6.heap.size:=Nat.le_trans HB.out hb06.size
  have Ha6:=Lib.hid (Apart.of_below' (F:=fun k=>(Value.slice A1 m c1).ownBlock=some k) hb06)
  have Hn6:Hid (∀ q,(Value.slice Ae l.length ce).ownBlock=some q→W2.heap.size≤q):=Lib.hid fun q hq=>(he.lt q hq).1
  have He6:=Lib.hid (zf8 he HB.out)
  have Ho6:=Lib.hid hown6
  have Hs6:=Lib.hid hb06.size
  have hl16:l.length≤16:=by have:=Hl.out;omega
  clear he hb6 hI6 hd0 HC HI hown6 kd hb06
  go_wp2_with fail
  refine hK.out _ _ (fun _=>hd6) ?_
  clear hK K
  refine za8 (k:=7) (by kernel_rfl) (by simp only [tkA,tkG];rfl) (fun K hK=>?_)
  go_simp
  go_wp2_with fail
  refine hK.out _ _ (fun _=>hda) ?_
  clear hK K
  refine za8 (k:=8) (by kernel_rfl) (by simp only [tkA,tkG];rfl) (fun K hK=>?_)
  refine za7 rfl (.tmp 32) (.tmp 35) _ rfl B 89 _ 1 24 Tryz.underlying128 infoBs9 rfl (by omega) _ m ms rfl (Ho6.out.alloc _) (some ⟨w6.heap.size,0,none⟩) 1 1 [.slice Ae l.length ce] rfl rfl (fun _=>⟨_,rfl,fun j u hj=>?c12⟩) (fun u hu=>?c22) (by unfold maxLen;omega) (by omega) (by simp;omega) ?_
  case c12=>
   have hj0:j=0:=by have:=(List.getElem?_eq_some_iff.1 hj).1;simp at this;omega
   subst hj0
   simp only [List.getElem?_cons_zero,Option.some.injEq] at hj
   subst hj
   exact za0 (heap_alloc_new w6 _) 0 rfl
  case c22=>
   simp only [List.mem_singleton] at hu
   subst hu
   rfl
  intro v8 w8 ho8 ha8 hb8
  have ha80:Apart (fun k=>(Value.slice A1 m c1).ownBlock=some k) w6 w8:=((Apart.refl _ w6).alloc _).trans ha8 (fun _ e=>.inl e)
  have ha81:=Ha6.out.trans ha80 (fun _ e=>.inl e)
  have he8:=za3 He6.out ha80 (fun k hk=>ze8 He6.out Ho6.out (by decide) k hk)
  have hd8:PRow x.g E2 w8:=(ha80.block x.g (lt_of_block hd6) (fun e=>zb2 Ho6.out hd6 (by decide) x.g e rfl)).trans hd6
  have hmv:Moved W2 (Value.slice A1 m c1).ownBlock v8.ownBlock:=hb8.imp id fun e=>⟨_,e,by have:=Hs6.out;simp;omega⟩
  obtain ⟨g8,c8,rfl,-,-⟩:=ho8.form (by omega)
  have HR:=Lib.hid (HFin.out _ _ w8 he8 ha81 ho8 hmv Hn6.out)
  have f8:=za2 hd8 (i * 10 + 8)
  have k8:w8.cell? ⟨x.g,i * 10 + 8,none⟩=some (.slice A1 m c1):=Hkd.out w8 hd8
  clear ho8 ha8 hb8 ha80 ha81 he8 HFin He6 Ho6 Ha6 hmv Hn6 Hs6
  go_wp2_with fail
  refine hK.out _ _ (fun _=>hd8) ?_
  clear hK K
  refine tL 9 hd8 ?_
  try simp only [Act.put,tkT,tk0,tkS]
  refine tL 10 hd8 ?_
  try simp only [Act.put,tkT,tk0,tkS]
  refine zc0 (k:=11) (by kernel_rfl) (by simp only [tkA,tkG];rfl) (fun K hK=>?_)
  go_simp
  go_wp2_with fail
  refine hK.out _ _ ?_
  clear hK K
  refine zb9 (by kernel_rfl) ?_ _
  clear hd8 hda hd6
  go_wp2_with fail
  go_ret
  exact HR.out
open Go.RowKit PorP
set_option maxRecDepth 100000
def tookB (p:TableP.Port) (age:Nat):Bool:=if p.kind=1 then decide ((age:Int)≤p.fresh) else true
def tookS (p:TableP.Port) (st:St) (i age:Nat) (r:List (List UInt8)):St:=if p.kind=1 then st else st.set i ⟨r,age⟩
structure TakeQ (w:World) (B:Nat) (c:TableP.Cfg) (x:PC) (i:Nat) (p:TableP.Port) (age:Nat) (d:List UInt8) (r:List (List UInt8)) (v:Value) (w':World):Prop where
 own:w'.ownsRow B 5 1 v d.length (bytesV d)
 new:p.kind=1→(∀ q,v.ownBlock=some q→w.heap.size≤q)∧Below w.heap.size w w'
 left:∃ es',PIn w' B c { x with es:=es' }∧Goes x.g w w' x.es es'∧elSt es'=tookS p (elSt x.es) i age r
def TakeP (w:World) (B:Nat) (c:TableP.Cfg) (x:PC) (i:Nat) (p:TableP.Port) (age:Nat) (d:List UInt8) (r:List (List UInt8)) (e:Ending) (w':World):Prop:=
 ∃ A cap,e = .returned (.tuple #[.slice A d.length cap,.bool (tookB p age)])∧TakeQ w B c x i p age d r (.slice A d.length cap) w'
def BoxS13 (g o:Nat) (p:TableP.Port) (N:Int) (tv v:Value) (age:Nat) (W:World):Prop:=BoxAt W g o p N tv v age
theorem txt_at {l:List Txt} {k:Nat} {t:Txt} (h:l[k]? = some t):(itemsV txtVals l)[k]? = some t.1:=by
 have:=ze0 (size:=1) zk4 l k t h 0 (by omega)
 simpa [txtVals] using this
set_option maxHeartbeats 4000000 in
theorem zJ1 (w:World) (B:Nat) (c:TableP.Cfg) (x:PC) (h:PIn w B c x) (hB:B≤w.heap.size) (i:Nat) (p:TableP.Port) (hp:c.ports[i]? = some p) (e:El) (he:x.es[i]? = some e) (t:Txt) (r:List Txt) (hm:e.msgs=t :: r) :
 Calls Tryz.prog 98 #[bxv x.g (i * 10)] w (TakeP w B c x i p e.age t.2 (r.map Prod.snd)):=by
 have hem:=List.mem_of_getElem? he
 obtain ⟨tv,hpre,hbx,-⟩:=h.box he hp
 have hown:=h.els.own rfl e hem
 have hrow:w.ownsRow B 5 1 t.1 t.2.length (bytesV t.2):=(h.els.each e hem).rows t (by rw [hm];simp)
 have hok:=h.els.ok e hem
 obtain ⟨At,ct,ht,-⟩:=za6 hrow
 have hlen:e.msgs.length=r.length + 1:=by rw [hm];rfl
 rw [hlen] at hown
 obtain ⟨g',c1,hv,-,-⟩:=hown.form (by omega)
 have k0:w.cell? ⟨g',0,none⟩=some (.slice At t.2.length ct):=by
  rw [hv] at hown
  have h1:=hown.cellAt 0 (by omega)
  rw [txt_at (show e.msgs[0]? = some t by rw [hm];rfl),ht] at h1
  exact h1
 have b1:=hbx.c1
 have b8:=hbx.c8
 rw [hv] at b8
 have hrl:r.length≤3:=by have:=hok.1;omega
 have ht16:t.2.length≤16:=hok.2.1 t (by rw [hm];simp)
 unfold bxv
 rw [ht] at hrow
 by_cases hk:p.kind=1
 case pos=>
  have hq:tookB p e.age=decide ((e.age:Int)≤p.fresh):=if_pos hk
  have q1:(((p.kind:Nat):Int) == 1)=true:=by rw [hk];rfl
  obtain ⟨A0,cap0,hs,-,-,hby,-⟩:=zh9 hrow
  injection hs with hs1 hs2 hs3
  subst hs1 hs3
  have HC:=Lib.hid (zj2 At t.2.length ct t.2 rfl (by omega) w.drew hby)
  have HF:Hid (∀ A cap w',w'.ownsRow w.heap.size 5 1 (.slice A t.2.length cap) t.2.length (bytesV t.2)→Below w.heap.size w w'→TakeP w B c x i p e.age t.2 (r.map Prod.snd) (.returned (.tuple #[.slice A t.2.length cap,.bool (decide ((e.age:Int)≤p.fresh))])) w'):=Lib.hid fun A cap w' h1 h2=>by
   refine ⟨A,cap,by rw [hq],zf8 h1 hB,fun _=>⟨fun q hq=>(h1.lt q hq).1,h2⟩,x.es,h.below h2,Goes.of_below h2 _ _,?_⟩
   unfold tookS
   rw [if_pos hk]
  have hd0:BoxS13 x.g (i * 10) p (nodeOf c p) tv e.v e.age w.drew:=hbx.below h.els.lt (Below.refl _ _).drew
  have hlt:=h.els.lt
  generalize nodeOf c p=N at *
  generalize e.v=ev at *
  generalize e.age=age at *
  have d5:∀ W,BoxS13 x.g (i * 10) p N tv ev age W→W.cell? ⟨x.g,i * 10 + 5,none⟩=some (.int .i64 p.fresh):=fun W hW=>hW.c5
  have d9:∀ W,BoxS13 x.g (i * 10) p N tv ev age W→W.cell? ⟨x.g,i * 10 + 9,none⟩=some (.int .i64 (age:Nat)):=fun W hW=>hW.c9
  generalize p.kind=K at *
  clear h he hem hpre hbx hown hrow hok ht hlen hv hq hby hk hp hm
  go_enter Tryz.func98,Tryz.ntmps98
  go_wp2_with fail
  clear b1 b8 k0 q1
  refine wp_region_held_drew (S:=fun W=>BoxS13 x.g (i * 10) p N tv ev age W) (by kernel_rfl) hd0 (fun _=>?_)
  refine tK 0 hd0 ?_
  try simp only [Act.put,tkT,tk0,tkS]
  refine tK 2 hd0 ?_
  try simp only [Act.put,tkT,tk0,tkS]
  refine tK 3 hd0 ?_
  try simp only [Act.put,tkT,tk0,tkS]
  refine tK 4 hd0 ?_
  try simp only [Act.put,tkT,tk0,tkS]
  refine tK 5 hd0 ?_
  try simp only [Act.put,tkT,tk0,tkS]
  refine tK 6 hd0 ?_
  try simp only [Act.put,tkT,tk0,tkS]
  refine tK 7 hd0 ?_
  try simp only [Act.put,tkT,tk0,tkS]
  refine tK 8 hd0 ?_
  try simp only [Act.put,tkT,tk0,tkS]
  refine tK 9 hd0 ?_
  try simp only [Act.put,tkT,tk0,tkS]
  refine tK 10 hd0 ?_
  try simp only [Act.put,tkT,tk0,tkS]
  refine tK 11 hd0 ?_
  try simp only [Act.put,tkT,tk0,tkS]
  refine clH 1 (by kernel_rfl) (by simp only [tkA,tkG];rfl) (fun K hK=>?_)
  go_simp
  refine HC.out.mono ?_
  rintro e6 w6 ⟨A6,c6,rfl,ho6,hb6⟩
  have HR:=Lib.hid (HF.out A6 c6 w6 ho6 ((Below.refl w.heap.size w).drew.trans hb6))
  have hd6:BoxS13 x.g (i * 10) p N tv ev age w6:=BoxAt.below hd0 hlt hb6
  clear ho6 hb6 hd0 HC HF
  go_wp2_with fail
  refine hK.out _ _ hd6 (fun _=>?_)
  clear hK K
  refine tK 12 hd6 ?_
  try simp only [Act.put,tkT,tk0,tkS]
  refine tK 13 hd6 ?_
  try simp only [Act.put,tkT,tk0,tkS]
  refine wpAnyH_done (by kernel_rfl) ?_ _
  clear hd6 d5 d9
  go_wp2_with fail
  go_ret2
  exact HR.out
 case neg=>
  have hq:tookB p e.age=true:=if_neg hk
  have q1:(((p.kind:Nat):Int) == 1)=false:=by rw [beq_eq_false_iff_ne];omega
  have hone:∀ u∈itemsV txtVals e.msgs,u.oneCell'=true:=fun u hu=>by
   simp only [itemsV,List.mem_flatMap,txtVals,List.mem_singleton] at hu
   obtain ⟨y,hy,rfl⟩:=hu
   obtain ⟨A,cap,e1,-⟩:=za6 ((h.els.each e hem).rows y hy)
   have e2:y.1 = .slice A y.2.length cap:=e1
   rw [e2];rfl
  rw [hv] at hown
  have hdrop:(itemsV txtVals e.msgs).drop 1=itemsV txtVals r:=by rw [hm];rfl
  have HD:=Lib.hid (fun W (hW:W=w)=>hW ▸ del_any w B g' r.length c1 _ hown hone)
  have HF:Hid (∀ w',w'.ownsRow B 89 1 (.slice (some ⟨g',0,none⟩) r.length c1) r.length ((itemsV txtVals e.msgs).drop 1)→Apart (fun k=>k=g') w w'→TakeP w B c x i p e.age t.2 (r.map Prod.snd) (.returned (.tuple #[.slice At t.2.length ct,.bool true])) (w'.setCell ⟨x.g,i * 10 + 8,none⟩ (.slice (some ⟨g',0,none⟩) r.length c1))):=Lib.hid fun w' h1 h2=>by
   rw [hdrop] at h1
   have h3:Apart (fun q=>e.v.ownBlock=some q) w w':=h2.mono fun k _ e1=>by rw [hv,e1];rfl
   have hrr:∀ y∈r,w'.ownsRow B 5 1 (id y).1 (id y).2.length (bytesV (id y).2):=fun y hy=>za3 ((h.els.each e hem).rows y (by rw [hm];exact List.mem_cons_of_mem _ hy)) h3 (fun q hq=>LIn.bytes_off ((h.els.each e hem).rows y (by rw [hm];exact List.mem_cons_of_mem _ hy)) (h.els.each e hem).seg (by decide) hq)
   have h4:=h.els.setV (by decide) (by decide) he (v:=.slice (some ⟨g',0,none⟩) r.length c1) (l:=r) h3 ⟨Seg.of_own h1,hrr⟩ (fun _=>h1) (fun q hq=>.inl (by rw [hv];exact hq)) (fun y hy=>.inl (by rw [hm];exact List.mem_cons_of_mem _ hy)) ⟨by omega,fun y hy=>hok.2.1 y (by rw [hm];exact List.mem_cons_of_mem _ hy)⟩
   have h5:=h.set he h4 rfl
   have hrow':=za3 hrow h3 (fun q hq=>by
    have:=LIn.bytes_off (dat:=id) (vals:=txtVals) (size:=1) (l:=e.msgs) (x:=t) (by rw [show (id t).1 = .slice At t.2.length ct from ht];exact hrow) (h.els.each e hem).seg (by decide) (q:=q) (by rw [show (id t).1 = .slice At t.2.length ct from ht];exact hq)
    exact this)
   have hgT:w'.heap[x.g]? = some (.cells (itemsV elVals x.es).toArray 130 (0,0)):=(h3.block x.g h.els.lt (fun e1=>(h.els.each e hem).seg.off h.els.row (by decide) x.g e1 rfl)).trans h.els.row
   have hrow2:=za3 hrow' ((Apart.refl (fun q=>q=x.g) w').setCell (p:=⟨x.g,i * 10 + 8,none⟩) (.inl rfl) (.slice (some ⟨g',0,none⟩) r.length c1)) (fun q hq=>zb2 hrow' hgT (by decide) q hq)
   refine ⟨At,ct,by rw [hq],hrow2,fun e1=>absurd e1 hk,_,h5,h4.2,?_⟩
   unfold tookS
   rw [if_neg hk,zj3];rfl
  have HK:Hid (∀ w',Apart (fun k=>k=g') w w'→w'.cell? ⟨x.g,i * 10 + 8,none⟩=some (.slice (some ⟨g',0,none⟩) ((r.length + 1:Nat)) c1)∧w'.frozen? ⟨x.g,i * 10 + 8,none⟩=false):=Lib.hid fun w' h2=>by
   have h3:Apart (fun q=>e.v.ownBlock=some q) w w':=h2.mono fun k _ e1=>by rw [hv,e1];rfl
   have hgT:w'.heap[x.g]? = some (.cells (itemsV elVals x.es).toArray 130 (0,0)):=(h3.block x.g h.els.lt (fun e1=>(h.els.each e hem).seg.off h.els.row (by decide) x.g e1 rfl)).trans h.els.row
   refine ⟨?_,za2 hgT _⟩
   have:=rowV hgT h.els.pres he
   rw [hv] at this
   exact this
  generalize p.kind=K at *
  generalize t.2.length=tl at *
  generalize r.length=m at *
  clear h he hem hpre hbx hown hrow hok ht hlen hv hq hk hp hm hone hdrop
  go_enter Tryz.func98,Tryz.ntmps98
  go_wp2_with fail
  refine (HD.out _ rfl).mono ?_
  rintro e6 w6 ⟨rfl,h1,h2⟩
  have HR:=Lib.hid (HF.out w6 h1 h2)
  obtain ⟨k8,f8⟩:=HK.out w6 h2
  clear h1 h2 HF HD HK b1 b8 k0
  go_wp2_with fail
  go_ret2
  exact HR.out
open Go.RowKit PorP
set_option maxRecDepth 100000
structure OutM (W:World) (B:Nat) (v:Value) (ys:List MsgC):Prop where
 row:W.ownsRow B 121 2 v ys.length (msgVals ys)
 each:∀ y∈ys,OwnMsg W B y
section
variable {W W':World} {B:Nat} {v:Value} {ys:List MsgC}
theorem OutM.nil (W:World) (B:Nat):OutM W B (.slice none 0 0) []:=⟨World.ownsRow_nil _ _ _ _,fun y hy=>by cases hy⟩
theorem OutM.away {F:Nat→Prop} (h:OutM W B v ys) (ha:Apart F W W') (h1:∀ q,v.ownBlock=some q→¬ F q) (h2:∀ y∈ys,∀ q,(Value.slice y.A y.m y.cap).ownBlock=some q→¬ F q):OutM W' B v ys:=
 ⟨za3 h.row ha h1,fun y hy=>(h.each y hy).apart ha (h2 y hy)⟩
theorem OutM.below (h:OutM W B v ys) (hb:Below W.heap.size W W'):OutM W' B v ys:=h.away (F:=fun _=>False) (Apart.of_below' hb) (fun _ _ h=>h) (fun _ _ _ _ h=>h)
theorem OutM.more (h:OutM W B v ys) {v':Value} {y:MsgC} (ho:W'.ownsRow B 121 2 v' (ys.length + 1) (msgVals ys ++ y.vals)) (hy:OwnMsg W B y) (ha:Apart (fun q=>v.ownBlock=some q) W W'):OutM W' B v' (ys ++ [y]):=by
 have hall:∀ z∈ys ++ [y],OwnMsg W B z:=fun z hz=>by
  rcases List.mem_append.1 hz with hz | hz
  ·exact h.each z hz
  ·rw [List.mem_singleton.1 hz];exact hy
 refine ⟨by rw [List.length_append,zj6];simpa [msgVals] using ho,fun z hz=>(hall z hz).apart ha (fun q hq e=>ze8 (hall z hz).row h.row (by decide) q hq e)⟩
theorem OutM.reads (h:OutM W B v ys):∃ A cap,v = .slice A ys.length cap∧ys.length≤cap∧MsgsIn W A ys:=MsgsIn.own h.row (fun y hy=>((h.each y hy).ok).1)
end
def plainsT (port:Nat) (l:List Txt):List FrameP.Msg:=l.map fun t=>⟨(port:Int),t.2⟩
structure TellQ (w:World) (B B':Nat) (c:TableP.Cfg) (x:PC) (v0:Value) (ys:List MsgC) (ps:List FrameP.Msg) (v:Value) (w':World):Prop where
 out:∃ zs:List MsgC,OutM w' B' v (ys ++ zs)∧zs.map MsgC.plain=ps
 pin:PIn w' B c x
 apart:Apart (fun q=>v0.ownBlock=some q) w w'
 moved:Moved w v0.ownBlock v.ownBlock
def TellP (w:World) (B B':Nat) (c:TableP.Cfg) (x:PC) (v0:Value) (ys:List MsgC) (ps:List FrameP.Msg) (e:Ending) (w':World):Prop:=∃ v,e = .returned v∧TellQ w B B' c x v0 ys ps v w'
def TelR (w:World) (B B':Nat) (c:TableP.Cfg) (x:PC) (v0:Value) (ys:List MsgC) (port n:Nat) (l:List Txt) (v i:Value) (wr:World):Prop:=
 ∃ k,k≤n∧i = .int .i64 (k:Nat)∧TellQ w B B' c x v0 ys (plainsT port (l.take k)) v wr
theorem OutM.tag {W:World} {B:Nat} {v:Value} {ys:List MsgC} (h:OutM W B v ys):∀ k,v.ownBlock=some k→∃ cs t,W.heap[k]? = some (.cells cs t (0,0))∧t≠5∧t≠3∧t≠124∧t≠130∧t≠89:=fun k hk=>by
 obtain ⟨cur,hc⟩:=(Seg.of_own h.row).block k hk
 exact ⟨cur,_,hc,by decide,by decide,by decide,by decide,by decide⟩
theorem PIn.out {W W':World} {B B':Nat} {c:TableP.Cfg} {x:PC} {v:Value} {ys:List MsgC} (h:PIn W B c x) (ho:OutM W B' v ys) (ha:Apart (fun q=>v.ownBlock=some q) W W'):PIn W' B c x:=
 h.beside ha (fun k hk hv=>by
  obtain ⟨cs,t,e1,-,-,-,e5,e6⟩:=ho.tag k hv
  exact h.els.fOff e1 e5 e6 hk) (fun k hv=>by
  obtain ⟨cs,t,e1,e2,e3,e4,-,-⟩:=ho.tag k hv
  exact ⟨cs,t,e1,e2,e3,e4⟩)
set_option maxHeartbeats 4000000 in
theorem zJ2 (w:World) (B B':Nat) (c:TableP.Cfg) (x:PC) (h:PIn w B c x) (hB:B'≤w.heap.size) (i:Nat) (hi:i≤1000) (p:TableP.Port) (hp:c.ports[i]? = some p) (e:El) (he:x.es[i]? = some e) (v0:Value) (ys:List MsgC) (ho:OutM w B' v0 ys) (hy:ys.length≤1000) :
 Calls Tryz.prog 39 #[bxv x.g (i * 10),v0,.int .i64 (i:Nat)] w (TellP w B B' c x v0 ys (plainsT i e.msgs)):=by
 have hem:=List.mem_of_getElem? he
 obtain ⟨tv,hpre,hbx,-⟩:=h.box he hp
 have hok:=h.els.ok e hem
 obtain ⟨A1,c1,hv,hc1⟩:=za6 (h.els.own rfl e hem)
 have b8:=hbx.c8
 rw [hv] at b8
 obtain ⟨n,hn⟩:∃ n,e.msgs.length=n:=⟨_,rfl⟩
 rw [hn] at b8 hc1
 have hn4:n≤4:=by have:=hok.1;omega
 -- each message's cell
 have HM:Hid (∀ W,PIn W B c x→∀ k t,e.msgs[k]? = some t→∃ g' At ct,A1=some ⟨g',0,none⟩∧W.cell? ⟨g',k,none⟩=some (.slice At t.2.length ct)∧Bytes W W.heap.size At t.2∧t.2.length≤16):=Lib.hid fun W hW k t ht=>by
  have h1:=hW.els.own rfl e hem
  have hlt:=(List.getElem?_eq_some_iff.1 ht).1
  obtain ⟨g',c2,h2,-,-⟩:=h1.form (by omega)
  rw [hv] at h2
  injection h2 with h2 h3 h4
  obtain ⟨At,ct,h5,-,-,h6,-⟩:=zh9 ((hW.els.each e hem).rows t (List.mem_of_getElem? ht))
  have h5':t.1 = .slice At t.2.length ct:=h5
  refine ⟨g',At,ct,h2,?_,h6,hok.2.1 t (List.mem_of_getElem? ht)⟩
  rw [hv,h2] at h1
  have h7:=h1.cellAt k (by omega)
  rw [txt_at ht,h5'] at h7
  exact h7
 have HS:Hid (TelR w B B' c x v0 ys i n e.msgs v0 (.int .i64 0) w):=Lib.hid ⟨0,by omega,rfl,⟨[],by simpa using ho,rfl⟩,h,Apart.refl _ _,Moved.refl _ _⟩
 obtain ⟨Av0,nv0,cv0,hv0⟩:∃ A n c,v0 = .slice A n c:=by
  obtain ⟨A,cap,e1,-⟩:=ho.reads
  exact ⟨_,_,_,e1⟩
 subst hv0
 have Hn:=Lib.hid hn
 unfold bxv
 generalize e.msgs=l at *
 clear h hbx hpre hp he hem hv hok hn ho
 go_enter Tryz.func39,Tryz.ntmps39
 go_wp2_with fail
 clear b8
 go_loopw [1,14] (TelR w B B' c x (.slice Av0 nv0 cv0) ys i n l) (fun _ j _=>(n + 1 - intOf j).toNat)
 case atStart=>exact HS.out
 case round=>
  clear HS
  obtain ⟨k,hk,rfl,⟨zs,ho,hz⟩,hpin,hap,hmv⟩:=hrel
  obtain ⟨Av,cv,rfl,-,-⟩:=ho.reads
  have hzl:zs.length=min k n:=by
   have:=congrArg List.length hz
   simpa [plainsT,Hn.out] using this
  by_cases hlt:k < n
  case neg=>
   obtain rfl:k=n:=by omega
   have q1:decide ((k:Int) < (k:Int))=false:=decide_eq_false (by omega)
   have HF:Hid (TellP w B B' c x (.slice Av0 nv0 cv0) ys (plainsT i l) (.returned (.slice Av (ys ++ zs).length cv)) wr):=Lib.hid ⟨_,rfl,⟨zs,ho,by rw [hz,← Hn.out,List.take_length]⟩,hpin,hap,hmv⟩
   clear ho hz hpin hap hmv HM
   go_wp2_with fail
   go_ret
   exact HF.out
  have q1:decide ((k:Int) < (n:Int))=true:=decide_eq_true (by omega)
  have hkz:(k:Int) < (n:Int):=by omega
  obtain ⟨t,ht⟩:∃ t,l[k]? = some t:=⟨_,List.getElem?_eq_getElem (by rw [Hn.out];exact hlt)⟩
  obtain ⟨g',At,ct,rfl,hkc,hby,h16⟩:=HM.out wr hpin k t ht
  have HC:=Lib.hid (zj2 At t.2.length ct t.2 rfl (by omega) wr hby)
  have HB:=Lib.hid (Nat.le_trans hB hap.size)
  have e1:IntKind.i64.wrap ((k:Int) + 1)=(k:Int) + 1:=IntWalk.i64_in _ (by omega)
  have hyl:(ys ++ zs).length≤1010:=by rw [List.length_append,hzl];omega
  have HR:Hid (∀ A6 c6 w6 v9 w9,w6.ownsRow wr.heap.size 5 1 (.slice A6 t.2.length c6) t.2.length (bytesV t.2)→Below wr.heap.size wr w6→w9.ownsRow B' 121 2 v9 ((ys ++ zs).length + 1) (msgVals (ys ++ zs) ++ MsgC.vals ⟨(i:Int),A6,t.2.length,c6,t.2⟩)→Apart (fun q=>(Value.slice Av (ys ++ zs).length cv).ownBlock=some q) w6 w9→(v9.ownBlock=(Value.slice Av (ys ++ zs).length cv).ownBlock∨∃ q,v9.ownBlock=some q∧wr.heap.size≤q) →
   TelR w B B' c x (.slice Av0 nv0 cv0) ys i n l v9 (.int .i64 ((k:Int) + 1)) w9):=Lib.hid fun A6 c6 w6 v9 w9 h1 h2 h3 h4 h5=>by
   have ho6:=ho.below h2
   have hm:OwnMsg w6 B' ⟨(i:Int),A6,t.2.length,c6,t.2⟩:=⟨zf8 h1 HB.out,by simp only;omega,by simp only;omega⟩
   have ho9:=ho6.more (y:=⟨(i:Int),A6,t.2.length,c6,t.2⟩) h3 hm h4
   refine ⟨k + 1,by omega,by go_num,⟨zs ++ [⟨(i:Int),A6,t.2.length,c6,t.2⟩],by rw [← List.append_assoc];exact ho9,?_⟩,(hpin.below h2).out ho6 h4,?_,?_⟩
   ·rw [List.map_append,hz,List.take_add_one,ht]
    simp [plainsT,MsgC.plain]
   ·have a1:Apart (fun q=>(Value.slice Av (ys ++ zs).length cv).ownBlock=some q) wr w9:=(Apart.of_below' (F:=fun q=>(Value.slice Av (ys ++ zs).length cv).ownBlock=some q) h2).trans h4 (fun _ e=>.inl e)
    refine hap.trans a1 fun q hq=>?_
    rcases hmv with e | ⟨k',e,hk'⟩
    ·exact .inl (by rw [← e];exact hq)
    ·rw [hq] at e
     exact .inr (by have:=Option.some.inj e;omega)
   ·rcases h5 with e | ⟨q,e,hq⟩
    ·rw [e];exact hmv
    ·exact .inr ⟨q,e,Nat.le_trans hap.size hq⟩
  have HO:=Lib.hid ho
  generalize hL:(ys ++ zs).length=L at *
  have HL:=Lib.hid hL
  clear ho hz hpin hap hmv HM hby hL hzl
  go_wp2_with fail
  refine HC.out.mono ?_
  rintro e6 w6 ⟨A6,c6,rfl,ho6,hb6⟩
  have Ho6:=Lib.hid ho6
  have Hb6:=Lib.hid hb6
  have HO6:Hid ((w6.alloc (.cells #[.int .i64 (i:Nat),.slice A6 t.2.length c6] 121)).ownsRow B' 121 2 (.slice Av L cv) L (msgVals (ys ++ zs))):=Lib.hid (by
   have:=(HO.out.below hb6).row
   rw [HL.out] at this
   exact this.alloc _)
  have hs6:B'≤w6.heap.size:=Nat.le_trans HB.out hb6.size
  clear ho6 hb6 HC hkc
  go_wp2_with (at_builtin
               refine zb3 rfl (.tmp 18) (.tmp 23) _ rfl B' 121 _ 2 32 Tryz.underlying80 infoM rfl (by omega) _ L (msgVals (ys ++ zs)) rfl HO6.out (some ⟨w6.heap.size,0,none⟩) 1 1 (MsgC.vals ⟨(i:Int),A6,t.2.length,c6,t.2⟩) rfl rfl ?n2 ?n3 (by unfold maxLen;omega) (by omega) (by simp;omega) ?_
               case n2=>exact fun _=>⟨_,rfl,zk2 w6 121 _ _ rfl⟩
               case n3=>
                intro u hu
                simp only [MsgC.vals,List.mem_cons,List.not_mem_nil,or_false] at hu
                rcases hu with rfl | rfl<;>rfl
               intro v9 w9 ho9 ha9 hb9
               have HR2:=Lib.hid (HR.out A6 c6 w6 v9 w9 Ho6.out Hb6.out ho9 (((Apart.refl _ w6).alloc _).trans ha9 (fun _ e=>.inl e)) (hb9.imp id fun e=>⟨_,e,by have:=Hb6.out.size;simp;omega⟩))
               obtain ⟨A9,c9,rfl,-⟩:=za6 ho9
               clear ho9 ha9 hb9 HR HO6 Ho6 Hb6)
  go_roundw
  case rel=>exact HR2.out
  case measure=>simp [intOf];omega
open Go.RowKit PorP
set_option maxRecDepth 100000
def errO:Option Nat→Int→List UInt8
 | none,_=>[]
 | some k,a=>atT k a
def errF:Option Nat→Value→Prop
 | none,v=>v = .nilIface
 | some _,v=>∃ b,v = .iface 190 (.pointer (some ⟨b,0,none⟩))
structure ErrV (W:World) (o:Option Nat) (a:Int) (v:Value):Prop where
 text:ErrText W v (errO o a)
 form:errF o v
theorem ErrV.none_ (W:World) (a:Int):ErrV W none a .nilIface:=⟨ErrText.none_ _,rfl⟩
def PErr (k:Nat) (a:Int) (w:World) (e:Ending) (w':World):Prop:=∃ b,e = .returned (.iface 190 (.pointer (some ⟨b,0,none⟩)))∧ErrV w' (some k) a (.iface 190 (.pointer (some ⟨b,0,none⟩)))∧Below w.heap.size w w'
theorem plc_place (a:Int):plc (place a)=plc a:=by unfold plc place;split<;>split<;>(try split)<;>omega
theorem zE6 (k:Nat) (hk:1≤k∧k≤199) (a:Int) (ha:a≤9223372036854775807) (w:World):Calls Tryz.prog 62 #[.int .i64 (k:Nat),.int .i64 a] w (PErr k a w):=by
 refine (zd4 (k:Nat) a w (by rw [beq_eq_false_iff_ne];omega)).mono ?_
 rintro e w' ⟨rfl,rfl⟩
 have h1:=ErrText.new w (k:Nat) (place a) (by omega) (by unfold place;split<;>omega)
 rw [Int.toNat_natCast,show atT k (place a)=atT k a by unfold atT;rw [plc_place]] at h1
 exact ⟨_,rfl,⟨h1,_,rfl⟩,(Below.refl _ _).alloc (Nat.le_refl _) _⟩
def Left (w:World) (B:Nat) (c:TableP.Cfg) (x:PC) (st:St) (w':World):Prop:=∃ es',PIn w' B c { x with es:=es' }∧Goes x.g w w' x.es es'∧elSt es'=st
section
variable {w w1 w2:World} {B:Nat} {c:TableP.Cfg} {x:PC} {st:St}
theorem Left.same (h:PIn w B c x) (hb:Below w.heap.size w w1):Left w B c x (elSt x.es) w1:=⟨x.es,h.below hb,Goes.of_below hb _ _,rfl⟩
theorem Left.below (h:Left w B c x st w1) (hb:Below w1.heap.size w1 w2):Left w B c x st w2:=by
 obtain ⟨es',h1,h2,h3⟩:=h
 exact ⟨es',h1.below hb,h2.trans (Goes.of_below hb _ _),h3⟩
theorem Left.after (h:Left w1 B c x st w2) (hb:Below w.heap.size w w1):Left w B c x st w2:=by
 obtain ⟨es',h1,h2,h3⟩:=h
 exact ⟨es',h1,(Goes.of_below hb _ _).trans h2,h3⟩
end
def WriteP (w:World) (B:Nat) (c:TableP.Cfg) (x:PC) (port:Int) (r:Option Nat × St) (e:Ending) (w':World):Prop:=∃ v,e = .returned v∧ErrV w' r.1 port v∧Left w B c x r.2 w'
theorem pfind_b (w:World) (B:Nat) (c:TableP.Cfg) (x:PC) (h:PIn w B c x) (part port:Int) (hl:c.ports.length≤24) :
 Calls Tryz.prog 96 #[pv x,.int .i64 part,.int .i64 port] w (fun e w'=>e = .returned (foundV c x part port)∧Below w.heap.size w w'):=by
 refine (pfind_any w B c x h part port hl).mono ?_
 rintro e w' ⟨rfl,m,rfl⟩
 exact ⟨rfl,zb0 (Below.refl _ _) m⟩
theorem zE7 {c:TableP.Cfg} {node part port:Int} (h:hasB c node part port=true):∃ k:Nat,port=k∧∃ p,c.ports[k]? = some p:=by
 unfold hasB at h
 by_cases h0:0≤port
 ·obtain ⟨k,rfl⟩:=Int.eq_ofNat_of_zero_le h0
  refine ⟨k,rfl,?_⟩
  rw [Int.toNat_natCast] at h
  cases hp:c.ports[k]? with
  | none=>rw [hp] at h;simp at h
  | some p=>exact ⟨p,rfl⟩
 ·rw [decide_eq_false h0] at h;cases h
set_option maxHeartbeats 4000000 in
theorem zJ3 (w:World) (B:Nat) (c:TableP.Cfg) (x:PC) (h:PIn w B c x) (hB:B≤w.heap.size) (ha:SndP.Allowed c) (part port:Int) (hport:port≤9223372036854775807) (A:Option Addr) (n cap:Nat) (l:List UInt8) (hl:l.length=n) (hby:Bytes w w.heap.size A l)
 (hoff:0 < l.length→∀ k,blockOf A=some k→¬ EF x.g x.es k) :
 Calls Tryz.prog 68 #[pv x,.int .i64 part,.int .i64 port,.slice A n cap] w (WriteP w B c x port (writeP c x.node (elSt x.es) part port l)):=by
 have HF:=Lib.hid (pfind_b w B c x h part port ha.ports)
 have HE:=Lib.hid (fun k W (hk:1≤k∧k≤199)=>zE6 k hk port hport W)
 have HI:=Lib.hid h
 have HEnd:Hid (∀ k b w1 w2,Below w.heap.size w w1→Below w1.heap.size w1 w2→ErrV w2 (some k) port (.iface 190 (.pointer (some ⟨b,0,none⟩)))→writeP c x.node (elSt x.es) part port l=(some k,elSt x.es)→WriteP w B c x port (writeP c x.node (elSt x.es) part port l) (.returned (.iface 190 (.pointer (some ⟨b,0,none⟩)))) w2):=Lib.hid fun k b w1 w2 h1 h2 h3 h4=>by
  rw [h4]
  exact ⟨_,rfl,h3,Left.same h (h1.trans (h2.mono h1.size))⟩
 unfold pv at *
 by_cases hh:hasB c x.node part port=true
 case neg=>
  have hw:writeP c x.node (elSt x.es) part port l=(some 17,elSt x.es):=by unfold writeP;rw [zn9,if_neg hh]
  rw [show foundV c x part port = .pointer none from if_neg hh] at HF
  have HEnd2:=Lib.hid (fun b w1 w2 h1 h2 h3=>HEnd.out 17 b w1 w2 h1 h2 h3 hw)
  clear h hh hw HEnd hoff hby
  go_enter Tryz.func68,Tryz.ntmps68
  go_wp2_with fail
  refine HF.out.mono ?_
  rintro e w1 ⟨rfl,hb1⟩
  have Hb1:=Lib.hid hb1
  clear hb1
  go_wp2_with fail
  refine (HE.out 17 _ (by omega)).mono ?_
  rintro e w2 ⟨b,rfl,he,hb2⟩
  have HR:=Lib.hid (HEnd2.out b w1 w2 Hb1.out hb2 he)
  clear he hb2
  go_wp2_with fail
  go_ret
  exact HR.out
 rw [show foundV c x part port = .pointer (some ⟨x.g,port.toNat * 10,none⟩) from if_pos hh] at HF
 obtain ⟨k,rfl,p,hp⟩:=zE7 hh
 rw [Int.toNat_natCast] at HF
 obtain ⟨e,he⟩:=h.el hp
 obtain ⟨tv,hpre,hbx,-⟩:=h.box he hp
 have hg:=h.els.lt
 have HK:=Lib.hid (fun W (hW:Below w.heap.size w W)=>BoxAt.below hbx hg hW)
 have hok:=ha.port p (List.mem_of_getElem? hp)
 have hfind:findT c x.node part (k:Int) true=if p.out=true then none else some 13:=by
  rw [zn9,if_pos hh,Int.toNat_natCast,hp]
 cases hO:p.out with
 | false=>
  have hw:writeP c x.node (elSt x.es) part k l=(some 13,elSt x.es):=by unfold writeP;rw [hfind,hO];rfl
  have HEnd2:=Lib.hid (fun b w1 w2 h1 h2 h3=>HEnd.out 13 b w1 w2 h1 h2 h3 hw)
  have HK2:Hid (∀ W,Below w.heap.size w W→W.cell? ⟨x.g,k * 10 + 2,none⟩=some (.bool false)):=Lib.hid fun W hW=>by rw [← hO];exact (HK.out W hW).c2
  clear h hh hw HEnd hoff hby HK hfind hok hbx hpre he hp hO
  go_enter Tryz.func68,Tryz.ntmps68
  go_wp2_with fail
  refine HF.out.mono ?_
  rintro e w1 ⟨rfl,hb1⟩
  have k2:=HK2.out w1 hb1
  have Hb1:=Lib.hid hb1
  clear hb1 HK2
  go_wp2_with fail
  refine (HE.out 13 _ (by omega)).mono ?_
  rintro e w2 ⟨b,rfl,he,hb2⟩
  have HR:=Lib.hid (HEnd2.out b w1 w2 Hb1.out hb2 he)
  clear he hb2
  go_wp2_with fail
  go_ret
  exact HR.out
 | true=>
  rw [hO,if_pos rfl] at hfind
  by_cases hs:p.size < (l.length:Int)
  case pos=>
   have hw:writeP c x.node (elSt x.es) part k l=(some 12,elSt x.es):=by
    unfold writeP
    rw [hfind,Int.toNat_natCast,hp,zf2 he]
    simp only
    rw [if_pos hs]
   have HEnd2:=Lib.hid (fun b w1 w2 h1 h2 h3=>HEnd.out 12 b w1 w2 h1 h2 h3 hw)
   have HK2:Hid (∀ W,Below w.heap.size w W→W.cell? ⟨x.g,k * 10 + 2,none⟩=some (.bool true)∧W.cell? ⟨x.g,k * 10 + 3,none⟩=some (.int .i64 p.size)):=Lib.hid fun W hW=>by rw [← hO];exact ⟨(HK.out W hW).c2,(HK.out W hW).c3⟩
   rw [hl] at hs
   have q1:decide (p.size < (n:Int))=true:=decide_eq_true hs
   clear h hh hw HEnd hoff hby HK hfind hok hbx hpre he hp hO hs hl
   go_enter Tryz.func68,Tryz.ntmps68
   go_wp2_with fail
   refine HF.out.mono ?_
   rintro e w1 ⟨rfl,hb1⟩
   obtain ⟨k2,k3⟩:=HK2.out w1 hb1
   have Hb1:=Lib.hid hb1
   clear hb1 HK2
   go_wp2_with fail
   refine (HE.out 12 _ (by omega)).mono ?_
   rintro e w2 ⟨b,rfl,he,hb2⟩
   have HR:=Lib.hid (HEnd2.out b w1 w2 Hb1.out hb2 he)
   clear he hb2
   go_wp2_with fail
   go_ret
   exact HR.out
  have hsz:p.size≤16:=hok.2.1.2
  have hw:writeP c x.node (elSt x.es) part k l=if room p e.ps=true then (none,(putOne c l (elSt x.es) k).2) else (some 11,elSt x.es):=by
   rw [zl5 hp (zf2 he)]
   unfold writeP
   rw [hfind,Int.toNat_natCast,hp,zf2 he]
   simp only
   rw [if_neg hs]
   by_cases hr:room p e.ps=true
   ·rw [if_pos hr,if_pos hr,if_pos hr]
   ·rw [if_neg hr,if_neg hr]
  have hr1:(putOne c l (elSt x.es) k).1=if room p e.ps=true then 1 else 0:=by
   rw [zl5 hp (zf2 he)]
   split<;>rfl
  have hr2:room p e.ps=false→(putOne c l (elSt x.es) k).2=elSt x.es:=fun h=>by
   rw [zl5 hp (zf2 he),h];rfl
  have HK2:Hid (∀ W,Below w.heap.size w W→W.cell? ⟨x.g,k * 10 + 2,none⟩=some (.bool true)∧W.cell? ⟨x.g,k * 10 + 3,none⟩=some (.int .i64 p.size)):=Lib.hid fun W hW=>by rw [← hO];exact ⟨(HK.out W hW).c2,(HK.out W hW).c3⟩
  have HP:=Lib.hid (fun W (hW:Below w.heap.size w W)=>bxput_any W B c x (h.below hW) (Nat.le_trans hB hW.size) k p hp hok A n cap l hl (by omega) ((hby.below hW (Nat.le_refl _)).more hW.size) hoff)
  have q1:decide (p.size < (n:Int))=false:=decide_eq_false (by omega)
  unfold bxv at HP
  generalize putOne c l (elSt x.es) k=R at *
  have Hw:=Lib.hid hw
  have Hr2:=Lib.hid hr2
  have Hh:=Lib.hid h
  cases hr:room p e.ps with
  | true=>
   rw [hr,if_pos rfl] at hr1 hw
   rw [hw]
   clear h hh hw HEnd hoff hby HK hfind hok hbx hpre he hp hO hs hl hr hr2 Hw
   go_enter Tryz.func68,Tryz.ntmps68
   go_wp2_with fail
   refine HF.out.mono ?_
   rintro e w1 ⟨rfl,hb1⟩
   obtain ⟨k2,k3⟩:=HK2.out w1 hb1
   have Hb1:=Lib.hid hb1
   clear hb1 HK2
   go_wp2_with fail
   refine (HP.out _ Hb1.out).mono ?_
   rintro e w2 ⟨rfl,hL⟩
   rw [hr1]
   have HR:Hid (WriteP w B c x k (none,R.2) (.returned .nilIface) w2):=Lib.hid ⟨_,rfl,ErrV.none_ _ _,Left.after hL Hb1.out⟩
   clear hL k2 k3
   go_wp2_with fail
   go_ret
   exact HR.out
  | false=>
   rw [hr,if_neg (by decide)] at hr1 hw
   rw [hw]
   have hst:=hr2 hr
   clear h hh hw HEnd hoff hby HK hfind hok hbx hpre he hp hO hs hl hr hr2 Hw Hr2
   go_enter Tryz.func68,Tryz.ntmps68
   go_wp2_with fail
   refine HF.out.mono ?_
   rintro e w1 ⟨rfl,hb1⟩
   obtain ⟨k2,k3⟩:=HK2.out w1 hb1
   have Hb1:=Lib.hid hb1
   clear hb1 HK2
   go_wp2_with fail
   refine (HP.out _ Hb1.out).mono ?_
   rintro e w2 ⟨rfl,hL⟩
   rw [hr1]
   have HL:=Lib.hid (Left.after hL Hb1.out)
   clear hL k2 k3
   go_wp2_with fail
   refine (HE.out 11 _ (by omega)).mono ?_
   rintro e w3 ⟨b,rfl,he,hb3⟩
   have HR:Hid (WriteP w B c x k (some 11,elSt x.es) (.returned (.iface 190 (.pointer (some ⟨b,0,none⟩)))) w3):=Lib.hid ⟨_,rfl,he,by have:=Left.below HL.out hb3;rw [hst] at this;exact this⟩
   clear he hb3 HL
   go_wp2_with fail
   go_ret
   exact HR.out
open Go.RowKit PorP
set_option maxRecDepth 100000
structure ReadQ (w:World) (B:Nat) (c:TableP.Cfg) (x:PC) (port:Int) (r:(List UInt8 × Bool × Option Nat) × St) (v ev:Value) (w':World):Prop where
 own:w'.ownsRow B 5 1 v r.1.1.length (bytesV r.1.1)
 err:ErrV w' r.1.2.2 port ev
 left:Left w B c x r.2 w'
 new:∀ (k:Nat) p,port=(k:Int)→c.ports[k]? = some p→p.kind=1→(∀ q,v.ownBlock=some q→w.heap.size≤q)∧Below w.heap.size w w'
def ReadP (w:World) (B:Nat) (c:TableP.Cfg) (x:PC) (port:Int) (r:(List UInt8 × Bool × Option Nat) × St) (e:Ending) (w':World):Prop:=
 ∃ A cap ev,e = .returned (.tuple #[.slice A r.1.1.length cap,.bool r.1.2.1,ev])∧ReadQ w B c x port r (.slice A r.1.1.length cap) ev w'
set_option maxHeartbeats 4000000 in
theorem pread_any (w:World) (B:Nat) (c:TableP.Cfg) (x:PC) (h:PIn w B c x) (hB:B≤w.heap.size) (ha:SndP.Allowed c) (part port:Int) (hport:port≤9223372036854775807) :
 Calls Tryz.prog 69 #[pv x,.int .i64 part,.int .i64 port] w (ReadP w B c x port (readT c x.node (elSt x.es) part port)):=by
 have HF:=Lib.hid (pfind_b w B c x h part port ha.ports)
 have HE:=Lib.hid (fun k W (hk:1≤k∧k≤199)=>zE6 k hk port hport W)
 have HI:=Lib.hid h
 have HEnd:Hid (∀ k b w1 w2,Below w.heap.size w w1→Below w1.heap.size w1 w2→ErrV w2 (some k) port (.iface 190 (.pointer (some ⟨b,0,none⟩)))→readT c x.node (elSt x.es) part port=(([],false,some k),elSt x.es)→ReadP w B c x port (readT c x.node (elSt x.es) part port) (.returned (.tuple #[.slice none 0 0,.bool false,.iface 190 (.pointer (some ⟨b,0,none⟩))])) w2):=Lib.hid fun k b w1 w2 h1 h2 h3 h4=>by
  rw [h4]
  exact ⟨none,0,_,rfl,⟨World.ownsRow_nil _ _ _ _,h3,Left.same h (h1.trans (h2.mono h1.size)),fun _ _ _ _ _=>⟨fun q hq=>by simp [Value.ownBlock] at hq,h1.trans (h2.mono h1.size)⟩⟩⟩
 unfold pv at *
 by_cases hh:hasB c x.node part port=true
 case neg=>
  have hw:readT c x.node (elSt x.es) part port=(([],false,some 17),elSt x.es):=by unfold readT;rw [zn9,if_neg hh]
  rw [show foundV c x part port = .pointer none from if_neg hh] at HF
  have HEnd2:=Lib.hid (fun b w1 w2 h1 h2 h3=>HEnd.out 17 b w1 w2 h1 h2 h3 hw)
  clear h hh hw HEnd
  go_enter Tryz.func69,Tryz.ntmps69
  go_wp2_with fail
  refine HF.out.mono ?_
  rintro e w1 ⟨rfl,hb1⟩
  have Hb1:=Lib.hid hb1
  clear hb1
  go_wp2_with fail
  refine (HE.out 17 _ (by omega)).mono ?_
  rintro e w2 ⟨b,rfl,he,hb2⟩
  have HR:=Lib.hid (HEnd2.out b w1 w2 Hb1.out hb2 he)
  clear he hb2
  go_wp2_with fail
  go_ret3
  exact HR.out
 rw [show foundV c x part port = .pointer (some ⟨x.g,port.toNat * 10,none⟩) from if_pos hh] at HF
 obtain ⟨k,rfl,p,hp⟩:=zE7 hh
 rw [Int.toNat_natCast] at HF
 obtain ⟨e,he⟩:=h.el hp
 obtain ⟨tv,hpre,hbx,-⟩:=h.box he hp
 have hg:=h.els.lt
 have HK:=Lib.hid (fun W (hW:Below w.heap.size w W)=>BoxAt.below hbx hg hW)
 have hfind:findT c x.node part (k:Int) false=if p.out=false then none else some 13:=by
  rw [zn9,if_pos hh,Int.toNat_natCast,hp]
 cases hO:p.out with
 | true=>
  have hw:readT c x.node (elSt x.es) part k=(([],false,some 13),elSt x.es):=by unfold readT;rw [hfind,hO];rfl
  have HK2:Hid (∀ W,Below w.heap.size w W→W.cell? ⟨x.g,k * 10 + 2,none⟩=some (.bool true)):=Lib.hid fun W hW=>by rw [← hO];exact (HK.out W hW).c2
  clear HK hfind hbx hpre he hp hO
  have HEnd2:=Lib.hid (fun b w1 w2 h1 h2 h3=>HEnd.out 13 b w1 w2 h1 h2 h3 hw)
  clear h hh hw HEnd
  go_enter Tryz.func69,Tryz.ntmps69
  go_wp2_with fail
  refine HF.out.mono ?_
  rintro e w1 ⟨rfl,hb1⟩
  have k2:=HK2.out w1 hb1
  have Hb1:=Lib.hid hb1
  clear hb1
  go_wp2_with fail
  refine (HE.out 13 _ (by omega)).mono ?_
  rintro e w2 ⟨b,rfl,he,hb2⟩
  have HR:=Lib.hid (HEnd2.out b w1 w2 Hb1.out hb2 he)
  clear he hb2
  go_wp2_with fail
  go_ret3
  exact HR.out
 | false=>
  rw [hO,if_pos rfl] at hfind
  cases hm:e.msgs with
  | nil=>
   have hw:readT c x.node (elSt x.es) part k=(([],false,some 10),elSt x.es):=by
    unfold readT
    rw [hfind,Int.toNat_natCast,hp,zf2 he]
    simp only [El.ps,hm,List.map_nil]
   obtain ⟨A1,c1,hv,-⟩:=za6 (h.els.own rfl e (List.mem_of_getElem? he))
   rw [hm] at hv
   have HK2:Hid (∀ W,Below w.heap.size w W→W.cell? ⟨x.g,k * 10 + 2,none⟩=some (.bool false)∧W.cell? ⟨x.g,k * 10 + 8,none⟩=some (.slice A1 (0:Nat) c1)):=Lib.hid fun W hW=>by
    rw [← hO]
    refine ⟨(HK.out W hW).c2,?_⟩
    have:=(HK.out W hW).c8
    rw [hv] at this
    exact this
   clear HK hfind hbx hpre he hp hO hm hv
   have HEnd2:=Lib.hid (fun b w1 w2 h1 h2 h3=>HEnd.out 10 b w1 w2 h1 h2 h3 hw)
   clear h hh hw HEnd
   go_enter Tryz.func69,Tryz.ntmps69
   go_wp2_with fail
   refine HF.out.mono ?_
   rintro e w1 ⟨rfl,hb1⟩
   obtain ⟨k2,k8⟩:=HK2.out w1 hb1
   have Hb1:=Lib.hid hb1
   clear hb1
   go_wp2_with fail
   refine (HE.out 10 _ (by omega)).mono ?_
   rintro e w2 ⟨b,rfl,he,hb2⟩
   have HR:=Lib.hid (HEnd2.out b w1 w2 Hb1.out hb2 he)
   clear he hb2
   go_wp2_with fail
   go_ret3
   exact HR.out
  | cons t r=>
   have hw:readT c x.node (elSt x.es) part k=((t.2,tookB p e.age,none),tookS p (elSt x.es) k e.age (r.map Prod.snd)):=by
    unfold readT
    rw [hfind,Int.toNat_natCast,hp,zf2 he]
    simp only [El.ps,hm,List.map_cons]
    unfold tookB tookS
    by_cases hk:p.kind=1
    ·rw [if_pos hk,if_pos hk,if_pos hk]
    ·rw [if_neg hk,if_neg hk,if_neg hk]
   rw [hw]
   obtain ⟨A1,c1,hv,-⟩:=za6 (h.els.own rfl e (List.mem_of_getElem? he))
   have HK2:Hid (∀ W,Below w.heap.size w W→W.cell? ⟨x.g,k * 10 + 2,none⟩=some (.bool false)∧W.cell? ⟨x.g,k * 10 + 8,none⟩=some (.slice A1 (r.length + 1:Nat) c1)):=Lib.hid fun W hW=>by
    rw [← hO]
    refine ⟨(HK.out W hW).c2,?_⟩
    have:=(HK.out W hW).c8
    rw [hv,hm] at this
    exact this
   have HT:=Lib.hid (fun W (hW:Below w.heap.size w W)=>zJ1 W B c x (h.below hW) (Nat.le_trans hB hW.size) k p hp e he t r hm)
   have HR0:Hid (∀ A cap w1 w2,Below w.heap.size w w1→TakeQ w1 B c x k p e.age t.2 (r.map Prod.snd) (.slice A t.2.length cap) w2→ReadP w B c x k ((t.2,tookB p e.age,none),tookS p (elSt x.es) k e.age (r.map Prod.snd)) (.returned (.tuple #[.slice A t.2.length cap,.bool (tookB p e.age),.nilIface])) w2):=Lib.hid fun A cap w1 w2 h1 h2=>
    ⟨A,cap,_,rfl,⟨h2.own,ErrV.none_ _ _,Left.after h2.left h1,fun k' p' e1 e2 e3=>by
     have e4:k'=k:=by omega
     subst e4
     rw [hp] at e2
     obtain rfl:=Option.some.inj e2
     exact ⟨fun q hq=>Nat.le_trans h1.size ((h2.new e3).1 q hq),h1.trans ((h2.new e3).2.mono h1.size)⟩⟩⟩
   have q1:(((r.length:Nat):Int) + 1 == 0)=false:=by rw [beq_eq_false_iff_ne];omega
   unfold bxv at HT
   clear HK hfind hbx hpre hO hm hv hw HEnd h hh HI HE
   go_enter Tryz.func69,Tryz.ntmps69
   go_wp2_with fail
   refine HF.out.mono ?_
   rintro e1 w1 ⟨rfl,hb1⟩
   obtain ⟨k2,k8⟩:=HK2.out w1 hb1
   have HT1:=Lib.hid (HT.out w1 hb1)
   have HR1:=Lib.hid (fun A cap w2=>HR0.out A cap w1 w2 hb1)
   clear hb1 HK2 HT HR0
   go_wp2_with fail
   refine HT1.out.mono ?_
   rintro e2 w2 ⟨A,cap,rfl,h2⟩
   have HR:=Lib.hid (HR1.out A cap w2 h2)
   clear h2 HR1 HT1 k2 k8
   go_wp2_with fail
   go_ret3
   exact HR.out
open Go.RowKit PorP
set_option maxRecDepth 100000
def plainK:Nat→List El→List FrameP.Msg
 | _,[]=>[]
 | i,e :: es=>plainsT i e.msgs ++ plainK (i + 1) es
theorem zq2 (e:El):∀ (es:List El) (i:Nat),plainK i (es ++ [e])=plainK i es ++ plainsT (i + es.length) e.msgs
 | [],i=>by simp [plainK]
 | a :: es,i=>by
  simp only [List.cons_append,plainK,zq2 e es (i + 1),List.length_cons]
  rw [show i + 1 + es.length=i + (es.length + 1) by omega,List.append_assoc]
theorem zq3 {es:List El} {k:Nat} {e:El} (h:es[k]? = some e):plainK 0 (es.take (k + 1))=plainK 0 (es.take k) ++ plainsT k e.msgs:=by
 have hk:=(List.getElem?_eq_some_iff.1 h).1
 rw [List.take_add_one,h]
 show plainK 0 (es.take k ++ [e])=_
 rw [zq2,Nat.zero_add,List.length_take,Nat.min_eq_left (by omega)]
theorem zs3:∀ (es:List El) (i:Nat),(∀ e∈es,e.msgs.length≤4)→(plainK i es).length≤4 * es.length
 | [],_,_=>by simp [plainK]
 | e :: es,i,h=>by
  have h1:=zs3 es (i + 1) (fun x hx=>h x (List.mem_cons_of_mem _ hx))
  have h2:=h e (by simp)
  simp only [plainK,List.length_append,plainsT,List.length_map,List.length_cons]
  omega
def ImageP (w:World) (B:Nat) (c:TableP.Cfg) (x:PC) (ps:List FrameP.Msg) (e:Ending) (w':World):Prop:=
 ∃ (A:Option Addr) (n cap:Nat) (ys:List MsgC),e = .returned (.slice A n cap)∧ys.length=n∧OutM w' w.heap.size (.slice A n cap) ys∧ys.map MsgC.plain=ps∧PIn w' B c x∧Below w.heap.size w w'
def ImgR (w:World) (B:Nat) (c:TableP.Cfg) (x:PC) (v i:Value) (wr:World):Prop:=
 ∃ k ys,k≤x.es.length∧i = .int .i64 (k:Nat)∧OutM wr w.heap.size v ys∧ys.map MsgC.plain=plainK 0 (x.es.take k)∧PIn wr B c x∧Below w.heap.size w wr
set_option maxHeartbeats 4000000 in
theorem zJ4 (w:World) (B:Nat) (c:TableP.Cfg) (x:PC) (h:PIn w B c x) (ha:c.ports.length≤24) :
 Calls Tryz.prog 19 #[pv x] w (ImageP w B c x (plainK 0 x.es)):=by
 have k1:=za0 h.hd 1 rfl
 have HL:Hid (x.es.length≤24):=Lib.hid (by rw [h.len];exact ha)
 have HS:Hid (ImgR w B c x (.slice none 0 0) (.int .i64 0) w):=Lib.hid ⟨0,[],Nat.zero_le _,rfl,OutM.nil _ _,rfl,h,Below.refl _ _⟩
 unfold pv
 clear h ha
 go_enter Tryz.func19,Tryz.ntmps19
 go_wp2_with fail
 clear k1
 go_loopw [3,12] (ImgR w B c x) (fun _ j _=>(x.es.length + 1 - intOf j).toNat)
 case atStart=>exact HS.out
 case round=>
  clear HS
  obtain ⟨k,ys,hk,rfl,ho,hp,hpin,hb⟩:=hrel
  obtain ⟨A,cap,rfl,-,-⟩:=ho.reads
  have hl24:=HL.out
  by_cases hlt:k < x.es.length
  case neg=>
   obtain rfl:k=x.es.length:=by omega
   have q1:decide ((x.es.length:Int) < (x.es.length:Int))=false:=decide_eq_false (by omega)
   have HF:Hid (ImageP w B c x (plainK 0 x.es) (.returned (.slice A ys.length cap)) wr):=Lib.hid ⟨A,_,cap,ys,rfl,rfl,ho,by rw [hp,List.take_length],hpin,hb⟩
   clear ho hp hpin hb
   go_wp2_with fail
   go_ret
   exact HF.out
  have q1:decide ((k:Int) < (x.es.length:Int))=true:=decide_eq_true (by omega)
  have hkz:(k:Int) < (x.es.length:Int):=by omega
  obtain ⟨e,he⟩:∃ e,x.es[k]? = some e:=⟨_,List.getElem?_eq_getElem hlt⟩
  obtain ⟨p,hq⟩:=hpin.port he
  have hyl:ys.length≤1000:=by
   have h1:=congrArg List.length hp
   have h2:=zs3 (x.es.take k) 0 (fun e he=>(hpin.els.ok e (List.mem_of_mem_take he)).1)
   rw [List.length_map] at h1
   rw [List.length_take] at h2
   omega
  have HT:=Lib.hid (zJ2 wr B w.heap.size c x hpin hb.size k (by omega) p hq e he _ ys ho hyl)
  have HR:Hid (∀ v w2,TellQ wr B w.heap.size c x (.slice A ys.length cap) ys (plainsT k e.msgs) v w2→ImgR w B c x v (.int .i64 ((k:Int) + 1)) w2):=Lib.hid fun v w2 hT=>by
   obtain ⟨⟨zs,h1,h2⟩,h3,h4,h5⟩:=hT
   refine ⟨k + 1,ys ++ zs,hlt,by go_num,h1,by rw [List.map_append,hp,h2,zq3 he],h3,hb.trans (Apart.below h4 hb.size fun q hq=>(ho.row.lt q hq).1)⟩
  have HV:Hid (∀ v w2,TellQ wr B w.heap.size c x (.slice A ys.length cap) ys (plainsT k e.msgs) v w2→∃ A n cap,v = .slice A n cap):=Lib.hid fun v w2 hT=>by
   obtain ⟨⟨zs,h1,h2⟩,h3,h4,h5⟩:=hT
   obtain ⟨A,cap,e1,-⟩:=h1.reads
   exact ⟨_,_,_,e1⟩
  have kh:=za0 hpin.hd 1 rfl
  have e1:IntKind.i64.wrap ((k:Int) + 1)=(k:Int) + 1:=IntWalk.i64_in _ (by omega)
  generalize plainsT k e.msgs=P at *
  unfold bxv at HT
  clear ho hp hpin hb he hq
  go_wp2_with fail
  refine HT.out.mono ?_
  rintro e2 w2 ⟨v,rfl,hT⟩
  have HR2:=Lib.hid (HR.out v w2 hT)
  obtain ⟨A2,n2,cap2,rfl⟩:=HV.out v w2 hT
  clear hT HR HT HV kh
  go_wp2_with fail
  go_roundw
  case rel=>exact HR2.out
  case measure=>simp [intOf];omega
end Go.Proofs.YtfgpfmhjnccccaaGreatDoor
