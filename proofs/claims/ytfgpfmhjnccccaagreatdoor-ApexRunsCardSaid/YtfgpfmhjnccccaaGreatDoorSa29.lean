import Derived.Test.YtfgpfmhjnccccaaGreatDoorSa25
import Derived.Test.YtfgpfmhjnccccaaGreatDoorSa24
import Derived.Test.YtfgpfmhjnccccaaGreatDoorSa21
import Derived.Test.YtfgpfmhjnccccaaGreatDoorSa18
import Derived.Test.YtfgpfmhjnccccaaGreatDoorSa26
namespace Go.Proofs.YtfgpfmhjnccccaaGreatDoor
open Go.RowKit
set_option maxRecDepth 100000
structure DocC where
 ra:Nat
 rg:Nat
 es:List El
 rm:Nat
 vs:Value
 vl:Value
 vw:Value
 vo:Value
 tb:Nat
 tn:Nat
 cb:Nat
def docCells (d:DocC):Array Value:=#[.pointer (some ⟨d.ra,0,none⟩),.pointer (some ⟨d.tb,0,none⟩),.pointer (some ⟨d.rm,0,none⟩),.pointer (some ⟨d.cb,0,none⟩)]
def docV (d:DocC):Value:=.agg #[.pointer (some ⟨d.ra,0,none⟩),.pointer (some ⟨d.tb,0,none⟩),.pointer (some ⟨d.rm,0,none⟩),.pointer (some ⟨d.cb,0,none⟩)]
structure DocIn (w0 W:World) (B:Nat) (x:CfgC) (node:Nat) (T:RepP.T) (d:DocC) (sp:PorP.St) (mm:HeaP.Mon) (cc:RepP.Cmd):Prop where
 por:RIn w0 W B x (node:Int) d.ra d.rg d.es
 st:elSt d.es=sp
 mon:RMem W B d.rm node d.vs d.vl d.vw d.vo x.parts mm
 val:MonV (x.parts.map sayOf) mm
 tab:RefT W d.tb T d.tn
 cmd:W.heap[d.cb]? = some (.cells (cmdVals cc).toArray 51 (0,0))
 cok:CmdIn cc
 base:B≤d.cb
structure MemR (W:World) (B:Nat) (mv:Value) (mem:List Nat):Prop where
 row:W.ownsRow B 42 1 mv mem.length (wordV mem)
 ok:∀ v∈mem,v < 65536
 most:mem.length≤16
def DF (d:DocC) (k:Nat):Prop:=EF d.rg d.es k∨RFd d.rm d.vl d.vw d.vo k∨k=d.cb
def DAF (d:DocC) (mv:Value) (k:Nat):Prop:=DF d k∨mv.ownBlock=some k
structure WentD (W:World) (d:DocC) (mv:Value) (d':DocC) (W':World):Prop where
 apart:Apart (DAF d mv) W W'
 f:∀ k,DF d' k→DF d k∨W.heap.size≤k
 same:d' = { d with es:=d'.es,vo:=d'.vo }
theorem WentD.of_below {W W':World} (hb:Below W.heap.size W W') (d:DocC) (mv:Value):WentD W d mv d W':=⟨Apart.of_below' hb,fun _ e=>.inl e,rfl⟩
theorem WentD.trans {W W1 W2:World} {d d1 d2:DocC} {mv:Value} (p:WentD W d mv d1 W1) (q:WentD W1 d1 mv d2 W2):WentD W d mv d2 W2:=by
 have hs:=p.apart.size
 refine ⟨p.apart.trans q.apart fun i hi=>?_,fun k hk=>?_,?_⟩
 ·rcases hi with hi | hi
  ·rcases p.f i hi with h1 | h1
   ·exact .inl (.inl h1)
   ·exact .inr h1
  ·exact .inl (.inr hi)
 ·rcases q.f k hk with h1 | h1
  ·exact p.f k h1
  ·exact .inr (by omega)
 ·have h1:=q.same
  rw [p.same] at h1
  exact h1
theorem WentD.value {W W':World} {d d':DocC} {mv:Value} (p:WentD W d mv d' W'):docV d'=docV d:=by rw [p.same];rfl
def TagD (t:TypeId):Prop:=t=134∨t=89∨t=105∨t=3∨t=137∨t=51∨t=42
theorem tagD_u8:¬ TagD 5:=by unfold TagD;decide
theorem ze4:¬ TagD 94:=by unfold TagD;decide
theorem zr1:¬ TagD 53:=by unfold TagD;decide
theorem tagD_cfg:¬ TagD 26:=by unfold TagD;decide
def TouchD (B:Nat) (W W':World):Prop:=∃ F,Apart F W W'∧∀ k,F k→B≤k∧∃ cs t,W.heap[k]? = some (.cells cs t (0,0))∧TagD t
section
variable {W W' W2:World} {B:Nat}
theorem TouchD.of_below (h:Below W.heap.size W W'):TouchD B W W':=⟨fun _=>False,Apart.of_below' h,fun _ h=>h.elim⟩
theorem TouchD.below (h:TouchD B W W') (hB:B≤W.heap.size):Below B W W':=by
 obtain ⟨F,h1,h2⟩:=h
 exact h1.below hB fun k hk=>(h2 k hk).1
theorem TouchD.off (h:TouchD B W W') {k:Nat} {cs:Array Value} {t:TypeId} {f:Nat × Nat} (hk:W.heap[k]? = some (.cells cs t f)) (ht:¬ TagD t):W'.heap[k]? = some (.cells cs t f):=by
 obtain ⟨F,h1,h2⟩:=h
 refine (h1.block k (lt_of_block hk) fun hf=>?_).trans hk
 obtain ⟨-,cs',t',e1,e2⟩:=h2 k hf
 rw [hk] at e1
 simp only [Option.some.injEq,Obj.cells.injEq] at e1
 obtain ⟨-,rfl,-⟩:=e1
 exact ht e2
theorem TouchD.own {B0 e size n:Nat} {v:Value} {xs:List Value} (h:TouchD B W W') (ho:W.ownsRow B0 e size v n xs) (ht:¬ TagD e):W'.ownsRow B0 e size v n xs:=by
 obtain ⟨F,h1,h2⟩:=h
 refine za3 ho h1 fun k hk hf=>?_
 obtain ⟨-,cs',t',e1,e2⟩:=h2 k hf
 refine zb2 ho e1 (fun e=>ht (by rw [e];exact e2)) k hk rfl
def DocB (W:World) (A:Option Addr) (l:List UInt8):Prop:=Bytes W W.heap.size A l∧ByteBlock W A l
theorem DocB.off {F:Nat→Prop} {A:Option Addr} {l:List UInt8} (h:DocB W A l) (ha:Apart F W W') (hT:∀ k,F k→∃ cs t,W.heap[k]? = some (.cells cs t (0,0))∧t≠5):DocB W' A l:=by
 have hno:0 < l.length→∀ k,blockOf A=some k→¬ F k:=fun hl k hk hf=>by
  obtain ⟨cs,f,e⟩:=h.2 hl k hk
  obtain ⟨cs',t,e1,e2⟩:=hT k hf
  rw [e] at e1
  simp only [Option.some.injEq,Obj.cells.injEq] at e1
  exact e2 e1.2.1.symm
 refine ⟨(h.1.apart0 ha (Nat.le_refl _) hno).more ha.size,fun hl k hk=>?_⟩
 obtain ⟨cs,f,e⟩:=h.2 hl k hk
 exact ⟨cs,f,(ha.block k (lt_of_block e) (hno hl k hk)).trans e⟩
theorem DocB.touch {A:Option Addr} {l:List UInt8} (h:DocB W A l) (ht:TouchD B W W'):DocB W' A l:=by
 obtain ⟨F,h1,h2⟩:=ht
 refine h.off h1 fun k hk=>?_
 obtain ⟨-,cs,t,e1,e2⟩:=h2 k hk
 exact ⟨cs,t,e1,fun e=>tagD_u8 (by rw [← e];exact e2)⟩
theorem DocB.none_:DocB W none []:=⟨Bytes.none_,fun h=>absurd h (by simp)⟩
end
section
variable {w0 W W' W2:World} {B:Nat} {x:CfgC} {node:Nat} {T:RepP.T} {d d':DocC} {sp:PorP.St} {mm:HeaP.Mon} {cc:RepP.Cmd} {mv:Value} {mem:List Nat}
theorem RMem.tag {r nd:Nat} {vs vl vw vo:Value} {ps:List TableP.Part} {m:HeaP.Mon} (h:RMem W B r nd vs vl vw vo ps m) {k:Nat} (hk:RFd r vl vw vo k):∃ cs t,W.heap[k]? = some (.cells cs t (0,0))∧(t=105∨t=3∨t=137):=by
 rcases hk with rfl | hk | hk | hk
 ·exact ⟨_,_,h.hd,.inl rfl⟩
 ·obtain ⟨cs,e⟩:=(Seg.of_own h.last).block k hk
  exact ⟨_,_,e,.inr (.inl rfl)⟩
 ·obtain ⟨cs,e⟩:=(Seg.of_own h.row).block k hk
  exact ⟨_,_,e,.inr (.inl rfl)⟩
 ·obtain ⟨cs,e⟩:=(Seg.of_own h.out).block k hk
  exact ⟨_,_,e,.inr (.inr rfl)⟩
theorem DocIn.fTag (h:DocIn w0 W B x node T d sp mm cc) {k:Nat} (hk:DF d k):B≤k∧∃ cs t,W.heap[k]? = some (.cells cs t (0,0))∧TagD t∧t≠42:=by
 rcases hk with hk | hk | rfl
 ·obtain ⟨cs,t,e1,e2⟩:=h.por.els.fTag hk
  refine ⟨(h.por.els.fLt hk).1,cs,t,e1,?_,?_⟩
  ·rcases e2 with rfl | rfl
   ·exact .inl rfl
   ·exact .inr (.inl rfl)
  ·rcases e2 with rfl | rfl<;>decide
 ·obtain ⟨cs,t,e1,e2⟩:=h.mon.tag hk
  refine ⟨(h.mon.lt hk).1,cs,t,e1,?_,?_⟩
  ·rcases e2 with rfl | rfl | rfl
   ·exact .inr (.inr (.inl rfl))
   ·exact .inr (.inr (.inr (.inl rfl)))
   ·exact .inr (.inr (.inr (.inr (.inl rfl))))
  ·rcases e2 with rfl | rfl | rfl<;>decide
 ·exact ⟨h.base,_,_,h.cmd,.inr (.inr (.inr (.inr (.inr (.inl rfl))))),by decide⟩
theorem DocIn.fLt (h:DocIn w0 W B x node T d sp mm cc) {k:Nat} (hk:DF d k):k < W.heap.size:=by
 obtain ⟨-,cs,t,e,-⟩:=h.fTag hk
 exact lt_of_block e
theorem MemR.fTag (h:MemR W B mv mem) {k:Nat} (hk:mv.ownBlock=some k):B≤k∧∃ cs,W.heap[k]? = some (.cells cs 42 (0,0)):=⟨((Seg.of_own h.row).lt k hk).1,(Seg.of_own h.row).block k hk⟩
theorem MemR.apart {F:Nat→Prop} (h:MemR W B mv mem) (ha:Apart F W W') (hF:∀ k,mv.ownBlock=some k→¬ F k):MemR W' B mv mem:=⟨za3 h.row ha hF,h.ok,h.most⟩
theorem MemR.below (h:MemR W B mv mem) (hb:Below W.heap.size W W'):MemR W' B mv mem:=h.apart (F:=fun _=>False) (Apart.of_below' hb) fun _ _ h=>h
theorem MemR.off (h:MemR W B mv mem) (hd:DocIn w0 W B x node T d sp mm cc):∀ k,mv.ownBlock=some k→¬ DF d k:=fun k hk hf=>by
 obtain ⟨-,cs,t,e,-,e2⟩:=hd.fTag hf
 obtain ⟨-,cs',e'⟩:=h.fTag hk
 rw [e'] at e
 simp only [Option.some.injEq,Obj.cells.injEq] at e
 exact e2 e.2.1.symm
theorem WentD.touch (p:WentD W d mv d' W') (h:DocIn w0 W B x node T d sp mm cc) (hm:MemR W B mv mem):TouchD B W W':=⟨_,p.apart,fun k hk=>by
 rcases hk with hk | hk
 ·obtain ⟨e1,cs,t,e2,e3,-⟩:=h.fTag hk
  exact ⟨e1,cs,t,e2,e3⟩
 ·obtain ⟨e1,cs,e2⟩:=hm.fTag hk
  exact ⟨e1,cs,_,e2,.inr (.inr (.inr (.inr (.inr (.inr rfl)))))⟩⟩
theorem DocIn.away {F:Nat→Prop} (h:DocIn w0 W B x node T d sp mm cc) (ha:Apart F W W') (hF:∀ k,DF d k→¬ F k) (hT:∀ k,F k→B≤k∧∃ cs t,W.heap[k]? = some (.cells cs t (0,0))∧t≠5∧t≠102∧t≠46∧t≠66):DocIn w0 W' B x node T d sp mm cc:=by
 refine ⟨h.por.beside ha (fun k hk=>(hT k hk).1) (fun k hk=>hF k (.inl hk)) (fun k hk=>?_),h.st,h.mon.apart ha (fun k hk=>hF k (.inr (.inl hk))) (fun k hk=>?_),h.val,h.tab.apart ha (fun hf=>?_),(ha.block _ (lt_of_block h.cmd) (hF _ (.inr (.inr rfl)))).trans h.cmd,h.cok,h.base⟩
 ·obtain ⟨-,cs,t,e1,e2,e3,-⟩:=hT k hk
  exact ⟨cs,t,e1,e2,e3⟩
 ·obtain ⟨e0,cs,t,e1,-,-,-,e4⟩:=hT k hk
  exact ⟨e0,zf3 e1 e4⟩
 ·obtain ⟨-,cs,t,e1,-,-,e4,-⟩:=hT _ hf
  rw [h.tab.2.at_] at e1
  simp only [Option.some.injEq,Obj.cells.injEq] at e1
  exact e4 e1.2.1.symm
theorem DocIn.below (h:DocIn w0 W B x node T d sp mm cc) (hb:Below W.heap.size W W'):DocIn w0 W' B x node T d sp mm cc:=h.away (F:=fun _=>False) (Apart.of_below' hb) (fun _ _ h=>h) fun _ h=>h.elim
theorem DocIn.toPorts (h:DocIn w0 W B x node T d sp mm cc) {st':PorP.St} (hL:LeftR w0 W B x (node:Int) d.ra d.rg d.es st' W'):∃ d',DocIn w0 W' B x node T d' st' mm cc∧(∀ mv,WentD W d mv d' W')∧Apart (DF d) W W':=by
 obtain ⟨es',p,g,s⟩:=hL
 have ha:Apart (EF d.rg d.es) W W':=g.apart
 have hno:∀ {k:Nat} {cs:Array Value} {t:TypeId},W.heap[k]? = some (.cells cs t (0,0))→t≠134→t≠89→¬ EF d.rg d.es k:=fun hk h1 h2=>h.por.els.fOff hk h1 h2
 have hT:∀ k,EF d.rg d.es k→B≤k∧∀ cs,W.heap[k]?≠some (.cells cs 66 (0,0)):=fun k hk=>by
  obtain ⟨cs,t,e1,e2⟩:=h.por.els.fTag hk
  exact ⟨(h.por.els.fLt hk).1,zf3 e1 (by rcases e2 with rfl | rfl<;>decide)⟩
 refine ⟨{ d with es:=es' },⟨p,s,h.mon.apart ha (fun k hk=>?_) hT,h.val,h.tab.apart ha (hno h.tab.2.at_ (by decide) (by decide)),(ha.block _ (lt_of_block h.cmd) (hno h.cmd (by decide) (by decide))).trans h.cmd,h.cok,h.base⟩,fun mv=>⟨ha.mono fun k _ hk=>.inl (.inl hk),fun k hk=>?_,rfl⟩,ha.mono fun k _ hk=>.inl hk⟩
 ·obtain ⟨cs,t,e1,e2⟩:=h.mon.tag hk
  exact hno e1 (by rcases e2 with rfl | rfl | rfl<;>decide) (by rcases e2 with rfl | rfl | rfl<;>decide)
 ·rcases hk with hk | hk
  ·rcases g.f k hk with h1 | h1
   ·exact .inl (.inl h1)
   ·exact .inr h1
  ·exact .inl (.inr hk)
theorem DocIn.toMon (h:DocIn w0 W B x node T d sp mm cc) {m':HeaP.Mon} {vo':Value} (hm:RMem W' B d.rm node d.vs d.vl d.vw vo' x.parts m') (hv:MonV (x.parts.map sayOf) m') (ha:Apart (RFd d.rm d.vl d.vw d.vo) W W') (ho:vo'.ownBlock=d.vo.ownBlock∨∃ q,vo'.ownBlock=some q∧W.heap.size≤q):∃ d',DocIn w0 W' B x node T d' sp m' cc∧(∀ mv,WentD W d mv d' W')∧Apart (DF d) W W':=by
 have hno:∀ {k:Nat} {cs:Array Value} {t:TypeId},W.heap[k]? = some (.cells cs t (0,0))→t≠105→t≠3→t≠137→¬ RFd d.rm d.vl d.vw d.vo k:=fun hk h1 h2 h3 hf=>by
  obtain ⟨cs',t',e1,e2⟩:=h.mon.tag hf
  rw [hk] at e1
  simp only [Option.some.injEq,Obj.cells.injEq] at e1
  obtain ⟨-,rfl,-⟩:=e1
  rcases e2 with e | e | e
  ·exact h1 e
  ·exact h2 e
  ·exact h3 e
 refine ⟨{ d with vo:=vo' },⟨h.por.beside ha (fun k hk=>(h.mon.lt hk).1) (fun k hk=>?_) (fun k hk=>?_),h.st,hm,hv,h.tab.apart ha (hno h.tab.2.at_ (by decide) (by decide) (by decide)),(ha.block _ (lt_of_block h.cmd) (hno h.cmd (by decide) (by decide) (by decide))).trans h.cmd,h.cok,h.base⟩,fun mv=>⟨ha.mono fun k _ hk=>.inl (.inr (.inl hk)),fun k hk=>?_,rfl⟩,ha.mono fun k _ hk=>.inr (.inl hk)⟩
 ·obtain ⟨cs,t,e1,e2⟩:=h.por.els.fTag hk
  exact hno e1 (by rcases e2 with rfl | rfl<;>decide) (by rcases e2 with rfl | rfl<;>decide) (by rcases e2 with rfl | rfl<;>decide)
 ·obtain ⟨cs,t,e1,e2⟩:=h.mon.tag hk
  exact ⟨cs,t,e1,by rcases e2 with rfl | rfl | rfl<;>decide,by rcases e2 with rfl | rfl | rfl<;>decide⟩
 ·rcases hk with hk | hk | hk
  ·exact .inl (.inl hk)
  ·rcases hk with hk | hk | hk | hk
   ·exact .inl (.inr (.inl (.inl hk)))
   ·exact .inl (.inr (.inl (.inr (.inl hk))))
   ·exact .inl (.inr (.inl (.inr (.inr (.inl hk)))))
   ·rcases ho with e | ⟨q,e1,e2⟩
    ·exact .inl (.inr (.inl (.inr (.inr (.inr (e ▸ hk))))))
    ·have hk':vo'.ownBlock=some k:=hk
     rw [e1] at hk'
     obtain rfl:=Option.some.inj hk'
     exact .inr e2
  ·exact .inl (.inr (.inr hk))
theorem DocIn.toCmd (h:DocIn w0 W B x node T d sp mm cc) {cc':RepP.Cmd} (hc:W'.heap[d.cb]? = some (.cells (cmdVals cc').toArray 51 (0,0))) (hok:CmdIn cc') (ha:Apart (fun k=>k=d.cb) W W'):DocIn w0 W' B x node T d sp mm cc'∧(∀ mv,WentD W d mv d W')∧Apart (DF d) W W':=by
 have hno:∀ {k:Nat} {cs:Array Value} {t:TypeId},W.heap[k]? = some (.cells cs t (0,0))→t≠51→¬ k=d.cb:=fun hk h1 hf=>by
  subst hf
  exact za5 hk h.cmd h1
 refine ⟨⟨h.por.beside ha (fun k hk=>by rw [hk];exact h.base) (fun k hk=>?_) (fun k hk=>?_),h.st,h.mon.apart ha (fun k hk=>?_) (fun k hk=>?_),h.val,h.tab.apart ha (hno h.tab.2.at_ (by decide)),hc,hok,h.base⟩,fun mv=>⟨ha.mono fun k _ hk=>.inl (.inr (.inr hk)),fun k hk=>.inl hk,rfl⟩,ha.mono fun k _ hk=>.inr (.inr hk)⟩
 ·obtain ⟨cs,t,e1,e2⟩:=h.por.els.fTag hk
  exact hno e1 (by rcases e2 with rfl | rfl<;>decide)
 ·subst hk
  exact ⟨_,_,h.cmd,by decide,by decide⟩
 ·obtain ⟨cs,t,e1,e2⟩:=h.mon.tag hk
  exact hno e1 (by rcases e2 with rfl | rfl | rfl<;>decide)
 ·subst hk
  exact ⟨h.base,zf3 h.cmd (by decide)⟩
theorem DocIn.toWords (h:DocIn w0 W B x node T d sp mm cc) (hm:MemR W B mv mem) (ha:Apart (fun k=>mv.ownBlock=some k) W W'):DocIn w0 W' B x node T d sp mm cc∧WentD W d mv d W':=by
 refine ⟨h.away ha (fun k hk e=>hm.off h k e hk) (fun k hk=>?_),ha.mono fun k _ hk=>.inr hk,fun k hk=>.inl hk,rfl⟩
 obtain ⟨e0,cs,e1⟩:=hm.fTag hk
 exact ⟨e0,cs,_,e1,by decide,by decide,by decide,by decide⟩
theorem MemR.beside (hm:MemR W B mv mem) (h:DocIn w0 W B x node T d sp mm cc) (ha:Apart (DF d) W W'):MemR W' B mv mem:=hm.apart ha (hm.off h)
end
def DoD (w0 w:World) (B:Nat) (x:CfgC) (node:Nat) (T:RepP.T) (d:DocC) (mv:Value) (r:(ApeP.Res × Option Nat) × ApeP.AS) (e:Ending) (w':World):Prop:=
 ∃ y t d',e = .returned (.tuple #[resV y,strV t])∧y.plain=r.1.1∧DocB w' y.A y.data∧ErrT r.1.2 t∧DocIn w0 w' B x node T d' r.2.ports r.2.mon r.2.cmd∧MemR w' B mv r.2.mem∧WentD w d mv d' w'
def MidD (w0 w:World) (B:Nat) (x:CfgC) (node:Nat) (T:RepP.T) (d:DocC) (mv:Value) (r:(ApeP.Res × Option Nat) × ApeP.AS) (y:ResC) (t:List UInt8) (w':World):Prop:=
 ∃ d',y.plain=r.1.1∧DocB w' y.A y.data∧ErrT r.1.2 t∧DocIn w0 w' B x node T d' r.2.ports r.2.mon r.2.cmd∧MemR w' B mv r.2.mem∧WentD w d mv d' w'
section
variable {w0 w w1 w2:World} {B:Nat} {x:CfgC} {node:Nat} {T:RepP.T} {d:DocC} {mv:Value} {r:(ApeP.Res × Option Nat) × ApeP.AS} {y:ResC} {t:List UInt8} {rb:Nat} {cs:Array Value}
theorem MidD.fin (hm:MidD w0 w B x node T d mv r y t w1) (hrb:w1.heap[rb]? = some (.cells cs 94 (0,0))) (hlo:w.heap.size≤rb) (hB:B≤w.heap.size) (ha:Apart (fun k=>k=rb) w1 w2) {rv:Value} (hrv:rv=resV y):DoD w0 w B x node T d mv r (.returned (.tuple #[rv,strV t])) w2:=by
 subst hrv
 obtain ⟨d',h1,h2,h3,h4,h5,h6⟩:=hm
 refine ⟨y,t,d',rfl,h1,h2.off ha (fun k hk=>?_),h3,h4.away ha (fun k hk e=>?_) (fun k hk=>?_),h5.apart ha (fun k hk e=>?_),⟨h6.apart.trans ha (fun i hi=>.inr (by rw [hi];exact hlo)),h6.f,h6.same⟩⟩
 ·subst hk
  exact ⟨_,_,hrb,by decide⟩
 ·subst e
  obtain ⟨-,cs',t',e1,e2,-⟩:=h4.fTag hk
  exact za5 hrb e1 (fun e=>ze4 (by rw [e];exact e2))
 ·subst hk
  exact ⟨Nat.le_trans hB hlo,_,_,hrb,by decide,by decide,by decide,by decide⟩
 ·exact zb2 h5.row hrb (by decide) k hk e
end
open Go.RowKit
set_option maxRecDepth 100000
theorem zc7 {c:TableP.Cfg} {node part:Nat} {T:RepP.T} {s:ApeP.AS} {o:ApeP.Op} (h:o.kind≠1):ApeP.opT c (node:Int) part T s o=ApeP.opP c node part T s o:=by
 unfold ApeP.opP
 rw [if_neg h]
theorem ze7 (part:Nat) (h:part≤255):((part:Nat):Int)≤9223372036854775807:=by omega
set_option maxHeartbeats 1000000 in
theorem rop_spin {w0 w:World} {B:Nat} {x:CfgC} {node part:Nat} {T:RepP.T} {d:DocC} {s:ApeP.AS} {mv:Value} (hd:DocIn w0 w B x node T d s.ports s.mon s.cmd) (hm:MemR w B mv s.mem) (hB:B≤w.heap.size) (xp xa xb xc:Int) (xD:Option Addr) (xm xcap:Nat) (xd:List UInt8):Calls Tryz.prog 34 #[.int .i64 (part:Nat),mv,docV d,.agg #[.int .u8 5,.int .i64 xp,.int .i64 xa,.int .i64 xb,.int .i64 xc,.slice xD xm xcap]] w (DoD w0 w B x node T d mv (ApeP.opT x.plain (node:Int) part T s ⟨5,xp,xa,xb,xc,xd⟩)):=by
 have hb0:Below w.heap.size w (((w.alloc (.cells #[.pointer (some ⟨d.ra,0,none⟩),.pointer (some ⟨d.tb,0,none⟩),.pointer (some ⟨d.rm,0,none⟩),.pointer (some ⟨d.cb,0,none⟩)] 53)).alloc (.cells #[.int .u8 5,.int .i64 xp,.int .i64 xa,.int .i64 xb,.int .i64 xc,.slice xD xm xcap] 91)).alloc (.cells #[.int .i64 0,.int .i64 0,.slice none 0 0,.bool false] 94)):=(((Below.refl _ _).alloc (Nat.le_refl _) _).alloc (by simp) _).alloc (by simp;omega) _
 unfold docV
 generalize hW0:(((w.alloc (.cells #[.pointer (some ⟨d.ra,0,none⟩),.pointer (some ⟨d.tb,0,none⟩),.pointer (some ⟨d.rm,0,none⟩),.pointer (some ⟨d.cb,0,none⟩)] 53)).alloc (.cells #[.int .u8 5,.int .i64 xp,.int .i64 xa,.int .i64 xb,.int .i64 xc,.slice xD xm xcap] 91)).alloc (.cells #[.int .i64 0,.int .i64 0,.slice none 0 0,.bool false] 94))=W0 at *
 have hH:W0.heap[w.heap.size]? = some (.cells #[.pointer (some ⟨d.ra,0,none⟩),.pointer (some ⟨d.tb,0,none⟩),.pointer (some ⟨d.rm,0,none⟩),.pointer (some ⟨d.cb,0,none⟩)] 53 (0,0)):=by rw [← hW0,allocAt _ _ _ (by simp;omega),allocAt _ _ _ (by simp)];exact newAt _ _
 have hO:W0.heap[w.heap.size + 1]? = some (.cells #[.int .u8 5,.int .i64 xp,.int .i64 xa,.int .i64 xb,.int .i64 xc,.slice xD xm xcap] 91 (0,0)):=by rw [← hW0,allocAt _ _ _ (by simp)];exact newAt1 _ _ _
 have hR:W0.heap[w.heap.size + 2]? = some (.cells #[.int .i64 0,.int .i64 0,.slice none 0 0,.bool false] 94 (0,0)):=by
  rw [← hW0]
  have:=newAt ((w.alloc (.cells #[.pointer (some ⟨d.ra,0,none⟩),.pointer (some ⟨d.tb,0,none⟩),.pointer (some ⟨d.rm,0,none⟩),.pointer (some ⟨d.cb,0,none⟩)] 53)).alloc (.cells #[.int .u8 5,.int .i64 xp,.int .i64 xa,.int .i64 xb,.int .i64 xc,.slice xD xm xcap] 91)) (.cells #[.int .i64 0,.int .i64 0,.slice none 0 0,.bool false] 94)
  simpa using this
 have hd0:=hd.below hb0
 have hm0:=hm.below hb0
 have HE0:=Lib.hid hW0
 have hw0:∀ mv,WentD w d mv d W0:=fun mv=>WentD.of_below hb0 d mv
 have HB:=Lib.hid hB
 have HM:Hid (MidD w0 w B x node T d mv (ApeP.opT x.plain (node:Int) part T s ⟨5,xp,xa,xb,xc,xd⟩) ⟨0,0,none,0,[],false⟩ [] W0):=Lib.hid ⟨d,rfl,DocB.none_,ErrT.none_,hd0,hm0,hw0 mv⟩
 have o0:=za0 hO 0 rfl
 have o1:=za0 hO 1 rfl
 have o2:=za0 hO 2 rfl
 have o3:=za0 hO 3 rfl
 have o4:=za0 hO 4 rfl
 have o5:=za0 hO 5 rfl
 have hbz:=hR
 have Hbz:=Lib.hid hbz
 have k0:=za0 hbz 0 rfl
 have k1:=za0 hbz 1 rfl
 have k2:=za0 hbz 2 rfl
 have k3:=za0 hbz 3 rfl
 have f:=fun i=>za2 hbz i
 clear hd hm hH hO hR hd0 hm0 hw0 hb0 hW0 hB hbz
 generalize (ApeP.opT x.plain (node:Int) part T s ⟨5,xp,xa,xb,xc,xd⟩)=rr at *
 go_enter Tryz.func34,Tryz.ntmps34
 go_wp2_with fail
 rw [HE0.out]
 clear f
 refine bodyPost_ret (v:=.tuple #[.agg #[.int .i64 0,.int .i64 0,.slice none 0 0,.bool false],.string ⟨#[]⟩]) (by simp [results,Tryz.results34,go_sem,k0,k1,k2,k3]) rfl ?_
 exact HM.out.fin Hbz.out (by omega) HB.out (Apart.refl _ _) rfl
set_option maxHeartbeats 1000000 in
theorem rop_raise {w0 w:World} {B:Nat} {x:CfgC} {node part:Nat} {T:RepP.T} {d:DocC} {s:ApeP.AS} {mv:Value} (hd:DocIn w0 w B x node T d s.ports s.mon s.cmd) (hm:MemR w B mv s.mem) (hB:B≤w.heap.size) (hpt:part≤255) (xp xa xb xc:Int) (xD:Option Addr) (xm xcap:Nat) (xd:List UInt8):Calls Tryz.prog 34 #[.int .i64 (part:Nat),mv,docV d,.agg #[.int .u8 6,.int .i64 xp,.int .i64 xa,.int .i64 xb,.int .i64 xc,.slice xD xm xcap]] w (DoD w0 w B x node T d mv (ApeP.opT x.plain (node:Int) part T s ⟨6,xp,xa,xb,xc,xd⟩)):=by
 have hb0:Below w.heap.size w (((w.alloc (.cells #[.pointer (some ⟨d.ra,0,none⟩),.pointer (some ⟨d.tb,0,none⟩),.pointer (some ⟨d.rm,0,none⟩),.pointer (some ⟨d.cb,0,none⟩)] 53)).alloc (.cells #[.int .u8 6,.int .i64 xp,.int .i64 xa,.int .i64 xb,.int .i64 xc,.slice xD xm xcap] 91)).alloc (.cells #[.int .i64 0,.int .i64 0,.slice none 0 0,.bool false] 94)):=(((Below.refl _ _).alloc (Nat.le_refl _) _).alloc (by simp) _).alloc (by simp;omega) _
 unfold docV
 generalize hW0:(((w.alloc (.cells #[.pointer (some ⟨d.ra,0,none⟩),.pointer (some ⟨d.tb,0,none⟩),.pointer (some ⟨d.rm,0,none⟩),.pointer (some ⟨d.cb,0,none⟩)] 53)).alloc (.cells #[.int .u8 6,.int .i64 xp,.int .i64 xa,.int .i64 xb,.int .i64 xc,.slice xD xm xcap] 91)).alloc (.cells #[.int .i64 0,.int .i64 0,.slice none 0 0,.bool false] 94))=W0 at *
 have hH:W0.heap[w.heap.size]? = some (.cells #[.pointer (some ⟨d.ra,0,none⟩),.pointer (some ⟨d.tb,0,none⟩),.pointer (some ⟨d.rm,0,none⟩),.pointer (some ⟨d.cb,0,none⟩)] 53 (0,0)):=by rw [← hW0,allocAt _ _ _ (by simp;omega),allocAt _ _ _ (by simp)];exact newAt _ _
 have hO:W0.heap[w.heap.size + 1]? = some (.cells #[.int .u8 6,.int .i64 xp,.int .i64 xa,.int .i64 xb,.int .i64 xc,.slice xD xm xcap] 91 (0,0)):=by rw [← hW0,allocAt _ _ _ (by simp)];exact newAt1 _ _ _
 have hR:W0.heap[w.heap.size + 2]? = some (.cells #[.int .i64 0,.int .i64 0,.slice none 0 0,.bool false] 94 (0,0)):=by
  rw [← hW0]
  have:=newAt ((w.alloc (.cells #[.pointer (some ⟨d.ra,0,none⟩),.pointer (some ⟨d.tb,0,none⟩),.pointer (some ⟨d.rm,0,none⟩),.pointer (some ⟨d.cb,0,none⟩)] 53)).alloc (.cells #[.int .u8 6,.int .i64 xp,.int .i64 xa,.int .i64 xb,.int .i64 xc,.slice xD xm xcap] 91)) (.cells #[.int .i64 0,.int .i64 0,.slice none 0 0,.bool false] 94)
  simpa using this
 have hd0:=hd.below hb0
 have hm0:=hm.below hb0
 have HE0:=Lib.hid hW0
 have hw0:∀ mv,WentD w d mv d W0:=fun mv=>WentD.of_below hb0 d mv
 have HB:=Lib.hid hB
 have HM:Hid (∀ t w1,ErrT (some 152) t→Below W0.heap.size W0 w1→MidD w0 w B x node T d mv (ApeP.opT x.plain (node:Int) part T s ⟨6,xp,xa,xb,xc,xd⟩) ⟨0,0,none,0,[],false⟩ t w1):=Lib.hid fun t w1 ht g=>by
  rw [show (ApeP.opT x.plain (node:Int) part T s ⟨6,xp,xa,xb,xc,xd⟩)=((ApeP.Res.zero,some 152),s) from (zc7 (by show (6:Nat)≠1;decide)).trans (zq9 (by decide))]
  exact ⟨d,rfl,DocB.none_,ht,hd0.below g,hm0.below g,(hw0 mv).trans (WentD.of_below g d mv)⟩
 have HAt:=Lib.hid (fun W=>zc5 152 (part:Nat) W (by decide) (ze7 part hpt))
 have HTx:Hid (ErrT (some 152) (atT 152 (part:Nat))):=Lib.hid (ErrT.at_ (by decide) (ze7 part hpt))
 have o0:=za0 hO 0 rfl
 have o1:=za0 hO 1 rfl
 have o2:=za0 hO 2 rfl
 have o3:=za0 hO 3 rfl
 have o4:=za0 hO 4 rfl
 have o5:=za0 hO 5 rfl
 have HR:=Lib.hid hR
 clear hd hm hH hO hR hd0 hm0 hw0 hb0 hW0 hB
 generalize (ApeP.opT x.plain (node:Int) part T s ⟨6,xp,xa,xb,xc,xd⟩)=rr at *
 go_enter Tryz.func34,Tryz.ntmps34
 go_wp2_with fail
 rw [HE0.out]
 refine (HAt.out _).mono ?_
 rintro e w1 ⟨rfl,hb1⟩
 have hbz:=(hb1.block _ (lt_of_block HR.out)).trans HR.out
 have Hbz:=Lib.hid hbz
 have k0:=za0 hbz 0 rfl
 have k1:=za0 hbz 1 rfl
 have k2:=za0 hbz 2 rfl
 have k3:=za0 hbz 3 rfl
 have f:=fun i=>za2 hbz i
 have HMm:=Lib.hid (HM.out _ w1 HTx.out hb1)
 clear hbz hb1 HM HAt HTx HR
 go_wp2_with fail
 clear k0 k1 k2 k3 f
 show bodyPost _ _ _ _ _ (storeAll w1 (w.heap.size + 2) [.int .i64 0,.int .i64 0,.slice none 0 0,.bool false] 0)
 have hfin:=za4 Hbz.out rfl [.int .i64 0,.int .i64 0,.slice none 0 0,.bool false] rfl
 have HSt:=Lib.hid (za1 (w.heap.size + 2) [.int .i64 0,.int .i64 0,.slice none 0 0,.bool false] 0 w1)
 generalize storeAll w1 (w.heap.size + 2) [.int .i64 0,.int .i64 0,.slice none 0 0,.bool false] 0=Wf at *
 have r0:=za0 hfin 0 rfl
 have r1:=za0 hfin 1 rfl
 have r2:=za0 hfin 2 rfl
 have r3:=za0 hfin 3 rfl
 refine bodyPost_ret (v:=.tuple #[.agg #[.int .i64 0,.int .i64 0,.slice none 0 0,.bool false],strV (atT 152 (part:Nat))]) (by simp [results,Tryz.results34,go_sem,r0,r1,r2,r3]) rfl ?_
 exact HMm.out.fin Hbz.out (by omega) HB.out HSt.out rfl
set_option maxHeartbeats 1000000 in
theorem rop_other {w0 w:World} {B:Nat} {x:CfgC} {node part:Nat} {T:RepP.T} {d:DocC} {s:ApeP.AS} {mv:Value} (hd:DocIn w0 w B x node T d s.ports s.mon s.cmd) (hm:MemR w B mv s.mem) (hB:B≤w.heap.size) (hpt:part≤255) (xk:Nat) (hk:¬ (xk=1∨xk=2∨xk=3∨xk=4∨xk=5∨xk=6∨xk=7∨xk=8∨xk=9∨xk=10)) (xp xa xb xc:Int) (xD:Option Addr) (xm xcap:Nat) (xd:List UInt8):Calls Tryz.prog 34 #[.int .i64 (part:Nat),mv,docV d,.agg #[.int .u8 (xk:Nat),.int .i64 xp,.int .i64 xa,.int .i64 xb,.int .i64 xc,.slice xD xm xcap]] w (DoD w0 w B x node T d mv (ApeP.opT x.plain (node:Int) part T s ⟨xk,xp,xa,xb,xc,xd⟩)):=by
 have hb0:Below w.heap.size w (((w.alloc (.cells #[.pointer (some ⟨d.ra,0,none⟩),.pointer (some ⟨d.tb,0,none⟩),.pointer (some ⟨d.rm,0,none⟩),.pointer (some ⟨d.cb,0,none⟩)] 53)).alloc (.cells #[.int .u8 (xk:Nat),.int .i64 xp,.int .i64 xa,.int .i64 xb,.int .i64 xc,.slice xD xm xcap] 91)).alloc (.cells #[.int .i64 0,.int .i64 0,.slice none 0 0,.bool false] 94)):=(((Below.refl _ _).alloc (Nat.le_refl _) _).alloc (by simp) _).alloc (by simp;omega) _
 unfold docV
 generalize hW0:(((w.alloc (.cells #[.pointer (some ⟨d.ra,0,none⟩),.pointer (some ⟨d.tb,0,none⟩),.pointer (some ⟨d.rm,0,none⟩),.pointer (some ⟨d.cb,0,none⟩)] 53)).alloc (.cells #[.int .u8 (xk:Nat),.int .i64 xp,.int .i64 xa,.int .i64 xb,.int .i64 xc,.slice xD xm xcap] 91)).alloc (.cells #[.int .i64 0,.int .i64 0,.slice none 0 0,.bool false] 94))=W0 at *
 have hH:W0.heap[w.heap.size]? = some (.cells #[.pointer (some ⟨d.ra,0,none⟩),.pointer (some ⟨d.tb,0,none⟩),.pointer (some ⟨d.rm,0,none⟩),.pointer (some ⟨d.cb,0,none⟩)] 53 (0,0)):=by rw [← hW0,allocAt _ _ _ (by simp;omega),allocAt _ _ _ (by simp)];exact newAt _ _
 have hO:W0.heap[w.heap.size + 1]? = some (.cells #[.int .u8 (xk:Nat),.int .i64 xp,.int .i64 xa,.int .i64 xb,.int .i64 xc,.slice xD xm xcap] 91 (0,0)):=by rw [← hW0,allocAt _ _ _ (by simp)];exact newAt1 _ _ _
 have hR:W0.heap[w.heap.size + 2]? = some (.cells #[.int .i64 0,.int .i64 0,.slice none 0 0,.bool false] 94 (0,0)):=by
  rw [← hW0]
  have:=newAt ((w.alloc (.cells #[.pointer (some ⟨d.ra,0,none⟩),.pointer (some ⟨d.tb,0,none⟩),.pointer (some ⟨d.rm,0,none⟩),.pointer (some ⟨d.cb,0,none⟩)] 53)).alloc (.cells #[.int .u8 (xk:Nat),.int .i64 xp,.int .i64 xa,.int .i64 xb,.int .i64 xc,.slice xD xm xcap] 91)) (.cells #[.int .i64 0,.int .i64 0,.slice none 0 0,.bool false] 94)
  simpa using this
 have hd0:=hd.below hb0
 have hm0:=hm.below hb0
 have HE0:=Lib.hid hW0
 have hw0:∀ mv,WentD w d mv d W0:=fun mv=>WentD.of_below hb0 d mv
 have HB:=Lib.hid hB
 have HM:Hid (∀ t w1,ErrT (some 152) t→Below W0.heap.size W0 w1→MidD w0 w B x node T d mv (ApeP.opT x.plain (node:Int) part T s ⟨xk,xp,xa,xb,xc,xd⟩) ⟨0,0,none,0,[],false⟩ t w1):=Lib.hid fun t w1 ht g=>by
  rw [show (ApeP.opT x.plain (node:Int) part T s ⟨xk,xp,xa,xb,xc,xd⟩)=((ApeP.Res.zero,some 152),s) from (zc7 (by simp only;omega)).trans (zq9 (by omega))]
  exact ⟨d,rfl,DocB.none_,ht,hd0.below g,hm0.below g,(hw0 mv).trans (WentD.of_below g d mv)⟩
 have q1:((xk:Int) == 1)=false:=by rw [beq_eq_false_iff_ne];omega
 have p1:(xk == 1)=false:=by rw [beq_eq_false_iff_ne];omega
 have q2:((xk:Int) == 2)=false:=by rw [beq_eq_false_iff_ne];omega
 have p2:(xk == 2)=false:=by rw [beq_eq_false_iff_ne];omega
 have q3:((xk:Int) == 3)=false:=by rw [beq_eq_false_iff_ne];omega
 have p3:(xk == 3)=false:=by rw [beq_eq_false_iff_ne];omega
 have q4:((xk:Int) == 4)=false:=by rw [beq_eq_false_iff_ne];omega
 have p4:(xk == 4)=false:=by rw [beq_eq_false_iff_ne];omega
 have q5:((xk:Int) == 5)=false:=by rw [beq_eq_false_iff_ne];omega
 have p5:(xk == 5)=false:=by rw [beq_eq_false_iff_ne];omega
 have q6:((xk:Int) == 6)=false:=by rw [beq_eq_false_iff_ne];omega
 have p6:(xk == 6)=false:=by rw [beq_eq_false_iff_ne];omega
 have q7:((xk:Int) == 7)=false:=by rw [beq_eq_false_iff_ne];omega
 have p7:(xk == 7)=false:=by rw [beq_eq_false_iff_ne];omega
 have q8:((xk:Int) == 8)=false:=by rw [beq_eq_false_iff_ne];omega
 have p8:(xk == 8)=false:=by rw [beq_eq_false_iff_ne];omega
 have q9:((xk:Int) == 9)=false:=by rw [beq_eq_false_iff_ne];omega
 have p9:(xk == 9)=false:=by rw [beq_eq_false_iff_ne];omega
 have q10:((xk:Int) == 10)=false:=by rw [beq_eq_false_iff_ne];omega
 have p10:(xk == 10)=false:=by rw [beq_eq_false_iff_ne];omega
 have HAt:=Lib.hid (fun W=>zc5 152 (part:Nat) W (by decide) (ze7 part hpt))
 have HTx:Hid (ErrT (some 152) (atT 152 (part:Nat))):=Lib.hid (ErrT.at_ (by decide) (ze7 part hpt))
 have o0:=za0 hO 0 rfl
 have o1:=za0 hO 1 rfl
 have o2:=za0 hO 2 rfl
 have o3:=za0 hO 3 rfl
 have o4:=za0 hO 4 rfl
 have o5:=za0 hO 5 rfl
 have HR:=Lib.hid hR
 clear hd hm hH hO hR hd0 hm0 hw0 hb0 hW0 hB hk
 generalize (ApeP.opT x.plain (node:Int) part T s ⟨xk,xp,xa,xb,xc,xd⟩)=rr at *
 go_enter Tryz.func34,Tryz.ntmps34
 go_wp2_with fail
 rw [HE0.out]
 refine (HAt.out _).mono ?_
 rintro e w1 ⟨rfl,hb1⟩
 have hbz:=(hb1.block _ (lt_of_block HR.out)).trans HR.out
 have Hbz:=Lib.hid hbz
 have k0:=za0 hbz 0 rfl
 have k1:=za0 hbz 1 rfl
 have k2:=za0 hbz 2 rfl
 have k3:=za0 hbz 3 rfl
 have f:=fun i=>za2 hbz i
 have HMm:=Lib.hid (HM.out _ w1 HTx.out hb1)
 clear hbz hb1 HM HAt HTx HR
 go_wp2_with fail
 clear k0 k1 k2 k3 f
 show bodyPost _ _ _ _ _ (storeAll w1 (w.heap.size + 2) [.int .i64 0,.int .i64 0,.slice none 0 0,.bool false] 0)
 have hfin:=za4 Hbz.out rfl [.int .i64 0,.int .i64 0,.slice none 0 0,.bool false] rfl
 have HSt:=Lib.hid (za1 (w.heap.size + 2) [.int .i64 0,.int .i64 0,.slice none 0 0,.bool false] 0 w1)
 generalize storeAll w1 (w.heap.size + 2) [.int .i64 0,.int .i64 0,.slice none 0 0,.bool false] 0=Wf at *
 have r0:=za0 hfin 0 rfl
 have r1:=za0 hfin 1 rfl
 have r2:=za0 hfin 2 rfl
 have r3:=za0 hfin 3 rfl
 refine bodyPost_ret (v:=.tuple #[.agg #[.int .i64 0,.int .i64 0,.slice none 0 0,.bool false],strV (atT 152 (part:Nat))]) (by simp [results,Tryz.results34,go_sem,r0,r1,r2,r3]) rfl ?_
 exact HMm.out.fin Hbz.out (by omega) HB.out HSt.out rfl
set_option maxHeartbeats 2000000 in
theorem rop_store {w0 w:World} {B:Nat} {x:CfgC} {node part:Nat} {T:RepP.T} {d:DocC} {s:ApeP.AS} {mv:Value} (hd:DocIn w0 w B x node T d s.ports s.mon s.cmd) (hm:MemR w B mv s.mem) (hB:B≤w.heap.size) (xp xa xb xc:Int) (xD:Option Addr) (xm xcap:Nat) (xd:List UInt8) (hxa:xa≤9223372036854775807):Calls Tryz.prog 34 #[.int .i64 (part:Nat),mv,docV d,.agg #[.int .u8 3,.int .i64 xp,.int .i64 xa,.int .i64 xb,.int .i64 xc,.slice xD xm xcap]] w (DoD w0 w B x node T d mv (ApeP.opT x.plain (node:Int) part T s ⟨3,xp,xa,xb,xc,xd⟩)):=by
 have hb0:Below w.heap.size w (((w.alloc (.cells #[.pointer (some ⟨d.ra,0,none⟩),.pointer (some ⟨d.tb,0,none⟩),.pointer (some ⟨d.rm,0,none⟩),.pointer (some ⟨d.cb,0,none⟩)] 53)).alloc (.cells #[.int .u8 3,.int .i64 xp,.int .i64 xa,.int .i64 xb,.int .i64 xc,.slice xD xm xcap] 91)).alloc (.cells #[.int .i64 0,.int .i64 0,.slice none 0 0,.bool false] 94)):=(((Below.refl _ _).alloc (Nat.le_refl _) _).alloc (by simp) _).alloc (by simp;omega) _
 unfold docV
 generalize hW0:(((w.alloc (.cells #[.pointer (some ⟨d.ra,0,none⟩),.pointer (some ⟨d.tb,0,none⟩),.pointer (some ⟨d.rm,0,none⟩),.pointer (some ⟨d.cb,0,none⟩)] 53)).alloc (.cells #[.int .u8 3,.int .i64 xp,.int .i64 xa,.int .i64 xb,.int .i64 xc,.slice xD xm xcap] 91)).alloc (.cells #[.int .i64 0,.int .i64 0,.slice none 0 0,.bool false] 94))=W0 at *
 have hH:W0.heap[w.heap.size]? = some (.cells #[.pointer (some ⟨d.ra,0,none⟩),.pointer (some ⟨d.tb,0,none⟩),.pointer (some ⟨d.rm,0,none⟩),.pointer (some ⟨d.cb,0,none⟩)] 53 (0,0)):=by rw [← hW0,allocAt _ _ _ (by simp;omega),allocAt _ _ _ (by simp)];exact newAt _ _
 have hO:W0.heap[w.heap.size + 1]? = some (.cells #[.int .u8 3,.int .i64 xp,.int .i64 xa,.int .i64 xb,.int .i64 xc,.slice xD xm xcap] 91 (0,0)):=by rw [← hW0,allocAt _ _ _ (by simp)];exact newAt1 _ _ _
 have hR:W0.heap[w.heap.size + 2]? = some (.cells #[.int .i64 0,.int .i64 0,.slice none 0 0,.bool false] 94 (0,0)):=by
  rw [← hW0]
  have:=newAt ((w.alloc (.cells #[.pointer (some ⟨d.ra,0,none⟩),.pointer (some ⟨d.tb,0,none⟩),.pointer (some ⟨d.rm,0,none⟩),.pointer (some ⟨d.cb,0,none⟩)] 53)).alloc (.cells #[.int .u8 3,.int .i64 xp,.int .i64 xa,.int .i64 xb,.int .i64 xc,.slice xD xm xcap] 91)) (.cells #[.int .i64 0,.int .i64 0,.slice none 0 0,.bool false] 94)
  simpa using this
 have hd0:=hd.below hb0
 have hm0:=hm.below hb0
 have HE0:=Lib.hid hW0
 have hw0:∀ mv,WentD w d mv d W0:=fun mv=>WentD.of_below hb0 d mv
 have HB:=Lib.hid hB
 obtain ⟨MA,mc,rfl,-⟩:=za6 hm.row
 have hmost:=hm.most
 by_cases hbad:xa < 0∨(s.mem.length:Int)≤xa
 ·have HM:Hid (∀ t w1,ErrT (some 150) t→Below W0.heap.size W0 w1→MidD w0 w B x node T d (.slice MA s.mem.length mc) (ApeP.opT x.plain (node:Int) part T s ⟨3,xp,xa,xb,xc,xd⟩) ⟨0,0,none,0,[],false⟩ t w1):=Lib.hid fun t w1 ht g=>by
   rw [show (ApeP.opT x.plain (node:Int) part T s ⟨3,xp,xa,xb,xc,xd⟩)=((ApeP.Res.zero,some 150),s) from (zc7 (by show (3:Nat)≠1;decide)).trans (by rw [zq8];unfold storeT;rw [if_pos hbad])]
   exact ⟨d,rfl,DocB.none_,ht,hd0.below g,hm0.below g,(hw0 (.slice MA s.mem.length mc)).trans (WentD.of_below g d (.slice MA s.mem.length mc))⟩
  generalize hmn:s.mem.length=mn at *
  by_cases h1:xa < 0
  ·have p1:decide (xa < 0)=true:=decide_eq_true h1
   have HAt:=Lib.hid (fun W=>zc5 150 xa W (by decide) hxa)
   have HTx:Hid (ErrT (some 150) (atT 150 xa)):=Lib.hid (ErrT.at_ (by decide) hxa)
   have o0:=za0 hO 0 rfl
   have o1:=za0 hO 1 rfl
   have o2:=za0 hO 2 rfl
   have o3:=za0 hO 3 rfl
   have o4:=za0 hO 4 rfl
   have o5:=za0 hO 5 rfl
   have HR:=Lib.hid hR
   clear hd hm hH hO hR hd0 hm0 hw0 hb0 hW0 hB hbad h1 hmn hmost
   generalize (ApeP.opT x.plain (node:Int) part T s ⟨3,xp,xa,xb,xc,xd⟩)=rr at *
   go_enter Tryz.func34,Tryz.ntmps34
   go_wp2_with fail
   rw [HE0.out]
   refine (HAt.out _).mono ?_
   rintro e w1 ⟨rfl,hb1⟩
   have hbz:=(hb1.block _ (lt_of_block HR.out)).trans HR.out
   have Hbz:=Lib.hid hbz
   have k0:=za0 hbz 0 rfl
   have k1:=za0 hbz 1 rfl
   have k2:=za0 hbz 2 rfl
   have k3:=za0 hbz 3 rfl
   have f:=fun i=>za2 hbz i
   have HMm:=Lib.hid (HM.out _ w1 HTx.out hb1)
   clear hbz hb1 HM HAt HTx HR
   go_wp2_with fail
   clear k0 k1 k2 k3 f
   show bodyPost _ _ _ _ _ (storeAll w1 (w.heap.size + 2) [.int .i64 0,.int .i64 0,.slice none 0 0,.bool false] 0)
   have hfin:=za4 Hbz.out rfl [.int .i64 0,.int .i64 0,.slice none 0 0,.bool false] rfl
   have HSt:=Lib.hid (za1 (w.heap.size + 2) [.int .i64 0,.int .i64 0,.slice none 0 0,.bool false] 0 w1)
   generalize storeAll w1 (w.heap.size + 2) [.int .i64 0,.int .i64 0,.slice none 0 0,.bool false] 0=Wf at *
   have r0:=za0 hfin 0 rfl
   have r1:=za0 hfin 1 rfl
   have r2:=za0 hfin 2 rfl
   have r3:=za0 hfin 3 rfl
   refine bodyPost_ret (v:=.tuple #[.agg #[.int .i64 0,.int .i64 0,.slice none 0 0,.bool false],strV (atT 150 xa)]) (by simp [results,Tryz.results34,go_sem,r0,r1,r2,r3]) rfl ?_
   exact HMm.out.fin Hbz.out (by omega) HB.out HSt.out rfl
  ·have p1:decide (xa < 0)=false:=decide_eq_false h1
   have p2:decide ((mn:Int)≤xa)=true:=decide_eq_true (by omega)
   have HAt:=Lib.hid (fun W=>zc5 150 xa W (by decide) hxa)
   have HTx:Hid (ErrT (some 150) (atT 150 xa)):=Lib.hid (ErrT.at_ (by decide) hxa)
   have o0:=za0 hO 0 rfl
   have o1:=za0 hO 1 rfl
   have o2:=za0 hO 2 rfl
   have o3:=za0 hO 3 rfl
   have o4:=za0 hO 4 rfl
   have o5:=za0 hO 5 rfl
   have HR:=Lib.hid hR
   clear hd hm hH hO hR hd0 hm0 hw0 hb0 hW0 hB hbad h1 hmn hmost
   generalize (ApeP.opT x.plain (node:Int) part T s ⟨3,xp,xa,xb,xc,xd⟩)=rr at *
   go_enter Tryz.func34,Tryz.ntmps34
   go_wp2_with fail
   rw [HE0.out]
   refine (HAt.out _).mono ?_
   rintro e w1 ⟨rfl,hb1⟩
   have hbz:=(hb1.block _ (lt_of_block HR.out)).trans HR.out
   have Hbz:=Lib.hid hbz
   have k0:=za0 hbz 0 rfl
   have k1:=za0 hbz 1 rfl
   have k2:=za0 hbz 2 rfl
   have k3:=za0 hbz 3 rfl
   have f:=fun i=>za2 hbz i
   have HMm:=Lib.hid (HM.out _ w1 HTx.out hb1)
   clear hbz hb1 HM HAt HTx HR
   go_wp2_with fail
   clear k0 k1 k2 k3 f
   show bodyPost _ _ _ _ _ (storeAll w1 (w.heap.size + 2) [.int .i64 0,.int .i64 0,.slice none 0 0,.bool false] 0)
   have hfin:=za4 Hbz.out rfl [.int .i64 0,.int .i64 0,.slice none 0 0,.bool false] rfl
   have HSt:=Lib.hid (za1 (w.heap.size + 2) [.int .i64 0,.int .i64 0,.slice none 0 0,.bool false] 0 w1)
   generalize storeAll w1 (w.heap.size + 2) [.int .i64 0,.int .i64 0,.slice none 0 0,.bool false] 0=Wf at *
   have r0:=za0 hfin 0 rfl
   have r1:=za0 hfin 1 rfl
   have r2:=za0 hfin 2 rfl
   have r3:=za0 hfin 3 rfl
   refine bodyPost_ret (v:=.tuple #[.agg #[.int .i64 0,.int .i64 0,.slice none 0 0,.bool false],strV (atT 150 xa)]) (by simp [results,Tryz.results34,go_sem,r0,r1,r2,r3]) rfl ?_
   exact HMm.out.fin Hbz.out (by omega) HB.out HSt.out rfl
 ·obtain ⟨an,rfl⟩:=Int.eq_ofNat_of_zero_le (show 0≤xa by omega)
  have hlt:an < s.mem.length:=by omega
  obtain ⟨g,cap,e1,-⟩:=zc6 hm0.row (by omega)
  injection e1 with e1 _ e3
  subst e1 e3
  have hgb:∃ cs,W0.heap[g]? = some (.cells cs 42 (0,0)):=(Seg.of_own hm0.row).block g rfl
  have p1:decide ((an:Int) < 0)=false:=decide_eq_false (by omega)
  have p2:decide ((s.mem.length:Int)≤(an:Int))=false:=decide_eq_false (by omega)
  have p3:decide ((an:Int) < (s.mem.length:Int))=true:=decide_eq_true (by omega)
  have p4:decide (an < s.mem.length)=true:=decide_eq_true hlt
  have p5:(an:Int) < (s.mem.length:Int):=by omega
  obtain ⟨cs,hcs⟩:=hgb
  have kA:W0.cell? ⟨g,an,none⟩=some (.int .u16 (s.mem[an]?.getD 0:Nat)):=by rw [hm0.row.cellAt an (by omega),ze6 hlt]
  have fA:=fun j=>za2 hcs j
  have b1:=zb8 xb
  have hc16:=zc8 xb
  have hT:(ApeP.opT x.plain (node:Int) part T s ⟨3,xp,(an:Nat),xb,xc,xd⟩)=((⟨0,(ApeP.cut16 xb:Nat),[],false⟩,none),⟨s.mem.set an (ApeP.cut16 xb),s.ports,s.mon,s.cmd⟩):=(zc7 (by show (3:Nat)≠1;decide)).trans (by rw [zq8];unfold storeT;rw [if_neg hbad,Int.toNat_natCast])
  have hne2:g≠w.heap.size + 2:=fun e=>by subst e;exact za5 hcs hR (by decide)
  have hne1:g≠w.heap.size + 1:=fun e=>by subst e;exact za5 hcs hO (by decide)
  have hrow1:=(hm0.row.stored an (.int .u16 (ApeP.cut16 xb:Nat))).1
  rw [← zz6] at hrow1
  have ha1:Apart (fun k=>Value.ownBlock (.slice (some ⟨g,0,none⟩) s.mem.length mc)=some k) W0 (W0.setCell ⟨g,an,none⟩ (.int .u16 (ApeP.cut16 xb:Nat))):=Apart.setCell (F:=fun k=>Value.ownBlock (.slice (some ⟨g,0,none⟩) s.mem.length mc)=some k) (Apart.refl _ W0) (p:=⟨g,an,none⟩) (.inl rfl) _
  have HM:Hid (MidD w0 w B x node T d (.slice (some ⟨g,0,none⟩) s.mem.length mc) (ApeP.opT x.plain (node:Int) part T s ⟨3,xp,(an:Nat),xb,xc,xd⟩) ⟨0,(ApeP.cut16 xb:Nat),none,0,[],false⟩ [] (W0.setCell ⟨g,an,none⟩ (.int .u16 (ApeP.cut16 xb:Nat)))):=Lib.hid (by
   rw [hT]
   obtain ⟨e1,e2⟩:=hd0.toWords hm0 ha1
   refine ⟨d,rfl,DocB.none_,ErrT.none_,e1,⟨by rw [List.length_set];exact hrow1,fun v hv=>?_,by rw [List.length_set];exact hm.most⟩,(hw0 _).trans e2⟩
   rcases List.mem_or_eq_of_mem_set hv with h1 | h1
   ·exact hm.ok v h1
   ·rw [h1];exact hc16)
  have hR1:(W0.setCell ⟨g,an,none⟩ (.int .u16 (ApeP.cut16 xb:Nat))).heap[w.heap.size + 2]? = some (.cells #[.int .i64 0,.int .i64 0,.slice none 0 0,.bool false] 94 (0,0)):=(Below.heap_setCell _ _ _ _ (Ne.symm hne2)).trans hR
  have hO1:(W0.setCell ⟨g,an,none⟩ (.int .u16 (ApeP.cut16 xb:Nat))).heap[w.heap.size + 1]? = some (.cells #[.int .u8 3,.int .i64 xp,.int .i64 (an:Nat),.int .i64 xb,.int .i64 xc,.slice xD xm xcap] 91 (0,0)):=(Below.heap_setCell _ _ _ _ (Ne.symm hne1)).trans hO
  have kA1:(W0.setCell ⟨g,an,none⟩ (.int .u16 (ApeP.cut16 xb:Nat))).cell? ⟨g,an,none⟩=some (.int .u16 (ApeP.cut16 xb:Nat)):=by
   have hrr:(W0.setCell ⟨g,an,none⟩ (.int .u16 (ApeP.cut16 xb:Nat))).ownsRow B 42 1 (.slice (some ⟨g,0,none⟩) (s.mem.set an (ApeP.cut16 xb)).length mc) (s.mem.set an (ApeP.cut16 xb)).length (wordV (s.mem.set an (ApeP.cut16 xb))):=by rw [List.length_set];exact hrow1
   rw [hrr.cellAt an (by rw [List.length_set];omega),ze6 (by rw [List.length_set];exact hlt),List.getElem?_set_self hlt]
   rfl
  have o0:=za0 hO 0 rfl
  have o1:=za0 hO 1 rfl
  have o2:=za0 hO 2 rfl
  have o3:=za0 hO 3 rfl
  have o4:=za0 hO 4 rfl
  have o5:=za0 hO 5 rfl
  have HR1:=Lib.hid hR1
  have HO1:=Lib.hid hO1
  clear hd hm hH hO hR hd0 hm0 hw0 hb0 hW0 hB hT hlt hbad hrow1 ha1 hR1 hO1 hne1 hne2 hcs
  generalize (ApeP.opT x.plain (node:Int) part T s ⟨3,xp,(an:Nat),xb,xc,xd⟩)=rr at *
  generalize s.mem[an]?.getD 0=vv at *
  generalize ApeP.cut16 xb=vn at *
  have e1:IntKind.i64.wrap (vn:Int)=(vn:Int):=IntWalk.i64_in _ (by omega)
  go_enter Tryz.func34,Tryz.ntmps34
  go_upto_region 1 with (fail)
  rw [HE0.out]
  go_upto_region 13 with (fail)
  clear o0 o1 o2 o3 o4 o5 kA fA
  have hbz:=HR1.out
  have Hbz:=Lib.hid hbz
  have k0:=za0 hbz 0 rfl
  have k1:=za0 hbz 1 rfl
  have k2:=za0 hbz 2 rfl
  have k3:=za0 hbz 3 rfl
  have f:=fun i=>za2 hbz i
  have o0:=za0 HO1.out 0 rfl
  have o1:=za0 HO1.out 1 rfl
  have o2:=za0 HO1.out 2 rfl
  have o3:=za0 HO1.out 3 rfl
  have o4:=za0 HO1.out 4 rfl
  have o5:=za0 HO1.out 5 rfl
  clear hbz HR1 HO1
  generalize (W0.setCell ⟨g,an,none⟩ (.int .u16 (vn:Nat)))=W1 at *
  go_wp2_with fail
  clear k0 k1 k2 k3 f
  show bodyPost _ _ _ _ _ (storeAll W1 (w.heap.size + 2) [.int .i64 0,.int .i64 (vn:Nat),.slice none 0 0,.bool false] 0)
  have hfin:=za4 Hbz.out rfl [.int .i64 0,.int .i64 (vn:Nat),.slice none 0 0,.bool false] rfl
  have HSt:=Lib.hid (za1 (w.heap.size + 2) [.int .i64 0,.int .i64 (vn:Nat),.slice none 0 0,.bool false] 0 W1)
  generalize storeAll W1 (w.heap.size + 2) [.int .i64 0,.int .i64 (vn:Nat),.slice none 0 0,.bool false] 0=Wf at *
  have r0:=za0 hfin 0 rfl
  have r1:=za0 hfin 1 rfl
  have r2:=za0 hfin 2 rfl
  have r3:=za0 hfin 3 rfl
  refine bodyPost_ret (v:=.tuple #[.agg #[.int .i64 0,.int .i64 (vn:Nat),.slice none 0 0,.bool false],.string ⟨#[]⟩]) (by simp [results,Tryz.results34,go_sem,r0,r1,r2,r3]) rfl ?_
  exact HM.out.fin Hbz.out (by omega) HB.out HSt.out rfl
set_option maxHeartbeats 2000000 in
theorem rop_load {w0 w:World} {B:Nat} {x:CfgC} {node part:Nat} {T:RepP.T} {d:DocC} {s:ApeP.AS} {mv:Value} (hd:DocIn w0 w B x node T d s.ports s.mon s.cmd) (hm:MemR w B mv s.mem) (hB:B≤w.heap.size) (xp xa xb xc:Int) (xD:Option Addr) (xm xcap:Nat) (xd:List UInt8) (hxa:xa≤9223372036854775807):Calls Tryz.prog 34 #[.int .i64 (part:Nat),mv,docV d,.agg #[.int .u8 4,.int .i64 xp,.int .i64 xa,.int .i64 xb,.int .i64 xc,.slice xD xm xcap]] w (DoD w0 w B x node T d mv (ApeP.opT x.plain (node:Int) part T s ⟨4,xp,xa,xb,xc,xd⟩)):=by
 have hb0:Below w.heap.size w (((w.alloc (.cells #[.pointer (some ⟨d.ra,0,none⟩),.pointer (some ⟨d.tb,0,none⟩),.pointer (some ⟨d.rm,0,none⟩),.pointer (some ⟨d.cb,0,none⟩)] 53)).alloc (.cells #[.int .u8 4,.int .i64 xp,.int .i64 xa,.int .i64 xb,.int .i64 xc,.slice xD xm xcap] 91)).alloc (.cells #[.int .i64 0,.int .i64 0,.slice none 0 0,.bool false] 94)):=(((Below.refl _ _).alloc (Nat.le_refl _) _).alloc (by simp) _).alloc (by simp;omega) _
 unfold docV
 generalize hW0:(((w.alloc (.cells #[.pointer (some ⟨d.ra,0,none⟩),.pointer (some ⟨d.tb,0,none⟩),.pointer (some ⟨d.rm,0,none⟩),.pointer (some ⟨d.cb,0,none⟩)] 53)).alloc (.cells #[.int .u8 4,.int .i64 xp,.int .i64 xa,.int .i64 xb,.int .i64 xc,.slice xD xm xcap] 91)).alloc (.cells #[.int .i64 0,.int .i64 0,.slice none 0 0,.bool false] 94))=W0 at *
 have hH:W0.heap[w.heap.size]? = some (.cells #[.pointer (some ⟨d.ra,0,none⟩),.pointer (some ⟨d.tb,0,none⟩),.pointer (some ⟨d.rm,0,none⟩),.pointer (some ⟨d.cb,0,none⟩)] 53 (0,0)):=by rw [← hW0,allocAt _ _ _ (by simp;omega),allocAt _ _ _ (by simp)];exact newAt _ _
 have hO:W0.heap[w.heap.size + 1]? = some (.cells #[.int .u8 4,.int .i64 xp,.int .i64 xa,.int .i64 xb,.int .i64 xc,.slice xD xm xcap] 91 (0,0)):=by rw [← hW0,allocAt _ _ _ (by simp)];exact newAt1 _ _ _
 have hR:W0.heap[w.heap.size + 2]? = some (.cells #[.int .i64 0,.int .i64 0,.slice none 0 0,.bool false] 94 (0,0)):=by
  rw [← hW0]
  have:=newAt ((w.alloc (.cells #[.pointer (some ⟨d.ra,0,none⟩),.pointer (some ⟨d.tb,0,none⟩),.pointer (some ⟨d.rm,0,none⟩),.pointer (some ⟨d.cb,0,none⟩)] 53)).alloc (.cells #[.int .u8 4,.int .i64 xp,.int .i64 xa,.int .i64 xb,.int .i64 xc,.slice xD xm xcap] 91)) (.cells #[.int .i64 0,.int .i64 0,.slice none 0 0,.bool false] 94)
  simpa using this
 have hd0:=hd.below hb0
 have hm0:=hm.below hb0
 have HE0:=Lib.hid hW0
 have hw0:∀ mv,WentD w d mv d W0:=fun mv=>WentD.of_below hb0 d mv
 have HB:=Lib.hid hB
 obtain ⟨MA,mc,rfl,-⟩:=za6 hm.row
 have hmost:=hm.most
 by_cases hbad:xa < 0∨(s.mem.length:Int)≤xa
 ·have HM:Hid (∀ t w1,ErrT (some 150) t→Below W0.heap.size W0 w1→MidD w0 w B x node T d (.slice MA s.mem.length mc) (ApeP.opT x.plain (node:Int) part T s ⟨4,xp,xa,xb,xc,xd⟩) ⟨0,0,none,0,[],false⟩ t w1):=Lib.hid fun t w1 ht g=>by
   rw [show (ApeP.opT x.plain (node:Int) part T s ⟨4,xp,xa,xb,xc,xd⟩)=((ApeP.Res.zero,some 150),s) from (zc7 (by show (4:Nat)≠1;decide)).trans (by rw [zl8];unfold loadT;rw [if_pos hbad])]
   exact ⟨d,rfl,DocB.none_,ht,hd0.below g,hm0.below g,(hw0 (.slice MA s.mem.length mc)).trans (WentD.of_below g d (.slice MA s.mem.length mc))⟩
  generalize hmn:s.mem.length=mn at *
  by_cases h1:xa < 0
  ·have p1:decide (xa < 0)=true:=decide_eq_true h1
   have HAt:=Lib.hid (fun W=>zc5 150 xa W (by decide) hxa)
   have HTx:Hid (ErrT (some 150) (atT 150 xa)):=Lib.hid (ErrT.at_ (by decide) hxa)
   have o0:=za0 hO 0 rfl
   have o1:=za0 hO 1 rfl
   have o2:=za0 hO 2 rfl
   have o3:=za0 hO 3 rfl
   have o4:=za0 hO 4 rfl
   have o5:=za0 hO 5 rfl
   have HR:=Lib.hid hR
   clear hd hm hH hO hR hd0 hm0 hw0 hb0 hW0 hB hbad h1 hmn hmost
   generalize (ApeP.opT x.plain (node:Int) part T s ⟨4,xp,xa,xb,xc,xd⟩)=rr at *
   go_enter Tryz.func34,Tryz.ntmps34
   go_wp2_with fail
   rw [HE0.out]
   refine (HAt.out _).mono ?_
   rintro e w1 ⟨rfl,hb1⟩
   have hbz:=(hb1.block _ (lt_of_block HR.out)).trans HR.out
   have Hbz:=Lib.hid hbz
   have k0:=za0 hbz 0 rfl
   have k1:=za0 hbz 1 rfl
   have k2:=za0 hbz 2 rfl
   have k3:=za0 hbz 3 rfl
   have f:=fun i=>za2 hbz i
   have HMm:=Lib.hid (HM.out _ w1 HTx.out hb1)
   clear hbz hb1 HM HAt HTx HR
   go_wp2_with fail
   clear k0 k1 k2 k3 f
   show bodyPost _ _ _ _ _ (storeAll w1 (w.heap.size + 2) [.int .i64 0,.int .i64 0,.slice none 0 0,.bool false] 0)
   have hfin:=za4 Hbz.out rfl [.int .i64 0,.int .i64 0,.slice none 0 0,.bool false] rfl
   have HSt:=Lib.hid (za1 (w.heap.size + 2) [.int .i64 0,.int .i64 0,.slice none 0 0,.bool false] 0 w1)
   generalize storeAll w1 (w.heap.size + 2) [.int .i64 0,.int .i64 0,.slice none 0 0,.bool false] 0=Wf at *
   have r0:=za0 hfin 0 rfl
   have r1:=za0 hfin 1 rfl
   have r2:=za0 hfin 2 rfl
   have r3:=za0 hfin 3 rfl
   refine bodyPost_ret (v:=.tuple #[.agg #[.int .i64 0,.int .i64 0,.slice none 0 0,.bool false],strV (atT 150 xa)]) (by simp [results,Tryz.results34,go_sem,r0,r1,r2,r3]) rfl ?_
   exact HMm.out.fin Hbz.out (by omega) HB.out HSt.out rfl
  ·have p1:decide (xa < 0)=false:=decide_eq_false h1
   have p2:decide ((mn:Int)≤xa)=true:=decide_eq_true (by omega)
   have HAt:=Lib.hid (fun W=>zc5 150 xa W (by decide) hxa)
   have HTx:Hid (ErrT (some 150) (atT 150 xa)):=Lib.hid (ErrT.at_ (by decide) hxa)
   have o0:=za0 hO 0 rfl
   have o1:=za0 hO 1 rfl
   have o2:=za0 hO 2 rfl
   have o3:=za0 hO 3 rfl
   have o4:=za0 hO 4 rfl
   have o5:=za0 hO 5 rfl
   have HR:=Lib.hid hR
   clear hd hm hH hO hR hd0 hm0 hw0 hb0 hW0 hB hbad h1 hmn hmost
   generalize (ApeP.opT x.plain (node:Int) part T s ⟨4,xp,xa,xb,xc,xd⟩)=rr at *
   go_enter Tryz.func34,Tryz.ntmps34
   go_wp2_with fail
   rw [HE0.out]
   refine (HAt.out _).mono ?_
   rintro e w1 ⟨rfl,hb1⟩
   have hbz:=(hb1.block _ (lt_of_block HR.out)).trans HR.out
   have Hbz:=Lib.hid hbz
   have k0:=za0 hbz 0 rfl
   have k1:=za0 hbz 1 rfl
   have k2:=za0 hbz 2 rfl
   have k3:=za0 hbz 3 rfl
   have f:=fun i=>za2 hbz i
   have HMm:=Lib.hid (HM.out _ w1 HTx.out hb1)
   clear hbz hb1 HM HAt HTx HR
   go_wp2_with fail
   clear k0 k1 k2 k3 f
   show bodyPost _ _ _ _ _ (storeAll w1 (w.heap.size + 2) [.int .i64 0,.int .i64 0,.slice none 0 0,.bool false] 0)
   have hfin:=za4 Hbz.out rfl [.int .i64 0,.int .i64 0,.slice none 0 0,.bool false] rfl
   have HSt:=Lib.hid (za1 (w.heap.size + 2) [.int .i64 0,.int .i64 0,.slice none 0 0,.bool false] 0 w1)
   generalize storeAll w1 (w.heap.size + 2) [.int .i64 0,.int .i64 0,.slice none 0 0,.bool false] 0=Wf at *
   have r0:=za0 hfin 0 rfl
   have r1:=za0 hfin 1 rfl
   have r2:=za0 hfin 2 rfl
   have r3:=za0 hfin 3 rfl
   refine bodyPost_ret (v:=.tuple #[.agg #[.int .i64 0,.int .i64 0,.slice none 0 0,.bool false],strV (atT 150 xa)]) (by simp [results,Tryz.results34,go_sem,r0,r1,r2,r3]) rfl ?_
   exact HMm.out.fin Hbz.out (by omega) HB.out HSt.out rfl
 ·obtain ⟨an,rfl⟩:=Int.eq_ofNat_of_zero_le (show 0≤xa by omega)
  have hlt:an < s.mem.length:=by omega
  obtain ⟨g,cap,e1,-⟩:=zc6 hm0.row (by omega)
  injection e1 with e1 _ e3
  subst e1 e3
  have hgb:∃ cs,W0.heap[g]? = some (.cells cs 42 (0,0)):=(Seg.of_own hm0.row).block g rfl
  have p1:decide ((an:Int) < 0)=false:=decide_eq_false (by omega)
  have p2:decide ((s.mem.length:Int)≤(an:Int))=false:=decide_eq_false (by omega)
  have p3:decide ((an:Int) < (s.mem.length:Int))=true:=decide_eq_true (by omega)
  have p4:decide (an < s.mem.length)=true:=decide_eq_true hlt
  have p5:(an:Int) < (s.mem.length:Int):=by omega
  have hv:=hm.ok (s.mem[an]?.getD 0) (by rw [List.getElem?_eq_getElem hlt];exact List.getElem_mem hlt)
  have kA:W0.cell? ⟨g,an,none⟩=some (.int .u16 (s.mem[an]?.getD 0:Nat)):=by rw [hm0.row.cellAt an (by omega),ze6 hlt]
  have hT:(ApeP.opT x.plain (node:Int) part T s ⟨4,xp,(an:Nat),xb,xc,xd⟩)=((⟨0,(s.mem[an]?.getD 0:Nat),[],false⟩,none),s):=(zc7 (by show (4:Nat)≠1;decide)).trans (by rw [zl8];unfold loadT;rw [if_neg hbad,Int.toNat_natCast])
  have HM:Hid (MidD w0 w B x node T d (.slice (some ⟨g,0,none⟩) s.mem.length mc) (ApeP.opT x.plain (node:Int) part T s ⟨4,xp,(an:Nat),xb,xc,xd⟩) ⟨0,(s.mem[an]?.getD 0:Nat),none,0,[],false⟩ [] W0):=Lib.hid (by
   rw [hT]
   exact ⟨d,rfl,DocB.none_,ErrT.none_,hd0,hm0,hw0 _⟩)
  have o0:=za0 hO 0 rfl
  have o1:=za0 hO 1 rfl
  have o2:=za0 hO 2 rfl
  have o3:=za0 hO 3 rfl
  have o4:=za0 hO 4 rfl
  have o5:=za0 hO 5 rfl
  have hbz:=hR
  have Hbz:=Lib.hid hbz
  have k0:=za0 hbz 0 rfl
  have k1:=za0 hbz 1 rfl
  have k2:=za0 hbz 2 rfl
  have k3:=za0 hbz 3 rfl
  have f:=fun i=>za2 hbz i
  clear hd hm hH hO hR hd0 hm0 hw0 hb0 hW0 hB hbz hT hgb hlt hbad
  generalize (ApeP.opT x.plain (node:Int) part T s ⟨4,xp,(an:Nat),xb,xc,xd⟩)=rr at *
  generalize s.mem[an]?.getD 0=vv at *
  have e1:IntKind.i64.wrap (vv:Int)=(vv:Int):=IntWalk.i64_in _ (by omega)
  go_enter Tryz.func34,Tryz.ntmps34
  go_upto_region 1 with (fail)
  rw [HE0.out]
  go_wp2_with fail
  clear k0 k1 k2 k3 f
  show bodyPost _ _ _ _ _ (storeAll W0 (w.heap.size + 2) [.int .i64 0,.int .i64 (vv:Nat),.slice none 0 0,.bool false] 0)
  have hfin:=za4 Hbz.out rfl [.int .i64 0,.int .i64 (vv:Nat),.slice none 0 0,.bool false] rfl
  have HSt:=Lib.hid (za1 (w.heap.size + 2) [.int .i64 0,.int .i64 (vv:Nat),.slice none 0 0,.bool false] 0 W0)
  generalize storeAll W0 (w.heap.size + 2) [.int .i64 0,.int .i64 (vv:Nat),.slice none 0 0,.bool false] 0=Wf at *
  have r0:=za0 hfin 0 rfl
  have r1:=za0 hfin 1 rfl
  have r2:=za0 hfin 2 rfl
  have r3:=za0 hfin 3 rfl
  refine bodyPost_ret (v:=.tuple #[.agg #[.int .i64 0,.int .i64 (vv:Nat),.slice none 0 0,.bool false],.string ⟨#[]⟩]) (by simp [results,Tryz.results34,go_sem,r0,r1,r2,r3]) rfl ?_
  exact HM.out.fin Hbz.out (by omega) HB.out HSt.out rfl
end Go.Proofs.YtfgpfmhjnccccaaGreatDoor
