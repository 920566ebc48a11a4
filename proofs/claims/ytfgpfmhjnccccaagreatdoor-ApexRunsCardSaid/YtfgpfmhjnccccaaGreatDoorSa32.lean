import Derived.Test.YtfgpfmhjnccccaaGreatDoorSa31
import Derived.Test.YtfgpfmhjnccccaaGreatDoorSa12
import Derived.Test.YtfgpfmhjnccccaaGreatDoorSa28
import Derived.Test.YtfgpfmhjnccccaaGreatDoorSa22
namespace Go.Proofs.YtfgpfmhjnccccaaGreatDoor
open Go.RowKit
set_option maxRecDepth 100000
namespace ApeP
open TableP
theorem bare_op {c:Cfg} {node part:Nat} {T:RepP.T} {s:AS} {o:Op} (h:PorP.Bare c (node:Int) s.ports):PorP.Bare c (node:Int) (opP c node part T s o).2.ports:=by
 unfold opP
 split
 ·exact h.write _ _ _
 ·unfold opT
  repeat' split
  all_goals first
   | exact h
   | exact h.read _ _
   | contradiction
theorem bare_run {c:Cfg} {node part:Nat} {T:RepP.T} {rec:List (List Nat)} {round:Nat}:∀ (ops:List Op) (left:Int) (s:AS),PorP.Bare c (node:Int) s.ports→PorP.Bare c (node:Int) (runG (opP c node part T) rec node part round ops left s).st.ports
 | [],_,_,h=>h
 | o :: ops,left,s,h=>by
  have h1:PorP.Bare c (node:Int) (oneG (opP c node part T) rec node part round left s o).st.ports:=by
   unfold oneG stepG
   split
   ·exact h
   ·exact bare_op h
  unfold runG
  split
  ·exact h1
  ·exact bare_run ops _ _ h1
theorem len_op {c:Cfg} {node part:Nat} {T:RepP.T} {s:AS} {o:Op}:(opP c node part T s o).2.mem.length=s.mem.length:=by
 unfold opP
 split
 ·rfl
 ·unfold opT
  repeat' split
  all_goals first
   | rfl
   | exact List.length_set ..
theorem len_run {c:Cfg} {node part:Nat} {T:RepP.T} {rec:List (List Nat)} {round:Nat}:∀ (ops:List Op) (left:Int) (s:AS),(runG (opP c node part T) rec node part round ops left s).st.mem.length=s.mem.length
 | [],_,_=>rfl
 | o :: ops,left,s=>by
  have h1:(oneG (opP c node part T) rec node part round left s o).st.mem.length=s.mem.length:=by
   unfold oneG stepG
   split
   ·rfl
   ·exact len_op
  unfold runG
  split
  ·exact h1
  ·exact (len_run ops _ _).trans h1
end ApeP
def PT (x:PC) (k:Nat):Prop:=∃ e∈x.es,∃ tv,e.pre[7]? = some tv∧tv.ownBlock=some k
theorem PT.same {x y:PC} (h:y.es.map El.pre=x.es.map El.pre) {k:Nat} (hk:PT y k):PT x k:=by
 obtain ⟨e,he,tv,h1,h2⟩:=hk
 have h3:e.pre∈x.es.map El.pre:=by rw [← h];exact List.mem_map_of_mem he
 obtain ⟨e',he',h4⟩:=List.mem_map.1 h3
 exact ⟨e',he',tv,by rw [h4];exact h1,h2⟩
section
variable {W W':World} {B:Nat} {c:TableP.Cfg} {x:PC}
theorem PIn.ptLt (h:PIn W B c x) {k:Nat} (hk:PT x k):B≤k∧k < W.heap.size:=by
 obtain ⟨e,he,tv,h1,h2⟩:=hk
 obtain ⟨i,hi⟩:=List.getElem?_of_mem he
 obtain ⟨p,hp⟩:=h.port hi
 obtain ⟨tv',e1,e2⟩:=h.shape i e p hi hp
 have e3:e.pre[7]? = some tv':=by rw [e1];rfl
 rw [h1] at e3
 obtain rfl:=Option.some.inj e3
 exact e2.lt k h2
theorem PIn.aside {F:Nat→Prop} (h:PIn W B c x) (ha:Apart F W W') (hF:∀ k,EF x.g x.es k→¬ F k) (hP:∀ k,PT x k→¬ F k) (hT:∀ k,F k→∃ cs t,W.heap[k]? = some (.cells cs t (0,0))∧t≠5∧t≠124):PIn W' B c x:=by
 have hno:∀ k cs t,W.heap[k]? = some (.cells cs t (0,0))→(t=5∨t=124)→¬ F k:=fun k cs t hk ht hf=>by
  obtain ⟨cs',t',e1,e2,e3⟩:=hT k hf
  rw [hk] at e1
  simp only [Option.some.injEq,Obj.cells.injEq] at e1
  obtain ⟨-,rfl,-⟩:=e1
  rcases ht with e | e
  ·exact e2 e
  ·exact e3 e
 refine ⟨(ha.block x.a h.lt (hno _ _ _ h.hd (.inr rfl))).trans h.hd,h.els.away ha hF (fun k hk=>?_),h.len,fun i e p hi hp=>?_,h.base⟩
 ·obtain ⟨cs,hc⟩:=h.els.dTag hk
  exact hno k cs _ hc (.inl rfl)
 ·obtain ⟨tv,e1,e2⟩:=h.shape i e p hi hp
  exact ⟨tv,e1,e2.apart ha fun k hk=>hP k ⟨e,List.mem_of_getElem? hi,tv,by rw [e1];rfl,hk⟩⟩
end
theorem HostIn.aside {F:Nat→Prop} {W W':World} {B:Nat} {c:TableP.Cfg} {node:Nat} {rec:List (List Nat)} {T:RepP.T} {h:HostC} {sp:PorP.St} {m:HeaP.Mon} {cmd:RepP.Cmd} (hh:HostIn W B c node rec T h sp m cmd) (ha:Apart F W W') (hF:∀ k,HF h k→¬ F k) (hP:∀ k,PT h.x k→¬ F k) (hT:∀ k,F k→∃ cs t,W.heap[k]? = some (.cells cs t (0,0))∧t≠5∧t≠124∧t≠147):HostIn W' B c node rec T h sp m cmd:=by
 refine ⟨hh.por.aside ha (fun k hk=>hF k (.inl hk)) hP (fun k hk=>?_),hh.nd,hh.st,hh.mon.apart ha (fun k hk=>hF k (.inr (.inl hk))),hh.tab.apart ha (fun q hq hf=>?_),(ha.block _ (lt_of_block hh.cmd) (hF _ (.inr (.inr rfl)))).trans hh.cmd,hh.cok,hh.base⟩
 ·obtain ⟨cs,t,e1,e2,e3,-⟩:=hT k hk
  exact ⟨cs,t,e1,e2,e3⟩
 ·obtain ⟨cs,t,e1,-,-,e5⟩:=hT q hf
  rcases hq with rfl | hq
  ·rw [hh.tab.at_] at e1
   simp only [Option.some.injEq,Obj.cells.injEq] at e1
   exact e5 e1.2.1.symm
  ·obtain ⟨es,clock,e6⟩:=hh.tab.mp.block q hq
   rw [e6] at e1
   cases e1
structure PartM where
 pb:Nat
 wv:Value
 mv:Value
 memA:List Nat
 memD:List Nat
structure BothC (w W:World) (B:Nat) (x:CfgC) (node:Nat) (h:HostC) (d:DocC) (ps:List PartM) (sA sD:PorP.St) (mA mD:HeaP.Mon) (cA cD:RepP.Cmd):Prop where
 hst:HostIn W B x.plain node (x.parts.map sayOf) RepP.new h sA mA cA
 doc:DocIn w W B x node RepP.new d sD mD cD
 len:ps.length≤x.parts.length
 prog:∀ (i:Nat) (q:PartM) (p:TableP.Part),ps[i]? = some q→x.parts[i]? = some p→PartIn W B q.pb i p.budget q.wv q.memA
 mems:∀ (i:Nat) (q:PartM),ps[i]? = some q→MemR W B q.mv q.memD
 off:∀ k,HF h k→¬ DF d k
 ints:∀ k,PT h.x k→¬ DF d k
 wm:∀ (i j:Nat) (q r:PartM),ps[i]? = some q→ps[j]? = some r→∀ k,q.wv.ownBlock=some k→r.mv.ownBlock≠some k
 ww:∀ (i j:Nat) (q r:PartM),i≠j→ps[i]? = some q→ps[j]? = some r→∀ k,q.wv.ownBlock=some k→r.wv.ownBlock≠some k
 mm:∀ (i j:Nat) (q r:PartM),i≠j→ps[i]? = some q→ps[j]? = some r→∀ k,q.mv.ownBlock=some k→r.mv.ownBlock≠some k
 leB:B≤W.heap.size
section
variable {w W W':World} {B node:Nat} {x:CfgC} {h h':HostC} {d d':DocC} {ps:List PartM} {sA sD sA' sD':PorP.St} {mA mD mA' mD':HeaP.Mon} {cA cD cA' cD':RepP.Cmd}
theorem BothC.part (b:BothC w W B x node h d ps sA sD mA mD cA cD) {i:Nat} {q:PartM} (hq:ps[i]? = some q):∃ p,x.parts[i]? = some p∧PartIn W B q.pb i p.budget q.wv q.memA:=by
 have hl:=(List.getElem?_eq_some_iff.1 hq).1
 obtain ⟨p,hp⟩:∃ p,x.parts[i]? = some p:=⟨_,List.getElem?_eq_getElem (Nat.lt_of_lt_of_le hl b.len)⟩
 exact ⟨p,hp,b.prog i q p hq hp⟩
theorem BothC.away {F:Nat→Prop} (b:BothC w W B x node h d ps sA sD mA mD cA cD) (ha:Apart F W W') (hT:∀ k,F k→W.heap.size≤k∨B≤k∧∃ cs t,W.heap[k]? = some (.cells cs t (0,0))∧¬ Tag16 t∧¬ TagD t∧t≠5∧t≠124∧t≠147∧t≠107∧t≠102∧t≠46∧t≠66):BothC w W' B x node h d ps sA sD mA mD cA cD:=by
 have ha':Apart (fun k=>F k∧k < W.heap.size) W W':=(Apart.refl (fun k=>F k∧k < W.heap.size) W).trans ha fun k hk=>by
  by_cases hl:k < W.heap.size
  ·exact .inl ⟨hk,hl⟩
  ·exact .inr (by omega)
 have hT':∀ k,F k∧k < W.heap.size→B≤k∧∃ cs t,W.heap[k]? = some (.cells cs t (0,0))∧¬ Tag16 t∧¬ TagD t∧t≠5∧t≠124∧t≠147∧t≠107∧t≠102∧t≠46∧t≠66:=fun k hk=>by
  rcases hT k hk.1 with h1 | h1
  ·omega
  ·exact h1
 have hne:∀ {k:Nat} {cs:Array Value} {t:TypeId},W.heap[k]? = some (.cells cs t (0,0))→(Tag16 t∨TagD t∨t=107)→¬ (F k∧k < W.heap.size):=fun hk ht hf=>by
  obtain ⟨-,cs',t',e1,e2,e3,-,-,-,e4,-⟩:=hT' _ hf
  rw [hk] at e1
  simp only [Option.some.injEq,Obj.cells.injEq] at e1
  obtain ⟨-,rfl,-⟩:=e1
  rcases ht with e | e | e
  ·exact e2 e
  ·exact e3 e
  ·exact e4 e
 have hu16:Tag16 42:=.inr (.inr (.inr (.inr (.inr (.inr rfl)))))
 refine ⟨b.hst.aside ha' (fun k hk=>?_) (fun k hk=>?_) (fun k hk=>?_),b.doc.away ha' (fun k hk=>?_) (fun k hk=>?_),b.len,fun i q p hq hp=>?_,fun i q hq=>?_,b.off,b.ints,b.wm,b.ww,b.mm,Nat.le_trans b.leB ha.size⟩
 ·obtain ⟨-,cs,t,e1,e2,-⟩:=b.hst.fTag hk
  exact hne e1 (.inl e2)
 ·obtain ⟨e,he,tv,h1,h2⟩:=hk
  obtain ⟨i,hi⟩:=List.getElem?_of_mem he
  obtain ⟨p,hp⟩:=b.hst.por.port hi
  obtain ⟨tv',e1,e2⟩:=b.hst.por.shape i e p hi hp
  have e3:e.pre[7]? = some tv':=by rw [e1];rfl
  rw [h1] at e3
  obtain rfl:=Option.some.inj e3
  obtain ⟨cs,hc⟩:=e2.block k h2
  exact hne hc (.inr (.inl (.inr (.inr (.inr (.inl rfl))))))
 ·obtain ⟨-,cs,t,e1,-,-,e2,e3,e4,-⟩:=hT' k hk
  exact ⟨cs,t,e1,e2,e3,e4⟩
 ·obtain ⟨-,cs,t,e1,e2,-⟩:=b.doc.fTag hk
  exact hne e1 (.inr (.inl e2))
 ·obtain ⟨e0,cs,t,e1,-,-,e2,-,-,-,e3,e4,e5⟩:=hT' k hk
  exact ⟨e0,cs,t,e1,e2,e3,e4,e5⟩
 ·have hp1:=b.prog i q p hq hp
  exact hp1.apart ha' (hne hp1.hd (.inr (.inr rfl))) (fun k hk=>by obtain ⟨-,cs,e1⟩:=hp1.fTag hk;exact hne e1 (.inl hu16))
 ·have hm:=b.mems i q hq
  exact hm.apart ha' (fun k hk=>by obtain ⟨-,cs,e1⟩:=hm.fTag hk;exact hne e1 (.inl hu16))
theorem BothC.below (b:BothC w W B x node h d ps sA sD mA mD cA cD) (hb:Below W.heap.size W W'):BothC w W' B x node h d ps sA sD mA mD cA cD:=b.away (F:=fun _=>False) (Apart.of_below' hb) fun _ h=>h.elim
theorem BothC.ran (b:BothC w W B x node h d ps sA sD mA mD cA cD) {i:Nat} {q:PartM} (hq:ps[i]? = some q) {m':List Nat} (g1:HostIn W' B x.plain node (x.parts.map sayOf) RepP.new h' sA' mA' cA') (g2:∀ p,x.parts[i]? = some p→PartIn W' B q.pb i p.budget q.wv m') (g3:Went W h q.wv h' W'):BothC w W' B x node h' d (ps.set i { q with memA:=m' }) sA' sD mA' mD cA' cD:=by
 have hil:=(List.getElem?_eq_some_iff.1 hq).1
 obtain ⟨p0,hp0,hpi⟩:=b.part hq
 have hset:∀ (j:Nat) (r:PartM),(ps.set i { q with memA:=m' })[j]? = some r→(j=i∧r = { q with memA:=m' })∨(j≠i∧ps[j]? = some r):=fun j r hr=>by
  by_cases hj:j=i
  ·subst hj
   rw [List.getElem?_set_self hil] at hr
   exact .inl ⟨rfl,(Option.some.inj hr).symm⟩
  ·rw [List.getElem?_set_ne (Ne.symm hj)] at hr
   exact .inr ⟨hj,hr⟩
 have hwv:∀ (j:Nat) (r:PartM),(ps.set i { q with memA:=m' })[j]? = some r→∃ r0:PartM,ps[j]? = some r0∧r0.wv=r.wv∧r0.mv=r.mv∧r0.memD=r.memD:=fun j r hr=>by
  rcases hset j r hr with ⟨rfl,rfl⟩ | ⟨-,e⟩
  ·exact ⟨q,hq,rfl,rfl,rfl⟩
  ·exact ⟨r,e,rfl,rfl,rfl⟩
 have ha:=g3.apart
 have hT:∀ k,AF h q.wv k→B≤k∧∃ cs t,W.heap[k]? = some (.cells cs t (0,0))∧Tag16 t:=fun k hk=>by
  rcases hk with hk | hk
  ·obtain ⟨e0,cs,t,e1,e2,-⟩:=b.hst.fTag hk
   exact ⟨e0,cs,t,e1,e2⟩
  ·obtain ⟨e0,cs,e1⟩:=hpi.fTag hk
   exact ⟨e0,cs,_,e1,.inr (.inr (.inr (.inr (.inr (.inr rfl)))))⟩
 have hu:∀ k cs,W.heap[k]? = some (.cells cs 42 (0,0))→¬ HF h k:=fun k cs hk hf=>by
  obtain ⟨-,cs',t,e1,-,e2⟩:=b.hst.fTag hf
  rw [hk] at e1
  simp only [Option.some.injEq,Obj.cells.injEq] at e1
  exact e2 e1.2.1.symm
 refine ⟨g1,b.doc.away ha (fun k hk e=>?_) (fun k hk=>?_),by rw [List.length_set];exact b.len,fun j r p hr hp=>?_,fun j r hr=>?_,fun k hk hf=>?_,fun k hk=>b.ints k (hk.same g3.pre),fun a c r s hr hs k hk=>?_,fun a c r s hac hr hs k hk=>?_,fun a c r s hac hr hs k hk=>?_,Nat.le_trans b.leB ha.size⟩
 ·rcases e with e | e
  ·exact b.off k e hk
  ·obtain ⟨-,cs,e1⟩:=hpi.fTag e
   obtain ⟨-,cs',t,e2,-,e3⟩:=b.doc.fTag hk
   rw [e1] at e2
   simp only [Option.some.injEq,Obj.cells.injEq] at e2
   exact e3 e2.2.1.symm
 ·obtain ⟨e0,cs,t,e1,e2⟩:=hT k hk
  refine ⟨e0,cs,t,e1,?_,?_,?_,?_⟩<;>(rintro rfl;revert e2;unfold Tag16;decide)
 ·rcases hset j r hr with ⟨rfl,rfl⟩ | ⟨hj,e⟩
  ·exact g2 p hp
  ·have hpj:=b.prog j r p e hp
   refine hpj.apart ha (fun hf=>?_) (fun k hk hf=>?_)
   ·obtain ⟨-,cs,t,e1,e2⟩:=hT _ hf
    rw [hpj.hd] at e1
    simp only [Option.some.injEq,Obj.cells.injEq] at e1
    obtain ⟨-,rfl,-⟩:=e1
    exact zv2 e2
   ·obtain ⟨-,cs,e1⟩:=hpj.fTag hk
    rcases hf with hf | hf
    ·exact hu k cs e1 hf
    ·exact b.ww j i r q hj e hq k hk hf
 ·obtain ⟨r0,e,-,e2,e3⟩:=hwv j r hr
  have hm:=b.mems j r0 e
  rw [e2,e3] at hm
  refine hm.apart ha (fun k hk hf=>?_)
  obtain ⟨-,cs,e1⟩:=hm.fTag hk
  rcases hf with hf | hf
  ·exact hu k cs e1 hf
  ·exact b.wm i j q r0 hq e k hf (by rw [e2];exact hk)
 ·rcases g3.f k hk with h1 | h1
  ·exact b.off k h1 hf
  ·have:=b.doc.fLt hf
   omega
 ·obtain ⟨r0,e1,e2,-⟩:=hwv a r hr
  obtain ⟨s0,f1,-,f2,-⟩:=hwv c s hs
  rw [← f2]
  exact b.wm a c r0 s0 e1 f1 k (by rw [e2];exact hk)
 ·obtain ⟨r0,e1,e2,-⟩:=hwv a r hr
  obtain ⟨s0,f1,f2,-⟩:=hwv c s hs
  rw [← f2]
  exact b.ww a c r0 s0 hac e1 f1 k (by rw [e2];exact hk)
 ·obtain ⟨r0,e1,-,e2,-⟩:=hwv a r hr
  obtain ⟨s0,f1,-,f2,-⟩:=hwv c s hs
  rw [← f2]
  exact b.mm a c r0 s0 hac e1 f1 k (by rw [e2];exact hk)
theorem BothC.ranD (b:BothC w W B x node h d ps sA sD mA mD cA cD) {i:Nat} {q:PartM} (hq:ps[i]? = some q) {m':List Nat} (g1:DocIn w W' B x node RepP.new d' sD' mD' cD') (g2:MemR W' B q.mv m') (g3:WentD W d q.mv d' W'):BothC w W' B x node h d' (ps.set i { q with memD:=m' }) sA sD' mA mD' cA cD':=by
 have hil:=(List.getElem?_eq_some_iff.1 hq).1
 have hmi:=b.mems i q hq
 have hset:∀ (j:Nat) (r:PartM),(ps.set i { q with memD:=m' })[j]? = some r→(j=i∧r = { q with memD:=m' })∨(j≠i∧ps[j]? = some r):=fun j r hr=>by
  by_cases hj:j=i
  ·subst hj
   rw [List.getElem?_set_self hil] at hr
   exact .inl ⟨rfl,(Option.some.inj hr).symm⟩
  ·rw [List.getElem?_set_ne (Ne.symm hj)] at hr
   exact .inr ⟨hj,hr⟩
 have hwv:∀ (j:Nat) (r:PartM),(ps.set i { q with memD:=m' })[j]? = some r→∃ r0:PartM,ps[j]? = some r0∧r0.wv=r.wv∧r0.mv=r.mv∧r0.memA=r.memA∧r0.pb=r.pb:=fun j r hr=>by
  rcases hset j r hr with ⟨rfl,rfl⟩ | ⟨-,e⟩
  ·exact ⟨q,hq,rfl,rfl,rfl,rfl⟩
  ·exact ⟨r,e,rfl,rfl,rfl,rfl⟩
 have ha:=g3.apart
 have hT:∀ k,DAF d q.mv k→B≤k∧∃ cs t,W.heap[k]? = some (.cells cs t (0,0))∧TagD t:=fun k hk=>by
  rcases hk with hk | hk
  ·obtain ⟨e0,cs,t,e1,e2,-⟩:=b.doc.fTag hk
   exact ⟨e0,cs,t,e1,e2⟩
  ·obtain ⟨e0,cs,e1⟩:=hmi.fTag hk
   exact ⟨e0,cs,_,e1,.inr (.inr (.inr (.inr (.inr (.inr rfl)))))⟩
 have hu:∀ k cs,W.heap[k]? = some (.cells cs 42 (0,0))→¬ DF d k:=fun k cs hk hf=>by
  obtain ⟨-,cs',t,e1,-,e2⟩:=b.doc.fTag hf
  rw [hk] at e1
  simp only [Option.some.injEq,Obj.cells.injEq] at e1
  exact e2 e1.2.1.symm
 have hint:∀ k,PT h.x k→∃ cs,W.heap[k]? = some (.cells cs 3 (0,0)):=fun k hk=>by
  obtain ⟨e,he,tv,h1,h2⟩:=hk
  obtain ⟨i,hi⟩:=List.getElem?_of_mem he
  obtain ⟨p,hp⟩:=b.hst.por.port hi
  obtain ⟨tv',e1,e2⟩:=b.hst.por.shape i e p hi hp
  have e3:e.pre[7]? = some tv':=by rw [e1];rfl
  rw [h1] at e3
  obtain rfl:=Option.some.inj e3
  exact e2.block k h2
 refine ⟨b.hst.aside ha (fun k hk e=>?_) (fun k hk e=>?_) (fun k hk=>?_),g1,by rw [List.length_set];exact b.len,fun j r p hr hp=>?_,fun j r hr=>?_,fun k hk hf=>?_,fun k hk hf=>?_,fun a c r s hr hs k hk=>?_,fun a c r s hac hr hs k hk=>?_,fun a c r s hac hr hs k hk=>?_,Nat.le_trans b.leB ha.size⟩
 ·rcases e with e | e
  ·exact b.off k hk e
  ·obtain ⟨-,cs,e1⟩:=hmi.fTag e
   obtain ⟨-,cs',t,e2,-,e3⟩:=b.hst.fTag hk
   rw [e1] at e2
   simp only [Option.some.injEq,Obj.cells.injEq] at e2
   exact e3 e2.2.1.symm
 ·rcases e with e | e
  ·exact b.ints k hk e
  ·obtain ⟨-,cs,e1⟩:=hmi.fTag e
   obtain ⟨cs',e2⟩:=hint k hk
   exact za5 e1 e2 (by decide)
 ·obtain ⟨-,cs,t,e1,e2⟩:=hT k hk
  refine ⟨cs,t,e1,?_,?_,?_⟩<;>(rintro rfl;revert e2;unfold TagD;decide)
 ·obtain ⟨r0,e,e1,-,e2,e3⟩:=hwv j r hr
  have hpj:=b.prog j r0 p e hp
  rw [e1,e2,e3] at hpj
  refine hpj.apart ha (fun hf=>?_) (fun k hk hf=>?_)
  ·obtain ⟨-,cs,t,f1,f2⟩:=hT _ hf
   rw [hpj.hd] at f1
   simp only [Option.some.injEq,Obj.cells.injEq] at f1
   obtain ⟨-,rfl,-⟩:=f1
   revert f2;unfold TagD;decide
  ·obtain ⟨-,cs,f1⟩:=hpj.fTag hk
   rcases hf with hf | hf
   ·exact hu k cs f1 hf
   ·exact b.wm j i r0 q e hq k (by rw [e1];exact hk) hf
 ·rcases hset j r hr with ⟨rfl,rfl⟩ | ⟨hj,e⟩
  ·exact g2
  ·have hm:=b.mems j r e
   refine hm.apart ha (fun k hk hf=>?_)
   obtain ⟨-,cs,f1⟩:=hm.fTag hk
   rcases hf with hf | hf
   ·exact hu k cs f1 hf
   ·exact b.mm j i r q hj e hq k hk hf
 ·rcases g3.f k hf with h1 | h1
  ·exact b.off k hk h1
  ·have:=b.hst.fLt hk
   omega
 ·rcases g3.f k hf with h1 | h1
  ·exact b.ints k hk h1
  ·have:=(b.hst.por.ptLt hk).2
   omega
 ·obtain ⟨r0,e1,e2,-⟩:=hwv a r hr
  obtain ⟨s0,f1,-,f2,-⟩:=hwv c s hs
  rw [← f2]
  exact b.wm a c r0 s0 e1 f1 k (by rw [e2];exact hk)
 ·obtain ⟨r0,e1,e2,-⟩:=hwv a r hr
  obtain ⟨s0,f1,f2,-⟩:=hwv c s hs
  rw [← f2]
  exact b.ww a c r0 s0 hac e1 f1 k (by rw [e2];exact hk)
 ·obtain ⟨r0,e1,-,e2,-⟩:=hwv a r hr
  obtain ⟨s0,f1,-,f2,-⟩:=hwv c s hs
  rw [← f2]
  exact b.mm a c r0 s0 hac e1 f1 k (by rw [e2];exact hk)
end
open Go.RowKit
set_option maxRecDepth 100000
section
variable {w W W':World} {B node:Nat} {x:CfgC} {h h':HostC} {d d':DocC} {ps:List PartM} {sA sD sA' sD':PorP.St} {mA mD mA' mD':HeaP.Mon} {cA cD cA' cD':RepP.Cmd}
theorem BothC.wvLt (b:BothC w W B x node h d ps sA sD mA mD cA cD) {r:PartM} (hr:r∈ps) {k:Nat} (hk:r.wv.ownBlock=some k):k < W.heap.size:=by
 obtain ⟨i,hi⟩:=List.getElem?_of_mem hr
 obtain ⟨p,hp,h1⟩:=b.part hi
 exact ((Seg.of_own h1.row).lt k hk).2
theorem BothC.mvLt (b:BothC w W B x node h d ps sA sD mA mD cA cD) {r:PartM} (hr:r∈ps) {k:Nat} (hk:r.mv.ownBlock=some k):k < W.heap.size:=by
 obtain ⟨i,hi⟩:=List.getElem?_of_mem hr
 exact ((Seg.of_own (b.mems i r hi).row).lt k hk).2
theorem BothC.more (b:BothC w W B x node h d ps sA sD mA mD cA cD) (q:PartM) {p:TableP.Part} (hp:x.parts[ps.length]? = some p) (g1:PartIn W B q.pb ps.length p.budget q.wv q.memA) (g2:MemR W B q.mv q.memD) (h1:∀ k,q.wv.ownBlock=some k→∀ r∈ps,r.wv.ownBlock≠some k∧r.mv.ownBlock≠some k) (h2:∀ k,q.mv.ownBlock=some k→∀ r∈ps,r.wv.ownBlock≠some k∧r.mv.ownBlock≠some k) (h3:∀ k,q.wv.ownBlock=some k→q.mv.ownBlock≠some k):BothC w W B x node h d (ps ++ [q]) sA sD mA mD cA cD:=by
 have hpl:=(List.getElem?_eq_some_iff.1 hp).1
 have hat:∀ (j:Nat) (r:PartM),(ps ++ [q])[j]? = some r→(j=ps.length∧r=q)∨(j < ps.length∧ps[j]? = some r):=fun j r hr=>by
  rcases Nat.lt_trichotomy j ps.length with hj | hj | hj
  ·rw [List.getElem?_append_left hj] at hr
   exact .inr ⟨hj,hr⟩
  ·subst hj
   rw [List.getElem?_append_right (Nat.le_refl _),Nat.sub_self] at hr
   exact .inl ⟨rfl,(Option.some.inj hr).symm⟩
  ·rw [List.getElem?_append_right (by omega)] at hr
   have:=(List.getElem?_eq_some_iff.1 hr).1
   simp at this
   omega
 refine ⟨b.hst,b.doc,by rw [List.length_append];simp;omega,fun i r p' hr hp'=>?_,fun i r hr=>?_,b.off,b.ints,fun i j q1 r1 hq hr k hk=>?_,fun i j q1 r1 hij hq hr k hk=>?_,fun i j q1 r1 hij hq hr k hk=>?_,b.leB⟩
 ·rcases hat i r hr with ⟨rfl,rfl⟩ | ⟨-,e⟩
  ·rw [hp] at hp'
   obtain rfl:=Option.some.inj hp'
   exact g1
  ·exact b.prog i r p' e hp'
 ·rcases hat i r hr with ⟨rfl,rfl⟩ | ⟨-,e⟩
  ·exact g2
  ·exact b.mems i r e
 ·rcases hat i q1 hq with ⟨rfl,rfl⟩ | ⟨-,e⟩<;>rcases hat j r1 hr with ⟨rfl,rfl⟩ | ⟨-,f⟩
  ·exact h3 k hk
  ·exact (h1 k hk r1 (List.mem_of_getElem? f)).2
  ·exact fun e2=>(h2 k e2 q1 (List.mem_of_getElem? e)).1 hk
  ·exact b.wm i j q1 r1 e f k hk
 ·rcases hat i q1 hq with ⟨rfl,rfl⟩ | ⟨-,e⟩<;>rcases hat j r1 hr with ⟨rfl,rfl⟩ | ⟨-,f⟩
  ·exact absurd rfl hij
  ·exact (h1 k hk r1 (List.mem_of_getElem? f)).1
  ·exact fun e2=>(h1 k e2 q1 (List.mem_of_getElem? e)).1 hk
  ·exact b.ww i j q1 r1 hij e f k hk
 ·rcases hat i q1 hq with ⟨rfl,rfl⟩ | ⟨-,e⟩<;>rcases hat j r1 hr with ⟨rfl,rfl⟩ | ⟨-,f⟩
  ·exact absurd rfl hij
  ·exact (h2 k hk r1 (List.mem_of_getElem? f)).2
  ·exact fun e2=>(h2 k e2 q1 (List.mem_of_getElem? e)).2 hk
  ·exact b.mm i j q1 r1 hij e f k hk
theorem BothC.renew (b:BothC w W B x node h d ps sA sD mA mD cA cD) {i:Nat} {q:PartM} (hq:ps[i]? = some q) {mv':Value} {m':List Nat} (g2:MemR W B mv' m') (h2:∀ k,mv'.ownBlock=some k→∀ r∈ps,r.wv.ownBlock≠some k∧r.mv.ownBlock≠some k):BothC w W B x node h d (ps.set i { q with mv:=mv',memD:=m' }) sA sD mA mD cA cD:=by
 have hil:=(List.getElem?_eq_some_iff.1 hq).1
 have hqm:=List.mem_of_getElem? hq
 have hset:∀ (j:Nat) (r:PartM),(ps.set i { q with mv:=mv',memD:=m' })[j]? = some r→(j=i∧r = { q with mv:=mv',memD:=m' })∨(j≠i∧ps[j]? = some r):=fun j r hr=>by
  by_cases hj:j=i
  ·subst hj
   rw [List.getElem?_set_self hil] at hr
   exact .inl ⟨rfl,(Option.some.inj hr).symm⟩
  ·rw [List.getElem?_set_ne (Ne.symm hj)] at hr
   exact .inr ⟨hj,hr⟩
 refine ⟨b.hst,b.doc,by rw [List.length_set];exact b.len,fun j r p' hr hp'=>?_,fun j r hr=>?_,b.off,b.ints,fun a c q1 r1 hq1 hr k hk=>?_,fun a c q1 r1 hac hq1 hr k hk=>?_,fun a c q1 r1 hac hq1 hr k hk=>?_,b.leB⟩
 ·rcases hset j r hr with ⟨rfl,rfl⟩ | ⟨-,e⟩
  ·exact b.prog j q p' hq hp'
  ·exact b.prog j r p' e hp'
 ·rcases hset j r hr with ⟨rfl,rfl⟩ | ⟨-,e⟩
  ·exact g2
  ·exact b.mems j r e
 ·rcases hset a q1 hq1 with ⟨rfl,rfl⟩ | ⟨-,e⟩<;>rcases hset c r1 hr with ⟨rfl,rfl⟩ | ⟨-,f⟩
  ·exact fun e2=>(h2 k e2 q hqm).1 hk
  ·exact b.wm a c q r1 hq f k hk
  ·exact fun e2=>(h2 k e2 q1 (List.mem_of_getElem? e)).1 hk
  ·exact b.wm a c q1 r1 e f k hk
 ·rcases hset a q1 hq1 with ⟨rfl,rfl⟩ | ⟨-,e⟩<;>rcases hset c r1 hr with ⟨rfl,rfl⟩ | ⟨-,f⟩
  ·exact absurd rfl hac
  ·exact b.ww a c q r1 hac hq f k hk
  ·exact b.ww a c q1 q hac e hq k hk
  ·exact b.ww a c q1 r1 hac e f k hk
 ·rcases hset a q1 hq1 with ⟨rfl,rfl⟩ | ⟨-,e⟩<;>rcases hset c r1 hr with ⟨rfl,rfl⟩ | ⟨-,f⟩
  ·exact absurd rfl hac
  ·exact (h2 k hk r1 (List.mem_of_getElem? f)).2
  ·exact fun e2=>(h2 k e2 q1 (List.mem_of_getElem? e)).2 hk
  ·exact b.mm a c q1 r1 hac e f k hk
end
def pbV (q:PartM):Value:=.pointer (some ⟨q.pb,0,none⟩)
structure LawC (w W:World) (B:Nat) (x:CfgC) (node:Nat) (h0:HostC) (d0:DocC) (hb db:Nat) (va vm:Value) (h:HostC) (d:DocC) (ps:List PartM) (sA sD:PorP.St) (mA mD:HeaP.Mon) (cA cD:RepP.Cmd):Prop where
 both:BothC w W B x node h d ps sA sD mA mD cA cD
 hv:hostV h=hostV h0
 dv:docV d=docV d0
 hbx:W.heap[hb]? = some (.cells (hostCells h0) 36 (0,0))
 dbx:W.heap[db]? = some (.cells (docCells d0) 53 (0,0))
 all:W.ownsRow B 56 1 va ps.length (ps.map pbV)
 mem:W.ownsRow B 62 1 vm ps.length (ps.map PartM.mv)
 box:BoxS w x W
 low:(boxC w x).heap.size≤B
 type:HasType W
 b0:0 < B
section
variable {w W W':World} {B node:Nat} {x:CfgC} {h0 h h':HostC} {d0 d d':DocC} {hb db:Nat} {va vm:Value} {ps:List PartM} {sA sD sA' sD':PorP.St} {mA mD mA' mD':HeaP.Mon} {cA cD cA' cD':RepP.Cmd}
theorem LawC.boxB (l:LawC w W B x node h0 d0 hb db va vm h d ps sA sD mA mD cA cD) (hb':Below B W W'):BoxS w x W':=l.box.trans (hb'.mono l.low)
theorem LawC.below (l:LawC w W B x node h0 d0 hb db va vm h d ps sA sD mA mD cA cD) (hb':Below W.heap.size W W'):LawC w W' B x node h0 d0 hb db va vm h d ps sA sD mA mD cA cD:=
 ⟨l.both.below hb',l.hv,l.dv,(hb'.block _ (lt_of_block l.hbx)).trans l.hbx,(hb'.block _ (lt_of_block l.dbx)).trans l.dbx,za3 (F:=fun _=>False) l.all (Apart.of_below' hb') (fun _ _ h=>h),za3 (F:=fun _=>False) l.mem (Apart.of_below' hb') (fun _ _ h=>h),l.box.step hb',l.low,l.type.keep (hb'.block 0 l.type.pos),l.b0⟩
theorem zl9 {ps:List PartM} {i:Nat} {q r:PartM} (hq:ps[i]? = some q) {α:Type} (f:PartM→α) (hf:f r=f q):(ps.set i r).map f=ps.map f:=by
 rw [List.map_set,hf]
 apply List.ext_getElem?
 intro j
 by_cases hj:i=j
 ·subst hj
  have:=(List.getElem?_eq_some_iff.1 hq).1
  rw [List.getElem?_set_self (by simpa using this),List.getElem?_map,hq];rfl
 ·rw [List.getElem?_set_ne hj]
theorem LawC.ran (l:LawC w W B x node h0 d0 hb db va vm h d ps sA sD mA mD cA cD) {i:Nat} {q:PartM} (hq:ps[i]? = some q) {m':List Nat} (g1:HostIn W' B x.plain node (x.parts.map sayOf) RepP.new h' sA' mA' cA') (g2:∀ p,x.parts[i]? = some p→PartIn W' B q.pb i p.budget q.wv m') (g3:Went W h q.wv h' W'):LawC w W' B x node h0 d0 hb db va vm h' d (ps.set i { q with memA:=m' }) sA' sD mA' mD cA' cD:=by
 obtain ⟨p0,hp0,hpi⟩:=l.both.part hq
 have ht:=g3.touch l.both.hst hpi
 have hbB:=ht.below l.both.leB
 refine ⟨l.both.ran hq g1 g2 g3,g3.value.trans l.hv,l.dv,ht.off l.hbx zl7,ht.off l.dbx (by unfold Tag16;decide),?_,?_,l.boxB hbB,l.low,l.type.kept l.b0 hbB,l.b0⟩
 ·rw [List.length_set,zl9 (r:={ q with memA:=m' }) hq pbV rfl]
  exact ht.own l.all (by unfold Tag16;decide)
 ·rw [List.length_set,zl9 (r:={ q with memA:=m' }) hq PartM.mv rfl]
  exact ht.own l.mem (by unfold Tag16;decide)
theorem LawC.ranD (l:LawC w W B x node h0 d0 hb db va vm h d ps sA sD mA mD cA cD) {i:Nat} {q:PartM} (hq:ps[i]? = some q) {m':List Nat} (g1:DocIn w W' B x node RepP.new d' sD' mD' cD') (g2:MemR W' B q.mv m') (g3:WentD W d q.mv d' W'):LawC w W' B x node h0 d0 hb db va vm h d' (ps.set i { q with memD:=m' }) sA sD' mA mD' cA cD':=by
 have ht:=g3.touch l.both.doc (l.both.mems i q hq)
 have hbB:=ht.below l.both.leB
 refine ⟨l.both.ranD hq g1 g2 g3,l.hv,g3.value.trans l.dv,ht.off l.hbx (by unfold TagD;decide),ht.off l.dbx zr1,?_,?_,l.boxB hbB,l.low,l.type.kept l.b0 hbB,l.b0⟩
 ·rw [List.length_set,zl9 (r:={ q with memD:=m' }) hq pbV rfl]
  exact ht.own l.all (by unfold TagD;decide)
 ·rw [List.length_set,zl9 (r:={ q with memD:=m' }) hq PartM.mv rfl]
  exact ht.own l.mem (by unfold TagD;decide)
theorem LawC.at_ (l:LawC w W B x node h0 d0 hb db va vm h d ps sA sD mA mD cA cD) {i:Nat} {q:PartM} (hq:ps[i]? = some q):∃ ga ca gm cm,va = .slice (some ⟨ga,0,none⟩) ps.length ca∧vm = .slice (some ⟨gm,0,none⟩) ps.length cm∧W.cell? ⟨ga,i,none⟩=some (.pointer (some ⟨q.pb,0,none⟩))∧W.cell? ⟨gm,i,none⟩=some q.mv∧∀ j,W.frozen? ⟨gm,j,none⟩=false:=by
 have hil:=(List.getElem?_eq_some_iff.1 hq).1
 obtain ⟨ga,ca,rfl,-⟩:=zc6 l.all (by omega)
 obtain ⟨gm,cm,rfl,-⟩:=zc6 l.mem (by omega)
 refine ⟨ga,ca,gm,cm,rfl,rfl,?_,?_,fun j=>(Seg.of_own l.mem).frozen j⟩
 ·rw [l.all.cellAt i (by omega),List.getElem?_map,hq];rfl
 ·rw [l.mem.cellAt i (by omega),List.getElem?_map,hq];rfl
theorem LawC.renew (l:LawC w W B x node h0 d0 hb db va vm h d ps sA sD mA mD cA cD) {i:Nat} {q:PartM} (hq:ps[i]? = some q) {n gm cm:Nat} (hn:n≤16) (hvm:vm = .slice (some ⟨gm,0,none⟩) ps.length cm):LawC w ((W.alloc (.cells (wordV (List.replicate n 0)).toArray 42)).setCell ⟨gm,i,none⟩ (.slice (some ⟨W.heap.size,0,none⟩) n n)) B x node h0 d0 hb db va vm h d (ps.set i { q with mv:=.slice (some ⟨W.heap.size,0,none⟩) n n,memD:=List.replicate n 0 }) sA sD mA mD cA cD:=by
 have hil:=(List.getElem?_eq_some_iff.1 hq).1
 have hb1:Below W.heap.size W (W.alloc (.cells (wordV (List.replicate n 0)).toArray 42)):=(Below.refl _ _).alloc (Nat.le_refl _) _
 have l1:=l.below hb1
 have hrow:(W.alloc (.cells (wordV (List.replicate n 0)).toArray 42)).ownsRow B 42 1 (.slice (some ⟨W.heap.size,0,none⟩) n n) (List.replicate n 0).length (wordV (List.replicate n 0)):=by
  have h1:=World.ownsRow_lit (base:=B) (e:=42) (size:=1) W (wordV (List.replicate n 0)).toArray n l.both.leB (by unfold maxLen;omega) (by simp [zi6])
  rw [List.length_replicate]
  simpa using h1
 have hm:MemR (W.alloc (.cells (wordV (List.replicate n 0)).toArray 42)) B (.slice (some ⟨W.heap.size,0,none⟩) n n) (List.replicate n 0):=⟨hrow,fun v hv=>by rw [List.eq_of_mem_replicate hv];omega,by rw [List.length_replicate];exact hn⟩
 have hfresh:∀ k,Value.ownBlock (.slice (some ⟨W.heap.size,0,none⟩) n n)=some k→∀ r∈ps,r.wv.ownBlock≠some k∧r.mv.ownBlock≠some k:=fun k hk r hr=>by
  have e:some W.heap.size=some k:=hk
  obtain rfl:=Option.some.inj e
  exact ⟨fun e=>Nat.lt_irrefl _ (l.both.wvLt hr e),fun e=>Nat.lt_irrefl _ (l.both.mvLt hr e)⟩
 have b2:=l1.both.renew hq hm hfresh
 subst hvm
 have hgB:B≤gm:=((Seg.of_own l.mem).lt gm rfl).1
 obtain ⟨cs,hcs⟩:=(Seg.of_own l1.mem).block gm rfl
 have ha:Apart (fun k=>k=gm) (W.alloc (.cells (wordV (List.replicate n 0)).toArray 42)) ((W.alloc (.cells (wordV (List.replicate n 0)).toArray 42)).setCell ⟨gm,i,none⟩ (.slice (some ⟨W.heap.size,0,none⟩) n n)):=Apart.setCell (F:=fun k=>k=gm) (Apart.refl _ _) (p:=⟨gm,i,none⟩) (.inl rfl) _
 have hT:∀ k,k=gm→∃ cs t,(W.alloc (.cells (wordV (List.replicate n 0)).toArray 42)).heap[k]? = some (.cells cs t (0,0))∧t=62:=fun k hk=>by subst hk;exact ⟨_,_,hcs,rfl⟩
 have hbB:=ha.below l1.both.leB (fun k hk=>by rw [hk];exact hgB)
 have hne:∀ {k:Nat} {cs':Array Value} {t:TypeId},(W.alloc (.cells (wordV (List.replicate n 0)).toArray 42)).heap[k]? = some (.cells cs' t (0,0))→t≠62→k≠gm:=fun hk ht e=>by
  subst e
  exact za5 hk hcs ht
 refine ⟨b2.away ha (fun k hk=>.inr ?_),l1.hv,l1.dv,(ha.block _ (lt_of_block l1.hbx) (hne l1.hbx (by decide))).trans l1.hbx,(ha.block _ (lt_of_block l1.dbx) (hne l1.dbx (by decide))).trans l1.dbx,?_,?_,l1.boxB hbB,l1.low,l1.type.kept l1.b0 hbB,l1.b0⟩
 ·obtain ⟨cs',t,e1,rfl⟩:=hT k hk
  refine ⟨by rw [hk];exact hgB,cs',_,e1,by unfold Tag16;decide,by unfold TagD;decide,by decide,by decide,by decide,by decide,by decide,by decide,by decide⟩
 ·rw [List.length_set,zl9 (r:={ q with mv:=.slice (some ⟨W.heap.size,0,none⟩) n n,memD:=List.replicate n 0 }) hq pbV rfl]
  exact za3 l1.all ha (fun k hk e=>by
   obtain ⟨cs',e1⟩:=(Seg.of_own l1.all).block k hk
   exact hne e1 (by decide) e)
 ·have h1:=(l1.mem.stored i (.slice (some ⟨W.heap.size,0,none⟩) n n)).1
  rw [List.length_set,List.map_set]
  exact h1
end
open Go.RowKit
set_option maxRecDepth 100000
structure R18 (w W:World) (B:Nat) (x:CfgC) (node:Nat) (h0:HostC) (d0:DocC) (hb db:Nat) (h:HostC) (d:DocC) (ps:List PartM) (sA sD:PorP.St) (mA mD:HeaP.Mon) (cA cD:RepP.Cmd) (N0:Nat) (p:TableP.Part) (wn pb:Nat) (wv va:Value) (xs:List Value) (vm:Value) (oa om ob:Option Nat):Prop where
 both:BothC w W B x node h d ps sA sD mA mD cA cD
 hv:hostV h=hostV h0
 dv:docV d=docV d0
 hbx:W.heap[hb]? = some (.cells (hostCells h0) 36 (0,0))
 dbx:W.heap[db]? = some (.cells (docCells d0) 53 (0,0))
 all:W.ownsRow B 56 1 va xs.length xs
 mem:W.ownsRow B 62 1 vm ps.length (ps.map PartM.mv)
 box:BoxS w x W
 low:(boxC w x).heap.size≤B
 type:HasType W
 b0:0 < B
 part:PartIn W B pb ps.length p.budget wv (List.replicate wn 0)
 wfr:∀ k,wv.ownBlock=some k→N0≤k
 old:∀ r∈ps,∀ k,(r.wv.ownBlock=some k∨r.mv.ownBlock=some k)→k < N0
 n0:N0≤W.heap.size
 sa:∀ a,oa=some a→W.heap[a]? = some (.cells #[.pointer (some ⟨pb,0,none⟩)] 56 (0,0))
 sm:∀ m,om=some m→MemR W B (.slice (some ⟨m,0,none⟩) wn wn) (List.replicate wn 0)∧N0≤m∧wv.ownBlock≠some m
 sb:∀ a,ob=some a→∃ m,om=some m∧W.heap[a]? = some (.cells #[.slice (some ⟨m,0,none⟩) wn wn] 62 (0,0))
section
variable {w W W':World} {B node:Nat} {x:CfgC} {h0 h:HostC} {d0 d:DocC} {hb db:Nat} {ps:List PartM} {sA sD:PorP.St} {mA mD:HeaP.Mon} {cA cD:RepP.Cmd} {N0:Nat} {p:TableP.Part} {wn pb:Nat} {wv va vm:Value} {xs:List Value} {oa om ob:Option Nat}
theorem R18.below (r:R18 w W B x node h0 d0 hb db h d ps sA sD mA mD cA cD N0 p wn pb wv va xs vm oa om ob) (hb':Below W.heap.size W W'):R18 w W' B x node h0 d0 hb db h d ps sA sD mA mD cA cD N0 p wn pb wv va xs vm oa om ob:=
 ⟨r.both.below hb',r.hv,r.dv,(hb'.block _ (lt_of_block r.hbx)).trans r.hbx,(hb'.block _ (lt_of_block r.dbx)).trans r.dbx,za3 (F:=fun _=>False) r.all (Apart.of_below' hb') (fun _ _ h=>h),za3 (F:=fun _=>False) r.mem (Apart.of_below' hb') (fun _ _ h=>h),r.box.step hb',r.low,r.type.keep (hb'.block 0 r.type.pos),r.b0,r.part.below hb',r.wfr,r.old,Nat.le_trans r.n0 hb'.size,fun a e=>(hb'.block _ (lt_of_block (r.sa a e))).trans (r.sa a e),fun m e=>⟨(r.sm m e).1.below hb',(r.sm m e).2⟩,fun a e=>by
  obtain ⟨m,e1,e2⟩:=r.sb a e
  exact ⟨m,e1,(hb'.block _ (lt_of_block e2)).trans e2⟩⟩
theorem R18.addA (r:R18 w W B x node h0 d0 hb db h d ps sA sD mA mD cA cD N0 p wn pb wv va xs vm oa om ob):R18 w (W.alloc (.cells #[.pointer (some ⟨pb,0,none⟩)] 56)) B x node h0 d0 hb db h d ps sA sD mA mD cA cD N0 p wn pb wv va xs vm (some W.heap.size) om ob:=by
 have r1:=r.below (W':=W.alloc (.cells #[.pointer (some ⟨pb,0,none⟩)] 56)) ((Below.refl _ _).alloc (Nat.le_refl _) _)
 exact { r1 with sa:=fun a e=>by obtain rfl:=Option.some.inj e;exact newAt _ _ }
theorem R18.addM (r:R18 w W B x node h0 d0 hb db h d ps sA sD mA mD cA cD N0 p wn pb wv va xs vm oa none none):R18 w (W.alloc (.cells (wordV (List.replicate wn 0)).toArray 42)) B x node h0 d0 hb db h d ps sA sD mA mD cA cD N0 p wn pb wv va xs vm oa (some W.heap.size) none:=by
 have r1:=r.below (W':=W.alloc (.cells (wordV (List.replicate wn 0)).toArray 42)) ((Below.refl _ _).alloc (Nat.le_refl _) _)
 have hm16:wn≤16:=by have:=r.part.most;rwa [List.length_replicate] at this
 refine { r1 with sm:=fun m e=>?_,sb:=fun a e=>by cases e }
 obtain rfl:=Option.some.inj e
 refine ⟨⟨?_,fun v hv=>by rw [List.eq_of_mem_replicate hv];omega,by rw [List.length_replicate];exact hm16⟩,r.n0,fun e=>?_⟩
 ·have h1:=zs8 (w:=W) (B:=B) (n:=wn) r.both.leB (by unfold maxLen;omega)
  rw [List.length_replicate]
  exact h1
 ·exact Nat.lt_irrefl _ ((Seg.of_own r.part.row).lt _ e).2
theorem R18.addB {m:Nat} (r:R18 w W B x node h0 d0 hb db h d ps sA sD mA mD cA cD N0 p wn pb wv va xs vm oa (some m) none):R18 w (W.alloc (.cells #[.slice (some ⟨m,0,none⟩) wn wn] 62)) B x node h0 d0 hb db h d ps sA sD mA mD cA cD N0 p wn pb wv va xs vm oa (some m) (some W.heap.size):=by
 have r1:=r.below (W':=W.alloc (.cells #[.slice (some ⟨m,0,none⟩) wn wn] 62)) ((Below.refl _ _).alloc (Nat.le_refl _) _)
 exact { r1 with sb:=fun a e=>by obtain rfl:=Option.some.inj e;exact ⟨m,rfl,newAt _ _⟩ }
theorem R18.rest {F:Nat→Prop} (r:R18 w W B x node h0 d0 hb db h d ps sA sD mA mD cA cD N0 p wn pb wv va xs vm oa om ob) (ha:Apart F W W') (hT:∀ k,F k→B≤k∧∃ cs t,W.heap[k]? = some (.cells cs t (0,0))∧(t=56∨t=62)):BothC w W' B x node h d ps sA sD mA mD cA cD∧W'.heap[hb]? = some (.cells (hostCells h0) 36 (0,0))∧W'.heap[db]? = some (.cells (docCells d0) 53 (0,0))∧BoxS w x W'∧HasType W'∧PartIn W' B pb ps.length p.budget wv (List.replicate wn 0)∧(∀ m,om=some m→MemR W' B (.slice (some ⟨m,0,none⟩) wn wn) (List.replicate wn 0)∧N0≤m∧wv.ownBlock≠some m):=by
 have hbB:=ha.below r.both.leB (fun k hk=>(hT k hk).1)
 have hne:∀ {k:Nat} {cs:Array Value} {t:TypeId},W.heap[k]? = some (.cells cs t (0,0))→t≠56→t≠62→¬ F k:=fun hk h1 h2 hf=>by
  obtain ⟨-,cs',t',e1,e2⟩:=hT _ hf
  rw [hk] at e1
  simp only [Option.some.injEq,Obj.cells.injEq] at e1
  obtain ⟨-,rfl,-⟩:=e1
  rcases e2 with e | e
  ·exact h1 e
  ·exact h2 e
 refine ⟨r.both.away ha (fun k hk=>.inr ?_),(ha.block _ (lt_of_block r.hbx) (hne r.hbx (by decide) (by decide))).trans r.hbx,(ha.block _ (lt_of_block r.dbx) (hne r.dbx (by decide) (by decide))).trans r.dbx,r.box.trans (hbB.mono r.low),r.type.kept r.b0 hbB,r.part.apart ha (hne r.part.hd (by decide) (by decide)) (fun k hk=>?_),fun m e=>⟨(r.sm m e).1.apart ha (fun k hk=>?_),(r.sm m e).2⟩⟩
 ·obtain ⟨e0,cs,t,e1,e2⟩:=hT k hk
  refine ⟨e0,cs,t,e1,?_⟩
  rcases e2 with rfl | rfl
  ·exact ⟨by unfold Tag16;decide,by unfold TagD;decide,by decide,by decide,by decide,by decide,by decide,by decide,by decide⟩
  ·exact ⟨by unfold Tag16;decide,by unfold TagD;decide,by decide,by decide,by decide,by decide,by decide,by decide,by decide⟩
 ·obtain ⟨-,cs,e1⟩:=r.part.fTag hk
  exact hne e1 (by decide) (by decide)
 ·obtain ⟨-,cs,e1⟩:=(r.sm m e).1.fTag hk
  exact hne e1 (by decide) (by decide)
theorem R18.appA (r:R18 w W B x node h0 d0 hb db h d ps sA sD mA mD cA cD N0 p wn pb wv va xs vm oa om ob) {va':Value} {xs':List Value} (g1:W'.ownsRow B 56 1 va' xs'.length xs') (ha:Apart (fun k=>va.ownBlock=some k) W W'):R18 w W' B x node h0 d0 hb db h d ps sA sD mA mD cA cD N0 p wn pb wv va' xs' vm none om ob:=by
 have hT:∀ k,va.ownBlock=some k→B≤k∧∃ cs,W.heap[k]? = some (.cells cs 56 (0,0)):=fun k hk=>⟨((Seg.of_own r.all).lt k hk).1,(Seg.of_own r.all).block k hk⟩
 obtain ⟨q1,q2,q3,q4,q5,q6,q7⟩:=r.rest ha (fun k hk=>by obtain ⟨e0,cs,e1⟩:=hT k hk;exact ⟨e0,cs,_,e1,.inl rfl⟩)
 have hne:∀ {k:Nat} {cs:Array Value} {t:TypeId},W.heap[k]? = some (.cells cs t (0,0))→t≠56→¬ va.ownBlock=some k:=fun hk h1 hf=>by
  obtain ⟨-,cs',e1⟩:=hT _ hf
  exact za5 hk e1 h1
 refine ⟨q1,r.hv,r.dv,q2,q3,g1,za3 r.mem ha (fun k hk hf=>?_),q4,r.low,q5,r.b0,q6,r.wfr,r.old,Nat.le_trans r.n0 ha.size,fun a e=>(by cases e),q7,fun a e=>?_⟩
 ·obtain ⟨cs,e1⟩:=(Seg.of_own r.mem).block k hk
  exact hne e1 (by decide) hf
 ·obtain ⟨m,e1,e2⟩:=r.sb a e
  exact ⟨m,e1,(ha.block _ (lt_of_block e2) (hne e2 (by decide))).trans e2⟩
theorem R18.fin {m:Nat} (r:R18 w W B x node h0 d0 hb db h d ps sA sD mA mD cA cD N0 p wn pb wv va (ps.map pbV ++ [Value.pointer (some ⟨pb,0,none⟩)]) vm oa (some m) ob) (hp:x.parts[ps.length]? = some p) {vm':Value} (g1:W'.ownsRow B 62 1 vm' (ps.length + 1) (ps.map PartM.mv ++ [.slice (some ⟨m,0,none⟩) wn wn])) (ha:Apart (fun k=>vm.ownBlock=some k) W W'):LawC w W' B x node h0 d0 hb db va vm' h d (ps ++ [⟨pb,wv,.slice (some ⟨m,0,none⟩) wn wn,List.replicate wn 0,List.replicate wn 0⟩]) sA sD mA mD cA cD:=by
 have hT:∀ k,vm.ownBlock=some k→B≤k∧∃ cs,W.heap[k]? = some (.cells cs 62 (0,0)):=fun k hk=>⟨((Seg.of_own r.mem).lt k hk).1,(Seg.of_own r.mem).block k hk⟩
 obtain ⟨q1,q2,q3,q4,q5,q6,q7⟩:=r.rest ha (fun k hk=>by obtain ⟨e0,cs,e1⟩:=hT k hk;exact ⟨e0,cs,_,e1,.inr rfl⟩)
 obtain ⟨m1,m2,m3⟩:=q7 m rfl
 have hall:W'.ownsRow B 56 1 va (ps.map pbV ++ [Value.pointer (some ⟨pb,0,none⟩)]).length (ps.map pbV ++ [Value.pointer (some ⟨pb,0,none⟩)]):=za3 r.all ha (fun k hk hf=>by
  obtain ⟨cs,e1⟩:=(Seg.of_own r.all).block k hk
  obtain ⟨-,cs',e2⟩:=hT k hf
  exact za5 e1 e2 (by decide))
 refine ⟨q1.more ⟨pb,wv,.slice (some ⟨m,0,none⟩) wn wn,List.replicate wn 0,List.replicate wn 0⟩ hp q6 m1 (fun k hk r' hr=>⟨fun e=>?_,fun e=>?_⟩) (fun k hk r' hr=>⟨fun e=>?_,fun e=>?_⟩) (fun k hk e=>?_),r.hv,r.dv,q2,q3,?_,?_,q4,r.low,q5,r.b0⟩
 ·have:=r.old r' hr k (.inl e);have:=r.wfr k hk;omega
 ·have:=r.old r' hr k (.inr e);have:=r.wfr k hk;omega
 ·have e2:some m=some k:=hk
  obtain rfl:=Option.some.inj e2
  have:=r.old r' hr m (.inl e);omega
 ·have e2:some m=some k:=hk
  obtain rfl:=Option.some.inj e2
  have:=r.old r' hr m (.inr e);omega
 ·have e2:some m=some k:=e
  obtain rfl:=Option.some.inj e2
  exact m3 hk
 ·rw [List.map_append,List.length_append]
  rw [List.length_append,List.length_map] at hall
  exact hall
 ·rw [List.map_append,List.length_append]
  exact g1
end
theorem LawC.r18 {w W W':World} {B node:Nat} {x:CfgC} {h0 h:HostC} {d0 d:DocC} {hb db:Nat} {va vm:Value} {ps:List PartM} {sA sD:PorP.St} {mA mD:HeaP.Mon} {cA cD:RepP.Cmd} (l:LawC w W B x node h0 d0 hb db va vm h d ps sA sD mA mD cA cD) (hbw:Below W.heap.size W W') {p:TableP.Part} {wn pb:Nat} {wv:Value} (hp:PartIn W' W.heap.size pb ps.length p.budget wv (List.replicate wn 0)):R18 w W' B x node h0 d0 hb db h d ps sA sD mA mD cA cD W.heap.size p wn pb wv va (ps.map pbV) vm none none none:=by
 have l1:=l.below hbw
 have hp':PartIn W' B pb ps.length p.budget wv (List.replicate wn 0):=⟨hp.hd,zf8 hp.row l.both.leB,hp.ok,hp.most,Nat.le_trans l.both.leB hp.base⟩
 refine ⟨l1.both,l1.hv,l1.dv,l1.hbx,l1.dbx,by rw [List.length_map];exact l1.all,l1.mem,l1.box,l1.low,l1.type,l1.b0,hp',fun k hk=>((Seg.of_own hp.row).lt k hk).1,fun r hr k hk=>?_,hbw.size,fun _ e=>(by cases e),fun _ e=>(by cases e),fun _ e=>(by cases e)⟩
 rcases hk with hk | hk
 ·exact l.both.wvLt hr hk
 ·exact l.both.mvLt hr hk
structure DocNew (w W0 W:World) (B:Nat) (x:CfgC) (node:Nat) (d:DocC) (db:Nat):Prop where
 doc:DocIn w W B x node RepP.new d (PorP.start x.plain) (HeaP.Mon.start x.parts.length) ⟨0,0,0,0⟩
 box:W.heap[db]? = some (.cells (docCells d) 53 (0,0))
 fresh:∀ k,DF d k→W0.heap.size≤k
 below:Below W0.heap.size W0 W
theorem LawC.start {w W0 W:World} {B node:Nat} {x:CfgC} {h:HostC} {d:DocC} {hb db:Nat} (hh:HostIn W0 B x.plain node (x.parts.map sayOf) RepP.new h (PorP.start x.plain) (HeaP.Mon.start x.parts.length) ⟨0,0,0,0⟩) (hbx:W0.heap[hb]? = some (.cells (hostCells h) 36 (0,0))) (hd:DocNew w W0 W B x node d db) (hB:B≤W0.heap.size) (hbs:BoxS w x W0) (hlow:(boxC w x).heap.size≤B) (hg:HasType W0) (h0:0 < B):LawC w W B x node h d hb db (.slice none 0 0) (.slice none 0 0) h d [] (PorP.start x.plain) (PorP.start x.plain) (HeaP.Mon.start x.parts.length) (HeaP.Mon.start x.parts.length) ⟨0,0,0,0⟩ ⟨0,0,0,0⟩:=by
 refine ⟨⟨hh.below hd.below,hd.doc,Nat.zero_le _,fun i q p hq=>(by simp at hq),fun i q hq=>(by simp at hq),fun k hk hf=>?_,fun k hk hf=>?_,fun i j q r hq=>(by simp at hq),fun i j q r _ hq=>(by simp at hq),fun i j q r _ hq=>(by simp at hq),Nat.le_trans hB hd.below.size⟩,rfl,rfl,(hd.below.block _ (lt_of_block hbx)).trans hbx,hd.box,World.ownsRow_nil _ _ _ _,World.ownsRow_nil _ _ _ _,hbs.step hd.below,hlow,hg.keep (hd.below.block 0 hg.pos),h0⟩
 ·have:=hh.fLt hk;have:=hd.fresh k hf;omega
 ·have:=(hh.por.ptLt hk).2;have:=hd.fresh k hf;omega
theorem zd8 {W:World} {a:Nat} {v:Value} {t:TypeId} (h:W.heap[a]? = some (.cells #[v] t (0,0))):0 < 1→∃ ad,some (⟨a,0,none⟩:Addr)=some ad∧∀ j u,[v][j]? = some u→W.cell? (ad.add j)=some u:=fun _=>⟨_,rfl,fun j u hj=>by
 have hj0:j=0:=by have:=(List.getElem?_eq_some_iff.1 hj).1;simp at this;omega
 subst hj0
 obtain rfl:v=u:=by simpa using hj
 exact za0 h 0 rfl⟩
theorem infoPtr16:(Tryz.prog.info? 56).map (fun i=>(i.zero,i.size,i.bytes))=some (some (.pointer none),1,8):=by kernel_rfl
theorem infoWs16:(Tryz.prog.info? 62).map (fun i=>(i.zero,i.size,i.bytes))=some (some (.slice none 0 0),1,24):=by kernel_rfl
open Go.RowKit
set_option maxRecDepth 100000
def wQ (N:Nat) (ps:List TableP.Part):CfgC:=⟨2,0,1000,500,0,0,0,98,some ⟨N,0,none⟩,2,2,ps,some ⟨N + 1,0,none⟩,4,4,wPorts 1 1 2 1 1,some ⟨N + 2,0,none⟩,2,2,wRoutes⟩
def cQ (ps:List TableP.Part):TableP.Cfg:=⟨2,0,1000,500,0,0,0,98,ps,wPorts 1 1 2 1 1,wRoutes⟩
def wPs (b wd:Int) (r0 r1 r2 r3:Nat):List TableP.Part:=[⟨0,0,10,b,wd,r0,r1,r2,r3⟩,⟨1,0,10,9,2,0,0,0,0⟩]
structure WirQ (W:World) (N:Nat) (ps:List TableP.Part):Prop where
 parts:W.heap[N]? = some (.cells (itemsV partVals ps).toArray 66 (0,0))
 ports:W.heap[N + 1]? = some (.cells (itemsV portVals (wPorts 1 1 2 1 1)).toArray 127 (0,0))
 routes:W.heap[N + 2]? = some (.cells (itemsV routeVals wRoutes).toArray 142 (0,0))
theorem WirQ.of {W:World} {N:Nat} (h:WirIn W N 1 1 2 1 1):WirQ W N (wPs 9 2 0 0 0 0):=⟨h.parts,h.ports,h.routes⟩
theorem WirQ.cfg {W:World} {N:Nat} {ps:List TableP.Part} (h:WirQ W N ps) (hl:ps.length=2):CfgIn W (wQ N ps):=
 ⟨zl6 zg0 h.parts,hl,Nat.le_refl _,by simp only [wQ];omega,zl6 zg1 h.ports,rfl,Nat.le_refl _,by simp only [wQ];omega,zl6 zf1 h.routes,rfl,Nat.le_refl _,by simp only [wQ];omega⟩
theorem WirQ.below {W W':World} {N:Nat} {ps:List TableP.Part} (h:WirQ W N ps) (hb:Below W.heap.size W W'):WirQ W' N ps:=
 ⟨(hb.block _ (lt_of_block h.parts)).trans h.parts,(hb.block _ (lt_of_block h.ports)).trans h.ports,(hb.block _ (lt_of_block h.routes)).trans h.routes⟩
theorem WirQ.set {W:World} {N:Nat} {ps ps':List TableP.Part} (h:WirQ W N ps) (i:Nat) (v:Value) (hv:(itemsV partVals ps).set i v=itemsV partVals ps'):WirQ (W.setCell ⟨N,i,none⟩ v) N ps':=by
 refine ⟨?_,(Below.heap_setCell _ _ _ _ (by simp)).trans h.ports,(Below.heap_setCell _ _ _ _ (by simp)).trans h.routes⟩
 have h1:=heap_setCell_same W N i _ _ v h.parts
 rw [h1,← hv]
 simp
theorem WirQ.cell {W:World} {N:Nat} {ps:List TableP.Part} (h:WirQ W N ps) (i:Nat) {v:Value} (hv:(itemsV partVals ps)[i]? = some v):W.cell? ⟨N,i,none⟩=some v:=za0 h.parts i (by rw [List.getElem?_toArray];exact hv)
theorem PartIn.low16 {w:World} {B B' pb part:Nat} {budget:Int} {wv:Value} {mem:List Nat} (h:PartIn w B pb part budget wv mem) (hB:B'≤B):PartIn w B' pb part budget wv mem:=⟨h.hd,zf8 h.row hB,h.ok,h.most,Nat.le_trans hB h.base⟩
theorem qhost_any (N:Nat) (ps:List TableP.Part) (hl:ps.length=2) (hc:SndP.chk6 (cQ ps)=none) (W:World) (h:WirQ W N ps):Calls Tryz.prog 6 #[(wQ N ps).value,.int .i64 0] W (HostP W (cQ ps) 0):=
 zF2 (wQ N ps) 0 W (h.cfg hl) hc (show ((0:Nat):Int) < 2 by decide) (by decide)
def QNew (W:World) (b:Int) (n:Nat) (e:Ending) (w':World):Prop:=∃ pb wv,e = .returned (.tuple #[.pointer (some ⟨pb,0,none⟩),.nilIface])∧PartIn w' W.heap.size pb 0 b wv (List.replicate n 0)∧Below W.heap.size W w'
theorem qnew_any (N:Nat) (b:Int) (n r0 r1 r2 r3:Nat) (hn:n≤16) (W:World) (h:WirQ W N (wPs b n r0 r1 r2 r3)):Calls Tryz.prog 9 #[(wQ N (wPs b n r0 r1 r2 r3)).value,.int .i64 0] W (QNew W b n):=by
 refine (zA1 (wQ N (wPs b n r0 r1 r2 r3)) W (h.cfg rfl) 0 (by decide) (by decide) (by simp only [wQ];omega) (fun p hp=>?_)).mono ?_
 ·have hp':p∈wPs b n r0 r1 r2 r3:=hp
  simp only [wPs,List.mem_cons,List.not_mem_nil,or_false] at hp'
  rcases hp' with rfl | rfl
  ·simp only;omega
  ·simp only;omega
 ·intro e w' hq
  unfold NewA16 at hq
  rw [if_neg (by decide)] at hq
  have e1:(wQ N (wPs b n r0 r1 r2 r3)).parts[(0:Int).toNat]? = some ⟨0,0,10,b,n,r0,r1,r2,r3⟩:=rfl
  rw [e1] at hq
  simp only at hq
  rw [if_neg (by omega)] at hq
  obtain ⟨pb,wv,g1,g2,g3⟩:=hq
  exact ⟨pb,wv,g1,g2,g3⟩
theorem zD5 (i v:Nat) (h:RepP.tat RepP.new i=some v):v < 65536:=by rw [RepP.new_at] at h;cases h
theorem ops_laid {B:Nat} (w:World) (l:List OpC) (vs:Array Value) (hvs:vs=(itemsV opVals l).toArray) (M:Nat) (hM:M=w.heap.size) (hok:∀ x∈l,OpOk w x∧x.data=[]):OpsIn (w.alloc (.cells vs 91)) B (some ⟨M,0,none⟩) l:=by
 subst hvs hM
 have hb:Below w.heap.size w (w.alloc (.cells (itemsV opVals l).toArray 91)):=(Below.refl _ _).alloc (Nat.le_refl _) _
 refine ⟨zl6 zf4 (newAt _ _),fun x hx=>(hok x hx).1.below hb,fun x hx hl=>?_,fun _ k hk=>?_⟩
 ·rw [(hok x hx).2] at hl;exact absurd hl (by simp)
 ·have e:some w.heap.size=some k:=hk
  obtain rfl:=Option.some.inj e
  exact ⟨_,_,newAt _ _⟩
theorem three_of {α:Type} (l:List α) (h:l.length=3):∃ a b c,l=[a,b,c]:=by
 match l,h with
 | [a,b,c],_=>exact ⟨a,b,c,rfl⟩
theorem qok3:SndP.chk6 (cQ (wPs 3 2 0 0 0 0))=none:=by kernel_rfl
theorem awake_run:(ApeP.runG (ApeP.opP (cQ (wPs 3 2 0 0 0 0)) 0 0 RepP.new) ((wPs 3 2 0 0 0 0).map sayOf) 0 0 0 (([⟨5,0,2,0,0,none,0,0,[]⟩,⟨3,0,0,7,0,none,0,0,[]⟩,⟨4,0,0,0,0,none,0,0,[]⟩]:List OpC).map OpC.plain) 3 ⟨List.replicate 2 0,PorP.start (cQ (wPs 3 2 0 0 0 0)),HeaP.Mon.start 2,⟨0,0,0,0⟩⟩).res=[⟨0,0,[],false⟩,⟨0,7,[],false⟩,⟨151,0,[],false⟩]∧(ApeP.runG (ApeP.opP (cQ (wPs 3 2 0 0 0 0)) 0 0 RepP.new) ((wPs 3 2 0 0 0 0).map sayOf) 0 0 0 (([⟨5,0,2,0,0,none,0,0,[]⟩,⟨3,0,0,7,0,none,0,0,[]⟩,⟨4,0,0,0,0,none,0,0,[]⟩]:List OpC).map OpC.plain) 3 ⟨List.replicate 2 0,PorP.start (cQ (wPs 3 2 0 0 0 0)),HeaP.Mon.start 2,⟨0,0,0,0⟩⟩).did=0∧(ApeP.runG (ApeP.opP (cQ (wPs 3 2 0 0 0 0)) 0 0 RepP.new) ((wPs 3 2 0 0 0 0).map sayOf) 0 0 0 (([⟨5,0,2,0,0,none,0,0,[]⟩,⟨3,0,0,7,0,none,0,0,[]⟩,⟨4,0,0,0,0,none,0,0,[]⟩]:List OpC).map OpC.plain) 3 ⟨List.replicate 2 0,PorP.start (cQ (wPs 3 2 0 0 0 0)),HeaP.Mon.start 2,⟨0,0,0,0⟩⟩).left=0:=⟨by kernel_rfl,by kernel_rfl,by kernel_rfl⟩
theorem resC_of {y:ResC} {r:ApeP.Res} (h:y.plain=r):y.code=r.code∧y.value=r.value∧y.data=r.data∧y.fresh=r.fresh:=by subst h;exact ⟨rfl,rfl,rfl,rfl⟩
theorem OutA.cells {W:World} {M B:Nat} {v:Value} {ys:List ResC} (h:OutA W M B v ys) (hn:0 < ys.length):∃ g cap,v = .slice (some ⟨g,0,none⟩) ys.length cap∧g < W.heap.size∧∀ i y,ys[i]? = some y→W.cell? ⟨g,i * 4,none⟩=some (.int .i64 (y.code:Nat))∧W.cell? ⟨g,i * 4 + 1,none⟩=some (.int .i64 y.value)∧W.cell? ⟨g,i * 4 + 2,none⟩=some (.slice y.A y.data.length y.cap)∧W.cell? ⟨g,i * 4 + 3,none⟩=some (.bool y.fresh):=by
 obtain ⟨g,cap,rfl,-⟩:=zc6 h.row hn
 refine ⟨g,cap,rfl,((Seg.of_own h.row).lt g rfl).2,fun i y hy=>?_⟩
 have hi:=(List.getElem?_eq_some_iff.1 hy).1
 have hc:∀ j u,j < 4→(resVals y)[j]? = some u→W.cell? ⟨g,i * 4 + j,none⟩=some u:=fun j u hj hu=>by
  rw [h.row.cellAt (i * 4 + j) (by omega)]
  rw [ze0 zk3 ys i y hy j hj]
  exact hu
 exact ⟨hc 0 _ (by decide) rfl,hc 1 _ (by decide) rfl,hc 2 _ (by decide) rfl,hc 3 _ (by decide) rfl⟩
set_option maxHeartbeats 8000000 in
theorem zD6 (w:World) (hg:HasType w):Calls Tryz.prog 4 #[] w (HTrue w):=by
 have HG:=Lib.hid hg
 have Hb0:=Lib.hid (Below.refl w.heap.size w)
 clear hg
 have Hb1:=Hb0
 have HG1:=HG
 go_enter Tryz.func4,Tryz.ntmps4
 go_wp2_with fail
 refine (wired_any w).mono ?_
 rintro e w2 ⟨rfl,hwi,hbw⟩
 obtain ⟨N,hN⟩:∃ N,N=w.heap.size + 2:=⟨_,rfl⟩
 rw [← hN] at hwi ⊢
 simp only [wC,CfgC.value]
 have hq2:=WirQ.of hwi
 have hb3:Below w2.heap.size w2 (w2.alloc (.cells #[.int .i64 2,.int .i64 0,.int .i64 1000,.int .i64 500,.int .i64 0,.int .i64 0,.int .i64 0,.int .i64 98,.slice (some ⟨N,0,none⟩) 2 2,.slice (some ⟨N + 1,0,none⟩) 4 4,.slice (some ⟨N + 2,0,none⟩) 2 2] 26)):=(Below.refl _ _).alloc (Nat.le_refl _) _
 have hq00:WirQ (w2.alloc (.cells #[.int .i64 2,.int .i64 0,.int .i64 1000,.int .i64 500,.int .i64 0,.int .i64 0,.int .i64 0,.int .i64 98,.slice (some ⟨N,0,none⟩) 2 2,.slice (some ⟨N + 1,0,none⟩) 4 4,.slice (some ⟨N + 2,0,none⟩) 2 2] 26)) N (wPs 9 2 0 0 0 0):=hq2.below hb3
 have hbox00:(w2.alloc (.cells #[.int .i64 2,.int .i64 0,.int .i64 1000,.int .i64 500,.int .i64 0,.int .i64 0,.int .i64 0,.int .i64 98,.slice (some ⟨N,0,none⟩) 2 2,.slice (some ⟨N + 1,0,none⟩) 4 4,.slice (some ⟨N + 2,0,none⟩) 2 2] 26)).heap[w2.heap.size]? = some (.cells #[.int .i64 2,.int .i64 0,.int .i64 1000,.int .i64 500,.int .i64 0,.int .i64 0,.int .i64 0,.int .i64 98,.slice (some ⟨N,0,none⟩) 2 2,.slice (some ⟨N + 1,0,none⟩) 4 4,.slice (some ⟨N + 2,0,none⟩) 2 2] 26 (0,0)):=newAt _ _
 have hNb:N < w2.heap.size:=lt_of_block hq2.parts
 have hbw0:=Hb1.out.trans (hbw.mono Hb1.out.size)
 have hbw3:Below w.heap.size w (w2.alloc (.cells #[.int .i64 2,.int .i64 0,.int .i64 1000,.int .i64 500,.int .i64 0,.int .i64 0,.int .i64 0,.int .i64 98,.slice (some ⟨N,0,none⟩) 2 2,.slice (some ⟨N + 1,0,none⟩) 4 4,.slice (some ⟨N + 2,0,none⟩) 2 2] 26)):=hbw0.trans (hb3.mono hbw0.size)
 have hN1:w.heap.size≤N:=by omega
 have hg3:HasType (w2.alloc (.cells #[.int .i64 2,.int .i64 0,.int .i64 1000,.int .i64 500,.int .i64 0,.int .i64 0,.int .i64 0,.int .i64 98,.slice (some ⟨N,0,none⟩) 2 2,.slice (some ⟨N + 1,0,none⟩) 4 4,.slice (some ⟨N + 2,0,none⟩) 2 2] 26)):=HG1.out.keep ((hbw.trans (hb3.mono hbw.size)).block 0 HG1.out.pos)
 have hq2l:=hb3.size
 have hbl:=hbw.size
 clear hN
 go_upto_region 2 with (fail)
 generalize (w2.alloc (.cells #[.int .i64 2,.int .i64 0,.int .i64 1000,.int .i64 500,.int .i64 0,.int .i64 0,.int .i64 0,.int .i64 98,.slice (some ⟨N,0,none⟩) 2 2,.slice (some ⟨N + 1,0,none⟩) 4 4,.slice (some ⟨N + 2,0,none⟩) 2 2] 26))=w3 at *
 have hq0:=hq00
 have hbox0:=hbox00
 have hfz:∀ j,w3.frozen? ⟨N,j,none⟩=false:=fun j=>za2 hq0.parts j
 have hne:w2.heap.size≠N:=by omega
 have kp3:w3.cell? ⟨N,3,none⟩=some (.int .i64 9):=hq0.cell 3 rfl
 have kb8:w3.cell? ⟨w2.heap.size,8,none⟩=some (.slice (some ⟨N,0,none⟩) 2 2):=za0 hbox0 8 rfl
 have hq:WirQ (w3.setCell ⟨N,3,none⟩ (.int .i64 3)) N (wPs 3 2 0 0 0 0):=hq0.set 3 (.int .i64 3) rfl
 have hbox4:(w3.setCell ⟨N,3,none⟩ (.int .i64 3)).heap[w2.heap.size]? = some (.cells #[.int .i64 2,.int .i64 0,.int .i64 1000,.int .i64 500,.int .i64 0,.int .i64 0,.int .i64 0,.int .i64 98,.slice (some ⟨N,0,none⟩) 2 2,.slice (some ⟨N + 1,0,none⟩) 4 4,.slice (some ⟨N + 2,0,none⟩) 2 2] 26 (0,0)):=(Below.heap_setCell _ _ _ _ hne).trans hbox0
 have hst:Below w.heap.size w3 (w3.setCell ⟨N,3,none⟩ (.int .i64 3)):=by
  have hA:Apart (fun k=>k=N) w3 (w3.setCell ⟨N,3,none⟩ (.int .i64 3)):=by
   first
   | exact Apart.refl _ _
   | exact (Apart.refl (fun k=>k=N) _).setCell (p:=⟨N,_,none⟩) (.inl rfl) _
   | exact ((Apart.refl (fun k=>k=N) _).setCell (p:=⟨N,_,none⟩) (.inl rfl) _).setCell (p:=⟨N,_,none⟩) (.inl rfl) _
   | exact ((((Apart.refl (fun k=>k=N) _).setCell (p:=⟨N,_,none⟩) (.inl rfl) _).setCell (p:=⟨N,_,none⟩) (.inl rfl) _).setCell (p:=⟨N,_,none⟩) (.inl rfl) _).setCell (p:=⟨N,_,none⟩) (.inl rfl) _
   | exact (((((Apart.refl (fun k=>k=N) _).setCell (p:=⟨N,_,none⟩) (.inl rfl) _).setCell (p:=⟨N,_,none⟩) (.inl rfl) _).setCell (p:=⟨N,_,none⟩) (.inl rfl) _).setCell (p:=⟨N,_,none⟩) (.inl rfl) _).setCell (p:=⟨N,_,none⟩) (.inl rfl) _
  exact hA.below (Nat.le_trans hbl hq2l) fun k e=>by omega
 have hb4:Below w.heap.size w (w3.setCell ⟨N,3,none⟩ (.int .i64 3)):=hbw3.trans (hst.mono Hb1.out.size)
 have hg4:HasType (w3.setCell ⟨N,3,none⟩ (.int .i64 3)):=hg3.keep (hst.block 0 HG1.out.pos)
 have HNb:=Lib.hid hNb
 have HQ:=Lib.hid hq
 have HBox:=Lib.hid hbox4
 have HB4:=Lib.hid hb4
 have HG4:=Lib.hid hg4
 clear hN1 hwi hq2 hb3 hq0 hq00 hbox00 hq2l hbl hbw hbw0 hbw3 hg3 hst hb4 hg4 hq hbox4 hbox0
 go_upto_region 3 with (fail)
 clear kp3 kb8 hfz
 generalize (w3.setCell ⟨N,3,none⟩ (.int .i64 3))=w4 at *
 have H4z:=Lib.hid HG4.out.pos
 have hbox4:=HBox.out
 have bx0:=za0 hbox4 0 rfl
 have bx1:=za0 hbox4 1 rfl
 have bx2:=za0 hbox4 2 rfl
 have bx3:=za0 hbox4 3 rfl
 have bx4:=za0 hbox4 4 rfl
 have bx5:=za0 hbox4 5 rfl
 have bx6:=za0 hbox4 6 rfl
 have bx7:=za0 hbox4 7 rfl
 have bx8:=za0 hbox4 8 rfl
 have bx9:=za0 hbox4 9 rfl
 have bx10:=za0 hbox4 10 rfl
 have HHost:Hid (Calls Tryz.prog 6 #[.agg #[.int .i64 2,.int .i64 0,.int .i64 1000,.int .i64 500,.int .i64 0,.int .i64 0,.int .i64 0,.int .i64 98,.slice (some ⟨N,0,none⟩) 2 2,.slice (some ⟨N + 1,0,none⟩) 4 4,.slice (some ⟨N + 2,0,none⟩) 2 2],.int .i64 0] w4 (HostP w4 (cQ (wPs 3 2 0 0 0 0)) 0)):=Lib.hid (qhost_any N (wPs 3 2 0 0 0 0) rfl qok3 w4 HQ.out)
 clear hbox4
 go_wp2_with fail
 clear bx0 bx1 bx2 bx3 bx4 bx5 bx6 bx7 bx8 bx9 bx10
 refine HHost.out.mono ?_
 rintro e w5 ⟨h,rfl,hh,hb5⟩
 have hb56:Below w5.heap.size w5 (w5.alloc (.cells #[.pointer (some ⟨h.x.a,0,none⟩),.pointer (some ⟨h.tb,0,none⟩),.pointer (some ⟨h.mb,0,none⟩),.pointer (some ⟨h.cb,0,none⟩)] 36)):=(Below.refl _ _).alloc (Nat.le_refl _) _
 have hbx5:(w5.alloc (.cells #[.pointer (some ⟨h.x.a,0,none⟩),.pointer (some ⟨h.tb,0,none⟩),.pointer (some ⟨h.mb,0,none⟩),.pointer (some ⟨h.cb,0,none⟩)] 36)).heap[w5.heap.size]? = some (.cells #[.pointer (some ⟨h.x.a,0,none⟩),.pointer (some ⟨h.tb,0,none⟩),.pointer (some ⟨h.mb,0,none⟩),.pointer (some ⟨h.cb,0,none⟩)] 36 (0,0)):=newAt _ _
 have HHs:=Lib.hid (hh.below hb56)
 have HHb:=Lib.hid hbx5
 have hb46:=hb5.trans (hb56.mono hb5.size)
 have HB46:=Lib.hid hb46
 have HB6:=Lib.hid (HB4.out.trans (hb46.mono HB4.out.size))
 have HQ6:=Lib.hid (HQ.out.below hb46)
 have HBox6:=Lib.hid ((hb46.block _ (lt_of_block HBox.out)).trans HBox.out)
 have HG6:=Lib.hid (HG4.out.keep (hb46.block 0 HG4.out.pos))
 have H45:=Lib.hid hb5.size
 clear hh hb5 hb56 hbx5 hb46 HHost HQ HBox HG4
 simp only [hostV]
 go_upto_region 4 with (fail)
 generalize (w5.alloc (.cells #[.pointer (some ⟨h.x.a,0,none⟩),.pointer (some ⟨h.tb,0,none⟩),.pointer (some ⟨h.mb,0,none⟩),.pointer (some ⟨h.cb,0,none⟩)] 36))=w6 at *
 have hbox4:=HBox6.out
 have bx0:=za0 hbox4 0 rfl
 have bx1:=za0 hbox4 1 rfl
 have bx2:=za0 hbox4 2 rfl
 have bx3:=za0 hbox4 3 rfl
 have bx4:=za0 hbox4 4 rfl
 have bx5:=za0 hbox4 5 rfl
 have bx6:=za0 hbox4 6 rfl
 have bx7:=za0 hbox4 7 rfl
 have bx8:=za0 hbox4 8 rfl
 have bx9:=za0 hbox4 9 rfl
 have bx10:=za0 hbox4 10 rfl
 have HNew:Hid (Calls Tryz.prog 9 #[.agg #[.int .i64 2,.int .i64 0,.int .i64 1000,.int .i64 500,.int .i64 0,.int .i64 0,.int .i64 0,.int .i64 98,.slice (some ⟨N,0,none⟩) 2 2,.slice (some ⟨N + 1,0,none⟩) 4 4,.slice (some ⟨N + 2,0,none⟩) 2 2],.int .i64 0] w6 (QNew w6 3 2)):=Lib.hid (qnew_any N 3 2 0 0 0 0 (by decide) w6 HQ6.out)
 clear hbox4
 go_wp2_with fail
 clear bx0 bx1 bx2 bx3 bx4 bx5 bx6 bx7 bx8 bx9 bx10
 refine HNew.out.mono ?_
 rintro e w7 ⟨pb,wv,rfl,hp,hb7⟩
 have HP7:=Lib.hid (hp.low16 HB46.out.size)
 have HH7:=Lib.hid (HHs.out.below hb7)
 have HHb7:=Lib.hid ((hb7.block _ (lt_of_block HHb.out)).trans HHb.out)
 have HB7:=Lib.hid (HB6.out.trans (hb7.mono HB6.out.size))
 have HQ7:=Lib.hid (HQ6.out.below hb7)
 have HBox7:=Lib.hid ((hb7.block _ (lt_of_block HBox6.out)).trans HBox6.out)
 have HG7:=Lib.hid (HG6.out.keep (hb7.block 0 HG6.out.pos))
 have HB47:=Lib.hid (HB46.out.trans (hb7.mono HB46.out.size))
 clear hp hb7 HNew HHs HHb HB6 HQ6 HBox6 HG6
 go_upto_region 7 with (fail)
 have hb8:Below w7.heap.size w7 (w7.alloc (.cells #[.int .u8 5,.int .i64 0,.int .i64 2,.int .i64 0,.int .i64 0,.slice none 0 0,.int .u8 3,.int .i64 0,.int .i64 0,.int .i64 7,.int .i64 0,.slice none 0 0,.int .u8 4,.int .i64 0,.int .i64 0,.int .i64 0,.int .i64 0,.slice none 0 0] 91)):=(Below.refl _ _).alloc (Nat.le_refl _) _
 have hops:=ops_laid (B:=w4.heap.size) w7 [⟨5,0,2,0,0,none,0,0,[]⟩,⟨3,0,0,7,0,none,0,0,[]⟩,⟨4,0,0,0,0,none,0,0,[]⟩] #[.int .u8 5,.int .i64 0,.int .i64 2,.int .i64 0,.int .i64 0,.slice none 0 0,.int .u8 3,.int .i64 0,.int .i64 0,.int .i64 7,.int .i64 0,.slice none 0 0,.int .u8 4,.int .i64 0,.int .i64 0,.int .i64 0,.int .i64 0,.slice none 0 0] rfl w7.heap.size rfl (fun x hx=>by
  simp only [List.mem_cons,List.not_mem_nil,or_false] at hx
  rcases hx with rfl | rfl | rfl<;>exact ⟨⟨by decide,by decide,by decide,by decide,by decide,rfl,by decide,by decide,Bytes.none_⟩,rfl⟩)
 have HRun:Hid (Calls Tryz.prog 12 #[.pointer (some ⟨pb,0,none⟩),.agg #[.pointer (some ⟨h.x.a,0,none⟩),.pointer (some ⟨h.tb,0,none⟩),.pointer (some ⟨h.mb,0,none⟩),.pointer (some ⟨h.cb,0,none⟩)],.int .u32 0,.slice (some ⟨w7.heap.size,0,none⟩) 3 3] (w7.alloc (.cells #[.int .u8 5,.int .i64 0,.int .i64 2,.int .i64 0,.int .i64 0,.slice none 0 0,.int .u8 3,.int .i64 0,.int .i64 0,.int .i64 7,.int .i64 0,.slice none 0 0,.int .u8 4,.int .i64 0,.int .i64 0,.int .i64 0,.int .i64 0,.slice none 0 0] 91)) (RunP (w7.alloc (.cells #[.int .u8 5,.int .i64 0,.int .i64 2,.int .i64 0,.int .i64 0,.slice none 0 0,.int .u8 3,.int .i64 0,.int .i64 0,.int .i64 7,.int .i64 0,.slice none 0 0,.int .u8 4,.int .i64 0,.int .i64 0,.int .i64 0,.int .i64 0,.slice none 0 0] 91)) w4.heap.size (cQ (wPs 3 2 0 0 0 0)) 0 ((wPs 3 2 0 0 0 0).map sayOf) RepP.new h pb 0 3 wv (ApeP.runG (ApeP.opP (cQ (wPs 3 2 0 0 0 0)) 0 0 RepP.new) ((wPs 3 2 0 0 0 0).map sayOf) 0 0 0 (([⟨5,0,2,0,0,none,0,0,[]⟩,⟨3,0,0,7,0,none,0,0,[]⟩,⟨4,0,0,0,0,none,0,0,[]⟩]:List OpC).map OpC.plain) 3 ⟨List.replicate 2 0,PorP.start (cQ (wPs 3 2 0 0 0 0)),HeaP.Mon.start 2,⟨0,0,0,0⟩⟩))):=
  Lib.hid (run_any (s:=⟨List.replicate 2 0,PorP.start (cQ (wPs 3 2 0 0 0 0)),HeaP.Mon.start 2,⟨0,0,0,0⟩⟩) (HH7.out.below hb8) (HP7.out.below hb8) (SndP.works qok3).allowed (Nat.le_trans HB47.out.size hb8.size) H4z.out (HG7.out.keep (hb8.block 0 HG7.out.pos)) zD5 (by decide) (by decide) (by decide) 0 (some ⟨w7.heap.size,0,none⟩) 3 3 [⟨5,0,2,0,0,none,0,0,[]⟩,⟨3,0,0,7,0,none,0,0,[]⟩,⟨4,0,0,0,0,none,0,0,[]⟩] rfl (by decide) hops)
 have hx7:=HHb7.out
 have x0:=za0 hx7 0 rfl
 have x1:=za0 hx7 1 rfl
 have x2:=za0 hx7 2 rfl
 have x3:=za0 hx7 3 rfl
 have HB8:=Lib.hid (HB7.out.trans (hb8.mono HB7.out.size))
 clear hx7 hops hb8
 go_wp2_with fail
 clear x0 x1 x2 x3
 refine HRun.out.mono ?_
 rintro e w8 ⟨v,ys,h2,rfl,ho,hres,hh2,hp2,hwn,-,-⟩
 have hb9:Below w.heap.size w w8:=HB8.out.trans (((hwn.touch (HH7.out.below ((Below.refl _ _).alloc (Nat.le_refl _) _)) (HP7.out.below ((Below.refl _ _).alloc (Nat.le_refl _) _))).below (by have:=HB47.out.size;simp;omega)).mono HB4.out.size)
 have HB9:=Lib.hid hb9
 obtain ⟨q1,q2,q3⟩:=awake_run
 rw [q1] at hres
 rw [q2,q3]
 obtain ⟨y0,y1,y2,rfl⟩:=three_of ys (by have:=congrArg List.length hres;rwa [List.length_map] at this)
 simp only [List.map_cons,List.map_nil,List.cons.injEq,and_true] at hres
 obtain ⟨g,cap,rfl,-,hc⟩:=ho.cells (by simp)
 obtain ⟨-,e1,-,-⟩:=hc 1 y1 rfl
 obtain ⟨e2,-,-,-⟩:=hc 2 y2 rfl
 have v1:=(resC_of hres.2.1).2.1
 have v2:=(resC_of hres.2.2).1
 rw [v1] at e1
 rw [v2] at e2
 simp only [List.length_cons,List.length_nil] at *
 clear hc ho hres hh2 hp2 hwn hb9 v1 v2 q1 q2 q3
 go_wp2_with fail
 go_ret
 exact ⟨rfl,HB9.out⟩
open Go.RowKit
set_option maxRecDepth 100000
theorem zL0 {c:TableP.Cfg} {node:Int} {sp sr:PorP.St} (hL:PorP.Like c sp sr) (hB:PorP.Bare c node sp):PorP.imgP c (fun p=>!false || p.out) sp c.ports.length=PorP.imgP c (PorP.shown c node false) sr c.ports.length:=by
 rw [hB.img false,PorP.img_all hB.len,PorP.img_all hL.lb]
 unfold PorP.msgsT
 rw [hL.image]
section
variable {w W W':World} {B node:Nat} {x:CfgC} {h0 h h':HostC} {d0 d d':DocC} {hb db:Nat} {va vm:Value} {ps:List PartM} {sA sD sA' sD':PorP.St} {mA mD mA' mD':HeaP.Mon} {cA cD cA' cD':RepP.Cmd}
theorem LawC.hEq (l:LawC w W B x node h0 d0 hb db va vm h d ps sA sD mA mD cA cD):h.x.a=h0.x.a∧h.tb=h0.tb∧h.mb=h0.mb∧h.cb=h0.cb:=by
 have e:=l.hv
 unfold hostV at e
 simp only [Value.agg.injEq,Array.mk.injEq,List.cons.injEq,Value.pointer.injEq,Option.some.injEq,Addr.mk.injEq,and_true] at e
 exact ⟨e.1,e.2.1,e.2.2.1,e.2.2.2⟩
theorem LawC.dEq (l:LawC w W B x node h0 d0 hb db va vm h d ps sA sD mA mD cA cD):d.ra=d0.ra∧d.tb=d0.tb∧d.rm=d0.rm∧d.cb=d0.cb:=by
 have e:=l.dv
 unfold docV at e
 simp only [Value.agg.injEq,Array.mk.injEq,List.cons.injEq,Value.pointer.injEq,Option.some.injEq,Addr.mk.injEq,and_true] at e
 exact ⟨e.1,e.2.1,e.2.2.1,e.2.2.2⟩
theorem OutA.touchD {N:Nat} {v:Value} {ys:List ResC} {B0:Nat} (ho:OutA W N B v ys) (ht:TouchD B0 W W'):OutA W' N B v ys:=⟨ht.own ho.row ze4,fun y hy=>ht.own (ho.data y hy) tagD_u8⟩
theorem LawC.runA (l:LawC w W B x node h0 d0 hb db va vm h d ps sA sD mA mD cA cD) {i:Nat} {q:PartM} (hq:ps[i]? = some q) {p:TableP.Part} (hp:x.parts[i]? = some p) (hal:SndP.Allowed x.plain) (hn255:x.parts.length≤255) (hbu:-9223372036854775808≤p.budget∧p.budget≤9223372036854775807) (round:Nat) (A:Option Addr) (n cap:Nat) (ops:List OpC) (hl:ops.length=n) (hn:n≤1000000000) (ho:OpsIn W B A ops) :
 Calls Tryz.prog 12 #[.pointer (some ⟨q.pb,0,none⟩),hostV h0,.int .u32 (round:Nat),.slice A n cap] W (fun e w'=>∃ v ys h',e = .returned (.tuple #[v,.int .u8 ((ApeP.runG (ApeP.opP x.plain node i RepP.new) (x.parts.map sayOf) node i round (ops.map OpC.plain) p.budget ⟨q.memA,sA,mA,cA⟩).did:Nat),.int .i64 (p.budget - (ApeP.runG (ApeP.opP x.plain node i RepP.new) (x.parts.map sayOf) node i round (ops.map OpC.plain) p.budget ⟨q.memA,sA,mA,cA⟩).left)])∧OutA w' W.heap.size B v ys∧ys.map ResC.plain=(ApeP.runG (ApeP.opP x.plain node i RepP.new) (x.parts.map sayOf) node i round (ops.map OpC.plain) p.budget ⟨q.memA,sA,mA,cA⟩).res∧LawC w w' B x node h0 d0 hb db va vm h' d (ps.set i { q with memA:=(ApeP.runG (ApeP.opP x.plain node i RepP.new) (x.parts.map sayOf) node i round (ops.map OpC.plain) p.budget ⟨q.memA,sA,mA,cA⟩).st.mem }) (ApeP.runG (ApeP.opP x.plain node i RepP.new) (x.parts.map sayOf) node i round (ops.map OpC.plain) p.budget ⟨q.memA,sA,mA,cA⟩).st.ports sD (ApeP.runG (ApeP.opP x.plain node i RepP.new) (x.parts.map sayOf) node i round (ops.map OpC.plain) p.budget ⟨q.memA,sA,mA,cA⟩).st.mon mD (ApeP.runG (ApeP.opP x.plain node i RepP.new) (x.parts.map sayOf) node i round (ops.map OpC.plain) p.budget ⟨q.memA,sA,mA,cA⟩).st.cmd cD∧TouchA B W w'):=by
 have h1:=run_any (s:=(⟨q.memA,sA,mA,cA⟩:ApeP.AS)) l.both.hst (l.both.prog i q p hq hp) hal l.both.leB l.b0 l.type zD5 (by rw [List.length_map];exact hn255) hbu.1 hbu.2 round A n cap ops hl hn ho
 rw [l.hv] at h1
 refine h1.mono ?_
 rintro e w' ⟨v,ys,h',rfl,g1,g2,g3,g4,g5,g6,g7⟩
 exact ⟨v,ys,h',rfl,g1,g2,l.ran hq g3 (fun p' hp'=>by rw [hp] at hp';obtain rfl:=Option.some.inj hp';exact g4) g5,g5.touch l.both.hst (l.both.prog i q p hq hp)⟩
theorem LawC.runD (l:LawC w W B x node h0 d0 hb db va vm h d ps sA sD mA mD cA cD) {i:Nat} {q:PartM} (hq:ps[i]? = some q) {p:TableP.Part} (hp:x.parts[i]? = some p) (hal:SndP.Allowed x.plain) (hi:i≤255) (hn255:x.parts.length≤255) (hnode:node≤255) (hbu:0≤p.budget∧p.budget≤9223372036854775807) (round:Nat) (A:Option Addr) (n cap:Nat) (ops:List OpC) (hl:ops.length=n) (hn:n≤100000) (ho:OpsAt w A ops) (N:Nat) (hlow:HeaP.MonLow N mD) (hN:N + n≤900000) :
 Calls Tryz.prog 14 #[x.value,.int .i64 (i:Nat),q.mv,docV d0,.int .u32 (round:Nat),.slice A n cap] W (fun e w'=>∃ v ys d',e = .returned (.tuple #[v,.int .u8 ((ApeP.runG (ApeP.opT x.plain (node:Int) i RepP.new) (x.parts.map sayOf) node i round (ops.map OpC.plain) p.budget ⟨q.memD,sD,mD,cD⟩).did:Nat),.int .i64 (p.budget - (ApeP.runG (ApeP.opT x.plain (node:Int) i RepP.new) (x.parts.map sayOf) node i round (ops.map OpC.plain) p.budget ⟨q.memD,sD,mD,cD⟩).left)])∧OutD w' W.heap.size v ys∧ys.map ResC.plain=(ApeP.runG (ApeP.opT x.plain (node:Int) i RepP.new) (x.parts.map sayOf) node i round (ops.map OpC.plain) p.budget ⟨q.memD,sD,mD,cD⟩).res∧LawC w w' B x node h0 d0 hb db va vm h d' (ps.set i { q with memD:=(ApeP.runG (ApeP.opT x.plain (node:Int) i RepP.new) (x.parts.map sayOf) node i round (ops.map OpC.plain) p.budget ⟨q.memD,sD,mD,cD⟩).st.mem }) sA (ApeP.runG (ApeP.opT x.plain (node:Int) i RepP.new) (x.parts.map sayOf) node i round (ops.map OpC.plain) p.budget ⟨q.memD,sD,mD,cD⟩).st.ports mA (ApeP.runG (ApeP.opT x.plain (node:Int) i RepP.new) (x.parts.map sayOf) node i round (ops.map OpC.plain) p.budget ⟨q.memD,sD,mD,cD⟩).st.mon cA (ApeP.runG (ApeP.opT x.plain (node:Int) i RepP.new) (x.parts.map sayOf) node i round (ops.map OpC.plain) p.budget ⟨q.memD,sD,mD,cD⟩).st.cmd∧TouchD B W w'∧HeaP.MonLow (N + n) (ApeP.runG (ApeP.opT x.plain (node:Int) i RepP.new) (x.parts.map sayOf) node i round (ops.map OpC.plain) p.budget ⟨q.memD,sD,mD,cD⟩).st.mon):=by
 have h1:=rrun_any (s:=(⟨q.memD,sD,mD,cD⟩:ApeP.AS)) l.both.doc (l.both.mems i q hq) l.both.leB hal hi hn255 hnode zD5 p hp p.budget rfl hbu round A n cap ops hl hn ho N hlow hN
 rw [l.dv] at h1
 refine h1.mono ?_
 rintro e w' ⟨v,ys,d',rfl,g1,g2,g3,g4,g5,g6⟩
 exact ⟨v,ys,d',rfl,g1,g2,l.ranD hq g3 g4 g5,g5.touch l.both.doc (l.both.mems i q hq),g6⟩
theorem LawC.imgA (l:LawC w W B x node h0 d0 hb db va vm h d ps sA sD mA mD cA cD) (hal:SndP.Allowed x.plain):Calls Tryz.prog 19 #[.pointer (some ⟨h0.x.a,0,none⟩)] W (fun e w'=>∃ A cap ys,e = .returned (.slice A ys.length cap)∧MsgsIn w' A ys∧ys.map MsgC.plain=PorP.imgP x.plain (fun p=>!false || p.out) sA x.plain.ports.length∧Below W.heap.size W w'):=by
 have h1:=zJ4 W B x.plain h.x l.both.hst.por hal.ports
 unfold pv at h1
 rw [l.hEq.1] at h1
 refine h1.mono ?_
 rintro e w' ⟨A,n,cap,ys,rfl,q1,q2,q3,-,q5⟩
 rw [image_st h.x.es x.plain l.both.hst.por.len,l.both.hst.st] at q3
 obtain ⟨A',cap',e1,-,e2⟩:=q2.reads
 subst q1
 injection e1 with e1 e3 e4
 subst e1 e4
 exact ⟨A,cap,ys,rfl,e2,q3,q5⟩
theorem LawC.imgD (l:LawC w W B x node h0 d0 hb db va vm h d ps sA sD mA mD cA cD) (hal:SndP.Allowed x.plain):Calls Tryz.prog 20 #[.pointer (some ⟨d0.ra,0,none⟩),.bool false] W (fun e w'=>∃ A cap ys,e = .returned (.slice A ys.length cap)∧MsgsIn w' A ys∧ys.map MsgC.plain=PorP.imgP x.plain (PorP.shown x.plain (node:Int) false) sD x.plain.ports.length∧Below W.heap.size W w'):=by
 have h1:=zK1 w W B x (node:Int) d.ra d.rg d.es l.both.doc.por hal false
 unfold rpv at h1
 rw [l.both.doc.st,l.dEq.1] at h1
 refine h1.mono ?_
 rintro e w' ⟨v,rfl,ys,hY⟩
 obtain ⟨A,cap,rfl,-,h4⟩:=MsgsIn.own hY.row (fun y hy=>((hY.each y hy).ok).1)
 exact ⟨A,cap,ys,rfl,h4,hY.plain,hY.bel⟩
theorem LawC.allAt {ga na ca:Nat} (l:LawC w W B x node h0 d0 hb db (.slice (some ⟨ga,0,none⟩) na ca) vm h d ps sA sD mA mD cA cD) {i:Nat} {q:PartM} (hq:ps[i]? = some q):W.cell? ⟨ga,i,none⟩=some (.pointer (some ⟨q.pb,0,none⟩)):=by
 have hil:=(List.getElem?_eq_some_iff.1 hq).1
 obtain ⟨A,c,e,-⟩:=za6 l.all
 injection e with e1 e2 e3
 subst e2
 rw [l.all.cellAt i (by omega),List.getElem?_map,hq];rfl
theorem LawC.memAt {gm nm cm:Nat} (l:LawC w W B x node h0 d0 hb db va (.slice (some ⟨gm,0,none⟩) nm cm) h d ps sA sD mA mD cA cD) {i:Nat} {q:PartM} (hq:ps[i]? = some q):W.cell? ⟨gm,i,none⟩=some q.mv:=by
 have hil:=(List.getElem?_eq_some_iff.1 hq).1
 obtain ⟨A,c,e,-⟩:=za6 l.mem
 injection e with e1 e2 e3
 subst e2
 rw [l.mem.cellAt i (by omega),List.getElem?_map,hq];rfl
theorem MemR.win {mvA:Option Addr} {n c:Nat} {l:List Nat} (h:MemR W B (.slice mvA n c) l):WIn W mvA l∧l.length=n:=by
 obtain ⟨A,cap,e,h1⟩:=zr0 h.row rfl
 injection e with e1 e2 e3
 subst e1 e2
 exact ⟨h1,rfl⟩
theorem LawC.drew33 (l:LawC w W B x node h0 d0 hb db va vm h d ps sA sD mA mD cA cD):LawC w W.drew B x node h0 d0 hb db va vm h d ps sA sD mA mD cA cD:=l.below (Below.refl _ _).drew
theorem LawC.wLeB (l:LawC w W B x node h0 d0 hb db va vm h d ps sA sD mA mD cA cD):w.heap.size≤B:=by
 have h1:=l.low
 rw [zb7] at h1
 omega
theorem LawC.sealA (l:LawC w W B x node h0 d0 hb db va vm h d ps sA sD mA mD cA cD):Calls Tryz.prog 22 #[.pointer (some ⟨h0.mb,0,none⟩)] W (fun e w'=>∃ vr,e = .returned vr∧w'.ownsRow B 137 5 vr mA.out.length (recsVals mA.out)∧RMem w' B d0.rm node d.vs d.vl d.vw d.vo x.parts mD∧w'.heap[hb]? = some (.cells (hostCells h0) 36 (0,0))∧w'.heap[db]? = some (.cells (docCells d0) 53 (0,0))∧Below w.heap.size w w'∧B≤w'.heap.size):=by
 have h1:=zN4 W B h.mb node _ mA h.vp h.vr l.both.hst.mon
 rw [l.hEq.2.2.1] at h1
 refine h1.mono ?_
 rintro e w' ⟨rfl,g1,-,ha⟩
 have hmb:HF h h0.mb:=by rw [← l.hEq.2.2.1];exact .inr (.inl (.inl rfl))
 obtain ⟨e0,cs,t,e1,e2,-⟩:=l.both.hst.fTag hmb
 have hne:∀ {k:Nat} {cs':Array Value} {t':TypeId},W.heap[k]? = some (.cells cs' t' (0,0))→¬ Tag16 t'→¬ k=h0.mb:=fun hk ht e=>by
  subst e
  rw [hk] at e1
  simp only [Option.some.injEq,Obj.cells.injEq] at e1
  obtain ⟨-,rfl,-⟩:=e1
  exact ht e2
 have hbB:Below B W w':=ha.below l.both.leB fun k hk=>by rw [hk];exact e0
 refine ⟨_,rfl,g1,?_,(ha.block _ (lt_of_block l.hbx) (hne l.hbx zl7)).trans l.hbx,(ha.block _ (lt_of_block l.dbx) (hne l.dbx (by unfold Tag16;decide))).trans l.dbx,(l.boxB hbB).below,Nat.le_trans l.both.leB ha.size⟩
 have hm:=l.both.doc.mon
 rw [l.dEq.2.2.1] at hm
 refine hm.apart ha (fun k hk e=>?_) (fun k hk=>?_)
 ·subst e
  exact l.both.off _ hmb (.inr (.inl (by rw [l.dEq.2.2.1];exact hk)))
 ·subst hk
  refine ⟨e0,zf3 e1 ?_⟩
  rintro rfl
  revert e2;unfold Tag16;decide
end
theorem zr2 {w W:World} {B r node:Nat} {vs vl vw vo vr:Value} {parts:List TableP.Part} {m:HeaP.Mon} (hr:W.ownsRow B 137 5 vr m.out.length (recsVals m.out)) (hm:RMem W B r node vs vl vw vo parts m) (hb:Below w.heap.size w W) (hw:w.heap.size≤B) (hB:B≤W.heap.size):Calls Tryz.prog 23 #[.pointer (some ⟨r,0,none⟩)] W (fun e w'=>∃ A c A2 c2,vr = .slice A m.out.length c∧e = .returned (.slice A2 m.out.length c2)∧RecsIn w' A m.out∧RecsIn w' A2 m.out∧Below w.heap.size w w'∧∀ (k:Nat) (cs:Array Value) (t:TypeId),W.heap[k]? = some (.cells cs t (0,0))→t≠105→w'.heap[k]? = some (.cells cs t (0,0))):=by
 refine (zC6 W B r node vs vl vw vo parts m hm).mono ?_
 rintro e w' ⟨rfl,g1,-,ha⟩
 obtain ⟨A,c,rfl,-,h1⟩:=RecsIn.own (za3 hr ha (fun k hk e=>by subst e;exact zb2 hr hm.hd (by decide) _ hk rfl))
 obtain ⟨A2,c2,rfl,-,h2⟩:=RecsIn.own g1
 refine ⟨A,c,A2,c2,rfl,rfl,h1,h2,hb.trans ((ha.below hB fun k hk=>by rw [hk];exact hm.base).mono hw),fun k cs t hk ht=>(ha.block k (lt_of_block hk) (fun e=>?_)).trans hk⟩
 subst e
 exact za5 hk hm.hd ht
open Go.RowKit
set_option maxRecDepth 100000
namespace ApeP
open TableP
theorem res_le {op:OpF} {rec:List (List Nat)} {node part round:Nat}:∀ (ops:List Op) (left:Int) (s:AS),(runG op rec node part round ops left s).res.length≤ops.length
 | [],_,_=>Nat.le_refl _
 | o :: ops,left,s=>by
  unfold runG
  split
  ·simp
  ·have:=res_le (op:=op) (rec:=rec) (node:=node) (part:=part) (round:=round) ops (oneG op rec node part round left s o).left (oneG op rec node part round left s o).st
   unfold Got.more
   simp only [List.length_cons]
   omega
end ApeP
def S31 (hb db ga gm kk pb ha da:Nat) (ch cd:Array Value) (mv:Value) (cc:RepP.Cmd) (W:World):Prop:=W.heap[hb]? = some (.cells ch 36 (0,0))∧W.heap[db]? = some (.cells cd 53 (0,0))∧W.cell? ⟨ga,kk,none⟩=some (.pointer (some ⟨pb,0,none⟩))∧W.cell? ⟨gm,kk,none⟩=some mv∧W.heap[ha]? = some (.cells (cmdVals cc).toArray 51 (0,0))∧W.heap[da]? = some (.cells (cmdVals cc).toArray 51 (0,0))
section
variable {w W W':World} {B node:Nat} {x:CfgC} {h0 h:HostC} {d0 d:DocC} {hb db:Nat} {va vm:Value} {ps:List PartM} {sA sD:PorP.St} {mA mD:HeaP.Mon} {cA cD:RepP.Cmd}
theorem LawC.s31 {ga na ca gm nm cm:Nat} (l:LawC w W B x node h0 d0 hb db (.slice (some ⟨ga,0,none⟩) na ca) (.slice (some ⟨gm,0,none⟩) nm cm) h d ps sA sD mA mD cA cA) {i:Nat} {q:PartM} (hq:ps[i]? = some q):S31 hb db ga gm i q.pb h0.cb d0.cb #[.pointer (some ⟨h0.x.a,0,none⟩),.pointer (some ⟨h0.tb,0,none⟩),.pointer (some ⟨h0.mb,0,none⟩),.pointer (some ⟨h0.cb,0,none⟩)] #[.pointer (some ⟨d0.ra,0,none⟩),.pointer (some ⟨d0.tb,0,none⟩),.pointer (some ⟨d0.rm,0,none⟩),.pointer (some ⟨d0.cb,0,none⟩)] q.mv cA W:=by
 refine ⟨l.hbx,l.dbx,l.allAt hq,l.memAt hq,?_,?_⟩
 ·rw [← l.hEq.2.2.2];exact l.both.hst.cmd
 ·rw [← l.dEq.2.2.2];exact l.both.doc.cmd
theorem LawC.memA (l:LawC w W B x node h0 d0 hb db va vm h d ps sA sD mA mD cA cD) {i:Nat} {q:PartM} (hq:ps[i]? = some q) {p:TableP.Part} (hp:x.parts[i]? = some p):Calls Tryz.prog 17 #[.pointer (some ⟨q.pb,0,none⟩)] W (fun e w'=>∃ A cap,e = .returned (.slice A q.memA.length cap)∧WIn w' A q.memA∧Below W.heap.size W w'):=by
 refine (zK7 (l.both.prog i q p hq hp)).mono ?_
 rintro e w' ⟨v,rfl,g1,g2⟩
 obtain ⟨A,cap,rfl,h1⟩:=zr0 g1 rfl
 exact ⟨A,cap,rfl,h1,g2⟩
theorem LawC.wordsD (l:LawC w W B x node h0 d0 hb db va vm h d ps sA sD mA mD cA cD) {i:Nat} {q:PartM} (hq:ps[i]? = some q) {mvA:Option Addr} {n c:Nat} (hmv:q.mv = .slice mvA n c) (he:q.memD=q.memA) {A1:Option Addr} {c1:Nat} (hw:WIn W A1 q.memA):Calls Tryz.prog 16 #[.slice A1 q.memA.length c1,.slice mvA n c] W (fun e w'=>e = .returned (.bool true)∧Below W.heap.size W w'):=by
 have hm:=l.both.mems i q hq
 rw [hmv,he] at hm
 obtain ⟨h1,h2⟩:=hm.win
 have h3:=hm.most
 refine (zv5 A1 _ c1 q.memA rfl mvA n c q.memA h2 (by omega) W hw h1).mono ?_
 rintro e w' ⟨rfl,g⟩
 exact ⟨by rw [decide_eq_true rfl],g⟩
theorem LawC.mostA (l:LawC w W B x node h0 d0 hb db va vm h d ps sA sD mA mD cA cD):∀ s∈sA,s.msgs.length≤4:=by
 intro s hs
 rw [← l.both.hst.st] at hs
 obtain ⟨e,he,rfl⟩:=List.mem_map.1 hs
 have h1:=(l.both.hst.por.els.ok e he).1
 simpa [El.ps] using h1
end
end Go.Proofs.YtfgpfmhjnccccaaGreatDoor
