import Derived.Test.YtfgpfmhjnccccaaGreatDoorSa02
import Derived.Test.YtfgpfmhjnccccaaGreatDoorSa01
namespace Go.Proofs.YtfgpfmhjnccccaaGreatDoor
open Go.RowKit
structure El where
 pre:List Value
 v:Value
 msgs:List Txt
 age:Nat
def elVals (e:El):List Value:=e.pre ++ [e.v,.int .i64 (e.age:Nat)]
def El.ps (e:El):PorP.PS:=⟨e.msgs.map Prod.snd,e.age⟩
def elSt (es:List El):PorP.St:=es.map El.ps
def EF (g:Nat) (es:List El) (k:Nat):Prop:=k=g∨∃ e∈es,e.v.ownBlock=some k
def ED (es:List El) (k:Nat):Prop:=∃ e∈es,∃ x∈e.msgs,x.1.ownBlock=some k
abbrev LTx (W:World) (B:Nat) (v:Value) (l:List Txt):Prop:=LIn (α:=Txt) 89 1 txtVals id W B v l
structure Els (m:Nat) (t:TypeId) (z:Bool) (W:World) (B g:Nat) (es:List El):Prop where
 row:W.heap[g]? = some (.cells (itemsV elVals es).toArray t (0,0))
 pres:∀ e∈es,e.pre.length=m
 each:∀ e∈es,LTx W B e.v e.msgs
 apart:∀ (i j:Nat) (e e':El),i≠j→es[i]? = some e→es[j]? = some e'→∀ q,e.v.ownBlock=some q→e'.v.ownBlock≠some q
 own:z=true→∀ e∈es,W.ownsRow B 89 1 e.v e.msgs.length (itemsV txtVals e.msgs)
 base:B≤g
 ok:∀ e∈es,e.msgs.length≤4∧(∀ x∈e.msgs,x.2.length≤16)∧e.age≤9
theorem zg4 {α:Type} {vals:α→List Value} {size:Nat}:∀ (l:List α),(∀ x∈l,(vals x).length=size)→∀ (i:Nat) (x:α),l[i]? = some x→∀ j,j < size→(itemsV vals l)[i * size + j]? = (vals x)[j]?
 | [],_,i,x,h=>by simp at h
 | y :: l,hs,0,x,h=>by
  simp at h
  subst h
  intro j hj
  simp only [itemsV,List.flatMap_cons,Nat.zero_mul,Nat.zero_add]
  rw [List.getElem?_append_left (by rw [hs y (by simp)];exact hj)]
 | y :: l,hs,i + 1,x,h=>by
  intro j hj
  have h1:=zg4 l (fun x hx=>hs x (List.mem_cons_of_mem _ hx)) i x (by simpa using h) j hj
  have e1:(i + 1) * size + j=size + (i * size + j):=by rw [Nat.succ_mul];omega
  rw [e1,← h1]
  simp only [itemsV,List.flatMap_cons]
  rw [List.getElem?_append_right (by rw [hs y (by simp)];omega),hs y (by simp),Nat.add_sub_cancel_left]
theorem zg5 {α:Type} {vals:α→List Value} {size:Nat}:∀ (l:List α),(∀ x∈l,(vals x).length=size)→∀ (i:Nat) (x y:α) (j:Nat) (u:Value),l[i]? = some x→j < size→vals y=(vals x).set j u→(itemsV vals l).set (i * size + j) u=itemsV vals (l.set i y)
 | [],_,i,x,y,j,u,h,_,_=>by simp at h
 | a :: l,hs,0,x,y,j,u,h,hj,hy=>by
  simp at h
  subst h
  simp only [itemsV,List.flatMap_cons,Nat.zero_mul,Nat.zero_add,List.set_cons_zero]
  rw [List.set_append_left _ _ (by rw [hs a (by simp)];exact hj),hy]
 | a :: l,hs,i + 1,x,y,j,u,h,hj,hy=>by
  have h1:=zg5 l (fun x hx=>hs x (List.mem_cons_of_mem _ hx)) i x y j u (by simpa using h) hj hy
  have e1:(i + 1) * size + j=size + (i * size + j):=by rw [Nat.succ_mul];omega
  simp only [itemsV,List.flatMap_cons,List.set_cons_succ] at h1 ⊢
  rw [e1,List.set_append_right _ _ (by rw [hs a (by simp)];omega),hs a (by simp),Nat.add_sub_cancel_left,h1]
section
variable {m:Nat} {t:TypeId} {z:Bool} {W W' W1 W2:World} {B g i:Nat} {es:List El} {e:El}
theorem Els.size (h:Els m t z W B g es):∀ e∈es,(elVals e).length=m + 2:=fun e he=>by simp [elVals,h.pres e he]
theorem Els.lt (h:Els m t z W B g es):g < W.heap.size:=lt_of_block h.row
theorem Els.cell (h:Els m t z W B g es) (hi:es[i]? = some e) {j:Nat} {u:Value} (hu:(elVals e)[j]? = some u):W.cell? ⟨g,i * (m + 2) + j,none⟩=some u:=by
 have hj:j < m + 2:=by rw [← h.size e (List.mem_of_getElem? hi)];exact (List.getElem?_eq_some_iff.1 hu).1
 refine za0 h.row _ ?_
 rw [List.getElem?_toArray,zg4 es h.size i e hi j hj]
 exact hu
theorem Els.cellV (h:Els m t z W B g es) (hi:es[i]? = some e):W.cell? ⟨g,i * (m + 2) + m,none⟩=some e.v:=h.cell hi (by
 have:=h.pres e (List.mem_of_getElem? hi)
 rw [elVals,List.getElem?_append_right (by omega),this,Nat.sub_self];rfl)
theorem Els.cellA (h:Els m t z W B g es) (hi:es[i]? = some e):W.cell? ⟨g,i * (m + 2) + (m + 1),none⟩=some (.int .i64 (e.age:Nat)):=h.cell hi (by
 have:=h.pres e (List.mem_of_getElem? hi)
 rw [elVals,List.getElem?_append_right (by omega),this,Nat.add_sub_cancel_left];rfl)
theorem Els.free (h:Els m t z W B g es) (o:Nat):W.frozen? ⟨g,o,none⟩=false:=za2 h.row o
theorem Els.away {F:Nat→Prop} (h:Els m t z W B g es) (ha:Apart F W W') (hF:∀ k,EF g es k→¬ F k) (hD:∀ k,ED es k→¬ F k):Els m t z W' B g es:=
 ⟨(ha.block g h.lt (hF g (.inl rfl))).trans h.row,h.pres,fun e he=>(h.each e he).apart ha (fun q hq=>hF q (.inr ⟨e,he,hq⟩)) (fun x hx q hq=>hD q ⟨e,he,x,hx,hq⟩),h.apart,
  fun hz e he=>za3 (h.own hz e he) ha (fun q hq=>hF q (.inr ⟨e,he,hq⟩)),h.base,h.ok⟩
theorem Els.below (h:Els m t z W B g es) (hb:Below W.heap.size W W'):Els m t z W' B g es:=h.away (F:=fun _=>False) (Apart.of_below' hb) (fun _ _ h=>h) (fun _ _ h=>h)
theorem Els.fLt (h:Els m t z W B g es) {k:Nat} (hk:EF g es k):B≤k∧k < W.heap.size:=by
 rcases hk with rfl | ⟨e,he,hk⟩
 ·exact ⟨h.base,h.lt⟩
 ·exact (h.each e he).seg.lt k hk
theorem Els.fTag (h:Els m t z W B g es) {k:Nat} (hk:EF g es k):∃ cs t',W.heap[k]? = some (.cells cs t' (0,0))∧(t'=t∨t'=89):=by
 rcases hk with rfl | ⟨e,he,hk⟩
 ·exact ⟨_,_,h.row,.inl rfl⟩
 ·obtain ⟨cur,hc⟩:=(h.each e he).seg.block k hk
  exact ⟨_,_,hc,.inr rfl⟩
theorem Els.dTag (h:Els m t z W B g es) {k:Nat} (hk:ED es k):∃ cs,W.heap[k]? = some (.cells cs 5 (0,0)):=by
 obtain ⟨e,he,x,hx,hk⟩:=hk
 exact (Seg.of_own ((h.each e he).rows x hx)).block k hk
theorem Els.fOff (h:Els m t z W B g es) {k:Nat} {cs:Array Value} {t':TypeId} (hk:W.heap[k]? = some (.cells cs t' (0,0))) (h1:t'≠t) (h2:t'≠89):¬ EF g es k:=fun hf=>by
 obtain ⟨cs',t2,e1,e2⟩:=h.fTag hf
 rw [hk] at e1
 simp only [Option.some.injEq,Obj.cells.injEq] at e1
 obtain ⟨-,rfl,-⟩:=e1
 rcases e2 with e2 | e2
 ·exact h1 e2
 ·exact h2 e2
theorem zL8 {es:List El} {i:Nat} {e e':El} (hi:es[i]? = some e) (hp:e'.pre=e.pre):(es.set i e').map El.pre=es.map El.pre:=by
 rw [List.map_set,hp]
 apply List.ext_getElem?
 intro j
 by_cases hj:i=j
 ·subst hj
  have:=(List.getElem?_eq_some_iff.1 hi).1
  rw [List.getElem?_set_self (by simpa using this),List.getElem?_map,hi];rfl
 ·rw [List.getElem?_set_ne hj]
structure Goes (g:Nat) (w w':World) (es es':List El):Prop where
 apart:Apart (EF g es) w w'
 f:∀ k,EF g es' k→EF g es k∨w.heap.size≤k
 d:∀ k,ED es' k→ED es k∨w.heap.size≤k
 pre:es'.map El.pre=es.map El.pre
theorem Goes.of_below {w w':World} (h:Below w.heap.size w w') (g:Nat) (es:List El):Goes g w w' es es:=⟨Apart.of_below' h,fun _ h=>.inl h,fun _ h=>.inl h,rfl⟩
theorem Goes.trans {a b c:World} {x y u:List El} (h:Goes g a b x y) (k:Goes g b c y u):Goes g a c x u:=by
 have hs:=h.apart.size
 refine ⟨h.apart.trans k.apart h.f,fun i hi=>?_,fun i hi=>?_,k.pre.trans h.pre⟩
 ·rcases k.f i hi with h1 | h1
  ·exact h.f i h1
  ·exact .inr (by omega)
 ·rcases k.d i hi with h1 | h1
  ·exact h.d i h1
  ·exact .inr (by omega)
theorem Goes.below {w w':World} {es':List El} (h:Goes g w w' es es') (he:Els m t z w B g es) {B':Nat} (hB':B'≤B) (hB:B'≤w.heap.size):Below B' w w':=Apart.below h.apart hB fun _ hk=>Nat.le_trans hB' (he.fLt hk).1
theorem Els.upd (h:Els m t z W B g es) (ht:t≠89) (ht8:t≠5) (hi:es[i]? = some e) {e':El} (hp:e'.pre=e.pre) (ha:Apart (fun q=>e.v.ownBlock=some q) W W1)
 (ha2:Apart (fun q=>q=g) W1 W2) (hrow:W2.heap[g]? = some (.cells (itemsV elVals (es.set i e')).toArray t (0,0)))
 (hl:LTx W1 B e'.v e'.msgs) (ho:z=true→W1.ownsRow B 89 1 e'.v e'.msgs.length (itemsV txtVals e'.msgs)) (hv:∀ q,e'.v.ownBlock=some q→e.v.ownBlock=some q∨W.heap.size≤q)
 (hd:∀ x∈e'.msgs,x∈e.msgs∨∀ q,x.1.ownBlock=some q→W.heap.size≤q) (hok:e'.msgs.length≤4∧(∀ x∈e'.msgs,x.2.length≤16)∧e'.age≤9) :
 Els m t z W2 B g (es.set i e')∧Goes g W W2 es (es.set i e'):=by
 have hil:=(List.getElem?_eq_some_iff.1 hi).1
 have hem:=List.mem_of_getElem? hi
 have hg1:W1.heap[g]? = some (.cells (itemsV elVals es).toArray t (0,0)):=(ha.block g h.lt (fun e1=>(h.each e hem).seg.off h.row (fun e2=>ht e2.symm) g e1 rfl)).trans h.row
 have hmem:∀ y∈es.set i e',y=e'∨∃ j,j≠i∧es[j]? = some y:=fun y hy=>by
  obtain ⟨j,hj⟩:=List.getElem?_of_mem hy
  by_cases hji:j=i
  ·subst hji
   rw [List.getElem?_set_self hil] at hj
   exact .inl (Option.some.inj hj).symm
  ·rw [List.getElem?_set_ne (Ne.symm hji)] at hj
   exact .inr ⟨j,hji,hj⟩
 have hoff:∀ j y,j≠i→es[j]? = some y→∀ q,y.v.ownBlock=some q→e.v.ownBlock≠some q:=fun j y hj hy q hq=>h.apart j i y e hj hy hi q hq
 have h1:∀ y∈es.set i e',LTx W1 B y.v y.msgs∧(z=true→W1.ownsRow B 89 1 y.v y.msgs.length (itemsV txtVals y.msgs)):=fun y hy=>by
  rcases hmem y hy with rfl | ⟨j,hj,hy⟩
  ·exact ⟨hl,ho⟩
  ·have hy':=List.mem_of_getElem? hy
   exact ⟨(h.each y hy').apart ha (fun q hq=>hoff j y hj hy q hq) (fun x hx q hq=>LIn.bytes_off ((h.each y hy').rows x hx) (h.each e hem).seg (by decide) hq),fun hz=>za3 (h.own hz y hy') ha (fun q hq=>hoff j y hj hy q hq)⟩
 have h2:∀ y∈es.set i e',LTx W2 B y.v y.msgs∧(z=true→W2.ownsRow B 89 1 y.v y.msgs.length (itemsV txtVals y.msgs)):=fun y hy=>by
  obtain ⟨q1,q2⟩:=h1 y hy
  have hne:∀ q,y.v.ownBlock=some q→¬ q=g:=fun q hq=>q1.seg.off hg1 (fun e2=>ht e2.symm) q hq
  exact ⟨q1.apart ha2 hne (fun x hx q hq=>zb2 (q1.rows x hx) hg1 (fun e2=>ht8 e2.symm) q hq),fun hz=>za3 (q2 hz) ha2 hne⟩
 refine ⟨⟨hrow,fun y hy=>?_,fun y hy=>(h2 y hy).1,fun a b x y hab hx hy q hq=>?_,fun hz y hy=>(h2 y hy).2 hz,h.base,fun y hy=>?_⟩,⟨?_,fun k hk=>?_,fun k hk=>?_,zL8 hi hp⟩⟩
 ·rcases hmem y hy with rfl | ⟨j,hj,hy⟩
  ·rw [hp];exact h.pres e hem
  ·exact h.pres y (List.mem_of_getElem? hy)
 ·have hsep:∀ (j:Nat) (u:El),j≠i→es[j]? = some u→∀ q,u.v.ownBlock=some q→e'.v.ownBlock≠some q:=fun j u hj hu q hq e2=>by
   rcases hv q e2 with h3 | h3
   ·exact hoff j u hj hu q hq h3
   ·have:=((h.each u (List.mem_of_getElem? hu)).seg.lt q hq).2;omega
  by_cases hai:a=i
  ·subst hai
   rw [List.getElem?_set_self hil] at hx
   obtain rfl:=Option.some.inj hx
   rw [List.getElem?_set_ne hab] at hy
   exact fun e2=>hsep b y (Ne.symm hab) hy q e2 hq
  ·rw [List.getElem?_set_ne (Ne.symm hai)] at hx
   by_cases hbi:b=i
   ·subst hbi
    rw [List.getElem?_set_self hil] at hy
    obtain rfl:=Option.some.inj hy
    exact hsep a x hai hx q hq
   ·rw [List.getElem?_set_ne (Ne.symm hbi)] at hy
    exact h.apart a b x y hab hx hy q hq
 ·rcases hmem y hy with rfl | ⟨j,hj,hy⟩
  ·exact hok
  ·exact h.ok y (List.mem_of_getElem? hy)
 ·exact (ha.mono fun k _ hk=>.inr ⟨e,hem,hk⟩).trans ha2 fun k hk=>.inl (.inl hk)
 ·rcases hk with rfl | ⟨y,hy,hk⟩
  ·exact .inl (.inl rfl)
  ·rcases hmem y hy with rfl | ⟨j,hj,hy⟩
   ·rcases hv k hk with h3 | h3
    ·exact .inl (.inr ⟨e,hem,h3⟩)
    ·exact .inr h3
   ·exact .inl (.inr ⟨y,List.mem_of_getElem? hy,hk⟩)
 ·obtain ⟨y,hy,x,hx,hk⟩:=hk
  rcases hmem y hy with rfl | ⟨j,hj,hy⟩
  ·rcases hd x hx with h3 | h3
   ·exact .inl ⟨e,hem,x,h3,hk⟩
   ·exact .inr (h3 k hk)
  ·exact .inl ⟨y,List.mem_of_getElem? hy,x,hx,hk⟩
theorem zD7 (hrow:W.heap[g]? = some (.cells (itemsV elVals es).toArray t (0,0))) (hs:∀ e∈es,e.pre.length=m) (hi:es[i]? = some e) (v:Value) (l:List Txt):(W.setCell ⟨g,i * (m + 2) + m,none⟩ v).heap[g]? = some (.cells (itemsV elVals (es.set i ⟨e.pre,v,l,e.age⟩)).toArray t (0,0)):=by
 have h1:=heap_setCell_same W g (i * (m + 2) + m) _ t v hrow
 rw [h1,List.setIfInBounds_toArray,zg5 es (fun y hy=>by simp [elVals,hs y hy]) i e ⟨e.pre,v,l,e.age⟩ m v hi (by omega)]
 have:=hs e (List.mem_of_getElem? hi)
 simp only [elVals]
 rw [List.set_append_right _ _ (by omega),this,Nat.sub_self];rfl
theorem els_rowA (hrow:W.heap[g]? = some (.cells (itemsV elVals es).toArray t (0,0))) (hs:∀ e∈es,e.pre.length=m) (hi:es[i]? = some e) (a:Nat):(W.setCell ⟨g,i * (m + 2) + (m + 1),none⟩ (.int .i64 (a:Nat))).heap[g]? = some (.cells (itemsV elVals (es.set i ⟨e.pre,e.v,e.msgs,a⟩)).toArray t (0,0)):=by
 have h1:=heap_setCell_same W g (i * (m + 2) + (m + 1)) _ t (.int .i64 (a:Nat)) hrow
 rw [h1,List.setIfInBounds_toArray,zg5 es (fun y hy=>by simp [elVals,hs y hy]) i e ⟨e.pre,e.v,e.msgs,a⟩ (m + 1) (.int .i64 (a:Nat)) hi (by omega)]
 have:=hs e (List.mem_of_getElem? hi)
 simp only [elVals]
 rw [List.set_append_right _ _ (by omega),this,Nat.add_sub_cancel_left];rfl
theorem Els.setAge (h:Els m t z W B g es) (ht:t≠89) (ht8:t≠5) (hi:es[i]? = some e) (a:Nat) (ha:a≤9) :
 Els m t z (W.setCell ⟨g,i * (m + 2) + (m + 1),none⟩ (.int .i64 (a:Nat))) B g (es.set i ⟨e.pre,e.v,e.msgs,a⟩)∧Goes g W (W.setCell ⟨g,i * (m + 2) + (m + 1),none⟩ (.int .i64 (a:Nat))) es (es.set i ⟨e.pre,e.v,e.msgs,a⟩):=by
 have hem:=List.mem_of_getElem? hi
 have hok:=h.ok e hem
 exact h.upd ht ht8 hi (e':=⟨e.pre,e.v,e.msgs,a⟩) rfl (W1:=W) (Apart.refl _ _) ((Apart.refl (fun q=>q=g) W).setCell (p:=⟨g,_,none⟩) (.inl rfl) _) (els_rowA h.row h.pres hi a) (h.each e hem) (fun hz=>h.own hz e hem) (fun _ h=>.inl h) (fun _ h=>.inl h) ⟨hok.1,hok.2.1,ha⟩
theorem Els.setNil (h:Els m t z W B g es) (ht:t≠89) (ht8:t≠5) (hi:es[i]? = some e) :
 Els m t z (W.setCell ⟨g,i * (m + 2) + m,none⟩ (.slice none 0 0)) B g (es.set i ⟨e.pre,.slice none 0 0,[],e.age⟩)∧Goes g W (W.setCell ⟨g,i * (m + 2) + m,none⟩ (.slice none 0 0)) es (es.set i ⟨e.pre,.slice none 0 0,[],e.age⟩):=by
 have hem:=List.mem_of_getElem? hi
 have hok:=h.ok e hem
 exact h.upd ht ht8 hi (e':=⟨e.pre,.slice none 0 0,[],e.age⟩) rfl (W1:=W) (Apart.refl _ _) ((Apart.refl (fun q=>q=g) W).setCell (p:=⟨g,_,none⟩) (.inl rfl) _) (zD7 h.row h.pres hi _ _) (LIn.nil _ _) (fun _=>World.ownsRow_nil _ _ _ _) (fun _ h=>by simp [Value.ownBlock] at h) (fun _ h=>by cases h) ⟨by simp,by simp,hok.2.2⟩
theorem Els.setV (h:Els m t z W B g es) (ht:t≠89) (ht8:t≠5) (hi:es[i]? = some e) {v:Value} {l:List Txt} (ha:Apart (fun q=>e.v.ownBlock=some q) W W1)
 (hl:LTx W1 B v l) (ho:z=true→W1.ownsRow B 89 1 v l.length (itemsV txtVals l)) (hv:∀ q,v.ownBlock=some q→e.v.ownBlock=some q∨W.heap.size≤q)
 (hd:∀ x∈l,x∈e.msgs∨∀ q,x.1.ownBlock=some q→W.heap.size≤q) (hok:l.length≤4∧(∀ x∈l,x.2.length≤16)) :
 Els m t z (W1.setCell ⟨g,i * (m + 2) + m,none⟩ v) B g (es.set i ⟨e.pre,v,l,e.age⟩)∧Goes g W (W1.setCell ⟨g,i * (m + 2) + m,none⟩ v) es (es.set i ⟨e.pre,v,l,e.age⟩):=by
 have hem:=List.mem_of_getElem? hi
 have hg1:W1.heap[g]? = some (.cells (itemsV elVals es).toArray t (0,0)):=(ha.block g h.lt (fun e1=>(h.each e hem).seg.off h.row (fun e2=>ht e2.symm) g e1 rfl)).trans h.row
 exact h.upd ht ht8 hi (e':=⟨e.pre,v,l,e.age⟩) rfl ha ((Apart.refl (fun q=>q=g) W1).setCell (p:=⟨g,_,none⟩) (.inl rfl) _) (zD7 hg1 h.pres hi v l) hl ho hv hd ⟨hok.1,hok.2,(h.ok e hem).2.2⟩
theorem Els.more (h:Els m t z W B g es) (ht:t≠89) (ht8:t≠5) (hi:es[i]? = some e) {v ve:Value} {l:List UInt8} (ha:Apart (fun q=>e.v.ownBlock=some q) W W1)
 (he:W1.ownsRow B 5 1 ve l.length (bytesV l)) (hs:Seg W1 B 89 1 v (e.msgs.length + 1) (itemsV txtVals e.msgs ++ [ve])) (ho:z=true→W1.ownsRow B 89 1 v (e.msgs.length + 1) (itemsV txtVals e.msgs ++ [ve]))
 (hv:Moved W e.v.ownBlock v.ownBlock) (hd:∀ q,ve.ownBlock=some q→W.heap.size≤q) (h4:e.msgs.length≤3) (h16:l.length≤16) :
 Els m t z (W1.setCell ⟨g,i * (m + 2) + m,none⟩ v) B g (es.set i ⟨e.pre,v,e.msgs ++ [(ve,l)],e.age⟩)∧Goes g W (W1.setCell ⟨g,i * (m + 2) + m,none⟩ v) es (es.set i ⟨e.pre,v,e.msgs ++ [(ve,l)],e.age⟩):=by
 have hem:=List.mem_of_getElem? hi
 have e1:(e.msgs ++ [(ve,l)]).length=e.msgs.length + 1:=by simp
 have e2:itemsV txtVals (e.msgs ++ [(ve,l)])=itemsV txtVals e.msgs ++ [ve]:=by rw [zh0,zk1];rfl
 refine h.setV ht ht8 hi ha ⟨by rw [e1,e2];exact hs,fun x hx=>?_⟩ (fun hz=>by rw [e1,e2];exact ho hz) (fun q hq=>?_) (fun x hx=>?_) ⟨by rw [e1];omega,fun x hx=>?_⟩
 ·rcases List.mem_append.1 hx with hx | hx
  ·exact za3 ((h.each e hem).rows x hx) ha (fun q hq=>LIn.bytes_off ((h.each e hem).rows x hx) (h.each e hem).seg (by decide) hq)
  ·rw [List.mem_singleton.1 hx];exact he
 ·rcases hv with hv | ⟨k,hv,hk⟩
  ·exact .inl (hv ▸ hq)
  ·rw [hv] at hq
   exact .inr (by have:=Option.some.inj hq;omega)
 ·rcases List.mem_append.1 hx with hx | hx
  ·exact .inl hx
  ·rw [List.mem_singleton.1 hx];exact .inr hd
 ·rcases List.mem_append.1 hx with hx | hx
  ·exact (h.ok e hem).2.1 x hx
  ·rw [List.mem_singleton.1 hx];exact h16
end
open Go.RowKit
structure MsgC where
 port:Int
 A:Option Addr
 m:Nat
 cap:Nat
 data:List UInt8
def MsgC.plain (x:MsgC):FrameP.Msg:=⟨x.port,x.data⟩
def MsgC.vals (x:MsgC):List Value:=[.int .i64 x.port,.slice x.A x.m x.cap]
structure MsgOk (W:World) (x:MsgC):Prop where
 len:x.data.length=x.m
 cap_:x.m≤x.cap
 most:x.m≤140737488355328
 bytes:Bytes W W.heap.size x.A x.data
 ports:-9223372036854775808≤x.port∧x.port≤9223372036854775807
theorem MsgOk.below {W W':World} {x:MsgC} (h:MsgOk W x) (hw:Below W.heap.size W W'):MsgOk W' x:=
 ⟨h.len,h.cap_,h.most,(h.bytes.below hw (Nat.le_refl _)).more hw.size,h.ports⟩
structure MsgAt (W:World) (b o:Nat) (x:MsgC):Prop where
 port:W.cell? ⟨b,o,none⟩=some (.int .i64 x.port)
 text:W.cell? ⟨b,o + 1,none⟩=some (.slice x.A x.m x.cap)
 ok:MsgOk W x
theorem MsgAt.below {W W':World} {b o:Nat} {x:MsgC} (h:MsgAt W b o x) (hb:b < W.heap.size) (hw:Below W.heap.size W W'):MsgAt W' b o x:=
 ⟨(hw.cell (by exact hb)).trans h.port,(hw.cell (by exact hb)).trans h.text,h.ok.below hw⟩
def MsgsIn (W:World) (A:Option Addr) (l:List MsgC):Prop:=
 0 < l.length→∃ b off,A=some ⟨b,off,none⟩∧b < W.heap.size∧∀ i x,l[i]? = some x→MsgAt W b (off + i * 2) x
theorem MsgsIn.below {W W':World} {A:Option Addr} {l:List MsgC} (h:MsgsIn W A l) (hw:Below W.heap.size W W'):MsgsIn W' A l:=fun hl=>by
 obtain ⟨b,off,e,hb,hi⟩:=h hl
 exact ⟨b,off,e,Nat.lt_of_lt_of_le hb hw.size,fun i x hx=>(hi i x hx).below hb hw⟩
structure RecAt (W:World) (b o:Nat) (x:FrameP.Rec):Prop where
 round:W.cell? ⟨b,o,none⟩=some (.int .u32 (x.round:Nat))
 node:W.cell? ⟨b,o + 1,none⟩=some (.int .u8 (x.node:Nat))
 part:W.cell? ⟨b,o + 2,none⟩=some (.int .u8 (x.part:Nat))
 kind:W.cell? ⟨b,o + 3,none⟩=some (.int .u8 (x.kind:Nat))
 did:W.cell? ⟨b,o + 4,none⟩=some (.int .u8 (x.did:Nat))
def recVals (x:FrameP.Rec):List Value:=[.int .u32 (x.round:Nat),.int .u8 (x.node:Nat),.int .u8 (x.part:Nat),.int .u8 (x.kind:Nat),.int .u8 (x.did:Nat)]
def RecsIn (W:World) (A:Option Addr) (l:List FrameP.Rec):Prop:=
 0 < l.length→∃ b off,A=some ⟨b,off,none⟩∧b < W.heap.size∧∀ i x,l[i]? = some x→RecAt W b (off + i * 5) x
end Go.Proofs.YtfgpfmhjnccccaaGreatDoor
