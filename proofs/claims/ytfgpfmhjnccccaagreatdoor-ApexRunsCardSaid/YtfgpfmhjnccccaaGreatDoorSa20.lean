import Derived.Laws.Cover1
import Derived.Laws.MakeOwn
import Derived.Test.YtfgpfmhjnccccaaGreatDoorSa19
import Derived.Test.YtfgpfmhjnccccaaGreatDoorSa01
import Derived.Test.YtfgpfmhjnccccaaGreatDoorSa10
namespace Go.Proofs.YtfgpfmhjnccccaaGreatDoor
open Go.RowKit PorP
set_option maxRecDepth 100000
theorem zy8 (k:Nat) (e:El):plainsT k e.msgs=e.ps.msgs.map (msgOf k):=by unfold plainsT El.ps msgOf;rw [List.map_map];rfl
theorem zs4 (c:TableP.Cfg) (es:List El) (hl:es.length=c.ports.length):∀ k,k≤es.length→plainK 0 (es.take k)=imgP c (fun p=>!false || p.out) (elSt es) k
 | 0,_=>by simp [plainK,imgP]
 | k + 1,hk=>by
  have he:es[k]? = some es[k]:=List.getElem?_eq_getElem (by omega)
  have hp:c.ports[k]? = some c.ports[k]:=List.getElem?_eq_getElem (by omega)
  rw [zq3 he,zo7 hp (zf2 he),zs4 c es hl k (by omega),zy8]
  simp
open Go.RowKit PorP
set_option maxRecDepth 100000
def nbE (p:TableP.Port) (N:Int) (tv:Value):El:=⟨portVals p ++ [.int .i64 N,tv],.slice none 0 0,[],0⟩
def zPort:TableP.Port:=⟨0,0,false,0,0,0⟩
theorem zs5 {α:Type} {vals:α→List Value} (x:α) (zs:Array Value) (hx:vals x=zs.toList) (hz:0 < zs.size) (n:Nat):(madeCells zs (n * zs.size)).toList=itemsV vals (List.replicate n x):=by
 have hl:∀ y∈List.replicate n x,(vals y).length=zs.size:=fun y hy=>by rw [List.eq_of_mem_replicate hy,hx];simp
 have hlen:(itemsV vals (List.replicate n x)).length=n * zs.size:=by
  clear hl
  induction n with
  | zero=>simp [itemsV]
  | succ n ih=>
   simp only [itemsV,List.replicate_succ,List.flatMap_cons,List.length_append] at ih ⊢
   rw [ih,hx,Nat.succ_mul];simp;omega
 apply List.ext_getElem
 ·rw [hlen];simp [size_madeCells]
 ·intro j h1 h2
  have hj:j < n * zs.size:=by rw [hlen] at h2;exact h2
  have hd:j / zs.size < n:=Nat.div_lt_of_lt_mul (by rw [Nat.mul_comm];exact hj)
  have hm:j % zs.size < zs.size:=Nat.mod_lt _ hz
  have h3:=zg4 (List.replicate n x) hl (j / zs.size) x (by simp [hd]) (j % zs.size) hm
  have ej:j / zs.size * zs.size + j % zs.size=j:=by rw [Nat.mul_comm];exact Nat.div_add_mod j zs.size
  rw [ej,List.getElem?_eq_getElem h2,hx] at h3
  simp only [madeCells,Array.getElem_toList,Array.getElem_map,Array.getElem_range]
  rw [getElem!_pos zs _ hm]
  have h4:zs.toList[j % zs.size]? = some zs[j % zs.size]:=by simp [hm]
  rw [h4] at h3
  exact (Option.some.inj h3).symm
def es1 (c:TableP.Cfg) (n k:Nat):List El:=(c.ports.take k).map (fun p=>nbE p (nodeOf c p) (.slice none 0 0)) ++ List.replicate (n - k) (nbE zPort 0 (.slice none 0 0))
theorem es1_at (c:TableP.Cfg) {n k:Nat} (hn:c.ports.length=n) (hk:k < n):(es1 c n k)[k]? = some (nbE zPort 0 (.slice none 0 0)):=by
 unfold es1
 rw [List.getElem?_append_right (by simp;omega)]
 simp only [List.length_map,List.length_take]
 rw [Nat.min_eq_left (by omega),Nat.sub_self]
 obtain ⟨m,hm⟩:∃ m,n - k=m + 1:=⟨n - k - 1,by omega⟩
 rw [hm];rfl
theorem es1_step (c:TableP.Cfg) {n k:Nat} {p:TableP.Port} (hn:c.ports.length=n) (hp:c.ports[k]? = some p):(es1 c n k).set k (nbE p (nodeOf c p) (.slice none 0 0))=es1 c n (k + 1):=by
 have hk:=(List.getElem?_eq_some_iff.1 hp).1
 unfold es1
 rw [List.set_append_right _ _ (by simp;omega)]
 simp only [List.length_map,List.length_take]
 rw [Nat.min_eq_left (by omega),Nat.sub_self]
 obtain ⟨m,hm⟩:∃ m,n - k=m + 1:=⟨n - k - 1,by omega⟩
 rw [hm,show n - (k + 1)=m by omega,List.take_add_one,hp,List.map_append,List.append_assoc]
 rfl
def es2 (c:TableP.Cfg) (tvs:List Value):List El:=List.zipWith (fun p tv=>nbE p (nodeOf c p) tv) c.ports tvs
theorem es1_es2 (c:TableP.Cfg) {n:Nat} (hn:c.ports.length=n):es1 c n n=es2 c (List.replicate n (.slice none 0 0)):=by
 subst hn
 unfold es1 es2
 rw [Nat.sub_self,List.take_length,List.replicate_zero,List.append_nil]
 apply List.ext_getElem?
 intro i
 rw [List.getElem?_map,List.getElem?_zipWith]
 cases h:c.ports[i]? with
 | none=>rfl
 | some p=>
  have:=(List.getElem?_eq_some_iff.1 h).1
  rw [List.getElem?_replicate,if_pos this];rfl
theorem es2_at {c:TableP.Cfg} {tvs:List Value} {i:Nat} {p:TableP.Port} {tv:Value} (hp:c.ports[i]? = some p) (ht:tvs[i]? = some tv):(es2 c tvs)[i]? = some (nbE p (nodeOf c p) tv):=by
 unfold es2
 rw [List.getElem?_zipWith,hp,ht]
theorem zC4 {c:TableP.Cfg} {tvs:List Value} {i:Nat} {e:El} (h:(es2 c tvs)[i]? = some e):∃ p tv,c.ports[i]? = some p∧tvs[i]? = some tv∧e=nbE p (nodeOf c p) tv:=by
 unfold es2 at h
 rw [List.getElem?_zipWith] at h
 cases hp:c.ports[i]? with
 | none=>rw [hp] at h;cases h
 | some p=>
  cases ht:tvs[i]? with
  | none=>rw [hp,ht] at h;cases h
  | some tv=>rw [hp,ht] at h;exact ⟨p,tv,rfl,rfl,(Option.some.inj h).symm⟩
theorem es2_set {c:TableP.Cfg} {tvs:List Value} {i:Nat} {p:TableP.Port} (hp:c.ports[i]? = some p) (v:Value):(es2 c tvs).set i (nbE p (nodeOf c p) v)=es2 c (tvs.set i v):=by
 unfold es2
 apply List.ext_getElem?
 intro j
 by_cases hj:i=j
 ·subst hj
  have hi:=(List.getElem?_eq_some_iff.1 hp).1
  by_cases ht:i < tvs.length
  ·rw [List.getElem?_set_self (by rw [List.length_zipWith];omega),List.getElem?_zipWith,hp,List.getElem?_set_self ht]
  ·rw [List.getElem?_eq_none (by simp;omega),List.getElem?_eq_none (by simp;omega)]
 ·rw [List.getElem?_set_ne hj,List.getElem?_zipWith,List.getElem?_zipWith,List.getElem?_set_ne hj]
theorem zy9 {es:List El} (h:∀ e∈es,∃ p N tv,e=nbE p N tv):∀ e∈es,(elVals e).length=10:=fun e he=>by
 obtain ⟨p,N,tv,rfl⟩:=h e he;rfl
theorem es1_nb (c:TableP.Cfg) (n k:Nat):∀ e∈es1 c n k,∃ p N tv,e=nbE p N tv:=fun e he=>by
 unfold es1 at he
 rcases List.mem_append.1 he with he | he
 ·obtain ⟨p,-,rfl⟩:=List.mem_map.1 he
  exact ⟨_,_,_,rfl⟩
 ·exact ⟨_,_,_,List.eq_of_mem_replicate he⟩
theorem zE8 (c:TableP.Cfg) (tvs:List Value):∀ e∈es2 c tvs,∃ p N tv,e=nbE p N tv:=fun e he=>by
 obtain ⟨i,hi⟩:=List.getElem?_of_mem he
 obtain ⟨p,tv,-,-,rfl⟩:=zC4 hi
 exact ⟨_,_,_,rfl⟩
theorem zq4 {g i:Nat} {es:List El} {W:World} {e:El} (hW:PRow g es W) (hs:∀ e∈es,(elVals e).length=10) (hi:es[i]? = some e) {j:Nat} {u:Value} (hu:(elVals e)[j]? = some u):W.cell? ⟨g,i * 10 + j,none⟩=some u:=by
 have hj:j < 10:=by rw [← hs e (List.mem_of_getElem? hi)];exact (List.getElem?_eq_some_iff.1 hu).1
 refine za0 hW _ ?_
 rw [List.getElem?_toArray,zg4 es hs i e hi j hj]
 exact hu
theorem zz0 {α:Type} {vals:α→List Value} {size:Nat}:∀ (l:List α),(∀ x∈l,(vals x).length=size)→∀ (i:Nat) (x y:α),l[i]? = some x→∃ pre tail,itemsV vals l=pre ++ vals x ++ tail∧pre.length=i * size∧itemsV vals (l.set i y)=pre ++ vals y ++ tail
 | [],_,i,x,y,h=>by simp at h
 | a :: l,hs,0,x,y,h=>by
  simp at h
  subst h
  exact ⟨[],itemsV vals l,by simp [itemsV],by simp,by simp [itemsV]⟩
 | a :: l,hs,i + 1,x,y,h=>by
  obtain ⟨pre,tail,h1,h2,h3⟩:=zz0 l (fun x hx=>hs x (List.mem_cons_of_mem _ hx)) i x y (by simpa using h)
  refine ⟨vals a ++ pre,tail,?_,?_,?_⟩
  ·simp only [itemsV,List.flatMap_cons] at h1 ⊢
   rw [h1];simp
  ·rw [List.length_append,hs a (by simp),h2,Nat.succ_mul];omega
  ·simp only [itemsV,List.flatMap_cons,List.set_cons_succ] at h3 ⊢
   rw [h3];simp
theorem zj7 {b:Nat} {t:TypeId}:∀ (vs:List Value) (i:Nat) (w:World) (pre rest tail:List Value),w.heap[b]? = some (.cells (pre ++ rest ++ tail).toArray t (0,0))→pre.length=i→rest.length=vs.length →
 (storeAll w b vs i).heap[b]? = some (.cells (pre ++ vs ++ tail).toArray t (0,0))
 | [],i,w,pre,rest,tail,h,_,h2=>by
  obtain rfl:rest=[]:=List.eq_nil_of_length_eq_zero (by simpa using h2)
  exact h
 | v :: vs,i,w,pre,[],tail,h,_,h2=>by simp at h2
 | v :: vs,i,w,pre,r :: rest,tail,h,h1,h2=>by
  have h3:=heap_setCell_same w b i _ t v h
  have h4:=zj7 (t:=t) vs (i + 1) (w.setCell ⟨b,i,none⟩ v) (pre ++ [v]) rest tail (by
   rw [h3]
   subst h1
   simp) (by simp [h1]) (by simpa using h2)
  simpa [storeAll] using h4
theorem prow_put {g i:Nat} {es:List El} {W:World} {e:El} (hW:PRow g es W) (hs:∀ e∈es,(elVals e).length=10) (hi:es[i]? = some e) (y:El) (hy:(elVals y).length=10):PRow g (es.set i y) (storeAll W g (elVals y) (i * 10)):=by
 obtain ⟨pre,tail,h1,h2,h3⟩:=zz0 es hs i e y hi
 unfold PRow at hW ⊢
 rw [h3]
 exact zj7 (elVals y) (i * 10) W pre (elVals e) tail (by rw [← h1];exact hW) h2 (by rw [hs e (List.mem_of_getElem? hi),hy])
structure TosIn (W:World) (B:Nat) (c:TableP.Cfg) (node:Int) (k:Nat) (tvs:List Value):Prop where
 len:tvs.length=c.ports.length
 own:∀ (i:Nat) (v:Value),tvs[i]? = some v→W.ownsRow B 3 1 v (toK c node i k).length (intV (toK c node i k))
 apart:∀ (i j:Nat) (v v':Value),i≠j→tvs[i]? = some v→tvs[j]? = some v'→∀ q,v.ownBlock=some q→v'.ownBlock≠some q
theorem TosIn.start (W:World) (B:Nat) (c:TableP.Cfg) (node:Int):TosIn W B c node 0 (List.replicate c.ports.length (.slice none 0 0)):=by
 refine ⟨by simp,fun i v hv=>?_,fun i j v v' _ hv _ q hq=>?_⟩
 ·rw [List.eq_of_mem_replicate (List.mem_of_getElem? hv)]
  exact World.ownsRow_nil _ _ _ _
 ·rw [List.eq_of_mem_replicate (List.mem_of_getElem? hv)] at hq
  simp [Value.ownBlock] at hq
theorem TosIn.away {W W':World} {B:Nat} {c:TableP.Cfg} {node:Int} {k:Nat} {tvs:List Value} {F:Nat→Prop} (h:TosIn W B c node k tvs) (ha:Apart F W W') (hF:∀ q cs,W.heap[q]? = some (.cells cs 3 (0,0))→¬ F q):TosIn W' B c node k tvs:=
 ⟨h.len,fun i v hv=>za3 (h.own i v hv) ha fun q hq=>by
  obtain ⟨cur,hc⟩:=(Seg.of_own (h.own i v hv)).block q hq
  exact hF q _ hc,h.apart⟩
theorem TosIn.below {W W':World} {B:Nat} {c:TableP.Cfg} {node:Int} {k:Nat} {tvs:List Value} (h:TosIn W B c node k tvs) (hb:Below W.heap.size W W'):TosIn W' B c node k tvs:=h.away (F:=fun _=>False) (Apart.of_below' hb) (fun _ _ _ h=>h)
theorem TosIn.skip {W:World} {B:Nat} {c:TableP.Cfg} {node:Int} {k:Nat} {tvs:List Value} {r:TableP.Route} (h:TosIn W B c node k tvs) (hr:c.routes[k]? = some r) (hw:∀ i,wayB c node i r=false):TosIn W B c node (k + 1) tvs:=
 ⟨h.len,fun i v hv=>by
  have:=h.own i v hv
  rw [zs9 hr,hw i,if_neg (by decide),List.append_nil]
  exact this,h.apart⟩
theorem TosIn.more {W W1:World} {B:Nat} {c:TableP.Cfg} {node:Int} {k s:Nat} {tvs:List Value} {r:TableP.Route} {v v':Value} (h:TosIn W B c node k tvs) (hr:c.routes[k]? = some r) (hs:r.src=(s:Int)) (hw:wayB c node s r=true) (hv:tvs[s]? = some v)
 (ho:W1.ownsRow B 3 1 v' ((toK c node s k).length + 1) (intV (toK c node s k) ++ [.int .i64 r.dst])) (ha:Apart (fun q=>v.ownBlock=some q) W W1) (hm:v'.ownBlock=v.ownBlock∨∃ q,v'.ownBlock=some q∧W.heap.size≤q):TosIn W1 B c node (k + 1) (tvs.set s v'):=by
 have hsl:=(List.getElem?_eq_some_iff.1 hv).1
 have hlt:∀ (i:Nat) (u:Value),tvs[i]? = some u→∀ q,u.ownBlock=some q→q < W.heap.size:=fun i u hu q hq=>((h.own i u hu).lt q hq).2
 have hsep:∀ (j:Nat) (u:Value),j≠s→tvs[j]? = some u→∀ q,u.ownBlock=some q→v'.ownBlock≠some q:=fun j u hj hu q hq e=>by
  rcases hm with e2 | ⟨q2,e2,e3⟩
  ·exact h.apart j s u v hj hu hv q hq (by rw [← e2];exact e)
  ·rw [e] at e2
   have:=hlt j u hu q hq
   have:=Option.some.inj e2
   omega
 refine ⟨by rw [List.length_set];exact h.len,fun i u hu=>?_,fun i j a b hij ha' hb' q hq=>?_⟩
 ·by_cases hi:i=s
  ·subst hi
   rw [List.getElem?_set_self hsl] at hu
   obtain rfl:=Option.some.inj hu
   rw [zs9 hr,if_pos hw,List.length_append,zC3]
   exact ho
  ·rw [List.getElem?_set_ne (Ne.symm hi)] at hu
   have hw':wayB c node i r=false:=by
    unfold wayB
    rw [decide_eq_false (by rw [hs];omega)];rfl
   rw [zs9 hr,hw',if_neg (by decide),List.append_nil]
   exact za3 (h.own i u hu) ha fun q hq e=>h.apart i s u v hi hu hv q hq e
 ·by_cases hi:i=s
  ·subst hi
   rw [List.getElem?_set_self hsl] at ha'
   obtain rfl:=Option.some.inj ha'
   rw [List.getElem?_set_ne hij] at hb'
   exact fun e=>hsep j b (Ne.symm hij) hb' q e hq
  ·rw [List.getElem?_set_ne (Ne.symm hi)] at ha'
   by_cases hj:j=s
   ·subst hj
    rw [List.getElem?_set_self hsl] at hb'
    obtain rfl:=Option.some.inj hb'
    exact hsep i a hi ha' q hq
   ·rw [List.getElem?_set_ne (Ne.symm hj)] at hb'
    exact h.apart i j a b hij ha' hb' q hq
def NewP (w:World) (c:TableP.Cfg) (node:Int) (e:Ending) (w':World):Prop:=
 ∃ y:PC,e = .returned (.tuple #[pv y,.nilIface])∧y.node=node∧PIn w' w.heap.size c y∧elSt y.es=PorP.start c∧Below w.heap.size w w'
theorem newP_of {w wr:World} {c:TableP.Cfg} {node:Int} {g n:Nat} {tvs:List Value} (hn:c.ports.length=n) (hb:Below w.heap.size w wr) (hg:w.heap.size≤g) (hr:PRow g (es2 c tvs) wr) (ht:TosIn wr w.heap.size c node c.routes.length tvs) :
 NewP w c node (.returned (.tuple #[.pointer (some ⟨wr.heap.size,0,none⟩),.nilIface])) (wr.alloc (.cells #[.int .i64 node,.slice (some ⟨g,0,none⟩) n n] 124)):=by
 have hl:(es2 c tvs).length=n:=by unfold es2;rw [List.length_zipWith,ht.len,hn];omega
 have hb2:Below wr.heap.size wr (wr.alloc (.cells #[.int .i64 node,.slice (some ⟨g,0,none⟩) n n] 124)):=(Below.refl _ _).alloc (Nat.le_refl _) _
 have hvs:∀ e∈es2 c tvs,e.v = .slice none 0 0∧e.msgs=[]∧e.age=0∧e.pre.length=8:=fun e he=>by
  obtain ⟨p,N,tv,rfl⟩:=zE8 c tvs e he
  exact ⟨rfl,rfl,rfl,rfl⟩
 refine ⟨⟨wr.heap.size,g,node,es2 c tvs⟩,rfl,rfl,⟨?_,⟨(hb2.block g (lt_of_block hr)).trans hr,fun e he=>(hvs e he).2.2.2,fun e he=>?_,fun i j e e' _ he _ q hq=>?_,fun _ e he=>?_,hg,fun e he=>?_⟩,hl.trans hn.symm,fun i e p he hp=>?_,hb.size⟩,?_,hb.trans (hb2.mono hb.size)⟩
 ·show _=some (Obj.cells #[.int .i64 node,.slice (some ⟨g,0,none⟩) (es2 c tvs).length (es2 c tvs).length] 124 (0,0))
  rw [hl]
  exact heap_alloc_new wr _
 ·rw [(hvs e he).1,(hvs e he).2.1];exact LIn.nil _ _
 ·rw [(hvs e (List.mem_of_getElem? he)).1] at hq
  simp [Value.ownBlock] at hq
 ·rw [(hvs e he).1,(hvs e he).2.1];exact World.ownsRow_nil _ _ _ _
 ·rw [(hvs e he).2.1,(hvs e he).2.2.1];simp
 ·obtain ⟨p',tv,hp',htv,rfl⟩:=zC4 he
  rw [hp] at hp'
  obtain rfl:=Option.some.inj hp'
  refine ⟨tv,rfl,?_⟩
  have h1:=(ht.below hb2).own i tv htv
  rw [toK_all] at h1
  exact Seg.of_own h1
 ·show elSt (es2 c tvs)=PorP.start c
  unfold elSt PorP.start
  rw [hn]
  apply List.ext_getElem?
  intro i
  rw [List.getElem?_map]
  cases he:(es2 c tvs)[i]? with
  | none=>
   rw [List.getElem?_eq_none_iff,hl] at he
   rw [List.getElem?_eq_none (by simpa using he)];rfl
  | some e=>
   have hi:=(List.getElem?_eq_some_iff.1 he).1
   rw [hl] at hi
   obtain ⟨-,-,-,-,rfl⟩:=zC4 he
   rw [List.getElem?_replicate,if_pos hi];rfl
open Go.RowKit PorP
set_option maxRecDepth 100000
theorem infoBox13:(Tryz.prog.info? 130).map (fun i=>(i.zero,i.size,i.bytes))=some (some (.agg #[.int .i64 0,.int .u8 0,.bool false,.int .i64 0,.int .i64 0,.int .i64 0,.int .i64 0,.slice none 0 0,.slice none 0 0,.int .i64 0]),10,104):=by kernel_rfl
theorem infoInt13:(Tryz.prog.info? 3).map (fun i=>(i.zero,i.size,i.bytes))=some (some (.int .i64 0),1,8):=by kernel_rfl
theorem zJ5 (n:Nat) (hn:n≤1000) (W:World):(Instr.makeSlice 122 (.int .i64 (n:Nat)) (.int .i64 (n:Nat))).run Tryz.prog W = .ok (.slice (some ⟨W.heap.size,0,none⟩) n n) (W.alloc (.cells (itemsV elVals (List.replicate n (nbE zPort 0 (.slice none 0 0)))).toArray 130)):=by
 obtain ⟨i,hi,hz,hs,hb⟩:=info_parts infoBox13
 have h1:=run_make (P:=Tryz.prog) W 122 130 i _ Tryz.underlying122 hi hz .i64 .i64 n n (by omega) (by omega) (by rw [hb];omega) (by omega)
 rw [Int.toNat_natCast,hs] at h1
 have h2:=zs5 (vals:=elVals) (nbE zPort 0 (.slice none 0 0)) (Value.cells (.agg #[.int .i64 0,.int .u8 0,.bool false,.int .i64 0,.int .i64 0,.int .i64 0,.int .i64 0,.slice none 0 0,.slice none 0 0,.int .i64 0])) (by rfl) (by decide) n
 have h3:(Value.cells (.agg #[.int .i64 0,.int .u8 0,.bool false,.int .i64 0,.int .i64 0,.int .i64 0,.int .i64 0,.slice none 0 0,.slice none 0 0,.int .i64 0])).size=10:=by rfl
 rw [h3] at h2
 rw [h1,← h2]
def NewA (w:World) (x:CfgC) (g k:Nat) (wr:World):Prop:=PRow g (es1 x.plain x.qn k) wr∧BoxS w x wr
def NewR1 (w:World) (x:CfgC) (g:Nat) (i:Value) (wr:World):Prop:=∃ k,k≤x.qn∧i = .int .i64 (k:Nat)∧NewA w x g k wr
def NewR2 (w:World) (x:CfgC) (node:Int) (g:Nat) (i:Value) (wr:World):Prop:=
 ∃ k tvs,k≤x.rn∧i = .int .i64 (k:Nat)∧PRow g (es2 x.plain tvs) wr∧TosIn wr w.heap.size x.plain node k tvs∧BoxS w x wr
def NewS (w:World) (x:CfgC) (g pb:Nat) (es:List El) (cs:Array Value) (t:TypeId) (W:World):Prop:=PRow g es W∧BoxS w x W∧W.heap[pb]? = some (.cells cs t (0,0))
theorem NewS.keep {w:World} {x:CfgC} {g pb:Nat} {es:List El} {cs:Array Value} {t:TypeId} {W W':World} (h:NewS w x g pb es cs t W) (hb:Below W.heap.size W W'):NewS w x g pb es cs t W':=
 ⟨(hb.block g (lt_of_block h.1)).trans h.1,h.2.1.step hb,(hb.block pb (lt_of_block h.2.2)).trans h.2.2⟩
theorem BoxS.apart13 {w:World} {x:CfgC} {W W':World} {F:Nat→Prop} (h:BoxS w x W) (ha:Apart F W W') (hF:∀ k,F k→w.heap.size + 1≤k):BoxS w x W':=
 Below.trans h (Apart.below ha (Below.size h) (fun k hk=>by rw [zb7];exact hF k hk))
theorem box_put {g k:Nat} {es:List El} {W:World} {e:El} (hW:PRow g es W) (hs:∀ e∈es,(elVals e).length=10) (hi:es[k]? = some e) (part:Int) (kind:Nat) (outp:Bool) (size depth fresh N:Int) :
 PRow g (es.set k (nbE ⟨part,kind,outp,size,depth,fresh⟩ N (.slice none 0 0))) ((((((((((W.setCell ⟨g,k * 10,none⟩ (.int .i64 part)).setCell ⟨g,k * 10 + 1,none⟩ (.int .u8 (kind:Nat))).setCell ⟨g,k * 10 + 2,none⟩ (.bool outp)).setCell ⟨g,k * 10 + 3,none⟩ (.int .i64 size)).setCell ⟨g,k * 10 + 4,none⟩ (.int .i64 depth)).setCell ⟨g,k * 10 + 5,none⟩ (.int .i64 fresh)).setCell ⟨g,k * 10 + 6,none⟩ (.int .i64 N)).setCell ⟨g,k * 10 + 7,none⟩ (.slice none 0 0)).setCell ⟨g,k * 10 + 8,none⟩ (.slice none 0 0)).setCell ⟨g,k * 10 + 9,none⟩ (.int .i64 0))∧Apart (fun q=>q=g) W ((((((((((W.setCell ⟨g,k * 10,none⟩ (.int .i64 part)).setCell ⟨g,k * 10 + 1,none⟩ (.int .u8 (kind:Nat))).setCell ⟨g,k * 10 + 2,none⟩ (.bool outp)).setCell ⟨g,k * 10 + 3,none⟩ (.int .i64 size)).setCell ⟨g,k * 10 + 4,none⟩ (.int .i64 depth)).setCell ⟨g,k * 10 + 5,none⟩ (.int .i64 fresh)).setCell ⟨g,k * 10 + 6,none⟩ (.int .i64 N)).setCell ⟨g,k * 10 + 7,none⟩ (.slice none 0 0)).setCell ⟨g,k * 10 + 8,none⟩ (.slice none 0 0)).setCell ⟨g,k * 10 + 9,none⟩ (.int .i64 0)):=
 ⟨prow_put hW hs hi (nbE ⟨part,kind,outp,size,depth,fresh⟩ N (.slice none 0 0)) rfl,za1 g (elVals (nbE ⟨part,kind,outp,size,depth,fresh⟩ N (.slice none 0 0))) (k * 10) W⟩
set_option maxHeartbeats 8000000 in
theorem zC5 (x:CfgC) (node:Int) (w:World) (h:CfgIn w x) (hc:SndP.chk6 x.plain=none) (hm:0≤node∧node < x.nodes) :
 Calls Tryz.prog 27 #[x.value,.int .i64 node] w (NewP w x.plain node):=by
 have ha:=(SndP.works hc).allowed
 have HC:=Lib.hid (zH5 x (boxC w x) (h.below (zb1 w x)))
 rw [hc] at HC
 have HST:=Lib.hid (BoxS.start w x)
 have hqn:x.plain.ports.length=x.qn:=h.qlen
 have hrn:x.plain.routes.length=x.rn:=h.rlen
 have hq24:x.qn≤24:=by rw [← hqn];exact ha.ports
 have hr24:x.rn≤24:=by rw [← hrn];exact ha.routes
 have hp12:x.pn≤12:=by have:=ha.parts;rw [show x.plain.parts.length=x.pn from h.plen] at this;exact this
 have Hqn:=Lib.hid hqn
 have Hrn:=Lib.hid hrn
 -- reading the tables in later worlds
 have HP:Hid (∀ W,BoxS w x W→∀ k p,x.plain.ports[k]? = some p→∃ b off,x.QA=some ⟨b,off,none⟩∧PortAt W b (off + k * 6) p):=Lib.hid fun W hW k p hp=>by
  obtain ⟨b,off,h1,-,h2⟩:=zh2 (h.below hW.below).ports hp
  exact ⟨b,off,h1,h2⟩
 have HR:Hid (∀ W,BoxS w x W→∀ k r,x.plain.routes[k]? = some r→∃ b off,x.RA=some ⟨b,off,none⟩∧RouteAt W b (off + k * 2) r):=Lib.hid fun W hW k r hr=>by
  obtain ⟨b,off,h1,-,h2⟩:=zg7 (h.below hW.below).routes hr
  exact ⟨b,off,h1,h2⟩
 have HN:Hid (∀ p∈x.plain.ports,∃ (pi:Nat),p.part=(pi:Int)∧pi < x.pn∧∃ b off,x.PA=some ⟨b,off,none⟩∧∀ W,BoxS w x W→W.cell? ⟨b,off + pi * 9,none⟩=some (.int .i64 (nodeOf x.plain p))):=Lib.hid fun p hp=>by
  have h1:=(ha.port p hp).1
  unfold TableP.up at h1
  obtain ⟨pi,hpi⟩:=Int.eq_ofNat_of_zero_le h1.1
  have hlt:pi < x.plain.parts.length:=by omega
  have hpp:x.plain.parts[pi]? = some x.plain.parts[pi]:=List.getElem?_eq_getElem hlt
  obtain ⟨b,off,e1,-,-⟩:=zf0 h.parts (show x.parts[pi]? = _ from hpp)
  refine ⟨pi,hpi,by rw [← show x.plain.parts.length=x.pn from h.plen];exact hlt,b,off,e1,fun W hW=>?_⟩
  obtain ⟨b',off',e2,-,h2⟩:=zf0 (h.below hW.below).parts (show x.parts[pi]? = _ from hpp)
  rw [e1] at e2
  injection e2 with e2
  injection e2 with e2 e3
  subst e2 e3
  have h3:=h2.c0
  unfold nodeOf
  rw [hpi,Int.toNat_natCast,hpp]
  exact h3
 have HAr:=Lib.hid (fun r hr=>ha.route r hr)
 have HEnd:Hid (∀ g tvs wr,w.heap.size≤g→PRow g (es2 x.plain tvs) wr→TosIn wr w.heap.size x.plain node x.rn tvs→BoxS w x wr→NewP w x.plain node (.returned (.tuple #[.pointer (some ⟨wr.heap.size,0,none⟩),.nilIface])) (wr.alloc (.cells #[.int .i64 node,.slice (some ⟨g,0,none⟩) x.qn x.qn] 124))):=Lib.hid fun g tvs wr h1 h2 h3 h4=>by
  rw [← hrn] at h3
  exact newP_of hqn h4.below h1 h2 h3
 have HS1:Hid (∀ w1,BoxS w x w1→NewA w x w1.heap.size 0 (w1.alloc (.cells (itemsV elVals (List.replicate x.qn (nbE zPort 0 (.slice none 0 0)))).toArray 130))):=Lib.hid fun w1 h1=>⟨heap_alloc_new w1 _,h1.step ((Below.refl _ _).alloc (Nat.le_refl _) _)⟩
 have HT0:Hid (∀ W,TosIn W w.heap.size x.plain node 0 (List.replicate x.qn (.slice none 0 0))):=Lib.hid fun W=>by rw [← hqn];exact TosIn.start _ _ _ _
 have he12:Hid (es1 x.plain x.qn x.qn=es2 x.plain (List.replicate x.qn (.slice none 0 0))):=Lib.hid (es1_es2 x.plain hqn)
 have hmk:=zJ5 x.qn (by omega)
 clear h hc ha hqn hrn
 obtain ⟨C,hC⟩:∃ C,x.plain=C:=⟨_,rfl⟩
 have HCe:=Lib.hid hC
 rw [hC] at HP HR HN HAr HEnd HT0 he12 Hqn Hrn ⊢
 clear hC
 obtain ⟨nodes,faulty,slot,gap,rho,dmin,dmax,margin,PA,pn,pcap,parts,QA,qn,qcap,ports,RA,rn,rcap,routes⟩:=x
 obtain ⟨d0,d1,d2,d3,d4,d5,d6,d7,d8,d9,d10⟩:=cfgFacts (fun W (hW:BoxS w ⟨nodes,faulty,slot,gap,rho,dmin,dmax,margin,PA,pn,pcap,parts,QA,qn,qcap,ports,RA,rn,rcap,routes⟩ W)=>hW.cells)
 simp only at d0 d1 d2 d3 d4 d5 d6 d7 d8 d9 d10
 simp only [CfgC.value,boxC,cfgCells] at HC HST ⊢
 simp only at HP HR HN HEnd HS1 HT0 he12 Hqn Hrn hmk hm hq24 hr24 hp12
 have q1:decide (node < 0)=false:=decide_eq_false (by omega)
 have q2:decide (nodes≤node)=false:=decide_eq_false (by omega)
 go_enter Tryz.func27,Tryz.ntmps27
 go_wp2_with fail
 refine HC.out.mono ?_
 rintro e w1 ⟨v,rfl,-,hv,h3⟩
 obtain rfl:v = .nilIface:=hv
 have hd1:=HST.out.step h3
 clear h3 HC HST
 obtain ⟨k0,k1,k2,k3,k4,k5,k6,k7,k8,k9,k10⟩:=eleven hd1 d0 d1 d2 d3 d4 d5 d6 d7 d8 d9 d10
 have hA0:=HS1.out w1 hd1
 have hgs:=(BoxS.below hd1).size
 have HD1:=Lib.hid hd1
 clear hd1 HS1
 have hgb:w.heap.size + 1≤w1.heap.size:=by have:=Below.size HD1.out;rw [zb7] at this;exact this
 have hgl:w.heap.size < w1.heap.size:=hgb
 go_wp2_with fail
 clear k0 k1 k2 k3 k4 k5 k6 k7 k8 k9 k10 hmk q1 q2
 generalize w1.alloc (.cells (itemsV elVals (List.replicate qn (nbE zPort 0 (.slice none 0 0)))).toArray 130)=w2 at *
 generalize w1.heap.size=g at *
 have Hd2:=Lib.hid hA0.2
 have HS1:Hid (NewR1 w ⟨nodes,faulty,slot,gap,rho,dmin,dmax,margin,PA,pn,pcap,parts,QA,qn,qcap,ports,RA,rn,rcap,routes⟩ g (.int .i64 0) w2):=Lib.hid ⟨0,Nat.zero_le _,rfl,hA0⟩
 clear hA0
 go_loopw [33] (NewR1 w ⟨nodes,faulty,slot,gap,rho,dmin,dmax,margin,PA,pn,pcap,parts,QA,qn,qcap,ports,RA,rn,rcap,routes⟩ g) (fun i _=>(qn + 1 - intOf i).toNat)
 case atStart=>exact HS1.out
 case round=>
  clear HS1
  obtain ⟨k,hk,rfl,hpr,hbs⟩:=hrel
  simp only [show CfgC.plain ⟨nodes,faulty,slot,gap,rho,dmin,dmax,margin,PA,pn,pcap,parts,QA,qn,qcap,ports,RA,rn,rcap,routes⟩=C from HCe.out] at hpr
  simp only at hk
  by_cases hlt:k < qn
  case pos=>
   obtain ⟨p,hp⟩:∃ p,C.ports[k]? = some p:=⟨_,List.getElem?_eq_getElem (by rw [Hqn.out];exact hlt)⟩
   obtain ⟨bQ,offQ,rfl,hpa⟩:=HP.out wr hbs k p hp
   obtain ⟨pi,hpi,hpil,bP,offP,rfl,hnode⟩:=HN.out p (List.mem_of_getElem? hp)
   have q1:decide ((k:Int) < (qn:Int))=true:=decide_eq_true (by omega)
   have hkz:(k:Int) < (qn:Int):=by omega
   have hat:=es1_at C Hqn.out hlt
   have hst:=es1_step C Hqn.out hp
   have e1:IntKind.i64.wrap ((k:Int) + 1)=(k:Int) + 1:=IntWalk.i64_in _ (by omega)
   generalize hNo:nodeOf C p=N at *
   obtain ⟨part,kind,outp,size,depth,fresh⟩:=p
   simp only at hpi
   subst hpi
   have HRel:Hid (∀ W,PRow g (es1 C qn k) W→BoxS w ⟨nodes,faulty,slot,gap,rho,dmin,dmax,margin,some ⟨bP,offP,none⟩,pn,pcap,parts,some ⟨bQ,offQ,none⟩,qn,qcap,ports,RA,rn,rcap,routes⟩ W→NewR1 w ⟨nodes,faulty,slot,gap,rho,dmin,dmax,margin,some ⟨bP,offP,none⟩,pn,pcap,parts,some ⟨bQ,offQ,none⟩,qn,qcap,ports,RA,rn,rcap,routes⟩ g (.int .i64 ((k:Int) + 1)) ((((((((((W.setCell ⟨g,k * 10,none⟩ (.int .i64 (pi:Int))).setCell ⟨g,k * 10 + 1,none⟩ (.int .u8 (kind:Nat))).setCell ⟨g,k * 10 + 2,none⟩ (.bool outp)).setCell ⟨g,k * 10 + 3,none⟩ (.int .i64 size)).setCell ⟨g,k * 10 + 4,none⟩ (.int .i64 depth)).setCell ⟨g,k * 10 + 5,none⟩ (.int .i64 fresh)).setCell ⟨g,k * 10 + 6,none⟩ (.int .i64 N)).setCell ⟨g,k * 10 + 7,none⟩ (.slice none 0 0)).setCell ⟨g,k * 10 + 8,none⟩ (.slice none 0 0)).setCell ⟨g,k * 10 + 9,none⟩ (.int .i64 0))):=Lib.hid fun W h1 h2=>by
    obtain ⟨h3,h4⟩:=box_put h1 (zy9 (es1_nb C qn k)) hat (pi:Int) kind outp size depth fresh N
    rw [hst] at h3
    exact ⟨k + 1,hlt,by go_num,by rw [show CfgC.plain ⟨nodes,faulty,slot,gap,rho,dmin,dmax,margin,some ⟨bP,offP,none⟩,pn,pcap,parts,some ⟨bQ,offQ,none⟩,qn,qcap,ports,RA,rn,rcap,routes⟩=C from HCe.out];exact h3,h2.apart13 h4 (fun q hq=>by subst hq;exact hgb)⟩
   have HOld:Hid (∀ W,PRow g (es1 C qn k) W→∀ j u,(elVals (nbE zPort 0 (.slice none 0 0)))[j]? = some u→W.cell? ⟨g,k * 10 + j,none⟩=some u):=Lib.hid fun W hW j u hu=>zq4 hW (zy9 (es1_nb C qn k)) hat hu
   have p0:=hpa.c0
   have p1:=hpa.c1
   have p2:=hpa.c2
   have p3:=hpa.c3
   have p4:=hpa.c4
   have p5:=hpa.c5
   have hn5:=heap_alloc_new wr (.cells #[.int .i64 (pi:Int),.int .u8 (kind:Nat),.bool outp,.int .i64 size,.int .i64 depth,.int .i64 fresh] 127)
   have hb5:Below wr.heap.size wr (wr.alloc (.cells #[.int .i64 (pi:Int),.int .u8 (kind:Nat),.bool outp,.int .i64 size,.int .i64 depth,.int .i64 fresh] 127)):=(Below.refl _ _).alloc (Nat.le_refl _) _
   have hd0:NewS w ⟨nodes,faulty,slot,gap,rho,dmin,dmax,margin,some ⟨bP,offP,none⟩,pn,pcap,parts,some ⟨bQ,offQ,none⟩,qn,qcap,ports,RA,rn,rcap,routes⟩ g wr.heap.size (es1 C qn k) #[.int .i64 (pi:Int),.int .u8 (kind:Nat),.bool outp,.int .i64 size,.int .i64 depth,.int .i64 fresh] 127 (wr.alloc (.cells #[.int .i64 (pi:Int),.int .u8 (kind:Nat),.bool outp,.int .i64 size,.int .i64 depth,.int .i64 fresh] 127)).drew:=
    ⟨(hb5.block g (lt_of_block hpr)).trans hpr,(hbs.step hb5).drew,hn5⟩
   have hqs:=(d9 _ hbs)
   clear hn5 hb5 hpr hbs hpa hp hat hst hNo
   go_wp2_with fail
   clear p0 p1 p2 p3 p4 p5 hqs
   generalize wr.alloc (.cells #[.int .i64 (pi:Int),.int .u8 (kind:Nat),.bool outp,.int .i64 size,.int .i64 depth,.int .i64 fresh] 127)=w5 at *
   generalize wr.heap.size=pb at *
   obtain ⟨pcs,hpcs⟩:∃ pcs:Array Value,pcs=#[.int .i64 (pi:Int),.int .u8 (kind:Nat),.bool outp,.int .i64 size,.int .i64 depth,.int .i64 fresh]:=⟨_,rfl⟩
   rw [← hpcs] at hd0
   have r0:∀ W,NewS w ⟨nodes,faulty,slot,gap,rho,dmin,dmax,margin,some ⟨bP,offP,none⟩,pn,pcap,parts,some ⟨bQ,offQ,none⟩,qn,qcap,ports,RA,rn,rcap,routes⟩ g pb (es1 C qn k) pcs 127 W→W.cell? ⟨pb,0,none⟩=some (.int .i64 (pi:Int)):=fun W hW=>za0 hW.2.2 0 (by rw [hpcs];rfl)
   have r1:∀ W,NewS w ⟨nodes,faulty,slot,gap,rho,dmin,dmax,margin,some ⟨bP,offP,none⟩,pn,pcap,parts,some ⟨bQ,offQ,none⟩,qn,qcap,ports,RA,rn,rcap,routes⟩ g pb (es1 C qn k) pcs 127 W→W.cell? ⟨pb,1,none⟩=some (.int .u8 (kind:Nat)):=fun W hW=>za0 hW.2.2 1 (by rw [hpcs];rfl)
   have r2:∀ W,NewS w ⟨nodes,faulty,slot,gap,rho,dmin,dmax,margin,some ⟨bP,offP,none⟩,pn,pcap,parts,some ⟨bQ,offQ,none⟩,qn,qcap,ports,RA,rn,rcap,routes⟩ g pb (es1 C qn k) pcs 127 W→W.cell? ⟨pb,2,none⟩=some (.bool outp):=fun W hW=>za0 hW.2.2 2 (by rw [hpcs];rfl)
   have r3:∀ W,NewS w ⟨nodes,faulty,slot,gap,rho,dmin,dmax,margin,some ⟨bP,offP,none⟩,pn,pcap,parts,some ⟨bQ,offQ,none⟩,qn,qcap,ports,RA,rn,rcap,routes⟩ g pb (es1 C qn k) pcs 127 W→W.cell? ⟨pb,3,none⟩=some (.int .i64 size):=fun W hW=>za0 hW.2.2 3 (by rw [hpcs];rfl)
   have r4:∀ W,NewS w ⟨nodes,faulty,slot,gap,rho,dmin,dmax,margin,some ⟨bP,offP,none⟩,pn,pcap,parts,some ⟨bQ,offQ,none⟩,qn,qcap,ports,RA,rn,rcap,routes⟩ g pb (es1 C qn k) pcs 127 W→W.cell? ⟨pb,4,none⟩=some (.int .i64 depth):=fun W hW=>za0 hW.2.2 4 (by rw [hpcs];rfl)
   have r5:∀ W,NewS w ⟨nodes,faulty,slot,gap,rho,dmin,dmax,margin,some ⟨bP,offP,none⟩,pn,pcap,parts,some ⟨bQ,offQ,none⟩,qn,qcap,ports,RA,rn,rcap,routes⟩ g pb (es1 C qn k) pcs 127 W→W.cell? ⟨pb,5,none⟩=some (.int .i64 fresh):=fun W hW=>za0 hW.2.2 5 (by rw [hpcs];rfl)
   have r6:∀ W,NewS w ⟨nodes,faulty,slot,gap,rho,dmin,dmax,margin,some ⟨bP,offP,none⟩,pn,pcap,parts,some ⟨bQ,offQ,none⟩,qn,qcap,ports,RA,rn,rcap,routes⟩ g pb (es1 C qn k) pcs 127 W→W.cell? ⟨w.heap.size,8,none⟩=some (.slice (some ⟨bP,offP,none⟩) pn pcap):=fun W hW=>d8 _ hW.2.1
   have r7:∀ W,NewS w ⟨nodes,faulty,slot,gap,rho,dmin,dmax,margin,some ⟨bP,offP,none⟩,pn,pcap,parts,some ⟨bQ,offQ,none⟩,qn,qcap,ports,RA,rn,rcap,routes⟩ g pb (es1 C qn k) pcs 127 W→W.cell? ⟨bP,offP + pi * 9,none⟩=some (.int .i64 N):=fun W hW=>hnode W hW.2.1
   have hpz:(pi:Int) < (pn:Int):=by omega
   have HRl:=Lib.hid (HRel.out _ hd0.1 hd0.2.1)
   clear hpcs HRel hnode
   refine za9 (st:=12) (S:=fun W=>NewS w ⟨nodes,faulty,slot,gap,rho,dmin,dmax,margin,some ⟨bP,offP,none⟩,pn,pcap,parts,some ⟨bQ,offQ,none⟩,qn,qcap,ports,RA,rn,rcap,routes⟩ g pb (es1 C qn k) pcs 127 W) (by kernel_rfl) hd0 (fun _=>?_)
   refine tL 0 hd0 ?_
   try simp only [Act.put,tkT,tk0,tkS]
   refine tL 1 hd0 ?_
   try simp only [Act.put,tkT,tk0,tkS]
   refine tL 2 hd0 ?_
   try simp only [Act.put,tkT,tk0,tkS]
   refine tL 3 hd0 ?_
   try simp only [Act.put,tkT,tk0,tkS]
   refine tL 4 hd0 ?_
   try simp only [Act.put,tkT,tk0,tkS]
   refine tL 5 hd0 ?_
   try simp only [Act.put,tkT,tk0,tkS]
   refine tL 6 hd0 ?_
   try simp only [Act.put,tkT,tk0,tkS]
   refine tL 7 hd0 ?_
   try simp only [Act.put,tkT,tk0,tkS]
   refine tL 8 hd0 ?_
   try simp only [Act.put,tkT,tk0,tkS]
   refine tL 9 hd0 ?_
   try simp only [Act.put,tkT,tk0,tkS]
   refine tL 10 hd0 ?_
   try simp only [Act.put,tkT,tk0,tkS]
   refine tL 11 hd0 ?_
   try simp only [Act.put,tkT,tk0,tkS]
   clear r0 r1 r2 r3 r4 r5 r6 r7
   generalize w5.drew=w6 at *
   have o0:w6.cell? ⟨g,k * 10,none⟩=some (.int .i64 0):=HOld.out w6 hd0.1 0 _ rfl
   have o1:w6.cell? ⟨g,k * 10 + 1,none⟩=some (.int .u8 0):=HOld.out w6 hd0.1 1 _ rfl
   have o2:w6.cell? ⟨g,k * 10 + 2,none⟩=some (.bool false):=HOld.out w6 hd0.1 2 _ rfl
   have o3:w6.cell? ⟨g,k * 10 + 3,none⟩=some (.int .i64 0):=HOld.out w6 hd0.1 3 _ rfl
   have o4:w6.cell? ⟨g,k * 10 + 4,none⟩=some (.int .i64 0):=HOld.out w6 hd0.1 4 _ rfl
   have o5:w6.cell? ⟨g,k * 10 + 5,none⟩=some (.int .i64 0):=HOld.out w6 hd0.1 5 _ rfl
   have o6:w6.cell? ⟨g,k * 10 + 6,none⟩=some (.int .i64 0):=HOld.out w6 hd0.1 6 _ rfl
   have o7:w6.cell? ⟨g,k * 10 + 7,none⟩=some (.slice none 0 0):=HOld.out w6 hd0.1 7 _ rfl
   have o8:w6.cell? ⟨g,k * 10 + 8,none⟩=some (.slice none 0 0):=HOld.out w6 hd0.1 8 _ rfl
   have o9:w6.cell? ⟨g,k * 10 + 9,none⟩=some (.int .i64 0):=HOld.out w6 hd0.1 9 _ rfl
   have ofr:=fun o=>za2 hd0.1 o
   refine zc0 (k:=12) (by kernel_rfl) (by simp only [tkA,tkG];rfl) (fun K hK=>?_)
   go_simp
   go_wp2_with fail
   refine hK.out _ _ ?_
   clear hK K
   refine zb9 (by kernel_rfl) ?_ _
   clear hd0 o0 o1 o2 o3 o4 o5 o6 o7 o8 o9 ofr
   go_wp2_with fail
   go_roundw
   case rel=>exact HRl.out
   case measure=>simp [intOf];omega
  obtain rfl:k=qn:=by omega
  have q1:decide ((k:Int) < (k:Int))=false:=decide_eq_false (by omega)
  rw [he12.out] at hpr
  have HS2:Hid (NewR2 w ⟨nodes,faulty,slot,gap,rho,dmin,dmax,margin,PA,pn,pcap,parts,QA,k,qcap,ports,RA,rn,rcap,routes⟩ node g (.int .i64 0) wr):=Lib.hid ⟨0,_,Nat.zero_le _,rfl,by rw [show CfgC.plain ⟨nodes,faulty,slot,gap,rho,dmin,dmax,margin,PA,pn,pcap,parts,QA,k,qcap,ports,RA,rn,rcap,routes⟩=C from HCe.out];exact hpr,by rw [show CfgC.plain ⟨nodes,faulty,slot,gap,rho,dmin,dmax,margin,PA,pn,pcap,parts,QA,k,qcap,ports,RA,rn,rcap,routes⟩=C from HCe.out];exact HT0.out wr,hbs⟩
  have kr:=d10 _ hbs
  clear hpr hbs HP HN Hd2 HT0 he12 HD1
  go_wp2_with fail
  clear kr
  go_loopw [54] (NewR2 w ⟨nodes,faulty,slot,gap,rho,dmin,dmax,margin,PA,pn,pcap,parts,QA,k,qcap,ports,RA,rn,rcap,routes⟩ node g) (fun i _=>(rn + 1 - intOf i).toNat)
  case atStart=>exact HS2.out
  case round=>
   clear HS2 q1
   obtain ⟨j,tvs,hj,rfl,hpr,hto,hbs⟩:=hrel
   rw [show CfgC.plain ⟨nodes,faulty,slot,gap,rho,dmin,dmax,margin,PA,pn,pcap,parts,QA,k,qcap,ports,RA,rn,rcap,routes⟩=C from HCe.out] at hpr hto
   simp only at hj
   by_cases hlj:j < rn
   case neg=>
    obtain rfl:j=rn:=by omega
    have q1:decide ((j:Int) < (j:Int))=false:=decide_eq_false (by omega)
    have HF:=Lib.hid (HEnd.out g tvs wr (by omega) hpr hto hbs)
    clear hpr hto hbs HEnd
    go_wp2_with fail
    go_ret2
    exact HF.out
   have q1:decide ((j:Int) < (rn:Int))=true:=decide_eq_true (by omega)
   have hjz:(j:Int) < (rn:Int):=by omega
   obtain ⟨r,hr⟩:∃ r,C.routes[j]? = some r:=⟨_,List.getElem?_eq_getElem (by rw [Hrn.out];exact hlj)⟩
   obtain ⟨bR,offR,rfl,hra⟩:=HR.out wr hbs j r hr
   have hro:=HAr.out r (List.mem_of_getElem? hr)
   unfold TableP.routeOk TableP.up at hro
   obtain ⟨si,hsi⟩:=Int.eq_ofNat_of_zero_le hro.1.1
   obtain ⟨ti,hti⟩:=Int.eq_ofNat_of_zero_le hro.2.1
   have hsl:si < k:=by have:=Hqn.out;omega
   have htl:ti < k:=by have:=Hqn.out;omega
   have hsz:(si:Int) < (k:Int):=by omega
   have htz:(ti:Int) < (k:Int):=by omega
   obtain ⟨ps,hps⟩:∃ p,C.ports[si]? = some p:=⟨_,List.getElem?_eq_getElem (by rw [Hqn.out];exact hsl)⟩
   obtain ⟨pt,hpt⟩:∃ p,C.ports[ti]? = some p:=⟨_,List.getElem?_eq_getElem (by rw [Hqn.out];exact htl)⟩
   obtain ⟨tvS,htvS⟩:∃ v,tvs[si]? = some v:=⟨_,List.getElem?_eq_getElem (by rw [hto.len,Hqn.out];exact hsl)⟩
   obtain ⟨tvT,htvT⟩:∃ v,tvs[ti]? = some v:=⟨_,List.getElem?_eq_getElem (by rw [hto.len,Hqn.out];exact htl)⟩
   have hatS:=es2_at hps htvS
   have hatT:=es2_at hpt htvT
   have e1:IntKind.i64.wrap ((j:Int) + 1)=(j:Int) + 1:=IntWalk.i64_in _ (by omega)
   have r0:wr.cell? ⟨bR,offR + j * 2,none⟩=some (.int .i64 (si:Int)):=by rw [← hsi];exact hra.c0
   have r1:wr.cell? ⟨bR,offR + j * 2 + 1,none⟩=some (.int .i64 (ti:Int)):=by rw [← hti];exact hra.c1
   have hb5:Below wr.heap.size wr (wr.alloc (.cells #[.int .i64 (si:Int),.int .i64 (ti:Int)] 142)):=(Below.refl _ _).alloc (Nat.le_refl _) _
   have hn5:=heap_alloc_new wr (.cells #[.int .i64 (si:Int),.int .i64 (ti:Int)] 142)
   have hS5:NewS w ⟨nodes,faulty,slot,gap,rho,dmin,dmax,margin,PA,pn,pcap,parts,QA,k,qcap,ports,some ⟨bR,offR,none⟩,rn,rcap,routes⟩ g wr.heap.size (es2 C tvs) #[.int .i64 (si:Int),.int .i64 (ti:Int)] 142 (wr.alloc (.cells #[.int .i64 (si:Int),.int .i64 (ti:Int)] 142)):=⟨(hb5.block g (lt_of_block hpr)).trans hpr,hbs.step hb5,hn5⟩
   have hto5:=hto.below hb5
   have hgr:g < wr.heap.size:=lt_of_block hpr
   have s6:(wr.alloc (.cells #[.int .i64 (si:Int),.int .i64 (ti:Int)] 142)).cell? ⟨g,ti * 10 + 6,none⟩=some (.int .i64 (nodeOf C pt)):=zq4 hS5.1 (zy9 (zE8 C tvs)) hatT (j:=6) rfl
   have t1:(wr.alloc (.cells #[.int .i64 (si:Int),.int .i64 (ti:Int)] 142)).cell? ⟨wr.heap.size,1,none⟩=some (.int .i64 (ti:Int)):=za0 hn5 1 rfl
   by_cases hN:nodeOf C pt=node
   case neg=>
    have t2:(nodeOf C pt == node)=false:=by simp [hN]
    have hw:∀ i,wayB C node i r=false:=fun i=>by
     unfold wayB
     rw [hti,Int.toNat_natCast,hpt]
     simp [mineB,hN]
    have HRl:Hid (NewR2 w ⟨nodes,faulty,slot,gap,rho,dmin,dmax,margin,PA,pn,pcap,parts,QA,k,qcap,ports,some ⟨bR,offR,none⟩,rn,rcap,routes⟩ node g (.int .i64 ((j:Int) + 1)) (wr.alloc (.cells #[.int .i64 (si:Int),.int .i64 (ti:Int)] 142))):=Lib.hid ⟨j + 1,tvs,hlj,by go_num,by rw [show CfgC.plain ⟨nodes,faulty,slot,gap,rho,dmin,dmax,margin,PA,pn,pcap,parts,QA,k,qcap,ports,some ⟨bR,offR,none⟩,rn,rcap,routes⟩=C from HCe.out];exact hS5.1,by rw [show CfgC.plain ⟨nodes,faulty,slot,gap,rho,dmin,dmax,margin,PA,pn,pcap,parts,QA,k,qcap,ports,some ⟨bR,offR,none⟩,rn,rcap,routes⟩=C from HCe.out];exact hto5.skip hr hw,hS5.2.1⟩
    generalize nodeOf C pt=NN at *
    clear hpr hto hbs hra hro hS5 hto5 hatS hatT hps hpt htvS htvT hr hb5 hn5 hsi hti hN hw HEnd HR
    go_wp2_with fail
    go_roundw
    case rel=>exact HRl.out
    case measure=>simp [intOf];omega
   have t2:(nodeOf C pt == node)=true:=by simp [hN]
   have hw:wayB C node si r=true:=by
    unfold wayB
    rw [hti,Int.toNat_natCast,hpt,hsi]
    simp [mineB,hN]
   generalize nodeOf C pt=NN at *
   have hto5d:=hto5.below (Below.refl _ _).drew
   have HTo:=Lib.hid hto5d
   have hown:=hto5d.own si tvS htvS
   obtain ⟨Ao,co,rfl,-⟩:=za6 hown
   have hlk:=toK_len C node si j
   have hd0:=hS5
   have HMore:Hid (∀ W1 v',W1.ownsRow w.heap.size 3 1 v' ((toK C node si j).length + 1) (intV (toK C node si j) ++ [.int .i64 (ti:Int)])→Apart (fun q=>(Value.slice Ao (toK C node si j).length co).ownBlock=some q) (wr.alloc (.cells #[.int .i64 (si:Int),.int .i64 (ti:Int)] 142)).drew W1→(v'.ownBlock=(Value.slice Ao (toK C node si j).length co).ownBlock∨∃ q,v'.ownBlock=some q∧(wr.alloc (.cells #[.int .i64 (si:Int),.int .i64 (ti:Int)] 142)).drew.heap.size≤q)→NewS w ⟨nodes,faulty,slot,gap,rho,dmin,dmax,margin,PA,pn,pcap,parts,QA,k,qcap,ports,some ⟨bR,offR,none⟩,rn,rcap,routes⟩ g wr.heap.size (es2 C tvs) #[.int .i64 (si:Int),.int .i64 (ti:Int)] 142 W1→NewR2 w ⟨nodes,faulty,slot,gap,rho,dmin,dmax,margin,PA,pn,pcap,parts,QA,k,qcap,ports,some ⟨bR,offR,none⟩,rn,rcap,routes⟩ node g (.int .i64 ((j:Int) + 1)) (W1.setCell ⟨g,si * 10 + 7,none⟩ v')):=Lib.hid fun W1 v' h1 h2 h3 h4=>by
    have h5:=HTo.out.more hr hsi hw htvS (by rw [hti];exact h1) h2 h3
    have ha:Apart (fun q=>q=g) W1 (W1.setCell ⟨g,si * 10 + 7,none⟩ v'):=Apart.setCell (F:=fun q=>q=g) (Apart.refl _ W1) (p:=⟨g,si * 10 + 7,none⟩) (.inl rfl) v'
    refine ⟨j + 1,tvs.set si v',hlj,by go_num,?_,?_,h4.2.1.apart13 ha (fun q hq=>by subst hq;exact hgb)⟩
    ·rw [show CfgC.plain ⟨nodes,faulty,slot,gap,rho,dmin,dmax,margin,PA,pn,pcap,parts,QA,k,qcap,ports,some ⟨bR,offR,none⟩,rn,rcap,routes⟩=C from HCe.out,← es2_set hps]
     have h6:=heap_setCell_same W1 g (si * 10 + 7) _ 130 v' h4.1
     rw [List.setIfInBounds_toArray,zg5 _ (zy9 (zE8 C tvs)) si _ (nbE ps (nodeOf C ps) v') 7 v' hatS (by omega) rfl] at h6
     exact h6
    ·rw [show CfgC.plain ⟨nodes,faulty,slot,gap,rho,dmin,dmax,margin,PA,pn,pcap,parts,QA,k,qcap,ports,some ⟨bR,offR,none⟩,rn,rcap,routes⟩=C from HCe.out]
     exact h5.away ha (fun q cs hq e=>by
      subst e
      rw [h4.1] at hq
      simp only [Option.some.injEq,Obj.cells.injEq] at hq
      exact absurd hq.2.1 (by decide))
   have HS7:Hid (∀ W,NewS w ⟨nodes,faulty,slot,gap,rho,dmin,dmax,margin,PA,pn,pcap,parts,QA,k,qcap,ports,some ⟨bR,offR,none⟩,rn,rcap,routes⟩ g wr.heap.size (es2 C tvs) #[.int .i64 (si:Int),.int .i64 (ti:Int)] 142 W→W.cell? ⟨g,si * 10 + 7,none⟩=some (.slice Ao (toK C node si j).length co)):=Lib.hid fun W hW=>zq4 hW.1 (zy9 (zE8 C tvs)) hatS (j:=7) rfl
   have HO:=Lib.hid hown
   generalize toK C node si j=TK at *
   generalize hTL:TK.length=tl at *
   have hrsz:(wr.alloc (.cells #[.int .i64 (si:Int),.int .i64 (ti:Int)] 142)).heap.size=wr.heap.size + 1:=by simp
   have hbw:w.heap.size≤wr.heap.size:=by omega
   clear hpr hto hbs hra hro hS5 hto5 hto5d hatS hatT hps hpt htvS htvT hr hb5 hn5 hsi hti hN hw HEnd HR hown HTo
   go_wp2_with fail
   clear r0 r1 s6 t1 t2
   generalize wr.alloc (.cells #[.int .i64 (si:Int),.int .i64 (ti:Int)] 142)=w5 at *
   generalize wr.heap.size=rb at *
   obtain ⟨rcs,hrcs⟩:∃ rcs:Array Value,rcs=#[.int .i64 (si:Int),.int .i64 (ti:Int)]:=⟨_,rfl⟩
   rw [← hrcs] at hd0 HMore HS7
   have u0:∀ W,NewS w ⟨nodes,faulty,slot,gap,rho,dmin,dmax,margin,PA,pn,pcap,parts,QA,k,qcap,ports,some ⟨bR,offR,none⟩,rn,rcap,routes⟩ g rb (es2 C tvs) rcs 142 W→W.cell? ⟨rb,0,none⟩=some (.int .i64 (si:Int)):=fun W hW=>za0 hW.2.2 0 (by rw [hrcs];rfl)
   have u1:∀ W,NewS w ⟨nodes,faulty,slot,gap,rho,dmin,dmax,margin,PA,pn,pcap,parts,QA,k,qcap,ports,some ⟨bR,offR,none⟩,rn,rcap,routes⟩ g rb (es2 C tvs) rcs 142 W→W.cell? ⟨rb,1,none⟩=some (.int .i64 (ti:Int)):=fun W hW=>za0 hW.2.2 1 (by rw [hrcs];rfl)
   have u7:∀ W,NewS w ⟨nodes,faulty,slot,gap,rho,dmin,dmax,margin,PA,pn,pcap,parts,QA,k,qcap,ports,some ⟨bR,offR,none⟩,rn,rcap,routes⟩ g rb (es2 C tvs) rcs 142 W→W.cell? ⟨g,si * 10 + 7,none⟩=some (.slice Ao tl co):=HS7.out
   have hd1:NewS w ⟨nodes,faulty,slot,gap,rho,dmin,dmax,margin,PA,pn,pcap,parts,QA,k,qcap,ports,some ⟨bR,offR,none⟩,rn,rcap,routes⟩ g rb (es2 C tvs) rcs 142 w5.drew:=hd0.keep (Below.refl _ _).drew
   have hw5s:w5.drew.heap.size=rb + 1:=hrsz
   have hds:w.heap.size + 1≤w5.drew.heap.size:=by omega
   clear hrcs HS7 hd0 hrsz hw5s
   refine za9 (st:=15) (S:=fun W=>NewS w ⟨nodes,faulty,slot,gap,rho,dmin,dmax,margin,PA,pn,pcap,parts,QA,k,qcap,ports,some ⟨bR,offR,none⟩,rn,rcap,routes⟩ g rb (es2 C tvs) rcs 142 W) (by kernel_rfl) hd1 (fun _=>?_)
   refine tL 0 hd1 ?_
   try simp only [Act.put,tkT,tk0,tkS]
   refine tL 1 hd1 ?_
   try simp only [Act.put,tkT,tk0,tkS]
   refine tL 2 hd1 ?_
   try simp only [Act.put,tkT,tk0,tkS]
   refine tL 3 hd1 ?_
   try simp only [Act.put,tkT,tk0,tkS]
   refine tL 4 hd1 ?_
   try simp only [Act.put,tkT,tk0,tkS]
   refine tL 5 hd1 ?_
   try simp only [Act.put,tkT,tk0,tkS]
   refine tL 6 hd1 ?_
   try simp only [Act.put,tkT,tk0,tkS]
   refine tL 7 hd1 ?_
   try simp only [Act.put,tkT,tk0,tkS]
   refine tL 8 hd1 ?_
   try simp only [Act.put,tkT,tk0,tkS]
   refine tL 9 hd1 ?_
   try simp only [Act.put,tkT,tk0,tkS]
   refine tL 10 hd1 ?_
   try simp only [Act.put,tkT,tk0,tkS]
   generalize w5.drew=w6 at *
   refine za8 (k:=11) (by kernel_rfl) (by simp only [tkA,tkG];rfl) (fun K hK=>?_)
   go_simp
   have hda:NewS w ⟨nodes,faulty,slot,gap,rho,dmin,dmax,margin,PA,pn,pcap,parts,QA,k,qcap,ports,some ⟨bR,offR,none⟩,rn,rcap,routes⟩ g rb (es2 C tvs) rcs 142 (w6.alloc (.cells #[.int .i64 (ti:Int)] 3)):=hd1.keep ((Below.refl _ _).alloc (Nat.le_refl _) _)
   go_wp2_with fail
   refine hK.out _ _ (fun _=>hda) ?_
   clear hK K
   refine za8 (k:=12) (by kernel_rfl) (by simp only [tkA,tkG];rfl) (fun K hK=>?_)
   refine za7 rfl (.tmp 74) (.tmp 77) _ rfl w.heap.size 3 _ 1 8 Tryz.underlying103 infoInt13 rfl (by omega) _ tl (intV TK) rfl (HO.out.alloc _) (some ⟨w6.heap.size,0,none⟩) 1 1 [.int .i64 (ti:Int)] rfl rfl (fun _=>⟨_,rfl,fun j u hj=>?c1⟩) (fun u hu=>?c2) (by unfold maxLen;omega) (by omega) (by simp;omega) ?_
   case c1=>
    have hj0:j=0:=by have:=(List.getElem?_eq_some_iff.1 hj).1;simp at this;omega
    subst hj0
    simp only [List.getElem?_cons_zero,Option.some.injEq] at hj
    subst hj
    exact za0 (heap_alloc_new w6 _) 0 rfl
   case c2=>
    simp only [List.mem_singleton] at hu
    subst hu
    rfl
   intro v8 w8 ho8 ha8 hb8
   have ha80:Apart (fun q=>(Value.slice Ao tl co).ownBlock=some q) w6 w8:=((Apart.refl _ w6).alloc _).trans ha8 (fun _ e=>.inl e)
   have hlow:∀ q,(Value.slice Ao tl co).ownBlock=some q→w.heap.size + 1≤q:=fun q e=>by
    have hcb:w6.heap[w.heap.size]? = some (.cells (cfgCells ⟨nodes,faulty,slot,gap,rho,dmin,dmax,margin,PA,pn,pcap,parts,QA,k,qcap,ports,some ⟨bR,offR,none⟩,rn,rcap,routes⟩) 26 (0,0)):=(hd1.2.1.block w.heap.size (by rw [zb7];omega)).trans (heap_alloc_new w _)
    have h1:=(HO.out.lt q e).1
    have h2:=zb2 HO.out hcb (by decide) q e
    omega
   have hoff:∀ q cs t,w6.heap[q]? = some (.cells cs t (0,0))→t≠3→¬ (Value.slice Ao tl co).ownBlock=some q:=fun q cs t hq ht e=>zb2 HO.out hq (fun e2=>ht e2.symm) q e rfl
   have hd8:NewS w ⟨nodes,faulty,slot,gap,rho,dmin,dmax,margin,PA,pn,pcap,parts,QA,k,qcap,ports,some ⟨bR,offR,none⟩,rn,rcap,routes⟩ g rb (es2 C tvs) rcs 142 w8:=⟨(ha80.block g (lt_of_block hd1.1) (hoff g _ _ hd1.1 (by decide))).trans hd1.1,hd1.2.1.trans (ha80.below (by rw [zb7];exact hds) (fun q e=>by rw [zb7];exact hlow q e)),(ha80.block rb (lt_of_block hd1.2.2) (hoff rb _ _ hd1.2.2 (by decide))).trans hd1.2.2⟩
   obtain ⟨g8,c8,rfl,-,-⟩:=ho8.form (by omega)
   have HRl:=Lib.hid (HMore.out w8 _ ho8 ha80 (hb8.imp id fun e=>⟨_,e,by simp⟩) hd8)
   have f8:=za2 hd8.1 (si * 10 + 7)
   have k8:=u7 w8 hd8
   clear ho8 ha8 hb8 ha80 hoff HMore HO
   go_wp2_with fail
   refine hK.out _ _ (fun _=>hd8) ?_
   clear hK K
   refine tL 13 hd8 ?_
   try simp only [Act.put,tkT,tk0,tkS]
   refine tL 14 hd8 ?_
   try simp only [Act.put,tkT,tk0,tkS]
   refine zc0 (k:=15) (by kernel_rfl) (by simp only [tkA,tkG];rfl) (fun K hK=>?_)
   go_simp
   go_wp2_with fail
   refine hK.out _ _ ?_
   clear hK K
   refine zb9 (by kernel_rfl) ?_ _
   clear hd8 hda hd1 u0 u1 u7 k8 f8
   go_wp2_with fail
   go_roundw
   case rel=>exact HRl.out
   case measure=>simp [intOf];omega
end Go.Proofs.YtfgpfmhjnccccaaGreatDoor
