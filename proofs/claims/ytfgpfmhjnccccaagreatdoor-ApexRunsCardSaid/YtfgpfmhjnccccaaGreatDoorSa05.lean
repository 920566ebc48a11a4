import Derived.Test.YtfgpfmhjnccccaaGreatDoorSa04
namespace Go.Proofs.YtfgpfmhjnccccaaGreatDoor
open Go.RowKit Go.Extern.Stop Go.Stop Go.Extern
theorem newAt (w:World) (o:Obj):(w.alloc o).heap[w.heap.size]? = some o:=by
 show (w.heap.push o)[w.heap.size]? = _
 simp
theorem newAt1 (w:World) (o o':Obj):((w.alloc o).alloc o').heap[w.heap.size + 1]? = some o':=by
 have h:(w.alloc o).heap.size=w.heap.size + 1:=by simp
 rw [← h]
 exact newAt _ _
def ptrOf:List (Nat × Int × Int)→Value
 | []=>.pointer none
 | (b,_,_) :: _=>.pointer (some ⟨b,0,none⟩)
def OutR (l:List (Nat × Int × Int)) (q:Nat) (r:Bool) (w1:World):Prop:=r = !l.isEmpty∧w1.heap[q]? = some (.cells #[ptrOf l] 190 (0,0))
theorem Asked.imp {w:World} {row:Option Nat} {R R':Bool→World→Prop} {e:Ending} {w':World} (h:Asked w row R e w') (hR:∀ r w1,R r w1→R' r w1):Asked w row R' e w':=by
 obtain ⟨r,he,hg,hr⟩:=h
 exact ⟨r,he,hg,hR _ _ hr⟩
theorem outermost1 (l:List (Nat × Int × Int)) (t:Option Int) (p q:Nat) (w:World) (hg:HasType w) (hp:w.heap[p]? = some (.cells #[errV l t] 58 (0,0))) (hq:w.heap[q]? = some (.cells #[.pointer none] 190 (0,0))) (hql:q < w.heap.size) :
 Calls Tryz.prog 121 #[.pointer (some ⟨p,0,none⟩),.pointer (some ⟨q,0,none⟩)] w (Asked w (some q) (OutR l q)):=by
 obtain ⟨hc,hf⟩:=cell0 hp
 have hmain:Calls Tryz.prog 110 #[errV l t,.iface 230 (.pointer (some ⟨q,0,none⟩))] w (Asked w (some q) (OutR l q)):=by
  match l,t with
  | [],none=>exact (zM5 _ (some q) w).mono fun _ _ h=>h.imp fun r w1 ⟨h1,h2⟩=>by subst h1;subst h2;exact ⟨rfl,hq⟩
  | [],some m=>exact (as_no m q w hg hql).mono fun _ _ h=>h.imp fun r w1 ⟨h1,h2⟩=>by subst h1;exact ⟨rfl,h2.trans hq⟩
  | (b,c,a) :: r,t=>exact (as_F ⟨b,0,none⟩ q _ w hg hq hql).mono fun _ _ h=>h.imp fun r w1 ⟨h1,h2⟩=>by subst h1;exact ⟨rfl,h2⟩
 have H:=Lib.hid hmain
 have hv:=zb4 l t
 clear hmain hp hq hg
 generalize errV l t=v at *
 rcases hv with rfl | ⟨m,rfl⟩ | ⟨b,rfl⟩
 all_goals
  go_enter Tryz.func121,Tryz.ntmps121
  go_wp2_with fail
  refine H.out.mono ?_
  rintro e w' ⟨r,rfl,h1,h2⟩
  have Hp:=Lib.hid (show Asked w (some q) (OutR l q) (.returned (.bool r)) w' from ⟨r,rfl,h1,h2⟩)
  clear h1 h2
  go_wp2_with fail
  go_ret
  exact Hp.out
theorem enters41 (args:Array Value) (w:World):(callFunc 121 args).run Tryz.prog w = .ok (.enter 121 args) w:=
 enters Tryz.func121 (by kernel_rfl) rfl args w
theorem outermost2 (l:List (Nat × Int × Int)) (t:Option Int) (p q:Nat) (w:World) (hg:HasType w) (hp:w.heap[p]? = some (.cells #[errV l t] 58 (0,0))) (hpl:p < w.heap.size) (hq:w.heap[q]? = some (.cells #[.pointer none] 190 (0,0))) (hql:q < w.heap.size) :
 Calls Tryz.prog 80 #[.func (.func 121) #[] #[.pointer (some ⟨p,0,none⟩),.pointer (some ⟨q,0,none⟩)]] w
  fun e w'=>e = .returned (.bool (!l.isEmpty))∧w'.heap[q]? = some (.cells #[ptrOf l] 190 (0,0))∧(∀ B,B≤q→Below B w w'):=by
 have h1:=outermost1 l t p q (w.alloc (.cells #[.bool false] 4)) (hg.keep (allocAt _ _ _ hg.pos)) ((allocAt _ _ _ hpl).trans hp) ((allocAt _ _ _ hql).trans hq) (by simp;omega)
 refine (zk9 _ _ w (some q) (OutR l q) (fun k hk=>by cases hk;exact hql) enters41 h1).mono ?_
 intro e w' h
 obtain ⟨r,w1,rfl,⟨rfl,hR⟩,-,h2,h3⟩:=h.take
 exact ⟨rfl,(h2 q hql).trans hR,fun B hB=>h3 B (by omega) (fun k hk=>by cases hk;exact hB)⟩
theorem zA5 (w:World):(Instr.typeAssert .nilIface 58 190 true).run Tryz.prog w = .ok (.tuple #[.pointer none,.bool false]) w:=by kernel_rfl
set_option maxHeartbeats 1000000 in
theorem zl0 (B:Nat) (l:List (Nat × Int × Int)) (t:Option Int) (w:World) (hl:l.length≤1000000) (hg:HasType w) (hB:B≤w.heap.size) (hin:ErrIn w t B l) :
 Calls Tryz.prog 107 #[errV l t] w fun e w'=>e = .returned (ptrOf l)∧Below w.heap.size w w':=by
 have hmf:∀ (fn:Fn) (first cap:Array Value) (w:World),(Instr.makeFunc fn first cap).run Tryz.prog w = .ok (.func fn first cap) w:=fun _ _ _ _=>rfl
 have a1:=zA5
 have a2:=zw4
 have a3:=zw3
 have hb1:Below w.heap.size w ((w.alloc (.cells #[errV l t] 58)).alloc (.cells #[.pointer none] 190)):=((Below.refl _ _).alloc (Nat.le_refl _) _).alloc (by simp) _
 have hp1:((w.alloc (.cells #[errV l t] 58)).alloc (.cells #[.pointer none] 190)).heap[w.heap.size]? = some (.cells #[errV l t] 58 (0,0)):=by
  rw [allocAt _ _ _ (by simp)];exact newAt _ _
 have hq1:((w.alloc (.cells #[errV l t] 58)).alloc (.cells #[.pointer none] 190)).heap[w.heap.size + 1]? = some (.cells #[.pointer none] 190 (0,0)):=newAt1 _ _ _
 have hend:=zo0 B l t ((w.alloc (.cells #[errV l t] 58)).alloc (.cells #[.pointer none] 190)) hl (by simp;omega) (hin.below hb1 hB)
 have H2:Hid (∀ W:World,Below (w.heap.size + 2) ((w.alloc (.cells #[errV l t] 58)).alloc (.cells #[.pointer none] 190)) W →
  Calls Tryz.prog 80 #[.func (.func 121) #[] #[.pointer (some ⟨w.heap.size,0,none⟩),.pointer (some ⟨w.heap.size + 1,0,none⟩)]] W
  fun e w'=>e = .returned (.bool (!l.isEmpty))∧w'.heap[w.heap.size + 1]? = some (.cells #[ptrOf l] 190 (0,0))∧Below w.heap.size w w'):=Lib.hid fun W hW=>by
  have hs:=hW.size
  simp at hs
  refine (outermost2 l t w.heap.size (w.heap.size + 1) W (hg.keep ?_) ?_ (by omega) ?_ (by omega)).mono ?_
  ·rw [hW.block 0 (by omega),hb1.block 0 hg.pos]
  ·rw [hW.block _ (by omega)];exact hp1
  ·rw [hW.block _ (by omega)];exact hq1
  ·rintro e w' ⟨h1,h2,h3⟩
   exact ⟨h1,h2,(hb1.trans (hW.mono (by omega))).trans (h3 _ (by omega))⟩
 have H1:Hid _:=Lib.hid hend
 clear hend hp1 hq1 hin
 match l,t with
 | [],none=>
  simp only [errV,ptrOf] at *
  go_enter Tryz.func107,Tryz.ntmps107
  go_wp2_with fail
  refine H1.out.mono ?_
  rintro e W ⟨rfl,hW⟩
  have Hc:=Lib.hid (H2.out W (by simpa using hW))
  have kc:=hW.cell (p:=⟨w.heap.size,0,none⟩) (by simp;omega)
  have kf:=hW.frozen (p:=⟨w.heap.size,0,none⟩) (by simp;omega)
  clear hW
  go_wp2_with fail
  refine Hc.out.mono ?_
  rintro e w2 ⟨rfl,hq,hb⟩
  obtain ⟨hc,hf⟩:=cell0 hq
  have Hb:=Lib.hid hb
  clear hb hq
  go_wp2_with fail
  go_ret
  exact ⟨rfl,Hb.out⟩
 | [],some m=>
  simp only [errV,ptrOf] at *
  go_enter Tryz.func107,Tryz.ntmps107
  go_wp2_with fail
  refine H1.out.mono ?_
  rintro e W ⟨rfl,hW⟩
  have Hc:=Lib.hid (H2.out W (by simpa using hW))
  have kc:=hW.cell (p:=⟨w.heap.size,0,none⟩) (by simp;omega)
  have kf:=hW.frozen (p:=⟨w.heap.size,0,none⟩) (by simp;omega)
  clear hW
  go_wp2_with fail
  refine Hc.out.mono ?_
  rintro e w2 ⟨rfl,hq,hb⟩
  obtain ⟨hc,hf⟩:=cell0 hq
  have Hb:=Lib.hid hb
  clear hb hq
  go_wp2_with fail
  go_ret
  exact ⟨rfl,Hb.out⟩
 | (b,c,a) :: r,t=>
  have Hc:=Lib.hid (H2.out _ (Below.refl _ _))
  simp only [errV,ptrOf] at *
  go_enter Tryz.func107,Tryz.ntmps107
  go_wp2_with fail
  refine Hc.out.mono ?_
  rintro e w2 ⟨rfl,hq,hb⟩
  obtain ⟨hc,hf⟩:=cell0 hq
  have Hb:=Lib.hid hb
  clear hb hq
  go_wp2_with fail
  go_ret
  exact ⟨rfl,Hb.out⟩
open Go.RowKit Go.Extern.Stop Go.Stop Go.Extern
def LastR (t:Option Int) (q:Nat) (r:Bool) (w1:World):Prop:=r=t.isSome∧w1.heap[q]? = some (.cells #[.int .i64 (t.getD 0)] 92 (0,0))
theorem trail1 (t:Option Int) (p q:Nat) (w:World) (hg:HasType w) (hp:w.heap[p]? = some (.cells #[errV [] t] 58 (0,0))) (hq:w.heap[q]? = some (.cells #[.int .i64 0] 92 (0,0))) (hql:q < w.heap.size) :
 Calls Tryz.prog 109 #[.pointer (some ⟨p,0,none⟩),.pointer (some ⟨q,0,none⟩)] w (Asked w (some q) (LastR t q)):=by
 obtain ⟨hc,hf⟩:=cell0 hp
 have hmain:Calls Tryz.prog 110 #[errV [] t,.iface 216 (.pointer (some ⟨q,0,none⟩))] w (Asked w (some q) (LastR t q)):=by
  match t with
  | none=>exact (zM5 _ (some q) w).mono fun _ _ h=>h.imp fun r w1 ⟨h1,h2⟩=>by subst h1;subst h2;exact ⟨rfl,hq⟩
  | some m=>exact (as_E m q _ w hg hq hql).mono fun _ _ h=>h.imp fun r w1 ⟨h1,h2⟩=>by subst h1;exact ⟨rfl,h2⟩
 have H:=Lib.hid hmain
 have hv:=zb4 [] t
 clear hmain hp hq hg
 generalize errV [] t=v at *
 rcases hv with rfl | ⟨m,rfl⟩ | ⟨b,rfl⟩
 all_goals
  go_enter Tryz.func109,Tryz.ntmps109
  go_wp2_with fail
  refine H.out.mono ?_
  rintro e w' ⟨r,rfl,h1,h2⟩
  have Hp:=Lib.hid (show Asked w (some q) (LastR t q) (.returned (.bool r)) w' from ⟨r,rfl,h1,h2⟩)
  clear h1 h2
  go_wp2_with fail
  go_ret
  exact Hp.out
theorem enters28 (args:Array Value) (w:World):(callFunc 109 args).run Tryz.prog w = .ok (.enter 109 args) w:=
 enters Tryz.func109 (by kernel_rfl) rfl args w
theorem trail2 (t:Option Int) (p q:Nat) (w:World) (hg:HasType w) (hp:w.heap[p]? = some (.cells #[errV [] t] 58 (0,0))) (hpl:p < w.heap.size) (hq:w.heap[q]? = some (.cells #[.int .i64 0] 92 (0,0))) (hql:q < w.heap.size) :
 Calls Tryz.prog 80 #[.func (.func 109) #[] #[.pointer (some ⟨p,0,none⟩),.pointer (some ⟨q,0,none⟩)]] w
  fun e w'=>e = .returned (.bool t.isSome)∧w'.heap[q]? = some (.cells #[.int .i64 (t.getD 0)] 92 (0,0))∧w.grownBy w' (some q):=by
 have h1:=trail1 t p q (w.alloc (.cells #[.bool false] 4)) (hg.keep (allocAt _ _ _ hg.pos)) ((allocAt _ _ _ hpl).trans hp) ((allocAt _ _ _ hql).trans hq) (by simp;omega)
 refine (zk9 _ _ w (some q) (LastR t q) (fun k hk=>by cases hk;exact hql) enters28 h1).mono ?_
 intro e w' h
 obtain ⟨r,w1,rfl,⟨rfl,hR⟩,h4,h2,h3⟩:=h.take
 have h0:=h3 0 (Nat.zero_le _) (fun _ _=>Nat.zero_le _)
 exact ⟨rfl,(h2 q hql).trans hR,⟨h0.os,h0.tape,h0.output,h0.size,h4⟩⟩
theorem own_ne {w:World} {B B' e e' n n':Nat} {v v':Value} {xs xs':List Value} (h:w.ownsRow B e 1 v n xs) (h':w.ownsRow B' e' 1 v' n' xs') (hne:e≠e'):v.ownBlock=none∨v.ownBlock≠v'.ownBlock:=by
 rcases h.2 with ⟨rfl,-⟩ | ⟨g,cap,cur,rfl,-,hg,-⟩
 ·exact .inl rfl
 ·rcases h'.2 with ⟨rfl,-⟩ | ⟨g',cap',cur',rfl,-,hg',-⟩
  ·exact .inr (by simp [Value.ownBlock])
  ·refine .inr fun h=>?_
   simp [Value.ownBlock] at h
   subst h
   rw [hg] at hg'
   simp at hg'
   exact hne hg'.2
theorem zp1 {w w':World} {B e n:Nat} {v:Value} {xs:List Value} (h:w.ownsRow B e 1 v n xs) (hb:Below w.heap.size w w'):w'.ownsRow B e 1 v n xs:=
 h.kept (row:=none) ⟨hb.os,hb.tape,hb.output,hb.size,fun k hk _=>hb.block k hk⟩ (by cases v.ownBlock<;>simp)
theorem zd7 {P:Program} {w0:World} {ops:Array Oper} {rest:List Oper} {o:Oper} {a:Act} {Q:Exit→Act→World→Prop} (hgd:o.guard=none) (s x:Operand) (t:TypeId)
 (ho:o.op = .call { callee:=.builtin .append,args:=#[s,x],argTypes:=#[t,t] }) (base:Nat) (e:TypeId) (z:Value) (bytes:Nat)
 (ht:P.underlying t=some (.slice e)) (hinfo:(P.info? e).map (fun i=>(i.zero,i.size,i.bytes))=some (some z,1,bytes)) (hzs:z.cells.size=1)
 (v:Value) (n:Nat) (xs:List Value) (hs:a.eval s=v) (hown:w0.ownsRow base e 1 v n xs) (c:Nat) (u:Value) (hx:a.eval x = .slice (some ⟨w0.heap.size,0,none⟩) 1 c) (h1:u.oneCell'=true)
 (h63:n + 1≤maxLen) (hby:(n + 1) * bytes≤140737488355328) (hbase:base≤w0.heap.size)
 (h:∀ v' w',w'.ownsRow base e 1 v' (n + 1) (xs ++ [u])→Below base w0 w'→(∀ B' e' v'' n'' xs'',e'≠e→w0.ownsRow B' e' 1 v'' n'' xs''→w'.ownsRow B' e' 1 v'' n'' xs'')→wpList P ops Q rest (a.put o.dst v') w') :
 wpList P ops Q (o :: rest) a (w0.alloc (.cells #[u] e)):=by
 obtain ⟨i,hi,hz,hsize,hbytes⟩:=info_parts hinfo
 have hown':(w0.alloc (.cells #[u] e)).ownsRow base e 1 v n xs:=hown.alloc _
 refine wpList_append_own _ hgd s x t ho base e i z 1 bytes ht hi hz hsize hbytes hzs (by decide) v n xs hs (hown.alloc _) ⟨w0.heap.size,0,none⟩ 1 c [u] hx rfl ?_ ?_ h63 hby (by simp;omega) ?_
 ·intro j u' hj
  match j,hj with
  | 0,hj=>simp at hj;subst hj;simp [Addr.add]
 ·intro u' hu;simp at hu;subst hu;exact h1
 ·intro v' w' ho' hg _
  refine h v' w' ho' (((Below.refl base w0).alloc hbase _).grown hg (by simp;omega) (fun k hk=>(hown'.lt k hk).1)) ?_
  intro B' e' v'' n'' xs'' hne h''
  exact (h''.alloc _).kept hg (own_ne (h''.alloc _) hown' hne)
theorem zr8 {l:List (Nat × Int × Int)} {n:Nat} (h:n < l.length):ptrOf (l.drop n) = .pointer (some ⟨(nd l n).1,0,none⟩):=by
 unfold nd
 rw [List.drop_eq_getElem_cons h,List.getD_eq_getElem?_getD,List.getElem?_eq_getElem h]
 rfl
theorem zr9 {l:List (Nat × Int × Int)} {t:Option Int} {n:Nat} (h:n≤l.length):errAt l t n=errV (l.drop n) t:=by simp [errAt,h]
theorem zM6 {l:List (Nat × Int × Int)} {n:Nat} (h:n < l.length):l.take (n + 1)=l.take n ++ [nd l n]:=by
 rw [List.take_succ_eq_append_getElem h]
 simp [nd,List.getD_eq_getElem?_getD,List.getElem?_eq_getElem h]
theorem infoFt:(Tryz.prog.info? 190).map (fun i=>(i.zero,i.size,i.bytes))=some (some (.pointer none),1,8):=by kernel_rfl
theorem infoN:(Tryz.prog.info? 92).map (fun i=>(i.zero,i.size,i.bytes))=some (some (.int .i64 0),1,8):=by kernel_rfl
def ptrs (l:List (Nat × Int × Int)):List Value:=l.map fun x=>.pointer (some ⟨x.1,0,none⟩)
def nums (l:List (Nat × Int × Int)):List Value:=l.map fun x=>.int .i64 x.2.1
theorem zs0 (l:List (Nat × Int × Int)) (t:Option Int):(codes l t).map (Value.int .i64)=nums l ++ t.toList.map (Value.int .i64):=by simp [codes,nums,Function.comp_def]
theorem zl1 (l:List (Nat × Int × Int)) (t:Option Int):(codes l t).length=l.length + t.toList.length:=by simp [codes]
def TrailRel (l:List (Nat × Int × Int)) (t:Option Int) (W:World) (v3 v4 v6:Value) (wr:World):Prop:=
 ∃ n,n≤l.length∧v6=ptrOf (l.drop n)∧wr.ownsRow (W.heap.size + 1) 92 1 v3 n (nums (l.take n))∧wr.ownsRow (W.heap.size + 1) 190 1 v4 n (ptrs (l.take n)) ∧
  wr.heap[W.heap.size]? = some (.cells #[errAt l t n] 58 (0,0))∧Below W.heap.size W wr
def TrailPost (l:List (Nat × Int × Int)) (t:Option Int) (W:World) (e:Ending) (w':World):Prop:=
 ∃ v,e = .returned v∧w'.ownsRow (W.heap.size + 1) 92 1 v (codes l t).length ((codes l t).map (.int .i64))∧Below W.heap.size W w'
def ptrM:Value→Nat
 | .pointer (some a)=>a.block + 1
 | _=>0
set_option maxRecDepth 100000 in
set_option maxHeartbeats 2000000 in
theorem zM7 (B:Nat) (l:List (Nat × Int × Int)) (t:Option Int) (w:World) (hl:l.length≤1000000) (hg:HasType w) (hB:B≤w.heap.size) (hin:ErrIn w t B l) :
 Calls Tryz.prog 79 #[errV l t] w (TrailPost l t w):=by
 have hmf:∀ (fn:Fn) (first cap:Array Value) (w:World),(Instr.makeFunc fn first cap).run Tryz.prog w = .ok (.func fn first cap) w:=fun _ _ _ _=>rfl
 have hb1:Below w.heap.size w (w.alloc (.cells #[errV l t] 58)):=(Below.refl _ _).alloc (Nat.le_refl _) _
 have hp1:(w.alloc (.cells #[errV l t] 58)).heap[w.heap.size]? = some (.cells #[errV l t] 58 (0,0)):=newAt _ _
 have H1:=Lib.hid (zo0 B l t (w.alloc (.cells #[errV l t] 58)) hl (by simp;omega) (hin.below hb1 hB))
 have H2:Hid (∀ W:World,Below (w.heap.size + 1) (w.alloc (.cells #[errV l t] 58)) W→Calls Tryz.prog 107 #[errV l t] W fun e w'=>e = .returned (ptrOf l)∧Below W.heap.size W w'):=
  Lib.hid fun W hW=>by
   have hs:=hW.size
   simp at hs
   exact zl0 B l t W hl (hg.keep (by rw [hW.block 0 (by omega),hb1.block 0 hg.pos])) (by omega) ((hin.below hb1 hB).below hW (by omega))
 have H3:Hid (∀ W W2:World,Below (w.heap.size + 1) (w.alloc (.cells #[errV l t] 58)) W→Below W.heap.size W W2→TrailRel l t w (.slice none 0 0) (.slice none 0 0) (ptrOf l) W2):=
  Lib.hid fun W W2 hW hW2=>by
   have hs:=hW.size
   simp at hs
   exact ⟨0,Nat.zero_le _,by simp,⟨rfl,.inl ⟨rfl,rfl⟩⟩,⟨rfl,.inl ⟨rfl,rfl⟩⟩,by rw [zi8,hW2.block _ (by omega),hW.block _ (by omega)];exact hp1,
    (hb1.trans (hW.mono (by omega))).trans (hW2.mono (by omega))⟩
 have hv:=zb4 l t
 generalize errV l t=v at *
 rcases hv with rfl | ⟨m,rfl⟩ | ⟨b,rfl⟩
 all_goals
  clear hb1 hp1
  go_enter Tryz.func79,Tryz.ntmps79
  go_wp2_with fail
  refine H1.out.mono ?_
  rintro e W ⟨rfl,hW⟩
  have hW':=Lib.hid (show Below (w.heap.size + 1) _ W by simpa using hW)
  have kc:=hW.cell (p:=⟨w.heap.size,0,none⟩) (by simp)
  clear hW
  go_wp2_with fail
  refine (H2.out W hW'.out).mono ?_
  rintro e W2 ⟨rfl,hW2⟩
  have HR:=Lib.hid (H3.out W W2 hW'.out hW2)
  clear hW2 hW' kc
  go_wp2_with fail
  clear H1 H2 H3
  go_loopw [3,4,6] (TrailRel l t w) (fun _ _ v _=>ptrM v)
  case atStart=>exact HR.out
  case round=>
   clear HR
   obtain ⟨n,hn,rfl,ho3,ho4,hp,hbl⟩:=hrel
   have hs:=hbl.size
   rcases Nat.lt_or_ge n l.length with hlt | hge
   ·obtain ⟨hb1,hb2⟩:=ErrIn.node (n:=n) hin hlt
    have hb3:wr.heap[(nd l n).1]? = _:=(hbl.block _ (by omega)).trans hb2
    have hout:Hid (∀ w3:World,Below w.heap.size w w3→Calls Tryz.prog 107 #[errAt l t (n + 1)] w3 fun e w'=>e = .returned (ptrOf (l.drop (n + 1)))∧Below w3.heap.size w3 w'):=Lib.hid fun w3 h3=>by
     rw [zr9 (by omega)]
     exact zl0 B (l.drop (n + 1)) t w3 (by simp;omega) (hg.keep (h3.block 0 hg.pos)) (by have:=h3.size;omega) ((hin.drop (n + 1)).below h3 hB)
    have hms:Hid (ptrM (ptrOf (l.drop (n + 1))) < (nd l n).1 + 1):=Lib.hid (by
     rcases Nat.lt_or_ge (n + 1) l.length with h' | h'
     ·rw [zr8 h']
      have:=ErrIn.desc (i:=n) (j:=n + 1) hin (by omega) h'
      simp only [ptrM];omega
     ·rw [List.drop_of_length_le h'];simp [ptrOf,ptrM])
    have hnew:Hid (∀ (v3 v4:Value) (w2 w4:World),w2.ownsRow (w.heap.size + 1) 92 1 v3 (n + 1) (nums (l.take n) ++ [.int .i64 (nd l n).2.1])→w2.ownsRow (w.heap.size + 1) 190 1 v4 (n + 1) (ptrs (l.take n) ++ [.pointer (some ⟨(nd l n).1,0,none⟩)]) →
     Below (w.heap.size + 1) wr w2→Below (w2.setCell ⟨w.heap.size,0,none⟩ (errAt l t (n + 1))).heap.size (w2.setCell ⟨w.heap.size,0,none⟩ (errAt l t (n + 1))) w4→TrailRel l t w v3 v4 (ptrOf (l.drop (n + 1))) w4):=Lib.hid fun v3 v4 w2 w4 h3 h4 h5 h6=>by
     have hs5:=h5.size
     have hsz:(w2.setCell ⟨w.heap.size,0,none⟩ (errAt l t (n + 1))).heap.size=w2.heap.size:=by simp [World.setCell]
     refine ⟨n + 1,by omega,rfl,?_,?_,?_,?_⟩
     ·rw [zM6 hlt]
      have:=zp1 (ownsRow_setCell_below h3 (a:=⟨w.heap.size,0,none⟩) (by simp) (errAt l t (n + 1))) h6
      simpa [nums] using this
     ·rw [zM6 hlt]
      have:=zp1 (ownsRow_setCell_below h4 (a:=⟨w.heap.size,0,none⟩) (by simp) (errAt l t (n + 1))) h6
      simpa [ptrs] using this
     ·rw [h6.block _ (by rw [hsz];have:=(Array.getElem?_eq_some_iff.1 hp).1;omega)]
      exact set0 ((h5.block _ (by omega)).trans hp)
     ·exact ((hbl.trans (h5.mono (by omega))).setCell (by simp) _).trans (h6.mono (by rw [hsz];omega))
    have hv2:=zb4 (l.drop (n + 1)) t
    rw [← zr9 (show n + 1≤l.length by omega)] at hv2
    rw [zr8 hlt]
    have hpl:w.heap.size < wr.heap.size:=(Array.getElem?_eq_some_iff.1 hp).1
    generalize errAt l t (n + 1)=nx at *
    generalize (nd l n).1=b at *
    generalize (nd l n).2.1=c at *
    generalize ptrOf (l.drop (n + 1))=px at *
    have Hb3:=Lib.hid hb3
    have Hp:=Lib.hid hp
    have Hbl:=Lib.hid hbl
    have Ho3:=Lib.hid ho3
    have Ho4:=Lib.hid ho4
    have Hn:=Lib.hid (show n < 1000000 by omega)
    have hbB:b < w.heap.size:=by omega
    clear hb3 hp hbl ho3 ho4 hb1 hb2 hin hlt hn hs hl hB
    rcases hv2 with rfl | ⟨m',rfl⟩ | ⟨b',rfl⟩
    all_goals
     have q1:=Lib.hid (show n + 1≤maxLen by have:=Hn.out;unfold maxLen;omega)
     have q2:=Lib.hid (show (n + 1) * 8≤140737488355328 by have:=Hn.out;omega)
     have q3:=Lib.hid (show w.heap.size + 1≤wr.heap.size from hpl)
     have q4:=Lib.hid (show b < w.heap.size from hbB)
     clear hbB hpl
     go_wp2_with (first
      | (at_builtin
         refine zd7 rfl (.tmp 26) (.tmp 28) 212 rfl (w.heap.size + 1) 190 (.pointer none) 8 Tryz.underlying212 infoFt rfl _ n _ rfl Ho4.out 1 _ rfl rfl q1.out q2.out q3.out ?_
         intro v4 w1 ho4 hb4 hk4
         have Ho3':=Lib.hid (hk4 _ _ _ _ _ (by decide) Ho3.out)
         have Ho4':=Lib.hid ho4
         have Hb4:=Lib.hid hb4
         have k0:=(cells3 ((hb4.block b (by have:=q4.out;omega)).trans Hb3.out)).1
         have q5:=Lib.hid (show w.heap.size + 1≤w1.heap.size by have:=hb4.size;have:=q3.out;omega)
         clear ho4 hb4 hk4)
      | (at_builtin
         refine zd7 rfl (.tmp 30) (.tmp 35) 181 rfl (w.heap.size + 1) 92 (.int .i64 0) 8 Tryz.underlying181 infoN rfl _ n _ rfl Ho3'.out 1 _ rfl rfl q1.out q2.out q5.out ?_
         intro v3 w2 ho3 hb3 hk3
         have Ho4'':=Lib.hid (hk3 _ _ _ _ _ (by decide) Ho4'.out)
         have Ho3'':=Lib.hid ho3
         have Hb34:=Lib.hid (Hb4.out.trans hb3)
         have k2:=(cells3 ((Hb34.out.block b (by have:=q4.out;omega)).trans Hb3.out)).2.2
         have kp:=(cell0 ((Hb34.out.block w.heap.size (by omega)).trans Hp.out)).1
         have kf:=(cell0 ((Hb34.out.block w.heap.size (by omega)).trans Hp.out)).2
         clear ho3 hb3 hk3)
      | fail)
     refine (hout.out _ ((Hbl.out.trans (Hb34.out.mono (by omega))).setCell (by simp) _)).mono ?_
     rintro e w4 ⟨rfl,h4⟩
     have HR:=Lib.hid (hnew.out v3 v4 w2 w4 Ho3''.out Ho4''.out Hb34.out h4)
     clear h4
     go_wp2_with fail
     go_roundw
     case rel=>exact HR.out
     case measure=>exact hms.out
   ·obtain rfl:l.length=n:=by omega
    have hql:w.heap.size < wr.heap.size:=(Array.getElem?_eq_some_iff.1 hp).1
    rw [zg6] at hp
    rw [List.drop_length] at *
    rw [List.take_length] at ho3
    have hgr:HasType wr:=hg.keep (hbl.block 0 hg.pos)
    have hbn:Below wr.heap.size wr (wr.alloc (.cells #[.int .i64 0] 92)):=(Below.refl _ _).alloc (Nat.le_refl _) _
    have hE:=Lib.hid (zo0 0 [] t (wr.alloc (.cells #[.int .i64 0] 92)) (by simp) (Nat.zero_le _) trivial)
    have hT:Hid (∀ W5:World,Below (wr.heap.size + 1) (wr.alloc (.cells #[.int .i64 0] 92)) W5→Calls Tryz.prog 80 #[.func (.func 109) #[] #[.pointer (some ⟨w.heap.size,0,none⟩),.pointer (some ⟨wr.heap.size,0,none⟩)]] W5
     fun e w'=>e = .returned (.bool t.isSome)∧w'.heap[wr.heap.size]? = some (.cells #[.int .i64 (t.getD 0)] 92 (0,0))∧w'.ownsRow (w.heap.size + 1) 92 1 u3 l.length (nums l)∧Below w.heap.size w w'∧w.heap.size + 1≤w'.heap.size):=Lib.hid fun W5 h5=>by
     have hs5:=h5.size
     simp at hs5
     refine (trail2 t w.heap.size wr.heap.size W5 (hgr.keep ?_) ?_ (by omega) ?_ (by omega)).mono ?_
     ·rw [h5.block 0 (by omega),hbn.block 0 (by omega)]
     ·rw [h5.block _ (by omega),hbn.block _ (by omega)];exact hp
     ·rw [h5.block _ (by omega)];exact newAt _ _
     ·rintro e w' ⟨h1,h2,h3⟩
      have hb5:Below wr.heap.size wr W5:=hbn.trans (h5.mono (by omega))
      refine ⟨h1,h2,?_,?_,?_⟩
      ·refine (zp1 ho3 hb5).kept h3 ?_
       rcases ho3.2 with ⟨rfl,-⟩ | ⟨g,cap,cur,rfl,-,hg',-⟩
       ·exact .inl rfl
       ·have:=(Array.getElem?_eq_some_iff.1 hg').1
        exact .inr (by simp [Value.ownBlock];omega)
      ·exact (hbl.trans (hb5.mono (by omega))).grown h3 (by omega) (fun k hk=>by cases hk;omega)
      ·have:=h3.size;omega
    have hfin:Hid (∀ (v:Value) (w':World),w'.ownsRow (w.heap.size + 1) 92 1 v (codes l t).length ((codes l t).map (.int .i64))→Below w.heap.size w w'→TrailPost l t w (.returned v) w'):=Lib.hid fun v w' h1 h2=>⟨v,rfl,h1,h2⟩
    obtain ⟨hc,hf⟩:=cell0 (allocAt wr (.cells #[.int .i64 0] 92) _ hql |>.trans hp)
    have Hn:=Lib.hid hl
    clear ho3 ho4 hp hbl hs hbn hgr hin hl hn hg hB
    rw [show ptrOf []=Value.pointer none from rfl]
    have hv3:=zb4 [] t
    cases t with
    | none=>
     simp only [errV] at hc hE
     clear hv3
     go_wp2_with fail
     refine hE.out.mono ?_
     rintro e W5 ⟨rfl,h5⟩
     have HT:=Lib.hid (hT.out W5 (by simpa using h5))
     clear h5
     go_wp2_with fail
     refine HT.out.mono ?_
     rintro e w6 ⟨rfl,h1,h2,h3,h4⟩
     have Hf:=Lib.hid (hfin.out u3 w6 (by rw [zs0,zl1];simpa using h2) h3)
     clear h1 h2 h3 h4
     go_wp2_with fail
     go_ret
     exact Hf.out
    | some m1=>
     simp only [errV] at hc hE
     clear hv3
     go_wp2_with fail
     refine hE.out.mono ?_
     rintro e W5 ⟨rfl,h5⟩
     have HT:=Lib.hid (hT.out W5 (by simpa using h5))
     clear h5
     go_wp2_with fail
     refine HT.out.mono ?_
     rintro e w6 ⟨rfl,h1,h2,h3,h4⟩
     have q1:=Lib.hid (show l.length + 1≤maxLen by have:=Hn.out;unfold maxLen;omega)
     have q2:=Lib.hid (show (l.length + 1) * 8≤140737488355328 by have:=Hn.out;omega)
     have H2:=Lib.hid h2
     have H3:=Lib.hid h3
     have H4:=Lib.hid h4
     obtain ⟨k1,k2⟩:=cell0 h1
     simp only [Option.getD_some] at k1
     clear h1 h2 h3 h4
     go_wp2_with (at_builtin
                  refine zd7 rfl (.tmp 47) (.tmp 49) 181 rfl (w.heap.size + 1) 92 (.int .i64 0) 8 Tryz.underlying181 infoN rfl _ l.length _ rfl H2.out 1 _ rfl rfl q1.out q2.out H4.out ?_
                  intro v5 w7 ho5 hb5 _
                  have Hf:=Lib.hid (hfin.out v5 w7 (by rw [zs0,zl1];simpa using ho5) (H3.out.trans (hb5.mono (by omega))))
                  clear ho5 hb5)
     go_ret
     exact Hf.out
open Go.RowKit Go.Extern.Stop Go.Stop Go.Extern
theorem has1 (B:Nat) (l:List (Nat × Int × Int)) (t:Option Int) (code:Int) (p q:Nat) (w:World) (hin:ErrIn w t B l) (hp:w.heap[p]? = some (.cells #[errV l t] 58 (0,0))) (hq:w.heap[q]? = some (.cells #[.int .i64 code] 92 (0,0))) :
 Calls Tryz.prog 81 #[.pointer (some ⟨p,0,none⟩),.pointer (some ⟨q,0,none⟩)] w (Asked w none fun r _=>r=decide (code∈codes l t)):=by
 obtain ⟨hc,hf⟩:=cell0 hp
 obtain ⟨hc2,hf2⟩:=cell0 hq
 have H:Hid (Calls Tryz.prog 82 #[errV l t,.iface 92 (.int .i64 code)] w fun e w'=>e = .returned (.bool (decide (code∈codes l t)))∧w=w'):=Lib.hid (isTop B l t code w hin)
 have hv:=zb4 l t
 clear hp hq hin
 generalize errV l t=v at *
 generalize decide (code∈codes l t)=d at *
 rcases hv with rfl | ⟨m,rfl⟩ | ⟨b,rfl⟩
 all_goals
  go_enter Tryz.func81,Tryz.ntmps81
  go_wp2_with fail
  refine H.out.mono ?_
  rintro e w' ⟨rfl,rfl⟩
  have Hp:=Lib.hid (show Asked w none (fun r _=>r=d) (.returned (.bool d)) w from ⟨_,rfl,zf5 _ _,rfl⟩)
  go_wp2_with fail
  go_ret
  exact Hp.out
theorem enters31 (args:Array Value) (w:World):(callFunc 81 args).run Tryz.prog w = .ok (.enter 81 args) w:=
 enters Tryz.func81 (by kernel_rfl) rfl args w
set_option maxHeartbeats 1000000 in
theorem zM8 (B:Nat) (l:List (Nat × Int × Int)) (t:Option Int) (code:Int) (w:World) (hl:l.length≤1000000) (hB:B≤w.heap.size) (hin:ErrIn w t B l) :
 Calls Tryz.prog 50 #[errV l t,.int .i64 code] w fun e w'=>e = .returned (.bool (decide (code∈codes l t)))∧Below w.heap.size w w':=by
 have hmf:∀ (fn:Fn) (first cap:Array Value) (w:World),(Instr.makeFunc fn first cap).run Tryz.prog w = .ok (.func fn first cap) w:=fun _ _ _ _=>rfl
 have hb1:Below w.heap.size w ((w.alloc (.cells #[errV l t] 58)).alloc (.cells #[.int .i64 code] 92)):=((Below.refl _ _).alloc (Nat.le_refl _) _).alloc (by simp) _
 have H1:=Lib.hid (zo0 B l t ((w.alloc (.cells #[errV l t] 58)).alloc (.cells #[.int .i64 code] 92)) hl (by simp;omega) (hin.below hb1 hB))
 have H2:Hid (∀ W:World,Below (w.heap.size + 2) ((w.alloc (.cells #[errV l t] 58)).alloc (.cells #[.int .i64 code] 92)) W →
  Calls Tryz.prog 80 #[.func (.func 81) #[] #[.pointer (some ⟨w.heap.size,0,none⟩),.pointer (some ⟨w.heap.size + 1,0,none⟩)]] W
   fun e w'=>e = .returned (.bool (decide (code∈codes l t)))∧Below w.heap.size w w'):=Lib.hid fun W hW=>by
  have hs:=hW.size
  simp at hs
  have hbW:Below w.heap.size w W:=hb1.trans (hW.mono (by omega))
  have hbx:Below W.heap.size W (W.alloc (.cells #[.bool false] 4)):=(Below.refl _ _).alloc (Nat.le_refl _) _
  have h1:=has1 B l t code w.heap.size (w.heap.size + 1) (W.alloc (.cells #[.bool false] 4)) ((hin.below hbW hB).below hbx (by omega))
   (by rw [hbx.block _ (by omega),hW.block _ (by omega),allocAt _ _ _ (by simp)];exact newAt _ _)
   (by rw [hbx.block _ (by omega),hW.block _ (by omega)];exact newAt1 _ _ _)
  refine (zk9 _ _ W none _ (fun k hk=>by cases hk) enters31 h1).mono ?_
  intro e w' h
  obtain ⟨r,w1,rfl,rfl,-,-,h3⟩:=h.take
  exact ⟨rfl,hbW.trans (h3 _ (by omega) (fun k hk=>by cases hk))⟩
 have hv:=zb4 l t
 clear hin
 generalize errV l t=v at *
 generalize decide (code∈codes l t)=d at *
 rcases hv with rfl | ⟨m,rfl⟩ | ⟨b,rfl⟩
 all_goals
  clear hb1
  go_enter Tryz.func50,Tryz.ntmps50
  go_wp2_with fail
  refine H1.out.mono ?_
  rintro e W ⟨rfl,hW⟩
  have Hc:=Lib.hid (H2.out W (by simpa using hW))
  clear hW
  go_wp2_with fail
  refine Hc.out.mono ?_
  rintro e w2 ⟨rfl,hb⟩
  have Hb:=Lib.hid hb
  clear hb
  go_wp2_with fail
  go_ret
  exact ⟨rfl,Hb.out⟩
def rootOf (l:List (Nat × Int × Int)) (t:Option Int):Int:=(codes l t).getLastD 0
theorem zM9 {w:World} {B e n:Nat} {v:Value} {xs:List Value} (h:w.ownsRow B e 1 v n xs) (hn:0 < n) :
 ∃ g cap,v = .slice (some ⟨g,0,none⟩) n cap∧∀ j,j < n→w.cell? ⟨g,j,none⟩=xs[j]?:=by
 rcases h.2 with ⟨-,h0⟩ | ⟨g,cap,cur,rfl,-,hg,hcap,-,hcs,htake⟩
 ·omega
 ·refine ⟨g,cap,rfl,fun j hj=>?_⟩
  rw [cell_of_row w g j cur e (0,0) hg,← htake,List.getElem?_take]
  simp [hj]
theorem zN0 {l:List (Nat × Int × Int)} {t:Option Int} (h:(codes l t).length=0):l=[]∧t=none:=by
 rw [zl1] at h
 match l,t with
 | [],none=>exact ⟨rfl,rfl⟩
 | [],some _=>simp at h
 | _ :: _,_=>simp at h
theorem own_zero {w:World} {B e:Nat} {v:Value} {xs:List Value} (h:w.ownsRow B e 1 v 0 xs):v = .slice none 0 0∨∃ g cap,v = .slice (some ⟨g,0,none⟩) 0 cap:=by
 rcases h.2 with ⟨h,-⟩ | ⟨g,cap,cur,h,-⟩
 ·exact .inl h
 ·exact .inr ⟨g,cap,h⟩
set_option maxHeartbeats 1000000 in
theorem root_any (B:Nat) (l:List (Nat × Int × Int)) (t:Option Int) (w:World) (hl:l.length≤1000000) (hg:HasType w) (hB:B≤w.heap.size) (hin:ErrIn w t B l) :
 Calls Tryz.prog 67 #[errV l t] w fun e w'=>e = .returned (.int .i64 (rootOf l t))∧Below w.heap.size w w':=by
 have H:Hid (Calls Tryz.prog 79 #[errV l t] w fun e w'=>∃ v,e = .returned v∧w'.ownsRow (w.heap.size + 1) 92 1 v (codes l t).length ((codes l t).map (.int .i64))∧Below w.heap.size w w'):=Lib.hid (zM7 B l t w hl hg hB hin)
 clear hin
 have hcl:=zl1 l t
 rcases Nat.eq_zero_or_pos (codes l t).length with h0 | hpos
 ·obtain ⟨rfl,rfl⟩:=zN0 h0
  have hres:rootOf [] none=0:=rfl
  rw [hres]
  simp only [errV] at *
  clear hcl h0 hres
  go_enter Tryz.func67,Tryz.ntmps67
  go_wp2_with fail
  refine H.out.mono ?_
  rintro e w1 ⟨v,rfl,ho,hb⟩
  have Hb:=Lib.hid hb
  clear hb
  rcases own_zero ho with rfl | ⟨g,cap,rfl⟩
  all_goals
   clear ho
   go_wp2_with fail
   refine (zr3 _).mono ?_
   rintro e w' ⟨rfl,rfl⟩
   go_wp2_with fail
   go_ret
   exact ⟨rfl,Hb.out⟩
 ·have hv:=zb4 l t
  have hlen:(codes l t).length≤1000001:=by rw [hcl];cases t<;>simp<;>omega
  have hres:(codes l t)[(codes l t).length - 1]? = some (rootOf l t):=by
   unfold rootOf
   rw [List.getLastD_eq_getLast?,List.getLast?_eq_getElem?]
   rcases hc:(codes l t)[(codes l t).length - 1]? with _ | x
   ·rw [List.getElem?_eq_none_iff] at hc;omega
   ·rfl
  generalize errV l t=v0 at *
  generalize rootOf l t=r at *
  have hres':((codes l t).map (Value.int .i64))[(codes l t).length - 1]? = some (.int .i64 r):=by rw [List.getElem?_map,hres];rfl
  have Hres:=Lib.hid hres'
  clear hres hres' hcl hl hB
  generalize (codes l t).map (Value.int .i64)=xs at *
  generalize (codes l t).length=n at *
  rcases hv with rfl | ⟨m,rfl⟩ | ⟨b,rfl⟩
  all_goals
   go_enter Tryz.func67,Tryz.ntmps67
   go_wp2_with fail
   refine H.out.mono ?_
   rintro e w1 ⟨v,rfl,ho,hb⟩
   have Hb:=Lib.hid hb
   obtain ⟨g,cap,rfl,hat⟩:=zM9 ho hpos
   have k0:=(hat (n - 1) (by omega)).trans Hres.out
   have hz:((n:Int) == 0)=false:=by rw [beq_eq_false_iff_ne];omega
   clear hat ho hb
   go_wp2_with fail
   go_ret
   exact ⟨rfl,Hb.out⟩
end Go.Proofs.YtfgpfmhjnccccaaGreatDoor
