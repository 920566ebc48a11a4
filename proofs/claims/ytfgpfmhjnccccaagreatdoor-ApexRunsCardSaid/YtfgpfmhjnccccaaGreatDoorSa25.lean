import Derived.Test.YtfgpfmhjnccccaaGreatDoorSa01
import Derived.Test.YtfgpfmhjnccccaaGreatDoorSa02
import Derived.Test.YtfgpfmhjnccccaaGreatDoorSa23
import Derived.Test.YtfgpfmhjnccccaaGreatDoorSa11
import Derived.Test.YtfgpfmhjnccccaaGreatDoorSa17
import Derived.Test.YtfgpfmhjnccccaaGreatDoorSa05
import Derived.Test.YtfgpfmhjnccccaaGreatDoorSa19
namespace Go.Proofs.YtfgpfmhjnccccaaGreatDoor
open Go.RowKit
set_option maxRecDepth 100000
def wordV (l:List Nat):List Value:=l.map fun v=>.int .u16 (v:Nat)
theorem zi6 (l:List Nat):(wordV l).length=l.length:=List.length_map _
theorem zz6 (l:List Nat) (i v:Nat):wordV (l.set i v)=(wordV l).set i (.int .u16 (v:Nat)):=by unfold wordV;rw [List.map_set]
theorem ze6 {l:List Nat} {i:Nat} (h:i < l.length):(wordV l)[i]? = some (.int .u16 (l[i]?.getD 0:Nat)):=by
 unfold wordV
 rw [List.getElem?_map,List.getElem?_eq_getElem h]
 rfl
structure PartIn (W:World) (B pb part:Nat) (budget:Int) (wv:Value) (mem:List Nat):Prop where
 hd:W.heap[pb]? = some (.cells #[.int .i64 (part:Nat),.int .i64 budget,wv] 107 (0,0))
 row:W.ownsRow B 42 1 wv mem.length (wordV mem)
 ok:∀ v∈mem,v < 65536
 most:mem.length≤16
 base:B≤pb
structure HostC where
 x:PC
 mb:Nat
 vp:Value
 vr:Value
 tb:Nat
 tm:Option Nat
 tn:Nat
 tk:Nat
 cb:Nat
def hostV (h:HostC):Value:=.agg #[.pointer (some ⟨h.x.a,0,none⟩),.pointer (some ⟨h.tb,0,none⟩),.pointer (some ⟨h.mb,0,none⟩),.pointer (some ⟨h.cb,0,none⟩)]
structure HostIn (W:World) (B:Nat) (c:TableP.Cfg) (node:Nat) (rec:List (List Nat)) (T:RepP.T) (h:HostC) (sp:PorP.St) (mm:HeaP.Mon) (cc:RepP.Cmd):Prop where
 por:PIn W B c h.x
 nd:h.x.node=(node:Int)
 st:elSt h.x.es=sp
 mon:MonIn W B h.mb node rec mm h.vp h.vr
 tab:RepIn W h.tb h.tm T h.tn h.tk
 cmd:W.heap[h.cb]? = some (.cells (cmdVals cc).toArray 51 (0,0))
 cok:CmdIn cc
 base:B≤h.cb
def HF (h:HostC) (k:Nat):Prop:=EF h.x.g h.x.es k∨MonF h.mb h.vp h.vr k∨k=h.cb
def AF (h:HostC) (wv:Value) (k:Nat):Prop:=HF h k∨wv.ownBlock=some k
structure Went (W:World) (h:HostC) (wv:Value) (h':HostC) (W':World):Prop where
 apart:Apart (AF h wv) W W'
 f:∀ k,HF h' k→HF h k∨W.heap.size≤k
 a:h'.x.a=h.x.a
 mb:h'.mb=h.mb
 tb:h'.tb=h.tb
 cb:h'.cb=h.cb
 pre:h'.x.es.map El.pre=h.x.es.map El.pre
theorem Went.of_below {W W':World} (hb:Below W.heap.size W W') (h:HostC) (wv:Value):Went W h wv h W':=⟨Apart.of_below' hb,fun _ e=>.inl e,rfl,rfl,rfl,rfl,rfl⟩
theorem Went.trans {W W1 W2:World} {h h1 h2:HostC} {wv:Value} (p:Went W h wv h1 W1) (q:Went W1 h1 wv h2 W2):Went W h wv h2 W2:=by
 have hs:=p.apart.size
 refine ⟨p.apart.trans q.apart fun i hi=>?_,fun k hk=>?_,q.a.trans p.a,q.mb.trans p.mb,q.tb.trans p.tb,q.cb.trans p.cb,q.pre.trans p.pre⟩
 ·rcases hi with hi | hi
  ·rcases p.f i hi with h1 | h1
   ·exact .inl (.inl h1)
   ·exact .inr h1
  ·exact .inl (.inr hi)
 ·rcases q.f k hk with h1 | h1
  ·exact p.f k h1
  ·exact .inr (by omega)
theorem Went.value {W W':World} {h h':HostC} {wv:Value} (p:Went W h wv h' W'):hostV h'=hostV h:=by unfold hostV;rw [p.a,p.mb,p.tb,p.cb]
def Tag16 (t:TypeId):Prop:=t=130∨t=89∨t=140∨t=149∨t=137∨t=51∨t=42
def TouchA (B:Nat) (W W':World):Prop:=∃ F,Apart F W W'∧∀ k,F k→B≤k∧∃ cs t,W.heap[k]? = some (.cells cs t (0,0))∧Tag16 t
section
variable {W W' W2:World} {B:Nat}
theorem TouchA.of_below (h:Below W.heap.size W W'):TouchA B W W':=⟨fun _=>False,Apart.of_below' h,fun _ h=>h.elim⟩
theorem TouchA.below (h:TouchA B W W') (hB:B≤W.heap.size):Below B W W':=by
 obtain ⟨F,h1,h2⟩:=h
 exact h1.below hB fun k hk=>(h2 k hk).1
theorem TouchA.off (h:TouchA B W W') {k:Nat} {cs:Array Value} {t:TypeId} {f:Nat × Nat} (hk:W.heap[k]? = some (.cells cs t f)) (ht:¬ Tag16 t):W'.heap[k]? = some (.cells cs t f):=by
 obtain ⟨F,h1,h2⟩:=h
 refine (h1.block k (lt_of_block hk) fun hf=>?_).trans hk
 obtain ⟨-,cs',t',e1,e2⟩:=h2 k hf
 rw [hk] at e1
 simp only [Option.some.injEq,Obj.cells.injEq] at e1
 obtain ⟨-,rfl,-⟩:=e1
 exact ht e2
theorem TouchA.own {B0 e size n:Nat} {v:Value} {xs:List Value} (h:TouchA B W W') (ho:W.ownsRow B0 e size v n xs) (ht:¬ Tag16 e):W'.ownsRow B0 e size v n xs:=by
 obtain ⟨F,h1,h2⟩:=h
 refine za3 ho h1 fun k hk hf=>?_
 obtain ⟨-,cs',t',e1,e2⟩:=h2 k hf
 refine zb2 ho e1 (fun e=>ht (by rw [e];exact e2)) k hk rfl
theorem tag_u8:¬ Tag16 5:=by unfold Tag16;decide
theorem tag_op:¬ Tag16 91:=by unfold Tag16;decide
theorem zm6:¬ Tag16 94:=by unfold Tag16;decide
theorem zv2:¬ Tag16 107:=by unfold Tag16;decide
theorem zl7:¬ Tag16 36:=by unfold Tag16;decide
theorem tag_fault:¬ Tag16 192:=by unfold Tag16;decide
end
section
variable {W W' W2:World} {B:Nat} {c:TableP.Cfg} {node:Nat} {rec:List (List Nat)} {T:RepP.T} {h h':HostC} {st:PorP.St} {m:HeaP.Mon} {cmd:RepP.Cmd} {pb part:Nat} {budget:Int} {wv:Value} {mem:List Nat}
theorem MonIn.tag {b nd:Nat} {rc:List (List Nat)} {mm:HeaP.Mon} {vp vr:Value} (hm:MonIn W B b nd rc mm vp vr) {k:Nat} (hk:MonF b vp vr k):∃ cs t,W.heap[k]? = some (.cells cs t (0,0))∧(t=140∨t=149∨t=137):=by
 rcases hk with rfl | hk | hk
 ·exact ⟨_,_,hm.hd,.inl rfl⟩
 ·obtain ⟨cs,e⟩:=(Seg.of_own hm.wat).block k hk
  exact ⟨_,_,e,.inr (.inl rfl)⟩
 ·obtain ⟨cs,e⟩:=(Seg.of_own hm.recs).block k hk
  exact ⟨_,_,e,.inr (.inr rfl)⟩
theorem HostIn.fTag (hh:HostIn W B c node rec T h st m cmd) {k:Nat} (hk:HF h k):B≤k∧∃ cs t,W.heap[k]? = some (.cells cs t (0,0))∧Tag16 t∧t≠42:=by
 rcases hk with hk | hk | rfl
 ·obtain ⟨cs,t,e1,e2⟩:=hh.por.els.fTag hk
  refine ⟨(hh.por.els.fLt hk).1,cs,t,e1,?_,?_⟩
  ·rcases e2 with rfl | rfl
   ·exact .inl rfl
   ·exact .inr (.inl rfl)
  ·rcases e2 with rfl | rfl<;>decide
 ·obtain ⟨cs,t,e1,e2⟩:=hh.mon.tag hk
  refine ⟨(hh.mon.lt hk).1,cs,t,e1,?_,?_⟩
  ·rcases e2 with rfl | rfl | rfl
   ·exact .inr (.inr (.inl rfl))
   ·exact .inr (.inr (.inr (.inl rfl)))
   ·exact .inr (.inr (.inr (.inr (.inl rfl))))
  ·rcases e2 with rfl | rfl | rfl<;>decide
 ·exact ⟨hh.base,_,_,hh.cmd,.inr (.inr (.inr (.inr (.inr (.inl rfl))))),by decide⟩
theorem HostIn.fLt (hh:HostIn W B c node rec T h st m cmd) {k:Nat} (hk:HF h k):k < W.heap.size:=by
 obtain ⟨-,cs,t,e,-⟩:=hh.fTag hk
 exact lt_of_block e
theorem PartIn.fTag (hp:PartIn W B pb part budget wv mem) {k:Nat} (hk:wv.ownBlock=some k):B≤k∧∃ cs,W.heap[k]? = some (.cells cs 42 (0,0)):=⟨((Seg.of_own hp.row).lt k hk).1,(Seg.of_own hp.row).block k hk⟩
theorem Went.touch (p:Went W h wv h' W') (hh:HostIn W B c node rec T h st m cmd) (hp:PartIn W B pb part budget wv mem):TouchA B W W':=⟨_,p.apart,fun k hk=>by
 rcases hk with hk | hk
 ·obtain ⟨e1,cs,t,e2,e3,-⟩:=hh.fTag hk
  exact ⟨e1,cs,t,e2,e3⟩
 ·obtain ⟨e1,cs,e2⟩:=hp.fTag hk
  exact ⟨e1,cs,_,e2,.inr (.inr (.inr (.inr (.inr (.inr rfl)))))⟩⟩
theorem PartIn.apart {F:Nat→Prop} (hp:PartIn W B pb part budget wv mem) (ha:Apart F W W') (h1:¬ F pb) (h2:∀ k,wv.ownBlock=some k→¬ F k):PartIn W' B pb part budget wv mem:=
 ⟨(ha.block pb (lt_of_block hp.hd) h1).trans hp.hd,za3 hp.row ha h2,hp.ok,hp.most,hp.base⟩
theorem PartIn.below (hp:PartIn W B pb part budget wv mem) (hb:Below W.heap.size W W'):PartIn W' B pb part budget wv mem:=hp.apart (F:=fun _=>False) (Apart.of_below' hb) (fun h=>h) (fun _ _ h=>h)
theorem PartIn.hostOff (hp:PartIn W B pb part budget wv mem) (hh:HostIn W B c node rec T h st m cmd):¬ HF h pb∧∀ k,wv.ownBlock=some k→¬ HF h k:=by
 refine ⟨fun hk=>?_,fun k hk hf=>?_⟩
 ·obtain ⟨-,cs,t,e,e2,-⟩:=hh.fTag hk
  rw [hp.hd] at e
  simp only [Option.some.injEq,Obj.cells.injEq] at e
  obtain ⟨-,rfl,-⟩:=e
  exact zv2 e2
 ·obtain ⟨-,cs,t,e,-,e2⟩:=hh.fTag hf
  obtain ⟨-,cs',e'⟩:=hp.fTag hk
  rw [e'] at e
  simp only [Option.some.injEq,Obj.cells.injEq] at e
  exact e2 e.2.1.symm
theorem HostIn.below (hh:HostIn W B c node rec T h st m cmd) (hb:Below W.heap.size W W'):HostIn W' B c node rec T h st m cmd:=
 ⟨hh.por.below hb,hh.nd,hh.st,hh.mon.keep hb,hh.tab.below hb,(hb.block _ (lt_of_block hh.cmd)).trans hh.cmd,hh.cok,hh.base⟩
theorem HostIn.away {F:Nat→Prop} (hh:HostIn W B c node rec T h st m cmd) (ha:Apart F W W') (hF:∀ k,HF h k→¬ F k) (hT:∀ k,F k→∃ cs t,W.heap[k]? = some (.cells cs t (0,0))∧t≠5∧t≠3∧t≠124∧t≠147):HostIn W' B c node rec T h st m cmd:=by
 refine ⟨hh.por.beside ha (fun k hk=>hF k (.inl hk)) (fun k hk=>?_),hh.nd,hh.st,hh.mon.apart ha (fun k hk=>hF k (.inr (.inl hk))),hh.tab.apart ha (fun q hq hf=>?_),(ha.block _ (lt_of_block hh.cmd) (hF _ (.inr (.inr rfl)))).trans hh.cmd,hh.cok,hh.base⟩
 ·obtain ⟨cs,t,e1,e2,e3,e4,-⟩:=hT k hk
  exact ⟨cs,t,e1,e2,e3,e4⟩
 ·obtain ⟨cs,t,e1,-,-,-,e5⟩:=hT q hf
  rcases hq with rfl | hq
  ·rw [hh.tab.at_] at e1
   simp only [Option.some.injEq,Obj.cells.injEq] at e1
   exact e5 e1.2.1.symm
  ·obtain ⟨es,clock,e6⟩:=hh.tab.mp.block q hq
   rw [e6] at e1
   cases e1
end
def numsO:Option Nat→List Int
 | none=>[]
 | some k=>[(k:Int)]
def ErrE (W:World) (o:Option Nat) (v:Value):Prop:=∃ l t,v=errV l t∧l.length≤4∧ErrIn W t W.heap.size l∧codes l t=numsO o
theorem ErrE.none_ (W:World):ErrE W none .nilIface:=⟨[],none,rfl,by decide,trivial,rfl⟩
theorem ErrE.errno (W:World) (k:Nat) (z:Int) (hz:z=(k:Int)):ErrE W (some k) (.iface 92 (.int .i64 z)):=by
 subst hz
 exact ⟨[],some (k:Int),rfl,by decide,trivial,rfl⟩
theorem ErrE.below {W W':World} {o:Option Nat} {v:Value} (h:ErrE W o v) (hb:Below W.heap.size W W'):ErrE W' o v:=by
 obtain ⟨l,t,h1,h2,h3,h4⟩:=h
 exact ⟨l,t,h1,h2,(h3.below hb (Nat.le_refl _)).mono hb.size,h4⟩
theorem ErrE.isNil {W:World} {o:Option Nat} {v:Value} (h:ErrE W o v):v = .nilIface↔o=none:=by
 obtain ⟨l,t,rfl,-,-,h4⟩:=h
 rw [← zh3,h4]
 cases o<;>simp [numsO]
theorem errE_of {W:World} {o:Option Nat} {a:Int} {v:Value} (h:ErrV W o a v) (ho:∀ k,o=some k→1≤k∧k≤199) (ha:a≤9223372036854775807):ErrE W o v:=by
 cases o with
 | none=>
  obtain rfl:v = .nilIface:=h.form
  exact ErrE.none_ W
 | some k=>
  have hk:=ho k rfl
  obtain ⟨l,t,h1,h2,h3,h4,h5⟩:=h.text
  refine ⟨l,t,h1,h2,h3,?_⟩
  have hg:Good [((0:Nat),(k:Int),plc a)] none:=⟨fun n hn=>by
   obtain rfl:n=0:=by simpa using hn
   simp only [nd,List.getD_cons_zero]
   refine ⟨by omega,by omega,?_,?_⟩<;>(unfold plc;split<;>omega),fun m hm=>by cases hm⟩
  have e1:sufT none true [((0:Nat),(k:Int),plc a)]=atT k a:=by
   have:plc (plc a)=plc a:=by unfold plc;split<;>(try split)<;>omega
   simp only [sufT,Int.toNat_natCast,List.append_nil]
   unfold atT sep
   rw [this]
   simp
  have e2:=zk7 hg
  have e3:=zk7 h4
  rw [e1] at e2
  rw [← h5] at e3
  rw [← e3]
  exact e2
theorem zK3 {l:List (Nat × Int × Int)} {t:Option Int} {o:Option Nat} (h:codes l t=numsO o):rootOf l t=(o.getD 0:Nat):=by
 unfold rootOf
 rw [h]
 cases o<;>rfl
theorem zF1 (o:Option Nat):kindI (numsO o)=ApeP.kindOf o:=by
 cases o with
 | none=>rfl
 | some k=>
  unfold numsO kindI ApeP.kindOf HeaP.kindT
  simp only [List.mem_singleton,List.cons_ne_nil,if_false]
  have e:∀ n:Nat,((n:Int)=(k:Int))=(n=k):=fun n=>propext ⟨fun h=>by omega,fun h=>by omega⟩
  have e0:((151:Int)=(k:Int))=(151=k):=e 151
  have e1:((150:Int)=(k:Int))=(150=k):=e 150
  have e2:((17:Int)=(k:Int))=(17=k):=e 17
  have e3:((13:Int)=(k:Int))=(13=k):=e 13
  have e4:((12:Int)=(k:Int))=(12=k):=e 12
  have e5:((10:Int)=(k:Int))=(10=k):=e 10
  have e6:((11:Int)=(k:Int))=(11=k):=e 11
  have e7:((14:Int)=(k:Int))=(14=k):=e 14
  simp only [e0,e1,e2,e3,e4,e5,e6,e7]
theorem HasType.kept {W W':World} {B:Nat} (h:HasType W) (hB:0 < B) (hb:Below B W W'):HasType W':=h.keep (hb.block 0 hB)
open Go.RowKit
set_option maxRecDepth 100000
theorem za4 {w:World} {b:Nat} {cs:Array Value} (h:w.heap[b]? = some (.cells cs 94 (0,0))) (hs:cs.size=4) (vs:List Value) (hv:vs.length=4):(storeAll w b vs 0).heap[b]? = some (.cells vs.toArray 94 (0,0)):=by
 have:=zd2 (t:=94) vs 0 w [] cs.toList (by simpa using h) rfl (by simp [hs,hv])
 simpa using this
theorem zv3 {B:Nat} {w w':World} (h:Below B w w') {b:Nat} (hb:B≤b) (vs:List Value) (i:Nat) (hs:B≤w.heap.size):Below B w (storeAll w' b vs i):=
 h.trans ((za1 b vs i w').below (Nat.le_trans hs h.size) (fun k e=>by omega))
def FailP (k:Nat) (w:World) (e:Ending) (w':World):Prop:=e = .returned (resV (codeR k))∧Below w.heap.size w w'
theorem zs7 (w:World) (k:Nat) (v:Value) (h:ErrE w (some k) v) (hg:HasType w):Calls Tryz.prog 46 #[v] w (FailP k w):=by
 obtain ⟨l,t,rfl,hl,hin,hc⟩:=h
 have hb0:Below w.heap.size w (w.alloc (.cells #[.int .i64 0,.int .i64 0,.slice none 0 0,.bool false] 94)):=(Below.refl _ _).alloc (Nat.le_refl _) _
 have HR:=Lib.hid (root_any w.heap.size l t (w.alloc (.cells #[.int .i64 0,.int .i64 0,.slice none 0 0,.bool false] 94)) (by omega) (hg.keep (hb0.block 0 hg.pos)) (by simp) (hin.below hb0 (Nat.le_refl _)))
 rw [zK3 hc] at HR
 simp only [Option.getD_some] at HR
 have Hb0:=Lib.hid hb0
 have hat:(w.alloc (.cells #[.int .i64 0,.int .i64 0,.slice none 0 0,.bool false] 94)).heap[w.heap.size]? = some (.cells #[.int .i64 0,.int .i64 0,.slice none 0 0,.bool false] 94 (0,0)):=heap_alloc_new w _
 have Hat:=Lib.hid hat
 clear hb0 hin hg hc hl hat
 generalize errV l t=v at *
 go_enter Tryz.func46,Tryz.ntmps46
 go_wp2_with fail
 refine HR.out.mono ?_
 rintro e w1 ⟨rfl,hb⟩
 have hbz:w1.heap[w.heap.size]? = some (.cells #[.int .i64 0,.int .i64 0,.slice none 0 0,.bool false] 94 (0,0)):=(hb.block _ (by simp)).trans Hat.out
 have Hbz:=Lib.hid hbz
 have Hb1:=Lib.hid (Hb0.out.trans (hb.mono Hb0.out.size))
 have k0:=za0 hbz 0 rfl
 have k1:=za0 hbz 1 rfl
 have k2:=za0 hbz 2 rfl
 have k3:=za0 hbz 3 rfl
 have f:=fun i=>za2 hbz i
 clear hb hbz HR Hat
 go_wp2_with fail
 clear k0 k1 k2 k3 f
 show bodyPost _ _ _ _ _ (storeAll w1 w.heap.size [.int .i64 (k:Nat),.int .i64 0,.slice none 0 0,.bool false] 0)
 have hfin:=za4 Hbz.out rfl [.int .i64 (k:Nat),.int .i64 0,.slice none 0 0,.bool false] rfl
 have HF:=Lib.hid (zv3 Hb1.out (Nat.le_refl _) [.int .i64 (k:Nat),.int .i64 0,.slice none 0 0,.bool false] 0 (Nat.le_refl _))
 generalize storeAll w1 w.heap.size [.int .i64 (k:Nat),.int .i64 0,.slice none 0 0,.bool false] 0=Wf at *
 have r0:=za0 hfin 0 rfl
 have r1:=za0 hfin 1 rfl
 have r2:=za0 hfin 2 rfl
 have r3:=za0 hfin 3 rfl
 refine bodyPost_ret (v:=.agg #[.int .i64 (k:Nat),.int .i64 0,.slice none 0 0,.bool false]) (by simp [results,Tryz.results46,go_sem,r0,r1,r2,r3]) rfl ?_
 exact ⟨rfl,HF.out⟩
theorem cost_any (x:OpC) (w:World):Calls Tryz.prog 45 #[opV x] w (fun e w'=>e = .returned (.int .i64 (ApeP.costT x.plain))∧Below w.heap.size w w'):=by
 have Hb0:=Lib.hid ((Below.refl w.heap.size w).alloc (Nat.le_refl _) (.cells #[.int .u8 (x.kind:Nat),.int .i64 x.port,.int .i64 x.a,.int .i64 x.b,.int .i64 x.c,.slice x.D x.m x.cap] 91))
 obtain ⟨kind,port,a,b,c,D,m,cap,data⟩:=x
 unfold opV ApeP.costT OpC.plain
 simp only at *
 by_cases h:kind=5
 ·subst h
  by_cases h1:1 < a
  ·rw [if_pos ⟨rfl,h1⟩]
   have hm:max a 1=a:=by omega
   go_enter Tryz.func45,Tryz.ntmps45
   go_wp2_with fail
   go_ret
   first | exact ⟨by first | rfl | (congr 2;omega),Hb0.out⟩ | exact ⟨by simp;omega,Hb0.out⟩
  ·rw [if_neg (fun e=>h1 e.2)]
   have hm:max a 1=1:=by omega
   go_enter Tryz.func45,Tryz.ntmps45
   go_wp2_with fail
   go_ret
   first | exact ⟨by first | rfl | (congr 2;omega),Hb0.out⟩ | exact ⟨by simp;omega,Hb0.out⟩
 ·rw [if_neg (fun e=>h e.1)]
  have q1:((kind:Int) == 5)=false:=by rw [beq_eq_false_iff_ne];omega
  have q2:(kind == 5)=false:=by rw [beq_eq_false_iff_ne];omega
  go_enter Tryz.func45,Tryz.ntmps45
  go_wp2_with fail
  go_ret
  exact ⟨rfl,Hb0.out⟩
theorem zz7 (a:Int) (w:World):Calls Tryz.prog 100 #[.int .i64 a] w (fun e w'=>e = .returned (.bool (decide (0≤a∧a < 8)))∧w'=w):=by
 by_cases h1:0≤a
 ·by_cases h2:a < 8
  ·have e0:decide (0≤a∧a < 8)=true:=decide_eq_true ⟨h1,h2⟩
   have e1:decide (0≤a)=true:=decide_eq_true h1
   have e2:decide (a < 8)=true:=decide_eq_true h2
   rw [e0]
   clear h1 h2 e0
   go_enter Tryz.func100,Tryz.ntmps100
   go_wp2_with fail
   go_ret
   exact ⟨rfl,rfl⟩
  ·have e0:decide (0≤a∧a < 8)=false:=decide_eq_false (fun e=>h2 e.2)
   have e1:decide (0≤a)=true:=decide_eq_true h1
   have e2:decide (a < 8)=false:=decide_eq_false h2
   rw [e0]
   clear h1 h2 e0
   go_enter Tryz.func100,Tryz.ntmps100
   go_wp2_with fail
   go_ret
   exact ⟨rfl,rfl⟩
 ·have e0:decide (0≤a∧a < 8)=false:=decide_eq_false (fun e=>h1 e.1)
  have e1:decide (0≤a)=false:=decide_eq_false h1
  rw [e0]
  clear h1 e0
  go_enter Tryz.func100,Tryz.ntmps100
  go_wp2_with fail
  go_ret
  exact ⟨rfl,rfl⟩
theorem zq6 {W:World} {B pb part:Nat} {budget:Int} {wv:Value} {mem:List Nat} (h:PartIn W B pb part budget wv mem) (a:Int):Calls Tryz.prog 99 #[.pointer (some ⟨pb,0,none⟩),.int .i64 a] W (fun e w'=>e = .returned (.bool (decide (0≤a∧a < (mem.length:Int))))∧w'=W):=by
 obtain ⟨A,cap,rfl,-⟩:=za6 h.row
 have k2:W.cell? ⟨pb,2,none⟩=some (.slice A mem.length cap):=za0 h.hd 2 rfl
 clear h
 generalize mem.length=n at *
 by_cases h1:0≤a
 ·by_cases h2:a < (n:Int)
  ·have e0:decide (0≤a∧a < (n:Int))=true:=decide_eq_true ⟨h1,h2⟩
   have e1:decide (0≤a)=true:=decide_eq_true h1
   have e2:decide (a < (n:Int))=true:=decide_eq_true h2
   rw [e0]
   clear h1 h2 e0
   go_enter Tryz.func99,Tryz.ntmps99
   go_wp2_with fail
   go_ret
   exact ⟨rfl,rfl⟩
  ·have e0:decide (0≤a∧a < (n:Int))=false:=decide_eq_false (fun e=>h2 e.2)
   have e1:decide (0≤a)=true:=decide_eq_true h1
   have e2:decide (a < (n:Int))=false:=decide_eq_false h2
   rw [e0]
   clear h1 h2 e0
   go_enter Tryz.func99,Tryz.ntmps99
   go_wp2_with fail
   go_ret
   exact ⟨rfl,rfl⟩
 ·have e0:decide (0≤a∧a < (n:Int))=false:=decide_eq_false (fun e=>h1 e.1)
  have e1:decide (0≤a)=false:=decide_eq_false h1
  rw [e0]
  clear h1 e0
  go_enter Tryz.func99,Tryz.ntmps99
  go_wp2_with fail
  go_ret
  exact ⟨rfl,rfl⟩
open Go.RowKit
set_option maxRecDepth 100000
def ErrT (o:Option Nat) (x:List UInt8):Prop:=∃ p:Int,p≤9223372036854775807∧x=errO o p∧∀ k,o=some k→1≤k∧k≤199
theorem ErrT.none_:ErrT none []:=⟨0,by decide,rfl,fun _ h=>by cases h⟩
theorem ErrT.at_ {k:Nat} {p:Int} (hk:1≤k∧k≤199) (hp:p≤9223372036854775807):ErrT (some k) (atT k p):=⟨p,hp,rfl,fun j h=>by obtain rfl:=Option.some.inj h;exact hk⟩
theorem ErrT.len {o:Option Nat} {x:List UInt8} (h:ErrT o x):x.length≤42:=by
 obtain ⟨p,-,rfl,-⟩:=h
 cases o with
 | none=>exact Nat.zero_le _
 | some k=>exact atT_len k p
theorem ErrT.nil {o:Option Nat} {x:List UInt8} (h:ErrT o x):x=[]↔o=none:=by
 obtain ⟨p,-,rfl,-⟩:=h
 cases o with
 | none=>exact ⟨fun _=>rfl,fun _=>rfl⟩
 | some k=>exact ⟨fun e=>by simp [errO,atT] at e,fun e=>by cases e⟩
theorem ErrT.trail {o:Option Nat} {x:List UInt8} (h:ErrT o x):trailP x=numsO o:=by
 obtain ⟨p,hp,rfl,hk⟩:=h
 cases o with
 | none=>rfl
 | some k=>
  have hk:=hk k rfl
  have hg:Good [(0,(k:Int),plc p)] none:=by
   refine ⟨fun n hn=>?_,fun m hm=>by cases hm⟩
   obtain rfl:n=0:=by simpa using hn
   show 1≤(k:Int)∧(k:Int)≤199∧-1≤plc p∧plc p≤9223372036854775807
   unfold plc
   split<;>omega
  have h1:=zk7 hg
  have e:sufT none true [(0,(k:Int),plc p)]=errO (some k) p:=by
   show sep true ++ atT (k:Int).toNat (plc p) ++ []=atT k p
   have e2:plc (plc p)=plc p:=by unfold plc;split<;>simp_all
   simp [sep,atT,e2]
  rw [e] at h1
  rw [h1]
  rfl
theorem ErrT.kind {o:Option Nat} {x:List UInt8} (h:ErrT o x) (w:World):Calls Tryz.prog 36 #[strV x] w (RKindP (ApeP.kindOf o) w):=by
 have h1:=rkind_any x w (by have:=h.len;omega) (by
  rw [h.nil,h.trail]
  cases o with
  | none=>exact ⟨fun _=>rfl,fun _=>rfl⟩
  | some k=>simp [numsO])
 rw [h.trail,zF1] at h1
 exact h1
set_option maxHeartbeats 1000000 in
theorem zz8 (k:Nat) (x:List UInt8) (h:ErrT (some k) x) (w:World):Calls Tryz.prog 35 #[strV x] w fun e w'=>e = .returned (.int .i64 (k:Nat))∧Below w.heap.size w w':=by
 have H:Hid (Calls Tryz.prog 54 #[strV x] w fun e w'=>∃ g c,e = .returned (.slice (some ⟨g,0,none⟩) 1 c)∧w'.cell? ⟨g,0,none⟩=some (.int .i64 (k:Nat))∧Below w.heap.size w w'):=Lib.hid ((zn7 x w (by have:=h.len;omega)).mono fun e w' hq=>by
  obtain ⟨v,rfl,ho,hb⟩:=hq
  rw [h.trail] at ho
  have hl:(numsO (some k)).length=1:=rfl
  obtain ⟨g,cap,e1,hat⟩:=zM9 ho (by rw [hl];omega)
  exact ⟨g,cap,by rw [e1];rfl,hat 0 (by rw [hl];omega),hb⟩)
 clear h
 unfold strV at *
 go_enter Tryz.func35,Tryz.ntmps35
 go_wp2_with fail
 refine H.out.mono ?_
 rintro e w1 ⟨g,c,rfl,hc,hb⟩
 have HF:=Lib.hid hb
 clear hb
 go_wp2_with fail
 go_ret
 exact ⟨rfl,HF.out⟩
theorem rcost_any (x:OpC) (w:World):Calls Tryz.prog 32 #[opV x] w (fun e w'=>e = .returned (.int .i64 (ApeP.costT x.plain))∧Below w.heap.size w w'):=by
 have Hb0:=Lib.hid ((Below.refl w.heap.size w).alloc (Nat.le_refl _) (.cells #[.int .u8 (x.kind:Nat),.int .i64 x.port,.int .i64 x.a,.int .i64 x.b,.int .i64 x.c,.slice x.D x.m x.cap] 91))
 obtain ⟨kind,port,a,b,c,D,m,cap,data⟩:=x
 unfold opV ApeP.costT OpC.plain
 simp only at *
 by_cases h:kind=5
 ·subst h
  by_cases h1:1 < a
  ·rw [if_pos ⟨rfl,h1⟩]
   have q1:decide (1 < a)=true:=decide_eq_true h1
   go_enter Tryz.func32,Tryz.ntmps32
   go_wp2_with fail
   go_ret
   exact ⟨rfl,Hb0.out⟩
  ·rw [if_neg (fun e=>h1 e.2)]
   have q1:decide (1 < a)=false:=decide_eq_false h1
   go_enter Tryz.func32,Tryz.ntmps32
   go_wp2_with fail
   go_ret
   exact ⟨rfl,Hb0.out⟩
 ·rw [if_neg (fun e=>h e.1)]
  have q1:((kind:Int) == 5)=false:=by rw [beq_eq_false_iff_ne];omega
  have q2:(kind == 5)=false:=by rw [beq_eq_false_iff_ne];omega
  go_enter Tryz.func32,Tryz.ntmps32
  go_wp2_with fail
  go_ret
  exact ⟨rfl,Hb0.out⟩
open Go.RowKit
set_option maxRecDepth 100000
def valR (v:Int):ResC:=⟨0,v,none,0,[],false⟩
def InnP (r:ApeP.Res × Option Nat) (w:World) (e:Ending) (w':World):Prop:=∃ y v,e = .returned (.tuple #[resV y,v])∧y.plain=r.1∧(y.A=none∧y.cap=0)∧y.data=[]∧ErrE w' r.2 v∧Below w.heap.size w w'
theorem InnP.bad {w w':World} (k:Nat) (z:Int) (hz:z=(k:Int)) (hb:Below w.heap.size w w'):InnP (ApeP.Res.zero,some k) w (.returned (.tuple #[.agg #[.int .i64 0,.int .i64 0,.slice none 0 0,.bool false],.iface 92 (.int .i64 z)])) w':=⟨codeR 0,_,rfl,rfl,⟨rfl,rfl⟩,rfl,ErrE.errno _ _ _ hz,hb⟩
theorem InnP.good {w w':World} (c:Nat) (v z:Int) (hz:z=(c:Int)) (hb:Below w.heap.size w w'):InnP (⟨c,v,[],false⟩,none) w (.returned (.tuple #[.agg #[.int .i64 z,.int .i64 v,.slice none 0 0,.bool false],.nilIface])) w':=by
 subst hz
 exact ⟨⟨c,v,none,0,[],false⟩,_,rfl,rfl,⟨rfl,rfl⟩,rfl,ErrE.none_ _,hb⟩
theorem zc6 {w:World} {B e size n:Nat} {v:Value} {xs:List Value} (h:w.ownsRow B e size v n xs) (hn:0 < n):∃ g cap,v = .slice (some ⟨g,0,none⟩) n cap∧n≤cap:=by
 rcases h.2 with ⟨-,h0⟩ | ⟨g,cap,cur,rfl,-,-,hc,-⟩
 ·omega
 ·exact ⟨g,cap,rfl,hc⟩
def loadT (mem:List Nat) (a:Int):ApeP.Res × Option Nat:=if a < 0∨(mem.length:Int)≤a then (ApeP.Res.zero,some 150) else (⟨0,(mem[a.toNat]?.getD 0:Nat),[],false⟩,none)
theorem zd0 {w w1 w2:World} (h:Below w.heap.size w w1) (ha:Apart (fun k=>k=w.heap.size) w1 w2):Below w.heap.size w w2:=h.trans (ha.below h.size fun k e=>by omega)
set_option maxHeartbeats 1000000 in
theorem load_any {w:World} {B pb part:Nat} {budget:Int} {wv:Value} {mem:List Nat} (h:PartIn w B pb part budget wv mem) (a:Int):Calls Tryz.prog 71 #[.pointer (some ⟨pb,0,none⟩),.int .i64 a] w (InnP (loadT mem a) w):=by
 have hb0:Below w.heap.size w (w.alloc (.cells #[.int .i64 0,.int .i64 0,.slice none 0 0,.bool false] 94)):=(Below.refl _ _).alloc (Nat.le_refl _) _
 have HW:=Lib.hid (zq6 (h.below hb0) a)
 have Hat:=Lib.hid (show (w.alloc (.cells #[.int .i64 0,.int .i64 0,.slice none 0 0,.bool false] 94)).heap[w.heap.size]? = some (.cells #[.int .i64 0,.int .i64 0,.slice none 0 0,.bool false] 94 (0,0)) from heap_alloc_new w _)
 have HB0:=Lib.hid hb0
 by_cases hin:0≤a∧a < (mem.length:Int)
 case neg=>
  rw [decide_eq_false hin] at HW
  rw [show loadT mem a=(ApeP.Res.zero,some 150) from if_pos (by omega)]
  clear hin h hb0
  go_enter Tryz.func71,Tryz.ntmps71
  go_wp2_with fail
  refine HW.out.mono ?_
  rintro e w1 ⟨rfl,hw⟩
  have hbz:w1.heap[w.heap.size]? = some (.cells #[.int .i64 0,.int .i64 0,.slice none 0 0,.bool false] 94 (0,0)):=by rw [hw];exact Hat.out
  have Hbz:=Lib.hid hbz
  have Hb1:=Lib.hid (show Below w.heap.size w w1 by rw [hw];exact HB0.out)
  have k0:=za0 hbz 0 rfl
  have k1:=za0 hbz 1 rfl
  have k2:=za0 hbz 2 rfl
  have k3:=za0 hbz 3 rfl
  have f:=fun i=>za2 hbz i
  clear hw hbz HW HB0 Hat
  go_wp2_with fail
  clear k0 k1 k2 k3 f
  show bodyPost _ _ _ _ _ (storeAll w1 w.heap.size [.int .i64 0,.int .i64 0,.slice none 0 0,.bool false] 0)
  have hfin:=za4 Hbz.out rfl [.int .i64 0,.int .i64 0,.slice none 0 0,.bool false] rfl
  have HB:=Lib.hid (za1 w.heap.size [.int .i64 0,.int .i64 0,.slice none 0 0,.bool false] 0 w1)
  generalize storeAll w1 w.heap.size [.int .i64 0,.int .i64 0,.slice none 0 0,.bool false] 0=Wf at *
  have r0:=za0 hfin 0 rfl
  have r1:=za0 hfin 1 rfl
  have r2:=za0 hfin 2 rfl
  have r3:=za0 hfin 3 rfl
  refine bodyPost_ret (v:=.tuple #[.agg #[.int .i64 0,.int .i64 0,.slice none 0 0,.bool false],.iface 92 (.int .i64 150)]) (by simp [results,Tryz.results71,go_sem,r0,r1,r2,r3]) rfl ?_
  exact InnP.bad 150 150 rfl (zd0 Hb1.out HB.out)
 case pos=>
  rw [decide_eq_true hin] at HW
  rw [show loadT mem a=(⟨0,(mem[a.toNat]?.getD 0:Nat),[],false⟩,none) from if_neg (by omega)]
  obtain ⟨h1,h2⟩:=hin
  obtain ⟨i,rfl⟩:=Int.eq_ofNat_of_zero_le h1
  have hlt:i < mem.length:=by omega
  obtain ⟨g,cap,rfl,hcap⟩:=zc6 h.row (by omega)
  have kp:(w.alloc (.cells #[.int .i64 0,.int .i64 0,.slice none 0 0,.bool false] 94)).cell? ⟨pb,2,none⟩=some (.slice (some ⟨g,0,none⟩) mem.length cap):=za0 (h.below hb0).hd 2 rfl
  have kg:(w.alloc (.cells #[.int .i64 0,.int .i64 0,.slice none 0 0,.bool false] 94)).cell? ⟨g,i,none⟩=some (.int .u16 (mem[i]?.getD 0:Nat)):=((h.below hb0).row.cellAt i (by omega)).trans (ze6 hlt)
  have hv:mem[i]?.getD 0 < 65536:=h.ok _ (by rw [List.getElem?_eq_getElem hlt];exact List.getElem_mem hlt)
  have b1:IntKind.i64.wrap ((mem[i]?.getD 0:Nat):Int)=((mem[i]?.getD 0:Nat):Int):=IntWalk.i64_in _ (by omega)
  rw [Int.toNat_natCast]
  generalize mem[i]?.getD 0=v at *
  generalize mem.length=n at *
  have q1:decide ((i:Int) < (n:Int))=true:=decide_eq_true h2
  have q2:decide (i < n)=true:=decide_eq_true hlt
  have HKp:=Lib.hid kp
  have HKg:=Lib.hid kg
  clear kp kg h hb0 hcap
  go_enter Tryz.func71,Tryz.ntmps71
  go_wp2_with fail
  refine HW.out.mono ?_
  rintro e w1 ⟨rfl,hw⟩
  have kp:=HKp.out
  have kg:=HKg.out
  rw [← hw] at kp kg
  have hbz:w1.heap[w.heap.size]? = some (.cells #[.int .i64 0,.int .i64 0,.slice none 0 0,.bool false] 94 (0,0)):=by rw [hw];exact Hat.out
  have Hbz:=Lib.hid hbz
  have Hb1:=Lib.hid (show Below w.heap.size w w1 by rw [hw];exact HB0.out)
  have k0:=za0 hbz 0 rfl
  have k1:=za0 hbz 1 rfl
  have k2:=za0 hbz 2 rfl
  have k3:=za0 hbz 3 rfl
  have f:=fun i=>za2 hbz i
  clear hw hbz HW HB0 Hat HKp HKg
  go_wp2_with fail
  clear k0 k1 k2 k3 f kp kg
  show bodyPost _ _ _ _ _ (storeAll w1 w.heap.size [.int .i64 0,.int .i64 (v:Nat),.slice none 0 0,.bool false] 0)
  have hfin:=za4 Hbz.out rfl [.int .i64 0,.int .i64 (v:Nat),.slice none 0 0,.bool false] rfl
  have HB:=Lib.hid (za1 w.heap.size [.int .i64 0,.int .i64 (v:Nat),.slice none 0 0,.bool false] 0 w1)
  generalize storeAll w1 w.heap.size [.int .i64 0,.int .i64 (v:Nat),.slice none 0 0,.bool false] 0=Wf at *
  have r0:=za0 hfin 0 rfl
  have r1:=za0 hfin 1 rfl
  have r2:=za0 hfin 2 rfl
  have r3:=za0 hfin 3 rfl
  refine bodyPost_ret (v:=.tuple #[.agg #[.int .i64 0,.int .i64 (v:Nat),.slice none 0 0,.bool false],.nilIface]) (by simp [results,Tryz.results71,go_sem,r0,r1,r2,r3]) rfl ?_
  exact InnP.good 0 _ 0 rfl (zd0 Hb1.out HB.out)
def askT (T:RepP.T) (a:Int):ApeP.Res × Option Nat:=if a < 0∨7 < a then (ApeP.Res.zero,some 2) else match RepP.tat T a.toNat with | some v=>(⟨0,(v:Nat),[],false⟩,none) | none=>(⟨10,0,[],false⟩,none)
set_option maxHeartbeats 1000000 in
theorem ask_any16 {w:World} {b:Nat} {m:Option Nat} {T:RepP.T} {n k:Nat} (h:RepIn w b m T n k) (hT:∀ i v,RepP.tat T i=some v→v < 65536) (a:Int):Calls Tryz.prog 73 #[.pointer (some ⟨b,0,none⟩),.int .i64 a] w (InnP (askT T a) w):=by
 have hb0:Below w.heap.size w (w.alloc (.cells #[.int .i64 0,.int .i64 0,.slice none 0 0,.bool false] 94)):=(Below.refl _ _).alloc (Nat.le_refl _) _
 have HK:=Lib.hid (zz7 a (w.alloc (.cells #[.int .i64 0,.int .i64 0,.slice none 0 0,.bool false] 94)))
 have Hat:=Lib.hid (show (w.alloc (.cells #[.int .i64 0,.int .i64 0,.slice none 0 0,.bool false] 94)).heap[w.heap.size]? = some (.cells #[.int .i64 0,.int .i64 0,.slice none 0 0,.bool false] 94 (0,0)) from heap_alloc_new w _)
 have HB0:=Lib.hid hb0
 by_cases hin:0≤a∧a < 8
 case neg=>
  rw [decide_eq_false hin] at HK
  rw [show askT T a=(ApeP.Res.zero,some 2) from if_pos (by omega)]
  clear hin h hb0 hT
  go_enter Tryz.func73,Tryz.ntmps73
  go_wp2_with fail
  refine HK.out.mono ?_
  rintro e w1 ⟨rfl,hw⟩
  have hbz:w1.heap[w.heap.size]? = some (.cells #[.int .i64 0,.int .i64 0,.slice none 0 0,.bool false] 94 (0,0)):=by rw [hw];exact Hat.out
  have Hbz:=Lib.hid hbz
  have Hb1:=Lib.hid (show Below w.heap.size w w1 by rw [hw];exact HB0.out)
  have k0:=za0 hbz 0 rfl
  have k1:=za0 hbz 1 rfl
  have k2:=za0 hbz 2 rfl
  have k3:=za0 hbz 3 rfl
  have f:=fun i=>za2 hbz i
  clear hw hbz HK HB0 Hat
  go_wp2_with fail
  clear k0 k1 k2 k3 f
  show bodyPost _ _ _ _ _ (storeAll w1 w.heap.size [.int .i64 0,.int .i64 0,.slice none 0 0,.bool false] 0)
  have hfin:=za4 Hbz.out rfl [.int .i64 0,.int .i64 0,.slice none 0 0,.bool false] rfl
  have HB:=Lib.hid (za1 w.heap.size [.int .i64 0,.int .i64 0,.slice none 0 0,.bool false] 0 w1)
  generalize storeAll w1 w.heap.size [.int .i64 0,.int .i64 0,.slice none 0 0,.bool false] 0=Wf at *
  have r0:=za0 hfin 0 rfl
  have r1:=za0 hfin 1 rfl
  have r2:=za0 hfin 2 rfl
  have r3:=za0 hfin 3 rfl
  refine bodyPost_ret (v:=.tuple #[.agg #[.int .i64 0,.int .i64 0,.slice none 0 0,.bool false],.iface 92 (.int .i64 2)]) (by simp [results,Tryz.results73,go_sem,r0,r1,r2,r3]) rfl ?_
  exact InnP.bad 2 2 rfl (zd0 Hb1.out HB.out)
 case pos=>
  rw [decide_eq_true hin] at HK
  obtain ⟨h1,h2⟩:=hin
  obtain ⟨i,rfl⟩:=Int.eq_ofNat_of_zero_le h1
  have hA:Hid (∀ w1,w1=w.alloc (.cells #[.int .i64 0,.int .i64 0,.slice none 0 0,.bool false] 94)→Calls Tryz.prog 101 #[.pointer (some ⟨b,0,none⟩),.int .u8 (i:Nat)] w1 (AskP14 (RepP.tat T i) w1)):=Lib.hid fun w1 e=>by
   subst e
   exact rask_any _ b m T n k (h.below hb0) i (by omega)
  have b1:IntKind.u8.wrap (i:Int)=(i:Int):=by rw [IntKind.wrap_u8];omega
  unfold askT
  rw [if_neg (by omega),Int.toNat_natCast]
  cases ho:RepP.tat T i with
  | none=>
   simp only
   rw [ho] at hA
   clear h hb0 hT ho h1 h2
   go_enter Tryz.func73,Tryz.ntmps73
   go_wp2_with fail
   refine HK.out.mono ?_
   rintro e w1 ⟨rfl,hw⟩
   have hbz:w1.heap[w.heap.size]? = some (.cells #[.int .i64 0,.int .i64 0,.slice none 0 0,.bool false] 94 (0,0)):=by rw [hw];exact Hat.out
   have Hbz:=Lib.hid hbz
   have Hb1:=Lib.hid (show Below w.heap.size w w1 by rw [hw];exact HB0.out)
   have HA1:=Lib.hid (hA.out w1 hw)
   have k0:=za0 hbz 0 rfl
   have k1:=za0 hbz 1 rfl
   have k2:=za0 hbz 2 rfl
   have k3:=za0 hbz 3 rfl
   have f:=fun i=>za2 hbz i
   clear hw hbz HK HB0 Hat hA
   go_wp2_with fail
   refine HA1.out.mono ?_
   rintro e w2 ⟨rfl,rfl⟩
   simp only [askV,errN,Option.getD_none,Option.isSome_none]
   go_wp2_with fail
   clear k0 k1 k2 k3 f
   show bodyPost _ _ _ _ _ (storeAll w2 w.heap.size [.int .i64 10,.int .i64 0,.slice none 0 0,.bool false] 0)
   have hfin:=za4 Hbz.out rfl [.int .i64 10,.int .i64 0,.slice none 0 0,.bool false] rfl
   have HB:=Lib.hid (za1 w.heap.size [.int .i64 10,.int .i64 0,.slice none 0 0,.bool false] 0 w2)
   generalize storeAll w2 w.heap.size [.int .i64 10,.int .i64 0,.slice none 0 0,.bool false] 0=Wf at *
   have r0:=za0 hfin 0 rfl
   have r1:=za0 hfin 1 rfl
   have r2:=za0 hfin 2 rfl
   have r3:=za0 hfin 3 rfl
   refine bodyPost_ret (v:=.tuple #[.agg #[.int .i64 10,.int .i64 0,.slice none 0 0,.bool false],.nilIface]) (by simp [results,Tryz.results73,go_sem,r0,r1,r2,r3]) rfl ?_
   exact InnP.good 10 0 10 rfl (zd0 Hb1.out HB.out)
  | some v=>
   simp only
   have hv:=hT i v ho
   have b2:IntKind.i64.wrap (v:Int)=(v:Int):=IntWalk.i64_in _ (by omega)
   rw [ho] at hA
   clear h hb0 hT ho h1 h2
   go_enter Tryz.func73,Tryz.ntmps73
   go_wp2_with fail
   refine HK.out.mono ?_
   rintro e w1 ⟨rfl,hw⟩
   have hbz:w1.heap[w.heap.size]? = some (.cells #[.int .i64 0,.int .i64 0,.slice none 0 0,.bool false] 94 (0,0)):=by rw [hw];exact Hat.out
   have Hbz:=Lib.hid hbz
   have Hb1:=Lib.hid (show Below w.heap.size w w1 by rw [hw];exact HB0.out)
   have HA1:=Lib.hid (hA.out w1 hw)
   have k0:=za0 hbz 0 rfl
   have k1:=za0 hbz 1 rfl
   have k2:=za0 hbz 2 rfl
   have k3:=za0 hbz 3 rfl
   have f:=fun i=>za2 hbz i
   clear hw hbz HK HB0 Hat hA
   go_wp2_with fail
   refine HA1.out.mono ?_
   rintro e w2 ⟨rfl,rfl⟩
   simp only [askV,errN,Option.getD_some,Option.isSome_some]
   go_wp2_with fail
   clear k0 k1 k2 k3 f
   show bodyPost _ _ _ _ _ (storeAll w2 w.heap.size [.int .i64 0,.int .i64 (v:Nat),.slice none 0 0,.bool false] 0)
   have hfin:=za4 Hbz.out rfl [.int .i64 0,.int .i64 (v:Nat),.slice none 0 0,.bool false] rfl
   have HB:=Lib.hid (za1 w.heap.size [.int .i64 0,.int .i64 (v:Nat),.slice none 0 0,.bool false] 0 w2)
   generalize storeAll w2 w.heap.size [.int .i64 0,.int .i64 (v:Nat),.slice none 0 0,.bool false] 0=Wf at *
   have r0:=za0 hfin 0 rfl
   have r1:=za0 hfin 1 rfl
   have r2:=za0 hfin 2 rfl
   have r3:=za0 hfin 3 rfl
   refine bodyPost_ret (v:=.tuple #[.agg #[.int .i64 0,.int .i64 (v:Nat),.slice none 0 0,.bool false],.nilIface]) (by simp [results,Tryz.results73,go_sem,r0,r1,r2,r3]) rfl ?_
   exact InnP.good 0 _ 0 rfl (zd0 Hb1.out HB.out)
open Go.RowKit
set_option maxRecDepth 100000
def storeT (mem:List Nat) (a:Int) (v:Nat):(ApeP.Res × Option Nat) × List Nat:=if a < 0∨(mem.length:Int)≤a then ((ApeP.Res.zero,some 150),mem) else ((⟨0,(v:Nat),[],false⟩,none),mem.set a.toNat v)
def StoreP (w:World) (B pb part:Nat) (budget:Int) (wv:Value) (r:(ApeP.Res × Option Nat) × List Nat) (e:Ending) (w':World):Prop:=∃ y ev,e = .returned (.tuple #[resV y,ev])∧y.plain=r.1.1∧(y.A=none∧y.cap=0)∧y.data=[]∧ErrE w' r.1.2 ev∧PartIn w' B pb part budget wv r.2∧Apart (fun k=>wv.ownBlock=some k) w w'
theorem PartIn.set {w:World} {B pb part n:Nat} {budget:Int} {g cap:Nat} {mem:List Nat} (hn:mem.length=n) (h:PartIn w B pb part budget (.slice (some ⟨g,0,none⟩) n cap) mem) (i v:Nat) (hv:v < 65536):PartIn (w.setCell ⟨g,i,none⟩ (.int .u16 (v:Nat))) B pb part budget (.slice (some ⟨g,0,none⟩) n cap) (mem.set i v)∧Apart (fun k=>k=g) w (w.setCell ⟨g,i,none⟩ (.int .u16 (v:Nat))):=by
 have ha:Apart (fun k=>k=g) w (w.setCell ⟨g,i,none⟩ (.int .u16 (v:Nat))):=(Apart.refl (fun k=>k=g) w).setCell (p:=⟨g,i,none⟩) (.inl rfl) _
 have hr:=h.row
 rw [hn] at hr
 have h1:=(hr.stored i (.int .u16 (v:Nat))).1
 refine ⟨⟨(ha.block pb (lt_of_block h.hd) (fun e=>zb2 h.row h.hd (by decide) g rfl e.symm)).trans h.hd,?_,fun x hx=>?_,by rw [List.length_set];exact h.most,h.base⟩,ha⟩
 ·rw [List.length_set,hn,zz6]
  exact h1
 ·rcases List.mem_or_eq_of_mem_set hx with e | e
  ·exact h.ok x e
  ·rw [e];exact hv
set_option maxHeartbeats 1000000 in
theorem store_any {w:World} {B pb part:Nat} {budget:Int} {wv:Value} {mem:List Nat} (h:PartIn w B pb part budget wv mem) (a:Int) (v:Nat) (hv:v < 65536):Calls Tryz.prog 70 #[.pointer (some ⟨pb,0,none⟩),.int .i64 a,.int .u16 (v:Nat)] w (StoreP w B pb part budget wv (storeT mem a v)):=by
 have hb0:Below w.heap.size w (w.alloc (.cells #[.int .i64 0,.int .i64 0,.slice none 0 0,.bool false] 94)):=(Below.refl _ _).alloc (Nat.le_refl _) _
 have HW:=Lib.hid (zq6 (h.below hb0) a)
 have Hat:=Lib.hid (show (w.alloc (.cells #[.int .i64 0,.int .i64 0,.slice none 0 0,.bool false] 94)).heap[w.heap.size]? = some (.cells #[.int .i64 0,.int .i64 0,.slice none 0 0,.bool false] 94 (0,0)) from heap_alloc_new w _)
 have HB0:=Lib.hid hb0
 by_cases hin:0≤a∧a < (mem.length:Int)
 case neg=>
  rw [decide_eq_false hin] at HW
  rw [show storeT mem a v=((ApeP.Res.zero,some 150),mem) from if_pos (by omega)]
  have HEnd:Hid (∀ W,Below w.heap.size w W→StoreP w B pb part budget wv ((ApeP.Res.zero,some 150),mem) (.returned (.tuple #[.agg #[.int .i64 0,.int .i64 0,.slice none 0 0,.bool false],.iface 92 (.int .i64 150)])) W):=Lib.hid fun W hW=>⟨codeR 0,_,rfl,rfl,⟨rfl,rfl⟩,rfl,ErrE.errno _ _ _ rfl,h.below hW,Apart.of_below' hW⟩
  clear hin h hb0
  go_enter Tryz.func70,Tryz.ntmps70
  go_wp2_with fail
  refine HW.out.mono ?_
  rintro e w1 ⟨rfl,hw⟩
  have hbz:w1.heap[w.heap.size]? = some (.cells #[.int .i64 0,.int .i64 0,.slice none 0 0,.bool false] 94 (0,0)):=by rw [hw];exact Hat.out
  have Hbz:=Lib.hid hbz
  have Hb1:=Lib.hid (show Below w.heap.size w w1 by rw [hw];exact HB0.out)
  have k0:=za0 hbz 0 rfl
  have k1:=za0 hbz 1 rfl
  have k2:=za0 hbz 2 rfl
  have k3:=za0 hbz 3 rfl
  have f:=fun i=>za2 hbz i
  clear hw hbz HW HB0 Hat
  go_wp2_with fail
  clear k0 k1 k2 k3 f
  show bodyPost _ _ _ _ _ (storeAll w1 w.heap.size [.int .i64 0,.int .i64 0,.slice none 0 0,.bool false] 0)
  have hfin:=za4 Hbz.out rfl [.int .i64 0,.int .i64 0,.slice none 0 0,.bool false] rfl
  have HB:=Lib.hid (za1 w.heap.size [.int .i64 0,.int .i64 0,.slice none 0 0,.bool false] 0 (w1))
  generalize storeAll w1 w.heap.size [.int .i64 0,.int .i64 0,.slice none 0 0,.bool false] 0=Wf at *
  have r0:=za0 hfin 0 rfl
  have r1:=za0 hfin 1 rfl
  have r2:=za0 hfin 2 rfl
  have r3:=za0 hfin 3 rfl
  refine bodyPost_ret (v:=.tuple #[.agg #[.int .i64 0,.int .i64 0,.slice none 0 0,.bool false],.iface 92 (.int .i64 150)]) (by simp [results,Tryz.results70,go_sem,r0,r1,r2,r3]) rfl ?_
  exact HEnd.out _ (zd0 Hb1.out HB.out)
 case pos=>
  rw [decide_eq_true hin] at HW
  rw [show storeT mem a v=((⟨0,(v:Nat),[],false⟩,none),mem.set a.toNat v) from if_neg (by omega)]
  obtain ⟨h1,h2⟩:=hin
  obtain ⟨i,rfl⟩:=Int.eq_ofNat_of_zero_le h1
  have hlt:i < mem.length:=by omega
  obtain ⟨g,cap,rfl,hcap⟩:=zc6 h.row (by omega)
  obtain ⟨n,hn⟩:∃ n,mem.length=n:=⟨_,rfl⟩
  rw [hn] at h h2 hlt hcap
  rw [hn,Int.toNat_natCast]
  have kp:(w.alloc (.cells #[.int .i64 0,.int .i64 0,.slice none 0 0,.bool false] 94)).cell? ⟨pb,2,none⟩=some (.slice (some ⟨g,0,none⟩) n cap):=za0 (h.below hb0).hd 2 rfl
  have fg:(w.alloc (.cells #[.int .i64 0,.int .i64 0,.slice none 0 0,.bool false] 94)).frozen? ⟨g,i,none⟩=false:=by
   have hsg:=(h.below hb0).row
   rw [hn] at hsg
   exact (Seg.of_own hsg).frozen i
  have kg:(w.alloc (.cells #[.int .i64 0,.int .i64 0,.slice none 0 0,.bool false] 94)).cell? ⟨g,i,none⟩=some (.int .u16 (mem[i]?.getD 0:Nat)):=by
   have hsg:=(h.below hb0).row
   rw [hn] at hsg
   exact (hsg.cellAt i (by omega)).trans (ze6 (by omega))
  have b1:IntKind.i64.wrap (v:Int)=(v:Int):=IntWalk.i64_in _ (by omega)
  have q1:decide ((i:Int) < (n:Int))=true:=decide_eq_true h2
  have q2:decide (i < n)=true:=decide_eq_true hlt
  have hgl:g < w.heap.size:=((Seg.of_own h.row).lt g rfl).2
  have HEnd:Hid (∀ w1,w1=w.alloc (.cells #[.int .i64 0,.int .i64 0,.slice none 0 0,.bool false] 94)→∀ W,Apart (fun k=>k=w.heap.size) (w1.setCell ⟨g,i,none⟩ (.int .u16 (v:Nat))) W→StoreP w B pb part budget (.slice (some ⟨g,0,none⟩) n cap) ((⟨0,(v:Nat),[],false⟩,none),mem.set i v) (.returned (.tuple #[.agg #[.int .i64 0,.int .i64 (v:Nat),.slice none 0 0,.bool false],.nilIface])) W):=Lib.hid fun w1 e W hW=>by
   subst e
   obtain ⟨e1,e2⟩:=(h.below hb0).set hn i v hv
   have hsz:(w.alloc (.cells #[.int .i64 0,.int .i64 0,.slice none 0 0,.bool false] 94)).heap.size=w.heap.size + 1:=by simp
   have e2s:=e2.size
   have e3:PartIn W B pb part budget (.slice (some ⟨g,0,none⟩) n cap) (mem.set i v):=e1.apart hW (fun e=>by have:=lt_of_block h.hd;omega) (fun k hk e=>by
    have e4:g=k:=Option.some.inj hk
    omega)
   refine ⟨valR (v:Nat),_,rfl,rfl,⟨rfl,rfl⟩,rfl,ErrE.none_ _,e3,((Apart.of_below' hb0).trans e2 fun k hk=>.inl (by rw [hk];rfl)).trans hW fun k hk=>.inr (by omega)⟩
  have HKp:=Lib.hid kp
  have HKg:=Lib.hid kg
  have HFg:=Lib.hid fg
  have hne:w.heap.size≠g:=by omega
  clear kp kg fg h hb0 hcap hgl hn hv
  go_enter Tryz.func70,Tryz.ntmps70
  go_wp2_with fail
  refine HW.out.mono ?_
  rintro e w1 ⟨rfl,hw⟩
  have kp:=HKp.out
  have fg:=HFg.out
  have kg:=HKg.out
  rw [← hw] at kp fg kg
  have hbz:(w1.setCell ⟨g,i,none⟩ (.int .u16 (v:Nat))).heap[w.heap.size]? = some (.cells #[.int .i64 0,.int .i64 0,.slice none 0 0,.bool false] 94 (0,0)):=(Below.heap_setCell _ _ _ _ hne).trans (by rw [hw];exact Hat.out)
  have Hbz:=Lib.hid hbz
  have HEn:=Lib.hid (HEnd.out w1 hw)
  have k0:=za0 hbz 0 rfl
  have k1:=za0 hbz 1 rfl
  have k2:=za0 hbz 2 rfl
  have k3:=za0 hbz 3 rfl
  have f:=fun i=>za2 hbz i
  clear hw hbz HW HB0 Hat HKp HKg HFg hne HEnd
  go_wp2_with fail
  clear k0 k1 k2 k3 f kp kg fg
  show bodyPost _ _ _ _ _ (storeAll (w1.setCell ⟨g,i,none⟩ (.int .u16 (v:Nat))) w.heap.size [.int .i64 0,.int .i64 (v:Nat),.slice none 0 0,.bool false] 0)
  have hfin:=za4 Hbz.out rfl [.int .i64 0,.int .i64 (v:Nat),.slice none 0 0,.bool false] rfl
  have HB:=Lib.hid (za1 w.heap.size [.int .i64 0,.int .i64 (v:Nat),.slice none 0 0,.bool false] 0 ((w1.setCell ⟨g,i,none⟩ (.int .u16 (v:Nat)))))
  generalize storeAll (w1.setCell ⟨g,i,none⟩ (.int .u16 (v:Nat))) w.heap.size [.int .i64 0,.int .i64 (v:Nat),.slice none 0 0,.bool false] 0=Wf at *
  have r0:=za0 hfin 0 rfl
  have r1:=za0 hfin 1 rfl
  have r2:=za0 hfin 2 rfl
  have r3:=za0 hfin 3 rfl
  refine bodyPost_ret (v:=.tuple #[.agg #[.int .i64 0,.int .i64 (v:Nat),.slice none 0 0,.bool false],.nilIface]) (by simp [results,Tryz.results70,go_sem,r0,r1,r2,r3]) rfl ?_
  exact HEn.out _ HB.out
def waitC (cmd:RepP.Cmd) (a:Int) (x:RepP.Cmd):Option Nat × RepP.Cmd:=if a < 0∨7 < a then (some 2,cmd) else if cmd.kind≠0 then (some 14,cmd) else (none,⟨x.kind,a.toNat,x.val,x.old⟩)
def WaitP (w:World) (cb:Nat) (r:Option Nat × RepP.Cmd) (e:Ending) (w':World):Prop:=∃ v,e = .returned v∧ErrE w' r.1 v∧w'.heap[cb]? = some (.cells (cmdVals r.2).toArray 51 (0,0))∧Apart (fun k=>k=cb) w w'
theorem zf7 {w:World} {b:Nat} {cs:Array Value} (h:w.heap[b]? = some (.cells cs 51 (0,0))) (hs:cs.size=4) (vs:List Value) (hv:vs.length=4):(storeAll w b vs 0).heap[b]? = some (.cells vs.toArray 51 (0,0)):=by
 have:=zd2 (t:=51) vs 0 w [] cs.toList (by simpa using h) rfl (by simp [hs,hv])
 simpa using this
set_option maxHeartbeats 1000000 in
theorem zv4 (w:World) (hst:HostC) (cmd:RepP.Cmd) (hc:w.heap[hst.cb]? = some (.cells (cmdVals cmd).toArray 51 (0,0))) (a:Int) (x:RepP.Cmd):Calls Tryz.prog 72 #[hostV hst,.int .i64 a,cmdV14 x] w (WaitP w hst.cb (waitC cmd a x)):=by
 have hb0:Below w.heap.size w ((w.alloc (.cells #[.pointer (some ⟨hst.x.a,0,none⟩),.pointer (some ⟨hst.tb,0,none⟩),.pointer (some ⟨hst.mb,0,none⟩),.pointer (some ⟨hst.cb,0,none⟩)] 36)).alloc (.cells #[.int .u8 (x.kind:Nat),.int .u8 (x.key:Nat),.int .u16 (x.val:Nat),.int .u16 (x.old:Nat)] 51)):=((Below.refl _ _).alloc (Nat.le_refl _) _).alloc (by simp) _
 have hlt:hst.cb < w.heap.size:=lt_of_block hc
 unfold hostV cmdV14
 obtain ⟨xk,xy,xv,xo⟩:=x
 generalize hst.x.a=pa at *
 generalize hst.tb=tb at *
 generalize hst.mb=mb at *
 generalize hst.cb=cb at *
 simp only at *
 generalize hW0:((w.alloc (.cells #[.pointer (some ⟨pa,0,none⟩),.pointer (some ⟨tb,0,none⟩),.pointer (some ⟨mb,0,none⟩),.pointer (some ⟨cb,0,none⟩)] 36)).alloc (.cells #[.int .u8 (xk:Nat),.int .u8 (xy:Nat),.int .u16 (xv:Nat),.int .u16 (xo:Nat)] 51))=W0 at *
 have hH:W0.heap[w.heap.size]? = some (.cells #[.pointer (some ⟨pa,0,none⟩),.pointer (some ⟨tb,0,none⟩),.pointer (some ⟨mb,0,none⟩),.pointer (some ⟨cb,0,none⟩)] 36 (0,0)):=by rw [← hW0,allocAt _ _ _ (by simp)];exact newAt _ _
 have hX:W0.heap[w.heap.size + 1]? = some (.cells #[.int .u8 (xk:Nat),.int .u8 (xy:Nat),.int .u16 (xv:Nat),.int .u16 (xo:Nat)] 51 (0,0)):=by rw [← hW0];exact newAt1 _ _ _
 have hC:W0.heap[cb]? = some (.cells (cmdVals cmd).toArray 51 (0,0)):=(hb0.block cb hlt).trans hc
 have HK:=Lib.hid (zz7 a W0)
 have HB0:=Lib.hid hb0
 have HE0:=Lib.hid hW0
 have h0:=za0 hH 0 rfl
 have h1:=za0 hH 1 rfl
 have h2:=za0 hH 2 rfl
 have h3:=za0 hH 3 rfl
 have HSame:Hid (∀ k z,z=((k:Nat):Int)→waitC cmd a ⟨xk,xy,xv,xo⟩=(some k,cmd)→WaitP w cb (waitC cmd a ⟨xk,xy,xv,xo⟩) (.returned (.iface 92 (.int .i64 z))) W0):=Lib.hid fun k z hz e=>by
  rw [e]
  exact ⟨_,rfl,ErrE.errno _ _ _ hz,hC,Apart.of_below' hb0⟩
 by_cases hin:0≤a∧a < 8
 case neg=>
  rw [decide_eq_false hin] at HK
  have HF:=Lib.hid (HSame.out 2 2 rfl (if_pos (by omega)))
  clear hin hH hX hC hc hlt hb0 hW0 HSame h0 h1 h2 h3
  go_enter Tryz.func72,Tryz.ntmps72
  go_wp2_with fail
  rw [HE0.out]
  refine HK.out.mono ?_
  rintro e w1 ⟨rfl,rfl⟩
  go_wp2_with fail
  go_ret
  exact HF.out
 case pos=>
  rw [decide_eq_true hin] at HK
  have c0:W0.cell? ⟨cb,0,none⟩=some (.int .u8 (cmd.kind:Nat)):=za0 hC 0 rfl
  by_cases hk:cmd.kind=0
  case neg=>
   have HF:=Lib.hid (HSame.out 14 14 rfl (by unfold waitC;rw [if_neg (by omega),if_pos hk]))
   have q1:((cmd.kind:Int) != 0)=true:=by simp;omega
   have q2:(cmd.kind != 0)=true:=by simp;omega
   clear hin hH hX hC hc hlt hb0 hW0 HSame hk
   generalize cmd.kind=ck at *
   go_enter Tryz.func72,Tryz.ntmps72
   go_wp2_with fail
   rw [HE0.out]
   refine HK.out.mono ?_
   rintro e w1 ⟨rfl,rfl⟩
   go_wp2_with fail
   go_ret
   exact HF.out
  case pos=>
   obtain ⟨i,rfl⟩:=Int.eq_ofNat_of_zero_le hin.1
   have b1:IntKind.u8.wrap (i:Int)=(i:Int):=by rw [IntKind.wrap_u8];omega
   replace c0:W0.cell? ⟨cb,0,none⟩=some (.int .u8 0):=by rw [hk] at c0;exact c0
   have fX:=za2 hX 1
   have y1:=za0 hX 1 rfl
   have hne:cb≠w.heap.size + 1:=by omega
   have hne2:w.heap.size≠w.heap.size + 1:=by omega
   have hX2:(W0.setCell ⟨w.heap.size + 1,1,none⟩ (.int .u8 (i:Nat))).heap[w.heap.size + 1]? = some (.cells #[.int .u8 (xk:Nat),.int .u8 (i:Nat),.int .u16 (xv:Nat),.int .u16 (xo:Nat)] 51 (0,0)):=heap_setCell_same W0 _ 1 _ _ _ hX
   have hH2:(W0.setCell ⟨w.heap.size + 1,1,none⟩ (.int .u8 (i:Nat))).heap[w.heap.size]? = some (.cells #[.pointer (some ⟨pa,0,none⟩),.pointer (some ⟨tb,0,none⟩),.pointer (some ⟨mb,0,none⟩),.pointer (some ⟨cb,0,none⟩)] 36 (0,0)):=(Below.heap_setCell _ _ _ _ hne2).trans hH
   have hC2:(W0.setCell ⟨w.heap.size + 1,1,none⟩ (.int .u8 (i:Nat))).heap[cb]? = some (.cells (cmdVals cmd).toArray 51 (0,0)):=(Below.heap_setCell _ _ _ _ hne).trans hC
   have x0:=za0 hX2 0 rfl
   have x1:=za0 hX2 1 rfl
   have x2:=za0 hX2 2 rfl
   have x3:=za0 hX2 3 rfl
   have g3:=za0 hH2 3 rfl
   have f2:=fun j=>za2 hC2 j
   have m0:(W0.setCell ⟨w.heap.size + 1,1,none⟩ (.int .u8 (i:Nat))).cell? ⟨cb,0,none⟩=some (.int .u8 (cmd.kind:Nat)):=za0 hC2 0 rfl
   have m1:(W0.setCell ⟨w.heap.size + 1,1,none⟩ (.int .u8 (i:Nat))).cell? ⟨cb,1,none⟩=some (.int .u8 (cmd.key:Nat)):=za0 hC2 1 rfl
   have m2:(W0.setCell ⟨w.heap.size + 1,1,none⟩ (.int .u8 (i:Nat))).cell? ⟨cb,2,none⟩=some (.int .u16 (cmd.val:Nat)):=za0 hC2 2 rfl
   have m3:(W0.setCell ⟨w.heap.size + 1,1,none⟩ (.int .u8 (i:Nat))).cell? ⟨cb,3,none⟩=some (.int .u16 (cmd.old:Nat)):=za0 hC2 3 rfl
   have HF:Hid (WaitP w cb (waitC cmd i ⟨xk,xy,xv,xo⟩) (.returned .nilIface) (storeAll (W0.setCell ⟨w.heap.size + 1,1,none⟩ (.int .u8 (i:Nat))) cb [.int .u8 (xk:Nat),.int .u8 (i:Nat),.int .u16 (xv:Nat),.int .u16 (xo:Nat)] 0)):=Lib.hid (by
    rw [show waitC cmd i ⟨xk,xy,xv,xo⟩=(none,⟨xk,i,xv,xo⟩) by unfold waitC;rw [if_neg (by omega),if_neg (by simp [hk]),Int.toNat_natCast]]
    refine ⟨_,rfl,ErrE.none_ _,zf7 hC2 rfl _ rfl,?_⟩
    refine ((Apart.of_below' hb0:Apart (fun k=>k=cb) w W0).setCell (p:=⟨w.heap.size + 1,1,none⟩) (.inr (by simp)) _).trans (za1 cb _ 0 _) fun k hk=>.inl hk)
   clear hin hH hX hC hc hlt hb0 hW0 HSame hk hX2 hH2 hC2 hne hne2 h0 h1 h2
   go_enter Tryz.func72,Tryz.ntmps72
   go_wp2_with fail
   rw [HE0.out]
   refine HK.out.mono ?_
   rintro e w1 ⟨rfl,rfl⟩
   go_wp2_with fail
   refine bodyPost_ret (v:=.nilIface) (by simp [results,Tryz.results72,go_sem]) rfl ?_
   exact HF.out
open Go.RowKit
set_option maxRecDepth 100000
theorem za5 {W:World} {k:Nat} {cs cs':Array Value} {t t':TypeId} {f f':Nat × Nat} (h:W.heap[k]? = some (.cells cs t f)) (h':W.heap[k]? = some (.cells cs' t' f')) (hne:t≠t'):False:=by
 rw [h] at h'
 simp only [Option.some.injEq,Obj.cells.injEq] at h'
 exact hne h'.2.1
section
variable {W W':World} {B:Nat} {c:TableP.Cfg} {node:Nat} {rec:List (List Nat)} {T:RepP.T} {h:HostC} {sp sp':PorP.St} {m m':HeaP.Mon} {cmd cmd':RepP.Cmd} {pb part:Nat} {budget:Int} {wv:Value} {mem:List Nat}
theorem HostIn.toPorts (hh:HostIn W B c node rec T h sp m cmd) (hL:Left W B c h.x sp' W'):∃ h',HostIn W' B c node rec T h' sp' m cmd∧(∀ wv,Went W h wv h' W')∧Apart (HF h) W W':=by
 obtain ⟨es',p,g,s⟩:=hL
 have hno:∀ k,EF h.x.g h.x.es k→∃ cs t,W.heap[k]? = some (.cells cs t (0,0))∧(t=130∨t=89):=fun k hk=>hh.por.els.fTag hk
 refine ⟨{ h with x:={ h.x with es:=es' } },⟨p,hh.nd,s,hh.mon.apart g.apart (fun k hm he=>?_),hh.tab.apart g.apart (fun q hq he=>?_),(g.apart.block _ (lt_of_block hh.cmd) (fun he=>?_)).trans hh.cmd,hh.cok,hh.base⟩,fun wv=>⟨g.apart.mono (fun k _ hk=>.inl (.inl hk)),fun k hk=>?_,rfl,rfl,rfl,rfl,g.pre⟩,g.apart.mono (fun k _ hk=>.inl hk)⟩
 ·obtain ⟨cs,t,e1,e2⟩:=hno k he
  obtain ⟨cs',t',e3,e4⟩:=hh.mon.tag hm
  refine za5 e1 e3 ?_
  rcases e2 with rfl | rfl<;>rcases e4 with rfl | rfl | rfl<;>decide
 ·obtain ⟨cs,t,e1,e2⟩:=hno q he
  rcases hq with rfl | hq
  ·exact za5 e1 hh.tab.at_ (by rcases e2 with rfl | rfl<;>decide)
  ·obtain ⟨es,clock,e6⟩:=hh.tab.mp.block q hq
   rw [e6] at e1
   cases e1
 ·obtain ⟨cs,t,e1,e2⟩:=hno _ he
  exact za5 e1 hh.cmd (by rcases e2 with rfl | rfl<;>decide)
 ·rcases hk with hk | hk
  ·rcases g.f k hk with e | e
   ·exact .inl (.inl e)
   ·exact .inr e
  ·exact .inl (.inr hk)
theorem HostIn.toMon {vr':Value} (hh:HostIn W B c node rec T h sp m cmd) (hm:MonIn W' B h.mb node rec m' h.vp vr') (ha:Apart (MonF h.mb h.vp h.vr) W W') (hv:vr'.ownBlock=h.vr.ownBlock∨∃ q,vr'.ownBlock=some q∧W.heap.size≤q):∃ h',HostIn W' B c node rec T h' sp m' cmd∧(∀ wv,Went W h wv h' W')∧Apart (HF h) W W':=by
 have hno:∀ k,MonF h.mb h.vp h.vr k→∃ cs t,W.heap[k]? = some (.cells cs t (0,0))∧(t=140∨t=149∨t=137):=fun k hk=>hh.mon.tag hk
 refine ⟨{ h with vr:=vr' },⟨hh.por.beside ha (fun k hk he=>?_) (fun k hk=>?_),hh.nd,hh.st,hm,hh.tab.apart ha (fun q hq he=>?_),(ha.block _ (lt_of_block hh.cmd) (fun he=>?_)).trans hh.cmd,hh.cok,hh.base⟩,fun wv=>⟨ha.mono (fun k _ hk=>.inl (.inr (.inl hk))),fun k hk=>?_,rfl,rfl,rfl,rfl,rfl⟩,ha.mono (fun k _ hk=>.inr (.inl hk))⟩
 ·obtain ⟨cs,t,e1,e2⟩:=hno k he
  obtain ⟨cs',t',e3,e4⟩:=hh.por.els.fTag hk
  refine za5 e1 e3 ?_
  rcases e2 with rfl | rfl | rfl<;>rcases e4 with rfl | rfl<;>decide
 ·obtain ⟨cs,t,e1,e2⟩:=hno k hk
  exact ⟨cs,t,e1,by rcases e2 with rfl | rfl | rfl<;>decide,by rcases e2 with rfl | rfl | rfl<;>decide,by rcases e2 with rfl | rfl | rfl<;>decide⟩
 ·obtain ⟨cs,t,e1,e2⟩:=hno q he
  rcases hq with rfl | hq
  ·exact za5 e1 hh.tab.at_ (by rcases e2 with rfl | rfl | rfl<;>decide)
  ·obtain ⟨es,clock,e6⟩:=hh.tab.mp.block q hq
   rw [e6] at e1
   cases e1
 ·obtain ⟨cs,t,e1,e2⟩:=hno _ he
  exact za5 e1 hh.cmd (by rcases e2 with rfl | rfl | rfl<;>decide)
 ·rcases hk with hk | hk | hk
  ·exact .inl (.inl hk)
  ·rcases hk with hk | hk | hk
   ·exact .inl (.inr (.inl (.inl hk)))
   ·exact .inl (.inr (.inl (.inr (.inl hk))))
   ·rcases hv with e | ⟨q,e,e'⟩
    ·exact .inl (.inr (.inl (.inr (.inr (by rw [← e];exact hk)))))
    ·rw [e] at hk
     obtain rfl:=Option.some.inj hk
     exact .inr e'
  ·exact .inl (.inr (.inr hk))
theorem HostIn.toCmd (hh:HostIn W B c node rec T h sp m cmd) (hc:W'.heap[h.cb]? = some (.cells (cmdVals cmd').toArray 51 (0,0))) (hok:CmdIn cmd') (ha:Apart (fun k=>k=h.cb) W W'):HostIn W' B c node rec T h sp m cmd'∧(∀ wv,Went W h wv h W')∧Apart (HF h) W W':=by
 refine ⟨⟨hh.por.beside ha (fun k hk he=>?_) (fun k hk=>?_),hh.nd,hh.st,hh.mon.apart ha (fun k hk he=>?_),hh.tab.apart ha (fun q hq he=>?_),hc,hok,hh.base⟩,fun wv=>⟨ha.mono (fun k _ hk=>.inl (.inr (.inr hk))),fun k hk=>.inl hk,rfl,rfl,rfl,rfl,rfl⟩,ha.mono (fun k _ hk=>.inr (.inr hk))⟩
 ·subst he
  obtain ⟨cs',t',e3,e4⟩:=hh.por.els.fTag hk
  exact za5 hh.cmd e3 (by rcases e4 with rfl | rfl<;>decide)
 ·subst hk
  exact ⟨_,_,hh.cmd,by decide,by decide,by decide⟩
 ·subst he
  obtain ⟨cs',t',e3,e4⟩:=hh.mon.tag hk
  exact za5 hh.cmd e3 (by rcases e4 with rfl | rfl | rfl<;>decide)
 ·subst he
  rcases hq with e | hq
  ·exact za5 hh.cmd (by rw [e];exact hh.tab.at_) (by decide)
  ·obtain ⟨es,clock,e6⟩:=hh.tab.mp.block _ hq
   have:=hh.cmd
   rw [e6] at this
   cases this
theorem HostIn.toWords (hh:HostIn W B c node rec T h sp m cmd) (hp:PartIn W B pb part budget wv mem) (ha:Apart (fun k=>wv.ownBlock=some k) W W'):HostIn W' B c node rec T h sp m cmd∧Went W h wv h W':=by
 refine ⟨hh.away ha (fun k hk he=>(hp.hostOff hh).2 k he hk) (fun k hk=>?_),ha.mono (fun k _ hk=>.inr hk),fun k hk=>.inl hk,rfl,rfl,rfl,rfl,rfl⟩
 obtain ⟨-,cs,e⟩:=hp.fTag hk
 exact ⟨cs,_,e,by decide,by decide,by decide,by decide⟩
theorem PartIn.beside (hp:PartIn W B pb part budget wv mem) (hh:HostIn W B c node rec T h sp m cmd) (ha:Apart (HF h) W W'):PartIn W' B pb part budget wv mem:=hp.apart ha (hp.hostOff hh).1 (hp.hostOff hh).2
end
theorem zq7 {w w':World} {t:Option Int} {F:Nat→Prop} (ha:Apart F w w') (hT:∀ k,F k→∃ cs t,w.heap[k]? = some (.cells cs t (0,0))∧t≠192):∀ {l:List (Nat × Int × Int)} {B:Nat},ErrIn w t B l→ErrIn w' t B l
 | [],_,_=>trivial
 | (b,_,_) :: _,_,⟨h1,h2,h3⟩=>⟨h1,(ha.block b (lt_of_block h2) (fun hf=>by
     obtain ⟨cs,t,e1,e2⟩:=hT b hf
     exact za5 e1 h2 e2)).trans h2,zq7 ha hT h3⟩
theorem ErrE.off {w w':World} {o:Option Nat} {v:Value} {F:Nat→Prop} (h:ErrE w o v) (ha:Apart F w w') (hT:∀ k,F k→∃ cs t,w.heap[k]? = some (.cells cs t (0,0))∧t≠192):ErrE w' o v:=by
 obtain ⟨l,t,h1,h2,h3,h4⟩:=h
 exact ⟨l,t,h1,h2,(zq7 ha hT h3).mono ha.size,h4⟩
def DoP (w:World) (B:Nat) (c:TableP.Cfg) (node:Nat) (rec:List (List Nat)) (T:RepP.T) (h:HostC) (pb part:Nat) (budget:Int) (wv:Value) (r:(ApeP.Res × Option Nat) × ApeP.AS) (e:Ending) (w':World):Prop:=
 ∃ y v h',e = .returned (.tuple #[resV y,v])∧y.plain=r.1.1∧w'.ownsRow B 5 1 (.slice y.A y.data.length y.cap) y.data.length (bytesV y.data)∧ErrE w' r.1.2 v∧HostIn w' B c node rec T h' r.2.ports r.2.mon r.2.cmd∧PartIn w' B pb part budget wv r.2.mem∧Went w h wv h' w'
def MidP (w:World) (B:Nat) (c:TableP.Cfg) (node:Nat) (rec:List (List Nat)) (T:RepP.T) (h:HostC) (pb part:Nat) (budget:Int) (wv:Value) (r:(ApeP.Res × Option Nat) × ApeP.AS) (y:ResC) (v:Value) (w':World):Prop:=
 ∃ h',y.plain=r.1.1∧w'.ownsRow B 5 1 (.slice y.A y.data.length y.cap) y.data.length (bytesV y.data)∧ErrE w' r.1.2 v∧HostIn w' B c node rec T h' r.2.ports r.2.mon r.2.cmd∧PartIn w' B pb part budget wv r.2.mem∧Went w h wv h' w'
section
variable {w w1 w2:World} {B:Nat} {c:TableP.Cfg} {node:Nat} {rec:List (List Nat)} {T:RepP.T} {h:HostC} {pb part:Nat} {budget:Int} {wv:Value} {r:(ApeP.Res × Option Nat) × ApeP.AS} {y:ResC} {v:Value} {rb:Nat} {cs:Array Value}
theorem MidP.fin (hm:MidP w B c node rec T h pb part budget wv r y v w1) (hrb:w1.heap[rb]? = some (.cells cs 94 (0,0))) (hlo:w.heap.size≤rb) (ha:Apart (fun k=>k=rb) w1 w2) {rv:Value} (hrv:rv=resV y):DoP w B c node rec T h pb part budget wv r (.returned (.tuple #[rv,v])) w2:=by
 subst hrv
 obtain ⟨h',h1,h2,h3,h4,h5,h6⟩:=hm
 have hT:∀ k,k=rb→∃ cs t,w1.heap[k]? = some (.cells cs t (0,0))∧t=94:=fun k hk=>by subst hk;exact ⟨_,_,hrb,rfl⟩
 refine ⟨y,v,h',rfl,h1,za3 h2 ha (fun k hk e=>?_),h3.off ha (fun k hk=>?_),h4.away ha (fun k hk e=>?_) (fun k hk=>?_),h5.apart ha (fun e=>?_) (fun k hk e=>?_),⟨h6.apart.trans ha (fun i hi=>.inr (by rw [hi];exact hlo)),h6.f,h6.a,h6.mb,h6.tb,h6.cb,h6.pre⟩⟩
 ·exact zb2 h2 hrb (by decide) k hk e
 ·obtain ⟨cs,t,e1,rfl⟩:=hT k hk
  exact ⟨cs,_,e1,by decide⟩
 ·subst e
  obtain ⟨-,cs',t,e1,e2,-⟩:=h4.fTag hk
  exact za5 hrb e1 (fun e=>zm6 (by rw [e];exact e2))
 ·obtain ⟨cs,t,e1,rfl⟩:=hT k hk
  exact ⟨cs,_,e1,by decide,by decide,by decide,by decide⟩
 ·subst e
  exact za5 hrb h5.hd (by decide)
 ·exact zb2 h5.row hrb (by decide) k hk e
end
end Go.Proofs.YtfgpfmhjnccccaaGreatDoor
