import Derived.BigQuiet
import Derived.Deep.Cut
import Derived.Deep.OwnRows
import Derived.Test.YtfgpfmhjnccccaaGreatDoorSa30
import Derived.Test.YtfgpfmhjnccccaaGreatDoorSa27
import Derived.Test.YtfgpfmhjnccccaaGreatDoorSa07
import Derived.Test.YtfgpfmhjnccccaaGreatDoorSa08
namespace Go.Proofs.YtfgpfmhjnccccaaGreatDoor
open Go.RowKit
set_option maxRecDepth 100000
def cfgCells16 (x:CfgC):Array Value:=#[.int .i64 x.nodes,.int .i64 x.faulty,.int .i64 x.slot,.int .i64 x.gap,.int .i64 x.rho,.int .i64 x.dmin,.int .i64 x.dmax,.int .i64 x.margin,.slice x.PA x.pn x.pcap,.slice x.QA x.qn x.qcap,.slice x.RA x.rn x.rcap]
structure OutD (W:World) (N:Nat) (v:Value) (ys:List ResC):Prop where
 row:W.ownsRow N 94 4 v ys.length (itemsV resVals ys)
 data:∀ y∈ys,DocB W y.A y.data
structure AllD (w0 w W:World) (B:Nat) (x:CfgC) (node:Nat) (T:RepP.T) (d:DocC) (mv:Value) (st:ApeP.AS) (d':DocC) (out:Value) (ys:List ResC):Prop where
 host:DocIn w0 W B x node T d' st.ports st.mon st.cmd
 mem:MemR W B mv st.mem
 went:WentD w d mv d' W
 out:OutD W w.heap.size out ys
 cfg:W.heap[w.heap.size]? = some (.cells (cfgCells16 x) 26 (0,0))
 box:W.heap[w.heap.size + 1]? = some (.cells (docCells d) 53 (0,0))
section
variable {w0 w W W':World} {B:Nat} {x:CfgC} {node:Nat} {T:RepP.T} {d d' d2:DocC} {mv:Value} {st st':ApeP.AS} {out out':Value} {ys ys':List ResC}
theorem AllD.size (ai:AllD w0 w W B x node T d mv st d' out ys):w.heap.size + 1 < W.heap.size:=lt_of_block ai.box
theorem AllD.touched (ai:AllD w0 w W B x node T d mv st d' out ys) (ht:TouchD B W W') (h1:DocIn w0 W' B x node T d2 st'.ports st'.mon st'.cmd) (h2:MemR W' B mv st'.mem) (h3:WentD W d' mv d2 W'):AllD w0 w W' B x node T d mv st' d2 out ys:=
 ⟨h1,h2,ai.went.trans h3,⟨ht.own ai.out.row ze4,fun y hy=>(ai.out.data y hy).touch ht⟩,ht.off ai.cfg tagD_cfg,ht.off ai.box zr1⟩
theorem AllD.below (ai:AllD w0 w W B x node T d mv st d' out ys) (hb:Below W.heap.size W W'):AllD w0 w W' B x node T d mv st d' out ys:=
 ai.touched (TouchD.of_below (B:=B) hb) (ai.host.below hb) (ai.mem.below hb) (WentD.of_below hb d' mv)
theorem AllD.next (ai:AllD w0 w W B x node T d mv st d' out ys) (g1:DocIn w0 W' B x node T d2 st'.ports st'.mon st'.cmd) (g2:MemR W' B mv st'.mem) (g3:WentD W d' mv d2 W'):AllD w0 w W' B x node T d mv st' d2 out ys:=
 ai.touched (g3.touch ai.host ai.mem) g1 g2 g3
theorem AllD.res {F:Nat→Prop} (ai:AllD w0 w W B x node T d mv st d' out ys) (hB:B≤w.heap.size) (ha:Apart F W W') (hF:∀ k,F k→w.heap.size≤k∧∃ cs,W.heap[k]? = some (.cells cs 94 (0,0))) (hrow:W'.ownsRow w.heap.size 94 4 out' ys'.length (itemsV resVals ys')) (hdd:∀ y∈ys',DocB W y.A y.data):AllD w0 w W' B x node T d mv st d' out' ys':=by
 refine ⟨ai.host.away ha (fun k hk e=>?_) (fun k hk=>?_),ai.mem.apart ha (fun k hk e=>?_),⟨ai.went.apart.trans ha (fun i hi=>.inr (hF i hi).1),ai.went.f,ai.went.same⟩,⟨hrow,fun y hy=>(hdd y hy).off ha (fun k hk=>?_)⟩,(ha.block _ (lt_of_block ai.cfg) (fun e=>?_)).trans ai.cfg,(ha.block _ (lt_of_block ai.box) (fun e=>?_)).trans ai.box⟩
 ·obtain ⟨-,cs,e1⟩:=hF k e
  obtain ⟨-,cs',t,e2,e3,-⟩:=ai.host.fTag hk
  exact za5 e1 e2 (fun e=>ze4 (by rw [e];exact e3))
 ·obtain ⟨e0,cs,e1⟩:=hF k hk
  exact ⟨Nat.le_trans hB e0,cs,_,e1,by decide,by decide,by decide,by decide⟩
 ·obtain ⟨-,cs,e1⟩:=hF _ e
  obtain ⟨-,cs',e2⟩:=ai.mem.fTag hk
  exact za5 e1 e2 (by decide)
 ·obtain ⟨-,cs,e1⟩:=hF _ hk
  exact ⟨cs,_,e1,by decide⟩
 ·obtain ⟨-,cs,e1⟩:=hF _ e
  exact za5 e1 ai.cfg (by decide)
 ·obtain ⟨-,cs,e1⟩:=hF _ e
  exact za5 e1 ai.box (by decide)
theorem AllD.stored (ai:AllD w0 w W B x node T d mv st d' out ys) (hB:B≤w.heap.size) {X:Nat} {cs:Array Value} (hz:W.heap[X]? = some (.cells cs 94 (0,0))) (hs:cs.size=4) (hX:w.heap.size≤X) (hXo:∀ q,out.ownBlock=some q→q≠X) (vs:List Value) (hv:vs.length=4):AllD w0 w (storeAll W X vs 0) B x node T d mv st d' out ys∧(storeAll W X vs 0).heap[X]? = some (.cells vs.toArray 94 (0,0)):=by
 have ha:=za1 X vs 0 W
 exact ⟨ai.res hB ha (fun q hq=>by subst hq;exact ⟨hX,_,hz⟩) (za3 ai.out.row ha (fun q hq e=>hXo q hq e)) ai.out.data,za4 hz hs vs hv⟩
theorem AllD.appended (ai:AllD w0 w W B x node T d mv st d' out ys) (hB:B≤w.heap.size) (y:ResC) (hy:DocB W y.A y.data) {v4:Value} {w4:World} (g1:w4.ownsRow w.heap.size 94 4 v4 (ys ++ [y]).length (itemsV resVals (ys ++ [y]))) (g2:Apart (fun q=>out.ownBlock=some q) W w4):AllD w0 w w4 B x node T d mv st d' v4 (ys ++ [y]):=by
 refine ai.res hB g2 (fun q hq=>⟨((Seg.of_own ai.out.row).lt q hq).1,(Seg.of_own ai.out.row).block q hq⟩) g1 (fun z hz=>?_)
 rcases List.mem_append.1 hz with hz | hz
 ·exact ai.out.data z hz
 ·rw [List.mem_singleton.1 hz];exact hy
end
theorem zd9 {W:World} {x:CfgC} {part:Nat} {p:TableP.Part} (h:CfgIn W x) (hp:x.parts[part]? = some p):∃ pb po,x.PA=some ⟨pb,po,none⟩∧part < x.pn∧W.cell? ⟨pb,po + part * 9 + 3,none⟩=some (.int .i64 p.budget)∧W.cell? ⟨pb,po + part * 9 + 4,none⟩=some (.int .i64 p.words):=by
 have hl:=(List.getElem?_eq_some_iff.1 hp).1
 obtain ⟨pb,po,hA,-,hit⟩:=h.parts (by omega)
 exact ⟨pb,po,hA,by rw [← h.plen];exact hl,hit part p hp 3 _ rfl,hit part p hp 4 _ rfl⟩
def RunRD (w0 w:World) (B:Nat) (x:CfgC) (node part:Nat) (T:RepP.T) (d:DocC) (mv:Value) (l:List OpC) (round:Nat) (budget:Int) (N:Nat) (s:ApeP.AS) (vo vl vi:Value) (W:World):Prop:=
 ∃ k lf st d' ys,k≤l.length∧vi = .int .i64 (k:Nat)∧vl = .int .i64 lf∧(0≤lf∧lf≤budget)∧ys.length=k∧AllD w0 w W B x node T d mv st d' vo ys∧HeaP.MonLow (N + k) st.mon ∧
  ApeP.runG (ApeP.opT x.plain (node:Int) part T) (x.parts.map sayOf) node part round (l.map OpC.plain) budget s=(ApeP.runG (ApeP.opT x.plain (node:Int) part T) (x.parts.map sayOf) node part round ((l.drop k).map OpC.plain) lf st).pre (ys.map ResC.plain)
def RunPD (w0 w:World) (B:Nat) (x:CfgC) (node:Nat) (T:RepP.T) (d:DocC) (mv:Value) (budget:Int) (M:Nat) (g:ApeP.Got) (e:Ending) (w':World):Prop:=
 ∃ v ys d',e = .returned (.tuple #[v,.int .u8 (g.did:Nat),.int .i64 (budget - g.left)])∧OutD w' w.heap.size v ys∧ys.map ResC.plain=g.res∧DocIn w0 w' B x node T d' g.st.ports g.st.mon g.st.cmd∧MemR w' B mv g.st.mem∧WentD w d mv d' w'∧HeaP.MonLow M g.st.mon
theorem zK9 {N:Nat} {rec:List (List Nat)} {node part round:Nat} {m:HeaP.Mon} (h:HeaP.MonLow N m) (o:Option Nat):HeaP.MonLow (N + 1) (ApeP.tellG rec node part round m o).2:=by
 unfold ApeP.tellG
 cases ApeP.kindOf o with
 | none=>exact h.more (Nat.le_succ N)
 | some k=>exact h.report
open Go.RowKit
set_option maxRecDepth 100000
theorem zA0 (k:Nat):(numN k).isEmpty=false:=by
 cases hn:numN k with
 | nil=>exact absurd hn (zB5 k)
 | cons a b=>rfl
theorem sub_in2 {a b:Int} (h:0≤a∧a≤b) (hb:0≤b∧b≤9223372036854775807):IntKind.i64.wrap (b - a)=b - a:=IntWalk.i64_in _ (by omega)
def S11 (hb X ab o:Nat) (W:World) (ch:Array Value) (y:OpC):Prop:=W.heap[hb]? = some (.cells ch 53 (0,0))∧(∀ j u,(opVals y)[j]? = some u→W.cell? ⟨ab,o + j,none⟩=some u)∧W.heap[X]? = some (.cells #[.int .i64 0,.int .i64 0,.slice none 0 0,.bool false] 94 (0,0))
set_option maxHeartbeats 32000000 in
theorem rrun_any {w0 w:World} {B:Nat} {x:CfgC} {node part:Nat} {T:RepP.T} {d:DocC} {s:ApeP.AS} {mv:Value} (hd:DocIn w0 w B x node T d s.ports s.mon s.cmd) (hm:MemR w B mv s.mem) (hB:B≤w.heap.size) (hal:SndP.Allowed x.plain) (hpt:part≤255) (hn255:x.parts.length≤255) (hnode:node≤255) (hT:∀ i v,RepP.tat T i=some v→v < 65536)
 (p:TableP.Part) (hp:x.parts[part]? = some p) (bud:Int) (hbp:p.budget=bud) (hb:0≤bud∧bud≤9223372036854775807) (round:Nat) (A:Option Addr) (n cap:Nat) (l:List OpC) (hl:l.length=n) (hn2:n≤100000) (ho:OpsAt w0 A l) (N:Nat) (hlow:HeaP.MonLow N s.mon) (hN:N + n≤900000) :
 Calls Tryz.prog 14 #[x.value,.int .i64 (part:Nat),mv,docV d,.int .u32 (round:Nat),.slice A n cap] w (RunPD w0 w B x node T d mv bud (N + n) (ApeP.runG (ApeP.opT x.plain (node:Int) part T) (x.parts.map sayOf) node part round (l.map OpC.plain) bud s)):=by
 subst hbp
 obtain ⟨bud,hbud⟩:∃ q,p.budget=q:=⟨_,rfl⟩
 rw [hbud] at hb ⊢
 have hb0:Below w.heap.size w ((w.alloc (.cells #[.int .i64 x.nodes,.int .i64 x.faulty,.int .i64 x.slot,.int .i64 x.gap,.int .i64 x.rho,.int .i64 x.dmin,.int .i64 x.dmax,.int .i64 x.margin,.slice x.PA x.pn x.pcap,.slice x.QA x.qn x.qcap,.slice x.RA x.rn x.rcap] 26)).alloc (.cells #[.pointer (some ⟨d.ra,0,none⟩),.pointer (some ⟨d.tb,0,none⟩),.pointer (some ⟨d.rm,0,none⟩),.pointer (some ⟨d.cb,0,none⟩)] 53)):=((Below.refl _ _).alloc (Nat.le_refl _) _).alloc (by simp) _
 have hcfg:((w.alloc (.cells #[.int .i64 x.nodes,.int .i64 x.faulty,.int .i64 x.slot,.int .i64 x.gap,.int .i64 x.rho,.int .i64 x.dmin,.int .i64 x.dmax,.int .i64 x.margin,.slice x.PA x.pn x.pcap,.slice x.QA x.qn x.qcap,.slice x.RA x.rn x.rcap] 26)).alloc (.cells #[.pointer (some ⟨d.ra,0,none⟩),.pointer (some ⟨d.tb,0,none⟩),.pointer (some ⟨d.rm,0,none⟩),.pointer (some ⟨d.cb,0,none⟩)] 53)).heap[w.heap.size]? = some (.cells (cfgCells16 x) 26 (0,0)):=by rw [allocAt _ _ _ (by simp)];exact newAt _ _
 have hbox:((w.alloc (.cells #[.int .i64 x.nodes,.int .i64 x.faulty,.int .i64 x.slot,.int .i64 x.gap,.int .i64 x.rho,.int .i64 x.dmin,.int .i64 x.dmax,.int .i64 x.margin,.slice x.PA x.pn x.pcap,.slice x.QA x.qn x.qcap,.slice x.RA x.rn x.rcap] 26)).alloc (.cells #[.pointer (some ⟨d.ra,0,none⟩),.pointer (some ⟨d.tb,0,none⟩),.pointer (some ⟨d.rm,0,none⟩),.pointer (some ⟨d.cb,0,none⟩)] 53)).heap[w.heap.size + 1]? = some (.cells (docCells d) 53 (0,0)):=newAt1 _ _ _
 have ai0:AllD w0 w ((w.alloc (.cells #[.int .i64 x.nodes,.int .i64 x.faulty,.int .i64 x.slot,.int .i64 x.gap,.int .i64 x.rho,.int .i64 x.dmin,.int .i64 x.dmax,.int .i64 x.margin,.slice x.PA x.pn x.pcap,.slice x.QA x.qn x.qcap,.slice x.RA x.rn x.rcap] 26)).alloc (.cells #[.pointer (some ⟨d.ra,0,none⟩),.pointer (some ⟨d.tb,0,none⟩),.pointer (some ⟨d.rm,0,none⟩),.pointer (some ⟨d.cb,0,none⟩)] 53)) B x node T d mv s d (.slice none 0 0) []:=⟨hd.below hb0,hm.below hb0,WentD.of_below hb0 d mv,⟨World.ownsRow_nil _ _ _ _,fun y hy=>by cases hy⟩,hcfg,hbox⟩
 have HS0:Hid (RunRD w0 w B x node part T d mv l round bud N s (.slice none 0 0) (.int .i64 bud) (.int .i64 0) ((w.alloc (.cells #[.int .i64 x.nodes,.int .i64 x.faulty,.int .i64 x.slot,.int .i64 x.gap,.int .i64 x.rho,.int .i64 x.dmin,.int .i64 x.dmax,.int .i64 x.margin,.slice x.PA x.pn x.pcap,.slice x.QA x.qn x.qcap,.slice x.RA x.rn x.rcap] 26)).alloc (.cells #[.pointer (some ⟨d.ra,0,none⟩),.pointer (some ⟨d.tb,0,none⟩),.pointer (some ⟨d.rm,0,none⟩),.pointer (some ⟨d.cb,0,none⟩)] 53))):=Lib.hid ⟨0,bud,s,d,[],Nat.zero_le _,rfl,rfl,⟨hb.1,Int.le_refl _⟩,rfl,ai0,hlow,rfl⟩
 obtain ⟨pb,po,hPA,hpl,kbud,-⟩:=zd9 (hd.below hb0).por.cfgW hp
 rw [hbud] at kbud
 have kb8:((w.alloc (.cells #[.int .i64 x.nodes,.int .i64 x.faulty,.int .i64 x.slot,.int .i64 x.gap,.int .i64 x.rho,.int .i64 x.dmin,.int .i64 x.dmax,.int .i64 x.margin,.slice x.PA x.pn x.pcap,.slice x.QA x.qn x.qcap,.slice x.RA x.rn x.rcap] 26)).alloc (.cells #[.pointer (some ⟨d.ra,0,none⟩),.pointer (some ⟨d.tb,0,none⟩),.pointer (some ⟨d.rm,0,none⟩),.pointer (some ⟨d.cb,0,none⟩)] 53)).cell? ⟨w.heap.size,8,none⟩=some (.slice x.PA x.pn x.pcap):=za0 hcfg 8 rfl
 have HPA:=Lib.hid hPA
 clear hPA
 have t1:decide ((part:Int) < (x.pn:Int))=true:=decide_eq_true (by omega)
 have t2:decide (part < x.pn)=true:=decide_eq_true hpl
 have t3:(part:Int) < (x.pn:Int):=by omega
 have HP:Hid (x.parts[part]? = some p):=Lib.hid hp
 have HBd:=Lib.hid hbud
 have HB:=Lib.hid hB
 have HA:=Lib.hid hal
 have HPt:=Lib.hid hpt
 have H255:=Lib.hid hn255
 have HNo2:=Lib.hid hnode
 have HT:=Lib.hid hT
 have HBud:=Lib.hid hb
 have HL:=Lib.hid hl
 have HN2:=Lib.hid hn2
 have HO:=Lib.hid ho
 have HN:=Lib.hid hN
 clear hd hm hB hal hpt hn255 hnode hT hp hb hl hn2 ho hlow hN hb0 hcfg hbox ai0 hbud
 unfold docV
 simp only [CfgC.value]
 go_enter Tryz.func14,Tryz.ntmps14
 go_upto_region 2 with (fail)
 generalize ((w.alloc (.cells #[.int .i64 x.nodes,.int .i64 x.faulty,.int .i64 x.slot,.int .i64 x.gap,.int .i64 x.rho,.int .i64 x.dmin,.int .i64 x.dmax,.int .i64 x.margin,.slice x.PA x.pn x.pcap,.slice x.QA x.qn x.qcap,.slice x.RA x.rn x.rcap] 26)).alloc (.cells #[.pointer (some ⟨d.ra,0,none⟩),.pointer (some ⟨d.tb,0,none⟩),.pointer (some ⟨d.rm,0,none⟩),.pointer (some ⟨d.cb,0,none⟩)] 53))=W0 at *
 rw [HPA.out] at kb8
 go_wp2_with fail
 clear kbud kb8
 go_loopw [15,16,17] (RunRD w0 w B x node part T d mv l round bud N s) (fun _ _ i _=>(n + 1 - intOf i).toNat)
 case atStart=>exact HS0.out
 case round=>
  clear HS0
  obtain ⟨k,lf,st,d',ys,hk,rfl,rfl,hlf,hyl,hai,hlow,hrun⟩:=hrel
  have hHl:=HL.out
  have hN2:=HN2.out
  by_cases hlt:k < n
  case neg=>
   have hkn:k=n:=by omega
   have hdrop:(l.drop k).map OpC.plain=[]:=by rw [hkn,← hHl,List.drop_length];rfl
   rw [hdrop] at hrun
   have q1:decide ((k:Int) < (n:Int))=false:=decide_eq_false (by omega)
   have q2:decide (k < n)=false:=decide_eq_false hlt
   obtain ⟨pbk,pok,hpa,-,kbud,-⟩:=zd9 hai.host.por.cfgW HP.out
   rw [HPA.out] at hpa
   injection hpa with hpa
   injection hpa with e5 e6
   subst e5 e6
   rw [HBd.out] at kbud
   have kb8:wr.cell? ⟨w.heap.size,8,none⟩=some (.slice x.PA x.pn x.pcap):=za0 hai.cfg 8 rfl
   rw [HPA.out] at kb8
   have e1:=sub_in2 hlf HBud.out
   have HF:Hid (∀ j,RunPD w0 w B x node T d mv bud (N + n) (ApeP.runG (ApeP.opT x.plain (node:Int) part T) (x.parts.map sayOf) node part round (l.map OpC.plain) bud s) (.returned (.tuple #[u15,.int .u8 0,.int .i64 (bud - lf)])) (wr.drewN j)):=Lib.hid fun j=>by
    have hbd:Below wr.heap.size wr (wr.drewN j):=zb0 (Below.refl _ _) j
    have e4:=hai.below hbd
    rw [hrun]
    exact ⟨u15,ys,d',rfl,e4.out,by show _=ys.map ResC.plain ++ [];rw [List.append_nil],e4.host,e4.mem,e4.went,hlow.more (by omega)⟩
   clear hai hrun hdrop hlf hyl hk hlow
   go_wp2_with fail
   go_quiet (fail)
   go_wp2_with fail
   refine bodyPost_ret (v:=.tuple #[u15,.int .u8 0,.int .i64 (bud - lf)]) (by simp [results,Tryz.results14,go_sem]) rfl ?_
   exact HF.out _
  case pos=>
   obtain ⟨o,hx⟩:∃ o,l[k]? = some o:=⟨_,List.getElem?_eq_getElem (by omega)⟩
   have hxl:=List.mem_of_getElem? hx
   have hok:=(HO.out.ok o hxl).below hai.host.por.tab
   obtain ⟨ab,ao,hA,habl,hit0⟩:=HO.out.items (by omega)
   have hit:∀ W,Below w0.heap.size w0 W→∀ j u,(opVals o)[j]? = some u→W.cell? ⟨ab,ao + k * 6 + j,none⟩=some u:=fun W hW j u hu=>(hW.cell (p:=⟨ab,_,none⟩) habl).trans (hit0 k o hx j u hu)
   have hdrop:(l.drop k).map OpC.plain=o.plain :: (l.drop (k + 1)).map OpC.plain:=by rw [List.drop_eq_getElem_cons (by omega)];rw [List.getElem?_eq_getElem (by omega)] at hx;rw [Option.some.inj hx];rfl
   rw [hdrop] at hrun
   have q1:decide ((k:Int) < (n:Int))=true:=decide_eq_true (by omega)
   have q2:decide (k < n)=true:=decide_eq_true hlt
   have q3:(k:Int) < (n:Int):=by omega
   have e8:IntKind.i64.wrap ((k:Int) + 1)=(k:Int) + 1:=IntWalk.i64_in _ (by omega)
   have hstm:(ApeP.stepG (ApeP.opT x.plain (node:Int) part T) lf st o.plain).2.mon=st.mon:=ApeP.step_mon
   have hstl:0≤(ApeP.stepG (ApeP.opT x.plain (node:Int) part T) lf st o.plain).1.2∧(ApeP.stepG (ApeP.opT x.plain (node:Int) part T) lf st o.plain).1.2≤bud:=by
    have hc:=ApeP.cost_pos o.plain
    unfold ApeP.stepG
    split
    ·exact ⟨Int.le_refl _,HBud.out.1⟩
    ·simp only;omega
   have hvx:=hai.host.val
   have hone:ApeP.oneG (ApeP.opT x.plain (node:Int) part T) (x.parts.map sayOf) node part round lf st o.plain=⟨ApeP.showT (ApeP.stepG (ApeP.opT x.plain (node:Int) part T) lf st o.plain).1.1,(ApeP.tellG (x.parts.map sayOf) node part round (ApeP.stepG (ApeP.opT x.plain (node:Int) part T) lf st o.plain).2.mon (ApeP.stepG (ApeP.opT x.plain (node:Int) part T) lf st o.plain).1.1.2).1.1,(ApeP.tellG (x.parts.map sayOf) node part round (ApeP.stepG (ApeP.opT x.plain (node:Int) part T) lf st o.plain).2.mon (ApeP.stepG (ApeP.opT x.plain (node:Int) part T) lf st o.plain).1.1.2).1.2,(ApeP.stepG (ApeP.opT x.plain (node:Int) part T) lf st o.plain).1.2,ApeP.monT (ApeP.stepG (ApeP.opT x.plain (node:Int) part T) lf st o.plain).2 (ApeP.tellG (x.parts.map sayOf) node part round (ApeP.stepG (ApeP.opT x.plain (node:Int) part T) lf st o.plain).2.mon (ApeP.stepG (ApeP.opT x.plain (node:Int) part T) lf st o.plain).1.1.2).2⟩:=rfl
   have hlow':HeaP.MonLow (N + k + 1) (ApeP.tellG (x.parts.map sayOf) node part round (ApeP.stepG (ApeP.opT x.plain (node:Int) part T) lf st o.plain).2.mon (ApeP.stepG (ApeP.opT x.plain (node:Int) part T) lf st o.plain).1.1.2).2:=by rw [hstm];exact zK9 hlow _
   have HYes:Hid (∀ w5 y d3 v4,y.plain=ApeP.showT (ApeP.stepG (ApeP.opT x.plain (node:Int) part T) lf st o.plain).1.1→(ApeP.tellG (x.parts.map sayOf) node part round (ApeP.stepG (ApeP.opT x.plain (node:Int) part T) lf st o.plain).2.mon (ApeP.stepG (ApeP.opT x.plain (node:Int) part T) lf st o.plain).1.1.2).1.2=true→AllD w0 w w5 B x node T d mv (ApeP.monT (ApeP.stepG (ApeP.opT x.plain (node:Int) part T) lf st o.plain).2 (ApeP.tellG (x.parts.map sayOf) node part round (ApeP.stepG (ApeP.opT x.plain (node:Int) part T) lf st o.plain).2.mon (ApeP.stepG (ApeP.opT x.plain (node:Int) part T) lf st o.plain).1.1.2).2) d3 v4 (ys ++ [y])→∀ j,RunPD w0 w B x node T d mv bud (N + n) (ApeP.runG (ApeP.opT x.plain (node:Int) part T) (x.parts.map sayOf) node part round (l.map OpC.plain) bud s) (.returned (.tuple #[v4,.int .u8 ((ApeP.tellG (x.parts.map sayOf) node part round (ApeP.stepG (ApeP.opT x.plain (node:Int) part T) lf st o.plain).2.mon (ApeP.stepG (ApeP.opT x.plain (node:Int) part T) lf st o.plain).1.1.2).1.1:Nat),.int .i64 (bud - (ApeP.stepG (ApeP.opT x.plain (node:Int) part T) lf st o.plain).1.2)])) (w5.drewN j)):=Lib.hid fun w5 y d3 v4 e1 e2 e3 j=>by
    have hbd:Below w5.heap.size w5 (w5.drewN j):=zb0 (Below.refl _ _) j
    have e4:=e3.below hbd
    rw [hrun,ApeP.run_end (by rw [hone];exact e2)]
    rw [hone]
    exact ⟨v4,ys ++ [y],d3,rfl,e4.out,by rw [List.map_append,List.map_singleton,e1],e4.host,e4.mem,e4.went,hlow'.more (by omega)⟩
   have HNo:Hid (∀ w5 y d3 v4,y.plain=ApeP.showT (ApeP.stepG (ApeP.opT x.plain (node:Int) part T) lf st o.plain).1.1→(ApeP.tellG (x.parts.map sayOf) node part round (ApeP.stepG (ApeP.opT x.plain (node:Int) part T) lf st o.plain).2.mon (ApeP.stepG (ApeP.opT x.plain (node:Int) part T) lf st o.plain).1.1.2).1.2=false→AllD w0 w w5 B x node T d mv (ApeP.monT (ApeP.stepG (ApeP.opT x.plain (node:Int) part T) lf st o.plain).2 (ApeP.tellG (x.parts.map sayOf) node part round (ApeP.stepG (ApeP.opT x.plain (node:Int) part T) lf st o.plain).2.mon (ApeP.stepG (ApeP.opT x.plain (node:Int) part T) lf st o.plain).1.1.2).2) d3 v4 (ys ++ [y])→RunRD w0 w B x node part T d mv l round bud N s v4 (.int .i64 (ApeP.stepG (ApeP.opT x.plain (node:Int) part T) lf st o.plain).1.2) (.int .i64 ((k:Int) + 1)) w5):=Lib.hid fun w5 y d3 v4 e1 e2 e3=>by
    refine ⟨k + 1,_,_,d3,ys ++ [y],by omega,by go_num,rfl,hstl,by simp [hyl],e3,by rw [← Nat.add_assoc];exact hlow',?_⟩
    rw [hrun,ApeP.run_next (by rw [hone];exact e2)]
    rw [hone,List.map_append,List.map_singleton,e1]
   have HSl:=Lib.hid hstl
   have hnm:=H255.out
   have hnd:=HNo2.out
   have hNN:=HN.out
   have HRep:Hid (∀ w4 d2 v4 ys4 kk,AllD w0 w w4 B x node T d mv (ApeP.stepG (ApeP.opT x.plain (node:Int) part T) lf st o.plain).2 d2 v4 ys4→Calls Tryz.prog 37 #[.pointer (some ⟨d.rm,0,none⟩),.int .u32 (round:Nat),.int .i64 (part:Nat),.int .i64 (kk:Nat)] w4 (fun e w5=>e = .returned (.tuple #[.int .u8 ((HeaP.reportT (x.parts.map sayOf) node (ApeP.stepG (ApeP.opT x.plain (node:Int) part T) lf st o.plain).2.mon round ((part:Nat):Int) kk).1.1:Nat),strV (txt15 (HeaP.reportT (x.parts.map sayOf) node (ApeP.stepG (ApeP.opT x.plain (node:Int) part T) lf st o.plain).2.mon round ((part:Nat):Int) kk).1.2)])∧∃ d3,AllD w0 w w5 B x node T d mv (ApeP.monT (ApeP.stepG (ApeP.opT x.plain (node:Int) part T) lf st o.plain).2 (HeaP.reportT (x.parts.map sayOf) node (ApeP.stepG (ApeP.opT x.plain (node:Int) part T) lf st o.plain).2.mon round ((part:Nat):Int) kk).2) d3 v4 ys4)):=Lib.hid fun w4 d2 v4 ys4 kk g1=>by
    have hv2:MonV (x.parts.map sayOf) (ApeP.stepG (ApeP.opT x.plain (node:Int) part T) lf st o.plain).2.mon:=g1.host.val
    have h1:=zC8 w4 B d2.rm node d2.vs d2.vl d2.vw d2.vo x.parts _ hv2 (fun q=>by rw [hstm];have:=hlow.row q;omega) g1.host.mon hnd round ((part:Nat):Int) kk hnm (Nat.le_trans HB.out (by have:=g1.size;omega))
    have hrm:d2.rm=d.rm:=by rw [g1.went.same]
    rw [hrm] at h1
    refine h1.mono ?_
    rintro e w5 ⟨rfl,vo',p1,p2,p3⟩
    obtain ⟨d3,r1,r2,r3⟩:=g1.host.toMon (hrm ▸ p1) (hv2.report node round ((part:Nat):Int) kk) (hrm ▸ p2) p3
    exact ⟨rfl,d3,g1.next (st':=ApeP.monT (ApeP.stepG (ApeP.opT x.plain (node:Int) part T) lf st o.plain).2 _) r1 (g1.mem.beside g1.host r3) (r2 mv)⟩
   have HTell:Hid (∀ code kk,ApeP.kindOf (some code)=some kk→ApeP.tellG (x.parts.map sayOf) node part round (ApeP.stepG (ApeP.opT x.plain (node:Int) part T) lf st o.plain).2.mon (some code)=(((HeaP.reportT (x.parts.map sayOf) node (ApeP.stepG (ApeP.opT x.plain (node:Int) part T) lf st o.plain).2.mon round ((part:Nat):Int) kk).1.1,decide ((HeaP.reportT (x.parts.map sayOf) node (ApeP.stepG (ApeP.opT x.plain (node:Int) part T) lf st o.plain).2.mon round ((part:Nat):Int) kk).1.2≠0∨(HeaP.reportT (x.parts.map sayOf) node (ApeP.stepG (ApeP.opT x.plain (node:Int) part T) lf st o.plain).2.mon round ((part:Nat):Int) kk).1.1≠0∨kk=0)),(HeaP.reportT (x.parts.map sayOf) node (ApeP.stepG (ApeP.opT x.plain (node:Int) part T) lf st o.plain).2.mon round ((part:Nat):Int) kk).2)):=Lib.hid fun code kk h=>by
    unfold ApeP.tellG
    rw [h]
   have HTell0:Hid (∀ code,ApeP.kindOf (some code)=none→ApeP.tellG (x.parts.map sayOf) node part round (ApeP.stepG (ApeP.opT x.plain (node:Int) part T) lf st o.plain).2.mon (some code)=((0,false),(ApeP.stepG (ApeP.opT x.plain (node:Int) part T) lf st o.plain).2.mon)):=Lib.hid fun code h=>by
    unfold ApeP.tellG
    rw [h]
   -- the result's box
   have hbq:Below wr.heap.size wr (wr.alloc (.cells #[.int .i64 0,.int .i64 0,.slice none 0 0,.bool false] 94)):=(Below.refl _ _).alloc (Nat.le_refl _) _
   have ai1:=hai.below hbq
   have hz1:(wr.alloc (.cells #[.int .i64 0,.int .i64 0,.slice none 0 0,.bool false] 94)).heap[wr.heap.size]? = some (.cells #[.int .i64 0,.int .i64 0,.slice none 0 0,.bool false] 94 (0,0)):=newAt _ _
   have HXw:Hid (w.heap.size≤wr.heap.size):=Lib.hid (by have:=hai.size;omega)
   have HXo:Hid (∀ q,u15.ownBlock=some q→q≠wr.heap.size):=Lib.hid fun q hq=>Nat.ne_of_lt ((Seg.of_own hai.out.row).lt q hq).2
   have HYl:=Lib.hid hyl
   have hok1:=hok.below hbq
   have hit1:=hit _ ai1.host.por.tab
   have HIt:=Lib.hid hit
   have HCost:=Lib.hid (fun W=>rcost_any o W)
   subst hA
   by_cases hc:lf < ApeP.costT o.plain
   case pos=>
    have hst:ApeP.stepG (ApeP.opT x.plain (node:Int) part T) lf st o.plain=(((ApeP.Res.zero,some 151),0),st):=if_pos hc
    rw [hst] at HYes HNo HSl HRep HTell HTell0
    have c1:decide (lf < ApeP.costT o.plain)=true:=decide_eq_true hc
    have AI1:=Lib.hid ai1
    have HZ1:=Lib.hid hz1
    have HPl:Hid ((⟨151,0,none,0,[],false⟩:ResC).plain=ApeP.showT (ApeP.Res.zero,some 151)):=Lib.hid rfl
    simp only [Int.sub_zero] at HYes HNo HSl HRep HTell HTell0
    have HAt:=Lib.hid (fun W=>zc5 151 (part:Nat) W (by decide) (ze7 part HPt.out))
    have HTx:Hid (ErrT (some 151) (atT 151 (part:Nat))):=Lib.hid (ErrT.at_ (by decide) (ze7 part HPt.out))
    have HTe:Hid ((atT 151 ((part:Nat):Int)).isEmpty=false):=Lib.hid (zv1 151 _)
    obtain ⟨ok,op_,oa,ob,oc,oD,om,ocap,od⟩:=o
    have o0:=hit1 0 _ rfl
    have o1:=hit1 1 _ rfl
    have o2:=hit1 2 _ rfl
    have o3:=hit1 3 _ rfl
    have o4:=hit1 4 _ rfl
    have o5:=hit1 5 _ rfl
    simp only [Nat.add_zero] at o0
    unfold opV at HCost
    simp only at HCost
    clear hai hok hok1 hit hit1 hx hxl hdrop hrun hst hone hlf hlow hlow' hstm hstl hvx hbq hz1 hyl hk habl hit0 ai1 hc HIt
    generalize ApeP.costT (⟨ok,op_,oa,ob,oc,oD,om,ocap,od⟩:OpC).plain=cst at *
    generalize htx:atT 151 ((part:Nat):Int)=tx at *
    go_upto_region 7 with (fail)
    generalize (wr.alloc (.cells #[.int .i64 0,.int .i64 0,.slice none 0 0,.bool false] 94))=w1 at *
    go_wp2_with fail
    clear o0 o1 o2 o3 o4 o5
    refine (HCost.out _).mono ?_
    rintro e w2 ⟨rfl,hb2⟩
    have AI2:=Lib.hid (AI1.out.below hb2)
    have HZ2:=Lib.hid ((hb2.block _ (lt_of_block HZ1.out)).trans HZ1.out)
    clear hb2 HCost AI1 HZ1
    go_wp2_with fail
    refine (HAt.out _).mono ?_
    rintro e w3 ⟨rfl,hb3⟩
    have AIt:=Lib.hid (AI2.out.below hb3)
    have HZ3:=Lib.hid ((hb3.block _ (lt_of_block HZ2.out)).trans HZ2.out)
    clear hb3 AI2 HZ2 HAt htx
    simp only [strV]
    have HRt:=Lib.hid (zz8 151 tx HTx.out w3)
    have hTe:tx.isEmpty=false:=HTe.out
    go_wp2_with fail
    refine HRt.out.mono ?_
    rintro e w5 ⟨rfl,hb5⟩
    have hz5:=(hb5.block _ (lt_of_block HZ3.out)).trans HZ3.out
    have ai5:=AIt.out.below hb5
    obtain ⟨ai6,hz6'⟩:=ai5.stored HB.out hz5 rfl HXw.out (fun q hq=>HXo.out q hq) [.int .i64 (151:Nat),.int .i64 0,.slice none 0 0,.bool false] rfl
    have hz6:((((w5.setCell ⟨wr.heap.size,0,none⟩ (.int .i64 (151:Nat))).setCell ⟨wr.heap.size,1,none⟩ (.int .i64 0)).setCell ⟨wr.heap.size,2,none⟩ (.slice none 0 0)).setCell ⟨wr.heap.size,3,none⟩ (.bool false)).heap[wr.heap.size]? = some (.cells #[.int .i64 (151:Nat),.int .i64 0,.slice none 0 0,.bool false] 94 (0,0)):=hz6'
    have k0:=za0 hz5 0 rfl
    have k1:=za0 hz5 1 rfl
    have k2:=za0 hz5 2 rfl
    have k3:=za0 hz5 3 rfl
    have f:=fun i=>za2 hz5 i
    have n0:=za0 hz6 0 rfl
    have n1:=za0 hz6 1 rfl
    have n2:=za0 hz6 2 rfl
    have n3:=za0 hz6 3 rfl
    have HO6:Hid (((((w5.setCell ⟨wr.heap.size,0,none⟩ (.int .i64 (151:Nat))).setCell ⟨wr.heap.size,1,none⟩ (.int .i64 0)).setCell ⟨wr.heap.size,2,none⟩ (.slice none 0 0)).setCell ⟨wr.heap.size,3,none⟩ (.bool false)).ownsRow w.heap.size 94 4 u15 ys.length (itemsV resVals ys)):=Lib.hid ai6.out.row
    have HS6:Hid (w.heap.size≤((((w5.setCell ⟨wr.heap.size,0,none⟩ (.int .i64 (151:Nat))).setCell ⟨wr.heap.size,1,none⟩ (.int .i64 0)).setCell ⟨wr.heap.size,2,none⟩ (.slice none 0 0)).setCell ⟨wr.heap.size,3,none⟩ (.bool false)).heap.size):=Lib.hid (by have:=ai6.size;exact Nat.le_of_lt (Nat.lt_of_succ_lt this))
    have AI6:Hid (AllD w0 w ((((w5.setCell ⟨wr.heap.size,0,none⟩ (.int .i64 (151:Nat))).setCell ⟨wr.heap.size,1,none⟩ (.int .i64 0)).setCell ⟨wr.heap.size,2,none⟩ (.slice none 0 0)).setCell ⟨wr.heap.size,3,none⟩ (.bool false)) B x node T d mv st d' u15 ys):=Lib.hid ai6
    have hyl2:=HYl.out
    clear hb5 hz5 ai5 ai6 hz6 hz6' HRt AIt hTe
    go_upto_region 14 with (fail)
    clear k0 k1 k2 k3 f
    generalize ((((w5.setCell ⟨wr.heap.size,0,none⟩ (.int .i64 (151:Nat))).setCell ⟨wr.heap.size,1,none⟩ (.int .i64 0)).setCell ⟨wr.heap.size,2,none⟩ (.slice none 0 0)).setCell ⟨wr.heap.size,3,none⟩ (.bool false))=w6 at *
    go_upto_region 15 with (first | (at_builtin;refine zh5 rfl (.tmp 68) (.tmp 70) rfl w.heap.size _ ys rfl HO6.out ⟨151,0,none,0,[],false⟩ _ rfl rfl (by omega) HS6.out ?_;intro v7 w7 ho7 ha7) | fail)
    have ai7:=AI6.out.appended HB.out ⟨151,0,none,0,[],false⟩ DocB.none_ ho7 ha7
    have HKi:=Lib.hid (HTx.out.kind w7)
    have AI7:=Lib.hid ai7
    clear ai7 ho7 ha7 n0 n1 n2 n3 HO6 HS6 AI6
    have HKk:Hid (ApeP.kindOf (some 151)=some 0):=Lib.hid rfl
    rw [HKk.out] at HKi
    go_wp2_with fail
    refine HKi.out.mono ?_
    rintro e w8 ⟨rfl,hb8⟩
    simp only [kindN]
    have ai8:=AI7.out.below hb8
    have b2:w8.cell? ⟨w.heap.size + 1,2,none⟩=some (.pointer (some ⟨d.rm,0,none⟩)):=za0 ai8.box 2 rfl
    have HRp:=Lib.hid (HRep.out w8 _ v7 _ 0 ai8)
    clear hb8 ai8 HKi AI7
    have p9:decide ((0:Int) < 0)=false:=decide_eq_false (by omega)
    go_wp2_with fail
    refine HRp.out.mono ?_
    rintro e w9 ⟨rfl,d9,ai9⟩
    simp only [strV]
    have htl:=HTell.out 151 0 HKk.out
    obtain ⟨pbk,pok,hpa,hpl,kbud,-⟩:=zd9 ai9.host.por.cfgW HP.out
    have kb8:w9.cell? ⟨w.heap.size,8,none⟩=some (.slice x.PA x.pn x.pcap):=za0 ai9.cfg 8 rfl
    rw [hpa] at kb8
    rw [HBd.out] at kbud
    have hpl':(part:Int) < (x.pn:Int):=by omega
    have t1:decide ((part:Int) < (x.pn:Int))=true:=decide_eq_true hpl'
    have t2:decide (part < x.pn)=true:=decide_eq_true hpl
    have t3:=IntWalk.i64_in bud (by have:=HBud.out;omega)
    generalize hrep:HeaP.reportT (x.parts.map sayOf) node st.mon round ((part:Nat):Int) 0=rep at *
    obtain ⟨⟨ra,rb⟩,rm⟩:=rep
    simp only at htl ai9
    clear HRp hrep HRep HTell
    by_cases hb:rb=0
    case neg=>
     have g1:(txt15 rb).isEmpty=false:=by unfold txt15;rw [if_neg hb];exact zA0 rb
     have HF:=Lib.hid (HYes.out w9 ⟨151,0,none,0,[],false⟩ d9 v7 HPl.out (by rw [htl];simp [hb]) (by rw [htl];exact ai9))
     rw [htl] at HF
     clear ai9 HYes HNo htl
     go_wp2_with fail
     go_quiet (fail)
     go_wp2_with fail
     refine bodyPost_ret (v:=.tuple #[v7,.int .u8 (ra:Nat),.int .i64 bud]) (by simp [results,Tryz.results14,go_sem]) rfl ?_
     exact HF.out _
    case pos=>
     subst hb
     have g0:txt15 0=[]:=rfl
     rw [g0]
     by_cases ha:ra=0
     case neg=>
      have g1:((ra:Int) != 0)=true:=by simp;omega
      have g2:(ra != 0)=true:=by simp;omega
      have HF:=Lib.hid (HYes.out w9 ⟨151,0,none,0,[],false⟩ d9 v7 HPl.out (by rw [htl];simp [ha]) (by rw [htl];exact ai9))
      rw [htl] at HF
      clear ai9 HYes HNo htl
      go_wp2_with fail
      go_quiet (fail)
      go_wp2_with fail
      refine bodyPost_ret (v:=.tuple #[v7,.int .u8 (ra:Nat),.int .i64 bud]) (by simp [results,Tryz.results14,go_sem]) rfl ?_
      exact HF.out _
     case pos=>
      subst ha
      -- it ends
      have HF:=Lib.hid (HYes.out w9 ⟨151,0,none,0,[],false⟩ d9 v7 HPl.out (by rw [htl];simp ) (by rw [htl];exact ai9))
      rw [htl] at HF
      clear ai9 HYes HNo htl
      go_wp2_with fail
      go_quiet (fail)
      go_wp2_with fail
      refine bodyPost_ret (v:=.tuple #[v7,.int .u8 0,.int .i64 bud]) (by simp [results,Tryz.results14,go_sem]) rfl ?_
      exact HF.out _
   case neg=>
    have hst:ApeP.stepG (ApeP.opT x.plain (node:Int) part T) lf st o.plain=(((ApeP.opT x.plain (node:Int) part T st o.plain).1,lf - ApeP.costT o.plain),(ApeP.opT x.plain (node:Int) part T st o.plain).2):=if_neg hc
    rw [hst] at HYes HNo HSl HRep HTell HTell0
    have c1:decide (lf < ApeP.costT o.plain)=false:=decide_eq_false hc
    obtain ⟨sleft,hsl⟩:∃ q,lf - ApeP.costT o.plain=q:=⟨_,rfl⟩
    have c2:IntKind.i64.wrap (lf - ApeP.costT o.plain)=sleft:=by
     have:=ApeP.cost_pos o.plain
     have:=HBud.out
     rw [IntWalk.i64_in _ (by omega)];exact hsl
    simp only [hsl] at HYes HNo HSl
    have HOp:Hid (∀ W,Below wr.heap.size wr W→Calls Tryz.prog 34 #[.int .i64 (part:Nat),mv,.agg #[.pointer (some ⟨d.ra,0,none⟩),.pointer (some ⟨d.tb,0,none⟩),.pointer (some ⟨d.rm,0,none⟩),.pointer (some ⟨d.cb,0,none⟩)],opV o] W (fun e w3=>∃ y t d2,e = .returned (.tuple #[resV y,strV t])∧y.plain=(ApeP.opT x.plain (node:Int) part T st o.plain).1.1∧DocB w3 y.A y.data∧ErrT (ApeP.opT x.plain (node:Int) part T st o.plain).1.2 t∧AllD w0 w w3 B x node T d mv (ApeP.opT x.plain (node:Int) part T st o.plain).2 d2 u15 ys∧TouchD B W w3)):=Lib.hid fun W hW=>by
     have ai:=hai.below hW
     have h1:=rop_any ai.host ai.mem (Nat.le_trans HB.out (by have:=ai.size;omega)) HA.out HPt.out HT.out o (hok.below hW)
     rw [ai.went.value] at h1
     unfold docV at h1
     refine h1.mono ?_
     rintro e w3 ⟨y,t,d2,rfl,r1,r2,r3,r4,r5,r6⟩
     exact ⟨y,t,d2,rfl,r1,r2,r3,ai.next r4 r5 r6,r6.touch ai.host ai.mem⟩
    have AI1:=Lib.hid ai1
    have HZ1:=Lib.hid hz1
    have HBq:=Lib.hid hbq
    obtain ⟨ok,op_,oa,ob,oc,oD,om,ocap,od⟩:=o
    have o0:=hit1 0 _ rfl
    have o1:=hit1 1 _ rfl
    have o2:=hit1 2 _ rfl
    have o3:=hit1 3 _ rfl
    have o4:=hit1 4 _ rfl
    have o5:=hit1 5 _ rfl
    simp only [Nat.add_zero] at o0
    unfold opV at HCost HOp
    simp only at HCost HOp
    clear hai hok hok1 hit hit1 hx hxl hdrop hrun hst hone hlf hlow hlow' hstm hstl hvx hbq hz1 hyl hk habl hit0 ai1 hc hsl
    generalize ApeP.costT (⟨ok,op_,oa,ob,oc,oD,om,ocap,od⟩:OpC).plain=cst at *
    generalize ApeP.opT x.plain (node:Int) part T st (⟨ok,op_,oa,ob,oc,oD,om,ocap,od⟩:OpC).plain=sr at *
    obtain ⟨⟨sres,serr⟩,sst⟩:=sr
    simp only at HYes HNo HSl HRep HTell HTell0 HOp
    go_upto_region 7 with (fail)
    generalize (wr.alloc (.cells #[.int .i64 0,.int .i64 0,.slice none 0 0,.bool false] 94))=w1 at *
    go_wp2_with fail
    clear o0 o1 o2 o3 o4 o5
    refine (HCost.out _).mono ?_
    rintro e w2 ⟨rfl,hb2⟩
    have AI2:=Lib.hid (AI1.out.below hb2)
    have HZ2:=Lib.hid ((hb2.block _ (lt_of_block HZ1.out)).trans HZ1.out)
    have HB2:=Lib.hid (HBq.out.trans (hb2.mono HBq.out.size))
    have o0:=HIt.out w2 AI2.out.host.por.tab 0 _ rfl
    have o1:=HIt.out w2 AI2.out.host.por.tab 1 _ rfl
    have o2:=HIt.out w2 AI2.out.host.por.tab 2 _ rfl
    have o3:=HIt.out w2 AI2.out.host.por.tab 3 _ rfl
    have o4:=HIt.out w2 AI2.out.host.por.tab 4 _ rfl
    have o5:=HIt.out w2 AI2.out.host.por.tab 5 _ rfl
    simp only [Nat.add_zero] at o0
    clear hb2 AI1 HZ1 HBq
    go_wp2_with fail
    clear o0 o1 o2 o3 o4 o5
    refine (HCost.out _).mono ?_
    rintro e w3 ⟨rfl,hb3⟩
    have hz3:=(hb3.block _ (lt_of_block HZ2.out)).trans HZ2.out
    have ai3:=AI2.out.below hb3
    have HB3:=Lib.hid (HB2.out.trans (hb3.mono HB2.out.size))
    have hS0:S11 (w.heap.size + 1) wr.heap.size ab (ao + k * 6) w3.drew #[.pointer (some ⟨d.ra,0,none⟩),.pointer (some ⟨d.tb,0,none⟩),.pointer (some ⟨d.rm,0,none⟩),.pointer (some ⟨d.cb,0,none⟩)] ⟨ok,op_,oa,ob,oc,oD,om,ocap,od⟩:=⟨ai3.box,fun j u hu=>HIt.out w3 ai3.host.por.tab j u hu,hz3⟩
    have s0:∀ W,S11 (w.heap.size + 1) wr.heap.size ab (ao + k * 6) W #[.pointer (some ⟨d.ra,0,none⟩),.pointer (some ⟨d.tb,0,none⟩),.pointer (some ⟨d.rm,0,none⟩),.pointer (some ⟨d.cb,0,none⟩)] ⟨ok,op_,oa,ob,oc,oD,om,ocap,od⟩→W.cell? ⟨w.heap.size + 1,0,none⟩=some (.pointer (some ⟨d.ra,0,none⟩)):=fun W hW=>za0 hW.1 0 rfl
    have s1:∀ W,S11 (w.heap.size + 1) wr.heap.size ab (ao + k * 6) W #[.pointer (some ⟨d.ra,0,none⟩),.pointer (some ⟨d.tb,0,none⟩),.pointer (some ⟨d.rm,0,none⟩),.pointer (some ⟨d.cb,0,none⟩)] ⟨ok,op_,oa,ob,oc,oD,om,ocap,od⟩→W.cell? ⟨w.heap.size + 1,1,none⟩=some (.pointer (some ⟨d.tb,0,none⟩)):=fun W hW=>za0 hW.1 1 rfl
    have s2:∀ W,S11 (w.heap.size + 1) wr.heap.size ab (ao + k * 6) W #[.pointer (some ⟨d.ra,0,none⟩),.pointer (some ⟨d.tb,0,none⟩),.pointer (some ⟨d.rm,0,none⟩),.pointer (some ⟨d.cb,0,none⟩)] ⟨ok,op_,oa,ob,oc,oD,om,ocap,od⟩→W.cell? ⟨w.heap.size + 1,2,none⟩=some (.pointer (some ⟨d.rm,0,none⟩)):=fun W hW=>za0 hW.1 2 rfl
    have s3:∀ W,S11 (w.heap.size + 1) wr.heap.size ab (ao + k * 6) W #[.pointer (some ⟨d.ra,0,none⟩),.pointer (some ⟨d.tb,0,none⟩),.pointer (some ⟨d.rm,0,none⟩),.pointer (some ⟨d.cb,0,none⟩)] ⟨ok,op_,oa,ob,oc,oD,om,ocap,od⟩→W.cell? ⟨w.heap.size + 1,3,none⟩=some (.pointer (some ⟨d.cb,0,none⟩)):=fun W hW=>za0 hW.1 3 rfl
    have a0:∀ W,S11 (w.heap.size + 1) wr.heap.size ab (ao + k * 6) W #[.pointer (some ⟨d.ra,0,none⟩),.pointer (some ⟨d.tb,0,none⟩),.pointer (some ⟨d.rm,0,none⟩),.pointer (some ⟨d.cb,0,none⟩)] ⟨ok,op_,oa,ob,oc,oD,om,ocap,od⟩→W.cell? ⟨ab,ao + k * 6,none⟩=some (.int .u8 (ok:Nat)):=fun W hW=>hW.2.1 0 _ rfl
    have a1:∀ W,S11 (w.heap.size + 1) wr.heap.size ab (ao + k * 6) W #[.pointer (some ⟨d.ra,0,none⟩),.pointer (some ⟨d.tb,0,none⟩),.pointer (some ⟨d.rm,0,none⟩),.pointer (some ⟨d.cb,0,none⟩)] ⟨ok,op_,oa,ob,oc,oD,om,ocap,od⟩→W.cell? ⟨ab,ao + k * 6 + 1,none⟩=some (.int .i64 op_):=fun W hW=>hW.2.1 1 _ rfl
    have a2:∀ W,S11 (w.heap.size + 1) wr.heap.size ab (ao + k * 6) W #[.pointer (some ⟨d.ra,0,none⟩),.pointer (some ⟨d.tb,0,none⟩),.pointer (some ⟨d.rm,0,none⟩),.pointer (some ⟨d.cb,0,none⟩)] ⟨ok,op_,oa,ob,oc,oD,om,ocap,od⟩→W.cell? ⟨ab,ao + k * 6 + 2,none⟩=some (.int .i64 oa):=fun W hW=>hW.2.1 2 _ rfl
    have a3:∀ W,S11 (w.heap.size + 1) wr.heap.size ab (ao + k * 6) W #[.pointer (some ⟨d.ra,0,none⟩),.pointer (some ⟨d.tb,0,none⟩),.pointer (some ⟨d.rm,0,none⟩),.pointer (some ⟨d.cb,0,none⟩)] ⟨ok,op_,oa,ob,oc,oD,om,ocap,od⟩→W.cell? ⟨ab,ao + k * 6 + 3,none⟩=some (.int .i64 ob):=fun W hW=>hW.2.1 3 _ rfl
    have a4:∀ W,S11 (w.heap.size + 1) wr.heap.size ab (ao + k * 6) W #[.pointer (some ⟨d.ra,0,none⟩),.pointer (some ⟨d.tb,0,none⟩),.pointer (some ⟨d.rm,0,none⟩),.pointer (some ⟨d.cb,0,none⟩)] ⟨ok,op_,oa,ob,oc,oD,om,ocap,od⟩→W.cell? ⟨ab,ao + k * 6 + 4,none⟩=some (.int .i64 oc):=fun W hW=>hW.2.1 4 _ rfl
    have a5:∀ W,S11 (w.heap.size + 1) wr.heap.size ab (ao + k * 6) W #[.pointer (some ⟨d.ra,0,none⟩),.pointer (some ⟨d.tb,0,none⟩),.pointer (some ⟨d.rm,0,none⟩),.pointer (some ⟨d.cb,0,none⟩)] ⟨ok,op_,oa,ob,oc,oD,om,ocap,od⟩→W.cell? ⟨ab,ao + k * 6 + 5,none⟩=some (.slice oD om ocap):=fun W hW=>hW.2.1 5 _ rfl
    clear hb3 AI2 HZ2 HB2 HCost hz3 ai3
    go_upto_region 11 with (fail)
    refine za9 (st:=11) (S:=fun W=>S11 (w.heap.size + 1) wr.heap.size ab (ao + k * 6) W #[.pointer (some ⟨d.ra,0,none⟩),.pointer (some ⟨d.tb,0,none⟩),.pointer (some ⟨d.rm,0,none⟩),.pointer (some ⟨d.cb,0,none⟩)] ⟨ok,op_,oa,ob,oc,oD,om,ocap,od⟩) (by kernel_rfl) hS0 (fun _=>?_)
    refine tL 0 hS0 ?_
    try simp only [Act.put,tkT,tk0,tkS]
    refine tL 1 hS0 ?_
    try simp only [Act.put,tkT,tk0,tkS]
    refine tL 2 hS0 ?_
    try simp only [Act.put,tkT,tk0,tkS]
    refine tL 3 hS0 ?_
    try simp only [Act.put,tkT,tk0,tkS]
    refine tL 4 hS0 ?_
    try simp only [Act.put,tkT,tk0,tkS]
    refine tL 5 hS0 ?_
    try simp only [Act.put,tkT,tk0,tkS]
    refine tL 6 hS0 ?_
    try simp only [Act.put,tkT,tk0,tkS]
    refine za8 (k:=7) (by kernel_rfl) (by simp only [tkA,tkG];rfl) (fun K hK=>?_)
    go_simp
    refine (HOp.out _ HB3.out.drew).mono ?_
    rintro e w4 ⟨y,tx,d2,rfl,r1,r2,r3,ai4,ht⟩
    obtain ⟨yc,yv,yA,ycap,yd,yf⟩:=y
    have hz4:=ht.off hS0.2.2 ze4
    have hS4:S11 (w.heap.size + 1) wr.heap.size ab (ao + k * 6) w4 #[.pointer (some ⟨d.ra,0,none⟩),.pointer (some ⟨d.tb,0,none⟩),.pointer (some ⟨d.rm,0,none⟩),.pointer (some ⟨d.cb,0,none⟩)] ⟨ok,op_,oa,ob,oc,oD,om,ocap,od⟩:=⟨ai4.box,fun j u hu=>HIt.out w4 ai4.host.por.tab j u hu,hz4⟩
    have R1:=Lib.hid r1
    have R3:=Lib.hid r3
    obtain ⟨ai5,hz5⟩:=ai4.stored HB.out hz4 rfl HXw.out (fun q hq=>HXo.out q hq) [.int .i64 (yc:Nat),.int .i64 yv,.slice yA yd.length ycap,.bool yf] rfl
    have R2:=Lib.hid (r2.off (za1 wr.heap.size [.int .i64 (yc:Nat),.int .i64 yv,.slice yA yd.length ycap,.bool yf] 0 w4) (fun q hq=>by subst hq;exact ⟨_,_,hz4,by decide⟩))
    have AIt:Hid (AllD w0 w ((((w4.setCell ⟨wr.heap.size,0,none⟩ (.int .i64 (yc:Nat))).setCell ⟨wr.heap.size,1,none⟩ (.int .i64 yv)).setCell ⟨wr.heap.size,2,none⟩ (.slice yA yd.length ycap)).setCell ⟨wr.heap.size,3,none⟩ (.bool yf)) B x node T d mv sst d2 u15 ys):=Lib.hid ai5
    have HZt:Hid (((((w4.setCell ⟨wr.heap.size,0,none⟩ (.int .i64 (yc:Nat))).setCell ⟨wr.heap.size,1,none⟩ (.int .i64 yv)).setCell ⟨wr.heap.size,2,none⟩ (.slice yA yd.length ycap)).setCell ⟨wr.heap.size,3,none⟩ (.bool yf)).heap[wr.heap.size]? = some (.cells #[.int .i64 (yc:Nat),.int .i64 yv,.slice yA yd.length ycap,.bool yf] 94 (0,0))):=Lib.hid hz5
    have R2t:Hid (DocB ((((w4.setCell ⟨wr.heap.size,0,none⟩ (.int .i64 (yc:Nat))).setCell ⟨wr.heap.size,1,none⟩ (.int .i64 yv)).setCell ⟨wr.heap.size,2,none⟩ (.slice yA yd.length ycap)).setCell ⟨wr.heap.size,3,none⟩ (.bool yf)) yA yd):=R2
    simp only [resV]
    have k0:=za0 hz4 0 rfl
    have k1:=za0 hz4 1 rfl
    have k2:=za0 hz4 2 rfl
    have k3:=za0 hz4 3 rfl
    have f:=fun i=>za2 hz4 i
    clear r1 r2 r3 ai4 ht hz4 ai5 hz5 HOp R2
    go_wp2_with fail
    refine hK.out _ _ (fun _=>hS4) ?_
    clear hK K
    refine tL 8 hS4 ?_
    try simp only [Act.put,tkT,tk0,tkS]
    refine tL 9 hS4 ?_
    try simp only [Act.put,tkT,tk0,tkS]
    refine zw2 (i:=10) (oi:=?oo2) (v:=?vv2) ?ii2 (by decide) (by kernel_rfl) ?ff2 (by kernel_rfl) ?qq2 (Or.inl ⟨?ww2,?yy2⟩) hS4 ?rr2
    case ii2=>simp only [List.getElem?_toArray,List.getElem?_cons_succ,List.getElem?_cons_zero];rfl
    case ff2=>kernel_rfl
    case qq2=>exact fun _ _ _ h=>h
    case ww2=>rfl
    case yy2=>intro W hW;go_simp<;>with_reducible rfl
    try simp only [Act.put,List.setIfInBounds_toArray,List.set_cons_zero,List.set_cons_succ]
    refine zc0 (k:=11) (by kernel_rfl) (by simp only [tkA,tkG];rfl) (fun K hK=>?_)
    go_simp
    go_wp2_with fail
    refine hK.out _ _ ?_
    clear hK K
    refine za8 (k:=12) (by kernel_rfl) (by simp only [tkA,tkG];rfl) (fun K hK=>?_)
    go_simp
    try go_wp2_with fail
    refine hK.out _ _ (fun e=>absurd (show (true:Bool)=false from e) (by decide)) ?_
    clear hK K
    refine zb9 (by kernel_rfl) ?_ _
    clear s0 s1 s2 s3 a0 a1 a2 a3 a4 a5 hS0 hS4 k0 k1 k2 k3 f HB3
    generalize ((((w4.setCell ⟨wr.heap.size,0,none⟩ (.int .i64 (yc:Nat))).setCell ⟨wr.heap.size,1,none⟩ (.int .i64 yv)).setCell ⟨wr.heap.size,2,none⟩ (.slice yA yd.length ycap)).setCell ⟨wr.heap.size,3,none⟩ (.bool yf))=w4' at *
    simp only [strV]
    cases serr with
    | none=>
     obtain rfl:=R3.out.nil.2 rfl
     have hkn:ApeP.kindOf none=none:=rfl
     have n0:=za0 HZt.out 0 rfl
     have n1:=za0 HZt.out 1 rfl
     have n2:=za0 HZt.out 2 rfl
     have n3:=za0 HZt.out 3 rfl
     have HO6:Hid (w4'.ownsRow w.heap.size 94 4 u15 ys.length (itemsV resVals ys)):=Lib.hid AIt.out.out.row
     have HS6:Hid (w.heap.size≤w4'.heap.size):=Lib.hid (by have:=AIt.out.size;omega)
     have hyl2:=HYl.out
     have hTe:([]:List UInt8).isEmpty=true:=rfl
     go_upto_region 15 with (first | (at_builtin;refine zh5 rfl (.tmp 68) (.tmp 70) rfl w.heap.size _ ys rfl HO6.out ⟨yc,yv,yA,ycap,yd,yf⟩ _ rfl rfl (by omega) HS6.out ?_;intro v7 w7 ho7 ha7) | fail)
     have ai7:=AIt.out.appended HB.out ⟨yc,yv,yA,ycap,yd,yf⟩ R2t.out ho7 ha7
     have HKi:=Lib.hid (ErrT.none_.kind w7)
     rw [hkn] at HKi
     have AI7:=Lib.hid ai7
     have HN8:Hid (∀ w8,Below w7.heap.size w7 w8→RunRD w0 w B x node part T d mv l round bud N s v7 (.int .i64 sleft) (.int .i64 ((k:Int) + 1)) w8):=Lib.hid fun w8 hb8=>HNo.out w8 ⟨yc,yv,yA,ycap,yd,yf⟩ d2 v7 R1.out rfl (AI7.out.below hb8:AllD w0 w w8 B x node T d mv (ApeP.monT sst sst.mon) d2 v7 _)
     clear ai7 ho7 ha7 n0 n1 n2 n3 HO6 HS6 AIt HZt R1 R2t R3 HYes HNo HRep HTell HTell0 AI7 hkn hTe
     go_wp2_with fail
     refine HKi.out.mono ?_
     rintro e w8 ⟨rfl,hb8⟩
     simp only [kindN]
     have HF:=Lib.hid (HN8.out w8 hb8)
     clear hb8 HN8 HKi
     go_wp2_with fail
     go_roundw
     case rel=>exact HF.out
     case measure=>simp [intOf];omega
    | some code=>
     have HTx:=R3
     have HTe:Hid (tx.isEmpty=false):=Lib.hid (by
      have h:=R3.out.nil
      cases tx with
      | nil=>have:=h.1 rfl;cases this
      | cons a b=>rfl)
     have HPl:Hid ((⟨code,0,none,0,[],false⟩:ResC).plain=ApeP.showT (sres,some code)):=Lib.hid rfl
     clear R1 R2t R3
     have HRt:=Lib.hid (zz8 code tx HTx.out w4')
     have hTe:tx.isEmpty=false:=HTe.out
     go_wp2_with fail
     refine HRt.out.mono ?_
     rintro e w5 ⟨rfl,hb5⟩
     have hz5:=(hb5.block _ (lt_of_block HZt.out)).trans HZt.out
     have ai5:=AIt.out.below hb5
     obtain ⟨ai6,hz6'⟩:=ai5.stored HB.out hz5 rfl HXw.out (fun q hq=>HXo.out q hq) [.int .i64 (code:Nat),.int .i64 0,.slice none 0 0,.bool false] rfl
     have hz6:((((w5.setCell ⟨wr.heap.size,0,none⟩ (.int .i64 (code:Nat))).setCell ⟨wr.heap.size,1,none⟩ (.int .i64 0)).setCell ⟨wr.heap.size,2,none⟩ (.slice none 0 0)).setCell ⟨wr.heap.size,3,none⟩ (.bool false)).heap[wr.heap.size]? = some (.cells #[.int .i64 (code:Nat),.int .i64 0,.slice none 0 0,.bool false] 94 (0,0)):=hz6'
     have k0:=za0 hz5 0 rfl
     have k1:=za0 hz5 1 rfl
     have k2:=za0 hz5 2 rfl
     have k3:=za0 hz5 3 rfl
     have f:=fun i=>za2 hz5 i
     have n0:=za0 hz6 0 rfl
     have n1:=za0 hz6 1 rfl
     have n2:=za0 hz6 2 rfl
     have n3:=za0 hz6 3 rfl
     have HO6:Hid (((((w5.setCell ⟨wr.heap.size,0,none⟩ (.int .i64 (code:Nat))).setCell ⟨wr.heap.size,1,none⟩ (.int .i64 0)).setCell ⟨wr.heap.size,2,none⟩ (.slice none 0 0)).setCell ⟨wr.heap.size,3,none⟩ (.bool false)).ownsRow w.heap.size 94 4 u15 ys.length (itemsV resVals ys)):=Lib.hid ai6.out.row
     have HS6:Hid (w.heap.size≤((((w5.setCell ⟨wr.heap.size,0,none⟩ (.int .i64 (code:Nat))).setCell ⟨wr.heap.size,1,none⟩ (.int .i64 0)).setCell ⟨wr.heap.size,2,none⟩ (.slice none 0 0)).setCell ⟨wr.heap.size,3,none⟩ (.bool false)).heap.size):=Lib.hid (by have:=ai6.size;exact Nat.le_of_lt (Nat.lt_of_succ_lt this))
     have AI6:Hid (AllD w0 w ((((w5.setCell ⟨wr.heap.size,0,none⟩ (.int .i64 (code:Nat))).setCell ⟨wr.heap.size,1,none⟩ (.int .i64 0)).setCell ⟨wr.heap.size,2,none⟩ (.slice none 0 0)).setCell ⟨wr.heap.size,3,none⟩ (.bool false)) B x node T d mv sst d2 u15 ys):=Lib.hid ai6
     have hyl2:=HYl.out
     clear hb5 hz5 ai5 ai6 hz6 hz6' HRt AIt hTe
     go_upto_region 14 with (fail)
     clear k0 k1 k2 k3 f
     generalize ((((w5.setCell ⟨wr.heap.size,0,none⟩ (.int .i64 (code:Nat))).setCell ⟨wr.heap.size,1,none⟩ (.int .i64 0)).setCell ⟨wr.heap.size,2,none⟩ (.slice none 0 0)).setCell ⟨wr.heap.size,3,none⟩ (.bool false))=w6 at *
     go_upto_region 15 with (first | (at_builtin;refine zh5 rfl (.tmp 68) (.tmp 70) rfl w.heap.size _ ys rfl HO6.out ⟨code,0,none,0,[],false⟩ _ rfl rfl (by omega) HS6.out ?_;intro v7 w7 ho7 ha7) | fail)
     have ai7:=AI6.out.appended HB.out ⟨code,0,none,0,[],false⟩ DocB.none_ ho7 ha7
     have HKi:=Lib.hid (HTx.out.kind w7)
     have AI7:=Lib.hid ai7
     clear ai7 ho7 ha7 n0 n1 n2 n3 HO6 HS6 AI6
     cases hkk:ApeP.kindOf (some code) with
     | none=>
      rw [hkk] at HKi
      have htl:=HTell0.out code hkk
      have HN8:Hid (∀ w8,Below w7.heap.size w7 w8→RunRD w0 w B x node part T d mv l round bud N s v7 (.int .i64 sleft) (.int .i64 ((k:Int) + 1)) w8):=Lib.hid fun w8 hb8=>HNo.out w8 ⟨code,0,none,0,[],false⟩ d2 v7 HPl.out (by rw [htl]) (by rw [htl];exact (AI7.out.below hb8:AllD w0 w w8 B x node T d mv (ApeP.monT sst sst.mon) d2 v7 _))
      clear HYes HNo htl AI7 HRep HTell HTell0
      go_wp2_with fail
      refine HKi.out.mono ?_
      rintro e w8 ⟨rfl,hb8⟩
      simp only [kindN]
      have HF:=Lib.hid (HN8.out w8 hb8)
      clear hb8 HN8 HKi
      go_wp2_with fail
      go_roundw
      case rel=>exact HF.out
      case measure=>simp [intOf];omega
     | some kk=>
      have HKk:=Lib.hid hkk
      rw [hkk] at HKi
      clear hkk HTell0
      go_wp2_with fail
      refine HKi.out.mono ?_
      rintro e w8 ⟨rfl,hb8⟩
      simp only [kindN]
      have ai8:=AI7.out.below hb8
      have b2:w8.cell? ⟨w.heap.size + 1,2,none⟩=some (.pointer (some ⟨d.rm,0,none⟩)):=za0 ai8.box 2 rfl
      have HRp:=Lib.hid (HRep.out w8 _ v7 _ kk ai8)
      clear hb8 ai8 HKi AI7
      have p9:decide ((kk:Int) < 0)=false:=decide_eq_false (by omega)
      go_wp2_with fail
      refine HRp.out.mono ?_
      rintro e w9 ⟨rfl,d9,ai9⟩
      simp only [strV]
      have htl:=HTell.out code kk HKk.out
      obtain ⟨pbk,pok,hpa,hpl,kbud,-⟩:=zd9 ai9.host.por.cfgW HP.out
      have kb8:w9.cell? ⟨w.heap.size,8,none⟩=some (.slice x.PA x.pn x.pcap):=za0 ai9.cfg 8 rfl
      rw [hpa] at kb8
      rw [HBd.out] at kbud
      have hpl':(part:Int) < (x.pn:Int):=by omega
      have t1:decide ((part:Int) < (x.pn:Int))=true:=decide_eq_true hpl'
      have t2:decide (part < x.pn)=true:=decide_eq_true hpl
      have t3:=sub_in2 HSl.out HBud.out
      generalize hrep:HeaP.reportT (x.parts.map sayOf) node sst.mon round ((part:Nat):Int) kk=rep at *
      obtain ⟨⟨ra,rb⟩,rm⟩:=rep
      simp only at htl ai9
      clear HRp hrep HRep HTell
      by_cases hb:rb=0
      case neg=>
       have g1:(txt15 rb).isEmpty=false:=by unfold txt15;rw [if_neg hb];exact zA0 rb
       have HF:=Lib.hid (HYes.out w9 ⟨code,0,none,0,[],false⟩ d9 v7 HPl.out (by rw [htl];simp [hb]) (by rw [htl];exact ai9))
       rw [htl] at HF
       clear ai9 HYes HNo htl
       go_wp2_with fail
       go_quiet (fail)
       go_wp2_with fail
       refine bodyPost_ret (v:=.tuple #[v7,.int .u8 (ra:Nat),.int .i64 (bud - sleft)]) (by simp [results,Tryz.results14,go_sem]) rfl ?_
       exact HF.out _
      case pos=>
       subst hb
       have g0:txt15 0=[]:=rfl
       rw [g0]
       by_cases ha:ra=0
       case neg=>
        have g1:((ra:Int) != 0)=true:=by simp;omega
        have g2:(ra != 0)=true:=by simp;omega
        have HF:=Lib.hid (HYes.out w9 ⟨code,0,none,0,[],false⟩ d9 v7 HPl.out (by rw [htl];simp [ha]) (by rw [htl];exact ai9))
        rw [htl] at HF
        clear ai9 HYes HNo htl
        go_wp2_with fail
        go_quiet (fail)
        go_wp2_with fail
        refine bodyPost_ret (v:=.tuple #[v7,.int .u8 (ra:Nat),.int .i64 (bud - sleft)]) (by simp [results,Tryz.results14,go_sem]) rfl ?_
        exact HF.out _
       case pos=>
        subst ha
        by_cases hk0:kk=0
        case pos=>
         subst hk0
         -- it ends
         have HF:=Lib.hid (HYes.out w9 ⟨code,0,none,0,[],false⟩ d9 v7 HPl.out (by rw [htl];simp ) (by rw [htl];exact ai9))
         rw [htl] at HF
         clear ai9 HYes HNo htl
         go_wp2_with fail
         go_quiet (fail)
         go_wp2_with fail
         refine bodyPost_ret (v:=.tuple #[v7,.int .u8 0,.int .i64 (bud - sleft)]) (by simp [results,Tryz.results14,go_sem]) rfl ?_
         exact HF.out _
        case neg=>
         have g1:((kk:Int) == 0)=false:=by rw [beq_eq_false_iff_ne];omega
         have g2:(kk == 0)=false:=by rw [beq_eq_false_iff_ne];exact hk0
         have HF:=Lib.hid (HNo.out w9 ⟨code,0,none,0,[],false⟩ d9 v7 HPl.out (by rw [htl];simp [hk0]) (by rw [htl];exact ai9))
         clear ai9 HYes HNo htl kbud kb8
         go_wp2_with fail
         go_roundw
         case rel=>exact HF.out
         case measure=>simp [intOf];omega
open Go.RowKit
set_option maxRecDepth 100000
structure ResAt (W:World) (A:Option Addr) (l:List ResC):Prop where
 items:ItemsIn resVals 4 W A l
 bytes:∀ y∈l,Bytes W W.heap.size y.A y.data
theorem ResAt.below {W W':World} {A:Option Addr} {l:List ResC} (h:ResAt W A l) (hb:Below W.heap.size W W'):ResAt W' A l:=⟨h.items.below hb,fun y hy=>((h.bytes y hy).below hb (Nat.le_refl _)).more hb.size⟩
theorem OutA.at_ {W:World} {N B:Nat} {v:Value} {ys:List ResC} (h:OutA W N B v ys):∃ A cap,v = .slice A ys.length cap∧ResAt W A ys:=by
 obtain ⟨A,cap,rfl,-,hit⟩:=ItemsIn.own zk3 h.row
 refine ⟨A,cap,rfl,hit,fun y hy=>?_⟩
 exact (zm5 (h.data y hy)).1
theorem OutD.at_ {W:World} {N:Nat} {v:Value} {ys:List ResC} (h:OutD W N v ys):∃ A cap,v = .slice A ys.length cap∧ResAt W A ys:=by
 obtain ⟨A,cap,rfl,-,hit⟩:=ItemsIn.own zk3 h.row
 exact ⟨A,cap,rfl,hit,fun y hy=>(h.data y hy).1⟩
theorem res_get {l l2:List ResC} (h:l.map ResC.plain=l2.map ResC.plain) {k:Nat} {x y:ResC} (hx:l[k]? = some x) (hy:l2[k]? = some y):x.code=y.code∧x.value=y.value∧x.data=y.data∧x.fresh=y.fresh:=by
 have h1:(l.map ResC.plain)[k]? = some x.plain:=by rw [List.getElem?_map,hx];rfl
 have h2:(l2.map ResC.plain)[k]? = some y.plain:=by rw [List.getElem?_map,hy];rfl
 rw [h,h2] at h1
 injection h1 with h1
 simp only [ResC.plain,ApeP.Res.mk.injEq] at h1
 exact ⟨h1.1.symm,h1.2.1.symm,h1.2.2.1.symm,h1.2.2.2.symm⟩
set_option maxHeartbeats 4000000 in
theorem zD4 (A A2:Option Addr) (n cap cap2:Nat) (l l2:List ResC) (hn:l.length=n) (hp:l.map ResC.plain=l2.map ResC.plain) (w:World) (h1:ResAt w A l) (h2:ResAt w A2 l2) (hm:n≤1000000) :
 Calls Tryz.prog 15 #[.slice A n cap,.slice A2 n cap2] w (SamePost w):=by
 have H1:=Lib.hid h1
 have H2:=Lib.hid h2
 have Hn:=Lib.hid hn
 have Hp:=Lib.hid hp
 have HM:=Lib.hid hm
 have Hn2:Hid (l2.length=n):=Lib.hid (by have:=congrArg List.length hp;simp at this;omega)
 clear h1 h2 hn hp hm
 go_enter Tryz.func15,Tryz.ntmps15
 go_wp2_with fail
 go_loopw [5] (SameRel n w) (fun i _=>(n + 1 - intOf i).toNat)
 case atStart=>exact ⟨0,0,Nat.zero_le _,rfl,rfl⟩
 case round=>
  obtain ⟨k,m,hk,rfl,rfl⟩:=hrel
  have hN:=HM.out
  by_cases hlt:k < n
  case pos=>
   obtain ⟨b,off,rfl,hb,hi⟩:=H1.out.items (by rw [Hn.out];omega)
   obtain ⟨b',off',rfl,hb',hi'⟩:=H2.out.items (by rw [Hn2.out];omega)
   obtain ⟨⟨rc,rv,D,q,t,rf⟩,hmk⟩:∃ y,l[k]? = some y:=⟨_,List.getElem?_eq_getElem (by rw [Hn.out];exact hlt)⟩
   obtain ⟨⟨rc',rv',D',q',t',rf'⟩,hmk'⟩:∃ y,l2[k]? = some y:=⟨_,List.getElem?_eq_getElem (by rw [Hn2.out];exact hlt)⟩
   have by1:=H1.out.bytes _ (List.mem_of_getElem? hmk)
   have by2:=H2.out.bytes _ (List.mem_of_getElem? hmk')
   obtain ⟨e1,e2,e3,e4⟩:=res_get Hp.out hmk hmk'
   have hi:=hi k _ hmk
   have hi':=hi' k _ hmk'
   simp only at e1 e2 e3 e4 by1 by2
   subst e1 e2 e3 e4
   have k0:w.cell? ⟨b,off + k * 4,none⟩=some (.int .i64 (rc:Nat)):=hi 0 _ rfl
   have k1:w.cell? ⟨b,off + k * 4 + 1,none⟩=some (.int .i64 rv):=hi 1 _ rfl
   have k2:w.cell? ⟨b,off + k * 4 + 2,none⟩=some (.slice D t.length q):=hi 2 _ rfl
   have k3:w.cell? ⟨b,off + k * 4 + 3,none⟩=some (.bool rf):=hi 3 _ rfl
   have m0:w.cell? ⟨b',off' + k * 4,none⟩=some (.int .i64 (rc:Nat)):=hi' 0 _ rfl
   have m1:w.cell? ⟨b',off' + k * 4 + 1,none⟩=some (.int .i64 rv):=hi' 1 _ rfl
   have m2:w.cell? ⟨b',off' + k * 4 + 2,none⟩=some (.slice D' t.length q'):=hi' 2 _ rfl
   have m3:w.cell? ⟨b',off' + k * 4 + 3,none⟩=some (.bool rf):=hi' 3 _ rfl
   have c1:∀ j,(convert 89 9 (.slice D t.length q)).run Tryz.prog (w.drewN j) = .ok (.string ⟨t.toArray⟩) (w.drewN j):=fun j=>zE2 rfl by1
   have c2:∀ j,(convert 89 9 (.slice D' t.length q')).run Tryz.prog (w.drewN j) = .ok (.string ⟨t.toArray⟩) (w.drewN j):=fun j=>zE2 rfl by2
   clear hi hi' hmk hmk' by1 by2
   generalize t.length=tn at *
   generalize t.toArray=ta at *
   go_wp2_with fail
   go_quiet (fail)
   go_wp2_with fail
   go_roundw
   case rel=>exact ⟨k + 1,_,by omega,by go_num,rfl⟩
   case measure=>simp [intOf];omega
  case neg=>
   go_wp2_with fail
   go_ret
   exact ⟨rfl,m,rfl⟩
open Go.RowKit
set_option maxRecDepth 100000
set_option maxHeartbeats 1000000 in
theorem clear_any {W:World} {B pb part n:Nat} {budget:Int} {wv:Value} {mem:List Nat} (h:PartIn W B pb part budget wv mem) (hn:mem.length=n):Calls Tryz.prog 11 #[.pointer (some ⟨pb,0,none⟩)] W (ClrP W B pb part budget wv n):=by
 have hd:=h.hd
 have hrow:=h.row
 by_cases h0:n=0
 ·subst h0
  obtain rfl:=List.eq_nil_of_length_eq_zero hn
  obtain ⟨A,cap,rfl,-⟩:=za6 hrow
  have k2:W.cell? ⟨pb,2,none⟩=some (.slice A 0 cap):=za0 hd 2 rfl
  have hcl:∀ ty,(Builtin.clear_ #[62] ty #[.slice A 0 cap]).run Tryz.prog W = .ok (.tuple #[]) W:=fun ty=>by
   cases A<;>simp [Builtin.clear_,run_underlying Tryz.underlying62,Result.andThen]<;>rfl
  have HF:Hid (ClrP W B pb part budget (.slice A 0 cap) 0 (.returned (.tuple #[])) W):=Lib.hid ⟨rfl,h,Apart.refl _ _⟩
  clear h hd hrow hn
  go_enter Tryz.func11,Tryz.ntmps11
  go_wp2_with fail
  refine bodyPost_ret (v:=.tuple #[]) (results_none rfl _ _ _) rfl ?_
  exact HF.out
 ·rcases hrow.2 with ⟨-,h1⟩ | ⟨g,cap,cur,rfl,hB,hg,hnc,hmax,hcap,htk⟩
  ·omega
  rw [hn] at hnc htk
  have hsz:n≤cur.size:=by rw [hcap];omega
  obtain ⟨cur',e1,e2,e3,e4⟩:=ze5 (List.replicate n (.int .u16 0)) 0 W cur hg (by rw [List.length_replicate];omega)
  have hcl:∀ ty,(Builtin.clear_ #[62] ty #[.slice (some ⟨g,0,none⟩) n cap]).run Tryz.prog W = .ok (.tuple #[]) (W.setCells g 0 (List.replicate n (.int .u16 0))):=fun ty=>
   Lib.run_clear_slice W 62 42 ty (.int .u16 0) Tryz.underlying62 (fun w=>by kernel_rfl) rfl rfl g 0 n cap (by omega)
    (fun j hj=>by rw [cell_of_row W g _ cur _ (0,0) hg,Array.getElem?_eq_getElem (by omega)];rfl) (fun j hj=>frozen_of_row W g _ cur _ hg)
  have ha:=zd6 g (List.replicate n (.int .u16 0)) 0 W
  have hpg:pb≠g:=fun e=>by
   subst e
   rw [hd] at hg
   simp only [Option.some.injEq,Obj.cells.injEq] at hg
   exact absurd hg.2.1 (by decide)
  have k2:W.cell? ⟨pb,2,none⟩=some (.slice (some ⟨g,0,none⟩) n cap):=by rw [← hn];exact za0 hd 2 rfl
  have HF:Hid (ClrP W B pb part budget (.slice (some ⟨g,0,none⟩) mem.length cap) n (.returned (.tuple #[])) (W.setCells g 0 (List.replicate n (.int .u16 0)))):=Lib.hid (by
   refine ⟨rfl,⟨(ha.block pb (lt_of_block hd) hpg).trans hd,?_,fun v hv=>?_,by rw [List.length_replicate,← hn];exact h.most,h.base⟩,ha.mono fun k _ e=>by rw [e];rfl⟩
   ·rw [List.length_replicate,hn]
    refine ⟨by simp [zi6],.inr ⟨g,cap,cur',rfl,hB,e1,hnc,hmax,by omega,?_⟩⟩
    apply List.ext_getElem?
    intro j
    rw [Nat.mul_one,List.getElem?_take]
    by_cases hj:j < n
    ·rw [if_pos hj]
     have q:=e3 j (.int .u16 0) (by rw [List.getElem?_replicate,if_pos hj])
     rw [Nat.zero_add] at q
     rw [ze6 (by rw [List.length_replicate];exact hj),List.getElem?_replicate,if_pos hj]
     simpa using q
    ·rw [if_neg hj,List.getElem?_eq_none (by rw [zi6,List.length_replicate];omega)]
   ·rw [List.eq_of_mem_replicate hv];decide)
  rw [hn] at HF ⊢
  clear h hd hrow hg hnc hcap htk hsz e1 e2 e3 e4 ha hpg hmax hB hn
  go_enter Tryz.func11,Tryz.ntmps11
  go_wp2_with fail
  refine bodyPost_ret (v:=.tuple #[]) (results_none rfl _ _ _) rfl ?_
  exact HF.out
def NewA16 (w:World) (ps:List TableP.Part) (part:Int) (e:Ending) (w':World):Prop:=match (if part < 0 then none else ps[part.toNat]?) with
 | none=>e = .returned (.tuple #[.pointer none,.iface 92 (.int .i64 2)])∧Below w.heap.size w w'
 | some p=>if p.words < 0∨16 < p.words then e = .returned (.tuple #[.pointer none,.iface 92 (.int .i64 2)])∧Below w.heap.size w w'
  else ∃ pb wv,e = .returned (.tuple #[.pointer (some ⟨pb,0,none⟩),.nilIface])∧PartIn w' w.heap.size pb part.toNat p.budget wv (List.replicate p.words.toNat 0)∧Below w.heap.size w w'
def NewS16 (b:Nat) (p:TableP.Part) (W:World):Prop:=W.heap[b]? = some (.cells (partVals p).toArray 66 (0,0))
theorem zm8 (n:Nat) (hn:n≤1000) (W:World):(Instr.makeSlice 62 (.int .i64 (n:Nat)) (.int .i64 (n:Nat))).run Tryz.prog W = .ok (.slice (some ⟨W.heap.size,0,none⟩) n n) (W.alloc (.cells (wordV (List.replicate n 0)).toArray 42)):=by
 have h:=run_make_row' (P:=Tryz.prog) 62 42 (.int .u16 0) 2 Tryz.underlying62 infoU16w rfl .i64 .i64 n (by omega) (by omega) W
 rw [h]
 have e:madeCells #[.int .u16 0] n=(wordV (List.replicate n 0)).toArray:=by
  apply Array.ext'
  rw [toList_madeCells_one]
  simp [wordV]
 rw [e]
theorem zs8 {w:World} {B n:Nat} (hB:B≤w.heap.size) (hn:n≤maxLen):(w.alloc (.cells (wordV (List.replicate n 0)).toArray 42)).ownsRow B 42 1 (.slice (some ⟨w.heap.size,0,none⟩) n n) n (wordV (List.replicate n 0)):=by
 have h1:=World.ownsRow_lit (e:=42) (size:=1) (base:=B) w (wordV (List.replicate n 0)).toArray n hB hn (by simp [wordV])
 simpa using h1
set_option maxHeartbeats 4000000 in
theorem zA1 (x:CfgC) (w:World) (hx:CfgIn w x) (part:Int) (hlo:-9223372036854775808≤part) (hhi:part≤9223372036854775807) (hpn:x.pn≤1000000) (hbud:∀ p∈x.parts,-9223372036854775808≤p.words∧p.words≤9223372036854775807) :
 Calls Tryz.prog 9 #[x.value,.int .i64 part] w (NewA16 w x.parts part):=by
 have hb0:∀ o,Below w.heap.size w (w.alloc o):=fun o=>(Below.refl _ _).alloc (Nat.le_refl _) _
 have hits:=hx.parts
 have hlen:=hx.plen
 have hx0:=hx
 obtain ⟨nodes,faulty,slot,gap,rho,dmin,dmax,margin,PA,pn,pcap,parts,QA,qn,qcap,ports,RA,rn,rcap,routes⟩:=x
 simp only at hits hlen hpn hbud
 simp only [CfgC.value]
 by_cases h0:part < 0
 ·have HF:Hid (∀ W,Below w.heap.size w W→NewA16 w parts part (.returned (.tuple #[.pointer none,.iface 92 (.int .i64 2)])) W):=Lib.hid fun W hW=>by
   unfold NewA16
   rw [if_pos h0]
   exact ⟨rfl,hW⟩
  have d1:decide (part < 0)=true:=decide_eq_true h0
  have HB:=Lib.hid hb0
  clear hits hlen hx hx0 hb0 h0
  go_enter Tryz.func9,Tryz.ntmps9
  go_wp2_with fail
  go_ret2
  exact HF.out _ (HB.out _)
 obtain ⟨k,rfl⟩:=Int.eq_ofNat_of_zero_le (show 0≤part by omega)
 have d1:decide ((k:Int) < 0)=false:=decide_eq_false h0
 by_cases h1:pn≤k
 ·have HF:Hid (∀ W,Below w.heap.size w W→NewA16 w parts k (.returned (.tuple #[.pointer none,.iface 92 (.int .i64 2)])) W):=Lib.hid fun W hW=>by
   unfold NewA16
   rw [if_neg h0,Int.toNat_natCast,List.getElem?_eq_none (by omega)]
   exact ⟨rfl,hW⟩
  have d2:decide ((pn:Int)≤(k:Int))=true:=decide_eq_true (by omega)
  have d3:decide (pn≤k)=true:=decide_eq_true h1
  have HB:=Lib.hid hb0
  clear hits hlen hx hx0 hb0 h0 h1
  go_enter Tryz.func9,Tryz.ntmps9
  go_wp2_with fail
  go_ret2
  exact HF.out _ (HB.out _)
 have d2:decide ((pn:Int)≤(k:Int))=false:=decide_eq_false (by omega)
 have d3:decide (pn≤k)=false:=decide_eq_false h1
 have hlt:k < pn:=by omega
 obtain ⟨p,hp⟩:∃ p,parts[k]? = some p:=⟨_,List.getElem?_eq_getElem (by omega)⟩
 obtain ⟨b,off,rfl,hbl,hcell⟩:=hits (by omega)
 have hw:=hbud p (List.mem_of_getElem? hp)
 have hc:=hcell k p hp
 obtain ⟨pnd,pst,ple,pbu,pwo,pr0,pr1,pr2,pr3⟩:=p
 have a0:w.cell? ⟨b,off + k * 9,none⟩=some (.int .i64 pnd):=hc 0 _ rfl
 have a1:w.cell? ⟨b,off + k * 9 + 1,none⟩=some (.int .i64 pst):=hc 1 _ rfl
 have a2:w.cell? ⟨b,off + k * 9 + 2,none⟩=some (.int .i64 ple):=hc 2 _ rfl
 have a3:w.cell? ⟨b,off + k * 9 + 3,none⟩=some (.int .i64 pbu):=hc 3 _ rfl
 have a4:w.cell? ⟨b,off + k * 9 + 4,none⟩=some (.int .i64 pwo):=hc 4 _ rfl
 have a5:w.cell? ⟨b,off + k * 9 + 5,none⟩=some (.int .u8 (pr0:Nat)):=hc 5 _ rfl
 have a6:w.cell? ⟨b,off + k * 9 + 6,none⟩=some (.int .u8 (pr1:Nat)):=hc 6 _ rfl
 have a7:w.cell? ⟨b,off + k * 9 + 7,none⟩=some (.int .u8 (pr2:Nat)):=hc 7 _ rfl
 have a8:w.cell? ⟨b,off + k * 9 + 8,none⟩=some (.int .u8 (pr3:Nat)):=hc 8 _ rfl
 have hne:b≠w.heap.size:=by omega
 have HB2:Hid (∀ o o',Below w.heap.size w ((w.alloc o).alloc o')):=Lib.hid fun o o'=>(hb0 o).alloc (by simp) _
 simp only at hw
 by_cases h2:pwo < 0∨16 < pwo
 ·have HF:Hid (∀ W,Below w.heap.size w W→NewA16 w parts k (.returned (.tuple #[.pointer none,.iface 92 (.int .i64 2)])) W):=Lib.hid fun W hW=>by
   unfold NewA16
   rw [if_neg h0,Int.toNat_natCast,hp]
   simp only
   rw [if_pos h2]
   exact ⟨by first | rfl | trivial,hW⟩
  clear hits hlen hx hx0 hb0 h0 h1 hcell hc hp hbud
  rcases Int.lt_or_le pwo 0 with h3 | h3
  ·have d4:decide (pwo < 0)=true:=decide_eq_true h3
   clear h2 h3
   go_enter Tryz.func9,Tryz.ntmps9
   go_wp2_with fail
   go_ret2
   exact HF.out _ (HB2.out _ _)
  ·have d4:decide (pwo < 0)=false:=decide_eq_false (by omega)
   have d5:decide ((16:Int) < pwo)=true:=decide_eq_true (by omega)
   clear h2 h3
   go_enter Tryz.func9,Tryz.ntmps9
   go_wp2_with fail
   go_ret2
   exact HF.out _ (HB2.out _ _)
 obtain ⟨n,rfl⟩:=Int.eq_ofNat_of_zero_le (show 0≤pwo by omega)
 have d4:decide ((n:Int) < 0)=false:=decide_eq_false (by omega)
 have d5:decide ((16:Int) < (n:Int))=false:=decide_eq_false (by omega)
 have hn16:n≤16:=by omega
 have hmk:=zm8 n (by omega)
 have HF:Hid (∀ W,Below w.heap.size w W→NewA16 w parts k (.returned (.tuple #[.pointer (some ⟨W.heap.size + 1,0,none⟩),.nilIface])) ((W.alloc (.cells (wordV (List.replicate n 0)).toArray 42)).alloc (.cells #[.int .i64 (k:Nat),.int .i64 pbu,.slice (some ⟨W.heap.size,0,none⟩) n n] 107))):=Lib.hid fun W hW=>by
  unfold NewA16
  rw [if_neg h0,Int.toNat_natCast,hp]
  simp only
  rw [if_neg h2]
  have hb1:Below W.heap.size W (W.alloc (.cells (wordV (List.replicate n 0)).toArray 42)):=(Below.refl _ _).alloc (Nat.le_refl _) _
  have hrow:=zs8 (w:=W) (B:=w.heap.size) (n:=n) hW.size (by unfold maxLen;omega)
  have hb2:Below (W.alloc (.cells (wordV (List.replicate n 0)).toArray 42)).heap.size (W.alloc (.cells (wordV (List.replicate n 0)).toArray 42)) ((W.alloc (.cells (wordV (List.replicate n 0)).toArray 42)).alloc (.cells #[.int .i64 (k:Nat),.int .i64 pbu,.slice (some ⟨W.heap.size,0,none⟩) n n] 107)):=(Below.refl _ _).alloc (Nat.le_refl _) _
  refine ⟨W.heap.size + 1,.slice (some ⟨W.heap.size,0,none⟩) n n,rfl,⟨newAt1 _ _ _,?_,fun v hv=>?_,by simp;omega,by have:=hW.size;omega⟩,hW.trans ((hb1.trans (hb2.mono hb1.size)).mono hW.size)⟩
  ·rw [Int.toNat_natCast,List.length_replicate]
   exact za3 (F:=fun _=>False) hrow (Apart.of_below' hb2) (fun _ _ h=>h)
  ·rw [List.eq_of_mem_replicate hv];decide
 have hd0:NewS16 (w.heap.size + 1) ⟨pnd,pst,ple,pbu,(n:Nat),pr0,pr1,pr2,pr3⟩ ((w.alloc (.cells #[.int .i64 nodes,.int .i64 faulty,.int .i64 slot,.int .i64 gap,.int .i64 rho,.int .i64 dmin,.int .i64 dmax,.int .i64 margin,.slice (some ⟨b,off,none⟩) pn pcap,.slice QA qn qcap,.slice RA rn rcap] 26)).alloc (.cells #[.int .i64 pnd,.int .i64 pst,.int .i64 ple,.int .i64 pbu,.int .i64 (n:Nat),.int .u8 (pr0:Nat),.int .u8 (pr1:Nat),.int .u8 (pr2:Nat),.int .u8 (pr3:Nat)] 66)).drew:=newAt1 _ _ _
 have c3:∀ W,NewS16 (w.heap.size + 1) ⟨pnd,pst,ple,pbu,(n:Nat),pr0,pr1,pr2,pr3⟩ W→W.cell? ⟨w.heap.size + 1,3,none⟩=some (.int .i64 pbu):=fun W hW=>za0 hW 3 rfl
 have c4:∀ W,NewS16 (w.heap.size + 1) ⟨pnd,pst,ple,pbu,(n:Nat),pr0,pr1,pr2,pr3⟩ W→W.cell? ⟨w.heap.size + 1,4,none⟩=some (.int .i64 (n:Nat)):=fun W hW=>za0 hW 4 rfl
 have HBd:Hid (Below w.heap.size w ((w.alloc (.cells #[.int .i64 nodes,.int .i64 faulty,.int .i64 slot,.int .i64 gap,.int .i64 rho,.int .i64 dmin,.int .i64 dmax,.int .i64 margin,.slice (some ⟨b,off,none⟩) pn pcap,.slice QA qn qcap,.slice RA rn rcap] 26)).alloc (.cells #[.int .i64 pnd,.int .i64 pst,.int .i64 ple,.int .i64 pbu,.int .i64 (n:Nat),.int .u8 (pr0:Nat),.int .u8 (pr1:Nat),.int .u8 (pr2:Nat),.int .u8 (pr3:Nat)] 66)).drew):=Lib.hid (HB2.out _ _).drew
 clear hits hlen hx hx0 hb0 h0 h1 h2 hcell hc hp hbud
 go_enter Tryz.func9,Tryz.ntmps9
 go_wp2_with fail
 refine wp_region_held_drew (S:=fun W=>NewS16 (w.heap.size + 1) ⟨pnd,pst,ple,pbu,(n:Nat),pr0,pr1,pr2,pr3⟩ W) (by kernel_rfl) hd0 (fun _=>?_)
 refine tK 0 hd0 ?_
 try simp only [Act.put,tkT,tk0,tkS]
 refine tK 1 hd0 ?_
 try simp only [Act.put,tkT,tk0,tkS]
 refine tK 2 hd0 ?_
 try simp only [Act.put,tkT,tk0,tkS]
 refine tK 3 hd0 ?_
 try simp only [Act.put,tkT,tk0,tkS]
 refine tK 4 hd0 ?_
 try simp only [Act.put,tkT,tk0,tkS]
 generalize ((w.alloc (.cells #[.int .i64 nodes,.int .i64 faulty,.int .i64 slot,.int .i64 gap,.int .i64 rho,.int .i64 dmin,.int .i64 dmax,.int .i64 margin,.slice (some ⟨b,off,none⟩) pn pcap,.slice QA qn qcap,.slice RA rn rcap] 26)).alloc (.cells #[.int .i64 pnd,.int .i64 pst,.int .i64 ple,.int .i64 pbu,.int .i64 (n:Nat),.int .u8 (pr0:Nat),.int .u8 (pr1:Nat),.int .u8 (pr2:Nat),.int .u8 (pr3:Nat)] 66)).drew=w1 at *
 refine clH 5 (by kernel_rfl) (by simp only [tkA,tkG];rfl) (fun K hK=>?_)
 go_simp
 have hd1:NewS16 (w.heap.size + 1) ⟨pnd,pst,ple,pbu,(n:Nat),pr0,pr1,pr2,pr3⟩ (w1.alloc (.cells (wordV (List.replicate n 0)).toArray 42)):=(Below.heap_alloc _ _ _ (lt_of_block hd0)).trans hd0
 go_wp2_with fail
 refine hK.out _ _ hd1 (fun _=>?_)
 clear hK K
 refine tK 6 hd1 ?_
 try simp only [Act.put,tkT,tk0,tkS]
 refine clH 7 (by kernel_rfl) (by simp only [tkA,tkG];rfl) (fun K hK=>?_)
 go_simp
 have hd2:NewS16 (w.heap.size + 1) ⟨pnd,pst,ple,pbu,(n:Nat),pr0,pr1,pr2,pr3⟩ ((w1.alloc (.cells (wordV (List.replicate n 0)).toArray 42)).alloc (.cells #[.int .i64 (k:Nat),.int .i64 pbu,.slice (some ⟨w1.heap.size,0,none⟩) n n] 107)):=(Below.heap_alloc _ _ _ (lt_of_block hd1)).trans hd1
 go_wp2_with fail
 refine hK.out _ _ hd2 (fun _=>?_)
 clear hK K
 refine tK 8 hd2 ?_
 try simp only [Act.put,tkT,tk0,tkS]
 refine tK 9 hd2 ?_
 try simp only [Act.put,tkT,tk0,tkS]
 refine wpAnyH_done (by kernel_rfl) ?_ _
 go_wp2_with fail
 refine bodyPost_ret (v:=.tuple #[.pointer (some ⟨w1.heap.size + 1,0,none⟩),.nilIface]) (by simp [results,Tryz.results9,go_sem]) rfl ?_
 exact HF.out _ HBd.out
end Go.Proofs.YtfgpfmhjnccccaaGreatDoor
