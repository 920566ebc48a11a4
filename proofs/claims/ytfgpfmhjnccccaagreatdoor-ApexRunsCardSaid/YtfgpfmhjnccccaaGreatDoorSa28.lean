import Derived.Deep.Cut
import Derived.Test.YtfgpfmhjnccccaaGreatDoorSa27
import Derived.Test.YtfgpfmhjnccccaaGreatDoorSa08
import Derived.Test.YtfgpfmhjnccccaaGreatDoorSa20
namespace Go.Proofs.YtfgpfmhjnccccaaGreatDoor
open Go.RowKit
set_option maxRecDepth 100000
theorem MonIn.low16 {w:World} {B B' b node:Nat} {rec:List (List Nat)} {m:HeaP.Mon} {vp vr:Value} (h:MonIn w B b node rec m vp vr) (hB:B'≤B):MonIn w B' b node rec m vp vr:=⟨h.hd,zf8 h.wat hB,zf8 h.recs hB,Nat.le_trans hB h.base,h.v⟩
structure HPs (w:World) (x:CfgC) (node:Nat) (px:PC) (ot om oc:Option Nat) (oy:Option CfgC) (W:World):Prop where
 b:Below w.heap.size w W
 box:W.heap[w.heap.size]? = some (.cells (cfgCells x) 26 (0,0))
 res:W.heap[w.heap.size + 1]? = some (.cells #[.pointer none,.pointer none,.pointer none,.pointer none] 36 (0,0))
 por:PIn W w.heap.size x.plain px
 tab:∀ tb,ot=some tb→RepIn W tb none RepP.new 0 0
 mon:∀ mb,om=some mb→∃ vp vr,MonIn W w.heap.size mb node (x.plain.parts.map sayOf) (HeaP.Mon.start x.plain.parts.length) vp vr
 cmd:∀ cb,oc=some cb→w.heap.size≤cb∧W.heap[cb]? = some (.cells (cmdVals ⟨0,0,0,0⟩).toArray 51 (0,0))
 cfg:∀ y,oy=some y→CfgIn W y∧y.plain=x.plain
section
variable {w W W':World} {x:CfgC} {node:Nat} {px:PC} {ot om oc:Option Nat} {oy:Option CfgC}
theorem HPs.below (h:HPs w x node px ot om oc oy W) (hb:Below W.heap.size W W'):HPs w x node px ot om oc oy W':=
 ⟨h.b.trans (hb.mono h.b.size),(hb.block _ (lt_of_block h.box)).trans h.box,(hb.block _ (lt_of_block h.res)).trans h.res,h.por.below hb,fun tb e=>(h.tab tb e).below hb,fun mb e=>by
  obtain ⟨vp,vr,hm⟩:=h.mon mb e
  exact ⟨vp,vr,hm.keep hb⟩,fun cb e=>⟨(h.cmd cb e).1,(hb.block _ (lt_of_block (h.cmd cb e).2)).trans (h.cmd cb e).2⟩,fun y e=>⟨(h.cfg y e).1.below hb,(h.cfg y e).2⟩⟩
theorem HPs.addTab (h:HPs w x node px none om oc oy W):Calls Tryz.prog 28 #[] W (fun e w'=>∃ tb,e = .returned (.pointer (some ⟨tb,0,none⟩))∧HPs w x node px (some tb) om oc oy w'):=by
 refine (zJ0 W).mono ?_
 rintro e w' ⟨rfl,h1,h2,-⟩
 have h3:=h.below h2
 exact ⟨_,rfl,h3.b,h3.box,h3.res,h3.por,fun tb e=>by obtain rfl:=Option.some.inj e;exact h1,h3.mon,h3.cmd,h3.cfg⟩
theorem HPs.addCfg (h:HPs w x node px ot om oc none W) (hx:CfgIn w x) (hp:x.pn≤1000000) (hq:x.qn≤1000000) (hr:x.rn≤1000000):Calls Tryz.prog 10 #[x.value] W (fun e w'=>∃ y,e = .returned y.value∧HPs w x node px ot om oc (some y) w'):=by
 refine (zm4 x W (hx.below h.b) hp hq hr).mono ?_
 rintro e w' ⟨_,rfl,⟨y,rfl,h1,h2⟩,h3⟩
 have h4:=h.below h3
 exact ⟨y,rfl,h4.b,h4.box,h4.res,h4.por,h4.tab,h4.mon,h4.cmd,fun y' e=>by obtain rfl:=Option.some.inj e;exact ⟨h1,h2⟩⟩
theorem HPs.addMon {y:CfgC} (h:HPs w x node px ot none oc (some y) W) (hn:x.plain.parts.length≤255) (hnode:node≤255):Calls Tryz.prog 29 #[.int .i64 (node:Nat),.slice y.PA y.pn y.pcap] W (fun e w'=>∃ mb,e = .returned (.pointer (some ⟨mb,0,none⟩))∧HPs w x node px ot (some mb) oc (some y) w'):=by
 obtain ⟨h1,h2⟩:=h.cfg y rfl
 have h3:y.parts=x.plain.parts:=congrArg TableP.Cfg.parts h2
 have h4:y.parts.length=y.pn:=h1.plen
 refine (hnew_any W y.PA y.pn y.pcap y.parts h4 (by rw [← h4,h3];exact hn) node hnode h1.parts).mono ?_
 rintro e w' ⟨rfl,vp,h5,h6⟩
 have h7:=h.below h6
 rw [h3,List.length_map] at h5
 exact ⟨_,rfl,h7.b,h7.box,h7.res,h7.por,h7.tab,fun mb e=>by obtain rfl:=Option.some.inj e;exact ⟨vp,_,h5.low16 h.b.size⟩,h7.cmd,h7.cfg⟩
theorem HPs.addCmd (h:HPs w x node px ot om none oy W):HPs w x node px ot om (some W.heap.size) oy (W.alloc (.cells #[.int .u8 0,.int .u8 0,.int .u16 0,.int .u16 0] 51)):=by
 have h1:=h.below ((Below.refl _ W).alloc (Nat.le_refl _) (.cells #[.int .u8 0,.int .u8 0,.int .u16 0,.int .u16 0] 51))
 exact ⟨h1.b,h1.box,h1.res,h1.por,h1.tab,h1.mon,fun cb e=>by obtain rfl:=Option.some.inj e;exact ⟨h.b.size,heap_alloc_new W _⟩,h1.cfg⟩
end
def HostP (w:World) (c:TableP.Cfg) (node:Nat) (e:Ending) (w':World):Prop:=∃ h:HostC,e = .returned (.tuple #[hostV h,.bool true])∧HostIn w' w.heap.size c node (c.parts.map sayOf) RepP.new h (PorP.start c) (HeaP.Mon.start c.parts.length) ⟨0,0,0,0⟩∧Below w.heap.size w w'
theorem HPs.fin {w W W':World} {x:CfgC} {node:Nat} {px:PC} {tb mb cb:Nat} {oy:Option CfgC} (h:HPs w x node px (some tb) (some mb) (some cb) oy W) (hnd:px.node=(node:Int)) (hst:elSt px.es=PorP.start x.plain) (ha:Apart (fun k=>k=w.heap.size + 1) W W'):HostP w x.plain node (.returned (.tuple #[.agg #[.pointer (some ⟨px.a,0,none⟩),.pointer (some ⟨tb,0,none⟩),.pointer (some ⟨mb,0,none⟩),.pointer (some ⟨cb,0,none⟩)],.bool true])) W':=by
 obtain ⟨vp,vr,hm⟩:=h.mon mb rfl
 have hh:HostIn W w.heap.size x.plain node (x.plain.parts.map sayOf) RepP.new ⟨px,mb,vp,vr,tb,none,0,0,cb⟩ (PorP.start x.plain) (HeaP.Mon.start x.plain.parts.length) ⟨0,0,0,0⟩:=⟨h.por,hnd,hst,hm,h.tab tb rfl,(h.cmd cb rfl).2,⟨by decide,by decide,by decide,by decide⟩,(h.cmd cb rfl).1⟩
 refine ⟨⟨px,mb,vp,vr,tb,none,0,0,cb⟩,rfl,hh.away ha (fun k hk e=>?_) (fun k hk=>?_),h.b.trans (ha.below h.b.size fun k e=>by omega)⟩
 ·subst e
  obtain ⟨-,cs',t,e1,e2,-⟩:=hh.fTag hk
  exact za5 h.res e1 (fun e=>zl7 (by rw [e];exact e2))
 ·subst hk
  exact ⟨_,_,h.res,by decide,by decide,by decide,by decide⟩
def HosS (a:Nat) (cs:Array Value) (W:World):Prop:=W.heap[a]? = some (.cells cs 26 (0,0))∧∃ hs:Array Value,hs.size=4∧W.heap[a + 1]? = some (.cells hs 36 (0,0))
theorem zd1 {w:World} {b:Nat} {cs:Array Value} (h:w.heap[b]? = some (.cells cs 36 (0,0))) (hs:cs.size=4) (vs:List Value) (hv:vs.length=4):(storeAll w b vs 0).heap[b]? = some (.cells vs.toArray 36 (0,0)):=by
 have:=zd2 (t:=36) vs 0 w [] cs.toList (by simpa using h) rfl (by simp [hs,hv])
 simpa using this
theorem field8 (v0 v1 v2 v3 v4 v5 v6 v7 v8 v9 v10:Value) (W:World):(Instr.field 26 (.agg #[v0,v1,v2,v3,v4,v5,v6,v7,v8,v9,v10]) 8).run Tryz.prog W = .ok v8 W:=by kernel_rfl
set_option maxHeartbeats 8000000 in
theorem zF2 (x:CfgC) (node:Nat) (w:World) (hx:CfgIn w x) (hc:SndP.chk6 x.plain=none) (hnd:(node:Int) < x.nodes) (hn255:node≤255) :
 Calls Tryz.prog 6 #[x.value,.int .i64 (node:Nat)] w (HostP w x.plain node):=by
 have hal:=(SndP.works hc).allowed
 have hpn:x.pn≤12:=by have:=hal.parts;rw [show x.plain.parts.length=x.pn from hx.plen] at this;exact this
 have hqn:x.qn≤24:=by have:=hal.ports;rw [show x.plain.ports.length=x.qn from hx.qlen] at this;exact this
 have hrn:x.rn≤24:=by have:=hal.routes;rw [show x.plain.routes.length=x.rn from hx.rlen] at this;exact this
 have Hpn:Hid (x.pn≤1000000):=Lib.hid (by omega)
 have Hqn:Hid (x.qn≤1000000):=Lib.hid (by omega)
 have Hrn:Hid (x.rn≤1000000):=Lib.hid (by omega)
 have HPl:Hid (x.plain.parts.length≤255):=Lib.hid (by have:=hal.parts;omega)
 have HNd:=Lib.hid hn255
 have HX:=Lib.hid hx
 have HCp:Hid (∀ W,Below w.heap.size w W→Calls Tryz.prog 10 #[x.value] W (fun e w'=>∃ y,e = .returned y.value∧CfgIn w' y∧y.plain=x.plain∧Below W.heap.size W w')):=Lib.hid fun W hW=>by
  refine (zm4 x W (hx.below hW) (by omega) (by omega) (by omega)).mono ?_
  rintro e w' ⟨_,rfl,⟨y,rfl,h1,h2⟩,h3⟩
  exact ⟨y,rfl,h1,h2,h3⟩
 have HNw:Hid (∀ (y:CfgC) W,CfgIn W y→y.plain=x.plain→Calls Tryz.prog 27 #[y.value,.int .i64 (node:Nat)] W (NewP W x.plain node)):=Lib.hid fun y W h1 h2=>by
  have h3:=zC5 y node W h1 (by rw [h2];exact hc) ⟨by omega,by rw [show y.nodes=x.nodes from congrArg TableP.Cfg.nodes h2];exact hnd⟩
  rw [h2] at h3
  exact h3
 clear hc hal hpn hqn hrn hnd hn255 hx
 obtain ⟨nodes,faulty,slot,gap,rho,dmin,dmax,margin,PA,pn,pcap,parts,QA,qn,qcap,ports,RA,rn,rcap,routes⟩:=x
 have hb0:Below w.heap.size w ((w.alloc (.cells #[.int .i64 nodes,.int .i64 faulty,.int .i64 slot,.int .i64 gap,.int .i64 rho,.int .i64 dmin,.int .i64 dmax,.int .i64 margin,.slice PA pn pcap,.slice QA qn qcap,.slice RA rn rcap] 26)).alloc (.cells #[.pointer none,.pointer none,.pointer none,.pointer none] 36)):=((Below.refl _ _).alloc (Nat.le_refl _) _).alloc (by simp) _
 simp only [CfgC.value] at HCp ⊢
 generalize hW0:((w.alloc (.cells #[.int .i64 nodes,.int .i64 faulty,.int .i64 slot,.int .i64 gap,.int .i64 rho,.int .i64 dmin,.int .i64 dmax,.int .i64 margin,.slice PA pn pcap,.slice QA qn qcap,.slice RA rn rcap] 26)).alloc (.cells #[.pointer none,.pointer none,.pointer none,.pointer none] 36))=W0 at *
 have hC:W0.heap[w.heap.size]? = some (.cells #[.int .i64 nodes,.int .i64 faulty,.int .i64 slot,.int .i64 gap,.int .i64 rho,.int .i64 dmin,.int .i64 dmax,.int .i64 margin,.slice PA pn pcap,.slice QA qn qcap,.slice RA rn rcap] 26 (0,0)):=by rw [← hW0,allocAt _ _ _ (by simp)];exact newAt _ _
 have hR:W0.heap[w.heap.size + 1]? = some (.cells #[.pointer none,.pointer none,.pointer none,.pointer none] 36 (0,0)):=by rw [← hW0];exact newAt1 _ _ _
 have HE0:=Lib.hid hW0
 have HC0:=Lib.hid hC
 have HR0:=Lib.hid hR
 have Hb0:=Lib.hid hb0
 clear hC hR hb0 hW0
 go_enter Tryz.func6,Tryz.ntmps6
 go_wp2_with fail
 rw [HE0.out]
 refine (HCp.out W0 Hb0.out).mono ?_
 rintro e w1 ⟨⟨ynodes,yfaulty,yslot,ygap,yrho,ydmin,ydmax,ymargin,yPA,ypn,ypcap,yparts,yQA,yqn,yqcap,yports,yRA,yrn,yrcap,yroutes⟩,rfl,hy1,hy2,hb1⟩
 have HNw1:=Lib.hid (HNw.out _ w1 hy1 hy2)
 have hb01:=Hb0.out.trans (hb1.mono Hb0.out.size)
 have hC1:=(hb1.block _ (lt_of_block HC0.out)).trans HC0.out
 have hR1:=(hb1.block _ (lt_of_block HR0.out)).trans HR0.out
 have Hb01:=Lib.hid hb01
 have HC1:=Lib.hid hC1
 have HR1:=Lib.hid hR1
 clear hy1 hy2 hb1 hb01 hC1 hR1 HCp HNw HC0 HR0 HE0 Hb0
 simp only [CfgC.value] at HNw1 ⊢
 go_wp2_with fail
 refine HNw1.out.mono ?_
 rintro e w2 ⟨px,rfl,hnode,hpin,hest,hb2⟩
 have HNo:=Lib.hid hnode
 have HEst:=Lib.hid hest
 have hP0:HPs w ⟨nodes,faulty,slot,gap,rho,dmin,dmax,margin,PA,pn,pcap,parts,QA,qn,qcap,ports,RA,rn,rcap,routes⟩ node px none none none none w2:=⟨Hb01.out.trans (hb2.mono Hb01.out.size),(hb2.block _ (lt_of_block HC1.out)).trans HC1.out,(hb2.block _ (lt_of_block HR1.out)).trans HR1.out,hpin.low Hb01.out.size,fun _ e=>(by cases e),fun _ e=>(by cases e),fun _ e=>(by cases e),fun _ e=>(by cases e)⟩
 have hd0:HosS w.heap.size #[.int .i64 nodes,.int .i64 faulty,.int .i64 slot,.int .i64 gap,.int .i64 rho,.int .i64 dmin,.int .i64 dmax,.int .i64 margin,.slice PA pn pcap,.slice QA qn qcap,.slice RA rn rcap] w2.drew:=⟨hP0.box,_,rfl,hP0.res⟩
 replace hP0:HPs w ⟨nodes,faulty,slot,gap,rho,dmin,dmax,margin,PA,pn,pcap,parts,QA,qn,qcap,ports,RA,rn,rcap,routes⟩ node px none none none none w2.drew:=hP0.below (Below.refl _ _).drew
 have c0:∀ W,HosS w.heap.size #[.int .i64 nodes,.int .i64 faulty,.int .i64 slot,.int .i64 gap,.int .i64 rho,.int .i64 dmin,.int .i64 dmax,.int .i64 margin,.slice PA pn pcap,.slice QA qn qcap,.slice RA rn rcap] W→W.cell? ⟨w.heap.size,0,none⟩=some (.int .i64 nodes):=fun W hW=>za0 hW.1 0 rfl
 have c1:∀ W,HosS w.heap.size #[.int .i64 nodes,.int .i64 faulty,.int .i64 slot,.int .i64 gap,.int .i64 rho,.int .i64 dmin,.int .i64 dmax,.int .i64 margin,.slice PA pn pcap,.slice QA qn qcap,.slice RA rn rcap] W→W.cell? ⟨w.heap.size,1,none⟩=some (.int .i64 faulty):=fun W hW=>za0 hW.1 1 rfl
 have c2:∀ W,HosS w.heap.size #[.int .i64 nodes,.int .i64 faulty,.int .i64 slot,.int .i64 gap,.int .i64 rho,.int .i64 dmin,.int .i64 dmax,.int .i64 margin,.slice PA pn pcap,.slice QA qn qcap,.slice RA rn rcap] W→W.cell? ⟨w.heap.size,2,none⟩=some (.int .i64 slot):=fun W hW=>za0 hW.1 2 rfl
 have c3:∀ W,HosS w.heap.size #[.int .i64 nodes,.int .i64 faulty,.int .i64 slot,.int .i64 gap,.int .i64 rho,.int .i64 dmin,.int .i64 dmax,.int .i64 margin,.slice PA pn pcap,.slice QA qn qcap,.slice RA rn rcap] W→W.cell? ⟨w.heap.size,3,none⟩=some (.int .i64 gap):=fun W hW=>za0 hW.1 3 rfl
 have c4:∀ W,HosS w.heap.size #[.int .i64 nodes,.int .i64 faulty,.int .i64 slot,.int .i64 gap,.int .i64 rho,.int .i64 dmin,.int .i64 dmax,.int .i64 margin,.slice PA pn pcap,.slice QA qn qcap,.slice RA rn rcap] W→W.cell? ⟨w.heap.size,4,none⟩=some (.int .i64 rho):=fun W hW=>za0 hW.1 4 rfl
 have c5:∀ W,HosS w.heap.size #[.int .i64 nodes,.int .i64 faulty,.int .i64 slot,.int .i64 gap,.int .i64 rho,.int .i64 dmin,.int .i64 dmax,.int .i64 margin,.slice PA pn pcap,.slice QA qn qcap,.slice RA rn rcap] W→W.cell? ⟨w.heap.size,5,none⟩=some (.int .i64 dmin):=fun W hW=>za0 hW.1 5 rfl
 have c6:∀ W,HosS w.heap.size #[.int .i64 nodes,.int .i64 faulty,.int .i64 slot,.int .i64 gap,.int .i64 rho,.int .i64 dmin,.int .i64 dmax,.int .i64 margin,.slice PA pn pcap,.slice QA qn qcap,.slice RA rn rcap] W→W.cell? ⟨w.heap.size,6,none⟩=some (.int .i64 dmax):=fun W hW=>za0 hW.1 6 rfl
 have c7:∀ W,HosS w.heap.size #[.int .i64 nodes,.int .i64 faulty,.int .i64 slot,.int .i64 gap,.int .i64 rho,.int .i64 dmin,.int .i64 dmax,.int .i64 margin,.slice PA pn pcap,.slice QA qn qcap,.slice RA rn rcap] W→W.cell? ⟨w.heap.size,7,none⟩=some (.int .i64 margin):=fun W hW=>za0 hW.1 7 rfl
 have c8:∀ W,HosS w.heap.size #[.int .i64 nodes,.int .i64 faulty,.int .i64 slot,.int .i64 gap,.int .i64 rho,.int .i64 dmin,.int .i64 dmax,.int .i64 margin,.slice PA pn pcap,.slice QA qn qcap,.slice RA rn rcap] W→W.cell? ⟨w.heap.size,8,none⟩=some (.slice PA pn pcap):=fun W hW=>za0 hW.1 8 rfl
 have c9:∀ W,HosS w.heap.size #[.int .i64 nodes,.int .i64 faulty,.int .i64 slot,.int .i64 gap,.int .i64 rho,.int .i64 dmin,.int .i64 dmax,.int .i64 margin,.slice PA pn pcap,.slice QA qn qcap,.slice RA rn rcap] W→W.cell? ⟨w.heap.size,9,none⟩=some (.slice QA qn qcap):=fun W hW=>za0 hW.1 9 rfl
 have c10:∀ W,HosS w.heap.size #[.int .i64 nodes,.int .i64 faulty,.int .i64 slot,.int .i64 gap,.int .i64 rho,.int .i64 dmin,.int .i64 dmax,.int .i64 margin,.slice PA pn pcap,.slice QA qn qcap,.slice RA rn rcap] W→W.cell? ⟨w.heap.size,10,none⟩=some (.slice RA rn rcap):=fun W hW=>za0 hW.1 10 rfl
 clear hnode hest hpin hb2 HNw1 Hb01 HC1 HR1
 unfold pv
 go_wp2_with fail
 refine wp_region_held_drew (S:=fun W=>HosS w.heap.size #[.int .i64 nodes,.int .i64 faulty,.int .i64 slot,.int .i64 gap,.int .i64 rho,.int .i64 dmin,.int .i64 dmax,.int .i64 margin,.slice PA pn pcap,.slice QA qn qcap,.slice RA rn rcap] W) (by kernel_rfl) hd0 (fun _=>?_)
 refine tK 0 hd0 ?_
 try simp only [Act.put,tkT,tk0,tkS]
 refine tK 2 hd0 ?_
 try simp only [Act.put,tkT,tk0,tkS]
 refine tK 3 hd0 ?_
 try simp only [Act.put,tkT,tk0,tkS]
 refine tK 7 hd0 ?_
 try simp only [Act.put,tkT,tk0,tkS]
 refine tK 10 hd0 ?_
 try simp only [Act.put,tkT,tk0,tkS]
 refine tK 11 hd0 ?_
 try simp only [Act.put,tkT,tk0,tkS]
 refine wpAnyH_ready (rs:=[1,8]) (by kernel_rfl) (by simp) (AllReadyH.cons (by simp only [tkA,tkG];rfl) (fun K hK=>?_) (AllReadyH.cons (by simp only [tkA,tkG];rfl) (fun K hK=>?_) AllReadyH.nil))
 ·go_simp
  refine (hP0.addTab).mono ?_
  rintro e w1 ⟨tb,rfl,h1⟩
  have s1:HosS w.heap.size #[.int .i64 nodes,.int .i64 faulty,.int .i64 slot,.int .i64 gap,.int .i64 rho,.int .i64 dmin,.int .i64 dmax,.int .i64 margin,.slice PA pn pcap,.slice QA qn qcap,.slice RA rn rcap] w1:=⟨h1.box,_,rfl,h1.res⟩
  go_wp2_with fail
  refine hK.out _ _ s1 (fun _=>?_)
  clear hK K
  refine wpAnyH_ready (rs:=[4,8]) (by kernel_rfl) (by simp) (AllReadyH.cons (by simp only [tkA,tkG];rfl) (fun K hK=>?_) (AllReadyH.cons (by simp only [tkA,tkG];rfl) (fun K hK=>?_) AllReadyH.nil))
  ·go_simp
   refine (h1.addCfg HX.out Hpn.out Hqn.out Hrn.out).mono ?_
   rintro e w2 ⟨⟨ynodes,yfaulty,yslot,ygap,yrho,ydmin,ydmax,ymargin,yPA,ypn,ypcap,yparts,yQA,yqn,yqcap,yports,yRA,yrn,yrcap,yroutes⟩,rfl,h2⟩
   simp only [CfgC.value]
   have s2:HosS w.heap.size #[.int .i64 nodes,.int .i64 faulty,.int .i64 slot,.int .i64 gap,.int .i64 rho,.int .i64 dmin,.int .i64 dmax,.int .i64 margin,.slice PA pn pcap,.slice QA qn qcap,.slice RA rn rcap] w2:=⟨h2.box,_,rfl,h2.res⟩
   go_wp2_with fail
   refine hK.out _ _ s2 (fun _=>?_)
   clear hK K
   have hf8:=field8 (.int .i64 ynodes) (.int .i64 yfaulty) (.int .i64 yslot) (.int .i64 ygap) (.int .i64 yrho) (.int .i64 ydmin) (.int .i64 ydmax) (.int .i64 ymargin) (.slice yPA ypn ypcap) (.slice yQA yqn yqcap) (.slice yRA yrn yrcap)
   refine tK 5 s2 ?_
   try simp only [Act.put,tkT,tk0,tkS]
   clear hf8
   refine wpAnyH_ready (rs:=[6,8]) (by kernel_rfl) (by simp) (AllReadyH.cons (by simp only [tkA,tkG];rfl) (fun K hK=>?_) (AllReadyH.cons (by simp only [tkA,tkG];rfl) (fun K hK=>?_) AllReadyH.nil))
   ·go_simp
    refine (h2.addMon HPl.out HNd.out).mono ?_
    rintro e w3 ⟨mb,rfl,h3⟩
    have s3:HosS w.heap.size #[.int .i64 nodes,.int .i64 faulty,.int .i64 slot,.int .i64 gap,.int .i64 rho,.int .i64 dmin,.int .i64 dmax,.int .i64 margin,.slice PA pn pcap,.slice QA qn qcap,.slice RA rn rcap] w3:=⟨h3.box,_,rfl,h3.res⟩
    go_wp2_with fail
    refine hK.out _ _ s3 (fun _=>?_)
    clear hK K
    refine clH 8 (by kernel_rfl) (by simp only [tkA,tkG];rfl) (fun K hK=>?_)
    go_simp
    have h4:=h3.addCmd
    have s4:HosS w.heap.size #[.int .i64 nodes,.int .i64 faulty,.int .i64 slot,.int .i64 gap,.int .i64 rho,.int .i64 dmin,.int .i64 dmax,.int .i64 margin,.slice PA pn pcap,.slice QA qn qcap,.slice RA rn rcap] _:=⟨h4.box,_,rfl,h4.res⟩
    go_wp2_with fail
    refine hK.out _ _ s4 (fun _=>?_)
    clear hK K
    refine tK 9 s4 ?_
    try simp only [Act.put,tkT,tk0,tkS]
    have hd9:=h4
    have HZ:=Lib.hid h4
    have hbz:=h4.res
    have k0:=za0 hbz 0 rfl
    have k1:=za0 hbz 1 rfl
    have k2:=za0 hbz 2 rfl
    have k3:=za0 hbz 3 rfl
    have f:=fun i=>za2 hbz i
    have hz12:HosS w.heap.size #[.int .i64 nodes,.int .i64 faulty,.int .i64 slot,.int .i64 gap,.int .i64 rho,.int .i64 dmin,.int .i64 dmax,.int .i64 margin,.slice PA pn pcap,.slice QA qn qcap,.slice RA rn rcap] (storeAll (w3.alloc (.cells #[.int .u8 0,.int .u8 0,.int .u16 0,.int .u16 0] 51)) (w.heap.size + 1) [.pointer (some ⟨px.a,0,none⟩),.pointer (some ⟨tb,0,none⟩),.pointer (some ⟨mb,0,none⟩),.pointer (some ⟨w3.heap.size,0,none⟩)] 0):=⟨((za1 (w.heap.size + 1) [.pointer (some ⟨px.a,0,none⟩),.pointer (some ⟨tb,0,none⟩),.pointer (some ⟨mb,0,none⟩),.pointer (some ⟨w3.heap.size,0,none⟩)] 0 (w3.alloc (.cells #[.int .u8 0,.int .u8 0,.int .u16 0,.int .u16 0] 51))).block _ (lt_of_block h4.box) (fun e=>by omega)).trans h4.box,_,rfl,zd1 hbz rfl [.pointer (some ⟨px.a,0,none⟩),.pointer (some ⟨tb,0,none⟩),.pointer (some ⟨mb,0,none⟩),.pointer (some ⟨w3.heap.size,0,none⟩)] rfl⟩
    refine clH 12 (by kernel_rfl) (by simp only [tkA,tkG];rfl) (fun K hK=>?_)
    go_simp
    go_wp2_with fail
    refine hK.out _ _ hz12 (fun _=>?_)
    clear hK K
    refine tK 13 hz12 ?_
    try simp only [Act.put,tkT,tk0,tkS]
    refine wpAnyH_done (by kernel_rfl) ?_ _
    go_wp2_with fail
    show bodyPost _ _ _ _ _ (storeAll (w3.alloc (.cells #[.int .u8 0,.int .u8 0,.int .u16 0,.int .u16 0] 51)) (w.heap.size + 1) [.pointer (some ⟨px.a,0,none⟩),.pointer (some ⟨tb,0,none⟩),.pointer (some ⟨mb,0,none⟩),.pointer (some ⟨w3.heap.size,0,none⟩)] 0)
    have hfin:=zd1 hbz rfl [.pointer (some ⟨px.a,0,none⟩),.pointer (some ⟨tb,0,none⟩),.pointer (some ⟨mb,0,none⟩),.pointer (some ⟨w3.heap.size,0,none⟩)] rfl
    have HB:=Lib.hid (za1 (w.heap.size + 1) [.pointer (some ⟨px.a,0,none⟩),.pointer (some ⟨tb,0,none⟩),.pointer (some ⟨mb,0,none⟩),.pointer (some ⟨w3.heap.size,0,none⟩)] 0 (w3.alloc (.cells #[.int .u8 0,.int .u8 0,.int .u16 0,.int .u16 0] 51)))
    generalize storeAll (w3.alloc (.cells #[.int .u8 0,.int .u8 0,.int .u16 0,.int .u16 0] 51)) (w.heap.size + 1) [.pointer (some ⟨px.a,0,none⟩),.pointer (some ⟨tb,0,none⟩),.pointer (some ⟨mb,0,none⟩),.pointer (some ⟨w3.heap.size,0,none⟩)] 0=Wf at *
    have r0:=za0 hfin 0 rfl
    have r1:=za0 hfin 1 rfl
    have r2:=za0 hfin 2 rfl
    have r3:=za0 hfin 3 rfl
    refine bodyPost_ret (v:=.tuple #[.agg #[.pointer (some ⟨px.a,0,none⟩),.pointer (some ⟨tb,0,none⟩),.pointer (some ⟨mb,0,none⟩),.pointer (some ⟨w3.heap.size,0,none⟩)],.bool true]) (by simp [results,Tryz.results6,go_sem,r0,r1,r2,r3]) rfl ?_
    exact HZ.out.fin HNo.out HEst.out HB.out
   ·go_simp
    have h5:=h2.addCmd
    have s5:HosS w.heap.size #[.int .i64 nodes,.int .i64 faulty,.int .i64 slot,.int .i64 gap,.int .i64 rho,.int .i64 dmin,.int .i64 dmax,.int .i64 margin,.slice PA pn pcap,.slice QA qn qcap,.slice RA rn rcap] _:=⟨h5.box,_,rfl,h5.res⟩
    refine hK.out _ _ s5 (fun _=>?_)
    clear hK K
    refine clH 6 (by kernel_rfl) (by simp only [tkA,tkG];rfl) (fun K hK=>?_)
    go_simp
    refine (h5.addMon HPl.out HNd.out).mono ?_
    rintro e w6 ⟨mb,rfl,h6⟩
    have s6:HosS w.heap.size #[.int .i64 nodes,.int .i64 faulty,.int .i64 slot,.int .i64 gap,.int .i64 rho,.int .i64 dmin,.int .i64 dmax,.int .i64 margin,.slice PA pn pcap,.slice QA qn qcap,.slice RA rn rcap] w6:=⟨h6.box,_,rfl,h6.res⟩
    go_wp2_with fail
    refine hK.out _ _ s6 (fun _=>?_)
    clear hK K
    refine tK 9 s6 ?_
    try simp only [Act.put,tkT,tk0,tkS]
    have hd9:=h6
    have HZ:=Lib.hid h6
    have hbz:=h6.res
    have k0:=za0 hbz 0 rfl
    have k1:=za0 hbz 1 rfl
    have k2:=za0 hbz 2 rfl
    have k3:=za0 hbz 3 rfl
    have f:=fun i=>za2 hbz i
    have hz12:HosS w.heap.size #[.int .i64 nodes,.int .i64 faulty,.int .i64 slot,.int .i64 gap,.int .i64 rho,.int .i64 dmin,.int .i64 dmax,.int .i64 margin,.slice PA pn pcap,.slice QA qn qcap,.slice RA rn rcap] (storeAll w6 (w.heap.size + 1) [.pointer (some ⟨px.a,0,none⟩),.pointer (some ⟨tb,0,none⟩),.pointer (some ⟨mb,0,none⟩),.pointer (some ⟨w2.heap.size,0,none⟩)] 0):=⟨((za1 (w.heap.size + 1) [.pointer (some ⟨px.a,0,none⟩),.pointer (some ⟨tb,0,none⟩),.pointer (some ⟨mb,0,none⟩),.pointer (some ⟨w2.heap.size,0,none⟩)] 0 w6).block _ (lt_of_block h6.box) (fun e=>by omega)).trans h6.box,_,rfl,zd1 hbz rfl [.pointer (some ⟨px.a,0,none⟩),.pointer (some ⟨tb,0,none⟩),.pointer (some ⟨mb,0,none⟩),.pointer (some ⟨w2.heap.size,0,none⟩)] rfl⟩
    refine clH 12 (by kernel_rfl) (by simp only [tkA,tkG];rfl) (fun K hK=>?_)
    go_simp
    go_wp2_with fail
    refine hK.out _ _ hz12 (fun _=>?_)
    clear hK K
    refine tK 13 hz12 ?_
    try simp only [Act.put,tkT,tk0,tkS]
    refine wpAnyH_done (by kernel_rfl) ?_ _
    go_wp2_with fail
    show bodyPost _ _ _ _ _ (storeAll w6 (w.heap.size + 1) [.pointer (some ⟨px.a,0,none⟩),.pointer (some ⟨tb,0,none⟩),.pointer (some ⟨mb,0,none⟩),.pointer (some ⟨w2.heap.size,0,none⟩)] 0)
    have hfin:=zd1 hbz rfl [.pointer (some ⟨px.a,0,none⟩),.pointer (some ⟨tb,0,none⟩),.pointer (some ⟨mb,0,none⟩),.pointer (some ⟨w2.heap.size,0,none⟩)] rfl
    have HB:=Lib.hid (za1 (w.heap.size + 1) [.pointer (some ⟨px.a,0,none⟩),.pointer (some ⟨tb,0,none⟩),.pointer (some ⟨mb,0,none⟩),.pointer (some ⟨w2.heap.size,0,none⟩)] 0 w6)
    generalize storeAll w6 (w.heap.size + 1) [.pointer (some ⟨px.a,0,none⟩),.pointer (some ⟨tb,0,none⟩),.pointer (some ⟨mb,0,none⟩),.pointer (some ⟨w2.heap.size,0,none⟩)] 0=Wf at *
    have r0:=za0 hfin 0 rfl
    have r1:=za0 hfin 1 rfl
    have r2:=za0 hfin 2 rfl
    have r3:=za0 hfin 3 rfl
    refine bodyPost_ret (v:=.tuple #[.agg #[.pointer (some ⟨px.a,0,none⟩),.pointer (some ⟨tb,0,none⟩),.pointer (some ⟨mb,0,none⟩),.pointer (some ⟨w2.heap.size,0,none⟩)],.bool true]) (by simp [results,Tryz.results6,go_sem,r0,r1,r2,r3]) rfl ?_
    exact HZ.out.fin HNo.out HEst.out HB.out
  ·go_simp
   have h7:=h1.addCmd
   have s7:HosS w.heap.size #[.int .i64 nodes,.int .i64 faulty,.int .i64 slot,.int .i64 gap,.int .i64 rho,.int .i64 dmin,.int .i64 dmax,.int .i64 margin,.slice PA pn pcap,.slice QA qn qcap,.slice RA rn rcap] _:=⟨h7.box,_,rfl,h7.res⟩
   refine hK.out _ _ s7 (fun _=>?_)
   clear hK K
   refine clH 4 (by kernel_rfl) (by simp only [tkA,tkG];rfl) (fun K hK=>?_)
   go_simp
   refine (h7.addCfg HX.out Hpn.out Hqn.out Hrn.out).mono ?_
   rintro e w8 ⟨⟨ynodes,yfaulty,yslot,ygap,yrho,ydmin,ydmax,ymargin,yPA,ypn,ypcap,yparts,yQA,yqn,yqcap,yports,yRA,yrn,yrcap,yroutes⟩,rfl,h8⟩
   simp only [CfgC.value]
   have s8:HosS w.heap.size #[.int .i64 nodes,.int .i64 faulty,.int .i64 slot,.int .i64 gap,.int .i64 rho,.int .i64 dmin,.int .i64 dmax,.int .i64 margin,.slice PA pn pcap,.slice QA qn qcap,.slice RA rn rcap] w8:=⟨h8.box,_,rfl,h8.res⟩
   go_wp2_with fail
   refine hK.out _ _ s8 (fun _=>?_)
   clear hK K
   have hf8:=field8 (.int .i64 ynodes) (.int .i64 yfaulty) (.int .i64 yslot) (.int .i64 ygap) (.int .i64 yrho) (.int .i64 ydmin) (.int .i64 ydmax) (.int .i64 ymargin) (.slice yPA ypn ypcap) (.slice yQA yqn yqcap) (.slice yRA yrn yrcap)
   refine tK 5 s8 ?_
   try simp only [Act.put,tkT,tk0,tkS]
   clear hf8
   refine clH 6 (by kernel_rfl) (by simp only [tkA,tkG];rfl) (fun K hK=>?_)
   go_simp
   refine (h8.addMon HPl.out HNd.out).mono ?_
   rintro e w9 ⟨mb,rfl,h9⟩
   have s9:HosS w.heap.size #[.int .i64 nodes,.int .i64 faulty,.int .i64 slot,.int .i64 gap,.int .i64 rho,.int .i64 dmin,.int .i64 dmax,.int .i64 margin,.slice PA pn pcap,.slice QA qn qcap,.slice RA rn rcap] w9:=⟨h9.box,_,rfl,h9.res⟩
   go_wp2_with fail
   refine hK.out _ _ s9 (fun _=>?_)
   clear hK K
   refine tK 9 s9 ?_
   try simp only [Act.put,tkT,tk0,tkS]
   have hd9:=h9
   have HZ:=Lib.hid h9
   have hbz:=h9.res
   have k0:=za0 hbz 0 rfl
   have k1:=za0 hbz 1 rfl
   have k2:=za0 hbz 2 rfl
   have k3:=za0 hbz 3 rfl
   have f:=fun i=>za2 hbz i
   have hz12:HosS w.heap.size #[.int .i64 nodes,.int .i64 faulty,.int .i64 slot,.int .i64 gap,.int .i64 rho,.int .i64 dmin,.int .i64 dmax,.int .i64 margin,.slice PA pn pcap,.slice QA qn qcap,.slice RA rn rcap] (storeAll w9 (w.heap.size + 1) [.pointer (some ⟨px.a,0,none⟩),.pointer (some ⟨tb,0,none⟩),.pointer (some ⟨mb,0,none⟩),.pointer (some ⟨w1.heap.size,0,none⟩)] 0):=⟨((za1 (w.heap.size + 1) [.pointer (some ⟨px.a,0,none⟩),.pointer (some ⟨tb,0,none⟩),.pointer (some ⟨mb,0,none⟩),.pointer (some ⟨w1.heap.size,0,none⟩)] 0 w9).block _ (lt_of_block h9.box) (fun e=>by omega)).trans h9.box,_,rfl,zd1 hbz rfl [.pointer (some ⟨px.a,0,none⟩),.pointer (some ⟨tb,0,none⟩),.pointer (some ⟨mb,0,none⟩),.pointer (some ⟨w1.heap.size,0,none⟩)] rfl⟩
   refine clH 12 (by kernel_rfl) (by simp only [tkA,tkG];rfl) (fun K hK=>?_)
   go_simp
   go_wp2_with fail
   refine hK.out _ _ hz12 (fun _=>?_)
   clear hK K
   refine tK 13 hz12 ?_
   try simp only [Act.put,tkT,tk0,tkS]
   refine wpAnyH_done (by kernel_rfl) ?_ _
   go_wp2_with fail
   show bodyPost _ _ _ _ _ (storeAll w9 (w.heap.size + 1) [.pointer (some ⟨px.a,0,none⟩),.pointer (some ⟨tb,0,none⟩),.pointer (some ⟨mb,0,none⟩),.pointer (some ⟨w1.heap.size,0,none⟩)] 0)
   have hfin:=zd1 hbz rfl [.pointer (some ⟨px.a,0,none⟩),.pointer (some ⟨tb,0,none⟩),.pointer (some ⟨mb,0,none⟩),.pointer (some ⟨w1.heap.size,0,none⟩)] rfl
   have HB:=Lib.hid (za1 (w.heap.size + 1) [.pointer (some ⟨px.a,0,none⟩),.pointer (some ⟨tb,0,none⟩),.pointer (some ⟨mb,0,none⟩),.pointer (some ⟨w1.heap.size,0,none⟩)] 0 w9)
   generalize storeAll w9 (w.heap.size + 1) [.pointer (some ⟨px.a,0,none⟩),.pointer (some ⟨tb,0,none⟩),.pointer (some ⟨mb,0,none⟩),.pointer (some ⟨w1.heap.size,0,none⟩)] 0=Wf at *
   have r0:=za0 hfin 0 rfl
   have r1:=za0 hfin 1 rfl
   have r2:=za0 hfin 2 rfl
   have r3:=za0 hfin 3 rfl
   refine bodyPost_ret (v:=.tuple #[.agg #[.pointer (some ⟨px.a,0,none⟩),.pointer (some ⟨tb,0,none⟩),.pointer (some ⟨mb,0,none⟩),.pointer (some ⟨w1.heap.size,0,none⟩)],.bool true]) (by simp [results,Tryz.results6,go_sem,r0,r1,r2,r3]) rfl ?_
   exact HZ.out.fin HNo.out HEst.out HB.out
 ·go_simp
  have h10:=hP0.addCmd
  have s10:HosS w.heap.size #[.int .i64 nodes,.int .i64 faulty,.int .i64 slot,.int .i64 gap,.int .i64 rho,.int .i64 dmin,.int .i64 dmax,.int .i64 margin,.slice PA pn pcap,.slice QA qn qcap,.slice RA rn rcap] _:=⟨h10.box,_,rfl,h10.res⟩
  refine hK.out _ _ s10 (fun _=>?_)
  clear hK K
  refine clH 1 (by kernel_rfl) (by simp only [tkA,tkG];rfl) (fun K hK=>?_)
  go_simp
  refine (h10.addTab).mono ?_
  rintro e w11 ⟨tb,rfl,h11⟩
  have s11:HosS w.heap.size #[.int .i64 nodes,.int .i64 faulty,.int .i64 slot,.int .i64 gap,.int .i64 rho,.int .i64 dmin,.int .i64 dmax,.int .i64 margin,.slice PA pn pcap,.slice QA qn qcap,.slice RA rn rcap] w11:=⟨h11.box,_,rfl,h11.res⟩
  go_wp2_with fail
  refine hK.out _ _ s11 (fun _=>?_)
  clear hK K
  refine clH 4 (by kernel_rfl) (by simp only [tkA,tkG];rfl) (fun K hK=>?_)
  go_simp
  refine (h11.addCfg HX.out Hpn.out Hqn.out Hrn.out).mono ?_
  rintro e w12 ⟨⟨ynodes,yfaulty,yslot,ygap,yrho,ydmin,ydmax,ymargin,yPA,ypn,ypcap,yparts,yQA,yqn,yqcap,yports,yRA,yrn,yrcap,yroutes⟩,rfl,h12⟩
  simp only [CfgC.value]
  have s12:HosS w.heap.size #[.int .i64 nodes,.int .i64 faulty,.int .i64 slot,.int .i64 gap,.int .i64 rho,.int .i64 dmin,.int .i64 dmax,.int .i64 margin,.slice PA pn pcap,.slice QA qn qcap,.slice RA rn rcap] w12:=⟨h12.box,_,rfl,h12.res⟩
  go_wp2_with fail
  refine hK.out _ _ s12 (fun _=>?_)
  clear hK K
  have hf8:=field8 (.int .i64 ynodes) (.int .i64 yfaulty) (.int .i64 yslot) (.int .i64 ygap) (.int .i64 yrho) (.int .i64 ydmin) (.int .i64 ydmax) (.int .i64 ymargin) (.slice yPA ypn ypcap) (.slice yQA yqn yqcap) (.slice yRA yrn yrcap)
  refine tK 5 s12 ?_
  try simp only [Act.put,tkT,tk0,tkS]
  clear hf8
  refine clH 6 (by kernel_rfl) (by simp only [tkA,tkG];rfl) (fun K hK=>?_)
  go_simp
  refine (h12.addMon HPl.out HNd.out).mono ?_
  rintro e w13 ⟨mb,rfl,h13⟩
  have s13:HosS w.heap.size #[.int .i64 nodes,.int .i64 faulty,.int .i64 slot,.int .i64 gap,.int .i64 rho,.int .i64 dmin,.int .i64 dmax,.int .i64 margin,.slice PA pn pcap,.slice QA qn qcap,.slice RA rn rcap] w13:=⟨h13.box,_,rfl,h13.res⟩
  go_wp2_with fail
  refine hK.out _ _ s13 (fun _=>?_)
  clear hK K
  refine tK 9 s13 ?_
  try simp only [Act.put,tkT,tk0,tkS]
  have hd9:=h13
  have HZ:=Lib.hid h13
  have hbz:=h13.res
  have k0:=za0 hbz 0 rfl
  have k1:=za0 hbz 1 rfl
  have k2:=za0 hbz 2 rfl
  have k3:=za0 hbz 3 rfl
  have f:=fun i=>za2 hbz i
  have hz12:HosS w.heap.size #[.int .i64 nodes,.int .i64 faulty,.int .i64 slot,.int .i64 gap,.int .i64 rho,.int .i64 dmin,.int .i64 dmax,.int .i64 margin,.slice PA pn pcap,.slice QA qn qcap,.slice RA rn rcap] (storeAll w13 (w.heap.size + 1) [.pointer (some ⟨px.a,0,none⟩),.pointer (some ⟨tb,0,none⟩),.pointer (some ⟨mb,0,none⟩),.pointer (some ⟨w2.drew.heap.size,0,none⟩)] 0):=⟨((za1 (w.heap.size + 1) [.pointer (some ⟨px.a,0,none⟩),.pointer (some ⟨tb,0,none⟩),.pointer (some ⟨mb,0,none⟩),.pointer (some ⟨w2.drew.heap.size,0,none⟩)] 0 w13).block _ (lt_of_block h13.box) (fun e=>by omega)).trans h13.box,_,rfl,zd1 hbz rfl [.pointer (some ⟨px.a,0,none⟩),.pointer (some ⟨tb,0,none⟩),.pointer (some ⟨mb,0,none⟩),.pointer (some ⟨w2.drew.heap.size,0,none⟩)] rfl⟩
  refine clH 12 (by kernel_rfl) (by simp only [tkA,tkG];rfl) (fun K hK=>?_)
  go_simp
  go_wp2_with fail
  refine hK.out _ _ hz12 (fun _=>?_)
  clear hK K
  refine tK 13 hz12 ?_
  try simp only [Act.put,tkT,tk0,tkS]
  refine wpAnyH_done (by kernel_rfl) ?_ _
  go_wp2_with fail
  show bodyPost _ _ _ _ _ (storeAll w13 (w.heap.size + 1) [.pointer (some ⟨px.a,0,none⟩),.pointer (some ⟨tb,0,none⟩),.pointer (some ⟨mb,0,none⟩),.pointer (some ⟨w2.drew.heap.size,0,none⟩)] 0)
  have hfin:=zd1 hbz rfl [.pointer (some ⟨px.a,0,none⟩),.pointer (some ⟨tb,0,none⟩),.pointer (some ⟨mb,0,none⟩),.pointer (some ⟨w2.drew.heap.size,0,none⟩)] rfl
  have HB:=Lib.hid (za1 (w.heap.size + 1) [.pointer (some ⟨px.a,0,none⟩),.pointer (some ⟨tb,0,none⟩),.pointer (some ⟨mb,0,none⟩),.pointer (some ⟨w2.drew.heap.size,0,none⟩)] 0 w13)
  generalize storeAll w13 (w.heap.size + 1) [.pointer (some ⟨px.a,0,none⟩),.pointer (some ⟨tb,0,none⟩),.pointer (some ⟨mb,0,none⟩),.pointer (some ⟨w2.drew.heap.size,0,none⟩)] 0=Wf at *
  have r0:=za0 hfin 0 rfl
  have r1:=za0 hfin 1 rfl
  have r2:=za0 hfin 2 rfl
  have r3:=za0 hfin 3 rfl
  refine bodyPost_ret (v:=.tuple #[.agg #[.pointer (some ⟨px.a,0,none⟩),.pointer (some ⟨tb,0,none⟩),.pointer (some ⟨mb,0,none⟩),.pointer (some ⟨w2.drew.heap.size,0,none⟩)],.bool true]) (by simp [results,Tryz.results6,go_sem,r0,r1,r2,r3]) rfl ?_
  exact HZ.out.fin HNo.out HEst.out HB.out
open Go.RowKit
set_option maxRecDepth 100000
theorem infoOp16:(Tryz.prog.info? 91).map (fun i=>(i.zero,i.size,i.bytes))=some (some (.agg #[.int .u8 0,.int .i64 0,.int .i64 0,.int .i64 0,.int .i64 0,.slice none 0 0]),6,64):=by kernel_rfl
theorem zK8 (x:OpC):∀ u∈opVals x,u.oneCell'=true:=by
 intro u hu;simp [opVals] at hu;rcases hu with rfl | rfl | rfl | rfl | rfl | rfl<;>rfl
theorem opsV_one (l:List OpC):∀ u∈itemsV opVals l,u.oneCell'=true:=by
 intro u hu
 obtain ⟨x,-,hx⟩:=List.mem_flatMap.1 hu
 exact zK8 x u hx
theorem zD3 {w0:World} {ops:Array Oper} {rest:List Oper} {o:Oper} {a:Act} {Q:Exit→Act→World→Prop} (hgd:o.guard=none) (s x:Operand)
 (ho:o.op = .call { callee:=.builtin .append,args:=#[s,x],argTypes:=#[68,68] }) (hs:a.eval s = .slice (some ⟨w0.heap.size,0,none⟩) 0 0) (A:Option Addr) (m c:Nat) (l:List OpC) (hx:a.eval x = .slice A m c) (hl:l.length=m) (hit:ItemsIn opVals 6 w0 A l) (hn:m≤1000000)
 (h:∀ v' w',w'.ownsRow w0.heap.size 91 6 v' m (itemsV opVals l)→Below w0.heap.size w0 w'→wpList Tryz.prog ops Q rest (a.put o.dst v') w') :
 wpList Tryz.prog ops Q (o :: rest) a (w0.alloc (.cells #[] 91)):=by
 have hb0:Below w0.heap.size w0 (w0.alloc (.cells #[] 91)):=(Below.refl _ _).alloc (Nat.le_refl _) _
 refine zb3 hgd s x 68 ho w0.heap.size 91 _ 6 64 Tryz.underlying68 infoOp16 rfl (by decide) _ 0 [] hs (World.ownsRow_lit (base:=w0.heap.size) (e:=91) (size:=6) w0 #[] 0 (Nat.le_refl _) (by unfold maxLen;omega) rfl) A m c (itemsV opVals l) hx (by rw [zd3 zf4,hl]) (fun h0=>(hit.below hb0).news zf4 (by omega) (by omega)) (opsV_one l) (by unfold maxLen;omega) (by omega) (by simp) ?_
 intro v' w' h1 h2 _
 refine h v' w' (by simpa using h1) (hb0.trans (h2.below (by simp) fun k e=>?_))
 have e:some w0.heap.size=some k:=e
 cases e
 exact Nat.le_refl _
structure CopI (w:World) (n:Nat) (l:List OpC) (k:Nat) (v:Value) (ys:List OpC) (W:World):Prop where
 row:W.ownsRow w.heap.size 91 6 v n (itemsV opVals ys)
 len:ys.length=n
 plain:ys.map OpC.plain=l.map OpC.plain
 done:∀ i y,i < k→ys[i]? = some y→OpOk W y∧ByteBlock W y.D y.data
 rest:∀ i,k≤i→ys[i]? = l[i]?
 below:Below w.heap.size w W
def CopR16 (w:World) (n:Nat) (l:List OpC) (v vi:Value) (W:World):Prop:=∃ k ys,k≤n∧vi = .int .i64 (k:Nat)∧CopI w n l k v ys W
def CopP16 (w:World) (l:List OpC) (e:Ending) (w':World):Prop:=∃ A cap ys,e = .returned (.slice A l.length cap)∧ys.length=l.length∧(∀ B,OpsIn w' B A ys)∧ys.map OpC.plain=l.map OpC.plain∧Below w.heap.size w w'
theorem CopI.fin {w W:World} {n:Nat} {l:List OpC} {v:Value} {ys:List OpC} (h:CopI w n l n v ys W) (hl:l.length=n):CopP16 w l (.returned v) W:=by
 have hlen:=h.len
 have hrow:=h.row
 subst hl
 rw [← hlen] at hrow
 obtain ⟨A,cap,rfl,-,hit⟩:=ItemsIn.own zf4 hrow
 refine ⟨A,cap,ys,by rw [hlen],hlen,fun B=>⟨hit,fun x hx=>?_,fun x hx=>?_,fun h0 k hk=>?_⟩,h.plain,h.below⟩
 ·obtain ⟨i,hi⟩:=List.getElem?_of_mem hx
  exact (h.done i x (by rw [← hlen];exact (List.getElem?_eq_some_iff.1 hi).1) hi).1
 ·obtain ⟨i,hi⟩:=List.getElem?_of_mem hx
  exact (h.done i x (by rw [← hlen];exact (List.getElem?_eq_some_iff.1 hi).1) hi).2.dat B
 ·obtain ⟨cur,hc⟩:=(Seg.of_own hrow).block k (by rw [zg2];exact hk)
  exact ⟨_,_,hc⟩
theorem CopI.step {w W W1:World} {n k g cap:Nat} {l:List OpC} {ys:List OpC} {x:OpC} (h:CopI w n l k (.slice (some ⟨g,0,none⟩) n cap) ys W) (hk:k < n) (hx:l[k]? = some x) (hok:OpOk w x) (hb:Below W.heap.size W W1) (A':Option Addr) (c':Nat) (hown:W1.ownsRow W.heap.size 5 1 (.slice A' x.data.length c') x.data.length (bytesV x.data)) (hby:Bytes W1 W1.heap.size A' x.data) (hbb:ByteBlock W1 A' x.data) :
 CopI w n l (k + 1) (.slice (some ⟨g,0,none⟩) n cap) (ys.set k ⟨x.kind,x.port,x.a,x.b,x.c,A',x.data.length,c',x.data⟩) (W1.setCell ⟨g,k * 6 + 5,none⟩ (.slice A' x.data.length c')):=by
 have hlen:=h.len
 have hyk:ys[k]? = some x:=by rw [h.rest k (Nat.le_refl _)];exact hx
 have hrow1:W1.ownsRow w.heap.size 91 6 (.slice (some ⟨g,0,none⟩) n cap) n (itemsV opVals ys):=za3 (F:=fun _=>False) h.row (Apart.of_below' hb) (fun _ _ h=>h)
 have ha:Apart (fun q=>q=g) W1 (W1.setCell ⟨g,k * 6 + 5,none⟩ (.slice A' x.data.length c')):=(Apart.refl (fun q=>q=g) W1).setCell (p:=⟨g,k * 6 + 5,none⟩) (.inl rfl) _
 have hcap:x.data.length≤c':=by
  obtain ⟨A2,c2,e,h2⟩:=za6 hown
  injection e with e1 e2 e3
  rw [e3];exact h2
 obtain ⟨curg,hg⟩:=(Seg.of_own hrow1).block g rfl
 have hbg:∀ {D:Option Addr} {d:List UInt8},ByteBlock W1 D d→0 < d.length→∀ q,blockOf D=some q→¬ q=g:=fun hB h0 q hq e=>by
  obtain ⟨cs,f,e1⟩:=hB h0 q hq
  subst e
  exact za5 hg e1 (by decide)
 have hBset:∀ {D:Option Addr} {d:List UInt8},ByteBlock W1 D d→ByteBlock (W1.setCell ⟨g,k * 6 + 5,none⟩ (.slice A' x.data.length c')) D d:=fun hB h0 q hq=>by
  obtain ⟨cs,f,e1⟩:=hB h0 q hq
  exact ⟨cs,f,(ha.block q (lt_of_block e1) (hbg hB h0 q hq)).trans e1⟩
 refine ⟨?_,by rw [List.length_set];exact hlen,?_,fun i y hi hy=>?_,fun i hi=>?_,?_⟩
 ·have h1:=(hrow1.stored (k * 6 + 5) (.slice A' x.data.length c')).1
  rw [zg5 ys (fun y _=>zf4 y) k x ⟨x.kind,x.port,x.a,x.b,x.c,A',x.data.length,c',x.data⟩ 5 (.slice A' x.data.length c') hyk (by decide) rfl] at h1
  exact h1
 ·rw [List.map_set,← h.plain]
  apply List.ext_getElem?
  intro i
  by_cases hi:i=k
  ·subst hi
   rw [List.getElem?_set_self (by rw [List.length_map];omega),List.getElem?_map,hyk]
   rfl
  ·rw [List.getElem?_set_ne (Ne.symm hi)]
 ·by_cases hik:i=k
  ·subst hik
   rw [List.getElem?_set_self (by omega)] at hy
   obtain rfl:=Option.some.inj hy
   have hl:=hok.len
   exact ⟨⟨hok.kind,hok.port,hok.a,hok.b,hok.c,rfl,hcap,by have:=hok.most;show x.data.length≤_;omega,(hby.apart0 ha (Nat.le_refl _) (hbg hbb)).more ha.size⟩,hBset hbb⟩
  ·rw [List.getElem?_set_ne (Ne.symm hik)] at hy
   obtain ⟨h1,h2⟩:=h.done i y (by omega) hy
   have h3:=h2.below16 hb
   exact ⟨(h1.below hb).apart ha (hbg h3),hBset h3⟩
 ·rw [List.getElem?_set_ne (by omega)]
  exact h.rest i (by omega)
 ·refine h.below.trans ((hb.mono h.below.size).trans ?_)
  have hgl:=((Seg.of_own hrow1).lt g rfl).1
  exact ha.below (Nat.le_trans h.below.size hb.size) fun q hq=>by rw [hq];exact hgl
set_option maxHeartbeats 4000000 in
theorem zz9 (w:World) (A:Option Addr) (n cap:Nat) (l:List OpC) (hl:l.length=n) (hn:n≤100000) (h:OpsAt w A l):Calls Tryz.prog 13 #[.slice A n cap] w (CopP16 w l):=by
 have HIt:=Lib.hid h.items
 have HOk:=Lib.hid h.ok
 have HL:=Lib.hid hl
 have HN:=Lib.hid hn
 have HSt:Hid (∀ v1 w1,w1.ownsRow w.heap.size 91 6 v1 n (itemsV opVals l)→Below w.heap.size w w1→CopR16 w n l v1 (.int .i64 0) w1∧∃ A1 c1,v1 = .slice A1 n c1):=Lib.hid fun v1 w1 h1 h2=>by
  obtain ⟨A1,c1,e,-⟩:=za6 h1
  exact ⟨⟨0,l,Nat.zero_le _,rfl,h1,hl,rfl,fun i y hi _=>by omega,fun i _=>rfl,h2⟩,A1,c1,e⟩
 clear h hl
 go_enter Tryz.func13,Tryz.ntmps13
 go_upto_region 2 with (first | (at_builtin;refine zD3 rfl (.tmp 5) (.tmp 6) rfl rfl A n cap l rfl HL.out HIt.out (by have:=HN.out;omega) ?_;intro v1 w1 ho1 hb1) | fail)
 obtain ⟨hR,A1,c1,rfl⟩:=HSt.out v1 w1 ho1 hb1
 have HS0:=Lib.hid hR
 clear hR ho1 hb1 HSt
 go_wp2_with fail
 go_loopw [10] (CopR16 w n l (.slice A1 n c1)) (fun i _=>(n + 1 - intOf i).toNat)
 case atStart=>exact HS0.out
 case round=>
  clear HS0
  obtain ⟨k,ys,hk,rfl,hI⟩:=hrel
  by_cases hlt:k < n
  case neg=>
   obtain rfl:k=n:=by omega
   have q1:decide ((k:Int) < (k:Int))=false:=decide_eq_false (by omega)
   have HF:=Lib.hid (hI.fin HL.out)
   clear hI hk hlt
   go_wp2_with fail
   go_ret
   exact HF.out
  case pos=>
   have hL:=HL.out
   have hN:=HN.out
   obtain ⟨x,hx⟩:∃ x,l[k]? = some x:=⟨_,List.getElem?_eq_getElem (by omega)⟩
   have hxo:=HOk.out x (List.mem_of_getElem? hx)
   have hyk:ys[k]? = some x:=by rw [hI.rest k (Nat.le_refl _)];exact hx
   obtain ⟨g,cap1,hv,-⟩:=zc6 hI.row (by omega)
   injection hv with hv1 _ hv3
   subst hv1 hv3
   have hlen:=hI.len
   have hrow:=hI.row
   have kD:wr.cell? ⟨g,k * 6 + 5,none⟩=some (.slice x.D x.m x.cap):=by
    have h1:=hrow.cellAt (k * 6 + 5) (by omega)
    rw [h1]
    exact ze0 zf4 ys k x hyk 5 (by decide)
   have fD:∀ j,wr.frozen? ⟨g,j,none⟩=false:=fun j=>(Seg.of_own hrow).frozen j
   have q1:decide ((k:Int) < (n:Int))=true:=decide_eq_true (by omega)
   have q2:decide (k < n)=true:=decide_eq_true hlt
   have e8:IntKind.i64.wrap ((k:Int) + 1)=(k:Int) + 1:=IntWalk.i64_in _ (by omega)
   have HBy:Hid (Bytes wr wr.heap.size x.D x.data):=Lib.hid ((hxo.bytes.below hI.below (Nat.le_refl _)).more hI.below.size)
   have HLn:=Lib.hid hxo.len
   have HMo:Hid (x.m≤140737488355328):=Lib.hid (by have:=hxo.most;omega)
   have kDa:(wr.alloc (.cells #[] 5)).cell? ⟨g,k * 6 + 5,none⟩=some (.slice x.D x.m x.cap):=(World.cell?_alloc_lt _ _ ⟨g,k * 6 + 5,none⟩ ((Seg.of_own hrow).lt g rfl).2).trans kD
   have hblk:∃ cs,wr.heap[g]? = some (.cells cs 91 (0,0)):=(Seg.of_own hrow).block g rfl
   have HNext:Hid (∀ A' c' w1,w1.ownsRow wr.heap.size 5 1 (.slice A' x.data.length c') x.data.length (bytesV x.data)→Bytes w1 w1.heap.size A' x.data→ByteBlock w1 A' x.data→Below wr.heap.size wr w1→w1.cell? ⟨g,k * 6 + 5,none⟩=some (.slice x.D x.m x.cap)∧(∀ j,w1.frozen? ⟨g,j,none⟩=false)∧CopR16 w n l (.slice (some ⟨g,0,none⟩) n c1) (.int .i64 ((k:Int) + 1)) (w1.setCell ⟨g,k * 6 + 5,none⟩ (.slice A' x.data.length c'))):=Lib.hid fun A' c' w1 g1 g2 g3 g4=>by
    obtain ⟨cs,hc⟩:=hblk
    have hc1:=(g4.block g (lt_of_block hc)).trans hc
    exact ⟨(g4.cell (p:=⟨g,_,none⟩) (lt_of_block hc)).trans kD,fun j=>za2 hc1 j,k + 1,_,hlt,by go_num,hI.step hlt hx hxo g4 A' c' g1 g2 g3⟩
   clear hI hx hxo hyk hlen hrow hblk
   obtain ⟨xk,xp,xa,xb,xc,xD,xm,xcap,xd⟩:=x
   simp only at kD kDa HBy HLn HMo HNext
   go_wp2_with (first | (at_builtin;refine zC9 rfl (.tmp 15) (.tmp 20) rfl rfl xD xm xcap xd rfl HLn.out HBy.out HMo.out ?_;intro A' c' w1 h1 h2 h3 h4;obtain ⟨kD1,fD1,hR1⟩:=HNext.out A' c' w1 h1 h2 h3 h4;have HR1:=Lib.hid hR1;clear h1 h2 h3 h4 hR1) | fail)
   go_roundw
   case rel=>exact HR1.out
   case measure=>simp [intOf];omega
end Go.Proofs.YtfgpfmhjnccccaaGreatDoor
