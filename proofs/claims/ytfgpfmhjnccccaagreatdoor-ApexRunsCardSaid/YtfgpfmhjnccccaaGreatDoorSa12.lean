import Derived.Deep.CutBlock
import Derived.BigQuiet
import Derived.Test.YtfgpfmhjnccccaaGreatDoorSa10
import Derived.Test.YtfgpfmhjnccccaaGreatDoorSa11
namespace Go.Proofs.YtfgpfmhjnccccaaGreatDoor
open Go.RowKit
set_option maxRecDepth 100000
theorem zy6 (c:FrameP.Wrong):wrongT (some c)≠[]:=by simp [wrongT,atT]
theorem zH9 (c:FrameP.Wrong):(wrongT (some c)).isEmpty=false:=by have:=zy6 c;cases h:wrongT (some c)<;>simp_all
def AndP (w:World) (x:CfgC) (N:Nat) (cs:Array Value) (t:TypeId) (W:World):Prop:=BoxS w x W∧W.heap[N]? = some (.cells cs t (0,0))
theorem AndP.start {w:World} {x:CfgC} {W:World} (h:BoxS w x W) (cs:Array Value) (t:TypeId) (N:Nat) (hN:N=W.heap.size):AndP w x N cs t (W.alloc (.cells cs t)):=
 ⟨Below.alloc h h.size _,by rw [hN];exact heap_alloc_new W _⟩
theorem AndP.alloc {w:World} {x:CfgC} {N:Nat} {cs:Array Value} {t:TypeId} {W:World} (h:AndP w x N cs t W) (o:Obj):AndP w x N cs t (W.alloc o):=
 ⟨Below.alloc h.1 h.1.size _,(Below.heap_alloc _ _ _ (lt_of_block h.2)).trans h.2⟩
def PortsL (w:World) (x:CfgC) (pa pb:Array Value) (v6 v7:Value) (W:World):Prop:=
 ∃ F T,v6 = .pointer (some ⟨F,0,none⟩)∧v7 = .pointer (some ⟨T,0,none⟩)∧BoxS w x W∧W.heap[F]? = some (.cells pa 127 (0,0))∧W.heap[T]? = some (.cells pb 127 (0,0))
theorem portsL {w:World} {x:CfgC} {W:World} (h:BoxS w x W) (p q:Array Value) :
 BoxS w x (((W.alloc (.cells p 127)).alloc (.cells q 127)).drew) ∧
 (((W.alloc (.cells p 127)).alloc (.cells q 127)).drew).heap[W.heap.size]? = some (.cells p 127 (0,0)) ∧
 (((W.alloc (.cells p 127)).alloc (.cells q 127)).drew).heap[W.heap.size + 1]? = some (.cells q 127 (0,0)):=by
 have h1:(W.alloc (.cells p 127)).heap.size=W.heap.size + 1:=Array.size_push _
 refine ⟨(Below.alloc (Below.alloc h h.size _) (Below.alloc h h.size _).size _).drew,?_,?_⟩
 ·exact (Below.heap_alloc _ (.cells q 127) _ (by rw [h1];omega)).trans (heap_alloc_new W _)
 ·have h2:=heap_alloc_new (W.alloc (.cells p 127)) (.cells q 127 (0,0))
  rw [h1] at h2
  exact h2
def InRel {α:Type} (w:World) (x:CfgC) (N:Nat) (cs:Array Value) (t:TypeId) (b:Bool) (p:α→Bool) (l:List α) (k:Nat) (v i:Value) (W:World):Prop:=
 ∃ j:Nat,j≤k∧i = .int .i64 (j:Nat)∧v = .bool (b || (l.take j).any p)∧AndP w x N cs t W
def InRelR {α:Type} (w:World) (x:CfgC) (b:Bool) (p:α→Bool) (l:List α) (k:Nat) (v i:Value) (W:World):Prop:=
 ∃ j:Nat,j≤k∧i = .int .i64 (j:Nat)∧v = .bool (b || (l.take j).any p)∧BoxS w x W
theorem BoxS.drewN {w:World} {x:CfgC} {W:World} (h:BoxS w x W) (m:Nat):BoxS w x (W.drewN m):=zc1 h m
theorem BoxS.alloc2 {w:World} {x:CfgC} {W:World} (h:BoxS w x W) (o p:Obj):BoxS w x ((W.alloc o).alloc p).drew:=(Below.alloc (Below.alloc h h.size _) (Below.alloc h h.size _).size _).drew
theorem BoxS.alloc {w:World} {x:CfgC} {W:World} (h:BoxS w x W) (o:Obj):BoxS w x (W.alloc o):=Below.alloc h h.size _
theorem BoxS.alloc1 {w:World} {x:CfgC} {W:World} (h:BoxS w x W) (o:Obj):BoxS w x (W.alloc o).drew:=(Below.alloc h h.size _).drew
theorem zB6 (x:CfgC) (w:World) (h:CfgIn w x) (f:FrameP.Wrong) (hc:TableP.chk x.plain=some f) :
 Calls Tryz.prog 26 #[x.value] w (RefChkPost (SndP.chk6 x.plain) w):=by
 have e:SndP.chk6 x.plain=some f:=by unfold SndP.chk6;rw [hc]
 have HC:=Lib.hid (zn6 x (boxC w x) (h.below (zb1 w x)))
 rw [hc] at HC
 rw [e]
 have HB:=Lib.hid (zb1 w x)
 have hne:=zH9 f
 unfold RefChkPost strV at *
 generalize wrongT (some f)=t at *
 clear h hc e
 obtain ⟨nodes,faulty,slot,gap,rho,dmin,dmax,margin,PA,pn,pcap,parts,QA,qn,qcap,ports,RA,rn,rcap,routes⟩:=x
 simp only [CfgC.value,boxC,cfgCells] at HC HB ⊢
 go_enter Tryz.func26,Tryz.ntmps26
 go_wp2_with fail
 refine HC.out.mono ?_
 rintro e w1 ⟨rfl,h3⟩
 have HF:=Lib.hid (HB.out.trans (h3.mono HB.out.size))
 clear h3 HC
 go_wp2_with fail
 go_ret
 exact ⟨rfl,HF.out⟩
set_option maxHeartbeats 8000000 in
theorem zB7 (x:CfgC) (w:World) (h:CfgIn w x) (hc:TableP.chk x.plain=none) :
 Calls Tryz.prog 26 #[x.value] w (RefChkPost (SndP.chk6 x.plain) w):=by
 have e:SndP.chk6 x.plain=SndP.late x.plain:=by unfold SndP.chk6;rw [hc]
 have HC:=Lib.hid (zn6 x (boxC w x) (h.below (zb1 w x)))
 rw [hc] at HC
 rw [e]
 have ha:=SndP.allowed hc
 have hn:=SndP.nums_in ha.head
 have C1:=Lib.hid (fun W=>zB2 x W ha.head)
 have C3:=Lib.hid (fun W=>zn5 x W ha.head)
 have hpr:=SndP.prec_in hn
 have hdr:=SndP.drift_in hn
 obtain ⟨hn1,hn2,hn3,hn4,hn5,hn6,hn7,hn8,hsl,-⟩:=hn
 have HL:Hid (SndP.late x.plain=if x.nodes < 3 * x.faulty + 1 then some (70,-1) else if x.margin < SndP.precT x.plain + (x.dmax - x.dmin) + SndP.driftT x.plain then some (74,-1)
  else if x.slot < 2 * x.margin + x.dmax + SndP.precT x.plain then some (73,-1) else if x.gap < 2 * (x.margin + SndP.precT x.plain) then some (75,-1)
  else match SndP.firstI (SndP.fitB x.plain) 71 0 x.parts with
   | some e=>some e
   | none=>SndP.firstI (SndP.joinB x.plain) 72 0 x.routes):=Lib.hid rfl
 have hpl:=h.plen
 have hql:=h.qlen
 have hrl:=h.rlen
 have hp12:x.pn≤12:=by have h1:x.parts.length≤12:=ha.parts;omega
 have hq24:x.qn≤24:=by have h1:x.ports.length≤24:=ha.ports;omega
 have hr24:x.rn≤24:=by have h1:x.routes.length≤24:=ha.routes;omega
 have HWin:=Lib.hid (fun q (hq:q∈x.parts)=>win_of (ha.part q hq))
 have HPA:=Lib.hid (fun W (hW:BoxS w x W) k p (hk:x.parts[k]? = some p)=>zf0 (h.parts.below hW.below) hk)
 have HQA:=Lib.hid (fun W (hW:BoxS w x W) k p (hk:x.ports[k]? = some p)=>zh2 (h.ports.below hW.below) hk)
 have HRA:=Lib.hid (fun W (hW:BoxS w x W) k p (hk:x.routes[k]? = some p)=>zg7 (h.routes.below hW.below) hk)
 have HFB:Hid (∀ k p,SndP.fitB x.plain k p=(decide (p.start + p.length≤x.nodes * x.slot) && !(x.parts.take k).any (SndP.clash p))):=Lib.hid fun _ _=>rfl
 have HRO:Hid (∀ k r,x.routes[k]? = some r→∃ s d:Nat,r=⟨(s:Int),(d:Int)⟩∧s < x.qn∧d < x.qn∧∃ pa pb,x.ports[s]? = some pa∧x.ports[d]? = some pb ∧
  SndP.joinB x.plain k r=(pa.out && !pb.out && decide (pa.kind=pb.kind) && decide (pa.size≤pb.size) && !(x.routes.take k).any (SndP.leads r))):=Lib.hid fun k r hk=>by
  obtain ⟨hr1,hr2⟩:=ha.route r (List.mem_of_getElem? hk)
  unfold TableP.up at hr1 hr2
  simp only [CfgC.plain,hql] at hr1 hr2
  obtain ⟨src,dst⟩:=r
  simp only at hr1 hr2
  obtain ⟨s,rfl⟩:=Int.eq_ofNat_of_zero_le hr1.1
  obtain ⟨d,rfl⟩:=Int.eq_ofNat_of_zero_le hr2.1
  have hs:s < x.qn:=by omega
  have hd:d < x.qn:=by omega
  have ea:x.ports[s]? = some (x.ports[s]'(by omega)):=List.getElem?_eq_getElem (by omega)
  have eb:x.ports[d]? = some (x.ports[d]'(by omega)):=List.getElem?_eq_getElem (by omega)
  exact ⟨s,d,rfl,hs,hd,_,_,ea,eb,by simp only [SndP.joinB,CfgC.plain,Int.toNat_natCast,ea,eb]⟩
 have HA:=Lib.hid (fun c a W hc ha=>zc5 c a W hc ha)
 generalize SndP.late x.plain=R at *
 generalize SndP.precT x.plain=pr at *
 generalize SndP.driftT x.plain=dr at *
 generalize SndP.fitB x.plain=fb at *
 generalize SndP.joinB x.plain=jb at *
 clear h ha hc e
 have hst:=BoxS.start w x
 obtain ⟨nodes,faulty,slot,gap,rho,dmin,dmax,margin,PA,pn,pcap,parts,QA,qn,qcap,ports,RA,rn,rcap,routes⟩:=x
 obtain ⟨d0,d1,d2,d3,d4,d5,d6,d7,d8,d9,d10⟩:=cfgFacts (fun W (hW:BoxS w ⟨nodes,faulty,slot,gap,rho,dmin,dmax,margin,PA,pn,pcap,parts,QA,qn,qcap,ports,RA,rn,rcap,routes⟩ W)=>hW.cells)
 simp only [CfgC.value,CfgC.plain] at HC C1 C3 hn1 hn2 hn3 hn4 hn5 hn6 hn7 hn8 hsl ⊢
 simp only at d0 d1 d2 d3 d4 d5 d6 d7 d8 d9 d10 HL hpl hql hrl hp12 hq24 hr24 HPA HQA HRA HFB HRO HWin
 have HST:=Lib.hid hst
 have e1:IntKind.i64.wrap (3 * faulty)=3 * faulty:=IntWalk.i64_in _ (by omega)
 have e3:IntKind.i64.wrap (pr + dmax)=pr + dmax:=IntWalk.i64_in _ (by omega)
 have e4:IntKind.i64.wrap (pr + dmax - dmin)=pr + dmax - dmin:=IntWalk.i64_in _ (by omega)
 have e4b:IntKind.i64.wrap (pr + dmax - dmin + dr)=pr + dmax - dmin + dr:=IntWalk.i64_in _ (by omega)
 have e5:IntKind.i64.wrap (2 * margin)=2 * margin:=IntWalk.i64_in _ (by omega)
 have e6:IntKind.i64.wrap (2 * margin + dmax)=2 * margin + dmax:=IntWalk.i64_in _ (by omega)
 have e7:IntKind.i64.wrap (2 * margin + dmax + pr)=2 * margin + dmax + pr:=IntWalk.i64_in _ (by omega)
 have e8:IntKind.i64.wrap (2 * pr)=2 * pr:=IntWalk.i64_in _ (by omega)
 have e9:IntKind.i64.wrap (2 * margin + 2 * pr)=2 * margin + 2 * pr:=IntWalk.i64_in _ (by omega)
 have HEN:Hid (∀ c a W,RefChkPost (some (c,a)) w (.returned (strV (atT c a))) W↔Below w.heap.size w W):=Lib.hid fun c a W=>⟨fun h=>h.2,fun h=>⟨rfl,h⟩⟩
 clear hst hn1 hn2 hn3 hn4 hn5 hn6 hn7 hn8 hpr hdr
 unfold RefChkPost at HC
 simp only [boxC,cfgCells] at HC
 go_enter Tryz.func26,Tryz.ntmps26
 go_wp2_with fail
 refine HC.out.mono ?_
 rintro e w1 ⟨rfl,h3⟩
 have hd1:=HST.out.step h3
 clear h3 HC HST
 have hs0:strV (wrongT none) = .string ⟨#[]⟩:=rfl
 rw [hs0]
 clear hs0
 obtain ⟨k0,k1,k2,k3,k4,k5,k6,k7,k8,k9,k10⟩:=eleven hd1 d0 d1 d2 d3 d4 d5 d6 d7 d8 d9 d10
 have Hd1:=Lib.hid hd1
 clear hd1
 go_wp2_with fail
 refine (C1.out _).mono ?_
 rintro e w2 ⟨rfl,hb2⟩
 have hd2:=Hd1.out.step hb2
 clear hb2 Hd1 C1
 clear k0 k1 k2 k3 k4 k5 k6 k7 k8 k9 k10
 obtain ⟨k0,k1,k2,k3,k4,k5,k6,k7,k8,k9,k10⟩:=eleven hd2 d0 d1 d2 d3 d4 d5 d6 d7 d8 d9 d10
 have Hd2:=Lib.hid hd2
 clear hd2
 by_cases h1:nodes≤3 * faulty
 case pos=>
  have HR:R=some (70,-1):=by rw [HL.out,if_pos (by omega)]
  subst HR
  have q1:decide (nodes≤3 * faulty)=true:=decide_eq_true h1
  clear HL h1 HFB HRO HPA HQA HRA HWin
  go_wp2_with fail
  refine (HA.out 70 (-1) _ (by omega) (by omega)).mono ?_
  rintro e w3 ⟨rfl,hb3⟩
  have HF:=Lib.hid ((HEN.out 70 (-1) _).2 (Hd2.out.step hb3).below)
  clear hb3
  unfold strV at *
  go_wp2_with fail
  go_ret
  exact HF.out
 have q1:decide (nodes≤3 * faulty)=false:=decide_eq_false h1
 rw [if_neg (by omega)] at HL
 clear h1
 go_upto_region 7 with (fail)
 go_cut [41] (fun v wx=>v = .bool (decide (margin < pr + dmax - dmin + dr))∧BoxS w ⟨nodes,faulty,slot,gap,rho,dmin,dmax,margin,PA,pn,pcap,parts,QA,qn,qcap,ports,RA,rn,rcap,routes⟩ wx)
 case first=>
  have hd0:=Hd2.out.drew
  clear HL HFB HRO HPA HQA HRA HWin HA HEN Hd2
  go_wp2_with fail
  refine wp_region_held_drew (S:=fun W=>BoxS w ⟨nodes,faulty,slot,gap,rho,dmin,dmax,margin,PA,pn,pcap,parts,QA,qn,qcap,ports,RA,rn,rcap,routes⟩ W) (by kernel_rfl) hd0 (fun _=>?_)
  refine tK 0 hd0 ?_
  try simp only [Act.put,tkT,tk0,tkS]
  refine tK 1 hd0 ?_
  try simp only [Act.put,tkT,tk0,tkS]
  refine tK 2 hd0 ?_
  try simp only [Act.put,tkT,tk0,tkS]
  refine tK 3 hd0 ?_
  try simp only [Act.put,tkT,tk0,tkS]
  refine tK 4 hd0 ?_
  try simp only [Act.put,tkT,tk0,tkS]
  refine tK 5 hd0 ?_
  try simp only [Act.put,tkT,tk0,tkS]
  refine tK 6 hd0 ?_
  try simp only [Act.put,tkT,tk0,tkS]
  refine tK 7 hd0 ?_
  try simp only [Act.put,tkT,tk0,tkS]
  refine tK 8 hd0 ?_
  try simp only [Act.put,tkT,tk0,tkS]
  refine tK 9 hd0 ?_
  try simp only [Act.put,tkT,tk0,tkS]
  refine clH 10 (by kernel_rfl) (by simp only [tkA,tkG];rfl) (fun K hK=>?_)
  go_simp
  refine (C3.out _).mono ?_
  rintro e w4 ⟨rfl,hb4⟩
  have hd4:=hd0.step hb4
  go_wp2_with fail
  refine hK.out _ _ hd4 (fun _=>?_)
  clear hK K
  refine tK 11 hd4 ?_
  try simp only [Act.put,tkT,tk0,tkS]
  refine tK 12 hd4 ?_
  try simp only [Act.put,tkT,tk0,tkS]
  refine wpAnyH_done (by kernel_rfl) ?_ _
  go_wp2_with fail
  go_meet
  exact ⟨rfl,hd4⟩
 case rest=>
 obtain ⟨rfl,hd2b⟩:=hcut
 clear k0 k1 k2 k3 k4 k5 k6 k7 k8 k9 k10
 clear Hd2 C3
 obtain ⟨k0,k1,k2,k3,k4,k5,k6,k7,k8,k9,k10⟩:=eleven hd2b d0 d1 d2 d3 d4 d5 d6 d7 d8 d9 d10
 have Hd2:=Lib.hid hd2b
 clear hd2b
 by_cases h2:margin < pr + dmax - dmin + dr
 case pos=>
  have HR:R=some (74,-1):=by rw [HL.out,if_pos (by omega)]
  subst HR
  rw [decide_eq_true h2]
  clear HL h2 HFB HRO HPA HQA HRA HWin
  go_wp2_with fail
  refine (HA.out 74 (-1) _ (by omega) (by omega)).mono ?_
  rintro e w3 ⟨rfl,hb3⟩
  have HF:=Lib.hid ((HEN.out 74 (-1) _).2 (Hd2.out.step hb3).below)
  clear hb3
  unfold strV at *
  go_wp2_with fail
  go_ret
  exact HF.out
 rw [decide_eq_false h2]
 rw [if_neg (by omega)] at HL
 clear h2
 by_cases h3:slot < 2 * margin + dmax + pr
 case pos=>
  have HR:R=some (73,-1):=by rw [HL.out,if_pos (by omega)]
  subst HR
  have q3:decide (slot < 2 * margin + dmax + pr)=true:=decide_eq_true h3
  clear HL h3 HFB HRO HPA HQA HRA HWin
  go_wp2_with fail
  refine (HA.out 73 (-1) _ (by omega) (by omega)).mono ?_
  rintro e w3 ⟨rfl,hb3⟩
  have HF:=Lib.hid ((HEN.out 73 (-1) _).2 (Hd2.out.step hb3).below)
  clear hb3
  unfold strV at *
  go_wp2_with fail
  go_ret
  exact HF.out
 have q3:decide (slot < 2 * margin + dmax + pr)=false:=decide_eq_false h3
 rw [if_neg (by omega)] at HL
 clear h3
 by_cases h4:gap < 2 * margin + 2 * pr
 case pos=>
  have HR:R=some (75,-1):=by rw [HL.out,if_pos (by omega)]
  subst HR
  have q4:decide (gap < 2 * margin + 2 * pr)=true:=decide_eq_true h4
  clear HL h4 HFB HRO HPA HQA HRA HWin
  go_wp2_with fail
  refine (HA.out 75 (-1) _ (by omega) (by omega)).mono ?_
  rintro e w3 ⟨rfl,hb3⟩
  have HF:=Lib.hid ((HEN.out 75 (-1) _).2 (Hd2.out.step hb3).below)
  clear hb3
  unfold strV at *
  go_wp2_with fail
  go_ret
  exact HF.out
 have q4:decide (gap < 2 * margin + 2 * pr)=false:=decide_eq_false h4
 rw [if_neg (by omega)] at HL
 clear h4
 have e10:IntKind.i64.wrap (nodes * slot)=nodes * slot:=IntWalk.i64_in _ (by omega)
 clear hsl
 go_wp2_with fail
 clear k0 k1 k2 k3 k4 k5 k6 k7 k8 k9 k10
 clear q1 q3 q4 e1 e3 e4 e4b e5 e6 e7 e8 e9
 go_loopw [5] (RelI fb 71 parts pn (BoxS w ⟨nodes,faulty,slot,gap,rho,dmin,dmax,margin,PA,pn,pcap,parts,QA,qn,qcap,ports,RA,rn,rcap,routes⟩)) (fun i _=>(pn + 1 - intOf i).toNat)
 case atStart=>exact ⟨0,Nat.zero_le _,rfl,rfl,Hd2.out⟩
 case round=>
  clear Hd2
  obtain ⟨k,hk,rfl,hck,hb⟩:=hrel
  have Hb:=Lib.hid hb
  have Hck:=Lib.hid hck
  obtain ⟨k0,k1,k2,k3,k4,k5,k6,k7,k8,k9,k10⟩:=eleven hb d0 d1 d2 d3 d4 d5 d6 d7 d8 d9 d10
  clear hb hck
  by_cases hlt:k < pn
  ·obtain ⟨p,hmk⟩:∃ y,parts[k]? = some y:=⟨_,List.getElem?_eq_getElem (by omega)⟩
   obtain ⟨bp,op,ep,hbp,c0,c1,c2,c3,c4,c5,c6,c7,c8⟩:=HPA.out wr Hb.out k p hmk
   have Hst:=Lib.hid (SndP.firstI_step (ok:=fb) (code:=71) hmk)
   have hfb:=HFB.out k p
   obtain ⟨hw1,hw2,hw3,hw4⟩:=HWin.out p (List.mem_of_getElem? hmk)
   have HNx:Hid (fb k p=true→∀ W,BoxS w ⟨nodes,faulty,slot,gap,rho,dmin,dmax,margin,PA,pn,pcap,parts,QA,qn,qcap,ports,RA,rn,rcap,routes⟩ W→RelI fb 71 parts pn (BoxS w ⟨nodes,faulty,slot,gap,rho,dmin,dmax,margin,PA,pn,pcap,parts,QA,qn,qcap,ports,RA,rn,rcap,routes⟩) (.int .i64 ((k:Int) + 1)) W):=Lib.hid fun hy W hW=>by
    refine ⟨k + 1,by omega,by go_num,?_,hW⟩
    rw [← Hck.out,Hst.out,if_pos hy]
   have HBad:Hid (fb k p=false→R=some (71,(k:Int))):=Lib.hid fun hy=>by
    have h0:=Hck.out
    rw [Hst.out,if_neg (by rw [hy];simp)] at h0
    rw [HL.out,← h0]
   have HPK:=Lib.hid (fun W hW j (hj:j < k)=>HPA.out W hW j (parts[j]'(by omega)) (List.getElem?_eq_getElem (by omega)))
   have HWk:=Lib.hid (fun j (hj:j < k)=>HWin.out (parts[j]'(by omega)) (List.getElem_mem (by omega)))
   have HTk:=Lib.hid (fun j (hj:j < k)=>zo2 (p:=SndP.clash p) (List.getElem?_eq_getElem (show j < parts.length by omega)))
   have hmin:∀ j,(parts.take j).take j=parts.take j:=fun j=>by rw [List.take_take,Nat.min_self]
   clear hmk Hst
   generalize fb k p=fk at *
   subst ep
   obtain ⟨node,start,length,budget,words,r0,r1,r2,r3⟩:=p
   simp only at c0 c1 c2 c3 c4 c5 c6 c7 c8 hfb hw1 hw2 hw3 hw4
   have e11:IntKind.i64.wrap (start + length)=start + length:=IntWalk.i64_in _ (by omega)
   have kb0:=fun o=>d0 _ (Hb.out.alloc o)
   have kb2:=fun o=>d2 _ (Hb.out.alloc o)
   have HS0:=Lib.hid (AndP.start Hb.out #[.int .i64 node,.int .i64 start,.int .i64 length,.int .i64 budget,.int .i64 words,.int .u8 (r0:Nat),.int .u8 (r1:Nat),.int .u8 (r2:Nat),.int .u8 (r3:Nat)] 66 wr.heap.size rfl)
   have Hw:=Lib.hid (And.intro hw1 (And.intro hw2 (And.intro hw3 hw4)))
   clear hmin hw1 hw2 hw3 hw4
   go_wp2_with fail
   clear k0 k1 k2 k3 k4 k5 k6 k7 k8 k9 k10 c0 c1 c2 c3 c4 c5 c6 c7 c8 kb0 kb2
   clear Hb Hck
   generalize wr.heap.size=N at *
   go_loopw [7,8] (InRel w ⟨nodes,faulty,slot,gap,rho,dmin,dmax,margin,some ⟨bp,op,none⟩,pn,pcap,parts,QA,qn,qcap,ports,RA,rn,rcap,routes⟩ N #[.int .i64 node,.int .i64 start,.int .i64 length,.int .i64 budget,.int .i64 words,.int .u8 (r0:Nat),.int .u8 (r1:Nat),.int .u8 (r2:Nat),.int .u8 (r3:Nat)] 66 (decide (nodes * slot < start + length)) (SndP.clash ⟨node,start,length,budget,words,r0,r1,r2,r3⟩) parts k) (fun _ i _=>(k + 1 - intOf i).toNat)
   case atStart=>exact ⟨0,Nat.zero_le _,rfl,by simp,HS0.out⟩
   case round=>
    clear HS0
    obtain ⟨j,hj,rfl,rfl,hP⟩:=hrel
    have HP:=Lib.hid hP
    obtain ⟨k0,k1,k2,k3,k4,k5,k6,k7,k8,k9,k10⟩:=eleven hP.1 d0 d1 d2 d3 d4 d5 d6 d7 d8 d9 d10
    have p0:=za0 hP.2 0 rfl
    have pa0:=fun o=>za0 (hP.alloc o).2 0 rfl
    have p1:=za0 hP.2 1 rfl
    have pa1:=fun o=>za0 (hP.alloc o).2 1 rfl
    have p2:=za0 hP.2 2 rfl
    have pa2:=fun o=>za0 (hP.alloc o).2 2 rfl
    have p3:=za0 hP.2 3 rfl
    have pa3:=fun o=>za0 (hP.alloc o).2 3 rfl
    have p4:=za0 hP.2 4 rfl
    have pa4:=fun o=>za0 (hP.alloc o).2 4 rfl
    have p5:=za0 hP.2 5 rfl
    have pa5:=fun o=>za0 (hP.alloc o).2 5 rfl
    have p6:=za0 hP.2 6 rfl
    have pa6:=fun o=>za0 (hP.alloc o).2 6 rfl
    have p7:=za0 hP.2 7 rfl
    have pa7:=fun o=>za0 (hP.alloc o).2 7 rfl
    have p8:=za0 hP.2 8 rfl
    have pa8:=fun o=>za0 (hP.alloc o).2 8 rfl
    clear hP
    by_cases hjk:j < k
    ·obtain ⟨bq,oq,eq,hbq,c0,c1,c2,c3,c4,c5,c6,c7,c8⟩:=HPK.out wr HP.out.1 j hjk
     have hta:=HTk.out j hjk
     obtain ⟨hw1,hw2,hw3,hw4⟩:=HWk.out j hjk
     have HPn:=Lib.hid (fun o=>HP.out.alloc o)
     cases eq
     generalize parts[j]'(by omega)=q at *
     obtain ⟨node',start',length',budget',words',r0',r1',r2',r3'⟩:=q
     simp only at c0 c1 c2 c3 c4 c5 c6 c7 c8 hw1 hw2 hw3 hw4
     have e12:IntKind.i64.wrap (start' + length')=start' + length':=IntWalk.i64_in _ (by omega)
     have Hta:=Lib.hid hta
     clear hta hw1 hw2 hw3 hw4
     by_cases hn:node'=node
     case neg=>
      have hc:SndP.clash ⟨node,start,length,budget,words,r0,r1,r2,r3⟩ ⟨node',start',length',budget',words',r0',r1',r2',r3'⟩=false:=by simp [SndP.clash,hn]
      have q1:(node' == node)=false:=by rw [beq_eq_false_iff_ne];exact hn
      have HR:=Lib.hid (fun o=>(⟨j + 1,by omega,by go_num,by rw [Hta.out,hc,Bool.or_false],HPn.out o⟩:InRel w ⟨nodes,faulty,slot,gap,rho,dmin,dmax,margin,some ⟨bp,op,none⟩,pn,pcap,parts,QA,qn,qcap,ports,RA,rn,rcap,routes⟩ N #[.int .i64 node,.int .i64 start,.int .i64 length,.int .i64 budget,.int .i64 words,.int .u8 (r0:Nat),.int .u8 (r1:Nat),.int .u8 (r2:Nat),.int .u8 (r3:Nat)] 66 (decide (nodes * slot < start + length)) (SndP.clash ⟨node,start,length,budget,words,r0,r1,r2,r3⟩) parts k (.bool (decide (nodes * slot < start + length) || (parts.take j).any (SndP.clash ⟨node,start,length,budget,words,r0,r1,r2,r3⟩))) (.int .i64 ((j:Int) + 1)) (wr.alloc o)))
      clear hc hn Hta HPn
      generalize (decide (nodes * slot < start + length) || (parts.take j).any (SndP.clash ⟨node,start,length,budget,words,r0,r1,r2,r3⟩))=bb at *
      go_wp2_with fail
      go_roundw
      case rel=>exact HR.out _
      case measure=>simp [intOf];omega
     have q1:(node' == node)=true:=by rw [beq_iff_eq];exact hn
     by_cases h1:start' + length'≤start
     case pos=>
      have hc:SndP.clash ⟨node,start,length,budget,words,r0,r1,r2,r3⟩ ⟨node',start',length',budget',words',r0',r1',r2',r3'⟩=false:=by
       simp only [SndP.clash,SndP.meetB]
       rw [decide_eq_false (show ¬ start < start' + length' by omega)];simp
      have q2:decide (start' + length'≤start)=true:=decide_eq_true h1
      have HR:=Lib.hid (fun o=>(⟨j + 1,by omega,by go_num,by rw [Hta.out,hc,Bool.or_false],HPn.out o⟩:InRel w ⟨nodes,faulty,slot,gap,rho,dmin,dmax,margin,some ⟨bp,op,none⟩,pn,pcap,parts,QA,qn,qcap,ports,RA,rn,rcap,routes⟩ N #[.int .i64 node,.int .i64 start,.int .i64 length,.int .i64 budget,.int .i64 words,.int .u8 (r0:Nat),.int .u8 (r1:Nat),.int .u8 (r2:Nat),.int .u8 (r3:Nat)] 66 (decide (nodes * slot < start + length)) (SndP.clash ⟨node,start,length,budget,words,r0,r1,r2,r3⟩) parts k (.bool (decide (nodes * slot < start + length) || (parts.take j).any (SndP.clash ⟨node,start,length,budget,words,r0,r1,r2,r3⟩))) (.int .i64 ((j:Int) + 1)) (wr.alloc o)))
      clear hc hn h1 Hta HPn
      generalize (decide (nodes * slot < start + length) || (parts.take j).any (SndP.clash ⟨node,start,length,budget,words,r0,r1,r2,r3⟩))=bb at *
      go_wp2_with fail
      go_roundw
      case rel=>exact HR.out _
      case measure=>simp [intOf];omega
     have q2:decide (start' + length'≤start)=false:=decide_eq_false h1
     by_cases h2:start + length≤start'
     case pos=>
      have hc:SndP.clash ⟨node,start,length,budget,words,r0,r1,r2,r3⟩ ⟨node',start',length',budget',words',r0',r1',r2',r3'⟩=false:=by
       simp only [SndP.clash,SndP.meetB]
       rw [decide_eq_false (show ¬ start' < start + length by omega)];simp
      have q3:decide (start + length≤start')=true:=decide_eq_true h2
      have HR:=Lib.hid (fun o=>(⟨j + 1,by omega,by go_num,by rw [Hta.out,hc,Bool.or_false],HPn.out o⟩:InRel w ⟨nodes,faulty,slot,gap,rho,dmin,dmax,margin,some ⟨bp,op,none⟩,pn,pcap,parts,QA,qn,qcap,ports,RA,rn,rcap,routes⟩ N #[.int .i64 node,.int .i64 start,.int .i64 length,.int .i64 budget,.int .i64 words,.int .u8 (r0:Nat),.int .u8 (r1:Nat),.int .u8 (r2:Nat),.int .u8 (r3:Nat)] 66 (decide (nodes * slot < start + length)) (SndP.clash ⟨node,start,length,budget,words,r0,r1,r2,r3⟩) parts k (.bool (decide (nodes * slot < start + length) || (parts.take j).any (SndP.clash ⟨node,start,length,budget,words,r0,r1,r2,r3⟩))) (.int .i64 ((j:Int) + 1)) (wr.alloc o)))
      clear hc hn h1 h2 Hta HPn
      generalize (decide (nodes * slot < start + length) || (parts.take j).any (SndP.clash ⟨node,start,length,budget,words,r0,r1,r2,r3⟩))=bb at *
      go_wp2_with fail
      go_roundw
      case rel=>exact HR.out _
      case measure=>simp [intOf];omega
     have q3:decide (start + length≤start')=false:=decide_eq_false h2
     have hc:SndP.clash ⟨node,start,length,budget,words,r0,r1,r2,r3⟩ ⟨node',start',length',budget',words',r0',r1',r2',r3'⟩=true:=by
      simp only [SndP.clash,SndP.meetB]
      rw [decide_eq_true hn,decide_eq_true (show start' < start + length by omega),decide_eq_true (show start < start' + length' by omega)];rfl
     have HR:=Lib.hid (fun o=>(⟨j + 1,by omega,by go_num,by rw [Hta.out,hc,Bool.or_true,Bool.or_true],HPn.out o⟩:InRel w ⟨nodes,faulty,slot,gap,rho,dmin,dmax,margin,some ⟨bp,op,none⟩,pn,pcap,parts,QA,qn,qcap,ports,RA,rn,rcap,routes⟩ N #[.int .i64 node,.int .i64 start,.int .i64 length,.int .i64 budget,.int .i64 words,.int .u8 (r0:Nat),.int .u8 (r1:Nat),.int .u8 (r2:Nat),.int .u8 (r3:Nat)] 66 (decide (nodes * slot < start + length)) (SndP.clash ⟨node,start,length,budget,words,r0,r1,r2,r3⟩) parts k (.bool true) (.int .i64 ((j:Int) + 1)) (wr.alloc o)))
     clear hc hn h1 h2 Hta HPn
     generalize (decide (nodes * slot < start + length) || (parts.take j).any (SndP.clash ⟨node,start,length,budget,words,r0,r1,r2,r3⟩))=bb at *
     go_wp2_with fail
     go_roundw
     case rel=>exact HR.out _
     case measure=>simp [intOf];omega
    have hjk2:j=k:=by omega
    subst hjk2
    have hv:(decide (nodes * slot < start + length) || (parts.take j).any (SndP.clash ⟨node,start,length,budget,words,r0,r1,r2,r3⟩)) = !fk:=by
     rw [hfb]
     by_cases hle:start + length≤nodes * slot
     ·rw [decide_eq_true hle,decide_eq_false (by omega)];simp
     ·rw [decide_eq_false hle,decide_eq_true (by omega)];simp
    rw [hv]
    clear hv hfb
    cases fk with
    | true=>
     have HR:=Lib.hid (HNx.out rfl _ HP.out.1)
     clear HNx HBad HP HPK HWk HTk
     go_wp2_with fail
     go_roundw
     case rel=>exact HR.out
     case measure=>simp [intOf];omega
    | false=>
     have HR:=HBad.out rfl
     subst HR
     clear HNx HBad HPK HWk HTk HL HFB HRO HPA HQA HRA HWin
     go_wp2_with fail
     refine (HA.out 71 (j:Int) _ (by omega) (by omega)).mono ?_
     rintro e w3 ⟨rfl,hb3⟩
     have HF:=Lib.hid ((HEN.out 71 (j:Int) _).2 (HP.out.1.step hb3).below)
     clear hb3
     unfold strV at *
     go_wp2_with fail
     go_ret
     exact HF.out
  have hkn:pn=k:=by omega
  have hnone:SndP.firstI fb 71 0 parts=none:=by rw [← Hck.out];exact SndP.firstI_end (by omega)
  rw [hnone] at HL
  simp only at HL
  have Hd2:=Lib.hid Hb.out
  clear Hck Hb hnone HFB HPA HWin
  subst hkn
  go_wp2_with fail
  clear k0 k1 k2 k3 k4 k5 k6 k7 k8 k9 k10
  go_loopw [10] (RelI jb 72 routes rn (BoxS w ⟨nodes,faulty,slot,gap,rho,dmin,dmax,margin,PA,pn,pcap,parts,QA,qn,qcap,ports,RA,rn,rcap,routes⟩)) (fun i _=>(rn + 1 - intOf i).toNat)
  case atStart=>exact ⟨0,Nat.zero_le _,rfl,rfl,Hd2.out⟩
  case round=>
   clear Hd2
   obtain ⟨k,hk,rfl,hck,hb⟩:=hrel
   have Hb:=Lib.hid hb
   have Hck:=Lib.hid hck
   obtain ⟨k0,k1,k2,k3,k4,k5,k6,k7,k8,k9,k10⟩:=eleven hb d0 d1 d2 d3 d4 d5 d6 d7 d8 d9 d10
   clear hb hck
   by_cases hlt:k < rn
   case pos=>
    obtain ⟨r,hmk⟩:∃ y,routes[k]? = some y:=⟨_,List.getElem?_eq_getElem (by omega)⟩
    have Hst:=Lib.hid (SndP.firstI_step (ok:=jb) (code:=72) hmk)
    obtain ⟨s,d,hr,hs,hd,pa,pb,ea,eb,hjb⟩:=HRO.out k r hmk
    subst hr
    have HNx:Hid (jb k ⟨(s:Int),(d:Int)⟩=true→∀ W,BoxS w ⟨nodes,faulty,slot,gap,rho,dmin,dmax,margin,PA,pn,pcap,parts,QA,qn,qcap,ports,RA,rn,rcap,routes⟩ W→RelI jb 72 routes rn (BoxS w ⟨nodes,faulty,slot,gap,rho,dmin,dmax,margin,PA,pn,pcap,parts,QA,qn,qcap,ports,RA,rn,rcap,routes⟩) (.int .i64 ((k:Int) + 1)) W):=Lib.hid fun hy W hW=>by
     refine ⟨k + 1,by omega,by go_num,?_,hW⟩
     rw [← Hck.out,Hst.out,if_pos hy]
    have HBad:Hid (jb k ⟨(s:Int),(d:Int)⟩=false→R=some (72,(k:Int))):=Lib.hid fun hy=>by
     have h0:=Hck.out
     rw [Hst.out,if_neg (by rw [hy];simp)] at h0
     rw [HL.out,← h0]
    have HRk:=fun W hW=>HRA.out W hW k _ hmk
    have HRK:=Lib.hid (fun W hW j (hj:j < k)=>HRA.out W hW j (routes[j]'(by omega)) (List.getElem?_eq_getElem (by omega)))
    have HTk:=Lib.hid (fun j (hj:j < k)=>zo2 (p:=SndP.leads ⟨(s:Int),(d:Int)⟩) (List.getElem?_eq_getElem (show j < routes.length by omega)))
    have HQa:=fun W hW=>HQA.out W hW s pa ea
    have HQb:=fun W hW=>HQA.out W hW d pb eb
    obtain ⟨bq,oq,eq,-,-⟩:=HQa wr Hb.out
    obtain ⟨br,or,er,-,-⟩:=HRk wr Hb.out
    clear hmk Hst Hck HL HRO HRA HQA
    generalize jb k ⟨(s:Int),(d:Int)⟩=jk at *
    subst eq er
    have RA2:∀ W,BoxS w ⟨nodes,faulty,slot,gap,rho,dmin,dmax,margin,PA,pn,pcap,parts,some ⟨bq,oq,none⟩,qn,qcap,ports,some ⟨br,or,none⟩,rn,rcap,routes⟩ W→RouteAt W br (or + k * 2) ⟨(s:Int),(d:Int)⟩:=fun W hW=>by
     obtain ⟨b',o',e1,-,h2⟩:=HRk W hW
     cases e1
     exact h2
    have PA2:∀ W,BoxS w ⟨nodes,faulty,slot,gap,rho,dmin,dmax,margin,PA,pn,pcap,parts,some ⟨bq,oq,none⟩,qn,qcap,ports,some ⟨br,or,none⟩,rn,rcap,routes⟩ W→PortAt W bq (oq + s * 6) pa:=fun W hW=>by
     obtain ⟨b',o',e1,-,h2⟩:=HQa W hW
     cases e1
     exact h2
    have PB2:∀ W,BoxS w ⟨nodes,faulty,slot,gap,rho,dmin,dmax,margin,PA,pn,pcap,parts,some ⟨bq,oq,none⟩,qn,qcap,ports,some ⟨br,or,none⟩,rn,rcap,routes⟩ W→PortAt W bq (oq + d * 6) pb:=fun W hW=>by
     obtain ⟨b',o',e1,-,h2⟩:=HQb W hW
     cases e1
     exact h2
    clear HRk HQa HQb
    obtain ⟨part,kind,out,size,depth,fresh⟩:=pa
    obtain ⟨part',kind',out',size',depth',fresh'⟩:=pb
    simp only at hjb
    have r0:=fun W (hW:BoxS w ⟨nodes,faulty,slot,gap,rho,dmin,dmax,margin,PA,pn,pcap,parts,some ⟨bq,oq,none⟩,qn,qcap,ports,some ⟨br,or,none⟩,rn,rcap,routes⟩ W)=>(RA2 W hW).c0
    have r1:=fun W (hW:BoxS w ⟨nodes,faulty,slot,gap,rho,dmin,dmax,margin,PA,pn,pcap,parts,some ⟨bq,oq,none⟩,qn,qcap,ports,some ⟨br,or,none⟩,rn,rcap,routes⟩ W)=>(RA2 W hW).c1
    have u0:=fun W (hW:BoxS w ⟨nodes,faulty,slot,gap,rho,dmin,dmax,margin,PA,pn,pcap,parts,some ⟨bq,oq,none⟩,qn,qcap,ports,some ⟨br,or,none⟩,rn,rcap,routes⟩ W)=>(PA2 W hW).c0
    have v0:=fun W (hW:BoxS w ⟨nodes,faulty,slot,gap,rho,dmin,dmax,margin,PA,pn,pcap,parts,some ⟨bq,oq,none⟩,qn,qcap,ports,some ⟨br,or,none⟩,rn,rcap,routes⟩ W)=>(PB2 W hW).c0
    have u1:=fun W (hW:BoxS w ⟨nodes,faulty,slot,gap,rho,dmin,dmax,margin,PA,pn,pcap,parts,some ⟨bq,oq,none⟩,qn,qcap,ports,some ⟨br,or,none⟩,rn,rcap,routes⟩ W)=>(PA2 W hW).c1
    have v1:=fun W (hW:BoxS w ⟨nodes,faulty,slot,gap,rho,dmin,dmax,margin,PA,pn,pcap,parts,some ⟨bq,oq,none⟩,qn,qcap,ports,some ⟨br,or,none⟩,rn,rcap,routes⟩ W)=>(PB2 W hW).c1
    have u2:=fun W (hW:BoxS w ⟨nodes,faulty,slot,gap,rho,dmin,dmax,margin,PA,pn,pcap,parts,some ⟨bq,oq,none⟩,qn,qcap,ports,some ⟨br,or,none⟩,rn,rcap,routes⟩ W)=>(PA2 W hW).c2
    have v2:=fun W (hW:BoxS w ⟨nodes,faulty,slot,gap,rho,dmin,dmax,margin,PA,pn,pcap,parts,some ⟨bq,oq,none⟩,qn,qcap,ports,some ⟨br,or,none⟩,rn,rcap,routes⟩ W)=>(PB2 W hW).c2
    have u3:=fun W (hW:BoxS w ⟨nodes,faulty,slot,gap,rho,dmin,dmax,margin,PA,pn,pcap,parts,some ⟨bq,oq,none⟩,qn,qcap,ports,some ⟨br,or,none⟩,rn,rcap,routes⟩ W)=>(PA2 W hW).c3
    have v3:=fun W (hW:BoxS w ⟨nodes,faulty,slot,gap,rho,dmin,dmax,margin,PA,pn,pcap,parts,some ⟨bq,oq,none⟩,qn,qcap,ports,some ⟨br,or,none⟩,rn,rcap,routes⟩ W)=>(PB2 W hW).c3
    have u4:=fun W (hW:BoxS w ⟨nodes,faulty,slot,gap,rho,dmin,dmax,margin,PA,pn,pcap,parts,some ⟨bq,oq,none⟩,qn,qcap,ports,some ⟨br,or,none⟩,rn,rcap,routes⟩ W)=>(PA2 W hW).c4
    have v4:=fun W (hW:BoxS w ⟨nodes,faulty,slot,gap,rho,dmin,dmax,margin,PA,pn,pcap,parts,some ⟨bq,oq,none⟩,qn,qcap,ports,some ⟨br,or,none⟩,rn,rcap,routes⟩ W)=>(PB2 W hW).c4
    have u5:=fun W (hW:BoxS w ⟨nodes,faulty,slot,gap,rho,dmin,dmax,margin,PA,pn,pcap,parts,some ⟨bq,oq,none⟩,qn,qcap,ports,some ⟨br,or,none⟩,rn,rcap,routes⟩ W)=>(PA2 W hW).c5
    have v5:=fun W (hW:BoxS w ⟨nodes,faulty,slot,gap,rho,dmin,dmax,margin,PA,pn,pcap,parts,some ⟨bq,oq,none⟩,qn,qcap,ports,some ⟨br,or,none⟩,rn,rcap,routes⟩ W)=>(PB2 W hW).c5
    simp only at r0 r1 u0 v0 u1 v1 u2 v2 u3 v3 u4 v4 u5 v5
    clear RA2 PA2 PB2
    go_upto_region 29 with (fail)
    clear k0 k1 k2 k3 k4 k5 k6 k7 k8 k9 k10
    go_cut [11,12] (fun v6 v7 wx=>PortsL w ⟨nodes,faulty,slot,gap,rho,dmin,dmax,margin,PA,pn,pcap,parts,some ⟨bq,oq,none⟩,qn,qcap,ports,some ⟨br,or,none⟩,rn,rcap,routes⟩ #[.int .i64 part,.int .u8 (kind:Nat),.bool out,.int .i64 size,.int .i64 depth,.int .i64 fresh] #[.int .i64 part',.int .u8 (kind':Nat),.bool out',.int .i64 size',.int .i64 depth',.int .i64 fresh'] v6 v7 wx)
    case first=>
     clear HNx HBad HRK HTk hjb HA HEN
     have HT:Hid (∀ p q,BoxS w ⟨nodes,faulty,slot,gap,rho,dmin,dmax,margin,PA,pn,pcap,parts,some ⟨bq,oq,none⟩,qn,qcap,ports,some ⟨br,or,none⟩,rn,rcap,routes⟩ (((wr.alloc (.cells p 127)).alloc (.cells q 127)).drew) ∧
      (((wr.alloc (.cells p 127)).alloc (.cells q 127)).drew).heap[wr.heap.size]? = some (.cells p 127 (0,0)) ∧
      (((wr.alloc (.cells p 127)).alloc (.cells q 127)).drew).heap[wr.heap.size + 1]? = some (.cells q 127 (0,0))):=Lib.hid fun p q=>portsL Hb.out p q
     have HTa:Hid (PortsL w ⟨nodes,faulty,slot,gap,rho,dmin,dmax,margin,PA,pn,pcap,parts,some ⟨bq,oq,none⟩,qn,qcap,ports,some ⟨br,or,none⟩,rn,rcap,routes⟩ #[.int .i64 part,.int .u8 (kind:Nat),.bool out,.int .i64 size,.int .i64 depth,.int .i64 fresh] #[.int .i64 part',.int .u8 (kind':Nat),.bool out',.int .i64 size',.int .i64 depth',.int .i64 fresh'] (.pointer (some ⟨wr.heap.size,0,none⟩)) (.pointer (some ⟨wr.heap.size + 1,0,none⟩)) (((wr.alloc (.cells #[.int .i64 part,.int .u8 (kind:Nat),.bool out,.int .i64 size,.int .i64 depth,.int .i64 fresh] 127)).alloc (.cells #[.int .i64 part',.int .u8 (kind':Nat),.bool out',.int .i64 size',.int .i64 depth',.int .i64 fresh'] 127)).drew)):=Lib.hid (by
      have h:=HT.out #[.int .i64 part,.int .u8 (kind:Nat),.bool out,.int .i64 size,.int .i64 depth,.int .i64 fresh] #[.int .i64 part',.int .u8 (kind':Nat),.bool out',.int .i64 size',.int .i64 depth',.int .i64 fresh']
      exact ⟨_,_,rfl,rfl,h.1,h.2.1,h.2.2⟩)
     have HTb:Hid (PortsL w ⟨nodes,faulty,slot,gap,rho,dmin,dmax,margin,PA,pn,pcap,parts,some ⟨bq,oq,none⟩,qn,qcap,ports,some ⟨br,or,none⟩,rn,rcap,routes⟩ #[.int .i64 part,.int .u8 (kind:Nat),.bool out,.int .i64 size,.int .i64 depth,.int .i64 fresh] #[.int .i64 part',.int .u8 (kind':Nat),.bool out',.int .i64 size',.int .i64 depth',.int .i64 fresh'] (.pointer (some ⟨wr.heap.size + 1,0,none⟩)) (.pointer (some ⟨wr.heap.size,0,none⟩)) (((wr.alloc (.cells #[.int .i64 part',.int .u8 (kind':Nat),.bool out',.int .i64 size',.int .i64 depth',.int .i64 fresh'] 127)).alloc (.cells #[.int .i64 part,.int .u8 (kind:Nat),.bool out,.int .i64 size,.int .i64 depth,.int .i64 fresh] 127)).drew)):=Lib.hid (by
      have h:=HT.out #[.int .i64 part',.int .u8 (kind':Nat),.bool out',.int .i64 size',.int .i64 depth',.int .i64 fresh'] #[.int .i64 part,.int .u8 (kind:Nat),.bool out,.int .i64 size,.int .i64 depth,.int .i64 fresh]
      exact ⟨_,_,rfl,rfl,h.1,h.2.2,h.2.1⟩)
     clear HT
     have hd0:=BoxS.drew Hb.out
     go_wp2_with fail
     refine wp_region_held_drew (S:=fun W=>BoxS w ⟨nodes,faulty,slot,gap,rho,dmin,dmax,margin,PA,pn,pcap,parts,some ⟨bq,oq,none⟩,qn,qcap,ports,some ⟨br,or,none⟩,rn,rcap,routes⟩ W) (by kernel_rfl) hd0 (fun _=>?_)
     refine tK 0 hd0 ?_
     try simp only [Act.put,tkT,tk0,tkS]
     refine tK 1 hd0 ?_
     try simp only [Act.put,tkT,tk0,tkS]
     refine tK 2 hd0 ?_
     try simp only [Act.put,tkT,tk0,tkS]
     refine tK 3 hd0 ?_
     try simp only [Act.put,tkT,tk0,tkS]
     refine tK 4 hd0 ?_
     try simp only [Act.put,tkT,tk0,tkS]
     refine tK 5 hd0 ?_
     try simp only [Act.put,tkT,tk0,tkS]
     refine tK 6 hd0 ?_
     try simp only [Act.put,tkT,tk0,tkS]
     refine tK 7 hd0 ?_
     try simp only [Act.put,tkT,tk0,tkS]
     refine tK 8 hd0 ?_
     try simp only [Act.put,tkT,tk0,tkS]
     refine tK 9 hd0 ?_
     try simp only [Act.put,tkT,tk0,tkS]
     refine tK 10 hd0 ?_
     try simp only [Act.put,tkT,tk0,tkS]
     refine tK 11 hd0 ?_
     try simp only [Act.put,tkT,tk0,tkS]
     refine tK 12 hd0 ?_
     try simp only [Act.put,tkT,tk0,tkS]
     refine tK 13 hd0 ?_
     try simp only [Act.put,tkT,tk0,tkS]
     refine tK 14 hd0 ?_
     try simp only [Act.put,tkT,tk0,tkS]
     refine tK 15 hd0 ?_
     try simp only [Act.put,tkT,tk0,tkS]
     refine tK 16 hd0 ?_
     try simp only [Act.put,tkT,tk0,tkS]
     refine tK 17 hd0 ?_
     try simp only [Act.put,tkT,tk0,tkS]
     refine tK 18 hd0 ?_
     try simp only [Act.put,tkT,tk0,tkS]
     refine tK 19 hd0 ?_
     try simp only [Act.put,tkT,tk0,tkS]
     refine wpAnyH_ready (rs:=[20,21]) (by kernel_rfl) (by simp) ?_
     refine AllReadyH.cons (o:=?o1) ?i1 (fun K hK=>?_) (AllReadyH.cons (o:=?o2) ?i2 (fun K hK=>?_) AllReadyH.nil)
     case i1=>simp only [List.getElem?_toArray,List.getElem?_cons_succ,List.getElem?_cons_zero];rfl
     case i2=>simp only [List.getElem?_toArray,List.getElem?_cons_succ,List.getElem?_cons_zero];rfl
     ·go_simp
      refine hK.out _ _ ?ha1 (fun _=>?_)
      case ha1=>exact Hb.out.alloc1 _
      clear hK K
      refine wpAnyH_ready (rs:=[21]) (by kernel_rfl) (by simp) ?_
      refine AllReadyH.cons (o:=?oa2) ?ia2 (fun K hK=>?_) AllReadyH.nil
      case ia2=>simp only [List.getElem?_toArray,List.getElem?_cons_succ,List.getElem?_cons_zero];rfl
      go_simp
      refine hK.out _ _ ?ha2 (fun _=>?_)
      case ha2=>exact Hb.out.alloc2 _ _
      clear hK K
      refine wpAnyH_ready (rs:=[22]) (by kernel_rfl) (by simp) ?_
      refine AllReadyH.cons (o:=?oa3) ?ia3 (fun K hK=>?_) AllReadyH.nil
      case ia3=>simp only [List.getElem?_toArray,List.getElem?_cons_succ,List.getElem?_cons_zero];rfl
      go_simp
      refine hK.out _ _ ?ha3 (fun _=>?_)
      case ha3=>exact Hb.out.alloc2 _ _
      clear hK K
      refine wpAnyH_ready (rs:=[23]) (by kernel_rfl) (by simp) ?_
      refine AllReadyH.cons (o:=?oa4) ?ia4 (fun K hK=>?_) AllReadyH.nil
      case ia4=>simp only [List.getElem?_toArray,List.getElem?_cons_succ,List.getElem?_cons_zero];rfl
      go_simp
      refine hK.out _ _ ?ha4 (fun _=>?_)
      case ha4=>exact Hb.out.alloc2 _ _
      clear hK K
      refine wpAnyH_done (by kernel_rfl) ?_ _
      go_wp2_with fail
      go_meet
      exact HTa.out
     ·go_simp
      refine hK.out _ _ ?hb1 (fun _=>?_)
      case hb1=>exact Hb.out.alloc1 _
      clear hK K
      refine wpAnyH_ready (rs:=[20]) (by kernel_rfl) (by simp) ?_
      refine AllReadyH.cons (o:=?ob2) ?ib2 (fun K hK=>?_) AllReadyH.nil
      case ib2=>simp only [List.getElem?_toArray,List.getElem?_cons_succ,List.getElem?_cons_zero];rfl
      go_simp
      refine hK.out _ _ ?hb2 (fun _=>?_)
      case hb2=>exact Hb.out.alloc2 _ _
      clear hK K
      refine wpAnyH_ready (rs:=[22]) (by kernel_rfl) (by simp) ?_
      refine AllReadyH.cons (o:=?ob3) ?ib3 (fun K hK=>?_) AllReadyH.nil
      case ib3=>simp only [List.getElem?_toArray,List.getElem?_cons_succ,List.getElem?_cons_zero];rfl
      go_simp
      refine hK.out _ _ ?hb3 (fun _=>?_)
      case hb3=>exact Hb.out.alloc2 _ _
      clear hK K
      refine wpAnyH_ready (rs:=[23]) (by kernel_rfl) (by simp) ?_
      refine AllReadyH.cons (o:=?ob4) ?ib4 (fun K hK=>?_) AllReadyH.nil
      case ib4=>simp only [List.getElem?_toArray,List.getElem?_cons_succ,List.getElem?_cons_zero];rfl
      go_simp
      refine hK.out _ _ ?hb4 (fun _=>?_)
      case hb4=>exact Hb.out.alloc2 _ _
      clear hK K
      refine wpAnyH_done (by kernel_rfl) ?_ _
      go_wp2_with fail
      go_meet
      exact HTb.out
    case rest=>
    obtain ⟨F,T,rfl,rfl,hB2,hF,hT⟩:=hcut
    have a0:=za0 hF 0 rfl
    have b0:=za0 hT 0 rfl
    have a1:=za0 hF 1 rfl
    have b1:=za0 hT 1 rfl
    have a2:=za0 hF 2 rfl
    have b2:=za0 hT 2 rfl
    have a3:=za0 hF 3 rfl
    have b3:=za0 hT 3 rfl
    have a4:=za0 hF 4 rfl
    have b4:=za0 hT 4 rfl
    have a5:=za0 hF 5 rfl
    have b5:=za0 hT 5 rfl
    clear hF hT u0 v0 u1 v1 u2 v2 u3 v3 u4 v4 u5 v5 r0 Hb
    have HB2:=Lib.hid hB2
    clear hB2
    go_upto_region 30 with (fail)
    go_cut [13] (fun v wx=>v = .bool (!(out && !out' && decide (kind=kind') && decide (size≤size')))∧BoxS w ⟨nodes,faulty,slot,gap,rho,dmin,dmax,margin,PA,pn,pcap,parts,some ⟨bq,oq,none⟩,qn,qcap,ports,some ⟨br,or,none⟩,rn,rcap,routes⟩ wx)
    case first=>
     clear HNx HBad HRK HTk hjb HA HEN d0 d1 d2 d3 d4 d5 d6 d7 d8 d9 d10 r1
     cases out with
     | false=>
      go_wp2_with fail
      go_meet
      exact ⟨by simp,HB2.out⟩
     | true=>
     cases out' with
     | true=>
      go_wp2_with fail
      go_meet
      exact ⟨by simp,HB2.out⟩
     | false=>
     by_cases h3:kind=kind'
     case neg=>
      have q3:((kind:Int) != kind')=true:=by rw [bne_iff_ne];omega
      go_wp2_with fail
      go_meet
      exact ⟨by simp [h3],HB2.out⟩
     have q3:((kind:Int) != kind')=false:=by rw [bne_eq_false_iff_eq];omega
     by_cases h4:size≤size'
     case neg=>
      have q4:decide (size' < size)=true:=decide_eq_true (by omega)
      go_wp2_with fail
      go_meet
      exact ⟨by simp [h3,h4],HB2.out⟩
     have q4:decide (size' < size)=false:=decide_eq_false (by omega)
     go_wp2_with fail
     go_meet
     exact ⟨by simp [h3,h4],HB2.out⟩
    case rest=>
    obtain ⟨rfl,hB3⟩:=hcut
    clear HB2 a0 a1 a2 a3 a4 a5 b0 b1 b2 b3 b4 b5
    have HB3:=Lib.hid hB3
    clear hB3
    have hjb2:jk = !(!(out && !out' && decide (kind=kind') && decide (size≤size')) || (routes.take k).any (SndP.leads ⟨(s:Int),(d:Int)⟩)):=by
     rw [hjb];simp [Bool.not_or]
    clear hjb
    generalize (!(out && !out' && decide (kind=kind') && decide (size≤size')))=b0 at *
    go_wp2_with fail
    go_loopw [13,14] (InRelR w ⟨nodes,faulty,slot,gap,rho,dmin,dmax,margin,PA,pn,pcap,parts,some ⟨bq,oq,none⟩,qn,qcap,ports,some ⟨br,or,none⟩,rn,rcap,routes⟩ b0 (SndP.leads ⟨(s:Int),(d:Int)⟩) routes k) (fun _ i _=>(k + 1 - intOf i).toNat)
    case atStart=>exact ⟨0,Nat.zero_le _,rfl,by simp,HB3.out⟩
    case round=>
     clear HB3
     obtain ⟨j,hj,rfl,rfl,hP⟩:=hrel
     have HP:=Lib.hid hP
     have k10:=d10 _ hP
     have q1:=r1 _ hP
     clear hP
     by_cases hjk:j < k
     case pos=>
      obtain ⟨b',o',e1,-,c0,c1⟩:=HRK.out _ HP.out j hjk
      have hta:=HTk.out j hjk
      cases e1
      generalize routes[j]'(by omega)=q at *
      obtain ⟨src',dst'⟩:=q
      simp only at c0 c1
      have HR:=Lib.hid (fun W (hW:BoxS w ⟨nodes,faulty,slot,gap,rho,dmin,dmax,margin,PA,pn,pcap,parts,some ⟨bq,oq,none⟩,qn,qcap,ports,some ⟨br,or,none⟩,rn,rcap,routes⟩ W)=>(⟨j + 1,by omega,by go_num,by rw [hta,Bool.or_assoc],hW⟩:InRelR w ⟨nodes,faulty,slot,gap,rho,dmin,dmax,margin,PA,pn,pcap,parts,some ⟨bq,oq,none⟩,qn,qcap,ports,some ⟨br,or,none⟩,rn,rcap,routes⟩ b0 (SndP.leads ⟨(s:Int),(d:Int)⟩) routes k (.bool ((b0 || (routes.take j).any (SndP.leads ⟨(s:Int),(d:Int)⟩)) || SndP.leads ⟨(s:Int),(d:Int)⟩ ⟨src',dst'⟩)) (.int .i64 ((j:Int) + 1)) W))
      clear hta
      cases hbb:(b0 || (routes.take j).any (SndP.leads ⟨(s:Int),(d:Int)⟩)) with
      | true=>
       rw [hbb,Bool.true_or] at HR
       clear hbb
       go_wp2_with fail
       go_quiet (fail)
       go_wp2_with fail
       go_roundw
       case rel=>exact HR.out _ (HP.out.drewN _)
       case measure=>simp [intOf];omega
      | false=>
       rw [hbb,Bool.false_or] at HR
       clear hbb
       have e2:SndP.leads ⟨(s:Int),(d:Int)⟩ ⟨src',dst'⟩=(dst' == (d:Int)):=by simp only [SndP.leads];rw [Bool.eq_iff_iff];simp
       rw [e2] at HR
       clear e2
       go_wp2_with fail
       go_quiet (fail)
       go_wp2_with fail
       go_roundw
       case rel=>exact HR.out _ (HP.out.drewN _)
       case measure=>simp [intOf];omega
     have hjk2:j=k:=by omega
     subst hjk2
     have hv:(b0 || (routes.take j).any (SndP.leads ⟨(s:Int),(d:Int)⟩)) = !jk:=by
      rw [hjb2];simp
     rw [hv]
     clear hv hjb2
     cases jk with
     | true=>
      have HR:=Lib.hid (HNx.out rfl _ HP.out)
      clear HNx HBad HP HRK HTk
      go_wp2_with fail
      go_roundw
      case rel=>exact HR.out
      case measure=>simp [intOf];omega
     | false=>
      have HR:=HBad.out rfl
      subst HR
      clear HNx HBad HRK HTk
      go_wp2_with fail
      refine (HA.out 72 (j:Int) _ (by omega) (by omega)).mono ?_
      rintro e w3 ⟨rfl,hb3⟩
      have HF:=Lib.hid ((HEN.out 72 (j:Int) _).2 (HP.out.step hb3).below)
      clear hb3
      unfold strV at *
      go_wp2_with fail
      go_ret
      exact HF.out
   have hkn:rn=k:=by omega
   have hnone:SndP.firstI jb 72 0 routes=none:=by rw [← Hck.out];exact SndP.firstI_end (by omega)
   have HF:Hid (RefChkPost R w (.returned (.string ⟨#[]⟩)) wr):=Lib.hid (by rw [HL.out,hnone];exact ⟨rfl,Hb.out.below⟩)
   clear hnone
   subst hkn
   go_wp2_with fail
   go_ret
   exact HF.out
open Go.RowKit
set_option maxRecDepth 100000
def longB6 (x:CfgC):Bool:=decide (40 < x.pn) || decide (60 < x.qn) || decide (60 < x.rn)
set_option maxHeartbeats 1000000 in
theorem long6_any (x:CfgC) (w:World):Calls Tryz.prog 25 #[x.value] w (BoolPost (longB6 x) w):=by
 have HB0:=Lib.hid (zb1 w x)
 obtain ⟨B,hB⟩:∃ B,longB6 x=B:=⟨_,rfl⟩
 rw [hB]
 obtain ⟨nodes,faulty,slot,gap,rho,dmin,dmax,margin,PA,pn,pcap,parts,QA,qn,qcap,ports,RA,rn,rcap,routes⟩:=x
 simp only [longB6] at hB
 simp only [CfgC.value]
 simp only [boxC,cfgCells] at HB0
 by_cases h1:40 < pn
 ·have q1:decide ((40:Int) < pn)=true:=decide_eq_true (by omega)
  have e:B=true:=by rw [← hB];simp [h1]
  subst e
  clear hB h1
  go_enter Tryz.func25,Tryz.ntmps25
  go_wp2_with fail
  go_ret
  exact ⟨rfl,HB0.out⟩
 ·have q1:decide ((40:Int) < pn)=false:=decide_eq_false (by omega)
  by_cases h2:60 < qn
  ·have q2:decide ((60:Int) < qn)=true:=decide_eq_true (by omega)
   have e:B=true:=by rw [← hB];simp [h2]
   subst e
   clear hB h1 h2
   go_enter Tryz.func25,Tryz.ntmps25
   go_wp2_with fail
   go_ret
   exact ⟨rfl,HB0.out⟩
  ·have q2:decide ((60:Int) < qn)=false:=decide_eq_false (by omega)
   have e:decide ((60:Int) < rn)=B:=by
    rw [← hB]
    have h1':¬ 40 < pn:=h1
    have h3:((60:Int) < rn)=(60 < rn):=by simp only [eq_iff_iff];omega
    simp [h1,h2,h3]
   clear hB h1 h2
   go_enter Tryz.func25,Tryz.ntmps25
   go_wp2_with fail
   go_ret
   exact ⟨rfl,HB0.out⟩
theorem zI0 (x:CfgC) (w:World) (h:CfgIn w x) :
 Calls Tryz.prog 26 #[x.value] w (RefChkPost (SndP.chk6 x.plain) w):=by
 cases hc:TableP.chk x.plain with
 | some f=>exact zB6 x w h f hc
 | none=>exact zB7 x w h hc
def worksB (x:CfgC):Bool:=!longB6 x && (SndP.chk6 x.plain).isNone
set_option maxHeartbeats 1000000 in
theorem works_any (x:CfgC) (w:World) (h:CfgIn w x):Calls Tryz.prog 5 #[x.value] w (BoolPost (worksB x) w):=by
 have HLg:=Lib.hid (fun W=>long6_any x W)
 have HRc:=Lib.hid (fun W (hW:BoxS w x W)=>zI0 x W (h.below hW.below))
 have hst:=BoxS.start w x
 obtain ⟨L,hL⟩:∃ L,longB6 x=L:=⟨_,rfl⟩
 obtain ⟨c,hc⟩:∃ c,SndP.chk6 x.plain=c:=⟨_,rfl⟩
 have hw:worksB x=(!L && c.isNone):=by simp only [worksB,hL,hc]
 rw [hw]
 simp only [hL] at HLg
 simp only [hc] at HRc
 unfold RefChkPost strV at HRc
 clear h hL hc hw
 obtain ⟨nodes,faulty,slot,gap,rho,dmin,dmax,margin,PA,pn,pcap,parts,QA,qn,qcap,ports,RA,rn,rcap,routes⟩:=x
 obtain ⟨d0,d1,d2,d3,d4,d5,d6,d7,d8,d9,d10⟩:=cfgFacts (fun W (hW:BoxS w ⟨nodes,faulty,slot,gap,rho,dmin,dmax,margin,PA,pn,pcap,parts,QA,qn,qcap,ports,RA,rn,rcap,routes⟩ W)=>hW.cells)
 obtain ⟨k0,k1,k2,k3,k4,k5,k6,k7,k8,k9,k10⟩:=eleven hst d0 d1 d2 d3 d4 d5 d6 d7 d8 d9 d10
 simp only [boxC,cfgCells] at hst k0 k1 k2 k3 k4 k5 k6 k7 k8 k9 k10
 simp only at d0 d1 d2 d3 d4 d5 d6 d7 d8 d9 d10 k0 k1 k2 k3 k4 k5 k6 k7 k8 k9 k10
 simp only [CfgC.value] at HLg HRc ⊢
 have HST:=Lib.hid hst
 clear hst
 cases L with
 | true=>
  go_enter Tryz.func5,Tryz.ntmps5
  go_wp2_with fail
  refine (HLg.out _).mono ?_
  rintro e w1 ⟨rfl,hb1⟩
  have HF:=Lib.hid (HST.out.step hb1).below
  clear hb1
  go_wp2_with fail
  go_ret
  exact ⟨rfl,HF.out⟩
 | false=>
  go_enter Tryz.func5,Tryz.ntmps5
  go_wp2_with fail
  refine (HLg.out _).mono ?_
  rintro e w1 ⟨rfl,hb1⟩
  have hd1:=HST.out.step hb1
  clear hb1 k0 k1 k2 k3 k4 k5 k6 k7 k8 k9 k10
  obtain ⟨k0,k1,k2,k3,k4,k5,k6,k7,k8,k9,k10⟩:=eleven hd1 d0 d1 d2 d3 d4 d5 d6 d7 d8 d9 d10
  have Hd1:=Lib.hid hd1
  clear hd1
  go_wp2_with fail
  refine (HRc.out _ Hd1.out).mono ?_
  rintro e w2 ⟨rfl,hb2⟩
  have HF:=Lib.hid (Hd1.out.step hb2).below
  clear hb2
  cases c with
  | none=>
   simp only [wrongT]
   go_wp2_with fail
   go_ret
   exact ⟨rfl,HF.out⟩
  | some c=>
   have hne:=zy6 c
   generalize wrongT (some c)=t at *
   cases t with
   | nil=>exact absurd rfl hne
   | cons u r=>
   clear hne
   go_wp2_with fail
   go_ret
   exact ⟨rfl,HF.out⟩
open Go.RowKit
set_option maxRecDepth 100000
end Go.Proofs.YtfgpfmhjnccccaaGreatDoor
