import Derived.Deep.RegionHeld3
import Derived.Deep.DeepCutAuto
import Derived.Test.YtfgpfmhjnccccaaGreatDoorSa01
import Derived.Test.YtfgpfmhjnccccaaGreatDoorSa07
namespace Go.Proofs.YtfgpfmhjnccccaaGreatDoor
open Go.RowKit
set_option maxRecDepth 100000
def IntPost (n:Int) (w:World) (e:Ending) (w':World):Prop:=e = .returned (.int .i64 n)∧Below w.heap.size w w'
def BoxS (w:World) (x:CfgC) (W:World):Prop:=Below (boxC w x).heap.size (boxC w x) W
theorem BoxS.start (w:World) (x:CfgC):BoxS w x (boxC w x):=Below.refl _ _
theorem BoxS.drew {w:World} {x:CfgC} {W:World} (h:BoxS w x W):BoxS w x W.drew:=Below.drew h
theorem BoxS.step {w:World} {x:CfgC} {W W':World} (h:BoxS w x W) (hb:Below W.heap.size W W'):BoxS w x W':=h.trans (hb.mono h.size)
theorem BoxS.below {w:World} {x:CfgC} {W:World} (h:BoxS w x W):Below w.heap.size w W:=(zb1 w x).trans (h.mono (by rw [zb7];omega))
theorem BoxS.cells {w:World} {x:CfgC} {W:World} (h:BoxS w x W):Box11 W w.heap.size x:=box11 h
theorem zN5 (a b:Int) (ha:0≤a):Int.tdiv a b=a / b:=Int.tdiv_eq_ediv_of_nonneg ha
theorem zy0 (x:CfgC) (w:World) (h:TableP.headOk x.plain) :
 Calls Tryz.prog 89 #[x.value] w (IntPost (SndP.slotsT x.plain) w):=by
 have hn:=SndP.nums_in h
 obtain ⟨hn1,hn2,hn3,hn4,hn5,hn6,hn7,hn8,hs,hd⟩:=hn
 clear h
 have HB:=Lib.hid (zb1 w x)
 obtain ⟨nodes,faulty,slot,gap,rho,dmin,dmax,margin,PA,pn,pcap,parts,QA,qn,qcap,ports,RA,rn,rcap,routes⟩:=x
 simp only [CfgC.plain] at hn1 hn2 hn3 hn4 hn5 hn6 hn7 hn8 hs hd
 simp only [boxC,cfgCells] at HB
 simp only [CfgC.value,CfgC.plain,SndP.slotsT]
 have e0:IntKind.i64.wrap (nodes * slot)=nodes * slot:=IntWalk.i64_in _ (by omega)
 clear hn1 hn2 hn3 hn4 hn5 hn6 hn7 hn8 hs hd
 go_enter Tryz.func89,Tryz.ntmps89
 go_wp2_with fail
 go_ret
 exact ⟨rfl,HB.out⟩
theorem zs2 (x:CfgC) (w:World) (h:TableP.headOk x.plain) :
 Calls Tryz.prog 63 #[x.value] w (IntPost (SndP.spreadT x.plain) w):=by
 have hn:=SndP.nums_in h
 obtain ⟨hn1,hn2,hn3,hn4,hn5,hn6,hn7,hn8,hs,hd⟩:=hn
 clear h
 have HB:=Lib.hid (zb1 w x)
 obtain ⟨nodes,faulty,slot,gap,rho,dmin,dmax,margin,PA,pn,pcap,parts,QA,qn,qcap,ports,RA,rn,rcap,routes⟩:=x
 simp only [CfgC.plain] at hn1 hn2 hn3 hn4 hn5 hn6 hn7 hn8 hs hd
 simp only [boxC,cfgCells] at HB
 simp only [CfgC.value,CfgC.plain,SndP.spreadT]
 have e0:IntKind.i64.wrap (dmax - dmin)=dmax - dmin:=IntWalk.i64_in _ (by omega)
 clear hn1 hn2 hn3 hn4 hn5 hn6 hn7 hn8 hs hd
 go_enter Tryz.func63,Tryz.ntmps63
 go_wp2_with fail
 go_ret
 exact ⟨rfl,HB.out⟩
theorem zy1 (x:CfgC) (w:World) (h:TableP.headOk x.plain) :
 Calls Tryz.prog 59 #[x.value] w (IntPost (SndP.roundT x.plain) w):=by
 have hn:=SndP.nums_in h
 obtain ⟨hn1,hn2,hn3,hn4,hn5,hn6,hn7,hn8,hs,hd⟩:=hn
 clear h
 have HB:=Lib.hid (zb1 w x)
 obtain ⟨nodes,faulty,slot,gap,rho,dmin,dmax,margin,PA,pn,pcap,parts,QA,qn,qcap,ports,RA,rn,rcap,routes⟩:=x
 simp only [CfgC.plain] at hn1 hn2 hn3 hn4 hn5 hn6 hn7 hn8 hs hd
 simp only [boxC,cfgCells] at HB
 simp only [CfgC.value,CfgC.plain,SndP.roundT]
 have e0:IntKind.i64.wrap (nodes * slot)=nodes * slot:=IntWalk.i64_in _ (by omega)
 have e1:IntKind.i64.wrap (nodes * slot + gap)=nodes * slot + gap:=IntWalk.i64_in _ (by omega)
 clear hn1 hn2 hn3 hn4 hn5 hn6 hn7 hn8 hs hd
 go_enter Tryz.func59,Tryz.ntmps59
 go_wp2_with fail
 go_ret
 exact ⟨rfl,HB.out⟩
theorem zN6 (x:CfgC) (w:World) (h:TableP.headOk x.plain) :
 Calls Tryz.prog 88 #[x.value] w (IntPost (SndP.roundT x.plain) w):=by
 have C0:=Lib.hid (fun W=>zy0 x W h)
 have hn:=SndP.nums_in h
 obtain ⟨hn1,hn2,hn3,hn4,hn5,hn6,hn7,hn8,hs,hd⟩:=hn
 clear h
 obtain ⟨nodes,faulty,slot,gap,rho,dmin,dmax,margin,PA,pn,pcap,parts,QA,qn,qcap,ports,RA,rn,rcap,routes⟩:=x
 have hd0:=(BoxS.start w ⟨nodes,faulty,slot,gap,rho,dmin,dmax,margin,PA,pn,pcap,parts,QA,qn,qcap,ports,RA,rn,rcap,routes⟩).drew
 obtain ⟨d0,d1,d2,d3,d4,d5,d6,d7,d8,d9,d10⟩:=cfgFacts (fun W (hW:BoxS w ⟨nodes,faulty,slot,gap,rho,dmin,dmax,margin,PA,pn,pcap,parts,QA,qn,qcap,ports,RA,rn,rcap,routes⟩ W)=>hW.cells)
 simp only [CfgC.plain] at hn1 hn2 hn3 hn4 hn5 hn6 hn7 hn8 hs hd
 simp only [CfgC.value,CfgC.plain,SndP.roundT,SndP.slotsT] at C0 ⊢
 simp only at d0 d1 d2 d3 d4 d5 d6 d7 d8 d9 d10
 have e0:IntKind.i64.wrap (nodes * slot + gap)=nodes * slot + gap:=IntWalk.i64_in _ (by omega)
 clear hn1 hn2 hn3 hn4 hn5 hn6 hn7 hn8 hs hd
 go_enter Tryz.func88,Tryz.ntmps88
 go_wp2_with fail
 refine wp_region_held_drew (S:=fun W=>BoxS w ⟨nodes,faulty,slot,gap,rho,dmin,dmax,margin,PA,pn,pcap,parts,QA,qn,qcap,ports,RA,rn,rcap,routes⟩ W) (by kernel_rfl) hd0 (fun _=>?_)
 refine tK 0 hd0 ?_
 try simp only [Act.put,tkT,tk0,tkS]
 refine tK 2 hd0 ?_
 try simp only [Act.put,tkT,tk0,tkS]
 refine tK 3 hd0 ?_
 try simp only [Act.put,tkT,tk0,tkS]
 refine clH 1 (by kernel_rfl) (by simp only [tkA,tkG];rfl) (fun K hK=>?_)
 go_simp
 refine (C0.out _).mono ?_
 rintro e w1 ⟨rfl,hb1⟩
 have hd1:=hd0.step hb1
 go_wp2_with fail
 refine hK.out _ _ hd1 (fun _=>?_)
 clear hK K
 refine tK 4 hd1 ?_
 try simp only [Act.put,tkT,tk0,tkS]
 refine tK 5 hd1 ?_
 try simp only [Act.put,tkT,tk0,tkS]
 refine wpAnyH_done (by kernel_rfl) ?_ _
 go_wp2_with fail
 go_ret
 exact ⟨rfl,hd1.below⟩
theorem zy2 (x:CfgC) (w:World) (h:TableP.headOk x.plain) :
 Calls Tryz.prog 64 #[x.value] w (IntPost (SndP.driftT x.plain) w):=by
 have C0:=Lib.hid (fun W=>zN6 x W h)
 have hn:=SndP.nums_in h
 obtain ⟨hn1,hn2,hn3,hn4,hn5,hn6,hn7,hn8,hs,hd⟩:=hn
 clear h
 obtain ⟨nodes,faulty,slot,gap,rho,dmin,dmax,margin,PA,pn,pcap,parts,QA,qn,qcap,ports,RA,rn,rcap,routes⟩:=x
 have hd0:=(BoxS.start w ⟨nodes,faulty,slot,gap,rho,dmin,dmax,margin,PA,pn,pcap,parts,QA,qn,qcap,ports,RA,rn,rcap,routes⟩).drew
 obtain ⟨d0,d1,d2,d3,d4,d5,d6,d7,d8,d9,d10⟩:=cfgFacts (fun W (hW:BoxS w ⟨nodes,faulty,slot,gap,rho,dmin,dmax,margin,PA,pn,pcap,parts,QA,qn,qcap,ports,RA,rn,rcap,routes⟩ W)=>hW.cells)
 simp only [CfgC.plain] at hn1 hn2 hn3 hn4 hn5 hn6 hn7 hn8 hs hd
 simp only [CfgC.value,CfgC.plain,SndP.driftT,SndP.roundT] at C0 ⊢
 simp only at d0 d1 d2 d3 d4 d5 d6 d7 d8 d9 d10
 have q1:2 * rho * (nodes * slot + gap) + 1000000 - 1=2 * rho * (nodes * slot + gap) + 999999:=by omega
 have q0:=zN5 (2 * rho * (nodes * slot + gap) + 999999) 1000000 (by omega)
 have e0:IntKind.i64.wrap (2 * rho)=2 * rho:=IntWalk.i64_in _ (by omega)
 have e1:IntKind.i64.wrap (2 * rho * (nodes * slot + gap))=2 * rho * (nodes * slot + gap):=IntWalk.i64_in _ (by omega)
 have e2:IntKind.i64.wrap (2 * rho * (nodes * slot + gap) + 1000000)=2 * rho * (nodes * slot + gap) + 1000000:=IntWalk.i64_in _ (by omega)
 have e3:IntKind.i64.wrap (2 * rho * (nodes * slot + gap) + 999999)=2 * rho * (nodes * slot + gap) + 999999:=IntWalk.i64_in _ (by omega)
 have e4:IntKind.i64.wrap ((2 * rho * (nodes * slot + gap) + 999999) / 1000000)=(2 * rho * (nodes * slot + gap) + 999999) / 1000000:=IntWalk.i64_in _ (by omega)
 have e5:IntKind.i64.wrap ((2 * rho * (nodes * slot + gap) + 999999) / 1000000 + 2)=(2 * rho * (nodes * slot + gap) + 999999) / 1000000 + 2:=IntWalk.i64_in _ (by omega)
 clear hn1 hn2 hn3 hn4 hn5 hn6 hn7 hn8 hs hd
 go_enter Tryz.func64,Tryz.ntmps64
 go_wp2_with fail
 refine wp_region_held_drew (S:=fun W=>BoxS w ⟨nodes,faulty,slot,gap,rho,dmin,dmax,margin,PA,pn,pcap,parts,QA,qn,qcap,ports,RA,rn,rcap,routes⟩ W) (by kernel_rfl) hd0 (fun _=>?_)
 refine tK 0 hd0 ?_
 try simp only [Act.put,tkT,tk0,tkS]
 refine tK 1 hd0 ?_
 try simp only [Act.put,tkT,tk0,tkS]
 refine tK 2 hd0 ?_
 try simp only [Act.put,tkT,tk0,tkS]
 refine tK 3 hd0 ?_
 try simp only [Act.put,tkT,tk0,tkS]
 refine clH 4 (by kernel_rfl) (by simp only [tkA,tkG];rfl) (fun K hK=>?_)
 go_simp
 refine (C0.out _).mono ?_
 rintro e w1 ⟨rfl,hb1⟩
 have hd1:=hd0.step hb1
 go_wp2_with fail
 refine hK.out _ _ hd1 (fun _=>?_)
 clear hK K
 refine tK 5 hd1 ?_
 try simp only [Act.put,tkT,tk0,tkS]
 refine tK 6 hd1 ?_
 try simp only [Act.put,tkT,tk0,tkS]
 refine tK 7 hd1 ?_
 try simp only [Act.put,tkT,tk0,tkS]
 refine tK 8 hd1 ?_
 try simp only [Act.put,tkT,tk0,tkS]
 refine tK 9 hd1 ?_
 try simp only [Act.put,tkT,tk0,tkS]
 refine tK 10 hd1 ?_
 try simp only [Act.put,tkT,tk0,tkS]
 refine wpAnyH_done (by kernel_rfl) ?_ _
 go_wp2_with fail
 go_ret
 exact ⟨rfl,hd1.below⟩
theorem zn5 (x:CfgC) (w:World) (h:TableP.headOk x.plain) :
 Calls Tryz.prog 43 #[x.value] w (IntPost (SndP.driftT x.plain) w):=by
 have C0:=Lib.hid (fun W=>zy1 x W h)
 have hn:=SndP.nums_in h
 obtain ⟨hn1,hn2,hn3,hn4,hn5,hn6,hn7,hn8,hs,hd⟩:=hn
 clear h
 obtain ⟨nodes,faulty,slot,gap,rho,dmin,dmax,margin,PA,pn,pcap,parts,QA,qn,qcap,ports,RA,rn,rcap,routes⟩:=x
 have hd0:=(BoxS.start w ⟨nodes,faulty,slot,gap,rho,dmin,dmax,margin,PA,pn,pcap,parts,QA,qn,qcap,ports,RA,rn,rcap,routes⟩).drew
 obtain ⟨d0,d1,d2,d3,d4,d5,d6,d7,d8,d9,d10⟩:=cfgFacts (fun W (hW:BoxS w ⟨nodes,faulty,slot,gap,rho,dmin,dmax,margin,PA,pn,pcap,parts,QA,qn,qcap,ports,RA,rn,rcap,routes⟩ W)=>hW.cells)
 simp only [CfgC.plain] at hn1 hn2 hn3 hn4 hn5 hn6 hn7 hn8 hs hd
 simp only [CfgC.value,CfgC.plain,SndP.driftT,SndP.roundT] at C0 ⊢
 simp only at d0 d1 d2 d3 d4 d5 d6 d7 d8 d9 d10
 have q0:=zN5 (2 * rho * (nodes * slot + gap) + 999999) 1000000 (by omega)
 have e0:IntKind.i64.wrap (2 * rho)=2 * rho:=IntWalk.i64_in _ (by omega)
 have e1:IntKind.i64.wrap (2 * rho * (nodes * slot + gap))=2 * rho * (nodes * slot + gap):=IntWalk.i64_in _ (by omega)
 have e2:IntKind.i64.wrap (2 * rho * (nodes * slot + gap) + 999999)=2 * rho * (nodes * slot + gap) + 999999:=IntWalk.i64_in _ (by omega)
 have e3:IntKind.i64.wrap ((2 * rho * (nodes * slot + gap) + 999999) / 1000000)=(2 * rho * (nodes * slot + gap) + 999999) / 1000000:=IntWalk.i64_in _ (by omega)
 have e4:IntKind.i64.wrap ((2 * rho * (nodes * slot + gap) + 999999) / 1000000 + 2)=(2 * rho * (nodes * slot + gap) + 999999) / 1000000 + 2:=IntWalk.i64_in _ (by omega)
 clear hn1 hn2 hn3 hn4 hn5 hn6 hn7 hn8 hs hd
 go_enter Tryz.func43,Tryz.ntmps43
 go_wp2_with fail
 refine wp_region_held_drew (S:=fun W=>BoxS w ⟨nodes,faulty,slot,gap,rho,dmin,dmax,margin,PA,pn,pcap,parts,QA,qn,qcap,ports,RA,rn,rcap,routes⟩ W) (by kernel_rfl) hd0 (fun _=>?_)
 refine tK 0 hd0 ?_
 try simp only [Act.put,tkT,tk0,tkS]
 refine tK 1 hd0 ?_
 try simp only [Act.put,tkT,tk0,tkS]
 refine tK 2 hd0 ?_
 try simp only [Act.put,tkT,tk0,tkS]
 refine tK 3 hd0 ?_
 try simp only [Act.put,tkT,tk0,tkS]
 refine clH 4 (by kernel_rfl) (by simp only [tkA,tkG];rfl) (fun K hK=>?_)
 go_simp
 refine (C0.out _).mono ?_
 rintro e w1 ⟨rfl,hb1⟩
 have hd1:=hd0.step hb1
 go_wp2_with fail
 refine hK.out _ _ hd1 (fun _=>?_)
 clear hK K
 refine tK 5 hd1 ?_
 try simp only [Act.put,tkT,tk0,tkS]
 refine tK 6 hd1 ?_
 try simp only [Act.put,tkT,tk0,tkS]
 refine tK 7 hd1 ?_
 try simp only [Act.put,tkT,tk0,tkS]
 refine tK 8 hd1 ?_
 try simp only [Act.put,tkT,tk0,tkS]
 refine tK 9 hd1 ?_
 try simp only [Act.put,tkT,tk0,tkS]
 refine wpAnyH_done (by kernel_rfl) ?_ _
 go_wp2_with fail
 go_ret
 exact ⟨rfl,hd1.below⟩
theorem prec_any (x:CfgC) (w:World) (h:TableP.headOk x.plain) :
 Calls Tryz.prog 61 #[x.value] w (IntPost (SndP.precT x.plain) w):=by
 have C0:=Lib.hid (fun W=>zs2 x W h)
 have C1:=Lib.hid (fun W=>zy2 x W h)
 have hn:=SndP.nums_in h
 obtain ⟨hn1,hn2,hn3,hn4,hn5,hn6,hn7,hn8,hs,hd⟩:=hn
 clear h
 obtain ⟨nodes,faulty,slot,gap,rho,dmin,dmax,margin,PA,pn,pcap,parts,QA,qn,qcap,ports,RA,rn,rcap,routes⟩:=x
 have hd0:=(BoxS.start w ⟨nodes,faulty,slot,gap,rho,dmin,dmax,margin,PA,pn,pcap,parts,QA,qn,qcap,ports,RA,rn,rcap,routes⟩).drew
 obtain ⟨d0,d1,d2,d3,d4,d5,d6,d7,d8,d9,d10⟩:=cfgFacts (fun W (hW:BoxS w ⟨nodes,faulty,slot,gap,rho,dmin,dmax,margin,PA,pn,pcap,parts,QA,qn,qcap,ports,RA,rn,rcap,routes⟩ W)=>hW.cells)
 simp only [CfgC.plain] at hn1 hn2 hn3 hn4 hn5 hn6 hn7 hn8 hs hd
 simp only [CfgC.value,CfgC.plain,SndP.precT,SndP.driftT,SndP.spreadT] at C0 C1 ⊢
 simp only at d0 d1 d2 d3 d4 d5 d6 d7 d8 d9 d10
 have e0:IntKind.i64.wrap (4 * (dmax - dmin))=4 * (dmax - dmin):=IntWalk.i64_in _ (by omega)
 have e1:IntKind.i64.wrap (16 * ((2 * rho * (nodes * slot + gap) + 999999) / 1000000 + 2))=16 * ((2 * rho * (nodes * slot + gap) + 999999) / 1000000 + 2):=IntWalk.i64_in _ (by omega)
 have e2:IntKind.i64.wrap (4 * (dmax - dmin) + 16 * ((2 * rho * (nodes * slot + gap) + 999999) / 1000000 + 2))=4 * (dmax - dmin) + 16 * ((2 * rho * (nodes * slot + gap) + 999999) / 1000000 + 2):=IntWalk.i64_in _ (by omega)
 have e3:IntKind.i64.wrap (4 * (dmax - dmin) + 16 * ((2 * rho * (nodes * slot + gap) + 999999) / 1000000 + 2) + 64)=4 * (dmax - dmin) + 16 * ((2 * rho * (nodes * slot + gap) + 999999) / 1000000 + 2) + 64:=IntWalk.i64_in _ (by omega)
 clear hn1 hn2 hn3 hn4 hn5 hn6 hn7 hn8 hs hd
 go_enter Tryz.func61,Tryz.ntmps61
 go_wp2_with fail
 refine wp_region_held_drew (S:=fun W=>BoxS w ⟨nodes,faulty,slot,gap,rho,dmin,dmax,margin,PA,pn,pcap,parts,QA,qn,qcap,ports,RA,rn,rcap,routes⟩ W) (by kernel_rfl) hd0 (fun _=>?_)
 refine tK 0 hd0 ?_
 try simp only [Act.put,tkT,tk0,tkS]
 refine tK 3 hd0 ?_
 try simp only [Act.put,tkT,tk0,tkS]
 refine clH 1 (by kernel_rfl) (by simp only [tkA,tkG];rfl) (fun K hK=>?_)
 go_simp
 refine (C0.out _).mono ?_
 rintro e w1 ⟨rfl,hb1⟩
 have hd1:=hd0.step hb1
 go_wp2_with fail
 refine hK.out _ _ hd1 (fun _=>?_)
 clear hK K
 refine tK 2 hd1 ?_
 try simp only [Act.put,tkT,tk0,tkS]
 refine clH 4 (by kernel_rfl) (by simp only [tkA,tkG];rfl) (fun K hK=>?_)
 go_simp
 refine (C1.out _).mono ?_
 rintro e w2 ⟨rfl,hb2⟩
 have hd2:=hd1.step hb2
 go_wp2_with fail
 refine hK.out _ _ hd2 (fun _=>?_)
 clear hK K
 refine tK 5 hd2 ?_
 try simp only [Act.put,tkT,tk0,tkS]
 refine tK 6 hd2 ?_
 try simp only [Act.put,tkT,tk0,tkS]
 refine tK 7 hd2 ?_
 try simp only [Act.put,tkT,tk0,tkS]
 refine tK 8 hd2 ?_
 try simp only [Act.put,tkT,tk0,tkS]
 refine wpAnyH_done (by kernel_rfl) ?_ _
 go_wp2_with fail
 go_ret
 exact ⟨rfl,hd2.below⟩
theorem zB2 (x:CfgC) (w:World) (h:TableP.headOk x.plain) :
 Calls Tryz.prog 42 #[x.value] w (IntPost (SndP.precT x.plain) w):=by
 have C0:=Lib.hid (fun W=>zn5 x W h)
 have hn:=SndP.nums_in h
 obtain ⟨hn1,hn2,hn3,hn4,hn5,hn6,hn7,hn8,hs,hd⟩:=hn
 clear h
 obtain ⟨nodes,faulty,slot,gap,rho,dmin,dmax,margin,PA,pn,pcap,parts,QA,qn,qcap,ports,RA,rn,rcap,routes⟩:=x
 have hd0:=(BoxS.start w ⟨nodes,faulty,slot,gap,rho,dmin,dmax,margin,PA,pn,pcap,parts,QA,qn,qcap,ports,RA,rn,rcap,routes⟩).drew
 obtain ⟨d0,d1,d2,d3,d4,d5,d6,d7,d8,d9,d10⟩:=cfgFacts (fun W (hW:BoxS w ⟨nodes,faulty,slot,gap,rho,dmin,dmax,margin,PA,pn,pcap,parts,QA,qn,qcap,ports,RA,rn,rcap,routes⟩ W)=>hW.cells)
 simp only [CfgC.plain] at hn1 hn2 hn3 hn4 hn5 hn6 hn7 hn8 hs hd
 simp only [CfgC.value,CfgC.plain,SndP.precT,SndP.driftT] at C0 ⊢
 simp only at d0 d1 d2 d3 d4 d5 d6 d7 d8 d9 d10
 have e0:IntKind.i64.wrap (dmax - dmin)=dmax - dmin:=IntWalk.i64_in _ (by omega)
 have e1:IntKind.i64.wrap (4 * (dmax - dmin))=4 * (dmax - dmin):=IntWalk.i64_in _ (by omega)
 have e2:IntKind.i64.wrap (16 * ((2 * rho * (nodes * slot + gap) + 999999) / 1000000 + 2))=16 * ((2 * rho * (nodes * slot + gap) + 999999) / 1000000 + 2):=IntWalk.i64_in _ (by omega)
 have e3:IntKind.i64.wrap (4 * (dmax - dmin) + 16 * ((2 * rho * (nodes * slot + gap) + 999999) / 1000000 + 2))=4 * (dmax - dmin) + 16 * ((2 * rho * (nodes * slot + gap) + 999999) / 1000000 + 2):=IntWalk.i64_in _ (by omega)
 have e4:IntKind.i64.wrap (4 * (dmax - dmin) + 16 * ((2 * rho * (nodes * slot + gap) + 999999) / 1000000 + 2) + 64)=4 * (dmax - dmin) + 16 * ((2 * rho * (nodes * slot + gap) + 999999) / 1000000 + 2) + 64:=IntWalk.i64_in _ (by omega)
 clear hn1 hn2 hn3 hn4 hn5 hn6 hn7 hn8 hs hd
 go_enter Tryz.func42,Tryz.ntmps42
 go_wp2_with fail
 refine wp_region_held_drew (S:=fun W=>BoxS w ⟨nodes,faulty,slot,gap,rho,dmin,dmax,margin,PA,pn,pcap,parts,QA,qn,qcap,ports,RA,rn,rcap,routes⟩ W) (by kernel_rfl) hd0 (fun _=>?_)
 refine tK 0 hd0 ?_
 try simp only [Act.put,tkT,tk0,tkS]
 refine tK 1 hd0 ?_
 try simp only [Act.put,tkT,tk0,tkS]
 refine tK 2 hd0 ?_
 try simp only [Act.put,tkT,tk0,tkS]
 refine tK 3 hd0 ?_
 try simp only [Act.put,tkT,tk0,tkS]
 refine tK 4 hd0 ?_
 try simp only [Act.put,tkT,tk0,tkS]
 refine tK 5 hd0 ?_
 try simp only [Act.put,tkT,tk0,tkS]
 refine tK 6 hd0 ?_
 try simp only [Act.put,tkT,tk0,tkS]
 refine clH 7 (by kernel_rfl) (by simp only [tkA,tkG];rfl) (fun K hK=>?_)
 go_simp
 refine (C0.out _).mono ?_
 rintro e w1 ⟨rfl,hb1⟩
 have hd1:=hd0.step hb1
 go_wp2_with fail
 refine hK.out _ _ hd1 (fun _=>?_)
 clear hK K
 refine tK 8 hd1 ?_
 try simp only [Act.put,tkT,tk0,tkS]
 refine tK 9 hd1 ?_
 try simp only [Act.put,tkT,tk0,tkS]
 refine tK 10 hd1 ?_
 try simp only [Act.put,tkT,tk0,tkS]
 refine tK 11 hd1 ?_
 try simp only [Act.put,tkT,tk0,tkS]
 refine wpAnyH_done (by kernel_rfl) ?_ _
 go_wp2_with fail
 go_ret
 exact ⟨rfl,hd1.below⟩
open Go.RowKit
set_option maxRecDepth 100000
def Win (p:TableP.Part):Prop:=0≤p.start∧p.start≤268435456∧1≤p.length∧p.length≤268435456
theorem win_of {n:Int} {p:TableP.Part} (h:TableP.partOk n p):Win p:=by
 obtain ⟨-,h1,h2,-⟩:=h
 unfold TableP.up at h1 h2
 exact ⟨h1.1,h1.2,h2.1,h2.2⟩
theorem zo2 {α:Type} {p:α→Bool} {l:List α} {k:Nat} {x:α} (h:l[k]? = some x):(l.take (k + 1)).any p=((l.take k).any p || p x):=by
 rw [List.take_add_one,h]
 simp
section
variable {P:Program}
theorem zl3 (W:World) (t e:TypeId) (sz:Nat) (ht:P.underlying t=some (.slice e)) (hz:∀ w,(Go.sizeOf e).run P w = .ok sz w) (A:Option Addr) (len cap:Nat) (h:Int) (h0:0≤h) (h2:h≤cap) :
 (Instr.slice t (.slice A len cap) none (some (.int .i64 h)) none).run P W = .ok (.slice A h.toNat cap) W:=by
 have ht':P.underlying t=some (.slice (P.elem t)):=by simp [Program.elem,ht]
 have he:P.elem t=e:=by simp [Program.elem,ht]
 rw [run_slice_h W t _ _ _ ht' .i64 _ h0 h2,he,hz]
 have ha:A.map (fun x:Addr=>x.add (0 * sz))=A:=by cases A<;>simp [Addr.add]
 simp only [Result.andThen,sliced,Nat.sub_zero]
 rw [ha]
 split<;>rfl
end
set_option maxHeartbeats 1000000 in
theorem meet_any (a b:TableP.Part) (ha:Win a) (hb:Win b) (w:World) :
 Calls Tryz.prog 92 #[.agg (partVals a).toArray,.agg (partVals b).toArray] w (BoolPost (SndP.meetB a b) w):=by
 have HB:=Lib.hid (fun o1 o2=>((Below.refl w.heap.size w).alloc (Nat.le_refl _) o1).alloc (by simp) o2)
 obtain ⟨node,start,length,budget,words,r0,r1,r2,r3⟩:=a
 obtain ⟨node',start',length',budget',words',r0',r1',r2',r3'⟩:=b
 obtain ⟨ha1,ha2,ha3,ha4⟩:=ha
 obtain ⟨hb1,hb2,hb3,hb4⟩:=hb
 simp only at ha1 ha2 ha3 ha4 hb1 hb2 hb3 hb4
 simp only [partVals,SndP.meetB]
 have e0:IntKind.i64.wrap (start' + length')=start' + length':=IntWalk.i64_in _ (by omega)
 have e1:IntKind.i64.wrap (start + length)=start + length:=IntWalk.i64_in _ (by omega)
 clear ha1 ha2 ha3 ha4 hb1 hb2 hb3 hb4
 by_cases h1:start < start' + length'
 ·have q1:decide (start < start' + length')=true:=decide_eq_true h1
  rw [q1,Bool.true_and]
  clear h1
  go_enter Tryz.func92,Tryz.ntmps92
  go_wp2_with fail
  go_ret
  exact ⟨rfl,HB.out _ _⟩
 ·have q1:decide (start < start' + length')=false:=decide_eq_false h1
  rw [q1,Bool.false_and]
  clear h1
  go_enter Tryz.func92,Tryz.ntmps92
  go_wp2_with fail
  go_ret
  exact ⟨rfl,HB.out _ _⟩
set_option maxHeartbeats 1000000 in
theorem zN7 (p q:TableP.Part) (hp:Win p) (hq:Win q) (N:Nat) (w:World) (hN:w.heap[N]? = some (.cells (partVals p).toArray 66 (0,0))) :
 Calls Tryz.prog 91 #[.agg (partVals q).toArray,.pointer (some ⟨N,0,none⟩)] w (BoolPost (SndP.clash p q) w):=by
 have HB:=Lib.hid (fun o=>(Below.refl w.heap.size w).alloc (Nat.le_refl _) o)
 have HM:=Lib.hid (fun W=>meet_any q p hq hp W)
 have hlt:=lt_of_block hN
 obtain ⟨node,start,length,budget,words,r0,r1,r2,r3⟩:=p
 obtain ⟨node',start',length',budget',words',r0',r1',r2',r3'⟩:=q
 simp only [partVals] at HM hN ⊢
 have ka:=fun o=>(show (w.alloc o).heap[N]? = some (.cells #[.int .i64 node,.int .i64 start,.int .i64 length,.int .i64 budget,.int .i64 words,.int .u8 (r0:Nat),.int .u8 (r1:Nat),.int .u8 (r2:Nat),.int .u8 (r3:Nat)] 66 (0,0)) from (Below.heap_alloc _ _ _ hlt).trans hN)
 have k0:=fun o=>za0 (ka o) 0 rfl
 have k1:=fun o=>za0 (ka o) 1 rfl
 have k2:=fun o=>za0 (ka o) 2 rfl
 have k3:=fun o=>za0 (ka o) 3 rfl
 have k4:=fun o=>za0 (ka o) 4 rfl
 have k5:=fun o=>za0 (ka o) 5 rfl
 have k6:=fun o=>za0 (ka o) 6 rfl
 have k7:=fun o=>za0 (ka o) 7 rfl
 have k8:=fun o=>za0 (ka o) 8 rfl
 clear ka hN hlt
 clear hp hq
 by_cases h1:node'=node
 ·have q1:(node' == node)=true:=by rw [beq_iff_eq];exact h1
  have e1:SndP.clash ⟨node,start,length,budget,words,r0,r1,r2,r3⟩ ⟨node',start',length',budget',words',r0',r1',r2',r3'⟩=SndP.meetB ⟨node',start',length',budget',words',r0',r1',r2',r3'⟩ ⟨node,start,length,budget,words,r0,r1,r2,r3⟩:=by simp [SndP.clash,h1]
  rw [e1]
  clear h1 e1
  go_enter Tryz.func91,Tryz.ntmps91
  go_wp2_with fail
  refine (HM.out _).mono ?_
  rintro e w1 ⟨rfl,hb1⟩
  have HF:=Lib.hid ((HB.out _).trans (hb1.mono (by simp)))
  clear hb1
  go_wp2_with fail
  go_ret
  exact ⟨rfl,HF.out⟩
 ·have q1:(node' == node)=false:=by rw [beq_eq_false_iff_ne];exact h1
  have e1:SndP.clash ⟨node,start,length,budget,words,r0,r1,r2,r3⟩ ⟨node',start',length',budget',words',r0',r1',r2',r3'⟩=false:=by simp [SndP.clash,h1]
  rw [e1]
  clear h1 e1 HM
  go_enter Tryz.func91,Tryz.ntmps91
  go_wp2_with fail
  go_ret
  exact ⟨rfl,HB.out _⟩
theorem zH2 (p q:TableP.Route) (N:Nat) (w:World) (hN:w.heap[N]? = some (.cells (routeVals p).toArray 142 (0,0))) :
 Calls Tryz.prog 94 #[.agg (routeVals q).toArray,.pointer (some ⟨N,0,none⟩)] w (BoolPost (SndP.leads p q) w):=by
 have HB:=Lib.hid (fun o=>(Below.refl w.heap.size w).alloc (Nat.le_refl _) o)
 have hlt:=lt_of_block hN
 obtain ⟨src,dst⟩:=p
 obtain ⟨src',dst'⟩:=q
 simp only [routeVals,SndP.leads] at hN ⊢
 have ka:=fun o=>(show (w.alloc o).heap[N]? = some (.cells #[.int .i64 src,.int .i64 dst] 142 (0,0)) from (Below.heap_alloc _ _ _ hlt).trans hN)
 have k1:=fun o=>za0 (ka o) 1 rfl
 clear ka hN hlt
 have e1:decide (dst'=dst)=(dst' == dst):=by rw [Bool.eq_iff_iff];simp
 rw [e1]
 clear e1
 go_enter Tryz.func94,Tryz.ntmps94
 go_wp2_with fail
 go_ret
 exact ⟨rfl,HB.out _⟩
def IdxPost (b:Bool) (w:World) (e:Ending) (w':World):Prop:=∃ r:Int,e = .returned (.int .i64 r)∧decide (0≤r)=b∧Below w.heap.size w w'
def IdxRel {α:Type} (p:α→Bool) (l:List α) (n:Nat) (W:World) (i:Value) (wr:World):Prop:=∃ k,k≤n∧i = .int .i64 (k:Nat)∧(l.take k).any p=false∧Below W.heap.size W wr
set_option maxHeartbeats 1000000 in
theorem zH3 (p:TableP.Part) (l:List TableP.Part) (hp:Win p) (hw:∀ q∈l,Win q) (A:Option Addr) (n cap N:Nat) (w:World) (h:ItemsIn partVals 9 w A l) (hl:l.length=n) (hn:n≤12) (hN:w.heap[N]? = some (.cells (partVals p).toArray 66 (0,0))) :
 Calls Tryz.prog 116 #[.slice A n cap,.func (.func 91) #[] #[.pointer (some ⟨N,0,none⟩)]] w (IdxPost (l.any (SndP.clash p)) w):=by
 have HI:=Lib.hid h
 have hlt:=lt_of_block hN
 have HC:Hid (∀ W q,q∈l→Below w.heap.size w W→Calls Tryz.prog 91 #[.agg (partVals q).toArray,.pointer (some ⟨N,0,none⟩)] W (BoolPost ((SndP.clash p) q) W)):=Lib.hid fun W q hq hb=>zN7 p q hp (hw q hq) N W ((hb.block N hlt).trans hN)
 have HST:=Lib.hid (Below.refl w.heap.size w)
 clear h hlt hN
 generalize hpr:(SndP.clash p)=pr at *
 clear hpr
 go_enter Tryz.func116,Tryz.ntmps116
 go_wp2_with fail
 go_loopw [8] (IdxRel pr l n w) (fun i _=>(n + 1 - intOf i).toNat)
 case atStart=>exact ⟨0,Nat.zero_le _,rfl,rfl,HST.out⟩
 case round=>
  clear HST
  obtain ⟨k,hk,rfl,hnone,hb⟩:=hrel
  have Hb:=Lib.hid hb
  have Hno:=Lib.hid hnone
  clear hb hnone
  by_cases hlt:k < n
  ·obtain ⟨y,hmk⟩:∃ y,l[k]? = some y:=⟨_,List.getElem?_eq_getElem (by omega)⟩
   obtain ⟨b,off,e,hbl,c0,c1,c2,c3,c4,c5,c6,c7,c8⟩:=zf0 (HI.out.below Hb.out) hmk
   have HP:=Lib.hid (HC.out wr y (List.mem_of_getElem? hmk) Hb.out)
   have Hta:=Lib.hid (zo2 (p:=pr) hmk)
   have Hmem:=Lib.hid (List.mem_of_getElem? hmk)
   clear hmk
   subst e
   by_cases hy:pr y=true
   case pos=>
    have HF:Hid (∀ W,Below wr.heap.size wr W→IdxPost (l.any pr) w (.returned (.int .i64 (k:Nat))) W):=Lib.hid fun W hW=>⟨k,rfl,by rw [List.any_eq_true.2 ⟨y,Hmem.out,hy⟩];simp,Hb.out.trans (hW.mono Hb.out.size)⟩
    rw [hy] at HP
    clear hy Hta Hmem
    obtain ⟨node,start,length,budget,words,r0,r1,r2,r3⟩:=y
    simp only at c0 c1 c2 c3 c4 c5 c6 c7 c8
    simp only [partVals] at HP
    go_wp2_with fail
    refine HP.out.mono ?_
    rintro e w1 ⟨rfl,hb1⟩
    have HF2:=Lib.hid (HF.out _ hb1)
    clear hb1
    go_wp2_with fail
    go_ret
    exact HF2.out
   have hy2:pr y=false:=by simpa using hy
   have HR:Hid (∀ W,Below wr.heap.size wr W→IdxRel pr l n w (.int .i64 ((k:Int) + 1)) W):=Lib.hid fun W hW=>by
    refine ⟨k + 1,by omega,by go_num,?_,Hb.out.trans (hW.mono Hb.out.size)⟩
    rw [Hta.out,Hno.out,hy2];rfl
   rw [hy2] at HP
   clear hy hy2 Hta Hmem
   obtain ⟨node,start,length,budget,words,r0,r1,r2,r3⟩:=y
   simp only at c0 c1 c2 c3 c4 c5 c6 c7 c8
   simp only [partVals] at HP
   go_wp2_with fail
   refine HP.out.mono ?_
   rintro e w1 ⟨rfl,hb1⟩
   have HR2:=Lib.hid (HR.out _ hb1)
   clear hb1
   go_wp2_with fail
   go_roundw
   case rel=>exact HR2.out
   case measure=>simp [intOf];omega
  have hkn:n=k:=by omega
  have HF:Hid (IdxPost (l.any pr) w (.returned (.int .i64 (-1))) wr):=Lib.hid ⟨-1,rfl,by
   have h0:=Hno.out
   rw [List.take_of_length_le (by omega)] at h0
   rw [h0];rfl,Hb.out⟩
  subst hkn
  go_wp2_with fail
  go_ret
  exact HF.out
theorem zu1 (p:TableP.Part) (l:List TableP.Part) (hp:Win p) (hw:∀ q∈l,Win q) (A:Option Addr) (n cap N:Nat) (w:World) (h:ItemsIn partVals 9 w A l) (hl:l.length=n) (hn:n≤12) (hN:w.heap[N]? = some (.cells (partVals p).toArray 66 (0,0))) :
 Calls Tryz.prog 90 #[.slice A n cap,.func (.func 91) #[] #[.pointer (some ⟨N,0,none⟩)]] w (BoolPost (l.any (SndP.clash p)) w):=by
 have HC:=Lib.hid (zH3 p l hp hw A n cap N w h hl hn hN)
 clear h hN
 generalize l.any (SndP.clash p)=bb at *
 go_enter Tryz.func90,Tryz.ntmps90
 go_wp2_with fail
 refine HC.out.mono ?_
 rintro e w1 ⟨r,rfl,rfl,hb1⟩
 have Hb:=Lib.hid hb1
 clear hb1
 go_wp2_with fail
 go_ret
 exact ⟨rfl,Hb.out⟩
set_option maxHeartbeats 1000000 in
theorem zH4 (p:TableP.Route) (l:List TableP.Route) (A:Option Addr) (n cap N:Nat) (w:World) (h:ItemsIn routeVals 2 w A l) (hl:l.length=n) (hn:n≤24) (hN:w.heap[N]? = some (.cells (routeVals p).toArray 142 (0,0))) :
 Calls Tryz.prog 117 #[.slice A n cap,.func (.func 94) #[] #[.pointer (some ⟨N,0,none⟩)]] w (IdxPost (l.any (SndP.leads p)) w):=by
 have HI:=Lib.hid h
 have hlt:=lt_of_block hN
 have HC:Hid (∀ W q,q∈l→Below w.heap.size w W→Calls Tryz.prog 94 #[.agg (routeVals q).toArray,.pointer (some ⟨N,0,none⟩)] W (BoolPost ((SndP.leads p) q) W)):=Lib.hid fun W q hq hb=>zH2 p q N W ((hb.block N hlt).trans hN)
 have HST:=Lib.hid (Below.refl w.heap.size w)
 clear h hlt hN
 generalize hpr:(SndP.leads p)=pr at *
 clear hpr
 go_enter Tryz.func117,Tryz.ntmps117
 go_wp2_with fail
 go_loopw [8] (IdxRel pr l n w) (fun i _=>(n + 1 - intOf i).toNat)
 case atStart=>exact ⟨0,Nat.zero_le _,rfl,rfl,HST.out⟩
 case round=>
  clear HST
  obtain ⟨k,hk,rfl,hnone,hb⟩:=hrel
  have Hb:=Lib.hid hb
  have Hno:=Lib.hid hnone
  clear hb hnone
  by_cases hlt:k < n
  ·obtain ⟨y,hmk⟩:∃ y,l[k]? = some y:=⟨_,List.getElem?_eq_getElem (by omega)⟩
   obtain ⟨b,off,e,hbl,c0,c1⟩:=zg7 (HI.out.below Hb.out) hmk
   have HP:=Lib.hid (HC.out wr y (List.mem_of_getElem? hmk) Hb.out)
   have Hta:=Lib.hid (zo2 (p:=pr) hmk)
   have Hmem:=Lib.hid (List.mem_of_getElem? hmk)
   clear hmk
   subst e
   by_cases hy:pr y=true
   case pos=>
    have HF:Hid (∀ W,Below wr.heap.size wr W→IdxPost (l.any pr) w (.returned (.int .i64 (k:Nat))) W):=Lib.hid fun W hW=>⟨k,rfl,by rw [List.any_eq_true.2 ⟨y,Hmem.out,hy⟩];simp,Hb.out.trans (hW.mono Hb.out.size)⟩
    rw [hy] at HP
    clear hy Hta Hmem
    obtain ⟨src,dst⟩:=y
    simp only at c0 c1
    simp only [routeVals] at HP
    go_wp2_with fail
    refine HP.out.mono ?_
    rintro e w1 ⟨rfl,hb1⟩
    have HF2:=Lib.hid (HF.out _ hb1)
    clear hb1
    go_wp2_with fail
    go_ret
    exact HF2.out
   have hy2:pr y=false:=by simpa using hy
   have HR:Hid (∀ W,Below wr.heap.size wr W→IdxRel pr l n w (.int .i64 ((k:Int) + 1)) W):=Lib.hid fun W hW=>by
    refine ⟨k + 1,by omega,by go_num,?_,Hb.out.trans (hW.mono Hb.out.size)⟩
    rw [Hta.out,Hno.out,hy2];rfl
   rw [hy2] at HP
   clear hy hy2 Hta Hmem
   obtain ⟨src,dst⟩:=y
   simp only at c0 c1
   simp only [routeVals] at HP
   go_wp2_with fail
   refine HP.out.mono ?_
   rintro e w1 ⟨rfl,hb1⟩
   have HR2:=Lib.hid (HR.out _ hb1)
   clear hb1
   go_wp2_with fail
   go_roundw
   case rel=>exact HR2.out
   case measure=>simp [intOf];omega
  have hkn:n=k:=by omega
  have HF:Hid (IdxPost (l.any pr) w (.returned (.int .i64 (-1))) wr):=Lib.hid ⟨-1,rfl,by
   have h0:=Hno.out
   rw [List.take_of_length_le (by omega)] at h0
   rw [h0];rfl,Hb.out⟩
  subst hkn
  go_wp2_with fail
  go_ret
  exact HF.out
theorem zu2 (p:TableP.Route) (l:List TableP.Route) (A:Option Addr) (n cap N:Nat) (w:World) (h:ItemsIn routeVals 2 w A l) (hl:l.length=n) (hn:n≤24) (hN:w.heap[N]? = some (.cells (routeVals p).toArray 142 (0,0))) :
 Calls Tryz.prog 93 #[.slice A n cap,.func (.func 94) #[] #[.pointer (some ⟨N,0,none⟩)]] w (BoolPost (l.any (SndP.leads p)) w):=by
 have HC:=Lib.hid (zH4 p l A n cap N w h hl hn hN)
 clear h hN
 generalize l.any (SndP.leads p)=bb at *
 go_enter Tryz.func93,Tryz.ntmps93
 go_wp2_with fail
 refine HC.out.mono ?_
 rintro e w1 ⟨r,rfl,rfl,hb1⟩
 have Hb:=Lib.hid hb1
 clear hb1
 go_wp2_with fail
 go_ret
 exact ⟨rfl,Hb.out⟩
open Go.RowKit
set_option maxRecDepth 100000
theorem ItemsIn.take {α:Type} {vals:α→List Value} {size:Nat} {W:World} {A:Option Addr} {l:List α} (h:ItemsIn vals size W A l) (k:Nat):ItemsIn vals size W A (l.take k):=fun hl=>by
 have h0:0 < l.length:=by rw [List.length_take] at hl;omega
 obtain ⟨b,off,e,hb,hi⟩:=h h0
 refine ⟨b,off,e,hb,fun i x hx=>?_⟩
 rw [List.getElem?_take] at hx
 by_cases hik:i < k
 ·rw [if_pos hik] at hx;exact hi i x hx
 ·rw [if_neg hik] at hx;cases hx
def Box2 (w:World) (x:CfgC) (cs:Array Value) (t:TypeId) (W:World):Prop:=Below ((boxC w x).alloc (.cells cs t)).heap.size ((boxC w x).alloc (.cells cs t)) W
theorem Box2.start (w:World) (x:CfgC) (cs:Array Value) (t:TypeId):Box2 w x cs t ((boxC w x).alloc (.cells cs t)):=Below.refl _ _
theorem Box2.drew {w:World} {x:CfgC} {cs:Array Value} {t:TypeId} {W:World} (h:Box2 w x cs t W):Box2 w x cs t W.drew:=Below.drew h
theorem Box2.step {w:World} {x:CfgC} {cs:Array Value} {t:TypeId} {W W':World} (h:Box2 w x cs t W) (hb:Below W.heap.size W W'):Box2 w x cs t W':=h.trans (hb.mono h.size)
theorem Box2.alloc1 {w:World} {x:CfgC} {cs:Array Value} {t:TypeId} {W:World} (h:Box2 w x cs t W) (o:Obj):Box2 w x cs t (W.alloc o).drew:=Below.drew (Below.alloc h h.size o)
theorem Box2.alloc2 {w:World} {x:CfgC} {cs:Array Value} {t:TypeId} {W:World} (h:Box2 w x cs t W) (o p:Obj):Box2 w x cs t ((W.alloc o).alloc p).drew:=Below.drew ((h.alloc h.size o).alloc (Below.alloc h h.size o).size p)
theorem Box2.one {w:World} {x:CfgC} {cs:Array Value} {t:TypeId} {W:World} (h:Box2 w x cs t W):BoxS w x W:=
 ((Below.refl _ _).alloc (Nat.le_refl _) _).trans (h.mono (show (boxC w x).heap.size≤((boxC w x).alloc (.cells cs t)).heap.size from by rw [show ((boxC w x).alloc (.cells cs t)).heap.size=(boxC w x).heap.size + 1 from Array.size_push _];omega))
theorem Box2.below {w:World} {x:CfgC} {cs:Array Value} {t:TypeId} {W:World} (h:Box2 w x cs t W):Below w.heap.size w W:=h.one.below
theorem Box2.two {w:World} {x:CfgC} {cs:Array Value} {t:TypeId} {W:World} (h:Box2 w x cs t W):W.heap[w.heap.size + 1]? = some (.cells cs t (0,0)):=by
 have h0:=heap_alloc_new (boxC w x) (.cells cs t (0,0))
 rw [zb7] at h0
 exact (h.block _ (by rw [show ((boxC w x).alloc (.cells cs t)).heap.size=(boxC w x).heap.size + 1 from Array.size_push _,zb7];omega)).trans h0
def TwoPorts (w:World) (x:CfgC) (cs:Array Value) (t:TypeId) (pa pb:Array Value) (v6 v7:Value) (W:World):Prop:=
 ∃ F T,v6 = .pointer (some ⟨F,0,none⟩)∧v7 = .pointer (some ⟨T,0,none⟩)∧Box2 w x cs t W∧W.heap[F]? = some (.cells pa 127 (0,0))∧W.heap[T]? = some (.cells pb 127 (0,0))
theorem twoPorts (w:World) (x:CfgC) (cs:Array Value) (t:TypeId) (p q:Array Value) :
 Box2 w x cs t (((((boxC w x).alloc (.cells cs t)).alloc (.cells p 127)).alloc (.cells q 127)).drew) ∧
 (((((boxC w x).alloc (.cells cs t)).alloc (.cells p 127)).alloc (.cells q 127)).drew).heap[w.heap.size + 1 + 1]? = some (.cells p 127 (0,0)) ∧
 (((((boxC w x).alloc (.cells cs t)).alloc (.cells p 127)).alloc (.cells q 127)).drew).heap[w.heap.size + 1 + 1 + 1]? = some (.cells q 127 (0,0)):=by
 have h0:((boxC w x).alloc (.cells cs t)).heap.size=w.heap.size + 1 + 1:=(Array.size_push _).trans (by rw [zb7])
 have h1:(((boxC w x).alloc (.cells cs t)).alloc (.cells p 127)).heap.size=w.heap.size + 1 + 1 + 1:=(Array.size_push _).trans (by rw [h0])
 refine ⟨((((Below.refl _ _).alloc (Nat.le_refl _) _).alloc (by rw [h1,h0];omega) _)).drew,?_,?_⟩
 ·have h2:=heap_alloc_new ((boxC w x).alloc (.cells cs t)) (.cells p 127 (0,0))
  rw [h0] at h2
  exact (Below.heap_alloc _ (.cells q 127) _ (by rw [h1];omega)).trans h2
 ·have h2:=heap_alloc_new (((boxC w x).alloc (.cells cs t)).alloc (.cells p 127)) (.cells q 127 (0,0))
  rw [h1] at h2
  exact h2
set_option maxHeartbeats 2000000 in
theorem fits_any (x:CfgC) (w:World) (h:CfgIn w x) (ha:SndP.Allowed x.plain) (k:Nat) (p:TableP.Part) (hk:x.parts[k]? = some p) :
 Calls Tryz.prog 65 #[x.value,.int .i64 (k:Nat)] w (BoolPost (SndP.fitB x.plain k p) w):=by
 have hlt:k < x.pn:=by have:=(List.getElem?_eq_some_iff.1 hk).1;have:=h.plen;omega
 have hp12:x.pn≤12:=by have h1:x.parts.length≤12:=ha.parts;have:=h.plen;omega
 have C0:=Lib.hid (fun W=>zy0 x W ha.head)
 have HW:∀ q∈x.parts,Win q:=fun q hq=>win_of (ha.part q hq)
 have hwp:=HW p (List.mem_of_getElem? hk)
 have CC:=Lib.hid (fun W (hW:Below w.heap.size w W) N hN=>zu1 p (x.parts.take k) hwp (fun q hq=>HW q (List.mem_of_mem_take hq)) x.PA k x.pcap N W ((h.parts.below hW).take k) (by rw [List.length_take];have:=h.plen;omega) (by omega) hN)
 obtain ⟨b,off,e,hbl,c0,c1,c2,c3,c4,c5,c6,c7,c8⟩:=zf0 (h.parts.below (zb1 w x)) hk
 have hpc:=h.pcap_
 have hs:=(SndP.nums_in ha.head).slots
 clear h ha HW hk
 obtain ⟨nodes,faulty,slot,gap,rho,dmin,dmax,margin,PA,pn,pcap,parts,QA,qn,qcap,ports,RA,rn,rcap,routes⟩:=x
 simp only [boxC,cfgCells] at c0 c1 c2 c3 c4 c5 c6 c7 c8 e hbl
 simp only [CfgC.value,CfgC.plain,SndP.slotsT] at C0 CC hs hlt hp12 hpc ⊢
 subst e
 obtain ⟨node,start,length,budget,words,r0,r1,r2,r3⟩:=p
 obtain ⟨hw1,hw2,hw3,hw4⟩:=hwp
 simp only at c0 c1 c2 c3 c4 c5 c6 c7 c8 hw1 hw2 hw3 hw4
 have hd0:=(Box2.start w ⟨nodes,faulty,slot,gap,rho,dmin,dmax,margin,some ⟨b,off,none⟩,pn,pcap,parts,QA,qn,qcap,ports,RA,rn,rcap,routes⟩ #[.int .i64 node,.int .i64 start,.int .i64 length,.int .i64 budget,.int .i64 words,.int .u8 (r0:Nat),.int .u8 (r1:Nat),.int .u8 (r2:Nat),.int .u8 (r3:Nat)] 66).drew
 obtain ⟨d0,d1,d2,d3,d4,d5,d6,d7,d8,d9,d10⟩:=cfgFacts (fun W (hW:Box2 w ⟨nodes,faulty,slot,gap,rho,dmin,dmax,margin,some ⟨b,off,none⟩,pn,pcap,parts,QA,qn,qcap,ports,RA,rn,rcap,routes⟩ #[.int .i64 node,.int .i64 start,.int .i64 length,.int .i64 budget,.int .i64 words,.int .u8 (r0:Nat),.int .u8 (r1:Nat),.int .u8 (r2:Nat),.int .u8 (r3:Nat)] 66 W)=>(BoxS.cells (Box2.one hW)))
 have g1:=fun W (hW:Box2 w ⟨nodes,faulty,slot,gap,rho,dmin,dmax,margin,some ⟨b,off,none⟩,pn,pcap,parts,QA,qn,qcap,ports,RA,rn,rcap,routes⟩ #[.int .i64 node,.int .i64 start,.int .i64 length,.int .i64 budget,.int .i64 words,.int .u8 (r0:Nat),.int .u8 (r1:Nat),.int .u8 (r2:Nat),.int .u8 (r3:Nat)] 66 W)=>za0 (Box2.two hW) 1 rfl
 have g2:=fun W (hW:Box2 w ⟨nodes,faulty,slot,gap,rho,dmin,dmax,margin,some ⟨b,off,none⟩,pn,pcap,parts,QA,qn,qcap,ports,RA,rn,rcap,routes⟩ #[.int .i64 node,.int .i64 start,.int .i64 length,.int .i64 budget,.int .i64 words,.int .u8 (r0:Nat),.int .u8 (r1:Nat),.int .u8 (r2:Nat),.int .u8 (r3:Nat)] 66 W)=>za0 (Box2.two hW) 2 rfl
 simp only at d0 d1 d2 d3 d4 d5 d6 d7 d8 d9 d10
 have e0:IntKind.i64.wrap (start + length)=start + length:=IntWalk.i64_in _ (by omega)
 have hsl:=fun W=>zl3 (P:=Tryz.prog) W 22 66 9 Tryz.underlying22 (fun w=>by kernel_rfl) (some ⟨b,off,none⟩) pn pcap (k:Int) (by omega) (by omega)
 simp only [Int.toNat_natCast] at hsl
 have hfit:SndP.fitB ⟨nodes,faulty,slot,gap,rho,dmin,dmax,margin,parts,ports,routes⟩ k ⟨node,start,length,budget,words,r0,r1,r2,r3⟩=(decide (start + length≤nodes * slot) && !(parts.take k).any (SndP.clash ⟨node,start,length,budget,words,r0,r1,r2,r3⟩)):=rfl
 rw [hfit]
 clear hfit hw1 hw2 hw3 hw4 hs hbl
 generalize (parts.take k).any (SndP.clash ⟨node,start,length,budget,words,r0,r1,r2,r3⟩)=bb at *
 go_enter Tryz.func65,Tryz.ntmps65
 go_wp2_with fail
 clear c0 c1 c2 c3 c4 c5 c6 c7 c8
 refine wp_region_held_drew (S:=fun W=>Box2 w ⟨nodes,faulty,slot,gap,rho,dmin,dmax,margin,some ⟨b,off,none⟩,pn,pcap,parts,QA,qn,qcap,ports,RA,rn,rcap,routes⟩ #[.int .i64 node,.int .i64 start,.int .i64 length,.int .i64 budget,.int .i64 words,.int .u8 (r0:Nat),.int .u8 (r1:Nat),.int .u8 (r2:Nat),.int .u8 (r3:Nat)] 66 W) (by kernel_rfl) hd0 (fun _=>?_)
 refine tK 0 hd0 ?_
 try simp only [Act.put,tkT,tk0,tkS]
 refine tK 1 hd0 ?_
 try simp only [Act.put,tkT,tk0,tkS]
 refine tK 2 hd0 ?_
 try simp only [Act.put,tkT,tk0,tkS]
 refine tK 3 hd0 ?_
 try simp only [Act.put,tkT,tk0,tkS]
 refine tK 4 hd0 ?_
 try simp only [Act.put,tkT,tk0,tkS]
 refine tK 5 hd0 ?_
 try simp only [Act.put,tkT,tk0,tkS]
 refine clH 6 (by kernel_rfl) (by simp only [tkA,tkG];rfl) (fun K hK=>?_)
 go_simp
 refine (C0.out _).mono ?_
 rintro e w1 ⟨rfl,hb1⟩
 have hd1:=hd0.step hb1
 go_wp2_with fail
 refine hK.out _ _ hd1 (fun _=>?_)
 clear hK K
 refine tK 7 hd1 ?_
 try simp only [Act.put,tkT,tk0,tkS]
 refine wpAnyH_done (by kernel_rfl) ?_ _
 have k8:=d8 _ hd1
 have CD:=Lib.hid (CC.out _ hd1.below _ (Box2.two hd1))
 have HB:=Lib.hid hd1.below
 clear hd1 hd0 hb1 CC C0
 go_wp2_with fail
 ·have hgt:nodes * slot < start + length:=by assumption
  have HF:Hid (BoolPost (decide (start + length≤nodes * slot) && !bb) w (.returned (.bool false)) w1):=Lib.hid ⟨by rw [decide_eq_false (by omega),Bool.false_and],HB.out⟩
  go_ret
  exact HF.out
 have hgt:start + length≤nodes * slot:=by assumption
 have HF:Hid (∀ W,Below w.heap.size w W→BoolPost (decide (start + length≤nodes * slot) && !bb) w (.returned (.bool (!bb))) W):=Lib.hid fun W hW=>⟨by rw [decide_eq_true hgt,Bool.true_and],hW⟩
 clear hgt
 refine CD.out.mono ?_
 rintro e w2 ⟨rfl,hb2⟩
 have HF2:=Lib.hid (HF.out _ (HB.out.trans (hb2.mono HB.out.size)))
 clear hb2
 go_wp2_with fail
 go_ret
 exact HF2.out
open Go.RowKit
set_option maxRecDepth 100000
set_option maxHeartbeats 4000000 in
theorem zN8 (x:CfgC) (w:World) (h:CfgIn w x) (ha:SndP.Allowed x.plain) (k:Nat) (r:TableP.Route) (hk:x.routes[k]? = some r) :
 Calls Tryz.prog 66 #[x.value,.int .i64 (k:Nat)] w (BoolPost (SndP.joinB x.plain k r) w):=by
 have hlt:k < x.rn:=by have:=(List.getElem?_eq_some_iff.1 hk).1;have:=h.rlen;omega
 have hr24:x.rn≤24:=by have h1:x.routes.length≤24:=ha.routes;have:=h.rlen;omega
 obtain ⟨hr1,hr2⟩:=ha.route r (List.mem_of_getElem? hk)
 have hql:=h.qlen
 have hq24:x.qn≤24:=by have h1:x.ports.length≤24:=ha.ports;omega
 unfold TableP.up at hr1 hr2
 obtain ⟨src,dst⟩:=r
 simp only [CfgC.plain] at hr1 hr2
 obtain ⟨s,rfl⟩:=Int.eq_ofNat_of_zero_le hr1.1
 obtain ⟨d,rfl⟩:=Int.eq_ofNat_of_zero_le hr2.1
 have hs:s < x.qn:=by omega
 have hd:d < x.qn:=by omega
 obtain ⟨pa,ea⟩:∃ y,x.ports[s]? = some y:=⟨_,List.getElem?_eq_getElem (by omega)⟩
 obtain ⟨pb,eb⟩:∃ y,x.ports[d]? = some y:=⟨_,List.getElem?_eq_getElem (by omega)⟩
 have CC:=Lib.hid (fun W (hW:Below w.heap.size w W) N hN=>zu2 ⟨(s:Int),(d:Int)⟩ (x.routes.take k) x.RA k x.rcap N W ((h.routes.below hW).take k) (by rw [List.length_take];have:=h.rlen;omega) (by omega) hN)
 have HJ:Hid (SndP.joinB x.plain k ⟨(s:Int),(d:Int)⟩=(pa.out && !pb.out && decide (pa.kind=pb.kind) && decide (pa.size≤pb.size) && !(x.routes.take k).any (SndP.leads ⟨(s:Int),(d:Int)⟩))):=Lib.hid (by
  simp only [SndP.joinB,CfgC.plain,Int.toNat_natCast,ea,eb])
 have PA_:=fun W (hW:Below w.heap.size w W)=>zh2 (h.ports.below hW) ea
 have PB_:=fun W (hW:Below w.heap.size w W)=>zh2 (h.ports.below hW) eb
 obtain ⟨bq,oq,eq,-,-⟩:=PA_ w (Below.refl _ _)
 obtain ⟨b,off,e,hbl,c0,c1⟩:=zg7 (h.routes.below (zb1 w x)) hk
 have hrc:=h.rcap_
 have hqc:=h.qcap_
 clear h ha hk hr1 hr2 ea eb hql
 generalize SndP.joinB x.plain k ⟨(s:Int),(d:Int)⟩=J at *
 obtain ⟨nodes,faulty,slot,gap,rho,dmin,dmax,margin,PA,pn,pcap,parts,QA,qn,qcap,ports,RA,rn,rcap,routes⟩:=x
 simp only [boxC,cfgCells] at c0 c1 e hbl
 simp only [CfgC.value] at CC PA_ PB_ HJ hs hd hlt hr24 hq24 hrc hqc eq ⊢
 subst e eq
 have PA2:∀ W,Box2 w ⟨nodes,faulty,slot,gap,rho,dmin,dmax,margin,PA,pn,pcap,parts,some ⟨bq,oq,none⟩,qn,qcap,ports,some ⟨b,off,none⟩,rn,rcap,routes⟩ #[.int .i64 (s:Nat),.int .i64 (d:Nat)] 142 W→PortAt W bq (oq + s * 6) pa:=fun W hW=>by
  obtain ⟨b',o',e1,-,h2⟩:=PA_ W (Box2.below hW)
  cases e1
  exact h2
 have PB2:∀ W,Box2 w ⟨nodes,faulty,slot,gap,rho,dmin,dmax,margin,PA,pn,pcap,parts,some ⟨bq,oq,none⟩,qn,qcap,ports,some ⟨b,off,none⟩,rn,rcap,routes⟩ #[.int .i64 (s:Nat),.int .i64 (d:Nat)] 142 W→PortAt W bq (oq + d * 6) pb:=fun W hW=>by
  obtain ⟨b',o',e1,-,h2⟩:=PB_ W (Box2.below hW)
  cases e1
  exact h2
 obtain ⟨part,kind,out,size,depth,fresh⟩:=pa
 obtain ⟨part',kind',out',size',depth',fresh'⟩:=pb
 simp only at HJ
 have hd0:=(Box2.start w ⟨nodes,faulty,slot,gap,rho,dmin,dmax,margin,PA,pn,pcap,parts,some ⟨bq,oq,none⟩,qn,qcap,ports,some ⟨b,off,none⟩,rn,rcap,routes⟩ #[.int .i64 (s:Nat),.int .i64 (d:Nat)] 142).drew
 obtain ⟨d0,d1,d2,d3,d4,d5,d6,d7,d8,d9,d10⟩:=cfgFacts (fun W (hW:Box2 w ⟨nodes,faulty,slot,gap,rho,dmin,dmax,margin,PA,pn,pcap,parts,some ⟨bq,oq,none⟩,qn,qcap,ports,some ⟨b,off,none⟩,rn,rcap,routes⟩ #[.int .i64 (s:Nat),.int .i64 (d:Nat)] 142 W)=>(BoxS.cells (Box2.one hW)))
 have g0:=fun W (hW:Box2 w ⟨nodes,faulty,slot,gap,rho,dmin,dmax,margin,PA,pn,pcap,parts,some ⟨bq,oq,none⟩,qn,qcap,ports,some ⟨b,off,none⟩,rn,rcap,routes⟩ #[.int .i64 (s:Nat),.int .i64 (d:Nat)] 142 W)=>za0 (Box2.two hW) 0 rfl
 have g1:=fun W (hW:Box2 w ⟨nodes,faulty,slot,gap,rho,dmin,dmax,margin,PA,pn,pcap,parts,some ⟨bq,oq,none⟩,qn,qcap,ports,some ⟨b,off,none⟩,rn,rcap,routes⟩ #[.int .i64 (s:Nat),.int .i64 (d:Nat)] 142 W)=>za0 (Box2.two hW) 1 rfl
 have u0:=fun W (hW:Box2 w ⟨nodes,faulty,slot,gap,rho,dmin,dmax,margin,PA,pn,pcap,parts,some ⟨bq,oq,none⟩,qn,qcap,ports,some ⟨b,off,none⟩,rn,rcap,routes⟩ #[.int .i64 (s:Nat),.int .i64 (d:Nat)] 142 W)=>(PA2 W hW).c0
 have v0:=fun W (hW:Box2 w ⟨nodes,faulty,slot,gap,rho,dmin,dmax,margin,PA,pn,pcap,parts,some ⟨bq,oq,none⟩,qn,qcap,ports,some ⟨b,off,none⟩,rn,rcap,routes⟩ #[.int .i64 (s:Nat),.int .i64 (d:Nat)] 142 W)=>(PB2 W hW).c0
 have u1:=fun W (hW:Box2 w ⟨nodes,faulty,slot,gap,rho,dmin,dmax,margin,PA,pn,pcap,parts,some ⟨bq,oq,none⟩,qn,qcap,ports,some ⟨b,off,none⟩,rn,rcap,routes⟩ #[.int .i64 (s:Nat),.int .i64 (d:Nat)] 142 W)=>(PA2 W hW).c1
 have v1:=fun W (hW:Box2 w ⟨nodes,faulty,slot,gap,rho,dmin,dmax,margin,PA,pn,pcap,parts,some ⟨bq,oq,none⟩,qn,qcap,ports,some ⟨b,off,none⟩,rn,rcap,routes⟩ #[.int .i64 (s:Nat),.int .i64 (d:Nat)] 142 W)=>(PB2 W hW).c1
 have u2:=fun W (hW:Box2 w ⟨nodes,faulty,slot,gap,rho,dmin,dmax,margin,PA,pn,pcap,parts,some ⟨bq,oq,none⟩,qn,qcap,ports,some ⟨b,off,none⟩,rn,rcap,routes⟩ #[.int .i64 (s:Nat),.int .i64 (d:Nat)] 142 W)=>(PA2 W hW).c2
 have v2:=fun W (hW:Box2 w ⟨nodes,faulty,slot,gap,rho,dmin,dmax,margin,PA,pn,pcap,parts,some ⟨bq,oq,none⟩,qn,qcap,ports,some ⟨b,off,none⟩,rn,rcap,routes⟩ #[.int .i64 (s:Nat),.int .i64 (d:Nat)] 142 W)=>(PB2 W hW).c2
 have u3:=fun W (hW:Box2 w ⟨nodes,faulty,slot,gap,rho,dmin,dmax,margin,PA,pn,pcap,parts,some ⟨bq,oq,none⟩,qn,qcap,ports,some ⟨b,off,none⟩,rn,rcap,routes⟩ #[.int .i64 (s:Nat),.int .i64 (d:Nat)] 142 W)=>(PA2 W hW).c3
 have v3:=fun W (hW:Box2 w ⟨nodes,faulty,slot,gap,rho,dmin,dmax,margin,PA,pn,pcap,parts,some ⟨bq,oq,none⟩,qn,qcap,ports,some ⟨b,off,none⟩,rn,rcap,routes⟩ #[.int .i64 (s:Nat),.int .i64 (d:Nat)] 142 W)=>(PB2 W hW).c3
 have u4:=fun W (hW:Box2 w ⟨nodes,faulty,slot,gap,rho,dmin,dmax,margin,PA,pn,pcap,parts,some ⟨bq,oq,none⟩,qn,qcap,ports,some ⟨b,off,none⟩,rn,rcap,routes⟩ #[.int .i64 (s:Nat),.int .i64 (d:Nat)] 142 W)=>(PA2 W hW).c4
 have v4:=fun W (hW:Box2 w ⟨nodes,faulty,slot,gap,rho,dmin,dmax,margin,PA,pn,pcap,parts,some ⟨bq,oq,none⟩,qn,qcap,ports,some ⟨b,off,none⟩,rn,rcap,routes⟩ #[.int .i64 (s:Nat),.int .i64 (d:Nat)] 142 W)=>(PB2 W hW).c4
 have u5:=fun W (hW:Box2 w ⟨nodes,faulty,slot,gap,rho,dmin,dmax,margin,PA,pn,pcap,parts,some ⟨bq,oq,none⟩,qn,qcap,ports,some ⟨b,off,none⟩,rn,rcap,routes⟩ #[.int .i64 (s:Nat),.int .i64 (d:Nat)] 142 W)=>(PA2 W hW).c5
 have v5:=fun W (hW:Box2 w ⟨nodes,faulty,slot,gap,rho,dmin,dmax,margin,PA,pn,pcap,parts,some ⟨bq,oq,none⟩,qn,qcap,ports,some ⟨b,off,none⟩,rn,rcap,routes⟩ #[.int .i64 (s:Nat),.int .i64 (d:Nat)] 142 W)=>(PB2 W hW).c5
 simp only at d0 d1 d2 d3 d4 d5 d6 d7 d8 d9 d10 u0 v0 u1 v1 u2 v2 u3 v3 u4 v4 u5 v5
 have hsl:=fun W=>zl3 (P:=Tryz.prog) W 24 142 2 Tryz.underlying24 (fun w=>by kernel_rfl) (some ⟨b,off,none⟩) rn rcap (k:Int) (by omega) (by omega)
 simp only [Int.toNat_natCast] at hsl
 generalize (routes.take k).any (SndP.leads ⟨(s:Int),(d:Int)⟩)=bb at *
 clear PA_ PB_ PA2 PB2 hbl
 go_enter Tryz.func66,Tryz.ntmps66
 go_upto_region 2 with (fail)
 clear c0 c1
 go_cut [6,7] (fun v6 v7 wx=>TwoPorts w ⟨nodes,faulty,slot,gap,rho,dmin,dmax,margin,PA,pn,pcap,parts,some ⟨bq,oq,none⟩,qn,qcap,ports,some ⟨b,off,none⟩,rn,rcap,routes⟩ #[.int .i64 (s:Nat),.int .i64 (d:Nat)] 142 #[.int .i64 part,.int .u8 (kind:Nat),.bool out,.int .i64 size,.int .i64 depth,.int .i64 fresh] #[.int .i64 part',.int .u8 (kind':Nat),.bool out',.int .i64 size',.int .i64 depth',.int .i64 fresh'] v6 v7 wx)
 case first=>
  clear CC HJ hsl
  have HTa:Hid (TwoPorts w ⟨nodes,faulty,slot,gap,rho,dmin,dmax,margin,PA,pn,pcap,parts,some ⟨bq,oq,none⟩,qn,qcap,ports,some ⟨b,off,none⟩,rn,rcap,routes⟩ #[.int .i64 (s:Nat),.int .i64 (d:Nat)] 142 #[.int .i64 part,.int .u8 (kind:Nat),.bool out,.int .i64 size,.int .i64 depth,.int .i64 fresh] #[.int .i64 part',.int .u8 (kind':Nat),.bool out',.int .i64 size',.int .i64 depth',.int .i64 fresh'] (.pointer (some ⟨w.heap.size + 1 + 1,0,none⟩)) (.pointer (some ⟨w.heap.size + 1 + 1 + 1,0,none⟩)) (((((w.alloc (.cells #[.int .i64 nodes,.int .i64 faulty,.int .i64 slot,.int .i64 gap,.int .i64 rho,.int .i64 dmin,.int .i64 dmax,.int .i64 margin,.slice PA pn pcap,.slice (some ⟨bq,oq,none⟩) qn qcap,.slice (some ⟨b,off,none⟩) rn rcap] 26)).alloc (.cells #[.int .i64 (s:Nat),.int .i64 (d:Nat)] 142)).alloc (.cells #[.int .i64 part,.int .u8 (kind:Nat),.bool out,.int .i64 size,.int .i64 depth,.int .i64 fresh] 127)).alloc (.cells #[.int .i64 part',.int .u8 (kind':Nat),.bool out',.int .i64 size',.int .i64 depth',.int .i64 fresh'] 127)).drew)):=by
   have h:=twoPorts w ⟨nodes,faulty,slot,gap,rho,dmin,dmax,margin,PA,pn,pcap,parts,some ⟨bq,oq,none⟩,qn,qcap,ports,some ⟨b,off,none⟩,rn,rcap,routes⟩ #[.int .i64 (s:Nat),.int .i64 (d:Nat)] 142 #[.int .i64 part,.int .u8 (kind:Nat),.bool out,.int .i64 size,.int .i64 depth,.int .i64 fresh] #[.int .i64 part',.int .u8 (kind':Nat),.bool out',.int .i64 size',.int .i64 depth',.int .i64 fresh']
   exact Lib.hid ⟨_,_,rfl,rfl,h.1,h.2.1,h.2.2⟩
  have HTb:Hid (TwoPorts w ⟨nodes,faulty,slot,gap,rho,dmin,dmax,margin,PA,pn,pcap,parts,some ⟨bq,oq,none⟩,qn,qcap,ports,some ⟨b,off,none⟩,rn,rcap,routes⟩ #[.int .i64 (s:Nat),.int .i64 (d:Nat)] 142 #[.int .i64 part,.int .u8 (kind:Nat),.bool out,.int .i64 size,.int .i64 depth,.int .i64 fresh] #[.int .i64 part',.int .u8 (kind':Nat),.bool out',.int .i64 size',.int .i64 depth',.int .i64 fresh'] (.pointer (some ⟨w.heap.size + 1 + 1 + 1,0,none⟩)) (.pointer (some ⟨w.heap.size + 1 + 1,0,none⟩)) (((((w.alloc (.cells #[.int .i64 nodes,.int .i64 faulty,.int .i64 slot,.int .i64 gap,.int .i64 rho,.int .i64 dmin,.int .i64 dmax,.int .i64 margin,.slice PA pn pcap,.slice (some ⟨bq,oq,none⟩) qn qcap,.slice (some ⟨b,off,none⟩) rn rcap] 26)).alloc (.cells #[.int .i64 (s:Nat),.int .i64 (d:Nat)] 142)).alloc (.cells #[.int .i64 part',.int .u8 (kind':Nat),.bool out',.int .i64 size',.int .i64 depth',.int .i64 fresh'] 127)).alloc (.cells #[.int .i64 part,.int .u8 (kind:Nat),.bool out,.int .i64 size,.int .i64 depth,.int .i64 fresh] 127)).drew)):=by
   have h:=twoPorts w ⟨nodes,faulty,slot,gap,rho,dmin,dmax,margin,PA,pn,pcap,parts,some ⟨bq,oq,none⟩,qn,qcap,ports,some ⟨b,off,none⟩,rn,rcap,routes⟩ #[.int .i64 (s:Nat),.int .i64 (d:Nat)] 142 #[.int .i64 part',.int .u8 (kind':Nat),.bool out',.int .i64 size',.int .i64 depth',.int .i64 fresh'] #[.int .i64 part,.int .u8 (kind:Nat),.bool out,.int .i64 size,.int .i64 depth,.int .i64 fresh]
   exact Lib.hid ⟨_,_,rfl,rfl,h.1,h.2.2,h.2.1⟩
  go_wp2_with fail
  refine wp_region_held_drew (S:=fun W=>Box2 w ⟨nodes,faulty,slot,gap,rho,dmin,dmax,margin,PA,pn,pcap,parts,some ⟨bq,oq,none⟩,qn,qcap,ports,some ⟨b,off,none⟩,rn,rcap,routes⟩ #[.int .i64 (s:Nat),.int .i64 (d:Nat)] 142 W) (by kernel_rfl) hd0 (fun _=>?_)
  refine tK 0 hd0 ?_
  try simp only [Act.put,tkT,tk0,tkS]
  refine tK 1 hd0 ?_
  try simp only [Act.put,tkT,tk0,tkS]
  refine tK 2 hd0 ?_
  try simp only [Act.put,tkT,tk0,tkS]
  refine tK 3 hd0 ?_
  try simp only [Act.put,tkT,tk0,tkS]
  refine tK 4 hd0 ?_
  try simp only [Act.put,tkT,tk0,tkS]
  refine tK 5 hd0 ?_
  try simp only [Act.put,tkT,tk0,tkS]
  refine tK 6 hd0 ?_
  try simp only [Act.put,tkT,tk0,tkS]
  refine tK 7 hd0 ?_
  try simp only [Act.put,tkT,tk0,tkS]
  refine tK 8 hd0 ?_
  try simp only [Act.put,tkT,tk0,tkS]
  refine tK 9 hd0 ?_
  try simp only [Act.put,tkT,tk0,tkS]
  refine tK 10 hd0 ?_
  try simp only [Act.put,tkT,tk0,tkS]
  refine tK 11 hd0 ?_
  try simp only [Act.put,tkT,tk0,tkS]
  refine wpAnyH_ready (rs:=[12,13]) (by kernel_rfl) (by simp) ?_
  refine AllReadyH.cons (o:=?o1) ?i1 (fun K hK=>?_) (AllReadyH.cons (o:=?o2) ?i2 (fun K hK=>?_) AllReadyH.nil)
  case i1=>simp only [List.getElem?_toArray,List.getElem?_cons_succ,List.getElem?_cons_zero];rfl
  case i2=>simp only [List.getElem?_toArray,List.getElem?_cons_succ,List.getElem?_cons_zero];rfl
  ·go_simp
   refine hK.out _ _ ?ha1 (fun _=>?_)
   case ha1=>exact (Box2.start w ⟨nodes,faulty,slot,gap,rho,dmin,dmax,margin,PA,pn,pcap,parts,some ⟨bq,oq,none⟩,qn,qcap,ports,some ⟨b,off,none⟩,rn,rcap,routes⟩ #[.int .i64 (s:Nat),.int .i64 (d:Nat)] 142).alloc1 _
   clear hK K
   refine wpAnyH_ready (rs:=[13]) (by kernel_rfl) (by simp) ?_
   refine AllReadyH.cons (o:=?oa3) ?ia3 (fun K hK=>?_) AllReadyH.nil
   case ia3=>simp only [List.getElem?_toArray,List.getElem?_cons_succ,List.getElem?_cons_zero];rfl
   go_simp
   refine hK.out _ _ ?ha2 (fun _=>?_)
   case ha2=>exact (Box2.start w ⟨nodes,faulty,slot,gap,rho,dmin,dmax,margin,PA,pn,pcap,parts,some ⟨bq,oq,none⟩,qn,qcap,ports,some ⟨b,off,none⟩,rn,rcap,routes⟩ #[.int .i64 (s:Nat),.int .i64 (d:Nat)] 142).alloc2 _ _
   clear hK K
   refine wpAnyH_ready (rs:=[14]) (by kernel_rfl) (by simp) ?_
   refine AllReadyH.cons (o:=?oa4) ?ia4 (fun K hK=>?_) AllReadyH.nil
   case ia4=>simp only [List.getElem?_toArray,List.getElem?_cons_succ,List.getElem?_cons_zero];rfl
   go_simp
   refine hK.out _ _ ?ha5 (fun _=>?_)
   case ha5=>exact (Box2.start w ⟨nodes,faulty,slot,gap,rho,dmin,dmax,margin,PA,pn,pcap,parts,some ⟨bq,oq,none⟩,qn,qcap,ports,some ⟨b,off,none⟩,rn,rcap,routes⟩ #[.int .i64 (s:Nat),.int .i64 (d:Nat)] 142).alloc2 _ _
   clear hK K
   refine wpAnyH_ready (rs:=[15]) (by kernel_rfl) (by simp) ?_
   refine AllReadyH.cons (o:=?oa6) ?ia6 (fun K hK=>?_) AllReadyH.nil
   case ia6=>simp only [List.getElem?_toArray,List.getElem?_cons_succ,List.getElem?_cons_zero];rfl
   go_simp
   refine hK.out _ _ ?ha7 (fun _=>?_)
   case ha7=>exact (Box2.start w ⟨nodes,faulty,slot,gap,rho,dmin,dmax,margin,PA,pn,pcap,parts,some ⟨bq,oq,none⟩,qn,qcap,ports,some ⟨b,off,none⟩,rn,rcap,routes⟩ #[.int .i64 (s:Nat),.int .i64 (d:Nat)] 142).alloc2 _ _
   clear hK K
   refine wpAnyH_done (by kernel_rfl) ?_ _
   go_wp2_with fail
   go_meet
   exact HTa.out
  ·go_simp
   refine hK.out _ _ ?hb1 (fun _=>?_)
   case hb1=>exact (Box2.start w ⟨nodes,faulty,slot,gap,rho,dmin,dmax,margin,PA,pn,pcap,parts,some ⟨bq,oq,none⟩,qn,qcap,ports,some ⟨b,off,none⟩,rn,rcap,routes⟩ #[.int .i64 (s:Nat),.int .i64 (d:Nat)] 142).alloc1 _
   clear hK K
   refine wpAnyH_ready (rs:=[12]) (by kernel_rfl) (by simp) ?_
   refine AllReadyH.cons (o:=?ob3) ?ib3 (fun K hK=>?_) AllReadyH.nil
   case ib3=>simp only [List.getElem?_toArray,List.getElem?_cons_succ,List.getElem?_cons_zero];rfl
   go_simp
   refine hK.out _ _ ?hb2 (fun _=>?_)
   case hb2=>exact (Box2.start w ⟨nodes,faulty,slot,gap,rho,dmin,dmax,margin,PA,pn,pcap,parts,some ⟨bq,oq,none⟩,qn,qcap,ports,some ⟨b,off,none⟩,rn,rcap,routes⟩ #[.int .i64 (s:Nat),.int .i64 (d:Nat)] 142).alloc2 _ _
   clear hK K
   refine wpAnyH_ready (rs:=[14]) (by kernel_rfl) (by simp) ?_
   refine AllReadyH.cons (o:=?ob4) ?ib4 (fun K hK=>?_) AllReadyH.nil
   case ib4=>simp only [List.getElem?_toArray,List.getElem?_cons_succ,List.getElem?_cons_zero];rfl
   go_simp
   refine hK.out _ _ ?hb5 (fun _=>?_)
   case hb5=>exact (Box2.start w ⟨nodes,faulty,slot,gap,rho,dmin,dmax,margin,PA,pn,pcap,parts,some ⟨bq,oq,none⟩,qn,qcap,ports,some ⟨b,off,none⟩,rn,rcap,routes⟩ #[.int .i64 (s:Nat),.int .i64 (d:Nat)] 142).alloc2 _ _
   clear hK K
   refine wpAnyH_ready (rs:=[15]) (by kernel_rfl) (by simp) ?_
   refine AllReadyH.cons (o:=?ob6) ?ib6 (fun K hK=>?_) AllReadyH.nil
   case ib6=>simp only [List.getElem?_toArray,List.getElem?_cons_succ,List.getElem?_cons_zero];rfl
   go_simp
   refine hK.out _ _ ?hb7 (fun _=>?_)
   case hb7=>exact (Box2.start w ⟨nodes,faulty,slot,gap,rho,dmin,dmax,margin,PA,pn,pcap,parts,some ⟨bq,oq,none⟩,qn,qcap,ports,some ⟨b,off,none⟩,rn,rcap,routes⟩ #[.int .i64 (s:Nat),.int .i64 (d:Nat)] 142).alloc2 _ _
   clear hK K
   refine wpAnyH_done (by kernel_rfl) ?_ _
   go_wp2_with fail
   go_meet
   exact HTb.out
 case rest=>
  obtain ⟨F,T,rfl,rfl,hB2,hF,hT⟩:=hcut
  have a0:=za0 hF 0 rfl
  have b0:=za0 hT 0 rfl
  have a1:=za0 hF 1 rfl
  have b1:=za0 hT 1 rfl
  have a2:=za0 hF 2 rfl
  have b2:=za0 hT 2 rfl
  have a3:=za0 hF 3 rfl
  have b3:=za0 hT 3 rfl
  have a4:=za0 hF 4 rfl
  have b4:=za0 hT 4 rfl
  have a5:=za0 hF 5 rfl
  have b5:=za0 hT 5 rfl
  have k10:=d10 _ hB2
  have CD:=Lib.hid (CC.out _ hB2.below _ (Box2.two hB2))
  have HB:=Lib.hid hB2.below
  have HBad:Hid (J=false→BoolPost J w (.returned (.bool false)) wc):=Lib.hid fun e=>⟨by rw [e],HB.out⟩
  clear hB2 hF hT CC d0 d1 d2 d3 d4 d5 d6 d7 d8 d9 d10 u0 v0 u1 v1 u2 v2 u3 v3 u4 v4 u5 v5 g0 g1 hd0
  cases out with
  | false=>
   have HE:=Lib.hid (HBad.out (by rw [HJ.out];rfl))
   clear HBad HJ
   go_wp2_with fail
   go_ret
   exact HE.out
  | true=>
  cases out' with
  | true=>
   have HE:=Lib.hid (HBad.out (by rw [HJ.out];rfl))
   clear HBad HJ
   go_wp2_with fail
   go_ret
   exact HE.out
  | false=>
  by_cases h3:kind=kind'
  case neg=>
   have HE:=Lib.hid (HBad.out (by rw [HJ.out,decide_eq_false h3];rfl))
   have q3:((kind:Int) != kind')=true:=by rw [bne_iff_ne];omega
   clear HBad HJ h3
   go_wp2_with fail
   go_ret
   exact HE.out
  have q3:((kind:Int) != kind')=false:=by rw [bne_eq_false_iff_eq];omega
  by_cases h4:size≤size'
  case neg=>
   have HE:=Lib.hid (HBad.out (by rw [HJ.out,decide_eq_false h4];simp))
   have q4:decide (size' < size)=true:=decide_eq_true (by omega)
   clear HBad HJ h3 h4
   go_wp2_with fail
   go_ret
   exact HE.out
  have q4:decide (size' < size)=false:=decide_eq_false (by omega)
  have hJ:J = !bb:=by rw [HJ.out,decide_eq_true h3,decide_eq_true h4];rfl
  subst hJ
  clear HBad HJ h3 h4
  go_wp2_with fail
  refine CD.out.mono ?_
  rintro e w2 ⟨rfl,hb2⟩
  have HF2:Hid (BoolPost (!bb) w (.returned (.bool (!bb))) w2):=Lib.hid ⟨rfl,HB.out.trans (hb2.mono HB.out.size)⟩
  clear hb2
  go_wp2_with fail
  go_ret
  exact HF2.out
open Go.RowKit
set_option maxRecDepth 100000
def RelI {α:Type} (ok:Nat→α→Bool) (code:Nat) (l:List α) (n:Nat) (P:World→Prop) (i:Value) (wr:World):Prop:=
 ∃ k,k≤n∧i = .int .i64 (k:Nat)∧SndP.firstI ok code k (l.drop k)=SndP.firstI ok code 0 l∧P wr
theorem zB3 (x:CfgC) (w:World) (h:CfgIn w x) (f:FrameP.Wrong) (hc:TableP.chk x.plain=some f) :
 Calls Tryz.prog 44 #[x.value] w (CheckPost (SndP.chk6 x.plain) w):=by
 have e:SndP.chk6 x.plain=some f:=by unfold SndP.chk6;rw [hc]
 have HC:=Lib.hid (zx5 x (boxC w x) (h.below (zb1 w x)))
 rw [hc] at HC
 rw [e]
 have HB:=Lib.hid (zb1 w x)
 have HS:=Lib.hid (zb7 w x)
 clear h hc e
 obtain ⟨nodes,faulty,slot,gap,rho,dmin,dmax,margin,PA,pn,pcap,parts,QA,qn,qcap,ports,RA,rn,rcap,routes⟩:=x
 simp only [CfgC.value,boxC,cfgCells] at HC HB HS ⊢
 go_enter Tryz.func44,Tryz.ntmps44
 go_wp2_with fail
 refine HC.out.mono ?_
 rintro e w1 ⟨v,rfl,h1,⟨b,rfl⟩,h3⟩
 have HF:Hid (CheckPost (some f) w (.returned (.iface 190 (.pointer (some ⟨b,0,none⟩)))) w1):=Lib.hid (ErrPost.of_below ⟨_,rfl,h1,⟨b,rfl⟩,h3⟩ HB.out)
 clear h1 h3 HC
 go_wp2_with fail
 go_ret
 exact HF.out
set_option maxHeartbeats 4000000 in
theorem zB4 (x:CfgC) (w:World) (h:CfgIn w x) (hc:TableP.chk x.plain=none) :
 Calls Tryz.prog 44 #[x.value] w (CheckPost (SndP.chk6 x.plain) w):=by
 have e:SndP.chk6 x.plain=SndP.late x.plain:=by unfold SndP.chk6;rw [hc]
 have HC:=Lib.hid (zx5 x (boxC w x) (h.below (zb1 w x)))
 rw [hc] at HC
 rw [e]
 have ha:=SndP.allowed hc
 have hn:=SndP.nums_in ha.head
 have C1:=Lib.hid (fun W=>prec_any x W ha.head)
 have C2:=Lib.hid (fun W=>zs2 x W ha.head)
 have C3:=Lib.hid (fun W=>zy2 x W ha.head)
 have hpr:=SndP.prec_in hn
 have hdr:=SndP.drift_in hn
 obtain ⟨hn1,hn2,hn3,hn4,hn5,hn6,hn7,hn8,-,-⟩:=hn
 have HF1:=Lib.hid (fun W (hW:BoxS w x W) k p hk=>fits_any x W (h.below hW.below) ha k p hk)
 have HJ1:=Lib.hid (fun W (hW:BoxS w x W) k p hk=>zN8 x W (h.below hW.below) ha k p hk)
 have HL:Hid (SndP.late x.plain=if x.nodes < 3 * x.faulty + 1 then some (70,-1) else if x.margin < SndP.precT x.plain + (x.dmax - x.dmin) + SndP.driftT x.plain then some (74,-1)
  else if x.slot < 2 * x.margin + x.dmax + SndP.precT x.plain then some (73,-1) else if x.gap < 2 * (x.margin + SndP.precT x.plain) then some (75,-1)
  else match SndP.firstI (SndP.fitB x.plain) 71 0 x.parts with
   | some e=>some e
   | none=>SndP.firstI (SndP.joinB x.plain) 72 0 x.routes):=Lib.hid rfl
 have hpl:=h.plen
 have hrl:=h.rlen
 have hp12:x.pn≤12:=by have h1:x.parts.length≤12:=ha.parts;omega
 have hr24:x.rn≤24:=by have h1:x.routes.length≤24:=ha.routes;omega
 have HEP:=Lib.hid (fun c p W N hN hc hp=>zj1 w W c p N hN hc hp)
 have HB:=Lib.hid (zb1 w x)
 generalize SndP.late x.plain=R at *
 generalize SndP.precT x.plain=pr at *
 generalize SndP.driftT x.plain=dr at *
 generalize SndP.fitB x.plain=fb at *
 generalize SndP.joinB x.plain=jb at *
 clear h ha hc e
 have hst:=BoxS.start w x
 obtain ⟨nodes,faulty,slot,gap,rho,dmin,dmax,margin,PA,pn,pcap,parts,QA,qn,qcap,ports,RA,rn,rcap,routes⟩:=x
 obtain ⟨d0,d1,d2,d3,d4,d5,d6,d7,d8,d9,d10⟩:=cfgFacts (fun W (hW:BoxS w ⟨nodes,faulty,slot,gap,rho,dmin,dmax,margin,PA,pn,pcap,parts,QA,qn,qcap,ports,RA,rn,rcap,routes⟩ W)=>hW.cells)
 simp only [CfgC.value,CfgC.plain,SndP.spreadT] at HC C1 C2 C3 HF1 HJ1 hn1 hn2 hn3 hn4 hn5 hn6 hn7 hn8 ⊢
 simp only at d0 d1 d2 d3 d4 d5 d6 d7 d8 d9 d10 HL hpl hrl hp12 hr24
 have HST:=Lib.hid hst
 have HN:=fun c W=>Lib.hid (zd4 c (-1) W)
 have e1:IntKind.i64.wrap (3 * faulty)=3 * faulty:=IntWalk.i64_in _ (by omega)
 have e2:IntKind.i64.wrap (3 * faulty + 1)=3 * faulty + 1:=IntWalk.i64_in _ (by omega)
 have e3:IntKind.i64.wrap (pr + (dmax - dmin))=pr + (dmax - dmin):=IntWalk.i64_in _ (by omega)
 have e4:IntKind.i64.wrap (pr + (dmax - dmin) + dr)=pr + (dmax - dmin) + dr:=IntWalk.i64_in _ (by omega)
 have e5:IntKind.i64.wrap (2 * margin)=2 * margin:=IntWalk.i64_in _ (by omega)
 have e6:IntKind.i64.wrap (2 * margin + dmax)=2 * margin + dmax:=IntWalk.i64_in _ (by omega)
 have e7:IntKind.i64.wrap (2 * margin + dmax + pr)=2 * margin + dmax + pr:=IntWalk.i64_in _ (by omega)
 have e8:IntKind.i64.wrap (margin + pr)=margin + pr:=IntWalk.i64_in _ (by omega)
 have e9:IntKind.i64.wrap (2 * (margin + pr))=2 * (margin + pr):=IntWalk.i64_in _ (by omega)
 have N0:=Lib.hid (fun W=>zd4 70 (-1) W rfl)
 have N1:=Lib.hid (fun W=>zd4 74 (-1) W rfl)
 have N2:=Lib.hid (fun W=>zd4 73 (-1) W rfl)
 have N3:=Lib.hid (fun W=>zd4 75 (-1) W rfl)
 rw [zf9 (-1) (by omega)] at N0 N1 N2 N3
 clear hst HN hn1 hn2 hn3 hn4 hn5 hn6 hn7 hn8 hpr hdr
 simp only [boxC,cfgCells] at HC HB
 go_enter Tryz.func44,Tryz.ntmps44
 go_wp2_with fail
 refine HC.out.mono ?_
 rintro e w1 ⟨v,rfl,h1,hv,h3⟩
 obtain rfl:v = .nilIface:=hv
 have hd1:=HST.out.step h3
 clear h1 h3 HC HST HB
 obtain ⟨k0,k1,k2,k3,k4,k5,k6,k7,k8,k9,k10⟩:=eleven hd1 d0 d1 d2 d3 d4 d5 d6 d7 d8 d9 d10
 have Hd1:=Lib.hid hd1
 clear hd1
 go_wp2_with fail
 refine (C1.out _).mono ?_
 rintro e w2 ⟨rfl,hb2⟩
 have hd2:=Hd1.out.step hb2
 clear hb2 Hd1 C1
 clear k0 k1 k2 k3 k4 k5 k6 k7 k8 k9 k10
 obtain ⟨k0,k1,k2,k3,k4,k5,k6,k7,k8,k9,k10⟩:=eleven hd2 d0 d1 d2 d3 d4 d5 d6 d7 d8 d9 d10
 have Hd2:=Lib.hid hd2
 clear hd2
 by_cases h1:nodes < 3 * faulty + 1
 case pos=>
  have HR:R=some (70,-1):=by rw [HL.out,if_pos h1]
  subst HR
  have q1:decide (nodes < 3 * faulty + 1)=true:=decide_eq_true h1
  clear HL h1 HF1 HJ1
  go_wp2_with fail
  refine (N0.out _).mono ?_
  rintro e w3 ⟨rfl,rfl⟩
  go_wp2_with fail
  go_ret
  exact HEP.out 70 (-1) _ _ rfl (by omega) (by omega) Hd2.out.below
 have q1:decide (nodes < 3 * faulty + 1)=false:=decide_eq_false h1
 rw [if_neg h1] at HL
 clear h1
 go_upto_region 7 with (fail)
 go_cut [23] (fun v wx=>v = .bool (decide (margin < pr + (dmax - dmin) + dr))∧BoxS w ⟨nodes,faulty,slot,gap,rho,dmin,dmax,margin,PA,pn,pcap,parts,QA,qn,qcap,ports,RA,rn,rcap,routes⟩ wx)
 case first=>
  have hd0:=Hd2.out.drew
  clear HL HF1 HJ1 N0 N1 N2 N3 HEP Hd2
  go_wp2_with fail
  refine wp_region_held_drew (S:=fun W=>BoxS w ⟨nodes,faulty,slot,gap,rho,dmin,dmax,margin,PA,pn,pcap,parts,QA,qn,qcap,ports,RA,rn,rcap,routes⟩ W) (by kernel_rfl) hd0 (fun _=>?_)
  refine tK 0 hd0 ?_
  try simp only [Act.put,tkT,tk0,tkS]
  refine tK 1 hd0 ?_
  try simp only [Act.put,tkT,tk0,tkS]
  refine tK 2 hd0 ?_
  try simp only [Act.put,tkT,tk0,tkS]
  refine tK 3 hd0 ?_
  try simp only [Act.put,tkT,tk0,tkS]
  refine tK 6 hd0 ?_
  try simp only [Act.put,tkT,tk0,tkS]
  refine clH 4 (by kernel_rfl) (by simp only [tkA,tkG];rfl) (fun K hK=>?_)
  go_simp
  refine (C2.out _).mono ?_
  rintro e w3 ⟨rfl,hb3⟩
  have hd3:=hd0.step hb3
  go_wp2_with fail
  refine hK.out _ _ hd3 (fun _=>?_)
  clear hK K
  refine tK 5 hd3 ?_
  try simp only [Act.put,tkT,tk0,tkS]
  refine clH 7 (by kernel_rfl) (by simp only [tkA,tkG];rfl) (fun K hK=>?_)
  go_simp
  refine (C3.out _).mono ?_
  rintro e w4 ⟨rfl,hb4⟩
  have hd4:=hd3.step hb4
  go_wp2_with fail
  refine hK.out _ _ hd4 (fun _=>?_)
  clear hK K
  refine tK 8 hd4 ?_
  try simp only [Act.put,tkT,tk0,tkS]
  refine tK 9 hd4 ?_
  try simp only [Act.put,tkT,tk0,tkS]
  refine tK 10 hd4 ?_
  try simp only [Act.put,tkT,tk0,tkS]
  refine wpAnyH_done (by kernel_rfl) ?_ _
  go_wp2_with fail
  go_meet
  exact ⟨rfl,hd4⟩
 case rest=>
 obtain ⟨rfl,hd2b⟩:=hcut
 clear k0 k1 k2 k3 k4 k5 k6 k7 k8 k9 k10
 clear Hd2 C2 C3 N0
 obtain ⟨k0,k1,k2,k3,k4,k5,k6,k7,k8,k9,k10⟩:=eleven hd2b d0 d1 d2 d3 d4 d5 d6 d7 d8 d9 d10
 have Hd2:=Lib.hid hd2b
 clear hd2b
 by_cases h2:margin < pr + (dmax - dmin) + dr
 case pos=>
  have HR:R=some (74,-1):=by rw [HL.out,if_pos h2]
  subst HR
  rw [decide_eq_true h2]
  clear HL h2 HF1 HJ1
  go_wp2_with fail
  refine (N1.out _).mono ?_
  rintro e w3 ⟨rfl,rfl⟩
  go_wp2_with fail
  go_ret
  exact HEP.out 74 (-1) _ _ rfl (by omega) (by omega) Hd2.out.below
 rw [decide_eq_false h2]
 rw [if_neg h2] at HL
 clear h2
 by_cases h3:slot < 2 * margin + dmax + pr
 case pos=>
  have HR:R=some (73,-1):=by rw [HL.out,if_pos h3]
  subst HR
  have q3:decide (slot < 2 * margin + dmax + pr)=true:=decide_eq_true h3
  clear HL h3 HF1 HJ1
  go_wp2_with fail
  refine (N2.out _).mono ?_
  rintro e w3 ⟨rfl,rfl⟩
  go_wp2_with fail
  go_ret
  exact HEP.out 73 (-1) _ _ rfl (by omega) (by omega) Hd2.out.below
 have q3:decide (slot < 2 * margin + dmax + pr)=false:=decide_eq_false h3
 rw [if_neg h3] at HL
 clear h3
 by_cases h4:gap < 2 * (margin + pr)
 case pos=>
  have HR:R=some (75,-1):=by rw [HL.out,if_pos h4]
  subst HR
  have q4:decide (gap < 2 * (margin + pr))=true:=decide_eq_true h4
  clear HL h4 HF1 HJ1
  go_wp2_with fail
  refine (N3.out _).mono ?_
  rintro e w3 ⟨rfl,rfl⟩
  go_wp2_with fail
  go_ret
  exact HEP.out 75 (-1) _ _ rfl (by omega) (by omega) Hd2.out.below
 have q4:decide (gap < 2 * (margin + pr))=false:=decide_eq_false h4
 rw [if_neg h4] at HL
 clear h4 N1 N2 N3
 go_wp2_with fail
 clear k0 k1 k2 k3 k4 k5 k6 k7 k8 k9 k10
 clear q1 q3 q4 e1 e2 e3 e4 e5 e6 e7 e8 e9
 go_loopw [61] (RelI fb 71 parts pn (BoxS w ⟨nodes,faulty,slot,gap,rho,dmin,dmax,margin,PA,pn,pcap,parts,QA,qn,qcap,ports,RA,rn,rcap,routes⟩)) (fun i _=>(pn + 1 - intOf i).toNat)
 case atStart=>exact ⟨0,Nat.zero_le _,rfl,rfl,Hd2.out⟩
 case round=>
  clear Hd2
  obtain ⟨k,hk,rfl,hck,hb⟩:=hrel
  have Hb:=Lib.hid hb
  have Hck:=Lib.hid hck
  obtain ⟨k0,k1,k2,k3,k4,k5,k6,k7,k8,k9,k10⟩:=eleven hb d0 d1 d2 d3 d4 d5 d6 d7 d8 d9 d10
  clear hb hck
  by_cases hlt:k < pn
  ·obtain ⟨y,hmk⟩:∃ y,parts[k]? = some y:=⟨_,List.getElem?_eq_getElem (by omega)⟩
   have Hst:=Lib.hid (SndP.firstI_step (ok:=fb) (code:=71) hmk)
   have HP:=Lib.hid (HF1.out wr Hb.out k y hmk)
   clear hmk
   by_cases hy:fb k y=true
   case pos=>
    have HR0:Hid (∀ W,Below wr.heap.size wr W→RelI fb 71 parts pn (BoxS w ⟨nodes,faulty,slot,gap,rho,dmin,dmax,margin,PA,pn,pcap,parts,QA,qn,qcap,ports,RA,rn,rcap,routes⟩) (.int .i64 ((k:Int) + 1)) W):=Lib.hid fun W hW=>by
     refine ⟨k + 1,by omega,by go_num,?_,Hb.out.step hW⟩
     rw [← Hck.out,Hst.out,if_pos hy]
    rw [hy] at HP
    clear hy Hst
    go_wp2_with fail
    refine HP.out.mono ?_
    rintro e w1 ⟨rfl,hb1⟩
    have HR1:=Lib.hid (HR0.out _ hb1)
    clear hb1 HR0
    go_wp2_with fail
    go_roundw
    case rel=>exact HR1.out
    case measure=>simp [intOf];omega
   have hy2:fb k y=false:=by simpa using hy
   have HR:R=some (71,(k:Int)):=by
    have h0:=Hck.out
    rw [Hst.out,if_neg hy] at h0
    rw [HL.out,← h0]
   subst HR
   rw [hy2] at HP
   have HN:=Lib.hid (fun W=>zd4 71 (k:Int) W rfl)
   rw [zf9 (k:Int) (by omega)] at HN
   clear hy hy2 Hst HL
   go_wp2_with fail
   refine HP.out.mono ?_
   rintro e w1 ⟨rfl,hb1⟩
   have HB1:=Lib.hid (Hb.out.step hb1).below
   clear hb1
   go_wp2_with fail
   refine (HN.out _).mono ?_
   rintro e w2 ⟨rfl,rfl⟩
   go_wp2_with fail
   go_ret
   exact HEP.out 71 k _ _ rfl (by omega) (by omega) HB1.out
  have hkn:pn=k:=by omega
  have hnone:SndP.firstI fb 71 0 parts=none:=by rw [← Hck.out];exact SndP.firstI_end (by omega)
  rw [hnone] at HL
  simp only at HL
  have Hd2:=Lib.hid Hb.out
  clear Hck Hb hnone
  subst hkn
  go_wp2_with fail
  clear k0 k1 k2 k3 k4 k5 k6 k7 k8 k9 k10
  go_loopw [74] (RelI jb 72 routes rn (BoxS w ⟨nodes,faulty,slot,gap,rho,dmin,dmax,margin,PA,pn,pcap,parts,QA,qn,qcap,ports,RA,rn,rcap,routes⟩)) (fun i _=>(rn + 1 - intOf i).toNat)
  case atStart=>exact ⟨0,Nat.zero_le _,rfl,rfl,Hd2.out⟩
  case round=>
   clear Hd2
   obtain ⟨k,hk,rfl,hck,hb⟩:=hrel
   have Hb:=Lib.hid hb
   have Hck:=Lib.hid hck
   obtain ⟨k0,k1,k2,k3,k4,k5,k6,k7,k8,k9,k10⟩:=eleven hb d0 d1 d2 d3 d4 d5 d6 d7 d8 d9 d10
   clear hb hck
   by_cases hlt:k < rn
   ·obtain ⟨y,hmk⟩:∃ y,routes[k]? = some y:=⟨_,List.getElem?_eq_getElem (by omega)⟩
    have Hst:=Lib.hid (SndP.firstI_step (ok:=jb) (code:=72) hmk)
    have HP:=Lib.hid (HJ1.out wr Hb.out k y hmk)
    clear hmk
    by_cases hy:jb k y=true
    case pos=>
     have HR0:Hid (∀ W,Below wr.heap.size wr W→RelI jb 72 routes rn (BoxS w ⟨nodes,faulty,slot,gap,rho,dmin,dmax,margin,PA,pn,pcap,parts,QA,qn,qcap,ports,RA,rn,rcap,routes⟩) (.int .i64 ((k:Int) + 1)) W):=Lib.hid fun W hW=>by
      refine ⟨k + 1,by omega,by go_num,?_,Hb.out.step hW⟩
      rw [← Hck.out,Hst.out,if_pos hy]
     rw [hy] at HP
     clear hy Hst
     go_wp2_with fail
     refine HP.out.mono ?_
     rintro e w1 ⟨rfl,hb1⟩
     have HR1:=Lib.hid (HR0.out _ hb1)
     clear hb1 HR0
     go_wp2_with fail
     go_roundw
     case rel=>exact HR1.out
     case measure=>simp [intOf];omega
    have hy2:jb k y=false:=by simpa using hy
    have HR:R=some (72,(k:Int)):=by
     have h0:=Hck.out
     rw [Hst.out,if_neg hy] at h0
     rw [HL.out,← h0]
    subst HR
    rw [hy2] at HP
    have HN:=Lib.hid (fun W=>zd4 72 (k:Int) W rfl)
    rw [zf9 (k:Int) (by omega)] at HN
    clear hy hy2 Hst HL
    go_wp2_with fail
    refine HP.out.mono ?_
    rintro e w1 ⟨rfl,hb1⟩
    have HB1:=Lib.hid (Hb.out.step hb1).below
    clear hb1
    go_wp2_with fail
    refine (HN.out _).mono ?_
    rintro e w2 ⟨rfl,rfl⟩
    go_wp2_with fail
    go_ret
    exact HEP.out 72 k _ _ rfl (by omega) (by omega) HB1.out
   have hkn:rn=k:=by omega
   have hnone:SndP.firstI jb 72 0 routes=none:=by rw [← Hck.out];exact SndP.firstI_end (by omega)
   have HF:Hid (CheckPost R w (.returned .nilIface) wr):=Lib.hid (by rw [HL.out,hnone];exact ErrPost.ok Hb.out.below)
   clear hnone
   subst hkn
   go_wp2_with fail
   go_ret
   exact HF.out
theorem zH5 (x:CfgC) (w:World) (h:CfgIn w x) :
 Calls Tryz.prog 44 #[x.value] w (CheckPost (SndP.chk6 x.plain) w):=by
 cases hc:TableP.chk x.plain with
 | some f=>exact zB3 x w h f hc
 | none=>exact zB4 x w h hc
end Go.Proofs.YtfgpfmhjnccccaaGreatDoor
