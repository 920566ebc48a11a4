import Derived.Deep.DeepCutAuto
import Derived.Test.YtfgpfmhjnccccaaGreatDoorSa04
import Derived.Test.YtfgpfmhjnccccaaGreatDoorSa07
import Derived.Test.YtfgpfmhjnccccaaGreatDoorSa05
import Derived.Test.YtfgpfmhjnccccaaGreatDoorSa01
import Derived.Test.YtfgpfmhjnccccaaGreatDoorSa08
namespace Go.Proofs.YtfgpfmhjnccccaaGreatDoor
open Go.RowKit Go.Extern.Stop Go.Stop Go.Extern
open Go.RowKit
set_option maxRecDepth 100000
def RefChkPost (r:Option FrameP.Wrong) (w:World) (e:Ending) (w':World):Prop:=e = .returned (strV (wrongT r))∧Below w.heap.size w w'
set_option maxHeartbeats 2000000 in
theorem zu3 (x:CfgC) (w:World) (h1:¬ TableP.headOk x.plain) :
 Calls Tryz.prog 41 #[x.value] w (RefChkPost (TableP.chk x.plain) w):=by
 have e:TableP.chk x.plain=some (2,-1):=by unfold TableP.chk;rw [if_neg h1]
 rw [e];clear e
 have HB:=Lib.hid (zb1 w x)
 have HA:=Lib.hid (fun W=>zc5 2 (-1) W (by omega) (by omega))
 have hT:wrongT (some (2,-1))=atT 2 (-1):=rfl
 unfold RefChkPost
 rw [hT]
 clear hT
 generalize atT 2 (-1)=t at *
 obtain ⟨nodes,faulty,slot,gap,rho,dmin,dmax,margin,PA,pn,pcap,parts,QA,qn,qcap,ports,RA,rn,rcap,routes⟩:=x
 have HN:=Lib.hid h1
 clear h1
 unfold TableP.headOk at HN
 simp only [CfgC.plain] at HN
 simp only [CfgC.value]
 simp only [boxC,cfgCells] at HB
 unfold strV at *
 have U0:=Lib.hid (fun W=>zb6 nodes 1 7 W)
 have U1:=Lib.hid (fun W=>zb6 faulty 0 2 W)
 have U2:=Lib.hid (fun W=>zb6 slot 1 16777216 W)
 have U3:=Lib.hid (fun W=>zb6 gap 0 16777216 W)
 have U4:=Lib.hid (fun W=>zb6 rho 0 200 W)
 have U5:=Lib.hid (fun W=>zb6 dmax 0 1048576 W)
 have U6:=Lib.hid (fun W=>zb6 dmin 0 dmax W)
 have U7:=Lib.hid (fun W=>zb6 margin 0 16777216 W)
 go_enter Tryz.func41,Tryz.ntmps41
 go_wp2_with fail
 refine (U0.out _).mono ?_
 rintro e w0 ⟨rfl,rfl⟩
 by_cases h0:TableP.up nodes 1 7
 case neg=>
  rw [decide_eq_false h0]
  clear h0
  go_wp2_with fail
  refine (HA.out _).mono ?_
  rintro e w9 ⟨rfl,hb⟩
  have Hb:=Lib.hid hb
  clear hb
  go_wp2_with fail
  go_ret
  exact ⟨rfl,HB.out.trans (Hb.out.mono (by simp))⟩
 rw [decide_eq_true h0]
 have K0:=Lib.hid h0
 clear h0
 go_wp2_with fail
 refine (U1.out _).mono ?_
 rintro e w1 ⟨rfl,rfl⟩
 by_cases h1:TableP.up faulty 0 2
 case neg=>
  rw [decide_eq_false h1]
  clear h1
  go_wp2_with fail
  refine (HA.out _).mono ?_
  rintro e w9 ⟨rfl,hb⟩
  have Hb:=Lib.hid hb
  clear hb
  go_wp2_with fail
  go_ret
  exact ⟨rfl,HB.out.trans (Hb.out.mono (by simp))⟩
 rw [decide_eq_true h1]
 have K1:=Lib.hid h1
 clear h1
 go_wp2_with fail
 refine (U2.out _).mono ?_
 rintro e w2 ⟨rfl,rfl⟩
 by_cases h2:TableP.up slot 1 16777216
 case neg=>
  rw [decide_eq_false h2]
  clear h2
  go_wp2_with fail
  refine (HA.out _).mono ?_
  rintro e w9 ⟨rfl,hb⟩
  have Hb:=Lib.hid hb
  clear hb
  go_wp2_with fail
  go_ret
  exact ⟨rfl,HB.out.trans (Hb.out.mono (by simp))⟩
 rw [decide_eq_true h2]
 have K2:=Lib.hid h2
 clear h2
 go_wp2_with fail
 refine (U3.out _).mono ?_
 rintro e w3 ⟨rfl,rfl⟩
 by_cases h3:TableP.up gap 0 16777216
 case neg=>
  rw [decide_eq_false h3]
  clear h3
  go_wp2_with fail
  refine (HA.out _).mono ?_
  rintro e w9 ⟨rfl,hb⟩
  have Hb:=Lib.hid hb
  clear hb
  go_wp2_with fail
  go_ret
  exact ⟨rfl,HB.out.trans (Hb.out.mono (by simp))⟩
 rw [decide_eq_true h3]
 have K3:=Lib.hid h3
 clear h3
 go_wp2_with fail
 refine (U4.out _).mono ?_
 rintro e w4 ⟨rfl,rfl⟩
 by_cases h4:TableP.up rho 0 200
 case neg=>
  rw [decide_eq_false h4]
  clear h4
  go_wp2_with fail
  refine (HA.out _).mono ?_
  rintro e w9 ⟨rfl,hb⟩
  have Hb:=Lib.hid hb
  clear hb
  go_wp2_with fail
  go_ret
  exact ⟨rfl,HB.out.trans (Hb.out.mono (by simp))⟩
 rw [decide_eq_true h4]
 have K4:=Lib.hid h4
 clear h4
 go_wp2_with fail
 refine (U5.out _).mono ?_
 rintro e w5 ⟨rfl,rfl⟩
 by_cases h5:TableP.up dmax 0 1048576
 case neg=>
  rw [decide_eq_false h5]
  clear h5
  go_wp2_with fail
  refine (HA.out _).mono ?_
  rintro e w9 ⟨rfl,hb⟩
  have Hb:=Lib.hid hb
  clear hb
  go_wp2_with fail
  go_ret
  exact ⟨rfl,HB.out.trans (Hb.out.mono (by simp))⟩
 rw [decide_eq_true h5]
 have K5:=Lib.hid h5
 clear h5
 go_wp2_with fail
 refine (U6.out _).mono ?_
 rintro e w6 ⟨rfl,rfl⟩
 by_cases h6:TableP.up dmin 0 dmax
 case neg=>
  rw [decide_eq_false h6]
  clear h6
  go_wp2_with fail
  refine (HA.out _).mono ?_
  rintro e w9 ⟨rfl,hb⟩
  have Hb:=Lib.hid hb
  clear hb
  go_wp2_with fail
  go_ret
  exact ⟨rfl,HB.out.trans (Hb.out.mono (by simp))⟩
 rw [decide_eq_true h6]
 have K6:=Lib.hid h6
 clear h6
 go_wp2_with fail
 refine (U7.out _).mono ?_
 rintro e w7 ⟨rfl,rfl⟩
 have h7:¬ TableP.up margin 0 16777216:=fun h=>HN.out ⟨K0.out,K1.out,K2.out,K3.out,K4.out,K5.out,K6.out,h⟩
 rw [decide_eq_false h7]
 clear h7
 go_wp2_with fail
 refine (HA.out _).mono ?_
 rintro e w9 ⟨rfl,hb⟩
 have Hb:=Lib.hid hb
 clear hb
 go_wp2_with fail
 go_ret
 exact ⟨rfl,HB.out.trans (Hb.out.mono (by simp))⟩
set_option maxHeartbeats 2000000 in
theorem zu4 (x:CfgC) (w:World) (h1:TableP.headOk x.plain) (h2:12 < x.pn∨24 < x.qn∨24 < x.rn) (h:CfgIn w x) :
 Calls Tryz.prog 41 #[x.value] w (RefChkPost (TableP.chk x.plain) w):=by
 have e:TableP.chk x.plain=some (3,-1):=by
  unfold TableP.chk
  rw [if_pos h1,if_pos (show 12 < x.plain.parts.length∨24 < x.plain.ports.length∨24 < x.plain.routes.length by have:=h.plen;have:=h.qlen;have:=h.rlen;simp only [CfgC.plain];omega)]
 rw [e];clear e
 have HB:=Lib.hid (zb1 w x)
 have HA:=Lib.hid (fun W=>zc5 3 (-1) W (by omega) (by omega))
 have hT:wrongT (some (3,-1))=atT 3 (-1):=rfl
 unfold RefChkPost
 rw [hT]
 clear hT h
 generalize atT 3 (-1)=t at *
 obtain ⟨nodes,faulty,slot,gap,rho,dmin,dmax,margin,PA,pn,pcap,parts,QA,qn,qcap,ports,RA,rn,rcap,routes⟩:=x
 unfold TableP.headOk at h1
 simp only [CfgC.plain] at h1
 obtain ⟨h0,h3,h4,h5,h6,h7,h8,h9⟩:=h1
 simp only [CfgC.value]
 simp only [boxC,cfgCells] at HB
 simp only at h2
 unfold strV at *
 have U0:=Lib.hid (fun W=>zb6 nodes 1 7 W)
 rw [decide_eq_true h0] at U0
 have U1:=Lib.hid (fun W=>zb6 faulty 0 2 W)
 rw [decide_eq_true h3] at U1
 have U2:=Lib.hid (fun W=>zb6 slot 1 16777216 W)
 rw [decide_eq_true h4] at U2
 have U3:=Lib.hid (fun W=>zb6 gap 0 16777216 W)
 rw [decide_eq_true h5] at U3
 have U4:=Lib.hid (fun W=>zb6 rho 0 200 W)
 rw [decide_eq_true h6] at U4
 have U5:=Lib.hid (fun W=>zb6 dmax 0 1048576 W)
 rw [decide_eq_true h7] at U5
 have U6:=Lib.hid (fun W=>zb6 dmin 0 dmax W)
 rw [decide_eq_true h8] at U6
 have U7:=Lib.hid (fun W=>zb6 margin 0 16777216 W)
 rw [decide_eq_true h9] at U7
 clear h0 h3 h4 h5 h6 h7 h8 h9
 by_cases h3:12 < pn
 case pos=>
  have q:decide ((12:Int) < pn)=true:=decide_eq_true (by omega)
  clear h2 h3
  go_enter Tryz.func41,Tryz.ntmps41
  go_wp2_with fail
  refine (U0.out _).mono ?_
  rintro e w0 ⟨rfl,rfl⟩
  go_wp2_with fail
  refine (U1.out _).mono ?_
  rintro e w1 ⟨rfl,rfl⟩
  go_wp2_with fail
  refine (U2.out _).mono ?_
  rintro e w2 ⟨rfl,rfl⟩
  go_wp2_with fail
  refine (U3.out _).mono ?_
  rintro e w3 ⟨rfl,rfl⟩
  go_wp2_with fail
  refine (U4.out _).mono ?_
  rintro e w4 ⟨rfl,rfl⟩
  go_wp2_with fail
  refine (U5.out _).mono ?_
  rintro e w5 ⟨rfl,rfl⟩
  go_wp2_with fail
  refine (U6.out _).mono ?_
  rintro e w6 ⟨rfl,rfl⟩
  go_wp2_with fail
  refine (U7.out _).mono ?_
  rintro e w7 ⟨rfl,rfl⟩
  go_wp2_with fail
  refine (HA.out _).mono ?_
  rintro e w9 ⟨rfl,hb⟩
  have Hb:=Lib.hid hb
  clear hb
  go_wp2_with fail
  go_ret
  exact ⟨rfl,HB.out.trans (Hb.out.mono (by simp))⟩
 have q:decide ((12:Int) < pn)=false:=decide_eq_false (by omega)
 by_cases h4:24 < qn
 case pos=>
  have q2:decide ((24:Int) < qn)=true:=decide_eq_true (by omega)
  clear h2 h3 h4
  go_enter Tryz.func41,Tryz.ntmps41
  go_wp2_with fail
  refine (U0.out _).mono ?_
  rintro e w0 ⟨rfl,rfl⟩
  go_wp2_with fail
  refine (U1.out _).mono ?_
  rintro e w1 ⟨rfl,rfl⟩
  go_wp2_with fail
  refine (U2.out _).mono ?_
  rintro e w2 ⟨rfl,rfl⟩
  go_wp2_with fail
  refine (U3.out _).mono ?_
  rintro e w3 ⟨rfl,rfl⟩
  go_wp2_with fail
  refine (U4.out _).mono ?_
  rintro e w4 ⟨rfl,rfl⟩
  go_wp2_with fail
  refine (U5.out _).mono ?_
  rintro e w5 ⟨rfl,rfl⟩
  go_wp2_with fail
  refine (U6.out _).mono ?_
  rintro e w6 ⟨rfl,rfl⟩
  go_wp2_with fail
  refine (U7.out _).mono ?_
  rintro e w7 ⟨rfl,rfl⟩
  go_wp2_with fail
  refine (HA.out _).mono ?_
  rintro e w9 ⟨rfl,hb⟩
  have Hb:=Lib.hid hb
  clear hb
  go_wp2_with fail
  go_ret
  exact ⟨rfl,HB.out.trans (Hb.out.mono (by simp))⟩
 have q2:decide ((24:Int) < qn)=false:=decide_eq_false (by omega)
 have q3:decide ((24:Int) < rn)=true:=decide_eq_true (by omega)
 clear h2 h3 h4
 go_enter Tryz.func41,Tryz.ntmps41
 go_wp2_with fail
 refine (U0.out _).mono ?_
 rintro e w0 ⟨rfl,rfl⟩
 go_wp2_with fail
 refine (U1.out _).mono ?_
 rintro e w1 ⟨rfl,rfl⟩
 go_wp2_with fail
 refine (U2.out _).mono ?_
 rintro e w2 ⟨rfl,rfl⟩
 go_wp2_with fail
 refine (U3.out _).mono ?_
 rintro e w3 ⟨rfl,rfl⟩
 go_wp2_with fail
 refine (U4.out _).mono ?_
 rintro e w4 ⟨rfl,rfl⟩
 go_wp2_with fail
 refine (U5.out _).mono ?_
 rintro e w5 ⟨rfl,rfl⟩
 go_wp2_with fail
 refine (U6.out _).mono ?_
 rintro e w6 ⟨rfl,rfl⟩
 go_wp2_with fail
 refine (U7.out _).mono ?_
 rintro e w7 ⟨rfl,rfl⟩
 go_wp2_with fail
 refine (HA.out _).mono ?_
 rintro e w9 ⟨rfl,hb⟩
 have Hb:=Lib.hid hb
 clear hb
 go_wp2_with fail
 go_ret
 exact ⟨rfl,HB.out.trans (Hb.out.mono (by simp))⟩
open Go.RowKit
set_option maxRecDepth 100000
theorem zu5 {n:Nat} (h:n≤1000):IntKind.i64.wrap ((n:Int) - 1)=(n:Int) - 1:=IntWalk.i64_in _ (by omega)
set_option maxHeartbeats 8000000 in
theorem zu6 (x:CfgC) (w:World) (h:CfgIn w x) (h1:TableP.headOk x.plain) (h2:¬ (12 < x.pn∨24 < x.qn∨24 < x.rn)) :
 Calls Tryz.prog 41 #[x.value] w (RefChkPost (TableP.chk x.plain) w):=by
 have HFr:=Lib.hid h
 obtain ⟨hs1,hs2⟩:=zx4 h1 h2 h.plen h.qlen h.rlen
 have HE1:=Lib.hid hs1
 have HE2:=Lib.hid hs2
 clear hs1 hs2
 have HX:=Lib.hid (fun wr hb=>box11 (w:=w) (wr:=wr) (x:=x) (t:=26) hb)
 have HB:=Lib.hid (zb1 w x)
 have HS:=Lib.hid (zb7 w x)
 have HA:=Lib.hid (fun (c:Nat) (a:Int) W hc ha=>zc5 c a W hc ha)
 have hn7:0≤x.nodes∧x.nodes≤7:=by have:=h1.1;simp only [TableP.up,CfgC.plain] at this;omega
 have hpl:=h.plen
 have hql:=h.qlen
 have hrl:=h.rlen
 generalize TableP.chk x.plain=R at *
 clear h
 obtain ⟨nodes,faulty,slot,gap,rho,dmin,dmax,margin,PA,pn,pcap,parts,QA,qn,qcap,ports,RA,rn,rcap,routes⟩:=x
 unfold TableP.headOk at h1
 simp only [CfgC.plain] at h1
 obtain ⟨h0,h3,h4,h5,h6,h7,h8,h9⟩:=h1
 simp only [CfgC.value]
 simp only [boxC,cfgCells] at HB HS HX
 simp only at h2 HE1 HE2 hpl hql hrl hn7
 unfold strV at *
 have U0:=Lib.hid (fun W=>zb6 nodes 1 7 W)
 rw [decide_eq_true h0] at U0
 have U1:=Lib.hid (fun W=>zb6 faulty 0 2 W)
 rw [decide_eq_true h3] at U1
 have U2:=Lib.hid (fun W=>zb6 slot 1 16777216 W)
 rw [decide_eq_true h4] at U2
 have U3:=Lib.hid (fun W=>zb6 gap 0 16777216 W)
 rw [decide_eq_true h5] at U3
 have U4:=Lib.hid (fun W=>zb6 rho 0 200 W)
 rw [decide_eq_true h6] at U4
 have U5:=Lib.hid (fun W=>zb6 dmax 0 1048576 W)
 rw [decide_eq_true h7] at U5
 have U6:=Lib.hid (fun W=>zb6 dmin 0 dmax W)
 rw [decide_eq_true h8] at U6
 have U7:=Lib.hid (fun W=>zb6 margin 0 16777216 W)
 rw [decide_eq_true h9] at U7
 clear h0 h3 h4 h5 h6 h7 h8 h9
 obtain ⟨nd,rfl⟩:=Int.eq_ofNat_of_zero_le hn7.1
 have q1:decide ((12:Int) < pn)=false:=decide_eq_false (by omega)
 have q2:decide ((24:Int) < qn)=false:=decide_eq_false (by omega)
 have q3:decide ((24:Int) < rn)=false:=decide_eq_false (by omega)
 have hp12:pn≤12:=by omega
 have hq24:qn≤24:=by omega
 have hr24:rn≤24:=by omega
 have hnd:nd≤7:=by omega
 clear h2 hn7
 go_enter Tryz.func41,Tryz.ntmps41
 go_wp2_with fail
 refine (U0.out _).mono ?_
 rintro e w0 ⟨rfl,rfl⟩
 clear U0
 go_wp2_with fail
 refine (U1.out _).mono ?_
 rintro e w1 ⟨rfl,rfl⟩
 clear U1
 go_wp2_with fail
 refine (U2.out _).mono ?_
 rintro e w2 ⟨rfl,rfl⟩
 clear U2
 go_wp2_with fail
 refine (U3.out _).mono ?_
 rintro e w3 ⟨rfl,rfl⟩
 clear U3
 go_wp2_with fail
 refine (U4.out _).mono ?_
 rintro e w4 ⟨rfl,rfl⟩
 clear U4
 go_wp2_with fail
 refine (U5.out _).mono ?_
 rintro e w5 ⟨rfl,rfl⟩
 clear U5
 go_wp2_with fail
 refine (U6.out _).mono ?_
 rintro e w6 ⟨rfl,rfl⟩
 clear U6
 go_wp2_with fail
 refine (U7.out _).mono ?_
 rintro e w7 ⟨rfl,rfl⟩
 clear U7
 go_wp2_with fail
 have HST:Hid (Below (w.alloc (.cells #[.int .i64 (nd:Nat),.int .i64 faulty,.int .i64 slot,.int .i64 gap,.int .i64 rho,.int .i64 dmin,.int .i64 dmax,.int .i64 margin,.slice PA pn pcap,.slice QA qn qcap,.slice RA rn rcap] 26)).heap.size (w.alloc (.cells #[.int .i64 (nd:Nat),.int .i64 faulty,.int .i64 slot,.int .i64 gap,.int .i64 rho,.int .i64 dmin,.int .i64 dmax,.int .i64 margin,.slice PA pn pcap,.slice QA qn qcap,.slice RA rn rcap] 26)) (w.alloc (.cells #[.int .i64 (nd:Nat),.int .i64 faulty,.int .i64 slot,.int .i64 gap,.int .i64 rho,.int .i64 dmin,.int .i64 dmax,.int .i64 margin,.slice PA pn pcap,.slice QA qn qcap,.slice RA rn rcap] 26))):=Lib.hid (Below.refl _ _)
 go_loopw [3] (ChkRel (TableP.partOk (nd:Int)) 2 parts pn (w.alloc (.cells #[.int .i64 (nd:Nat),.int .i64 faulty,.int .i64 slot,.int .i64 gap,.int .i64 rho,.int .i64 dmin,.int .i64 dmax,.int .i64 margin,.slice PA pn pcap,.slice QA qn qcap,.slice RA rn rcap] 26))) (fun i _=>(pn + 1 - intOf i).toNat)
 case atStart=>exact ⟨0,Nat.zero_le _,rfl,rfl,HST.out⟩
 case round=>
  clear HST
  obtain ⟨k,hk,rfl,hck,hb⟩:=hrel
  have Hb:=Lib.hid hb
  have Hck:=Lib.hid hck
  have hbw:Below w.heap.size w wr:=HB.out.trans (hb.mono (by rw [HS.out];omega))
  have Hbw:=Lib.hid hbw
  have Hfr:=Lib.hid (HFr.out.below hbw)
  obtain ⟨k0,-,-,-,-,-,-,-,k8,k9,k10⟩:=HX.out wr hb
  simp only at k0 k8 k9 k10
  have kA:∀ o,(wr.alloc o).cell? ⟨w.heap.size,0,none⟩=some (.int .i64 (nd:Nat)):=fun o=>(HX.out _ (hb.alloc hb.size o)).c0
  clear hbw hb hck
  by_cases hlt:k < pn
  ·obtain ⟨⟨node,start,length,budget,words,r0,r1,r2,r3⟩,hmk⟩:∃ y,parts[k]? = some y:=⟨_,List.getElem?_eq_getElem (by omega)⟩
   obtain ⟨b,off,e,hbl,c0,c1,c2,c3,c4,c5,c6,c7,c8⟩:=zf0 Hfr.out.parts hmk
   simp only at e c0 c1 c2 c3 c4 c5 c6 c7 c8
   have Hst:=Lib.hid (zf6 (ok:=TableP.partOk (nd:Int)) (code:=2) hmk)
   have Hnx:Hid ((TableP.partOk (nd:Int)) ⟨node,start,length,budget,words,r0,r1,r2,r3⟩→∀ W,Below wr.heap.size wr W→ChkRel (TableP.partOk (nd:Int)) 2 parts pn (w.alloc (.cells #[.int .i64 (nd:Nat),.int .i64 faulty,.int .i64 slot,.int .i64 gap,.int .i64 rho,.int .i64 dmin,.int .i64 dmax,.int .i64 margin,.slice PA pn pcap,.slice QA qn qcap,.slice RA rn rcap] 26)) (.int .i64 ((k:Int) + 1)) W):=Lib.hid fun hy W hW=>by
    refine ⟨k + 1,by omega,by go_num,?_,Hb.out.trans (hW.mono Hb.out.size)⟩
    rw [← Hck.out,Hst.out,if_pos hy]
   have Hbad:Hid (¬ (TableP.partOk (nd:Int)) ⟨node,start,length,budget,words,r0,r1,r2,r3⟩→∀ W,Below wr.heap.size wr W→RefChkPost R w (.returned (.string ⟨(atT 2 (k:Int)).toArray⟩)) W):=Lib.hid fun hy W hW=>by
    have h0:=Hck.out
    rw [Hst.out,if_neg hy] at h0
    rw [HE1.out _ h0.symm]
    exact ⟨rfl,Hbw.out.trans (hW.mono Hbw.out.size)⟩
   have HN:=Lib.hid (fun W=>HA.out 2 (k:Int) W (by omega) (by omega))
   clear hmk Hst Hfr
   subst e
   have hwn:=zu5 (n:=nd) (by omega)
   have V0:=Lib.hid (fun W=>zb6 node 0 ((nd:Int) - 1) W)
   have V1:=Lib.hid (fun W=>zb6 start 0 268435456 W)
   have V2:=Lib.hid (fun W=>zb6 length 1 268435456 W)
   have V3:=Lib.hid (fun W=>zb6 budget 0 64 W)
   have V4:=Lib.hid (fun W=>zb6 words 0 16 W)
   go_upto_region 9 with (fail)
   go_cut [5] (fun s wx=>s = .bool (decide (TableP.up node 0 ((nd:Int) - 1)∧TableP.up start 0 268435456∧TableP.up length 1 268435456∧TableP.up budget 0 64∧TableP.up words 0 16))∧wx=(wr.alloc (.cells #[.int .i64 node,.int .i64 start,.int .i64 length,.int .i64 budget,.int .i64 words,.int .u8 (r0:Nat),.int .u8 (r1:Nat),.int .u8 (r2:Nat),.int .u8 (r3:Nat)] 66)))
   case first=>
    clear Hnx Hbad HN
    go_wp2_with fail
    refine (V0.out _).mono ?_
    rintro e w1 ⟨rfl,rfl⟩
    by_cases h0:TableP.up node 0 ((nd:Int) - 1)
    case neg=>
     have Y:Hid (decide (TableP.up node 0 ((nd:Int) - 1)∧TableP.up start 0 268435456∧TableP.up length 1 268435456∧TableP.up budget 0 64∧TableP.up words 0 16)=false):=Lib.hid (decide_eq_false (fun h=>h0 h.1))
     rw [decide_eq_false h0]
     clear h0
     go_wp2_with fail
     go_meet
     exact ⟨by rw [Y.out],rfl⟩
    rw [decide_eq_true h0]
    have K0:=Lib.hid h0
    clear h0
    go_wp2_with fail
    refine (V1.out _).mono ?_
    rintro e w2 ⟨rfl,rfl⟩
    by_cases h1:TableP.up start 0 268435456
    case neg=>
     have Y:Hid (decide (TableP.up node 0 ((nd:Int) - 1)∧TableP.up start 0 268435456∧TableP.up length 1 268435456∧TableP.up budget 0 64∧TableP.up words 0 16)=false):=Lib.hid (decide_eq_false (fun h=>h1 h.2.1))
     rw [decide_eq_false h1]
     clear h1
     go_wp2_with fail
     go_meet
     exact ⟨by rw [Y.out],rfl⟩
    rw [decide_eq_true h1]
    have K1:=Lib.hid h1
    clear h1
    go_wp2_with fail
    refine (V2.out _).mono ?_
    rintro e w3 ⟨rfl,rfl⟩
    by_cases h2:TableP.up length 1 268435456
    case neg=>
     have Y:Hid (decide (TableP.up node 0 ((nd:Int) - 1)∧TableP.up start 0 268435456∧TableP.up length 1 268435456∧TableP.up budget 0 64∧TableP.up words 0 16)=false):=Lib.hid (decide_eq_false (fun h=>h2 h.2.2.1))
     rw [decide_eq_false h2]
     clear h2
     go_wp2_with fail
     go_meet
     exact ⟨by rw [Y.out],rfl⟩
    rw [decide_eq_true h2]
    have K2:=Lib.hid h2
    clear h2
    go_wp2_with fail
    refine (V3.out _).mono ?_
    rintro e w4 ⟨rfl,rfl⟩
    by_cases h3:TableP.up budget 0 64
    case neg=>
     have Y:Hid (decide (TableP.up node 0 ((nd:Int) - 1)∧TableP.up start 0 268435456∧TableP.up length 1 268435456∧TableP.up budget 0 64∧TableP.up words 0 16)=false):=Lib.hid (decide_eq_false (fun h=>h3 h.2.2.2.1))
     rw [decide_eq_false h3]
     clear h3
     go_wp2_with fail
     go_meet
     exact ⟨by rw [Y.out],rfl⟩
    rw [decide_eq_true h3]
    have K3:=Lib.hid h3
    clear h3
    go_wp2_with fail
    refine (V4.out _).mono ?_
    rintro e w5 ⟨rfl,rfl⟩
    by_cases h4:TableP.up words 0 16
    case neg=>
     have Y:Hid (decide (TableP.up node 0 ((nd:Int) - 1)∧TableP.up start 0 268435456∧TableP.up length 1 268435456∧TableP.up budget 0 64∧TableP.up words 0 16)=false):=Lib.hid (decide_eq_false (fun h=>h4 h.2.2.2.2))
     rw [decide_eq_false h4]
     clear h4
     go_wp2_with fail
     go_meet
     exact ⟨by rw [Y.out],rfl⟩
    rw [decide_eq_true h4]
    have K4:=Lib.hid h4
    clear h4
    go_wp2_with fail
    have Y:Hid (decide (TableP.up node 0 ((nd:Int) - 1)∧TableP.up start 0 268435456∧TableP.up length 1 268435456∧TableP.up budget 0 64∧TableP.up words 0 16)=true):=Lib.hid (decide_eq_true ⟨K0.out,K1.out,K2.out,K3.out,K4.out⟩)
    go_meet
    exact ⟨by rw [Y.out],rfl⟩
   case rest=>
    obtain ⟨rfl,rfl⟩:=hcut
    clear V0 V1 V2 V3 V4 kA c0 c1 c2 c3 c4 c5 c6 c7 c8
    obtain ⟨up,hup⟩:∃ up,up=decide (TableP.up node 0 ((nd:Int) - 1)∧TableP.up start 0 268435456∧TableP.up length 1 268435456∧TableP.up budget 0 64∧TableP.up words 0 16):=⟨_,rfl⟩
    have Hup:Hid (up=true↔TableP.up node 0 ((nd:Int) - 1)∧TableP.up start 0 268435456∧TableP.up length 1 268435456∧TableP.up budget 0 64∧TableP.up words 0 16):=Lib.hid (by rw [hup];exact decide_eq_true_iff)
    rw [← hup]
    clear hup
    go_wp2_with fail
    go_loopw [5,6] (fun o i wx=>(∃ q:Nat,q≤4∧i = .int .i64 (q:Nat)∧∃ bb:Bool,o = .bool bb∧(bb=true↔up=true∧(0 < q→r0≤3)∧(1 < q→r1≤3)∧(2 < q→r2≤3)∧(3 < q→r3≤3)))∧wx=(wr.alloc (.cells #[.int .i64 node,.int .i64 start,.int .i64 length,.int .i64 budget,.int .i64 words,.int .u8 (r0:Nat),.int .u8 (r1:Nat),.int .u8 (r2:Nat),.int .u8 (r3:Nat)] 66))) (fun _ i _=>(5 - intOf i).toNat)
    case atStart=>exact ⟨⟨0,by omega,rfl,up,rfl,by simp⟩,rfl⟩
    case round=>
     obtain ⟨⟨q,hq,rfl,bb,rfl,hbb⟩,rfl⟩:=hrel
     have Hbb:=Lib.hid hbb
     clear hbb
     by_cases hq4:q < 4
     case neg=>
      obtain rfl:q=4:=by omega
      have Hy:Hid (bb=true↔TableP.partOk (nd:Int) ⟨node,start,length,budget,words,r0,r1,r2,r3⟩):=Lib.hid (by
       rw [Hbb.out,Hup.out]
       simp [TableP.partOk,and_assoc])
      clear Hbb Hup
      cases bb with
      | true=>
       have HR0:=Lib.hid (Hnx.out (Hy.out.1 rfl))
       clear Hnx Hbad Hy HN
       go_wp2_with fail
       go_roundw
       case rel=>exact HR0.out _ ((Below.refl _ _).alloc (Nat.le_refl _) _)
       case measure=>simp [intOf];omega
      | false=>
       have HR0:=Lib.hid (Hbad.out (fun h=>by have:=Hy.out.2 h;cases this))
       clear Hnx Hbad Hy
       go_wp2_with fail
       refine (HN.out _).mono ?_
       rintro e w9 ⟨rfl,hb9⟩
       have Hb9:=Lib.hid hb9
       clear hb9
       go_wp2_with fail
       go_ret
       exact HR0.out _ (((Below.refl _ _).alloc (Nat.le_refl _) _).trans (Hb9.out.mono (by simp)))
     have q5:decide ((q:Int) < 4)=true:=decide_eq_true (by omega)
     cases bb with
     | false=>
      have HR0:Hid (false=true↔up=true∧(0 < q + 1→r0≤3)∧(1 < q + 1→r1≤3)∧(2 < q + 1→r2≤3)∧(3 < q + 1→r3≤3)):=Lib.hid (Iff.intro (fun h=>by cases h) (fun h=>Hbb.out.2 ⟨h.1,fun h3=>h.2.1 (by omega),fun h3=>h.2.2.1 (by omega),fun h3=>h.2.2.2.1 (by omega),fun h3=>h.2.2.2.2 (by omega)⟩))
      clear Hbb Hup Hnx Hbad HN
      go_wp2_with fail
      go_roundw
      case rel=>exact ⟨⟨q + 1,by omega,by go_num,false,rfl,HR0.out⟩,trivial⟩
      case measure=>simp [intOf];omega
     | true=>
      have hq5:q=0∨q=1∨q=2∨q=3:=by omega
      have HU:=Lib.hid (Hbb.out.1 rfl)
      clear Hbb Hup Hnx Hbad HN q5 hq4
      rcases hq5 with rfl | rfl | rfl | rfl
      ·have y:decide ((r0:Int)≤3)=decide (r0≤3):=decide_eq_decide.2 (by omega)
       have HR0:Hid (decide (r0≤3)=true↔up=true∧(0 < 1→r0≤3)∧(1 < 1→r1≤3)∧(2 < 1→r2≤3)∧(3 < 1→r3≤3)):=Lib.hid (by
        have hU:=HU.out
        rw [decide_eq_true_iff]
        simp at hU ⊢
        simp [hU])
       go_wp2_with fail
       go_roundw
       case rel=>exact ⟨⟨1,by omega,rfl,_,rfl,HR0.out⟩,trivial⟩
       case measure=>simp [intOf]
      ·have y:decide ((r1:Int)≤3)=decide (r1≤3):=decide_eq_decide.2 (by omega)
       have HR0:Hid (decide (r1≤3)=true↔up=true∧(0 < 2→r0≤3)∧(1 < 2→r1≤3)∧(2 < 2→r2≤3)∧(3 < 2→r3≤3)):=Lib.hid (by
        have hU:=HU.out
        rw [decide_eq_true_iff]
        simp at hU ⊢
        simp [hU])
       go_wp2_with fail
       go_roundw
       case rel=>exact ⟨⟨2,by omega,rfl,_,rfl,HR0.out⟩,trivial⟩
       case measure=>simp [intOf]
      ·have y:decide ((r2:Int)≤3)=decide (r2≤3):=decide_eq_decide.2 (by omega)
       have HR0:Hid (decide (r2≤3)=true↔up=true∧(0 < 3→r0≤3)∧(1 < 3→r1≤3)∧(2 < 3→r2≤3)∧(3 < 3→r3≤3)):=Lib.hid (by
        have hU:=HU.out
        rw [decide_eq_true_iff]
        simp at hU ⊢
        simp [hU])
       go_wp2_with fail
       go_roundw
       case rel=>exact ⟨⟨3,by omega,rfl,_,rfl,HR0.out⟩,trivial⟩
       case measure=>simp [intOf]
      ·have y:decide ((r3:Int)≤3)=decide (r3≤3):=decide_eq_decide.2 (by omega)
       have HR0:Hid (decide (r3≤3)=true↔up=true∧(0 < 4→r0≤3)∧(1 < 4→r1≤3)∧(2 < 4→r2≤3)∧(3 < 4→r3≤3)):=Lib.hid (by
        have hU:=HU.out
        rw [decide_eq_true_iff]
        simp at hU ⊢
        simp [hU])
       go_wp2_with fail
       go_roundw
       case rel=>exact ⟨⟨4,by omega,rfl,_,rfl,HR0.out⟩,trivial⟩
       case measure=>simp [intOf]
  have hkn:pn=k:=by omega
  have hnone:TableP.first (TableP.partOk (nd:Int)) 2 0 parts=none:=by
   rw [← Hck.out];exact zg8 (by omega)
  obtain ⟨hs1,hs2⟩:=HE2.out hnone
  have HE3:=Lib.hid hs1
  have HE4:=Lib.hid hs2
  clear HE1 HE2 hs1 hs2 hnone Hck kA
  have HST:=Lib.hid Hb.out
  clear Hb Hbw Hfr
  subst hkn
  go_wp2_with fail
  clear k0 k8 k9 k10
  go_loopw [7] (ChkRel (TableP.portOk pn) 8 ports qn (w.alloc (.cells #[.int .i64 (nd:Nat),.int .i64 faulty,.int .i64 slot,.int .i64 gap,.int .i64 rho,.int .i64 dmin,.int .i64 dmax,.int .i64 margin,.slice PA pn pcap,.slice QA qn qcap,.slice RA rn rcap] 26))) (fun i _=>(qn + 1 - intOf i).toNat)
  case atStart=>exact ⟨0,Nat.zero_le _,rfl,rfl,HST.out⟩
  case round=>
   clear HST
   obtain ⟨k,hk,rfl,hck,hb⟩:=hrel
   have Hb:=Lib.hid hb
   have Hck:=Lib.hid hck
   have hbw:Below w.heap.size w wr:=HB.out.trans (hb.mono (by rw [HS.out];omega))
   have Hbw:=Lib.hid hbw
   have Hfr:=Lib.hid (HFr.out.below hbw)
   obtain ⟨k0,-,-,-,-,-,-,-,k8,k9,k10⟩:=HX.out wr hb
   simp only at k0 k8 k9 k10
   have kA:∀ o,(wr.alloc o).cell? ⟨w.heap.size,8,none⟩=some (.slice PA pn pcap):=fun o=>(HX.out _ (hb.alloc hb.size o)).c8
   clear hbw hb hck
   by_cases hlt:k < qn
   ·obtain ⟨⟨part,kind,out,size,depth,fresh⟩,hmk⟩:∃ y,ports[k]? = some y:=⟨_,List.getElem?_eq_getElem (by omega)⟩
    obtain ⟨b,off,e,hbl,c0,c1,c2,c3,c4,c5⟩:=zh2 Hfr.out.ports hmk
    simp only at e c0 c1 c2 c3 c4 c5
    have hwn:=zu5 (n:=pn) (by omega)
    have Hst:=Lib.hid (zf6 (ok:=TableP.portOk pn) (code:=8) hmk)
    have Hnx:Hid ((TableP.portOk pn) ⟨part,kind,out,size,depth,fresh⟩→∀ W,Below wr.heap.size wr W→ChkRel (TableP.portOk pn) 8 ports qn (w.alloc (.cells #[.int .i64 (nd:Nat),.int .i64 faulty,.int .i64 slot,.int .i64 gap,.int .i64 rho,.int .i64 dmin,.int .i64 dmax,.int .i64 margin,.slice PA pn pcap,.slice QA qn qcap,.slice RA rn rcap] 26)) (.int .i64 ((k:Int) + 1)) W):=Lib.hid fun hy W hW=>by
     refine ⟨k + 1,by omega,by go_num,?_,Hb.out.trans (hW.mono Hb.out.size)⟩
     rw [← Hck.out,Hst.out,if_pos hy]
    have Hbad:Hid (¬ (TableP.portOk pn) ⟨part,kind,out,size,depth,fresh⟩→∀ W,Below wr.heap.size wr W→RefChkPost R w (.returned (.string ⟨(atT 8 (k:Int)).toArray⟩)) W):=Lib.hid fun hy W hW=>by
     have h0:=Hck.out
     rw [Hst.out,if_neg hy] at h0
     rw [HE3.out _ h0.symm]
     exact ⟨rfl,Hbw.out.trans (hW.mono Hbw.out.size)⟩
    have HN:=Lib.hid (fun W=>HA.out 8 (k:Int) W (by omega) (by omega))
    clear hmk Hst Hfr
    subst e
    have V0:Hid (∀ W,Calls Tryz.prog 58 #[.int .i64 part,.int .i64 0,.int .i64 ((pn:Int) - 1)] W (Pure (.bool (decide (TableP.up part 0 ((pn:Int) - 1)))) W)):=Lib.hid fun W=>zb6 part 0 ((pn:Int) - 1) W
    have V1:Hid (∀ W,Calls Tryz.prog 58 #[.int .i64 size,.int .i64 0,.int .i64 16] W (Pure (.bool (decide (TableP.up size 0 16))) W)):=Lib.hid fun W=>zb6 size 0 16 W
    have V2:Hid (∀ W,Calls Tryz.prog 58 #[.int .i64 fresh,.int .i64 0,.int .i64 8] W (Pure (.bool (decide (TableP.up fresh 0 8))) W)):=Lib.hid fun W=>zb6 fresh 0 8 W
    have V3:Hid (∀ W,Calls Tryz.prog 58 #[.int .i64 depth,.int .i64 1,.int .i64 4] W (Pure (.bool (decide (TableP.up depth 1 4))) W)):=Lib.hid fun W=>zb6 depth 1 4 W
    by_cases hk1:kind=1
    ·have y1:((kind:Int) == 1)=true:=by rw [hk1];rfl
     by_cases h0:TableP.up part 0 ((pn:Int) - 1)
     case neg=>
      rw [decide_eq_false h0] at V0
      have HR0:=Lib.hid (Hbad.out (fun h=>h0 h.1))
      clear Hnx Hbad
      clear V1 V2 V3 h0 hk1
      go_wp2_with fail
      refine (V0.out _).mono ?_
      rintro e w1 ⟨rfl,rfl⟩
      go_wp2_with fail
      refine (HN.out _).mono ?_
      rintro e w9 ⟨rfl,hb9⟩
      have Hb9:=Lib.hid hb9
      clear hb9
      go_wp2_with fail
      go_ret
      exact HR0.out _ (((Below.refl _ _).alloc (Nat.le_refl _) _).trans (Hb9.out.mono (by simp)))
     rw [decide_eq_true h0] at V0
     by_cases h1:TableP.up size 0 16
     case neg=>
      rw [decide_eq_false h1] at V1
      have HR0:=Lib.hid (Hbad.out (fun h=>h1 h.2.1))
      clear Hnx Hbad
      clear V2 V3 h0 h1 hk1
      go_wp2_with fail
      refine (V0.out _).mono ?_
      rintro e w1 ⟨rfl,rfl⟩
      go_wp2_with fail
      refine (V1.out _).mono ?_
      rintro e w1 ⟨rfl,rfl⟩
      go_wp2_with fail
      refine (HN.out _).mono ?_
      rintro e w9 ⟨rfl,hb9⟩
      have Hb9:=Lib.hid hb9
      clear hb9
      go_wp2_with fail
      go_ret
      exact HR0.out _ (((Below.refl _ _).alloc (Nat.le_refl _) _).trans (Hb9.out.mono (by simp)))
     rw [decide_eq_true h1] at V1
     by_cases h2:depth=0
     case neg=>
      have y2:(depth == 0)=false:=by rw [beq_eq_false_iff_ne];exact h2
      have HR0:=Lib.hid (Hbad.out (fun h=>by rcases h.2.2 with ⟨_,h4,_⟩ | ⟨h4,_⟩;exact h2 h4;simp only at h4;omega))
      clear Hnx Hbad
      clear V2 V3 h0 h1 h2 hk1
      go_wp2_with fail
      refine (V0.out _).mono ?_
      rintro e w1 ⟨rfl,rfl⟩
      go_wp2_with fail
      refine (V1.out _).mono ?_
      rintro e w1 ⟨rfl,rfl⟩
      go_wp2_with fail
      refine (HN.out _).mono ?_
      rintro e w9 ⟨rfl,hb9⟩
      have Hb9:=Lib.hid hb9
      clear hb9
      go_wp2_with fail
      go_ret
      exact HR0.out _ (((Below.refl _ _).alloc (Nat.le_refl _) _).trans (Hb9.out.mono (by simp)))
     have y2:(depth == 0)=true:=by rw [h2];rfl
     by_cases h3:TableP.up fresh 0 8
     case neg=>
      rw [decide_eq_false h3] at V2
      have HR0:=Lib.hid (Hbad.out (fun h=>by rcases h.2.2 with ⟨_,_,h4,_⟩ | ⟨h4,_⟩;exact h3 h4;simp only at h4;omega))
      clear Hnx Hbad
      clear V3 h0 h1 h2 h3 hk1
      go_wp2_with fail
      refine (V0.out _).mono ?_
      rintro e w1 ⟨rfl,rfl⟩
      go_wp2_with fail
      refine (V1.out _).mono ?_
      rintro e w1 ⟨rfl,rfl⟩
      go_wp2_with fail
      refine (V2.out _).mono ?_
      rintro e w1 ⟨rfl,rfl⟩
      go_wp2_with fail
      refine (HN.out _).mono ?_
      rintro e w9 ⟨rfl,hb9⟩
      have Hb9:=Lib.hid hb9
      clear hb9
      go_wp2_with fail
      go_ret
      exact HR0.out _ (((Below.refl _ _).alloc (Nat.le_refl _) _).trans (Hb9.out.mono (by simp)))
     rw [decide_eq_true h3] at V2
     by_cases h4:out=true
     ·by_cases h5:fresh=0
      ·have y3:(fresh != 0)=false:=by rw [h5];rfl
       subst h4
       have HR0:=Lib.hid (Hnx.out (⟨h0,h1,.inl ⟨hk1,h2,h3,fun h=>h.2 h5⟩⟩))
       clear Hnx Hbad HN
       clear V3 h0 h1 h2 h3 h5 hk1
       go_wp2_with fail
       refine (V0.out _).mono ?_
       rintro e w1 ⟨rfl,rfl⟩
       go_wp2_with fail
       refine (V1.out _).mono ?_
       rintro e w1 ⟨rfl,rfl⟩
       go_wp2_with fail
       refine (V2.out _).mono ?_
       rintro e w1 ⟨rfl,rfl⟩
       go_wp2_with fail
       go_roundw
       case rel=>exact HR0.out _ ((Below.refl _ _).alloc (Nat.le_refl _) _)
       case measure=>simp [intOf];omega
      ·have y3:(fresh != 0)=true:=by rw [bne_iff_ne];exact h5
       subst h4
       have HR0:=Lib.hid (Hbad.out (fun h=>by rcases h.2.2 with ⟨_,_,_,h4⟩ | ⟨h4,_⟩;exact h4 ⟨rfl,h5⟩;simp only at h4;omega))
       clear Hnx Hbad
       clear V3 h0 h1 h2 h3 h5 hk1
       go_wp2_with fail
       refine (V0.out _).mono ?_
       rintro e w1 ⟨rfl,rfl⟩
       go_wp2_with fail
       refine (V1.out _).mono ?_
       rintro e w1 ⟨rfl,rfl⟩
       go_wp2_with fail
       refine (V2.out _).mono ?_
       rintro e w1 ⟨rfl,rfl⟩
       go_wp2_with fail
       refine (HN.out _).mono ?_
       rintro e w9 ⟨rfl,hb9⟩
       have Hb9:=Lib.hid hb9
       clear hb9
       go_wp2_with fail
       go_ret
       exact HR0.out _ (((Below.refl _ _).alloc (Nat.le_refl _) _).trans (Hb9.out.mono (by simp)))
     ·have h5:out=false:=by cases out<;>simp at h4 ⊢
      subst h5
      have HR0:=Lib.hid (Hnx.out (⟨h0,h1,.inl ⟨hk1,h2,h3,fun h=>by cases h.1⟩⟩))
      clear Hnx Hbad HN
      clear V3 h0 h1 h2 h3 h4 hk1
      go_wp2_with fail
      refine (V0.out _).mono ?_
      rintro e w1 ⟨rfl,rfl⟩
      go_wp2_with fail
      refine (V1.out _).mono ?_
      rintro e w1 ⟨rfl,rfl⟩
      go_wp2_with fail
      refine (V2.out _).mono ?_
      rintro e w1 ⟨rfl,rfl⟩
      go_wp2_with fail
      go_roundw
      case rel=>exact HR0.out _ ((Below.refl _ _).alloc (Nat.le_refl _) _)
      case measure=>simp [intOf];omega
    ·have y1:((kind:Int) == 1)=false:=by rw [beq_eq_false_iff_ne];omega
     by_cases h0:TableP.up part 0 ((pn:Int) - 1)
     case neg=>
      rw [decide_eq_false h0] at V0
      have HR0:=Lib.hid (Hbad.out (fun h=>h0 h.1))
      clear Hnx Hbad
      clear V1 V2 V3 h0 hk1
      go_wp2_with fail
      refine (V0.out _).mono ?_
      rintro e w1 ⟨rfl,rfl⟩
      go_wp2_with fail
      refine (HN.out _).mono ?_
      rintro e w9 ⟨rfl,hb9⟩
      have Hb9:=Lib.hid hb9
      clear hb9
      go_wp2_with fail
      go_ret
      exact HR0.out _ (((Below.refl _ _).alloc (Nat.le_refl _) _).trans (Hb9.out.mono (by simp)))
     rw [decide_eq_true h0] at V0
     by_cases h1:TableP.up size 0 16
     case neg=>
      rw [decide_eq_false h1] at V1
      have HR0:=Lib.hid (Hbad.out (fun h=>h1 h.2.1))
      clear Hnx Hbad
      clear V2 V3 h0 h1 hk1
      go_wp2_with fail
      refine (V0.out _).mono ?_
      rintro e w1 ⟨rfl,rfl⟩
      go_wp2_with fail
      refine (V1.out _).mono ?_
      rintro e w1 ⟨rfl,rfl⟩
      go_wp2_with fail
      refine (HN.out _).mono ?_
      rintro e w9 ⟨rfl,hb9⟩
      have Hb9:=Lib.hid hb9
      clear hb9
      go_wp2_with fail
      go_ret
      exact HR0.out _ (((Below.refl _ _).alloc (Nat.le_refl _) _).trans (Hb9.out.mono (by simp)))
     rw [decide_eq_true h1] at V1
     by_cases h2:kind=2
     case neg=>
      have y2:((kind:Int) == 2)=false:=by rw [beq_eq_false_iff_ne];omega
      have HR0:=Lib.hid (Hbad.out (fun h=>by rcases h.2.2 with ⟨h4,_⟩ | ⟨h4,_⟩;exact hk1 h4;exact h2 h4))
      clear Hnx Hbad
      clear V2 V3 h0 h1 h2 hk1
      go_wp2_with fail
      refine (V0.out _).mono ?_
      rintro e w1 ⟨rfl,rfl⟩
      go_wp2_with fail
      refine (V1.out _).mono ?_
      rintro e w1 ⟨rfl,rfl⟩
      go_wp2_with fail
      refine (HN.out _).mono ?_
      rintro e w9 ⟨rfl,hb9⟩
      have Hb9:=Lib.hid hb9
      clear hb9
      go_wp2_with fail
      go_ret
      exact HR0.out _ (((Below.refl _ _).alloc (Nat.le_refl _) _).trans (Hb9.out.mono (by simp)))
     have y2:((kind:Int) == 2)=true:=by rw [h2];rfl
     by_cases h3:TableP.up depth 1 4
     case neg=>
      rw [decide_eq_false h3] at V3
      have HR0:=Lib.hid (Hbad.out (fun h=>by rcases h.2.2 with ⟨h4,_⟩ | ⟨_,h4,_⟩;exact hk1 h4;exact h3 h4))
      clear Hnx Hbad
      clear V2 h0 h1 h2 h3 hk1
      go_wp2_with fail
      refine (V0.out _).mono ?_
      rintro e w1 ⟨rfl,rfl⟩
      go_wp2_with fail
      refine (V1.out _).mono ?_
      rintro e w1 ⟨rfl,rfl⟩
      go_wp2_with fail
      refine (V3.out _).mono ?_
      rintro e w1 ⟨rfl,rfl⟩
      go_wp2_with fail
      refine (HN.out _).mono ?_
      rintro e w9 ⟨rfl,hb9⟩
      have Hb9:=Lib.hid hb9
      clear hb9
      go_wp2_with fail
      go_ret
      exact HR0.out _ (((Below.refl _ _).alloc (Nat.le_refl _) _).trans (Hb9.out.mono (by simp)))
     rw [decide_eq_true h3] at V3
     by_cases h4:fresh=0
     ·have y3:(fresh == 0)=true:=by rw [h4];rfl
      have HR0:=Lib.hid (Hnx.out (⟨h0,h1,.inr ⟨h2,h3,h4⟩⟩))
      clear Hnx Hbad HN
      clear V2 h0 h1 h2 h3 h4 hk1
      go_wp2_with fail
      refine (V0.out _).mono ?_
      rintro e w1 ⟨rfl,rfl⟩
      go_wp2_with fail
      refine (V1.out _).mono ?_
      rintro e w1 ⟨rfl,rfl⟩
      go_wp2_with fail
      refine (V3.out _).mono ?_
      rintro e w1 ⟨rfl,rfl⟩
      go_wp2_with fail
      go_roundw
      case rel=>exact HR0.out _ ((Below.refl _ _).alloc (Nat.le_refl _) _)
      case measure=>simp [intOf];omega
     ·have y3:(fresh == 0)=false:=by rw [beq_eq_false_iff_ne];exact h4
      have HR0:=Lib.hid (Hbad.out (fun h=>by rcases h.2.2 with ⟨h5,_⟩ | ⟨_,_,h5⟩;exact hk1 h5;exact h4 h5))
      clear Hnx Hbad
      clear V2 h0 h1 h2 h3 h4 hk1
      go_wp2_with fail
      refine (V0.out _).mono ?_
      rintro e w1 ⟨rfl,rfl⟩
      go_wp2_with fail
      refine (V1.out _).mono ?_
      rintro e w1 ⟨rfl,rfl⟩
      go_wp2_with fail
      refine (V3.out _).mono ?_
      rintro e w1 ⟨rfl,rfl⟩
      go_wp2_with fail
      refine (HN.out _).mono ?_
      rintro e w9 ⟨rfl,hb9⟩
      have Hb9:=Lib.hid hb9
      clear hb9
      go_wp2_with fail
      go_ret
      exact HR0.out _ (((Below.refl _ _).alloc (Nat.le_refl _) _).trans (Hb9.out.mono (by simp)))
   have hkn:qn=k:=by omega
   have hnone:TableP.first (TableP.portOk pn) 8 0 ports=none:=by
    rw [← Hck.out];exact zg8 (by omega)
   have hR:=HE4.out hnone
   subst hR
   clear HE3 HE4 hnone Hck kA
   subst hkn
   have HST:=Lib.hid Hb.out
   clear Hb Hbw Hfr
   go_wp2_with fail
   clear k0 k8 k9 k10
   go_loopw [10] (ChkRel (TableP.routeOk qn) 72 routes rn (w.alloc (.cells #[.int .i64 (nd:Nat),.int .i64 faulty,.int .i64 slot,.int .i64 gap,.int .i64 rho,.int .i64 dmin,.int .i64 dmax,.int .i64 margin,.slice PA pn pcap,.slice QA qn qcap,.slice RA rn rcap] 26))) (fun i _=>(rn + 1 - intOf i).toNat)
   case atStart=>exact ⟨0,Nat.zero_le _,rfl,rfl,HST.out⟩
   case round=>
    clear HST
    obtain ⟨k,hk,rfl,hck,hb⟩:=hrel
    have Hb:=Lib.hid hb
    have Hck:=Lib.hid hck
    have hbw:Below w.heap.size w wr:=HB.out.trans (hb.mono (by rw [HS.out];omega))
    have Hbw:=Lib.hid hbw
    have Hfr:=Lib.hid (HFr.out.below hbw)
    obtain ⟨k0,-,-,-,-,-,-,-,k8,k9,k10⟩:=HX.out wr hb
    simp only at k0 k8 k9 k10
    have kA:∀ o,(wr.alloc o).cell? ⟨w.heap.size,9,none⟩=some (.slice QA qn qcap):=fun o=>(HX.out _ (hb.alloc hb.size o)).c9
    clear hbw hb hck
    by_cases hlt:k < rn
    ·obtain ⟨⟨src,dst⟩,hmk⟩:∃ y,routes[k]? = some y:=⟨_,List.getElem?_eq_getElem (by omega)⟩
     obtain ⟨b,off,e,hbl,c0,c1⟩:=zg7 Hfr.out.routes hmk
     simp only at e c0 c1
     have hwn:=zu5 (n:=qn) (by omega)
     have hltI:(k:Int) < (rn:Int):=by omega
     have hk0:(0:Int)≤(k:Int):=by omega
     have Hst:=Lib.hid (zf6 (ok:=TableP.routeOk qn) (code:=72) hmk)
     have Hnx:Hid ((TableP.routeOk qn) ⟨src,dst⟩→∀ W,Below wr.heap.size wr W→ChkRel (TableP.routeOk qn) 72 routes rn (w.alloc (.cells #[.int .i64 (nd:Nat),.int .i64 faulty,.int .i64 slot,.int .i64 gap,.int .i64 rho,.int .i64 dmin,.int .i64 dmax,.int .i64 margin,.slice PA pn pcap,.slice QA qn qcap,.slice RA rn rcap] 26)) (.int .i64 ((k:Int) + 1)) W):=Lib.hid fun hy W hW=>by
      refine ⟨k + 1,by omega,by go_num,?_,Hb.out.trans (hW.mono Hb.out.size)⟩
      rw [← Hck.out,Hst.out,if_pos hy]
     have Hbad:Hid (¬ (TableP.routeOk qn) ⟨src,dst⟩→∀ W,Below wr.heap.size wr W→RefChkPost (TableP.first (TableP.routeOk qn) 72 0 routes) w (.returned (.string ⟨(atT 72 (k:Int)).toArray⟩)) W):=Lib.hid fun hy W hW=>by
      have h0:=Hck.out
      rw [Hst.out,if_neg hy] at h0
      rw [← h0]
      exact ⟨rfl,Hbw.out.trans (hW.mono Hbw.out.size)⟩
     have HN:=Lib.hid (fun W=>HA.out 72 (k:Int) W (by omega) (by omega))
     clear hmk Hst Hfr
     subst e
     have V0:=Lib.hid (fun W=>zb6 src 0 ((qn:Int) - 1) W)
     have V1:=Lib.hid (fun W=>zb6 dst 0 ((qn:Int) - 1) W)
     have hbd:∀ m,Below wr.heap.size wr (wr.drewN m):=fun m=>zi4 (Below.refl _ _) m
     have Hbd:=Lib.hid hbd
     clear hbd kA
     by_cases h0:TableP.up src 0 ((qn:Int) - 1)
     case neg=>
      have HR0:=Lib.hid (Hbad.out (fun h=>h0 h.1))
      rw [decide_eq_false h0] at V0
      clear Hnx Hbad h0 V1
      go_wp2_with fail
      go_quiet ((go_at_call 58;exact zd5 (V0.out _)))
      go_wp2_with fail
      refine (HN.out _).mono ?_
      rintro e w9 ⟨rfl,hb9⟩
      have Hb9:=Lib.hid hb9
      clear hb9
      go_wp2_with fail
      go_ret
      exact HR0.out _ ((Hbd.out _).trans (Hb9.out.mono (Hbd.out _).size))
     rw [decide_eq_true h0] at V0
     by_cases h1:TableP.up dst 0 ((qn:Int) - 1)
     case neg=>
      have HR0:=Lib.hid (Hbad.out (fun h=>h1 h.2))
      rw [decide_eq_false h1] at V1
      clear Hnx Hbad h0 h1
      go_wp2_with fail
      go_quiet ((first | (go_at_call_of 58 src;exact zd5 (V0.out _)) | (go_at_call_of 58 dst;exact zd5 (V1.out _))))
      go_wp2_with fail
      refine (HN.out _).mono ?_
      rintro e w9 ⟨rfl,hb9⟩
      have Hb9:=Lib.hid hb9
      clear hb9
      go_wp2_with fail
      go_ret
      exact HR0.out _ ((Hbd.out _).trans (Hb9.out.mono (Hbd.out _).size))
     rw [decide_eq_true h1] at V1
     have HR0:=Lib.hid (Hnx.out ⟨h0,h1⟩)
     clear Hnx Hbad h0 h1 HN
     go_wp2_with fail
     go_quiet ((first | (go_at_call_of 58 src;exact zd5 (V0.out _)) | (go_at_call_of 58 dst;exact zd5 (V1.out _))))
     go_wp2_with fail
     go_roundw
     case rel=>exact HR0.out _ (Hbd.out _)
     case measure=>simp [intOf];omega
    have hkn:rn=k:=by omega
    have hnone:TableP.first (TableP.routeOk qn) 72 0 routes=none:=by
     rw [← Hck.out];exact zg8 (by omega)
    have HF:Hid (RefChkPost (TableP.first (TableP.routeOk qn) 72 0 routes) w (.returned (.string ⟨#[]⟩)) wr):=Lib.hid (by rw [hnone];exact ⟨rfl,Hbw.out⟩)
    subst hkn
    clear hnone
    go_wp2_with fail
    go_ret
    exact HF.out
theorem zn6 (x:CfgC) (w:World) (h:CfgIn w x) :
 Calls Tryz.prog 41 #[x.value] w (RefChkPost (TableP.chk x.plain) w):=by
 by_cases h1:TableP.headOk x.plain
 ·by_cases h2:12 < x.pn∨24 < x.qn∨24 < x.rn
  ·exact zu4 x w h1 h2 h
  ·exact zu6 x w h h1 h2
 ·exact zu3 x w h1
open Go.RowKit Go.Extern.Stop Go.Stop Go.Extern
theorem zN9:∀ (f n:Nat) (acc:List UInt8),acc≠[]→digs f n acc≠[]
 | 0,_,_,h=>by simpa [digs] using h
 | f + 1,n,acc,_=>by
  unfold digs
  split
  ·simp
  ·exact zN9 f _ _ (by simp)
theorem zB5 (n:Nat):numN n≠[]:=by
 unfold numN digs
 split
 ·simp
 ·exact zN9 _ _ _ (by simp)
theorem zH6 {l:List (Nat × Int × Int)} {t:Option Int} (h:errV l t≠.nilIface):sufT t false l=62 :: sufT t true l:=by
 match l,t with
 | [],none=>exact absurd rfl h
 | [],some m=>simp [sufT,sep]
 | (b,c,a) :: r,t=>simp [sufT,sep]
open Go.RowKit
structure Rd where
 out:List Int
 n:Int
 d:Bool
 p:Bool
def Rd.step (s:Rd) (c:UInt8):Rd:=
 if c=62 then { out:=if s.d then s.out ++ [s.n] else s.out,n:=0,d:=false,p:=false }
 else if c=64 then { s with p:=true }
 else if !s.p && (decide (48≤c.toNat) && decide (c.toNat≤57)) then { s with n:=wrap64 (wrap64 (10 * s.n) + ((c.toNat:Int) - 48)),d:=true }
 else s
def Rd.init:Rd:=⟨[],0,false,false⟩
def trailP (x:List UInt8):List Int:=((x ++ [62]).foldl Rd.step Rd.init).out
def isDig (c:UInt8):Prop:=48≤c.toNat∧c.toNat≤57
theorem isDig_mk (n:Nat):isDig (48 + UInt8.ofNat (n % 10)):=by
 have:n % 10 < 10:=Nat.mod_lt _ (by omega)
 unfold isDig
 rw [UInt8.toNat_add,UInt8.toNat_ofNat']
 simp
 omega
theorem zE3:∀ (f n:Nat) (acc:List UInt8),(∀ c∈acc,isDig c)→∀ c∈digs f n acc,isDig c
 | 0,_,_,h,c,hc=>h c hc
 | f + 1,n,acc,h,c,hc=>by
  have h':∀ c∈(48 + UInt8.ofNat (n % 10)) :: acc,isDig c:=fun c hc=>by
   rcases List.mem_cons.1 hc with rfl | hc
   ·exact isDig_mk n
   ·exact h c hc
  unfold digs at hc
  split at hc
  ·exact h' c hc
  ·exact zE3 f _ _ h' c hc
theorem zu7 (n:Nat):∀ c∈numN n,isDig c:=zE3 20 n [] (fun c hc=>by cases hc)
def readN (x:List UInt8) (n:Int):Int:=x.foldl (fun n c=>wrap64 (wrap64 (10 * n) + ((c.toNat:Int) - 48))) n
theorem zu8:∀ (x:List UInt8) (s:Rd),(∀ c∈x,isDig c)→s.p=false→x≠[]→x.foldl Rd.step s = { s with n:=readN x s.n,d:=true }
 | [],_,_,_,h=>absurd rfl h
 | c :: r,s,hd,hp,_=>by
  have h1:=hd c (by simp)
  have hs:s.step c = { s with n:=wrap64 (wrap64 (10 * s.n) + ((c.toNat:Int) - 48)),d:=true }:=by
   unfold Rd.step
   have a1:c≠62:=by rintro rfl;have:=h1.2;simp at this
   have a2:c≠64:=by rintro rfl;have:=h1.2;simp at this
   rw [if_neg a1,if_neg a2,if_pos (by simp [hp,h1.1,h1.2])]
  rw [List.foldl_cons,hs]
  by_cases hr:r=[]
  ·subst hr;rfl
  ·rw [zu8 r _ (fun c hc=>hd c (by simp [hc])) (by exact hp) hr]
   rfl
theorem zy3:∀ (x:List UInt8) (s:Rd),(∀ c∈x,c≠62)→s.p=true→x.foldl Rd.step s=s
 | [],_,_,_=>rfl
 | c :: r,s,hd,hp=>by
  have hs:s.step c=s:=by
   unfold Rd.step
   rw [if_neg (hd c (by simp))]
   by_cases h:c=64
   ·rw [if_pos h];cases s;simp_all
   ·rw [if_neg h,if_neg (by simp [hp])]
  rw [List.foldl_cons,hs]
  exact zy3 r s (fun c hc=>hd c (by simp [hc])) hp
theorem numI_skip (a:Int):∀ c∈numI a,c≠62:=by
 intro c hc e
 unfold numI at hc
 have key:∀ n,c∈numN n→False:=fun n h=>by
  have:=(zu7 n c h).2
  rw [e] at this;simp at this
 split at hc
 ·rcases List.mem_cons.1 hc with h | h
  ·rw [e] at h;exact absurd h (by decide)
  ·exact key _ h
 ·exact key _ hc
theorem zy4 (n:Nat) (h:n < 200):readN (numN n) 0=n:=by
 have:∀ n:Fin 200,readN (numN n.1) 0=(n.1:Int):=by decide +kernel
 exact this ⟨n,h⟩
theorem fold_at (s:Rd) (c:Nat) (a:Int) (h:c < 200) (hs:s.n=0∧s.d=false∧s.p=false) :
 (atT c a).foldl Rd.step s = { out:=s.out,n:=c,d:=true,p:=true }:=by
 unfold atT
 rw [List.foldl_append,List.foldl_cons,zu8 _ _ (zu7 c) hs.2.2 (zB5 c),hs.1,zy4 c h]
 have h64:Rd.step { out:=s.out,n:=(c:Int),d:=true,p:=s.p } 64 = { out:=s.out,n:=c,d:=true,p:=true }:=by
  unfold Rd.step
  rw [if_neg (by decide),if_pos rfl]
 show (numI (plc a)).foldl Rd.step (Rd.step { out:=s.out,n:=(c:Int),d:=true,p:=s.p } 64)=_
 rw [h64]
 exact zy3 _ _ (numI_skip _) rfl
def Fresh (s:Rd):Prop:=s.n=0∧s.d=false∧s.p=false
theorem step62 (s:Rd):s.step 62 = { out:=if s.d then s.out ++ [s.n] else s.out,n:=0,d:=false,p:=false }:=by
 unfold Rd.step
 rw [if_pos rfl]
theorem zy5 (t:Option Int):∀ (l:List (Nat × Int × Int)) (s:Rd),Good l t→Fresh s→errV l t≠.nilIface→((sufT t true l ++ [62]).foldl Rd.step s).out=s.out ++ codes l t∧Fresh ((sufT t true l ++ [62]).foldl Rd.step s)
 | [],s,hg,hf,hne=>by
  match t,hne with
  | none,hne=>exact absurd rfl hne
  | some m,_=>
   obtain ⟨h1,h2⟩:=hg.2 m rfl
   have e:sufT (some m) true []=numN m.toNat:=by simp [sufT,sep]
   rw [e,List.foldl_append,zu8 _ _ (zu7 _) hf.2.2 (zB5 _),hf.1,zy4 _ (by omega),List.foldl_cons,List.foldl_nil,step62]
   refine ⟨?_,rfl,rfl,rfl⟩
   simp [codes]
   omega
 | (b,c,a) :: r,s,hg,hf,_=>by
  obtain ⟨h1,h2,_,_⟩:=hg.1 0 (by simp)
  have hc:(nd ((b,c,a) :: r) 0).2.1=c:=by simp [nd]
  rw [hc] at h1 h2
  have hg':Good r t:=⟨fun n hn=>by
   have:=hg.1 (n + 1) (by simpa using hn)
   simpa [nd] using this,hg.2⟩
  have e:sufT t true ((b,c,a) :: r)=atT c.toNat a ++ sufT t false r:=by simp [sufT,sep]
  by_cases hn:errV r t = .nilIface
  ·have hr:r=[]∧t=none:=by
    match r,t with
    | [],none=>exact ⟨rfl,rfl⟩
    | [],some m=>simp [errV] at hn
    | (_,_,_) :: _,_=>simp [errV] at hn
   obtain ⟨rfl,rfl⟩:=hr
   rw [e]
   simp only [sufT,List.append_nil]
   rw [List.foldl_append,fold_at s _ _ (by omega) hf,List.foldl_cons,List.foldl_nil,step62]
   refine ⟨?_,rfl,rfl,rfl⟩
   simp [codes]
   omega
  ·rw [e,zH6 hn,List.append_assoc,List.foldl_append,fold_at s _ _ (by omega) hf,List.cons_append,List.foldl_cons,step62]
   obtain ⟨i1,i2⟩:=zy5 t r { out:=s.out ++ [(c.toNat:Int)],n:=0,d:=false,p:=false } hg' ⟨rfl,rfl,rfl⟩ hn
   refine ⟨?_,i2⟩
   simp only [if_true]
   rw [i1]
   have:(c.toNat:Int)=c:=by omega
   simp [codes,this]
theorem zk7 {l:List (Nat × Int × Int)} {t:Option Int} (hg:Good l t):trailP (sufT t true l)=codes l t:=by
 unfold trailP
 by_cases hn:errV l t = .nilIface
 ·have hr:l=[]∧t=none:=by
   match l,t with
   | [],none=>exact ⟨rfl,rfl⟩
   | [],some m=>simp [errV] at hn
   | (_,_,_) :: _,_=>simp [errV] at hn
  obtain ⟨rfl,rfl⟩:=hr
  decide
 ·exact (zy5 t l Rd.init hg ⟨rfl,rfl,rfl⟩ hn).1
open Go.RowKit Go.Extern.Stop Go.Stop Go.Extern
def stAt (x:List UInt8) (i:Nat):Rd:=((x ++ [62]).take i).foldl Rd.step Rd.init
theorem stAt_succ (x:List UInt8) (i:Nat) (c:UInt8) (h:(x ++ [62])[i]? = some c):stAt x (i + 1)=(stAt x i).step c:=by
 unfold stAt
 obtain ⟨h1,h2⟩:=List.getElem?_eq_some_iff.1 h
 rw [List.take_succ_eq_append_getElem h1,h2,List.foldl_append]
 rfl
theorem zE4 (s:Rd) (c:UInt8):(s.step c).out.length≤s.out.length + 1:=by
 unfold Rd.step
 repeat' split
 all_goals simp
theorem u8_ne (c k:UInt8) (h:c≠k):((c.toNat:Int) == (k.toNat:Int))=false:=by
 rw [beq_eq_false_iff_ne]
 intro e
 exact h (UInt8.toNat_inj.1 (by omega))
def TrRel (x:List UInt8) (w:World) (v3 v4 v5 v6 v7:Value) (wr:World):Prop:=
 ∃ i,i≤x.length + 1∧v7 = .int .i64 (i:Nat)∧v4 = .int .i64 (stAt x i).n∧v5 = .bool (stAt x i).d∧v6 = .bool (stAt x i).p ∧
  wr.ownsRow w.heap.size 3 1 v3 (stAt x i).out.length ((stAt x i).out.map (.int .i64))∧(stAt x i).out.length≤i∧Below w.heap.size w wr
def TrPost (x:List UInt8) (w:World) (e:Ending) (w':World):Prop:=
 ∃ v,e = .returned v∧w'.ownsRow w.heap.size 3 1 v (trailP x).length ((trailP x).map (.int .i64))∧Below w.heap.size w w'
theorem infoI:(Tryz.prog.info? 3).map (fun i=>(i.zero,i.size,i.bytes))=some (some (.int .i64 0),1,8):=by kernel_rfl
theorem tr_step {x:List UInt8} {w wr:World} {i:Nat} {c:UInt8} {s':Rd} {v3:Value} (hc:(x ++ [62])[i]? = some c) (hs:(stAt x i).step c=s')
 (ho:wr.ownsRow w.heap.size 3 1 v3 s'.out.length (s'.out.map (.int .i64))) (hl:(stAt x i).out.length≤i) (hb:Below w.heap.size w wr) :
 TrRel x w v3 (.int .i64 s'.n) (.bool s'.d) (.bool s'.p) (.int .i64 (↑i + 1)) wr:=by
 have e:stAt x (i + 1)=s':=(stAt_succ x i c hc).trans hs
 have h1:=(List.getElem?_eq_some_iff.1 hc).1
 have h2:=zE4 (stAt x i) c
 rw [hs] at h2
 refine ⟨i + 1,by simp at h1;omega,by simp,by rw [e],by rw [e],by rw [e],by rw [e];exact ho,by rw [e];omega,hb⟩
set_option maxRecDepth 100000 in
set_option maxHeartbeats 4000000 in
theorem zn7 (x:List UInt8) (w:World) (hx:x.length≤1000000) :
 Calls Tryz.prog 54 #[strV x] w (TrPost x w):=by
 have hst:Hid (TrRel x w (.slice none 0 0) (.int .i64 0) (.bool false) (.bool false) (.int .i64 0) w):=Lib.hid ⟨0,by omega,rfl,rfl,rfl,rfl,⟨rfl,.inl ⟨rfl,rfl⟩⟩,Nat.le_refl _,Below.refl _ _⟩
 have Hx:=Lib.hid hx
 unfold strV
 go_enter Tryz.func54,Tryz.ntmps54
 go_wp2_with fail
 go_loopw [3,4,5,6,7] (TrRel x w) (fun _ _ _ _ v _=>x.length + 2 - (intOf v).toNat)
 case atStart=>exact hst.out
 case round=>
  clear hst
  obtain ⟨i,hi,rfl,rfl,rfl,rfl,ho,hol,hb⟩:=hrel
  have hbs:=hb.size
  rcases Nat.lt_or_ge i x.length with hlt | hge
  ·have hlt':i < (ByteArray.mk x.toArray).size:=by simpa [ByteArray.size] using hlt
   obtain ⟨c,hcx⟩:∃ c,x[i]=c:=⟨_,rfl⟩
   have hxi:(ByteArray.mk x.toArray)[i]'hlt'=c:=hcx
   have hc:(x ++ [62])[i]? = some c:=by rw [List.getElem?_append_left hlt,List.getElem?_eq_getElem hlt,hcx]
   have hstep:Hid (∀ s' v3 wr',(stAt x i).step c=s'→wr'.ownsRow w.heap.size 3 1 v3 s'.out.length (s'.out.map (.int .i64))→Below w.heap.size w wr'→TrRel x w v3 (.int .i64 s'.n) (.bool s'.d) (.bool s'.p) (.int .i64 (↑i + 1)) wr'):=
    Lib.hid fun s' v3 wr' h1 h2 h3=>tr_step hc h1 h2 hol h3
   clear hc hcx
   rcases hS:stAt x i with ⟨o,n,d,p⟩
   rw [hS] at ho hol
   rw [hS] at hstep
   simp only at ho hol ⊢
   have Ho:=Lib.hid ho
   have Hb:=Lib.hid hb
   have Hbs:=Lib.hid hbs
   have Hq1:=Lib.hid (show o.length + 1≤maxLen by unfold maxLen;have:=Hx.out;omega)
   have Hq2:=Lib.hid (show (o.length + 1) * 8≤140737488355328 by have:=Hx.out;omega)
   have hil:i≤x.length:=by omega
   clear hS ho hb hbs hol hi
   by_cases c62:c=62
   ·have q1:((c.toNat:Int) == 62)=true:=by rw [c62];rfl
    cases d
    ·have hR:=Lib.hid (hstep.out ⟨o,0,false,false⟩ u3 wr (by rw [c62,step62];rfl) Ho.out Hb.out)
     clear c62 hstep
     go_wp2_with fail
     go_roundw
     case rel=>exact hR.out
     case measure=>simp [intOf];omega
    ·have hR:Hid (∀ v5 w7,w7.ownsRow w.heap.size 3 1 v5 (o.length + 1) (o.map (.int .i64) ++ [.int .i64 n])→Below w.heap.size wr w7→TrRel x w v5 (.int .i64 0) (.bool false) (.bool false) (.int .i64 (↑i + 1)) w7):=Lib.hid fun v5 w7 h1 h2=>
      hstep.out ⟨o ++ [n],0,false,false⟩ v5 w7 (by rw [c62,step62];rfl) (by simpa using h1) (Hb.out.trans h2)
     clear c62 hstep
     go_wp2_with (at_builtin
                  refine zd7 rfl (.tmp 26) (.tmp 28) 103 rfl w.heap.size 3 (.int .i64 0) 8 Tryz.underlying103 infoI rfl _ o.length _ rfl Ho.out 1 _ rfl rfl Hq1.out Hq2.out Hbs.out ?_
                  intro v5 w7 ho5 hb5 _
                  have HR:=Lib.hid (hR.out v5 w7 ho5 hb5)
                  clear ho5 hb5)
     go_roundw
     case rel=>exact HR.out
     case measure=>simp [intOf];omega
   ·have q1:((c.toNat:Int) == 62)=false:=u8_ne c 62 c62
    by_cases c64:c=64
    ·have q2:((c.toNat:Int) == 64)=true:=by rw [c64];rfl
     have hR:=Lib.hid (hstep.out ⟨o,n,d,true⟩ u3 wr (by unfold Rd.step;rw [if_neg c62,if_pos c64]) Ho.out Hb.out)
     clear c62 c64 hstep
     go_wp2_with fail
     go_roundw
     case rel=>exact hR.out
     case measure=>simp [intOf];omega
    ·have q2:((c.toNat:Int) == 64)=false:=u8_ne c 64 c64
     cases p
     ·by_cases hd:48≤c.toNat∧c.toNat≤57
      ·have hR:=Lib.hid (hstep.out ⟨o,wrap64 (wrap64 (10 * n) + ((c.toNat:Int) - 48)),true,false⟩ u3 wr (by unfold Rd.step;rw [if_neg c62,if_neg c64,if_pos (by simp [hd.1,hd.2])]) Ho.out Hb.out)
       have q3:(48:Int)≤(c.toNat:Int):=by omega
       have q4:(c.toNat:Int)≤57:=by omega
       have q5:48≤c.toNat:=hd.1
       have q6:c.toNat≤57:=hd.2
       clear c62 c64 hstep hd
       go_wp2_with fail
       go_roundw
       case rel=>exact hR.out
       case measure=>simp [intOf];omega
      ·have hR:=Lib.hid (hstep.out ⟨o,n,d,false⟩ u3 wr (by
        unfold Rd.step
        rw [if_neg c62,if_neg c64,if_neg (by simp;intro h;omega)]) Ho.out Hb.out)
       clear c62 c64 hstep
       by_cases h48:48≤c.toNat
       ·have q3:¬ (c.toNat:Int)≤57:=by omega
        have q4:(48:Int)≤(c.toNat:Int):=by omega
        have q6:¬ c.toNat≤57:=by omega
        clear hd
        go_wp2_with fail
        go_roundw
        case rel=>exact hR.out
        case measure=>simp [intOf];omega
       ·have q3:¬ (48:Int)≤(c.toNat:Int):=by omega
        clear hd
        go_wp2_with fail
        go_roundw
        case rel=>exact hR.out
        case measure=>simp [intOf];omega
     ·have hR:=Lib.hid (hstep.out ⟨o,n,d,true⟩ u3 wr (by unfold Rd.step;rw [if_neg c62,if_neg c64,if_neg (by simp)]) Ho.out Hb.out)
      clear c62 c64 hstep
      go_wp2_with fail
      go_roundw
      case rel=>exact hR.out
      case measure=>simp [intOf];omega
  ·rcases Nat.lt_or_ge x.length i with hgt | hle
   ·obtain rfl:i=x.length + 1:=by omega
    have hfin:Hid (TrPost x w (.returned u3) wr):=Lib.hid (by
     have e:stAt x (x.length + 1)=(x ++ [62]).foldl Rd.step Rd.init:=by
      unfold stAt
      rw [List.take_of_length_le (by simp)]
     rw [e] at ho
     exact ⟨_,rfl,ho,hb⟩)
    clear ho hb hol
    generalize (stAt x (x.length + 1)).n=n at *
    generalize (stAt x (x.length + 1)).d=d at *
    generalize (stAt x (x.length + 1)).p=p at *
    go_wp2_with fail
    go_ret
    exact hfin.out
   ·obtain rfl:x.length=i:=by omega
    have hc:(x ++ [62])[x.length]? = some 62:=by simp
    have hstep:Hid (∀ s' v3 wr',(stAt x x.length).step 62=s'→wr'.ownsRow w.heap.size 3 1 v3 s'.out.length (s'.out.map (.int .i64))→Below w.heap.size w wr'→TrRel x w v3 (.int .i64 s'.n) (.bool s'.d) (.bool s'.p) (.int .i64 (↑x.length + 1)) wr'):=
     Lib.hid fun s' v3 wr' h1 h2 h3=>tr_step hc h1 h2 hol h3
    clear hc
    rcases hS:stAt x x.length with ⟨o,n,d,p⟩
    rw [hS] at ho hol
    rw [hS] at hstep
    simp only at ho hol ⊢
    have Ho:=Lib.hid ho
    have Hb:=Lib.hid hb
    have Hbs:=Lib.hid hbs
    have Hq1:=Lib.hid (show o.length + 1≤maxLen by unfold maxLen;have:=Hx.out;omega)
    have Hq2:=Lib.hid (show (o.length + 1) * 8≤140737488355328 by have:=Hx.out;omega)
    clear hS ho hb hbs hol hi hge hle
    cases d
    ·have hR:=Lib.hid (hstep.out ⟨o,0,false,false⟩ u3 wr (by rw [step62];rfl) Ho.out Hb.out)
     clear hstep
     go_wp2_with fail
     go_roundw
     case rel=>exact hR.out
     case measure=>simp [intOf]
    ·have hR:Hid (∀ v5 w7,w7.ownsRow w.heap.size 3 1 v5 (o.length + 1) (o.map (.int .i64) ++ [.int .i64 n])→Below w.heap.size wr w7→TrRel x w v5 (.int .i64 0) (.bool false) (.bool false) (.int .i64 (↑x.length + 1)) w7):=Lib.hid fun v5 w7 h1 h2=>
      hstep.out ⟨o ++ [n],0,false,false⟩ v5 w7 (by rw [step62];rfl) (by simpa using h1) (Hb.out.trans h2)
     clear hstep
     go_wp2_with (at_builtin
                  refine zd7 rfl (.tmp 26) (.tmp 28) 103 rfl w.heap.size 3 (.int .i64 0) 8 Tryz.underlying103 infoI rfl _ o.length _ rfl Ho.out 1 _ rfl rfl Hq1.out Hq2.out Hbs.out ?_
                  intro v5 w7 ho5 hb5 _
                  have HR:=Lib.hid (hR.out v5 w7 ho5 hb5)
                  clear ho5 hb5)
     go_roundw
     case rel=>exact HR.out
     case measure=>simp [intOf]
open Go.RowKit Go.Extern.Stop Go.Stop Go.Extern
theorem zH7 (x:List UInt8):(trailP x).length≤x.length + 1:=by
 have key:∀ (y:List UInt8) (s:Rd),(y.foldl Rd.step s).out.length≤s.out.length + y.length:=by
  intro y
  induction y with
  | nil=>intro s;simp
  | cons c r ih=>
   intro s
   have h1:=ih (s.step c)
   have h2:=zE4 s c
   simp only [List.foldl_cons,List.length_cons]
   omega
 have:=key (x ++ [62]) Rd.init
 simpa [trailP,Rd.init] using this
def HasRel (xs:List Int) (code:Int) (v:Value):Prop:=∃ i,i≤xs.length∧v = .int .i64 (i:Nat)∧∀ j,j < i→xs[j]?≠some code
set_option maxRecDepth 100000 in
set_option maxHeartbeats 1000000 in
theorem zH8 (x:List UInt8) (code:Int) (w:World) (hx:x.length≤1000000) :
 Calls Tryz.prog 55 #[strV x,.int .i64 code] w fun e w'=>e = .returned (.bool (decide (code∈trailP x)))∧Below w.heap.size w w':=by
 have H:Hid (Calls Tryz.prog 54 #[strV x] w fun e w'=>∃ v,e = .returned v∧w'.ownsRow w.heap.size 3 1 v (trailP x).length ((trailP x).map (.int .i64))∧Below w.heap.size w w'):=Lib.hid (zn7 x w hx)
 have hlen:=zH7 x
 have hyes:code∈trailP x→decide (code∈trailP x)=true:=fun h=>decide_eq_true h
 have hno:code ∉ trailP x→decide (code∈trailP x)=false:=fun h=>decide_eq_false h
 have Hyes:=Lib.hid hyes
 have Hno:=Lib.hid hno
 clear hyes hno
 generalize hd:decide (code∈trailP x)=d at *
 clear hd
 generalize trailP x=xs at *
 have hxl:xs.length≤1000001:=by omega
 clear hlen hx
 unfold strV at *
 go_enter Tryz.func55,Tryz.ntmps55
 go_wp2_with fail
 refine H.out.mono ?_
 rintro e w1 ⟨v,rfl,ho,hb⟩
 have Hb:=Lib.hid hb
 have Hv:Hid (xs.length=0∧(v = .slice none 0 0∨∃ g cap,v = .slice (some ⟨g,0,none⟩) 0 cap)∨∃ g cap,v = .slice (some ⟨g,0,none⟩) xs.length cap∧∀ j (hj:j < xs.length),w1.cell? ⟨g,j,none⟩=some (.int .i64 xs[j])):=Lib.hid (by
  rcases Nat.eq_zero_or_pos xs.length with h0 | hpos
  ·rw [h0] at ho
   refine .inl ⟨h0,?_⟩
   rcases ho.2 with ⟨h,-⟩ | ⟨g,cap,cur,h,-⟩
   ·exact .inl h
   ·exact .inr ⟨g,cap,h⟩
  ·obtain ⟨g,cap,h,hat⟩:=zM9 ho hpos
   exact .inr ⟨g,cap,h,fun j hj=>by rw [hat j hj,List.getElem?_map,List.getElem?_eq_getElem hj];rfl⟩)
 have hst:Hid (HasRel xs code (.int .i64 0)):=Lib.hid ⟨0,Nat.zero_le _,rfl,fun j hj=>absurd hj (by omega)⟩
 clear ho hb
 rcases Hv.out with ⟨h0,rfl | ⟨g,cap,rfl⟩⟩ | ⟨g,cap,rfl,hat⟩
 ·have hn:=Hno.out (by rw [List.length_eq_zero_iff.1 h0];simp)
  subst hn
  clear Hv hst h0
  go_wp2_with fail
  refine wp_loop_rounds 1 ?_
  rw [rounds_succ]
  go_wp2_with fail
  go_ret
  exact ⟨rfl,Hb.out⟩
 ·have hn:=Hno.out (by rw [List.length_eq_zero_iff.1 h0];simp)
  subst hn
  clear Hv hst h0
  go_wp2_with fail
  refine wp_loop_rounds 1 ?_
  rw [rounds_succ]
  go_wp2_with fail
  go_ret
  exact ⟨rfl,Hb.out⟩
 ·have Hat:=Lib.hid hat
  clear hat Hv
  go_wp2_with fail
  go_loop [6] (HasRel xs code) (fun v=>xs.length - (intOf v).toNat)
  case atStart=>exact hst.out
  case round=>
   clear hst
   obtain ⟨i,hi,rfl,hbefore⟩:=hrel
   rcases Nat.lt_or_ge i xs.length with hlt | hge
   ·have k0:=Hat.out i hlt
    by_cases hc:xs[i]=code
    ·have hq:(xs[i] == code)=true:=by simp [hc]
     have hy:=Hyes.out (by rw [← hc];exact List.getElem_mem _)
     subst hy
     have Hc:=Lib.hid hc
     clear hc hbefore
     generalize xs[i]=y at *
     go_wp2_with fail
     go_ret
     exact ⟨rfl,Hb.out⟩
    ·have hq:(xs[i] == code)=false:=by simp [hc]
     have hr:Hid (HasRel xs code (.int .i64 (↑i + 1))):=Lib.hid ⟨i + 1,by omega,by simp,fun j hj=>by
      rcases Nat.lt_or_ge j i with h | h
      ·exact hbefore j h
      ·obtain rfl:j=i:=by omega
       rw [List.getElem?_eq_getElem hlt]
       intro e
       exact hc (Option.some.inj e)⟩
     clear hc hbefore
     generalize xs[i]=y at *
     go_wp2_with fail
     go_round
     case rel=>exact hr.out
     case measure=>simp [intOf];omega
   ·obtain rfl:i=xs.length:=by omega
    have hn:=Hno.out (fun hm=>by
     obtain ⟨j,hj,e⟩:=List.getElem_of_mem hm
     exact hbefore j hj (by rw [List.getElem?_eq_getElem hj,e]))
    subst hn
    clear hbefore
    go_wp2_with fail
    go_ret
    exact ⟨rfl,Hb.out⟩
open Go.RowKit Go.Extern.Stop Go.Stop Go.Extern
set_option maxRecDepth 100000
def kindN (o:Option Nat):Int:=match o with | some k=>(k:Int) | none=>-1
def RKindP (o:Option Nat) (w:World) (e:Ending) (w':World):Prop:=e = .returned (.int .i64 (kindN o))∧Below w.heap.size w w'
set_option maxHeartbeats 1000000 in
theorem rkind_any (x:List UInt8) (w:World) (hx:x.length≤1000000) (h0:x=[]↔trailP x=[]) :
 Calls Tryz.prog 36 #[strV x] w (RKindP (kindI (trailP x)) w):=by
 have HF:Hid (∀ o r W,kindN o=r→Below w.heap.size w W→RKindP o w (.returned (.int .i64 r)) W):=Lib.hid fun o r W h1 h2=>⟨by rw [h1],h2⟩
 have HB0:=Lib.hid (Below.refl w.heap.size w)
 by_cases he:x=[]
 ·have hk:kindI (trailP x)=none:=by unfold kindI;rw [if_pos (h0.1 he)]
  rw [hk]
  subst he
  clear hk h0
  unfold strV
  go_enter Tryz.func36,Tryz.ntmps36
  go_wp2_with fail
  go_ret
  exact HF.out none _ _ rfl HB0.out
 have hx0:x.isEmpty=false:=by
  cases x
  ·exact absurd rfl he
  ·rfl
 have HH:Hid (∀ c W,Below w.heap.size w W→Calls Tryz.prog 55 #[strV x,.int .i64 c] W fun e w'=>e = .returned (.bool (decide (c∈trailP x)))∧Below w.heap.size w w'):=Lib.hid fun c W hW=>(zH8 x c W hx).mono fun e w' ⟨h1,h2⟩=>⟨h1,hW.trans (h2.mono hW.size)⟩
 have H0:=Lib.hid (HH.out 151)
 have H1:=Lib.hid (HH.out 150)
 have H2:=Lib.hid (HH.out 17)
 have H3:=Lib.hid (HH.out 13)
 have H4:=Lib.hid (HH.out 12)
 have H5:=Lib.hid (HH.out 10)
 have H6:=Lib.hid (HH.out 11)
 have H7:=Lib.hid (HH.out 14)
 have hk:kindI (trailP x)=if decide ((151:Int)∈trailP x)=true then some 0 else if decide ((150:Int)∈trailP x)=true then some 1 else if decide ((17:Int)∈trailP x)=true then some 3 else if decide ((13:Int)∈trailP x)=true then some 3 else if decide ((12:Int)∈trailP x)=true then some 3 else if decide ((10:Int)∈trailP x)=true then none else if decide ((11:Int)∈trailP x)=true then none else if decide ((14:Int)∈trailP x)=true then none else some 2:=by
  unfold kindI
  rw [if_neg (fun h=>he (h0.2 h))]
  simp only [decide_eq_true_eq]
  repeat' split
  all_goals first | rfl | simp_all
 rw [hk]
 clear hk he h0 HH
 generalize decide ((151:Int)∈trailP x)=d0 at *
 generalize decide ((150:Int)∈trailP x)=d1 at *
 generalize decide ((17:Int)∈trailP x)=d2 at *
 generalize decide ((13:Int)∈trailP x)=d3 at *
 generalize decide ((12:Int)∈trailP x)=d4 at *
 generalize decide ((10:Int)∈trailP x)=d5 at *
 generalize decide ((11:Int)∈trailP x)=d6 at *
 generalize decide ((14:Int)∈trailP x)=d7 at *
 unfold strV at *
 cases d0
 case true=>
  go_enter Tryz.func36,Tryz.ntmps36
  go_wp2_with fail
  refine (H0.out _ HB0.out).mono ?_
  rintro e v0 ⟨rfl,hb⟩
  have B0:=Lib.hid hb
  clear hb
  go_wp2_with fail
  go_ret
  exact HF.out (some 0) _ _ rfl B0.out
 cases d1
 case true=>
  go_enter Tryz.func36,Tryz.ntmps36
  go_wp2_with fail
  refine (H0.out _ HB0.out).mono ?_
  rintro e v0 ⟨rfl,hb⟩
  have B0:=Lib.hid hb
  clear hb
  go_wp2_with fail
  refine (H1.out _ B0.out).mono ?_
  rintro e v1 ⟨rfl,hb⟩
  have B1:=Lib.hid hb
  clear hb
  go_wp2_with fail
  go_ret
  exact HF.out (some 1) _ _ rfl B1.out
 cases d2
 case true=>
  go_enter Tryz.func36,Tryz.ntmps36
  go_wp2_with fail
  refine (H0.out _ HB0.out).mono ?_
  rintro e v0 ⟨rfl,hb⟩
  have B0:=Lib.hid hb
  clear hb
  go_wp2_with fail
  refine (H1.out _ B0.out).mono ?_
  rintro e v1 ⟨rfl,hb⟩
  have B1:=Lib.hid hb
  clear hb
  go_wp2_with fail
  refine (H2.out _ B1.out).mono ?_
  rintro e v2 ⟨rfl,hb⟩
  have B2:=Lib.hid hb
  clear hb
  go_wp2_with fail
  go_ret
  exact HF.out (some 3) _ _ rfl B2.out
 cases d3
 case true=>
  go_enter Tryz.func36,Tryz.ntmps36
  go_wp2_with fail
  refine (H0.out _ HB0.out).mono ?_
  rintro e v0 ⟨rfl,hb⟩
  have B0:=Lib.hid hb
  clear hb
  go_wp2_with fail
  refine (H1.out _ B0.out).mono ?_
  rintro e v1 ⟨rfl,hb⟩
  have B1:=Lib.hid hb
  clear hb
  go_wp2_with fail
  refine (H2.out _ B1.out).mono ?_
  rintro e v2 ⟨rfl,hb⟩
  have B2:=Lib.hid hb
  clear hb
  go_wp2_with fail
  refine (H3.out _ B2.out).mono ?_
  rintro e v3 ⟨rfl,hb⟩
  have B3:=Lib.hid hb
  clear hb
  go_wp2_with fail
  go_ret
  exact HF.out (some 3) _ _ rfl B3.out
 cases d4
 case true=>
  go_enter Tryz.func36,Tryz.ntmps36
  go_wp2_with fail
  refine (H0.out _ HB0.out).mono ?_
  rintro e v0 ⟨rfl,hb⟩
  have B0:=Lib.hid hb
  clear hb
  go_wp2_with fail
  refine (H1.out _ B0.out).mono ?_
  rintro e v1 ⟨rfl,hb⟩
  have B1:=Lib.hid hb
  clear hb
  go_wp2_with fail
  refine (H2.out _ B1.out).mono ?_
  rintro e v2 ⟨rfl,hb⟩
  have B2:=Lib.hid hb
  clear hb
  go_wp2_with fail
  refine (H3.out _ B2.out).mono ?_
  rintro e v3 ⟨rfl,hb⟩
  have B3:=Lib.hid hb
  clear hb
  go_wp2_with fail
  refine (H4.out _ B3.out).mono ?_
  rintro e v4 ⟨rfl,hb⟩
  have B4:=Lib.hid hb
  clear hb
  go_wp2_with fail
  go_ret
  exact HF.out (some 3) _ _ rfl B4.out
 cases d5
 case true=>
  go_enter Tryz.func36,Tryz.ntmps36
  go_wp2_with fail
  refine (H0.out _ HB0.out).mono ?_
  rintro e v0 ⟨rfl,hb⟩
  have B0:=Lib.hid hb
  clear hb
  go_wp2_with fail
  refine (H1.out _ B0.out).mono ?_
  rintro e v1 ⟨rfl,hb⟩
  have B1:=Lib.hid hb
  clear hb
  go_wp2_with fail
  refine (H2.out _ B1.out).mono ?_
  rintro e v2 ⟨rfl,hb⟩
  have B2:=Lib.hid hb
  clear hb
  go_wp2_with fail
  refine (H3.out _ B2.out).mono ?_
  rintro e v3 ⟨rfl,hb⟩
  have B3:=Lib.hid hb
  clear hb
  go_wp2_with fail
  refine (H4.out _ B3.out).mono ?_
  rintro e v4 ⟨rfl,hb⟩
  have B4:=Lib.hid hb
  clear hb
  go_wp2_with fail
  refine (H5.out _ B4.out).mono ?_
  rintro e v5 ⟨rfl,hb⟩
  have B5:=Lib.hid hb
  clear hb
  go_wp2_with fail
  go_ret
  exact HF.out (none) _ _ rfl B5.out
 cases d6
 case true=>
  go_enter Tryz.func36,Tryz.ntmps36
  go_wp2_with fail
  refine (H0.out _ HB0.out).mono ?_
  rintro e v0 ⟨rfl,hb⟩
  have B0:=Lib.hid hb
  clear hb
  go_wp2_with fail
  refine (H1.out _ B0.out).mono ?_
  rintro e v1 ⟨rfl,hb⟩
  have B1:=Lib.hid hb
  clear hb
  go_wp2_with fail
  refine (H2.out _ B1.out).mono ?_
  rintro e v2 ⟨rfl,hb⟩
  have B2:=Lib.hid hb
  clear hb
  go_wp2_with fail
  refine (H3.out _ B2.out).mono ?_
  rintro e v3 ⟨rfl,hb⟩
  have B3:=Lib.hid hb
  clear hb
  go_wp2_with fail
  refine (H4.out _ B3.out).mono ?_
  rintro e v4 ⟨rfl,hb⟩
  have B4:=Lib.hid hb
  clear hb
  go_wp2_with fail
  refine (H5.out _ B4.out).mono ?_
  rintro e v5 ⟨rfl,hb⟩
  have B5:=Lib.hid hb
  clear hb
  go_wp2_with fail
  refine (H6.out _ B5.out).mono ?_
  rintro e v6 ⟨rfl,hb⟩
  have B6:=Lib.hid hb
  clear hb
  go_wp2_with fail
  go_ret
  exact HF.out (none) _ _ rfl B6.out
 cases d7
 case true=>
  go_enter Tryz.func36,Tryz.ntmps36
  go_wp2_with fail
  refine (H0.out _ HB0.out).mono ?_
  rintro e v0 ⟨rfl,hb⟩
  have B0:=Lib.hid hb
  clear hb
  go_wp2_with fail
  refine (H1.out _ B0.out).mono ?_
  rintro e v1 ⟨rfl,hb⟩
  have B1:=Lib.hid hb
  clear hb
  go_wp2_with fail
  refine (H2.out _ B1.out).mono ?_
  rintro e v2 ⟨rfl,hb⟩
  have B2:=Lib.hid hb
  clear hb
  go_wp2_with fail
  refine (H3.out _ B2.out).mono ?_
  rintro e v3 ⟨rfl,hb⟩
  have B3:=Lib.hid hb
  clear hb
  go_wp2_with fail
  refine (H4.out _ B3.out).mono ?_
  rintro e v4 ⟨rfl,hb⟩
  have B4:=Lib.hid hb
  clear hb
  go_wp2_with fail
  refine (H5.out _ B4.out).mono ?_
  rintro e v5 ⟨rfl,hb⟩
  have B5:=Lib.hid hb
  clear hb
  go_wp2_with fail
  refine (H6.out _ B5.out).mono ?_
  rintro e v6 ⟨rfl,hb⟩
  have B6:=Lib.hid hb
  clear hb
  go_wp2_with fail
  refine (H7.out _ B6.out).mono ?_
  rintro e v7 ⟨rfl,hb⟩
  have B7:=Lib.hid hb
  clear hb
  go_wp2_with fail
  go_ret
  exact HF.out (none) _ _ rfl B7.out
 go_enter Tryz.func36,Tryz.ntmps36
 go_wp2_with fail
 refine (H0.out _ HB0.out).mono ?_
 rintro e v0 ⟨rfl,hb⟩
 have B0:=Lib.hid hb
 clear hb
 go_wp2_with fail
 refine (H1.out _ B0.out).mono ?_
 rintro e v1 ⟨rfl,hb⟩
 have B1:=Lib.hid hb
 clear hb
 go_wp2_with fail
 refine (H2.out _ B1.out).mono ?_
 rintro e v2 ⟨rfl,hb⟩
 have B2:=Lib.hid hb
 clear hb
 go_wp2_with fail
 refine (H3.out _ B2.out).mono ?_
 rintro e v3 ⟨rfl,hb⟩
 have B3:=Lib.hid hb
 clear hb
 go_wp2_with fail
 refine (H4.out _ B3.out).mono ?_
 rintro e v4 ⟨rfl,hb⟩
 have B4:=Lib.hid hb
 clear hb
 go_wp2_with fail
 refine (H5.out _ B4.out).mono ?_
 rintro e v5 ⟨rfl,hb⟩
 have B5:=Lib.hid hb
 clear hb
 go_wp2_with fail
 refine (H6.out _ B5.out).mono ?_
 rintro e v6 ⟨rfl,hb⟩
 have B6:=Lib.hid hb
 clear hb
 go_wp2_with fail
 refine (H7.out _ B6.out).mono ?_
 rintro e v7 ⟨rfl,hb⟩
 have B7:=Lib.hid hb
 clear hb
 go_wp2_with fail
 go_ret
 exact HF.out (some 2) _ _ rfl B7.out
open Go.RowKit HeaP
set_option maxRecDepth 100000
def HTrue (w:World) (e:Ending) (w':World):Prop:=e = .returned (.bool true)∧Below w.heap.size w w'
end Go.Proofs.YtfgpfmhjnccccaaGreatDoor
