import Derived.BigQuiet
import Derived.Deep.Cut
import Derived.Test.YtfgpfmhjnccccaaGreatDoorSa32
import Derived.Test.YtfgpfmhjnccccaaGreatDoorSa33
import Derived.Test.YtfgpfmhjnccccaaGreatDoorSa12
namespace Go.Proofs.YtfgpfmhjnccccaaGreatDoor
open Go.RowKit
set_option maxRecDepth 100000
theorem zF3 (a:Int) (M:Nat) (hM:0 < M):∃ t:Nat,t < M∧(IntKind.u64.wrap a).tmod (M:Int)=(t:Int):=by
 rw [IntKind.wrap_u64]
 have h0:0≤a % 18446744073709551616:=by omega
 have h1:=Int.emod_nonneg (a % 18446744073709551616) (show (M:Int)≠0 by omega)
 have h2:=Int.emod_lt_of_pos (a % 18446744073709551616) (show (0:Int) < M by omega)
 refine ⟨((a % 18446744073709551616).tmod (M:Int)).toNat,?_,?_⟩<;>rw [Int.tmod_eq_emod_of_nonneg h0]<;>omega
def S29 (hb tb ga kk pb:Nat) (ch ct:Array Value) (W:World):Prop:=W.heap[hb]? = some (.cells ch 36 (0,0))∧W.heap[tb]? = some (.cells ct 70 (0,0))∧W.cell? ⟨ga,kk,none⟩=some (.pointer (some ⟨pb,0,none⟩))
def S30 (w:World) (x:CfgC) (db tb gm kk:Nat) (cd ct:Array Value) (mv:Value) (W:World):Prop:=BoxS w x W∧W.heap[db]? = some (.cells cd 53 (0,0))∧W.heap[tb]? = some (.cells ct 70 (0,0))∧W.cell? ⟨gm,kk,none⟩=some mv
def S33 (hb db:Nat) (ch cd:Array Value) (W:World):Prop:=W.heap[hb]? = some (.cells ch 36 (0,0))∧W.heap[db]? = some (.cells cd 53 (0,0))
def PsZero (x:CfgC) (ps:List PartM):Prop:=∀ (i:Nat) (q:PartM) (p:TableP.Part),ps[i]? = some q→x.parts[i]? = some p→q.memA=List.replicate p.words.toNat 0∧q.memD=q.memA
def RunsA (w:World) (B:Nat) (x:CfgC) (node:Nat) (h:HostC) (d:DocC) (hb db:Nat) (n:Nat) (va vm vi:Value) (W:World):Prop:=∃ (k:Nat) (ps:List PartM),k≤n∧vi = .int .i64 (k:Nat)∧ps.length=k∧LawC w W B x node h d hb db va vm h d ps (PorP.start x.plain) (PorP.start x.plain) (HeaP.Mon.start x.parts.length) (HeaP.Mon.start x.parts.length) ⟨0,0,0,0⟩ ⟨0,0,0,0⟩∧PsZero x ps
def RunsB (w:World) (B:Nat) (x:CfgC) (node:Nat) (h0:HostC) (d0:DocC) (hb db:Nat) (n:Nat) (va vm vi:Value) (W:World):Prop:=∃ (k:Nat) (h:HostC) (d:DocC) (ps:List PartM) (sA sD:PorP.St) (mm:HeaP.Mon) (cc:RepP.Cmd),k≤n∧k≤12∧vi = .int .i64 (k:Nat)∧ps.length=x.parts.length∧LawC w W B x node h0 d0 hb db va vm h d ps sA sD mm mm cc cc∧(∀ (i:Nat) (q:PartM) (p:TableP.Part),ps[i]? = some q→x.parts[i]? = some p→q.memD=q.memA∧q.memA.length=p.words.toNat)∧PorP.Like x.plain sA sD∧PorP.Bare x.plain (node:Int) sA∧HeaP.MonLow (k * 150) mm
def InS (S:World→Prop) (W:World):Prop:=S W
theorem zF4 {ev:Operand→Value} {o:Oper} {W:World} {b:Nat} {x:CfgC} (ho:o.op = .load 26 (.tmp 3)) (he:ev (.tmp 3) = .pointer (some ⟨b,0,none⟩)) (h:Box11 W b x):(execOp ev o).run Tryz.prog W = .ok (.value x.value) W:=by
 obtain ⟨c0,c1,c2,c3,c4,c5,c6,c7,c8,c9,c10⟩:=h
 obtain ⟨nodes,faulty,slot,gap,rho,dmin,dmax,margin,PA,pn,pcap,parts,QA,qn,qcap,ports,RA,rn,rcap,routes⟩:=x
 simp only at c0 c1 c2 c3 c4 c5 c6 c7 c8 c9 c10
 obtain ⟨dst,op,type,pos,after,guard⟩:=o
 simp only at ho
 subst ho
 simp only [CfgC.value,execOp,he]
 go_simp
set_option maxHeartbeats 32000000 in
theorem runs_law (x:CfgC) (nd0:Int) (A:Option Addr) (n cap:Nat) (ts:List TurnC) (hl:ts.length=n) (hn:n≤140737488355328) (w:World) (hg:HasType w) (hx:CfgIn w x) (hi:ItemsIn turnVals 4 w A ts) (ho:∀ t∈ts,TurnOk w t):Calls Tryz.prog 3 #[x.value,.int .i64 nd0,.slice A n cap] w (HTrue w):=by
 have HG:=Lib.hid hg
 have HAw:=Lib.hid (fun W (hW:Below w.heap.size w W)=>zD6 W (hg.keep (hW.block 0 hg.pos)))
 have HWk:=Lib.hid (fun W (hW:BoxS w x W)=>works_any x W (hx.below hW.below))
 have HST:=Lib.hid (BoxS.start w x)
 have Hb0:=Lib.hid (zb1 w x)
 have HX:=Lib.hid hx
 have HL:=Lib.hid hl
 have HN:=Lib.hid hn
 have HIt:=Lib.hid hi
 have HOk:=Lib.hid ho
 obtain ⟨L,hL⟩:∃ L,worksB x=L:=⟨_,rfl⟩
 rw [hL] at HWk
 have Hc:Hid (L=true→SndP.chk6 x.plain=none):=Lib.hid fun h=>by
  rw [h] at hL
  unfold worksB at hL
  simp only [Bool.and_eq_true,Option.isNone_iff_eq_none] at hL
  exact hL.2
 clear hL hx hg hl hn hi ho
 obtain ⟨nodes,faulty,slot,gap,rho,dmin,dmax,margin,PA,pn,pcap,parts,QA,qn,qcap,ports,RA,rn,rcap,routes⟩:=x
 obtain ⟨d0,d1,d2,d3,d4,d5,d6,d7,d8,d9,d10⟩:=cfgFacts (fun W (hW:BoxS w ⟨nodes,faulty,slot,gap,rho,dmin,dmax,margin,PA,pn,pcap,parts,QA,qn,qcap,ports,RA,rn,rcap,routes⟩ W)=>hW.cells)
 simp only at d0 d1 d2 d3 d4 d5 d6 d7 d8 d9 d10
 simp only [CfgC.value] at HWk ⊢
 simp only [boxC,cfgCells] at HST Hb0
 go_enter Tryz.func3,Tryz.ntmps3
 go_wp2_with fail
 refine (HAw.out _ Hb0.out).mono ?_
 rintro e w1 ⟨rfl,hb1⟩
 have Hd1:=Lib.hid (HST.out.step hb1)
 have Hb1:=Lib.hid (Hb0.out.trans (hb1.mono Hb0.out.size))
 clear hb1 HAw HST Hb0
 obtain ⟨k0,k1,k2,k3,k4,k5,k6,k7,k8,k9,k10⟩:=eleven Hd1.out d0 d1 d2 d3 d4 d5 d6 d7 d8 d9 d10
 go_wp2_with fail
 clear k0 k1 k2 k3 k4 k5 k6 k7 k8 k9 k10
 refine (HWk.out _ Hd1.out).mono ?_
 rintro e w2 ⟨rfl,hb2⟩
 have Hd2:=Lib.hid (Hd1.out.step hb2)
 have Hb2:=Lib.hid (Hb1.out.trans (hb2.mono Hb1.out.size))
 clear hb2 HWk Hd1 Hb1
 cases L with
 | false=>
  go_wp2_with fail
  go_ret
  exact ⟨rfl,Hb2.out⟩
 | true=>
 have hchk:=Hc.out rfl
 have HChk:=Lib.hid hchk
 have hal:=(SndP.works hchk).allowed
 have HAl:=Lib.hid hal
 have hpn:pn≤12:=by have:=hal.parts;rw [show ((⟨nodes,faulty,slot,gap,rho,dmin,dmax,margin,PA,pn,pcap,parts,QA,qn,qcap,ports,RA,rn,rcap,routes⟩:CfgC)).plain.parts.length=pn from HX.out.plen] at this;exact this
 have hqn:qn≤24:=by have:=hal.ports;rw [show ((⟨nodes,faulty,slot,gap,rho,dmin,dmax,margin,PA,pn,pcap,parts,QA,qn,qcap,ports,RA,rn,rcap,routes⟩:CfgC)).plain.ports.length=qn from HX.out.qlen] at this;exact this
 have hrn:rn≤24:=by have:=hal.routes;rw [show ((⟨nodes,faulty,slot,gap,rho,dmin,dmax,margin,PA,pn,pcap,parts,QA,qn,qcap,ports,RA,rn,rcap,routes⟩:CfgC)).plain.routes.length=rn from HX.out.rlen] at this;exact this
 have hplen:parts.length=pn:=HX.out.plen
 have HPn:=Lib.hid hpn
 have HPl:=Lib.hid hplen
 clear Hc hchk hal hpn hqn hrn hplen
 by_cases hp0:pn=0
 ·subst hp0
  have k8:=d8 _ Hd2.out
  go_wp2_with fail
  go_ret
  exact ⟨rfl,Hb2.out⟩
 have z0:((pn:Int) == 0)=false:=by rw [beq_eq_false_iff_ne];omega
 have z1:(pn == 0)=false:=by rw [beq_eq_false_iff_ne];exact hp0
 have hnn:1≤nodes∧nodes≤7:=by have:=HAl.out.head.1;unfold TableP.up at this;exact this
 obtain ⟨M,rfl⟩:=Int.eq_ofNat_of_zero_le (show 0≤nodes by omega)
 obtain ⟨nd,hnd,e2⟩:=zF3 nd0 M (by omega)
 have e1:IntKind.u64.wrap (M:Int)=(M:Int):=by rw [IntKind.wrap_u64];omega
 have e3:IntKind.i64.wrap (nd:Int)=(nd:Int):=IntWalk.i64_in _ (by omega)
 have z2:((M:Int) == 0)=false:=by rw [beq_eq_false_iff_ne];omega
 have z3:(M == 0)=false:=by rw [beq_eq_false_iff_ne];omega
 have hM0:(M:Int)≠0:=by omega
 have HNd:=Lib.hid hnd
 have HM8:Hid (M≤8):=Lib.hid (by omega)
 have HPos:Hid (0 < pn):=Lib.hid (by omega)
 have HHost:=Lib.hid (zF2 ⟨(M:Nat),faulty,slot,gap,rho,dmin,dmax,margin,PA,pn,pcap,parts,QA,qn,qcap,ports,RA,rn,rcap,routes⟩ nd w2 (HX.out.below Hd2.out.below) HChk.out (by show (nd:Int) < (M:Int);omega) (by omega))
 simp only [CfgC.value] at HHost
 obtain ⟨k0,k1,k2,k3,k4,k5,k6,k7,k8,k9,k10⟩:=eleven Hd2.out d0 d1 d2 d3 d4 d5 d6 d7 d8 d9 d10
 clear hp0 hnn hnd
 go_wp2_with fail
 clear k0 k1 k2 k3 k4 k5 k6 k7 k8 k9 k10
 refine HHost.out.mono ?_
 rintro e w3 ⟨h,rfl,hh,hb3⟩
 have hb34:Below w3.heap.size w3 (w3.alloc (.cells #[.pointer (some ⟨h.x.a,0,none⟩),.pointer (some ⟨h.tb,0,none⟩),.pointer (some ⟨h.mb,0,none⟩),.pointer (some ⟨h.cb,0,none⟩)] 36)):=(Below.refl _ _).alloc (Nat.le_refl _) _
 have hbx4:(w3.alloc (.cells #[.pointer (some ⟨h.x.a,0,none⟩),.pointer (some ⟨h.tb,0,none⟩),.pointer (some ⟨h.mb,0,none⟩),.pointer (some ⟨h.cb,0,none⟩)] 36)).heap[w3.heap.size]? = some (.cells (hostCells h) 36 (0,0)):=newAt _ _
 have hb24:=hb3.trans (hb34.mono hb3.size)
 have HH:=Lib.hid (hh.below hb34)
 have HHb:=Lib.hid hbx4
 have Hd4:=Lib.hid (Hd2.out.step hb24)
 have Hb4:=Lib.hid (Hb2.out.trans (hb24.mono Hb2.out.size))
 have H24:=Lib.hid hb24.size
 have HG4:=Lib.hid (HG.out.keep ((Hb2.out.trans (hb24.mono Hb2.out.size)).block 0 HG.out.pos))
 have HB2:Hid ((boxC w ⟨(M:Nat),faulty,slot,gap,rho,dmin,dmax,margin,PA,pn,pcap,parts,QA,qn,qcap,ports,RA,rn,rcap,routes⟩).heap.size≤w2.heap.size):=Lib.hid Hd2.out.size
 clear hh hb3 hb34 hbx4 hb24 HHost Hd2 Hb2 z0 z1 z2 z3 e1 e2 e3 hM0 HChk
 simp only [hostV]
 go_upto_region 9 with (fail)
 generalize (w3.alloc (.cells #[.pointer (some ⟨h.x.a,0,none⟩),.pointer (some ⟨h.tb,0,none⟩),.pointer (some ⟨h.mb,0,none⟩),.pointer (some ⟨h.cb,0,none⟩)] 36))=w4 at *
 go_cut [9] from 50 (fun p wx=>∃ db d,p = .pointer (some ⟨db,0,none⟩)∧DocNew w w4 wx w2.heap.size ⟨(M:Nat),faulty,slot,gap,rho,dmin,dmax,margin,PA,pn,pcap,parts,QA,qn,qcap,ports,RA,rn,rcap,routes⟩ nd d db)
 case first=>
  as_aux_lemma=>
  have hqn9:qn≤24:=by have:=HAl.out.ports;rw [show ((⟨(M:Nat),faulty,slot,gap,rho,dmin,dmax,margin,PA,pn,pcap,parts,QA,qn,qcap,ports,RA,rn,rcap,routes⟩:CfgC)).plain.ports.length=qn from HX.out.qlen] at this;exact this
  have hpn9:pn≤255:=by have:=HPn.out;omega
  have HNew:=Lib.hid (fun W ot om oc ob (r:N9 w w4 W w2.heap.size ⟨(M:Nat),faulty,slot,gap,rho,dmin,dmax,margin,PA,pn,pcap,parts,QA,qn,qcap,ports,RA,rn,rcap,routes⟩ nd none ot om oc ob)=>r.new hqn9)
  have HWat:=Lib.hid (fun W op ot oc ob (r:N9 w w4 W w2.heap.size ⟨(M:Nat),faulty,slot,gap,rho,dmin,dmax,margin,PA,pn,pcap,parts,QA,qn,qcap,ports,RA,rn,rcap,routes⟩ nd op ot none oc ob)=>r.watch hpn9)
  simp only [CfgC.value] at HNew HWat
  have r0:=(N9.start (w:=w) (B:=w2.heap.size) (node:=nd) Hd4.out H24.out HX.out (by have:=HB2.out;rw [zb7] at this;omega)).step (Below.refl _ _).drew
  have s0:=r0.box
  have s8:=fun W (hW:BoxS w ⟨(M:Nat),faulty,slot,gap,rho,dmin,dmax,margin,PA,pn,pcap,parts,QA,qn,qcap,ports,RA,rn,rcap,routes⟩ W)=>hW.cells.c8
  simp only at s8
  clear hqn9 hpn9 HIt HOk HPl HPn HPos HH HHb Hb4 HG4 HG HL HN HNd HM8 HAl d0 d1 d2 d3 d4 d5 d6 d7 d8 d9 d10
  go_wp2_with fail
  refine wp_region_held_drew (S:=fun W=>BoxS w ⟨(M:Nat),faulty,slot,gap,rho,dmin,dmax,margin,PA,pn,pcap,parts,QA,qn,qcap,ports,RA,rn,rcap,routes⟩ W) (by kernel_rfl) s0 (fun _=>?_)
  refine tkH 0 (by simp only [tkA];rfl) (by kernel_rfl) (by exact fun _ _ _ h=>h) (by rfl) (fun W hW=>zF4 rfl rfl hW.cells) s0 ?_
  try simp only [Act.put,tkT,tk0,tkS]
  simp only [CfgC.value]
  refine tK 1 s0 ?_
  try simp only [Act.put,tkT,tk0,tkS]
  refine tK 3 s0 ?_
  try simp only [Act.put,tkT,tk0,tkS]
  refine tK 5 s0 ?_
  try simp only [Act.put,tkT,tk0,tkS]
  refine tK 6 s0 ?_
  try simp only [Act.put,tkT,tk0,tkS]
  refine tK 7 s0 ?_
  try simp only [Act.put,tkT,tk0,tkS]
  refine tK 9 s0 ?_
  try simp only [Act.put,tkT,tk0,tkS]
  clear s0 s8
  generalize w4.drew=w9d at *
  refine name9 (fun G a0 hG ha0=>?_)
  have H9_2_4_8_10_12:∀ (V:World) (pa pg:Nat) (pes:List El) (tb:Nat) (mq:Nat) (vl vw:Value) (cb:Nat) (hb9:Nat),N9 w w4 V w2.heap.size ⟨(M:Nat),faulty,slot,gap,rho,dmin,dmax,margin,PA,pn,pcap,parts,QA,qn,qcap,ports,RA,rn,rcap,routes⟩ nd (some (pa,pg,pes)) (some tb) (some (mq,vl,vw)) (some cb) (some hb9)→G 2 #[true,true,true,true,true,true,true,true,true,true,true,false,true,false] (((((a0.put (some 52) (.pointer (some ⟨pa,0,none⟩))).put (some 54) (.pointer (some ⟨tb,0,none⟩))).put (some 58) (.pointer (some ⟨mq,0,none⟩))).put (some 60) (.pointer (some ⟨cb,0,none⟩))).put (some 9) (.pointer (some ⟨hb9,0,none⟩))) V:=by
   intro V pa pg pes tb mq vl vw cb hb9 r
   rw [hG,ha0]
   try simp only [Act.put,tkT,tk0,tkS]
   as_aux_lemma=>
   have sb:=r.box
   refine tK 11 sb ?_
   try simp only [Act.put,tkT,tk0,tkS]
   clear sb
   have hz:=(r.hst _ rfl).1
   have z0:=za0 hz 0 rfl
   have z1:=za0 hz 1 rfl
   have z2:=za0 hz 2 rfl
   have z3:=za0 hz 3 rfl
   have zf:=fun j=>za2 hz j
   have hdn:=r.fin
   clear hz
   refine clH 13 (by kernel_rfl) (by simp only [tkA,tkG];rfl) (fun K hK=>?_)
   go_simp
   refine hK.out _ _ (Hd4.out.step hdn.below) (fun _=>?_)
   clear hK K
   refine wpAnyH_done (by kernel_rfl) ?_ _
   go_wp2_with fail
   go_meet
   exact ⟨_,_,rfl,hdn⟩
  have H9_2_4_8_10:∀ (V:World) (pa pg:Nat) (pes:List El) (tb:Nat) (mq:Nat) (vl vw:Value) (cb:Nat),N9 w w4 V w2.heap.size ⟨(M:Nat),faulty,slot,gap,rho,dmin,dmax,margin,PA,pn,pcap,parts,QA,qn,qcap,ports,RA,rn,rcap,routes⟩ nd (some (pa,pg,pes)) (some tb) (some (mq,vl,vw)) (some cb) none→G 3 #[true,true,true,true,true,true,true,true,true,true,true,false,false,false] ((((a0.put (some 52) (.pointer (some ⟨pa,0,none⟩))).put (some 54) (.pointer (some ⟨tb,0,none⟩))).put (some 58) (.pointer (some ⟨mq,0,none⟩))).put (some 60) (.pointer (some ⟨cb,0,none⟩))) V:=by
   intro V pa pg pes tb mq vl vw cb r
   rw [hG,ha0]
   try simp only [Act.put,tkT,tk0,tkS]
   as_aux_lemma=>
   have sb:=r.box
   refine tK 11 sb ?_
   try simp only [Act.put,tkT,tk0,tkS]
   clear sb
   refine clH 12 (by kernel_rfl) (by simp only [tkA,tkG];rfl) (fun K hK=>?_)
   go_simp
   have r2:=r.addH
   refine hK.out _ _ r2.box (fun _=>?_)
   clear hK K r
   generalize (V.alloc (.cells #[.pointer none,.pointer none,.pointer none,.pointer none] 53))=V2 at *
   have hz:=(r2.hst _ rfl).1
   have z0:=za0 hz 0 rfl
   have z1:=za0 hz 1 rfl
   have z2:=za0 hz 2 rfl
   have z3:=za0 hz 3 rfl
   have zf:=fun j=>za2 hz j
   have hdn:=r2.fin
   clear hz
   refine clH 13 (by kernel_rfl) (by simp only [tkA,tkG];rfl) (fun K hK=>?_)
   go_simp
   refine hK.out _ _ (Hd4.out.step hdn.below) (fun _=>?_)
   clear hK K
   refine wpAnyH_done (by kernel_rfl) ?_ _
   go_wp2_with fail
   go_meet
   exact ⟨_,_,rfl,hdn⟩
  have H9_2_4_8_12:∀ (V:World) (pa pg:Nat) (pes:List El) (tb:Nat) (mq:Nat) (vl vw:Value) (hb9:Nat),N9 w w4 V w2.heap.size ⟨(M:Nat),faulty,slot,gap,rho,dmin,dmax,margin,PA,pn,pcap,parts,QA,qn,qcap,ports,RA,rn,rcap,routes⟩ nd (some (pa,pg,pes)) (some tb) (some (mq,vl,vw)) none (some hb9)→G 3 #[true,true,true,true,true,true,true,true,true,true,false,false,true,false] ((((a0.put (some 52) (.pointer (some ⟨pa,0,none⟩))).put (some 54) (.pointer (some ⟨tb,0,none⟩))).put (some 58) (.pointer (some ⟨mq,0,none⟩))).put (some 9) (.pointer (some ⟨hb9,0,none⟩))) V:=by
   intro V pa pg pes tb mq vl vw hb9 r
   rw [hG,ha0]
   try simp only [Act.put,tkT,tk0,tkS]
   as_aux_lemma=>
   refine clH 10 (by kernel_rfl) (by simp only [tkA,tkG];rfl) (fun K hK=>?_)
   go_simp
   have r2:=r.addC
   refine hK.out _ _ r2.box (fun _=>?_)
   clear hK K
   have h9:=H9_2_4_8_10_12 (V.alloc (.cells #[.int .u8 0,.int .u8 0,.int .u16 0,.int .u16 0] 51)) pa pg pes tb mq vl vw V.heap.size hb9 r2
   rw [hG,ha0] at h9
   simp only [Act.put,tkT,tk0,tkS] at h9
   exact listed9 (by kernel_rfl) h9
  have H9_2_4_10_12:∀ (V:World) (pa pg:Nat) (pes:List El) (tb:Nat) (cb:Nat) (hb9:Nat),N9 w w4 V w2.heap.size ⟨(M:Nat),faulty,slot,gap,rho,dmin,dmax,margin,PA,pn,pcap,parts,QA,qn,qcap,ports,RA,rn,rcap,routes⟩ nd (some (pa,pg,pes)) (some tb) none (some cb) (some hb9)→G 3 #[true,true,true,true,true,true,true,true,false,true,true,false,true,false] ((((a0.put (some 52) (.pointer (some ⟨pa,0,none⟩))).put (some 54) (.pointer (some ⟨tb,0,none⟩))).put (some 60) (.pointer (some ⟨cb,0,none⟩))).put (some 9) (.pointer (some ⟨hb9,0,none⟩))) V:=by
   intro V pa pg pes tb cb hb9 r
   rw [hG,ha0]
   try simp only [Act.put,tkT,tk0,tkS]
   as_aux_lemma=>
   refine clH 8 (by kernel_rfl) (by simp only [tkA,tkG];rfl) (fun K hK=>?_)
   go_simp
   refine (HWat.out _ _ _ _ _ r).mono ?_
   rintro e V2 ⟨mq,vl,vw,rfl,r2⟩
   go_wp2_with fail
   refine hK.out _ _ r2.box (fun _=>?_)
   clear hK K
   have h9:=H9_2_4_8_10_12 V2 pa pg pes tb mq vl vw cb hb9 r2
   rw [hG,ha0] at h9
   simp only [Act.put,tkT,tk0,tkS] at h9
   exact listed9 (by kernel_rfl) h9
  have H9_2_8_10_12:∀ (V:World) (pa pg:Nat) (pes:List El) (mq:Nat) (vl vw:Value) (cb:Nat) (hb9:Nat),N9 w w4 V w2.heap.size ⟨(M:Nat),faulty,slot,gap,rho,dmin,dmax,margin,PA,pn,pcap,parts,QA,qn,qcap,ports,RA,rn,rcap,routes⟩ nd (some (pa,pg,pes)) none (some (mq,vl,vw)) (some cb) (some hb9)→G 3 #[true,true,true,true,false,true,true,true,true,true,true,false,true,false] ((((a0.put (some 52) (.pointer (some ⟨pa,0,none⟩))).put (some 58) (.pointer (some ⟨mq,0,none⟩))).put (some 60) (.pointer (some ⟨cb,0,none⟩))).put (some 9) (.pointer (some ⟨hb9,0,none⟩))) V:=by
   intro V pa pg pes mq vl vw cb hb9 r
   rw [hG,ha0]
   try simp only [Act.put,tkT,tk0,tkS]
   as_aux_lemma=>
   refine clH 4 (by kernel_rfl) (by simp only [tkA,tkG];rfl) (fun K hK=>?_)
   go_simp
   have r2:=r.addT
   refine hK.out _ _ r2.box (fun _=>?_)
   clear hK K
   have h9:=H9_2_4_8_10_12 (V.alloc (.cells #[.int .u16 0,.int .u16 0,.int .u16 0,.int .u16 0,.int .u16 0,.int .u16 0,.int .u16 0,.int .u16 0,.bool false,.bool false,.bool false,.bool false,.bool false,.bool false,.bool false,.bool false,.int .i64 0] 46)) pa pg pes V.heap.size mq vl vw cb hb9 r2
   rw [hG,ha0] at h9
   simp only [Act.put,tkT,tk0,tkS] at h9
   exact listed9 (by kernel_rfl) h9
  have H9_2_4_8:∀ (V:World) (pa pg:Nat) (pes:List El) (tb:Nat) (mq:Nat) (vl vw:Value),N9 w w4 V w2.heap.size ⟨(M:Nat),faulty,slot,gap,rho,dmin,dmax,margin,PA,pn,pcap,parts,QA,qn,qcap,ports,RA,rn,rcap,routes⟩ nd (some (pa,pg,pes)) (some tb) (some (mq,vl,vw)) none none→G 4 #[true,true,true,true,true,true,true,true,true,true,false,false,false,false] (((a0.put (some 52) (.pointer (some ⟨pa,0,none⟩))).put (some 54) (.pointer (some ⟨tb,0,none⟩))).put (some 58) (.pointer (some ⟨mq,0,none⟩))) V:=by
   intro V pa pg pes tb mq vl vw r
   rw [hG,ha0]
   try simp only [Act.put,tkT,tk0,tkS]
   as_aux_lemma=>
   refine wpAnyH_ready (rs:=[10,12]) (by kernel_rfl) (by simp) (AllReadyH.cons (by simp only [tkA,tkG];rfl) (fun K hK=>?_) (AllReadyH.cons (by simp only [tkA,tkG];rfl) (fun K hK=>?_) AllReadyH.nil))
   ·go_simp
    have r2:=r.addC
    refine hK.out _ _ r2.box (fun _=>?_)
    clear hK K
    have h9:=H9_2_4_8_10 (V.alloc (.cells #[.int .u8 0,.int .u8 0,.int .u16 0,.int .u16 0] 51)) pa pg pes tb mq vl vw V.heap.size r2
    rw [hG,ha0] at h9
    simp only [Act.put,tkT,tk0,tkS] at h9
    exact listed9 (by kernel_rfl) h9
   ·go_simp
    have r2:=r.addH
    refine hK.out _ _ r2.box (fun _=>?_)
    clear hK K
    have h9:=H9_2_4_8_12 (V.alloc (.cells #[.pointer none,.pointer none,.pointer none,.pointer none] 53)) pa pg pes tb mq vl vw V.heap.size r2
    rw [hG,ha0] at h9
    simp only [Act.put,tkT,tk0,tkS] at h9
    exact listed9 (by kernel_rfl) h9
  have H9_2_4_10:∀ (V:World) (pa pg:Nat) (pes:List El) (tb:Nat) (cb:Nat),N9 w w4 V w2.heap.size ⟨(M:Nat),faulty,slot,gap,rho,dmin,dmax,margin,PA,pn,pcap,parts,QA,qn,qcap,ports,RA,rn,rcap,routes⟩ nd (some (pa,pg,pes)) (some tb) none (some cb) none→G 4 #[true,true,true,true,true,true,true,true,false,true,true,false,false,false] (((a0.put (some 52) (.pointer (some ⟨pa,0,none⟩))).put (some 54) (.pointer (some ⟨tb,0,none⟩))).put (some 60) (.pointer (some ⟨cb,0,none⟩))) V:=by
   intro V pa pg pes tb cb r
   rw [hG,ha0]
   try simp only [Act.put,tkT,tk0,tkS]
   as_aux_lemma=>
   refine wpAnyH_ready (rs:=[8,12]) (by kernel_rfl) (by simp) (AllReadyH.cons (by simp only [tkA,tkG];rfl) (fun K hK=>?_) (AllReadyH.cons (by simp only [tkA,tkG];rfl) (fun K hK=>?_) AllReadyH.nil))
   ·go_simp
    refine (HWat.out _ _ _ _ _ r).mono ?_
    rintro e V2 ⟨mq,vl,vw,rfl,r2⟩
    go_wp2_with fail
    refine hK.out _ _ r2.box (fun _=>?_)
    clear hK K
    have h9:=H9_2_4_8_10 V2 pa pg pes tb mq vl vw cb r2
    rw [hG,ha0] at h9
    simp only [Act.put,tkT,tk0,tkS] at h9
    exact listed9 (by kernel_rfl) h9
   ·go_simp
    have r2:=r.addH
    refine hK.out _ _ r2.box (fun _=>?_)
    clear hK K
    have h9:=H9_2_4_10_12 (V.alloc (.cells #[.pointer none,.pointer none,.pointer none,.pointer none] 53)) pa pg pes tb cb V.heap.size r2
    rw [hG,ha0] at h9
    simp only [Act.put,tkT,tk0,tkS] at h9
    exact listed9 (by kernel_rfl) h9
  have H9_2_4_12:∀ (V:World) (pa pg:Nat) (pes:List El) (tb:Nat) (hb9:Nat),N9 w w4 V w2.heap.size ⟨(M:Nat),faulty,slot,gap,rho,dmin,dmax,margin,PA,pn,pcap,parts,QA,qn,qcap,ports,RA,rn,rcap,routes⟩ nd (some (pa,pg,pes)) (some tb) none none (some hb9)→G 4 #[true,true,true,true,true,true,true,true,false,true,false,false,true,false] (((a0.put (some 52) (.pointer (some ⟨pa,0,none⟩))).put (some 54) (.pointer (some ⟨tb,0,none⟩))).put (some 9) (.pointer (some ⟨hb9,0,none⟩))) V:=by
   intro V pa pg pes tb hb9 r
   rw [hG,ha0]
   try simp only [Act.put,tkT,tk0,tkS]
   as_aux_lemma=>
   refine wpAnyH_ready (rs:=[8,10]) (by kernel_rfl) (by simp) (AllReadyH.cons (by simp only [tkA,tkG];rfl) (fun K hK=>?_) (AllReadyH.cons (by simp only [tkA,tkG];rfl) (fun K hK=>?_) AllReadyH.nil))
   ·go_simp
    refine (HWat.out _ _ _ _ _ r).mono ?_
    rintro e V2 ⟨mq,vl,vw,rfl,r2⟩
    go_wp2_with fail
    refine hK.out _ _ r2.box (fun _=>?_)
    clear hK K
    have h9:=H9_2_4_8_12 V2 pa pg pes tb mq vl vw hb9 r2
    rw [hG,ha0] at h9
    simp only [Act.put,tkT,tk0,tkS] at h9
    exact listed9 (by kernel_rfl) h9
   ·go_simp
    have r2:=r.addC
    refine hK.out _ _ r2.box (fun _=>?_)
    clear hK K
    have h9:=H9_2_4_10_12 (V.alloc (.cells #[.int .u8 0,.int .u8 0,.int .u16 0,.int .u16 0] 51)) pa pg pes tb V.heap.size hb9 r2
    rw [hG,ha0] at h9
    simp only [Act.put,tkT,tk0,tkS] at h9
    exact listed9 (by kernel_rfl) h9
  have H9_2_8_10:∀ (V:World) (pa pg:Nat) (pes:List El) (mq:Nat) (vl vw:Value) (cb:Nat),N9 w w4 V w2.heap.size ⟨(M:Nat),faulty,slot,gap,rho,dmin,dmax,margin,PA,pn,pcap,parts,QA,qn,qcap,ports,RA,rn,rcap,routes⟩ nd (some (pa,pg,pes)) none (some (mq,vl,vw)) (some cb) none→G 4 #[true,true,true,true,false,true,true,true,true,true,true,false,false,false] (((a0.put (some 52) (.pointer (some ⟨pa,0,none⟩))).put (some 58) (.pointer (some ⟨mq,0,none⟩))).put (some 60) (.pointer (some ⟨cb,0,none⟩))) V:=by
   intro V pa pg pes mq vl vw cb r
   rw [hG,ha0]
   try simp only [Act.put,tkT,tk0,tkS]
   as_aux_lemma=>
   refine wpAnyH_ready (rs:=[4,12]) (by kernel_rfl) (by simp) (AllReadyH.cons (by simp only [tkA,tkG];rfl) (fun K hK=>?_) (AllReadyH.cons (by simp only [tkA,tkG];rfl) (fun K hK=>?_) AllReadyH.nil))
   ·go_simp
    have r2:=r.addT
    refine hK.out _ _ r2.box (fun _=>?_)
    clear hK K
    have h9:=H9_2_4_8_10 (V.alloc (.cells #[.int .u16 0,.int .u16 0,.int .u16 0,.int .u16 0,.int .u16 0,.int .u16 0,.int .u16 0,.int .u16 0,.bool false,.bool false,.bool false,.bool false,.bool false,.bool false,.bool false,.bool false,.int .i64 0] 46)) pa pg pes V.heap.size mq vl vw cb r2
    rw [hG,ha0] at h9
    simp only [Act.put,tkT,tk0,tkS] at h9
    exact listed9 (by kernel_rfl) h9
   ·go_simp
    have r2:=r.addH
    refine hK.out _ _ r2.box (fun _=>?_)
    clear hK K
    have h9:=H9_2_8_10_12 (V.alloc (.cells #[.pointer none,.pointer none,.pointer none,.pointer none] 53)) pa pg pes mq vl vw cb V.heap.size r2
    rw [hG,ha0] at h9
    simp only [Act.put,tkT,tk0,tkS] at h9
    exact listed9 (by kernel_rfl) h9
  have H9_2_8_12:∀ (V:World) (pa pg:Nat) (pes:List El) (mq:Nat) (vl vw:Value) (hb9:Nat),N9 w w4 V w2.heap.size ⟨(M:Nat),faulty,slot,gap,rho,dmin,dmax,margin,PA,pn,pcap,parts,QA,qn,qcap,ports,RA,rn,rcap,routes⟩ nd (some (pa,pg,pes)) none (some (mq,vl,vw)) none (some hb9)→G 4 #[true,true,true,true,false,true,true,true,true,true,false,false,true,false] (((a0.put (some 52) (.pointer (some ⟨pa,0,none⟩))).put (some 58) (.pointer (some ⟨mq,0,none⟩))).put (some 9) (.pointer (some ⟨hb9,0,none⟩))) V:=by
   intro V pa pg pes mq vl vw hb9 r
   rw [hG,ha0]
   try simp only [Act.put,tkT,tk0,tkS]
   as_aux_lemma=>
   refine wpAnyH_ready (rs:=[4,10]) (by kernel_rfl) (by simp) (AllReadyH.cons (by simp only [tkA,tkG];rfl) (fun K hK=>?_) (AllReadyH.cons (by simp only [tkA,tkG];rfl) (fun K hK=>?_) AllReadyH.nil))
   ·go_simp
    have r2:=r.addT
    refine hK.out _ _ r2.box (fun _=>?_)
    clear hK K
    have h9:=H9_2_4_8_12 (V.alloc (.cells #[.int .u16 0,.int .u16 0,.int .u16 0,.int .u16 0,.int .u16 0,.int .u16 0,.int .u16 0,.int .u16 0,.bool false,.bool false,.bool false,.bool false,.bool false,.bool false,.bool false,.bool false,.int .i64 0] 46)) pa pg pes V.heap.size mq vl vw hb9 r2
    rw [hG,ha0] at h9
    simp only [Act.put,tkT,tk0,tkS] at h9
    exact listed9 (by kernel_rfl) h9
   ·go_simp
    have r2:=r.addC
    refine hK.out _ _ r2.box (fun _=>?_)
    clear hK K
    have h9:=H9_2_8_10_12 (V.alloc (.cells #[.int .u8 0,.int .u8 0,.int .u16 0,.int .u16 0] 51)) pa pg pes mq vl vw V.heap.size hb9 r2
    rw [hG,ha0] at h9
    simp only [Act.put,tkT,tk0,tkS] at h9
    exact listed9 (by kernel_rfl) h9
  have H9_2_10_12:∀ (V:World) (pa pg:Nat) (pes:List El) (cb:Nat) (hb9:Nat),N9 w w4 V w2.heap.size ⟨(M:Nat),faulty,slot,gap,rho,dmin,dmax,margin,PA,pn,pcap,parts,QA,qn,qcap,ports,RA,rn,rcap,routes⟩ nd (some (pa,pg,pes)) none none (some cb) (some hb9)→G 4 #[true,true,true,true,false,true,true,true,false,true,true,false,true,false] (((a0.put (some 52) (.pointer (some ⟨pa,0,none⟩))).put (some 60) (.pointer (some ⟨cb,0,none⟩))).put (some 9) (.pointer (some ⟨hb9,0,none⟩))) V:=by
   intro V pa pg pes cb hb9 r
   rw [hG,ha0]
   try simp only [Act.put,tkT,tk0,tkS]
   as_aux_lemma=>
   refine wpAnyH_ready (rs:=[4,8]) (by kernel_rfl) (by simp) (AllReadyH.cons (by simp only [tkA,tkG];rfl) (fun K hK=>?_) (AllReadyH.cons (by simp only [tkA,tkG];rfl) (fun K hK=>?_) AllReadyH.nil))
   ·go_simp
    have r2:=r.addT
    refine hK.out _ _ r2.box (fun _=>?_)
    clear hK K
    have h9:=H9_2_4_10_12 (V.alloc (.cells #[.int .u16 0,.int .u16 0,.int .u16 0,.int .u16 0,.int .u16 0,.int .u16 0,.int .u16 0,.int .u16 0,.bool false,.bool false,.bool false,.bool false,.bool false,.bool false,.bool false,.bool false,.int .i64 0] 46)) pa pg pes V.heap.size cb hb9 r2
    rw [hG,ha0] at h9
    simp only [Act.put,tkT,tk0,tkS] at h9
    exact listed9 (by kernel_rfl) h9
   ·go_simp
    refine (HWat.out _ _ _ _ _ r).mono ?_
    rintro e V2 ⟨mq,vl,vw,rfl,r2⟩
    go_wp2_with fail
    refine hK.out _ _ r2.box (fun _=>?_)
    clear hK K
    have h9:=H9_2_8_10_12 V2 pa pg pes mq vl vw cb hb9 r2
    rw [hG,ha0] at h9
    simp only [Act.put,tkT,tk0,tkS] at h9
    exact listed9 (by kernel_rfl) h9
  have H9_4_10_12:∀ (V:World) (tb:Nat) (cb:Nat) (hb9:Nat),N9 w w4 V w2.heap.size ⟨(M:Nat),faulty,slot,gap,rho,dmin,dmax,margin,PA,pn,pcap,parts,QA,qn,qcap,ports,RA,rn,rcap,routes⟩ nd none (some tb) none (some cb) (some hb9)→G 4 #[true,true,false,true,true,true,true,true,false,true,true,false,true,false] (((a0.put (some 54) (.pointer (some ⟨tb,0,none⟩))).put (some 60) (.pointer (some ⟨cb,0,none⟩))).put (some 9) (.pointer (some ⟨hb9,0,none⟩))) V:=by
   intro V tb cb hb9 r
   rw [hG,ha0]
   try simp only [Act.put,tkT,tk0,tkS]
   as_aux_lemma=>
   refine clH 2 (by kernel_rfl) (by simp only [tkA,tkG];rfl) (fun K hK=>?_)
   go_simp
   refine (HNew.out _ _ _ _ _ r).mono ?_
   rintro e V2 ⟨pa,pg,pes,rfl,r2⟩
   go_wp2_with fail
   refine hK.out _ _ r2.box (fun _=>?_)
   clear hK K
   have h9:=H9_2_4_10_12 V2 pa pg pes tb cb hb9 r2
   rw [hG,ha0] at h9
   simp only [Act.put,tkT,tk0,tkS] at h9
   exact listed9 (by kernel_rfl) h9
  have H9_2_4:∀ (V:World) (pa pg:Nat) (pes:List El) (tb:Nat),N9 w w4 V w2.heap.size ⟨(M:Nat),faulty,slot,gap,rho,dmin,dmax,margin,PA,pn,pcap,parts,QA,qn,qcap,ports,RA,rn,rcap,routes⟩ nd (some (pa,pg,pes)) (some tb) none none none→G 5 #[true,true,true,true,true,true,true,true,false,true,false,false,false,false] ((a0.put (some 52) (.pointer (some ⟨pa,0,none⟩))).put (some 54) (.pointer (some ⟨tb,0,none⟩))) V:=by
   intro V pa pg pes tb r
   rw [hG,ha0]
   try simp only [Act.put,tkT,tk0,tkS]
   as_aux_lemma=>
   refine wpAnyH_ready (rs:=[8,10,12]) (by kernel_rfl) (by simp) (AllReadyH.cons (by simp only [tkA,tkG];rfl) (fun K hK=>?_) (AllReadyH.cons (by simp only [tkA,tkG];rfl) (fun K hK=>?_) (AllReadyH.cons (by simp only [tkA,tkG];rfl) (fun K hK=>?_) AllReadyH.nil)))
   ·go_simp
    refine (HWat.out _ _ _ _ _ r).mono ?_
    rintro e V2 ⟨mq,vl,vw,rfl,r2⟩
    go_wp2_with fail
    refine hK.out _ _ r2.box (fun _=>?_)
    clear hK K
    have h9:=H9_2_4_8 V2 pa pg pes tb mq vl vw r2
    rw [hG,ha0] at h9
    simp only [Act.put,tkT,tk0,tkS] at h9
    exact listed9 (by kernel_rfl) h9
   ·go_simp
    have r2:=r.addC
    refine hK.out _ _ r2.box (fun _=>?_)
    clear hK K
    have h9:=H9_2_4_10 (V.alloc (.cells #[.int .u8 0,.int .u8 0,.int .u16 0,.int .u16 0] 51)) pa pg pes tb V.heap.size r2
    rw [hG,ha0] at h9
    simp only [Act.put,tkT,tk0,tkS] at h9
    exact listed9 (by kernel_rfl) h9
   ·go_simp
    have r2:=r.addH
    refine hK.out _ _ r2.box (fun _=>?_)
    clear hK K
    have h9:=H9_2_4_12 (V.alloc (.cells #[.pointer none,.pointer none,.pointer none,.pointer none] 53)) pa pg pes tb V.heap.size r2
    rw [hG,ha0] at h9
    simp only [Act.put,tkT,tk0,tkS] at h9
    exact listed9 (by kernel_rfl) h9
  have H9_2_8:∀ (V:World) (pa pg:Nat) (pes:List El) (mq:Nat) (vl vw:Value),N9 w w4 V w2.heap.size ⟨(M:Nat),faulty,slot,gap,rho,dmin,dmax,margin,PA,pn,pcap,parts,QA,qn,qcap,ports,RA,rn,rcap,routes⟩ nd (some (pa,pg,pes)) none (some (mq,vl,vw)) none none→G 5 #[true,true,true,true,false,true,true,true,true,true,false,false,false,false] ((a0.put (some 52) (.pointer (some ⟨pa,0,none⟩))).put (some 58) (.pointer (some ⟨mq,0,none⟩))) V:=by
   intro V pa pg pes mq vl vw r
   rw [hG,ha0]
   try simp only [Act.put,tkT,tk0,tkS]
   as_aux_lemma=>
   refine wpAnyH_ready (rs:=[4,10,12]) (by kernel_rfl) (by simp) (AllReadyH.cons (by simp only [tkA,tkG];rfl) (fun K hK=>?_) (AllReadyH.cons (by simp only [tkA,tkG];rfl) (fun K hK=>?_) (AllReadyH.cons (by simp only [tkA,tkG];rfl) (fun K hK=>?_) AllReadyH.nil)))
   ·go_simp
    have r2:=r.addT
    refine hK.out _ _ r2.box (fun _=>?_)
    clear hK K
    have h9:=H9_2_4_8 (V.alloc (.cells #[.int .u16 0,.int .u16 0,.int .u16 0,.int .u16 0,.int .u16 0,.int .u16 0,.int .u16 0,.int .u16 0,.bool false,.bool false,.bool false,.bool false,.bool false,.bool false,.bool false,.bool false,.int .i64 0] 46)) pa pg pes V.heap.size mq vl vw r2
    rw [hG,ha0] at h9
    simp only [Act.put,tkT,tk0,tkS] at h9
    exact listed9 (by kernel_rfl) h9
   ·go_simp
    have r2:=r.addC
    refine hK.out _ _ r2.box (fun _=>?_)
    clear hK K
    have h9:=H9_2_8_10 (V.alloc (.cells #[.int .u8 0,.int .u8 0,.int .u16 0,.int .u16 0] 51)) pa pg pes mq vl vw V.heap.size r2
    rw [hG,ha0] at h9
    simp only [Act.put,tkT,tk0,tkS] at h9
    exact listed9 (by kernel_rfl) h9
   ·go_simp
    have r2:=r.addH
    refine hK.out _ _ r2.box (fun _=>?_)
    clear hK K
    have h9:=H9_2_8_12 (V.alloc (.cells #[.pointer none,.pointer none,.pointer none,.pointer none] 53)) pa pg pes mq vl vw V.heap.size r2
    rw [hG,ha0] at h9
    simp only [Act.put,tkT,tk0,tkS] at h9
    exact listed9 (by kernel_rfl) h9
  have H9_2_10:∀ (V:World) (pa pg:Nat) (pes:List El) (cb:Nat),N9 w w4 V w2.heap.size ⟨(M:Nat),faulty,slot,gap,rho,dmin,dmax,margin,PA,pn,pcap,parts,QA,qn,qcap,ports,RA,rn,rcap,routes⟩ nd (some (pa,pg,pes)) none none (some cb) none→G 5 #[true,true,true,true,false,true,true,true,false,true,true,false,false,false] ((a0.put (some 52) (.pointer (some ⟨pa,0,none⟩))).put (some 60) (.pointer (some ⟨cb,0,none⟩))) V:=by
   intro V pa pg pes cb r
   rw [hG,ha0]
   try simp only [Act.put,tkT,tk0,tkS]
   as_aux_lemma=>
   refine wpAnyH_ready (rs:=[4,8,12]) (by kernel_rfl) (by simp) (AllReadyH.cons (by simp only [tkA,tkG];rfl) (fun K hK=>?_) (AllReadyH.cons (by simp only [tkA,tkG];rfl) (fun K hK=>?_) (AllReadyH.cons (by simp only [tkA,tkG];rfl) (fun K hK=>?_) AllReadyH.nil)))
   ·go_simp
    have r2:=r.addT
    refine hK.out _ _ r2.box (fun _=>?_)
    clear hK K
    have h9:=H9_2_4_10 (V.alloc (.cells #[.int .u16 0,.int .u16 0,.int .u16 0,.int .u16 0,.int .u16 0,.int .u16 0,.int .u16 0,.int .u16 0,.bool false,.bool false,.bool false,.bool false,.bool false,.bool false,.bool false,.bool false,.int .i64 0] 46)) pa pg pes V.heap.size cb r2
    rw [hG,ha0] at h9
    simp only [Act.put,tkT,tk0,tkS] at h9
    exact listed9 (by kernel_rfl) h9
   ·go_simp
    refine (HWat.out _ _ _ _ _ r).mono ?_
    rintro e V2 ⟨mq,vl,vw,rfl,r2⟩
    go_wp2_with fail
    refine hK.out _ _ r2.box (fun _=>?_)
    clear hK K
    have h9:=H9_2_8_10 V2 pa pg pes mq vl vw cb r2
    rw [hG,ha0] at h9
    simp only [Act.put,tkT,tk0,tkS] at h9
    exact listed9 (by kernel_rfl) h9
   ·go_simp
    have r2:=r.addH
    refine hK.out _ _ r2.box (fun _=>?_)
    clear hK K
    have h9:=H9_2_10_12 (V.alloc (.cells #[.pointer none,.pointer none,.pointer none,.pointer none] 53)) pa pg pes cb V.heap.size r2
    rw [hG,ha0] at h9
    simp only [Act.put,tkT,tk0,tkS] at h9
    exact listed9 (by kernel_rfl) h9
  have H9_2_12:∀ (V:World) (pa pg:Nat) (pes:List El) (hb9:Nat),N9 w w4 V w2.heap.size ⟨(M:Nat),faulty,slot,gap,rho,dmin,dmax,margin,PA,pn,pcap,parts,QA,qn,qcap,ports,RA,rn,rcap,routes⟩ nd (some (pa,pg,pes)) none none none (some hb9)→G 5 #[true,true,true,true,false,true,true,true,false,true,false,false,true,false] ((a0.put (some 52) (.pointer (some ⟨pa,0,none⟩))).put (some 9) (.pointer (some ⟨hb9,0,none⟩))) V:=by
   intro V pa pg pes hb9 r
   rw [hG,ha0]
   try simp only [Act.put,tkT,tk0,tkS]
   as_aux_lemma=>
   refine wpAnyH_ready (rs:=[4,8,10]) (by kernel_rfl) (by simp) (AllReadyH.cons (by simp only [tkA,tkG];rfl) (fun K hK=>?_) (AllReadyH.cons (by simp only [tkA,tkG];rfl) (fun K hK=>?_) (AllReadyH.cons (by simp only [tkA,tkG];rfl) (fun K hK=>?_) AllReadyH.nil)))
   ·go_simp
    have r2:=r.addT
    refine hK.out _ _ r2.box (fun _=>?_)
    clear hK K
    have h9:=H9_2_4_12 (V.alloc (.cells #[.int .u16 0,.int .u16 0,.int .u16 0,.int .u16 0,.int .u16 0,.int .u16 0,.int .u16 0,.int .u16 0,.bool false,.bool false,.bool false,.bool false,.bool false,.bool false,.bool false,.bool false,.int .i64 0] 46)) pa pg pes V.heap.size hb9 r2
    rw [hG,ha0] at h9
    simp only [Act.put,tkT,tk0,tkS] at h9
    exact listed9 (by kernel_rfl) h9
   ·go_simp
    refine (HWat.out _ _ _ _ _ r).mono ?_
    rintro e V2 ⟨mq,vl,vw,rfl,r2⟩
    go_wp2_with fail
    refine hK.out _ _ r2.box (fun _=>?_)
    clear hK K
    have h9:=H9_2_8_12 V2 pa pg pes mq vl vw hb9 r2
    rw [hG,ha0] at h9
    simp only [Act.put,tkT,tk0,tkS] at h9
    exact listed9 (by kernel_rfl) h9
   ·go_simp
    have r2:=r.addC
    refine hK.out _ _ r2.box (fun _=>?_)
    clear hK K
    have h9:=H9_2_10_12 (V.alloc (.cells #[.int .u8 0,.int .u8 0,.int .u16 0,.int .u16 0] 51)) pa pg pes V.heap.size hb9 r2
    rw [hG,ha0] at h9
    simp only [Act.put,tkT,tk0,tkS] at h9
    exact listed9 (by kernel_rfl) h9
  have H9_4_10:∀ (V:World) (tb:Nat) (cb:Nat),N9 w w4 V w2.heap.size ⟨(M:Nat),faulty,slot,gap,rho,dmin,dmax,margin,PA,pn,pcap,parts,QA,qn,qcap,ports,RA,rn,rcap,routes⟩ nd none (some tb) none (some cb) none→G 5 #[true,true,false,true,true,true,true,true,false,true,true,false,false,false] ((a0.put (some 54) (.pointer (some ⟨tb,0,none⟩))).put (some 60) (.pointer (some ⟨cb,0,none⟩))) V:=by
   intro V tb cb r
   rw [hG,ha0]
   try simp only [Act.put,tkT,tk0,tkS]
   as_aux_lemma=>
   refine wpAnyH_ready (rs:=[2,12]) (by kernel_rfl) (by simp) (AllReadyH.cons (by simp only [tkA,tkG];rfl) (fun K hK=>?_) (AllReadyH.cons (by simp only [tkA,tkG];rfl) (fun K hK=>?_) AllReadyH.nil))
   ·go_simp
    refine (HNew.out _ _ _ _ _ r).mono ?_
    rintro e V2 ⟨pa,pg,pes,rfl,r2⟩
    go_wp2_with fail
    refine hK.out _ _ r2.box (fun _=>?_)
    clear hK K
    have h9:=H9_2_4_10 V2 pa pg pes tb cb r2
    rw [hG,ha0] at h9
    simp only [Act.put,tkT,tk0,tkS] at h9
    exact listed9 (by kernel_rfl) h9
   ·go_simp
    have r2:=r.addH
    refine hK.out _ _ r2.box (fun _=>?_)
    clear hK K
    have h9:=H9_4_10_12 (V.alloc (.cells #[.pointer none,.pointer none,.pointer none,.pointer none] 53)) tb cb V.heap.size r2
    rw [hG,ha0] at h9
    simp only [Act.put,tkT,tk0,tkS] at h9
    exact listed9 (by kernel_rfl) h9
  have H9_4_12:∀ (V:World) (tb:Nat) (hb9:Nat),N9 w w4 V w2.heap.size ⟨(M:Nat),faulty,slot,gap,rho,dmin,dmax,margin,PA,pn,pcap,parts,QA,qn,qcap,ports,RA,rn,rcap,routes⟩ nd none (some tb) none none (some hb9)→G 5 #[true,true,false,true,true,true,true,true,false,true,false,false,true,false] ((a0.put (some 54) (.pointer (some ⟨tb,0,none⟩))).put (some 9) (.pointer (some ⟨hb9,0,none⟩))) V:=by
   intro V tb hb9 r
   rw [hG,ha0]
   try simp only [Act.put,tkT,tk0,tkS]
   as_aux_lemma=>
   refine wpAnyH_ready (rs:=[2,10]) (by kernel_rfl) (by simp) (AllReadyH.cons (by simp only [tkA,tkG];rfl) (fun K hK=>?_) (AllReadyH.cons (by simp only [tkA,tkG];rfl) (fun K hK=>?_) AllReadyH.nil))
   ·go_simp
    refine (HNew.out _ _ _ _ _ r).mono ?_
    rintro e V2 ⟨pa,pg,pes,rfl,r2⟩
    go_wp2_with fail
    refine hK.out _ _ r2.box (fun _=>?_)
    clear hK K
    have h9:=H9_2_4_12 V2 pa pg pes tb hb9 r2
    rw [hG,ha0] at h9
    simp only [Act.put,tkT,tk0,tkS] at h9
    exact listed9 (by kernel_rfl) h9
   ·go_simp
    have r2:=r.addC
    refine hK.out _ _ r2.box (fun _=>?_)
    clear hK K
    have h9:=H9_4_10_12 (V.alloc (.cells #[.int .u8 0,.int .u8 0,.int .u16 0,.int .u16 0] 51)) tb V.heap.size hb9 r2
    rw [hG,ha0] at h9
    simp only [Act.put,tkT,tk0,tkS] at h9
    exact listed9 (by kernel_rfl) h9
  have H9_10_12:∀ (V:World) (cb:Nat) (hb9:Nat),N9 w w4 V w2.heap.size ⟨(M:Nat),faulty,slot,gap,rho,dmin,dmax,margin,PA,pn,pcap,parts,QA,qn,qcap,ports,RA,rn,rcap,routes⟩ nd none none none (some cb) (some hb9)→G 5 #[true,true,false,true,false,true,true,true,false,true,true,false,true,false] ((a0.put (some 60) (.pointer (some ⟨cb,0,none⟩))).put (some 9) (.pointer (some ⟨hb9,0,none⟩))) V:=by
   intro V cb hb9 r
   rw [hG,ha0]
   try simp only [Act.put,tkT,tk0,tkS]
   as_aux_lemma=>
   refine wpAnyH_ready (rs:=[2,4]) (by kernel_rfl) (by simp) (AllReadyH.cons (by simp only [tkA,tkG];rfl) (fun K hK=>?_) (AllReadyH.cons (by simp only [tkA,tkG];rfl) (fun K hK=>?_) AllReadyH.nil))
   ·go_simp
    refine (HNew.out _ _ _ _ _ r).mono ?_
    rintro e V2 ⟨pa,pg,pes,rfl,r2⟩
    go_wp2_with fail
    refine hK.out _ _ r2.box (fun _=>?_)
    clear hK K
    have h9:=H9_2_10_12 V2 pa pg pes cb hb9 r2
    rw [hG,ha0] at h9
    simp only [Act.put,tkT,tk0,tkS] at h9
    exact listed9 (by kernel_rfl) h9
   ·go_simp
    have r2:=r.addT
    refine hK.out _ _ r2.box (fun _=>?_)
    clear hK K
    have h9:=H9_4_10_12 (V.alloc (.cells #[.int .u16 0,.int .u16 0,.int .u16 0,.int .u16 0,.int .u16 0,.int .u16 0,.int .u16 0,.int .u16 0,.bool false,.bool false,.bool false,.bool false,.bool false,.bool false,.bool false,.bool false,.int .i64 0] 46)) V.heap.size cb hb9 r2
    rw [hG,ha0] at h9
    simp only [Act.put,tkT,tk0,tkS] at h9
    exact listed9 (by kernel_rfl) h9
  have H9_2:∀ (V:World) (pa pg:Nat) (pes:List El),N9 w w4 V w2.heap.size ⟨(M:Nat),faulty,slot,gap,rho,dmin,dmax,margin,PA,pn,pcap,parts,QA,qn,qcap,ports,RA,rn,rcap,routes⟩ nd (some (pa,pg,pes)) none none none none→G 6 #[true,true,true,true,false,true,true,true,false,true,false,false,false,false] (a0.put (some 52) (.pointer (some ⟨pa,0,none⟩))) V:=by
   intro V pa pg pes r
   rw [hG,ha0]
   try simp only [Act.put,tkT,tk0,tkS]
   as_aux_lemma=>
   refine wpAnyH_ready (rs:=[4,8,10,12]) (by kernel_rfl) (by simp) (AllReadyH.cons (by simp only [tkA,tkG];rfl) (fun K hK=>?_) (AllReadyH.cons (by simp only [tkA,tkG];rfl) (fun K hK=>?_) (AllReadyH.cons (by simp only [tkA,tkG];rfl) (fun K hK=>?_) (AllReadyH.cons (by simp only [tkA,tkG];rfl) (fun K hK=>?_) AllReadyH.nil))))
   ·go_simp
    have r2:=r.addT
    refine hK.out _ _ r2.box (fun _=>?_)
    clear hK K
    have h9:=H9_2_4 (V.alloc (.cells #[.int .u16 0,.int .u16 0,.int .u16 0,.int .u16 0,.int .u16 0,.int .u16 0,.int .u16 0,.int .u16 0,.bool false,.bool false,.bool false,.bool false,.bool false,.bool false,.bool false,.bool false,.int .i64 0] 46)) pa pg pes V.heap.size r2
    rw [hG,ha0] at h9
    simp only [Act.put,tkT,tk0,tkS] at h9
    exact listed9 (by kernel_rfl) h9
   ·go_simp
    refine (HWat.out _ _ _ _ _ r).mono ?_
    rintro e V2 ⟨mq,vl,vw,rfl,r2⟩
    go_wp2_with fail
    refine hK.out _ _ r2.box (fun _=>?_)
    clear hK K
    have h9:=H9_2_8 V2 pa pg pes mq vl vw r2
    rw [hG,ha0] at h9
    simp only [Act.put,tkT,tk0,tkS] at h9
    exact listed9 (by kernel_rfl) h9
   ·go_simp
    have r2:=r.addC
    refine hK.out _ _ r2.box (fun _=>?_)
    clear hK K
    have h9:=H9_2_10 (V.alloc (.cells #[.int .u8 0,.int .u8 0,.int .u16 0,.int .u16 0] 51)) pa pg pes V.heap.size r2
    rw [hG,ha0] at h9
    simp only [Act.put,tkT,tk0,tkS] at h9
    exact listed9 (by kernel_rfl) h9
   ·go_simp
    have r2:=r.addH
    refine hK.out _ _ r2.box (fun _=>?_)
    clear hK K
    have h9:=H9_2_12 (V.alloc (.cells #[.pointer none,.pointer none,.pointer none,.pointer none] 53)) pa pg pes V.heap.size r2
    rw [hG,ha0] at h9
    simp only [Act.put,tkT,tk0,tkS] at h9
    exact listed9 (by kernel_rfl) h9
  have H9_4:∀ (V:World) (tb:Nat),N9 w w4 V w2.heap.size ⟨(M:Nat),faulty,slot,gap,rho,dmin,dmax,margin,PA,pn,pcap,parts,QA,qn,qcap,ports,RA,rn,rcap,routes⟩ nd none (some tb) none none none→G 6 #[true,true,false,true,true,true,true,true,false,true,false,false,false,false] (a0.put (some 54) (.pointer (some ⟨tb,0,none⟩))) V:=by
   intro V tb r
   rw [hG,ha0]
   try simp only [Act.put,tkT,tk0,tkS]
   as_aux_lemma=>
   refine wpAnyH_ready (rs:=[2,10,12]) (by kernel_rfl) (by simp) (AllReadyH.cons (by simp only [tkA,tkG];rfl) (fun K hK=>?_) (AllReadyH.cons (by simp only [tkA,tkG];rfl) (fun K hK=>?_) (AllReadyH.cons (by simp only [tkA,tkG];rfl) (fun K hK=>?_) AllReadyH.nil)))
   ·go_simp
    refine (HNew.out _ _ _ _ _ r).mono ?_
    rintro e V2 ⟨pa,pg,pes,rfl,r2⟩
    go_wp2_with fail
    refine hK.out _ _ r2.box (fun _=>?_)
    clear hK K
    have h9:=H9_2_4 V2 pa pg pes tb r2
    rw [hG,ha0] at h9
    simp only [Act.put,tkT,tk0,tkS] at h9
    exact listed9 (by kernel_rfl) h9
   ·go_simp
    have r2:=r.addC
    refine hK.out _ _ r2.box (fun _=>?_)
    clear hK K
    have h9:=H9_4_10 (V.alloc (.cells #[.int .u8 0,.int .u8 0,.int .u16 0,.int .u16 0] 51)) tb V.heap.size r2
    rw [hG,ha0] at h9
    simp only [Act.put,tkT,tk0,tkS] at h9
    exact listed9 (by kernel_rfl) h9
   ·go_simp
    have r2:=r.addH
    refine hK.out _ _ r2.box (fun _=>?_)
    clear hK K
    have h9:=H9_4_12 (V.alloc (.cells #[.pointer none,.pointer none,.pointer none,.pointer none] 53)) tb V.heap.size r2
    rw [hG,ha0] at h9
    simp only [Act.put,tkT,tk0,tkS] at h9
    exact listed9 (by kernel_rfl) h9
  have H9_10:∀ (V:World) (cb:Nat),N9 w w4 V w2.heap.size ⟨(M:Nat),faulty,slot,gap,rho,dmin,dmax,margin,PA,pn,pcap,parts,QA,qn,qcap,ports,RA,rn,rcap,routes⟩ nd none none none (some cb) none→G 6 #[true,true,false,true,false,true,true,true,false,true,true,false,false,false] (a0.put (some 60) (.pointer (some ⟨cb,0,none⟩))) V:=by
   intro V cb r
   rw [hG,ha0]
   try simp only [Act.put,tkT,tk0,tkS]
   as_aux_lemma=>
   refine wpAnyH_ready (rs:=[2,4,12]) (by kernel_rfl) (by simp) (AllReadyH.cons (by simp only [tkA,tkG];rfl) (fun K hK=>?_) (AllReadyH.cons (by simp only [tkA,tkG];rfl) (fun K hK=>?_) (AllReadyH.cons (by simp only [tkA,tkG];rfl) (fun K hK=>?_) AllReadyH.nil)))
   ·go_simp
    refine (HNew.out _ _ _ _ _ r).mono ?_
    rintro e V2 ⟨pa,pg,pes,rfl,r2⟩
    go_wp2_with fail
    refine hK.out _ _ r2.box (fun _=>?_)
    clear hK K
    have h9:=H9_2_10 V2 pa pg pes cb r2
    rw [hG,ha0] at h9
    simp only [Act.put,tkT,tk0,tkS] at h9
    exact listed9 (by kernel_rfl) h9
   ·go_simp
    have r2:=r.addT
    refine hK.out _ _ r2.box (fun _=>?_)
    clear hK K
    have h9:=H9_4_10 (V.alloc (.cells #[.int .u16 0,.int .u16 0,.int .u16 0,.int .u16 0,.int .u16 0,.int .u16 0,.int .u16 0,.int .u16 0,.bool false,.bool false,.bool false,.bool false,.bool false,.bool false,.bool false,.bool false,.int .i64 0] 46)) V.heap.size cb r2
    rw [hG,ha0] at h9
    simp only [Act.put,tkT,tk0,tkS] at h9
    exact listed9 (by kernel_rfl) h9
   ·go_simp
    have r2:=r.addH
    refine hK.out _ _ r2.box (fun _=>?_)
    clear hK K
    have h9:=H9_10_12 (V.alloc (.cells #[.pointer none,.pointer none,.pointer none,.pointer none] 53)) cb V.heap.size r2
    rw [hG,ha0] at h9
    simp only [Act.put,tkT,tk0,tkS] at h9
    exact listed9 (by kernel_rfl) h9
  have H9_12:∀ (V:World) (hb9:Nat),N9 w w4 V w2.heap.size ⟨(M:Nat),faulty,slot,gap,rho,dmin,dmax,margin,PA,pn,pcap,parts,QA,qn,qcap,ports,RA,rn,rcap,routes⟩ nd none none none none (some hb9)→G 6 #[true,true,false,true,false,true,true,true,false,true,false,false,true,false] (a0.put (some 9) (.pointer (some ⟨hb9,0,none⟩))) V:=by
   intro V hb9 r
   rw [hG,ha0]
   try simp only [Act.put,tkT,tk0,tkS]
   as_aux_lemma=>
   refine wpAnyH_ready (rs:=[2,4,10]) (by kernel_rfl) (by simp) (AllReadyH.cons (by simp only [tkA,tkG];rfl) (fun K hK=>?_) (AllReadyH.cons (by simp only [tkA,tkG];rfl) (fun K hK=>?_) (AllReadyH.cons (by simp only [tkA,tkG];rfl) (fun K hK=>?_) AllReadyH.nil)))
   ·go_simp
    refine (HNew.out _ _ _ _ _ r).mono ?_
    rintro e V2 ⟨pa,pg,pes,rfl,r2⟩
    go_wp2_with fail
    refine hK.out _ _ r2.box (fun _=>?_)
    clear hK K
    have h9:=H9_2_12 V2 pa pg pes hb9 r2
    rw [hG,ha0] at h9
    simp only [Act.put,tkT,tk0,tkS] at h9
    exact listed9 (by kernel_rfl) h9
   ·go_simp
    have r2:=r.addT
    refine hK.out _ _ r2.box (fun _=>?_)
    clear hK K
    have h9:=H9_4_12 (V.alloc (.cells #[.int .u16 0,.int .u16 0,.int .u16 0,.int .u16 0,.int .u16 0,.int .u16 0,.int .u16 0,.int .u16 0,.bool false,.bool false,.bool false,.bool false,.bool false,.bool false,.bool false,.bool false,.int .i64 0] 46)) V.heap.size hb9 r2
    rw [hG,ha0] at h9
    simp only [Act.put,tkT,tk0,tkS] at h9
    exact listed9 (by kernel_rfl) h9
   ·go_simp
    have r2:=r.addC
    refine hK.out _ _ r2.box (fun _=>?_)
    clear hK K
    have h9:=H9_10_12 (V.alloc (.cells #[.int .u8 0,.int .u8 0,.int .u16 0,.int .u16 0] 51)) V.heap.size hb9 r2
    rw [hG,ha0] at h9
    simp only [Act.put,tkT,tk0,tkS] at h9
    exact listed9 (by kernel_rfl) h9
  have H9_:∀ (V:World),N9 w w4 V w2.heap.size ⟨(M:Nat),faulty,slot,gap,rho,dmin,dmax,margin,PA,pn,pcap,parts,QA,qn,qcap,ports,RA,rn,rcap,routes⟩ nd none none none none none→G 7 #[true,true,false,true,false,true,true,true,false,true,false,false,false,false] a0 V:=by
   intro V  r
   rw [hG,ha0]
   try simp only [Act.put,tkT,tk0,tkS]
   as_aux_lemma=>
   refine wpAnyH_ready (rs:=[2,4,10,12]) (by kernel_rfl) (by simp) (AllReadyH.cons (by simp only [tkA,tkG];rfl) (fun K hK=>?_) (AllReadyH.cons (by simp only [tkA,tkG];rfl) (fun K hK=>?_) (AllReadyH.cons (by simp only [tkA,tkG];rfl) (fun K hK=>?_) (AllReadyH.cons (by simp only [tkA,tkG];rfl) (fun K hK=>?_) AllReadyH.nil))))
   ·go_simp
    refine (HNew.out _ _ _ _ _ r).mono ?_
    rintro e V2 ⟨pa,pg,pes,rfl,r2⟩
    go_wp2_with fail
    refine hK.out _ _ r2.box (fun _=>?_)
    clear hK K
    have h9:=H9_2 V2 pa pg pes r2
    rw [hG,ha0] at h9
    simp only [Act.put,tkT,tk0,tkS] at h9
    exact listed9 (by kernel_rfl) h9
   ·go_simp
    have r2:=r.addT
    refine hK.out _ _ r2.box (fun _=>?_)
    clear hK K
    have h9:=H9_4 (V.alloc (.cells #[.int .u16 0,.int .u16 0,.int .u16 0,.int .u16 0,.int .u16 0,.int .u16 0,.int .u16 0,.int .u16 0,.bool false,.bool false,.bool false,.bool false,.bool false,.bool false,.bool false,.bool false,.int .i64 0] 46)) V.heap.size r2
    rw [hG,ha0] at h9
    simp only [Act.put,tkT,tk0,tkS] at h9
    exact listed9 (by kernel_rfl) h9
   ·go_simp
    have r2:=r.addC
    refine hK.out _ _ r2.box (fun _=>?_)
    clear hK K
    have h9:=H9_10 (V.alloc (.cells #[.int .u8 0,.int .u8 0,.int .u16 0,.int .u16 0] 51)) V.heap.size r2
    rw [hG,ha0] at h9
    simp only [Act.put,tkT,tk0,tkS] at h9
    exact listed9 (by kernel_rfl) h9
   ·go_simp
    have r2:=r.addH
    refine hK.out _ _ r2.box (fun _=>?_)
    clear hK K
    have h9:=H9_12 (V.alloc (.cells #[.pointer none,.pointer none,.pointer none,.pointer none] 53)) V.heap.size r2
    rw [hG,ha0] at h9
    simp only [Act.put,tkT,tk0,tkS] at h9
    exact listed9 (by kernel_rfl) h9
  have h9:=H9_ w9d r0
  rw [hG] at h9 ⊢
  exact listed9 (by kernel_rfl) h9
 case rest=>
 obtain ⟨db,d,rfl,hdn⟩:=hcut
 have hB0:0 < w2.heap.size:=by
  have h1:=HB2.out
  rw [zb7] at h1
  omega
 have hl0:=LawC.start HH.out HHb.out hdn H24.out Hd4.out HB2.out HG4.out hB0
 have HLA0:Hid (RunsA w w2.heap.size ⟨(M:Nat),faulty,slot,gap,rho,dmin,dmax,margin,PA,pn,pcap,parts,QA,qn,qcap,ports,RA,rn,rcap,routes⟩ nd h d w3.heap.size db pn (.slice none 0 0) (.slice none 0 0) (.int .i64 0) wc):=Lib.hid ⟨0,[],Nat.zero_le _,rfl,rfl,hl0,fun i q p hq=>(by simp at hq)⟩
 have k8:=d8 _ hl0.box
 have HW4:=Lib.hid Hb4.out
 clear hdn hl0 HH HHb Hd4 HG4
 go_wp2_with fail
 clear k8
 go_loopw [10,11,65] (RunsA w w2.heap.size ⟨(M:Nat),faulty,slot,gap,rho,dmin,dmax,margin,PA,pn,pcap,parts,QA,qn,qcap,ports,RA,rn,rcap,routes⟩ nd h d w3.heap.size db pn) (fun _ _ i _=>(pn + 1 - intOf i).toNat)
 case atStart=>exact HLA0.out
 case round=>
  clear HLA0
  obtain ⟨k,ps,hk,rfl,hpl,hla,hz⟩:=hrel
  have hp12:=HPn.out
  have hplen:=HPl.out
  by_cases hlt:k < pn
  case neg=>
   have p1:decide ((k:Int) < (pn:Int))=false:=decide_eq_false (by omega)
   have p2:decide (k < pn)=false:=decide_eq_false hlt
   have hkn:k=pn:=by omega
   subst hkn
   have hpos:=HPos.out
   obtain ⟨ga,ca,rfl,-⟩:=zc6 hla.all (by omega)
   obtain ⟨gm,cm,rfl,-⟩:=zc6 hla.mem (by omega)
   rw [hpl] at hla ⊢
   have HLB0:Hid (RunsB w w2.heap.size ⟨(M:Nat),faulty,slot,gap,rho,dmin,dmax,margin,PA,k,pcap,parts,QA,qn,qcap,ports,RA,rn,rcap,routes⟩ nd h d w3.heap.size db n (.slice (some ⟨ga,0,none⟩) k ca) (.slice (some ⟨gm,0,none⟩) k cm) (.int .i64 0) wr):=Lib.hid ⟨0,h,d,ps,_,_,_,_,Nat.zero_le _,Nat.zero_le _,rfl,hpl.trans hplen.symm,hla,fun i q p' hq hp'=>⟨(hz i q p' hq hp').2,by rw [(hz i q p' hq hp').1,List.length_replicate]⟩,PorP.Like.start _,PorP.Bare.start _ _,HeaP.MonLow.start _⟩
   clear hla hz hpl hk hlt
   go_wp2_with fail
   generalize wr=wo at *
   go_loopw [15] (RunsB w w2.heap.size ⟨(M:Nat),faulty,slot,gap,rho,dmin,dmax,margin,PA,k,pcap,parts,QA,qn,qcap,ports,RA,rn,rcap,routes⟩ nd h d w3.heap.size db n (.slice (some ⟨ga,0,none⟩) k ca) (.slice (some ⟨gm,0,none⟩) k cm)) (fun i _=>(n + 1 - intOf i).toNat)
   case atStart=>exact HLB0.out
   case round=>
    clear HLB0
    obtain ⟨j,h2,dd2,ps2,sA,sD,mm,cc,hjn,hj12,rfl,hpl2,hla,hmem,hlike,hbare,hlow⟩:=hrel
    have hN:=HN.out
    have hLn:=HL.out
    by_cases hjl:j < n∧j < 12
    case neg=>
     by_cases hj1:j < n
     case neg=>
      have q1:decide ((j:Int) < (n:Int))=false:=decide_eq_false (by omega)
      have q2:decide (j < n)=false:=decide_eq_false hj1
      as_aux_lemma=>
      have HSA:=Lib.hid (hla.drew33.sealA)
      have hout:mm.out.length≤4:=hla.both.doc.val.ok.out
      have HlowB:=Lib.hid hla.wLeB
      have hd0:S33 w3.heap.size db #[.pointer (some ⟨h.x.a,0,none⟩),.pointer (some ⟨h.tb,0,none⟩),.pointer (some ⟨h.mb,0,none⟩),.pointer (some ⟨h.cb,0,none⟩)] #[.pointer (some ⟨d.ra,0,none⟩),.pointer (some ⟨d.tb,0,none⟩),.pointer (some ⟨d.rm,0,none⟩),.pointer (some ⟨d.cb,0,none⟩)] wr.drew:=⟨hla.hbx,hla.dbx⟩
      have s2:∀ W,S33 w3.heap.size db #[.pointer (some ⟨h.x.a,0,none⟩),.pointer (some ⟨h.tb,0,none⟩),.pointer (some ⟨h.mb,0,none⟩),.pointer (some ⟨h.cb,0,none⟩)] #[.pointer (some ⟨d.ra,0,none⟩),.pointer (some ⟨d.tb,0,none⟩),.pointer (some ⟨d.rm,0,none⟩),.pointer (some ⟨d.cb,0,none⟩)] W→W.cell? ⟨w3.heap.size,2,none⟩=some (.pointer (some ⟨h.mb,0,none⟩)):=fun W hW=>za0 hW.1 2 rfl
      have s3:∀ W,S33 w3.heap.size db #[.pointer (some ⟨h.x.a,0,none⟩),.pointer (some ⟨h.tb,0,none⟩),.pointer (some ⟨h.mb,0,none⟩),.pointer (some ⟨h.cb,0,none⟩)] #[.pointer (some ⟨d.ra,0,none⟩),.pointer (some ⟨d.tb,0,none⟩),.pointer (some ⟨d.rm,0,none⟩),.pointer (some ⟨d.cb,0,none⟩)] W→W.cell? ⟨db,2,none⟩=some (.pointer (some ⟨d.rm,0,none⟩)):=fun W hW=>za0 hW.2 2 rfl
      clear hla hmem hlike hbare hlow hpl2 hj12 hjn
      go_upto_region 33 with (fail)
      refine wp_region_held_drew (S:=fun W=>S33 w3.heap.size db #[.pointer (some ⟨h.x.a,0,none⟩),.pointer (some ⟨h.tb,0,none⟩),.pointer (some ⟨h.mb,0,none⟩),.pointer (some ⟨h.cb,0,none⟩)] #[.pointer (some ⟨d.ra,0,none⟩),.pointer (some ⟨d.tb,0,none⟩),.pointer (some ⟨d.rm,0,none⟩),.pointer (some ⟨d.cb,0,none⟩)] W) (by kernel_rfl) hd0 (fun _=>?_)
      refine tK 0 hd0 ?_
      try simp only [Act.put,tkT,tk0,tkS]
      refine tK 1 hd0 ?_
      try simp only [Act.put,tkT,tk0,tkS]
      refine tK 3 hd0 ?_
      try simp only [Act.put,tkT,tk0,tkS]
      refine tK 4 hd0 ?_
      try simp only [Act.put,tkT,tk0,tkS]
      refine clH 2 (by kernel_rfl) (by simp only [tkA,tkG];rfl) (fun K hK=>?_)
      go_simp
      refine HSA.out.mono ?_
      rintro e w7 ⟨vr,rfl,g1,g2,g3,g4,g5,g6⟩
      have hd7:S33 w3.heap.size db #[.pointer (some ⟨h.x.a,0,none⟩),.pointer (some ⟨h.tb,0,none⟩),.pointer (some ⟨h.mb,0,none⟩),.pointer (some ⟨h.cb,0,none⟩)] #[.pointer (some ⟨d.ra,0,none⟩),.pointer (some ⟨d.tb,0,none⟩),.pointer (some ⟨d.rm,0,none⟩),.pointer (some ⟨d.cb,0,none⟩)] w7:=⟨g3,g4⟩
      have HSD:=Lib.hid (zr2 g1 g2 g5 HlowB.out g6)
      clear g1 g2 g3 g4 g5 g6 HSA
      go_wp2_with fail
      refine hK.out _ _ hd7 (fun _=>?_)
      clear hK K
      refine clH 5 (by kernel_rfl) (by simp only [tkA,tkG];rfl) (fun K hK=>?_)
      go_simp
      refine HSD.out.mono ?_
      rintro e w8 ⟨A8,c8,A9,c9,rfl,rfl,g1,g2,g3,g4⟩
      have hd8:S33 w3.heap.size db #[.pointer (some ⟨h.x.a,0,none⟩),.pointer (some ⟨h.tb,0,none⟩),.pointer (some ⟨h.mb,0,none⟩),.pointer (some ⟨h.cb,0,none⟩)] #[.pointer (some ⟨d.ra,0,none⟩),.pointer (some ⟨d.tb,0,none⟩),.pointer (some ⟨d.rm,0,none⟩),.pointer (some ⟨d.cb,0,none⟩)] w8:=⟨g4 _ _ _ hd7.1 (by decide),g4 _ _ _ hd7.2 (by decide)⟩
      have HSm:=Lib.hid (zn3 A8 A9 mm.out.length c8 c9 mm.out rfl w8 g1 g2 (by omega))
      have HB8:=Lib.hid g3
      clear g1 g2 g3 g4 HSD
      go_wp2_with fail
      refine hK.out _ _ hd8 (fun _=>?_)
      clear hK K
      refine clH 6 (by kernel_rfl) (by simp only [tkA,tkG];rfl) (fun K hK=>?_)
      go_simp
      refine HSm.out.mono ?_
      rintro e w9 ⟨rfl,q9,rfl⟩
      have hd9:S33 w3.heap.size db #[.pointer (some ⟨h.x.a,0,none⟩),.pointer (some ⟨h.tb,0,none⟩),.pointer (some ⟨h.mb,0,none⟩),.pointer (some ⟨h.cb,0,none⟩)] #[.pointer (some ⟨d.ra,0,none⟩),.pointer (some ⟨d.tb,0,none⟩),.pointer (some ⟨d.rm,0,none⟩),.pointer (some ⟨d.cb,0,none⟩)] (w8.drewN q9):=⟨hd8.1,hd8.2⟩
      have HF:=Lib.hid (zb0 HB8.out q9)
      clear HSm
      go_wp2_with fail
      refine hK.out _ _ hd9 (fun _=>?_)
      clear hK K
      refine tK 7 hd9 ?_
      try simp only [Act.put,tkT,tk0,tkS]
      refine wpAnyH_done (by kernel_rfl) ?_ _
      clear hd0 hd7 hd8 hd9 s2 s3
      go_wp2_with fail
      go_ret
      exact ⟨rfl,HF.out⟩
     case pos=>
      have q1:decide ((j:Int) < (n:Int))=true:=decide_eq_true (by omega)
      have q2:decide (j < n)=true:=decide_eq_true hj1
      have q3:decide ((j:Int) < 12)=false:=decide_eq_false (by omega)
      have q4:decide (j < 12)=false:=decide_eq_false (by omega)
      as_aux_lemma=>
      have HSA:=Lib.hid (hla.drew33.sealA)
      have hout:mm.out.length≤4:=hla.both.doc.val.ok.out
      have HlowB:=Lib.hid hla.wLeB
      have hd0:S33 w3.heap.size db #[.pointer (some ⟨h.x.a,0,none⟩),.pointer (some ⟨h.tb,0,none⟩),.pointer (some ⟨h.mb,0,none⟩),.pointer (some ⟨h.cb,0,none⟩)] #[.pointer (some ⟨d.ra,0,none⟩),.pointer (some ⟨d.tb,0,none⟩),.pointer (some ⟨d.rm,0,none⟩),.pointer (some ⟨d.cb,0,none⟩)] wr.drew:=⟨hla.hbx,hla.dbx⟩
      have s2:∀ W,S33 w3.heap.size db #[.pointer (some ⟨h.x.a,0,none⟩),.pointer (some ⟨h.tb,0,none⟩),.pointer (some ⟨h.mb,0,none⟩),.pointer (some ⟨h.cb,0,none⟩)] #[.pointer (some ⟨d.ra,0,none⟩),.pointer (some ⟨d.tb,0,none⟩),.pointer (some ⟨d.rm,0,none⟩),.pointer (some ⟨d.cb,0,none⟩)] W→W.cell? ⟨w3.heap.size,2,none⟩=some (.pointer (some ⟨h.mb,0,none⟩)):=fun W hW=>za0 hW.1 2 rfl
      have s3:∀ W,S33 w3.heap.size db #[.pointer (some ⟨h.x.a,0,none⟩),.pointer (some ⟨h.tb,0,none⟩),.pointer (some ⟨h.mb,0,none⟩),.pointer (some ⟨h.cb,0,none⟩)] #[.pointer (some ⟨d.ra,0,none⟩),.pointer (some ⟨d.tb,0,none⟩),.pointer (some ⟨d.rm,0,none⟩),.pointer (some ⟨d.cb,0,none⟩)] W→W.cell? ⟨db,2,none⟩=some (.pointer (some ⟨d.rm,0,none⟩)):=fun W hW=>za0 hW.2 2 rfl
      clear hla hmem hlike hbare hlow hpl2 hj12 hjn
      go_upto_region 33 with (fail)
      refine wp_region_held_drew (S:=fun W=>S33 w3.heap.size db #[.pointer (some ⟨h.x.a,0,none⟩),.pointer (some ⟨h.tb,0,none⟩),.pointer (some ⟨h.mb,0,none⟩),.pointer (some ⟨h.cb,0,none⟩)] #[.pointer (some ⟨d.ra,0,none⟩),.pointer (some ⟨d.tb,0,none⟩),.pointer (some ⟨d.rm,0,none⟩),.pointer (some ⟨d.cb,0,none⟩)] W) (by kernel_rfl) hd0 (fun _=>?_)
      refine tK 0 hd0 ?_
      try simp only [Act.put,tkT,tk0,tkS]
      refine tK 1 hd0 ?_
      try simp only [Act.put,tkT,tk0,tkS]
      refine tK 3 hd0 ?_
      try simp only [Act.put,tkT,tk0,tkS]
      refine tK 4 hd0 ?_
      try simp only [Act.put,tkT,tk0,tkS]
      refine clH 2 (by kernel_rfl) (by simp only [tkA,tkG];rfl) (fun K hK=>?_)
      go_simp
      refine HSA.out.mono ?_
      rintro e w7 ⟨vr,rfl,g1,g2,g3,g4,g5,g6⟩
      have hd7:S33 w3.heap.size db #[.pointer (some ⟨h.x.a,0,none⟩),.pointer (some ⟨h.tb,0,none⟩),.pointer (some ⟨h.mb,0,none⟩),.pointer (some ⟨h.cb,0,none⟩)] #[.pointer (some ⟨d.ra,0,none⟩),.pointer (some ⟨d.tb,0,none⟩),.pointer (some ⟨d.rm,0,none⟩),.pointer (some ⟨d.cb,0,none⟩)] w7:=⟨g3,g4⟩
      have HSD:=Lib.hid (zr2 g1 g2 g5 HlowB.out g6)
      clear g1 g2 g3 g4 g5 g6 HSA
      go_wp2_with fail
      refine hK.out _ _ hd7 (fun _=>?_)
      clear hK K
      refine clH 5 (by kernel_rfl) (by simp only [tkA,tkG];rfl) (fun K hK=>?_)
      go_simp
      refine HSD.out.mono ?_
      rintro e w8 ⟨A8,c8,A9,c9,rfl,rfl,g1,g2,g3,g4⟩
      have hd8:S33 w3.heap.size db #[.pointer (some ⟨h.x.a,0,none⟩),.pointer (some ⟨h.tb,0,none⟩),.pointer (some ⟨h.mb,0,none⟩),.pointer (some ⟨h.cb,0,none⟩)] #[.pointer (some ⟨d.ra,0,none⟩),.pointer (some ⟨d.tb,0,none⟩),.pointer (some ⟨d.rm,0,none⟩),.pointer (some ⟨d.cb,0,none⟩)] w8:=⟨g4 _ _ _ hd7.1 (by decide),g4 _ _ _ hd7.2 (by decide)⟩
      have HSm:=Lib.hid (zn3 A8 A9 mm.out.length c8 c9 mm.out rfl w8 g1 g2 (by omega))
      have HB8:=Lib.hid g3
      clear g1 g2 g3 g4 HSD
      go_wp2_with fail
      refine hK.out _ _ hd8 (fun _=>?_)
      clear hK K
      refine clH 6 (by kernel_rfl) (by simp only [tkA,tkG];rfl) (fun K hK=>?_)
      go_simp
      refine HSm.out.mono ?_
      rintro e w9 ⟨rfl,q9,rfl⟩
      have hd9:S33 w3.heap.size db #[.pointer (some ⟨h.x.a,0,none⟩),.pointer (some ⟨h.tb,0,none⟩),.pointer (some ⟨h.mb,0,none⟩),.pointer (some ⟨h.cb,0,none⟩)] #[.pointer (some ⟨d.ra,0,none⟩),.pointer (some ⟨d.tb,0,none⟩),.pointer (some ⟨d.rm,0,none⟩),.pointer (some ⟨d.cb,0,none⟩)] (w8.drewN q9):=⟨hd8.1,hd8.2⟩
      have HF:=Lib.hid (zb0 HB8.out q9)
      clear HSm
      go_wp2_with fail
      refine hK.out _ _ hd9 (fun _=>?_)
      clear hK K
      refine tK 7 hd9 ?_
      try simp only [Act.put,tkT,tk0,tkS]
      refine wpAnyH_done (by kernel_rfl) ?_ _
      clear hd0 hd7 hd8 hd9 s2 s3
      go_wp2_with fail
      go_ret
      exact ⟨rfl,HF.out⟩
    case pos=>
     obtain ⟨hjl1,hjl2⟩:=hjl
     have q1:decide ((j:Int) < (n:Int))=true:=decide_eq_true (by omega)
     have q2:decide (j < n)=true:=decide_eq_true hjl1
     have q3:decide ((j:Int) < 12)=true:=decide_eq_true (by omega)
     have q4:decide (j < 12)=true:=decide_eq_true hjl2
     have q5:(j:Int) < (n:Int):=by omega
     have e8:IntKind.i64.wrap ((j:Int) + 1)=(j:Int) + 1:=IntWalk.i64_in _ (by omega)
     obtain ⟨tt,htt⟩:∃ tt,ts[j]? = some tt:=⟨_,List.getElem?_eq_getElem (by omega)⟩
     have htok:=HOk.out tt (List.mem_of_getElem? htt)
     obtain ⟨tb,tO,hA,htl,htit⟩:=HIt.out (by omega)
     have htc:∀ i u,(turnVals tt)[i]? = some u→wr.cell? ⟨tb,tO + j * 4 + i,none⟩=some u:=fun i u hu=>(hla.box.below.cell (p:=⟨tb,_,none⟩) htl).trans (htit j tt htt i u hu)
     obtain ⟨tpart,tclear,tround,tA,tn,tcap,tops⟩:=tt
     subst hA
     have t0:wr.cell? ⟨tb,tO + j * 4,none⟩=some (.int .i64 tpart):=htc 0 _ rfl
     have t1:wr.cell? ⟨tb,tO + j * 4 + 1,none⟩=some (.bool tclear):=htc 1 _ rfl
     have t2:wr.cell? ⟨tb,tO + j * 4 + 2,none⟩=some (.int .u32 (tround:Nat)):=htc 2 _ rfl
     have t3:wr.cell? ⟨tb,tO + j * 4 + 3,none⟩=some (.slice tA tn tcap):=htc 3 _ rfl
     have hbq:Below wr.heap.size wr (wr.alloc (.cells #[.int .i64 tpart,.bool tclear,.int .u32 (tround:Nat),.slice tA tn tcap] 70)):=(Below.refl _ _).alloc (Nat.le_refl _) _
     have htb:(wr.alloc (.cells #[.int .i64 tpart,.bool tclear,.int .u32 (tround:Nat),.slice tA tn tcap] 70)).heap[wr.heap.size]? = some (.cells #[.int .i64 tpart,.bool tclear,.int .u32 (tround:Nat),.slice tA tn tcap] 70 (0,0)):=newAt _ _
     have lb:=hla.below hbq
     have HTok:=Lib.hid htok
     obtain ⟨kk,hkk,e2⟩:=zF3 tpart k hpos
     have e1:IntKind.u64.wrap (k:Int)=(k:Int):=by rw [IntKind.wrap_u64];omega
     have e3:IntKind.i64.wrap (kk:Int)=(kk:Int):=IntWalk.i64_in _ (by omega)
     have z2:((k:Int) == 0)=false:=by rw [beq_eq_false_iff_ne];omega
     have z3:(k == 0)=false:=by rw [beq_eq_false_iff_ne];omega
     have hk0:(k:Int)≠0:=by omega
     have z4:decide ((kk:Int) < (k:Int))=true:=decide_eq_true (by omega)
     have z5:decide (kk < k)=true:=decide_eq_true hkk
     have z6:(kk:Int) < (k:Int):=by omega
     obtain ⟨q,hq⟩:∃ q,ps2[kk]? = some q:=⟨_,List.getElem?_eq_getElem (by rw [hpl2];show kk < parts.length;omega)⟩
     obtain ⟨p,hp⟩:∃ p,parts[kk]? = some p:=⟨_,List.getElem?_eq_getElem (by omega)⟩
     have HQ:=Lib.hid hq
     have HP:Hid (((⟨(M:Nat),faulty,slot,gap,rho,dmin,dmax,margin,PA,k,pcap,parts,QA,qn,qcap,ports,RA,rn,rcap,routes⟩:CfgC)).parts[kk]? = some p):=Lib.hid hp
     have HPlen:=Lib.hid hpl2
     have HMem:=Lib.hid hmem
     have HLike:=Lib.hid hlike
     have HBare:=Lib.hid hbare
     have HLow:=Lib.hid hlow
     have HTb:=Lib.hid htb
     have LB:=Lib.hid lb
     obtain ⟨ga2,ca2,gm2,cm2,ea,em,ka,km,fm⟩:=lb.at_ hq
     rw [show ps2.length=k by rw [hpl2];exact hplen] at ea em
     simp only [Value.slice.injEq,Option.some.injEq,Addr.mk.injEq,and_true,true_and] at ea em
     obtain ⟨rfl,rfl⟩:=ea
     obtain ⟨rfl,rfl⟩:=em
     clear hla htok htit htc hbq htb lb hmem hlike hbare hlow hpl2 hp hq htt hplen
     go_upto_region 24 with (fail)
     clear t0 t1 t2 t3
     generalize (wr.alloc (.cells #[.int .i64 tpart,.bool tclear,.int .u32 (tround:Nat),.slice tA tn tcap] 70))=wb at *
     have t0:=za0 HTb.out 0 rfl
     have t1:=za0 HTb.out 1 rfl
     have t2:=za0 HTb.out 2 rfl
     have t3:=za0 HTb.out 3 rfl
     by_cases hbig:150 < tn
     case pos=>
      have b1:decide ((150:Int) < (tn:Int))=true:=decide_eq_true (by omega)
      have b2:decide (150 < tn)=true:=decide_eq_true hbig
      have HF:Hid (RunsB w w2.heap.size ⟨(M:Nat),faulty,slot,gap,rho,dmin,dmax,margin,PA,k,pcap,parts,QA,qn,qcap,ports,RA,rn,rcap,routes⟩ nd h d w3.heap.size db n (.slice (some ⟨ga,0,none⟩) k ca) (.slice (some ⟨gm,0,none⟩) k cm) (.int .i64 ((j:Int) + 1)) wb):=Lib.hid ⟨j + 1,h2,dd2,ps2,sA,sD,mm,cc,by omega,by omega,by go_num,HPlen.out,LB.out,HMem.out,HLike.out,HBare.out,HLow.out.more (by omega)⟩
      clear HQ HP HPlen HMem HLike HBare HLow LB ka km fm
      go_wp2_with fail
      go_roundw
      case rel=>exact HF.out
      case measure=>simp [intOf];omega
     case neg=>
     have b1:decide ((150:Int) < (tn:Int))=false:=decide_eq_false (by omega)
     have b2:decide (150 < tn)=false:=decide_eq_false hbig
     cases tclear with
     | true=>
      as_aux_lemma=>
      obtain ⟨hm1,hm2⟩:=HMem.out kk q p HQ.out HP.out
      have HCl:=Lib.hid (clear_any (LB.out.both.prog kk q p HQ.out HP.out) hm2)
      go_wp2_with fail
      refine HCl.out.mono ?_
      rintro e w7 ⟨rfl,g1,g2⟩
      obtain ⟨g3,g4⟩:=LB.out.both.hst.toWords (LB.out.both.prog kk q p HQ.out HP.out) g2
      have l7:=LB.out.ran HQ.out g3 (fun p' hp'=>by rw [HP.out] at hp';obtain rfl:=Option.some.inj hp';exact g1) g4
      have hqk:kk < ps2.length:=(List.getElem?_eq_some_iff.1 HQ.out).1
      have hq7:(ps2.set kk { q with memA:=List.replicate p.words.toNat 0 })[kk]? = some { q with memA:=List.replicate p.words.toNat 0 }:=List.getElem?_set_self hqk
      have hpw:0≤p.words∧p.words≤16:=by
       have:=(HAl.out.part p (List.mem_of_getElem? HP.out)).2.2.2.2.1
       unfold TableP.up at this
       exact this
      obtain ⟨wn,hwn⟩:=Int.eq_ofNat_of_zero_le hpw.1
      have hwn2:p.words.toNat=wn:=by rw [hwn];rfl
      rw [hwn2] at l7 hq7
      have lr:=l7.renew (n:=wn) (gm:=gm) (cm:=cm) hq7 (by omega) (by rw [List.length_set,HPlen.out];show Value.slice _ k _=Value.slice _ parts.length _;rw [HPl.out])
      obtain ⟨ga3,ca3,gm3,cm3,ea3,em3,-,km3,fm3⟩:=l7.at_ hq7
      rw [List.length_set,HPlen.out,show ((⟨(M:Nat),faulty,slot,gap,rho,dmin,dmax,margin,PA,k,pcap,parts,QA,qn,qcap,ports,RA,rn,rcap,routes⟩:CfgC)).parts.length=k from HPl.out] at em3
      simp only [Value.slice.injEq,Option.some.injEq,Addr.mk.injEq,and_true,true_and] at em3
      obtain ⟨rfl,rfl⟩:=em3
      obtain ⟨qb,qo,hPA,-,kwd,kwn⟩:=zd9 l7.both.doc.por.cfgW HP.out
      rw [hwn] at kwn
      have k8:=d8 _ l7.box
      have e9:PA=some ⟨qb,qo,none⟩:=hPA
      rw [e9] at k8
      clear e9
      have hmk:=zm8 wn (by omega) w7
      have HF:Hid (RunsB w w2.heap.size ⟨(M:Nat),faulty,slot,gap,rho,dmin,dmax,margin,PA,k,pcap,parts,QA,qn,qcap,ports,RA,rn,rcap,routes⟩ nd h d w3.heap.size db n (.slice (some ⟨ga,0,none⟩) k ca) (.slice (some ⟨gm,0,none⟩) k cm) (.int .i64 ((j:Int) + 1)) ((w7.alloc (.cells (wordV (List.replicate wn 0)).toArray 42)).setCell ⟨gm,kk,none⟩ (.slice (some ⟨w7.heap.size,0,none⟩) wn wn))):=Lib.hid (by
       refine ⟨j + 1,h2,dd2,_,sA,sD,mm,cc,by omega,by omega,by go_num,by rw [List.length_set,List.length_set];exact HPlen.out,lr,fun i r p' hr hp'=>?_,HLike.out,HBare.out,HLow.out.more (by omega)⟩
       by_cases hi:kk=i
       ·subst hi
        rw [List.getElem?_set_self (by rw [List.length_set];exact hqk)] at hr
        obtain rfl:=Option.some.inj hr
        rw [HP.out] at hp'
        obtain rfl:=Option.some.inj hp'
        exact ⟨rfl,by rw [List.length_replicate,hwn2]⟩
       ·rw [List.getElem?_set_ne hi,List.getElem?_set_ne hi] at hr
        exact HMem.out i r p' hr hp')
      have km4:(w7.alloc (.cells (wordV (List.replicate wn 0)).toArray 42)).cell? ⟨gm,kk,none⟩=some q.mv:=(World.cell?_alloc_lt _ _ ⟨gm,kk,none⟩ (World.block_lt_of_cell? w7 _ km3)).trans km3
      have hgl:=World.block_lt_of_cell? w7 _ km3
      have hcm:((w7.alloc (.cells (wordV (List.replicate wn 0)).toArray 42)).setCell ⟨gm,kk,none⟩ (.slice (some ⟨w7.heap.size,0,none⟩) wn wn))=((w7.setCell ⟨gm,kk,none⟩ (.slice (some ⟨w7.heap.size,0,none⟩) wn wn)).alloc (.cells (wordV (List.replicate wn 0)).toArray 42)):=by
       simp only [go_sem,hgl]
      rw [hcm] at HF
      clear hcm
      clear g1 g2 g3 g4 l7 lr hq7 hqk hpw hwn hwn2 ea3 km3 hPA kwd hm1 hm2 HCl LB HQ HMem HLike HBare HLow HTb HTok HPlen t0 t1 t2 t3 ka km d8
      go_wp2_with fail
      go_roundw
      case rel=>exact HF.out
      case measure=>simp [intOf];omega
     | false=>
      as_aux_lemma=>
      obtain ⟨qpb,qwv,qmv,qA,qD⟩:=q
      obtain ⟨hm1,hm2⟩:=HMem.out kk _ p HQ.out HP.out
      simp only at hm1 hm2 ka km
      have HM2:=Lib.hid hm2
      clear hm2
      replace hm1:=hm1.symm
      subst hm1
      obtain ⟨mvA,mvc,hmv,-⟩:=za6 (LB.out.both.mems kk _ HQ.out).row
      simp only at hmv
      subst hmv
      have hpbud:0≤p.budget∧p.budget≤64:=by
       have:=(HAl.out.part p (List.mem_of_getElem? HP.out)).2.2.2.1
       unfold TableP.up at this
       exact this
      have hn150:tn≤150:=by omega
      have HCp:=Lib.hid (zz9 wb.drew tA tn tcap tops HTok.out.len (by omega) (HTok.out.ops.below LB.out.drew33.box.below))
      have LD:=Lib.hid LB.out.drew33
      have hS0:S29 w3.heap.size wr.heap.size ga kk qpb #[.pointer (some ⟨h.x.a,0,none⟩),.pointer (some ⟨h.tb,0,none⟩),.pointer (some ⟨h.mb,0,none⟩),.pointer (some ⟨h.cb,0,none⟩)] #[.int .i64 tpart,.bool false,.int .u32 (tround:Nat),.slice tA tn tcap] wb.drew:=⟨LB.out.hbx,HTb.out,ka⟩
      have s0:∀ W,S29 w3.heap.size wr.heap.size ga kk qpb #[.pointer (some ⟨h.x.a,0,none⟩),.pointer (some ⟨h.tb,0,none⟩),.pointer (some ⟨h.mb,0,none⟩),.pointer (some ⟨h.cb,0,none⟩)] #[.int .i64 tpart,.bool false,.int .u32 (tround:Nat),.slice tA tn tcap] W→W.cell? ⟨w3.heap.size,0,none⟩=some (.pointer (some ⟨h.x.a,0,none⟩)):=fun W hW=>za0 hW.1 0 rfl
      have s1:∀ W,S29 w3.heap.size wr.heap.size ga kk qpb #[.pointer (some ⟨h.x.a,0,none⟩),.pointer (some ⟨h.tb,0,none⟩),.pointer (some ⟨h.mb,0,none⟩),.pointer (some ⟨h.cb,0,none⟩)] #[.int .i64 tpart,.bool false,.int .u32 (tround:Nat),.slice tA tn tcap] W→W.cell? ⟨w3.heap.size,1,none⟩=some (.pointer (some ⟨h.tb,0,none⟩)):=fun W hW=>za0 hW.1 1 rfl
      have s2:∀ W,S29 w3.heap.size wr.heap.size ga kk qpb #[.pointer (some ⟨h.x.a,0,none⟩),.pointer (some ⟨h.tb,0,none⟩),.pointer (some ⟨h.mb,0,none⟩),.pointer (some ⟨h.cb,0,none⟩)] #[.int .i64 tpart,.bool false,.int .u32 (tround:Nat),.slice tA tn tcap] W→W.cell? ⟨w3.heap.size,2,none⟩=some (.pointer (some ⟨h.mb,0,none⟩)):=fun W hW=>za0 hW.1 2 rfl
      have s3:∀ W,S29 w3.heap.size wr.heap.size ga kk qpb #[.pointer (some ⟨h.x.a,0,none⟩),.pointer (some ⟨h.tb,0,none⟩),.pointer (some ⟨h.mb,0,none⟩),.pointer (some ⟨h.cb,0,none⟩)] #[.int .i64 tpart,.bool false,.int .u32 (tround:Nat),.slice tA tn tcap] W→W.cell? ⟨w3.heap.size,3,none⟩=some (.pointer (some ⟨h.cb,0,none⟩)):=fun W hW=>za0 hW.1 3 rfl
      have s4:∀ W,S29 w3.heap.size wr.heap.size ga kk qpb #[.pointer (some ⟨h.x.a,0,none⟩),.pointer (some ⟨h.tb,0,none⟩),.pointer (some ⟨h.mb,0,none⟩),.pointer (some ⟨h.cb,0,none⟩)] #[.int .i64 tpart,.bool false,.int .u32 (tround:Nat),.slice tA tn tcap] W→W.cell? ⟨wr.heap.size,2,none⟩=some (.int .u32 (tround:Nat)):=fun W hW=>za0 hW.2.1 2 rfl
      have s5:∀ W,S29 w3.heap.size wr.heap.size ga kk qpb #[.pointer (some ⟨h.x.a,0,none⟩),.pointer (some ⟨h.tb,0,none⟩),.pointer (some ⟨h.mb,0,none⟩),.pointer (some ⟨h.cb,0,none⟩)] #[.int .i64 tpart,.bool false,.int .u32 (tround:Nat),.slice tA tn tcap] W→W.cell? ⟨wr.heap.size,3,none⟩=some (.slice tA tn tcap):=fun W hW=>za0 hW.2.1 3 rfl
      have s6:∀ W,S29 w3.heap.size wr.heap.size ga kk qpb #[.pointer (some ⟨h.x.a,0,none⟩),.pointer (some ⟨h.tb,0,none⟩),.pointer (some ⟨h.mb,0,none⟩),.pointer (some ⟨h.cb,0,none⟩)] #[.int .i64 tpart,.bool false,.int .u32 (tround:Nat),.slice tA tn tcap] W→W.cell? ⟨ga,kk,none⟩=some (.pointer (some ⟨qpb,0,none⟩)):=fun W hW=>hW.2.2
      go_upto_region 29 with (fail)
      clear t0 t1 t2 t3 ka km
      refine wp_region_held_drew (S:=fun W=>S29 w3.heap.size wr.heap.size ga kk qpb #[.pointer (some ⟨h.x.a,0,none⟩),.pointer (some ⟨h.tb,0,none⟩),.pointer (some ⟨h.mb,0,none⟩),.pointer (some ⟨h.cb,0,none⟩)] #[.int .i64 tpart,.bool false,.int .u32 (tround:Nat),.slice tA tn tcap] W) (by kernel_rfl) hS0 (fun _=>?_)
      refine tK 0 hS0 ?_
      try simp only [Act.put,tkT,tk0,tkS]
      refine tK 1 hS0 ?_
      try simp only [Act.put,tkT,tk0,tkS]
      refine tK 2 hS0 ?_
      try simp only [Act.put,tkT,tk0,tkS]
      refine tK 3 hS0 ?_
      try simp only [Act.put,tkT,tk0,tkS]
      refine tK 4 hS0 ?_
      try simp only [Act.put,tkT,tk0,tkS]
      refine tK 5 hS0 ?_
      try simp only [Act.put,tkT,tk0,tkS]
      refine tK 6 hS0 ?_
      try simp only [Act.put,tkT,tk0,tkS]
      refine tK 7 hS0 ?_
      try simp only [Act.put,tkT,tk0,tkS]
      refine tK 8 hS0 ?_
      try simp only [Act.put,tkT,tk0,tkS]
      refine clH 9 (by kernel_rfl) (by simp only [tkA,tkG];rfl) (fun K hK=>?_)
      go_simp
      refine HCp.out.mono ?_
      rintro e w8 ⟨A8,c8,l8,rfl,hl8,hops8,hpl8,hb8⟩
      rw [HTok.out.len] at hl8
      have L8:=Lib.hid (LD.out.below hb8)
      have hS8:S29 w3.heap.size wr.heap.size ga kk qpb #[.pointer (some ⟨h.x.a,0,none⟩),.pointer (some ⟨h.tb,0,none⟩),.pointer (some ⟨h.mb,0,none⟩),.pointer (some ⟨h.cb,0,none⟩)] #[.int .i64 tpart,.bool false,.int .u32 (tround:Nat),.slice tA tn tcap] w8:=⟨L8.out.hbx,(hb8.block _ (lt_of_block hS0.2.1)).trans hS0.2.1,L8.out.allAt HQ.out⟩
      have HRun:=Lib.hid (L8.out.runA HQ.out HP.out HAl.out (by have:=HPl.out;show parts.length≤255;omega) (by omega) tround A8 tn c8 l8 hl8 (by omega) (hops8 _))
      rw [hpl8] at HRun
      rw [show tops.length=tn from HTok.out.len]
      clear hl8 hops8 hpl8 hb8 HCp LD
      simp only at HRun
      unfold hostV at HRun
      have hgA:=ApeP.bare_run (part:=kk) (T:=RepP.new) (rec:=parts.map sayOf) (round:=tround) (tops.map OpC.plain) p.budget ⟨qA,sA,mm,cc⟩ HBare.out
      have hgL:=ApeP.len_run (c:=(⟨(M:Nat),faulty,slot,gap,rho,dmin,dmax,margin,PA,k,pcap,parts,QA,qn,qcap,ports,RA,rn,rcap,routes⟩:CfgC).plain) (node:=nd) (part:=kk) (T:=RepP.new) (rec:=parts.map sayOf) (round:=tround) (tops.map OpC.plain) p.budget ⟨qA,sA,mm,cc⟩
      have hgE:=ApeP.LikeA.run (c:=(⟨(M:Nat),faulty,slot,gap,rho,dmin,dmax,margin,PA,k,pcap,parts,QA,qn,qcap,ports,RA,rn,rcap,routes⟩:CfgC).plain) (node:=nd) (part:=kk) (T:=RepP.new) (parts.map sayOf) tround (tops.map OpC.plain) p.budget ⟨qA,sA,mm,cc⟩ ⟨qA,sD,mm,cc⟩ ⟨rfl,HLike.out,rfl,rfl⟩
      have hgR:=ApeP.res_le (op:=ApeP.opP (⟨(M:Nat),faulty,slot,gap,rho,dmin,dmax,margin,PA,k,pcap,parts,QA,qn,qcap,ports,RA,rn,rcap,routes⟩:CfgC).plain nd kk RepP.new) (rec:=parts.map sayOf) (node:=nd) (part:=kk) (round:=tround) (tops.map OpC.plain) p.budget ⟨qA,sA,mm,cc⟩
      generalize hrA:(ApeP.runG (ApeP.opP (⟨(M:Nat),faulty,slot,gap,rho,dmin,dmax,margin,PA,k,pcap,parts,QA,qn,qcap,ports,RA,rn,rcap,routes⟩:CfgC).plain nd kk RepP.new) (parts.map sayOf) nd kk tround (tops.map OpC.plain) p.budget ⟨qA,sA,mm,cc⟩)=rA at HRun hgA hgL hgE hgR
      generalize hrD:(ApeP.runG (ApeP.opT (⟨(M:Nat),faulty,slot,gap,rho,dmin,dmax,margin,PA,k,pcap,parts,QA,qn,qcap,ports,RA,rn,rcap,routes⟩:CfgC).plain (nd:Int) kk RepP.new) (parts.map sayOf) nd kk tround (tops.map OpC.plain) p.budget ⟨qA,sD,mm,cc⟩)=rD at hgE
      obtain ⟨eR,eD,eL,eS⟩:=hgE
      simp only at hgL
      have HgA:=Lib.hid hgA
      have HgL:=Lib.hid hgL
      have HgR:=Lib.hid hgR
      have HeR:=Lib.hid eR
      have HeS:=Lib.hid eS
      have HeD:=Lib.hid eD
      have HeL:=Lib.hid eL
      clear hgA hgL hgR hrA eR eS eD eL
      go_wp2_with fail
      refine hK.out _ _ hS8 (fun _=>?_)
      clear hK K
      refine clH 10 (by kernel_rfl) (by simp only [tkA,tkG];rfl) (fun K hK=>?_)
      go_simp
      refine HRun.out.mono ?_
      rintro e w9 ⟨v9,ys9,h9,rfl,o9,r9,l9,ht9⟩
      have hqk:kk < ps2.length:=(List.getElem?_eq_some_iff.1 HQ.out).1
      have hq9:=List.getElem?_set_self (a:=(⟨qpb,qwv,.slice mvA qA.length mvc,rA.st.mem,qA⟩:PartM)) hqk
      generalize hps3:ps2.set kk (⟨qpb,qwv,.slice mvA qA.length mvc,rA.st.mem,qA⟩:PartM)=ps3 at l9 hq9
      have hS9:S29 w3.heap.size wr.heap.size ga kk qpb #[.pointer (some ⟨h.x.a,0,none⟩),.pointer (some ⟨h.tb,0,none⟩),.pointer (some ⟨h.mb,0,none⟩),.pointer (some ⟨h.cb,0,none⟩)] #[.int .i64 tpart,.bool false,.int .u32 (tround:Nat),.slice tA tn tcap] w9:=⟨l9.hbx,ht9.off hS8.2.1 (by unfold Tag16;decide),l9.allAt hq9⟩
      have HTb9:=Lib.hid hS9.2.1
      have O9:=Lib.hid o9
      have R9:=Lib.hid r9
      have L9:=Lib.hid l9
      have HQ9:=Lib.hid hq9
      clear o9 r9 l9 ht9 HRun hq9
      go_wp2_with fail
      refine hK.out _ _ hS9 (fun _=>?_)
      clear hK K
      refine tK 11 hS9 ?_
      try simp only [Act.put,tkT,tk0,tkS]
      refine tK 12 hS9 ?_
      try simp only [Act.put,tkT,tk0,tkS]
      refine tK 13 hS9 ?_
      try simp only [Act.put,tkT,tk0,tkS]
      refine tK 14 hS9 ?_
      try simp only [Act.put,tkT,tk0,tkS]
      refine tK 15 hS9 ?_
      try simp only [Act.put,tkT,tk0,tkS]
      refine tK 16 hS9 ?_
      try simp only [Act.put,tkT,tk0,tkS]
      refine tK 17 hS9 ?_
      try simp only [Act.put,tkT,tk0,tkS]
      refine wpAnyH_done (by kernel_rfl) ?_ _
      clear hS0 hS8 hS9 s0 s1 s2 s3 s4 s5 s6 L8
      have LD:=Lib.hid L9.out.drew33
      have HRd:=Lib.hid (LD.out.runD HQ9.out HP.out HAl.out (by omega) (by have:=HPl.out;show parts.length≤255;omega) (by have h1:=HNd.out;have h2:=HM8.out;omega) (by omega) tround tA tn tcap tops HTok.out.len (by omega) HTok.out.ops (j * 150) HLow.out (by omega))
      simp only [CfgC.value] at HRd
      unfold docV at HRd
      rw [hrD] at HRd
      rw [← HeD.out,← HeL.out] at HRd
      clear HeD HeL hrD
      obtain ⟨S,hS⟩:∃ S:World→Prop,S=S30 w ⟨(M:Nat),faulty,slot,gap,rho,dmin,dmax,margin,PA,k,pcap,parts,QA,qn,qcap,ports,RA,rn,rcap,routes⟩ db wr.heap.size gm kk #[.pointer (some ⟨d.ra,0,none⟩),.pointer (some ⟨d.tb,0,none⟩),.pointer (some ⟨d.rm,0,none⟩),.pointer (some ⟨d.cb,0,none⟩)] #[.int .i64 tpart,.bool false,.int .u32 (tround:Nat),.slice tA tn tcap] (.slice mvA qA.length mvc):=⟨_,rfl⟩
      have hS1:∀ W,InS S W→S30 w ⟨(M:Nat),faulty,slot,gap,rho,dmin,dmax,margin,PA,k,pcap,parts,QA,qn,qcap,ports,RA,rn,rcap,routes⟩ db wr.heap.size gm kk #[.pointer (some ⟨d.ra,0,none⟩),.pointer (some ⟨d.tb,0,none⟩),.pointer (some ⟨d.rm,0,none⟩),.pointer (some ⟨d.cb,0,none⟩)] #[.int .i64 tpart,.bool false,.int .u32 (tround:Nat),.slice tA tn tcap] (.slice mvA qA.length mvc) W:=fun W hW=>by unfold InS at hW;rw [← hS];exact hW
      have HS2:Hid (∀ W,S30 w ⟨(M:Nat),faulty,slot,gap,rho,dmin,dmax,margin,PA,k,pcap,parts,QA,qn,qcap,ports,RA,rn,rcap,routes⟩ db wr.heap.size gm kk #[.pointer (some ⟨d.ra,0,none⟩),.pointer (some ⟨d.tb,0,none⟩),.pointer (some ⟨d.rm,0,none⟩),.pointer (some ⟨d.cb,0,none⟩)] #[.int .i64 tpart,.bool false,.int .u32 (tround:Nat),.slice tA tn tcap] (.slice mvA qA.length mvc) W→InS S W):=Lib.hid fun W hW=>by unfold InS;rw [hS];exact hW
      clear hS
      have hd0:InS S w9.drew:=HS2.out _ ⟨LD.out.box,LD.out.dbx,HTb9.out,LD.out.memAt HQ9.out⟩
      have b0_:=fun W (hW:InS S W)=>d0 W (hS1 W hW).1
      have b1_:=fun W (hW:InS S W)=>d1 W (hS1 W hW).1
      have b2_:=fun W (hW:InS S W)=>d2 W (hS1 W hW).1
      have b3_:=fun W (hW:InS S W)=>d3 W (hS1 W hW).1
      have b4_:=fun W (hW:InS S W)=>d4 W (hS1 W hW).1
      have b5_:=fun W (hW:InS S W)=>d5 W (hS1 W hW).1
      have b6_:=fun W (hW:InS S W)=>d6 W (hS1 W hW).1
      have b7_:=fun W (hW:InS S W)=>d7 W (hS1 W hW).1
      have b8_:=fun W (hW:InS S W)=>d8 W (hS1 W hW).1
      have b9_:=fun W (hW:InS S W)=>d9 W (hS1 W hW).1
      have b10_:=fun W (hW:InS S W)=>d10 W (hS1 W hW).1
      have c0_:∀ W,InS S W→W.cell? ⟨db,0,none⟩=some (.pointer (some ⟨d.ra,0,none⟩)):=fun W hW=>za0 (hS1 W hW).2.1 0 rfl
      have c1_:∀ W,InS S W→W.cell? ⟨db,1,none⟩=some (.pointer (some ⟨d.tb,0,none⟩)):=fun W hW=>za0 (hS1 W hW).2.1 1 rfl
      have c2_:∀ W,InS S W→W.cell? ⟨db,2,none⟩=some (.pointer (some ⟨d.rm,0,none⟩)):=fun W hW=>za0 (hS1 W hW).2.1 2 rfl
      have c3_:∀ W,InS S W→W.cell? ⟨db,3,none⟩=some (.pointer (some ⟨d.cb,0,none⟩)):=fun W hW=>za0 (hS1 W hW).2.1 3 rfl
      have t2_:∀ W,InS S W→W.cell? ⟨wr.heap.size,2,none⟩=some (.int .u32 (tround:Nat)):=fun W hW=>za0 (hS1 W hW).2.2.1 2 rfl
      have t3_:∀ W,InS S W→W.cell? ⟨wr.heap.size,3,none⟩=some (.slice tA tn tcap):=fun W hW=>za0 (hS1 W hW).2.2.1 3 rfl
      have m0_:∀ W,InS S W→W.cell? ⟨gm,kk,none⟩=some (.slice mvA qA.length mvc):=fun W hW=>(hS1 W hW).2.2.2
      have hS11:∀ W,InS S W→Box11 W w.heap.size ⟨(M:Nat),faulty,slot,gap,rho,dmin,dmax,margin,PA,k,pcap,parts,QA,qn,qcap,ports,RA,rn,rcap,routes⟩:=fun W hW=>(hS1 W hW).1.cells
      clear d0 d1 d2 d3 d4 d5 d6 d7 d8 d9 d10 hS1
      go_upto_region 30 with (fail)
      refine wp_region_held_drew (S:=fun W=>InS S W) (by kernel_rfl) hd0 (fun _=>?_)
      refine tkH 0 (by simp only [tkA];rfl) (by kernel_rfl) (by exact fun _ _ _ h=>h) (by rfl) (fun W hW=>zF4 rfl rfl (hS11 W hW)) hd0 ?_
      try simp only [Act.put,tkT,tk0,tkS]
      simp only [CfgC.value]
      refine tK 1 hd0 ?_
      try simp only [Act.put,tkT,tk0,tkS]
      refine tK 2 hd0 ?_
      try simp only [Act.put,tkT,tk0,tkS]
      refine tK 3 hd0 ?_
      try simp only [Act.put,tkT,tk0,tkS]
      refine tK 4 hd0 ?_
      try simp only [Act.put,tkT,tk0,tkS]
      refine tK 5 hd0 ?_
      try simp only [Act.put,tkT,tk0,tkS]
      refine tK 6 hd0 ?_
      try simp only [Act.put,tkT,tk0,tkS]
      refine tK 7 hd0 ?_
      try simp only [Act.put,tkT,tk0,tkS]
      refine tK 8 hd0 ?_
      try simp only [Act.put,tkT,tk0,tkS]
      refine tK 9 hd0 ?_
      try simp only [Act.put,tkT,tk0,tkS]
      refine tK 10 hd0 ?_
      try simp only [Act.put,tkT,tk0,tkS]
      refine clH 11 (by kernel_rfl) (by simp only [tkA,tkG];rfl) (fun K hK=>?_)
      go_simp
      refine HRd.out.mono ?_
      rintro e w10 ⟨v10,ys10,d10,rfl,o10,r10,l10,ht10,hlow10⟩
      have hqk3:kk < ps3.length:=(List.getElem?_eq_some_iff.1 HQ9.out).1
      have hps4:∀ z:PartM,ps3.set kk z=ps2.set kk z:=fun z=>by rw [← hps3,List.set_set]
      try simp only at l10
      rw [hps4,← HeS.out.mem,← HeS.out.mon,← HeS.out.cmd] at l10
      rw [← HeS.out.mon] at hlow10
      have hq10:=List.getElem?_set_self (a:=(⟨qpb,qwv,.slice mvA qA.length mvc,rA.st.mem,rA.st.mem⟩:PartM)) hqk
      have hd10:InS S w10:=HS2.out _ ⟨l10.box,l10.dbx,ht10.off HTb9.out (by unfold TagD;decide),l10.memAt hq10⟩
      have HpL:Hid ((ps2.set kk (⟨qpb,qwv,.slice mvA qA.length mvc,rA.st.mem,rA.st.mem⟩:PartM)).length=parts.length):=Lib.hid (by rw [List.length_set];exact HPlen.out)
      have HpM:Hid (∀ (i:Nat) (q:PartM) (p':TableP.Part),(ps2.set kk (⟨qpb,qwv,.slice mvA qA.length mvc,rA.st.mem,rA.st.mem⟩:PartM))[i]? = some q→parts[i]? = some p'→q.memD=q.memA∧q.memA.length=p'.words.toNat):=Lib.hid fun i r p' hr hp'=>by
       by_cases hi:kk=i
       ·subst hi
        rw [List.getElem?_set_self hqk] at hr
        obtain rfl:=Option.some.inj hr
        have e1:parts[kk]? = some p:=HP.out
        rw [e1] at hp'
        obtain rfl:=Option.some.inj hp'
        exact ⟨rfl,HgL.out.trans HM2.out⟩
       ·rw [List.getElem?_set_ne hi] at hr
        exact HMem.out i r p' hr hp'
      have O9b:=Lib.hid ((O9.out.below (Below.refl _ _).drew).touchD ht10)
      generalize ps2.set kk (⟨qpb,qwv,.slice mvA qA.length mvc,rA.st.mem,rA.st.mem⟩:PartM)=ps4 at l10 hq10 HpL HpM
      have O10:=Lib.hid o10
      have R10:=Lib.hid r10
      have L10:=Lib.hid l10
      have HQ10:=Lib.hid hq10
      have HL10:=Lib.hid hlow10
      clear o10 r10 l10 ht10 HRd hq10 hps4 hps3 hlow10 O9 LD L9 HQ9 HTb9 HTb hd0 hqk3 hqk HMem HPlen HLike HBare HLow LB HQ
      go_wp2_with fail
      refine hK.out _ _ hd10 (fun _=>?_)
      clear hK K
      refine tK 12 hd10 ?_
      try simp only [Act.put,tkT,tk0,tkS]
      refine tK 13 hd10 ?_
      try simp only [Act.put,tkT,tk0,tkS]
      refine tK 14 hd10 ?_
      try simp only [Act.put,tkT,tk0,tkS]
      refine tK 15 hd10 ?_
      try simp only [Act.put,tkT,tk0,tkS]
      refine tK 16 hd10 ?_
      try simp only [Act.put,tkT,tk0,tkS]
      refine tK 17 hd10 ?_
      try simp only [Act.put,tkT,tk0,tkS]
      refine tK 18 hd10 ?_
      try simp only [Act.put,tkT,tk0,tkS]
      refine wpAnyH_done (by kernel_rfl) ?_ _
      clear hd10 HS2 t2_ t3_ m0_ c0_ c1_ c2_ c3_ b0_ b1_ b2_ b3_ b4_ b5_ b6_ b7_ b8_ b9_ b10_
      obtain ⟨A9,c9,rfl,hA9⟩:=O9b.out.at_
      obtain ⟨A10,c10,rfl,hA10⟩:=O10.out.at_
      have hrs:=R9.out.trans (HeR.out.trans R10.out.symm)
      have hln:ys10.length=ys9.length:=by have:=congrArg List.length hrs;simpa using this.symm
      have hm9:ys9.length≤1000000:=by
       have h1:=congrArg List.length R9.out
       rw [List.length_map] at h1
       have h2:=HgR.out
       rw [List.length_map,show tops.length=tn from HTok.out.len] at h2
       omega
      rw [hln]
      have HSm:=Lib.hid (zD4 A9 A10 ys9.length c9 c10 ys9 ys10 rfl hrs w10.drew (hA9.below (Below.refl _ _).drew) (hA10.below (Below.refl _ _).drew) hm9)
      have l11:=L10.out.drew33
      have hd11:=l11.s31 HQ10.out
      have L11:=Lib.hid l11
      clear hA9 hA10 hrs hln hm9 O9b O10 R9 R10 HeR l11 L10
      simp only at hd11
      obtain ⟨S1,hS⟩:∃ S:World→Prop,S=S31 w3.heap.size db ga gm kk qpb h.cb d.cb #[.pointer (some ⟨h.x.a,0,none⟩),.pointer (some ⟨h.tb,0,none⟩),.pointer (some ⟨h.mb,0,none⟩),.pointer (some ⟨h.cb,0,none⟩)] #[.pointer (some ⟨d.ra,0,none⟩),.pointer (some ⟨d.tb,0,none⟩),.pointer (some ⟨d.rm,0,none⟩),.pointer (some ⟨d.cb,0,none⟩)] (.slice mvA qA.length mvc) rA.st.cmd:=⟨_,rfl⟩
      have hS1:∀ W,InS S1 W→S31 w3.heap.size db ga gm kk qpb h.cb d.cb #[.pointer (some ⟨h.x.a,0,none⟩),.pointer (some ⟨h.tb,0,none⟩),.pointer (some ⟨h.mb,0,none⟩),.pointer (some ⟨h.cb,0,none⟩)] #[.pointer (some ⟨d.ra,0,none⟩),.pointer (some ⟨d.tb,0,none⟩),.pointer (some ⟨d.rm,0,none⟩),.pointer (some ⟨d.cb,0,none⟩)] (.slice mvA qA.length mvc) rA.st.cmd W:=fun W hW=>by unfold InS at hW;rw [← hS];exact hW
      have HS3:Hid (∀ W,S31 w3.heap.size db ga gm kk qpb h.cb d.cb #[.pointer (some ⟨h.x.a,0,none⟩),.pointer (some ⟨h.tb,0,none⟩),.pointer (some ⟨h.mb,0,none⟩),.pointer (some ⟨h.cb,0,none⟩)] #[.pointer (some ⟨d.ra,0,none⟩),.pointer (some ⟨d.tb,0,none⟩),.pointer (some ⟨d.rm,0,none⟩),.pointer (some ⟨d.cb,0,none⟩)] (.slice mvA qA.length mvc) rA.st.cmd W→InS S1 W):=Lib.hid fun W hW=>by unfold InS;rw [hS];exact hW
      clear hS
      replace hd11:=HS3.out _ hd11
      have h0_:∀ W,InS S1 W→W.cell? ⟨w3.heap.size,0,none⟩=some (.pointer (some ⟨h.x.a,0,none⟩)):=fun W hW=>za0 (hS1 W hW).1 0 rfl
      have h1_:∀ W,InS S1 W→W.cell? ⟨w3.heap.size,1,none⟩=some (.pointer (some ⟨h.tb,0,none⟩)):=fun W hW=>za0 (hS1 W hW).1 1 rfl
      have h2_:∀ W,InS S1 W→W.cell? ⟨w3.heap.size,2,none⟩=some (.pointer (some ⟨h.mb,0,none⟩)):=fun W hW=>za0 (hS1 W hW).1 2 rfl
      have h3_:∀ W,InS S1 W→W.cell? ⟨w3.heap.size,3,none⟩=some (.pointer (some ⟨h.cb,0,none⟩)):=fun W hW=>za0 (hS1 W hW).1 3 rfl
      have c0_:∀ W,InS S1 W→W.cell? ⟨db,0,none⟩=some (.pointer (some ⟨d.ra,0,none⟩)):=fun W hW=>za0 (hS1 W hW).2.1 0 rfl
      have c1_:∀ W,InS S1 W→W.cell? ⟨db,1,none⟩=some (.pointer (some ⟨d.tb,0,none⟩)):=fun W hW=>za0 (hS1 W hW).2.1 1 rfl
      have c2_:∀ W,InS S1 W→W.cell? ⟨db,2,none⟩=some (.pointer (some ⟨d.rm,0,none⟩)):=fun W hW=>za0 (hS1 W hW).2.1 2 rfl
      have c3_:∀ W,InS S1 W→W.cell? ⟨db,3,none⟩=some (.pointer (some ⟨d.cb,0,none⟩)):=fun W hW=>za0 (hS1 W hW).2.1 3 rfl
      have ka_:∀ W,InS S1 W→W.cell? ⟨ga,kk,none⟩=some (.pointer (some ⟨qpb,0,none⟩)):=fun W hW=>(hS1 W hW).2.2.1
      have km_:∀ W,InS S1 W→W.cell? ⟨gm,kk,none⟩=some (.slice mvA qA.length mvc):=fun W hW=>(hS1 W hW).2.2.2.1
      have x0_:∀ W,InS S1 W→W.cell? ⟨h.cb,0,none⟩=some (.int .u8 (rA.st.cmd.kind:Nat)):=fun W hW=>za0 (hS1 W hW).2.2.2.2.1 0 rfl
      have x1_:∀ W,InS S1 W→W.cell? ⟨h.cb,1,none⟩=some (.int .u8 (rA.st.cmd.key:Nat)):=fun W hW=>za0 (hS1 W hW).2.2.2.2.1 1 rfl
      have x2_:∀ W,InS S1 W→W.cell? ⟨h.cb,2,none⟩=some (.int .u16 (rA.st.cmd.val:Nat)):=fun W hW=>za0 (hS1 W hW).2.2.2.2.1 2 rfl
      have x3_:∀ W,InS S1 W→W.cell? ⟨h.cb,3,none⟩=some (.int .u16 (rA.st.cmd.old:Nat)):=fun W hW=>za0 (hS1 W hW).2.2.2.2.1 3 rfl
      have y0_:∀ W,InS S1 W→W.cell? ⟨d.cb,0,none⟩=some (.int .u8 (rA.st.cmd.kind:Nat)):=fun W hW=>za0 (hS1 W hW).2.2.2.2.2 0 rfl
      have y1_:∀ W,InS S1 W→W.cell? ⟨d.cb,1,none⟩=some (.int .u8 (rA.st.cmd.key:Nat)):=fun W hW=>za0 (hS1 W hW).2.2.2.2.2 1 rfl
      have y2_:∀ W,InS S1 W→W.cell? ⟨d.cb,2,none⟩=some (.int .u16 (rA.st.cmd.val:Nat)):=fun W hW=>za0 (hS1 W hW).2.2.2.2.2 2 rfl
      have y3_:∀ W,InS S1 W→W.cell? ⟨d.cb,3,none⟩=some (.int .u16 (rA.st.cmd.old:Nat)):=fun W hW=>za0 (hS1 W hW).2.2.2.2.2 3 rfl
      clear hS1
      go_upto_region 31 with (fail)
      refine wp_region_held_drew (S:=fun W=>InS S1 W) (by kernel_rfl) hd11 (fun _=>?_)
      generalize w10.drew=w10d at *
      refine tK 0 hd11 ?_
      try simp only [Act.put,tkT,tk0,tkS]
      refine tK 1 hd11 ?_
      try simp only [Act.put,tkT,tk0,tkS]
      refine clH 2 (by kernel_rfl) (by simp only [tkA,tkG];rfl) (fun K hK=>?_)
      go_simp
      refine HSm.out.mono ?_
      rintro e w12 ⟨rfl,q12,rfl⟩
      have l12:=L11.out.below (zb0 (Below.refl _ _) q12)
      have hd12:=l12.s31 HQ10.out
      simp only at hd12
      replace hd12:=HS3.out _ hd12
      have HMe:=Lib.hid (l12.memA HQ10.out HP.out)
      simp only at HMe
      have L12:=Lib.hid l12
      clear l12 L11 HSm
      go_wp2_with fail
      refine hK.out _ _ hd12 (fun _=>?_)
      clear hK K
      refine tK 3 hd12 ?_
      try simp only [Act.put,tkT,tk0,tkS]
      refine tK 4 hd12 ?_
      try simp only [Act.put,tkT,tk0,tkS]
      refine tK 5 hd12 ?_
      try simp only [Act.put,tkT,tk0,tkS]
      refine tK 6 hd12 ?_
      try simp only [Act.put,tkT,tk0,tkS]
      refine tK 7 hd12 ?_
      try simp only [Act.put,tkT,tk0,tkS]
      refine tK 8 hd12 ?_
      try simp only [Act.put,tkT,tk0,tkS]
      refine tK 9 hd12 ?_
      try simp only [Act.put,tkT,tk0,tkS]
      refine tK 10 hd12 ?_
      try simp only [Act.put,tkT,tk0,tkS]
      refine tK 11 hd12 ?_
      try simp only [Act.put,tkT,tk0,tkS]
      refine tK 12 hd12 ?_
      try simp only [Act.put,tkT,tk0,tkS]
      refine tK 13 hd12 ?_
      try simp only [Act.put,tkT,tk0,tkS]
      refine tK 14 hd12 ?_
      try simp only [Act.put,tkT,tk0,tkS]
      refine tK 15 hd12 ?_
      try simp only [Act.put,tkT,tk0,tkS]
      refine tK 16 hd12 ?_
      try simp only [Act.put,tkT,tk0,tkS]
      refine tK 17 hd12 ?_
      try simp only [Act.put,tkT,tk0,tkS]
      refine tK 18 hd12 ?_
      try simp only [Act.put,tkT,tk0,tkS]
      refine tK 20 hd12 ?_
      try simp only [Act.put,tkT,tk0,tkS]
      refine tK 21 hd12 ?_
      try simp only [Act.put,tkT,tk0,tkS]
      refine tK 22 hd12 ?_
      try simp only [Act.put,tkT,tk0,tkS]
      refine tK 23 hd12 ?_
      try simp only [Act.put,tkT,tk0,tkS]
      refine clH 19 (by kernel_rfl) (by simp only [tkA,tkG];rfl) (fun K hK=>?_)
      go_simp
      refine HMe.out.mono ?_
      rintro e w13 ⟨A13,c13,rfl,hw13,hb13⟩
      have l13:=L12.out.below hb13
      have hd13:=l13.s31 HQ10.out
      simp only at hd13
      replace hd13:=HS3.out _ hd13
      have hmv13:((⟨qpb,qwv,.slice mvA qA.length mvc,rA.st.mem,rA.st.mem⟩:PartM)).mv = .slice mvA qA.length mvc:=rfl
      have hme13:((⟨qpb,qwv,.slice mvA qA.length mvc,rA.st.mem,rA.st.mem⟩:PartM)).memD=((⟨qpb,qwv,.slice mvA qA.length mvc,rA.st.mem,rA.st.mem⟩:PartM)).memA:=rfl
      have HSw:=Lib.hid (l13.wordsD (q:=⟨qpb,qwv,.slice mvA qA.length mvc,rA.st.mem,rA.st.mem⟩) (mvA:=mvA) (n:=qA.length) (c:=mvc) (A1:=A13) (c1:=c13) HQ10.out hmv13 hme13 hw13)
      clear hmv13 hme13
      simp only at HSw
      have L13:=Lib.hid l13
      clear l13 L12 HMe hw13 hb13
      go_wp2_with fail
      refine hK.out _ _ hd13 (fun _=>?_)
      clear hK K
      refine clH 24 (by kernel_rfl) (by simp only [tkA,tkG];rfl) (fun K hK=>?_)
      go_simp
      refine HSw.out.mono ?_
      rintro e w14 ⟨rfl,hb14⟩
      have l14:=L13.out.below hb14
      have hd14:=l14.s31 HQ10.out
      simp only at hd14
      replace hd14:=HS3.out _ hd14
      have HIa:=Lib.hid (l14.imgA HAl.out)
      have L14:=Lib.hid l14
      clear l14 L13 HSw hb14
      go_wp2_with fail
      refine hK.out _ _ hd14 (fun _=>?_)
      clear hK K
      refine tK 25 hd14 ?_
      try simp only [Act.put,tkT,tk0,tkS]
      refine tK 26 hd14 ?_
      try simp only [Act.put,tkT,tk0,tkS]
      refine tK 27 hd14 ?_
      try simp only [Act.put,tkT,tk0,tkS]
      refine tK 28 hd14 ?_
      try simp only [Act.put,tkT,tk0,tkS]
      refine tK 29 hd14 ?_
      try simp only [Act.put,tkT,tk0,tkS]
      refine tK 30 hd14 ?_
      try simp only [Act.put,tkT,tk0,tkS]
      refine tK 31 hd14 ?_
      try simp only [Act.put,tkT,tk0,tkS]
      refine tK 32 hd14 ?_
      try simp only [Act.put,tkT,tk0,tkS]
      refine tK 33 hd14 ?_
      try simp only [Act.put,tkT,tk0,tkS]
      refine tK 34 hd14 ?_
      try simp only [Act.put,tkT,tk0,tkS]
      refine tK 35 hd14 ?_
      try simp only [Act.put,tkT,tk0,tkS]
      refine tK 36 hd14 ?_
      try simp only [Act.put,tkT,tk0,tkS]
      refine tK 37 hd14 ?_
      try simp only [Act.put,tkT,tk0,tkS]
      refine tK 38 hd14 ?_
      try simp only [Act.put,tkT,tk0,tkS]
      refine tK 39 hd14 ?_
      try simp only [Act.put,tkT,tk0,tkS]
      refine tK 40 hd14 ?_
      try simp only [Act.put,tkT,tk0,tkS]
      refine tK 42 hd14 ?_
      try simp only [Act.put,tkT,tk0,tkS]
      refine tK 43 hd14 ?_
      try simp only [Act.put,tkT,tk0,tkS]
      refine clH 41 (by kernel_rfl) (by simp only [tkA,tkG];rfl) (fun K hK=>?_)
      go_simp
      refine HIa.out.mono ?_
      rintro e w15 ⟨A15,c15,ys15,rfl,m15,p15,hb15⟩
      have l15:=L14.out.below hb15
      have hd15:=l15.s31 HQ10.out
      simp only at hd15
      replace hd15:=HS3.out _ hd15
      have HId:=Lib.hid (l15.imgD HAl.out)
      have L15:=Lib.hid l15
      have HM15:=Lib.hid m15
      have HP15:=Lib.hid p15
      clear l15 L14 HIa m15 p15 hb15
      go_wp2_with fail
      refine hK.out _ _ hd15 (fun _=>?_)
      clear hK K
      refine clH 44 (by kernel_rfl) (by simp only [tkA,tkG];rfl) (fun K hK=>?_)
      go_simp
      refine HId.out.mono ?_
      rintro e w16 ⟨A16,c16,ys16,he16,m16,p16,hb16⟩
      have l16:=L15.out.below hb16
      have hd16:=l16.s31 HQ10.out
      simp only at hd16
      replace hd16:=HS3.out _ hd16
      have hpp:=HP15.out.trans ((zL0 HeS.out.ports HgA.out).trans p16.symm)
      have hl16:ys16.length=ys15.length:=by have:=congrArg List.length hpp;simpa using this.symm
      rw [hl16] at he16
      subst he16
      have HSg:=Lib.hid (zx6 A15 A16 ys15.length c15 c16 ys15 ys16 rfl hpp w16 (HM15.out.below hb16) m16 (by
       have h1:=congrArg List.length HP15.out
       rw [List.length_map] at h1
       have h2:=PorP.imgP_len (c:=(⟨(M:Nat),faulty,slot,gap,rho,dmin,dmax,margin,PA,k,pcap,parts,QA,qn,qcap,ports,RA,rn,rcap,routes⟩:CfgC).plain) (sel:=fun p=>!false || p.out) l16.mostA (⟨(M:Nat),faulty,slot,gap,rho,dmin,dmax,margin,PA,k,pcap,parts,QA,qn,qcap,ports,RA,rn,rcap,routes⟩:CfgC).plain.ports.length
       have h3:=HAl.out.ports
       omega))
      have L16:=Lib.hid l16
      clear l16 L15 HId m16 p16 hb16 hpp hl16 HM15 HP15
      go_wp2_with fail
      refine hK.out _ _ hd16 (fun _=>?_)
      clear hK K
      refine clH 45 (by kernel_rfl) (by simp only [tkA,tkG];rfl) (fun K hK=>?_)
      go_simp
      refine HSg.out.mono ?_
      rintro e w17 ⟨rfl,q17,rfl⟩
      have l17:=L16.out.below (zb0 (Below.refl _ _) q17)
      have hd17:=l17.s31 HQ10.out
      simp only at hd17
      replace hd17:=HS3.out _ hd17
      have HF:Hid (RunsB w w2.heap.size ⟨(M:Nat),faulty,slot,gap,rho,dmin,dmax,margin,PA,k,pcap,parts,QA,qn,qcap,ports,RA,rn,rcap,routes⟩ nd h d w3.heap.size db n (.slice (some ⟨ga,0,none⟩) k ca) (.slice (some ⟨gm,0,none⟩) k cm) (.int .i64 ((j:Int) + 1)) (w16.drewN q17)):=Lib.hid ⟨j + 1,h9,d10,ps4,rA.st.ports,rD.st.ports,rA.st.mon,rA.st.cmd,by omega,by omega,by go_num,HpL.out,l17,HpM.out,HeS.out.ports,HgA.out,HL10.out.more (by omega)⟩
      clear l17 L16 HSg
      go_wp2_with fail
      refine hK.out _ _ hd17 (fun _=>?_)
      clear hK K
      refine tK 46 hd17 ?_
      try simp only [Act.put,tkT,tk0,tkS]
      refine tK 47 hd17 ?_
      try simp only [Act.put,tkT,tk0,tkS]
      refine wpAnyH_done (by kernel_rfl) ?_ _
      clear hd11 hd12 hd13 hd14 hd15 hd16 hd17 h0_ h1_ h2_ h3_ c0_ c1_ c2_ c3_ ka_ km_ x0_ x1_ x2_ x3_ y0_ y1_ y2_ y3_
      go_wp2_with fail
      go_roundw
      case rel=>exact HF.out
      case measure=>simp [intOf];omega
  case pos=>
   have p1:decide ((k:Int) < (pn:Int))=true:=decide_eq_true (by omega)
   have p2:decide (k < pn)=true:=decide_eq_true hlt
   have p3:(k:Int) < (pn:Int):=by omega
   have e8:IntKind.i64.wrap ((k:Int) + 1)=(k:Int) + 1:=IntWalk.i64_in _ (by omega)
   obtain ⟨p,hp⟩:∃ p,parts[k]? = some p:=⟨_,List.getElem?_eq_getElem (by omega)⟩
   have hpw:0≤p.words∧p.words≤16:=by
    have:=(HAl.out.part p (List.mem_of_getElem? hp)).2.2.2.2.1
    unfold TableP.up at this
    exact this
   obtain ⟨wn,hwn⟩:=Int.eq_ofNat_of_zero_le hpw.1
   have hwn2:p.words.toNat=wn:=by rw [hwn];rfl
   have hCpN:∀ W,BoxS w ⟨(M:Nat),faulty,slot,gap,rho,dmin,dmax,margin,PA,pn,pcap,parts,QA,qn,qcap,ports,RA,rn,rcap,routes⟩ W→Calls Tryz.prog 10 #[(⟨(M:Nat),faulty,slot,gap,rho,dmin,dmax,margin,PA,pn,pcap,parts,QA,qn,qcap,ports,RA,rn,rcap,routes⟩:CfgC).value] W (fun e w'=>∃ y:CfgC,e = .returned y.value∧Below W.heap.size W w'∧Calls Tryz.prog 9 #[y.value,.int .i64 (k:Nat)] w' (fun e2 w2'=>∃ pb wv,e2 = .returned (.tuple #[.pointer (some ⟨pb,0,none⟩),.nilIface])∧PartIn w2' w'.heap.size pb k p.budget wv (List.replicate wn 0)∧Below w'.heap.size w' w2')):=fun W hW=>by
    have hal:=HAl.out
    have hqn:qn≤24:=by have:=hal.ports;rw [show ((⟨(M:Nat),faulty,slot,gap,rho,dmin,dmax,margin,PA,pn,pcap,parts,QA,qn,qcap,ports,RA,rn,rcap,routes⟩:CfgC)).plain.ports.length=qn from HX.out.qlen] at this;exact this
    have hrn:rn≤24:=by have:=hal.routes;rw [show ((⟨(M:Nat),faulty,slot,gap,rho,dmin,dmax,margin,PA,pn,pcap,parts,QA,qn,qcap,ports,RA,rn,rcap,routes⟩:CfgC)).plain.routes.length=rn from HX.out.rlen] at this;exact this
    refine (zm4 _ W (HX.out.below hW.below) (by show pn≤_;omega) (by show qn≤_;omega) (by show rn≤_;omega)).mono ?_
    rintro e w' ⟨_,rfl,⟨y,rfl,h1,h2⟩,h3⟩
    have h4:y.parts=parts:=congrArg TableP.Cfg.parts h2
    have h5:y.parts.length=y.pn:=h1.plen
    refine ⟨y,rfl,h3,?_⟩
    have h6:=zA1 y w' h1 (k:Nat) (by omega) (by omega) (by rw [← h5,h4,hplen];omega) (fun q hq=>by
     rw [h4] at hq
     have:=(hal.part q hq).2.2.2.2.1
     unfold TableP.up at this
     omega)
    refine h6.mono fun e2 w2' hq=>?_
    unfold NewA16 at hq
    rw [if_neg (by omega),h4,Int.toNat_natCast,hp] at hq
    simp only at hq
    rw [if_neg (by omega),hwn2] at hq
    exact hq
   have HCpN:=Lib.hid hCpN
   simp only [CfgC.value] at HCpN
   have HPk:Hid (((⟨(M:Nat),faulty,slot,gap,rho,dmin,dmax,margin,PA,pn,pcap,parts,QA,qn,qcap,ports,RA,rn,rcap,routes⟩:CfgC)).parts[ps.length]? = some p):=Lib.hid (by rw [hpl];exact hp)
   have HLa:=Lib.hid hla
   have HZ:=Lib.hid hz
   obtain ⟨k0,k1,k2,k3,k4,k5,k6,k7,k8,k9,k10⟩:=eleven hla.box d0 d1 d2 d3 d4 d5 d6 d7 d8 d9 d10
   clear hla hz hCpN
   go_wp2_with fail
   clear k0 k1 k2 k3 k4 k5 k6 k7 k8 k9 k10
   refine (HCpN.out _ HLa.out.box).mono ?_
   rintro e w5 ⟨⟨ynodes,yfaulty,yslot,ygap,yrho,ydmin,ydmax,ymargin,yPA,ypn,ypcap,yparts,yQA,yqn,yqcap,yports,yRA,yrn,yrcap,yroutes⟩,rfl,hb5,hnw⟩
   have HL5:=Lib.hid (HLa.out.below hb5)
   have HNw:=Lib.hid hnw
   simp only at HNw
   clear hb5 hnw HCpN HLa
   simp only
   go_wp2_with fail
   refine HNw.out.mono ?_
   rintro e w6 ⟨pb,wv,rfl,hpi,hb6⟩
   have r00:=HL5.out.r18 hb6 (p:=p) (pb:=pb) (wv:=wv) (wn:=wn) (by rw [hpl];exact hpi)
   clear hpi hb6 HNw HL5
   go_upto_region 18 with (fail)
   have HNext:Hid (∀ va' vm' W m,LawC w W w2.heap.size ⟨(M:Nat),faulty,slot,gap,rho,dmin,dmax,margin,PA,pn,pcap,parts,QA,qn,qcap,ports,RA,rn,rcap,routes⟩ nd h d w3.heap.size db va' vm' h d (ps ++ [⟨pb,wv,.slice (some ⟨m,0,none⟩) wn wn,List.replicate wn 0,List.replicate wn 0⟩]) (PorP.start (⟨(M:Nat),faulty,slot,gap,rho,dmin,dmax,margin,PA,pn,pcap,parts,QA,qn,qcap,ports,RA,rn,rcap,routes⟩:CfgC).plain) (PorP.start (⟨(M:Nat),faulty,slot,gap,rho,dmin,dmax,margin,PA,pn,pcap,parts,QA,qn,qcap,ports,RA,rn,rcap,routes⟩:CfgC).plain) (HeaP.Mon.start parts.length) (HeaP.Mon.start parts.length) ⟨0,0,0,0⟩ ⟨0,0,0,0⟩→RunsA w w2.heap.size ⟨(M:Nat),faulty,slot,gap,rho,dmin,dmax,margin,PA,pn,pcap,parts,QA,qn,qcap,ports,RA,rn,rcap,routes⟩ nd h d w3.heap.size db pn va' vm' (.int .i64 ((k:Int) + 1)) W):=Lib.hid fun va' vm' W m hlc=>by
    refine ⟨k + 1,_,hlt,by go_num,by rw [List.length_append,hpl];rfl,hlc,fun i q p' hq hp'=>?_⟩
    rcases Nat.lt_or_ge i ps.length with h1 | h1
    ·rw [List.getElem?_append_left h1] at hq
     exact HZ.out i q p' hq hp'
    ·rw [List.getElem?_append_right h1] at hq
     obtain ⟨e1,e2⟩:=List.getElem?_eq_some_iff.1 hq
     have e1':i - ps.length=0:=by simpa using e1
     have e3:i=k:=by omega
     subst e3
     have e4:parts[i]? = some p':=hp'
     rw [hp] at e4
     obtain rfl:=Option.some.inj e4
     simp only [e1',List.getElem_cons_zero] at e2
     subst e2
     exact ⟨by rw [hwn2],rfl⟩
   have r00:=r00.below (Below.refl _ _).drew
   have s00:=r00.box
   obtain ⟨qb,qo,hPA,-,-,-⟩:=zd9 (HX.out.below s00.below) (show ((⟨(M:Nat),faulty,slot,gap,rho,dmin,dmax,margin,PA,pn,pcap,parts,QA,qn,qcap,ports,RA,rn,rcap,routes⟩:CfgC)).parts[k]? = some p from hp)
   have kw:∀ W,BoxS w ⟨(M:Nat),faulty,slot,gap,rho,dmin,dmax,margin,PA,pn,pcap,parts,QA,qn,qcap,ports,RA,rn,rcap,routes⟩ W→W.cell? ⟨qb,qo + k * 9 + 4,none⟩=some (.int .i64 (wn:Nat)):=fun W hW=>by
    obtain ⟨qb',qo',hPA',-,-,h4⟩:=zd9 (HX.out.below hW.below) (show ((⟨(M:Nat),faulty,slot,gap,rho,dmin,dmax,margin,PA,pn,pcap,parts,QA,qn,qcap,ports,RA,rn,rcap,routes⟩:CfgC)).parts[k]? = some p from hp)
    rw [hPA] at hPA'
    injection hPA' with e5
    injection e5 with e5 e6
    subst e5 e6
    rw [hwn] at h4
    exact h4
   have k8:∀ W,BoxS w ⟨(M:Nat),faulty,slot,gap,rho,dmin,dmax,margin,PA,pn,pcap,parts,QA,qn,qcap,ports,RA,rn,rcap,routes⟩ W→W.cell? ⟨w.heap.size,8,none⟩=some (.slice (some ⟨qb,qo,none⟩) pn pcap):=fun W hW=>by
    have:=d8 W hW
    rw [this]
    have e:PA=some ⟨qb,qo,none⟩:=hPA
    rw [e]
   have hmk:=fun W=>zm8 wn (by omega) W
   have hpl12:ps.length≤12:=by omega
   clear hPA hwn hwn2 hpw hp hplen hk d8
   refine wp_region_held_drew (S:=fun W=>BoxS w ⟨(M:Nat),faulty,slot,gap,rho,dmin,dmax,margin,PA,pn,pcap,parts,QA,qn,qcap,ports,RA,rn,rcap,routes⟩ W) (by kernel_rfl) s00 (fun _=>?_)
   refine tK 0 s00 ?_
   try simp only [Act.put,tkT,tk0,tkS]
   refine tK 1 s00 ?_
   try simp only [Act.put,tkT,tk0,tkS]
   refine tK 4 s00 ?_
   try simp only [Act.put,tkT,tk0,tkS]
   refine tK 5 s00 ?_
   try simp only [Act.put,tkT,tk0,tkS]
   refine tK 6 s00 ?_
   try simp only [Act.put,tkT,tk0,tkS]
   refine tK 7 s00 ?_
   try simp only [Act.put,tkT,tk0,tkS]
   refine tK 8 s00 ?_
   try simp only [Act.put,tkT,tk0,tkS]
   refine tK 9 s00 ?_
   try simp only [Act.put,tkT,tk0,tkS]
   refine tK 10 s00 ?_
   try simp only [Act.put,tkT,tk0,tkS]
   generalize w6.drew=w6d at *
   as_aux_lemma=>
   refine wpAnyH_ready (rs:=[2,11]) (by kernel_rfl) (by simp) (AllReadyH.cons (by simp only [tkA,tkG];rfl) (fun K hK=>?_) (AllReadyH.cons (by simp only [tkA,tkG];rfl) (fun K hK=>?_) AllReadyH.nil))
   ·go_simp
    have r1:=r00.addA
    refine hK.out _ _ r1.box (fun _=>?_)
    clear hK K
    generalize (w6d.alloc (.cells #[.pointer (some ⟨pb,0,none⟩)] 56))=wx1 at *
    clear r00
    refine wpAnyH_ready (rs:=[3,11]) (by kernel_rfl) (by simp) (AllReadyH.cons (by simp only [tkA,tkG];rfl) (fun K hK=>?_) (AllReadyH.cons (by simp only [tkA,tkG];rfl) (fun K hK=>?_) AllReadyH.nil))
    ·refine za7 rfl (.tmp 77) (.tmp 79) _ rfl w2.heap.size 56 _ 1 8 Tryz.underlying54 infoPtr16 rfl (by omega) _ _ (ps.map pbV) rfl r1.all _ 1 1 [.pointer (some ⟨pb,0,none⟩)] rfl rfl (zd8 (r1.sa _ rfl)) (fun u hu=>by rw [List.mem_singleton.1 hu];rfl) (by rw [List.length_map];unfold maxLen;omega) (by rw [List.length_map];omega) r1.both.leB ?_
     intro va2 wx2 ho2 ha2 _
     have r2:=r1.appA (xs':=ps.map pbV ++ [.pointer (some ⟨pb,0,none⟩)]) (by rw [List.length_append];exact ho2) ha2
     refine hK.out _ _ r2.box (fun _=>?_)
     clear hK K
     clear ho2 ha2
     clear r1
     refine clH 11 (by kernel_rfl) (by simp only [tkA,tkG];rfl) (fun K hK=>?_)
     go_simp
     have r3:=r2.addM
     refine hK.out _ _ r3.box (fun _=>?_)
     clear hK K
     generalize (wx2.alloc (.cells (wordV (List.replicate wn 0)).toArray 42))=wx3 at *
     clear r2
     refine clH 12 (by kernel_rfl) (by simp only [tkA,tkG];rfl) (fun K hK=>?_)
     go_simp
     have r4:=r3.addB
     refine hK.out _ _ r4.box (fun _=>?_)
     clear hK K
     generalize (wx3.alloc (.cells #[.slice (some ⟨wx2.heap.size,0,none⟩) wn wn] 62))=wx4 at *
     clear r3
     refine clH 13 (by kernel_rfl) (by simp only [tkA,tkG];rfl) (fun K hK=>?_)
     obtain ⟨mq5,emq5,hsb5⟩:=r4.sb _ rfl
     obtain rfl:=Option.some.inj emq5
     refine za7 rfl (.tmp 81) (.tmp 89) _ rfl w2.heap.size 62 _ 1 24 Tryz.underlying55 infoWs16 rfl (by omega) _ _ (ps.map PartM.mv) rfl r4.mem _ 1 1 [.slice (some ⟨wx2.heap.size,0,none⟩) wn wn] rfl rfl (zd8 hsb5) (fun u hu=>by rw [List.mem_singleton.1 hu];rfl) (by unfold maxLen;omega) (by omega) r4.both.leB ?_
     intro vf5 wf5 hof5 haf5 _
     have lf5:=r4.fin HPk.out hof5 haf5
     refine hK.out _ _ lf5.box (fun _=>?_)
     clear hK K hof5 haf5 hsb5 r4
     have sf5:=lf5.box
     have HLf5:=Lib.hid (HNext.out _ _ _ _ lf5)
     clear lf5
     refine tK 14 sf5 ?_
     try simp only [Act.put,tkT,tk0,tkS]
     refine tK 15 sf5 ?_
     try simp only [Act.put,tkT,tk0,tkS]
     refine wpAnyH_done (by kernel_rfl) ?_ _
     go_wp2_with fail
     go_roundw
     case rel=>exact HLf5.out
     case measure=>simp [intOf];omega
    ·go_simp
     have r6:=r1.addM
     refine hK.out _ _ r6.box (fun _=>?_)
     clear hK K
     generalize (wx1.alloc (.cells (wordV (List.replicate wn 0)).toArray 42))=wx6 at *
     clear r1
     refine wpAnyH_ready (rs:=[3,12]) (by kernel_rfl) (by simp) (AllReadyH.cons (by simp only [tkA,tkG];rfl) (fun K hK=>?_) (AllReadyH.cons (by simp only [tkA,tkG];rfl) (fun K hK=>?_) AllReadyH.nil))
     ·refine za7 rfl (.tmp 77) (.tmp 79) _ rfl w2.heap.size 56 _ 1 8 Tryz.underlying54 infoPtr16 rfl (by omega) _ _ (ps.map pbV) rfl r6.all _ 1 1 [.pointer (some ⟨pb,0,none⟩)] rfl rfl (zd8 (r6.sa _ rfl)) (fun u hu=>by rw [List.mem_singleton.1 hu];rfl) (by rw [List.length_map];unfold maxLen;omega) (by rw [List.length_map];omega) r6.both.leB ?_
      intro va7 wx7 ho7 ha7 _
      have r7:=r6.appA (xs':=ps.map pbV ++ [.pointer (some ⟨pb,0,none⟩)]) (by rw [List.length_append];exact ho7) ha7
      refine hK.out _ _ r7.box (fun _=>?_)
      clear hK K
      clear ho7 ha7
      clear r6
      refine clH 12 (by kernel_rfl) (by simp only [tkA,tkG];rfl) (fun K hK=>?_)
      go_simp
      have r8:=r7.addB
      refine hK.out _ _ r8.box (fun _=>?_)
      clear hK K
      generalize (wx7.alloc (.cells #[.slice (some ⟨wx1.heap.size,0,none⟩) wn wn] 62))=wx8 at *
      clear r7
      refine clH 13 (by kernel_rfl) (by simp only [tkA,tkG];rfl) (fun K hK=>?_)
      obtain ⟨mq9,emq9,hsb9⟩:=r8.sb _ rfl
      obtain rfl:=Option.some.inj emq9
      refine za7 rfl (.tmp 81) (.tmp 89) _ rfl w2.heap.size 62 _ 1 24 Tryz.underlying55 infoWs16 rfl (by omega) _ _ (ps.map PartM.mv) rfl r8.mem _ 1 1 [.slice (some ⟨wx1.heap.size,0,none⟩) wn wn] rfl rfl (zd8 hsb9) (fun u hu=>by rw [List.mem_singleton.1 hu];rfl) (by unfold maxLen;omega) (by omega) r8.both.leB ?_
      intro vf9 wf9 hof9 haf9 _
      have lf9:=r8.fin HPk.out hof9 haf9
      refine hK.out _ _ lf9.box (fun _=>?_)
      clear hK K hof9 haf9 hsb9 r8
      have sf9:=lf9.box
      have HLf9:=Lib.hid (HNext.out _ _ _ _ lf9)
      clear lf9
      refine tK 14 sf9 ?_
      try simp only [Act.put,tkT,tk0,tkS]
      refine tK 15 sf9 ?_
      try simp only [Act.put,tkT,tk0,tkS]
      refine wpAnyH_done (by kernel_rfl) ?_ _
      go_wp2_with fail
      go_roundw
      case rel=>exact HLf9.out
      case measure=>simp [intOf];omega
     ·go_simp
      have r10:=r6.addB
      refine hK.out _ _ r10.box (fun _=>?_)
      clear hK K
      generalize (wx6.alloc (.cells #[.slice (some ⟨wx1.heap.size,0,none⟩) wn wn] 62))=wx10 at *
      clear r6
      refine clH 3 (by kernel_rfl) (by simp only [tkA,tkG];rfl) (fun K hK=>?_)
      refine za7 rfl (.tmp 77) (.tmp 79) _ rfl w2.heap.size 56 _ 1 8 Tryz.underlying54 infoPtr16 rfl (by omega) _ _ (ps.map pbV) rfl r10.all _ 1 1 [.pointer (some ⟨pb,0,none⟩)] rfl rfl (zd8 (r10.sa _ rfl)) (fun u hu=>by rw [List.mem_singleton.1 hu];rfl) (by rw [List.length_map];unfold maxLen;omega) (by rw [List.length_map];omega) r10.both.leB ?_
      intro va11 wx11 ho11 ha11 _
      have r11:=r10.appA (xs':=ps.map pbV ++ [.pointer (some ⟨pb,0,none⟩)]) (by rw [List.length_append];exact ho11) ha11
      refine hK.out _ _ r11.box (fun _=>?_)
      clear hK K
      clear ho11 ha11
      clear r10
      refine clH 13 (by kernel_rfl) (by simp only [tkA,tkG];rfl) (fun K hK=>?_)
      obtain ⟨mq12,emq12,hsb12⟩:=r11.sb _ rfl
      obtain rfl:=Option.some.inj emq12
      refine za7 rfl (.tmp 81) (.tmp 89) _ rfl w2.heap.size 62 _ 1 24 Tryz.underlying55 infoWs16 rfl (by omega) _ _ (ps.map PartM.mv) rfl r11.mem _ 1 1 [.slice (some ⟨wx1.heap.size,0,none⟩) wn wn] rfl rfl (zd8 hsb12) (fun u hu=>by rw [List.mem_singleton.1 hu];rfl) (by unfold maxLen;omega) (by omega) r11.both.leB ?_
      intro vf12 wf12 hof12 haf12 _
      have lf12:=r11.fin HPk.out hof12 haf12
      refine hK.out _ _ lf12.box (fun _=>?_)
      clear hK K hof12 haf12 hsb12 r11
      have sf12:=lf12.box
      have HLf12:=Lib.hid (HNext.out _ _ _ _ lf12)
      clear lf12
      refine tK 14 sf12 ?_
      try simp only [Act.put,tkT,tk0,tkS]
      refine tK 15 sf12 ?_
      try simp only [Act.put,tkT,tk0,tkS]
      refine wpAnyH_done (by kernel_rfl) ?_ _
      go_wp2_with fail
      go_roundw
      case rel=>exact HLf12.out
      case measure=>simp [intOf];omega
   ·go_simp
    have r13:=r00.addM
    refine hK.out _ _ r13.box (fun _=>?_)
    clear hK K
    generalize (w6d.alloc (.cells (wordV (List.replicate wn 0)).toArray 42))=wx13 at *
    clear r00
    refine wpAnyH_ready (rs:=[2,12]) (by kernel_rfl) (by simp) (AllReadyH.cons (by simp only [tkA,tkG];rfl) (fun K hK=>?_) (AllReadyH.cons (by simp only [tkA,tkG];rfl) (fun K hK=>?_) AllReadyH.nil))
    ·go_simp
     have r14:=r13.addA
     refine hK.out _ _ r14.box (fun _=>?_)
     clear hK K
     generalize (wx13.alloc (.cells #[.pointer (some ⟨pb,0,none⟩)] 56))=wx14 at *
     clear r13
     refine wpAnyH_ready (rs:=[3,12]) (by kernel_rfl) (by simp) (AllReadyH.cons (by simp only [tkA,tkG];rfl) (fun K hK=>?_) (AllReadyH.cons (by simp only [tkA,tkG];rfl) (fun K hK=>?_) AllReadyH.nil))
     ·refine za7 rfl (.tmp 77) (.tmp 79) _ rfl w2.heap.size 56 _ 1 8 Tryz.underlying54 infoPtr16 rfl (by omega) _ _ (ps.map pbV) rfl r14.all _ 1 1 [.pointer (some ⟨pb,0,none⟩)] rfl rfl (zd8 (r14.sa _ rfl)) (fun u hu=>by rw [List.mem_singleton.1 hu];rfl) (by rw [List.length_map];unfold maxLen;omega) (by rw [List.length_map];omega) r14.both.leB ?_
      intro va15 wx15 ho15 ha15 _
      have r15:=r14.appA (xs':=ps.map pbV ++ [.pointer (some ⟨pb,0,none⟩)]) (by rw [List.length_append];exact ho15) ha15
      refine hK.out _ _ r15.box (fun _=>?_)
      clear hK K
      clear ho15 ha15
      clear r14
      refine clH 12 (by kernel_rfl) (by simp only [tkA,tkG];rfl) (fun K hK=>?_)
      go_simp
      have r16:=r15.addB
      refine hK.out _ _ r16.box (fun _=>?_)
      clear hK K
      generalize (wx15.alloc (.cells #[.slice (some ⟨w6d.heap.size,0,none⟩) wn wn] 62))=wx16 at *
      clear r15
      refine clH 13 (by kernel_rfl) (by simp only [tkA,tkG];rfl) (fun K hK=>?_)
      obtain ⟨mq17,emq17,hsb17⟩:=r16.sb _ rfl
      obtain rfl:=Option.some.inj emq17
      refine za7 rfl (.tmp 81) (.tmp 89) _ rfl w2.heap.size 62 _ 1 24 Tryz.underlying55 infoWs16 rfl (by omega) _ _ (ps.map PartM.mv) rfl r16.mem _ 1 1 [.slice (some ⟨w6d.heap.size,0,none⟩) wn wn] rfl rfl (zd8 hsb17) (fun u hu=>by rw [List.mem_singleton.1 hu];rfl) (by unfold maxLen;omega) (by omega) r16.both.leB ?_
      intro vf17 wf17 hof17 haf17 _
      have lf17:=r16.fin HPk.out hof17 haf17
      refine hK.out _ _ lf17.box (fun _=>?_)
      clear hK K hof17 haf17 hsb17 r16
      have sf17:=lf17.box
      have HLf17:=Lib.hid (HNext.out _ _ _ _ lf17)
      clear lf17
      refine tK 14 sf17 ?_
      try simp only [Act.put,tkT,tk0,tkS]
      refine tK 15 sf17 ?_
      try simp only [Act.put,tkT,tk0,tkS]
      refine wpAnyH_done (by kernel_rfl) ?_ _
      go_wp2_with fail
      go_roundw
      case rel=>exact HLf17.out
      case measure=>simp [intOf];omega
     ·go_simp
      have r18:=r14.addB
      refine hK.out _ _ r18.box (fun _=>?_)
      clear hK K
      generalize (wx14.alloc (.cells #[.slice (some ⟨w6d.heap.size,0,none⟩) wn wn] 62))=wx18 at *
      clear r14
      refine clH 3 (by kernel_rfl) (by simp only [tkA,tkG];rfl) (fun K hK=>?_)
      refine za7 rfl (.tmp 77) (.tmp 79) _ rfl w2.heap.size 56 _ 1 8 Tryz.underlying54 infoPtr16 rfl (by omega) _ _ (ps.map pbV) rfl r18.all _ 1 1 [.pointer (some ⟨pb,0,none⟩)] rfl rfl (zd8 (r18.sa _ rfl)) (fun u hu=>by rw [List.mem_singleton.1 hu];rfl) (by rw [List.length_map];unfold maxLen;omega) (by rw [List.length_map];omega) r18.both.leB ?_
      intro va19 wx19 ho19 ha19 _
      have r19:=r18.appA (xs':=ps.map pbV ++ [.pointer (some ⟨pb,0,none⟩)]) (by rw [List.length_append];exact ho19) ha19
      refine hK.out _ _ r19.box (fun _=>?_)
      clear hK K
      clear ho19 ha19
      clear r18
      refine clH 13 (by kernel_rfl) (by simp only [tkA,tkG];rfl) (fun K hK=>?_)
      obtain ⟨mq20,emq20,hsb20⟩:=r19.sb _ rfl
      obtain rfl:=Option.some.inj emq20
      refine za7 rfl (.tmp 81) (.tmp 89) _ rfl w2.heap.size 62 _ 1 24 Tryz.underlying55 infoWs16 rfl (by omega) _ _ (ps.map PartM.mv) rfl r19.mem _ 1 1 [.slice (some ⟨w6d.heap.size,0,none⟩) wn wn] rfl rfl (zd8 hsb20) (fun u hu=>by rw [List.mem_singleton.1 hu];rfl) (by unfold maxLen;omega) (by omega) r19.both.leB ?_
      intro vf20 wf20 hof20 haf20 _
      have lf20:=r19.fin HPk.out hof20 haf20
      refine hK.out _ _ lf20.box (fun _=>?_)
      clear hK K hof20 haf20 hsb20 r19
      have sf20:=lf20.box
      have HLf20:=Lib.hid (HNext.out _ _ _ _ lf20)
      clear lf20
      refine tK 14 sf20 ?_
      try simp only [Act.put,tkT,tk0,tkS]
      refine tK 15 sf20 ?_
      try simp only [Act.put,tkT,tk0,tkS]
      refine wpAnyH_done (by kernel_rfl) ?_ _
      go_wp2_with fail
      go_roundw
      case rel=>exact HLf20.out
      case measure=>simp [intOf];omega
    ·go_simp
     have r21:=r13.addB
     refine hK.out _ _ r21.box (fun _=>?_)
     clear hK K
     generalize (wx13.alloc (.cells #[.slice (some ⟨w6d.heap.size,0,none⟩) wn wn] 62))=wx21 at *
     clear r13
     refine clH 2 (by kernel_rfl) (by simp only [tkA,tkG];rfl) (fun K hK=>?_)
     go_simp
     have r22:=r21.addA
     refine hK.out _ _ r22.box (fun _=>?_)
     clear hK K
     generalize (wx21.alloc (.cells #[.pointer (some ⟨pb,0,none⟩)] 56))=wx22 at *
     clear r21
     refine clH 3 (by kernel_rfl) (by simp only [tkA,tkG];rfl) (fun K hK=>?_)
     refine za7 rfl (.tmp 77) (.tmp 79) _ rfl w2.heap.size 56 _ 1 8 Tryz.underlying54 infoPtr16 rfl (by omega) _ _ (ps.map pbV) rfl r22.all _ 1 1 [.pointer (some ⟨pb,0,none⟩)] rfl rfl (zd8 (r22.sa _ rfl)) (fun u hu=>by rw [List.mem_singleton.1 hu];rfl) (by rw [List.length_map];unfold maxLen;omega) (by rw [List.length_map];omega) r22.both.leB ?_
     intro va23 wx23 ho23 ha23 _
     have r23:=r22.appA (xs':=ps.map pbV ++ [.pointer (some ⟨pb,0,none⟩)]) (by rw [List.length_append];exact ho23) ha23
     refine hK.out _ _ r23.box (fun _=>?_)
     clear hK K
     clear ho23 ha23
     clear r22
     refine clH 13 (by kernel_rfl) (by simp only [tkA,tkG];rfl) (fun K hK=>?_)
     obtain ⟨mq24,emq24,hsb24⟩:=r23.sb _ rfl
     obtain rfl:=Option.some.inj emq24
     refine za7 rfl (.tmp 81) (.tmp 89) _ rfl w2.heap.size 62 _ 1 24 Tryz.underlying55 infoWs16 rfl (by omega) _ _ (ps.map PartM.mv) rfl r23.mem _ 1 1 [.slice (some ⟨w6d.heap.size,0,none⟩) wn wn] rfl rfl (zd8 hsb24) (fun u hu=>by rw [List.mem_singleton.1 hu];rfl) (by unfold maxLen;omega) (by omega) r23.both.leB ?_
     intro vf24 wf24 hof24 haf24 _
     have lf24:=r23.fin HPk.out hof24 haf24
     refine hK.out _ _ lf24.box (fun _=>?_)
     clear hK K hof24 haf24 hsb24 r23
     have sf24:=lf24.box
     have HLf24:=Lib.hid (HNext.out _ _ _ _ lf24)
     clear lf24
     refine tK 14 sf24 ?_
     try simp only [Act.put,tkT,tk0,tkS]
     refine tK 15 sf24 ?_
     try simp only [Act.put,tkT,tk0,tkS]
     refine wpAnyH_done (by kernel_rfl) ?_ _
     go_wp2_with fail
     go_roundw
     case rel=>exact HLf24.out
     case measure=>simp [intOf];omega
end Go.Proofs.YtfgpfmhjnccccaaGreatDoor
