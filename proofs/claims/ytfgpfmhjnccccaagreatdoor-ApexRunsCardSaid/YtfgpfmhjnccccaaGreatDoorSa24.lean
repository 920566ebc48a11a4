import Derived.Test.YtfgpfmhjnccccaaGreatDoorSa23
namespace Go.Proofs.YtfgpfmhjnccccaaGreatDoor
open Go.RowKit PorP
set_option maxRecDepth 100000
theorem zz5 {w0:World} {ops:Array Oper} {o:Oper} {a:Act} {K:Act→World→Prop} {Q:Exit→Act→World→Prop} {E:Prop} (hgd:o.guard=none) (s x:Operand)
 (ho:o.op = .call { callee:=.builtin .append,args:=#[s,x],argTypes:=#[89,89] }) (hs:a.eval s = .slice (some ⟨w0.heap.size,0,none⟩) 0 0) (A:Option Addr) (m c:Nat) (l:List UInt8) (hx:a.eval x = .slice A m c) (hm:l.length=m) (hr:Bytes w0 w0.heap.size A l) (hn:m≤140737488355328)
 (h:∀ A' c' w',w'.ownsRow w0.heap.size 5 1 (.slice A' l.length c') l.length (bytesV l)→Below w0.heap.size w0 w'→K (a.put o.dst (.slice A' l.length c')) w') :
 if Region.wanted o (yielded ops a.tmps)=true then Oper.wp Tryz.prog o a (w0.alloc (.cells #[] 5)) K Q else E:=by
 have hb0:Below w0.heap.size w0 (w0.alloc (.cells #[] 5)):=(Below.refl _ _).alloc (Nat.le_refl _) _
 refine zt2 hgd s x 89 ho w0.heap.size 5 (.int .u8 0) Tryz.underlying89 infoU12 rfl _ (some w0.heap.size) [] hs (Row.lit w0 w0.heap.size 5 (Nat.le_refl _)) w0.heap.size A m c l hx hm (hr.below hb0 (Nat.le_refl _)) (by simp;omega) (by simp) ?_
 intro v' w' g' h1 h2 h3
 simp only [List.nil_append] at h1
 obtain ⟨A',c',rfl,-,hg,hby⟩:=h1.bytes
 exact h A' c' w' h1.2 (hb0.trans (h3.below (by simp) (fun k e=>by simp only [Option.some.injEq] at e;omega)))
def RS (a g:Nat) (hc:Array Value) (es:List El) (W:World):Prop:=W.heap[a]? = some (.cells hc 102 (0,0))∧W.heap[g]? = some (.cells (itemsV elVals es).toArray 134 (0,0))
theorem RS.below {a g:Nat} {hc:Array Value} {es:List El} {W W':World} (h:RS a g hc es W) (hb:Below W.heap.size W W'):RS a g hc es W':=⟨(hb.block a (lt_of_block h.1)).trans h.1,(hb.block g (lt_of_block h.2)).trans h.2⟩
theorem RS.alloc {a g:Nat} {hc:Array Value} {es:List El} {W:World} (h:RS a g hc es W) (o:Obj):RS a g hc es (W.alloc o):=h.below ((Below.refl _ _).alloc (Nat.le_refl _) _)
theorem rs_cell {a g:Nat} {hc:Array Value} {es:List El} {W:World} (h:RS a g hc es W) (hs:∀ e∈es,e.pre.length=0) {i:Nat} {e:El} (hi:es[i]? = some e):W.cell? ⟨g,i * 2,none⟩=some e.v:=by
 refine za0 h.2 (i * 2) ?_
 have h1:=zg4 (vals:=elVals) (size:=2) es (fun y hy=>by simp [elVals,hs y hy]) i e hi 0 (by omega)
 rw [Nat.add_zero] at h1
 rw [List.getElem?_toArray,h1]
 unfold elVals
 rw [List.eq_nil_of_length_eq_zero (hs e (List.mem_of_getElem? hi))];rfl
section
variable {w0 W w7 w9:World} {B C:Nat} {x:CfgC} {node:Int} {a g i:Nat} {es:List El} {e:El} {ve v:Value} {l:List UInt8} {hc:Array Value}
theorem radd_more (h:RIn w0 W B x node a g es) (hi:es[i]? = some e) (hb7:Below W.heap.size W w7) (he7:w7.ownsRow C 5 1 ve l.length (bytesV l)) (hC:W.heap.size≤C) (o:Obj) (hs9:Seg w9 B 89 1 v (e.msgs.length + 1) (itemsV txtVals e.msgs ++ [ve])) (ha9:Apart (fun k=>e.v.ownBlock=some k) (w7.alloc o) w9) (hm9:Moved (w7.alloc o) e.v.ownBlock v.ownBlock) (h3:e.msgs.length≤3) (h16:l.length≤16) (hrs:RS a g hc es W) :
 LeftR w0 W B x node a g es ((elSt es).set i ⟨e.ps.msgs ++ [l],e.age⟩) (w9.setCell ⟨g,i * 2,none⟩ v)∧RS a g hc es w9:=by
 have hem:=List.mem_of_getElem? hi
 have hba:Below w7.heap.size w7 (w7.alloc o):=(Below.refl _ _).alloc (Nat.le_refl _) _
 have hW9:Apart (fun k=>e.v.ownBlock=some k) W w9:=(Apart.of_below' (hb7.trans (hba.mono hb7.size))).trans ha9 (fun _ h=>.inl h)
 have hseg:=(h.els.each e hem).seg
 have he7a:=he7.alloc o
 have hve:w9.ownsRow B 5 1 ve l.length (bytesV l):=zf8 (za3 he7a ha9 (fun k hk hf=>by
  have h1:=(he7.lt k hk).1
  have h2:=(hseg.lt k hf).2
  omega)) (Nat.le_trans h.leB hC)
 have hmv:Moved W e.v.ownBlock v.ownBlock:=by
  rcases hm9 with h1 | ⟨k,h1,h2⟩
  ·exact .inl h1
  ·exact .inr ⟨k,h1,Nat.le_trans hb7.size (Nat.le_trans hba.size h2)⟩
 have hs1:=h.els.more (by decide) (by decide) hi hW9 hve hs9 (fun hz=>absurd hz (by decide)) hmv (fun q hq=>Nat.le_trans hC (he7.lt q hq).1) h3 h16
 refine ⟨⟨_,h.set hi hs1,hs1.2,?_⟩,(hW9.block a h.lt (fun hf=>hseg.off h.hd (by decide) a hf rfl)).trans hrs.1,(hW9.block g h.els.lt (fun hf=>hseg.off h.els.row (by decide) g hf rfl)).trans hrs.2⟩
 rw [zj3]
 unfold El.ps
 rw [List.map_append];rfl
theorem radd_one (h:RIn w0 W B x node a g es) (hi:es[i]? = some e) (hb7:Below W.heap.size W w7) (he7:w7.ownsRow C 5 1 ve l.length (bytesV l)) (hC:W.heap.size≤C) (h16:l.length≤16) :
 LeftR w0 W B x node a g es ((elSt es).set i ⟨[l],e.age⟩) ((w7.alloc (.cells #[ve] 89)).setCell ⟨g,i * 2,none⟩ (.slice (some ⟨w7.heap.size,0,none⟩) 1 1)):=by
 have hem:=List.mem_of_getElem? hi
 have hba:Below w7.heap.size w7 (w7.alloc (.cells #[ve] 89)):=(Below.refl _ _).alloc (Nat.le_refl _) _
 have hB7:B≤w7.heap.size:=Nat.le_trans h.leB hb7.size
 have hrow:(w7.alloc (.cells #[ve] 89)).ownsRow B 89 1 (.slice (some ⟨w7.heap.size,0,none⟩) 1 1) 1 [ve]:=by
  have h1:=World.ownsRow_lit (e:=89) (size:=1) (base:=B) w7 #[ve] 1 hB7 (by unfold maxLen;omega) (by simp)
  exact h1
 have hl:LTx (w7.alloc (.cells #[ve] 89)) B (.slice (some ⟨w7.heap.size,0,none⟩) 1 1) [(ve,l)]:=⟨Seg.of_own hrow,fun y hy=>by
  rw [List.mem_singleton.1 hy]
  exact zf8 (he7.alloc _) (Nat.le_trans h.leB hC)⟩
 have hs1:=h.els.setV (by decide) (by decide) hi (Apart.of_below' (hb7.trans (hba.mono hb7.size))) hl (fun hz=>absurd hz (by decide)) (fun q hq=>.inr (by
  have:w7.heap.size=q:=by simpa [Value.ownBlock] using hq
  have:=hb7.size
  omega)) (fun y hy=>.inr (fun q hq=>by
  rw [List.mem_singleton.1 hy] at hq
  exact Nat.le_trans hC (he7.lt q hq).1)) ⟨by simp,fun y hy=>by rw [List.mem_singleton.1 hy];exact h16⟩
 refine ⟨_,h.set hi hs1,hs1.2,?_⟩
 rw [zj3];rfl
end
def WritePR (w0 w:World) (B:Nat) (x:CfgC) (node:Int) (a g:Nat) (es:List El) (port:Int) (r:Option Nat × St) (e:Ending) (w':World):Prop:=e = .returned (strV (errO r.1 port))∧LeftR w0 w B x node a g es r.2 w'
set_option maxHeartbeats 8000000 in
theorem zK2 (w0 w:World) (B:Nat) (x:CfgC) (node:Int) (a g:Nat) (es:List El) (h:RIn w0 w B x node a g es) (hal:SndP.Allowed x.plain) (part port:Int) (hport:port≤9223372036854775807) (A:Option Addr) (n cap:Nat) (l:List UInt8) (hl:l.length=n) (hn:n≤140737488355328) (hby:Bytes w w.heap.size A l) :
 Calls Tryz.prog 52 #[rpv a,.int .i64 part,.int .i64 port,.slice A n cap] w (WritePR w0 w B x node a g es port (writeT x.plain node (elSt es) part port l)):=by
 have HFi:=Lib.hid (zz3 w0 w B x node a g es h hal part port hport true)
 have HAt:=Lib.hid (fun W k (hk:k≤1000000)=>zc5 k port W hk hport)
 have Hl:=Lib.hid hl
 unfold writeT
 obtain ⟨o,ho⟩:∃ o,findT x.plain node part port true=o:=⟨_,rfl⟩
 rw [ho] at HFi ⊢
 cases o with
 | some k=>
  simp only
  have HEnd:Hid (∀ W,Below w.heap.size w W→WritePR w0 w B x node a g es port (some k,elSt es) (.returned (strV (errO (some k) port))) W):=Lib.hid fun W hW=>⟨rfl,LeftR.same h hW⟩
  have hT:=zv1 k port
  clear h hal ho HAt hby
  unfold errO strV rpv at *
  go_enter Tryz.func52,Tryz.ntmps52
  go_wp2_with fail
  refine HFi.out.mono ?_
  rintro e w1 ⟨rfl,hb⟩
  have HF:=Lib.hid (HEnd.out w1 hb)
  clear hb HFi HEnd
  go_wp2_with fail
  go_ret
  exact HF.out
 | none=>
  obtain ⟨i,p,rfl,hp,-,-,-⟩:=zz4 ho
  simp only [Int.toNat_natCast,hp]
  obtain ⟨e,he⟩:=h.el hp
  rw [zD0 he]
  simp only
  have hlt:=h.qlt hp
  have hq24:=h.q24 hal
  have hiz:(i:Int) < (x.qn:Int):=by omega
  have hs0:strV (errO none (i:Int)) = .string ⟨#[]⟩:=rfl
  have hm4:=(h.els.ok e (List.mem_of_getElem? he)).1
  have hpo:=hal.port p (List.mem_of_getElem? hp)
  have HB1:Hid (∀ W,Below w.heap.size w W→RIn w0 W B x node a g es):=Lib.hid fun W hW=>h.below hW
  have HQ:Hid (∀ W,Below w.heap.size w W→∃ b off,x.QA=some ⟨b,off,none⟩∧PortAt W b (off + i * 6) p):=Lib.hid fun W hW=>(h.below hW).portAt hp
  have HBy:Hid (∀ W,Below w.heap.size w W→Bytes W W.heap.size A l):=Lib.hid fun W hW=>(hby.below hW (Nat.le_refl _)).more hW.size
  have Hei:=Lib.hid he
  have HSm:Hid (∀ W (st:St),LeftR w0 W B x node a g es st W→True):=Lib.hid fun _ _ _=>trivial
  unfold rpv at *
  rw [hs0] at HFi
  rw [hl]
  have hpo2:=hpo.2.1
  unfold TableP.up at hpo2
  by_cases hsz:p.size < (n:Int)
  case pos=>
   rw [if_pos hsz]
   have HEnd:Hid (∀ W,Below w.heap.size w W→WritePR w0 w B x node a g es i (some 12,elSt es) (.returned (strV (errO (some 12) (i:Int)))) W):=Lib.hid fun W hW=>⟨rfl,LeftR.same h hW⟩
   have HA12:=Lib.hid (fun W=>HAt.out W 12 (by omega))
   have q1:decide (p.size < (n:Int))=true:=decide_eq_true hsz
   unfold errO strV at *
   clear h hal hp he ho hby HAt hpo HBy hsz
   go_enter Tryz.func52,Tryz.ntmps52
   go_wp2_with fail
   refine HFi.out.mono ?_
   rintro e2 w1 ⟨rfl,hb⟩
   have hr1:=HB1.out w1 hb
   have k9:=za0 hr1.hd 9 rfl
   have k12:=za0 hr1.hd 12 rfl
   obtain ⟨bQ,oQ,hQA,hQ1⟩:=HQ.out w1 hb
   rw [hQA] at k9
   have p0:=hQ1.c0
   have p1:=hQ1.c1
   have p2:=hQ1.c2
   have p3:=hQ1.c3
   have p4:=hQ1.c4
   have p5:=hQ1.c5
   have Hb:=Lib.hid hb
   have hb5:Below w1.heap.size w1 (w1.alloc (.cells #[.int .i64 p.part,.int .u8 (p.kind:Nat),.bool p.out,.int .i64 p.size,.int .i64 p.depth,.int .i64 p.fresh] 127)):=(Below.refl _ _).alloc (Nat.le_refl _) _
   have hnb:=heap_alloc_new w1 (.cells #[.int .i64 p.part,.int .u8 (p.kind:Nat),.bool p.out,.int .i64 p.size,.int .i64 p.depth,.int .i64 p.fresh] 127)
   have s1:=za0 hnb 1 rfl
   have s3:=za0 hnb 3 rfl
   have s4:=za0 hnb 4 rfl
   clear hr1 hQ1 hnb hb HB1 HFi HQ
   go_wp2_with fail
   refine (HA12.out _).mono ?_
   rintro e2 w4 ⟨rfl,hb4⟩
   have HF:=Lib.hid (HEnd.out w4 (Hb.out.trans ((hb5.trans (hb4.mono hb5.size)).mono Hb.out.size)))
   clear hb4 HEnd HA12
   go_wp2_with fail
   go_ret
   exact HF.out
  case neg=>
   rw [if_neg hsz]
   have q1:decide (p.size < (n:Int))=false:=decide_eq_false hsz
   have hl16:l.length≤16:=by omega
   have Hl16:=Lib.hid hl16
   have hk:p.kind=1∨p.kind≠1:=by omega
   rcases hk with hk | hk
   ·have hroom:room p e.ps=true:=by unfold room;rw [hk];rfl
    rw [if_pos hroom,show laidT p e.ps l=⟨[l],e.age⟩ by unfold laidT;rw [if_pos hk];rfl]
    have q2:(((p.kind:Nat):Int) == 1)=true:=by rw [hk];rfl
    unfold strV at *
    clear h hal hp he ho hby HAt hpo hsz hroom hk hl16 hpo2 hl
    go_enter Tryz.func52,Tryz.ntmps52
    go_wp2_with fail
    refine HFi.out.mono ?_
    rintro e2 w1 ⟨rfl,hb⟩
    have hr1:=HB1.out w1 hb
    have k9:=za0 hr1.hd 9 rfl
    have k12:=za0 hr1.hd 12 rfl
    obtain ⟨bQ,oQ,hQA,hQ1⟩:=HQ.out w1 hb
    rw [hQA] at k9
    have p0:=hQ1.c0
    have p1:=hQ1.c1
    have p2:=hQ1.c2
    have p3:=hQ1.c3
    have p4:=hQ1.c4
    have p5:=hQ1.c5
    have Hb:=Lib.hid hb
    have hb5:Below w1.heap.size w1 (w1.alloc (.cells #[.int .i64 p.part,.int .u8 (p.kind:Nat),.bool p.out,.int .i64 p.size,.int .i64 p.depth,.int .i64 p.fresh] 127)):=(Below.refl _ _).alloc (Nat.le_refl _) _
    have hnb:=heap_alloc_new w1 (.cells #[.int .i64 p.part,.int .u8 (p.kind:Nat),.bool p.out,.int .i64 p.size,.int .i64 p.depth,.int .i64 p.fresh] 127)
    have s1:=za0 hnb 1 rfl
    have s3:=za0 hnb 3 rfl
    have s4:=za0 hnb 4 rfl
    clear hQ1 hnb HQ
    go_wp2_with fail
    obtain ⟨w5,hw5⟩:∃ w5,w5=w1.alloc (.cells #[.int .i64 p.part,.int .u8 (p.kind:Nat),.bool p.out,.int .i64 p.size,.int .i64 p.depth,.int .i64 p.fresh] 127):=⟨_,rfl⟩
    rw [← hw5] at hb5 ⊢
    have hr5:=hr1.below hb5
    obtain ⟨hc,hhc⟩:∃ hc:Array Value,hc=#[.int .i64 x.nodes,.int .i64 x.faulty,.int .i64 x.slot,.int .i64 x.gap,.int .i64 x.rho,.int .i64 x.dmin,.int .i64 x.dmax,.int .i64 x.margin,.slice x.PA x.pn x.pcap,.slice x.QA x.qn x.qcap,.slice x.RA x.rn x.rcap,.int .i64 node,.slice (some ⟨g,0,none⟩) x.qn x.qn]:=⟨_,rfl⟩
    have hd0:RS a g hc es w5.drew:=⟨by rw [hhc];exact hr5.drew.hd,hr5.drew.els.row⟩
    have r12:∀ W,RS a g hc es W→W.cell? ⟨a,12,none⟩=some (.slice (some ⟨g,0,none⟩) x.qn x.qn):=fun W hW=>za0 hW.1 12 (by rw [hhc];rfl)
    have rV:∀ W,RS a g hc es W→W.cell? ⟨g,i * 2,none⟩=some e.v:=fun W hW=>rs_cell hW hr5.els.pres Hei.out
    have HAdd:Hid (∀ w7 Ae ce,w7.ownsRow w5.drew.heap.size 5 1 (.slice Ae l.length ce) l.length (bytesV l)→Below w5.drew.heap.size w5.drew w7→WritePR w0 w B x node a g es i (none,(elSt es).set i ⟨[l],e.age⟩) (.returned (.string ⟨#[]⟩)) ((w7.alloc (.cells #[.slice Ae l.length ce] 89)).setCell ⟨g,i * 2,none⟩ (.slice (some ⟨w7.heap.size,0,none⟩) 1 1))):=Lib.hid fun w7 Ae ce h1 h2=>by
     have h3:=radd_one hr5.drew Hei.out h2 h1 (Nat.le_refl _) Hl16.out
     exact ⟨rfl,h3.after ((hb.trans (hb5.mono hb.size)).drew)⟩
    have HB5:=Lib.hid (HBy.out w5.drew (hb.trans (hb5.mono hb.size)).drew)
    obtain ⟨Av,cv,hev,-⟩:=(hr5.els.each e (List.mem_of_getElem? Hei.out)).seg.slice
    have Hev:=Lib.hid hev
    clear hw5 hr1 hr5 hhc hb hb5 HB1 HBy HFi hev
    generalize e.age=age at *
    generalize x.qn=qn at *
    refine za9 (st:=11) (S:=fun W=>RS a g hc es W) (by kernel_rfl) hd0 (fun _=>?_)
    generalize w5.drew=w6 at *
    refine tL 0 hd0 ?_
    try simp only [Act.put,tkT,tk0,tkS]
    refine tL 1 hd0 ?_
    try simp only [Act.put,tkT,tk0,tkS]
    refine tL 2 hd0 ?_
    try simp only [Act.put,tkT,tk0,tkS]
    refine tL 3 hd0 ?_
    try simp only [Act.put,tkT,tk0,tkS]
    refine tL 4 hd0 ?_
    try simp only [Act.put,tkT,tk0,tkS]
    refine tL 6 hd0 ?_
    try simp only [Act.put,tkT,tk0,tkS]
    refine za8 (k:=5) (by kernel_rfl) (by simp only [tkA,tkG];rfl) (fun K hK=>?_)
    go_simp
    go_wp2_with fail
    refine hK.out _ _ (fun _=>(hd0.alloc _)) ?_
    clear hK K
    refine za8 (k:=7) (by kernel_rfl) (by simp only [tkA,tkG];rfl) (fun K hK=>?_)
    refine zz5 rfl (.tmp 41) (.tmp 42) rfl rfl A n cap l rfl Hl.out HB5.out hn ?_
    intro Ae ce w7 he7 hb7
    have HR:=Lib.hid (HAdd.out w7 Ae ce he7 hb7)
    have hd7:=hd0.below hb7
    have f7:=fun o=>za2 (hd7.alloc o).2 (i * 2)
    have k7:∀ o,(w7.alloc o).cell? ⟨g,i * 2,none⟩=some (.slice Av e.msgs.length cv):=fun o=>by rw [← Hev.out];exact rV _ (hd7.alloc o)
    clear he7 hb7 HAdd HB5
    go_wp2_with fail
    refine hK.out _ _ (fun _=>hd7) ?_
    clear hK K
    refine za8 (k:=8) (by kernel_rfl) (by simp only [tkA,tkG];rfl) (fun K hK=>?_)
    go_simp
    go_wp2_with fail
    refine hK.out _ _ (fun _=>(hd7.alloc _)) ?_
    clear hK K
    refine tL 9 (hd7.alloc _) ?_
    try simp only [Act.put,tkT,tk0,tkS]
    refine tL 10 (hd7.alloc _) ?_
    try simp only [Act.put,tkT,tk0,tkS]
    refine zc0 (k:=11) (by kernel_rfl) (by simp only [tkA,tkG];rfl) (fun K hK=>?_)
    go_simp
    go_wp2_with fail
    refine hK.out _ _ ?_
    clear hK K
    refine zb9 (by kernel_rfl) ?_ _
    clear hd0 hd7 f7 k7 r12 rV
    go_wp2_with fail
    go_ret
    exact HR.out
   ·have hk2:p.kind=2∧TableP.up p.depth 1 4:=by
     rcases hpo.2.2 with ⟨h1,-⟩ | ⟨h1,h2,-⟩
     ·exact absurd h1 hk
     ·exact ⟨h1,h2⟩
    obtain ⟨hk2,hdep⟩:=hk2
    unfold TableP.up at hdep
    have q2:(((p.kind:Nat):Int) == 1)=false:=by rw [beq_eq_false_iff_ne];omega
    by_cases hd:(e.msgs.length:Int) < p.depth
    case neg=>
     have hroom:¬ room p e.ps=true:=by
      unfold room
      rw [hk2,decide_eq_false (by simpa [El.ps] using hd)];simp
     rw [if_neg hroom]
     have HEnd:Hid (∀ W,Below w.heap.size w W→WritePR w0 w B x node a g es i (some 11,elSt es) (.returned (strV (errO (some 11) (i:Int)))) W):=Lib.hid fun W hW=>⟨rfl,LeftR.same h hW⟩
     have HA11:=Lib.hid (fun W=>HAt.out W 11 (by omega))
     have q3:decide (p.depth≤(e.msgs.length:Int))=true:=decide_eq_true (by omega)
     unfold errO strV at *
     clear h hal hp he ho hby HAt hpo HBy hsz hroom hk hk2 hdep hd hl16 hpo2
     go_enter Tryz.func52,Tryz.ntmps52
     go_wp2_with fail
     refine HFi.out.mono ?_
     rintro e2 w1 ⟨rfl,hb⟩
     have hr1:=HB1.out w1 hb
     have k9:=za0 hr1.hd 9 rfl
     have k12:=za0 hr1.hd 12 rfl
     obtain ⟨bQ,oQ,hQA,hQ1⟩:=HQ.out w1 hb
     rw [hQA] at k9
     have p0:=hQ1.c0
     have p1:=hQ1.c1
     have p2:=hQ1.c2
     have p3:=hQ1.c3
     have p4:=hQ1.c4
     have p5:=hQ1.c5
     have Hb:=Lib.hid hb
     have hb5:Below w1.heap.size w1 (w1.alloc (.cells #[.int .i64 p.part,.int .u8 (p.kind:Nat),.bool p.out,.int .i64 p.size,.int .i64 p.depth,.int .i64 p.fresh] 127)):=(Below.refl _ _).alloc (Nat.le_refl _) _
     have hnb:=heap_alloc_new w1 (.cells #[.int .i64 p.part,.int .u8 (p.kind:Nat),.bool p.out,.int .i64 p.size,.int .i64 p.depth,.int .i64 p.fresh] 127)
     have s1:=za0 hnb 1 rfl
     have s3:=za0 hnb 3 rfl
     have s4:=za0 hnb 4 rfl
     have kV:w1.cell? ⟨g,i * 2,none⟩=some e.v:=hr1.els.cellV Hei.out
     obtain ⟨Av,cv,hev,-⟩:=(hr1.els.each e (List.mem_of_getElem? Hei.out)).seg.slice
     rw [hev] at kV
     have kV5:=(hb5.cell (p:=⟨g,i * 2,none⟩) hr1.els.lt).trans kV
     have k125:=(hb5.cell (p:=⟨a,12,none⟩) hr1.lt).trans k12
     clear hr1 hQ1 hnb hb HB1 HFi HQ hev
     go_wp2_with fail
     go_quiet (fail)
     go_wp2_with fail
     refine (HA11.out _).mono ?_
     rintro e2 w4 ⟨rfl,hb4⟩
     have HF:=Lib.hid (HEnd.out w4 (Hb.out.trans (((zb0 hb5 _).trans (hb4.mono hb5.size)).mono Hb.out.size)))
     clear hb4 HEnd HA11
     go_wp2_with fail
     go_ret
     exact HF.out
    case pos=>
     have hroom:room p e.ps=true:=by
      unfold room
      rw [decide_eq_true (by simpa [El.ps] using hd)];simp
     rw [if_pos hroom,show laidT p e.ps l=⟨e.ps.msgs ++ [l],e.age⟩ by unfold laidT;rw [if_neg hk];rfl]
     have q3:decide (p.depth≤(e.msgs.length:Int))=false:=decide_eq_false (by omega)
     have hm3:e.msgs.length≤3:=by omega
     unfold strV at *
     clear h hal hp he ho hby HAt hpo hsz hroom hk hk2 hdep hd hl16 hpo2 hl
     go_enter Tryz.func52,Tryz.ntmps52
     go_wp2_with fail
     refine HFi.out.mono ?_
     rintro e2 w1 ⟨rfl,hb⟩
     have hr1:=HB1.out w1 hb
     have k9:=za0 hr1.hd 9 rfl
     have k12:=za0 hr1.hd 12 rfl
     obtain ⟨bQ,oQ,hQA,hQ1⟩:=HQ.out w1 hb
     rw [hQA] at k9
     have p0:=hQ1.c0
     have p1:=hQ1.c1
     have p2:=hQ1.c2
     have p3:=hQ1.c3
     have p4:=hQ1.c4
     have p5:=hQ1.c5
     have Hb:=Lib.hid hb
     have hb5:Below w1.heap.size w1 (w1.alloc (.cells #[.int .i64 p.part,.int .u8 (p.kind:Nat),.bool p.out,.int .i64 p.size,.int .i64 p.depth,.int .i64 p.fresh] 127)):=(Below.refl _ _).alloc (Nat.le_refl _) _
     have hnb:=heap_alloc_new w1 (.cells #[.int .i64 p.part,.int .u8 (p.kind:Nat),.bool p.out,.int .i64 p.size,.int .i64 p.depth,.int .i64 p.fresh] 127)
     have s1:=za0 hnb 1 rfl
     have s3:=za0 hnb 3 rfl
     have s4:=za0 hnb 4 rfl
     have kV:w1.cell? ⟨g,i * 2,none⟩=some e.v:=hr1.els.cellV Hei.out
     obtain ⟨Av0,cv0,hev0,-⟩:=(hr1.els.each e (List.mem_of_getElem? Hei.out)).seg.slice
     rw [hev0] at kV
     have kV5:=(hb5.cell (p:=⟨g,i * 2,none⟩) hr1.els.lt).trans kV
     have k125:=(hb5.cell (p:=⟨a,12,none⟩) hr1.lt).trans k12
     clear hQ1 hnb HQ hev0
     go_wp2_with fail
     go_quiet (fail)
     go_wp2_with fail
     obtain ⟨w5,hw5⟩:∃ w5,w5=World.drewN (w1.alloc (.cells #[.int .i64 p.part,.int .u8 (p.kind:Nat),.bool p.out,.int .i64 p.size,.int .i64 p.depth,.int .i64 p.fresh] 127)) nq:=⟨_,rfl⟩
     rw [← hw5]
     have hb5:Below w1.heap.size w1 w5:=by rw [hw5];exact zb0 hb5 _
     have hr5:=hr1.below hb5
     obtain ⟨hc,hhc⟩:∃ hc:Array Value,hc=#[.int .i64 x.nodes,.int .i64 x.faulty,.int .i64 x.slot,.int .i64 x.gap,.int .i64 x.rho,.int .i64 x.dmin,.int .i64 x.dmax,.int .i64 x.margin,.slice x.PA x.pn x.pcap,.slice x.QA x.qn x.qcap,.slice x.RA x.rn x.rcap,.int .i64 node,.slice (some ⟨g,0,none⟩) x.qn x.qn]:=⟨_,rfl⟩
     have hd0:RS a g hc es w5.drew:=⟨by rw [hhc];exact hr5.drew.hd,hr5.drew.els.row⟩
     have r12:∀ W,RS a g hc es W→W.cell? ⟨a,12,none⟩=some (.slice (some ⟨g,0,none⟩) x.qn x.qn):=fun W hW=>za0 hW.1 12 (by rw [hhc];rfl)
     obtain ⟨Av,cv,hev,-⟩:=(hr5.els.each e (List.mem_of_getElem? Hei.out)).seg.slice
     have rV:∀ W,RS a g hc es W→W.cell? ⟨g,i * 2,none⟩=some (.slice Av e.msgs.length cv):=fun W hW=>by rw [← hev];exact rs_cell hW hr5.els.pres Hei.out
     have HAdd:Hid (∀ w7 Ae ce o w9 v,w7.ownsRow w5.drew.heap.size 5 1 (.slice Ae l.length ce) l.length (bytesV l)→Below w5.drew.heap.size w5.drew w7→Seg w9 B 89 1 v (e.msgs.length + 1) (itemsV txtVals e.msgs ++ [.slice Ae l.length ce])→Apart (fun k=>(Value.slice Av e.msgs.length cv).ownBlock=some k) (w7.alloc o) w9→Moved (w7.alloc o) (Value.slice Av e.msgs.length cv).ownBlock v.ownBlock →
      WritePR w0 w B x node a g es i (none,(elSt es).set i ⟨e.ps.msgs ++ [l],e.age⟩) (.returned (.string ⟨#[]⟩)) (w9.setCell ⟨g,i * 2,none⟩ v)∧RS a g hc es w9):=Lib.hid fun w7 Ae ce o w9 v h1 h2 h3 h4 h5=>by
      rw [← hev] at h4 h5
      have h6:=radd_more hr5.drew Hei.out h2 h1 (Nat.le_refl _) o h3 h4 h5 hm3 Hl16.out hd0
      exact ⟨⟨rfl,h6.1.after ((hb.trans (hb5.mono hb.size)).drew)⟩,h6.2⟩
     have HB5:=Lib.hid (HBy.out w5.drew (hb.trans (hb5.mono hb.size)).drew)
     have HSeg:Hid (∀ w7 o,Below w5.drew.heap.size w5.drew w7→Seg (w7.alloc o) B 89 1 (.slice Av e.msgs.length cv) e.msgs.length (itemsV txtVals e.msgs)∧B≤w7.heap.size):=Lib.hid fun w7 o h7=>by
      have hs:=(hr5.els.each e (List.mem_of_getElem? Hei.out)).seg
      rw [hev] at hs
      have h8:Below w5.heap.size w5 (w7.alloc o):=((Below.refl _ w5).drew.trans h7).trans ((Below.refl _ w7).alloc (Nat.le_refl _) o |>.mono h7.size)
      exact ⟨hs.keep h8,Nat.le_trans hr5.leB h7.size⟩
     generalize e.msgs.length=m at *
     generalize itemsV txtVals e.msgs=ms at *
     clear hw5 hr1 hr5 hhc hb hb5 HB1 HBy HFi hev k9 k12 p0 p1 p2 p3 p4 p5 s1 s3 s4
     generalize (elSt es).set i _=ST at *
     generalize x.qn=qn at *
     refine za9 (st:=20) (S:=fun W=>RS a g hc es W) (by kernel_rfl) hd0 (fun _=>?_)
     generalize w5.drew=w6 at *
     refine tL 0 hd0 ?_
     try simp only [Act.put,tkT,tk0,tkS]
     refine tL 1 hd0 ?_
     try simp only [Act.put,tkT,tk0,tkS]
     refine tL 2 hd0 ?_
     try simp only [Act.put,tkT,tk0,tkS]
     refine tL 3 hd0 ?_
     try simp only [Act.put,tkT,tk0,tkS]
     refine tL 4 hd0 ?_
     try simp only [Act.put,tkT,tk0,tkS]
     refine tL 5 hd0 ?_
     try simp only [Act.put,tkT,tk0,tkS]
     refine tL 6 hd0 ?_
     try simp only [Act.put,tkT,tk0,tkS]
     refine tL 7 hd0 ?_
     try simp only [Act.put,tkT,tk0,tkS]
     refine tL 8 hd0 ?_
     try simp only [Act.put,tkT,tk0,tkS]
     refine tL 9 hd0 ?_
     try simp only [Act.put,tkT,tk0,tkS]
     refine tL 10 hd0 ?_
     try simp only [Act.put,tkT,tk0,tkS]
     refine tL 11 hd0 ?_
     try simp only [Act.put,tkT,tk0,tkS]
     refine tL 12 hd0 ?_
     try simp only [Act.put,tkT,tk0,tkS]
     refine tL 14 hd0 ?_
     try simp only [Act.put,tkT,tk0,tkS]
     refine za8 (k:=13) (by kernel_rfl) (by simp only [tkA,tkG];rfl) (fun K hK=>?_)
     go_simp
     go_wp2_with fail
     refine hK.out _ _ (fun _=>(hd0.alloc _)) ?_
     clear hK K
     refine za8 (k:=15) (by kernel_rfl) (by simp only [tkA,tkG];rfl) (fun K hK=>?_)
     refine zz5 rfl (.tmp 74) (.tmp 75) rfl rfl A n cap l rfl Hl.out HB5.out hn ?_
     intro Ae ce w7 he7 hb7
     have hd7:=hd0.below hb7
     have HR:=Lib.hid (fun o w9 v=>HAdd.out w7 Ae ce o w9 v he7 hb7)
     have HSg:=Lib.hid (fun o=>(HSeg.out w7 o hb7).1)
     have hB7:=(HSeg.out w7 (.cells #[] 5) hb7).2
     have hl16:=Hl16.out
     clear he7 hb7 HAdd HB5 HSeg
     go_wp2_with fail
     refine hK.out _ _ (fun _=>hd7) ?_
     clear hK K
     refine za8 (k:=16) (by kernel_rfl) (by simp only [tkA,tkG];rfl) (fun K hK=>?_)
     go_simp
     go_wp2_with fail
     refine hK.out _ _ (fun _=>(hd7.alloc _)) ?_
     clear hK K
     refine za8 (k:=17) (by kernel_rfl) (by simp only [tkA,tkG];rfl) (fun K hK=>?_)
     refine zp0 rfl (.tmp 73) (.tmp 77) _ rfl B 89 _ 1 24 Tryz.underlying128 infoBs9 rfl (by omega) _ m ms rfl (HSg.out _) (some ⟨w7.heap.size,0,none⟩) 1 1 [.slice Ae l.length ce] rfl rfl (fun _=>⟨_,rfl,fun j u hj=>?c1⟩) (fun u hu=>?c2) (by unfold maxLen;omega) (by omega) (by simp;omega) ?_
     case c1=>
      have hj0:j=0:=by have:=(List.getElem?_eq_some_iff.1 hj).1;simp at this;omega
      subst hj0
      simp only [List.getElem?_cons_zero,Option.some.injEq] at hj
      subst hj
      exact za0 (heap_alloc_new w7 _) 0 rfl
     case c2=>
      simp only [List.mem_singleton] at hu
      subst hu
      rfl
     intro v9 w9 hs9 ha9 hm9
     obtain ⟨hR,hd9⟩:=HR.out _ w9 v9 hs9 ha9 hm9
     obtain ⟨A9,c9,rfl,-⟩:=hs9.slice
     have HR2:=Lib.hid hR
     have f9:=za2 hd9.2 (i * 2)
     have k9:=rV w9 hd9
     clear hs9 ha9 hm9 HR HSg hR hd7 hd0
     go_wp2_with fail
     refine hK.out _ _ (fun _=>hd9) ?_
     clear hK K
     refine tL 18 hd9 ?_
     try simp only [Act.put,tkT,tk0,tkS]
     refine tL 19 hd9 ?_
     try simp only [Act.put,tkT,tk0,tkS]
     refine zc0 (k:=20) (by kernel_rfl) (by simp only [tkA,tkG];rfl) (fun K hK=>?_)
     go_simp
     go_wp2_with fail
     refine hK.out _ _ ?_
     clear hK K
     refine zb9 (by kernel_rfl) ?_ _
     clear hd9 f9 k9 r12 rV
     go_wp2_with fail
     go_ret
     exact HR2.out
end Go.Proofs.YtfgpfmhjnccccaaGreatDoor
