import Derived.Lib.SlBytesConst
import Derived.Test.YtfgpfmhjnccccaaGreatDoorSa22
namespace Go.Proofs.YtfgpfmhjnccccaaGreatDoor
open Go.RowKit PorP
set_option maxRecDepth 100000
section
variable {W W':World} {B:Nat} {c:TableP.Cfg} {x y:PC} {sx sy st:St}
end
theorem PIn.low {W:World} {B B':Nat} {c:TableP.Cfg} {x:PC} (h:PIn W B c x) (hb:B'≤B):PIn W B' c x:=
 ⟨h.hd,⟨h.els.row,h.els.pres,fun e he=>(h.els.each e he).low hb,h.els.apart,fun hz e he=>zf8 (h.els.own hz e he) hb,Nat.le_trans hb h.els.base,h.els.ok⟩,h.len,fun i e p hi hp=>by
  obtain ⟨tv,h1,h2⟩:=h.shape i e p hi hp
  refine ⟨tv,h1,h2.1,?_⟩
  rcases h2.2 with h3 | ⟨g,off,cap,cur,h3,h4,h5⟩
  ·exact .inl h3
  ·exact .inr ⟨g,off,cap,cur,h3,Nat.le_trans hb h4,h5⟩,Nat.le_trans hb h.base⟩
def ByteBlock (W:World) (A:Option Addr) (l:List UInt8):Prop:=0 < l.length→∀ k,blockOf A=some k→∃ cs f,W.heap[k]? = some (.cells cs 5 f)
section
variable {W W':World} {B:Nat} {c:TableP.Cfg} {a b:Nat} {sx sy:St}
theorem image_st (es:List El) (c:TableP.Cfg) (hl:es.length=c.ports.length):plainK 0 es=imgP c (fun p=>!false || p.out) (elSt es) c.ports.length:=by
 have h1:=zs4 c es hl es.length (Nat.le_refl _)
 rw [List.take_length] at h1
 rw [h1,hl]
end
open Go.RowKit PorP
set_option maxRecDepth 100000
theorem zC9 {w0:World} {ops:Array Oper} {rest:List Oper} {o:Oper} {a:Act} {Q:Exit→Act→World→Prop} (hw:Region.wanted o (yielded ops a.tmps)=true) (s x:Operand)
 (ho:o.op = .call { callee:=.builtin .append,args:=#[s,x],argTypes:=#[89,89] }) (hs:a.eval s = .slice (some ⟨w0.heap.size,0,none⟩) 0 0) (A:Option Addr) (m c:Nat) (l:List UInt8) (hx:a.eval x = .slice A m c) (hm:l.length=m) (hr:Bytes w0 w0.heap.size A l) (hn:m≤140737488355328)
 (h:∀ A' c' w',w'.ownsRow w0.heap.size 5 1 (.slice A' l.length c') l.length (bytesV l)→Bytes w' w'.heap.size A' l→ByteBlock w' A' l→Below w0.heap.size w0 w'→wpList Tryz.prog ops Q rest (a.put o.dst (.slice A' l.length c')) w') :
 wpList Tryz.prog ops Q (o :: rest) a (w0.alloc (.cells #[] 5)):=by
 have hb0:Below w0.heap.size w0 (w0.alloc (.cells #[] 5)):=(Below.refl _ _).alloc (Nat.le_refl _) _
 unfold wpList
 rw [if_pos hw]
 refine .inl (zj9 s x 89 ho w0.heap.size 5 (.int .u8 0) Tryz.underlying89 infoU12 rfl _ (some w0.heap.size) [] hs (Row.lit w0 w0.heap.size 5 (Nat.le_refl _)) w0.heap.size A m c l hx hm (hr.below hb0 (Nat.le_refl _)) (by simp;omega) (by simp) ?_)
 intro v' w' g' h1 h2 h3
 simp only [List.nil_append] at h1
 obtain ⟨A',c',rfl,-,hg,hby⟩:=h1.bytes
 refine h A' c' w' h1.2 hby (fun _ k hk=>?_) (hb0.trans (h3.below (by simp) (fun k e=>by simp only [Option.some.injEq] at e;omega)))
 obtain ⟨cur,hc⟩:=(Seg.of_own h1.2).block k (by rw [zg2];exact hk)
 exact ⟨_,_,hc⟩
section
variable {W:World} {B:Nat} {c:TableP.Cfg} {a:Nat} {node:Int} {st:St}
end
open Go.RowKit PorP
set_option maxRecDepth 100000
structure RIn (w0 W:World) (B:Nat) (x:CfgC) (node:Int) (a g:Nat) (es:List El):Prop where
 hd:W.heap[a]? = some (.cells #[.int .i64 x.nodes,.int .i64 x.faulty,.int .i64 x.slot,.int .i64 x.gap,.int .i64 x.rho,.int .i64 x.dmin,.int .i64 x.dmax,.int .i64 x.margin,.slice x.PA x.pn x.pcap,.slice x.QA x.qn x.qcap,.slice x.RA x.rn x.rcap,.int .i64 node,.slice (some ⟨g,0,none⟩) x.qn x.qn] 102 (0,0))
 els:Els 0 134 false W B g es
 len:es.length=x.qn
 base:B≤a
 low:w0.heap.size≤B
 tab:Below w0.heap.size w0 W
 cfg:CfgIn w0 x
section
variable {w0 W W':World} {B:Nat} {x:CfgC} {node:Int} {a g:Nat} {es es':List El}
theorem RIn.lt (h:RIn w0 W B x node a g es):a < W.heap.size:=lt_of_block h.hd
theorem RIn.leB (h:RIn w0 W B x node a g es):B≤W.heap.size:=Nat.le_trans h.base (Nat.le_of_lt h.lt)
theorem RIn.below (h:RIn w0 W B x node a g es) (hb:Below W.heap.size W W'):RIn w0 W' B x node a g es:=
 ⟨(hb.block a h.lt).trans h.hd,h.els.below hb,h.len,h.base,h.low,h.tab.trans (hb.mono h.tab.size),h.cfg⟩
theorem RIn.drew (h:RIn w0 W B x node a g es):RIn w0 W.drew B x node a g es:=h.below (Below.refl _ _).drew
theorem RIn.cfgW (h:RIn w0 W B x node a g es):CfgIn W x:=h.cfg.below h.tab
theorem RIn.goes (h:RIn w0 W B x node a g es) (he:Els 0 134 false W' B g es') (hl:es'.length=es.length) (hg:Goes g W W' es es'):RIn w0 W' B x node a g es':=
 ⟨(hg.apart.block a h.lt (h.els.fOff h.hd (by decide) (by decide))).trans h.hd,he,hl.trans h.len,h.base,h.low,h.tab.trans ((hg.below h.els (Nat.le_refl _) h.leB).mono h.low),h.cfg⟩
theorem RIn.set (h:RIn w0 W B x node a g es) {i:Nat} {e e':El} (_hi:es[i]? = some e) (he:Els 0 134 false W' B g (es.set i e')∧Goes g W W' es (es.set i e')):RIn w0 W' B x node a g (es.set i e'):=
 h.goes he.1 (List.length_set ..) he.2
theorem RIn.beside {F:Nat→Prop} (h:RIn w0 W B x node a g es) (ha:Apart F W W') (hB:∀ k,F k→B≤k) (hF:∀ k,EF g es k→¬ F k) (hT:∀ k,F k→∃ cs t,W.heap[k]? = some (.cells cs t (0,0))∧t≠5∧t≠102):RIn w0 W' B x node a g es:=by
 have hno:∀ k cs t,W.heap[k]? = some (.cells cs t (0,0))→(t=5∨t=102)→¬ F k:=fun k cs t hk ht hf=>by
  obtain ⟨cs',t',e1,e2,e3⟩:=hT k hf
  rw [hk] at e1
  simp only [Option.some.injEq,Obj.cells.injEq] at e1
  obtain ⟨-,rfl,-⟩:=e1
  rcases ht with e | e
  ·exact e2 e
  ·exact e3 e
 refine ⟨(ha.block a h.lt (hno _ _ _ h.hd (.inr rfl))).trans h.hd,h.els.away ha hF (fun k hk=>?_),h.len,h.base,h.low,h.tab.trans ((Apart.below ha h.leB hB).mono h.low),h.cfg⟩
 obtain ⟨cs,hc⟩:=h.els.dTag hk
 exact hno k cs _ hc (.inl rfl)
theorem RIn.el (h:RIn w0 W B x node a g es) {i:Nat} {p:TableP.Port} (hi:x.plain.ports[i]? = some p):∃ e,es[i]? = some e:=⟨_,List.getElem?_eq_getElem (by rw [h.len,← h.cfg.qlen];exact (List.getElem?_eq_some_iff.1 hi).1)⟩
theorem RIn.port (h:RIn w0 W B x node a g es) {i:Nat} {e:El} (hi:es[i]? = some e):∃ p,x.plain.ports[i]? = some p:=⟨_,List.getElem?_eq_getElem (by show i < x.ports.length;rw [h.cfg.qlen,← h.len];exact (List.getElem?_eq_some_iff.1 hi).1)⟩
theorem zD0 {i:Nat} {e:El} (h:es[i]? = some e):(elSt es)[i]? = some e.ps:=by unfold elSt;rw [List.getElem?_map,h];rfl
theorem RIn.nodeAt (h:RIn w0 W B x node a g es) (hal:SndP.Allowed x.plain) {p:TableP.Port} (hp:p∈x.plain.ports):∃ (k b off:Nat),p.part=(k:Int)∧k < x.pn∧x.PA=some ⟨b,off,none⟩∧W.cell? ⟨b,off + k * 9,none⟩=some (.int .i64 (nodeOf x.plain p)):=by
 have h1:=(hal.port p hp).1
 rw [show x.plain.parts.length=x.pn from h.cfg.plen] at h1
 have h1:0≤p.part∧p.part≤(x.pn:Int) - 1:=h1
 obtain ⟨k,hk⟩:=Int.eq_ofNat_of_zero_le h1.1
 have hkl:k < x.parts.length:=by rw [h.cfg.plen];omega
 obtain ⟨q,hq⟩:∃ q,x.parts[k]? = some q:=⟨_,List.getElem?_eq_getElem hkl⟩
 obtain ⟨b,off,e1,-,e2⟩:=zf0 h.cfgW.parts hq
 refine ⟨k,b,off,hk,by rw [← h.cfg.plen];exact hkl,e1,?_⟩
 have:nodeOf x.plain p=q.node:=by
  unfold nodeOf
  rw [hk,Int.toNat_natCast,show x.plain.parts=x.parts from rfl,hq];rfl
 rw [this]
 exact e2.c0
theorem RIn.portAt (h:RIn w0 W B x node a g es) {i:Nat} {p:TableP.Port} (hp:x.plain.ports[i]? = some p):∃ b off,x.QA=some ⟨b,off,none⟩∧PortAt W b (off + i * 6) p:=by
 obtain ⟨b,off,e1,-,e2⟩:=zh2 h.cfgW.ports hp
 exact ⟨b,off,e1,e2⟩
theorem RIn.qlt (h:RIn w0 W B x node a g es) {i:Nat} {p:TableP.Port} (hp:x.plain.ports[i]? = some p):i < x.qn:=by rw [← h.cfg.qlen];exact (List.getElem?_eq_some_iff.1 hp).1
theorem RIn.q24 (h:RIn w0 W B x node a g es) (hal:SndP.Allowed x.plain):x.qn≤24:=by rw [← h.cfg.qlen];exact hal.ports
end
def rpv (a:Nat):Value:=.pointer (some ⟨a,0,none⟩)
set_option maxHeartbeats 2000000 in
theorem rmine_any (w0 w:World) (B:Nat) (x:CfgC) (node:Int) (a g:Nat) (es:List El) (h:RIn w0 w B x node a g es) (hal:SndP.Allowed x.plain) (i:Nat) (p:TableP.Port) (hp:x.plain.ports[i]? = some p) :
 Calls Tryz.prog 40 #[rpv a,.int .i64 (i:Nat)] w (Quiet (.bool (mineB x.plain node p)) w):=by
 obtain ⟨k,bP,oP,hk,hkn,hPA,kP⟩:=h.nodeAt hal (List.mem_of_getElem? hp)
 obtain ⟨bQ,oQ,hQA,hQ⟩:=h.portAt hp
 have kQ:=hQ.c0
 rw [hk] at kQ
 have k8:=za0 h.hd 8 rfl
 have k9:=za0 h.hd 9 rfl
 have k11:=za0 h.hd 11 rfl
 rw [hPA] at k8
 rw [hQA] at k9
 have hi:=h.qlt hp
 have hq24:=h.q24 hal
 have hN:mineB x.plain node p=decide (nodeOf x.plain p=node):=rfl
 rw [hN]
 generalize nodeOf x.plain p=N at *
 generalize x.pn=pn at *
 generalize x.qn=qn at *
 generalize x.pcap=pcap at *
 generalize x.qcap=qcap at *
 have hpn:(k:Int) < (pn:Int):=by omega
 have hqn:(i:Int) < (qn:Int):=by omega
 unfold rpv
 clear h hal hp hk hPA hQA hQ hN
 by_cases hNn:N=node
 ·have t1:(N == node)=true:=by simp [hNn]
  rw [show decide (N=node)=true from decide_eq_true hNn]
  clear hNn
  go_enter Tryz.func40,Tryz.ntmps40
  go_wp2_with fail
  go_quiet (fail)
  go_wp2_with fail
  go_ret
  exact ⟨rfl,_,rfl⟩
 ·have t1:(N == node)=false:=by simp [hNn]
  rw [show decide (N=node)=false from decide_eq_false hNn]
  clear hNn
  go_enter Tryz.func40,Tryz.ntmps40
  go_wp2_with fail
  go_quiet (fail)
  go_wp2_with fail
  go_ret
  exact ⟨rfl,_,rfl⟩
set_option maxHeartbeats 4000000 in
theorem zz3 (w0 w:World) (B:Nat) (x:CfgC) (node:Int) (a g:Nat) (es:List El) (h:RIn w0 w B x node a g es) (hal:SndP.Allowed x.plain) (part port:Int) (hport:port≤9223372036854775807) (out:Bool) :
 Calls Tryz.prog 83 #[rpv a,.int .i64 part,.int .i64 port,.bool out] w (fun e w'=>e = .returned (strV (errO (findT x.plain node part port out) port))∧Below w.heap.size w w'):=by
 have HAt:=Lib.hid (fun W k (hk:k≤1000000)=>zc5 k port W hk hport)
 have k8:=za0 h.hd 8 rfl
 have k9:=za0 h.hd 9 rfl
 have k11:=za0 h.hd 11 rfl
 have k12:=za0 h.hd 12 rfl
 have hq24:=h.q24 hal
 unfold rpv
 by_cases h0:port < 0
 ·have e1:findT x.plain node part port out=some 17:=by unfold findT;rw [if_pos h0]
  have q1:decide (port < 0)=true:=decide_eq_true h0
  rw [e1]
  clear h h0 e1 hal
  generalize x.pn=pn at *
  generalize x.qn=qn at *
  have HE:=Lib.hid (fun W=>HAt.out W 17 (by omega))
  clear HAt
  unfold errO strV at *
  go_enter Tryz.func83,Tryz.ntmps83
  go_wp2_with fail
  go_quiet (fail)
  go_wp2_with fail
  refine (HE.out _).mono ?_
  rintro e w1 ⟨rfl,hb⟩
  have HF:=Lib.hid ((zc1 (Below.refl _ w) _).trans (hb.mono (Nat.le_refl _)))
  clear hb HE
  go_wp2_with fail
  go_ret
  exact ⟨rfl,HF.out⟩
 have q1:decide (port < 0)=false:=decide_eq_false h0
 obtain ⟨i,rfl⟩:=Int.eq_ofNat_of_zero_le (show 0≤port by omega)
 by_cases h2:x.qn≤i
 ·have e1:findT x.plain node part i out=some 17:=by
   unfold findT
   rw [if_neg h0,Int.toNat_natCast,List.getElem?_eq_none (by show x.ports.length≤i;rw [h.cfg.qlen];exact h2)]
  have q2:decide ((x.qn:Int)≤(i:Int))=true:=decide_eq_true (by omega)
  have q3:decide (x.qn≤i)=true:=decide_eq_true h2
  rw [e1]
  clear h h0 e1 hal h2
  generalize x.pn=pn at *
  generalize x.qn=qn at *
  have HE:=Lib.hid (fun W=>HAt.out W 17 (by omega))
  clear HAt
  unfold errO strV at *
  go_enter Tryz.func83,Tryz.ntmps83
  go_wp2_with fail
  go_quiet (fail)
  go_wp2_with fail
  refine (HE.out _).mono ?_
  rintro e w1 ⟨rfl,hb⟩
  have HF:=Lib.hid ((zc1 (Below.refl _ w) _).trans (hb.mono (Nat.le_refl _)))
  clear hb HE
  go_wp2_with fail
  go_ret
  exact ⟨rfl,HF.out⟩
 have q2:decide ((x.qn:Int)≤(i:Int))=false:=decide_eq_false (by omega)
 have q3:decide (x.qn≤i)=false:=decide_eq_false h2
 obtain ⟨p,hp⟩:∃ p,x.plain.ports[i]? = some p:=⟨_,List.getElem?_eq_getElem (by show i < x.ports.length;rw [h.cfg.qlen];omega)⟩
 have e1:findT x.plain node part i out=if p.part=part∧mineB x.plain node p=true then (if p.out=out then none else some 13) else some 17:=by
  unfold findT
  rw [if_neg h0,Int.toNat_natCast,hp]
 obtain ⟨k,bP,oP,hk,hkn,hPA,kP⟩:=h.nodeAt hal (List.mem_of_getElem? hp)
 obtain ⟨bQ,oQ,hQA,hQ⟩:=h.portAt hp
 have kQ:=hQ.c0
 have kO:=hQ.c2
 rw [hPA] at k8
 rw [hQA] at k9
 rw [hk] at kQ
 rw [e1,hk,show mineB x.plain node p=decide (nodeOf x.plain p=node) from rfl]
 have hlt:i < x.qn:=by omega
 generalize nodeOf x.plain p=N at *
 generalize p.out=po at *
 generalize x.pn=pn at *
 generalize x.qn=qn at *
 generalize x.pcap=pcap at *
 generalize x.qcap=qcap at *
 have hpn:(k:Int) < (pn:Int):=by omega
 have hqn:(i:Int) < (qn:Int):=by omega
 clear h hal hp hk hPA hQA hQ h0 h2 e1
 by_cases h3:(k:Int)=part
 case neg=>
  have t1:((k:Int) == part)=false:=by simp [h3]
  have t1':((k:Int) != part)=true:=by simp [h3]
  rw [if_neg (fun e=>h3 e.1)]
  clear h3
  have HE:=Lib.hid (fun W=>HAt.out W 17 (by omega))
  clear HAt
  unfold errO strV at *
  go_enter Tryz.func83,Tryz.ntmps83
  go_wp2_with fail
  go_quiet (fail)
  go_wp2_with fail
  refine (HE.out _).mono ?_
  rintro e w1 ⟨rfl,hb⟩
  have HF:=Lib.hid ((zc1 (Below.refl _ w) _).trans (hb.mono (Nat.le_refl _)))
  clear hb HE
  go_wp2_with fail
  go_ret
  exact ⟨rfl,HF.out⟩
 subst h3
 have t1:((k:Int) == (k:Int))=true:=by simp
 have t1':((k:Int) != (k:Int))=false:=by simp
 by_cases h4:N=node
 case neg=>
  have t2:(N == node)=false:=by simp [h4]
  have t2':(N != node)=true:=by simp [h4]
  rw [if_neg (fun e=>h4 (of_decide_eq_true e.2))]
  clear h4
  have HE:=Lib.hid (fun W=>HAt.out W 17 (by omega))
  clear HAt
  unfold errO strV at *
  go_enter Tryz.func83,Tryz.ntmps83
  go_wp2_with fail
  go_quiet (fail)
  go_wp2_with fail
  refine (HE.out _).mono ?_
  rintro e w1 ⟨rfl,hb⟩
  have HF:=Lib.hid ((zc1 (Below.refl _ w) _).trans (hb.mono (Nat.le_refl _)))
  clear hb HE
  go_wp2_with fail
  go_ret
  exact ⟨rfl,HF.out⟩
 have t2:(N == node)=true:=by simp [h4]
 have t2':(N != node)=false:=by simp [h4]
 rw [if_pos ⟨rfl,decide_eq_true h4⟩]
 clear h4
 by_cases h5:po=out
 case neg=>
  have t3:(po == out)=false:=by simp [h5]
  have t3':(po != out)=true:=by simp [h5]
  rw [if_neg h5]
  clear h5
  have HE:=Lib.hid (fun W=>HAt.out W 13 (by omega))
  clear HAt
  unfold errO strV at *
  go_enter Tryz.func83,Tryz.ntmps83
  go_wp2_with fail
  go_quiet (fail)
  go_wp2_with fail
  refine (HE.out _).mono ?_
  rintro e w1 ⟨rfl,hb⟩
  have HF:=Lib.hid ((zc1 (Below.refl _ w) _).trans (hb.mono (Nat.le_refl _)))
  clear hb HE
  go_wp2_with fail
  go_ret
  exact ⟨rfl,HF.out⟩
 subst h5
 have t3:(po == po)=true:=by simp
 have t3':(po != po)=false:=by simp
 rw [if_pos rfl]
 clear HAt
 unfold errO strV at *
 go_enter Tryz.func83,Tryz.ntmps83
 go_wp2_with fail
 go_quiet (fail)
 go_wp2_with fail
 go_ret
 exact ⟨rfl,zc1 (Below.refl _ w) _⟩
open Go.RowKit PorP
set_option maxRecDepth 100000
def LeftR (w0 w:World) (B:Nat) (x:CfgC) (node:Int) (a g:Nat) (es:List El) (st:St) (w':World):Prop:=∃ es',RIn w0 w' B x node a g es'∧Goes g w w' es es'∧elSt es'=st
section
variable {w0 w w1 w2:World} {B:Nat} {x:CfgC} {node:Int} {a g:Nat} {es:List El} {st:St}
theorem LeftR.same (h:RIn w0 w B x node a g es) (hb:Below w.heap.size w w1):LeftR w0 w B x node a g es (elSt es) w1:=⟨es,h.below hb,Goes.of_below hb _ _,rfl⟩
theorem LeftR.after (h:LeftR w0 w1 B x node a g es st w2) (hb:Below w.heap.size w w1):LeftR w0 w B x node a g es st w2:=by
 obtain ⟨es',h1,h2,h3⟩:=h
 exact ⟨es',h1,(Goes.of_below hb _ _).trans h2,h3⟩
end
open Go.RowKit PorP
set_option maxRecDepth 100000
theorem infoPort13:(Tryz.prog.info? 134).map (fun i=>(i.zero,i.size,i.bytes))=some (some (.agg #[.slice none 0 0,.int .i64 0]),2,32):=by kernel_rfl
def el0:El:=⟨[],.slice none 0 0,[],0⟩
theorem zK0 (n:Nat) (hn:n≤1000) (W:World):(Instr.makeSlice 100 (.int .i64 (n:Nat)) (.int .i64 (n:Nat))).run Tryz.prog W = .ok (.slice (some ⟨W.heap.size,0,none⟩) n n) (W.alloc (.cells (itemsV elVals (List.replicate n el0)).toArray 134)):=by
 obtain ⟨i,hi,hz,hs,hb⟩:=info_parts infoPort13
 have h1:=run_make (P:=Tryz.prog) W 100 134 i _ Tryz.underlying100 hi hz .i64 .i64 n n (by omega) (by omega) (by rw [hb];omega) (by omega)
 rw [Int.toNat_natCast,hs] at h1
 have h2:=zs5 (vals:=elVals) el0 (Value.cells (.agg #[.slice none 0 0,.int .i64 0])) (by rfl) (by decide) n
 have h3:(Value.cells (.agg #[.slice none 0 0,.int .i64 0])).size=2:=by rfl
 rw [h3] at h2
 rw [h1,← h2]
def NewRP (w0 w:World) (x:CfgC) (node:Int) (e:Ending) (w':World):Prop:=
 ∃ a g es,e = .returned (rpv a)∧RIn w0 w' w.heap.size x node a g es∧elSt es=PorP.start x.plain∧(∀ k,EF g es k→w.heap.size≤k)∧Below w.heap.size w w'
theorem rnew_end (w0 w:World) (x:CfgC) (node:Int) (h:CfgIn w0 x) (h0:Below w0.heap.size w0 w) (W:World) (hb:Below w.heap.size w W) :
 NewRP w0 w x node (.returned (.pointer (some ⟨W.heap.size + 1,0,none⟩))) ((W.alloc (.cells (itemsV elVals (List.replicate x.qn el0)).toArray 134)).alloc (.cells #[.int .i64 x.nodes,.int .i64 x.faulty,.int .i64 x.slot,.int .i64 x.gap,.int .i64 x.rho,.int .i64 x.dmin,.int .i64 x.dmax,.int .i64 x.margin,.slice x.PA x.pn x.pcap,.slice x.QA x.qn x.qcap,.slice x.RA x.rn x.rcap,.int .i64 node,.slice (some ⟨W.heap.size,0,none⟩) x.qn x.qn] 102)):=by
 have hr:=heap_alloc_new W (.cells (itemsV elVals (List.replicate x.qn el0)).toArray 134)
 have hb1:=hb.alloc hb.size (.cells (itemsV elVals (List.replicate x.qn el0)).toArray 134)
 have hs1:(W.alloc (.cells (itemsV elVals (List.replicate x.qn el0)).toArray 134)).heap.size=W.heap.size + 1:=by simp
 generalize W.alloc (.cells (itemsV elVals (List.replicate x.qn el0)).toArray 134)=W1 at *
 have hn:=heap_alloc_new W1 (.cells #[.int .i64 x.nodes,.int .i64 x.faulty,.int .i64 x.slot,.int .i64 x.gap,.int .i64 x.rho,.int .i64 x.dmin,.int .i64 x.dmax,.int .i64 x.margin,.slice x.PA x.pn x.pcap,.slice x.QA x.qn x.qcap,.slice x.RA x.rn x.rcap,.int .i64 node,.slice (some ⟨W.heap.size,0,none⟩) x.qn x.qn] 102)
 have hb2:=hb1.alloc hb1.size (.cells #[.int .i64 x.nodes,.int .i64 x.faulty,.int .i64 x.slot,.int .i64 x.gap,.int .i64 x.rho,.int .i64 x.dmin,.int .i64 x.dmax,.int .i64 x.margin,.slice x.PA x.pn x.pcap,.slice x.QA x.qn x.qcap,.slice x.RA x.rn x.rcap,.int .i64 node,.slice (some ⟨W.heap.size,0,none⟩) x.qn x.qn] 102)
 have hb3:Below W1.heap.size W1 (W1.alloc (.cells #[.int .i64 x.nodes,.int .i64 x.faulty,.int .i64 x.slot,.int .i64 x.gap,.int .i64 x.rho,.int .i64 x.dmin,.int .i64 x.dmax,.int .i64 x.margin,.slice x.PA x.pn x.pcap,.slice x.QA x.qn x.qcap,.slice x.RA x.rn x.rcap,.int .i64 node,.slice (some ⟨W.heap.size,0,none⟩) x.qn x.qn] 102)):=(Below.refl _ _).alloc (Nat.le_refl _) _
 have hall:∀ e∈List.replicate x.qn el0,e=el0:=fun e he=>List.eq_of_mem_replicate he
 have hnone:∀ (q:Nat) (i:Nat) (e:El),(List.replicate x.qn el0)[i]? = some e→e.v.ownBlock≠some q:=fun q i e hi=>by
  rw [hall e (List.mem_of_getElem? hi)]
  simp [el0,Value.ownBlock]
 have hgW:W.heap.size < W1.heap.size:=by omega
 refine ⟨W.heap.size + 1,W.heap.size,List.replicate x.qn el0,rfl,⟨by rw [← hs1];exact hn,⟨(hb3.block _ hgW).trans hr,fun e he=>(by obtain rfl:=hall e he;rfl),fun e he=>(by obtain rfl:=hall e he;exact LIn.nil _ _),fun i j e e' _ hi _ q hq=>absurd hq (hnone q i e hi),fun hz=>absurd hz (by decide),hb.size,fun e he=>(by obtain rfl:=hall e he;exact ⟨by simp [el0],by simp [el0],by simp [el0]⟩)⟩,List.length_replicate,by have:=hb.size;omega,h0.size,h0.trans (hb2.mono h0.size),h⟩,?_,fun k hk=>?_,hb2⟩
 ·unfold PorP.start elSt
  rw [List.map_replicate,show x.plain.ports.length=x.qn from h.qlen];rfl
 ·rcases hk with rfl | ⟨e,he,hk⟩
  ·exact hb.size
  ·rw [hall e he] at hk
   simp [el0,Value.ownBlock] at hk
set_option maxHeartbeats 4000000 in
theorem rnew_any (w0 w:World) (x:CfgC) (node:Int) (h:CfgIn w0 x) (h0:Below w0.heap.size w0 w) (hq:x.qn≤24):Calls Tryz.prog 7 #[x.value,.int .i64 node] w (NewRP w0 w x node):=by
 have HST:=Lib.hid (BoxS.start w x)
 have HF:=Lib.hid (fun W (hW:BoxS w x W)=>rnew_end w0 w x node h h0 W hW.below)
 have hmk:=fun W=>zK0 x.qn (by omega) W
 have d0:∀ W,BoxS w x W→W.cell? ⟨w.heap.size,0,none⟩=some (.int .i64 x.nodes):=fun W hW=>hW.cells.c0
 have d1:∀ W,BoxS w x W→W.cell? ⟨w.heap.size,1,none⟩=some (.int .i64 x.faulty):=fun W hW=>hW.cells.c1
 have d2:∀ W,BoxS w x W→W.cell? ⟨w.heap.size,2,none⟩=some (.int .i64 x.slot):=fun W hW=>hW.cells.c2
 have d3:∀ W,BoxS w x W→W.cell? ⟨w.heap.size,3,none⟩=some (.int .i64 x.gap):=fun W hW=>hW.cells.c3
 have d4:∀ W,BoxS w x W→W.cell? ⟨w.heap.size,4,none⟩=some (.int .i64 x.rho):=fun W hW=>hW.cells.c4
 have d5:∀ W,BoxS w x W→W.cell? ⟨w.heap.size,5,none⟩=some (.int .i64 x.dmin):=fun W hW=>hW.cells.c5
 have d6:∀ W,BoxS w x W→W.cell? ⟨w.heap.size,6,none⟩=some (.int .i64 x.dmax):=fun W hW=>hW.cells.c6
 have d7:∀ W,BoxS w x W→W.cell? ⟨w.heap.size,7,none⟩=some (.int .i64 x.margin):=fun W hW=>hW.cells.c7
 have d8:∀ W,BoxS w x W→W.cell? ⟨w.heap.size,8,none⟩=some (.slice x.PA x.pn x.pcap):=fun W hW=>hW.cells.c8
 have d9:∀ W,BoxS w x W→W.cell? ⟨w.heap.size,9,none⟩=some (.slice x.QA x.qn x.qcap):=fun W hW=>hW.cells.c9
 have d10:∀ W,BoxS w x W→W.cell? ⟨w.heap.size,10,none⟩=some (.slice x.RA x.rn x.rcap):=fun W hW=>hW.cells.c10
 simp only [CfgC.value]
 simp only [boxC,cfgCells] at HST
 have hStep:∀ W o,BoxS w x W→BoxS w x (W.alloc o):=fun W o hW=>hW.step ((Below.refl _ _).alloc (Nat.le_refl _) o)
 have HD:=Lib.hid (fun W (hW:BoxS w x W)=>hW.drew)
 have HStep:=Lib.hid hStep
 clear h h0 hStep
 go_enter Tryz.func7,Tryz.ntmps7
 go_wp2_with fail
 generalize w.alloc _=w1 at HST ⊢
 have hs0:=HD.out _ HST.out
 clear HST HD
 refine wp_region_held_drew (S:=fun W=>BoxS w x W) (by kernel_rfl) hs0 (fun _=>?_)
 generalize w1.drew=w2 at *
 have hs1:=fun o=>HStep.out _ o hs0
 have hs2:=fun o p=>HStep.out _ p (hs1 o)
 have HF2:=Lib.hid (HF.out w2 hs0)
 clear HF HStep
 refine tK 0 hs0 ?_
 try simp only [Act.put,tkT,tk0,tkS]
 refine tK 1 hs0 ?_
 try simp only [Act.put,tkT,tk0,tkS]
 refine tK 2 hs0 ?_
 try simp only [Act.put,tkT,tk0,tkS]
 refine tK 3 hs0 ?_
 try simp only [Act.put,tkT,tk0,tkS]
 refine tK 4 hs0 ?_
 try simp only [Act.put,tkT,tk0,tkS]
 refine clH 5 (by kernel_rfl) (by simp only [tkA,tkG];rfl) (fun K hK=>?_)
 go_simp
 go_wp2_with fail
 refine hK.out _ _ (hs1 _) (fun _=>?_)
 clear hK K
 refine tK 6 (hs1 _) ?_
 try simp only [Act.put,tkT,tk0,tkS]
 refine clH 7 (by kernel_rfl) (by simp only [tkA,tkG];rfl) (fun K hK=>?_)
 go_simp
 go_wp2_with fail
 refine hK.out _ _ (hs2 _ _) (fun _=>?_)
 clear hK K
 refine tK 8 (hs2 _ _) ?_
 try simp only [Act.put,tkT,tk0,tkS]
 refine wpAnyH_done (by kernel_rfl) ?_ _
 go_wp2_with fail
 go_ret
 exact HF2.out
open Go.RowKit PorP
set_option maxRecDepth 100000
structure ImgY (w0 w:World) (B:Nat) (x:CfgC) (node:Int) (a g:Nat) (es:List El) (ps:List FrameP.Msg) (ys:List MsgC) (v:Value) (wr:World):Prop where
 row:wr.ownsRow w.heap.size 121 2 v ys.length (msgVals ys)
 each:∀ y∈ys,OwnMsg wr B y
 plain:ys.map MsgC.plain=ps
 rin:RIn w0 wr B x node a g es
 bel:Below w.heap.size w wr
def ImgQ (w0 w:World) (B:Nat) (x:CfgC) (node:Int) (a g:Nat) (es:List El) (ps:List FrameP.Msg) (v:Value) (wr:World):Prop:=∃ ys,ImgY w0 w B x node a g es ps ys v wr
section
variable {w0 w wr w1:World} {B:Nat} {x:CfgC} {node:Int} {a g:Nat} {es:List El} {ps:List FrameP.Msg} {ys:List MsgC} {v v':Value}
theorem ImgY.below (h:ImgY w0 w B x node a g es ps ys v wr) (hb:Below wr.heap.size wr w1):ImgY w0 w B x node a g es ps ys v w1:=
 ⟨za3 (F:=fun _=>False) h.row (Apart.of_below' hb) (fun _ _ h=>h),fun y hy=>(h.each y hy).apart (F:=fun _=>False) (Apart.of_below' hb) (fun _ _ h=>h),h.plain,h.rin.below hb,h.bel.trans (hb.mono h.bel.size)⟩
theorem ImgY.more (h:ImgY w0 w B x node a g es ps ys v wr) (hB:B≤w.heap.size) {i:Nat} (hi:i≤1000) {e:El} (he:e∈es) {D:Option Addr} {m cc:Nat} {data:List UInt8} (hx:(Value.slice D m cc,data)∈e.msgs) (o:Obj)
 (ho:w1.ownsRow w.heap.size 121 2 v' (ys.length + 1) (msgVals ys ++ MsgC.vals ⟨(i:Int),D,m,cc,data⟩)) (ha:Apart (fun q=>v.ownBlock=some q) (wr.alloc o) w1):ImgY w0 w B x node a g es (ps ++ [⟨(i:Int),data⟩]) (ys ++ [⟨(i:Int),D,m,cc,data⟩]) v' w1:=by
 have hba:Below wr.heap.size wr (wr.alloc o):=(Below.refl _ _).alloc (Nat.le_refl _) _
 have h1a:=h.row.alloc o
 have h4a:=h.rin.below hba
 have hrow:=(h.rin.els.each e he).rows _ hx
 have hm:data.length=m:=by
  obtain ⟨A,c,e1,-⟩:=za6 hrow
  injection e1 with e2 e3 e4
  exact e3.symm
 subst hm
 have hdm:=(h.rin.els.ok e he).2.1 _ hx
 have hown:∀ y∈ys ++ [⟨(i:Int),D,data.length,cc,data⟩],OwnMsg wr B y:=fun y hy=>by
  rcases List.mem_append.1 hy with hy | hy
  ·exact h.each y hy
  ·rw [List.mem_singleton.1 hy]
   exact ⟨hrow,by simp only at hdm ⊢;omega,by simp only;omega⟩
 have htag:∀ q,v.ownBlock=some q→w.heap.size≤q∧∃ cs,(wr.alloc o).heap[q]? = some (.cells cs 121 (0,0)):=fun q hq=>⟨(h.row.lt q hq).1,(Seg.of_own h1a).block q hq⟩
 refine ⟨?_,fun y hy=>?_,by rw [List.map_append,h.plain];rfl,h4a.beside ha (fun k hk=>Nat.le_trans hB (htag k hk).1) (fun k hk hf=>?_) (fun k hk=>?_),?_⟩
 ·rw [List.length_append,zj6]
  simpa [msgVals,MsgC.vals] using ho
 ·have hy1:=(hown y hy).apart (F:=fun _=>False) (Apart.of_below' hba) (fun _ _ h=>h)
  exact hy1.apart ha (fun q hq e=>ze8 hy1.row h1a (by decide) q hq e)
 ·obtain ⟨-,cs,hc⟩:=htag k hf
  exact h4a.els.fOff hc (by decide) (by decide) hk
 ·obtain ⟨-,cs,hc⟩:=htag k hk
  exact ⟨cs,_,hc,by decide,by decide⟩
 ·exact (h.bel.trans (hba.mono h.bel.size)).trans (Apart.below ha (Nat.le_trans h.bel.size hba.size) (fun q hq=>(htag q hq).1))
end
def ImgPR (w0 w:World) (B:Nat) (x:CfgC) (node:Int) (a g:Nat) (es:List El) (ps:List FrameP.Msg) (e:Ending) (w':World):Prop:=∃ v,e = .returned v∧ImgQ w0 w B x node a g es ps v w'
def ImgO (w0 w:World) (B:Nat) (x:CfgC) (node:Int) (a g:Nat) (es:List El) (out:Bool) (v i:Value) (wr:World):Prop:=
 ∃ k:Nat,k≤x.qn∧i = .int .i64 (k:Nat)∧ImgQ w0 w B x node a g es (imgP x.plain (shown x.plain node out) (elSt es) k) v wr
def ImgI (w0 w:World) (B:Nat) (x:CfgC) (node:Int) (a g:Nat) (es:List El) (ps:List FrameP.Msg) (i:Nat) (l:List Txt) (v k:Value) (wr:World):Prop:=
 ∃ j:Nat,j≤l.length∧k = .int .i64 (j:Nat)∧ImgQ w0 w B x node a g es (ps ++ plainsT i (l.take j)) v wr
theorem zq5 {i:Nat} {l:List Txt} {j:Nat} {t:Txt} (h:l[j]? = some t):plainsT i (l.take (j + 1))=plainsT i (l.take j) ++ [⟨(i:Int),t.2⟩]:=by
 unfold plainsT
 rw [List.take_add_one,h,List.map_append];rfl
theorem RIn.txtAt {w0 W:World} {B:Nat} {x:CfgC} {node:Int} {a g:Nat} {es:List El} (h:RIn w0 W B x node a g es) {i:Nat} {e:El} (hi:es[i]? = some e) {j:Nat} {t:Txt} (hj:e.msgs[j]? = some t):∃ (b o c:Nat) (D:Option Addr) (cc:Nat),e.v = .slice (some ⟨b,o,none⟩) e.msgs.length c∧W.cell? ⟨b,o + j,none⟩=some (.slice D t.2.length cc)∧t=(.slice D t.2.length cc,t.2):=by
 have hl:=h.els.each e (List.mem_of_getElem? hi)
 have hjl:=(List.getElem?_eq_some_iff.1 hj).1
 obtain ⟨b,o,c,hv,-⟩:=hl.seg.form (by omega)
 have hseg:=hl.seg
 rw [hv] at hseg
 have hc:=hseg.cell (j:=j) (u:=t.1) (by
  have:=ze0 zk4 e.msgs j t hj 0 (by omega)
  rw [Nat.mul_one,Nat.add_zero] at this
  exact this)
 obtain ⟨D,cc,ht,-⟩:=za6 (hl.rows t (List.mem_of_getElem? hj))
 have ht':t.1 = .slice D t.2.length cc:=ht
 refine ⟨b,o,c,D,cc,hv,by rw [hc,ht'],?_⟩
 obtain ⟨t1,t2⟩:=t
 simp only at ht'
 rw [ht']
set_option maxHeartbeats 8000000 in
theorem zK1 (w0 w:World) (B:Nat) (x:CfgC) (node:Int) (a g:Nat) (es:List El) (h:RIn w0 w B x node a g es) (hal:SndP.Allowed x.plain) (out:Bool) :
 Calls Tryz.prog 20 #[rpv a,.bool out] w (ImgPR w0 w B x node a g es (imgP x.plain (shown x.plain node out) (elSt es) x.plain.ports.length)):=by
 have hq24:=h.q24 hal
 have Hal:=Lib.hid hal
 have HB:=Lib.hid h.leB
 have Hql:Hid (x.plain.ports.length=x.qn):=Lib.hid h.cfg.qlen
 have HO4:Hid (∀ s∈elSt es,s.msgs.length≤4):=Lib.hid fun s hs=>by
  obtain ⟨e,he,rfl⟩:=List.mem_map.1 hs
  have:=(h.els.ok e he).1
  simpa [El.ps] using this
 have HS:Hid (ImgO w0 w B x node a g es out (.slice none 0 0) (.int .i64 0) w):=Lib.hid ⟨0,Nat.zero_le _,rfl,[],World.ownsRow_nil _ _ _ _,fun y hy=>(by cases hy),rfl,h,Below.refl _ _⟩
 unfold rpv
 clear h hal
 go_enter Tryz.func20,Tryz.ntmps20
 go_wp2_with fail
 go_loopw [5,6] (ImgO w0 w B x node a g es out) (fun _ j _=>(x.qn + 1 - intOf j).toNat)
 case atStart=>exact HS.out
 case round=>
  clear HS
  obtain ⟨i,hi,rfl,hQ⟩:=hrel
  obtain ⟨ys,hY⟩:=hQ
  obtain ⟨A,cap,rfl,-⟩:=za6 hY.row
  have k12:=za0 hY.rin.hd 12 rfl
  by_cases hlt:i < x.qn
  case neg=>
   obtain rfl:i=x.qn:=by omega
   have q1:decide ((x.qn:Int) < (x.qn:Int))=false:=decide_eq_false (by omega)
   have HF:Hid (ImgPR w0 w B x node a g es (imgP x.plain (shown x.plain node out) (elSt es) x.plain.ports.length) (.returned (.slice A ys.length cap)) wr):=Lib.hid ⟨_,rfl,ys,by rw [Hql.out];exact hY⟩
   clear hY
   go_wp2_with fail
   go_ret
   exact HF.out
  have q1:decide ((i:Int) < (x.qn:Int))=true:=decide_eq_true (by omega)
  have q1':decide (i < x.qn)=true:=decide_eq_true hlt
  have hiz:(i:Int) < (x.qn:Int):=by omega
  have e1:IntKind.i64.wrap ((i:Int) + 1)=(i:Int) + 1:=IntWalk.i64_in _ (by omega)
  obtain ⟨e,he⟩:∃ e,es[i]? = some e:=⟨_,List.getElem?_eq_getElem (by rw [hY.rin.len];exact hlt)⟩
  obtain ⟨p,hp⟩:=hY.rin.port he
  have hstep:=zo7 (sel:=shown x.plain node out) hp (zD0 he)
  have hyl:ys.length≤4 * i:=by
   have h1:=congrArg List.length hY.plain
   rw [List.length_map] at h1
   rw [h1];exact imgP_len HO4.out i
  have HMi:=Lib.hid (rmine_any w0 wr B x node a g es hY.rin Hal.out i p hp)
  have HNx:Hid (∀ v W,ImgQ w0 w B x node a g es (imgP x.plain (shown x.plain node out) (elSt es) i ++ (if shown x.plain node out p=true then e.ps.msgs.map (msgOf i) else [])) v W→ImgO w0 w B x node a g es out v (.int .i64 ((i:Int) + 1)) W):=Lib.hid fun v W hW=>⟨i + 1,hlt,by go_num,by rw [hstep];exact hW⟩
  obtain ⟨bQ,oQ,hQA,hQ⟩:=hY.rin.portAt hp
  have kO:=hQ.c2
  have k9:=za0 hY.rin.hd 9 rfl
  rw [hQA] at k9
  have hsh:shown x.plain node out p=(mineB x.plain node p && (!out || p.out)):=rfl
  rw [hsh] at HNx
  have HY:=Lib.hid hY
  have Hei:=Lib.hid he
  have Hpl:Hid (plainsT i e.msgs=e.ps.msgs.map (msgOf i)):=Lib.hid (zy8 i e)
  generalize imgP x.plain (shown x.plain node out) (elSt es) i=ps at *
  unfold rpv at HMi
  cases hm:mineB x.plain node p with
  | false=>
   rw [hm] at HNx HMi
   simp only [Bool.false_and] at HNx
   have HR:Hid (∀ m,ImgO w0 w B x node a g es out (.slice A ys.length cap) (.int .i64 ((i:Int) + 1)) (wr.drewN m)):=Lib.hid fun m=>HNx.out _ _ ⟨ys,by simpa using HY.out.below (zc1 (Below.refl _ _) m)⟩
   clear HNx HY hY hQ hQA he hp hstep
   generalize x.qn=qn at *
   go_wp2_with fail
   refine HMi.out.mono ?_
   rintro e2 w2 ⟨rfl,m2,rfl⟩
   have HR2:=Lib.hid (HR.out m2)
   clear HR HMi
   go_wp2_with fail
   go_roundw
   case rel=>exact HR2.out
   case measure=>simp [intOf];omega
  | true=>
   rw [hm] at HNx HMi
   simp only [Bool.true_and] at HNx
   cases out with
   | false=>
    simp only [Bool.not_false,Bool.true_or,if_true] at HNx
    have HI0:Hid (∀ m,ImgI w0 w B x node a g es ps i e.msgs (.slice A ys.length cap) (.int .i64 0) (wr.drewN m)):=Lib.hid fun m=>⟨0,Nat.zero_le _,rfl,ys,by simpa [plainsT] using HY.out.below (zc1 (Below.refl _ _) m)⟩
    have hle4:=(hY.rin.els.ok e (List.mem_of_getElem? he)).1
    have hps:ps.length≤96:=by
     have h1:=congrArg List.length hY.plain
     rw [List.length_map] at h1
     omega
    clear HY hY hQ hQA he hp hstep hyl
    go_wp2_with fail
    refine HMi.out.mono ?_
    rintro e2 w2 ⟨rfl,m2,rfl⟩
    have HI:=Lib.hid (HI0.out m2)
    clear HI0 HMi
    go_wp2_with fail
    clear kO k9 k12
    go_loopw [5,7] (ImgI w0 w B x node a g es ps i e.msgs) (fun _ j _=>(e.msgs.length + 1 - intOf j).toNat)
    case atStart=>exact HI.out
    case round=>
     clear HI
     obtain ⟨j,hj,rfl,ys2,hY2⟩:=hrel
     obtain ⟨A2,cap2,rfl,-⟩:=za6 hY2.row
     have k12:=za0 hY2.rin.hd 12 rfl
     have kV:wr.cell? ⟨g,i * 2,none⟩=some e.v:=hY2.rin.els.cellV Hei.out
     by_cases hjt:j < e.msgs.length
     case neg=>
      obtain rfl:j=e.msgs.length:=by omega
      obtain ⟨Ae,ce,hve,-⟩:=(hY2.rin.els.each e (List.mem_of_getElem? Hei.out)).seg.slice
      rw [hve] at kV
      have q2:decide ((e.msgs.length:Int) < (e.msgs.length:Int))=false:=decide_eq_false (by omega)
      have HR:=Lib.hid (HNx.out _ _ ⟨ys2,by have:=hY2;rw [List.take_length,Hpl.out] at this;simpa using this⟩)
      clear hY2 HNx hj
      generalize e.msgs.length=el at *
      go_wp2_with fail
      go_roundw
      case rel=>exact HR.out
      case measure=>simp [intOf];omega
     case pos=>
      obtain ⟨t,ht⟩:∃ t,e.msgs[j]? = some t:=⟨_,List.getElem?_eq_getElem hjt⟩
      obtain ⟨bV,oV,cV,D,cc,hve,kT,htt⟩:=hY2.rin.txtAt Hei.out ht
      rw [hve] at kV
      have q2:decide ((j:Int) < (e.msgs.length:Int))=true:=decide_eq_true (by omega)
      have q2':decide (j < e.msgs.length)=true:=decide_eq_true hjt
      have hjz:(j:Int) < (e.msgs.length:Int):=by omega
      have e2:IntKind.i64.wrap ((j:Int) + 1)=(j:Int) + 1:=IntWalk.i64_in _ (by omega)
      have hyl2:ys2.length≤100:=by
       have h1:=congrArg List.length hY2.plain
       rw [List.length_map,List.length_append,plainsT,List.length_map,List.length_take] at h1
       omega
      have HIn:Hid (∀ o v' w3,w3.ownsRow w.heap.size 121 2 v' (ys2.length + 1) (msgVals ys2 ++ MsgC.vals ⟨(i:Int),D,t.2.length,cc,t.2⟩)→Apart (fun q=>(Value.slice A2 ys2.length cap2).ownBlock=some q) (wr.alloc o) w3→ImgI w0 w B x node a g es ps i e.msgs v' (.int .i64 ((j:Int) + 1)) w3):=Lib.hid fun o v' w3 h1 h2=>⟨j + 1,hjt,by go_num,_,by
       rw [zq5 ht,← List.append_assoc]
       exact hY2.more HB.out (by omega) (List.mem_of_getElem? Hei.out) (by rw [← htt];exact List.mem_of_getElem? ht) o h1 h2⟩
      have HOw:Hid (∀ o,(wr.alloc o).ownsRow w.heap.size 121 2 (.slice A2 ys2.length cap2) ys2.length (msgVals ys2)):=Lib.hid fun o=>hY2.row.alloc o
      have hsz:w.heap.size≤wr.heap.size:=hY2.bel.size
      generalize t.2=data at *
      generalize e.msgs.length=el at *
      generalize ys2.length=L at *
      clear hY2 HNx hj ht htt
      go_wp2_with (at_builtin
                   refine zb3 rfl (.tmp 49) (.tmp 63) _ rfl w.heap.size 121 _ 2 32 Tryz.underlying80 infoM rfl (by omega) _ L (msgVals ys2) rfl (HOw.out _) (some ⟨wr.heap.size,0,none⟩) 1 1 (MsgC.vals ⟨(i:Int),D,data.length,cc,data⟩) rfl rfl ?n2 ?n3 (by unfold maxLen;omega) (by omega) (by simp;omega) ?_
                   case n2=>exact fun _=>⟨_,rfl,zk2 wr 121 _ _ rfl⟩
                   case n3=>
                    intro u hu
                    simp only [MsgC.vals,List.mem_cons,List.not_mem_nil,or_false] at hu
                    rcases hu with rfl | rfl<;>rfl
                   intro v9 w9 ho9 ha9 hb9
                   have HR2:=Lib.hid (HIn.out _ v9 w9 ho9 ha9)
                   obtain ⟨A9,c9,rfl,-⟩:=za6 ho9
                   clear ho9 ha9 hb9 HIn HOw)
      go_roundw
      case rel=>exact HR2.out
      case measure=>simp [intOf];omega
   | true=>
    simp only [Bool.not_true,Bool.false_or] at HNx
    cases hpo:p.out with
    | false=>
     rw [hpo] at HNx kO
     simp only [Bool.false_eq_true,if_false] at HNx
     have HR:Hid (∀ m,ImgO w0 w B x node a g es true (.slice A ys.length cap) (.int .i64 ((i:Int) + 1)) (wr.drewN m)):=Lib.hid fun m=>HNx.out _ _ ⟨ys,by simpa using HY.out.below (zc1 (Below.refl _ _) m)⟩
     clear HNx HY hY hQ hQA he hp hstep
     generalize x.qn=qn at *
     go_wp2_with fail
     refine HMi.out.mono ?_
     rintro e2 w2 ⟨rfl,m2,rfl⟩
     have HR2:=Lib.hid (HR.out m2)
     clear HR HMi
     go_wp2_with fail
     go_roundw
     case rel=>exact HR2.out
     case measure=>simp [intOf];omega
    | true=>
     rw [hpo] at HNx kO
     simp only [if_true] at HNx
     have HI0:Hid (∀ m,ImgI w0 w B x node a g es ps i e.msgs (.slice A ys.length cap) (.int .i64 0) (wr.drewN m)):=Lib.hid fun m=>⟨0,Nat.zero_le _,rfl,ys,by simpa [plainsT] using HY.out.below (zc1 (Below.refl _ _) m)⟩
     have hle4:=(hY.rin.els.ok e (List.mem_of_getElem? he)).1
     have hps:ps.length≤96:=by
      have h1:=congrArg List.length hY.plain
      rw [List.length_map] at h1
      omega
     clear HY hY hQ hQA he hp hstep hyl
     go_wp2_with fail
     refine HMi.out.mono ?_
     rintro e2 w2 ⟨rfl,m2,rfl⟩
     have HI:=Lib.hid (HI0.out m2)
     clear HI0 HMi
     go_wp2_with fail
     clear kO k9 k12
     go_loopw [5,7] (ImgI w0 w B x node a g es ps i e.msgs) (fun _ j _=>(e.msgs.length + 1 - intOf j).toNat)
     case atStart=>exact HI.out
     case round=>
      clear HI
      obtain ⟨j,hj,rfl,ys2,hY2⟩:=hrel
      obtain ⟨A2,cap2,rfl,-⟩:=za6 hY2.row
      have k12:=za0 hY2.rin.hd 12 rfl
      have kV:wr.cell? ⟨g,i * 2,none⟩=some e.v:=hY2.rin.els.cellV Hei.out
      by_cases hjt:j < e.msgs.length
      case neg=>
       obtain rfl:j=e.msgs.length:=by omega
       obtain ⟨Ae,ce,hve,-⟩:=(hY2.rin.els.each e (List.mem_of_getElem? Hei.out)).seg.slice
       rw [hve] at kV
       have q2:decide ((e.msgs.length:Int) < (e.msgs.length:Int))=false:=decide_eq_false (by omega)
       have HR:=Lib.hid (HNx.out _ _ ⟨ys2,by have:=hY2;rw [List.take_length,Hpl.out] at this;simpa using this⟩)
       clear hY2 HNx hj
       generalize e.msgs.length=el at *
       go_wp2_with fail
       go_roundw
       case rel=>exact HR.out
       case measure=>simp [intOf];omega
      case pos=>
       obtain ⟨t,ht⟩:∃ t,e.msgs[j]? = some t:=⟨_,List.getElem?_eq_getElem hjt⟩
       obtain ⟨bV,oV,cV,D,cc,hve,kT,htt⟩:=hY2.rin.txtAt Hei.out ht
       rw [hve] at kV
       have q2:decide ((j:Int) < (e.msgs.length:Int))=true:=decide_eq_true (by omega)
       have q2':decide (j < e.msgs.length)=true:=decide_eq_true hjt
       have hjz:(j:Int) < (e.msgs.length:Int):=by omega
       have e2:IntKind.i64.wrap ((j:Int) + 1)=(j:Int) + 1:=IntWalk.i64_in _ (by omega)
       have hyl2:ys2.length≤100:=by
        have h1:=congrArg List.length hY2.plain
        rw [List.length_map,List.length_append,plainsT,List.length_map,List.length_take] at h1
        omega
       have HIn:Hid (∀ o v' w3,w3.ownsRow w.heap.size 121 2 v' (ys2.length + 1) (msgVals ys2 ++ MsgC.vals ⟨(i:Int),D,t.2.length,cc,t.2⟩)→Apart (fun q=>(Value.slice A2 ys2.length cap2).ownBlock=some q) (wr.alloc o) w3→ImgI w0 w B x node a g es ps i e.msgs v' (.int .i64 ((j:Int) + 1)) w3):=Lib.hid fun o v' w3 h1 h2=>⟨j + 1,hjt,by go_num,_,by
        rw [zq5 ht,← List.append_assoc]
        exact hY2.more HB.out (by omega) (List.mem_of_getElem? Hei.out) (by rw [← htt];exact List.mem_of_getElem? ht) o h1 h2⟩
       have HOw:Hid (∀ o,(wr.alloc o).ownsRow w.heap.size 121 2 (.slice A2 ys2.length cap2) ys2.length (msgVals ys2)):=Lib.hid fun o=>hY2.row.alloc o
       have hsz:w.heap.size≤wr.heap.size:=hY2.bel.size
       generalize t.2=data at *
       generalize e.msgs.length=el at *
       generalize ys2.length=L at *
       clear hY2 HNx hj ht htt
       go_wp2_with (at_builtin
                    refine zb3 rfl (.tmp 49) (.tmp 63) _ rfl w.heap.size 121 _ 2 32 Tryz.underlying80 infoM rfl (by omega) _ L (msgVals ys2) rfl (HOw.out _) (some ⟨wr.heap.size,0,none⟩) 1 1 (MsgC.vals ⟨(i:Int),D,data.length,cc,data⟩) rfl rfl ?n2 ?n3 (by unfold maxLen;omega) (by omega) (by simp;omega) ?_
                    case n2=>exact fun _=>⟨_,rfl,zk2 wr 121 _ _ rfl⟩
                    case n3=>
                     intro u hu
                     simp only [MsgC.vals,List.mem_cons,List.not_mem_nil,or_false] at hu
                     rcases hu with rfl | rfl<;>rfl
                    intro v9 w9 ho9 ha9 hb9
                    have HR2:=Lib.hid (HIn.out _ v9 w9 ho9 ha9)
                    obtain ⟨A9,c9,rfl,-⟩:=za6 ho9
                    clear ho9 ha9 hb9 HIn HOw)
       go_roundw
       case rel=>exact HR2.out
       case measure=>simp [intOf];omega
open Go.RowKit PorP
set_option maxRecDepth 100000
open Go.RowKit PorP
set_option maxRecDepth 100000
theorem zm5 {W:World} {B:Nat} {A:Option Addr} {cap:Nat} {l:List UInt8} (h:W.ownsRow B 5 1 (.slice A l.length cap) l.length (bytesV l)):Bytes W W.heap.size A l∧ByteBlock W A l:=by
 obtain ⟨A',c',e1,-,-,hby,-⟩:=zh9 h
 injection e1 with e1
 subst e1
 refine ⟨hby,fun _ k hk=>?_⟩
 obtain ⟨cur,hc⟩:=(Seg.of_own h).block k (by rw [zg2];exact hk)
 exact ⟨_,_,hc⟩
def ReadPR (w0 w:World) (B:Nat) (x:CfgC) (node:Int) (a g:Nat) (es:List El) (port:Int) (r:(List UInt8 × Bool × Option Nat) × St) (e:Ending) (w':World):Prop:=
 ∃ D cc,e = .returned (.tuple #[.slice D r.1.1.length cc,.bool r.1.2.1,strV (errO r.1.2.2 port)])∧(Bytes w' w'.heap.size D r.1.1∧ByteBlock w' D r.1.1)∧LeftR w0 w B x node a g es r.2 w'
theorem zv1 (k:Nat) (a:Int):(atT k a).isEmpty=false:=by unfold atT;simp
theorem zz4 {c:TableP.Cfg} {node part port:Int} {out:Bool} (h:findT c node part port out=none):∃ (i:Nat) (p:TableP.Port),port=(i:Int)∧c.ports[i]? = some p∧p.part=part∧mineB c node p=true∧p.out=out:=by
 unfold findT at h
 split at h
 ·cases h
 ·rename_i h0
  obtain ⟨i,rfl⟩:=Int.eq_ofNat_of_zero_le (show 0≤port by omega)
  rw [Int.toNat_natCast] at h
  split at h
  ·cases h
  ·rename_i p hp
   split at h
   ·rename_i h1
    split at h
    ·rename_i h2
     exact ⟨i,p,rfl,hp,h1.1,h1.2,h2⟩
    ·cases h
   ·cases h
theorem ReadPR.kept {w0 w W:World} {B:Nat} {x:CfgC} {node:Int} {a g:Nat} {es:List El} {port:Int} (h:RIn w0 w B x node a g es) (hb:Below w.heap.size w W) {i:Nat} {e:El} (he:es[i]? = some e) {D:Option Addr} {cc:Nat} {d:List UInt8} (hx:(Value.slice D d.length cc,d)∈e.msgs) (f:Bool) :
 ReadPR w0 w B x node a g es port ((d,f,none),elSt es) (.returned (.tuple #[.slice D d.length cc,.bool f,strV []])) W:=by
 have h1:=h.below hb
 exact ⟨D,cc,rfl,zm5 ((h1.els.each e (List.mem_of_getElem? he)).rows _ hx),LeftR.same h hb⟩
set_option maxHeartbeats 8000000 in
theorem rread_any (w0 w:World) (B:Nat) (x:CfgC) (node:Int) (a g:Nat) (es:List El) (h:RIn w0 w B x node a g es) (hal:SndP.Allowed x.plain) (part port:Int) (hport:port≤9223372036854775807) :
 Calls Tryz.prog 53 #[rpv a,.int .i64 part,.int .i64 port] w (ReadPR w0 w B x node a g es port (readT x.plain node (elSt es) part port)):=by
 have HFi:=Lib.hid (zz3 w0 w B x node a g es h hal part port hport false)
 have HAt:=Lib.hid (fun W=>zc5 10 port W (by omega) hport)
 unfold readT
 obtain ⟨o,ho⟩:∃ o,findT x.plain node part port false=o:=⟨_,rfl⟩
 rw [ho] at HFi ⊢
 cases o with
 | some k=>
  simp only
  have HEnd:Hid (∀ W,Below w.heap.size w W→ReadPR w0 w B x node a g es port (([],false,some k),elSt es) (.returned (.tuple #[.slice none 0 0,.bool false,strV (errO (some k) port)])) W):=Lib.hid fun W hW=>⟨none,0,rfl,⟨Bytes.none_,fun h0=>absurd h0 (by simp)⟩,LeftR.same h hW⟩
  have hT:=zv1 k port
  clear h hal ho HAt
  unfold errO strV rpv at *
  go_enter Tryz.func53,Tryz.ntmps53
  go_wp2_with fail
  refine HFi.out.mono ?_
  rintro e w1 ⟨rfl,hb⟩
  have HF:=Lib.hid (HEnd.out w1 hb)
  clear hb HFi HEnd
  go_wp2_with fail
  go_ret3
  exact HF.out
 | none=>
  obtain ⟨i,p,rfl,hp,-,-,-⟩:=zz4 ho
  simp only [Int.toNat_natCast,hp]
  obtain ⟨e,he⟩:=h.el hp
  rw [zD0 he]
  simp only
  have hlt:=h.qlt hp
  have hq24:=h.q24 hal
  have hiz:(i:Int) < (x.qn:Int):=by omega
  have HB1:Hid (∀ W,Below w.heap.size w W→RIn w0 W B x node a g es):=Lib.hid fun W hW=>h.below hW
  have hs0:strV (errO none (i:Int)) = .string ⟨#[]⟩:=rfl
  have hm4:=(h.els.ok e (List.mem_of_getElem? he)).1
  have Hei:=Lib.hid he
  rw [show e.ps.msgs=e.msgs.map Prod.snd from rfl,show e.ps.age=e.age from rfl]
  unfold rpv at *
  rw [hs0] at HFi
  clear ho
  cases hms:e.msgs with
  | nil=>
   simp only [List.map_nil]
   have HEnd:Hid (∀ W,Below w.heap.size w W→ReadPR w0 w B x node a g es i (([],false,some 10),elSt es) (.returned (.tuple #[.slice none 0 0,.bool false,strV (atT 10 i)])) W):=Lib.hid fun W hW=>⟨none,0,rfl,⟨Bytes.none_,fun h0=>absurd h0 (by simp)⟩,LeftR.same h hW⟩
   unfold strV at *
   clear h hal hp he
   go_enter Tryz.func53,Tryz.ntmps53
   go_wp2_with fail
   refine HFi.out.mono ?_
   rintro e2 w1 ⟨rfl,hb⟩
   have hr1:=HB1.out w1 hb
   have k12:=za0 hr1.hd 12 rfl
   have kV:w1.cell? ⟨g,i * 2,none⟩=some e.v:=hr1.els.cellV Hei.out
   obtain ⟨Ae,ce,hve,-⟩:=(hr1.els.each e (List.mem_of_getElem? Hei.out)).seg.slice
   rw [hve,hms] at kV
   simp only [List.length_nil] at kV
   have Hb:=Lib.hid hb
   clear hr1 hve hb HFi HB1 hms
   go_wp2_with fail
   refine (HAt.out _).mono ?_
   rintro e2 w2 ⟨rfl,hb2⟩
   have HF:=Lib.hid (HEnd.out w2 (Hb.out.trans (hb2.mono Hb.out.size)))
   clear hb2 HEnd HAt
   go_wp2_with fail
   go_ret3
   exact HF.out
  | cons t r=>
   simp only [List.map_cons]
   have ht:e.msgs[0]? = some t:=by rw [hms];rfl
   obtain ⟨bQ,oQ,hQA,hQ⟩:=h.portAt hp
   have HQ:Hid (∀ W,Below w.heap.size w W→PortAt W bQ (oQ + i * 6) p):=Lib.hid fun W hW=>by
    obtain ⟨b',o',e1,e2⟩:=(h.below hW).portAt hp
    rw [hQA] at e1
    injection e1 with e1
    injection e1 with e1 e3
    subst e1 e3
    exact e2
   have hk:p.kind=1∨p.kind≠1:=by omega
   rcases hk with hk | hk
   ·rw [if_pos hk]
    obtain ⟨bV,oV,cV,D,cc,hve,-,htt⟩:=h.txtAt he ht
    have HEnd:Hid (∀ W,Below w.heap.size w W→ReadPR w0 w B x node a g es i ((t.2,decide ((e.age:Int)≤p.fresh),none),elSt es) (.returned (.tuple #[.slice D t.2.length cc,.bool (decide ((e.age:Int)≤p.fresh)),strV []])) W):=Lib.hid fun W hW=>ReadPR.kept h hW he (by rw [← htt];exact List.mem_of_getElem? ht) _
    have q1:(((p.kind:Nat):Int) == 1)=true:=by rw [hk];rfl
    have hml:e.msgs.length=r.length + 1:=by rw [hms];rfl
    have HT:Hid (∀ W,Below w.heap.size w W→W.cell? ⟨bV,oV,none⟩=some (.slice D t.2.length cc)):=Lib.hid fun W hW=>by
     obtain ⟨b',o',c',D',cc',e1,e2,e3⟩:=(h.below hW).txtAt he ht
     rw [hve] at e1
     injection e1 with e1
     injection e1 with e1
     injection e1 with e4 e5
     rw [htt] at e3
     injection e3 with e6 e7
     injection e6 with e8 e9 e10
     subst e4 e5 e8 e10
     rw [Nat.add_zero] at e2
     exact e2
    unfold strV at *
    clear h hal hp he ht htt HAt hms hk hQ
    go_enter Tryz.func53,Tryz.ntmps53
    go_wp2_with fail
    refine HFi.out.mono ?_
    rintro e2 w1 ⟨rfl,hb⟩
    have hr1:=HB1.out w1 hb
    have k9:=za0 hr1.hd 9 rfl
    rw [hQA] at k9
    have k12:=za0 hr1.hd 12 rfl
    have kV:w1.cell? ⟨g,i * 2,none⟩=some e.v:=hr1.els.cellV Hei.out
    have kA:w1.cell? ⟨g,i * 2 + 1,none⟩=some (.int .i64 (e.age:Nat)):=hr1.els.cellA Hei.out
    rw [hve,hml] at kV
    have kT:=HT.out w1 hb
    have hQ1:=HQ.out w1 hb
    have kK:=hQ1.c1
    have kF:=hQ1.c5
    have HF:Hid (∀ m,_):=Lib.hid fun m=>HEnd.out (w1.drewN m) (hb.trans (zc1 (Below.refl _ _) m))
    clear hr1 hve hb HFi HB1 HEnd HT HQ hQ1 hQA hml hm4
    generalize p.kind=kind at *
    generalize e.age=age at *
    generalize hfr:decide ((age:Int)≤p.fresh)=fr at *
    generalize t.2.length=tl at *
    generalize x.qn=qn at *
    go_wp2_with fail
    go_quiet (fail)
    go_wp2_with fail
    go_ret3
    exact HF.out _
   ·rw [if_neg hk]
    obtain ⟨bV,oV,cV,D,cc,hve,-,htt⟩:=h.txtAt he ht
    obtain ⟨TA,hTA⟩:∃ TA:Addr,(if cV=1 then (⟨bV,oV,none⟩:Addr) else ⟨bV,oV + 1 * 1,none⟩)=TA:=⟨_,rfl⟩
    have hsl:∀ W,(Instr.slice 128 (.slice (some ⟨bV,oV,none⟩) (r.length + 1) cV) (some (.int .i64 1)) none none).run Tryz.prog W = .ok (.slice (some TA) r.length (cV - 1)) W:=fun W=>by
     have h1:=zi0 (P:=Tryz.prog) W 128 89 1 Tryz.underlying128 (fun w=>by kernel_rfl) bV oV (r.length + 1) cV 1 1 rfl (by omega)
     rw [hTA,Nat.add_sub_cancel] at h1
     exact h1
    have hml:e.msgs.length=r.length + 1:=by rw [hms];rfl
    have HEnd:Hid (∀ W,Below w.heap.size w W→ReadPR w0 w B x node a g es i ((t.2,true,none),(elSt es).set i ⟨r.map Prod.snd,e.age⟩) (.returned (.tuple #[.slice D t.2.length cc,.bool true,strV []])) (W.setCell ⟨g,i * 2,none⟩ (.slice (some TA) r.length (cV - 1)))):=Lib.hid fun W hW=>by
     have h1:=h.below hW
     have hl:=h1.els.each e (List.mem_of_getElem? he)
     rw [hve,hms] at hl
     have hl2:=LIn.tail zk4 hl
     rw [hTA] at hl2
     have hs1:=h1.els.setV (by decide) (by decide) he (Apart.refl _ W) hl2 (fun hz=>absurd hz (by decide)) (fun q hq=>.inl (by
      rw [hve]
      rw [← hTA] at hq
      split at hq<;>exact hq)) (fun y hy=>.inl (by rw [hms];exact List.mem_cons_of_mem _ hy)) (by
      have h4:=h1.els.ok e (List.mem_of_getElem? he)
      rw [hms] at h4
      exact ⟨by have:=h4.1;simp only [List.length_cons] at this;omega,fun y hy=>h4.2.1 y (List.mem_cons_of_mem _ hy)⟩)
     have h2:=h1.set he hs1
     have hrow:=(h1.els.each e (List.mem_of_getElem? he)).rows t (List.mem_of_getElem? ht)
     rw [htt] at hrow
     have hrow2:=za3 hrow (Apart.setCell (F:=fun q=>q=g) (Apart.refl _ W) (p:=⟨g,i * 2,none⟩) (.inl rfl) (.slice (some TA) r.length (cV - 1))) (fun q hq=>zb2 hrow h1.els.row (by decide) q hq)
     refine ⟨D,cc,rfl,zm5 hrow2,_,h2,(Goes.of_below hW _ _).trans hs1.2,?_⟩
     rw [zj3];rfl
    have q1:(((p.kind:Nat):Int) == 1)=false:=by rw [beq_eq_false_iff_ne];omega
    have HT:Hid (∀ W,Below w.heap.size w W→W.cell? ⟨bV,oV,none⟩=some (.slice D t.2.length cc)):=Lib.hid fun W hW=>by
     obtain ⟨b',o',c',D',cc',e1,e2,e3⟩:=(h.below hW).txtAt he ht
     rw [hve] at e1
     injection e1 with e1
     injection e1 with e1
     injection e1 with e4 e5
     rw [htt] at e3
     injection e3 with e6 e7
     injection e6 with e8 e9 e10
     subst e4 e5 e8 e10
     rw [Nat.add_zero] at e2
     exact e2
    unfold strV at *
    clear h hal hp he ht htt HAt hms hk hQ
    go_enter Tryz.func53,Tryz.ntmps53
    go_wp2_with fail
    refine HFi.out.mono ?_
    rintro e2 w1 ⟨rfl,hb⟩
    have hr1:=HB1.out w1 hb
    have k9:=za0 hr1.hd 9 rfl
    rw [hQA] at k9
    have k12:=za0 hr1.hd 12 rfl
    have kV:w1.cell? ⟨g,i * 2,none⟩=some e.v:=hr1.els.cellV Hei.out
    rw [hve,hml] at kV
    have fV:w1.frozen? ⟨g,i * 2,none⟩=false:=hr1.els.free _
    have kT:=HT.out w1 hb
    have hQ1:=HQ.out w1 hb
    have kK:=hQ1.c1
    have HF:=Lib.hid (HEnd.out w1 hb)
    clear hr1 hve hb HFi HB1 HEnd HT HQ hQ1 hQA hml hm4 hTA
    generalize p.kind=kind at *
    generalize e.age=age at *
    generalize t.2.length=tl at *
    generalize x.qn=qn at *
    go_wp2_with fail
    go_ret3
    exact HF.out
end Go.Proofs.YtfgpfmhjnccccaaGreatDoor
