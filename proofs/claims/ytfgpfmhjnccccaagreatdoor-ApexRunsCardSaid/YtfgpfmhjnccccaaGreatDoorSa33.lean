import Derived.Test.YtfgpfmhjnccccaaGreatDoorSa32
namespace Go.Proofs.YtfgpfmhjnccccaaGreatDoor
open Go.RowKit
set_option maxRecDepth 100000
theorem RIn.low9 {w0 W:World} {B B':Nat} {x:CfgC} {node:Int} {a g:Nat} {es:List El} (h:RIn w0 W B x node a g es) (hb:B'≤B) (h0:w0.heap.size≤B'):RIn w0 W B' x node a g es:=
 ⟨h.hd,⟨h.els.row,h.els.pres,fun e he=>(h.els.each e he).low hb,h.els.apart,fun hz=>absurd hz (by decide),Nat.le_trans hb h.els.base,h.els.ok⟩,h.len,Nat.le_trans hb h.base,h0,h.tab,h.cfg⟩
structure N9 (w W0 W:World) (B:Nat) (x:CfgC) (node:Nat) (op:Option (Nat × Nat × List El)) (ot:Option Nat) (om:Option (Nat × Value × Value)) (oc ob:Option Nat):Prop where
 box:BoxS w x W
 below:Below W0.heap.size W0 W
 lowB:B≤W0.heap.size
 cfg:CfgIn w x
 wB:w.heap.size≤B
 por:∀ q,op=some q→RIn w W B x (node:Int) q.1 q.2.1 q.2.2∧elSt q.2.2=PorP.start x.plain∧∀ k,EF q.2.1 q.2.2 k→W0.heap.size≤k
 tab:∀ q,ot=some q→RefT W q RepP.new 0
 mon:∀ q,om=some q→RMem W B q.1 node (.slice x.PA x.pn x.pcap) q.2.1 q.2.2 (.slice none 0 0) x.parts (HeaP.Mon.start x.parts.length)∧∀ k,RFd q.1 q.2.1 q.2.2 (.slice none 0 0) k→W0.heap.size≤k
 cmd:∀ q,oc=some q→W.heap[q]? = some (.cells #[.int .u8 0,.int .u8 0,.int .u16 0,.int .u16 0] 51 (0,0))∧W0.heap.size≤q
 hst:∀ q,ob=some q→W.heap[q]? = some (.cells #[.pointer none,.pointer none,.pointer none,.pointer none] 53 (0,0))∧W0.heap.size≤q
section
variable {w W0 W W':World} {B node:Nat} {x:CfgC} {op:Option (Nat × Nat × List El)} {ot:Option Nat} {om:Option (Nat × Value × Value)} {oc ob:Option Nat}
theorem N9.step (r:N9 w W0 W B x node op ot om oc ob) (hb:Below W.heap.size W W'):N9 w W0 W' B x node op ot om oc ob:=
 ⟨r.box.step hb,r.below.trans (hb.mono r.below.size),r.lowB,r.cfg,r.wB,fun q e=>⟨(r.por q e).1.below hb,(r.por q e).2⟩,fun q e=>(r.tab q e).below hb,fun q e=>⟨(r.mon q e).1.keep hb,(r.mon q e).2⟩,fun q e=>⟨(hb.block _ (lt_of_block (r.cmd q e).1)).trans (r.cmd q e).1,(r.cmd q e).2⟩,fun q e=>⟨(hb.block _ (lt_of_block (r.hst q e).1)).trans (r.hst q e).1,(r.hst q e).2⟩⟩
theorem N9.start (hb:BoxS w x W0) (hB:B≤W0.heap.size) (hc:CfgIn w x) (hw:w.heap.size≤B):N9 w W0 W0 B x node none none none none none:=
 ⟨hb,Below.refl _ _,hB,hc,hw,fun _ e=>(by cases e),fun _ e=>(by cases e),fun _ e=>(by cases e),fun _ e=>(by cases e),fun _ e=>(by cases e)⟩
theorem N9.leB (r:N9 w W0 W B x node op ot om oc ob):B≤W.heap.size:=Nat.le_trans r.lowB r.below.size
theorem N9.addT (r:N9 w W0 W B x node op none om oc ob):N9 w W0 (W.alloc (.cells #[.int .u16 0,.int .u16 0,.int .u16 0,.int .u16 0,.int .u16 0,.int .u16 0,.int .u16 0,.int .u16 0,.bool false,.bool false,.bool false,.bool false,.bool false,.bool false,.bool false,.bool false,.int .i64 0] 46)) B x node op (some W.heap.size) om oc ob:=by
 have r1:=r.step ((Below.refl _ W).alloc (Nat.le_refl _) (.cells #[.int .u16 0,.int .u16 0,.int .u16 0,.int .u16 0,.int .u16 0,.int .u16 0,.int .u16 0,.int .u16 0,.bool false,.bool false,.bool false,.bool false,.bool false,.bool false,.bool false,.bool false,.int .i64 0] 46))
 exact { r1 with tab:=fun q e=>by obtain rfl:=Option.some.inj e;exact RefT.new W }
theorem N9.addC (r:N9 w W0 W B x node op ot om none ob):N9 w W0 (W.alloc (.cells #[.int .u8 0,.int .u8 0,.int .u16 0,.int .u16 0] 51)) B x node op ot om (some W.heap.size) ob:=by
 have r1:=r.step ((Below.refl _ W).alloc (Nat.le_refl _) (.cells #[.int .u8 0,.int .u8 0,.int .u16 0,.int .u16 0] 51))
 exact { r1 with cmd:=fun q e=>by obtain rfl:=Option.some.inj e;exact ⟨newAt _ _,r.below.size⟩ }
theorem N9.addH (r:N9 w W0 W B x node op ot om oc none):N9 w W0 (W.alloc (.cells #[.pointer none,.pointer none,.pointer none,.pointer none] 53)) B x node op ot om oc (some W.heap.size):=by
 have r1:=r.step ((Below.refl _ W).alloc (Nat.le_refl _) (.cells #[.pointer none,.pointer none,.pointer none,.pointer none] 53))
 exact { r1 with hst:=fun q e=>by obtain rfl:=Option.some.inj e;exact ⟨newAt _ _,r.below.size⟩ }
theorem N9.new (r:N9 w W0 W B x node none ot om oc ob) (hq:x.qn≤24):Calls Tryz.prog 7 #[x.value,.int .i64 (node:Nat)] W (fun e W'=>∃ a g es,e = .returned (.pointer (some ⟨a,0,none⟩))∧N9 w W0 W' B x node (some (a,g,es)) ot om oc ob):=by
 refine (rnew_any w W x (node:Int) r.cfg r.box.below hq).mono ?_
 rintro e W' ⟨a,g,es,rfl,h1,h2,h3,h4⟩
 have r1:=r.step h4
 refine ⟨a,g,es,rfl,{ r1 with por:=fun q e=>?_ }⟩
 obtain rfl:=Option.some.inj e
 exact ⟨h1.low9 r.leB r.wB,h2,fun k hk=>Nat.le_trans r.below.size (h3 k hk)⟩
theorem N9.watch (r:N9 w W0 W B x node op ot none oc ob) (hp:x.pn≤255):Calls Tryz.prog 8 #[.int .i64 (node:Nat),.slice x.PA x.pn x.pcap] W (fun e W'=>∃ q vl vw,e = .returned (.pointer (some ⟨q,0,none⟩))∧N9 w W0 W' B x node op ot (some (q,vl,vw)) oc ob):=by
 refine (zJ6 W B node x.PA x.pn x.pcap x.parts r.cfg.plen hp r.leB ⟨x.PA,x.pcap,by rw [r.cfg.plen],(r.cfg.below r.box.below).parts,fun k h0 hk=>.inl ?_⟩).mono ?_
 ·obtain ⟨b,off,hA,hlt,-⟩:=r.cfg.parts h0
  rw [hA] at hk
  obtain rfl:b=k:=by simpa [blockOf] using hk
  exact Nat.lt_of_lt_of_le hlt r.wB
 ·rintro e W' ⟨q,vl,vw,rfl,h1,h2,h3,h4⟩
  have r1:=r.step h4
  refine ⟨q,vl,vw,rfl,{ r1 with mon:=fun q e=>?_ }⟩
  obtain rfl:=Option.some.inj e
  exact ⟨h1,fun k hk=>Nat.le_trans r.below.size (h3 k hk)⟩
theorem N9.fin {a g:Nat} {es:List El} {t q c b:Nat} {vl vw:Value} (r:N9 w W0 W B x node (some (a,g,es)) (some t) (some (q,vl,vw)) (some c) (some b)):DocNew w W0 (storeAll W b [.pointer (some ⟨a,0,none⟩),.pointer (some ⟨t,0,none⟩),.pointer (some ⟨q,0,none⟩),.pointer (some ⟨c,0,none⟩)] 0) B x node ⟨a,g,es,q,.slice x.PA x.pn x.pcap,vl,vw,.slice none 0 0,t,0,c⟩ b:=by
 have hA:=za1 b [.pointer (some ⟨a,0,none⟩),.pointer (some ⟨t,0,none⟩),.pointer (some ⟨q,0,none⟩),.pointer (some ⟨c,0,none⟩)] 0 W
 obtain ⟨h1,h2,h3⟩:=r.por _ rfl
 obtain ⟨m1,m2⟩:=r.mon _ rfl
 obtain ⟨c1,c2⟩:=r.cmd _ rfl
 obtain ⟨b1,b2⟩:=r.hst _ rfl
 have hd:DocIn w W B x node RepP.new ⟨a,g,es,q,.slice x.PA x.pn x.pcap,vl,vw,.slice none 0 0,t,0,c⟩ (PorP.start x.plain) (HeaP.Mon.start x.parts.length) ⟨0,0,0,0⟩:=
  ⟨h1,h2,m1,by have:=MonV.start (x.parts.map sayOf);rwa [List.length_map] at this,r.tab _ rfl,c1,by constructor<;>decide,Nat.le_trans r.lowB c2⟩
 refine ⟨hd.away hA (fun k hk e=>?_) (fun k e=>?_),?_,?_,r.below.trans (hA.below r.below.size (fun k e=>by subst e;exact b2))⟩
 ·subst e
  obtain ⟨-,cs,t',e1,e2,-⟩:=hd.fTag hk
  rw [b1] at e1
  simp only [Option.some.injEq,Obj.cells.injEq] at e1
  obtain ⟨-,rfl,-⟩:=e1
  exact zr1 e2
 ·subst e
  exact ⟨Nat.le_trans r.lowB b2,_,_,b1,by decide,by decide,by decide,by decide⟩
 ·have:=zd2 (t:=53) [.pointer (some ⟨a,0,none⟩),.pointer (some ⟨t,0,none⟩),.pointer (some ⟨q,0,none⟩),.pointer (some ⟨c,0,none⟩)] 0 W [] [.pointer none,.pointer none,.pointer none,.pointer none] b1 rfl rfl
  exact this
 ·intro k hk
  rcases hk with hk | hk | hk
  ·exact h3 k hk
  ·exact m2 k hk
  ·rw [hk];exact c2
end
section
variable {P:Program} {md:Region.Mode} {ops:Array Oper} {Q:Exit→Act→World→Prop} {S:World→Prop}
theorem name9 {fuel:Nat} {listed:Array Bool} {a:Act} {w:World} (h:∀ (G:Nat→Array Bool→Act→World→Prop) (a0:Act),G=wpAnyH P md ops Q S→a0=a→G fuel listed a0 w):wpAnyH P md ops Q S fuel listed a w:=h _ _ rfl rfl
theorem listed9 {fuel:Nat} {l l':Array Bool} {a:Act} {w:World} (e:l'=l) (h:wpAnyH P md ops Q S fuel l a w):wpAnyH P md ops Q S fuel l' a w:=by rw [e];exact h
end
end Go.Proofs.YtfgpfmhjnccccaaGreatDoor
