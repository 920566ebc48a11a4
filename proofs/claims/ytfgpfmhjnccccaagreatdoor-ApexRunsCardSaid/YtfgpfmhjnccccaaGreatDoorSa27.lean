import Derived.BigQuiet
import Derived.Lib.SliceRun
import Derived.Deep.Cut
import Derived.Test.YtfgpfmhjnccccaaGreatDoorSa26
import Derived.Test.YtfgpfmhjnccccaaGreatDoorSa25
namespace Go.Proofs.YtfgpfmhjnccccaaGreatDoor
open Go.RowKit
set_option maxRecDepth 100000
def StepP (w:World) (B:Nat) (c:TableP.Cfg) (node:Nat) (rec:List (List Nat)) (T:RepP.T) (h:HostC) (pb part:Nat) (budget:Int) (wv:Value) (r:((ApeP.Res × Option Nat) × Int) × ApeP.AS) (e:Ending) (w':World):Prop:=
 ∃ y v h',e = .returned (.tuple #[resV y,.int .i64 r.1.2,v])∧y.plain=ApeP.showT r.1.1∧w'.ownsRow B 5 1 (.slice y.A y.data.length y.cap) y.data.length (bytesV y.data)∧ErrE w' r.1.1.2 v∧HostIn w' B c node rec T h' r.2.ports r.2.mon r.2.cmd∧PartIn w' B pb part budget wv r.2.mem∧Went w h wv h' w'
theorem StepP.of {w W:World} {B:Nat} {c:TableP.Cfg} {node:Nat} {rec:List (List Nat)} {T:RepP.T} {h:HostC} {pb part:Nat} {budget:Int} {wv:Value} {r:((ApeP.Res × Option Nat) × Int) × ApeP.AS} {y:ResC} {v:Value} {q:(ApeP.Res × Option Nat) × ApeP.AS} (hd:DoP w B c node rec T h pb part budget wv q (.returned (.tuple #[resV y,v])) W) (left:Int) (hq1:q.1.1=ApeP.showT r.1.1) (hq2:q.1.2=r.1.1.2) (hq3:q.2=r.2) (hl:r.1.2=left):StepP w B c node rec T h pb part budget wv r (.returned (.tuple #[resV y,.int .i64 left,v])) W:=by
 obtain ⟨y',v',h',e,h1,h2,h3,h4,h5,h6⟩:=hd
 simp only [Ending.returned.injEq,Value.tuple.injEq,Array.mk.injEq,List.cons.injEq,and_true] at e
 obtain ⟨e1,rfl⟩:=e
 rw [hq1] at h1
 rw [hq2] at h3
 rw [hq3] at h4 h5
 refine ⟨y',v,h',?_,h1,h2,h3,h4,h5,h6⟩
 rw [e1,hl]
set_option maxHeartbeats 4000000 in
theorem step_any {w:World} {B:Nat} {c:TableP.Cfg} {node:Nat} {rec:List (List Nat)} {T:RepP.T} {h:HostC} {s:ApeP.AS} {pb part:Nat} {budget:Int} {wv:Value} (hh:HostIn w B c node rec T h s.ports s.mon s.cmd) (hp:PartIn w B pb part budget wv s.mem) (ha:SndP.Allowed c) (hB:B≤w.heap.size) (hB0:0 < B) (hg:HasType w) (hT:∀ i v,RepP.tat T i=some v→v < 65536) (x:OpC) (hx:OpOk w x) (hbb:DatB w B x.D x.data) (left:Int) (hl1:-9223372036854775808≤left) (hl2:left≤9223372036854775807) :
 Calls Tryz.prog 30 #[.pointer (some ⟨pb,0,none⟩),hostV h,opV x,.int .i64 left] w (StepP w B c node rec T h pb part budget wv (ApeP.stepG (ApeP.opP c node part T) left s x.plain)):=by
 have hcp:=ApeP.cost_pos x.plain
 have HX:=Lib.hid hx
 have HBb:=Lib.hid hbb
 obtain ⟨xk,xp,xa,xb,xc,xD,xm,xcap,xd⟩:=x
 have hb0:Below w.heap.size w (((w.alloc (.cells #[.pointer (some ⟨h.x.a,0,none⟩),.pointer (some ⟨h.tb,0,none⟩),.pointer (some ⟨h.mb,0,none⟩),.pointer (some ⟨h.cb,0,none⟩)] 36)).alloc (.cells #[.int .u8 (xk:Nat),.int .i64 xp,.int .i64 xa,.int .i64 xb,.int .i64 xc,.slice xD xm xcap] 91)).alloc (.cells #[.int .i64 0,.int .i64 0,.slice none 0 0,.bool false] 94)):=(((Below.refl _ _).alloc (Nat.le_refl _) _).alloc (by simp) _).alloc (by simp;omega) _
 unfold hostV opV
 simp only
 generalize hW0:(((w.alloc (.cells #[.pointer (some ⟨h.x.a,0,none⟩),.pointer (some ⟨h.tb,0,none⟩),.pointer (some ⟨h.mb,0,none⟩),.pointer (some ⟨h.cb,0,none⟩)] 36)).alloc (.cells #[.int .u8 (xk:Nat),.int .i64 xp,.int .i64 xa,.int .i64 xb,.int .i64 xc,.slice xD xm xcap] 91)).alloc (.cells #[.int .i64 0,.int .i64 0,.slice none 0 0,.bool false] 94))=W0 at *
 have hH:W0.heap[w.heap.size]? = some (.cells #[.pointer (some ⟨h.x.a,0,none⟩),.pointer (some ⟨h.tb,0,none⟩),.pointer (some ⟨h.mb,0,none⟩),.pointer (some ⟨h.cb,0,none⟩)] 36 (0,0)):=by rw [← hW0,allocAt _ _ _ (by simp;omega),allocAt _ _ _ (by simp)];exact newAt _ _
 have hO:W0.heap[w.heap.size + 1]? = some (.cells #[.int .u8 (xk:Nat),.int .i64 xp,.int .i64 xa,.int .i64 xb,.int .i64 xc,.slice xD xm xcap] 91 (0,0)):=by rw [← hW0,allocAt _ _ _ (by simp)];exact newAt1 _ _ _
 have hR:W0.heap[w.heap.size + 2]? = some (.cells #[.int .i64 0,.int .i64 0,.slice none 0 0,.bool false] 94 (0,0)):=by
  rw [← hW0]
  have:=newAt ((w.alloc (.cells #[.pointer (some ⟨h.x.a,0,none⟩),.pointer (some ⟨h.tb,0,none⟩),.pointer (some ⟨h.mb,0,none⟩),.pointer (some ⟨h.cb,0,none⟩)] 36)).alloc (.cells #[.int .u8 (xk:Nat),.int .i64 xp,.int .i64 xa,.int .i64 xb,.int .i64 xc,.slice xD xm xcap] 91)) (.cells #[.int .i64 0,.int .i64 0,.slice none 0 0,.bool false] 94)
  simpa using this
 have HE0:=Lib.hid hW0
 have HC1:Hid (Calls Tryz.prog 45 #[.agg #[.int .u8 (xk:Nat),.int .i64 xp,.int .i64 xa,.int .i64 xb,.int .i64 xc,.slice xD xm xcap]] W0 (fun e w'=>e = .returned (.int .i64 (ApeP.costT (⟨xk,xp,xa,xb,xc,xD,xm,xcap,xd⟩:OpC).plain))∧Below W0.heap.size W0 w')):=Lib.hid (cost_any ⟨xk,xp,xa,xb,xc,xD,xm,xcap,xd⟩ W0)
 have hcell:∀ W,Below W0.heap.size W0 W→W.heap[w.heap.size]? = some (.cells #[.pointer (some ⟨h.x.a,0,none⟩),.pointer (some ⟨h.tb,0,none⟩),.pointer (some ⟨h.mb,0,none⟩),.pointer (some ⟨h.cb,0,none⟩)] 36 (0,0))∧W.heap[w.heap.size + 1]? = some (.cells #[.int .u8 (xk:Nat),.int .i64 xp,.int .i64 xa,.int .i64 xb,.int .i64 xc,.slice xD xm xcap] 91 (0,0))∧W.heap[w.heap.size + 2]? = some (.cells #[.int .i64 0,.int .i64 0,.slice none 0 0,.bool false] 94 (0,0)):=fun W hW=>⟨(hW.block _ (lt_of_block hH)).trans hH,(hW.block _ (lt_of_block hO)).trans hO,(hW.block _ (lt_of_block hR)).trans hR⟩
 have HCell:=Lib.hid hcell
 have Hb0:=Lib.hid hb0
 have HHh:=Lib.hid hh
 have HPp:=Lib.hid hp
 have HG:=Lib.hid hg
 by_cases hc:left < ApeP.costT (⟨xk,xp,xa,xb,xc,xD,xm,xcap,xd⟩:OpC).plain
 ·have hst:ApeP.stepG (ApeP.opP c node part T) left s (⟨xk,xp,xa,xb,xc,xD,xm,xcap,xd⟩:OpC).plain=(((ApeP.Res.zero,some 151),0),s):=if_pos hc
  rw [hst]
  have q1:decide (left < ApeP.costT (⟨xk,xp,xa,xb,xc,xD,xm,xcap,xd⟩:OpC).plain)=true:=decide_eq_true hc
  have HF:Hid (∀ w2 W,Below w.heap.size w w2→w2.heap[w.heap.size + 2]? = some (.cells #[.int .i64 0,.int .i64 0,.slice none 0 0,.bool false] 94 (0,0))→Apart (fun k=>k=w.heap.size + 2) w2 W→StepP w B c node rec T h pb part budget wv (((ApeP.Res.zero,some 151),0),s) (.returned (.tuple #[.agg #[.int .i64 151,.int .i64 0,.slice none 0 0,.bool false],.int .i64 0,.iface 92 (.int .i64 151)])) W):=Lib.hid fun w2 W g1 g2 g3=>by
   have hm:MidP w B c node rec T h pb part budget wv ((ApeP.showT (ApeP.Res.zero,some 151),some 151),s) ⟨151,0,none,0,[],false⟩ (.iface 92 (.int .i64 151)) w2:=⟨h,rfl,ze1 _ _,ErrE.errno _ 151 _ rfl,HHh.out.below g1,HPp.out.below g1,Went.of_below g1 h wv⟩
   exact StepP.of (hm.fin g2 (by omega) g3 rfl) 0 rfl rfl rfl rfl
  generalize ApeP.costT (⟨xk,xp,xa,xb,xc,xD,xm,xcap,xd⟩:OpC).plain=cst at *
  clear hh hp ha hB hT hx hbb hcell hH hO hR hb0 hW0 hc hst hcp hg HX HBb
  go_enter Tryz.func30,Tryz.ntmps30
  go_wp2_with fail
  rw [HE0.out]
  refine HC1.out.mono ?_
  rintro e w1 ⟨rfl,hb1⟩
  have hb01:=Hb0.out.trans (hb1.mono Hb0.out.size)
  have HFl:=Lib.hid (zs7 w1 151 (.iface 92 (.int .i64 151)) (ErrE.errno _ 151 _ rfl) (HG.out.keep (hb01.block 0 HG.out.pos)))
  have Hb01:=Lib.hid hb01
  have Hc1:=Lib.hid (HCell.out w1 hb1).2.2
  clear hb1 hb01 HC1 HCell
  go_wp2_with fail
  refine HFl.out.mono ?_
  rintro e w2 ⟨rfl,hb2⟩
  have hbz:=(hb2.block _ (lt_of_block Hc1.out)).trans Hc1.out
  have Hb02:=Lib.hid (Hb01.out.trans (hb2.mono Hb01.out.size))
  have Hbz:=Lib.hid hbz
  have k0:=za0 hbz 0 rfl
  have k1:=za0 hbz 1 rfl
  have k2:=za0 hbz 2 rfl
  have k3:=za0 hbz 3 rfl
  have f:=fun i=>za2 hbz i
  clear hbz hb2 HFl
  simp only [resV,codeR,List.length_nil]
  go_wp2_with fail
  clear k0 k1 k2 k3 f
  show bodyPost _ _ _ _ _ (storeAll (w2) (w.heap.size + 2) [.int .i64 151,.int .i64 0,.slice none 0 0,.bool false] 0)
  have hfin:=za4 Hbz.out rfl [.int .i64 151,.int .i64 0,.slice none 0 0,.bool false] rfl
  have HB:=Lib.hid (za1 (w.heap.size + 2) [.int .i64 151,.int .i64 0,.slice none 0 0,.bool false] 0 (w2))
  generalize storeAll (w2) (w.heap.size + 2) [.int .i64 151,.int .i64 0,.slice none 0 0,.bool false] 0=Wf at *
  have r0:=za0 hfin 0 rfl
  have r1:=za0 hfin 1 rfl
  have r2:=za0 hfin 2 rfl
  have r3:=za0 hfin 3 rfl
  refine bodyPost_ret (v:=.tuple #[.agg #[.int .i64 151,.int .i64 0,.slice none 0 0,.bool false],.int .i64 0,.iface 92 (.int .i64 151)]) (by simp [results,Tryz.results30,go_sem,r0,r1,r2,r3]) rfl ?_
  exact HF.out _ _ Hb02.out Hbz.out HB.out
 ·have hst:ApeP.stepG (ApeP.opP c node part T) left s (⟨xk,xp,xa,xb,xc,xD,xm,xcap,xd⟩:OpC).plain=(((ApeP.opP c node part T s (⟨xk,xp,xa,xb,xc,xD,xm,xcap,xd⟩:OpC).plain).1,left - ApeP.costT (⟨xk,xp,xa,xb,xc,xD,xm,xcap,xd⟩:OpC).plain),(ApeP.opP c node part T s (⟨xk,xp,xa,xb,xc,xD,xm,xcap,xd⟩:OpC).plain).2):=if_neg hc
  rw [hst]
  have q1:decide (left < ApeP.costT (⟨xk,xp,xa,xb,xc,xD,xm,xcap,xd⟩:OpC).plain)=false:=decide_eq_false hc
  have q3:IntKind.i64.wrap (left - ApeP.costT (⟨xk,xp,xa,xb,xc,xD,xm,xcap,xd⟩:OpC).plain)=left - ApeP.costT (⟨xk,xp,xa,xb,xc,xD,xm,xcap,xd⟩:OpC).plain:=IntWalk.i64_in _ (by omega)
  have HD:Hid (∀ W,Below W0.heap.size W0 W→Calls Tryz.prog 47 #[.pointer (some ⟨pb,0,none⟩),.agg #[.pointer (some ⟨h.x.a,0,none⟩),.pointer (some ⟨h.tb,0,none⟩),.pointer (some ⟨h.mb,0,none⟩),.pointer (some ⟨h.cb,0,none⟩)],.agg #[.int .u8 (xk:Nat),.int .i64 xp,.int .i64 xa,.int .i64 xb,.int .i64 xc,.slice xD xm xcap]] W (DoP W B c node rec T h pb part budget wv (ApeP.opP c node part T s (⟨xk,xp,xa,xb,xc,xD,xm,xcap,xd⟩:OpC).plain))):=Lib.hid fun W hW=>by
   have hw:=hb0.trans (hW.mono hb0.size)
   exact do_any (hh.below hw) (hp.below hw) ha (Nat.le_trans hB hw.size) hT ⟨xk,xp,xa,xb,xc,xD,xm,xcap,xd⟩ (hx.below hw) (hbb.below16 hw)
  have HTo:Hid (∀ W W2 (y:ResC) (v:Value) (h':HostC),Below W0.heap.size W0 W→(y.plain=(ApeP.opP c node part T s (⟨xk,xp,xa,xb,xc,xD,xm,xcap,xd⟩:OpC).plain).1.1∧W2.ownsRow B 5 1 (.slice y.A y.data.length y.cap) y.data.length (bytesV y.data)∧ErrE W2 (ApeP.opP c node part T s (⟨xk,xp,xa,xb,xc,xD,xm,xcap,xd⟩:OpC).plain).1.2 v∧HostIn W2 B c node rec T h' (ApeP.opP c node part T s (⟨xk,xp,xa,xb,xc,xD,xm,xcap,xd⟩:OpC).plain).2.ports (ApeP.opP c node part T s (⟨xk,xp,xa,xb,xc,xD,xm,xcap,xd⟩:OpC).plain).2.mon (ApeP.opP c node part T s (⟨xk,xp,xa,xb,xc,xD,xm,xcap,xd⟩:OpC).plain).2.cmd∧PartIn W2 B pb part budget wv (ApeP.opP c node part T s (⟨xk,xp,xa,xb,xc,xD,xm,xcap,xd⟩:OpC).plain).2.mem∧Went W h wv h' W2)→TouchA B W W2∧Went w h wv h' W2∧W2.heap[w.heap.size + 2]? = some (.cells #[.int .i64 0,.int .i64 0,.slice none 0 0,.bool false] 94 (0,0))∧HasType W2):=Lib.hid fun W W2 y v h' hW hq=>by
   have hw:=hb0.trans (hW.mono hb0.size)
   have ht:=hq.2.2.2.2.2.touch (hh.below hw) (hp.below hw)
   exact ⟨ht,(Went.of_below hw h wv).trans hq.2.2.2.2.2,ht.off (hcell W hW).2.2 zm6,HasType.kept (hg.keep (hw.block 0 hg.pos)) hB0 (ht.below (Nat.le_trans hB hw.size))⟩
  generalize ApeP.costT (⟨xk,xp,xa,xb,xc,xD,xm,xcap,xd⟩:OpC).plain=cst at *
  generalize ApeP.opP c node part T s (⟨xk,xp,xa,xb,xc,xD,xm,xcap,xd⟩:OpC).plain=rr at *
  clear hh hp ha hB hT hx hbb hcell hH hO hR hb0 hW0 hc hst hcp hg HX HBb hl1 hl2
  go_enter Tryz.func30,Tryz.ntmps30
  go_wp2_with fail
  rw [HE0.out]
  refine HC1.out.mono ?_
  rintro e w1 ⟨rfl,hb1⟩
  have HDo:=Lib.hid (HD.out w1 hb1)
  have HTo1:=Lib.hid (fun W2 y v h' hq=>HTo.out w1 W2 y v h' hb1 hq)
  have ho1:=(HCell.out w1 hb1).2.1
  have hh1:=(HCell.out w1 hb1).1
  have a0:=za0 ho1 0 rfl
  have a1:=za0 ho1 1 rfl
  have a2:=za0 ho1 2 rfl
  have a3:=za0 ho1 3 rfl
  have a4:=za0 ho1 4 rfl
  have a5:=za0 ho1 5 rfl
  have b0:=za0 hh1 0 rfl
  have b1:=za0 hh1 1 rfl
  have b2:=za0 hh1 2 rfl
  have b3:=za0 hh1 3 rfl
  clear hb1 HC1 HCell HD HTo ho1 hh1
  go_wp2_with fail
  clear a0 a1 a2 a3 a4 a5 b0 b1 b2 b3
  refine HDo.out.mono ?_
  rintro e w2 ⟨y,v,h',rfl,hq⟩
  obtain ⟨ht2,hwn2,hz2,hg2⟩:=HTo1.out w2 y v h' hq
  obtain ⟨hy,hown,herr,hh2,hp2,-⟩:=hq
  obtain ⟨yc,yv,yA,ycap,yd,yf⟩:=y
  simp only at hown
  have hb3:Below w2.heap.size w2 (w2.alloc (.cells #[.int .i64 (yc:Nat),.int .i64 yv,.slice yA yd.length ycap,.bool yf] 94)):=(Below.refl _ _).alloc (Nat.le_refl _) _
  have hY3:(w2.alloc (.cells #[.int .i64 (yc:Nat),.int .i64 yv,.slice yA yd.length ycap,.bool yf] 94)).heap[w2.heap.size]? = some (.cells #[.int .i64 (yc:Nat),.int .i64 yv,.slice yA yd.length ycap,.bool yf] 94 (0,0)):=newAt _ _
  have hlo:w.heap.size + 2 < w2.heap.size:=lt_of_block hz2
  cases hcs:rr.1.2 with
  | none=>
   rw [hcs] at herr
   obtain rfl:=herr.isNil.2 rfl
   have hbz:=(hb3.block _ (lt_of_block hz2)).trans hz2
   have HF:Hid (∀ W,Apart (fun k=>k=w.heap.size + 2) (w2.alloc (.cells #[.int .i64 (yc:Nat),.int .i64 yv,.slice yA yd.length ycap,.bool yf] 94)) W→StepP w B c node rec T h pb part budget wv ((rr.1,left - cst),rr.2) (.returned (.tuple #[.agg #[.int .i64 (yc:Nat),.int .i64 yv,.slice yA yd.length ycap,.bool yf],.int .i64 (left - cst),.nilIface])) W):=Lib.hid fun W g3=>by
    have hm:MidP w B c node rec T h pb part budget wv rr ⟨yc,yv,yA,ycap,yd,yf⟩ .nilIface (w2.alloc (.cells #[.int .i64 (yc:Nat),.int .i64 yv,.slice yA yd.length ycap,.bool yf] 94)):=⟨h',hy,za3 hown (Apart.of_below' (F:=fun _=>False) hb3) (fun _ _ h=>h),by rw [hcs];exact ErrE.none_ _,hh2.below hb3,hp2.below hb3,hwn2.trans (Went.of_below hb3 h' wv)⟩
    exact StepP.of (hm.fin hbz (by omega) g3 rfl) _ (by show rr.1.1=ApeP.showT rr.1;unfold ApeP.showT;rw [hcs]) rfl rfl rfl
   have Hbz:=Lib.hid hbz
   have k0:=za0 hbz 0 rfl
   have k1:=za0 hbz 1 rfl
   have k2:=za0 hbz 2 rfl
   have k3:=za0 hbz 3 rfl
   have f:=fun i=>za2 hbz i
   have y0:=za0 hY3 0 rfl
   have y1:=za0 hY3 1 rfl
   have y2:=za0 hY3 2 rfl
   have y3:=za0 hY3 3 rfl
   clear hbz hY3 hb3 hlo hz2 hg2 hy hown herr hh2 hp2 hwn2 ht2 HTo1 HDo hcs
   simp only [resV]
   go_wp2_with fail
   clear k0 k1 k2 k3 f y0 y1 y2 y3
   show bodyPost _ _ _ _ _ (storeAll (w2.alloc (.cells #[.int .i64 (yc:Nat),.int .i64 yv,.slice yA yd.length ycap,.bool yf] 94)) (w.heap.size + 2) [.int .i64 (yc:Nat),.int .i64 yv,.slice yA yd.length ycap,.bool yf] 0)
   have hfin:=za4 Hbz.out rfl [.int .i64 (yc:Nat),.int .i64 yv,.slice yA yd.length ycap,.bool yf] rfl
   have HB:=Lib.hid (za1 (w.heap.size + 2) [.int .i64 (yc:Nat),.int .i64 yv,.slice yA yd.length ycap,.bool yf] 0 (w2.alloc (.cells #[.int .i64 (yc:Nat),.int .i64 yv,.slice yA yd.length ycap,.bool yf] 94)))
   generalize storeAll (w2.alloc (.cells #[.int .i64 (yc:Nat),.int .i64 yv,.slice yA yd.length ycap,.bool yf] 94)) (w.heap.size + 2) [.int .i64 (yc:Nat),.int .i64 yv,.slice yA yd.length ycap,.bool yf] 0=Wf at *
   have r0:=za0 hfin 0 rfl
   have r1:=za0 hfin 1 rfl
   have r2:=za0 hfin 2 rfl
   have r3:=za0 hfin 3 rfl
   refine bodyPost_ret (v:=.tuple #[.agg #[.int .i64 (yc:Nat),.int .i64 yv,.slice yA yd.length ycap,.bool yf],.int .i64 (left - cst),.nilIface]) (by simp [results,Tryz.results30,go_sem,r0,r1,r2,r3]) rfl ?_
   exact HF.out _ HB.out
  | some k=>
   rw [hcs] at herr
   have HFl:=Lib.hid (zs7 (w2.alloc (.cells #[.int .i64 (yc:Nat),.int .i64 yv,.slice yA yd.length ycap,.bool yf] 94)) k v (herr.below hb3) (hg2.keep (hb3.block 0 hg2.pos)))
   have hform:(∃ m,v = .iface 92 (.int .i64 m))∨∃ b,v = .iface 190 (.pointer (some ⟨b,0,none⟩)):=by
    obtain ⟨l,t,e1,-,-,e2⟩:=herr
    rcases zb4 l t with e3 | e3 | e3
    ·rw [← zh3,e2] at e3
     cases e3
    ·exact .inl (by rw [e1];exact e3)
    ·exact .inr (by rw [e1];exact e3)
   have HF:Hid (∀ w4 W,Below (w2.heap.size + 1) (w2.alloc (.cells #[.int .i64 (yc:Nat),.int .i64 yv,.slice yA yd.length ycap,.bool yf] 94)) w4→Apart (fun k=>k=w.heap.size + 2) ((((w4.setCell ⟨w2.heap.size,0,none⟩ (.int .i64 (k:Nat))).setCell ⟨w2.heap.size,1,none⟩ (.int .i64 0)).setCell ⟨w2.heap.size,2,none⟩ (.slice none 0 0)).setCell ⟨w2.heap.size,3,none⟩ (.bool false)) W→StepP w B c node rec T h pb part budget wv ((rr.1,left - cst),rr.2) (.returned (.tuple #[.agg #[.int .i64 (k:Nat),.int .i64 0,.slice none 0 0,.bool false],.int .i64 (left - cst),v])) W):=Lib.hid fun w4 W g1 g3=>by
    have hb4:Below w2.heap.size w2 w4:=hb3.trans (g1.mono (by simp))
    have ha5:Apart (fun j=>j=w2.heap.size) w4 ((((w4.setCell ⟨w2.heap.size,0,none⟩ (.int .i64 (k:Nat))).setCell ⟨w2.heap.size,1,none⟩ (.int .i64 0)).setCell ⟨w2.heap.size,2,none⟩ (.slice none 0 0)).setCell ⟨w2.heap.size,3,none⟩ (.bool false)):=za1 w2.heap.size [.int .i64 (k:Nat),.int .i64 0,.slice none 0 0,.bool false] 0 w4
    have hb5:Below w2.heap.size w2 ((((w4.setCell ⟨w2.heap.size,0,none⟩ (.int .i64 (k:Nat))).setCell ⟨w2.heap.size,1,none⟩ (.int .i64 0)).setCell ⟨w2.heap.size,2,none⟩ (.slice none 0 0)).setCell ⟨w2.heap.size,3,none⟩ (.bool false)):=zd0 hb4 ha5
    have hbz5:=(hb5.block _ (lt_of_block hz2)).trans hz2
    have hm:MidP w B c node rec T h pb part budget wv ((ApeP.showT rr.1,some k),rr.2) ⟨k,0,none,0,[],false⟩ v ((((w4.setCell ⟨w2.heap.size,0,none⟩ (.int .i64 (k:Nat))).setCell ⟨w2.heap.size,1,none⟩ (.int .i64 0)).setCell ⟨w2.heap.size,2,none⟩ (.slice none 0 0)).setCell ⟨w2.heap.size,3,none⟩ (.bool false)):=⟨h',by unfold ApeP.showT;rw [hcs];rfl,ze1 _ _,herr.below hb5,hh2.below hb5,hp2.below hb5,hwn2.trans (Went.of_below hb5 h' wv)⟩
    exact StepP.of (hm.fin hbz5 (by omega) g3 rfl) _ rfl hcs.symm rfl rfl
   have Hz2:=Lib.hid hz2
   have Hb3:=Lib.hid hb3
   have HY3:=Lib.hid hY3
   have Hlo:=Lib.hid hlo
   have y0:=za0 hY3 0 rfl
   have y1:=za0 hY3 1 rfl
   have y2:=za0 hY3 2 rfl
   have y3:=za0 hY3 3 rfl
   clear hY3 hb3 hlo hz2 hg2 hy hown herr hh2 hp2 hwn2 ht2 HTo1 HDo hcs
   simp only [resV]
   rcases hform with ⟨m,rfl⟩ | ⟨fb,rfl⟩
   ·go_wp2_with fail
    clear y0 y1 y2 y3
    refine HFl.out.mono ?_
    rintro e w4 ⟨rfl,hb4⟩
    have hg1:Below (w2.heap.size + 1) (w2.alloc (.cells #[.int .i64 (yc:Nat),.int .i64 yv,.slice yA yd.length ycap,.bool yf] 94)) w4:=by simpa using hb4
    have hx4:=(hb4.block _ (by simp)).trans HY3.out
    have hz4:=(hb4.block _ (by have:=Hlo.out;simp;omega)).trans ((Hb3.out.block _ Hlo.out).trans Hz2.out)
    have ha5:Apart (fun j=>j=w2.heap.size) w4 ((((w4.setCell ⟨w2.heap.size,0,none⟩ (.int .i64 (k:Nat))).setCell ⟨w2.heap.size,1,none⟩ (.int .i64 0)).setCell ⟨w2.heap.size,2,none⟩ (.slice none 0 0)).setCell ⟨w2.heap.size,3,none⟩ (.bool false)):=za1 w2.heap.size [.int .i64 (k:Nat),.int .i64 0,.slice none 0 0,.bool false] 0 w4
    have hx5:((((w4.setCell ⟨w2.heap.size,0,none⟩ (.int .i64 (k:Nat))).setCell ⟨w2.heap.size,1,none⟩ (.int .i64 0)).setCell ⟨w2.heap.size,2,none⟩ (.slice none 0 0)).setCell ⟨w2.heap.size,3,none⟩ (.bool false)).heap[w2.heap.size]? = some (.cells #[.int .i64 (k:Nat),.int .i64 0,.slice none 0 0,.bool false] 94 (0,0)):=za4 hx4 rfl [.int .i64 (k:Nat),.int .i64 0,.slice none 0 0,.bool false] rfl
    have hbz:=(ha5.block _ (lt_of_block hz4) (by have:=Hlo.out;omega)).trans hz4
    have m0:=za0 hx4 0 rfl
    have m1:=za0 hx4 1 rfl
    have m2:=za0 hx4 2 rfl
    have m3:=za0 hx4 3 rfl
    have fx:=fun i=>za2 hx4 i
    have n0:=za0 hx5 0 rfl
    have n1:=za0 hx5 1 rfl
    have n2:=za0 hx5 2 rfl
    have n3:=za0 hx5 3 rfl
    have Hbz:=Lib.hid hbz
    have k0:=za0 hbz 0 rfl
    have k1:=za0 hbz 1 rfl
    have k2:=za0 hbz 2 rfl
    have k3:=za0 hbz 3 rfl
    have f:=fun i=>za2 hbz i
    have HF1:=Lib.hid (HF.out w4)
    have Hg1:=Lib.hid hg1
    clear hb4 hg1 hx4 hz4 ha5 hx5 hbz HFl HF
    simp only [resV,codeR,List.length_nil]
    go_wp2_with fail
    clear k0 k1 k2 k3 f m0 m1 m2 m3 fx n0 n1 n2 n3
    show bodyPost _ _ _ _ _ (storeAll (((((w4.setCell ⟨w2.heap.size,0,none⟩ (.int .i64 (k:Nat))).setCell ⟨w2.heap.size,1,none⟩ (.int .i64 0)).setCell ⟨w2.heap.size,2,none⟩ (.slice none 0 0)).setCell ⟨w2.heap.size,3,none⟩ (.bool false))) (w.heap.size + 2) [.int .i64 (k:Nat),.int .i64 0,.slice none 0 0,.bool false] 0)
    have hfin:=za4 Hbz.out rfl [.int .i64 (k:Nat),.int .i64 0,.slice none 0 0,.bool false] rfl
    have HB:=Lib.hid (za1 (w.heap.size + 2) [.int .i64 (k:Nat),.int .i64 0,.slice none 0 0,.bool false] 0 (((((w4.setCell ⟨w2.heap.size,0,none⟩ (.int .i64 (k:Nat))).setCell ⟨w2.heap.size,1,none⟩ (.int .i64 0)).setCell ⟨w2.heap.size,2,none⟩ (.slice none 0 0)).setCell ⟨w2.heap.size,3,none⟩ (.bool false))))
    generalize storeAll (((((w4.setCell ⟨w2.heap.size,0,none⟩ (.int .i64 (k:Nat))).setCell ⟨w2.heap.size,1,none⟩ (.int .i64 0)).setCell ⟨w2.heap.size,2,none⟩ (.slice none 0 0)).setCell ⟨w2.heap.size,3,none⟩ (.bool false))) (w.heap.size + 2) [.int .i64 (k:Nat),.int .i64 0,.slice none 0 0,.bool false] 0=Wf at *
    have r0:=za0 hfin 0 rfl
    have r1:=za0 hfin 1 rfl
    have r2:=za0 hfin 2 rfl
    have r3:=za0 hfin 3 rfl
    refine bodyPost_ret (v:=.tuple #[.agg #[.int .i64 (k:Nat),.int .i64 0,.slice none 0 0,.bool false],.int .i64 (left - cst),.iface 92 (.int .i64 m)]) (by simp [results,Tryz.results30,go_sem,r0,r1,r2,r3]) rfl ?_
    exact HF1.out _ Hg1.out HB.out
   ·go_wp2_with fail
    clear y0 y1 y2 y3
    refine HFl.out.mono ?_
    rintro e w4 ⟨rfl,hb4⟩
    have hg1:Below (w2.heap.size + 1) (w2.alloc (.cells #[.int .i64 (yc:Nat),.int .i64 yv,.slice yA yd.length ycap,.bool yf] 94)) w4:=by simpa using hb4
    have hx4:=(hb4.block _ (by simp)).trans HY3.out
    have hz4:=(hb4.block _ (by have:=Hlo.out;simp;omega)).trans ((Hb3.out.block _ Hlo.out).trans Hz2.out)
    have ha5:Apart (fun j=>j=w2.heap.size) w4 ((((w4.setCell ⟨w2.heap.size,0,none⟩ (.int .i64 (k:Nat))).setCell ⟨w2.heap.size,1,none⟩ (.int .i64 0)).setCell ⟨w2.heap.size,2,none⟩ (.slice none 0 0)).setCell ⟨w2.heap.size,3,none⟩ (.bool false)):=za1 w2.heap.size [.int .i64 (k:Nat),.int .i64 0,.slice none 0 0,.bool false] 0 w4
    have hx5:((((w4.setCell ⟨w2.heap.size,0,none⟩ (.int .i64 (k:Nat))).setCell ⟨w2.heap.size,1,none⟩ (.int .i64 0)).setCell ⟨w2.heap.size,2,none⟩ (.slice none 0 0)).setCell ⟨w2.heap.size,3,none⟩ (.bool false)).heap[w2.heap.size]? = some (.cells #[.int .i64 (k:Nat),.int .i64 0,.slice none 0 0,.bool false] 94 (0,0)):=za4 hx4 rfl [.int .i64 (k:Nat),.int .i64 0,.slice none 0 0,.bool false] rfl
    have hbz:=(ha5.block _ (lt_of_block hz4) (by have:=Hlo.out;omega)).trans hz4
    have m0:=za0 hx4 0 rfl
    have m1:=za0 hx4 1 rfl
    have m2:=za0 hx4 2 rfl
    have m3:=za0 hx4 3 rfl
    have fx:=fun i=>za2 hx4 i
    have n0:=za0 hx5 0 rfl
    have n1:=za0 hx5 1 rfl
    have n2:=za0 hx5 2 rfl
    have n3:=za0 hx5 3 rfl
    have Hbz:=Lib.hid hbz
    have k0:=za0 hbz 0 rfl
    have k1:=za0 hbz 1 rfl
    have k2:=za0 hbz 2 rfl
    have k3:=za0 hbz 3 rfl
    have f:=fun i=>za2 hbz i
    have HF1:=Lib.hid (HF.out w4)
    have Hg1:=Lib.hid hg1
    clear hb4 hg1 hx4 hz4 ha5 hx5 hbz HFl HF
    simp only [resV,codeR,List.length_nil]
    go_wp2_with fail
    clear k0 k1 k2 k3 f m0 m1 m2 m3 fx n0 n1 n2 n3
    show bodyPost _ _ _ _ _ (storeAll (((((w4.setCell ⟨w2.heap.size,0,none⟩ (.int .i64 (k:Nat))).setCell ⟨w2.heap.size,1,none⟩ (.int .i64 0)).setCell ⟨w2.heap.size,2,none⟩ (.slice none 0 0)).setCell ⟨w2.heap.size,3,none⟩ (.bool false))) (w.heap.size + 2) [.int .i64 (k:Nat),.int .i64 0,.slice none 0 0,.bool false] 0)
    have hfin:=za4 Hbz.out rfl [.int .i64 (k:Nat),.int .i64 0,.slice none 0 0,.bool false] rfl
    have HB:=Lib.hid (za1 (w.heap.size + 2) [.int .i64 (k:Nat),.int .i64 0,.slice none 0 0,.bool false] 0 (((((w4.setCell ⟨w2.heap.size,0,none⟩ (.int .i64 (k:Nat))).setCell ⟨w2.heap.size,1,none⟩ (.int .i64 0)).setCell ⟨w2.heap.size,2,none⟩ (.slice none 0 0)).setCell ⟨w2.heap.size,3,none⟩ (.bool false))))
    generalize storeAll (((((w4.setCell ⟨w2.heap.size,0,none⟩ (.int .i64 (k:Nat))).setCell ⟨w2.heap.size,1,none⟩ (.int .i64 0)).setCell ⟨w2.heap.size,2,none⟩ (.slice none 0 0)).setCell ⟨w2.heap.size,3,none⟩ (.bool false))) (w.heap.size + 2) [.int .i64 (k:Nat),.int .i64 0,.slice none 0 0,.bool false] 0=Wf at *
    have r0:=za0 hfin 0 rfl
    have r1:=za0 hfin 1 rfl
    have r2:=za0 hfin 2 rfl
    have r3:=za0 hfin 3 rfl
    refine bodyPost_ret (v:=.tuple #[.agg #[.int .i64 (k:Nat),.int .i64 0,.slice none 0 0,.bool false],.int .i64 (left - cst),.iface 190 (.pointer (some ⟨fb,0,none⟩))]) (by simp [results,Tryz.results30,go_sem,r0,r1,r2,r3]) rfl ?_
    exact HF1.out _ Hg1.out HB.out
open Go.RowKit
set_option maxRecDepth 100000
theorem kind_has {o:Option Nat} {k:Nat} (h:ApeP.kindOf o=some k):decide ((151:Int)∈numsO o)=decide (k=0):=by
 cases o with
 | none=>cases h
 | some n=>
  unfold ApeP.kindOf HeaP.kindT at h
  simp only [List.mem_singleton,List.cons_ne_nil,if_false] at h
  unfold numsO
  simp only [List.mem_singleton]
  by_cases h1:151=n
  ·subst h1
   rw [if_pos rfl] at h
   obtain rfl:=Option.some.inj h
   rfl
  ·rw [if_neg h1] at h
   have hk:k≠0:=by
    repeat' split at h
    all_goals first | (cases h;done) | (obtain rfl:=Option.some.inj h;decide)
   rw [decide_eq_false (by omega),decide_eq_false hk]
def ReportP (w:World) (B:Nat) (c:TableP.Cfg) (node:Nat) (rec:List (List Nat)) (T:RepP.T) (h:HostC) (pb part:Nat) (budget:Int) (wv:Value) (sp:PorP.St) (cmd:RepP.Cmd) (mem:List Nat) (r:(Nat × Bool) × HeaP.Mon) (e:Ending) (w':World):Prop:=
 ∃ h',e = .returned (.tuple #[.int .u8 (r.1.1:Nat),.bool r.1.2])∧HostIn w' B c node rec T h' sp r.2 cmd∧PartIn w' B pb part budget wv mem∧Went w h wv h' w'
set_option maxHeartbeats 4000000 in
theorem zK4 {w:World} {B:Nat} {c:TableP.Cfg} {node:Nat} {rec:List (List Nat)} {T:RepP.T} {h:HostC} {sp:PorP.St} {m:HeaP.Mon} {cmd:RepP.Cmd} {pb part:Nat} {budget:Int} {wv:Value} {mem:List Nat} (hh:HostIn w B c node rec T h sp m cmd) (hp:PartIn w B pb part budget wv mem) (_hB:B≤w.heap.size) (hn:rec.length≤255) (round:Nat) (o:Option Nat) (v:Value) (he:ErrE w o v) :
 Calls Tryz.prog 31 #[.pointer (some ⟨pb,0,none⟩),.pointer (some ⟨h.mb,0,none⟩),.int .u32 (round:Nat),v] w (ReportP w B c node rec T h pb part budget wv sp cmd mem (ApeP.tellG rec node part round m o)):=by
 obtain ⟨l,t,rfl,hl,hin,hc⟩:=he
 have HK:=Lib.hid (zN3 w.heap.size l t w (by omega) (Nat.le_refl _) hin)
 rw [hc,zF1] at HK
 cases hk:ApeP.kindOf o with
 | none=>
  rw [hk] at HK
  rw [show ApeP.tellG rec node part round m o=((0,false),m) by unfold ApeP.tellG;rw [hk]]
  have HF:Hid (∀ W,Below w.heap.size w W→ReportP w B c node rec T h pb part budget wv sp cmd mem ((0,false),m) (.returned (.tuple #[.int .u8 0,.bool false])) W):=Lib.hid fun W hW=>⟨h,rfl,hh.below hW,hp.below hW,Went.of_below hW h wv⟩
  clear hh hp hin hc hk
  generalize errV l t=v at *
  go_enter Tryz.func31,Tryz.ntmps31
  go_wp2_with fail
  refine HK.out.mono ?_
  rintro e w1 ⟨rfl,hb1⟩
  have HX:=Lib.hid (HF.out w1 hb1)
  clear hb1 HK HF
  simp only [kindV,Option.getD_none,Option.isSome_none]
  go_wp2_with fail
  go_ret2
  exact HX.out
 | some k=>
  rw [hk] at HK
  rw [show ApeP.tellG rec node part round m o=(((HeaP.reportT rec node m round part k).1.1,decide ((HeaP.reportT rec node m round part k).1.2≠0∨(HeaP.reportT rec node m round part k).1.1≠0∨k=0)),(HeaP.reportT rec node m round part k).2) by unfold ApeP.tellG;rw [hk]]
  have hkh:=kind_has hk
  have HR:Hid (∀ W,Below w.heap.size w W→Calls Tryz.prog 49 #[.pointer (some ⟨h.mb,0,none⟩),.int .u32 (round:Nat),.int .i64 (part:Nat),.int .u8 (k:Nat)] W (fun e w2=>e = .returned (.tuple #[.int .u8 ((HeaP.reportT rec node m round part k).1.1:Nat),errH (HeaP.reportT rec node m round part k).1.2])∧∃ h',HostIn w2 B c node rec T h' sp (HeaP.reportT rec node m round part k).2 cmd∧PartIn w2 B pb part budget wv mem∧Went w h wv h' w2∧ErrIn w2 t w2.heap.size l)):=Lib.hid fun W hW=>by
   have hhW:=hh.below hW
   refine (zB1 W B h.mb node rec m h.vp h.vr hhW.mon round (part:Nat) k hn).mono ?_
   rintro e w2 ⟨rfl,vr',h4,h5,h6⟩
   obtain ⟨h',g1,g2,g3⟩:=hhW.toMon h4 h5 h6
   have hpW:=hp.below hW
   have ht:=(g2 wv).touch hhW hpW
   refine ⟨rfl,h',g1,hpW.beside hhW g3,(Went.of_below hW h wv).trans (g2 wv),?_⟩
   obtain ⟨F,t1,t2⟩:=ht
   refine (zq7 t1 (fun q hq=>?_) (hin.below hW (Nat.le_refl _))).mono (Nat.le_trans hW.size t1.size)
   obtain ⟨-,cs,t',e1,e2⟩:=t2 q hq
   exact ⟨cs,t',e1,fun e=>tag_fault (by rw [← e];exact e2)⟩
  have HH:Hid (∀ W,ErrIn W t W.heap.size l→Calls Tryz.prog 50 #[errV l t,.int .i64 151] W (fun e w'=>e = .returned (.bool (decide (k=0)))∧Below W.heap.size W w')):=Lib.hid fun W hW=>by
   have h1:=zM8 W.heap.size l t 151 W (by omega) (Nat.le_refl _) hW
   rw [hc,hkh] at h1
   exact h1
  have kp:∀ W,Below w.heap.size w W→W.cell? ⟨pb,0,none⟩=some (.int .i64 (part:Nat)):=fun W hW=>za0 (hp.below hW).hd 0 rfl
  have HKp:=Lib.hid kp
  generalize HeaP.reportT rec node m round part k=rr at *
  clear hh hp hin hc hk hkh kp
  obtain ⟨⟨rd,rc⟩,rm⟩:=rr
  simp only at HR ⊢
  generalize errV l t=v at *
  go_enter Tryz.func31,Tryz.ntmps31
  go_wp2_with fail
  refine HK.out.mono ?_
  rintro e w1 ⟨rfl,hb1⟩
  have HR1:=Lib.hid (HR.out w1 hb1)
  have kp:=HKp.out w1 hb1
  clear hb1 HK HR HKp
  simp only [kindV,Option.getD_some,Option.isSome_some]
  go_wp2_with fail
  refine HR1.out.mono ?_
  rintro e w2 ⟨rfl,h',g1,g2,g3,g4⟩
  have HH2:=Lib.hid (HH.out w2 g4)
  have HF:Hid (∀ b W,Below w2.heap.size w2 W→b=decide (rc≠0∨rd≠0∨k=0)→ReportP w B c node rec T h pb part budget wv sp cmd mem ((rd,decide (rc≠0∨rd≠0∨k=0)),rm) (.returned (.tuple #[.int .u8 (rd:Nat),.bool b])) W):=Lib.hid fun b W hW hb=>by
   subst hb
   exact ⟨h',rfl,g1.below hW,g2.below hW,g3.trans (Went.of_below hW h' wv)⟩
  clear g1 g2 g3 g4 HR1 HH kp
  unfold errH
  by_cases hd:rd=0
  ·subst hd
   by_cases hrc:rc=0
   ·subst hrc
    have HF1:=Lib.hid (fun W hW=>HF.out (decide (k=0)) W hW (by simp))
    clear HF
    simp only [if_true,errV]
    go_wp2_with fail
    refine HH2.out.mono ?_
    rintro e w3 ⟨rfl,hb3⟩
    have HX:=Lib.hid (HF1.out w3 hb3)
    clear hb3 HF1 HH2
    go_wp2_with fail
    go_ret2
    exact HX.out
   ·have HX:=Lib.hid (HF.out true w2 (Below.refl _ _) (by simp [hrc]))
    have e1:errV [] (if rc=0 then none else some (rc:Int)) = .iface 92 (.int .i64 (rc:Nat)):=by rw [if_neg hrc];rfl
    rw [e1]
    clear HF e1 hrc HH2
    go_wp2_with fail
    go_ret2
    exact HX.out
  ·have HX:=Lib.hid (HF.out true w2 (Below.refl _ _) (by simp [hd]))
   have q1:((rd:Int) != 0)=true:=by simp;omega
   have q2:(rd != 0)=true:=by simp;omega
   clear HF hd HH2
   generalize errV [] (if rc=0 then none else some (rc:Int))=ve at *
   go_wp2_with fail
   go_ret2
   exact HX.out
open Go.RowKit
set_option maxRecDepth 100000
structure OpsIn (W:World) (B:Nat) (A:Option Addr) (l:List OpC):Prop where
 items:ItemsIn opVals 6 W A l
 ok:∀ x∈l,OpOk W x
 bb:∀ x∈l,DatB W B x.D x.data
 blk:0 < l.length→∀ k,blockOf A=some k→∃ cs f,W.heap[k]? = some (.cells cs 91 f)
theorem OpOk.apart {F:Nat→Prop} {W W':World} {x:OpC} (h:OpOk W x) (ha:Apart F W W') (hF:0 < x.data.length→∀ k,blockOf x.D=some k→¬ F k):OpOk W' x:=
 ⟨h.kind,h.port,h.a,h.b,h.c,h.len,h.mcap,h.most,(h.bytes.apart0 ha (Nat.le_refl _) hF).more ha.size⟩
theorem zh4 {F:Nat→Prop} {W:World} {B k:Nat} {cs:Array Value} {t:TypeId} {f:Nat × Nat} (hT:∀ k,F k→B≤k∧∃ cs t,W.heap[k]? = some (.cells cs t (0,0))∧t≠5∧t≠91) (hk:W.heap[k]? = some (.cells cs t f)) (ht:t=5∨t=91):¬ F k:=fun hf=>by
 obtain ⟨-,cs',t',e1,e2,e3⟩:=hT _ hf
 rw [hk] at e1
 simp only [Option.some.injEq,Obj.cells.injEq] at e1
 obtain ⟨-,rfl,-⟩:=e1
 rcases ht with e | e
 ·exact e2 e
 ·exact e3 e
theorem DatB.not16 {F:Nat→Prop} {W:World} {B:Nat} {A:Option Addr} {l:List UInt8} (h:DatB W B A l) (hT:∀ k,F k→B≤k∧∃ cs t,W.heap[k]? = some (.cells cs t (0,0))∧t≠5∧t≠91):0 < l.length→∀ k,blockOf A=some k→¬ F k:=fun hl k hk hf=>by
 rcases h hl k hk with e | ⟨cs,f,e⟩
 ·have:=(hT k hf).1
  omega
 ·exact zh4 hT e (.inl rfl) hf
theorem DatB.apart {F:Nat→Prop} {W W':World} {B:Nat} {A:Option Addr} {l:List UInt8} (h:DatB W B A l) (ha:Apart F W W') (hT:∀ k,F k→B≤k∧∃ cs t,W.heap[k]? = some (.cells cs t (0,0))∧t≠5∧t≠91):DatB W' B A l:=fun hl k hk=>by
 rcases h hl k hk with e | ⟨cs,f,e⟩
 ·exact .inl e
 ·exact .inr ⟨cs,f,(ha.block k (lt_of_block e) (zh4 hT e (.inl rfl))).trans e⟩
theorem OpsIn.off {F:Nat→Prop} {W W':World} {B:Nat} {A:Option Addr} {l:List OpC} (h:OpsIn W B A l) (ha:Apart F W W') (hT:∀ k,F k→B≤k∧∃ cs t,W.heap[k]? = some (.cells cs t (0,0))∧t≠5∧t≠91):OpsIn W' B A l:=by
 refine ⟨h.items.apart ha (fun hl k hk=>?_),fun x hx=>(h.ok x hx).apart ha ((h.bb x hx).not16 hT),fun x hx=>(h.bb x hx).apart ha hT,fun hl k hk=>?_⟩
 ·obtain ⟨cs,f,e⟩:=h.blk hl k hk
  exact zh4 hT e (.inr rfl)
 ·obtain ⟨cs,f,e⟩:=h.blk hl k hk
  exact ⟨cs,f,(ha.block k (lt_of_block e) (zh4 hT e (.inr rfl))).trans e⟩
theorem OpsIn.below {W W':World} {B:Nat} {A:Option Addr} {l:List OpC} (h:OpsIn W B A l) (hb:Below W.heap.size W W'):OpsIn W' B A l:=h.off (F:=fun _=>False) (Apart.of_below' hb) fun _ h=>h.elim
theorem OpsIn.touch {W W':World} {A:Option Addr} {l:List OpC} {B:Nat} (h:OpsIn W B A l) (ht:TouchA B W W'):OpsIn W' B A l:=by
 obtain ⟨F,h1,h2⟩:=ht
 refine h.off h1 fun k hk=>?_
 obtain ⟨e0,cs,t,e1,e2⟩:=h2 k hk
 exact ⟨e0,cs,t,e1,fun e=>tag_u8 (by rw [← e];exact e2),fun e=>tag_op (by rw [← e];exact e2)⟩
structure OutA (W:World) (N B:Nat) (v:Value) (ys:List ResC):Prop where
 row:W.ownsRow N 94 4 v ys.length (itemsV resVals ys)
 data:∀ y∈ys,W.ownsRow B 5 1 (.slice y.A y.data.length y.cap) y.data.length (bytesV y.data)
theorem OutA.touch {W W':World} {N B B0:Nat} {v:Value} {ys:List ResC} (h:OutA W N B v ys) (ht:TouchA B0 W W'):OutA W' N B v ys:=⟨ht.own h.row zm6,fun y hy=>ht.own (h.data y hy) tag_u8⟩
theorem OutA.below {W W':World} {N B:Nat} {v:Value} {ys:List ResC} (h:OutA W N B v ys) (hb:Below W.heap.size W W'):OutA W' N B v ys:=h.touch (TouchA.of_below (B:=0) hb)
def hostCells (h:HostC):Array Value:=#[.pointer (some ⟨h.x.a,0,none⟩),.pointer (some ⟨h.tb,0,none⟩),.pointer (some ⟨h.mb,0,none⟩),.pointer (some ⟨h.cb,0,none⟩)]
structure AllI (w W:World) (B:Nat) (c:TableP.Cfg) (node:Nat) (rec:List (List Nat)) (T:RepP.T) (h:HostC) (pb part:Nat) (budget:Int) (wv:Value) (A:Option Addr) (l:List OpC) (st:ApeP.AS) (h':HostC) (out:Value) (ys:List ResC):Prop where
 host:HostIn W B c node rec T h' st.ports st.mon st.cmd
 part:PartIn W B pb part budget wv st.mem
 went:Went w h wv h' W
 out:OutA W w.heap.size B out ys
 ops:OpsIn W B A l
 type:HasType W
 box:W.heap[w.heap.size]? = some (.cells (hostCells h) 36 (0,0))
section
variable {w W W':World} {B:Nat} {c:TableP.Cfg} {node:Nat} {rec:List (List Nat)} {T:RepP.T} {h:HostC} {pb part:Nat} {budget:Int} {wv:Value} {A:Option Addr} {l:List OpC} {st st':ApeP.AS} {h' h2:HostC} {out out':Value} {ys ys':List ResC}
theorem AllI.size (ai:AllI w W B c node rec T h pb part budget wv A l st h' out ys):w.heap.size < W.heap.size:=lt_of_block ai.box
theorem AllI.below (ai:AllI w W B c node rec T h pb part budget wv A l st h' out ys) (hb:Below W.heap.size W W'):AllI w W' B c node rec T h pb part budget wv A l st h' out ys:=
 ⟨ai.host.below hb,ai.part.below hb,ai.went.trans (Went.of_below hb h' wv),ai.out.below hb,ai.ops.below hb,ai.type.keep (hb.block 0 ai.type.pos),(hb.block _ (lt_of_block ai.box)).trans ai.box⟩
theorem AllI.next (ai:AllI w W B c node rec T h pb part budget wv A l st h' out ys) (hB0:0 < B) (hB:B≤W.heap.size) (g1:HostIn W' B c node rec T h2 st'.ports st'.mon st'.cmd) (g2:PartIn W' B pb part budget wv st'.mem) (g3:Went W h' wv h2 W'):AllI w W' B c node rec T h pb part budget wv A l st' h2 out ys:=by
 have ht:=g3.touch ai.host ai.part
 exact ⟨g1,g2,ai.went.trans g3,ai.out.touch ht,ai.ops.touch ht,ai.type.kept hB0 (ht.below hB),ht.off ai.box zl7⟩
theorem AllI.res {F:Nat→Prop} (ai:AllI w W B c node rec T h pb part budget wv A l st h' out ys) (hB0:0 < B) (hBw:B≤w.heap.size) (ha:Apart F W W') (hF:∀ k,F k→w.heap.size≤k∧∃ cs,W.heap[k]? = some (.cells cs 94 (0,0))) (hrow:W'.ownsRow w.heap.size 94 4 out' ys'.length (itemsV resVals ys')) (hd:∀ y∈ys',W.ownsRow B 5 1 (.slice y.A y.data.length y.cap) y.data.length (bytesV y.data)):AllI w W' B c node rec T h pb part budget wv A l st h' out' ys':=by
 have hT:∀ k,F k→∃ cs t,W.heap[k]? = some (.cells cs t (0,0))∧t=94:=fun k hk=>by
  obtain ⟨-,cs,e⟩:=hF k hk
  exact ⟨cs,_,e,rfl⟩
 refine ⟨ai.host.away ha (fun k hk e=>?_) (fun k hk=>?_),ai.part.apart ha (fun e=>?_) (fun k hk e=>?_),⟨ai.went.apart.trans ha (fun i hi=>.inr (hF i hi).1),ai.went.f,ai.went.a,ai.went.mb,ai.went.tb,ai.went.cb,ai.went.pre⟩,⟨hrow,fun y hy=>za3 (hd y hy) ha (fun k hk e=>?_)⟩,ai.ops.off ha (fun k hk=>?_),ai.type.keep (ha.block 0 ai.type.pos (fun e=>?_)),(ha.block _ (lt_of_block ai.box) (fun e=>?_)).trans ai.box⟩
 ·obtain ⟨-,cs,e1⟩:=hF k e
  obtain ⟨-,cs',t,e2,e3,-⟩:=ai.host.fTag hk
  exact za5 e1 e2 (fun e=>zm6 (by rw [e];exact e3))
 ·obtain ⟨cs,t,e1,rfl⟩:=hT k hk
  exact ⟨cs,_,e1,by decide,by decide,by decide,by decide⟩
 ·obtain ⟨-,cs,e1⟩:=hF _ e
  exact za5 e1 ai.part.hd (by decide)
 ·obtain ⟨-,cs,e1⟩:=hF _ e
  obtain ⟨-,cs',e2⟩:=ai.part.fTag hk
  exact za5 e1 e2 (by decide)
 ·obtain ⟨-,cs,e1⟩:=hF _ e
  exact zb2 (hd y hy) e1 (by decide) k hk rfl
 ·obtain ⟨cs,t,e1,rfl⟩:=hT k hk
  exact ⟨Nat.le_trans hBw (hF k hk).1,cs,_,e1,by decide,by decide⟩
 ·have:=(hF 0 e).1
  omega
 ·obtain ⟨-,cs,e1⟩:=hF _ e
  exact za5 e1 ai.box (by decide)
end
theorem infoRes16:(Tryz.prog.info? 94).map (fun i=>(i.zero,i.size,i.bytes))=some (some (.agg #[.int .i64 0,.int .i64 0,.slice none 0 0,.bool false]),4,48):=by kernel_rfl
theorem zD2 (y:ResC):∀ u∈resVals y,u.oneCell'=true:=by
 intro u hu;simp [resVals] at hu;rcases hu with rfl | rfl | rfl | rfl<;>rfl
theorem zh5 {w0:World} {ops:Array Oper} {rest:List Oper} {o:Oper} {a:Act} {Q:Exit→Act→World→Prop} (hgd:o.guard=none) (s x:Operand)
 (ho:o.op = .call { callee:=.builtin .append,args:=#[s,x],argTypes:=#[71,71] }) (N:Nat) (v:Value) (ys:List ResC) (hs:a.eval s=v) (hown:w0.ownsRow N 94 4 v ys.length (itemsV resVals ys))
 (y:ResC) (cs:Array Value) (hcs:cs=(resVals y).toArray) (hx:a.eval x = .slice (some ⟨w0.heap.size,0,none⟩) 1 1) (hn:ys.length≤1000000000000) (hB:N≤w0.heap.size)
 (h:∀ v' w',w'.ownsRow N 94 4 v' (ys ++ [y]).length (itemsV resVals (ys ++ [y]))→Apart (fun k=>v.ownBlock=some k) w0 w'→wpList Tryz.prog ops Q rest (a.put o.dst v') w') :
 wpList Tryz.prog ops Q (o :: rest) a (w0.alloc (.cells cs 94)):=by
 subst hcs
 refine zb3 hgd s x 71 ho N 94 _ 4 48 Tryz.underlying71 infoRes16 rfl (by decide) v ys.length (itemsV resVals ys) hs (hown.alloc _) (some ⟨w0.heap.size,0,none⟩) 1 1 (resVals y) hx rfl
  (fun _=>⟨_,rfl,zk2 w0 _ (resVals y) w0.heap.size rfl⟩) (zD2 _) (by unfold maxLen;omega) (by omega) (by simp;omega) ?_
 intro v' w' h1 h2 _
 refine h v' w' ?_ (((Apart.refl _ w0).alloc _).trans h2 fun _ e=>.inl e)
 rw [List.length_append,zh0,zk1]
 exact h1
open Go.RowKit
set_option maxRecDepth 100000
theorem infoU16w:(Tryz.prog.info? 42).map (fun i=>(i.zero,i.size,i.bytes))=some (some (.int .u16 0),1,2):=by kernel_rfl
def WIn (W:World) (A:Option Addr) (l:List Nat):Prop:=0 < l.length→∃ b off,A=some ⟨b,off,none⟩∧b < W.heap.size∧∀ i v,l[i]? = some v→W.cell? ⟨b,off + i,none⟩=some (.int .u16 (v:Nat))
theorem WIn.below {W W':World} {A:Option Addr} {l:List Nat} (h:WIn W A l) (hb:Below W.heap.size W W'):WIn W' A l:=fun hl=>by
 obtain ⟨b,off,e,h1,h2⟩:=h hl
 exact ⟨b,off,e,Nat.lt_of_lt_of_le h1 hb.size,fun i v hv=>(hb.cell (p:=⟨b,off + i,none⟩) h1).trans (h2 i v hv)⟩
theorem zr0 {W:World} {B n:Nat} {v:Value} {l:List Nat} (h:W.ownsRow B 42 1 v n (wordV l)) (hn:l.length=n):∃ A cap,v = .slice A n cap∧WIn W A l:=by
 subst hn
 rcases h.2 with ⟨rfl,h0⟩ | ⟨g,cap,cur,rfl,hb,hg,hnc,_⟩
 ·rw [h0]
  exact ⟨none,0,rfl,fun hl=>by omega⟩
 ·refine ⟨_,cap,rfl,fun hl=>⟨g,0,rfl,lt_of_block hg,fun i v hv=>?_⟩⟩
  have hi:=(List.getElem?_eq_some_iff.1 hv).1
  rw [Nat.zero_add,h.cellAt i (by omega),ze6 hi,hv]
  rfl
def SameP (b:Bool) (w:World) (e:Ending) (w':World):Prop:=e = .returned (.bool b)∧Below w.heap.size w w'
def SmeR (w:World) (n:Nat) (l1 l2:List Nat) (vi:Value) (W:World):Prop:=∃ k,k≤n∧vi = .int .i64 (k:Nat)∧l1.take k=l2.take k∧Below w.heap.size w W
set_option maxHeartbeats 2000000 in
theorem zv5 (A1:Option Addr) (n1 c1:Nat) (l1:List Nat) (h1:l1.length=n1) (A2:Option Addr) (n2 c2:Nat) (l2:List Nat) (h2:l2.length=n2) (hn:n1≤1000000) (w:World) (hw1:WIn w A1 l1) (hw2:WIn w A2 l2) :
 Calls Tryz.prog 16 #[.slice A1 n1 c1,.slice A2 n2 c2] w (SameP (decide (l1=l2)) w):=by
 by_cases hne:n1=n2
 case neg=>
  have q1:((n1:Int) != (n2:Int))=true:=by rw [bne_iff_ne];omega
  have q2:(n1 != n2)=true:=by rw [bne_iff_ne];exact hne
  rw [decide_eq_false (fun e=>hne (by rw [← h1,← h2,e]))]
  clear hw1 hw2 h1 h2 hne
  go_enter Tryz.func16,Tryz.ntmps16
  go_wp2_with fail
  go_ret
  exact ⟨rfl,Below.refl _ _⟩
 subst hne
 have HW1:=Lib.hid hw1
 have HW2:=Lib.hid hw2
 have H1:=Lib.hid h1
 have H2:=Lib.hid h2
 have HN:=Lib.hid hn
 have HS0:Hid (SmeR w n1 l1 l2 (.int .i64 0) w):=Lib.hid ⟨0,Nat.zero_le _,rfl,by simp,Below.refl _ _⟩
 clear hw1 hw2 h1 h2 hn
 go_enter Tryz.func16,Tryz.ntmps16
 go_wp2_with fail
 go_loopw [5] (SmeR w n1 l1 l2) (fun i _=>(n1 + 1 - intOf i).toNat)
 case atStart=>exact HS0.out
 case round=>
  clear HS0
  obtain ⟨k,hk,rfl,htk,hb⟩:=hrel
  by_cases hlt:k < n1
  case neg=>
   have hkn:k=n1:=by omega
   have heq:l1=l2:=by
    have e1:=H1.out
    have e2:=H2.out
    rw [hkn] at htk
    rwa [List.take_of_length_le (by omega),List.take_of_length_le (by omega)] at htk
   have q1:decide ((k:Int) < (n1:Int))=false:=decide_eq_false (by omega)
   have q2:decide (k < n1)=false:=decide_eq_false hlt
   have HF:Hid (SameP (decide (l1=l2)) w (.returned (.bool true)) wr):=Lib.hid (by rw [decide_eq_true heq];exact ⟨rfl,hb⟩)
   clear hb htk heq hk hkn HW1 HW2
   go_wp2_with fail
   go_ret
   exact HF.out
  case pos=>
   have e1:=H1.out
   have e2:=H2.out
   have hN:=HN.out
   obtain ⟨x1,hx1⟩:∃ x,l1[k]? = some x:=⟨_,List.getElem?_eq_getElem (by omega)⟩
   obtain ⟨x2,hx2⟩:∃ x,l2[k]? = some x:=⟨_,List.getElem?_eq_getElem (by omega)⟩
   obtain ⟨b1,o1,rfl,hl1,hc1⟩:=(HW1.out.below hb) (by omega)
   obtain ⟨b2,o2,rfl,hl2,hc2⟩:=(HW2.out.below hb) (by omega)
   have k1:=hc1 k x1 hx1
   have k2:=hc2 k x2 hx2
   have q1:decide ((k:Int) < (n1:Int))=true:=decide_eq_true (by omega)
   have q2:decide (k < n1)=true:=decide_eq_true hlt
   have e8:IntKind.i64.wrap ((k:Int) + 1)=(k:Int) + 1:=IntWalk.i64_in _ (by omega)
   by_cases hx:x1=x2
   ·subst hx
    have b1:((x1:Int) != (x1:Int))=false:=by simp
    have HR:Hid (∀ j,SmeR w n1 l1 l2 (.int .i64 ((k:Int) + 1)) (wr.drewN j)):=Lib.hid fun j=>⟨k + 1,hlt,by go_num,by rw [List.take_add_one,List.take_add_one,htk,hx1,hx2],zb0 hb j⟩
    clear hc1 hc2 hx1 hx2 htk hb e1 e2 hN hl1 hl2
    go_wp2_with fail
    go_quiet (fail)
    go_wp2_with fail
    go_roundw
    case rel=>exact HR.out _
    case measure=>simp [intOf];omega
   ·have b1:((x1:Int) != (x2:Int))=true:=by rw [bne_iff_ne];omega
    have b2:(x1 != x2)=true:=by rw [bne_iff_ne];exact hx
    have HR:Hid (∀ j,SameP (decide (l1=l2)) w (.returned (.bool false)) (wr.drewN j)):=Lib.hid fun j=>by
     rw [decide_eq_false (fun e=>hx (by rw [e,hx2] at hx1;exact (Option.some.inj hx1).symm))]
     exact ⟨rfl,zb0 hb j⟩
    clear hc1 hc2 hx1 hx2 htk hb e1 e2 hN hl1 hl2 hx
    go_wp2_with fail
    go_quiet (fail)
    go_wp2_with fail
    go_ret
    exact HR.out _
def ClnW (w:World) (l:List Nat) (e:Ending) (w':World):Prop:=∃ v,e = .returned v∧w'.ownsRow w.heap.size 42 1 v l.length (wordV l)∧Below w.heap.size w w'
theorem wordV_one (l:List Nat):∀ u∈wordV l,u.oneCell'=true:=by
 intro u hu
 obtain ⟨v,-,rfl⟩:=List.mem_map.1 hu
 rfl
theorem WIn.news {W:World} {A:Option Addr} {l:List Nat} (h:WIn W A l) (hl:0 < l.length):∃ ad,A=some ad∧∀ j u,(wordV l)[j]? = some u→W.cell? (ad.add j)=some u:=by
 obtain ⟨b,off,rfl,-,h2⟩:=h hl
 refine ⟨_,rfl,fun j u hj=>?_⟩
 rw [zc4]
 have hlt:=(List.getElem?_eq_some_iff.1 hj).1
 rw [zi6] at hlt
 rw [ze6 hlt] at hj
 rw [h2 j _ (List.getElem?_eq_getElem hlt),← hj,List.getElem?_eq_getElem hlt]
 rfl
set_option maxHeartbeats 1000000 in
theorem zK5 (g n cap:Nat) (l:List Nat) (hl:l.length=n) (hn:n≤1000000) (w:World) (h:WIn w (some ⟨g,0,none⟩) l) :
 Calls Tryz.prog 38 #[.slice (some ⟨g,0,none⟩) n cap] w (ClnW w l):=by
 have Hb:=Lib.hid h
 have Hl:=Lib.hid hl
 have HO:=Lib.hid (World.ownsRow_lit (base:=w.heap.size) (e:=42) (size:=1) w #[] 0 (Nat.le_refl _) (by unfold maxLen;omega) rfl)
 have HB1:=Lib.hid (fun o=>(Below.refl w.heap.size w).alloc (Nat.le_refl _) o)
 have kn:=fun W=>Lib.run_eql_slice_nil (P:=Tryz.prog) W 62 42 (some ⟨g,0,none⟩) n cap 0 0 Tryz.underlying62
 simp only [Option.isNone_some] at kn
 clear h hl
 go_enter Tryz.func38,Tryz.ntmps38
 go_wp2_with (at_builtin
              refine zb3 rfl (.tmp 5) (.tmp 6) _ rfl w.heap.size 42 _ 1 2 Tryz.underlying62 infoU16w rfl (by decide) _ 0 [] rfl HO.out (some ⟨g,0,none⟩) n cap (wordV l) rfl (by rw [zi6,Hl.out,Nat.mul_one]) (fun h0=>(Hb.out.below (HB1.out _)).news (by rw [Hl.out];exact h0)) (wordV_one l) (by unfold maxLen;omega) (by omega) (by simp) ?_
              intro v1 w1 h1 h2 h3
              have HF:Hid (ClnW w l (.returned v1) w1):=Lib.hid ⟨v1,rfl,by rw [Hl.out];simpa using h1,(HB1.out _).trans (h2.below (by simp) (fun k e=>by have e:some w.heap.size=some k:=e;cases e;exact Nat.le_refl _))⟩
              clear h1 h2 h3)
 go_ret
 exact HF.out
theorem zK6 (w:World):Calls Tryz.prog 38 #[.slice none 0 0] w (ClnW w []):=by
 have kn:=fun W=>Lib.run_eql_slice_nil (P:=Tryz.prog) W 62 42 none 0 0 0 0 Tryz.underlying62
 have HF:Hid (ClnW w [] (.returned (.slice none 0 0)) w):=Lib.hid ⟨_,rfl,World.ownsRow_nil _ _ _ _,Below.refl _ _⟩
 simp only [Option.isNone_none] at kn
 go_enter Tryz.func38,Tryz.ntmps38
 go_wp2_with fail
 go_ret
 exact HF.out
theorem zK7 {W:World} {B pb part:Nat} {budget:Int} {wv:Value} {mem:List Nat} (h:PartIn W B pb part budget wv mem):Calls Tryz.prog 17 #[.pointer (some ⟨pb,0,none⟩)] W (ClnW W mem):=by
 have hm:=h.most
 have hrow:=h.row
 have hd:=h.hd
 rcases hrow.2 with ⟨rfl,h0⟩ | ⟨g,cap,cur,rfl,-,hg,-,-⟩
 ·obtain rfl:=List.eq_nil_of_length_eq_zero h0
  have k2:W.cell? ⟨pb,2,none⟩=some (.slice none 0 0):=za0 hd 2 rfl
  have HC:=Lib.hid (zK6 W)
  clear h hm hrow hd h0
  go_enter Tryz.func17,Tryz.ntmps17
  go_wp2_with fail
  refine HC.out.mono ?_
  rintro e w1 ⟨v,rfl,h1,h2⟩
  have HF:Hid (ClnW W [] (.returned v) w1):=Lib.hid ⟨v,rfl,h1,h2⟩
  clear h1 h2
  go_wp2_with fail
  go_ret
  exact HF.out
 ·obtain ⟨A',cap',e1,hwin⟩:=zr0 hrow rfl
  injection e1 with e1 _ e3
  subst e1 e3
  have HC:=Lib.hid (zK5 g mem.length cap mem rfl (by omega) W hwin)
  have k2:W.cell? ⟨pb,2,none⟩=some (.slice (some ⟨g,0,none⟩) mem.length cap):=za0 hd 2 rfl
  clear h hm hrow hd hwin hg
  generalize mem.length=n at k2 HC
  go_enter Tryz.func17,Tryz.ntmps17
  go_wp2_with fail
  refine HC.out.mono ?_
  rintro e w1 ⟨v,rfl,h1,h2⟩
  have HF:Hid (ClnW W mem (.returned v) w1):=Lib.hid ⟨v,rfl,h1,h2⟩
  clear h1 h2
  go_wp2_with fail
  go_ret
  exact HF.out
def ClrP (w:World) (B pb part:Nat) (budget:Int) (wv:Value) (n:Nat) (e:Ending) (w':World):Prop:=e = .returned (.tuple #[])∧PartIn w' B pb part budget wv (List.replicate n 0)∧Apart (fun k=>wv.ownBlock=some k) w w'
open Go.RowKit
set_option maxRecDepth 100000
def LfOk (budget lf:Int):Prop:=lf=budget∨lf=0∨(0≤lf∧lf≤budget)
theorem one_left {op:ApeP.OpF} {rec:List (List Nat)} {node part round:Nat} {lf budget:Int} {s:ApeP.AS} {o:ApeP.Op} (h:LfOk budget lf):LfOk budget (ApeP.oneG op rec node part round lf s o).left:=by
 have hc:=ApeP.cost_pos o
 unfold ApeP.oneG ApeP.stepG
 simp only
 split
 ·exact .inr (.inl rfl)
 ·rename_i h1
  simp only
  rcases h with h | h | h
  ·exact .inr (.inr ⟨by omega,by omega⟩)
  ·omega
  ·exact .inr (.inr ⟨by omega,by omega⟩)
def RunR (w:World) (B:Nat) (c:TableP.Cfg) (node:Nat) (rec:List (List Nat)) (T:RepP.T) (h:HostC) (pb part:Nat) (budget:Int) (wv:Value) (A:Option Addr) (l:List OpC) (round:Nat) (s:ApeP.AS) (vo vl vi:Value) (W:World):Prop:=
 ∃ k lf st h' ys,k≤l.length∧vi = .int .i64 (k:Nat)∧vl = .int .i64 lf∧LfOk budget lf∧ys.length=k∧AllI w W B c node rec T h pb part budget wv A l st h' vo ys ∧
  ApeP.runG (ApeP.opP c node part T) rec node part round (l.map OpC.plain) budget s=(ApeP.runG (ApeP.opP c node part T) rec node part round ((l.drop k).map OpC.plain) lf st).pre (ys.map ResC.plain)
def RunP (w:World) (B:Nat) (c:TableP.Cfg) (node:Nat) (rec:List (List Nat)) (T:RepP.T) (h:HostC) (pb part:Nat) (budget:Int) (wv:Value) (g:ApeP.Got) (e:Ending) (w':World):Prop:=
 ∃ v ys h',e = .returned (.tuple #[v,.int .u8 (g.did:Nat),.int .i64 (budget - g.left)])∧OutA w' w.heap.size B v ys∧ys.map ResC.plain=g.res∧HostIn w' B c node rec T h' g.st.ports g.st.mon g.st.cmd∧PartIn w' B pb part budget wv g.st.mem∧Went w h wv h' w'∧HasType w'∧LfOk budget g.left
theorem sub_in {budget lf:Int} (h:LfOk budget lf) (h1:-9223372036854775808≤budget) (h2:budget≤9223372036854775807):IntKind.i64.wrap (budget - lf)=budget - lf:=IntWalk.i64_in _ (by rcases h with h | h | h<;>omega)
set_option maxHeartbeats 8000000 in
theorem run_any {w:World} {B:Nat} {c:TableP.Cfg} {node:Nat} {rec:List (List Nat)} {T:RepP.T} {h:HostC} {s:ApeP.AS} {pb part:Nat} {budget:Int} {wv:Value} (hh:HostIn w B c node rec T h s.ports s.mon s.cmd) (hp:PartIn w B pb part budget wv s.mem) (ha:SndP.Allowed c) (hB:B≤w.heap.size) (hB0:0 < B) (hg:HasType w) (hT:∀ i v,RepP.tat T i=some v→v < 65536) (hn:rec.length≤255) (hb1:-9223372036854775808≤budget) (hb2:budget≤9223372036854775807)
 (round:Nat) (A:Option Addr) (n cap:Nat) (l:List OpC) (hl:l.length=n) (hn2:n≤1000000000) (ho:OpsIn w B A l) :
 Calls Tryz.prog 12 #[.pointer (some ⟨pb,0,none⟩),hostV h,.int .u32 (round:Nat),.slice A n cap] w (RunP w B c node rec T h pb part budget wv (ApeP.runG (ApeP.opP c node part T) rec node part round (l.map OpC.plain) budget s)):=by
 have hb0:Below w.heap.size w (w.alloc (.cells (hostCells h) 36)):=(Below.refl _ _).alloc (Nat.le_refl _) _
 have kb:(w.alloc (.cells #[.pointer (some ⟨h.x.a,0,none⟩),.pointer (some ⟨h.tb,0,none⟩),.pointer (some ⟨h.mb,0,none⟩),.pointer (some ⟨h.cb,0,none⟩)] 36)).cell? ⟨pb,1,none⟩=some (.int .i64 budget):=za0 (hp.below hb0).hd 1 rfl
 have HS0:Hid (RunR w B c node rec T h pb part budget wv A l round s (.slice none 0 0) (.int .i64 budget) (.int .i64 0) (w.alloc (.cells #[.pointer (some ⟨h.x.a,0,none⟩),.pointer (some ⟨h.tb,0,none⟩),.pointer (some ⟨h.mb,0,none⟩),.pointer (some ⟨h.cb,0,none⟩)] 36))):=Lib.hid ⟨0,budget,s,h,[],Nat.zero_le _,rfl,rfl,.inl rfl,rfl,⟨hh.below hb0,hp.below hb0,Went.of_below hb0 h wv,⟨World.ownsRow_nil _ _ _ _,fun y hy=>by cases hy⟩,ho.below hb0,hg.keep (hb0.block 0 hg.pos),newAt _ _⟩,rfl⟩
 have HB:=Lib.hid hB
 have HB0:=Lib.hid hB0
 have HA:=Lib.hid ha
 have HT:=Lib.hid hT
 have HN:=Lib.hid hn
 have HNl:=Lib.hid hl
 have Hb1:=Lib.hid hb1
 have Hb2:=Lib.hid hb2
 have HN2:=Lib.hid hn2
 clear hh hp ha hB hB0 hg hT hn ho hb0 hl hb1 hb2 hn2
 unfold hostV
 go_enter Tryz.func12,Tryz.ntmps12
 go_wp2_with fail
 go_loopw [11,12,27] (RunR w B c node rec T h pb part budget wv A l round s) (fun _ _ i _=>(n + 1 - intOf i).toNat)
 case atStart=>exact HS0.out
 case round=>
  clear HS0 kb
  obtain ⟨k,lf,st,h',ys,hk,rfl,rfl,hlf,hyl,hai,hrun⟩:=hrel
  have hHl:=HNl.out
  have hN2:=HN2.out
  by_cases hlt:k < n
  case neg=>
   have hkn:k=l.length:=by omega
   have hdrop:(l.drop k).map OpC.plain=[]:=by rw [hkn,List.drop_length];rfl
   rw [hdrop] at hrun
   have q1:decide ((k:Int) < (n:Int))=false:=decide_eq_false (by omega)
   have q2:decide (k < n)=false:=decide_eq_false hlt
   have kp:wr.cell? ⟨pb,1,none⟩=some (.int .i64 budget):=za0 hai.part.hd 1 rfl
   have e1:=sub_in hlf Hb1.out Hb2.out
   have HF:Hid (RunP w B c node rec T h pb part budget wv (ApeP.runG (ApeP.opP c node part T) rec node part round (l.map OpC.plain) budget s) (.returned (.tuple #[u11,.int .u8 0,.int .i64 (budget - lf)])) wr):=Lib.hid (by
    rw [hrun]
    exact ⟨u11,ys,h',rfl,hai.out,by show _=ys.map ResC.plain ++ [];rw [List.append_nil],hai.host,hai.part,hai.went,hai.type,hlf⟩)
   have HF2:Hid (∀ j,RunP w B c node rec T h pb part budget wv (ApeP.runG (ApeP.opP c node part T) rec node part round (l.map OpC.plain) budget s) (.returned (.tuple #[u11,.int .u8 0,.int .i64 (budget - lf)])) (wr.drewN j)):=Lib.hid fun j=>by
    obtain ⟨v,ys2,h2,p1,p2,p3,p4,p5,p6,p7,p8⟩:=HF.out
    have hbd:Below wr.heap.size wr (wr.drewN j):=zb0 (Below.refl _ _) j
    exact ⟨v,ys2,h2,p1,p2.below hbd,p3,p4.below hbd,p5.below hbd,p6.trans (Went.of_below hbd h2 wv),p7.keep (hbd.block 0 p7.pos),p8⟩
   clear hai hrun hdrop hlf hyl hk HF
   go_wp2_with fail
   go_quiet (fail)
   go_wp2_with fail
   refine bodyPost_ret (v:=.tuple #[u11,.int .u8 0,.int .i64 (budget - lf)]) (by simp [results,Tryz.results12,go_sem]) rfl ?_
   exact HF2.out _
  case pos=>
   obtain ⟨x,hx⟩:∃ x,l[k]? = some x:=⟨_,List.getElem?_eq_getElem (by omega)⟩
   have hxl:=List.mem_of_getElem? hx
   obtain ⟨ab,ao,hA,habl,hit⟩:=hai.ops.items (by omega)
   have hxok:=hai.ops.ok x hxl
   have hxbb:=hai.ops.bb x hxl
   have hcell:∀ j u,(opVals x)[j]? = some u→wr.cell? ⟨ab,ao + k * 6 + j,none⟩=some u:=hit k x hx
   have hdrop:(l.drop k).map OpC.plain=x.plain :: (l.drop (k + 1)).map OpC.plain:=by rw [List.drop_eq_getElem_cons (by omega)];rw [List.getElem?_eq_getElem (by omega)] at hx;rw [Option.some.inj hx];rfl
   rw [hdrop] at hrun
   have hst:=one_left (op:=ApeP.opP c node part T) (rec:=rec) (node:=node) (part:=part) (round:=round) (s:=st) (o:=x.plain) hlf
   have hlow:-9223372036854775808≤lf∧lf≤9223372036854775807:=by
    have:=Hb1.out
    have:=Hb2.out
    rcases hlf with e | e | e<;>omega
   have hbW:Below wr.heap.size wr ((wr.alloc (.cells (opVals x).toArray 91)).alloc (.cells #[.int .i64 0,.int .i64 0,.slice none 0 0,.bool false] 94)):=((Below.refl _ _).alloc (Nat.le_refl _) _).alloc (by simp) _
   have hai1:=hai.below hbW
   have hBr:B≤wr.heap.size:=Nat.le_trans HB.out (Nat.le_of_lt hai.size)
   have HSt:=Lib.hid (step_any hai1.host hai1.part HA.out (Nat.le_trans hBr hbW.size) HB0.out hai1.type HT.out x (hxok.below hbW) (hxbb.below16 hbW) lf hlow.1 hlow.2)
   rw [hai.went.value] at HSt
   have hz1:((wr.alloc (.cells (opVals x).toArray 91)).alloc (.cells #[.int .i64 0,.int .i64 0,.slice none 0 0,.bool false] 94)).heap[wr.heap.size + 1]? = some (.cells #[.int .i64 0,.int .i64 0,.slice none 0 0,.bool false] 94 (0,0)):=newAt1 _ _ _
   have HZ1:=Lib.hid hz1
   have HAI1:=Lib.hid hai1
   have HBW:=Lib.hid hbW
   have HBr:=Lib.hid hBr
   have kh:∀ j u,(hostCells h)[j]? = some u→((wr.alloc (.cells (opVals x).toArray 91)).alloc (.cells #[.int .i64 0,.int .i64 0,.slice none 0 0,.bool false] 94)).cell? ⟨w.heap.size,j,none⟩=some u:=fun j u hu=>za0 hai1.box j hu
   have HAsz:=Lib.hid hai.size
   -- what comes behind the step,the store,the append: all of it,and the two ways on
   have HNext:Hid (∀ (w2:World) (y:ResC) (v:Value) (h2:HostC),(y.plain=ApeP.showT (ApeP.stepG (ApeP.opP c node part T) lf st x.plain).1.1∧w2.ownsRow B 5 1 (.slice y.A y.data.length y.cap) y.data.length (bytesV y.data)∧ErrE w2 (ApeP.stepG (ApeP.opP c node part T) lf st x.plain).1.1.2 v∧HostIn w2 B c node rec T h2 (ApeP.stepG (ApeP.opP c node part T) lf st x.plain).2.ports (ApeP.stepG (ApeP.opP c node part T) lf st x.plain).2.mon (ApeP.stepG (ApeP.opP c node part T) lf st x.plain).2.cmd∧PartIn w2 B pb part budget wv (ApeP.stepG (ApeP.opP c node part T) lf st x.plain).2.mem∧Went ((wr.alloc (.cells (opVals x).toArray 91)).alloc (.cells #[.int .i64 0,.int .i64 0,.slice none 0 0,.bool false] 94)) h' wv h2 w2) →
    w2.heap[wr.heap.size + 1]? = some (.cells #[.int .i64 0,.int .i64 0,.slice none 0 0,.bool false] 94 (0,0))∧AllI w (storeAll w2 (wr.heap.size + 1) (resVals y) 0) B c node rec T h pb part budget wv A l (ApeP.stepG (ApeP.opP c node part T) lf st x.plain).2 h2 u11 ys ∧
    ∀ v4 w4,w4.ownsRow w.heap.size 94 4 v4 (ys ++ [y]).length (itemsV resVals (ys ++ [y]))→Apart (fun q=>u11.ownBlock=some q) (storeAll w2 (wr.heap.size + 1) (resVals y) 0) w4 →
     AllI w w4 B c node rec T h pb part budget wv A l (ApeP.stepG (ApeP.opP c node part T) lf st x.plain).2 h2 v4 (ys ++ [y])∧ErrE w4 (ApeP.stepG (ApeP.opP c node part T) lf st x.plain).1.1.2 v):=Lib.hid fun w2 y v h2 hq=>by
    obtain ⟨q1,q2,q3,q4,q5,q6⟩:=hq
    have hai2:=hai1.next HB0.out (Nat.le_trans hBr hbW.size) q4 q5 q6
    have ht:=q6.touch hai1.host hai1.part
    have hz2:=ht.off hz1 zm6
    have hs2:(storeAll w2 (wr.heap.size + 1) (resVals y) 0).heap[wr.heap.size + 1]? = some (.cells (resVals y).toArray 94 (0,0)):=za4 hz2 rfl (resVals y) rfl
    have ha3:=za1 (wr.heap.size + 1) (resVals y) 0 w2
    have hws:=hai.size
    have hvo:∀ q,u11.ownBlock=some q→q≠wr.heap.size + 1:=fun q hq2 e=>by
     have:=((Seg.of_own hai.out.row).lt q hq2).2
     omega
    have hrow3:=za3 hai2.out.row ha3 (fun q hq2 e=>hvo q hq2 e)
    have hai3:=hai2.res HB0.out HB.out ha3 (fun q hq2=>by subst hq2;exact ⟨by omega,_,hz2⟩) hrow3 hai2.out.data
    have he3:=q3.off ha3 (fun q hq2=>by subst hq2;exact ⟨_,_,hz2,by decide⟩)
    have hy3:=za3 q2 ha3 (fun q hq2 e=>by subst e;exact zb2 q2 hz2 (by decide) _ hq2 rfl)
    refine ⟨hz2,hai3,fun v4 w4 g1 g2=>?_⟩
    have hF:∀ q,u11.ownBlock=some q→w.heap.size≤q∧∃ cs,(storeAll w2 (wr.heap.size + 1) (resVals y) 0).heap[q]? = some (.cells cs 94 (0,0)):=fun q hq2=>⟨((Seg.of_own hai3.out.row).lt q hq2).1,(Seg.of_own hai3.out.row).block q hq2⟩
    refine ⟨hai3.res HB0.out HB.out g2 hF g1 (fun z hz=>?_),he3.off g2 (fun q hq2=>?_)⟩
    ·rcases List.mem_append.1 hz with hz | hz
     ·exact hai3.out.data z hz
     ·rw [List.mem_singleton.1 hz];exact hy3
    ·obtain ⟨-,cs,e⟩:=hF q hq2
     exact ⟨cs,_,e,by decide⟩
   -- the two ways on behind report
   have hone:ApeP.oneG (ApeP.opP c node part T) rec node part round lf st x.plain=⟨ApeP.showT (ApeP.stepG (ApeP.opP c node part T) lf st x.plain).1.1,(ApeP.tellG rec node part round (ApeP.stepG (ApeP.opP c node part T) lf st x.plain).2.mon (ApeP.stepG (ApeP.opP c node part T) lf st x.plain).1.1.2).1.1,(ApeP.tellG rec node part round (ApeP.stepG (ApeP.opP c node part T) lf st x.plain).2.mon (ApeP.stepG (ApeP.opP c node part T) lf st x.plain).1.1.2).1.2,(ApeP.stepG (ApeP.opP c node part T) lf st x.plain).1.2,ApeP.monT (ApeP.stepG (ApeP.opP c node part T) lf st x.plain).2 (ApeP.tellG rec node part round (ApeP.stepG (ApeP.opP c node part T) lf st x.plain).2.mon (ApeP.stepG (ApeP.opP c node part T) lf st x.plain).1.1.2).2⟩:=rfl
   rw [hone] at hst
   simp only at hst
   have HYes:Hid (∀ w5 y h3 v4,y.plain=ApeP.showT (ApeP.stepG (ApeP.opP c node part T) lf st x.plain).1.1→(ApeP.tellG rec node part round (ApeP.stepG (ApeP.opP c node part T) lf st x.plain).2.mon (ApeP.stepG (ApeP.opP c node part T) lf st x.plain).1.1.2).1.2=true→AllI w w5 B c node rec T h pb part budget wv A l (ApeP.monT (ApeP.stepG (ApeP.opP c node part T) lf st x.plain).2 (ApeP.tellG rec node part round (ApeP.stepG (ApeP.opP c node part T) lf st x.plain).2.mon (ApeP.stepG (ApeP.opP c node part T) lf st x.plain).1.1.2).2) h3 v4 (ys ++ [y])→∀ j,RunP w B c node rec T h pb part budget wv (ApeP.runG (ApeP.opP c node part T) rec node part round (l.map OpC.plain) budget s) (.returned (.tuple #[v4,.int .u8 ((ApeP.tellG rec node part round (ApeP.stepG (ApeP.opP c node part T) lf st x.plain).2.mon (ApeP.stepG (ApeP.opP c node part T) lf st x.plain).1.1.2).1.1:Nat),.int .i64 (budget - (ApeP.stepG (ApeP.opP c node part T) lf st x.plain).1.2)])) (w5.drewN j)):=Lib.hid fun w5 y h3 v4 e1 e2 e3 j=>by
    have hbd:Below w5.heap.size w5 (w5.drewN j):=zb0 (Below.refl _ _) j
    have e4:=e3.below hbd
    rw [hrun,ApeP.run_end (by rw [hone];exact e2)]
    rw [hone]
    exact ⟨v4,ys ++ [y],h3,rfl,e4.out,by rw [List.map_append,List.map_singleton,e1],e4.host,e4.part,e4.went,e4.type,hst⟩
   have HNo:Hid (∀ w5 y h3 v4,y.plain=ApeP.showT (ApeP.stepG (ApeP.opP c node part T) lf st x.plain).1.1→(ApeP.tellG rec node part round (ApeP.stepG (ApeP.opP c node part T) lf st x.plain).2.mon (ApeP.stepG (ApeP.opP c node part T) lf st x.plain).1.1.2).1.2=false→AllI w w5 B c node rec T h pb part budget wv A l (ApeP.monT (ApeP.stepG (ApeP.opP c node part T) lf st x.plain).2 (ApeP.tellG rec node part round (ApeP.stepG (ApeP.opP c node part T) lf st x.plain).2.mon (ApeP.stepG (ApeP.opP c node part T) lf st x.plain).1.1.2).2) h3 v4 (ys ++ [y])→RunR w B c node rec T h pb part budget wv A l round s v4 (.int .i64 (ApeP.stepG (ApeP.opP c node part T) lf st x.plain).1.2) (.int .i64 ((k:Int) + 1)) w5):=Lib.hid fun w5 y h3 v4 e1 e2 e3=>by
    refine ⟨k + 1,_,_,h3,ys ++ [y],by omega,by go_num,rfl,hst,by simp [hyl],e3,?_⟩
    rw [hrun,ApeP.run_next (by rw [hone];exact e2)]
    rw [hone,List.map_append,List.map_singleton,e1]
   have q1:decide ((k:Int) < (n:Int))=true:=decide_eq_true (by omega)
   have q2:decide (k < n)=true:=decide_eq_true hlt
   have e8:IntKind.i64.wrap ((k:Int) + 1)=(k:Int) + 1:=IntWalk.i64_in _ (by omega)
   have Hst:=Lib.hid hst
   have HOut:=Lib.hid hai.out.row
   have Hyl:=Lib.hid hyl
   generalize ApeP.stepG (ApeP.opP c node part T) lf st x.plain=sr at *
   obtain ⟨⟨⟨sres,serr⟩,sleft⟩,sst⟩:=sr
   have hnm:=HN.out
   have HRep:Hid (∀ w4 h2 v4 ys4 v,AllI w w4 B c node rec T h pb part budget wv A l sst h2 v4 ys4→ErrE w4 serr v→Calls Tryz.prog 31 #[.pointer (some ⟨pb,0,none⟩),.pointer (some ⟨h.mb,0,none⟩),.int .u32 (round:Nat),v] w4 (fun e w5=>e = .returned (.tuple #[.int .u8 ((ApeP.tellG rec node part round sst.mon serr).1.1:Nat),.bool (ApeP.tellG rec node part round sst.mon serr).1.2])∧∃ h3,AllI w w5 B c node rec T h pb part budget wv A l (ApeP.monT sst (ApeP.tellG rec node part round sst.mon serr).2) h3 v4 ys4)):=Lib.hid fun w4 h2 v4 ys4 v g1 g2=>by
    have hB4:B≤w4.heap.size:=Nat.le_trans HB.out (Nat.le_of_lt g1.size)
    have h1:=zK4 g1.host g1.part hB4 hnm round serr v g2
    rw [g1.went.mb] at h1
    refine h1.mono ?_
    rintro e w5 ⟨h3,rfl,p1,p2,p3⟩
    exact ⟨rfl,h3,g1.next (st':=ApeP.monT sst (ApeP.tellG rec node part round sst.mon serr).2) HB0.out hB4 p1 p2 p3⟩
   generalize ApeP.tellG rec node part round sst.mon serr=tr at *
   obtain ⟨⟨td,te⟩,tm⟩:=tr
   simp only at HNext HYes HNo HRep HSt
   subst hA
   obtain ⟨xk,xp,xa,xb,xc,xD,xm,xcap,xd⟩:=x
   simp only [opVals,opV] at *
   have a0:wr.cell? ⟨ab,ao + k * 6,none⟩=some (.int .u8 (xk:Nat)):=hcell 0 _ rfl
   have a1:wr.cell? ⟨ab,ao + k * 6 + 1,none⟩=some (.int .i64 xp):=hcell 1 _ rfl
   have a2:wr.cell? ⟨ab,ao + k * 6 + 2,none⟩=some (.int .i64 xa):=hcell 2 _ rfl
   have a3:wr.cell? ⟨ab,ao + k * 6 + 3,none⟩=some (.int .i64 xb):=hcell 3 _ rfl
   have a4:wr.cell? ⟨ab,ao + k * 6 + 4,none⟩=some (.int .i64 xc):=hcell 4 _ rfl
   have a5:wr.cell? ⟨ab,ao + k * 6 + 5,none⟩=some (.slice xD xm xcap):=hcell 5 _ rfl
   have b0:=kh 0 _ rfl
   have b1:=kh 1 _ rfl
   have b2:=kh 2 _ rfl
   have b3:=kh 3 _ rfl
   clear hai hai1 hxok hxbb hcell hit hx hxl hdrop hrun hst hone hlf hlow hbW hBr hz1 hyl hk habl kh hnm
   unfold hostV at HSt
   go_wp2_with fail
   clear a0 a1 a2 a3 a4 a5 b0 b1 b2 b3
   refine HSt.out.mono ?_
   rintro e w2 ⟨y,v,h2,rfl,hq⟩
   obtain ⟨hz2,hai3,hgo⟩:=HNext.out w2 y v h2 hq
   have hyp:=hq.1
   have Hyp:=Lib.hid hyp
   obtain ⟨yc,yv,yA,ycap,yd,yf⟩:=y
   have k0:=za0 hz2 0 rfl
   have k1:=za0 hz2 1 rfl
   have k2:=za0 hz2 2 rfl
   have k3:=za0 hz2 3 rfl
   have f:=fun i=>za2 hz2 i
   have hs2:((((w2.setCell ⟨wr.heap.size + 1,0,none⟩ (.int .i64 (yc:Nat))).setCell ⟨wr.heap.size + 1,1,none⟩ (.int .i64 yv)).setCell ⟨wr.heap.size + 1,2,none⟩ (.slice yA yd.length ycap)).setCell ⟨wr.heap.size + 1,3,none⟩ (.bool yf)).heap[wr.heap.size + 1]? = some (.cells #[.int .i64 (yc:Nat),.int .i64 yv,.slice yA yd.length ycap,.bool yf] 94 (0,0)):=za4 hz2 rfl [.int .i64 (yc:Nat),.int .i64 yv,.slice yA yd.length ycap,.bool yf] rfl
   have n0:=za0 hs2 0 rfl
   have n1:=za0 hs2 1 rfl
   have n2:=za0 hs2 2 rfl
   have n3:=za0 hs2 3 rfl
   have HO3:Hid (((((w2.setCell ⟨wr.heap.size + 1,0,none⟩ (.int .i64 (yc:Nat))).setCell ⟨wr.heap.size + 1,1,none⟩ (.int .i64 yv)).setCell ⟨wr.heap.size + 1,2,none⟩ (.slice yA yd.length ycap)).setCell ⟨wr.heap.size + 1,3,none⟩ (.bool yf)).ownsRow w.heap.size 94 4 u11 ys.length (itemsV resVals ys)):=Lib.hid hai3.out.row
   have HSz:Hid (w.heap.size≤((((w2.setCell ⟨wr.heap.size + 1,0,none⟩ (.int .i64 (yc:Nat))).setCell ⟨wr.heap.size + 1,1,none⟩ (.int .i64 yv)).setCell ⟨wr.heap.size + 1,2,none⟩ (.slice yA yd.length ycap)).setCell ⟨wr.heap.size + 1,3,none⟩ (.bool yf)).heap.size):=Lib.hid (Nat.le_of_lt hai3.size)
   have hylen:=Hyl.out
   have HGo:Hid (∀ (v4:Value) (w4:World),w4.ownsRow w.heap.size 94 4 v4 (ys ++ [(⟨yc,yv,yA,ycap,yd,yf⟩:ResC)]).length (itemsV resVals (ys ++ [(⟨yc,yv,yA,ycap,yd,yf⟩:ResC)]))→Apart (fun q=>u11.ownBlock=some q) ((((w2.setCell ⟨wr.heap.size + 1,0,none⟩ (.int .i64 (yc:Nat))).setCell ⟨wr.heap.size + 1,1,none⟩ (.int .i64 yv)).setCell ⟨wr.heap.size + 1,2,none⟩ (.slice yA yd.length ycap)).setCell ⟨wr.heap.size + 1,3,none⟩ (.bool yf)) w4→AllI w w4 B c node rec T h pb part budget wv (some ⟨ab,ao,none⟩) l sst h2 v4 (ys ++ [(⟨yc,yv,yA,ycap,yd,yf⟩:ResC)])∧ErrE w4 serr v):=Lib.hid hgo
   clear hq hyp hgo hai3 hz2 hs2 HSt HNext
   simp only [resV]
   go_upto_region 11 with (fail)
   clear k0 k1 k2 k3 f
   generalize ((((w2.setCell ⟨wr.heap.size + 1,0,none⟩ (.int .i64 (yc:Nat))).setCell ⟨wr.heap.size + 1,1,none⟩ (.int .i64 yv)).setCell ⟨wr.heap.size + 1,2,none⟩ (.slice yA yd.length ycap)).setCell ⟨wr.heap.size + 1,3,none⟩ (.bool yf))=w3 at *
   go_upto_region 12 with (first | (at_builtin;refine zh5 rfl (.tmp 40) (.tmp 42) rfl w.heap.size _ ys rfl HO3.out ⟨yc,yv,yA,ycap,yd,yf⟩ _ rfl rfl (by omega) HSz.out ?_;intro v4 w4 ho4 ha4) | fail)
   obtain ⟨hai4,herr4⟩:=HGo.out v4 w4 ho4 ha4
   have kb2:w4.cell? ⟨w.heap.size,2,none⟩=some (.pointer (some ⟨h.mb,0,none⟩)):=za0 hai4.box 2 rfl
   have HRp:=Lib.hid (HRep.out w4 h2 v4 _ v hai4 herr4)
   clear hai4 herr4 ho4 ha4 n0 n1 n2 n3
   go_wp2_with fail
   refine HRp.out.mono ?_
   rintro e w5 ⟨rfl,h3,hai5⟩
   have kp:w5.cell? ⟨pb,1,none⟩=some (.int .i64 budget):=za0 hai5.part.hd 1 rfl
   have eS:=sub_in Hst.out Hb1.out Hb2.out
   cases te with
   | true=>
    have HF:=Lib.hid (HYes.out w5 _ h3 v4 Hyp.out rfl hai5)
    clear hai5 HYes HNo HRp HRep HGo kb2
    go_wp2_with fail
    go_quiet (fail)
    go_wp2_with fail
    refine bodyPost_ret (v:=.tuple #[v4,.int .u8 (td:Nat),.int .i64 (budget - sleft)]) (by simp [results,Tryz.results12,go_sem]) rfl ?_
    exact HF.out _
   | false=>
    have HF:=Lib.hid (HNo.out w5 _ h3 v4 Hyp.out rfl hai5)
    clear hai5 HYes HNo HRp HRep HGo kb2
    go_wp2_with fail
    go_roundw
    case rel=>exact HF.out
    case measure=>simp [intOf];omega
end Go.Proofs.YtfgpfmhjnccccaaGreatDoor
