import Derived.BigQuiet
import Derived.Deep.Cut
import Derived.Test.YtfgpfmhjnccccaaGreatDoorSa29
namespace Go.Proofs.YtfgpfmhjnccccaaGreatDoor
open Go.RowKit
set_option maxRecDepth 100000
theorem errO_T {o:Option Nat} {p:Int} (hp:p≤9223372036854775807) (h:∀ k,o=some k→1≤k∧k≤199):ErrT o (errO o p):=⟨p,hp,rfl,h⟩
theorem DocIn.resOff {w0 W W':World} {B:Nat} {x:CfgC} {node:Nat} {T:RepP.T} {d:DocC} {sp:PorP.St} {mm:HeaP.Mon} {cc:RepP.Cmd} (h:DocIn w0 W B x node T d sp mm cc) (ha:Apart (DF d) W W') {k:Nat} {cs:Array Value} {t:TypeId} (hk:W.heap[k]? = some (.cells cs t (0,0))) (ht:¬ TagD t):W'.heap[k]? = some (.cells cs t (0,0)):=by
 refine (ha.block k (lt_of_block hk) fun hf=>?_).trans hk
 obtain ⟨-,cs',t',e1,e2,-⟩:=h.fTag hf
 rw [hk] at e1
 simp only [Option.some.injEq,Obj.cells.injEq] at e1
 obtain ⟨-,rfl,-⟩:=e1
 exact ht e2
def S27 (hb tb an v:Nat) (W:World) (ch co:Array Value):Prop:=W.heap[hb]? = some (.cells ch 53 (0,0))∧W.heap[hb + 1]? = some (.cells co 91 (0,0))∧W.cell? ⟨tb,an,none⟩=some (.int .u16 (v:Nat))∧W.heap[hb + 2]? = some (.cells #[.int .i64 0,.int .i64 0,.slice none 0 0,.bool false] 94 (0,0))
set_option maxHeartbeats 2000000 in
theorem rop_write {w0 w:World} {B:Nat} {x:CfgC} {node part:Nat} {T:RepP.T} {d:DocC} {s:ApeP.AS} {mv:Value} (hd:DocIn w0 w B x node T d s.ports s.mon s.cmd) (hm:MemR w B mv s.mem) (hB:B≤w.heap.size) (hal:SndP.Allowed x.plain) (xp xa xb xc:Int) (xD:Option Addr) (xm xcap:Nat) (xd:List UInt8) (hx:OpOk w ⟨1,xp,xa,xb,xc,xD,xm,xcap,xd⟩):Calls Tryz.prog 34 #[.int .i64 (part:Nat),mv,docV d,.agg #[.int .u8 1,.int .i64 xp,.int .i64 xa,.int .i64 xb,.int .i64 xc,.slice xD xm xcap]] w (DoD w0 w B x node T d mv (ApeP.opT x.plain (node:Int) part T s ⟨1,xp,xa,xb,xc,xd⟩)):=by
 have hb0:Below w.heap.size w (((w.alloc (.cells #[.pointer (some ⟨d.ra,0,none⟩),.pointer (some ⟨d.tb,0,none⟩),.pointer (some ⟨d.rm,0,none⟩),.pointer (some ⟨d.cb,0,none⟩)] 53)).alloc (.cells #[.int .u8 1,.int .i64 xp,.int .i64 xa,.int .i64 xb,.int .i64 xc,.slice xD xm xcap] 91)).alloc (.cells #[.int .i64 0,.int .i64 0,.slice none 0 0,.bool false] 94)):=(((Below.refl _ _).alloc (Nat.le_refl _) _).alloc (by simp) _).alloc (by simp;omega) _
 unfold docV
 generalize hW0:(((w.alloc (.cells #[.pointer (some ⟨d.ra,0,none⟩),.pointer (some ⟨d.tb,0,none⟩),.pointer (some ⟨d.rm,0,none⟩),.pointer (some ⟨d.cb,0,none⟩)] 53)).alloc (.cells #[.int .u8 1,.int .i64 xp,.int .i64 xa,.int .i64 xb,.int .i64 xc,.slice xD xm xcap] 91)).alloc (.cells #[.int .i64 0,.int .i64 0,.slice none 0 0,.bool false] 94))=W0 at *
 have hH:W0.heap[w.heap.size]? = some (.cells #[.pointer (some ⟨d.ra,0,none⟩),.pointer (some ⟨d.tb,0,none⟩),.pointer (some ⟨d.rm,0,none⟩),.pointer (some ⟨d.cb,0,none⟩)] 53 (0,0)):=by rw [← hW0,allocAt _ _ _ (by simp;omega),allocAt _ _ _ (by simp)];exact newAt _ _
 have hO:W0.heap[w.heap.size + 1]? = some (.cells #[.int .u8 1,.int .i64 xp,.int .i64 xa,.int .i64 xb,.int .i64 xc,.slice xD xm xcap] 91 (0,0)):=by rw [← hW0,allocAt _ _ _ (by simp)];exact newAt1 _ _ _
 have hR:W0.heap[w.heap.size + 2]? = some (.cells #[.int .i64 0,.int .i64 0,.slice none 0 0,.bool false] 94 (0,0)):=by
  rw [← hW0]
  have:=newAt ((w.alloc (.cells #[.pointer (some ⟨d.ra,0,none⟩),.pointer (some ⟨d.tb,0,none⟩),.pointer (some ⟨d.rm,0,none⟩),.pointer (some ⟨d.cb,0,none⟩)] 53)).alloc (.cells #[.int .u8 1,.int .i64 xp,.int .i64 xa,.int .i64 xb,.int .i64 xc,.slice xD xm xcap] 91)) (.cells #[.int .i64 0,.int .i64 0,.slice none 0 0,.bool false] 94)
  simpa using this
 have hd0:=hd.below hb0
 have hm0:=hm.below hb0
 have HE0:=Lib.hid hW0
 have hw0:∀ mv,WentD w d mv d W0:=fun mv=>WentD.of_below hb0 d mv
 have HB:=Lib.hid hB
 have HS:Hid (Calls Tryz.prog 52 #[.pointer (some ⟨d.ra,0,none⟩),.int .i64 (part:Nat),.int .i64 xp,.slice xD xm xcap] W0 (fun e w1=>∃ t,e = .returned (strV t)∧MidD w0 w B x node T d mv (ApeP.opT x.plain (node:Int) part T s ⟨1,xp,xa,xb,xc,xd⟩) ⟨0,0,none,0,[],false⟩ t w1∧w1.heap[w.heap.size + 2]? = some (.cells #[.int .i64 0,.int .i64 0,.slice none 0 0,.bool false] 94 (0,0)))):=Lib.hid (by
  have h1:=zK2 w0 W0 B x (node:Int) d.ra d.rg d.es hd0.por hal (part:Nat) xp hx.port.2 xD xm xcap xd hx.len (by have:=hx.most;simp only at this;omega) ((hx.bytes.below hb0 (Nat.le_refl _)).more hb0.size)
  rw [hd0.st] at h1
  unfold rpv at h1
  refine h1.mono ?_
  rintro e w1 ⟨rfl,hL⟩
  obtain ⟨d',g1,g2,g3⟩:=hd0.toPorts hL
  refine ⟨_,rfl,⟨d',rfl,DocB.none_,errO_T hx.port.2 (fun k hk=>?_),g1,hm0.beside hd0 g3,(hw0 mv).trans (g2 mv)⟩,hd0.resOff g3 hR ze4⟩
  have:=ApeP.write_code hk
  omega)
 have o0:=za0 hO 0 rfl
 have o1:=za0 hO 1 rfl
 have o2:=za0 hO 2 rfl
 have o3:=za0 hO 3 rfl
 have o4:=za0 hO 4 rfl
 have o5:=za0 hO 5 rfl
 clear hd hm hH hO hR hd0 hm0 hw0 hb0 hW0 hB hal hx
 generalize (ApeP.opT x.plain (node:Int) part T s ⟨1,xp,xa,xb,xc,xd⟩)=rr at *
 go_enter Tryz.func34,Tryz.ntmps34
 go_wp2_with fail
 rw [HE0.out]
 refine HS.out.mono ?_
 rintro e w1 ⟨t,rfl,hmm,hbz⟩
 have Hbz:=Lib.hid hbz
 have k0:=za0 hbz 0 rfl
 have k1:=za0 hbz 1 rfl
 have k2:=za0 hbz 2 rfl
 have k3:=za0 hbz 3 rfl
 have f:=fun i=>za2 hbz i
 have HMm:=Lib.hid hmm
 clear hbz hmm HS
 go_wp2_with fail
 clear k0 k1 k2 k3 f
 show bodyPost _ _ _ _ _ (storeAll w1 (w.heap.size + 2) [.int .i64 0,.int .i64 0,.slice none 0 0,.bool false] 0)
 have hfin:=za4 Hbz.out rfl [.int .i64 0,.int .i64 0,.slice none 0 0,.bool false] rfl
 have HSt:=Lib.hid (za1 (w.heap.size + 2) [.int .i64 0,.int .i64 0,.slice none 0 0,.bool false] 0 w1)
 generalize storeAll w1 (w.heap.size + 2) [.int .i64 0,.int .i64 0,.slice none 0 0,.bool false] 0=Wf at *
 have r0:=za0 hfin 0 rfl
 have r1:=za0 hfin 1 rfl
 have r2:=za0 hfin 2 rfl
 have r3:=za0 hfin 3 rfl
 refine bodyPost_ret (v:=.tuple #[.agg #[.int .i64 0,.int .i64 0,.slice none 0 0,.bool false],strV t]) (by simp [results,Tryz.results34,go_sem,r0,r1,r2,r3]) rfl ?_
 exact HMm.out.fin Hbz.out (by omega) HB.out HSt.out rfl
set_option maxHeartbeats 2000000 in
theorem rop_read {w0 w:World} {B:Nat} {x:CfgC} {node part:Nat} {T:RepP.T} {d:DocC} {s:ApeP.AS} {mv:Value} (hd:DocIn w0 w B x node T d s.ports s.mon s.cmd) (hm:MemR w B mv s.mem) (hB:B≤w.heap.size) (hal:SndP.Allowed x.plain) (xp xa xb xc:Int) (xD:Option Addr) (xm xcap:Nat) (xd:List UInt8) (hport:xp≤9223372036854775807):Calls Tryz.prog 34 #[.int .i64 (part:Nat),mv,docV d,.agg #[.int .u8 2,.int .i64 xp,.int .i64 xa,.int .i64 xb,.int .i64 xc,.slice xD xm xcap]] w (DoD w0 w B x node T d mv (ApeP.opT x.plain (node:Int) part T s ⟨2,xp,xa,xb,xc,xd⟩)):=by
 have hb0:Below w.heap.size w (((w.alloc (.cells #[.pointer (some ⟨d.ra,0,none⟩),.pointer (some ⟨d.tb,0,none⟩),.pointer (some ⟨d.rm,0,none⟩),.pointer (some ⟨d.cb,0,none⟩)] 53)).alloc (.cells #[.int .u8 2,.int .i64 xp,.int .i64 xa,.int .i64 xb,.int .i64 xc,.slice xD xm xcap] 91)).alloc (.cells #[.int .i64 0,.int .i64 0,.slice none 0 0,.bool false] 94)):=(((Below.refl _ _).alloc (Nat.le_refl _) _).alloc (by simp) _).alloc (by simp;omega) _
 unfold docV
 generalize hW0:(((w.alloc (.cells #[.pointer (some ⟨d.ra,0,none⟩),.pointer (some ⟨d.tb,0,none⟩),.pointer (some ⟨d.rm,0,none⟩),.pointer (some ⟨d.cb,0,none⟩)] 53)).alloc (.cells #[.int .u8 2,.int .i64 xp,.int .i64 xa,.int .i64 xb,.int .i64 xc,.slice xD xm xcap] 91)).alloc (.cells #[.int .i64 0,.int .i64 0,.slice none 0 0,.bool false] 94))=W0 at *
 have hH:W0.heap[w.heap.size]? = some (.cells #[.pointer (some ⟨d.ra,0,none⟩),.pointer (some ⟨d.tb,0,none⟩),.pointer (some ⟨d.rm,0,none⟩),.pointer (some ⟨d.cb,0,none⟩)] 53 (0,0)):=by rw [← hW0,allocAt _ _ _ (by simp;omega),allocAt _ _ _ (by simp)];exact newAt _ _
 have hO:W0.heap[w.heap.size + 1]? = some (.cells #[.int .u8 2,.int .i64 xp,.int .i64 xa,.int .i64 xb,.int .i64 xc,.slice xD xm xcap] 91 (0,0)):=by rw [← hW0,allocAt _ _ _ (by simp)];exact newAt1 _ _ _
 have hR:W0.heap[w.heap.size + 2]? = some (.cells #[.int .i64 0,.int .i64 0,.slice none 0 0,.bool false] 94 (0,0)):=by
  rw [← hW0]
  have:=newAt ((w.alloc (.cells #[.pointer (some ⟨d.ra,0,none⟩),.pointer (some ⟨d.tb,0,none⟩),.pointer (some ⟨d.rm,0,none⟩),.pointer (some ⟨d.cb,0,none⟩)] 53)).alloc (.cells #[.int .u8 2,.int .i64 xp,.int .i64 xa,.int .i64 xb,.int .i64 xc,.slice xD xm xcap] 91)) (.cells #[.int .i64 0,.int .i64 0,.slice none 0 0,.bool false] 94)
  simpa using this
 have hd0:=hd.below hb0
 have hm0:=hm.below hb0
 have HE0:=Lib.hid hW0
 have hw0:∀ mv,WentD w d mv d W0:=fun mv=>WentD.of_below hb0 d mv
 have HB:=Lib.hid hB
 have HS:Hid (Calls Tryz.prog 53 #[.pointer (some ⟨d.ra,0,none⟩),.int .i64 (part:Nat),.int .i64 xp] W0 (fun e w1=>∃ rD rn rc rf data t,e = .returned (.tuple #[.slice rD rn rc,.bool rf,strV t])∧rn=data.length∧MidD w0 w B x node T d mv (ApeP.opT x.plain (node:Int) part T s ⟨2,xp,xa,xb,xc,xd⟩) ⟨0,0,rD,rc,data,rf⟩ t w1∧w1.heap[w.heap.size + 2]? = some (.cells #[.int .i64 0,.int .i64 0,.slice none 0 0,.bool false] 94 (0,0)))):=Lib.hid (by
  have h1:=rread_any w0 W0 B x (node:Int) d.ra d.rg d.es hd0.por hal (part:Nat) xp hport
  rw [hd0.st] at h1
  unfold rpv at h1
  refine h1.mono ?_
  rintro e w1 ⟨D,cc,rfl,hby,hL⟩
  obtain ⟨d',g1,g2,g3⟩:=hd0.toPorts hL
  refine ⟨D,_,cc,_,(PorP.readT x.plain node s.ports part xp).1.1,_,rfl,rfl,⟨d',rfl,hby,errO_T hport (fun k hk=>?_),g1,hm0.beside hd0 g3,(hw0 mv).trans (g2 mv)⟩,hd0.resOff g3 hR ze4⟩
  have:=ApeP.read_code hk
  omega)
 have o0:=za0 hO 0 rfl
 have o1:=za0 hO 1 rfl
 have o2:=za0 hO 2 rfl
 have o3:=za0 hO 3 rfl
 have o4:=za0 hO 4 rfl
 have o5:=za0 hO 5 rfl
 clear hd hm hH hO hR hd0 hm0 hw0 hb0 hW0 hB hal
 generalize (ApeP.opT x.plain (node:Int) part T s ⟨2,xp,xa,xb,xc,xd⟩)=rr at *
 go_enter Tryz.func34,Tryz.ntmps34
 go_wp2_with fail
 rw [HE0.out]
 refine HS.out.mono ?_
 rintro e w1 ⟨rD,rn,rc,rf,data,t,rfl,rfl,hmm,hbz⟩
 have Hbz:=Lib.hid hbz
 have k0:=za0 hbz 0 rfl
 have k1:=za0 hbz 1 rfl
 have k2:=za0 hbz 2 rfl
 have k3:=za0 hbz 3 rfl
 have f:=fun i=>za2 hbz i
 have HMm:=Lib.hid hmm
 clear hbz hmm HS
 go_wp2_with fail
 clear k0 k1 k2 k3 f
 show bodyPost _ _ _ _ _ (storeAll w1 (w.heap.size + 2) [.int .i64 0,.int .i64 0,.slice rD data.length rc,.bool rf] 0)
 have hfin:=za4 Hbz.out rfl [.int .i64 0,.int .i64 0,.slice rD data.length rc,.bool rf] rfl
 have HSt:=Lib.hid (za1 (w.heap.size + 2) [.int .i64 0,.int .i64 0,.slice rD data.length rc,.bool rf] 0 w1)
 generalize storeAll w1 (w.heap.size + 2) [.int .i64 0,.int .i64 0,.slice rD data.length rc,.bool rf] 0=Wf at *
 have r0:=za0 hfin 0 rfl
 have r1:=za0 hfin 1 rfl
 have r2:=za0 hfin 2 rfl
 have r3:=za0 hfin 3 rfl
 refine bodyPost_ret (v:=.tuple #[.agg #[.int .i64 0,.int .i64 0,.slice rD data.length rc,.bool rf],strV t]) (by simp [results,Tryz.results34,go_sem,r0,r1,r2,r3]) rfl ?_
 exact HMm.out.fin Hbz.out (by omega) HB.out HSt.out rfl
set_option maxHeartbeats 2000000 in
theorem rop_ask {w0 w:World} {B:Nat} {x:CfgC} {node part:Nat} {T:RepP.T} {d:DocC} {s:ApeP.AS} {mv:Value} (hd:DocIn w0 w B x node T d s.ports s.mon s.cmd) (hm:MemR w B mv s.mem) (hB:B≤w.heap.size) (hT:∀ i v,RepP.tat T i=some v→v < 65536) (xp xa xb xc:Int) (xD:Option Addr) (xm xcap:Nat) (xd:List UInt8) (hxa:xa≤9223372036854775807):Calls Tryz.prog 34 #[.int .i64 (part:Nat),mv,docV d,.agg #[.int .u8 10,.int .i64 xp,.int .i64 xa,.int .i64 xb,.int .i64 xc,.slice xD xm xcap]] w (DoD w0 w B x node T d mv (ApeP.opT x.plain (node:Int) part T s ⟨10,xp,xa,xb,xc,xd⟩)):=by
 have hb0:Below w.heap.size w (((w.alloc (.cells #[.pointer (some ⟨d.ra,0,none⟩),.pointer (some ⟨d.tb,0,none⟩),.pointer (some ⟨d.rm,0,none⟩),.pointer (some ⟨d.cb,0,none⟩)] 53)).alloc (.cells #[.int .u8 10,.int .i64 xp,.int .i64 xa,.int .i64 xb,.int .i64 xc,.slice xD xm xcap] 91)).alloc (.cells #[.int .i64 0,.int .i64 0,.slice none 0 0,.bool false] 94)):=(((Below.refl _ _).alloc (Nat.le_refl _) _).alloc (by simp) _).alloc (by simp;omega) _
 unfold docV
 generalize hW0:(((w.alloc (.cells #[.pointer (some ⟨d.ra,0,none⟩),.pointer (some ⟨d.tb,0,none⟩),.pointer (some ⟨d.rm,0,none⟩),.pointer (some ⟨d.cb,0,none⟩)] 53)).alloc (.cells #[.int .u8 10,.int .i64 xp,.int .i64 xa,.int .i64 xb,.int .i64 xc,.slice xD xm xcap] 91)).alloc (.cells #[.int .i64 0,.int .i64 0,.slice none 0 0,.bool false] 94))=W0 at *
 have hH:W0.heap[w.heap.size]? = some (.cells #[.pointer (some ⟨d.ra,0,none⟩),.pointer (some ⟨d.tb,0,none⟩),.pointer (some ⟨d.rm,0,none⟩),.pointer (some ⟨d.cb,0,none⟩)] 53 (0,0)):=by rw [← hW0,allocAt _ _ _ (by simp;omega),allocAt _ _ _ (by simp)];exact newAt _ _
 have hO:W0.heap[w.heap.size + 1]? = some (.cells #[.int .u8 10,.int .i64 xp,.int .i64 xa,.int .i64 xb,.int .i64 xc,.slice xD xm xcap] 91 (0,0)):=by rw [← hW0,allocAt _ _ _ (by simp)];exact newAt1 _ _ _
 have hR:W0.heap[w.heap.size + 2]? = some (.cells #[.int .i64 0,.int .i64 0,.slice none 0 0,.bool false] 94 (0,0)):=by
  rw [← hW0]
  have:=newAt ((w.alloc (.cells #[.pointer (some ⟨d.ra,0,none⟩),.pointer (some ⟨d.tb,0,none⟩),.pointer (some ⟨d.rm,0,none⟩),.pointer (some ⟨d.cb,0,none⟩)] 53)).alloc (.cells #[.int .u8 10,.int .i64 xp,.int .i64 xa,.int .i64 xb,.int .i64 xc,.slice xD xm xcap] 91)) (.cells #[.int .i64 0,.int .i64 0,.slice none 0 0,.bool false] 94)
  simpa using this
 have hd0:=hd.below hb0
 have hm0:=hm.below hb0
 have HE0:=Lib.hid hW0
 have hw0:∀ mv,WentD w d mv d W0:=fun mv=>WentD.of_below hb0 d mv
 have HB:=Lib.hid hB
 by_cases hbad:xa < 0∨7 < xa
 ·have HM:Hid (∀ t w1,ErrT (some 2) t→Below W0.heap.size W0 w1→MidD w0 w B x node T d mv (ApeP.opT x.plain (node:Int) part T s ⟨10,xp,xa,xb,xc,xd⟩) ⟨0,0,none,0,[],false⟩ t w1):=Lib.hid fun t w1 ht g=>by
   rw [show (ApeP.opT x.plain (node:Int) part T s ⟨10,xp,xa,xb,xc,xd⟩)=((ApeP.Res.zero,some 2),s) from (zc7 (by show (10:Nat)≠1;decide)).trans (by rw [zm7];unfold askT;rw [if_pos hbad])]
   exact ⟨d,rfl,DocB.none_,ht,hd0.below g,hm0.below g,(hw0 mv).trans (WentD.of_below g d mv)⟩
  by_cases h1:xa < 0
  ·have p1:decide (xa < 0)=true:=decide_eq_true h1
   have HAt:=Lib.hid (fun W=>zc5 2 xa W (by decide) hxa)
   have HTx:Hid (ErrT (some 2) (atT 2 xa)):=Lib.hid (ErrT.at_ (by decide) hxa)
   have o0:=za0 hO 0 rfl
   have o1:=za0 hO 1 rfl
   have o2:=za0 hO 2 rfl
   have o3:=za0 hO 3 rfl
   have o4:=za0 hO 4 rfl
   have o5:=za0 hO 5 rfl
   have HR:=Lib.hid hR
   clear hd hm hH hO hR hd0 hm0 hw0 hb0 hW0 hB hbad h1 hT
   generalize (ApeP.opT x.plain (node:Int) part T s ⟨10,xp,xa,xb,xc,xd⟩)=rr at *
   go_enter Tryz.func34,Tryz.ntmps34
   go_wp2_with fail
   rw [HE0.out]
   refine (HAt.out _).mono ?_
   rintro e w1 ⟨rfl,hb1⟩
   have hbz:=(hb1.block _ (lt_of_block HR.out)).trans HR.out
   have Hbz:=Lib.hid hbz
   have k0:=za0 hbz 0 rfl
   have k1:=za0 hbz 1 rfl
   have k2:=za0 hbz 2 rfl
   have k3:=za0 hbz 3 rfl
   have f:=fun i=>za2 hbz i
   have HMm:=Lib.hid (HM.out _ w1 HTx.out hb1)
   clear hbz hb1 HM HAt HTx HR
   go_wp2_with fail
   clear k0 k1 k2 k3 f
   show bodyPost _ _ _ _ _ (storeAll w1 (w.heap.size + 2) [.int .i64 0,.int .i64 0,.slice none 0 0,.bool false] 0)
   have hfin:=za4 Hbz.out rfl [.int .i64 0,.int .i64 0,.slice none 0 0,.bool false] rfl
   have HSt:=Lib.hid (za1 (w.heap.size + 2) [.int .i64 0,.int .i64 0,.slice none 0 0,.bool false] 0 w1)
   generalize storeAll w1 (w.heap.size + 2) [.int .i64 0,.int .i64 0,.slice none 0 0,.bool false] 0=Wf at *
   have r0:=za0 hfin 0 rfl
   have r1:=za0 hfin 1 rfl
   have r2:=za0 hfin 2 rfl
   have r3:=za0 hfin 3 rfl
   refine bodyPost_ret (v:=.tuple #[.agg #[.int .i64 0,.int .i64 0,.slice none 0 0,.bool false],strV (atT 2 xa)]) (by simp [results,Tryz.results34,go_sem,r0,r1,r2,r3]) rfl ?_
   exact HMm.out.fin Hbz.out (by omega) HB.out HSt.out rfl
  ·have p1:decide (xa < 0)=false:=decide_eq_false h1
   have p2:decide (7 < xa)=true:=decide_eq_true (by omega)
   have HAt:=Lib.hid (fun W=>zc5 2 xa W (by decide) hxa)
   have HTx:Hid (ErrT (some 2) (atT 2 xa)):=Lib.hid (ErrT.at_ (by decide) hxa)
   have o0:=za0 hO 0 rfl
   have o1:=za0 hO 1 rfl
   have o2:=za0 hO 2 rfl
   have o3:=za0 hO 3 rfl
   have o4:=za0 hO 4 rfl
   have o5:=za0 hO 5 rfl
   have HR:=Lib.hid hR
   clear hd hm hH hO hR hd0 hm0 hw0 hb0 hW0 hB hbad h1 hT
   generalize (ApeP.opT x.plain (node:Int) part T s ⟨10,xp,xa,xb,xc,xd⟩)=rr at *
   go_enter Tryz.func34,Tryz.ntmps34
   go_wp2_with fail
   rw [HE0.out]
   refine (HAt.out _).mono ?_
   rintro e w1 ⟨rfl,hb1⟩
   have hbz:=(hb1.block _ (lt_of_block HR.out)).trans HR.out
   have Hbz:=Lib.hid hbz
   have k0:=za0 hbz 0 rfl
   have k1:=za0 hbz 1 rfl
   have k2:=za0 hbz 2 rfl
   have k3:=za0 hbz 3 rfl
   have f:=fun i=>za2 hbz i
   have HMm:=Lib.hid (HM.out _ w1 HTx.out hb1)
   clear hbz hb1 HM HAt HTx HR
   go_wp2_with fail
   clear k0 k1 k2 k3 f
   show bodyPost _ _ _ _ _ (storeAll w1 (w.heap.size + 2) [.int .i64 0,.int .i64 0,.slice none 0 0,.bool false] 0)
   have hfin:=za4 Hbz.out rfl [.int .i64 0,.int .i64 0,.slice none 0 0,.bool false] rfl
   have HSt:=Lib.hid (za1 (w.heap.size + 2) [.int .i64 0,.int .i64 0,.slice none 0 0,.bool false] 0 w1)
   generalize storeAll w1 (w.heap.size + 2) [.int .i64 0,.int .i64 0,.slice none 0 0,.bool false] 0=Wf at *
   have r0:=za0 hfin 0 rfl
   have r1:=za0 hfin 1 rfl
   have r2:=za0 hfin 2 rfl
   have r3:=za0 hfin 3 rfl
   refine bodyPost_ret (v:=.tuple #[.agg #[.int .i64 0,.int .i64 0,.slice none 0 0,.bool false],strV (atT 2 xa)]) (by simp [results,Tryz.results34,go_sem,r0,r1,r2,r3]) rfl ?_
   exact HMm.out.fin Hbz.out (by omega) HB.out HSt.out rfl
 ·obtain ⟨an,rfl⟩:=Int.eq_ofNat_of_zero_le (show 0≤xa by omega)
  have h8:an < 8:=by omega
  have hln:an < T.length:=by rw [hd0.tab.1];exact h8
  have kHas:W0.cell? ⟨d.tb,8 + an,none⟩=some (.bool (RepP.tat T an).isSome):=hd0.tab.2.has (hasT_at hln)
  have kVal:W0.cell? ⟨d.tb,an,none⟩=some (.int .u16 ((RepP.tat T an).getD 0:Nat)):=hd0.tab.2.val (valsT_at hln)
  have p1:decide ((an:Int) < 0)=false:=decide_eq_false (by omega)
  have p2:decide (7 < (an:Int))=false:=decide_eq_false (by omega)
  have p3:decide ((an:Int) < 8)=true:=decide_eq_true (by omega)
  have p4:decide (an < 8)=true:=decide_eq_true h8
  have p5:(an:Int) < 8:=by omega
  have g1:=za0 hH 1 rfl
  have o0:=za0 hO 0 rfl
  have o1:=za0 hO 1 rfl
  have o2:=za0 hO 2 rfl
  have o3:=za0 hO 3 rfl
  have o4:=za0 hO 4 rfl
  have o5:=za0 hO 5 rfl
  have hbz:=hR
  have HH:=Lib.hid hH
  have HO:=Lib.hid hO
  have Hbz:=Lib.hid hbz
  have k0:=za0 hbz 0 rfl
  have k1:=za0 hbz 1 rfl
  have k2:=za0 hbz 2 rfl
  have k3:=za0 hbz 3 rfl
  have f:=fun i=>za2 hbz i
  cases hv:RepP.tat T an with
  | none=>
   rw [hv] at kHas
   have HM:Hid (∀ q,MidD w0 w B x node T d mv (ApeP.opT x.plain (node:Int) part T s ⟨10,xp,(an:Nat),xb,xc,xd⟩) ⟨10,0,none,0,[],false⟩ [] (W0.drewN q)):=Lib.hid fun q=>by
    have hbq:Below W0.heap.size W0 (W0.drewN q):=zb0 (Below.refl _ _) q
    have e:(ApeP.opT x.plain (node:Int) part T s ⟨10,xp,(an:Nat),xb,xc,xd⟩)=((⟨10,0,[],false⟩,none),s):=(zc7 (by show (10:Nat)≠1;decide)).trans (by rw [zm7];unfold askT;rw [if_neg hbad,Int.toNat_natCast,hv])
    rw [e]
    exact ⟨d,rfl,DocB.none_,ErrT.none_,hd0.below hbq,hm0.below hbq,(hw0 mv).trans (WentD.of_below hbq d mv)⟩
   clear hd hm hH hO hR hd0 hm0 hw0 hb0 hW0 hB hbz hT hln hv hbad kVal
   generalize (ApeP.opT x.plain (node:Int) part T s ⟨10,xp,(an:Nat),xb,xc,xd⟩)=rr at *
   go_enter Tryz.func34,Tryz.ntmps34
   go_upto_region 1 with (fail)
   rw [HE0.out]
   go_wp2_with fail
   go_quiet (fail)
   go_wp2_with fail
   clear k0 k1 k2 k3 f
   have Hbz:Hid ((W0.drewN nq).heap[w.heap.size + 2]? = some (.cells #[.int .i64 0,.int .i64 0,.slice none 0 0,.bool false] 94 (0,0))):=Lib.hid Hbz.out
   show bodyPost _ _ _ _ _ (storeAll (W0.drewN nq) (w.heap.size + 2) [.int .i64 10,.int .i64 0,.slice none 0 0,.bool false] 0)
   have hfin:=za4 Hbz.out rfl [.int .i64 10,.int .i64 0,.slice none 0 0,.bool false] rfl
   have HSt:=Lib.hid (za1 (w.heap.size + 2) [.int .i64 10,.int .i64 0,.slice none 0 0,.bool false] 0 (W0.drewN nq))
   generalize storeAll (W0.drewN nq) (w.heap.size + 2) [.int .i64 10,.int .i64 0,.slice none 0 0,.bool false] 0=Wf at *
   have r0:=za0 hfin 0 rfl
   have r1:=za0 hfin 1 rfl
   have r2:=za0 hfin 2 rfl
   have r3:=za0 hfin 3 rfl
   refine bodyPost_ret (v:=.tuple #[.agg #[.int .i64 10,.int .i64 0,.slice none 0 0,.bool false],.string ⟨#[]⟩]) (by simp [results,Tryz.results34,go_sem,r0,r1,r2,r3]) rfl ?_
   exact (HM.out nq).fin Hbz.out (by omega) HB.out HSt.out rfl
  | some v=>
   rw [hv] at kHas kVal
   have hv16:=hT an v hv
   have HM:Hid (∀ q,MidD w0 w B x node T d mv (ApeP.opT x.plain (node:Int) part T s ⟨10,xp,(an:Nat),xb,xc,xd⟩) ⟨0,(v:Nat),none,0,[],false⟩ [] (W0.drewN q)):=Lib.hid fun q=>by
    have hbq:Below W0.heap.size W0 (W0.drewN q):=zb0 (Below.refl _ _) q
    have e:(ApeP.opT x.plain (node:Int) part T s ⟨10,xp,(an:Nat),xb,xc,xd⟩)=((⟨0,(v:Nat),[],false⟩,none),s):=(zc7 (by show (10:Nat)≠1;decide)).trans (by rw [zm7];unfold askT;rw [if_neg hbad,Int.toNat_natCast,hv])
    rw [e]
    exact ⟨d,rfl,DocB.none_,ErrT.none_,hd0.below hbq,hm0.below hbq,(hw0 mv).trans (WentD.of_below hbq d mv)⟩
   have e1:IntKind.i64.wrap (v:Int)=(v:Int):=IntWalk.i64_in _ (by omega)
   clear hd hm hH hO hR hd0 hm0 hw0 hb0 hW0 hB hbz hT hln hv hbad hv16
   generalize (ApeP.opT x.plain (node:Int) part T s ⟨10,xp,(an:Nat),xb,xc,xd⟩)=rr at *
   go_enter Tryz.func34,Tryz.ntmps34
   go_upto_region 1 with (fail)
   rw [HE0.out]
   go_wp2_with fail
   go_quiet (fail)
   go_upto_region 27 with (fail)
   have hS0:(W0.drewN nq).drew.heap[w.heap.size]? = some (.cells #[.pointer (some ⟨d.ra,0,none⟩),.pointer (some ⟨d.tb,0,none⟩),.pointer (some ⟨d.rm,0,none⟩),.pointer (some ⟨d.cb,0,none⟩)] 53 (0,0))∧(W0.drewN nq).drew.heap[w.heap.size + 1]? = some (.cells #[.int .u8 10,.int .i64 xp,.int .i64 (an:Nat),.int .i64 xb,.int .i64 xc,.slice xD xm xcap] 91 (0,0))∧(W0.drewN nq).drew.cell? ⟨d.tb,an,none⟩=some (.int .u16 (v:Nat))∧(W0.drewN nq).drew.heap[w.heap.size + 2]? = some (.cells #[.int .i64 0,.int .i64 0,.slice none 0 0,.bool false] 94 (0,0)):=⟨HH.out,HO.out,kVal,Hbz.out⟩
   clear o0 o1 o2 o3 o4 o5 g1 kHas kVal
   have s1:∀ W:World,S27 w.heap.size d.tb an v W #[.pointer (some ⟨d.ra,0,none⟩),.pointer (some ⟨d.tb,0,none⟩),.pointer (some ⟨d.rm,0,none⟩),.pointer (some ⟨d.cb,0,none⟩)] #[.int .u8 10,.int .i64 xp,.int .i64 (an:Nat),.int .i64 xb,.int .i64 xc,.slice xD xm xcap]→W.cell? ⟨w.heap.size,1,none⟩=some (.pointer (some ⟨d.tb,0,none⟩)):=fun W hW=>za0 hW.1 1 rfl
   have s2:∀ W:World,S27 w.heap.size d.tb an v W #[.pointer (some ⟨d.ra,0,none⟩),.pointer (some ⟨d.tb,0,none⟩),.pointer (some ⟨d.rm,0,none⟩),.pointer (some ⟨d.cb,0,none⟩)] #[.int .u8 10,.int .i64 xp,.int .i64 (an:Nat),.int .i64 xb,.int .i64 xc,.slice xD xm xcap]→W.cell? ⟨w.heap.size + 1,2,none⟩=some (.int .i64 (an:Nat)):=fun W hW=>za0 hW.2.1 2 rfl
   have s3:∀ W:World,S27 w.heap.size d.tb an v W #[.pointer (some ⟨d.ra,0,none⟩),.pointer (some ⟨d.tb,0,none⟩),.pointer (some ⟨d.rm,0,none⟩),.pointer (some ⟨d.cb,0,none⟩)] #[.int .u8 10,.int .i64 xp,.int .i64 (an:Nat),.int .i64 xb,.int .i64 xc,.slice xD xm xcap]→W.cell? ⟨d.tb,an,none⟩=some (.int .u16 (v:Nat)):=fun W hW=>hW.2.2.1
   refine za9 (st:=10) (S:=fun W=>S27 w.heap.size d.tb an v W #[.pointer (some ⟨d.ra,0,none⟩),.pointer (some ⟨d.tb,0,none⟩),.pointer (some ⟨d.rm,0,none⟩),.pointer (some ⟨d.cb,0,none⟩)] #[.int .u8 10,.int .i64 xp,.int .i64 (an:Nat),.int .i64 xb,.int .i64 xc,.slice xD xm xcap]) (by kernel_rfl) hS0 (fun _=>?_)
   refine tL 0 hS0 ?_
   try simp only [Act.put,tkT,tk0,tkS]
   refine tL 1 hS0 ?_
   try simp only [Act.put,tkT,tk0,tkS]
   refine tL 2 hS0 ?_
   try simp only [Act.put,tkT,tk0,tkS]
   refine tL 3 hS0 ?_
   try simp only [Act.put,tkT,tk0,tkS]
   refine tL 4 hS0 ?_
   try simp only [Act.put,tkT,tk0,tkS]
   refine tL 5 hS0 ?_
   try simp only [Act.put,tkT,tk0,tkS]
   refine tL 6 hS0 ?_
   try simp only [Act.put,tkT,tk0,tkS]
   refine tL 7 hS0 ?_
   try simp only [Act.put,tkT,tk0,tkS]
   refine tL 8 hS0 ?_
   try simp only [Act.put,tkT,tk0,tkS]
   refine tL 9 hS0 ?_
   try simp only [Act.put,tkT,tk0,tkS]
   refine zc0 (k:=10) (by kernel_rfl) (by simp only [tkA,tkG];rfl) (fun K hK=>?_)
   go_simp
   go_wp2_with fail
   refine hK.out _ _ ?_
   clear hK K
   refine za8 (k:=11) (by kernel_rfl) (by simp only [tkA,tkG];rfl) (fun K hK=>?_)
   go_simp
   try go_wp2_with fail
   refine hK.out _ _ (fun e=>absurd (show (true:Bool)=false from e) (by decide)) ?_
   clear hK K
   refine zb9 (by kernel_rfl) ?_ _
   clear s1 s2 s3 hS0
   go_wp2_with fail
   clear k0 k1 k2 k3 f
   have Hbz:Hid ((W0.drewN (nq + 1)).heap[w.heap.size + 2]? = some (.cells #[.int .i64 0,.int .i64 0,.slice none 0 0,.bool false] 94 (0,0))):=Lib.hid Hbz.out
   have HMq:=Lib.hid (HM.out (nq + 1))
   show bodyPost _ _ _ _ _ (storeAll (W0.drewN (nq + 1)) (w.heap.size + 2) [.int .i64 0,.int .i64 (v:Nat),.slice none 0 0,.bool false] 0)
   have hfin:=za4 Hbz.out rfl [.int .i64 0,.int .i64 (v:Nat),.slice none 0 0,.bool false] rfl
   have HSt:=Lib.hid (za1 (w.heap.size + 2) [.int .i64 0,.int .i64 (v:Nat),.slice none 0 0,.bool false] 0 (W0.drewN (nq + 1)))
   generalize storeAll (W0.drewN (nq + 1)) (w.heap.size + 2) [.int .i64 0,.int .i64 (v:Nat),.slice none 0 0,.bool false] 0=Wf at *
   have r0:=za0 hfin 0 rfl
   have r1:=za0 hfin 1 rfl
   have r2:=za0 hfin 2 rfl
   have r3:=za0 hfin 3 rfl
   refine bodyPost_ret (v:=.tuple #[.agg #[.int .i64 0,.int .i64 (v:Nat),.slice none 0 0,.bool false],.string ⟨#[]⟩]) (by simp [results,Tryz.results34,go_sem,r0,r1,r2,r3]) rfl ?_
   exact HMq.out.fin Hbz.out (by omega) HB.out HSt.out rfl
set_option maxHeartbeats 4000000 in
theorem rop_cmd7 {w0 w:World} {B:Nat} {x:CfgC} {node part:Nat} {T:RepP.T} {d:DocC} {s:ApeP.AS} {mv:Value} (hd:DocIn w0 w B x node T d s.ports s.mon s.cmd) (hm:MemR w B mv s.mem) (hB:B≤w.heap.size) (hpt:part≤255) (xp xa xb xc:Int) (xD:Option Addr) (xm xcap:Nat) (xd:List UInt8) (hxa:xa≤9223372036854775807):Calls Tryz.prog 34 #[.int .i64 (part:Nat),mv,docV d,.agg #[.int .u8 7,.int .i64 xp,.int .i64 xa,.int .i64 xb,.int .i64 xc,.slice xD xm xcap]] w (DoD w0 w B x node T d mv (ApeP.opT x.plain (node:Int) part T s ⟨7,xp,xa,xb,xc,xd⟩)):=by
 have hb0:Below w.heap.size w (((w.alloc (.cells #[.pointer (some ⟨d.ra,0,none⟩),.pointer (some ⟨d.tb,0,none⟩),.pointer (some ⟨d.rm,0,none⟩),.pointer (some ⟨d.cb,0,none⟩)] 53)).alloc (.cells #[.int .u8 7,.int .i64 xp,.int .i64 xa,.int .i64 xb,.int .i64 xc,.slice xD xm xcap] 91)).alloc (.cells #[.int .i64 0,.int .i64 0,.slice none 0 0,.bool false] 94)):=(((Below.refl _ _).alloc (Nat.le_refl _) _).alloc (by simp) _).alloc (by simp;omega) _
 unfold docV
 generalize hW0:(((w.alloc (.cells #[.pointer (some ⟨d.ra,0,none⟩),.pointer (some ⟨d.tb,0,none⟩),.pointer (some ⟨d.rm,0,none⟩),.pointer (some ⟨d.cb,0,none⟩)] 53)).alloc (.cells #[.int .u8 7,.int .i64 xp,.int .i64 xa,.int .i64 xb,.int .i64 xc,.slice xD xm xcap] 91)).alloc (.cells #[.int .i64 0,.int .i64 0,.slice none 0 0,.bool false] 94))=W0 at *
 have hH:W0.heap[w.heap.size]? = some (.cells #[.pointer (some ⟨d.ra,0,none⟩),.pointer (some ⟨d.tb,0,none⟩),.pointer (some ⟨d.rm,0,none⟩),.pointer (some ⟨d.cb,0,none⟩)] 53 (0,0)):=by rw [← hW0,allocAt _ _ _ (by simp;omega),allocAt _ _ _ (by simp)];exact newAt _ _
 have hO:W0.heap[w.heap.size + 1]? = some (.cells #[.int .u8 7,.int .i64 xp,.int .i64 xa,.int .i64 xb,.int .i64 xc,.slice xD xm xcap] 91 (0,0)):=by rw [← hW0,allocAt _ _ _ (by simp)];exact newAt1 _ _ _
 have hR:W0.heap[w.heap.size + 2]? = some (.cells #[.int .i64 0,.int .i64 0,.slice none 0 0,.bool false] 94 (0,0)):=by
  rw [← hW0]
  have:=newAt ((w.alloc (.cells #[.pointer (some ⟨d.ra,0,none⟩),.pointer (some ⟨d.tb,0,none⟩),.pointer (some ⟨d.rm,0,none⟩),.pointer (some ⟨d.cb,0,none⟩)] 53)).alloc (.cells #[.int .u8 7,.int .i64 xp,.int .i64 xa,.int .i64 xb,.int .i64 xc,.slice xD xm xcap] 91)) (.cells #[.int .i64 0,.int .i64 0,.slice none 0 0,.bool false] 94)
  simpa using this
 have hd0:=hd.below hb0
 have hm0:=hm.below hb0
 have HE0:=Lib.hid hW0
 have hw0:∀ mv,WentD w d mv d W0:=fun mv=>WentD.of_below hb0 d mv
 have HB:=Lib.hid hB
 have hC:=hd0.cmd
 by_cases hbad:xa < 0∨7 < xa
 ·have HM:Hid (∀ t w1,ErrT (some 2) t→Below W0.heap.size W0 w1→MidD w0 w B x node T d mv (ApeP.opT x.plain (node:Int) part T s ⟨7,xp,xa,xb,xc,xd⟩) ⟨0,0,none,0,[],false⟩ t w1):=Lib.hid fun t w1 ht g=>by
   rw [show (ApeP.opT x.plain (node:Int) part T s ⟨7,xp,xa,xb,xc,xd⟩)=((ApeP.Res.zero,some 2),s) from (zc7 (by show (7:Nat)≠1;decide)).trans (by rw [zo3];unfold waitC;rw [if_pos hbad])]
   exact ⟨d,rfl,DocB.none_,ht,hd0.below g,hm0.below g,(hw0 mv).trans (WentD.of_below g d mv)⟩
  by_cases h1:xa < 0
  ·have p1:decide (xa < 0)=true:=decide_eq_true h1
   have HAt:=Lib.hid (fun W=>zc5 2 xa W (by decide) hxa)
   have HTx:Hid (ErrT (some 2) (atT 2 xa)):=Lib.hid (ErrT.at_ (by decide) hxa)
   have o0:=za0 hO 0 rfl
   have o1:=za0 hO 1 rfl
   have o2:=za0 hO 2 rfl
   have o3:=za0 hO 3 rfl
   have o4:=za0 hO 4 rfl
   have o5:=za0 hO 5 rfl
   have HR:=Lib.hid hR
   clear hd hm hH hO hR hd0 hm0 hw0 hb0 hW0 hB hbad h1 hC hpt
   generalize (ApeP.opT x.plain (node:Int) part T s ⟨7,xp,xa,xb,xc,xd⟩)=rr at *
   go_enter Tryz.func34,Tryz.ntmps34
   go_wp2_with fail
   rw [HE0.out]
   refine (HAt.out _).mono ?_
   rintro e w1 ⟨rfl,hb1⟩
   have hbz:=(hb1.block _ (lt_of_block HR.out)).trans HR.out
   have Hbz:=Lib.hid hbz
   have k0:=za0 hbz 0 rfl
   have k1:=za0 hbz 1 rfl
   have k2:=za0 hbz 2 rfl
   have k3:=za0 hbz 3 rfl
   have f:=fun i=>za2 hbz i
   have HMm:=Lib.hid (HM.out _ w1 HTx.out hb1)
   clear hbz hb1 HM HAt HTx HR
   go_wp2_with fail
   clear k0 k1 k2 k3 f
   show bodyPost _ _ _ _ _ (storeAll w1 (w.heap.size + 2) [.int .i64 0,.int .i64 0,.slice none 0 0,.bool false] 0)
   have hfin:=za4 Hbz.out rfl [.int .i64 0,.int .i64 0,.slice none 0 0,.bool false] rfl
   have HSt:=Lib.hid (za1 (w.heap.size + 2) [.int .i64 0,.int .i64 0,.slice none 0 0,.bool false] 0 w1)
   generalize storeAll w1 (w.heap.size + 2) [.int .i64 0,.int .i64 0,.slice none 0 0,.bool false] 0=Wf at *
   have r0:=za0 hfin 0 rfl
   have r1:=za0 hfin 1 rfl
   have r2:=za0 hfin 2 rfl
   have r3:=za0 hfin 3 rfl
   refine bodyPost_ret (v:=.tuple #[.agg #[.int .i64 0,.int .i64 0,.slice none 0 0,.bool false],strV (atT 2 xa)]) (by simp [results,Tryz.results34,go_sem,r0,r1,r2,r3]) rfl ?_
   exact HMm.out.fin Hbz.out (by omega) HB.out HSt.out rfl
  ·have p1:decide (xa < 0)=false:=decide_eq_false h1
   have p2:decide (7 < xa)=true:=decide_eq_true (by omega)
   have HAt:=Lib.hid (fun W=>zc5 2 xa W (by decide) hxa)
   have HTx:Hid (ErrT (some 2) (atT 2 xa)):=Lib.hid (ErrT.at_ (by decide) hxa)
   have o0:=za0 hO 0 rfl
   have o1:=za0 hO 1 rfl
   have o2:=za0 hO 2 rfl
   have o3:=za0 hO 3 rfl
   have o4:=za0 hO 4 rfl
   have o5:=za0 hO 5 rfl
   have HR:=Lib.hid hR
   clear hd hm hH hO hR hd0 hm0 hw0 hb0 hW0 hB hbad h1 hC hpt
   generalize (ApeP.opT x.plain (node:Int) part T s ⟨7,xp,xa,xb,xc,xd⟩)=rr at *
   go_enter Tryz.func34,Tryz.ntmps34
   go_wp2_with fail
   rw [HE0.out]
   refine (HAt.out _).mono ?_
   rintro e w1 ⟨rfl,hb1⟩
   have hbz:=(hb1.block _ (lt_of_block HR.out)).trans HR.out
   have Hbz:=Lib.hid hbz
   have k0:=za0 hbz 0 rfl
   have k1:=za0 hbz 1 rfl
   have k2:=za0 hbz 2 rfl
   have k3:=za0 hbz 3 rfl
   have f:=fun i=>za2 hbz i
   have HMm:=Lib.hid (HM.out _ w1 HTx.out hb1)
   clear hbz hb1 HM HAt HTx HR
   go_wp2_with fail
   clear k0 k1 k2 k3 f
   show bodyPost _ _ _ _ _ (storeAll w1 (w.heap.size + 2) [.int .i64 0,.int .i64 0,.slice none 0 0,.bool false] 0)
   have hfin:=za4 Hbz.out rfl [.int .i64 0,.int .i64 0,.slice none 0 0,.bool false] rfl
   have HSt:=Lib.hid (za1 (w.heap.size + 2) [.int .i64 0,.int .i64 0,.slice none 0 0,.bool false] 0 w1)
   generalize storeAll w1 (w.heap.size + 2) [.int .i64 0,.int .i64 0,.slice none 0 0,.bool false] 0=Wf at *
   have r0:=za0 hfin 0 rfl
   have r1:=za0 hfin 1 rfl
   have r2:=za0 hfin 2 rfl
   have r3:=za0 hfin 3 rfl
   refine bodyPost_ret (v:=.tuple #[.agg #[.int .i64 0,.int .i64 0,.slice none 0 0,.bool false],strV (atT 2 xa)]) (by simp [results,Tryz.results34,go_sem,r0,r1,r2,r3]) rfl ?_
   exact HMm.out.fin Hbz.out (by omega) HB.out HSt.out rfl
 ·obtain ⟨an,rfl⟩:=Int.eq_ofNat_of_zero_le (show 0≤xa by omega)
  have p1:decide ((an:Int) < 0)=false:=decide_eq_false (by omega)
  have p2:decide (7 < (an:Int))=false:=decide_eq_false (by omega)
  have g3:=za0 hH 3 rfl
  have c0:W0.cell? ⟨d.cb,0,none⟩=some (.int .u8 (s.cmd.kind:Nat)):=za0 hC 0 rfl
  by_cases hk:s.cmd.kind=0
  case neg=>
   have HM:Hid (∀ t w1,ErrT (some 14) t→Below W0.heap.size W0 w1→MidD w0 w B x node T d mv (ApeP.opT x.plain (node:Int) part T s ⟨7,xp,(an:Nat),xb,xc,xd⟩) ⟨0,0,none,0,[],false⟩ t w1):=Lib.hid fun t w1 ht g=>by
    rw [show (ApeP.opT x.plain (node:Int) part T s ⟨7,xp,(an:Nat),xb,xc,xd⟩)=((ApeP.Res.zero,some 14),s) from (zc7 (by show (7:Nat)≠1;decide)).trans (by rw [zo3];unfold waitC;rw [if_neg hbad,if_pos hk])]
    exact ⟨d,rfl,DocB.none_,ht,hd0.below g,hm0.below g,(hw0 mv).trans (WentD.of_below g d mv)⟩
   have q1:((s.cmd.kind:Int) != 0)=true:=by simp;omega
   have q2:(s.cmd.kind != 0)=true:=by simp;omega
   have HAt:=Lib.hid (fun W=>zc5 14 (part:Nat) W (by decide) (ze7 part hpt))
   have HTx:Hid (ErrT (some 14) (atT 14 (part:Nat))):=Lib.hid (ErrT.at_ (by decide) (ze7 part hpt))
   have o0:=za0 hO 0 rfl
   have o1:=za0 hO 1 rfl
   have o2:=za0 hO 2 rfl
   have o3:=za0 hO 3 rfl
   have o4:=za0 hO 4 rfl
   have o5:=za0 hO 5 rfl
   have HR:=Lib.hid hR
   clear hd hm hH hO hR hd0 hm0 hw0 hb0 hW0 hB hbad hk hC hpt
   generalize (ApeP.opT x.plain (node:Int) part T s ⟨7,xp,(an:Nat),xb,xc,xd⟩)=rr at *
   generalize s.cmd.kind=ck at *
   go_enter Tryz.func34,Tryz.ntmps34
   go_upto_region 1 with (fail)
   rw [HE0.out]
   go_wp2_with fail
   refine (HAt.out _).mono ?_
   rintro e w1 ⟨rfl,hb1⟩
   have hbz:=(hb1.block _ (lt_of_block HR.out)).trans HR.out
   have Hbz:=Lib.hid hbz
   have k0:=za0 hbz 0 rfl
   have k1:=za0 hbz 1 rfl
   have k2:=za0 hbz 2 rfl
   have k3:=za0 hbz 3 rfl
   have f:=fun i=>za2 hbz i
   have HMm:=Lib.hid (HM.out _ w1 HTx.out hb1)
   clear hbz hb1 HM HAt HTx HR
   go_wp2_with fail
   clear k0 k1 k2 k3 f
   show bodyPost _ _ _ _ _ (storeAll w1 (w.heap.size + 2) [.int .i64 0,.int .i64 0,.slice none 0 0,.bool false] 0)
   have hfin:=za4 Hbz.out rfl [.int .i64 0,.int .i64 0,.slice none 0 0,.bool false] rfl
   have HSt:=Lib.hid (za1 (w.heap.size + 2) [.int .i64 0,.int .i64 0,.slice none 0 0,.bool false] 0 w1)
   generalize storeAll w1 (w.heap.size + 2) [.int .i64 0,.int .i64 0,.slice none 0 0,.bool false] 0=Wf at *
   have r0:=za0 hfin 0 rfl
   have r1:=za0 hfin 1 rfl
   have r2:=za0 hfin 2 rfl
   have r3:=za0 hfin 3 rfl
   refine bodyPost_ret (v:=.tuple #[.agg #[.int .i64 0,.int .i64 0,.slice none 0 0,.bool false],strV (atT 14 (part:Nat))]) (by simp [results,Tryz.results34,go_sem,r0,r1,r2,r3]) rfl ?_
   exact HMm.out.fin Hbz.out (by omega) HB.out HSt.out rfl
  case pos=>
   rw [hk] at c0
   have b8:IntKind.u8.wrap (an:Int)=(an:Int):=by rw [IntKind.wrap_u8];omega
   have bb:=zb8 xb
   have bc:=zb8 xc
   have hT:(ApeP.opT x.plain (node:Int) part T s ⟨7,xp,(an:Nat),xb,xc,xd⟩)=((ApeP.Res.zero,none),⟨s.mem,s.ports,s.mon,⟨1,an,ApeP.cut16 xb,0⟩⟩):=(zc7 (by show (7:Nat)≠1;decide)).trans (by rw [zo3];unfold waitC;rw [if_neg hbad,if_neg (by simp [hk]),Int.toNat_natCast])
   have h7:an≤7:=by omega
   have hb1:Below W0.heap.size W0 (W0.alloc (.cells #[.int .u8 2,.int .u8 (an:Nat),.int .u16 0,.int .u16 0] 51)):=(Below.refl _ _).alloc (Nat.le_refl _) _
   have hX1:(W0.alloc (.cells #[.int .u8 2,.int .u8 (an:Nat),.int .u16 0,.int .u16 0] 51)).heap[W0.heap.size]? = some (.cells #[.int .u8 2,.int .u8 (an:Nat),.int .u16 0,.int .u16 0] 51 (0,0)):=newAt _ _
   have hH1:=(hb1.block _ (lt_of_block hH)).trans hH
   have hO1:=(hb1.block _ (lt_of_block hO)).trans hO
   have hR1:=(hb1.block _ (lt_of_block hR)).trans hR
   have hC1:=(hb1.block _ (lt_of_block hC)).trans hC
   have hcX:d.cb≠W0.heap.size:=Nat.ne_of_lt (lt_of_block hC)
   have hhX:w.heap.size≠W0.heap.size:=Nat.ne_of_lt (lt_of_block hH)
   have hoX:w.heap.size + 1≠W0.heap.size:=Nat.ne_of_lt (lt_of_block hO)
   have hrX:w.heap.size + 2≠W0.heap.size:=Nat.ne_of_lt (lt_of_block hR)
   have o0:=za0 hO 0 rfl
   have o1:=za0 hO 1 rfl
   have o2:=za0 hO 2 rfl
   have o3:=za0 hO 3 rfl
   have o4:=za0 hO 4 rfl
   have o5:=za0 hO 5 rfl
   have Hd0:=Lib.hid hd0
   have Hm0:=Lib.hid hm0
   have Hw0:=Lib.hid (hw0 mv)
   have HT:=Lib.hid hT
   clear hd hm hH hO hR hC hd0 hm0 hw0 hb0 hW0 hB hT hbad hpt
   go_enter Tryz.func34,Tryz.ntmps34
   go_upto_region 1 with (fail)
   rw [HE0.out]
   go_upto_region 31 with (fail)
   clear o0 o1 o2 o3 o4 o5 g3 c0
   generalize (W0.alloc (.cells #[.int .u8 2,.int .u8 (an:Nat),.int .u16 0,.int .u16 0] 51))=W1 at *
   have x0:=za0 hX1 0 rfl
   have x1:=za0 hX1 1 rfl
   have x2:=za0 hX1 2 rfl
   have x3:=za0 hX1 3 rfl
   have fx:=fun i=>za2 hX1 i
   have g3:=za0 hH1 3 rfl
   have o0:=za0 hO1 0 rfl
   have o2:=za0 hO1 2 rfl
   have o3:=za0 hO1 3 rfl
   have o4:=za0 hO1 4 rfl
   have m0:W1.cell? ⟨d.cb,0,none⟩=some (.int .u8 (s.cmd.kind:Nat)):=za0 hC1 0 rfl
   have m1:W1.cell? ⟨d.cb,1,none⟩=some (.int .u8 (s.cmd.key:Nat)):=za0 hC1 1 rfl
   have m2:W1.cell? ⟨d.cb,2,none⟩=some (.int .u16 (s.cmd.val:Nat)):=za0 hC1 2 rfl
   have m3:W1.cell? ⟨d.cb,3,none⟩=some (.int .u16 (s.cmd.old:Nat)):=za0 hC1 3 rfl
   have fc:=fun i=>za2 hC1 i
   have hA1:Apart (fun k=>k=W0.heap.size) W1 ((((W1.setCell ⟨W0.heap.size,0,none⟩ (.int .u8 1)).setCell ⟨W0.heap.size,1,none⟩ (.int .u8 (an:Nat))).setCell ⟨W0.heap.size,2,none⟩ (.int .u16 (ApeP.cut16 xb:Nat))).setCell ⟨W0.heap.size,3,none⟩ (.int .u16 0)):=za1 W0.heap.size [.int .u8 1,.int .u8 (an:Nat),.int .u16 (ApeP.cut16 xb:Nat),.int .u16 0] 0 W1
   have hX2:((((W1.setCell ⟨W0.heap.size,0,none⟩ (.int .u8 1)).setCell ⟨W0.heap.size,1,none⟩ (.int .u8 (an:Nat))).setCell ⟨W0.heap.size,2,none⟩ (.int .u16 (ApeP.cut16 xb:Nat))).setCell ⟨W0.heap.size,3,none⟩ (.int .u16 0)).heap[W0.heap.size]? = some (.cells #[.int .u8 1,.int .u8 (an:Nat),.int .u16 (ApeP.cut16 xb:Nat),.int .u16 0] 51 (0,0)):=zf7 hX1 rfl [.int .u8 1,.int .u8 (an:Nat),.int .u16 (ApeP.cut16 xb:Nat),.int .u16 0] rfl
   have hH2:=(hA1.block _ (lt_of_block hH1) hhX).trans hH1
   have hO2:=(hA1.block _ (lt_of_block hO1) hoX).trans hO1
   have hR2:=(hA1.block _ (lt_of_block hR1) hrX).trans hR1
   have hC2:=(hA1.block _ (lt_of_block hC1) hcX).trans hC1
   have hb2:Below W0.heap.size W0 ((((W1.setCell ⟨W0.heap.size,0,none⟩ (.int .u8 1)).setCell ⟨W0.heap.size,1,none⟩ (.int .u8 (an:Nat))).setCell ⟨W0.heap.size,2,none⟩ (.int .u16 (ApeP.cut16 xb:Nat))).setCell ⟨W0.heap.size,3,none⟩ (.int .u16 0)):=hb1.trans (hA1.below hb1.size fun k hk=>by rw [hk];exact Nat.le_refl _)
   go_upto_region 33 with (fail)
   clear x0 x1 x2 x3 fx g3 o0 o2 o3 o4 m0 m1 m2 m3 fc
   generalize ((((W1.setCell ⟨W0.heap.size,0,none⟩ (.int .u8 1)).setCell ⟨W0.heap.size,1,none⟩ (.int .u8 (an:Nat))).setCell ⟨W0.heap.size,2,none⟩ (.int .u16 (ApeP.cut16 xb:Nat))).setCell ⟨W0.heap.size,3,none⟩ (.int .u16 0))=W2 at *
   have x0:=za0 hX2 0 rfl
   have x1:=za0 hX2 1 rfl
   have x2:=za0 hX2 2 rfl
   have x3:=za0 hX2 3 rfl
   have fx:=fun i=>za2 hX2 i
   have g3:=za0 hH2 3 rfl
   have o0:=za0 hO2 0 rfl
   have o2:=za0 hO2 2 rfl
   have o3:=za0 hO2 3 rfl
   have o4:=za0 hO2 4 rfl
   have m0:W2.cell? ⟨d.cb,0,none⟩=some (.int .u8 (s.cmd.kind:Nat)):=za0 hC2 0 rfl
   have m1:W2.cell? ⟨d.cb,1,none⟩=some (.int .u8 (s.cmd.key:Nat)):=za0 hC2 1 rfl
   have m2:W2.cell? ⟨d.cb,2,none⟩=some (.int .u16 (s.cmd.val:Nat)):=za0 hC2 2 rfl
   have m3:W2.cell? ⟨d.cb,3,none⟩=some (.int .u16 (s.cmd.old:Nat)):=za0 hC2 3 rfl
   have fc:=fun i=>za2 hC2 i
   go_upto_region 35 with (fail)
   have hA3:Apart (fun k=>k=d.cb) W2 ((((W2.setCell ⟨d.cb,0,none⟩ (.int .u8 1)).setCell ⟨d.cb,1,none⟩ (.int .u8 (an:Nat))).setCell ⟨d.cb,2,none⟩ (.int .u16 (ApeP.cut16 xb:Nat))).setCell ⟨d.cb,3,none⟩ (.int .u16 0)):=za1 d.cb [.int .u8 1,.int .u8 (an:Nat),.int .u16 (ApeP.cut16 xb:Nat),.int .u16 0] 0 W2
   have hC3:((((W2.setCell ⟨d.cb,0,none⟩ (.int .u8 1)).setCell ⟨d.cb,1,none⟩ (.int .u8 (an:Nat))).setCell ⟨d.cb,2,none⟩ (.int .u16 (ApeP.cut16 xb:Nat))).setCell ⟨d.cb,3,none⟩ (.int .u16 0)).heap[d.cb]? = some (.cells (cmdVals ⟨1,an,ApeP.cut16 xb,0⟩).toArray 51 (0,0)):=zf7 hC2 rfl [.int .u8 1,.int .u8 (an:Nat),.int .u16 (ApeP.cut16 xb:Nat),.int .u16 0] rfl
   have hd2:=Hd0.out.below hb2
   obtain ⟨e1,e2,e3⟩:=hd2.toCmd hC3 ⟨by show (1:Nat)≤255;decide,by show an≤255;omega,zc8 xb,(show (0:Nat) < 65536 by decide)⟩ hA3
   have HM:Hid (MidD w0 w B x node T d mv (ApeP.opT x.plain (node:Int) part T s ⟨7,xp,(an:Nat),xb,xc,xd⟩) ⟨0,0,none,0,[],false⟩ [] ((((W2.setCell ⟨d.cb,0,none⟩ (.int .u8 1)).setCell ⟨d.cb,1,none⟩ (.int .u8 (an:Nat))).setCell ⟨d.cb,2,none⟩ (.int .u16 (ApeP.cut16 xb:Nat))).setCell ⟨d.cb,3,none⟩ (.int .u16 0))):=Lib.hid (by
    rw [HT.out]
    exact ⟨d,rfl,DocB.none_,ErrT.none_,e1,(Hm0.out.below hb2).beside hd2 e3,Hw0.out.trans ((WentD.of_below hb2 d mv).trans (e2 mv))⟩)
   have hbz:=hd2.resOff e3 hR2 ze4
   clear hA3 hC3 hd2 e1 e2 e3
   generalize (ApeP.opT x.plain (node:Int) part T s ⟨7,xp,(an:Nat),xb,xc,xd⟩)=rr at *
   go_upto_region 36 with (fail)
   clear x0 x1 x2 x3 fx g3 o0 o2 o3 o4 m0 m1 m2 m3 fc
   generalize ((((W2.setCell ⟨d.cb,0,none⟩ (.int .u8 1)).setCell ⟨d.cb,1,none⟩ (.int .u8 (an:Nat))).setCell ⟨d.cb,2,none⟩ (.int .u16 (ApeP.cut16 xb:Nat))).setCell ⟨d.cb,3,none⟩ (.int .u16 0))=W3 at *
   have Hbz:=Lib.hid hbz
   have k0:=za0 hbz 0 rfl
   have k1:=za0 hbz 1 rfl
   have k2:=za0 hbz 2 rfl
   have k3:=za0 hbz 3 rfl
   have f:=fun i=>za2 hbz i
   clear hbz
   go_wp2_with fail
   clear k0 k1 k2 k3 f
   show bodyPost _ _ _ _ _ (storeAll W3 (w.heap.size + 2) [.int .i64 0,.int .i64 0,.slice none 0 0,.bool false] 0)
   have hfin:=za4 Hbz.out rfl [.int .i64 0,.int .i64 0,.slice none 0 0,.bool false] rfl
   have HSt:=Lib.hid (za1 (w.heap.size + 2) [.int .i64 0,.int .i64 0,.slice none 0 0,.bool false] 0 W3)
   generalize storeAll W3 (w.heap.size + 2) [.int .i64 0,.int .i64 0,.slice none 0 0,.bool false] 0=Wf at *
   have r0:=za0 hfin 0 rfl
   have r1:=za0 hfin 1 rfl
   have r2:=za0 hfin 2 rfl
   have r3:=za0 hfin 3 rfl
   refine bodyPost_ret (v:=.tuple #[.agg #[.int .i64 0,.int .i64 0,.slice none 0 0,.bool false],.string ⟨#[]⟩]) (by simp [results,Tryz.results34,go_sem,r0,r1,r2,r3]) rfl ?_
   exact HM.out.fin Hbz.out (by omega) HB.out HSt.out rfl
set_option maxHeartbeats 4000000 in
theorem rop_cmd8 {w0 w:World} {B:Nat} {x:CfgC} {node part:Nat} {T:RepP.T} {d:DocC} {s:ApeP.AS} {mv:Value} (hd:DocIn w0 w B x node T d s.ports s.mon s.cmd) (hm:MemR w B mv s.mem) (hB:B≤w.heap.size) (hpt:part≤255) (xp xa xb xc:Int) (xD:Option Addr) (xm xcap:Nat) (xd:List UInt8) (hxa:xa≤9223372036854775807):Calls Tryz.prog 34 #[.int .i64 (part:Nat),mv,docV d,.agg #[.int .u8 8,.int .i64 xp,.int .i64 xa,.int .i64 xb,.int .i64 xc,.slice xD xm xcap]] w (DoD w0 w B x node T d mv (ApeP.opT x.plain (node:Int) part T s ⟨8,xp,xa,xb,xc,xd⟩)):=by
 have hb0:Below w.heap.size w (((w.alloc (.cells #[.pointer (some ⟨d.ra,0,none⟩),.pointer (some ⟨d.tb,0,none⟩),.pointer (some ⟨d.rm,0,none⟩),.pointer (some ⟨d.cb,0,none⟩)] 53)).alloc (.cells #[.int .u8 8,.int .i64 xp,.int .i64 xa,.int .i64 xb,.int .i64 xc,.slice xD xm xcap] 91)).alloc (.cells #[.int .i64 0,.int .i64 0,.slice none 0 0,.bool false] 94)):=(((Below.refl _ _).alloc (Nat.le_refl _) _).alloc (by simp) _).alloc (by simp;omega) _
 unfold docV
 generalize hW0:(((w.alloc (.cells #[.pointer (some ⟨d.ra,0,none⟩),.pointer (some ⟨d.tb,0,none⟩),.pointer (some ⟨d.rm,0,none⟩),.pointer (some ⟨d.cb,0,none⟩)] 53)).alloc (.cells #[.int .u8 8,.int .i64 xp,.int .i64 xa,.int .i64 xb,.int .i64 xc,.slice xD xm xcap] 91)).alloc (.cells #[.int .i64 0,.int .i64 0,.slice none 0 0,.bool false] 94))=W0 at *
 have hH:W0.heap[w.heap.size]? = some (.cells #[.pointer (some ⟨d.ra,0,none⟩),.pointer (some ⟨d.tb,0,none⟩),.pointer (some ⟨d.rm,0,none⟩),.pointer (some ⟨d.cb,0,none⟩)] 53 (0,0)):=by rw [← hW0,allocAt _ _ _ (by simp;omega),allocAt _ _ _ (by simp)];exact newAt _ _
 have hO:W0.heap[w.heap.size + 1]? = some (.cells #[.int .u8 8,.int .i64 xp,.int .i64 xa,.int .i64 xb,.int .i64 xc,.slice xD xm xcap] 91 (0,0)):=by rw [← hW0,allocAt _ _ _ (by simp)];exact newAt1 _ _ _
 have hR:W0.heap[w.heap.size + 2]? = some (.cells #[.int .i64 0,.int .i64 0,.slice none 0 0,.bool false] 94 (0,0)):=by
  rw [← hW0]
  have:=newAt ((w.alloc (.cells #[.pointer (some ⟨d.ra,0,none⟩),.pointer (some ⟨d.tb,0,none⟩),.pointer (some ⟨d.rm,0,none⟩),.pointer (some ⟨d.cb,0,none⟩)] 53)).alloc (.cells #[.int .u8 8,.int .i64 xp,.int .i64 xa,.int .i64 xb,.int .i64 xc,.slice xD xm xcap] 91)) (.cells #[.int .i64 0,.int .i64 0,.slice none 0 0,.bool false] 94)
  simpa using this
 have hd0:=hd.below hb0
 have hm0:=hm.below hb0
 have HE0:=Lib.hid hW0
 have hw0:∀ mv,WentD w d mv d W0:=fun mv=>WentD.of_below hb0 d mv
 have HB:=Lib.hid hB
 have hC:=hd0.cmd
 by_cases hbad:xa < 0∨7 < xa
 ·have HM:Hid (∀ t w1,ErrT (some 2) t→Below W0.heap.size W0 w1→MidD w0 w B x node T d mv (ApeP.opT x.plain (node:Int) part T s ⟨8,xp,xa,xb,xc,xd⟩) ⟨0,0,none,0,[],false⟩ t w1):=Lib.hid fun t w1 ht g=>by
   rw [show (ApeP.opT x.plain (node:Int) part T s ⟨8,xp,xa,xb,xc,xd⟩)=((ApeP.Res.zero,some 2),s) from (zc7 (by show (8:Nat)≠1;decide)).trans (by rw [zo4];unfold waitC;rw [if_pos hbad])]
   exact ⟨d,rfl,DocB.none_,ht,hd0.below g,hm0.below g,(hw0 mv).trans (WentD.of_below g d mv)⟩
  by_cases h1:xa < 0
  ·have p1:decide (xa < 0)=true:=decide_eq_true h1
   have HAt:=Lib.hid (fun W=>zc5 2 xa W (by decide) hxa)
   have HTx:Hid (ErrT (some 2) (atT 2 xa)):=Lib.hid (ErrT.at_ (by decide) hxa)
   have o0:=za0 hO 0 rfl
   have o1:=za0 hO 1 rfl
   have o2:=za0 hO 2 rfl
   have o3:=za0 hO 3 rfl
   have o4:=za0 hO 4 rfl
   have o5:=za0 hO 5 rfl
   have HR:=Lib.hid hR
   clear hd hm hH hO hR hd0 hm0 hw0 hb0 hW0 hB hbad h1 hC hpt
   generalize (ApeP.opT x.plain (node:Int) part T s ⟨8,xp,xa,xb,xc,xd⟩)=rr at *
   go_enter Tryz.func34,Tryz.ntmps34
   go_wp2_with fail
   rw [HE0.out]
   refine (HAt.out _).mono ?_
   rintro e w1 ⟨rfl,hb1⟩
   have hbz:=(hb1.block _ (lt_of_block HR.out)).trans HR.out
   have Hbz:=Lib.hid hbz
   have k0:=za0 hbz 0 rfl
   have k1:=za0 hbz 1 rfl
   have k2:=za0 hbz 2 rfl
   have k3:=za0 hbz 3 rfl
   have f:=fun i=>za2 hbz i
   have HMm:=Lib.hid (HM.out _ w1 HTx.out hb1)
   clear hbz hb1 HM HAt HTx HR
   go_wp2_with fail
   clear k0 k1 k2 k3 f
   show bodyPost _ _ _ _ _ (storeAll w1 (w.heap.size + 2) [.int .i64 0,.int .i64 0,.slice none 0 0,.bool false] 0)
   have hfin:=za4 Hbz.out rfl [.int .i64 0,.int .i64 0,.slice none 0 0,.bool false] rfl
   have HSt:=Lib.hid (za1 (w.heap.size + 2) [.int .i64 0,.int .i64 0,.slice none 0 0,.bool false] 0 w1)
   generalize storeAll w1 (w.heap.size + 2) [.int .i64 0,.int .i64 0,.slice none 0 0,.bool false] 0=Wf at *
   have r0:=za0 hfin 0 rfl
   have r1:=za0 hfin 1 rfl
   have r2:=za0 hfin 2 rfl
   have r3:=za0 hfin 3 rfl
   refine bodyPost_ret (v:=.tuple #[.agg #[.int .i64 0,.int .i64 0,.slice none 0 0,.bool false],strV (atT 2 xa)]) (by simp [results,Tryz.results34,go_sem,r0,r1,r2,r3]) rfl ?_
   exact HMm.out.fin Hbz.out (by omega) HB.out HSt.out rfl
  ·have p1:decide (xa < 0)=false:=decide_eq_false h1
   have p2:decide (7 < xa)=true:=decide_eq_true (by omega)
   have HAt:=Lib.hid (fun W=>zc5 2 xa W (by decide) hxa)
   have HTx:Hid (ErrT (some 2) (atT 2 xa)):=Lib.hid (ErrT.at_ (by decide) hxa)
   have o0:=za0 hO 0 rfl
   have o1:=za0 hO 1 rfl
   have o2:=za0 hO 2 rfl
   have o3:=za0 hO 3 rfl
   have o4:=za0 hO 4 rfl
   have o5:=za0 hO 5 rfl
   have HR:=Lib.hid hR
   clear hd hm hH hO hR hd0 hm0 hw0 hb0 hW0 hB hbad h1 hC hpt
   generalize (ApeP.opT x.plain (node:Int) part T s ⟨8,xp,xa,xb,xc,xd⟩)=rr at *
   go_enter Tryz.func34,Tryz.ntmps34
   go_wp2_with fail
   rw [HE0.out]
   refine (HAt.out _).mono ?_
   rintro e w1 ⟨rfl,hb1⟩
   have hbz:=(hb1.block _ (lt_of_block HR.out)).trans HR.out
   have Hbz:=Lib.hid hbz
   have k0:=za0 hbz 0 rfl
   have k1:=za0 hbz 1 rfl
   have k2:=za0 hbz 2 rfl
   have k3:=za0 hbz 3 rfl
   have f:=fun i=>za2 hbz i
   have HMm:=Lib.hid (HM.out _ w1 HTx.out hb1)
   clear hbz hb1 HM HAt HTx HR
   go_wp2_with fail
   clear k0 k1 k2 k3 f
   show bodyPost _ _ _ _ _ (storeAll w1 (w.heap.size + 2) [.int .i64 0,.int .i64 0,.slice none 0 0,.bool false] 0)
   have hfin:=za4 Hbz.out rfl [.int .i64 0,.int .i64 0,.slice none 0 0,.bool false] rfl
   have HSt:=Lib.hid (za1 (w.heap.size + 2) [.int .i64 0,.int .i64 0,.slice none 0 0,.bool false] 0 w1)
   generalize storeAll w1 (w.heap.size + 2) [.int .i64 0,.int .i64 0,.slice none 0 0,.bool false] 0=Wf at *
   have r0:=za0 hfin 0 rfl
   have r1:=za0 hfin 1 rfl
   have r2:=za0 hfin 2 rfl
   have r3:=za0 hfin 3 rfl
   refine bodyPost_ret (v:=.tuple #[.agg #[.int .i64 0,.int .i64 0,.slice none 0 0,.bool false],strV (atT 2 xa)]) (by simp [results,Tryz.results34,go_sem,r0,r1,r2,r3]) rfl ?_
   exact HMm.out.fin Hbz.out (by omega) HB.out HSt.out rfl
 ·obtain ⟨an,rfl⟩:=Int.eq_ofNat_of_zero_le (show 0≤xa by omega)
  have p1:decide ((an:Int) < 0)=false:=decide_eq_false (by omega)
  have p2:decide (7 < (an:Int))=false:=decide_eq_false (by omega)
  have g3:=za0 hH 3 rfl
  have c0:W0.cell? ⟨d.cb,0,none⟩=some (.int .u8 (s.cmd.kind:Nat)):=za0 hC 0 rfl
  by_cases hk:s.cmd.kind=0
  case neg=>
   have HM:Hid (∀ t w1,ErrT (some 14) t→Below W0.heap.size W0 w1→MidD w0 w B x node T d mv (ApeP.opT x.plain (node:Int) part T s ⟨8,xp,(an:Nat),xb,xc,xd⟩) ⟨0,0,none,0,[],false⟩ t w1):=Lib.hid fun t w1 ht g=>by
    rw [show (ApeP.opT x.plain (node:Int) part T s ⟨8,xp,(an:Nat),xb,xc,xd⟩)=((ApeP.Res.zero,some 14),s) from (zc7 (by show (8:Nat)≠1;decide)).trans (by rw [zo4];unfold waitC;rw [if_neg hbad,if_pos hk])]
    exact ⟨d,rfl,DocB.none_,ht,hd0.below g,hm0.below g,(hw0 mv).trans (WentD.of_below g d mv)⟩
   have q1:((s.cmd.kind:Int) != 0)=true:=by simp;omega
   have q2:(s.cmd.kind != 0)=true:=by simp;omega
   have HAt:=Lib.hid (fun W=>zc5 14 (part:Nat) W (by decide) (ze7 part hpt))
   have HTx:Hid (ErrT (some 14) (atT 14 (part:Nat))):=Lib.hid (ErrT.at_ (by decide) (ze7 part hpt))
   have o0:=za0 hO 0 rfl
   have o1:=za0 hO 1 rfl
   have o2:=za0 hO 2 rfl
   have o3:=za0 hO 3 rfl
   have o4:=za0 hO 4 rfl
   have o5:=za0 hO 5 rfl
   have HR:=Lib.hid hR
   clear hd hm hH hO hR hd0 hm0 hw0 hb0 hW0 hB hbad hk hC hpt
   generalize (ApeP.opT x.plain (node:Int) part T s ⟨8,xp,(an:Nat),xb,xc,xd⟩)=rr at *
   generalize s.cmd.kind=ck at *
   go_enter Tryz.func34,Tryz.ntmps34
   go_upto_region 1 with (fail)
   rw [HE0.out]
   go_wp2_with fail
   refine (HAt.out _).mono ?_
   rintro e w1 ⟨rfl,hb1⟩
   have hbz:=(hb1.block _ (lt_of_block HR.out)).trans HR.out
   have Hbz:=Lib.hid hbz
   have k0:=za0 hbz 0 rfl
   have k1:=za0 hbz 1 rfl
   have k2:=za0 hbz 2 rfl
   have k3:=za0 hbz 3 rfl
   have f:=fun i=>za2 hbz i
   have HMm:=Lib.hid (HM.out _ w1 HTx.out hb1)
   clear hbz hb1 HM HAt HTx HR
   go_wp2_with fail
   clear k0 k1 k2 k3 f
   show bodyPost _ _ _ _ _ (storeAll w1 (w.heap.size + 2) [.int .i64 0,.int .i64 0,.slice none 0 0,.bool false] 0)
   have hfin:=za4 Hbz.out rfl [.int .i64 0,.int .i64 0,.slice none 0 0,.bool false] rfl
   have HSt:=Lib.hid (za1 (w.heap.size + 2) [.int .i64 0,.int .i64 0,.slice none 0 0,.bool false] 0 w1)
   generalize storeAll w1 (w.heap.size + 2) [.int .i64 0,.int .i64 0,.slice none 0 0,.bool false] 0=Wf at *
   have r0:=za0 hfin 0 rfl
   have r1:=za0 hfin 1 rfl
   have r2:=za0 hfin 2 rfl
   have r3:=za0 hfin 3 rfl
   refine bodyPost_ret (v:=.tuple #[.agg #[.int .i64 0,.int .i64 0,.slice none 0 0,.bool false],strV (atT 14 (part:Nat))]) (by simp [results,Tryz.results34,go_sem,r0,r1,r2,r3]) rfl ?_
   exact HMm.out.fin Hbz.out (by omega) HB.out HSt.out rfl
  case pos=>
   rw [hk] at c0
   have b8:IntKind.u8.wrap (an:Int)=(an:Int):=by rw [IntKind.wrap_u8];omega
   have bb:=zb8 xb
   have bc:=zb8 xc
   have hT:(ApeP.opT x.plain (node:Int) part T s ⟨8,xp,(an:Nat),xb,xc,xd⟩)=((ApeP.Res.zero,none),⟨s.mem,s.ports,s.mon,⟨2,an,0,0⟩⟩):=(zc7 (by show (8:Nat)≠1;decide)).trans (by rw [zo4];unfold waitC;rw [if_neg hbad,if_neg (by simp [hk]),Int.toNat_natCast])
   have h7:an≤7:=by omega
   have hb1:Below W0.heap.size W0 (W0.alloc (.cells #[.int .u8 2,.int .u8 (an:Nat),.int .u16 0,.int .u16 0] 51)):=(Below.refl _ _).alloc (Nat.le_refl _) _
   have hX1:(W0.alloc (.cells #[.int .u8 2,.int .u8 (an:Nat),.int .u16 0,.int .u16 0] 51)).heap[W0.heap.size]? = some (.cells #[.int .u8 2,.int .u8 (an:Nat),.int .u16 0,.int .u16 0] 51 (0,0)):=newAt _ _
   have hH1:=(hb1.block _ (lt_of_block hH)).trans hH
   have hO1:=(hb1.block _ (lt_of_block hO)).trans hO
   have hR1:=(hb1.block _ (lt_of_block hR)).trans hR
   have hC1:=(hb1.block _ (lt_of_block hC)).trans hC
   have hcX:d.cb≠W0.heap.size:=Nat.ne_of_lt (lt_of_block hC)
   have hhX:w.heap.size≠W0.heap.size:=Nat.ne_of_lt (lt_of_block hH)
   have hoX:w.heap.size + 1≠W0.heap.size:=Nat.ne_of_lt (lt_of_block hO)
   have hrX:w.heap.size + 2≠W0.heap.size:=Nat.ne_of_lt (lt_of_block hR)
   have o0:=za0 hO 0 rfl
   have o1:=za0 hO 1 rfl
   have o2:=za0 hO 2 rfl
   have o3:=za0 hO 3 rfl
   have o4:=za0 hO 4 rfl
   have o5:=za0 hO 5 rfl
   have Hd0:=Lib.hid hd0
   have Hm0:=Lib.hid hm0
   have Hw0:=Lib.hid (hw0 mv)
   have HT:=Lib.hid hT
   clear hd hm hH hO hR hC hd0 hm0 hw0 hb0 hW0 hB hT hbad hpt
   go_enter Tryz.func34,Tryz.ntmps34
   go_upto_region 1 with (fail)
   rw [HE0.out]
   go_upto_region 31 with (fail)
   clear o0 o1 o2 o3 o4 o5 g3 c0
   generalize (W0.alloc (.cells #[.int .u8 2,.int .u8 (an:Nat),.int .u16 0,.int .u16 0] 51))=W1 at *
   have x0:=za0 hX1 0 rfl
   have x1:=za0 hX1 1 rfl
   have x2:=za0 hX1 2 rfl
   have x3:=za0 hX1 3 rfl
   have fx:=fun i=>za2 hX1 i
   have g3:=za0 hH1 3 rfl
   have o0:=za0 hO1 0 rfl
   have o2:=za0 hO1 2 rfl
   have o3:=za0 hO1 3 rfl
   have o4:=za0 hO1 4 rfl
   have m0:W1.cell? ⟨d.cb,0,none⟩=some (.int .u8 (s.cmd.kind:Nat)):=za0 hC1 0 rfl
   have m1:W1.cell? ⟨d.cb,1,none⟩=some (.int .u8 (s.cmd.key:Nat)):=za0 hC1 1 rfl
   have m2:W1.cell? ⟨d.cb,2,none⟩=some (.int .u16 (s.cmd.val:Nat)):=za0 hC1 2 rfl
   have m3:W1.cell? ⟨d.cb,3,none⟩=some (.int .u16 (s.cmd.old:Nat)):=za0 hC1 3 rfl
   have fc:=fun i=>za2 hC1 i
   go_upto_region 35 with (fail)
   have hX2:=hX1
   have hC2:=hC1
   have hR2:=hR1
   have hH2:=hH1
   have hb2:=hb1
   have hA3:Apart (fun k=>k=d.cb) W1 ((((W1.setCell ⟨d.cb,0,none⟩ (.int .u8 2)).setCell ⟨d.cb,1,none⟩ (.int .u8 (an:Nat))).setCell ⟨d.cb,2,none⟩ (.int .u16 0)).setCell ⟨d.cb,3,none⟩ (.int .u16 0)):=za1 d.cb [.int .u8 2,.int .u8 (an:Nat),.int .u16 0,.int .u16 0] 0 W1
   have hC3:((((W1.setCell ⟨d.cb,0,none⟩ (.int .u8 2)).setCell ⟨d.cb,1,none⟩ (.int .u8 (an:Nat))).setCell ⟨d.cb,2,none⟩ (.int .u16 0)).setCell ⟨d.cb,3,none⟩ (.int .u16 0)).heap[d.cb]? = some (.cells (cmdVals ⟨2,an,0,0⟩).toArray 51 (0,0)):=zf7 hC2 rfl [.int .u8 2,.int .u8 (an:Nat),.int .u16 0,.int .u16 0] rfl
   have hd2:=Hd0.out.below hb2
   obtain ⟨e1,e2,e3⟩:=hd2.toCmd hC3 ⟨by show (2:Nat)≤255;decide,by show an≤255;omega,(show (0:Nat) < 65536 by decide),(show (0:Nat) < 65536 by decide)⟩ hA3
   have HM:Hid (MidD w0 w B x node T d mv (ApeP.opT x.plain (node:Int) part T s ⟨8,xp,(an:Nat),xb,xc,xd⟩) ⟨0,0,none,0,[],false⟩ [] ((((W1.setCell ⟨d.cb,0,none⟩ (.int .u8 2)).setCell ⟨d.cb,1,none⟩ (.int .u8 (an:Nat))).setCell ⟨d.cb,2,none⟩ (.int .u16 0)).setCell ⟨d.cb,3,none⟩ (.int .u16 0))):=Lib.hid (by
    rw [HT.out]
    exact ⟨d,rfl,DocB.none_,ErrT.none_,e1,(Hm0.out.below hb2).beside hd2 e3,Hw0.out.trans ((WentD.of_below hb2 d mv).trans (e2 mv))⟩)
   have hbz:=hd2.resOff e3 hR2 ze4
   clear hA3 hC3 hd2 e1 e2 e3
   generalize (ApeP.opT x.plain (node:Int) part T s ⟨8,xp,(an:Nat),xb,xc,xd⟩)=rr at *
   go_upto_region 36 with (fail)
   clear x0 x1 x2 x3 fx g3 o0 o2 o3 o4 m0 m1 m2 m3 fc
   generalize ((((W1.setCell ⟨d.cb,0,none⟩ (.int .u8 2)).setCell ⟨d.cb,1,none⟩ (.int .u8 (an:Nat))).setCell ⟨d.cb,2,none⟩ (.int .u16 0)).setCell ⟨d.cb,3,none⟩ (.int .u16 0))=W3 at *
   have Hbz:=Lib.hid hbz
   have k0:=za0 hbz 0 rfl
   have k1:=za0 hbz 1 rfl
   have k2:=za0 hbz 2 rfl
   have k3:=za0 hbz 3 rfl
   have f:=fun i=>za2 hbz i
   clear hbz
   go_wp2_with fail
   clear k0 k1 k2 k3 f
   show bodyPost _ _ _ _ _ (storeAll W3 (w.heap.size + 2) [.int .i64 0,.int .i64 0,.slice none 0 0,.bool false] 0)
   have hfin:=za4 Hbz.out rfl [.int .i64 0,.int .i64 0,.slice none 0 0,.bool false] rfl
   have HSt:=Lib.hid (za1 (w.heap.size + 2) [.int .i64 0,.int .i64 0,.slice none 0 0,.bool false] 0 W3)
   generalize storeAll W3 (w.heap.size + 2) [.int .i64 0,.int .i64 0,.slice none 0 0,.bool false] 0=Wf at *
   have r0:=za0 hfin 0 rfl
   have r1:=za0 hfin 1 rfl
   have r2:=za0 hfin 2 rfl
   have r3:=za0 hfin 3 rfl
   refine bodyPost_ret (v:=.tuple #[.agg #[.int .i64 0,.int .i64 0,.slice none 0 0,.bool false],.string ⟨#[]⟩]) (by simp [results,Tryz.results34,go_sem,r0,r1,r2,r3]) rfl ?_
   exact HM.out.fin Hbz.out (by omega) HB.out HSt.out rfl
set_option maxHeartbeats 4000000 in
theorem rop_cmd9 {w0 w:World} {B:Nat} {x:CfgC} {node part:Nat} {T:RepP.T} {d:DocC} {s:ApeP.AS} {mv:Value} (hd:DocIn w0 w B x node T d s.ports s.mon s.cmd) (hm:MemR w B mv s.mem) (hB:B≤w.heap.size) (hpt:part≤255) (xp xa xb xc:Int) (xD:Option Addr) (xm xcap:Nat) (xd:List UInt8) (hxa:xa≤9223372036854775807):Calls Tryz.prog 34 #[.int .i64 (part:Nat),mv,docV d,.agg #[.int .u8 9,.int .i64 xp,.int .i64 xa,.int .i64 xb,.int .i64 xc,.slice xD xm xcap]] w (DoD w0 w B x node T d mv (ApeP.opT x.plain (node:Int) part T s ⟨9,xp,xa,xb,xc,xd⟩)):=by
 have hb0:Below w.heap.size w (((w.alloc (.cells #[.pointer (some ⟨d.ra,0,none⟩),.pointer (some ⟨d.tb,0,none⟩),.pointer (some ⟨d.rm,0,none⟩),.pointer (some ⟨d.cb,0,none⟩)] 53)).alloc (.cells #[.int .u8 9,.int .i64 xp,.int .i64 xa,.int .i64 xb,.int .i64 xc,.slice xD xm xcap] 91)).alloc (.cells #[.int .i64 0,.int .i64 0,.slice none 0 0,.bool false] 94)):=(((Below.refl _ _).alloc (Nat.le_refl _) _).alloc (by simp) _).alloc (by simp;omega) _
 unfold docV
 generalize hW0:(((w.alloc (.cells #[.pointer (some ⟨d.ra,0,none⟩),.pointer (some ⟨d.tb,0,none⟩),.pointer (some ⟨d.rm,0,none⟩),.pointer (some ⟨d.cb,0,none⟩)] 53)).alloc (.cells #[.int .u8 9,.int .i64 xp,.int .i64 xa,.int .i64 xb,.int .i64 xc,.slice xD xm xcap] 91)).alloc (.cells #[.int .i64 0,.int .i64 0,.slice none 0 0,.bool false] 94))=W0 at *
 have hH:W0.heap[w.heap.size]? = some (.cells #[.pointer (some ⟨d.ra,0,none⟩),.pointer (some ⟨d.tb,0,none⟩),.pointer (some ⟨d.rm,0,none⟩),.pointer (some ⟨d.cb,0,none⟩)] 53 (0,0)):=by rw [← hW0,allocAt _ _ _ (by simp;omega),allocAt _ _ _ (by simp)];exact newAt _ _
 have hO:W0.heap[w.heap.size + 1]? = some (.cells #[.int .u8 9,.int .i64 xp,.int .i64 xa,.int .i64 xb,.int .i64 xc,.slice xD xm xcap] 91 (0,0)):=by rw [← hW0,allocAt _ _ _ (by simp)];exact newAt1 _ _ _
 have hR:W0.heap[w.heap.size + 2]? = some (.cells #[.int .i64 0,.int .i64 0,.slice none 0 0,.bool false] 94 (0,0)):=by
  rw [← hW0]
  have:=newAt ((w.alloc (.cells #[.pointer (some ⟨d.ra,0,none⟩),.pointer (some ⟨d.tb,0,none⟩),.pointer (some ⟨d.rm,0,none⟩),.pointer (some ⟨d.cb,0,none⟩)] 53)).alloc (.cells #[.int .u8 9,.int .i64 xp,.int .i64 xa,.int .i64 xb,.int .i64 xc,.slice xD xm xcap] 91)) (.cells #[.int .i64 0,.int .i64 0,.slice none 0 0,.bool false] 94)
  simpa using this
 have hd0:=hd.below hb0
 have hm0:=hm.below hb0
 have HE0:=Lib.hid hW0
 have hw0:∀ mv,WentD w d mv d W0:=fun mv=>WentD.of_below hb0 d mv
 have HB:=Lib.hid hB
 have hC:=hd0.cmd
 by_cases hbad:xa < 0∨7 < xa
 ·have HM:Hid (∀ t w1,ErrT (some 2) t→Below W0.heap.size W0 w1→MidD w0 w B x node T d mv (ApeP.opT x.plain (node:Int) part T s ⟨9,xp,xa,xb,xc,xd⟩) ⟨0,0,none,0,[],false⟩ t w1):=Lib.hid fun t w1 ht g=>by
   rw [show (ApeP.opT x.plain (node:Int) part T s ⟨9,xp,xa,xb,xc,xd⟩)=((ApeP.Res.zero,some 2),s) from (zc7 (by show (9:Nat)≠1;decide)).trans (by rw [zo5];unfold waitC;rw [if_pos hbad])]
   exact ⟨d,rfl,DocB.none_,ht,hd0.below g,hm0.below g,(hw0 mv).trans (WentD.of_below g d mv)⟩
  by_cases h1:xa < 0
  ·have p1:decide (xa < 0)=true:=decide_eq_true h1
   have HAt:=Lib.hid (fun W=>zc5 2 xa W (by decide) hxa)
   have HTx:Hid (ErrT (some 2) (atT 2 xa)):=Lib.hid (ErrT.at_ (by decide) hxa)
   have o0:=za0 hO 0 rfl
   have o1:=za0 hO 1 rfl
   have o2:=za0 hO 2 rfl
   have o3:=za0 hO 3 rfl
   have o4:=za0 hO 4 rfl
   have o5:=za0 hO 5 rfl
   have HR:=Lib.hid hR
   clear hd hm hH hO hR hd0 hm0 hw0 hb0 hW0 hB hbad h1 hC hpt
   generalize (ApeP.opT x.plain (node:Int) part T s ⟨9,xp,xa,xb,xc,xd⟩)=rr at *
   go_enter Tryz.func34,Tryz.ntmps34
   go_wp2_with fail
   rw [HE0.out]
   refine (HAt.out _).mono ?_
   rintro e w1 ⟨rfl,hb1⟩
   have hbz:=(hb1.block _ (lt_of_block HR.out)).trans HR.out
   have Hbz:=Lib.hid hbz
   have k0:=za0 hbz 0 rfl
   have k1:=za0 hbz 1 rfl
   have k2:=za0 hbz 2 rfl
   have k3:=za0 hbz 3 rfl
   have f:=fun i=>za2 hbz i
   have HMm:=Lib.hid (HM.out _ w1 HTx.out hb1)
   clear hbz hb1 HM HAt HTx HR
   go_wp2_with fail
   clear k0 k1 k2 k3 f
   show bodyPost _ _ _ _ _ (storeAll w1 (w.heap.size + 2) [.int .i64 0,.int .i64 0,.slice none 0 0,.bool false] 0)
   have hfin:=za4 Hbz.out rfl [.int .i64 0,.int .i64 0,.slice none 0 0,.bool false] rfl
   have HSt:=Lib.hid (za1 (w.heap.size + 2) [.int .i64 0,.int .i64 0,.slice none 0 0,.bool false] 0 w1)
   generalize storeAll w1 (w.heap.size + 2) [.int .i64 0,.int .i64 0,.slice none 0 0,.bool false] 0=Wf at *
   have r0:=za0 hfin 0 rfl
   have r1:=za0 hfin 1 rfl
   have r2:=za0 hfin 2 rfl
   have r3:=za0 hfin 3 rfl
   refine bodyPost_ret (v:=.tuple #[.agg #[.int .i64 0,.int .i64 0,.slice none 0 0,.bool false],strV (atT 2 xa)]) (by simp [results,Tryz.results34,go_sem,r0,r1,r2,r3]) rfl ?_
   exact HMm.out.fin Hbz.out (by omega) HB.out HSt.out rfl
  ·have p1:decide (xa < 0)=false:=decide_eq_false h1
   have p2:decide (7 < xa)=true:=decide_eq_true (by omega)
   have HAt:=Lib.hid (fun W=>zc5 2 xa W (by decide) hxa)
   have HTx:Hid (ErrT (some 2) (atT 2 xa)):=Lib.hid (ErrT.at_ (by decide) hxa)
   have o0:=za0 hO 0 rfl
   have o1:=za0 hO 1 rfl
   have o2:=za0 hO 2 rfl
   have o3:=za0 hO 3 rfl
   have o4:=za0 hO 4 rfl
   have o5:=za0 hO 5 rfl
   have HR:=Lib.hid hR
   clear hd hm hH hO hR hd0 hm0 hw0 hb0 hW0 hB hbad h1 hC hpt
   generalize (ApeP.opT x.plain (node:Int) part T s ⟨9,xp,xa,xb,xc,xd⟩)=rr at *
   go_enter Tryz.func34,Tryz.ntmps34
   go_wp2_with fail
   rw [HE0.out]
   refine (HAt.out _).mono ?_
   rintro e w1 ⟨rfl,hb1⟩
   have hbz:=(hb1.block _ (lt_of_block HR.out)).trans HR.out
   have Hbz:=Lib.hid hbz
   have k0:=za0 hbz 0 rfl
   have k1:=za0 hbz 1 rfl
   have k2:=za0 hbz 2 rfl
   have k3:=za0 hbz 3 rfl
   have f:=fun i=>za2 hbz i
   have HMm:=Lib.hid (HM.out _ w1 HTx.out hb1)
   clear hbz hb1 HM HAt HTx HR
   go_wp2_with fail
   clear k0 k1 k2 k3 f
   show bodyPost _ _ _ _ _ (storeAll w1 (w.heap.size + 2) [.int .i64 0,.int .i64 0,.slice none 0 0,.bool false] 0)
   have hfin:=za4 Hbz.out rfl [.int .i64 0,.int .i64 0,.slice none 0 0,.bool false] rfl
   have HSt:=Lib.hid (za1 (w.heap.size + 2) [.int .i64 0,.int .i64 0,.slice none 0 0,.bool false] 0 w1)
   generalize storeAll w1 (w.heap.size + 2) [.int .i64 0,.int .i64 0,.slice none 0 0,.bool false] 0=Wf at *
   have r0:=za0 hfin 0 rfl
   have r1:=za0 hfin 1 rfl
   have r2:=za0 hfin 2 rfl
   have r3:=za0 hfin 3 rfl
   refine bodyPost_ret (v:=.tuple #[.agg #[.int .i64 0,.int .i64 0,.slice none 0 0,.bool false],strV (atT 2 xa)]) (by simp [results,Tryz.results34,go_sem,r0,r1,r2,r3]) rfl ?_
   exact HMm.out.fin Hbz.out (by omega) HB.out HSt.out rfl
 ·obtain ⟨an,rfl⟩:=Int.eq_ofNat_of_zero_le (show 0≤xa by omega)
  have p1:decide ((an:Int) < 0)=false:=decide_eq_false (by omega)
  have p2:decide (7 < (an:Int))=false:=decide_eq_false (by omega)
  have g3:=za0 hH 3 rfl
  have c0:W0.cell? ⟨d.cb,0,none⟩=some (.int .u8 (s.cmd.kind:Nat)):=za0 hC 0 rfl
  by_cases hk:s.cmd.kind=0
  case neg=>
   have HM:Hid (∀ t w1,ErrT (some 14) t→Below W0.heap.size W0 w1→MidD w0 w B x node T d mv (ApeP.opT x.plain (node:Int) part T s ⟨9,xp,(an:Nat),xb,xc,xd⟩) ⟨0,0,none,0,[],false⟩ t w1):=Lib.hid fun t w1 ht g=>by
    rw [show (ApeP.opT x.plain (node:Int) part T s ⟨9,xp,(an:Nat),xb,xc,xd⟩)=((ApeP.Res.zero,some 14),s) from (zc7 (by show (9:Nat)≠1;decide)).trans (by rw [zo5];unfold waitC;rw [if_neg hbad,if_pos hk])]
    exact ⟨d,rfl,DocB.none_,ht,hd0.below g,hm0.below g,(hw0 mv).trans (WentD.of_below g d mv)⟩
   have q1:((s.cmd.kind:Int) != 0)=true:=by simp;omega
   have q2:(s.cmd.kind != 0)=true:=by simp;omega
   have HAt:=Lib.hid (fun W=>zc5 14 (part:Nat) W (by decide) (ze7 part hpt))
   have HTx:Hid (ErrT (some 14) (atT 14 (part:Nat))):=Lib.hid (ErrT.at_ (by decide) (ze7 part hpt))
   have o0:=za0 hO 0 rfl
   have o1:=za0 hO 1 rfl
   have o2:=za0 hO 2 rfl
   have o3:=za0 hO 3 rfl
   have o4:=za0 hO 4 rfl
   have o5:=za0 hO 5 rfl
   have HR:=Lib.hid hR
   clear hd hm hH hO hR hd0 hm0 hw0 hb0 hW0 hB hbad hk hC hpt
   generalize (ApeP.opT x.plain (node:Int) part T s ⟨9,xp,(an:Nat),xb,xc,xd⟩)=rr at *
   generalize s.cmd.kind=ck at *
   go_enter Tryz.func34,Tryz.ntmps34
   go_upto_region 1 with (fail)
   rw [HE0.out]
   go_wp2_with fail
   refine (HAt.out _).mono ?_
   rintro e w1 ⟨rfl,hb1⟩
   have hbz:=(hb1.block _ (lt_of_block HR.out)).trans HR.out
   have Hbz:=Lib.hid hbz
   have k0:=za0 hbz 0 rfl
   have k1:=za0 hbz 1 rfl
   have k2:=za0 hbz 2 rfl
   have k3:=za0 hbz 3 rfl
   have f:=fun i=>za2 hbz i
   have HMm:=Lib.hid (HM.out _ w1 HTx.out hb1)
   clear hbz hb1 HM HAt HTx HR
   go_wp2_with fail
   clear k0 k1 k2 k3 f
   show bodyPost _ _ _ _ _ (storeAll w1 (w.heap.size + 2) [.int .i64 0,.int .i64 0,.slice none 0 0,.bool false] 0)
   have hfin:=za4 Hbz.out rfl [.int .i64 0,.int .i64 0,.slice none 0 0,.bool false] rfl
   have HSt:=Lib.hid (za1 (w.heap.size + 2) [.int .i64 0,.int .i64 0,.slice none 0 0,.bool false] 0 w1)
   generalize storeAll w1 (w.heap.size + 2) [.int .i64 0,.int .i64 0,.slice none 0 0,.bool false] 0=Wf at *
   have r0:=za0 hfin 0 rfl
   have r1:=za0 hfin 1 rfl
   have r2:=za0 hfin 2 rfl
   have r3:=za0 hfin 3 rfl
   refine bodyPost_ret (v:=.tuple #[.agg #[.int .i64 0,.int .i64 0,.slice none 0 0,.bool false],strV (atT 14 (part:Nat))]) (by simp [results,Tryz.results34,go_sem,r0,r1,r2,r3]) rfl ?_
   exact HMm.out.fin Hbz.out (by omega) HB.out HSt.out rfl
  case pos=>
   rw [hk] at c0
   have b8:IntKind.u8.wrap (an:Int)=(an:Int):=by rw [IntKind.wrap_u8];omega
   have bb:=zb8 xb
   have bc:=zb8 xc
   have hT:(ApeP.opT x.plain (node:Int) part T s ⟨9,xp,(an:Nat),xb,xc,xd⟩)=((ApeP.Res.zero,none),⟨s.mem,s.ports,s.mon,⟨3,an,ApeP.cut16 xb,ApeP.cut16 xc⟩⟩):=(zc7 (by show (9:Nat)≠1;decide)).trans (by rw [zo5];unfold waitC;rw [if_neg hbad,if_neg (by simp [hk]),Int.toNat_natCast])
   have h7:an≤7:=by omega
   have hb1:Below W0.heap.size W0 (W0.alloc (.cells #[.int .u8 2,.int .u8 (an:Nat),.int .u16 0,.int .u16 0] 51)):=(Below.refl _ _).alloc (Nat.le_refl _) _
   have hX1:(W0.alloc (.cells #[.int .u8 2,.int .u8 (an:Nat),.int .u16 0,.int .u16 0] 51)).heap[W0.heap.size]? = some (.cells #[.int .u8 2,.int .u8 (an:Nat),.int .u16 0,.int .u16 0] 51 (0,0)):=newAt _ _
   have hH1:=(hb1.block _ (lt_of_block hH)).trans hH
   have hO1:=(hb1.block _ (lt_of_block hO)).trans hO
   have hR1:=(hb1.block _ (lt_of_block hR)).trans hR
   have hC1:=(hb1.block _ (lt_of_block hC)).trans hC
   have hcX:d.cb≠W0.heap.size:=Nat.ne_of_lt (lt_of_block hC)
   have hhX:w.heap.size≠W0.heap.size:=Nat.ne_of_lt (lt_of_block hH)
   have hoX:w.heap.size + 1≠W0.heap.size:=Nat.ne_of_lt (lt_of_block hO)
   have hrX:w.heap.size + 2≠W0.heap.size:=Nat.ne_of_lt (lt_of_block hR)
   have o0:=za0 hO 0 rfl
   have o1:=za0 hO 1 rfl
   have o2:=za0 hO 2 rfl
   have o3:=za0 hO 3 rfl
   have o4:=za0 hO 4 rfl
   have o5:=za0 hO 5 rfl
   have Hd0:=Lib.hid hd0
   have Hm0:=Lib.hid hm0
   have Hw0:=Lib.hid (hw0 mv)
   have HT:=Lib.hid hT
   clear hd hm hH hO hR hC hd0 hm0 hw0 hb0 hW0 hB hT hbad hpt
   go_enter Tryz.func34,Tryz.ntmps34
   go_upto_region 1 with (fail)
   rw [HE0.out]
   go_upto_region 31 with (fail)
   clear o0 o1 o2 o3 o4 o5 g3 c0
   generalize (W0.alloc (.cells #[.int .u8 2,.int .u8 (an:Nat),.int .u16 0,.int .u16 0] 51))=W1 at *
   have x0:=za0 hX1 0 rfl
   have x1:=za0 hX1 1 rfl
   have x2:=za0 hX1 2 rfl
   have x3:=za0 hX1 3 rfl
   have fx:=fun i=>za2 hX1 i
   have g3:=za0 hH1 3 rfl
   have o0:=za0 hO1 0 rfl
   have o2:=za0 hO1 2 rfl
   have o3:=za0 hO1 3 rfl
   have o4:=za0 hO1 4 rfl
   have m0:W1.cell? ⟨d.cb,0,none⟩=some (.int .u8 (s.cmd.kind:Nat)):=za0 hC1 0 rfl
   have m1:W1.cell? ⟨d.cb,1,none⟩=some (.int .u8 (s.cmd.key:Nat)):=za0 hC1 1 rfl
   have m2:W1.cell? ⟨d.cb,2,none⟩=some (.int .u16 (s.cmd.val:Nat)):=za0 hC1 2 rfl
   have m3:W1.cell? ⟨d.cb,3,none⟩=some (.int .u16 (s.cmd.old:Nat)):=za0 hC1 3 rfl
   have fc:=fun i=>za2 hC1 i
   have hA1:Apart (fun k=>k=W0.heap.size) W1 ((((W1.setCell ⟨W0.heap.size,0,none⟩ (.int .u8 3)).setCell ⟨W0.heap.size,1,none⟩ (.int .u8 (an:Nat))).setCell ⟨W0.heap.size,2,none⟩ (.int .u16 (ApeP.cut16 xb:Nat))).setCell ⟨W0.heap.size,3,none⟩ (.int .u16 (ApeP.cut16 xc:Nat))):=za1 W0.heap.size [.int .u8 3,.int .u8 (an:Nat),.int .u16 (ApeP.cut16 xb:Nat),.int .u16 (ApeP.cut16 xc:Nat)] 0 W1
   have hX2:((((W1.setCell ⟨W0.heap.size,0,none⟩ (.int .u8 3)).setCell ⟨W0.heap.size,1,none⟩ (.int .u8 (an:Nat))).setCell ⟨W0.heap.size,2,none⟩ (.int .u16 (ApeP.cut16 xb:Nat))).setCell ⟨W0.heap.size,3,none⟩ (.int .u16 (ApeP.cut16 xc:Nat))).heap[W0.heap.size]? = some (.cells #[.int .u8 3,.int .u8 (an:Nat),.int .u16 (ApeP.cut16 xb:Nat),.int .u16 (ApeP.cut16 xc:Nat)] 51 (0,0)):=zf7 hX1 rfl [.int .u8 3,.int .u8 (an:Nat),.int .u16 (ApeP.cut16 xb:Nat),.int .u16 (ApeP.cut16 xc:Nat)] rfl
   have hH2:=(hA1.block _ (lt_of_block hH1) hhX).trans hH1
   have hO2:=(hA1.block _ (lt_of_block hO1) hoX).trans hO1
   have hR2:=(hA1.block _ (lt_of_block hR1) hrX).trans hR1
   have hC2:=(hA1.block _ (lt_of_block hC1) hcX).trans hC1
   have hb2:Below W0.heap.size W0 ((((W1.setCell ⟨W0.heap.size,0,none⟩ (.int .u8 3)).setCell ⟨W0.heap.size,1,none⟩ (.int .u8 (an:Nat))).setCell ⟨W0.heap.size,2,none⟩ (.int .u16 (ApeP.cut16 xb:Nat))).setCell ⟨W0.heap.size,3,none⟩ (.int .u16 (ApeP.cut16 xc:Nat))):=hb1.trans (hA1.below hb1.size fun k hk=>by rw [hk];exact Nat.le_refl _)
   go_upto_region 35 with (fail)
   clear x0 x1 x2 x3 fx g3 o0 o2 o3 o4 m0 m1 m2 m3 fc
   generalize ((((W1.setCell ⟨W0.heap.size,0,none⟩ (.int .u8 3)).setCell ⟨W0.heap.size,1,none⟩ (.int .u8 (an:Nat))).setCell ⟨W0.heap.size,2,none⟩ (.int .u16 (ApeP.cut16 xb:Nat))).setCell ⟨W0.heap.size,3,none⟩ (.int .u16 (ApeP.cut16 xc:Nat)))=W2 at *
   have x0:=za0 hX2 0 rfl
   have x1:=za0 hX2 1 rfl
   have x2:=za0 hX2 2 rfl
   have x3:=za0 hX2 3 rfl
   have fx:=fun i=>za2 hX2 i
   have g3:=za0 hH2 3 rfl
   have o0:=za0 hO2 0 rfl
   have o2:=za0 hO2 2 rfl
   have o3:=za0 hO2 3 rfl
   have o4:=za0 hO2 4 rfl
   have m0:W2.cell? ⟨d.cb,0,none⟩=some (.int .u8 (s.cmd.kind:Nat)):=za0 hC2 0 rfl
   have m1:W2.cell? ⟨d.cb,1,none⟩=some (.int .u8 (s.cmd.key:Nat)):=za0 hC2 1 rfl
   have m2:W2.cell? ⟨d.cb,2,none⟩=some (.int .u16 (s.cmd.val:Nat)):=za0 hC2 2 rfl
   have m3:W2.cell? ⟨d.cb,3,none⟩=some (.int .u16 (s.cmd.old:Nat)):=za0 hC2 3 rfl
   have fc:=fun i=>za2 hC2 i
   have hA3:Apart (fun k=>k=d.cb) W2 ((((W2.setCell ⟨d.cb,0,none⟩ (.int .u8 3)).setCell ⟨d.cb,1,none⟩ (.int .u8 (an:Nat))).setCell ⟨d.cb,2,none⟩ (.int .u16 (ApeP.cut16 xb:Nat))).setCell ⟨d.cb,3,none⟩ (.int .u16 (ApeP.cut16 xc:Nat))):=za1 d.cb [.int .u8 3,.int .u8 (an:Nat),.int .u16 (ApeP.cut16 xb:Nat),.int .u16 (ApeP.cut16 xc:Nat)] 0 W2
   have hC3:((((W2.setCell ⟨d.cb,0,none⟩ (.int .u8 3)).setCell ⟨d.cb,1,none⟩ (.int .u8 (an:Nat))).setCell ⟨d.cb,2,none⟩ (.int .u16 (ApeP.cut16 xb:Nat))).setCell ⟨d.cb,3,none⟩ (.int .u16 (ApeP.cut16 xc:Nat))).heap[d.cb]? = some (.cells (cmdVals ⟨3,an,ApeP.cut16 xb,ApeP.cut16 xc⟩).toArray 51 (0,0)):=zf7 hC2 rfl [.int .u8 3,.int .u8 (an:Nat),.int .u16 (ApeP.cut16 xb:Nat),.int .u16 (ApeP.cut16 xc:Nat)] rfl
   have hd2:=Hd0.out.below hb2
   obtain ⟨e1,e2,e3⟩:=hd2.toCmd hC3 ⟨by show (3:Nat)≤255;decide,by show an≤255;omega,zc8 xb,zc8 xc⟩ hA3
   have HM:Hid (MidD w0 w B x node T d mv (ApeP.opT x.plain (node:Int) part T s ⟨9,xp,(an:Nat),xb,xc,xd⟩) ⟨0,0,none,0,[],false⟩ [] ((((W2.setCell ⟨d.cb,0,none⟩ (.int .u8 3)).setCell ⟨d.cb,1,none⟩ (.int .u8 (an:Nat))).setCell ⟨d.cb,2,none⟩ (.int .u16 (ApeP.cut16 xb:Nat))).setCell ⟨d.cb,3,none⟩ (.int .u16 (ApeP.cut16 xc:Nat)))):=Lib.hid (by
    rw [HT.out]
    exact ⟨d,rfl,DocB.none_,ErrT.none_,e1,(Hm0.out.below hb2).beside hd2 e3,Hw0.out.trans ((WentD.of_below hb2 d mv).trans (e2 mv))⟩)
   have hbz:=hd2.resOff e3 hR2 ze4
   clear hA3 hC3 hd2 e1 e2 e3
   generalize (ApeP.opT x.plain (node:Int) part T s ⟨9,xp,(an:Nat),xb,xc,xd⟩)=rr at *
   go_upto_region 36 with (fail)
   clear x0 x1 x2 x3 fx g3 o0 o2 o3 o4 m0 m1 m2 m3 fc
   generalize ((((W2.setCell ⟨d.cb,0,none⟩ (.int .u8 3)).setCell ⟨d.cb,1,none⟩ (.int .u8 (an:Nat))).setCell ⟨d.cb,2,none⟩ (.int .u16 (ApeP.cut16 xb:Nat))).setCell ⟨d.cb,3,none⟩ (.int .u16 (ApeP.cut16 xc:Nat)))=W3 at *
   have Hbz:=Lib.hid hbz
   have k0:=za0 hbz 0 rfl
   have k1:=za0 hbz 1 rfl
   have k2:=za0 hbz 2 rfl
   have k3:=za0 hbz 3 rfl
   have f:=fun i=>za2 hbz i
   clear hbz
   go_wp2_with fail
   clear k0 k1 k2 k3 f
   show bodyPost _ _ _ _ _ (storeAll W3 (w.heap.size + 2) [.int .i64 0,.int .i64 0,.slice none 0 0,.bool false] 0)
   have hfin:=za4 Hbz.out rfl [.int .i64 0,.int .i64 0,.slice none 0 0,.bool false] rfl
   have HSt:=Lib.hid (za1 (w.heap.size + 2) [.int .i64 0,.int .i64 0,.slice none 0 0,.bool false] 0 W3)
   generalize storeAll W3 (w.heap.size + 2) [.int .i64 0,.int .i64 0,.slice none 0 0,.bool false] 0=Wf at *
   have r0:=za0 hfin 0 rfl
   have r1:=za0 hfin 1 rfl
   have r2:=za0 hfin 2 rfl
   have r3:=za0 hfin 3 rfl
   refine bodyPost_ret (v:=.tuple #[.agg #[.int .i64 0,.int .i64 0,.slice none 0 0,.bool false],.string ⟨#[]⟩]) (by simp [results,Tryz.results34,go_sem,r0,r1,r2,r3]) rfl ?_
   exact HM.out.fin Hbz.out (by omega) HB.out HSt.out rfl
theorem rop_any {w0 w:World} {B:Nat} {x:CfgC} {node part:Nat} {T:RepP.T} {d:DocC} {s:ApeP.AS} {mv:Value} (hd:DocIn w0 w B x node T d s.ports s.mon s.cmd) (hm:MemR w B mv s.mem) (hB:B≤w.heap.size) (hal:SndP.Allowed x.plain) (hpt:part≤255) (hT:∀ i v,RepP.tat T i=some v→v < 65536) (o:OpC) (hx:OpOk w o):Calls Tryz.prog 34 #[.int .i64 (part:Nat),mv,docV d,opV o] w (DoD w0 w B x node T d mv (ApeP.opT x.plain (node:Int) part T s o.plain)):=by
 obtain ⟨xk,xp,xa,xb,xc,xD,xm,xcap,xd⟩:=o
 have hp:=hx.port.2
 have ha:=hx.a.2
 simp only at hp ha
 unfold opV OpC.plain
 simp only
 by_cases h1:xk=1
 ·subst h1;exact rop_write hd hm hB hal xp xa xb xc xD xm xcap xd hx
 by_cases h2:xk=2
 ·subst h2;exact rop_read hd hm hB hal xp xa xb xc xD xm xcap xd hp
 by_cases h3:xk=3
 ·subst h3;exact rop_store hd hm hB xp xa xb xc xD xm xcap xd ha
 by_cases h4:xk=4
 ·subst h4;exact rop_load hd hm hB xp xa xb xc xD xm xcap xd ha
 by_cases h5:xk=5
 ·subst h5;exact rop_spin hd hm hB xp xa xb xc xD xm xcap xd
 by_cases h6:xk=6
 ·subst h6;exact rop_raise hd hm hB hpt xp xa xb xc xD xm xcap xd
 by_cases h7:xk=7
 ·subst h7;exact rop_cmd7 hd hm hB hpt xp xa xb xc xD xm xcap xd ha
 by_cases h8:xk=8
 ·subst h8;exact rop_cmd8 hd hm hB hpt xp xa xb xc xD xm xcap xd ha
 by_cases h9:xk=9
 ·subst h9;exact rop_cmd9 hd hm hB hpt xp xa xb xc xD xm xcap xd ha
 by_cases h10:xk=10
 ·subst h10;exact rop_ask hd hm hB hT xp xa xb xc xD xm xcap xd ha
 exact rop_other hd hm hB hpt xk (by omega) xp xa xb xc xD xm xcap xd
end Go.Proofs.YtfgpfmhjnccccaaGreatDoor
