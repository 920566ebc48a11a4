import Derived.BigQuiet
import Derived.Test.YtfgpfmhjnccccaaGreatDoorSa25
namespace Go.Proofs.YtfgpfmhjnccccaaGreatDoor
open Go.RowKit
set_option maxRecDepth 100000
section
variable {c:TableP.Cfg} {node part:Nat} {T:RepP.T} {s:ApeP.AS} {p a b d:Int} {l:List UInt8}
theorem zq8:ApeP.opP c node part T s ⟨3,p,a,b,d,l⟩=((storeT s.mem a (ApeP.cut16 b)).1,⟨(storeT s.mem a (ApeP.cut16 b)).2,s.ports,s.mon,s.cmd⟩):=by
 unfold ApeP.opP ApeP.opT storeT
 simp only [show ¬ (3:Nat)=1 by decide,show ¬ (3:Nat)=2 by decide,if_false,true_or,if_true]
 split<;>rfl
theorem zl8:ApeP.opP c node part T s ⟨4,p,a,b,d,l⟩=(loadT s.mem a,s):=by
 unfold ApeP.opP ApeP.opT loadT
 simp only [show ¬ (4:Nat)=1 by decide,show ¬ (4:Nat)=2 by decide,show ¬ (4:Nat)=3 by decide,if_false,or_true,if_true]
 split<;>rfl
theorem opP_spin:ApeP.opP c node part T s ⟨5,p,a,b,d,l⟩=((ApeP.Res.zero,none),s):=rfl
theorem zo3:ApeP.opP c node part T s ⟨7,p,a,b,d,l⟩=((ApeP.Res.zero,(waitC s.cmd a ⟨1,0,ApeP.cut16 b,0⟩).1),⟨s.mem,s.ports,s.mon,(waitC s.cmd a ⟨1,0,ApeP.cut16 b,0⟩).2⟩):=by
 unfold ApeP.opP
 rw [if_neg (by show ¬ (7:Nat)=1;decide),ApeP.cmd_op (by show 7≤(7:Nat)∧(7:Nat)≤9;decide)]
 unfold waitC
 simp only
 split
 ·rfl
 ·split<;>rfl
theorem zo4:ApeP.opP c node part T s ⟨8,p,a,b,d,l⟩=((ApeP.Res.zero,(waitC s.cmd a ⟨2,0,0,0⟩).1),⟨s.mem,s.ports,s.mon,(waitC s.cmd a ⟨2,0,0,0⟩).2⟩):=by
 unfold ApeP.opP
 rw [if_neg (by show ¬ (8:Nat)=1;decide),ApeP.cmd_op (by show 7≤(8:Nat)∧(8:Nat)≤9;decide)]
 unfold waitC
 simp only
 split
 ·rfl
 ·split<;>rfl
theorem zo5:ApeP.opP c node part T s ⟨9,p,a,b,d,l⟩=((ApeP.Res.zero,(waitC s.cmd a ⟨3,0,ApeP.cut16 b,ApeP.cut16 d⟩).1),⟨s.mem,s.ports,s.mon,(waitC s.cmd a ⟨3,0,ApeP.cut16 b,ApeP.cut16 d⟩).2⟩):=by
 unfold ApeP.opP
 rw [if_neg (by show ¬ (9:Nat)=1;decide),ApeP.cmd_op (by show 7≤(9:Nat)∧(9:Nat)≤9;decide)]
 unfold waitC
 simp only
 split
 ·rfl
 ·split<;>rfl
theorem zm7:ApeP.opP c node part T s ⟨10,p,a,b,d,l⟩=(askT T a,s):=by
 unfold ApeP.opP ApeP.opT askT
 simp only [show ¬ (10:Nat)=1 by decide,show ¬ (10:Nat)=2 by decide,show ¬ (10:Nat)=3 by decide,show ¬ (10:Nat)=4 by decide,show ¬ (10:Nat)=5 by decide,if_false,or_self,show (7:Nat)≤10∧(10:Nat)≤10 by decide,if_true,and_self]
 split
 ·rfl
 ·cases RepP.tat T a.toNat<;>rfl
theorem zq9 {k:Nat} (h:¬ (k=1∨k=2∨k=3∨k=4∨k=5∨k=7∨k=8∨k=9∨k=10)):ApeP.opP c node part T s ⟨k,p,a,b,d,l⟩=((ApeP.Res.zero,some 152),s):=by
 unfold ApeP.opP ApeP.opT
 simp only
 rw [if_neg (by omega),if_neg (by omega),if_neg (by omega),if_neg (by omega),if_neg (by omega),if_neg (by omega)]
theorem zb8 (b:Int):IntKind.u16.wrap b=((ApeP.cut16 b:Nat):Int):=by
 unfold ApeP.cut16
 rw [IntKind.wrap_u16]
 omega
theorem zc8 (b:Int):ApeP.cut16 b < 65536:=by unfold ApeP.cut16;omega
end
theorem ze1 (w:World) (B:Nat):w.ownsRow B 5 1 (.slice none ([]:List UInt8).length 0) ([]:List UInt8).length (bytesV []):=World.ownsRow_nil _ _ _ _
set_option maxHeartbeats 1000000 in
theorem do_spin {w:World} {B:Nat} {c:TableP.Cfg} {node:Nat} {rec:List (List Nat)} {T:RepP.T} {h:HostC} {s:ApeP.AS} {pb part:Nat} {budget:Int} {wv:Value} (hh:HostIn w B c node rec T h s.ports s.mon s.cmd) (hp:PartIn w B pb part budget wv s.mem) (xp xa xb xc:Int) (xD:Option Addr) (xm xcap:Nat) (xd:List UInt8):Calls Tryz.prog 47 #[.pointer (some ⟨pb,0,none⟩),hostV h,.agg #[.int .u8 5,.int .i64 xp,.int .i64 xa,.int .i64 xb,.int .i64 xc,.slice xD xm xcap]] w (DoP w B c node rec T h pb part budget wv (ApeP.opP c node part T s ⟨5,xp,xa,xb,xc,xd⟩)):=by
 have hb0:Below w.heap.size w (((w.alloc (.cells #[.pointer (some ⟨h.x.a,0,none⟩),.pointer (some ⟨h.tb,0,none⟩),.pointer (some ⟨h.mb,0,none⟩),.pointer (some ⟨h.cb,0,none⟩)] 36)).alloc (.cells #[.int .u8 5,.int .i64 xp,.int .i64 xa,.int .i64 xb,.int .i64 xc,.slice xD xm xcap] 91)).alloc (.cells #[.int .i64 0,.int .i64 0,.slice none 0 0,.bool false] 94)):=(((Below.refl _ _).alloc (Nat.le_refl _) _).alloc (by simp) _).alloc (by simp;omega) _
 unfold hostV
 generalize hW0:(((w.alloc (.cells #[.pointer (some ⟨h.x.a,0,none⟩),.pointer (some ⟨h.tb,0,none⟩),.pointer (some ⟨h.mb,0,none⟩),.pointer (some ⟨h.cb,0,none⟩)] 36)).alloc (.cells #[.int .u8 5,.int .i64 xp,.int .i64 xa,.int .i64 xb,.int .i64 xc,.slice xD xm xcap] 91)).alloc (.cells #[.int .i64 0,.int .i64 0,.slice none 0 0,.bool false] 94))=W0 at *
 have hH:W0.heap[w.heap.size]? = some (.cells #[.pointer (some ⟨h.x.a,0,none⟩),.pointer (some ⟨h.tb,0,none⟩),.pointer (some ⟨h.mb,0,none⟩),.pointer (some ⟨h.cb,0,none⟩)] 36 (0,0)):=by rw [← hW0,allocAt _ _ _ (by simp;omega),allocAt _ _ _ (by simp)];exact newAt _ _
 have hO:W0.heap[w.heap.size + 1]? = some (.cells #[.int .u8 5,.int .i64 xp,.int .i64 xa,.int .i64 xb,.int .i64 xc,.slice xD xm xcap] 91 (0,0)):=by rw [← hW0,allocAt _ _ _ (by simp)];exact newAt1 _ _ _
 have hR:W0.heap[w.heap.size + 2]? = some (.cells #[.int .i64 0,.int .i64 0,.slice none 0 0,.bool false] 94 (0,0)):=by
  rw [← hW0]
  have:=newAt ((w.alloc (.cells #[.pointer (some ⟨h.x.a,0,none⟩),.pointer (some ⟨h.tb,0,none⟩),.pointer (some ⟨h.mb,0,none⟩),.pointer (some ⟨h.cb,0,none⟩)] 36)).alloc (.cells #[.int .u8 5,.int .i64 xp,.int .i64 xa,.int .i64 xb,.int .i64 xc,.slice xD xm xcap] 91)) (.cells #[.int .i64 0,.int .i64 0,.slice none 0 0,.bool false] 94)
  simpa using this
 have hh0:=hh.below hb0
 have hp0:=hp.below hb0
 have HE0:=Lib.hid hW0
 have hw0:∀ wv,Went w h wv h W0:=fun wv=>Went.of_below hb0 h wv
 have HM:Hid (MidP w B c node rec T h pb part budget wv (ApeP.opP c node part T s ⟨5,xp,xa,xb,xc,xd⟩) ⟨0,0,none,0,[],false⟩ (.nilIface) W0):=Lib.hid (by
  rw [opP_spin]
  exact ⟨h,rfl,World.ownsRow_nil _ _ _ _,ErrE.none_ _,hh0,hp0,hw0 wv⟩)
 have hbz:=hR
 have Hbz:=Lib.hid hbz
 have k0:=za0 hbz 0 rfl
 have k1:=za0 hbz 1 rfl
 have k2:=za0 hbz 2 rfl
 have k3:=za0 hbz 3 rfl
 have f:=fun i=>za2 hbz i
 have o0:=za0 hO 0 rfl
 clear hh hp hH hO hR hh0 hp0 hw0 hb0 hW0 hbz
 generalize ApeP.opP c node part T s ⟨5,xp,xa,xb,xc,xd⟩=rr at *
 go_enter Tryz.func47,Tryz.ntmps47
 go_wp2_with fail
 rw [HE0.out]
 clear f
 refine bodyPost_ret (v:=.tuple #[.agg #[.int .i64 0,.int .i64 0,.slice none 0 0,.bool false],.nilIface]) (by simp [results,Tryz.results47,go_sem,k0,k1,k2,k3]) rfl ?_
 exact HM.out.fin Hbz.out (by omega) (Apart.refl _ _) rfl
set_option maxHeartbeats 1000000 in
theorem do_other {w:World} {B:Nat} {c:TableP.Cfg} {node:Nat} {rec:List (List Nat)} {T:RepP.T} {h:HostC} {s:ApeP.AS} {pb part:Nat} {budget:Int} {wv:Value} (hh:HostIn w B c node rec T h s.ports s.mon s.cmd) (hp:PartIn w B pb part budget wv s.mem) (xk:Nat) (hk:¬ (xk=1∨xk=2∨xk=3∨xk=4∨xk=5∨xk=7∨xk=8∨xk=9∨xk=10)) (xp xa xb xc:Int) (xD:Option Addr) (xm xcap:Nat) (xd:List UInt8):Calls Tryz.prog 47 #[.pointer (some ⟨pb,0,none⟩),hostV h,.agg #[.int .u8 (xk:Nat),.int .i64 xp,.int .i64 xa,.int .i64 xb,.int .i64 xc,.slice xD xm xcap]] w (DoP w B c node rec T h pb part budget wv (ApeP.opP c node part T s ⟨xk,xp,xa,xb,xc,xd⟩)):=by
 have hb0:Below w.heap.size w (((w.alloc (.cells #[.pointer (some ⟨h.x.a,0,none⟩),.pointer (some ⟨h.tb,0,none⟩),.pointer (some ⟨h.mb,0,none⟩),.pointer (some ⟨h.cb,0,none⟩)] 36)).alloc (.cells #[.int .u8 (xk:Nat),.int .i64 xp,.int .i64 xa,.int .i64 xb,.int .i64 xc,.slice xD xm xcap] 91)).alloc (.cells #[.int .i64 0,.int .i64 0,.slice none 0 0,.bool false] 94)):=(((Below.refl _ _).alloc (Nat.le_refl _) _).alloc (by simp) _).alloc (by simp;omega) _
 unfold hostV
 generalize hW0:(((w.alloc (.cells #[.pointer (some ⟨h.x.a,0,none⟩),.pointer (some ⟨h.tb,0,none⟩),.pointer (some ⟨h.mb,0,none⟩),.pointer (some ⟨h.cb,0,none⟩)] 36)).alloc (.cells #[.int .u8 (xk:Nat),.int .i64 xp,.int .i64 xa,.int .i64 xb,.int .i64 xc,.slice xD xm xcap] 91)).alloc (.cells #[.int .i64 0,.int .i64 0,.slice none 0 0,.bool false] 94))=W0 at *
 have hH:W0.heap[w.heap.size]? = some (.cells #[.pointer (some ⟨h.x.a,0,none⟩),.pointer (some ⟨h.tb,0,none⟩),.pointer (some ⟨h.mb,0,none⟩),.pointer (some ⟨h.cb,0,none⟩)] 36 (0,0)):=by rw [← hW0,allocAt _ _ _ (by simp;omega),allocAt _ _ _ (by simp)];exact newAt _ _
 have hO:W0.heap[w.heap.size + 1]? = some (.cells #[.int .u8 (xk:Nat),.int .i64 xp,.int .i64 xa,.int .i64 xb,.int .i64 xc,.slice xD xm xcap] 91 (0,0)):=by rw [← hW0,allocAt _ _ _ (by simp)];exact newAt1 _ _ _
 have hR:W0.heap[w.heap.size + 2]? = some (.cells #[.int .i64 0,.int .i64 0,.slice none 0 0,.bool false] 94 (0,0)):=by
  rw [← hW0]
  have:=newAt ((w.alloc (.cells #[.pointer (some ⟨h.x.a,0,none⟩),.pointer (some ⟨h.tb,0,none⟩),.pointer (some ⟨h.mb,0,none⟩),.pointer (some ⟨h.cb,0,none⟩)] 36)).alloc (.cells #[.int .u8 (xk:Nat),.int .i64 xp,.int .i64 xa,.int .i64 xb,.int .i64 xc,.slice xD xm xcap] 91)) (.cells #[.int .i64 0,.int .i64 0,.slice none 0 0,.bool false] 94)
  simpa using this
 have hh0:=hh.below hb0
 have hp0:=hp.below hb0
 have HE0:=Lib.hid hW0
 have hw0:∀ wv,Went w h wv h W0:=fun wv=>Went.of_below hb0 h wv
 have HM:Hid (MidP w B c node rec T h pb part budget wv (ApeP.opP c node part T s ⟨xk,xp,xa,xb,xc,xd⟩) ⟨0,0,none,0,[],false⟩ (.iface 92 (.int .i64 152)) W0):=Lib.hid (by
  rw [zq9 hk]
  exact ⟨h,rfl,World.ownsRow_nil _ _ _ _,ErrE.errno _ 152 _ rfl,hh0,hp0,hw0 wv⟩)
 have q1:((xk:Int) == 1)=false:=by rw [beq_eq_false_iff_ne];omega
 have p1:(xk == 1)=false:=by rw [beq_eq_false_iff_ne];omega
 have q2:((xk:Int) == 2)=false:=by rw [beq_eq_false_iff_ne];omega
 have p2:(xk == 2)=false:=by rw [beq_eq_false_iff_ne];omega
 have q3:((xk:Int) == 3)=false:=by rw [beq_eq_false_iff_ne];omega
 have p3:(xk == 3)=false:=by rw [beq_eq_false_iff_ne];omega
 have q4:((xk:Int) == 4)=false:=by rw [beq_eq_false_iff_ne];omega
 have p4:(xk == 4)=false:=by rw [beq_eq_false_iff_ne];omega
 have q5:((xk:Int) == 5)=false:=by rw [beq_eq_false_iff_ne];omega
 have p5:(xk == 5)=false:=by rw [beq_eq_false_iff_ne];omega
 have q7:((xk:Int) == 7)=false:=by rw [beq_eq_false_iff_ne];omega
 have p7:(xk == 7)=false:=by rw [beq_eq_false_iff_ne];omega
 have q8:((xk:Int) == 8)=false:=by rw [beq_eq_false_iff_ne];omega
 have p8:(xk == 8)=false:=by rw [beq_eq_false_iff_ne];omega
 have q9:((xk:Int) == 9)=false:=by rw [beq_eq_false_iff_ne];omega
 have p9:(xk == 9)=false:=by rw [beq_eq_false_iff_ne];omega
 have q10:((xk:Int) == 10)=false:=by rw [beq_eq_false_iff_ne];omega
 have p10:(xk == 10)=false:=by rw [beq_eq_false_iff_ne];omega
 have hbz:=hR
 have Hbz:=Lib.hid hbz
 have k0:=za0 hbz 0 rfl
 have k1:=za0 hbz 1 rfl
 have k2:=za0 hbz 2 rfl
 have k3:=za0 hbz 3 rfl
 have f:=fun i=>za2 hbz i
 have o0:=za0 hO 0 rfl
 clear hh hp hH hO hR hh0 hp0 hw0 hb0 hW0 hbz
 generalize ApeP.opP c node part T s ⟨xk,xp,xa,xb,xc,xd⟩=rr at *
 go_enter Tryz.func47,Tryz.ntmps47
 go_wp2_with fail
 rw [HE0.out]
 clear f
 refine bodyPost_ret (v:=.tuple #[.agg #[.int .i64 0,.int .i64 0,.slice none 0 0,.bool false],.iface 92 (.int .i64 152)]) (by simp [results,Tryz.results47,go_sem,k0,k1,k2,k3]) rfl ?_
 exact HM.out.fin Hbz.out (by omega) (Apart.refl _ _) rfl
set_option maxHeartbeats 1000000 in
theorem do_load {w:World} {B:Nat} {c:TableP.Cfg} {node:Nat} {rec:List (List Nat)} {T:RepP.T} {h:HostC} {s:ApeP.AS} {pb part:Nat} {budget:Int} {wv:Value} (hh:HostIn w B c node rec T h s.ports s.mon s.cmd) (hp:PartIn w B pb part budget wv s.mem) (xp xa xb xc:Int) (xD:Option Addr) (xm xcap:Nat) (xd:List UInt8):Calls Tryz.prog 47 #[.pointer (some ⟨pb,0,none⟩),hostV h,.agg #[.int .u8 4,.int .i64 xp,.int .i64 xa,.int .i64 xb,.int .i64 xc,.slice xD xm xcap]] w (DoP w B c node rec T h pb part budget wv (ApeP.opP c node part T s ⟨4,xp,xa,xb,xc,xd⟩)):=by
 have hb0:Below w.heap.size w (((w.alloc (.cells #[.pointer (some ⟨h.x.a,0,none⟩),.pointer (some ⟨h.tb,0,none⟩),.pointer (some ⟨h.mb,0,none⟩),.pointer (some ⟨h.cb,0,none⟩)] 36)).alloc (.cells #[.int .u8 4,.int .i64 xp,.int .i64 xa,.int .i64 xb,.int .i64 xc,.slice xD xm xcap] 91)).alloc (.cells #[.int .i64 0,.int .i64 0,.slice none 0 0,.bool false] 94)):=(((Below.refl _ _).alloc (Nat.le_refl _) _).alloc (by simp) _).alloc (by simp;omega) _
 unfold hostV
 generalize hW0:(((w.alloc (.cells #[.pointer (some ⟨h.x.a,0,none⟩),.pointer (some ⟨h.tb,0,none⟩),.pointer (some ⟨h.mb,0,none⟩),.pointer (some ⟨h.cb,0,none⟩)] 36)).alloc (.cells #[.int .u8 4,.int .i64 xp,.int .i64 xa,.int .i64 xb,.int .i64 xc,.slice xD xm xcap] 91)).alloc (.cells #[.int .i64 0,.int .i64 0,.slice none 0 0,.bool false] 94))=W0 at *
 have hH:W0.heap[w.heap.size]? = some (.cells #[.pointer (some ⟨h.x.a,0,none⟩),.pointer (some ⟨h.tb,0,none⟩),.pointer (some ⟨h.mb,0,none⟩),.pointer (some ⟨h.cb,0,none⟩)] 36 (0,0)):=by rw [← hW0,allocAt _ _ _ (by simp;omega),allocAt _ _ _ (by simp)];exact newAt _ _
 have hO:W0.heap[w.heap.size + 1]? = some (.cells #[.int .u8 4,.int .i64 xp,.int .i64 xa,.int .i64 xb,.int .i64 xc,.slice xD xm xcap] 91 (0,0)):=by rw [← hW0,allocAt _ _ _ (by simp)];exact newAt1 _ _ _
 have hR:W0.heap[w.heap.size + 2]? = some (.cells #[.int .i64 0,.int .i64 0,.slice none 0 0,.bool false] 94 (0,0)):=by
  rw [← hW0]
  have:=newAt ((w.alloc (.cells #[.pointer (some ⟨h.x.a,0,none⟩),.pointer (some ⟨h.tb,0,none⟩),.pointer (some ⟨h.mb,0,none⟩),.pointer (some ⟨h.cb,0,none⟩)] 36)).alloc (.cells #[.int .u8 4,.int .i64 xp,.int .i64 xa,.int .i64 xb,.int .i64 xc,.slice xD xm xcap] 91)) (.cells #[.int .i64 0,.int .i64 0,.slice none 0 0,.bool false] 94)
  simpa using this
 have hh0:=hh.below hb0
 have hp0:=hp.below hb0
 have HE0:=Lib.hid hW0
 have hw0:∀ wv,Went w h wv h W0:=fun wv=>Went.of_below hb0 h wv
 have HS:=Lib.hid (by
  have h1:=load_any hp0 xa
  rw [show loadT s.mem xa=(ApeP.opP c node part T s ⟨4,xp,xa,xb,xc,xd⟩).1 by rw [zl8]] at h1
  exact h1)
 have HM:=Lib.hid (show ∀ (yc:Nat) (yv:Int) (yf:Bool) (ev:Value) (w1:World),(⟨yc,yv,none,0,[],yf⟩:ResC).plain=(ApeP.opP c node part T s ⟨4,xp,xa,xb,xc,xd⟩).1.1→ErrE w1 (ApeP.opP c node part T s ⟨4,xp,xa,xb,xc,xd⟩).1.2 ev→Below W0.heap.size W0 w1→MidP w B c node rec T h pb part budget wv (ApeP.opP c node part T s ⟨4,xp,xa,xb,xc,xd⟩) ⟨yc,yv,none,0,[],yf⟩ ev w1∧w1.heap[w.heap.size + 2]? = some (.cells #[.int .i64 0,.int .i64 0,.slice none 0 0,.bool false] 94 (0,0)) from fun yc yv yf ev w1 g1 g2 g3=>by
  refine ⟨⟨h,g1,ze1 _ _,g2,?_,?_,(hw0 wv).trans (Went.of_below g3 h wv)⟩,(g3.block _ (lt_of_block hR)).trans hR⟩
  ·rw [zl8];exact hh0.below g3
  ·rw [zl8];exact hp0.below g3)
 have o0:=za0 hO 0 rfl
 have o2:=za0 hO 2 rfl
 have o3:=za0 hO 3 rfl
 have o4:=za0 hO 4 rfl
 clear hh hp hH hO hR hh0 hp0 hw0 hb0 hW0
 generalize ApeP.opP c node part T s ⟨4,xp,xa,xb,xc,xd⟩=rr at *
 go_enter Tryz.func47,Tryz.ntmps47
 go_wp2_with fail
 rw [HE0.out]
 refine HS.out.mono ?_
 rintro e w1 ⟨y,ev,rfl,g1,g2,g3,g4,g5⟩
 obtain ⟨yc,yv,yA,ycap,yd,yf⟩:=y
 simp only at g2 g3
 obtain ⟨rfl,rfl⟩:=g2
 subst g3
 obtain ⟨hmm,hbz⟩:=HM.out yc yv yf ev w1 g1 g4 g5
 clear g1 g4 g5
 have Hbz:=Lib.hid hbz
 have k0:=za0 hbz 0 rfl
 have k1:=za0 hbz 1 rfl
 have k2:=za0 hbz 2 rfl
 have k3:=za0 hbz 3 rfl
 have f:=fun i=>za2 hbz i
 have HMm:=Lib.hid hmm
 clear hbz hmm HS HM
 simp only [resV,List.length_nil]
 go_wp2_with fail
 clear k0 k1 k2 k3 f
 show bodyPost _ _ _ _ _ (storeAll w1 (w.heap.size + 2) [.int .i64 (yc:Nat),.int .i64 yv,.slice none 0 0,.bool yf] 0)
 have hfin:=za4 Hbz.out rfl [.int .i64 (yc:Nat),.int .i64 yv,.slice none 0 0,.bool yf] rfl
 have HB:=Lib.hid (za1 (w.heap.size + 2) [.int .i64 (yc:Nat),.int .i64 yv,.slice none 0 0,.bool yf] 0 w1)
 generalize storeAll w1 (w.heap.size + 2) [.int .i64 (yc:Nat),.int .i64 yv,.slice none 0 0,.bool yf] 0=Wf at *
 have r0:=za0 hfin 0 rfl
 have r1:=za0 hfin 1 rfl
 have r2:=za0 hfin 2 rfl
 have r3:=za0 hfin 3 rfl
 refine bodyPost_ret (v:=.tuple #[.agg #[.int .i64 (yc:Nat),.int .i64 yv,.slice none 0 0,.bool yf],ev]) (by simp [results,Tryz.results47,go_sem,r0,r1,r2,r3]) rfl ?_
 exact HMm.out.fin Hbz.out (by omega) HB.out rfl
set_option maxHeartbeats 1000000 in
theorem do_ask {w:World} {B:Nat} {c:TableP.Cfg} {node:Nat} {rec:List (List Nat)} {T:RepP.T} {h:HostC} {s:ApeP.AS} {pb part:Nat} {budget:Int} {wv:Value} (hh:HostIn w B c node rec T h s.ports s.mon s.cmd) (hp:PartIn w B pb part budget wv s.mem) (hT:∀ i v,RepP.tat T i=some v→v < 65536) (xp xa xb xc:Int) (xD:Option Addr) (xm xcap:Nat) (xd:List UInt8):Calls Tryz.prog 47 #[.pointer (some ⟨pb,0,none⟩),hostV h,.agg #[.int .u8 10,.int .i64 xp,.int .i64 xa,.int .i64 xb,.int .i64 xc,.slice xD xm xcap]] w (DoP w B c node rec T h pb part budget wv (ApeP.opP c node part T s ⟨10,xp,xa,xb,xc,xd⟩)):=by
 have hb0:Below w.heap.size w (((w.alloc (.cells #[.pointer (some ⟨h.x.a,0,none⟩),.pointer (some ⟨h.tb,0,none⟩),.pointer (some ⟨h.mb,0,none⟩),.pointer (some ⟨h.cb,0,none⟩)] 36)).alloc (.cells #[.int .u8 10,.int .i64 xp,.int .i64 xa,.int .i64 xb,.int .i64 xc,.slice xD xm xcap] 91)).alloc (.cells #[.int .i64 0,.int .i64 0,.slice none 0 0,.bool false] 94)):=(((Below.refl _ _).alloc (Nat.le_refl _) _).alloc (by simp) _).alloc (by simp;omega) _
 unfold hostV
 generalize hW0:(((w.alloc (.cells #[.pointer (some ⟨h.x.a,0,none⟩),.pointer (some ⟨h.tb,0,none⟩),.pointer (some ⟨h.mb,0,none⟩),.pointer (some ⟨h.cb,0,none⟩)] 36)).alloc (.cells #[.int .u8 10,.int .i64 xp,.int .i64 xa,.int .i64 xb,.int .i64 xc,.slice xD xm xcap] 91)).alloc (.cells #[.int .i64 0,.int .i64 0,.slice none 0 0,.bool false] 94))=W0 at *
 have hH:W0.heap[w.heap.size]? = some (.cells #[.pointer (some ⟨h.x.a,0,none⟩),.pointer (some ⟨h.tb,0,none⟩),.pointer (some ⟨h.mb,0,none⟩),.pointer (some ⟨h.cb,0,none⟩)] 36 (0,0)):=by rw [← hW0,allocAt _ _ _ (by simp;omega),allocAt _ _ _ (by simp)];exact newAt _ _
 have hO:W0.heap[w.heap.size + 1]? = some (.cells #[.int .u8 10,.int .i64 xp,.int .i64 xa,.int .i64 xb,.int .i64 xc,.slice xD xm xcap] 91 (0,0)):=by rw [← hW0,allocAt _ _ _ (by simp)];exact newAt1 _ _ _
 have hR:W0.heap[w.heap.size + 2]? = some (.cells #[.int .i64 0,.int .i64 0,.slice none 0 0,.bool false] 94 (0,0)):=by
  rw [← hW0]
  have:=newAt ((w.alloc (.cells #[.pointer (some ⟨h.x.a,0,none⟩),.pointer (some ⟨h.tb,0,none⟩),.pointer (some ⟨h.mb,0,none⟩),.pointer (some ⟨h.cb,0,none⟩)] 36)).alloc (.cells #[.int .u8 10,.int .i64 xp,.int .i64 xa,.int .i64 xb,.int .i64 xc,.slice xD xm xcap] 91)) (.cells #[.int .i64 0,.int .i64 0,.slice none 0 0,.bool false] 94)
  simpa using this
 have hh0:=hh.below hb0
 have hp0:=hp.below hb0
 have HE0:=Lib.hid hW0
 have hw0:∀ wv,Went w h wv h W0:=fun wv=>Went.of_below hb0 h wv
 have h1:=za0 hH 1 rfl
 have HS:=Lib.hid (by
  have h1:=ask_any16 hh0.tab hT xa
  rw [show askT T xa=(ApeP.opP c node part T s ⟨10,xp,xa,xb,xc,xd⟩).1 by rw [zm7]] at h1
  exact h1)
 have HM:=Lib.hid (show ∀ (yc:Nat) (yv:Int) (yf:Bool) (ev:Value) (w1:World),(⟨yc,yv,none,0,[],yf⟩:ResC).plain=(ApeP.opP c node part T s ⟨10,xp,xa,xb,xc,xd⟩).1.1→ErrE w1 (ApeP.opP c node part T s ⟨10,xp,xa,xb,xc,xd⟩).1.2 ev→Below W0.heap.size W0 w1→MidP w B c node rec T h pb part budget wv (ApeP.opP c node part T s ⟨10,xp,xa,xb,xc,xd⟩) ⟨yc,yv,none,0,[],yf⟩ ev w1∧w1.heap[w.heap.size + 2]? = some (.cells #[.int .i64 0,.int .i64 0,.slice none 0 0,.bool false] 94 (0,0)) from fun yc yv yf ev w1 g1 g2 g3=>by
  refine ⟨⟨h,g1,ze1 _ _,g2,?_,?_,(hw0 wv).trans (Went.of_below g3 h wv)⟩,(g3.block _ (lt_of_block hR)).trans hR⟩
  ·rw [zm7];exact hh0.below g3
  ·rw [zm7];exact hp0.below g3)
 have o0:=za0 hO 0 rfl
 have o2:=za0 hO 2 rfl
 have o3:=za0 hO 3 rfl
 have o4:=za0 hO 4 rfl
 clear hh hp hH hO hR hh0 hp0 hw0 hb0 hW0 hT
 generalize ApeP.opP c node part T s ⟨10,xp,xa,xb,xc,xd⟩=rr at *
 go_enter Tryz.func47,Tryz.ntmps47
 go_wp2_with fail
 rw [HE0.out]
 refine HS.out.mono ?_
 rintro e w1 ⟨y,ev,rfl,g1,g2,g3,g4,g5⟩
 obtain ⟨yc,yv,yA,ycap,yd,yf⟩:=y
 simp only at g2 g3
 obtain ⟨rfl,rfl⟩:=g2
 subst g3
 obtain ⟨hmm,hbz⟩:=HM.out yc yv yf ev w1 g1 g4 g5
 clear g1 g4 g5
 have Hbz:=Lib.hid hbz
 have k0:=za0 hbz 0 rfl
 have k1:=za0 hbz 1 rfl
 have k2:=za0 hbz 2 rfl
 have k3:=za0 hbz 3 rfl
 have f:=fun i=>za2 hbz i
 have HMm:=Lib.hid hmm
 clear hbz hmm HS HM
 simp only [resV,List.length_nil]
 go_wp2_with fail
 clear k0 k1 k2 k3 f
 show bodyPost _ _ _ _ _ (storeAll w1 (w.heap.size + 2) [.int .i64 (yc:Nat),.int .i64 yv,.slice none 0 0,.bool yf] 0)
 have hfin:=za4 Hbz.out rfl [.int .i64 (yc:Nat),.int .i64 yv,.slice none 0 0,.bool yf] rfl
 have HB:=Lib.hid (za1 (w.heap.size + 2) [.int .i64 (yc:Nat),.int .i64 yv,.slice none 0 0,.bool yf] 0 w1)
 generalize storeAll w1 (w.heap.size + 2) [.int .i64 (yc:Nat),.int .i64 yv,.slice none 0 0,.bool yf] 0=Wf at *
 have r0:=za0 hfin 0 rfl
 have r1:=za0 hfin 1 rfl
 have r2:=za0 hfin 2 rfl
 have r3:=za0 hfin 3 rfl
 refine bodyPost_ret (v:=.tuple #[.agg #[.int .i64 (yc:Nat),.int .i64 yv,.slice none 0 0,.bool yf],ev]) (by simp [results,Tryz.results47,go_sem,r0,r1,r2,r3]) rfl ?_
 exact HMm.out.fin Hbz.out (by omega) HB.out rfl
set_option maxHeartbeats 1000000 in
theorem do_store {w:World} {B:Nat} {c:TableP.Cfg} {node:Nat} {rec:List (List Nat)} {T:RepP.T} {h:HostC} {s:ApeP.AS} {pb part:Nat} {budget:Int} {wv:Value} (hh:HostIn w B c node rec T h s.ports s.mon s.cmd) (hp:PartIn w B pb part budget wv s.mem) (xp xa xb xc:Int) (xD:Option Addr) (xm xcap:Nat) (xd:List UInt8):Calls Tryz.prog 47 #[.pointer (some ⟨pb,0,none⟩),hostV h,.agg #[.int .u8 3,.int .i64 xp,.int .i64 xa,.int .i64 xb,.int .i64 xc,.slice xD xm xcap]] w (DoP w B c node rec T h pb part budget wv (ApeP.opP c node part T s ⟨3,xp,xa,xb,xc,xd⟩)):=by
 have hb0:Below w.heap.size w (((w.alloc (.cells #[.pointer (some ⟨h.x.a,0,none⟩),.pointer (some ⟨h.tb,0,none⟩),.pointer (some ⟨h.mb,0,none⟩),.pointer (some ⟨h.cb,0,none⟩)] 36)).alloc (.cells #[.int .u8 3,.int .i64 xp,.int .i64 xa,.int .i64 xb,.int .i64 xc,.slice xD xm xcap] 91)).alloc (.cells #[.int .i64 0,.int .i64 0,.slice none 0 0,.bool false] 94)):=(((Below.refl _ _).alloc (Nat.le_refl _) _).alloc (by simp) _).alloc (by simp;omega) _
 unfold hostV
 generalize hW0:(((w.alloc (.cells #[.pointer (some ⟨h.x.a,0,none⟩),.pointer (some ⟨h.tb,0,none⟩),.pointer (some ⟨h.mb,0,none⟩),.pointer (some ⟨h.cb,0,none⟩)] 36)).alloc (.cells #[.int .u8 3,.int .i64 xp,.int .i64 xa,.int .i64 xb,.int .i64 xc,.slice xD xm xcap] 91)).alloc (.cells #[.int .i64 0,.int .i64 0,.slice none 0 0,.bool false] 94))=W0 at *
 have hH:W0.heap[w.heap.size]? = some (.cells #[.pointer (some ⟨h.x.a,0,none⟩),.pointer (some ⟨h.tb,0,none⟩),.pointer (some ⟨h.mb,0,none⟩),.pointer (some ⟨h.cb,0,none⟩)] 36 (0,0)):=by rw [← hW0,allocAt _ _ _ (by simp;omega),allocAt _ _ _ (by simp)];exact newAt _ _
 have hO:W0.heap[w.heap.size + 1]? = some (.cells #[.int .u8 3,.int .i64 xp,.int .i64 xa,.int .i64 xb,.int .i64 xc,.slice xD xm xcap] 91 (0,0)):=by rw [← hW0,allocAt _ _ _ (by simp)];exact newAt1 _ _ _
 have hR:W0.heap[w.heap.size + 2]? = some (.cells #[.int .i64 0,.int .i64 0,.slice none 0 0,.bool false] 94 (0,0)):=by
  rw [← hW0]
  have:=newAt ((w.alloc (.cells #[.pointer (some ⟨h.x.a,0,none⟩),.pointer (some ⟨h.tb,0,none⟩),.pointer (some ⟨h.mb,0,none⟩),.pointer (some ⟨h.cb,0,none⟩)] 36)).alloc (.cells #[.int .u8 3,.int .i64 xp,.int .i64 xa,.int .i64 xb,.int .i64 xc,.slice xD xm xcap] 91)) (.cells #[.int .i64 0,.int .i64 0,.slice none 0 0,.bool false] 94)
  simpa using this
 have hh0:=hh.below hb0
 have hp0:=hp.below hb0
 have HE0:=Lib.hid hW0
 have hw0:∀ wv,Went w h wv h W0:=fun wv=>Went.of_below hb0 h wv
 have b1:=zb8 xb
 have HS:=Lib.hid (store_any hp0 xa (ApeP.cut16 xb) (zc8 xb))
 have HM:=Lib.hid (show ∀ (yc:Nat) (yv:Int) (yf:Bool) (ev:Value) (w1:World),(⟨yc,yv,none,0,[],yf⟩:ResC).plain=(storeT s.mem xa (ApeP.cut16 xb)).1.1→ErrE w1 (storeT s.mem xa (ApeP.cut16 xb)).1.2 ev→PartIn w1 B pb part budget wv (storeT s.mem xa (ApeP.cut16 xb)).2→Apart (fun k=>wv.ownBlock=some k) W0 w1→MidP w B c node rec T h pb part budget wv (ApeP.opP c node part T s ⟨3,xp,xa,xb,xc,xd⟩) ⟨yc,yv,none,0,[],yf⟩ ev w1∧w1.heap[w.heap.size + 2]? = some (.cells #[.int .i64 0,.int .i64 0,.slice none 0 0,.bool false] 94 (0,0)) from fun yc yv yf ev w1 g1 g2 g3 g4=>by
  rw [zq8]
  obtain ⟨e1,e2⟩:=hh0.toWords hp0 g4
  refine ⟨⟨h,g1,ze1 _ _,g2,e1,g3,(hw0 wv).trans e2⟩,(g4.block _ (lt_of_block hR) (fun e=>?_)).trans hR⟩
  obtain ⟨-,cs,e3⟩:=hp0.fTag e
  exact za5 hR e3 (by decide))
 have o0:=za0 hO 0 rfl
 have o2:=za0 hO 2 rfl
 have o3:=za0 hO 3 rfl
 have o4:=za0 hO 4 rfl
 clear hh hp hH hO hR hh0 hp0 hw0 hb0 hW0
 generalize ApeP.opP c node part T s ⟨3,xp,xa,xb,xc,xd⟩=rr at *
 go_enter Tryz.func47,Tryz.ntmps47
 go_wp2_with fail
 rw [HE0.out]
 refine HS.out.mono ?_
 rintro e w1 ⟨y,ev,rfl,g1,g2,g3,g4,g5,g6⟩
 obtain ⟨yc,yv,yA,ycap,yd,yf⟩:=y
 simp only at g2 g3
 obtain ⟨rfl,rfl⟩:=g2
 subst g3
 obtain ⟨hmm,hbz⟩:=HM.out yc yv yf ev w1 g1 g4 g5 g6
 clear g1 g4 g5 g6
 have Hbz:=Lib.hid hbz
 have k0:=za0 hbz 0 rfl
 have k1:=za0 hbz 1 rfl
 have k2:=za0 hbz 2 rfl
 have k3:=za0 hbz 3 rfl
 have f:=fun i=>za2 hbz i
 have HMm:=Lib.hid hmm
 clear hbz hmm HS HM
 simp only [resV,List.length_nil]
 go_wp2_with fail
 clear k0 k1 k2 k3 f
 show bodyPost _ _ _ _ _ (storeAll w1 (w.heap.size + 2) [.int .i64 (yc:Nat),.int .i64 yv,.slice none 0 0,.bool yf] 0)
 have hfin:=za4 Hbz.out rfl [.int .i64 (yc:Nat),.int .i64 yv,.slice none 0 0,.bool yf] rfl
 have HB:=Lib.hid (za1 (w.heap.size + 2) [.int .i64 (yc:Nat),.int .i64 yv,.slice none 0 0,.bool yf] 0 w1)
 generalize storeAll w1 (w.heap.size + 2) [.int .i64 (yc:Nat),.int .i64 yv,.slice none 0 0,.bool yf] 0=Wf at *
 have r0:=za0 hfin 0 rfl
 have r1:=za0 hfin 1 rfl
 have r2:=za0 hfin 2 rfl
 have r3:=za0 hfin 3 rfl
 refine bodyPost_ret (v:=.tuple #[.agg #[.int .i64 (yc:Nat),.int .i64 yv,.slice none 0 0,.bool yf],ev]) (by simp [results,Tryz.results47,go_sem,r0,r1,r2,r3]) rfl ?_
 exact HMm.out.fin Hbz.out (by omega) HB.out rfl
set_option maxHeartbeats 1000000 in
theorem do_cmd7 {w:World} {B:Nat} {c:TableP.Cfg} {node:Nat} {rec:List (List Nat)} {T:RepP.T} {h:HostC} {s:ApeP.AS} {pb part:Nat} {budget:Int} {wv:Value} (hh:HostIn w B c node rec T h s.ports s.mon s.cmd) (hp:PartIn w B pb part budget wv s.mem) (xp xa xb xc:Int) (xD:Option Addr) (xm xcap:Nat) (xd:List UInt8):Calls Tryz.prog 47 #[.pointer (some ⟨pb,0,none⟩),hostV h,.agg #[.int .u8 7,.int .i64 xp,.int .i64 xa,.int .i64 xb,.int .i64 xc,.slice xD xm xcap]] w (DoP w B c node rec T h pb part budget wv (ApeP.opP c node part T s ⟨7,xp,xa,xb,xc,xd⟩)):=by
 have hb0:Below w.heap.size w (((w.alloc (.cells #[.pointer (some ⟨h.x.a,0,none⟩),.pointer (some ⟨h.tb,0,none⟩),.pointer (some ⟨h.mb,0,none⟩),.pointer (some ⟨h.cb,0,none⟩)] 36)).alloc (.cells #[.int .u8 7,.int .i64 xp,.int .i64 xa,.int .i64 xb,.int .i64 xc,.slice xD xm xcap] 91)).alloc (.cells #[.int .i64 0,.int .i64 0,.slice none 0 0,.bool false] 94)):=(((Below.refl _ _).alloc (Nat.le_refl _) _).alloc (by simp) _).alloc (by simp;omega) _
 unfold hostV
 generalize hW0:(((w.alloc (.cells #[.pointer (some ⟨h.x.a,0,none⟩),.pointer (some ⟨h.tb,0,none⟩),.pointer (some ⟨h.mb,0,none⟩),.pointer (some ⟨h.cb,0,none⟩)] 36)).alloc (.cells #[.int .u8 7,.int .i64 xp,.int .i64 xa,.int .i64 xb,.int .i64 xc,.slice xD xm xcap] 91)).alloc (.cells #[.int .i64 0,.int .i64 0,.slice none 0 0,.bool false] 94))=W0 at *
 have hH:W0.heap[w.heap.size]? = some (.cells #[.pointer (some ⟨h.x.a,0,none⟩),.pointer (some ⟨h.tb,0,none⟩),.pointer (some ⟨h.mb,0,none⟩),.pointer (some ⟨h.cb,0,none⟩)] 36 (0,0)):=by rw [← hW0,allocAt _ _ _ (by simp;omega),allocAt _ _ _ (by simp)];exact newAt _ _
 have hO:W0.heap[w.heap.size + 1]? = some (.cells #[.int .u8 7,.int .i64 xp,.int .i64 xa,.int .i64 xb,.int .i64 xc,.slice xD xm xcap] 91 (0,0)):=by rw [← hW0,allocAt _ _ _ (by simp)];exact newAt1 _ _ _
 have hR:W0.heap[w.heap.size + 2]? = some (.cells #[.int .i64 0,.int .i64 0,.slice none 0 0,.bool false] 94 (0,0)):=by
  rw [← hW0]
  have:=newAt ((w.alloc (.cells #[.pointer (some ⟨h.x.a,0,none⟩),.pointer (some ⟨h.tb,0,none⟩),.pointer (some ⟨h.mb,0,none⟩),.pointer (some ⟨h.cb,0,none⟩)] 36)).alloc (.cells #[.int .u8 7,.int .i64 xp,.int .i64 xa,.int .i64 xb,.int .i64 xc,.slice xD xm xcap] 91)) (.cells #[.int .i64 0,.int .i64 0,.slice none 0 0,.bool false] 94)
  simpa using this
 have hh0:=hh.below hb0
 have hp0:=hp.below hb0
 have HE0:=Lib.hid hW0
 have hw0:∀ wv,Went w h wv h W0:=fun wv=>Went.of_below hb0 h wv
 have b1:=zb8 xb
 have b2:=zb8 xc
 have h0:=za0 hH 0 rfl
 have h1:=za0 hH 1 rfl
 have h2:=za0 hH 2 rfl
 have h3:=za0 hH 3 rfl
 have HS:=Lib.hid (by
  have h1:=zv4 W0 h s.cmd hh0.cmd xa ⟨1,0,ApeP.cut16 xb,0⟩
  unfold hostV cmdV14 at h1
  exact h1)
 have HM:=Lib.hid (show ∀ (ev:Value) (w1:World),ErrE w1 (waitC s.cmd xa ⟨1,0,ApeP.cut16 xb,0⟩).1 ev→w1.heap[h.cb]? = some (.cells (cmdVals (waitC s.cmd xa ⟨1,0,ApeP.cut16 xb,0⟩).2).toArray 51 (0,0))→Apart (fun k=>k=h.cb) W0 w1→MidP w B c node rec T h pb part budget wv (ApeP.opP c node part T s ⟨7,xp,xa,xb,xc,xd⟩) ⟨0,0,none,0,[],false⟩ ev w1∧w1.heap[w.heap.size + 2]? = some (.cells #[.int .i64 0,.int .i64 0,.slice none 0 0,.bool false] 94 (0,0)) from fun ev w1 g1 g2 g3=>by
  rw [zo3]
  have hok:CmdIn (waitC s.cmd xa ⟨1,0,ApeP.cut16 xb,0⟩).2:=by
   unfold waitC
   split
   ·exact hh.cok
   ·split
    ·exact hh.cok
    ·rename_i q1 q2
     have:=zc8 xb
     have:=zc8 xc
     exact ⟨by show (1:Nat)≤255;decide,by show xa.toNat≤255;omega,zc8 xb,by show (0:Nat) < 65536;decide⟩
  obtain ⟨e1,e2,e3⟩:=hh0.toCmd g2 hok g3
  refine ⟨⟨h,rfl,ze1 _ _,g1,e1,hp0.beside hh0 e3,(hw0 wv).trans (e2 wv)⟩,(g3.block _ (lt_of_block hR) (fun e=>?_)).trans hR⟩
  have hc:=hh0.cmd
  rw [← e] at hc
  exact za5 hR hc (by decide))
 have o0:=za0 hO 0 rfl
 have o2:=za0 hO 2 rfl
 have o3:=za0 hO 3 rfl
 have o4:=za0 hO 4 rfl
 clear hh hp hH hO hR hh0 hp0 hw0 hb0 hW0
 generalize ApeP.opP c node part T s ⟨7,xp,xa,xb,xc,xd⟩=rr at *
 go_enter Tryz.func47,Tryz.ntmps47
 go_wp2_with fail
 rw [HE0.out]
 refine HS.out.mono ?_
 rintro e w1 ⟨ev,rfl,g1,g2,g3⟩
 obtain ⟨hmm,hbz⟩:=HM.out ev w1 g1 g2 g3
 clear g1 g2 g3
 have Hbz:=Lib.hid hbz
 have k0:=za0 hbz 0 rfl
 have k1:=za0 hbz 1 rfl
 have k2:=za0 hbz 2 rfl
 have k3:=za0 hbz 3 rfl
 have f:=fun i=>za2 hbz i
 have HMm:=Lib.hid hmm
 clear hbz hmm HS HM
 go_wp2_with fail
 clear k0 k1 k2 k3 f
 show bodyPost _ _ _ _ _ (storeAll w1 (w.heap.size + 2) [.int .i64 0,.int .i64 0,.slice none 0 0,.bool false] 0)
 have hfin:=za4 Hbz.out rfl [.int .i64 0,.int .i64 0,.slice none 0 0,.bool false] rfl
 have HB:=Lib.hid (za1 (w.heap.size + 2) [.int .i64 0,.int .i64 0,.slice none 0 0,.bool false] 0 w1)
 generalize storeAll w1 (w.heap.size + 2) [.int .i64 0,.int .i64 0,.slice none 0 0,.bool false] 0=Wf at *
 have r0:=za0 hfin 0 rfl
 have r1:=za0 hfin 1 rfl
 have r2:=za0 hfin 2 rfl
 have r3:=za0 hfin 3 rfl
 refine bodyPost_ret (v:=.tuple #[.agg #[.int .i64 0,.int .i64 0,.slice none 0 0,.bool false],ev]) (by simp [results,Tryz.results47,go_sem,r0,r1,r2,r3]) rfl ?_
 exact HMm.out.fin Hbz.out (by omega) HB.out rfl
set_option maxHeartbeats 1000000 in
theorem do_cmd8 {w:World} {B:Nat} {c:TableP.Cfg} {node:Nat} {rec:List (List Nat)} {T:RepP.T} {h:HostC} {s:ApeP.AS} {pb part:Nat} {budget:Int} {wv:Value} (hh:HostIn w B c node rec T h s.ports s.mon s.cmd) (hp:PartIn w B pb part budget wv s.mem) (xp xa xb xc:Int) (xD:Option Addr) (xm xcap:Nat) (xd:List UInt8):Calls Tryz.prog 47 #[.pointer (some ⟨pb,0,none⟩),hostV h,.agg #[.int .u8 8,.int .i64 xp,.int .i64 xa,.int .i64 xb,.int .i64 xc,.slice xD xm xcap]] w (DoP w B c node rec T h pb part budget wv (ApeP.opP c node part T s ⟨8,xp,xa,xb,xc,xd⟩)):=by
 have hb0:Below w.heap.size w (((w.alloc (.cells #[.pointer (some ⟨h.x.a,0,none⟩),.pointer (some ⟨h.tb,0,none⟩),.pointer (some ⟨h.mb,0,none⟩),.pointer (some ⟨h.cb,0,none⟩)] 36)).alloc (.cells #[.int .u8 8,.int .i64 xp,.int .i64 xa,.int .i64 xb,.int .i64 xc,.slice xD xm xcap] 91)).alloc (.cells #[.int .i64 0,.int .i64 0,.slice none 0 0,.bool false] 94)):=(((Below.refl _ _).alloc (Nat.le_refl _) _).alloc (by simp) _).alloc (by simp;omega) _
 unfold hostV
 generalize hW0:(((w.alloc (.cells #[.pointer (some ⟨h.x.a,0,none⟩),.pointer (some ⟨h.tb,0,none⟩),.pointer (some ⟨h.mb,0,none⟩),.pointer (some ⟨h.cb,0,none⟩)] 36)).alloc (.cells #[.int .u8 8,.int .i64 xp,.int .i64 xa,.int .i64 xb,.int .i64 xc,.slice xD xm xcap] 91)).alloc (.cells #[.int .i64 0,.int .i64 0,.slice none 0 0,.bool false] 94))=W0 at *
 have hH:W0.heap[w.heap.size]? = some (.cells #[.pointer (some ⟨h.x.a,0,none⟩),.pointer (some ⟨h.tb,0,none⟩),.pointer (some ⟨h.mb,0,none⟩),.pointer (some ⟨h.cb,0,none⟩)] 36 (0,0)):=by rw [← hW0,allocAt _ _ _ (by simp;omega),allocAt _ _ _ (by simp)];exact newAt _ _
 have hO:W0.heap[w.heap.size + 1]? = some (.cells #[.int .u8 8,.int .i64 xp,.int .i64 xa,.int .i64 xb,.int .i64 xc,.slice xD xm xcap] 91 (0,0)):=by rw [← hW0,allocAt _ _ _ (by simp)];exact newAt1 _ _ _
 have hR:W0.heap[w.heap.size + 2]? = some (.cells #[.int .i64 0,.int .i64 0,.slice none 0 0,.bool false] 94 (0,0)):=by
  rw [← hW0]
  have:=newAt ((w.alloc (.cells #[.pointer (some ⟨h.x.a,0,none⟩),.pointer (some ⟨h.tb,0,none⟩),.pointer (some ⟨h.mb,0,none⟩),.pointer (some ⟨h.cb,0,none⟩)] 36)).alloc (.cells #[.int .u8 8,.int .i64 xp,.int .i64 xa,.int .i64 xb,.int .i64 xc,.slice xD xm xcap] 91)) (.cells #[.int .i64 0,.int .i64 0,.slice none 0 0,.bool false] 94)
  simpa using this
 have hh0:=hh.below hb0
 have hp0:=hp.below hb0
 have HE0:=Lib.hid hW0
 have hw0:∀ wv,Went w h wv h W0:=fun wv=>Went.of_below hb0 h wv
 have b1:=zb8 xb
 have b2:=zb8 xc
 have h0:=za0 hH 0 rfl
 have h1:=za0 hH 1 rfl
 have h2:=za0 hH 2 rfl
 have h3:=za0 hH 3 rfl
 have HS:=Lib.hid (by
  have h1:=zv4 W0 h s.cmd hh0.cmd xa ⟨2,0,0,0⟩
  unfold hostV cmdV14 at h1
  exact h1)
 have HM:=Lib.hid (show ∀ (ev:Value) (w1:World),ErrE w1 (waitC s.cmd xa ⟨2,0,0,0⟩).1 ev→w1.heap[h.cb]? = some (.cells (cmdVals (waitC s.cmd xa ⟨2,0,0,0⟩).2).toArray 51 (0,0))→Apart (fun k=>k=h.cb) W0 w1→MidP w B c node rec T h pb part budget wv (ApeP.opP c node part T s ⟨8,xp,xa,xb,xc,xd⟩) ⟨0,0,none,0,[],false⟩ ev w1∧w1.heap[w.heap.size + 2]? = some (.cells #[.int .i64 0,.int .i64 0,.slice none 0 0,.bool false] 94 (0,0)) from fun ev w1 g1 g2 g3=>by
  rw [zo4]
  have hok:CmdIn (waitC s.cmd xa ⟨2,0,0,0⟩).2:=by
   unfold waitC
   split
   ·exact hh.cok
   ·split
    ·exact hh.cok
    ·rename_i q1 q2
     have:=zc8 xb
     have:=zc8 xc
     exact ⟨by show (2:Nat)≤255;decide,by show xa.toNat≤255;omega,by show (0:Nat) < 65536;decide,by show (0:Nat) < 65536;decide⟩
  obtain ⟨e1,e2,e3⟩:=hh0.toCmd g2 hok g3
  refine ⟨⟨h,rfl,ze1 _ _,g1,e1,hp0.beside hh0 e3,(hw0 wv).trans (e2 wv)⟩,(g3.block _ (lt_of_block hR) (fun e=>?_)).trans hR⟩
  have hc:=hh0.cmd
  rw [← e] at hc
  exact za5 hR hc (by decide))
 have o0:=za0 hO 0 rfl
 have o2:=za0 hO 2 rfl
 have o3:=za0 hO 3 rfl
 have o4:=za0 hO 4 rfl
 clear hh hp hH hO hR hh0 hp0 hw0 hb0 hW0
 generalize ApeP.opP c node part T s ⟨8,xp,xa,xb,xc,xd⟩=rr at *
 go_enter Tryz.func47,Tryz.ntmps47
 go_wp2_with fail
 rw [HE0.out]
 refine HS.out.mono ?_
 rintro e w1 ⟨ev,rfl,g1,g2,g3⟩
 obtain ⟨hmm,hbz⟩:=HM.out ev w1 g1 g2 g3
 clear g1 g2 g3
 have Hbz:=Lib.hid hbz
 have k0:=za0 hbz 0 rfl
 have k1:=za0 hbz 1 rfl
 have k2:=za0 hbz 2 rfl
 have k3:=za0 hbz 3 rfl
 have f:=fun i=>za2 hbz i
 have HMm:=Lib.hid hmm
 clear hbz hmm HS HM
 go_wp2_with fail
 clear k0 k1 k2 k3 f
 show bodyPost _ _ _ _ _ (storeAll w1 (w.heap.size + 2) [.int .i64 0,.int .i64 0,.slice none 0 0,.bool false] 0)
 have hfin:=za4 Hbz.out rfl [.int .i64 0,.int .i64 0,.slice none 0 0,.bool false] rfl
 have HB:=Lib.hid (za1 (w.heap.size + 2) [.int .i64 0,.int .i64 0,.slice none 0 0,.bool false] 0 w1)
 generalize storeAll w1 (w.heap.size + 2) [.int .i64 0,.int .i64 0,.slice none 0 0,.bool false] 0=Wf at *
 have r0:=za0 hfin 0 rfl
 have r1:=za0 hfin 1 rfl
 have r2:=za0 hfin 2 rfl
 have r3:=za0 hfin 3 rfl
 refine bodyPost_ret (v:=.tuple #[.agg #[.int .i64 0,.int .i64 0,.slice none 0 0,.bool false],ev]) (by simp [results,Tryz.results47,go_sem,r0,r1,r2,r3]) rfl ?_
 exact HMm.out.fin Hbz.out (by omega) HB.out rfl
set_option maxHeartbeats 1000000 in
theorem do_cmd9 {w:World} {B:Nat} {c:TableP.Cfg} {node:Nat} {rec:List (List Nat)} {T:RepP.T} {h:HostC} {s:ApeP.AS} {pb part:Nat} {budget:Int} {wv:Value} (hh:HostIn w B c node rec T h s.ports s.mon s.cmd) (hp:PartIn w B pb part budget wv s.mem) (xp xa xb xc:Int) (xD:Option Addr) (xm xcap:Nat) (xd:List UInt8):Calls Tryz.prog 47 #[.pointer (some ⟨pb,0,none⟩),hostV h,.agg #[.int .u8 9,.int .i64 xp,.int .i64 xa,.int .i64 xb,.int .i64 xc,.slice xD xm xcap]] w (DoP w B c node rec T h pb part budget wv (ApeP.opP c node part T s ⟨9,xp,xa,xb,xc,xd⟩)):=by
 have hb0:Below w.heap.size w (((w.alloc (.cells #[.pointer (some ⟨h.x.a,0,none⟩),.pointer (some ⟨h.tb,0,none⟩),.pointer (some ⟨h.mb,0,none⟩),.pointer (some ⟨h.cb,0,none⟩)] 36)).alloc (.cells #[.int .u8 9,.int .i64 xp,.int .i64 xa,.int .i64 xb,.int .i64 xc,.slice xD xm xcap] 91)).alloc (.cells #[.int .i64 0,.int .i64 0,.slice none 0 0,.bool false] 94)):=(((Below.refl _ _).alloc (Nat.le_refl _) _).alloc (by simp) _).alloc (by simp;omega) _
 unfold hostV
 generalize hW0:(((w.alloc (.cells #[.pointer (some ⟨h.x.a,0,none⟩),.pointer (some ⟨h.tb,0,none⟩),.pointer (some ⟨h.mb,0,none⟩),.pointer (some ⟨h.cb,0,none⟩)] 36)).alloc (.cells #[.int .u8 9,.int .i64 xp,.int .i64 xa,.int .i64 xb,.int .i64 xc,.slice xD xm xcap] 91)).alloc (.cells #[.int .i64 0,.int .i64 0,.slice none 0 0,.bool false] 94))=W0 at *
 have hH:W0.heap[w.heap.size]? = some (.cells #[.pointer (some ⟨h.x.a,0,none⟩),.pointer (some ⟨h.tb,0,none⟩),.pointer (some ⟨h.mb,0,none⟩),.pointer (some ⟨h.cb,0,none⟩)] 36 (0,0)):=by rw [← hW0,allocAt _ _ _ (by simp;omega),allocAt _ _ _ (by simp)];exact newAt _ _
 have hO:W0.heap[w.heap.size + 1]? = some (.cells #[.int .u8 9,.int .i64 xp,.int .i64 xa,.int .i64 xb,.int .i64 xc,.slice xD xm xcap] 91 (0,0)):=by rw [← hW0,allocAt _ _ _ (by simp)];exact newAt1 _ _ _
 have hR:W0.heap[w.heap.size + 2]? = some (.cells #[.int .i64 0,.int .i64 0,.slice none 0 0,.bool false] 94 (0,0)):=by
  rw [← hW0]
  have:=newAt ((w.alloc (.cells #[.pointer (some ⟨h.x.a,0,none⟩),.pointer (some ⟨h.tb,0,none⟩),.pointer (some ⟨h.mb,0,none⟩),.pointer (some ⟨h.cb,0,none⟩)] 36)).alloc (.cells #[.int .u8 9,.int .i64 xp,.int .i64 xa,.int .i64 xb,.int .i64 xc,.slice xD xm xcap] 91)) (.cells #[.int .i64 0,.int .i64 0,.slice none 0 0,.bool false] 94)
  simpa using this
 have hh0:=hh.below hb0
 have hp0:=hp.below hb0
 have HE0:=Lib.hid hW0
 have hw0:∀ wv,Went w h wv h W0:=fun wv=>Went.of_below hb0 h wv
 have b1:=zb8 xb
 have b2:=zb8 xc
 have h0:=za0 hH 0 rfl
 have h1:=za0 hH 1 rfl
 have h2:=za0 hH 2 rfl
 have h3:=za0 hH 3 rfl
 have HS:=Lib.hid (by
  have h1:=zv4 W0 h s.cmd hh0.cmd xa ⟨3,0,ApeP.cut16 xb,ApeP.cut16 xc⟩
  unfold hostV cmdV14 at h1
  exact h1)
 have HM:=Lib.hid (show ∀ (ev:Value) (w1:World),ErrE w1 (waitC s.cmd xa ⟨3,0,ApeP.cut16 xb,ApeP.cut16 xc⟩).1 ev→w1.heap[h.cb]? = some (.cells (cmdVals (waitC s.cmd xa ⟨3,0,ApeP.cut16 xb,ApeP.cut16 xc⟩).2).toArray 51 (0,0))→Apart (fun k=>k=h.cb) W0 w1→MidP w B c node rec T h pb part budget wv (ApeP.opP c node part T s ⟨9,xp,xa,xb,xc,xd⟩) ⟨0,0,none,0,[],false⟩ ev w1∧w1.heap[w.heap.size + 2]? = some (.cells #[.int .i64 0,.int .i64 0,.slice none 0 0,.bool false] 94 (0,0)) from fun ev w1 g1 g2 g3=>by
  rw [zo5]
  have hok:CmdIn (waitC s.cmd xa ⟨3,0,ApeP.cut16 xb,ApeP.cut16 xc⟩).2:=by
   unfold waitC
   split
   ·exact hh.cok
   ·split
    ·exact hh.cok
    ·rename_i q1 q2
     have:=zc8 xb
     have:=zc8 xc
     exact ⟨by show (3:Nat)≤255;decide,by show xa.toNat≤255;omega,zc8 xb,zc8 xc⟩
  obtain ⟨e1,e2,e3⟩:=hh0.toCmd g2 hok g3
  refine ⟨⟨h,rfl,ze1 _ _,g1,e1,hp0.beside hh0 e3,(hw0 wv).trans (e2 wv)⟩,(g3.block _ (lt_of_block hR) (fun e=>?_)).trans hR⟩
  have hc:=hh0.cmd
  rw [← e] at hc
  exact za5 hR hc (by decide))
 have o0:=za0 hO 0 rfl
 have o2:=za0 hO 2 rfl
 have o3:=za0 hO 3 rfl
 have o4:=za0 hO 4 rfl
 clear hh hp hH hO hR hh0 hp0 hw0 hb0 hW0
 generalize ApeP.opP c node part T s ⟨9,xp,xa,xb,xc,xd⟩=rr at *
 go_enter Tryz.func47,Tryz.ntmps47
 go_wp2_with fail
 rw [HE0.out]
 refine HS.out.mono ?_
 rintro e w1 ⟨ev,rfl,g1,g2,g3⟩
 obtain ⟨hmm,hbz⟩:=HM.out ev w1 g1 g2 g3
 clear g1 g2 g3
 have Hbz:=Lib.hid hbz
 have k0:=za0 hbz 0 rfl
 have k1:=za0 hbz 1 rfl
 have k2:=za0 hbz 2 rfl
 have k3:=za0 hbz 3 rfl
 have f:=fun i=>za2 hbz i
 have HMm:=Lib.hid hmm
 clear hbz hmm HS HM
 go_wp2_with fail
 clear k0 k1 k2 k3 f
 show bodyPost _ _ _ _ _ (storeAll w1 (w.heap.size + 2) [.int .i64 0,.int .i64 0,.slice none 0 0,.bool false] 0)
 have hfin:=za4 Hbz.out rfl [.int .i64 0,.int .i64 0,.slice none 0 0,.bool false] rfl
 have HB:=Lib.hid (za1 (w.heap.size + 2) [.int .i64 0,.int .i64 0,.slice none 0 0,.bool false] 0 w1)
 generalize storeAll w1 (w.heap.size + 2) [.int .i64 0,.int .i64 0,.slice none 0 0,.bool false] 0=Wf at *
 have r0:=za0 hfin 0 rfl
 have r1:=za0 hfin 1 rfl
 have r2:=za0 hfin 2 rfl
 have r3:=za0 hfin 3 rfl
 refine bodyPost_ret (v:=.tuple #[.agg #[.int .i64 0,.int .i64 0,.slice none 0 0,.bool false],ev]) (by simp [results,Tryz.results47,go_sem,r0,r1,r2,r3]) rfl ?_
 exact HMm.out.fin Hbz.out (by omega) HB.out rfl
open Go.RowKit
set_option maxRecDepth 100000
def S16 (a b p r:Nat) (ca cb cp cr:Array Value) (W:World):Prop:=W.heap[a]? = some (.cells ca 36 (0,0))∧W.heap[b]? = some (.cells cb 91 (0,0))∧W.heap[p]? = some (.cells cp 107 (0,0))∧W.heap[r]? = some (.cells cr 94 (0,0))
theorem S16.touch {a b p r B:Nat} {ca cb cp cr:Array Value} {W W':World} (h:S16 a b p r ca cb cp cr W) (ht:TouchA B W W'):S16 a b p r ca cb cp cr W':=⟨ht.off h.1 zl7,ht.off h.2.1 tag_op,ht.off h.2.2.1 zv2,ht.off h.2.2.2 zm6⟩
theorem S16.zero {a b p r:Nat} {ca cb cp:Array Value} {W:World} (h:S16 a b p r ca cb cp #[.int .i64 0,.int .i64 0,.slice none 0 0,.bool false] W):S16 a b p r ca cb cp #[.int .i64 0,.int .i64 0,.slice none 0 0,.bool false] (storeAll W r [.int .i64 0,.int .i64 0,.slice none 0 0,.bool false] 0):=by
 have ht:=za1 r [.int .i64 0,.int .i64 0,.slice none 0 0,.bool false] 0 W
 refine ⟨(ht.block a (lt_of_block h.1) (fun e=>?_)).trans h.1,(ht.block b (lt_of_block h.2.1) (fun e=>?_)).trans h.2.1,(ht.block p (lt_of_block h.2.2.1) (fun e=>?_)).trans h.2.2.1,za4 h.2.2.2 rfl _ rfl⟩
 ·subst e;exact za5 h.1 h.2.2.2 (by decide)
 ·subst e;exact za5 h.2.1 h.2.2.2 (by decide)
 ·subst e;exact za5 h.2.2.1 h.2.2.2 (by decide)
theorem ByteBlock.below16 {W W':World} {A:Option Addr} {l:List UInt8} (h:ByteBlock W A l) (hb:Below W.heap.size W W'):ByteBlock W' A l:=fun hl k hk=>by
 obtain ⟨cs,f,e⟩:=h hl k hk
 exact ⟨cs,f,(hb.block k (lt_of_block e)).trans e⟩
def DatB (W:World) (B:Nat) (A:Option Addr) (l:List UInt8):Prop:=0 < l.length→∀ k,blockOf A=some k→k < B∨∃ cs f,W.heap[k]? = some (.cells cs 5 f)
theorem ByteBlock.dat {W:World} {A:Option Addr} {l:List UInt8} (h:ByteBlock W A l) (B:Nat):DatB W B A l:=fun hl k hk=>.inr (h hl k hk)
theorem DatB.below16 {W W':World} {A:Option Addr} {l:List UInt8} {B:Nat} (h:DatB W B A l) (hb:Below W.heap.size W W'):DatB W' B A l:=fun hl k hk=>by
 rcases h hl k hk with e | ⟨cs,f,e⟩
 ·exact .inl e
 ·exact .inr ⟨cs,f,(hb.block k (lt_of_block e)).trans e⟩
theorem DatB.off {W:World} {A:Option Addr} {l:List UInt8} {B:Nat} {c:TableP.Cfg} {x:PC} (h:DatB W B A l) (hx:PIn W B c x):0 < l.length→∀ k,blockOf A=some k→¬ EF x.g x.es k:=fun hl k hk hf=>by
 rcases h hl k hk with e | ⟨cs,f,e1⟩
 ·have:=(hx.els.fLt hf).1
  omega
 ·obtain ⟨cs',t',e2,e3⟩:=hx.els.fTag hf
  rw [e1] at e2
  simp only [Option.some.injEq,Obj.cells.injEq] at e2
  obtain ⟨-,rfl,-⟩:=e2
  rcases e3 with e3 | e3
  ·cases e3
  ·cases e3
theorem zD1 {c:TableP.Cfg} {node:Int} {st:PorP.St} {p q:Int} {d:List UInt8} {e:Nat} (h:(PorP.writeP c node st p q d).1=some e):e=17∨e=13∨e=12∨e=11:=by
 unfold PorP.writeP at h
 cases hf:PorP.findT c node p q true with
 | some x=>
  simp only [hf] at h
  obtain rfl:=Option.some.inj h
  have:=ApeP.find_code hf
  omega
 | none=>
  simp only [hf] at h
  repeat' split at h
  all_goals first | (cases h;done) | (obtain rfl:=Option.some.inj h;simp)
set_option maxHeartbeats 2000000 in
theorem do_write {w:World} {B:Nat} {c:TableP.Cfg} {node:Nat} {rec:List (List Nat)} {T:RepP.T} {h:HostC} {s:ApeP.AS} {pb part:Nat} {budget:Int} {wv:Value} (hh:HostIn w B c node rec T h s.ports s.mon s.cmd) (hp:PartIn w B pb part budget wv s.mem) (ha:SndP.Allowed c) (hB:B≤w.heap.size) (xp xa xb xc:Int) (xD:Option Addr) (xm xcap:Nat) (xd:List UInt8) (hx:OpOk w ⟨1,xp,xa,xb,xc,xD,xm,xcap,xd⟩) (hbb:DatB w B xD xd):Calls Tryz.prog 47 #[.pointer (some ⟨pb,0,none⟩),hostV h,.agg #[.int .u8 1,.int .i64 xp,.int .i64 xa,.int .i64 xb,.int .i64 xc,.slice xD xm xcap]] w (DoP w B c node rec T h pb part budget wv (ApeP.opP c node part T s ⟨1,xp,xa,xb,xc,xd⟩)):=by
 have hb0:Below w.heap.size w (((w.alloc (.cells #[.pointer (some ⟨h.x.a,0,none⟩),.pointer (some ⟨h.tb,0,none⟩),.pointer (some ⟨h.mb,0,none⟩),.pointer (some ⟨h.cb,0,none⟩)] 36)).alloc (.cells #[.int .u8 1,.int .i64 xp,.int .i64 xa,.int .i64 xb,.int .i64 xc,.slice xD xm xcap] 91)).alloc (.cells #[.int .i64 0,.int .i64 0,.slice none 0 0,.bool false] 94)):=(((Below.refl _ _).alloc (Nat.le_refl _) _).alloc (by simp) _).alloc (by simp;omega) _
 unfold hostV
 generalize hW0:(((w.alloc (.cells #[.pointer (some ⟨h.x.a,0,none⟩),.pointer (some ⟨h.tb,0,none⟩),.pointer (some ⟨h.mb,0,none⟩),.pointer (some ⟨h.cb,0,none⟩)] 36)).alloc (.cells #[.int .u8 1,.int .i64 xp,.int .i64 xa,.int .i64 xb,.int .i64 xc,.slice xD xm xcap] 91)).alloc (.cells #[.int .i64 0,.int .i64 0,.slice none 0 0,.bool false] 94))=W0 at *
 have hH:W0.heap[w.heap.size]? = some (.cells #[.pointer (some ⟨h.x.a,0,none⟩),.pointer (some ⟨h.tb,0,none⟩),.pointer (some ⟨h.mb,0,none⟩),.pointer (some ⟨h.cb,0,none⟩)] 36 (0,0)):=by rw [← hW0,allocAt _ _ _ (by simp;omega),allocAt _ _ _ (by simp)];exact newAt _ _
 have hO:W0.heap[w.heap.size + 1]? = some (.cells #[.int .u8 1,.int .i64 xp,.int .i64 xa,.int .i64 xb,.int .i64 xc,.slice xD xm xcap] 91 (0,0)):=by rw [← hW0,allocAt _ _ _ (by simp)];exact newAt1 _ _ _
 have hR:W0.heap[w.heap.size + 2]? = some (.cells #[.int .i64 0,.int .i64 0,.slice none 0 0,.bool false] 94 (0,0)):=by
  rw [← hW0]
  have:=newAt ((w.alloc (.cells #[.pointer (some ⟨h.x.a,0,none⟩),.pointer (some ⟨h.tb,0,none⟩),.pointer (some ⟨h.mb,0,none⟩),.pointer (some ⟨h.cb,0,none⟩)] 36)).alloc (.cells #[.int .u8 1,.int .i64 xp,.int .i64 xa,.int .i64 xb,.int .i64 xc,.slice xD xm xcap] 91)) (.cells #[.int .i64 0,.int .i64 0,.slice none 0 0,.bool false] 94)
  simpa using this
 have hh0:=hh.below hb0
 have hp0:=hp.below hb0
 have HE0:=Lib.hid hW0
 have hw0:∀ wv,Went w h wv h W0:=fun wv=>Went.of_below hb0 h wv
 have HS:Hid (∀ W,Below W0.heap.size W0 W→Calls Tryz.prog 68 #[.pointer (some ⟨h.x.a,0,none⟩),.int .i64 (part:Nat),.int .i64 xp,.slice xD xm xcap] W (fun e w1=>∃ v,e = .returned v∧MidP w B c node rec T h pb part budget wv (ApeP.opP c node part T s ⟨1,xp,xa,xb,xc,xd⟩) ⟨0,0,none,0,[],false⟩ v w1∧TouchA B W w1)):=Lib.hid fun W hW=>by
  have hwW:Below w.heap.size w W:=hb0.trans (hW.mono hb0.size)
  have h1:=zJ3 W B c h.x (hh0.below hW).por (Nat.le_trans hB hwW.size) ha (part:Nat) xp hx.port.2 xD xm xcap xd hx.len ((hx.bytes.below hwW (Nat.le_refl _)).more hwW.size) ((hbb.below16 hwW).off (hh0.below hW).por)
  rw [hh.nd,hh.st] at h1
  unfold pv at h1
  refine h1.mono ?_
  rintro e w1 ⟨v,rfl,hv,hL⟩
  obtain ⟨h',g1,g2,g3⟩:=(hh0.below hW).toPorts hL
  have hpW:=hp0.below hW
  refine ⟨v,rfl,⟨h',rfl,ze1 _ _,errE_of hv (fun k hk=>?_) hx.port.2,g1,hpW.beside (hh0.below hW) g3,((hw0 wv).trans (Went.of_below hW h wv)).trans (g2 wv)⟩,(g2 wv).touch (hh0.below hW) hpW⟩
  have:=zD1 hk
  omega
 have hS0:S16 w.heap.size (w.heap.size + 1) pb (w.heap.size + 2) #[.pointer (some ⟨h.x.a,0,none⟩),.pointer (some ⟨h.tb,0,none⟩),.pointer (some ⟨h.mb,0,none⟩),.pointer (some ⟨h.cb,0,none⟩)] #[.int .u8 1,.int .i64 xp,.int .i64 xa,.int .i64 xb,.int .i64 xc,.slice xD xm xcap] #[.int .i64 (part:Nat),.int .i64 budget,wv] #[.int .i64 0,.int .i64 0,.slice none 0 0,.bool false] W0:=⟨hH,hO,hp0.hd,hR⟩
 have c0:∀ W,S16 w.heap.size (w.heap.size + 1) pb (w.heap.size + 2) #[.pointer (some ⟨h.x.a,0,none⟩),.pointer (some ⟨h.tb,0,none⟩),.pointer (some ⟨h.mb,0,none⟩),.pointer (some ⟨h.cb,0,none⟩)] #[.int .u8 1,.int .i64 xp,.int .i64 xa,.int .i64 xb,.int .i64 xc,.slice xD xm xcap] #[.int .i64 (part:Nat),.int .i64 budget,wv] #[.int .i64 0,.int .i64 0,.slice none 0 0,.bool false] W→W.cell? ⟨w.heap.size,0,none⟩=some (.pointer (some ⟨h.x.a,0,none⟩)):=fun W hW=>za0 hW.1 0 rfl
 have c1:∀ W,S16 w.heap.size (w.heap.size + 1) pb (w.heap.size + 2) #[.pointer (some ⟨h.x.a,0,none⟩),.pointer (some ⟨h.tb,0,none⟩),.pointer (some ⟨h.mb,0,none⟩),.pointer (some ⟨h.cb,0,none⟩)] #[.int .u8 1,.int .i64 xp,.int .i64 xa,.int .i64 xb,.int .i64 xc,.slice xD xm xcap] #[.int .i64 (part:Nat),.int .i64 budget,wv] #[.int .i64 0,.int .i64 0,.slice none 0 0,.bool false] W→W.cell? ⟨w.heap.size + 1,1,none⟩=some (.int .i64 xp):=fun W hW=>za0 hW.2.1 1 rfl
 have c5:∀ W,S16 w.heap.size (w.heap.size + 1) pb (w.heap.size + 2) #[.pointer (some ⟨h.x.a,0,none⟩),.pointer (some ⟨h.tb,0,none⟩),.pointer (some ⟨h.mb,0,none⟩),.pointer (some ⟨h.cb,0,none⟩)] #[.int .u8 1,.int .i64 xp,.int .i64 xa,.int .i64 xb,.int .i64 xc,.slice xD xm xcap] #[.int .i64 (part:Nat),.int .i64 budget,wv] #[.int .i64 0,.int .i64 0,.slice none 0 0,.bool false] W→W.cell? ⟨w.heap.size + 1,5,none⟩=some (.slice xD xm xcap):=fun W hW=>za0 hW.2.1 5 rfl
 have cp:∀ W,S16 w.heap.size (w.heap.size + 1) pb (w.heap.size + 2) #[.pointer (some ⟨h.x.a,0,none⟩),.pointer (some ⟨h.tb,0,none⟩),.pointer (some ⟨h.mb,0,none⟩),.pointer (some ⟨h.cb,0,none⟩)] #[.int .u8 1,.int .i64 xp,.int .i64 xa,.int .i64 xb,.int .i64 xc,.slice xD xm xcap] #[.int .i64 (part:Nat),.int .i64 budget,wv] #[.int .i64 0,.int .i64 0,.slice none 0 0,.bool false] W→W.cell? ⟨pb,0,none⟩=some (.int .i64 (part:Nat)):=fun W hW=>za0 hW.2.2.1 0 rfl
 have o0:=za0 hO 0 rfl
 have HD0:=Lib.hid hS0
 clear hh hp hH hO hR hh0 hp0 hw0 hb0 hW0 hS0 ha hB hx hbb
 generalize ApeP.opP c node part T s ⟨1,xp,xa,xb,xc,xd⟩=rr at *
 go_enter Tryz.func47,Tryz.ntmps47
 go_wp2_with fail
 rw [HE0.out]
 have hd0:S16 w.heap.size (w.heap.size + 1) pb (w.heap.size + 2) #[.pointer (some ⟨h.x.a,0,none⟩),.pointer (some ⟨h.tb,0,none⟩),.pointer (some ⟨h.mb,0,none⟩),.pointer (some ⟨h.cb,0,none⟩)] #[.int .u8 1,.int .i64 xp,.int .i64 xa,.int .i64 xb,.int .i64 xc,.slice xD xm xcap] #[.int .i64 (part:Nat),.int .i64 budget,wv] #[.int .i64 0,.int .i64 0,.slice none 0 0,.bool false] W0.drew:=HD0.out
 refine wp_region_held_drew (S:=fun W=>S16 w.heap.size (w.heap.size + 1) pb (w.heap.size + 2) #[.pointer (some ⟨h.x.a,0,none⟩),.pointer (some ⟨h.tb,0,none⟩),.pointer (some ⟨h.mb,0,none⟩),.pointer (some ⟨h.cb,0,none⟩)] #[.int .u8 1,.int .i64 xp,.int .i64 xa,.int .i64 xb,.int .i64 xc,.slice xD xm xcap] #[.int .i64 (part:Nat),.int .i64 budget,wv] #[.int .i64 0,.int .i64 0,.slice none 0 0,.bool false] W) (by kernel_rfl) hd0 (fun _=>?_)
 refine tK 0 hd0 ?_
 try simp only [Act.put,tkT,tk0,tkS]
 refine tK 1 hd0 ?_
 try simp only [Act.put,tkT,tk0,tkS]
 refine tK 2 hd0 ?_
 try simp only [Act.put,tkT,tk0,tkS]
 refine tK 3 hd0 ?_
 try simp only [Act.put,tkT,tk0,tkS]
 refine tK 4 hd0 ?_
 try simp only [Act.put,tkT,tk0,tkS]
 refine tK 5 hd0 ?_
 try simp only [Act.put,tkT,tk0,tkS]
 refine tK 6 hd0 ?_
 try simp only [Act.put,tkT,tk0,tkS]
 refine tK 7 hd0 ?_
 try simp only [Act.put,tkT,tk0,tkS]
 refine tK 8 hd0 ?_
 try simp only [Act.put,tkT,tk0,tkS]
 refine tK 9 hd0 ?_
 try simp only [Act.put,tkT,tk0,tkS]
 refine tK 10 hd0 ?_
 try simp only [Act.put,tkT,tk0,tkS]
 refine clH 11 (by kernel_rfl) (by simp only [tkA,tkG];rfl) (fun K hK=>?_)
 go_simp
 refine (HS.out _ (Below.refl _ _).drew).mono ?_
 rintro e w1 ⟨v,rfl,hmm,ht⟩
 have hd1:=hd0.touch ht
 have HMm:=Lib.hid hmm
 have hbz:=hd1.2.2.2
 have Hbz:=Lib.hid hbz
 have k0:=za0 hbz 0 rfl
 have k1:=za0 hbz 1 rfl
 have k2:=za0 hbz 2 rfl
 have k3:=za0 hbz 3 rfl
 have f:=fun i=>za2 hbz i
 have hd2:=hd1.zero
 have HD2:=Lib.hid hd2
 clear hmm ht HS hbz
 go_wp2_with fail
 refine hK.out _ _ hd1 (fun _=>?_)
 clear hK K
 refine clH 12 (by kernel_rfl) (by simp only [tkA,tkG];rfl) (fun K hK=>?_)
 go_simp
 go_wp2_with fail
 refine hK.out _ _ hd2 (fun _=>?_)
 clear hK K
 refine tK 13 hd2 ?_
 try simp only [Act.put,tkT,tk0,tkS]
 refine wpAnyH_done (by kernel_rfl) ?_ _
 go_wp2_with fail
 clear k0 k1 k2 k3 f c0 c1 c5 cp o0 hd0 hd1 hd2
 show bodyPost _ _ _ _ _ (storeAll w1 (w.heap.size + 2) [.int .i64 0,.int .i64 0,.slice none 0 0,.bool false] 0)
 have hfin:=za4 Hbz.out rfl [.int .i64 0,.int .i64 0,.slice none 0 0,.bool false] rfl
 have HB:=Lib.hid (za1 (w.heap.size + 2) [.int .i64 0,.int .i64 0,.slice none 0 0,.bool false] 0 w1)
 generalize storeAll w1 (w.heap.size + 2) [.int .i64 0,.int .i64 0,.slice none 0 0,.bool false] 0=Wf at *
 have r0:=za0 hfin 0 rfl
 have r1:=za0 hfin 1 rfl
 have r2:=za0 hfin 2 rfl
 have r3:=za0 hfin 3 rfl
 refine bodyPost_ret (v:=.tuple #[.agg #[.int .i64 0,.int .i64 0,.slice none 0 0,.bool false],v]) (by simp [results,Tryz.results47,go_sem,r0,r1,r2,r3]) rfl ?_
 exact HMm.out.fin Hbz.out (by omega) HB.out rfl
set_option maxHeartbeats 2000000 in
theorem do_read {w:World} {B:Nat} {c:TableP.Cfg} {node:Nat} {rec:List (List Nat)} {T:RepP.T} {h:HostC} {s:ApeP.AS} {pb part:Nat} {budget:Int} {wv:Value} (hh:HostIn w B c node rec T h s.ports s.mon s.cmd) (hp:PartIn w B pb part budget wv s.mem) (ha:SndP.Allowed c) (hB:B≤w.heap.size) (xp xa xb xc:Int) (xD:Option Addr) (xm xcap:Nat) (xd:List UInt8) (hport:xp≤9223372036854775807):Calls Tryz.prog 47 #[.pointer (some ⟨pb,0,none⟩),hostV h,.agg #[.int .u8 2,.int .i64 xp,.int .i64 xa,.int .i64 xb,.int .i64 xc,.slice xD xm xcap]] w (DoP w B c node rec T h pb part budget wv (ApeP.opP c node part T s ⟨2,xp,xa,xb,xc,xd⟩)):=by
 have hb0:Below w.heap.size w (((w.alloc (.cells #[.pointer (some ⟨h.x.a,0,none⟩),.pointer (some ⟨h.tb,0,none⟩),.pointer (some ⟨h.mb,0,none⟩),.pointer (some ⟨h.cb,0,none⟩)] 36)).alloc (.cells #[.int .u8 2,.int .i64 xp,.int .i64 xa,.int .i64 xb,.int .i64 xc,.slice xD xm xcap] 91)).alloc (.cells #[.int .i64 0,.int .i64 0,.slice none 0 0,.bool false] 94)):=(((Below.refl _ _).alloc (Nat.le_refl _) _).alloc (by simp) _).alloc (by simp;omega) _
 unfold hostV
 generalize hW0:(((w.alloc (.cells #[.pointer (some ⟨h.x.a,0,none⟩),.pointer (some ⟨h.tb,0,none⟩),.pointer (some ⟨h.mb,0,none⟩),.pointer (some ⟨h.cb,0,none⟩)] 36)).alloc (.cells #[.int .u8 2,.int .i64 xp,.int .i64 xa,.int .i64 xb,.int .i64 xc,.slice xD xm xcap] 91)).alloc (.cells #[.int .i64 0,.int .i64 0,.slice none 0 0,.bool false] 94))=W0 at *
 have hH:W0.heap[w.heap.size]? = some (.cells #[.pointer (some ⟨h.x.a,0,none⟩),.pointer (some ⟨h.tb,0,none⟩),.pointer (some ⟨h.mb,0,none⟩),.pointer (some ⟨h.cb,0,none⟩)] 36 (0,0)):=by rw [← hW0,allocAt _ _ _ (by simp;omega),allocAt _ _ _ (by simp)];exact newAt _ _
 have hO:W0.heap[w.heap.size + 1]? = some (.cells #[.int .u8 2,.int .i64 xp,.int .i64 xa,.int .i64 xb,.int .i64 xc,.slice xD xm xcap] 91 (0,0)):=by rw [← hW0,allocAt _ _ _ (by simp)];exact newAt1 _ _ _
 have hR:W0.heap[w.heap.size + 2]? = some (.cells #[.int .i64 0,.int .i64 0,.slice none 0 0,.bool false] 94 (0,0)):=by
  rw [← hW0]
  have:=newAt ((w.alloc (.cells #[.pointer (some ⟨h.x.a,0,none⟩),.pointer (some ⟨h.tb,0,none⟩),.pointer (some ⟨h.mb,0,none⟩),.pointer (some ⟨h.cb,0,none⟩)] 36)).alloc (.cells #[.int .u8 2,.int .i64 xp,.int .i64 xa,.int .i64 xb,.int .i64 xc,.slice xD xm xcap] 91)) (.cells #[.int .i64 0,.int .i64 0,.slice none 0 0,.bool false] 94)
  simpa using this
 have hh0:=hh.below hb0
 have hp0:=hp.below hb0
 have HE0:=Lib.hid hW0
 have hw0:∀ wv,Went w h wv h W0:=fun wv=>Went.of_below hb0 h wv
 have HS:Hid (∀ W,Below W0.heap.size W0 W→Calls Tryz.prog 69 #[.pointer (some ⟨h.x.a,0,none⟩),.int .i64 (part:Nat),.int .i64 xp] W (fun e w1=>∃ A cap n fr data v,e = .returned (.tuple #[.slice A n cap,.bool fr,v])∧n=data.length∧MidP w B c node rec T h pb part budget wv (ApeP.opP c node part T s ⟨2,xp,xa,xb,xc,xd⟩) ⟨0,0,A,cap,data,fr⟩ v w1∧TouchA B W w1)):=Lib.hid fun W hW=>by
  have hwW:Below w.heap.size w W:=hb0.trans (hW.mono hb0.size)
  have h1:=pread_any W B c h.x (hh0.below hW).por (Nat.le_trans hB hwW.size) ha (part:Nat) xp hport
  rw [hh.nd,hh.st] at h1
  unfold pv at h1
  refine h1.mono ?_
  rintro e w1 ⟨A,cap,v,rfl,hq⟩
  obtain ⟨h',g1,g2,g3⟩:=(hh0.below hW).toPorts hq.left
  have hpW:=hp0.below hW
  refine ⟨A,cap,_,_,(PorP.readT c node s.ports part xp).1.1,v,rfl,rfl,⟨h',rfl,hq.own,errE_of hq.err (fun k hk=>?_) hport,g1,hpW.beside (hh0.below hW) g3,((hw0 wv).trans (Went.of_below hW h wv)).trans (g2 wv)⟩,(g2 wv).touch (hh0.below hW) hpW⟩
  have:=ApeP.read_code hk
  omega
 have hS0:S16 w.heap.size (w.heap.size + 1) pb (w.heap.size + 2) #[.pointer (some ⟨h.x.a,0,none⟩),.pointer (some ⟨h.tb,0,none⟩),.pointer (some ⟨h.mb,0,none⟩),.pointer (some ⟨h.cb,0,none⟩)] #[.int .u8 2,.int .i64 xp,.int .i64 xa,.int .i64 xb,.int .i64 xc,.slice xD xm xcap] #[.int .i64 (part:Nat),.int .i64 budget,wv] #[.int .i64 0,.int .i64 0,.slice none 0 0,.bool false] W0:=⟨hH,hO,hp0.hd,hR⟩
 have c0:∀ W,S16 w.heap.size (w.heap.size + 1) pb (w.heap.size + 2) #[.pointer (some ⟨h.x.a,0,none⟩),.pointer (some ⟨h.tb,0,none⟩),.pointer (some ⟨h.mb,0,none⟩),.pointer (some ⟨h.cb,0,none⟩)] #[.int .u8 2,.int .i64 xp,.int .i64 xa,.int .i64 xb,.int .i64 xc,.slice xD xm xcap] #[.int .i64 (part:Nat),.int .i64 budget,wv] #[.int .i64 0,.int .i64 0,.slice none 0 0,.bool false] W→W.cell? ⟨w.heap.size,0,none⟩=some (.pointer (some ⟨h.x.a,0,none⟩)):=fun W hW=>za0 hW.1 0 rfl
 have c1:∀ W,S16 w.heap.size (w.heap.size + 1) pb (w.heap.size + 2) #[.pointer (some ⟨h.x.a,0,none⟩),.pointer (some ⟨h.tb,0,none⟩),.pointer (some ⟨h.mb,0,none⟩),.pointer (some ⟨h.cb,0,none⟩)] #[.int .u8 2,.int .i64 xp,.int .i64 xa,.int .i64 xb,.int .i64 xc,.slice xD xm xcap] #[.int .i64 (part:Nat),.int .i64 budget,wv] #[.int .i64 0,.int .i64 0,.slice none 0 0,.bool false] W→W.cell? ⟨w.heap.size + 1,1,none⟩=some (.int .i64 xp):=fun W hW=>za0 hW.2.1 1 rfl
 have c5:∀ W,S16 w.heap.size (w.heap.size + 1) pb (w.heap.size + 2) #[.pointer (some ⟨h.x.a,0,none⟩),.pointer (some ⟨h.tb,0,none⟩),.pointer (some ⟨h.mb,0,none⟩),.pointer (some ⟨h.cb,0,none⟩)] #[.int .u8 2,.int .i64 xp,.int .i64 xa,.int .i64 xb,.int .i64 xc,.slice xD xm xcap] #[.int .i64 (part:Nat),.int .i64 budget,wv] #[.int .i64 0,.int .i64 0,.slice none 0 0,.bool false] W→W.cell? ⟨w.heap.size + 1,5,none⟩=some (.slice xD xm xcap):=fun W hW=>za0 hW.2.1 5 rfl
 have cp:∀ W,S16 w.heap.size (w.heap.size + 1) pb (w.heap.size + 2) #[.pointer (some ⟨h.x.a,0,none⟩),.pointer (some ⟨h.tb,0,none⟩),.pointer (some ⟨h.mb,0,none⟩),.pointer (some ⟨h.cb,0,none⟩)] #[.int .u8 2,.int .i64 xp,.int .i64 xa,.int .i64 xb,.int .i64 xc,.slice xD xm xcap] #[.int .i64 (part:Nat),.int .i64 budget,wv] #[.int .i64 0,.int .i64 0,.slice none 0 0,.bool false] W→W.cell? ⟨pb,0,none⟩=some (.int .i64 (part:Nat)):=fun W hW=>za0 hW.2.2.1 0 rfl
 have o0:=za0 hO 0 rfl
 have HD0:=Lib.hid hS0
 clear hh hp hH hO hR hh0 hp0 hw0 hb0 hW0 hS0 ha hB
 generalize ApeP.opP c node part T s ⟨2,xp,xa,xb,xc,xd⟩=rr at *
 go_enter Tryz.func47,Tryz.ntmps47
 go_wp2_with fail
 rw [HE0.out]
 have hd0:S16 w.heap.size (w.heap.size + 1) pb (w.heap.size + 2) #[.pointer (some ⟨h.x.a,0,none⟩),.pointer (some ⟨h.tb,0,none⟩),.pointer (some ⟨h.mb,0,none⟩),.pointer (some ⟨h.cb,0,none⟩)] #[.int .u8 2,.int .i64 xp,.int .i64 xa,.int .i64 xb,.int .i64 xc,.slice xD xm xcap] #[.int .i64 (part:Nat),.int .i64 budget,wv] #[.int .i64 0,.int .i64 0,.slice none 0 0,.bool false] W0.drew:=HD0.out
 refine wp_region_held_drew (S:=fun W=>S16 w.heap.size (w.heap.size + 1) pb (w.heap.size + 2) #[.pointer (some ⟨h.x.a,0,none⟩),.pointer (some ⟨h.tb,0,none⟩),.pointer (some ⟨h.mb,0,none⟩),.pointer (some ⟨h.cb,0,none⟩)] #[.int .u8 2,.int .i64 xp,.int .i64 xa,.int .i64 xb,.int .i64 xc,.slice xD xm xcap] #[.int .i64 (part:Nat),.int .i64 budget,wv] #[.int .i64 0,.int .i64 0,.slice none 0 0,.bool false] W) (by kernel_rfl) hd0 (fun _=>?_)
 refine tK 0 hd0 ?_
 try simp only [Act.put,tkT,tk0,tkS]
 refine tK 1 hd0 ?_
 try simp only [Act.put,tkT,tk0,tkS]
 refine tK 2 hd0 ?_
 try simp only [Act.put,tkT,tk0,tkS]
 refine tK 3 hd0 ?_
 try simp only [Act.put,tkT,tk0,tkS]
 refine tK 4 hd0 ?_
 try simp only [Act.put,tkT,tk0,tkS]
 refine tK 5 hd0 ?_
 try simp only [Act.put,tkT,tk0,tkS]
 refine tK 6 hd0 ?_
 try simp only [Act.put,tkT,tk0,tkS]
 refine tK 7 hd0 ?_
 try simp only [Act.put,tkT,tk0,tkS]
 refine clH 8 (by kernel_rfl) (by simp only [tkA,tkG];rfl) (fun K hK=>?_)
 go_simp
 refine (HS.out _ (Below.refl _ _).drew).mono ?_
 rintro e w1 ⟨A,cap,n,fr,data,v,rfl,rfl,hmm,ht⟩
 have hd1:=hd0.touch ht
 have HMm:=Lib.hid hmm
 have hbz:=hd1.2.2.2
 have Hbz:=Lib.hid hbz
 have k0:=za0 hbz 0 rfl
 have k1:=za0 hbz 1 rfl
 have k2:=za0 hbz 2 rfl
 have k3:=za0 hbz 3 rfl
 have f:=fun i=>za2 hbz i
 clear hmm ht HS hbz
 go_wp2_with fail
 refine hK.out _ _ hd1 (fun _=>?_)
 clear hK K
 refine tK 9 hd1 ?_
 try simp only [Act.put,tkT,tk0,tkS]
 refine tK 10 hd1 ?_
 try simp only [Act.put,tkT,tk0,tkS]
 refine tK 11 hd1 ?_
 try simp only [Act.put,tkT,tk0,tkS]
 refine tK 12 hd1 ?_
 try simp only [Act.put,tkT,tk0,tkS]
 refine tK 13 hd1 ?_
 try simp only [Act.put,tkT,tk0,tkS]
 refine tK 14 hd1 ?_
 try simp only [Act.put,tkT,tk0,tkS]
 refine tK 15 hd1 ?_
 try simp only [Act.put,tkT,tk0,tkS]
 refine wpAnyH_done (by kernel_rfl) ?_ _
 go_wp2_with fail
 clear k0 k1 k2 k3 f c0 c1 c5 cp o0 hd0 hd1
 show bodyPost _ _ _ _ _ (storeAll w1 (w.heap.size + 2) [.int .i64 0,.int .i64 0,.slice A data.length cap,.bool fr] 0)
 have hfin:=za4 Hbz.out rfl [.int .i64 0,.int .i64 0,.slice A data.length cap,.bool fr] rfl
 have HB:=Lib.hid (za1 (w.heap.size + 2) [.int .i64 0,.int .i64 0,.slice A data.length cap,.bool fr] 0 w1)
 generalize storeAll w1 (w.heap.size + 2) [.int .i64 0,.int .i64 0,.slice A data.length cap,.bool fr] 0=Wf at *
 have r0:=za0 hfin 0 rfl
 have r1:=za0 hfin 1 rfl
 have r2:=za0 hfin 2 rfl
 have r3:=za0 hfin 3 rfl
 refine bodyPost_ret (v:=.tuple #[.agg #[.int .i64 0,.int .i64 0,.slice A data.length cap,.bool fr],v]) (by simp [results,Tryz.results47,go_sem,r0,r1,r2,r3]) rfl ?_
 exact HMm.out.fin Hbz.out (by omega) HB.out rfl
theorem do_any {w:World} {B:Nat} {c:TableP.Cfg} {node:Nat} {rec:List (List Nat)} {T:RepP.T} {h:HostC} {s:ApeP.AS} {pb part:Nat} {budget:Int} {wv:Value} (hh:HostIn w B c node rec T h s.ports s.mon s.cmd) (hp:PartIn w B pb part budget wv s.mem) (ha:SndP.Allowed c) (hB:B≤w.heap.size) (hT:∀ i v,RepP.tat T i=some v→v < 65536) (x:OpC) (hx:OpOk w x) (hbb:DatB w B x.D x.data) :
 Calls Tryz.prog 47 #[.pointer (some ⟨pb,0,none⟩),hostV h,opV x] w (DoP w B c node rec T h pb part budget wv (ApeP.opP c node part T s x.plain)):=by
 obtain ⟨xk,xp,xa,xb,xc,xD,xm,xcap,xd⟩:=x
 unfold opV OpC.plain
 simp only at *
 by_cases hk:xk=1∨xk=2∨xk=3∨xk=4∨xk=5∨xk=7∨xk=8∨xk=9∨xk=10
 ·rcases hk with rfl | rfl | rfl | rfl | rfl | rfl | rfl | rfl | rfl
  ·exact do_write hh hp ha hB xp xa xb xc xD xm xcap xd hx hbb
  ·exact do_read hh hp ha hB xp xa xb xc xD xm xcap xd hx.port.2
  ·exact do_store hh hp xp xa xb xc xD xm xcap xd
  ·exact do_load hh hp xp xa xb xc xD xm xcap xd
  ·exact do_spin hh hp xp xa xb xc xD xm xcap xd
  ·exact do_cmd7 hh hp xp xa xb xc xD xm xcap xd
  ·exact do_cmd8 hh hp xp xa xb xc xD xm xcap xd
  ·exact do_cmd9 hh hp xp xa xb xc xD xm xcap xd
  ·exact do_ask hh hp hT xp xa xb xc xD xm xcap xd
 ·exact do_other hh hp xk hk xp xa xb xc xD xm xcap xd
end Go.Proofs.YtfgpfmhjnccccaaGreatDoor
