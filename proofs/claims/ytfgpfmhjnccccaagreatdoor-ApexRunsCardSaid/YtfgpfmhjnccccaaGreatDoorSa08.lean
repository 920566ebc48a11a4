import Derived.BigQuiet
import Derived.Deep.QuietTactic
import Derived.Deep.RegionHeld3
import Derived.Test.YtfgpfmhjnccccaaGreatDoorSa06
import Derived.Test.YtfgpfmhjnccccaaGreatDoorSa04
import Derived.Test.YtfgpfmhjnccccaaGreatDoorSa07
namespace Go.Proofs.YtfgpfmhjnccccaaGreatDoor
open Go.RowKit HeaP
set_option maxRecDepth 100000
def monH (b:Nat):Value:=.pointer (some ⟨b,0,none⟩)
structure MonIn (w:World) (B b node:Nat) (rec:List (List Nat)) (m:Mon) (vp vr:Value):Prop where
 hd:w.heap[b]? = some (.cells #[.int .u8 (node:Nat),vp,vr] 140 (0,0))
 wat:w.ownsRow B 149 6 vp rec.length (itemsV wchVals (wchs rec m))
 recs:w.ownsRow B 137 5 vr m.out.length (recsVals m.out)
 base:B≤b
 v:MonV rec m
def MonF (b:Nat) (vp vr:Value) (k:Nat):Prop:=k=b∨vp.ownBlock=some k∨vr.ownBlock=some k
theorem MonIn.apart {w w':World} {B b node:Nat} {rec:List (List Nat)} {m:Mon} {vp vr:Value} {F:Nat→Prop} (h:MonIn w B b node rec m vp vr) (ha:Apart F w w') (h1:∀ k,MonF b vp vr k→¬ F k):MonIn w' B b node rec m vp vr:=
 ⟨(ha.block b (lt_of_block h.hd) (h1 b (.inl rfl))).trans h.hd,za3 h.wat ha fun k hk=>h1 k (.inr (.inl hk)),za3 h.recs ha fun k hk=>h1 k (.inr (.inr hk)),h.base,h.v⟩
theorem MonIn.keep {w w':World} {B b node:Nat} {rec:List (List Nat)} {m:Mon} {vp vr:Value} (h:MonIn w B b node rec m vp vr) (hb:Below w.heap.size w w'):MonIn w' B b node rec m vp vr:=h.apart (F:=fun _=>False) (Apart.of_below' hb) (fun _ _ h=>h)
theorem MonIn.lt {w:World} {B b node:Nat} {rec:List (List Nat)} {m:Mon} {vp vr:Value} (h:MonIn w B b node rec m vp vr) {k:Nat} (hk:MonF b vp vr k):B≤k∧k < w.heap.size:=by
 rcases hk with rfl | hk | hk
 ·exact ⟨h.base,lt_of_block h.hd⟩
 ·exact (Seg.of_own h.wat).lt k hk
 ·exact (Seg.of_own h.recs).lt k hk
theorem MonIn.np {w:World} {B b node:Nat} {rec:List (List Nat)} {m:Mon} {vp vr:Value} (h:MonIn w B b node rec m vp vr) (k:Nat) (hk:vp.ownBlock=some k):k≠b:=zb2 h.wat h.hd (by decide) k hk
theorem MonIn.nr {w:World} {B b node:Nat} {rec:List (List Nat)} {m:Mon} {vp vr:Value} (h:MonIn w B b node rec m vp vr) (k:Nat) (hk:vr.ownBlock=some k):k≠b:=zb2 h.recs h.hd (by decide) k hk
theorem MonIn.pr {w:World} {B b node:Nat} {rec:List (List Nat)} {m:Mon} {vp vr:Value} (h:MonIn w B b node rec m vp vr) (k:Nat) (hk:vp.ownBlock=some k):vr.ownBlock≠some k:=ze8 h.wat h.recs (by decide) k hk
def errH (c:Nat):Value:=errV [] (if c=0 then none else some (c:Int))
def RepH (w:World) (B b node:Nat) (rec:List (List Nat)) (m:Mon) (vp vr:Value) (r:Nat) (part:Int) (k:Nat) (e:Ending) (w':World):Prop:=
 e = .returned (.tuple #[.int .u8 ((reportT rec node m r part k).1.1:Nat),errH (reportT rec node m r part k).1.2]) ∧
 ∃ vr',MonIn w' B b node rec (reportT rec node m r part k).2 vp vr'∧Apart (MonF b vp vr) w w'∧(vr'.ownBlock=vr.ownBlock∨∃ q,vr'.ownBlock=some q∧w.heap.size≤q)
theorem zB0 (w:World) (B b node:Nat) (rec:List (List Nat)) (m:Mon) (vp vr:Value) (h:MonIn w B b node rec m vp vr) (r:Nat) (part:Int) (k:Nat) (hb:part < 0∨(rec.length:Int)≤part∨3 < k∨1048576≤r) :
 Calls Tryz.prog 49 #[monH b,.int .u32 (r:Nat),.int .i64 part,.int .u8 (k:Nat)] w (RepH w B b node rec m vp vr r part k):=by
 have hrep:=zr4 (recover:=rec) (node:=node) (m:=m) hb
 have HF:Hid (RepH w B b node rec m vp vr r part k (.returned (.tuple #[.int .u8 0,.iface 92 (.int .i64 2)])) w):=Lib.hid (by
  unfold RepH
  rw [hrep]
  exact ⟨rfl,vr,h,Apart.refl _ _,.inl rfl⟩)
 obtain ⟨A,cap,rfl,-⟩:=za6 h.wat
 have k1:w.cell? ⟨b,1,none⟩=some (.slice A rec.length cap):=za0 h.hd 1 rfl
 have hc:part < 0∨0≤part∧(rec.length:Int)≤part∨0≤part∧part < (rec.length:Int)∧3 < k∨0≤part∧part < (rec.length:Int)∧k≤3∧1048576≤r:=by omega
 clear h hrep hb
 generalize rec.length=n at *
 unfold monH
 rcases hc with h1 | ⟨h1,h2⟩ | ⟨h1,h2,h3⟩ | ⟨h1,h2,h3,h4⟩
 ·have d1:decide (part < 0)=true:=decide_eq_true h1
  clear h1
  go_enter Tryz.func49,Tryz.ntmps49
  go_wp2_with fail
  go_ret2
  exact HF.out
 ·have d1:decide (part < 0)=false:=decide_eq_false (by omega)
  have d2:decide ((n:Int)≤part)=true:=decide_eq_true h2
  clear h1 h2
  go_enter Tryz.func49,Tryz.ntmps49
  go_wp2_with fail
  go_ret2
  exact HF.out
 ·have d1:decide (part < 0)=false:=decide_eq_false (by omega)
  have d2:decide ((n:Int)≤part)=false:=decide_eq_false (by omega)
  have d3:decide ((3:Int) < (k:Int))=true:=decide_eq_true (by omega)
  clear h1 h2 h3
  go_enter Tryz.func49,Tryz.ntmps49
  go_wp2_with fail
  go_ret2
  exact HF.out
 ·have d1:decide (part < 0)=false:=decide_eq_false (by omega)
  have d2:decide ((n:Int)≤part)=false:=decide_eq_false (by omega)
  have d3:decide ((3:Int) < (k:Int))=false:=decide_eq_false (by omega)
  have d4:decide ((1048576:Int)≤(r:Int))=true:=decide_eq_true (by omega)
  clear h1 h2 h3 h4
  go_enter Tryz.func49,Tryz.ntmps49
  go_wp2_with fail
  go_ret2
  exact HF.out
theorem infoRec:(Tryz.prog.info? 137).map (fun i=>(i.zero,i.size,i.bytes))=some (some (.agg #[.int .u32 0,.int .u8 0,.int .u8 0,.int .u8 0,.int .u8 0]),5,8):=by kernel_rfl
theorem zn4 (y:FrameP.Rec):∀ u∈recVals y,u.oneCell'=true:=by
 intro u hu
 simp only [recVals,List.mem_cons,List.not_mem_nil,or_false] at hu
 rcases hu with rfl | rfl | rfl | rfl | rfl<;>rfl
theorem zG9 {w w2:World} {B b node:Nat} {rec:List (List Nat)} {m m':Mon} {vp vr v':Value} (h:MonIn w B b node rec m vp vr) (y:FrameP.Rec) (hm:m'.last=m.last) (hm2:m'.row=m.row) (ho:m'.out=m.out ++ [y]) (hv:MonV rec m')
 (hown:w2.ownsRow B 137 5 v' (m.out.length + 1) (recsVals m.out ++ recVals y)) (ha:Apart (fun k=>vr.ownBlock=some k) w w2) :
 MonIn (w2.setCell ⟨b,2,none⟩ v') B b node rec m' vp v'∧Apart (MonF b vp vr) w (w2.setCell ⟨b,2,none⟩ v'):=by
 have hd2:w2.heap[b]? = some (.cells #[.int .u8 (node:Nat),vp,vr] 140 (0,0)):=(ha.block b (lt_of_block h.hd) (fun e=>h.nr b e rfl)).trans h.hd
 have g1:=heap_setCell_same w2 b 2 _ _ v' hd2
 have a1:Apart (fun k=>k=b) w2 (w2.setCell ⟨b,2,none⟩ v'):=(Apart.refl (fun k=>k=b) w2).setCell (p:=⟨b,2,none⟩) (.inl rfl) _
 have hw2:=za3 h.wat ha (fun k hk e=>h.pr k hk e)
 refine ⟨⟨g1,?_,?_,h.base,hv⟩,(ha.mono fun _ _ e=>.inr (.inr e)).trans a1 fun _ e=>.inl (.inl e)⟩
 ·rw [zp3 hm hm2]
  exact za3 hw2 a1 (fun k hk e=>zb2 hw2 hd2 (by decide) k hk e)
 ·have ho2:=za3 hown a1 (fun k hk e=>zb2 hown hd2 (by decide) k hk e)
  rw [ho,List.length_append,List.length_singleton,zi3]
  have e:recsVals [y]=recVals y:=by simp [recsVals]
  rw [e]
  exact ho2
def RepS (b node:Nat) (vp vr:Value) (W:World):Prop:=W.heap[b]? = some (.cells #[.int .u8 (node:Nat),vp,vr] 140 (0,0))
def midM (rec:List (List Nat)) (node:Nat) (m:Mon) (r p k:Nat):Mon:=⟨(nextM rec node m r p k).last,(nextM rec node m r p k).row,m.out⟩
theorem next_out (rec:List (List Nat)) (node:Nat) (m:Mon) (r p k:Nat):(nextM rec node m r p k).out=noteT node r p k (didT rec m r p k) m.out:=by unfold nextM;split<;>rfl
theorem mid_v {rec:List (List Nat)} {m:Mon} (h:MonV rec m) (node:Nat) {r p k:Nat} (hr:r < 1048576):MonV rec (midM rec node m r p k):=
 ⟨⟨(h.next node hr).ok.last,(h.next node hr).ok.row,h.ok.out⟩,(h.next node hr).low,(h.next node hr).zero⟩
theorem act_mid {w w1:World} {B b g n cap node:Nat} {rec:List (List Nat)} {m:Mon} {vr:Value} {r p k:Nat} {e:Ending} (hn:rec.length=n) (h:MonIn w B b node rec m (.slice (some ⟨g,0,none⟩) n cap) vr) (hr:r < 1048576) (ha:ActH w B g n cap rec node m r p k e w1) :
 MonIn w1 B b node rec (midM rec node m r p k) (.slice (some ⟨g,0,none⟩) n cap) vr∧Apart (MonF b (.slice (some ⟨g,0,none⟩) n cap) vr) w w1:=by
 obtain ⟨-,h1,h2⟩:=ha
 refine ⟨⟨(h2.block b (lt_of_block h.hd) (fun x=>h.np g rfl x.symm)).trans h.hd,?_,za3 h.recs h2 (fun k hk e=>h.pr g rfl (by rw [← e];exact hk)),h.base,mid_v h.v node hr⟩,h2.mono fun q _ e=>.inr (.inl (by rw [e];rfl))⟩
 rw [zp3 (m:=nextM rec node m r p k) (m':=midM rec node m r p k) rfl rfl,hn]
 exact h1
set_option maxHeartbeats 4000000 in
theorem zx9 (w:World) (B b node:Nat) (rec:List (List Nat)) (m:Mon) (vp vr:Value) (h:MonIn w B b node rec m vp vr) (r p k:Nat) (hp:p < rec.length) (hn:rec.length≤255) (hk:k≤3) (hr:r < 1048576) :
 Calls Tryz.prog 49 #[monH b,.int .u32 (r:Nat),.int .i64 (p:Nat),.int .u8 (k:Nat)] w (RepH w B b node rec m vp vr r (p:Int) k):=by
 have hrep:=zv6 (recover:=rec) (node:=node) (m:=m) hp hk hr
 obtain ⟨n,hnn⟩:∃ n,rec.length=n:=⟨_,rfl⟩
 obtain ⟨A,cap,hvp,hcap⟩:=za6 h.wat
 rw [hnn] at hvp hcap
 obtain ⟨g,hA⟩:∃ g,A=some ⟨g,0,none⟩:=by
  rcases h.wat.2 with ⟨-,h0⟩ | ⟨g,c,cur,e,-⟩
  ·omega
  ·rw [hvp] at e
   simp only [Value.slice.injEq] at e
   exact ⟨g,e.1⟩
 subst hA hvp
 obtain ⟨A2,cap2,hvr,hcap2⟩:=za6 h.recs
 have hwat:=h.wat
 rw [hnn] at hwat
 have HA:=Lib.hid (hact_any w B g n cap rec node m h.v hnn hwat r p k (by omega) hk)
 have HM:Hid (∀ e w1,ActH w B g n cap rec node m r p k e w1→MonIn w1 B b node rec (midM rec node m r p k) (.slice (some ⟨g,0,none⟩) n cap) vr∧Apart (MonF b (.slice (some ⟨g,0,none⟩) n cap) vr) w w1):=Lib.hid fun e w1 ha=>act_mid hnn h hr ha
 have k1:w.cell? ⟨b,1,none⟩=some (.slice (some ⟨g,0,none⟩) n cap):=za0 h.hd 1 rfl
 have d1:decide ((p:Int) < 0)=false:=decide_eq_false (by omega)
 have d2:decide ((n:Int)≤(p:Int))=false:=decide_eq_false (by omega)
 have d2':decide (n≤p)=false:=decide_eq_false (by omega)
 have d3:decide ((3:Int) < (k:Int))=false:=decide_eq_false (by omega)
 have d3':decide (3 < k)=false:=decide_eq_false (by omega)
 have d4:decide ((1048576:Int)≤(r:Int))=false:=decide_eq_false (by omega)
 have d4':decide (1048576≤r)=false:=decide_eq_false (by omega)
 have hlt:p < n:=by omega
 have hwp:IntKind.u8.wrap (p:Int)=(p:Int):=by rw [IntKind.wrap_u8];omega
 have hout:=h.v.ok.out
 have Hnx:=Lib.hid (next_out rec node m r p k)
 have HV:=Lib.hid (h.v.next node (p:=p) (k:=k) hr)
 have HRep:=Lib.hid hrep
 obtain ⟨q,hq⟩:∃ q,m.out.length=q:=⟨_,rfl⟩
 rw [hq] at hvr hout
 have HQ:=Lib.hid hq
 have HL0:Hid (∀ w1,Apart (MonF b (.slice (some ⟨g,0,none⟩) n cap) vr) w w1→w.heap.size≤w1.heap.size):=Lib.hid fun _ h=>h.size
 clear h hwat hrep hnn hq hp hn hr hcap hcap2
 by_cases hfull:q < 4
 case neg=>
  have hfin:Hid (∀ w1,MonIn w1 B b node rec (midM rec node m r p k) (.slice (some ⟨g,0,none⟩) n cap) vr→Apart (MonF b (.slice (some ⟨g,0,none⟩) n cap) vr) w w1→RepH w B b node rec m (.slice (some ⟨g,0,none⟩) n cap) vr r (p:Int) k (.returned (.tuple #[.int .u8 (didT rec m r p k:Nat),.nilIface])) w1):=Lib.hid fun w1 h1 h2=>by
   unfold RepH
   rw [HRep.out]
   have e:nextM rec node m r p k=midM rec node m r p k:=by
    have e1:(nextM rec node m r p k).out=m.out:=by rw [Hnx.out];unfold noteT;rw [if_neg (by rw [HQ.out];exact hfull)]
    show nextM rec node m r p k=⟨_,_,m.out⟩
    rw [← e1]
   exact ⟨rfl,vr,by rw [e];exact h1,h2,.inl rfl⟩
  have dq:decide ((q:Int) < 4)=false:=decide_eq_false (by omega)
  have dq':decide (q < 4)=false:=decide_eq_false (by omega)
  clear HL0 HV Hnx HRep HQ hfull hout
  subst hvr
  generalize hD:didT rec m r p k=did at *
  unfold monH
  go_enter Tryz.func49,Tryz.ntmps49
  go_wp2_with fail
  refine HA.out.mono ?_
  rintro e w1 hS
  have he:=hS.1
  obtain ⟨hM,hAp⟩:=HM.out _ _ hS
  rw [hD] at he
  subst he
  have k2:w1.cell? ⟨b,2,none⟩=some (.slice A2 q cap2):=za0 hM.hd 2 rfl
  have HX:=Lib.hid (hfin.out w1 hM hAp)
  clear hS hM hAp hfin HM HA hD
  go_wp2_with fail
  go_ret2
  exact HX.out
 have dq:decide ((q:Int) < 4)=true:=decide_eq_true (by omega)
 have dq':decide (q < 4)=true:=decide_eq_true (by omega)
 have hfin:Hid (∀ w1 w2 v',MonIn w1 B b node rec (midM rec node m r p k) (.slice (some ⟨g,0,none⟩) n cap) vr→Apart (MonF b (.slice (some ⟨g,0,none⟩) n cap) vr) w w1→w2.ownsRow B 137 5 v' (q + 1) (recsVals m.out ++ recVals ⟨r,node,p,k,didT rec m r p k⟩)→Apart (fun x=>vr.ownBlock=some x) w1 w2→(v'.ownBlock=vr.ownBlock∨∃ y,v'.ownBlock=some y∧w1.heap.size≤y) →
  RepH w B b node rec m (.slice (some ⟨g,0,none⟩) n cap) vr r (p:Int) k (.returned (.tuple #[.int .u8 (didT rec m r p k:Nat),.nilIface])) (w2.setCell ⟨b,2,none⟩ v')):=Lib.hid fun w1 w2 v' h1 h2 h3 h4 h5=>by
  unfold RepH
  rw [HRep.out]
  rw [← HQ.out] at h3
  have h6:=zG9 (m':=nextM rec node m r p k) h1 ⟨r,node,p,k,didT rec m r p k⟩ rfl rfl (by
   rw [Hnx.out];unfold noteT;rw [if_pos (by rw [HQ.out];exact hfull)];rfl) HV.out h3 h4
  refine ⟨rfl,v',h6.1,h2.trans h6.2 (fun _ e=>.inl e),?_⟩
  rcases h5 with h5 | ⟨y,h5,h7⟩
  ·exact .inl h5
  ·exact .inr ⟨y,h5,Nat.le_trans (HL0.out _ h2) h7⟩
 have HQ2:Hid (∀ w1,MonIn w1 B b node rec (midM rec node m r p k) (.slice (some ⟨g,0,none⟩) n cap) vr→w1.ownsRow B 137 5 vr q (recsVals m.out)):=Lib.hid fun w1 h=>by
  have:=h.recs
  change w1.ownsRow B 137 5 vr m.out.length (recsVals m.out) at this
  rw [HQ.out] at this
  exact this
 clear HL0 HV Hnx HRep hfull
 subst hvr
 generalize hD:didT rec m r p k=did at *
 unfold monH
 go_enter Tryz.func49,Tryz.ntmps49
 go_wp2_with fail
 refine HA.out.mono ?_
 rintro e w1 hS
 have he:=hS.1
 obtain ⟨hM,hAp⟩:=HM.out _ _ hS
 rw [hD] at he
 subst he
 have k2:w1.cell? ⟨b,2,none⟩=some (.slice A2 q cap2):=za0 hM.hd 2 rfl
 have HX:=Lib.hid (hfin.out w1)
 have HMI:=Lib.hid hM
 have HAP:=Lib.hid hAp
 have hdr:RepS b node (.slice (some ⟨g,0,none⟩) n cap) (.slice A2 q cap2) w1.drew:=hM.hd
 have c0:∀ W,RepS b node (.slice (some ⟨g,0,none⟩) n cap) (.slice A2 q cap2) W→W.cell? ⟨b,0,none⟩=some (.int .u8 (node:Nat)):=fun W hW=>za0 hW 0 rfl
 have c2:∀ W,RepS b node (.slice (some ⟨g,0,none⟩) n cap) (.slice A2 q cap2) W→W.cell? ⟨b,2,none⟩=some (.slice A2 q cap2):=fun W hW=>za0 hW 2 rfl
 clear hS hM hAp hfin HM HA hD
 go_wp2_with fail
 clear k2 k1
 refine za9 (st:=19) (S:=fun W=>RepS b node (.slice (some ⟨g,0,none⟩) n cap) (.slice A2 q cap2) W) (by kernel_rfl) hdr (fun _=>?_)
 refine tL 0 hdr ?_
 try simp only [Act.put,tkT,tk0,tkS]
 refine tL 1 hdr ?_
 try simp only [Act.put,tkT,tk0,tkS]
 refine tL 2 hdr ?_
 try simp only [Act.put,tkT,tk0,tkS]
 refine tL 3 hdr ?_
 try simp only [Act.put,tkT,tk0,tkS]
 refine tL 4 hdr ?_
 try simp only [Act.put,tkT,tk0,tkS]
 refine tL 5 hdr ?_
 try simp only [Act.put,tkT,tk0,tkS]
 refine tL 6 hdr ?_
 try simp only [Act.put,tkT,tk0,tkS]
 refine tL 7 hdr ?_
 try simp only [Act.put,tkT,tk0,tkS]
 refine tL 8 hdr ?_
 try simp only [Act.put,tkT,tk0,tkS]
 refine tL 9 hdr ?_
 try simp only [Act.put,tkT,tk0,tkS]
 refine tL 10 hdr ?_
 try simp only [Act.put,tkT,tk0,tkS]
 refine tL 11 hdr ?_
 try simp only [Act.put,tkT,tk0,tkS]
 refine tL 12 hdr ?_
 try simp only [Act.put,tkT,tk0,tkS]
 refine tL 13 hdr ?_
 try simp only [Act.put,tkT,tk0,tkS]
 refine tL 14 hdr ?_
 try simp only [Act.put,tkT,tk0,tkS]
 clear c0 c2
 have Hsz:=Lib.hid (lt_of_block hdr)
 have hda:RepS b node (.slice (some ⟨g,0,none⟩) n cap) (.slice A2 q cap2) (w1.drew.alloc (.cells (recVals ⟨r,node,p,k,did⟩).toArray 137)):=(Below.heap_alloc _ _ _ Hsz.out).trans hdr
 have Hd:=Lib.hid hdr
 clear hdr
 refine za8 (k:=15) (by kernel_rfl) (by simp only [tkA,tkG];rfl) (fun K hK=>?_)
 go_simp
 go_wp2_with fail
 refine hK.out _ _ (fun _=>hda) ?_
 clear hK K
 refine za8 (k:=16) (by kernel_rfl) (by simp only [tkA,tkG];rfl) (fun K hK=>?_)
 refine za7 rfl (.tmp 53) (.tmp 64) _ rfl B 137 _ 5 8 Tryz.underlying84 infoRec rfl (by omega) _ q (recsVals m.out) rfl ((HQ2.out _ HMI.out).drew.alloc _) (some ⟨w1.drew.heap.size,0,none⟩) 1 1 (recVals ⟨r,node,p,k,did⟩) rfl rfl (fun _=>⟨_,rfl,zk2 w1.drew _ (recVals ⟨r,node,p,k,did⟩) w1.drew.heap.size rfl⟩) (zn4 _) (by unfold maxLen;omega) (by omega) (by have:=HMI.out.base;have:=lt_of_block HMI.out.hd;simp;omega) ?_
 intro v8 w8 ho8 ha8 hb8
 have ha80:Apart (fun x=>(Value.slice A2 q cap2).ownBlock=some x) w1 w8:=((Apart.refl _ w1).drew.alloc _).trans ha8 (fun _ e=>.inl e)
 have hd8:RepS b node (.slice (some ⟨g,0,none⟩) n cap) (.slice A2 q cap2) w8:=(ha80.block b Hsz.out (fun e=>HMI.out.nr b e rfl)).trans HMI.out.hd
 obtain ⟨g8,c8,rfl,-,-⟩:=ho8.form (by omega)
 have HF8:=Lib.hid (HX.out w8 _ HMI.out HAP.out ho8 ha80 (by
  rcases hb8 with e | e
  ·exact .inl e
  ·simp only [Value.ownBlock,Option.some.injEq] at e
   exact .inr ⟨g8,rfl,by rw [e];simp⟩))
 have kb8:w8.cell? ⟨b,2,none⟩=some (.slice A2 q cap2):=za0 hd8 2 rfl
 have fb8:=za2 hd8 2
 clear ho8 ha8 hb8 ha80 HX
 go_wp2_with fail
 refine hK.out _ _ (fun _=>hd8) ?_
 clear hK K
 refine tL 17 hd8 ?_
 try simp only [Act.put,tkT,tk0,tkS]
 refine tL 18 hd8 ?_
 try simp only [Act.put,tkT,tk0,tkS]
 refine zc0 (k:=19) (by kernel_rfl) (by simp only [tkA,tkG];rfl) (fun K hK=>?_)
 go_simp
 go_wp2_with fail
 refine hK.out _ _ ?_
 clear hK K
 refine zb9 (by kernel_rfl) ?_ _
 clear hd8 hda
 go_wp2_with fail
 go_ret2
 exact HF8.out
theorem zB1 (w:World) (B b node:Nat) (rec:List (List Nat)) (m:Mon) (vp vr:Value) (h:MonIn w B b node rec m vp vr) (r:Nat) (part:Int) (k:Nat) (hn:rec.length≤255) :
 Calls Tryz.prog 49 #[monH b,.int .u32 (r:Nat),.int .i64 part,.int .u8 (k:Nat)] w (RepH w B b node rec m vp vr r part k):=by
 by_cases hb:part < 0∨(rec.length:Int)≤part∨3 < k∨1048576≤r
 ·exact zB0 w B b node rec m vp vr h r part k hb
 ·obtain ⟨p,rfl⟩:=Int.eq_ofNat_of_zero_le (show 0≤part by omega)
  exact zx9 w B b node rec m vp vr h r p k (by omega) hn (by omega) (by omega)
open Go.RowKit HeaP
set_option maxRecDepth 100000
def sayOf (p:TableP.Part):List Nat:=[p.r0,p.r1,p.r2,p.r3]
def wchP (p:TableP.Part):Wch:=⟨fun k=>((sayOf p)[k]?).getD 0,0,0⟩
theorem zH0 (l:List TableP.Part):wchs (l.map sayOf) (Mon.start (l.map sayOf).length)=l.map wchP:=by
 apply List.ext_getElem?
 intro q
 rw [zo1,List.getElem?_map,List.length_map]
 by_cases hq:q < l.length
 ·rw [if_pos hq,List.getElem?_eq_getElem hq]
  unfold wchOf
  rw [zm1,zx1]
  have e:recOf (l.map sayOf) q=fun k=>((sayOf l[q])[k]?).getD 0:=by
   funext k
   unfold recOf
   rw [List.getElem?_map,List.getElem?_eq_getElem hq]
   rfl
  rw [e]
  rfl
 ·rw [if_neg hq,List.getElem?_eq_none (by omega)]
  rfl
theorem infoWch:(Tryz.prog.info? 149).map (fun i=>(i.zero,i.size,i.bytes))=some (some (.agg #[.int .u8 0,.int .u8 0,.int .u8 0,.int .u8 0,.int .i64 0,.int .u32 0]),6,24):=by kernel_rfl
def NewH (w:World) (node:Nat) (l:List TableP.Part) (e:Ending) (w':World):Prop:=
 e = .returned (monH w.heap.size)∧∃ vp,MonIn w' w.heap.size w.heap.size node (l.map sayOf) (Mon.start (l.map sayOf).length) vp (.slice none 0 0)∧Below w.heap.size w w'
def NewI (w:World) (node:Nat) (l:List TableP.Part) (k:Nat) (vp:Value) (W:World):Prop:=
 W.heap[w.heap.size]? = some (.cells #[.int .u8 (node:Nat),vp,.slice none 0 0] 140 (0,0))∧W.ownsRow w.heap.size 149 6 vp k (itemsV wchVals ((l.take k).map wchP))∧Below w.heap.size w W
def NewR (w:World) (node n:Nat) (l:List TableP.Part) (i:Value) (W:World):Prop:=∃ k vp,k≤n∧i = .int .i64 (k:Nat)∧NewI w node l k vp W
theorem NewI.fin {w W:World} {node:Nat} {l:List TableP.Part} {vp:Value} (h:NewI w node l l.length vp W):NewH w node l (.returned (monH w.heap.size)) W:=by
 obtain ⟨h1,h2,h3⟩:=h
 refine ⟨rfl,vp,⟨h1,?_,?_,Nat.le_refl _,MonV.start _⟩,h3⟩
 ·rw [zH0,List.length_map]
  rw [List.take_length] at h2
  exact h2
 ·exact World.ownsRow_nil _ _ _ _
def NewSH (N M node:Nat) (vp:Value) (p:TableP.Part) (W:World):Prop:=W.heap[N]? = some (.cells #[.int .u8 (node:Nat),vp,.slice none 0 0] 140 (0,0))∧W.heap[M]? = some (.cells (partVals p).toArray 66 (0,0))
set_option maxHeartbeats 4000000 in
theorem hnew_any (w:World) (A:Option Addr) (n cap:Nat) (l:List TableP.Part) (hl:l.length=n) (hn:n≤255) (node:Nat) (hnode:node≤255) (h:ItemsIn partVals 9 w A l) :
 Calls Tryz.prog 29 #[.int .i64 (node:Nat),.slice A n cap] w (NewH w node l):=by
 have HI:=Lib.hid h
 have Hl:=Lib.hid hl
 have hwn:IntKind.u8.wrap (node:Int)=(node:Int):=by rw [IntKind.wrap_u8];omega
 have HS0:Hid (NewR w node n l (.int .i64 0) (w.alloc (.cells #[.int .u8 (node:Nat),.slice none 0 0,.slice none 0 0] 140))):=Lib.hid ⟨0,_,Nat.zero_le _,rfl,heap_alloc_new w _,World.ownsRow_nil _ _ _ _,(Below.refl _ _).alloc (Nat.le_refl _) _⟩
 clear h hl
 go_enter Tryz.func29,Tryz.ntmps29
 go_wp2_with fail
 go_loopw [14] (NewR w node n l) (fun i _=>(n + 1 - intOf i).toNat)
 case atStart=>exact HS0.out
 case round=>
  clear HS0
  obtain ⟨k,vp,hk,rfl,hI⟩:=hrel
  have HN:=Lib.hid hI
  by_cases hlt:k < n
  case neg=>
   have hkn:n=k:=by omega
   have HF:Hid (NewH w node l (.returned (monH w.heap.size)) wr):=Lib.hid (NewI.fin (vp:=vp) (by rw [Hl.out,hkn];exact hI))
   subst hkn
   unfold monH at HF
   clear hI
   go_wp2_with fail
   go_ret
   exact HF.out
  obtain ⟨p,hp⟩:∃ p,l[k]? = some p:=⟨_,List.getElem?_eq_getElem (by rw [Hl.out];exact hlt)⟩
  obtain ⟨b,off,rfl,hb,⟨c0,c1,c2,c3,c4,c5,c6,c7,c8⟩⟩:=zf0 (HI.out.below hI.2.2) hp
  obtain ⟨A2,cap2,hvp,-⟩:=za6 hI.2.1
  have HR:Hid (∀ v8 w8,w8.ownsRow w.heap.size 149 6 v8 (k + 1) (itemsV wchVals ((l.take k).map wchP) ++ wchVals (wchP p))→w8.heap[w.heap.size]? = some (.cells #[.int .u8 (node:Nat),vp,.slice none 0 0] 140 (0,0))→Below w.heap.size w w8→NewR w node n l (.int .i64 ((k:Int) + 1)) (w8.setCell ⟨w.heap.size,1,none⟩ v8)):=Lib.hid fun v8 w8 h1 h2 h3=>by
   refine ⟨k + 1,v8,by omega,by go_num,heap_setCell_same w8 w.heap.size 1 _ _ v8 h2,?_,h3.setCell (p:=⟨w.heap.size,1,none⟩) (Nat.le_refl _) v8⟩
   ·have a1:Apart (fun q=>q=w.heap.size) w8 (w8.setCell ⟨w.heap.size,1,none⟩ v8):=(Apart.refl (fun q=>q=w.heap.size) w8).setCell (p:=⟨w.heap.size,1,none⟩) (.inl rfl) _
    have:=za3 h1 a1 (fun q hq e=>zb2 h1 h2 (by decide) q hq e)
    rw [List.take_add_one,hp]
    simp only [Option.toList_some,List.map_append,List.map_cons,List.map_nil,zh0,zk1]
    exact this
  have hall:Apart (fun _=>False) wr (wr.alloc (.cells (partVals p).toArray 66)):=(Apart.refl _ wr).alloc _
  have hzN:w.heap.size < wr.heap.size:=lt_of_block hI.1
  have hdr:NewSH w.heap.size wr.heap.size node vp p (wr.alloc (.cells (partVals p).toArray 66)).drew:=⟨(Below.heap_alloc wr _ _ hzN).trans hI.1,heap_alloc_new wr _⟩
  have kv:∀ W,NewSH w.heap.size wr.heap.size node vp p W→W.cell? ⟨w.heap.size,1,none⟩=some vp:=fun W hW=>za0 hW.1 1 rfl
  have k5:∀ W,NewSH w.heap.size wr.heap.size node vp p W→W.cell? ⟨wr.heap.size,5,none⟩=some (.int .u8 (p.r0:Nat)):=fun W hW=>za0 hW.2 5 rfl
  have k6:∀ W,NewSH w.heap.size wr.heap.size node vp p W→W.cell? ⟨wr.heap.size,6,none⟩=some (.int .u8 (p.r1:Nat)):=fun W hW=>za0 hW.2 6 rfl
  have k7:∀ W,NewSH w.heap.size wr.heap.size node vp p W→W.cell? ⟨wr.heap.size,7,none⟩=some (.int .u8 (p.r2:Nat)):=fun W hW=>za0 hW.2 7 rfl
  have k8:∀ W,NewSH w.heap.size wr.heap.size node vp p W→W.cell? ⟨wr.heap.size,8,none⟩=some (.int .u8 (p.r3:Nat)):=fun W hW=>za0 hW.2 8 rfl
  have HW:Hid (wchVals (wchP p)=[.int .u8 (p.r0:Nat),.int .u8 (p.r1:Nat),.int .u8 (p.r2:Nat),.int .u8 (p.r3:Nat),.int .i64 0,.int .u32 0]):=Lib.hid rfl
  have HP:Hid ((partVals p).toArray=#[.int .i64 p.node,.int .i64 p.start,.int .i64 p.length,.int .i64 p.budget,.int .i64 p.words,.int .u8 (p.r0:Nat),.int .u8 (p.r1:Nat),.int .u8 (p.r2:Nat),.int .u8 (p.r3:Nat)]):=Lib.hid rfl
  have HZ:=Lib.hid hzN
  rw [HP.out] at hdr
  clear hp hI hb hall hzN
  subst hvp
  have hbe:Below w.heap.size w (wr.alloc (.cells #[.int .i64 p.node,.int .i64 p.start,.int .i64 p.length,.int .i64 p.budget,.int .i64 p.words,.int .u8 (p.r0:Nat),.int .u8 (p.r1:Nat),.int .u8 (p.r2:Nat),.int .u8 (p.r3:Nat)] 66)).drew:=(HN.out.2.2.alloc HN.out.2.2.size _).drew
  have hoe:(wr.alloc (.cells #[.int .i64 p.node,.int .i64 p.start,.int .i64 p.length,.int .i64 p.budget,.int .i64 p.words,.int .u8 (p.r0:Nat),.int .u8 (p.r1:Nat),.int .u8 (p.r2:Nat),.int .u8 (p.r3:Nat)] 66)).drew.ownsRow w.heap.size 149 6 (.slice A2 k cap2) k (itemsV wchVals ((l.take k).map wchP)):=(HN.out.2.1.alloc _).drew
  have Hbe:=Lib.hid hbe
  have Hoe:=Lib.hid hoe
  clear hbe hoe
  go_wp2_with fail
  clear c0 c1 c2 c3 c4 c5 c6 c7 c8
  refine za9 (st:=12) (S:=fun W=>NewSH w.heap.size wr.heap.size node (.slice A2 k cap2) p W) (by kernel_rfl) hdr (fun _=>?_)
  refine tL 0 hdr ?_
  try simp only [Act.put,tkT,tk0,tkS]
  refine tL 1 hdr ?_
  try simp only [Act.put,tkT,tk0,tkS]
  refine tL 2 hdr ?_
  try simp only [Act.put,tkT,tk0,tkS]
  refine tL 3 hdr ?_
  try simp only [Act.put,tkT,tk0,tkS]
  refine tL 4 hdr ?_
  try simp only [Act.put,tkT,tk0,tkS]
  refine tL 5 hdr ?_
  try simp only [Act.put,tkT,tk0,tkS]
  refine tL 6 hdr ?_
  try simp only [Act.put,tkT,tk0,tkS]
  refine tL 7 hdr ?_
  try simp only [Act.put,tkT,tk0,tkS]
  generalize (wr.alloc (.cells #[.int .i64 p.node,.int .i64 p.start,.int .i64 p.length,.int .i64 p.budget,.int .i64 p.words,.int .u8 (p.r0:Nat),.int .u8 (p.r1:Nat),.int .u8 (p.r2:Nat),.int .u8 (p.r3:Nat)] 66)).drew=we at *
  clear kv k5 k6 k7 k8
  have hsz:wr.heap.size < we.heap.size:=lt_of_block hdr.2
  have hzn:w.heap.size < we.heap.size:=lt_of_block hdr.1
  have hda:NewSH w.heap.size wr.heap.size node (.slice A2 k cap2) p (we.alloc (.cells (wchVals (wchP p)).toArray 149)):=⟨(Below.heap_alloc _ _ _ hzn).trans hdr.1,(Below.heap_alloc _ _ _ hsz).trans hdr.2⟩
  have Hd:=Lib.hid hdr
  clear hdr
  refine za8 (k:=8) (by kernel_rfl) (by simp only [tkA,tkG];rfl) (fun K hK=>?_)
  go_simp
  go_wp2_with fail
  refine hK.out _ _ (fun _=>hda) ?_
  clear hK K
  refine za8 (k:=9) (by kernel_rfl) (by simp only [tkA,tkG];rfl) (fun K hK=>?_)
  refine za7 rfl (.tmp 22) (.tmp 26) _ rfl w.heap.size 149 _ 6 24 Tryz.underlying138 infoWch rfl (by omega) _ k (itemsV wchVals ((l.take k).map wchP)) rfl (Hoe.out.alloc _) (some ⟨we.heap.size,0,none⟩) 1 1 (wchVals (wchP p)) rfl rfl (fun _=>⟨_,rfl,zk2 we _ (wchVals (wchP p)) we.heap.size rfl⟩) (zA6 _) (by unfold maxLen;omega) (by omega) (by simp;omega) ?_
  intro v8 w8 ho8 ha8 hb8
  have ha80:Apart (fun x=>(Value.slice A2 k cap2).ownBlock=some x) we w8:=((Apart.refl _ we).alloc _).trans ha8 (fun _ e=>.inl e)
  have hd8:NewSH w.heap.size wr.heap.size node (.slice A2 k cap2) p w8:=⟨(ha80.block _ hzn (fun e=>zb2 Hoe.out Hd.out.1 (by decide) _ e rfl)).trans Hd.out.1,(ha80.block _ hsz (fun e=>zb2 Hoe.out Hd.out.2 (by decide) _ e rfl)).trans Hd.out.2⟩
  obtain ⟨g8,c8,rfl,-,-⟩:=ho8.form (by omega)
  have hb80:Below w.heap.size w w8:=Hbe.out.trans (ha80.below (Nat.le_of_lt hzn) fun x e=>((Seg.of_own Hoe.out).lt x e).1)
  have HF8:=Lib.hid (HR.out _ w8 ho8 hd8.1 hb80)
  have kb8:w8.cell? ⟨w.heap.size,1,none⟩=some (.slice A2 k cap2):=za0 hd8.1 1 rfl
  have fb8:=za2 hd8.1 1
  clear ho8 ha8 hb8 ha80 HR hb80
  go_wp2_with fail
  refine hK.out _ _ (fun _=>hd8) ?_
  clear hK K
  refine tL 10 hd8 ?_
  try simp only [Act.put,tkT,tk0,tkS]
  refine tL 11 hd8 ?_
  try simp only [Act.put,tkT,tk0,tkS]
  refine zc0 (k:=12) (by kernel_rfl) (by simp only [tkA,tkG];rfl) (fun K hK=>?_)
  go_simp
  go_wp2_with fail
  refine hK.out _ _ ?_
  clear hK K
  refine zb9 (by kernel_rfl) ?_ _
  clear hd8 hda
  go_wp2_with fail
  go_roundw
  case rel=>exact HF8.out
  case measure=>simp [intOf];omega
def SealH (w:World) (B b node:Nat) (rec:List (List Nat)) (m:Mon) (vp vr:Value) (e:Ending) (w':World):Prop:=
 e = .returned vr∧w'.ownsRow B 137 5 vr m.out.length (recsVals m.out)∧MonIn w' B b node rec (sealM m) vp (.slice none 0 0)∧Apart (fun k=>k=b) w w'
theorem zN4 (w:World) (B b node:Nat) (rec:List (List Nat)) (m:Mon) (vp vr:Value) (h:MonIn w B b node rec m vp vr) :
 Calls Tryz.prog 22 #[monH b] w (SealH w B b node rec m vp vr):=by
 obtain ⟨A,cap,hvr,-⟩:=za6 h.recs
 have a1:Apart (fun k=>k=b) w (w.setCell ⟨b,2,none⟩ (.slice none 0 0)):=(Apart.refl (fun k=>k=b) w).setCell (p:=⟨b,2,none⟩) (.inl rfl) _
 have HF:Hid (SealH w B b node rec m vp vr (.returned vr) (w.setCell ⟨b,2,none⟩ (.slice none 0 0))):=Lib.hid ⟨rfl,za3 h.recs a1 (fun k hk e=>h.nr k hk e),⟨heap_setCell_same w b 2 _ _ _ h.hd,za3 h.wat a1 (fun k hk e=>h.np k hk e),World.ownsRow_nil _ _ _ _,h.base,h.v.sealed⟩,a1⟩
 have k2:w.cell? ⟨b,2,none⟩=some vr:=za0 h.hd 2 rfl
 have f2:=za2 h.hd 2
 subst hvr
 clear h a1
 unfold monH
 go_enter Tryz.func22,Tryz.ntmps22
 go_wp2_with fail
 go_ret
 exact HF.out
open Go.RowKit
set_option maxRecDepth 100000
open Go.RowKit
set_option maxRecDepth 100000
section
variable {br bp n cap:Nat} {A:Option Addr} {l:List UInt8} {W w w':World} {t:TypeId} {a:Nat} {sh:Bool} {xs:Array Value}
end
section
variable {br n cap:Nat} {A:Option Addr} {l:List UInt8} {W0 w:World} {t:TypeId} {a:Nat} {sh:Bool} {xs:Array Value} {o1 o2:Obj}
end
open Go.RowKit
set_option maxRecDepth 100000
open Go.RowKit
set_option maxRecDepth 100000
open Go.RowKit
set_option maxRecDepth 100000
section
variable {P:Program}
end
structure OwnI {α:Type} (vals:α→List Value) (size:Nat) (e:TypeId) (B:Nat) (v:Value) (l:List α) (w:World):Prop where
 own:w.ownsRow B e size v l.length (itemsV vals l)
section
variable {α:Type} {vals:α→List Value} {size:Nat} {e:TypeId} {B:Nat} {v v':Value} {l:List α} {w w':World}
theorem OwnI.new {F:Nat→Prop} (h:OwnI vals size e B v l w) (ha:Apart F w w') (hv:∀ k,v.ownBlock=some k→¬ F k):OwnI vals size e B v l w':=⟨za3 h.own ha hv⟩
theorem OwnI.apart {F:Nat→Prop} (h:OwnI vals size e B v l w) (ha:Apart F w w') (hF:∀ k,F k→k < B):OwnI vals size e B v l w':=
 h.new ha (fun k hk e=>by have:=(h.own.lt k hk).1;have:=hF k e;omega)
end
theorem infoP:(Tryz.prog.info? 66).map (fun i=>(i.zero,i.size,i.bytes))=some (some (.agg #[.int .i64 0,.int .i64 0,.int .i64 0,.int .i64 0,.int .i64 0,.int .u8 0,.int .u8 0,.int .u8 0,.int .u8 0]),9,48):=by kernel_rfl
theorem infoQ:(Tryz.prog.info? 127).map (fun i=>(i.zero,i.size,i.bytes))=some (some (.agg #[.int .i64 0,.int .u8 0,.bool false,.int .i64 0,.int .i64 0,.int .i64 0]),6,40):=by kernel_rfl
theorem infoR:(Tryz.prog.info? 142).map (fun i=>(i.zero,i.size,i.bytes))=some (some (.agg #[.int .i64 0,.int .i64 0]),2,16):=by kernel_rfl
open Go.RowKit
set_option maxRecDepth 100000
theorem zp6 (W:World) (B N size:Nat) (e:TypeId) (hN:N=W.heap.size) (hB:B≤W.heap.size):(W.alloc (.cells #[] e)).ownsRow B e size (.slice (some ⟨N,0,none⟩) 0 0) 0 []:=by
 subst hN
 exact World.ownsRow_lit (base:=B) (e:=e) (size:=size) W #[] 0 hB (by unfold maxLen;omega) (by simp)
def CopiedPost (f:TableP.Cfg) (w:World) (e:Ending) (w':World):Prop:=∃ v,e = .returned v∧CfgAt w' v f∧Below w.heap.size w w'
def CopiedOwn (f:TableP.Cfg) (w:World) (e:Ending) (w':World):Prop:=
 ∃ x3:CfgC,e = .returned x3.value∧CfgIn w' x3∧x3.plain=f∧OwnI partVals 9 66 (w.heap.size + 2) (.slice x3.PA x3.pn x3.pcap) x3.parts w'∧OwnI portVals 6 127 (w.heap.size + 2) (.slice x3.QA x3.qn x3.qcap) x3.ports w' ∧
  OwnI routeVals 2 142 (w.heap.size + 2) (.slice x3.RA x3.rn x3.rcap) x3.routes w'∧Below w.heap.size w w'
structure CpS (w:World) (cs zs:Array Value) (W:World):Prop where
 box:W.heap[w.heap.size]? = some (.cells cs 26 (0,0))
 res:W.heap[w.heap.size + 1]? = some (.cells zs 26 (0,0))
 bel:Below w.heap.size w W
theorem CpS.lt {w:World} {cs zs:Array Value} {W:World} (h:CpS w cs zs W):w.heap.size + 2≤W.heap.size:=lt_of_block h.res
theorem CpS.step {w:World} {cs zs:Array Value} {W W':World} (h:CpS w cs zs W) (hb:Below W.heap.size W W'):CpS w cs zs W':=by
 have:=h.lt
 exact ⟨(hb.block _ (by omega)).trans h.box,(hb.block _ (by omega)).trans h.res,h.bel.trans (hb.mono (by omega))⟩
theorem CpS.store {w:World} {cs zs:Array Value} {W:World} (h:CpS w cs zs W) (i:Nat) (u:Value):CpS w (cs.setIfInBounds i u) zs (W.setCell ⟨w.heap.size,i,none⟩ u):=
 ⟨heap_setCell_same W _ i _ _ u h.box,(Below.heap_setCell _ _ _ _ (by simp)).trans h.res,h.bel.setCell (by simp) _⟩
theorem zp7 {W w1:World} {o:Obj} {N:Nat} (hN:N=W.heap.size) (ha:Apart (fun k=>N=k) (W.alloc o) w1):Below W.heap.size W w1:=
 ((Below.refl _ _).alloc (Nat.le_refl _) _).trans (ha.below (by simp) (fun k e=>by omega))
theorem zm3 {α:Type} {vals:α→List Value} {size:Nat} (hs:∀ x,(vals x).length=size) {e:TypeId} {B:Nat} {A:Option Addr} {n cap:Nat} {l:List α} {W:World} (h:OwnI vals size e B (.slice A n cap) l W) (hl:l.length=n):n≤cap∧ItemsIn vals size W A l:=by
 obtain ⟨A',cap',e1,h1,h2⟩:=ItemsIn.own hs h.own
 injection e1 with e1 _ e3
 subst e1 e3
 exact ⟨by omega,h2⟩
set_option maxHeartbeats 4000000 in
theorem zH1 (x:CfgC) (w:World) (h:CfgIn w x) (hp:x.pn≤1000000) (hq:x.qn≤1000000) (hr:x.rn≤1000000) :
 Calls Tryz.prog 10 #[x.value] w (CopiedOwn x.plain w):=by
 have HP:=Lib.hid (fun W (hW:Below w.heap.size w W)=>h.parts.below hW)
 have HQ:=Lib.hid (fun W (hW:Below w.heap.size w W)=>h.ports.below hW)
 have HR:=Lib.hid (fun W (hW:Below w.heap.size w W)=>h.routes.below hW)
 have Hpl:=Lib.hid h.plen
 have Hql:=Lib.hid h.qlen
 have Hrl:=Lib.hid h.rlen
 clear h
 obtain ⟨nodes,faulty,slot,gap,rho,dmin,dmax,margin,PA,pn,pcap,parts,QA,qn,qcap,ports,RA,rn,rcap,routes⟩:=x
 simp only at HP HQ HR Hpl Hql Hrl hp hq hr
 simp only [CfgC.value]
 have HS0:Hid (CpS w #[.int .i64 nodes,.int .i64 faulty,.int .i64 slot,.int .i64 gap,.int .i64 rho,.int .i64 dmin,.int .i64 dmax,.int .i64 margin,.slice PA pn pcap,.slice QA qn qcap,.slice RA rn rcap] #[.int .i64 0,.int .i64 0,.int .i64 0,.int .i64 0,.int .i64 0,.int .i64 0,.int .i64 0,.int .i64 0,.slice none 0 0,.slice none 0 0,.slice none 0 0] ((w.alloc (.cells #[.int .i64 nodes,.int .i64 faulty,.int .i64 slot,.int .i64 gap,.int .i64 rho,.int .i64 dmin,.int .i64 dmax,.int .i64 margin,.slice PA pn pcap,.slice QA qn qcap,.slice RA rn rcap] 26)).alloc (.cells #[.int .i64 0,.int .i64 0,.int .i64 0,.int .i64 0,.int .i64 0,.int .i64 0,.int .i64 0,.int .i64 0,.slice none 0 0,.slice none 0 0,.slice none 0 0] 26))):=Lib.hid
  ⟨(Below.heap_alloc _ _ _ (by simp)).trans (heap_alloc_new w _),by have h9:=heap_alloc_new (w.alloc (.cells #[.int .i64 nodes,.int .i64 faulty,.int .i64 slot,.int .i64 gap,.int .i64 rho,.int .i64 dmin,.int .i64 dmax,.int .i64 margin,.slice PA pn pcap,.slice QA qn qcap,.slice RA rn rcap] 26)) (.cells #[.int .i64 0,.int .i64 0,.int .i64 0,.int .i64 0,.int .i64 0,.int .i64 0,.int .i64 0,.int .i64 0,.slice none 0 0,.slice none 0 0,.slice none 0 0] 26);simpa using h9,((Below.refl _ _).alloc (Nat.le_refl _) _).alloc (by simp) _⟩
 go_enter Tryz.func10,Tryz.ntmps10
 go_wp2_with (first
 | (at_builtin
    refine zb3 rfl (.tmp 3) (.tmp 5) _ rfl (w.heap.size + 2) 66 _ 9 48 Tryz.underlying22 infoP rfl (by omega) _ 0 [] rfl (zp6 _ (w.heap.size + 2) _ 9 _ (by simp) (by have:=HS0.out.lt;simp at this ⊢<;>omega)) PA pn pcap (itemsV partVals parts) rfl (by rw [zd3 zg0,Hpl.out]) ?n1 (zg3 zx2 _) (by unfold maxLen;omega) (by omega) (by have:=HS0.out.lt;simp at this ⊢<;>omega) ?_
    case n1=>exact fun hn=>(HP.out _ (HS0.out.bel.alloc (by have:=HS0.out.lt;simp at this ⊢<;>omega) _)).news zg0 (by omega) (by rw [Hpl.out];exact hn)
    intro v1 w1 ho1 ha1 hb1
    have hap1:Apart (fun k=>w.heap.size + 1 + 1=k) _ w1:=ha1.mono (fun k _ e=>Option.some.inj e)
    have hbl:=zp7 (W:=((w.alloc (.cells #[.int .i64 nodes,.int .i64 faulty,.int .i64 slot,.int .i64 gap,.int .i64 rho,.int .i64 dmin,.int .i64 dmax,.int .i64 margin,.slice PA pn pcap,.slice QA qn qcap,.slice RA rn rcap] 26)).alloc (.cells #[.int .i64 0,.int .i64 0,.int .i64 0,.int .i64 0,.int .i64 0,.int .i64 0,.int .i64 0,.int .i64 0,.slice none 0 0,.slice none 0 0,.slice none 0 0] 26))) (by simp) hap1
    clear hap1
    have hs1:=HS0.out.step hbl
    have hr1:OwnI partVals 9 66 (w.heap.size + 2) v1 parts w1:=⟨by rw [Hpl.out];simpa using ho1⟩
    obtain ⟨A1,c1,hv1,-⟩:=za6 ho1
    rw [Nat.zero_add] at hv1
    subst hv1
    have kb1:w1.cell? ⟨w.heap.size,8,none⟩=some (.slice PA pn pcap):=za0 hs1.box 8 rfl
    have fb1:=za2 hs1.box 8
    have hz1:w.heap.size < w1.heap.size:=by have:=hs1.lt;omega
    have hs2:=hs1.store 8 (.slice A1 pn c1)
    have kn1_9:(w1.setCell ⟨w.heap.size,8,none⟩ (.slice A1 pn c1)).cell? ⟨w.heap.size,9,none⟩=some (.slice QA qn qcap):=za0 hs2.box 9 rfl
    have fn1_9:=za2 hs2.box 9
    have kn1_10:(w1.setCell ⟨w.heap.size,8,none⟩ (.slice A1 pn c1)).cell? ⟨w.heap.size,10,none⟩=some (.slice RA rn rcap):=za0 hs2.box 10 rfl
    have fn1_10:=za2 hs2.box 10
    have RW1:=Lib.hid (hr1.apart (Apart.setCell (F:=fun q=>q=w.heap.size) (Apart.refl _ w1) (p:=⟨w.heap.size,8,none⟩) (.inl rfl) (.slice A1 pn c1)) (fun q e=>by omega))
    have HS1:=Lib.hid hs2
    clear ho1 ha1 hb1 hs1 hs2 hr1 hbl)
 | (at_builtin
    refine zb3 rfl (.tmp 8) (.tmp 10) _ rfl (w.heap.size + 2) 127 _ 6 40 Tryz.underlying23 infoQ rfl (by omega) _ 0 [] rfl (zp6 _ (w.heap.size + 2) _ 6 _ (by simp) (by have:=HS1.out.lt;simp at this ⊢<;>omega)) QA qn qcap (itemsV portVals ports) rfl (by rw [zd3 zg1,Hql.out]) ?n2 (zg3 zx3 _) (by unfold maxLen;omega) (by omega) (by have:=HS1.out.lt;simp at this ⊢<;>omega) ?_
    case n2=>exact fun hn=>(HQ.out _ (HS1.out.bel.alloc (by have:=HS1.out.lt;simp at this ⊢<;>omega) _)).news zg1 (by omega) (by rw [Hql.out];exact hn)
    intro v2 w2 ho2 ha2 hb2
    have hap2:Apart (fun k=>w1.heap.size=k) _ w2:=ha2.mono (fun k _ e=>Option.some.inj e)
    have hbl:=zp7 (W:=(w1.setCell ⟨w.heap.size,8,none⟩ (.slice A1 pn c1))) (by simp) hap2
    clear hap2
    have hs1:=HS1.out.step hbl
    have hr1:OwnI portVals 6 127 (w.heap.size + 2) v2 ports w2:=⟨by rw [Hql.out];simpa using ho2⟩
    obtain ⟨A2,c2,hv2,-⟩:=za6 ho2
    rw [Nat.zero_add] at hv2
    subst hv2
    have kb2:w2.cell? ⟨w.heap.size,9,none⟩=some (.slice QA qn qcap):=za0 hs1.box 9 rfl
    have fb2:=za2 hs1.box 9
    have hz2:w.heap.size < w2.heap.size:=by have:=hs1.lt;omega
    have hs2:=hs1.store 9 (.slice A2 qn c2)
    have kn2_10:(w2.setCell ⟨w.heap.size,9,none⟩ (.slice A2 qn c2)).cell? ⟨w.heap.size,10,none⟩=some (.slice RA rn rcap):=za0 hs2.box 10 rfl
    have fn2_10:=za2 hs2.box 10
    have RW2:=Lib.hid (hr1.apart (Apart.setCell (F:=fun q=>q=w.heap.size) (Apart.refl _ w2) (p:=⟨w.heap.size,9,none⟩) (.inl rfl) (.slice A2 qn c2)) (fun q e=>by omega))
    have RW1n:=(RW1.out.apart (F:=fun _=>False) (Apart.of_below' hbl) (fun _ h=>h.elim)).apart (Apart.setCell (F:=fun q=>q=w.heap.size) (Apart.refl _ w2) (p:=⟨w.heap.size,9,none⟩) (.inl rfl) (.slice A2 qn c2)) (fun q e=>by omega)
    clear RW1
    have RW1:=Lib.hid RW1n
    clear RW1n
    have HS2:=Lib.hid hs2
    clear ho2 ha2 hb2 hs1 hs2 hr1 hbl)
 | (at_builtin
    refine zb3 rfl (.tmp 13) (.tmp 15) _ rfl (w.heap.size + 2) 142 _ 2 16 Tryz.underlying24 infoR rfl (by omega) _ 0 [] rfl (zp6 _ (w.heap.size + 2) _ 2 _ (by simp) (by have:=HS2.out.lt;simp at this ⊢<;>omega)) RA rn rcap (itemsV routeVals routes) rfl (by rw [zd3 zf1,Hrl.out]) ?n3 (zg3 zt8 _) (by unfold maxLen;omega) (by omega) (by have:=HS2.out.lt;simp at this ⊢<;>omega) ?_
    case n3=>exact fun hn=>(HR.out _ (HS2.out.bel.alloc (by have:=HS2.out.lt;simp at this ⊢<;>omega) _)).news zf1 (by omega) (by rw [Hrl.out];exact hn)
    intro v3 w3 ho3 ha3 hb3
    have hap3:Apart (fun k=>w2.heap.size=k) _ w3:=ha3.mono (fun k _ e=>Option.some.inj e)
    have hbl:=zp7 (W:=(w2.setCell ⟨w.heap.size,9,none⟩ (.slice A2 qn c2))) (by simp) hap3
    clear hap3
    have hs1:=HS2.out.step hbl
    have hr1:OwnI routeVals 2 142 (w.heap.size + 2) v3 routes w3:=⟨by rw [Hrl.out];simpa using ho3⟩
    obtain ⟨A3,c3,hv3,-⟩:=za6 ho3
    rw [Nat.zero_add] at hv3
    subst hv3
    have kb3:w3.cell? ⟨w.heap.size,10,none⟩=some (.slice RA rn rcap):=za0 hs1.box 10 rfl
    have fb3:=za2 hs1.box 10
    have hz3:w.heap.size < w3.heap.size:=by have:=hs1.lt;omega
    have hs2:=hs1.store 10 (.slice A3 rn c3)
    have kn3_0:(w3.setCell ⟨w.heap.size,10,none⟩ (.slice A3 rn c3)).cell? ⟨w.heap.size,0,none⟩=some (.int .i64 nodes):=za0 hs2.box 0 rfl
    have fn3_0:=za2 hs2.box 0
    have kn3_1:(w3.setCell ⟨w.heap.size,10,none⟩ (.slice A3 rn c3)).cell? ⟨w.heap.size,1,none⟩=some (.int .i64 faulty):=za0 hs2.box 1 rfl
    have fn3_1:=za2 hs2.box 1
    have kn3_2:(w3.setCell ⟨w.heap.size,10,none⟩ (.slice A3 rn c3)).cell? ⟨w.heap.size,2,none⟩=some (.int .i64 slot):=za0 hs2.box 2 rfl
    have fn3_2:=za2 hs2.box 2
    have kn3_3:(w3.setCell ⟨w.heap.size,10,none⟩ (.slice A3 rn c3)).cell? ⟨w.heap.size,3,none⟩=some (.int .i64 gap):=za0 hs2.box 3 rfl
    have fn3_3:=za2 hs2.box 3
    have kn3_4:(w3.setCell ⟨w.heap.size,10,none⟩ (.slice A3 rn c3)).cell? ⟨w.heap.size,4,none⟩=some (.int .i64 rho):=za0 hs2.box 4 rfl
    have fn3_4:=za2 hs2.box 4
    have kn3_5:(w3.setCell ⟨w.heap.size,10,none⟩ (.slice A3 rn c3)).cell? ⟨w.heap.size,5,none⟩=some (.int .i64 dmin):=za0 hs2.box 5 rfl
    have fn3_5:=za2 hs2.box 5
    have kn3_6:(w3.setCell ⟨w.heap.size,10,none⟩ (.slice A3 rn c3)).cell? ⟨w.heap.size,6,none⟩=some (.int .i64 dmax):=za0 hs2.box 6 rfl
    have fn3_6:=za2 hs2.box 6
    have kn3_7:(w3.setCell ⟨w.heap.size,10,none⟩ (.slice A3 rn c3)).cell? ⟨w.heap.size,7,none⟩=some (.int .i64 margin):=za0 hs2.box 7 rfl
    have fn3_7:=za2 hs2.box 7
    have kn3_8:(w3.setCell ⟨w.heap.size,10,none⟩ (.slice A3 rn c3)).cell? ⟨w.heap.size,8,none⟩=some (.slice A1 pn c1):=za0 hs2.box 8 rfl
    have fn3_8:=za2 hs2.box 8
    have kn3_9:(w3.setCell ⟨w.heap.size,10,none⟩ (.slice A3 rn c3)).cell? ⟨w.heap.size,9,none⟩=some (.slice A2 qn c2):=za0 hs2.box 9 rfl
    have fn3_9:=za2 hs2.box 9
    have kn3_10:(w3.setCell ⟨w.heap.size,10,none⟩ (.slice A3 rn c3)).cell? ⟨w.heap.size,10,none⟩=some (.slice A3 rn c3):=za0 hs2.box 10 rfl
    have fn3_10:=za2 hs2.box 10
    have RW3:=Lib.hid (hr1.apart (Apart.setCell (F:=fun q=>q=w.heap.size) (Apart.refl _ w3) (p:=⟨w.heap.size,10,none⟩) (.inl rfl) (.slice A3 rn c3)) (fun q e=>by omega))
    have RW1n:=(RW1.out.apart (F:=fun _=>False) (Apart.of_below' hbl) (fun _ h=>h.elim)).apart (Apart.setCell (F:=fun q=>q=w.heap.size) (Apart.refl _ w3) (p:=⟨w.heap.size,10,none⟩) (.inl rfl) (.slice A3 rn c3)) (fun q e=>by omega)
    clear RW1
    have RW1:=Lib.hid RW1n
    clear RW1n
    have RW2n:=(RW2.out.apart (F:=fun _=>False) (Apart.of_below' hbl) (fun _ h=>h.elim)).apart (Apart.setCell (F:=fun q=>q=w.heap.size) (Apart.refl _ w3) (p:=⟨w.heap.size,10,none⟩) (.inl rfl) (.slice A3 rn c3)) (fun q e=>by omega)
    clear RW2
    have RW2:=Lib.hid RW2n
    clear RW2n
    have fr:=fun i=>za2 hs2.res i
    have r0:=za0 hs2.res 0 rfl
    have r1:=za0 hs2.res 1 rfl
    have r2:=za0 hs2.res 2 rfl
    have r3:=za0 hs2.res 3 rfl
    have r4:=za0 hs2.res 4 rfl
    have r5:=za0 hs2.res 5 rfl
    have r6:=za0 hs2.res 6 rfl
    have r7:=za0 hs2.res 7 rfl
    have r8:=za0 hs2.res 8 rfl
    have r9:=za0 hs2.res 9 rfl
    have r10:=za0 hs2.res 10 rfl
    have HS3:=Lib.hid hs2
    clear ho3 ha3 hb3 hs1 hs2 hr1 hbl)
 | fail)
 show bodyPost _ _ _ _ _ (storeAll (w3.setCell ⟨w.heap.size,10,none⟩ (.slice A3 rn c3)) (w.heap.size + 1) [.int .i64 nodes,.int .i64 faulty,.int .i64 slot,.int .i64 gap,.int .i64 rho,.int .i64 dmin,.int .i64 dmax,.int .i64 margin,.slice A1 pn c1,.slice A2 qn c2,.slice A3 rn c3] 0)
 have hfin:=zd2 (b:=w.heap.size + 1) (t:=26) [.int .i64 nodes,.int .i64 faulty,.int .i64 slot,.int .i64 gap,.int .i64 rho,.int .i64 dmin,.int .i64 dmax,.int .i64 margin,.slice A1 pn c1,.slice A2 qn c2,.slice A3 rn c3] 0 (w3.setCell ⟨w.heap.size,10,none⟩ (.slice A3 rn c3)) [] [_,_,_,_,_,_,_,_,_,_,_] HS3.out.res rfl rfl
 rw [List.nil_append] at hfin
 have hap:=za1 (w.heap.size + 1) [.int .i64 nodes,.int .i64 faulty,.int .i64 slot,.int .i64 gap,.int .i64 rho,.int .i64 dmin,.int .i64 dmax,.int .i64 margin,.slice A1 pn c1,.slice A2 qn c2,.slice A3 rn c3] 0 (w3.setCell ⟨w.heap.size,10,none⟩ (.slice A3 rn c3))
 have HFin:Hid (CopiedOwn (CfgC.plain ⟨nodes,faulty,slot,gap,rho,dmin,dmax,margin,PA,pn,pcap,parts,QA,qn,qcap,ports,RA,rn,rcap,routes⟩) w (.returned (CfgC.value ⟨nodes,faulty,slot,gap,rho,dmin,dmax,margin,A1,pn,c1,parts,A2,qn,c2,ports,A3,rn,c3,routes⟩)) (storeAll (w3.setCell ⟨w.heap.size,10,none⟩ (.slice A3 rn c3)) (w.heap.size + 1) [.int .i64 nodes,.int .i64 faulty,.int .i64 slot,.int .i64 gap,.int .i64 rho,.int .i64 dmin,.int .i64 dmax,.int .i64 margin,.slice A1 pn c1,.slice A2 qn c2,.slice A3 rn c3] 0)):=Lib.hid (by
  have o1:=RW1.out.apart hap (fun q e=>by omega)
  have o2:=RW2.out.apart hap (fun q e=>by omega)
  have o3:=RW3.out.apart hap (fun q e=>by omega)
  obtain ⟨p1,p2⟩:=zm3 zg0 o1 Hpl.out
  obtain ⟨q1,q2⟩:=zm3 zg1 o2 Hql.out
  obtain ⟨r1,r2⟩:=zm3 zf1 o3 Hrl.out
  exact ⟨⟨nodes,faulty,slot,gap,rho,dmin,dmax,margin,A1,pn,c1,parts,A2,qn,c2,ports,A3,rn,c3,routes⟩,rfl,⟨p2,Hpl.out,p1,by simp only;omega,q2,Hql.out,q1,by simp only;omega,r2,Hrl.out,r1,by simp only;omega⟩,rfl,o1,o2,o3,HS3.out.bel.trans (hap.below (by have:=HS3.out.lt;omega) (fun q e=>by omega))⟩)
 generalize storeAll (w3.setCell ⟨w.heap.size,10,none⟩ (.slice A3 rn c3)) (w.heap.size + 1) [.int .i64 nodes,.int .i64 faulty,.int .i64 slot,.int .i64 gap,.int .i64 rho,.int .i64 dmin,.int .i64 dmax,.int .i64 margin,.slice A1 pn c1,.slice A2 qn c2,.slice A3 rn c3] 0=Wf at *
 have z0:=za0 hfin 0 rfl
 have z1:=za0 hfin 1 rfl
 have z2:=za0 hfin 2 rfl
 have z3:=za0 hfin 3 rfl
 have z4:=za0 hfin 4 rfl
 have z5:=za0 hfin 5 rfl
 have z6:=za0 hfin 6 rfl
 have z7:=za0 hfin 7 rfl
 have z8:=za0 hfin 8 rfl
 have z9:=za0 hfin 9 rfl
 have z10:=za0 hfin 10 rfl
 refine bodyPost_ret (v:=CfgC.value ⟨nodes,faulty,slot,gap,rho,dmin,dmax,margin,A1,pn,c1,parts,A2,qn,c2,ports,A3,rn,c3,routes⟩) (by simp [results,Tryz.results10,go_sem,CfgC.value,z0,z1,z2,z3,z4,z5,z6,z7,z8,z9,z10]) rfl ?_
 exact HFin.out
theorem zm4 (x:CfgC) (w:World) (h:CfgIn w x) (hp:x.pn≤1000000) (hq:x.qn≤1000000) (hr:x.rn≤1000000) :
 Calls Tryz.prog 10 #[x.value] w (CopiedPost x.plain w):=
 (zH1 x w h hp hq hr).mono fun _ _ ⟨x3,h1,h2,h3,_,_,_,h4⟩=>⟨_,h1,⟨x3,rfl,h2,h3⟩,h4⟩
end Go.Proofs.YtfgpfmhjnccccaaGreatDoor
