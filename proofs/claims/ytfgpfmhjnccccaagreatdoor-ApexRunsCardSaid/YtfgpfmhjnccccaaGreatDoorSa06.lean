import Derived.Test.YtfgpfmhjnccccaaGreatDoorChecked
import Derived.KernelRfl
import Derived.Test.YtfgpfmhjnccccaaGreatDoorSa03
import Derived.Test.YtfgpfmhjnccccaaGreatDoorSa02
import Derived.Test.YtfgpfmhjnccccaaGreatDoorSa01
namespace Go.Proofs.YtfgpfmhjnccccaaGreatDoor
open Go.RowKit
theorem infoM:(Tryz.prog.info? 121).map (fun i=>(i.zero,i.size,i.bytes))=some (some (.agg #[.int .i64 0,.slice none 0 0]),2,32):=by kernel_rfl
def msgVals (l:List MsgC):List Value:=l.flatMap MsgC.vals
def recsVals (l:List FrameP.Rec):List Value:=l.flatMap recVals
theorem zj6 (l r:List MsgC):msgVals (l ++ r)=msgVals l ++ msgVals r:=by simp [msgVals]
theorem zi3 (l r:List FrameP.Rec):recsVals (l ++ r)=recsVals l ++ recsVals r:=by simp [recsVals]
theorem zs1:∀ (l:List MsgC) (i:Nat) (x:MsgC),l[i]? = some x→(msgVals l)[i * 2]? = some (.int .i64 x.port)∧(msgVals l)[i * 2 + 1]? = some (.slice x.A x.m x.cap)
 | [],i,x,h=>by simp at h
 | y :: l,0,x,h=>by
  simp at h
  subst h
  exact ⟨rfl,rfl⟩
 | y :: l,i + 1,x,h=>by
  have:=zs1 l i x (by simpa using h)
  have e1:(i + 1) * 2=i * 2 + 2:=by omega
  have e2:(i + 1) * 2 + 1=i * 2 + 1 + 2:=by omega
  rw [e2,e1]
  exact this
theorem zp2:∀ (l:List FrameP.Rec) (i:Nat) (x:FrameP.Rec),l[i]? = some x→∀ j,j < 5→(recsVals l)[i * 5 + j]? = (recVals x)[j]?
 | [],i,x,h=>by simp at h
 | y :: l,0,x,h=>by
  simp at h
  subst h
  intro j hj
  simp only [recsVals,List.flatMap_cons,Nat.zero_mul,Nat.zero_add]
  rw [List.getElem?_append_left (by simp [recVals];omega)]
 | y :: l,i + 1,x,h=>by
  intro j hj
  have:=zp2 l i x (by simpa using h) j hj
  have e1:(i + 1) * 5 + j=i * 5 + j + 5:=by omega
  rw [e1]
  exact this
theorem MsgsIn.own {W:World} {B:Nat} {v:Value} {l:List MsgC} (h:W.ownsRow B 121 2 v l.length (msgVals l)) (ho:∀ x∈l,MsgOk W x):∃ A cap,v = .slice A l.length cap∧l.length≤cap∧MsgsIn W A l:=by
 rcases h.2 with ⟨rfl,h0⟩ | ⟨g,cap,cur,rfl,hb,hg,hnc,_⟩
 ·rw [h0]
  exact ⟨none,0,rfl,Nat.le_refl _,fun hn=>by omega⟩
 ·refine ⟨_,cap,rfl,hnc,fun hn=>⟨g,0,rfl,(Array.getElem?_eq_some_iff.1 hg).1,fun i x hx=>?_⟩⟩
  have hi:i < l.length:=(List.getElem?_eq_some_iff.1 hx).1
  obtain ⟨h1,h2⟩:=zs1 l i x hx
  refine ⟨?_,?_,ho x (List.mem_of_getElem? hx)⟩
  ·rw [Nat.zero_add,World.ownsRow.cellAt h _ (by omega)]
   exact h1
  ·rw [Nat.zero_add,World.ownsRow.cellAt h _ (by omega)]
   exact h2
theorem RecsIn.own {W:World} {B:Nat} {v:Value} {l:List FrameP.Rec} (h:W.ownsRow B 137 5 v l.length (recsVals l)):∃ A cap,v = .slice A l.length cap∧l.length≤cap∧RecsIn W A l:=by
 rcases h.2 with ⟨rfl,h0⟩ | ⟨g,cap,cur,rfl,hb,hg,hnc,_⟩
 ·rw [h0]
  exact ⟨none,0,rfl,Nat.le_refl _,fun hn=>by omega⟩
 ·refine ⟨_,cap,rfl,hnc,fun hn=>⟨g,0,rfl,(Array.getElem?_eq_some_iff.1 hg).1,fun i x hx=>?_⟩⟩
  have hi:i < l.length:=(List.getElem?_eq_some_iff.1 hx).1
  have h1:=zp2 l i x hx
  refine ⟨?_,?_,?_,?_,?_⟩
  ·rw [Nat.zero_add,World.ownsRow.cellAt h _ (by omega)]
   exact h1 0 (by omega)
  ·rw [Nat.zero_add,World.ownsRow.cellAt h _ (by omega)]
   exact h1 1 (by omega)
  ·rw [Nat.zero_add,World.ownsRow.cellAt h _ (by omega)]
   exact h1 2 (by omega)
  ·rw [Nat.zero_add,World.ownsRow.cellAt h _ (by omega)]
   exact h1 3 (by omega)
  ·rw [Nat.zero_add,World.ownsRow.cellAt h _ (by omega)]
   exact h1 4 (by omega)
open Go.RowKit HeaP
set_option maxRecDepth 100000
structure Wch where
 says:Nat→Nat
 row:Nat
 last:Nat
def wchVals (x:Wch):List Value:=[.int .u8 (x.says 0:Nat),.int .u8 (x.says 1:Nat),.int .u8 (x.says 2:Nat),.int .u8 (x.says 3:Nat),.int .i64 (x.row:Nat),.int .u32 (x.last:Nat)]
theorem zk5 (x:Wch):(wchVals x).length=6:=rfl
theorem zA6 (x:Wch):∀ u∈wchVals x,u.oneCell'=true:=by
 intro u hu
 simp only [wchVals,List.mem_cons,List.not_mem_nil,or_false] at hu
 rcases hu with rfl | rfl | rfl | rfl | rfl | rfl<;>rfl
def wchOf (rec:List (List Nat)) (m:Mon) (p:Nat):Wch:=⟨recOf rec p,min (rowOf m p) 3,lastOf m p - 1⟩
def wchs (rec:List (List Nat)) (m:Mon):List Wch:=(List.range rec.length).map (wchOf rec m)
theorem zE0 (rec:List (List Nat)) (m:Mon):(wchs rec m).length=rec.length:=by simp [wchs]
theorem zo1 (rec:List (List Nat)) (m:Mon) (p:Nat):(wchs rec m)[p]? = if p < rec.length then some (wchOf rec m p) else none:=by
 unfold wchs
 rw [List.getElem?_map]
 by_cases h:p < rec.length
 ·rw [if_pos h,List.getElem?_range h];rfl
 ·rw [if_neg h,List.getElem?_eq_none (by simp;omega)];rfl
theorem wchs_at {rec:List (List Nat)} {m:Mon} {p:Nat} (h:p < rec.length):(wchs rec m)[p]? = some (wchOf rec m p):=by rw [zo1,if_pos h]
structure MonV (rec:List (List Nat)) (m:Mon):Prop where
 ok:MonOk rec.length m
 low:∀ p,lastOf m p≤1048576
 zero:∀ p,lastOf m p=0→rowOf m p=0
theorem zm1 (n p:Nat):lastOf (Mon.start n) p=0:=by
 show (List.replicate n 0)[p]?.getD 0=0
 by_cases h:p < n
 ·rw [List.getElem?_replicate];simp [h]
 ·rw [List.getElem?_eq_none (by simpa using h)];rfl
theorem zx1 (n p:Nat):rowOf (Mon.start n) p=0:=zm1 n p
theorem MonV.start (rec:List (List Nat)):MonV rec (Mon.start rec.length):=⟨MonOk.start _,fun p=>by rw [zm1];omega,fun p _=>zx1 _ p⟩
theorem MonV.next {rec:List (List Nat)} {m:Mon} (h:MonV rec m) (node:Nat) {r p k:Nat} (hr:r < 1048576):MonV rec (nextM rec node m r p k):=by
 refine ⟨h.ok.next rec node r p k,fun q=>?_,fun q hq=>?_⟩
 ·rw [zh8];split
  ·omega
  ·exact h.low q
 ·rw [zh8] at hq
  rw [zn8]
  by_cases hc:recOf rec p k=1∧q=p∧p < m.last.length
  ·rw [if_pos hc] at hq;omega
  ·rw [if_neg hc] at hq
   rw [if_neg (by rw [h.ok.row,← h.ok.last];exact hc)]
   exact h.zero q hq
theorem MonV.report {rec:List (List Nat)} {m:Mon} (h:MonV rec m) (node r:Nat) (part:Int) (k:Nat):MonV rec (reportT rec node m r part k).2:=by
 unfold reportT
 split
 ·exact h
 ·rename_i hb
  refine h.next node ?_
  unfold badB at hb
  rw [decide_eq_true_eq] at hb
  omega
theorem MonV.sealed {rec:List (List Nat)} {m:Mon} (h:MonV rec m):MonV rec (sealM m):=⟨h.ok.sealed,h.low,h.zero⟩
theorem zp3 {rec:List (List Nat)} {m m':Mon} (h1:m'.last=m.last) (h2:m'.row=m.row):wchs rec m'=wchs rec m:=by
 unfold wchs wchOf lastOf rowOf
 rw [h1,h2]
theorem wchs_no {rec:List (List Nat)} {m:Mon} {node r p k:Nat} (h:recOf rec p k≠1):wchs rec (nextM rec node m r p k)=wchs rec m:=by
 unfold nextM
 rw [if_neg h]
 exact zp3 rfl rfl
theorem wchs_yes {rec:List (List Nat)} {m:Mon} (hv:MonV rec m) {node r p k:Nat} (hp:p < rec.length) (h:recOf rec p k=1):wchs rec (nextM rec node m r p k)=(wchs rec m).set p ⟨recOf rec p,min (nextRow m p r) 3,r⟩:=by
 apply List.ext_getElem?
 intro q
 rw [zo1,List.getElem?_set,zE0,zo1]
 by_cases hq:q < rec.length
 ·rw [if_pos hq,if_pos hq]
  by_cases e:p=q
  ·subst e
   rw [if_pos rfl,if_pos hq]
   unfold wchOf
   rw [zh8,if_pos ⟨h,rfl,by rw [hv.ok.last];exact hp⟩,zn8,if_pos ⟨h,rfl,by rw [hv.ok.row];exact hp⟩]
   rfl
  ·rw [if_neg e]
   unfold wchOf
   rw [zh8,if_neg (fun x=>e x.2.1.symm),zn8,if_neg (fun x=>e x.2.1.symm)]
 ·rw [if_neg hq,if_neg hq]
  by_cases e:p=q
  ·subst e;exact absurd hp hq
  ·rw [if_neg e]
theorem zm2:∀ (ws:List Wch) (i:Nat) (x:Wch) (v l:Nat),ws[i]? = some x →
 itemsV wchVals (ws.set i ⟨x.says,v,l⟩)=((itemsV wchVals ws).set (i * 6 + 4) (.int .i64 (v:Nat))).set (i * 6 + 5) (.int .u32 (l:Nat))
 | [],_,_,_,_,h=>by simp at h
 | y :: ws,0,x,v,l,h=>by
  simp at h
  subst h
  simp [itemsV,wchVals]
 | y :: ws,i + 1,x,v,l,h=>by
  have h1:=zm2 ws i x v l (by simpa using h)
  have e1:itemsV wchVals ((y :: ws).set (i + 1) ⟨x.says,v,l⟩)=wchVals y ++ itemsV wchVals (ws.set i ⟨x.says,v,l⟩):=by simp [itemsV]
  have e2:itemsV wchVals (y :: ws)=wchVals y ++ itemsV wchVals ws:=by simp [itemsV]
  rw [e1,e2,h1]
  have hl:=zk5 y
  rw [List.set_append_right _ _ (by omega),List.set_append_right _ _ (by omega),hl]
  rw [show (i + 1) * 6 + 4 - 6=i * 6 + 4 by omega,show (i + 1) * 6 + 5 - 6=i * 6 + 5 by omega]
def setWch (w:World) (g o v l:Nat):World:=(w.setCell ⟨g,o + 4,none⟩ (.int .i64 (v:Nat))).setCell ⟨g,o + 5,none⟩ (.int .u32 (l:Nat))
theorem zn2 (w:World) (g o v l:Nat):Apart (fun k=>k=g) w (setWch w g o v l):=((Apart.refl (fun k=>k=g) w).setCell (p:=⟨g,o + 4,none⟩) (.inl rfl) _).setCell (p:=⟨g,o + 5,none⟩) (.inl rfl) _
theorem zG2 {w:World} {B g n cap:Nat} {ws:List Wch} (h:w.ownsRow B 149 6 (.slice (some ⟨g,0,none⟩) n cap) n (itemsV wchVals ws)) {i:Nat} {x:Wch} (hi:ws[i]? = some x) (v l:Nat) :
 (setWch w g (i * 6) v l).ownsRow B 149 6 (.slice (some ⟨g,0,none⟩) n cap) n (itemsV wchVals (ws.set i ⟨x.says,v,l⟩)):=by
 rw [zm2 ws i x v l hi]
 exact ((h.stored (i * 6 + 4) (.int .i64 (v:Nat))).1.stored (i * 6 + 5) (.int .u32 (l:Nat))).1
theorem zA7 {w:World} {B g n cap:Nat} {ws:List Wch} (h:w.ownsRow B 149 6 (.slice (some ⟨g,0,none⟩) n cap) n (itemsV wchVals ws)) {i:Nat} {x:Wch} (hi:ws[i]? = some x) (u:Value) (v l:Nat) :
 (setWch (w.setCell ⟨g,i * 6 + 4,none⟩ u) g (i * 6) v l).ownsRow B 149 6 (.slice (some ⟨g,0,none⟩) n cap) n (itemsV wchVals (ws.set i ⟨x.says,v,l⟩)):=by
 rw [zm2 ws i x v l hi]
 have h1:=(((h.stored (i * 6 + 4) u).1.stored (i * 6 + 4) (.int .i64 (v:Nat))).1.stored (i * 6 + 5) (.int .u32 (l:Nat))).1
 rw [List.set_set] at h1
 exact h1
theorem zp4 {w:World} {B g n cap:Nat} {ws:List Wch} (h:w.ownsRow B 149 6 (.slice (some ⟨g,0,none⟩) n cap) n (itemsV wchVals ws)) (hn:ws.length=n) {i:Nat} {x:Wch} (hi:ws[i]? = some x) {j:Nat} {u:Value} (hj:(wchVals x)[j]? = some u) :
 w.cell? ⟨g,i * 6 + j,none⟩=some u:=by
 have hil:i < n:=by have:=(List.getElem?_eq_some_iff.1 hi).1;omega
 have hjl:j < 6:=by have:=(List.getElem?_eq_some_iff.1 hj).1;rw [zk5] at this;exact this
 rw [h.cellAt _ (by omega),ze0 zk5 ws i x hi j hjl]
 exact hj
theorem zE1 {w:World} {B g n cap:Nat} {xs:List Value} (h:w.ownsRow B 149 6 (.slice (some ⟨g,0,none⟩) n cap) n xs) (j:Nat):w.frozen? ⟨g,j,none⟩=false:=by
 rcases h.2 with ⟨h',-⟩ | ⟨g',cap',cur,h',-,hg,-⟩
 ·simp at h'
 ·simp only [Value.slice.injEq,Option.some.injEq,Addr.mk.injEq,and_true,true_and] at h'
  obtain ⟨rfl,rfl⟩:=h'
  exact za2 hg j
def ActH (w:World) (B g n cap:Nat) (rec:List (List Nat)) (node:Nat) (m:Mon) (r p k:Nat) (e:Ending) (w':World):Prop:=
 e = .returned (.int .u8 (didT rec m r p k:Nat))∧w'.ownsRow B 149 6 (.slice (some ⟨g,0,none⟩) n cap) n (itemsV wchVals (wchs rec (nextM rec node m r p k)))∧Apart (fun q=>q=g) w w'
set_option maxHeartbeats 2000000 in
theorem hact_any (w:World) (B g n cap:Nat) (rec:List (List Nat)) (node:Nat) (m:Mon) (hv:MonV rec m) (hn:rec.length=n) (h:w.ownsRow B 149 6 (.slice (some ⟨g,0,none⟩) n cap) n (itemsV wchVals (wchs rec m)))
 (r p k:Nat) (hp:p < n) (hk:k≤3) :
 Calls Tryz.prog 76 #[.pointer (some ⟨g,p * 6,none⟩),.int .u32 (r:Nat),.int .u8 (k:Nat)] w (ActH w B g n cap rec node m r p k):=by
 have hwl:(wchs rec m).length=n:=by rw [zE0];exact hn
 have hat:(wchs rec m)[p]? = some (wchOf rec m p):=wchs_at (by omega)
 have kS:w.cell? ⟨g,p * 6 + k,none⟩=some (.int .u8 (recOf rec p k:Nat)):=by
  refine zp4 h hwl hat ?_
  have hc:k=0∨k=1∨k=2∨k=3:=by omega
  rcases hc with rfl | rfl | rfl | rfl<;>rfl
 by_cases h1:recOf rec p k=1
 case neg=>
  have hd:didT rec m r p k=recOf rec p k:=by unfold didT;rw [if_neg h1]
  have HF:Hid (ActH w B g n cap rec node m r p k (.returned (.int .u8 (recOf rec p k:Nat))) w):=Lib.hid ⟨by rw [hd],by rw [wchs_no h1];exact h,Apart.refl _ _⟩
  have hne:((recOf rec p k:Nat):Int) != 1:=by rw [bne_iff_ne];omega
  have hne2:(((recOf rec p k:Nat):Int) != 1)=true:=hne
  clear hd h h1 hne hat hv
  generalize recOf rec p k=a at *
  have hk4:(k:Int) < 4:=by omega
  go_enter Tryz.func76,Tryz.ntmps76
  go_wp2_with fail
  go_ret
  exact HF.out
 have kR:w.cell? ⟨g,p * 6 + 4,none⟩=some (.int .i64 (min (rowOf m p) 3:Nat)):=zp4 h hwl hat (j:=4) rfl
 have kL:w.cell? ⟨g,p * 6 + 5,none⟩=some (.int .u32 (lastOf m p - 1:Nat)):=zp4 h hwl hat (j:=5) rfl
 have f4:=zE1 h (p * 6 + 4)
 have f5:=zE1 h (p * 6 + 5)
 have hlow:=hv.low p
 have hz:=hv.zero p
 have hyes:=wchs_yes hv (node:=node) (r:=r) (k:=k) (by omega:p < rec.length) h1
 have hd:didT rec m r p k=if 3≤nextRow m p r then 2 else 1:=by unfold didT;rw [if_pos h1]
 have hs1:=fun v l=>zG2 h hat v l
 have hs2:=fun u v l=>zA7 h hat u v l
 have HF1:Hid (∀ d:Nat,didT rec m r p k=d→∀ v:Nat,min (nextRow m p r) 3=v→ActH w B g n cap rec node m r p k (.returned (.int .u8 (d:Nat))) (setWch w g (p * 6) v r)):=Lib.hid fun d e1 v e2=>⟨by rw [e1],by rw [hyes,e2];exact hs1 v r,zn2 w g (p * 6) v r⟩
 have HF2:Hid (∀ d:Nat,didT rec m r p k=d→∀ v:Nat,min (nextRow m p r) 3=v→ActH w B g n cap rec node m r p k (.returned (.int .u8 (d:Nat))) (setWch (w.setCell ⟨g,p * 6 + 4,none⟩ (.int .i64 0)) g (p * 6) v r)):=Lib.hid fun d e1 v e2=>⟨by rw [e1],by rw [hyes,e2];exact hs2 _ v r,((Apart.refl (fun q=>q=g) w).setCell (p:=⟨g,p * 6 + 4,none⟩) (.inl rfl) _).trans (zn2 _ g (p * 6) v r) (fun _ e=>.inl e)⟩
 rw [h1] at kS
 have hk4:(k:Int) < 4:=by omega
 have hu:IntKind.u32.wrap (((lastOf m p - 1:Nat):Int) + 1)=((lastOf m p - 1:Nat):Int) + 1:=by rw [IntKind.wrap_u32];omega
 unfold setWch at HF1 HF2
 clear hs1 hs2 hyes h hat
 by_cases hb:lastOf m p - 1 + 1 < r
 ·have hnr:nextRow m p r=1:=by
   unfold nextRow
   by_cases hc:0 < lastOf m p∧r≤lastOf m p
   ·omega
   ·rw [if_neg hc]
  have HFX:=Lib.hid (HF2.out 1 (by rw [hd,hnr];rfl) 1 (by rw [hnr];rfl))
  have hgt:decide (((lastOf m p - 1:Nat):Int) + 1 < (r:Int))=true:=decide_eq_true (by omega)
  clear HF1 HF2 hd hnr hz hlow hb hv
  generalize min (rowOf m p) 3=ro at *
  generalize lastOf m p - 1=la at *
  go_enter Tryz.func76,Tryz.ntmps76
  go_wp2_with fail
  go_ret
  exact HFX.out
 ·have hgt:decide (((lastOf m p - 1:Nat):Int) + 1 < (r:Int))=false:=decide_eq_false (by omega)
  have hrow:nextRow m p r=(if lastOf m p=0 then 1 else rowOf m p + 1):=by
   unfold nextRow
   by_cases hc:lastOf m p=0
   ·rw [if_pos hc,if_neg (by omega)]
   ·rw [if_neg hc,if_pos (by omega)]
  have hrow2:nextRow m p r=rowOf m p + 1:=by
   rw [hrow]
   by_cases hc:lastOf m p=0
   ·rw [if_pos hc,hz hc]
   ·rw [if_neg hc]
  rw [hrow2] at hd HF1
  clear HF2 hrow hrow2 hz hlow hb hv
  generalize lastOf m p - 1=la at *
  generalize rowOf m p=ro at *
  have hc:min ro 3=0∧ro=0∨min ro 3=1∧ro=1∨min ro 3=2∧ro=2∨min ro 3=3∧3≤ro:=by omega
  rcases hc with ⟨em,er⟩ | ⟨em,er⟩ | ⟨em,er⟩ | ⟨em,er⟩
  ·rw [em] at kR
   have HFX:=Lib.hid (HF1.out 1 (by rw [hd,if_neg (by omega)]) 1 (by omega))
   clear HF1 hd em er
   go_enter Tryz.func76,Tryz.ntmps76
   go_wp2_with fail
   go_ret
   exact HFX.out
  ·rw [em] at kR
   have HFX:=Lib.hid (HF1.out 1 (by rw [hd,if_neg (by omega)]) 2 (by omega))
   clear HF1 hd em er
   go_enter Tryz.func76,Tryz.ntmps76
   go_wp2_with fail
   go_ret
   exact HFX.out
  ·rw [em] at kR
   have HFX:=Lib.hid (HF1.out 2 (by rw [hd,if_pos (by omega)]) 3 (by omega))
   clear HF1 hd em er
   go_enter Tryz.func76,Tryz.ntmps76
   go_wp2_with fail
   go_ret
   exact HFX.out
  ·rw [em] at kR
   have HFX:=Lib.hid (HF1.out 2 (by rw [hd,if_pos (by omega)]) 3 (by omega))
   clear HF1 hd em er
   go_enter Tryz.func76,Tryz.ntmps76
   go_wp2_with fail
   go_ret
   exact HFX.out
end Go.Proofs.YtfgpfmhjnccccaaGreatDoor
