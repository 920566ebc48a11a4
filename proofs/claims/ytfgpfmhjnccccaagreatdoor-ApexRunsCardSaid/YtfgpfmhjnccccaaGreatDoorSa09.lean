import Derived.Lib.SliceRun
import Derived.Deep.RegionLaw
import Derived.Test.YtfgpfmhjnccccaaGreatDoorSa07
import Derived.Test.YtfgpfmhjnccccaaGreatDoorSa02
namespace Go.Proofs.YtfgpfmhjnccccaaGreatDoor
open Go.RowKit
set_option maxRecDepth 100000
theorem infoU12:(Tryz.prog.info? 5).map (fun i=>(i.zero,i.size,i.bytes))=some (some (.int .u8 0),1,1):=by kernel_rfl
def BCloneP (l:List UInt8) (w:World) (e:Ending) (w':World):Prop:=∃ A c,e = .returned (.slice A l.length c)∧w'.ownsRow w.heap.size 5 1 (.slice A l.length c) l.length (bytesV l)∧Below w.heap.size w w'
theorem zj2 (A:Option Addr) (n cap:Nat) (l:List UInt8) (hl:l.length=n) (hn:n≤140737488355328) (w:World) (h:Bytes w w.heap.size A l) :
 Calls Tryz.prog 57 #[.slice A n cap] w (BCloneP l w):=by
 have Hb:=Lib.hid h
 have Hl:=Lib.hid hl
 have HO:=Lib.hid (zG7 w w.heap.size w.heap.size 1 5 rfl (Nat.le_refl _))
 have HB1:=Lib.hid (fun o=>(Below.refl w.heap.size w).alloc (Nat.le_refl _) o)
 have kn:=fun W=>Lib.run_eql_slice_nil (P:=Tryz.prog) W 89 5 A n cap 0 0 Tryz.underlying89
 cases A with
 | none=>
  have h0:l=[]:=by
   rcases Nat.eq_zero_or_pos l.length with h0 | h0
   ·exact List.eq_nil_of_length_eq_zero h0
   ·obtain ⟨_,_,h,_⟩:=h h0
    cases h
  subst h0
  simp only [Option.isNone_none] at kn
  have HF:Hid (BCloneP [] w (.returned (.slice none 0 0)) w):=Lib.hid ⟨none,0,rfl,⟨rfl,.inl ⟨rfl,rfl⟩⟩,Below.refl _ _⟩
  clear h hl HB1 HO Hb
  go_enter Tryz.func57,Tryz.ntmps57
  go_wp2_with fail
  go_ret
  exact HF.out
 | some ad=>
  simp only [Option.isNone_some] at kn
  clear h hl
  go_enter Tryz.func57,Tryz.ntmps57
  go_wp2_with (at_builtin
               refine zo8 rfl (.tmp 5) (.tmp 6) _ rfl w.heap.size 5 (.int .u8 0) Tryz.underlying89 infoU12 rfl _ (some w.heap.size) [] rfl ⟨rfl,HO.out⟩ w.heap.size (some ad) n cap l rfl Hl.out (Hb.out.below (HB1.out _) (Nat.le_refl _)) (by simp;omega) (by simp) ?_
               intro v1 w1 g1 h1 h2 h3
               have h4:w1.ownsRow w.heap.size 5 1 v1 l.length (bytesV l):=by simpa using h1.2
               obtain ⟨A1,c1,rfl,-⟩:=za6 h4
               have HF:Hid (BCloneP l w (.returned (.slice A1 l.length c1)) w1):=Lib.hid ⟨A1,c1,rfl,h4,((HB1.out _).trans (h3.below (by simp) (fun k e=>by simp only [Option.some.injEq] at e;omega)))⟩
               clear h1 h2 h3 h4)
  go_ret
  exact HF.out
structure OwnMsg (W:World) (B:Nat) (y:MsgC):Prop where
 row:W.ownsRow B 5 1 (.slice y.A y.m y.cap) y.m (bytesV y.data)
 most:y.m≤140737488355328
 ports:-9223372036854775808≤y.port∧y.port≤9223372036854775807
theorem OwnMsg.ok {W:World} {B:Nat} {y:MsgC} (h:OwnMsg W B y):MsgOk W y∧(0 < y.data.length→∀ k,blockOf y.A=some k→B≤k):=by
 obtain ⟨A,cap,e,h1,h2,h3,h4⟩:=zh9 h.row
 injection e with e1 e2 e3
 rw [← e1] at h3 h4
 refine ⟨⟨h1,by rw [e3];exact h2,h.most,h3,h.ports⟩,fun hn k hk=>?_⟩
 rcases h4 with h4 | ⟨g,h4,h5⟩
 ·rw [h4] at hk;cases hk
 ·rw [h4] at hk;obtain rfl:g=k:=Option.some.inj hk;exact h5
theorem OwnMsg.apart {W W':World} {B:Nat} {y:MsgC} {F:Nat→Prop} (h:OwnMsg W B y) (ha:Apart F W W') (hF:∀ k,(Value.slice y.A y.m y.cap).ownBlock=some k→¬ F k):OwnMsg W' B y:=⟨za3 h.row ha hF,h.most,h.ports⟩
open Go.RowKit
set_option maxRecDepth 100000
theorem infoBs9:(Tryz.prog.info? 89).map (fun i=>(i.zero,i.size,i.bytes))=some (some (.slice none 0 0),1,24):=by kernel_rfl
def DelP (B g m cap:Nat) (es:List Value) (w:World) (e:Ending) (w':World):Prop:=
 e = .returned (.slice (some ⟨g,0,none⟩) m cap)∧w'.ownsRow B 89 1 (.slice (some ⟨g,0,none⟩) m cap) m (es.drop 1)∧Apart (fun k=>k=g) w w'
set_option maxHeartbeats 1000000 in
theorem del_any (w:World) (B g m cap:Nat) (es:List Value) (ho:w.ownsRow B 89 1 (.slice (some ⟨g,0,none⟩) (m + 1) cap) (m + 1) es) (h1:∀ u∈es,u.oneCell'=true) :
 Calls Tryz.prog 119 #[.slice (some ⟨g,0,none⟩) ((m + 1:Nat)) cap,.int .i64 0,.int .i64 1] w (DelP B g m cap es w):=by
 obtain ⟨hlen,hrow⟩:=ho
 rw [Nat.mul_one] at hlen
 rcases hrow with ⟨h,-⟩ | ⟨g',cap',cur,h,hB,hg,hnc,hmax,hcap,htk⟩
 ·cases h
 cases h
 rw [Nat.mul_one] at hcap htk
 have hcur:∀ j,j < m + 1→cur[j]? = es[j]?:=fun j hj=>by
  rw [← htk,List.getElem?_take,if_pos hj];simp
 have hg0:w.drew.heap[g]? = some (.cells cur 89 (0,0)):=hg
 obtain ⟨cur1,e1,e2,e3,e4⟩:=ze5 (es.drop 1) 0 w.drew cur hg0 (by rw [List.length_drop];omega)
 obtain ⟨W1,hW1⟩:∃ W1,W1=w.drew.setCells g 0 (es.drop 1):=⟨_,rfl⟩
 rw [← hW1] at e1
 obtain ⟨cur2,k1,k2,k3,k4⟩:=ze5 [.slice none 0 0] m W1 cur1 e1 (by simp;omega)
 have hcl:∀ ty,(Builtin.clear_ #[128] ty #[.slice (some ⟨g,m,none⟩) 1 (cap - m)]).run Tryz.prog W1 = .ok (.tuple #[]) (W1.setCells g m [.slice none 0 0]):=fun ty=>
  Lib.run_clear_slice W1 128 89 ty (.slice none 0 0) Tryz.underlying128 (fun w=>by kernel_rfl) rfl rfl g m 1 (cap - m) (by omega)
   (fun j hj=>by rw [cell_of_row W1 g _ cur1 _ (0,0) e1,Array.getElem?_eq_getElem (by omega)];rfl) (fun j hj=>frozen_of_row W1 g _ cur1 _ e1)
 have HF:Hid (DelP B g m cap es w (.returned (.slice (some ⟨g,0,none⟩) m cap)) (W1.setCells g m [.slice none 0 0])):=Lib.hid (by
  refine ⟨rfl,⟨by rw [List.length_drop,hlen];omega,.inr ⟨g,cap,cur2,rfl,hB,k1,by omega,hmax,by omega,?_⟩⟩,?_⟩
  ·apply List.ext_getElem?
   intro j
   rw [Nat.mul_one,List.getElem?_take]
   by_cases hj:j < m
   ·rw [if_pos hj]
    have hjd:j < (es.drop 1).length:=by rw [List.length_drop];omega
    have q1:=k4 j (.inl hj)
    have q2:=e3 j _ (List.getElem?_eq_getElem hjd)
    rw [Nat.zero_add] at q2
    rw [List.getElem?_eq_getElem hjd,← q2,← q1]
    simp
   ·rw [if_neg hj,List.getElem?_eq_none (by rw [List.length_drop];omega)]
  ·have a0:Apart (fun k=>k=g) w w.drew:=(Apart.refl _ w).drew
   have a1:=zd6 g (es.drop 1) 0 w.drew
   rw [← hW1] at a1
   exact (a0.trans a1 (fun _ h=>.inl h)).trans (zd6 g _ m W1) (fun _ h=>.inl h))
 obtain ⟨i0,hi0,hi1⟩:∃ i,Tryz.prog.info? 89=some i∧i.size=1:=by
  obtain ⟨i,h1,-,h2,-⟩:=info_parts infoBs9
  exact ⟨i,h1,h2⟩
 have hA:∃ ad:Addr,(if cap=1 then (⟨g,0,none⟩:Addr) else ⟨g,1,none⟩)=ad∧Hid (∀ j u,(es.drop 1)[j]? = some u→w.drew.cell? (ad.add j)=some u):=by
  by_cases hc1:cap=1
  ·refine ⟨_,if_pos hc1,Lib.hid fun j u hj=>?_⟩
   have:=(List.getElem?_eq_some_iff.1 hj).1
   rw [List.length_drop] at this
   omega
  ·refine ⟨_,if_neg hc1,Lib.hid fun j u hj=>?_⟩
   have hj2:=(List.getElem?_eq_some_iff.1 hj).1
   rw [List.length_drop] at hj2
   rw [List.getElem?_drop] at hj
   rw [zc4]
   exact za0 hg0 _ (by rw [hcur (1 + j) (by omega)];exact hj)
 obtain ⟨ad,had,hcells⟩:=hA
 have hfr:=fun W=>zo9 (P:=Tryz.prog) W 128 89 1 Tryz.underlying128 (fun w=>by kernel_rfl) (some ⟨g,0,none⟩) (m + 1) cap 0 0 rfl (Nat.zero_le _)
 have hto:=fun W=>zi0 (P:=Tryz.prog) W 128 89 1 Tryz.underlying128 (fun w=>by kernel_rfl) g 0 (m + 1) cap 1 1 rfl (by omega)
 have hnews:Hid ((es.drop 1).length=m * 1):=Lib.hid (by rw [List.length_drop,hlen];omega)
 have hone:Hid (∀ u∈es.drop 1,u.oneCell'=true):=Lib.hid fun u hu=>h1 u (List.mem_of_mem_drop hu)
 have hsp:Hid (∀ j,j < (es.drop 1).length→(w.drew.cell? ⟨g,0 + 0 * 1 + j,none⟩).isSome=true∧w.drew.frozen? ⟨g,0 + 0 * 1 + j,none⟩=false):=Lib.hid fun j hj=>by
  rw [List.length_drop] at hj
  refine ⟨?_,frozen_of_row w.drew g _ cur _ hg0⟩
  rw [cell_of_row w.drew g _ cur _ (0,0) hg0,Array.getElem?_eq_getElem (by omega)];rfl
 have HW:=Lib.hid hW1
 clear hW1 k1 k2 k3 k4 e1 e2 e3 e4 hcur hg0 hg htk hcap hlen h1 hB
 go_enter Tryz.func119,Tryz.ntmps119
 go_wp2_with fail
 refine wp_region_held_drew (S:=fun _=>True) (by kernel_rfl) trivial (fun _=>?_)
 refine tK 0 trivial ?_
 try simp only [Act.put,tkT,tk0,tkS]
 refine tK 1 trivial ?_
 try simp only [Act.put,tkT,tk0,tkS]
 refine tK 2 trivial ?_
 try simp only [Act.put,tkT,tk0,tkS]
 refine tK 3 trivial ?_
 try simp only [Act.put,tkT,tk0,tkS]
 refine tK 4 trivial ?_
 try simp only [Act.put,tkT,tk0,tkS]
 refine tK 5 trivial ?_
 try simp only [Act.put,tkT,tk0,tkS]
 refine clH 6 (by kernel_rfl) (by simp only [tkA,tkG];rfl) (fun K hK=>?_)
 refine step_append_room rfl (.tmp 22) (.tmp 25) 128 rfl 89 i0 1 Tryz.underlying128 hi0 hi1 g 0 0 cap (by simp [Act.eval]) ad m (cap - 1) (es.drop 1) (by simp [Act.eval]) hnews.out hcells.out hone.out (by omega) hsp.out ?_
 rw [Nat.zero_add,Nat.zero_mul,← HW.out]
 go_wp2_with fail
 refine hK.out _ _ trivial (fun _=>?_)
 clear hK K
 refine clH 7 (by kernel_rfl) (by simp only [tkA,tkG];rfl) (fun K hK=>?_)
 go_simp
 go_wp2_with fail
 refine hK.out _ _ trivial (fun _=>?_)
 clear hK K
 refine wpAnyH_done (by kernel_rfl) ?_ _
 have hmid:=fun W=>zt7 (P:=Tryz.prog) W 128 89 Tryz.underlying128 (fun w=>by kernel_rfl) g 0 m cap (m:Int) ((m:Int) + 1) m 1 rfl (by omega) (by omega) (by omega)
 simp only [Nat.zero_add] at hmid
 go_wp2_with fail
 go_ret
 exact HF.out
end Go.Proofs.YtfgpfmhjnccccaaGreatDoor
