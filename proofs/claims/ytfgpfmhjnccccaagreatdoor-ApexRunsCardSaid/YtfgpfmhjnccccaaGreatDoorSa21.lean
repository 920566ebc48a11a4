import Derived.Deep.OwnRows
import Derived.Deep.CutRange
import Derived.BigQuiet
import Derived.Test.YtfgpfmhjnccccaaGreatDoorSa08
import Derived.Test.YtfgpfmhjnccccaaGreatDoorSa19
import Derived.Test.YtfgpfmhjnccccaaGreatDoorSa04
namespace Go.Proofs.YtfgpfmhjnccccaaGreatDoor
open Go.RowKit HeaP
set_option maxRecDepth 100000
def nV (l:List Nat):List Value:=l.map fun x=>.int .i64 (x:Nat)
theorem zE9 (l:List Nat):(nV l).length=l.length:=List.length_map _
theorem zs6 (l:List Nat) (p x:Nat):nV (l.set p x)=(nV l).set p (.int .i64 (x:Nat)):=by unfold nV;rw [List.map_set]
theorem nV_get {l:List Nat} {p:Nat} (h:p < l.length):(nV l)[p]? = some (.int .i64 (l[p]?.getD 0:Nat)):=by
 unfold nV
 rw [List.getElem?_map,List.getElem?_eq_getElem h]
 rfl
def PsIn (w:World) (B:Nat) (vs:Value) (parts:List TableP.Part):Prop:=∃ A cap,vs = .slice A parts.length cap∧ItemsIn partVals 9 w A parts∧∀ k,0 < parts.length→blockOf A=some k→k < B∨∃ cs,w.heap[k]? = some (.cells cs 66 (0,0))
theorem PsIn.apart {w w':World} {B:Nat} {vs:Value} {parts:List TableP.Part} {F:Nat→Prop} (h:PsIn w B vs parts) (ha:Apart F w w') (hF:∀ k,F k→B≤k∧∀ cs,w.heap[k]?≠some (.cells cs 66 (0,0))):PsIn w' B vs parts:=by
 obtain ⟨A,cap,rfl,h1,h2⟩:=h
 have hno:0 < parts.length→∀ k,blockOf A=some k→¬ F k:=fun hl k hk hf=>by
  obtain ⟨e1,e2⟩:=hF k hf
  rcases h2 k hl hk with e | ⟨cs,e⟩
  ·omega
  ·exact e2 cs e
 refine ⟨A,cap,rfl,h1.apart ha hno,fun k hl hk=>?_⟩
 rcases h2 k hl hk with e | ⟨cs,e⟩
 ·exact .inl e
 ·exact .inr ⟨cs,(ha.block k (lt_of_block e) (hno hl k hk)).trans e⟩
theorem zf3 {w:World} {k:Nat} {cs:Array Value} {t:TypeId} (h:w.heap[k]? = some (.cells cs t (0,0))) (ht:t≠66):∀ cs,w.heap[k]?≠some (.cells cs 66 (0,0)):=fun cs' e=>by
 rw [h] at e
 simp only [Option.some.injEq,Obj.cells.injEq] at e
 exact ht e.2.1
structure RMem (w:World) (B r node:Nat) (vs vl vw vo:Value) (parts:List TableP.Part) (m:Mon):Prop where
 hd:w.heap[r]? = some (.cells #[.int .i64 (node:Nat),vs,vl,vw,vo] 105 (0,0))
 ps:PsIn w B vs parts
 last:w.ownsRow B 3 1 vl parts.length (nV m.last)
 row:w.ownsRow B 3 1 vw parts.length (nV m.row)
 lw:∀ k,vl.ownBlock=some k→vw.ownBlock≠some k
 out:w.ownsRow B 137 5 vo m.out.length (recsVals m.out)
 base:B≤r
def RFd (r:Nat) (vl vw vo:Value) (k:Nat):Prop:=k=r∨vl.ownBlock=some k∨vw.ownBlock=some k∨vo.ownBlock=some k
theorem RMem.apart {w w':World} {B r node:Nat} {vs vl vw vo:Value} {parts:List TableP.Part} {m:Mon} {F:Nat→Prop} (h:RMem w B r node vs vl vw vo parts m) (ha:Apart F w w') (h1:∀ k,RFd r vl vw vo k→¬ F k) (h2:∀ k,F k→B≤k∧∀ cs,w.heap[k]?≠some (.cells cs 66 (0,0))):RMem w' B r node vs vl vw vo parts m:=
 ⟨(ha.block r (lt_of_block h.hd) (h1 r (.inl rfl))).trans h.hd,h.ps.apart ha h2,za3 h.last ha fun k hk=>h1 k (.inr (.inl hk)),za3 h.row ha fun k hk=>h1 k (.inr (.inr (.inl hk))),h.lw,za3 h.out ha fun k hk=>h1 k (.inr (.inr (.inr hk))),h.base⟩
theorem RMem.keep {w w':World} {B r node:Nat} {vs vl vw vo:Value} {parts:List TableP.Part} {m:Mon} (h:RMem w B r node vs vl vw vo parts m) (hb:Below w.heap.size w w'):RMem w' B r node vs vl vw vo parts m:=h.apart (F:=fun _=>False) (Apart.of_below' hb) (fun _ _ h=>h) (fun _ h=>h.elim)
theorem RMem.lt {w:World} {B r node:Nat} {vs vl vw vo:Value} {parts:List TableP.Part} {m:Mon} (h:RMem w B r node vs vl vw vo parts m) {k:Nat} (hk:RFd r vl vw vo k):B≤k∧k < w.heap.size:=by
 rcases hk with rfl | hk | hk | hk
 ·exact ⟨h.base,lt_of_block h.hd⟩
 ·exact (Seg.of_own h.last).lt k hk
 ·exact (Seg.of_own h.row).lt k hk
 ·exact (Seg.of_own h.out).lt k hk
theorem RMem.off {w:World} {B r node:Nat} {vs vl vw vo:Value} {parts:List TableP.Part} {m:Mon} (h:RMem w B r node vs vl vw vo parts m) {k:Nat} (hk:RFd r vl vw vo k):B≤k∧∀ cs,w.heap[k]?≠some (.cells cs 66 (0,0)):=by
 refine ⟨(h.lt hk).1,?_⟩
 rcases hk with rfl | hk | hk | hk
 ·exact zf3 h.hd (by decide)
 ·obtain ⟨cs,e⟩:=(Seg.of_own h.last).block k hk
  exact zf3 e (by decide)
 ·obtain ⟨cs,e⟩:=(Seg.of_own h.row).block k hk
  exact zf3 e (by decide)
 ·obtain ⟨cs,e⟩:=(Seg.of_own h.out).block k hk
  exact zf3 e (by decide)
theorem zz1 {w:World} {B n:Nat} (hB:B≤w.heap.size) (hn:n≤maxLen):(w.alloc (.cells (madeCells #[.int .i64 0] n) 3)).ownsRow B 3 1 (.slice (some ⟨w.heap.size,0,none⟩) n n) n (nV (List.replicate n 0)):=by
 have h1:=World.ownsRow_lit (e:=3) (size:=1) (base:=B) w (madeCells #[.int .i64 0] n) n hB hn (by have:=congrArg List.length (toList_madeCells_one (.int .i64 0) n);simpa using this)
 rw [toList_madeCells_one] at h1
 have e1:nV (List.replicate n 0)=List.replicate n (.int .i64 0):=by simp [nV]
 rw [e1]
 exact h1
def WatH (w:World) (B node:Nat) (vs:Value) (parts:List TableP.Part) (e:Ending) (w':World):Prop:=
 ∃ r vl vw,e = .returned (.pointer (some ⟨r,0,none⟩))∧RMem w' B r node vs vl vw (.slice none 0 0) parts (Mon.start parts.length)∧w.heap.size≤r∧(∀ k,RFd r vl vw (.slice none 0 0) k→w.heap.size≤k)∧Below w.heap.size w w'
theorem wat_two {w W W':World} {B node n g1 g2:Nat} {vs:Value} {parts:List TableP.Part} (hn:parts.length=n) (hps:PsIn w B vs parts) (hB:B≤w.heap.size) (hW:Below w.heap.size w W)
 (o1:W.ownsRow w.heap.size 3 1 (.slice (some ⟨g1,0,none⟩) n n) n (nV (List.replicate n 0))) (o2:W.ownsRow w.heap.size 3 1 (.slice (some ⟨g2,0,none⟩) n n) n (nV (List.replicate n 0))) (hne:g1≠g2) (hW':W'=W.alloc (.cells #[.int .i64 (node:Nat),vs,.slice (some ⟨g1,0,none⟩) n n,.slice (some ⟨g2,0,none⟩) n n,.slice none 0 0] 105)) :
 WatH w B node vs parts (.returned (.pointer (some ⟨W.heap.size,0,none⟩))) W':=by
 subst hW'
 have hb:Below W.heap.size W (W.alloc (.cells #[.int .i64 (node:Nat),vs,.slice (some ⟨g1,0,none⟩) n n,.slice (some ⟨g2,0,none⟩) n n,.slice none 0 0] 105)):=(Below.refl _ _).alloc (Nat.le_refl _) _
 have hmono:∀ {v:Value},W.ownsRow w.heap.size 3 1 v n (nV (List.replicate n 0))→W.ownsRow B 3 1 v n (nV (List.replicate n 0)):=fun {v} h=>by
  refine ⟨h.1,?_⟩
  rcases h.2 with h2 | ⟨g,c,cur,e,hg,rest⟩
  ·exact .inl h2
  ·exact .inr ⟨g,c,cur,e,Nat.le_trans hB hg,rest⟩
 have e0:(Mon.start parts.length).last=List.replicate n 0:=by unfold Mon.start;rw [hn]
 have e1:(Mon.start parts.length).row=List.replicate n 0:=by unfold Mon.start;rw [hn]
 refine ⟨_,_,_,rfl,⟨heap_alloc_new W _,hps.apart (Apart.of_below' (F:=fun _=>False) (hW.trans (hb.mono hW.size))) (fun _ h=>h.elim),?_,?_,?_,World.ownsRow_nil _ _ _ _,Nat.le_trans hB hW.size⟩,hW.size,?_,hW.trans (hb.mono hW.size)⟩
 ·rw [e0,hn];exact za3 (hmono o1) (Apart.of_below' (F:=fun _=>False) hb) (fun _ _ h=>h)
 ·rw [e1,hn];exact za3 (hmono o2) (Apart.of_below' (F:=fun _=>False) hb) (fun _ _ h=>h)
 ·intro k hk hk2
  have a:g1=k:=Option.some.inj hk
  have b:g2=k:=Option.some.inj hk2
  omega
 ·intro k hk
  rcases hk with rfl | hk | hk | hk
  ·exact hW.size
  ·exact ((Seg.of_own o1).lt k hk).1
  ·exact ((Seg.of_own o2).lt k hk).1
  ·cases hk
set_option maxHeartbeats 2000000 in
theorem zJ6 (w:World) (B node:Nat) (A:Option Addr) (n cap:Nat) (parts:List TableP.Part) (hl:parts.length=n) (hn:n≤255) (hB:B≤w.heap.size) (hps:PsIn w B (.slice A n cap) parts) :
 Calls Tryz.prog 8 #[.int .i64 (node:Nat),.slice A n cap] w (WatH w B node (.slice A n cap) parts):=by
 have hd0:Below w.heap.size w w.drew:=(Below.refl _ _).drew
 have o1:=zz1 (w:=w.drew) (B:=w.heap.size) (n:=n) (Nat.le_refl _) (by unfold maxLen;omega)
 have hm1:=hd0.alloc hd0.size (.cells (madeCells #[.int .i64 0] n) 3)
 have o2:=zz1 (w:=w.drew.alloc (.cells (madeCells #[.int .i64 0] n) 3)) (B:=w.heap.size) (n:=n) hm1.size (by unfold maxLen;omega)
 have o1':=za3 o1 (Apart.of_below' (F:=fun _=>False) ((Below.refl _ (w.drew.alloc (.cells (madeCells #[.int .i64 0] n) 3))).alloc (Nat.le_refl _) (.cells (madeCells #[.int .i64 0] n) 3))) (fun _ _ h=>h)
 have hm2:=hm1.alloc hm1.size (.cells (madeCells #[.int .i64 0] n) 3)
 have HA:=Lib.hid (fun W' hW'=>wat_two (W':=W') (node:=node) hl hps hB hm2 o1' o2 (by simp) hW')
 have HB:=Lib.hid (fun W' hW'=>wat_two (W':=W') (node:=node) hl hps hB hm2 o2 o1' (by simp) hW')
 have hmk:∀ W,(Instr.makeSlice 103 (.int .i64 (n:Int)) (.int .i64 (n:Int))).run Tryz.prog W = .ok (.slice (some ⟨W.heap.size,0,none⟩) n n) (W.alloc (.cells (madeCells #[.int .i64 0] n) 3)):=fun W=>run_make_row' (P:=Tryz.prog) 103 3 (.int .i64 0) 8 Tryz.underlying103 infoInt rfl .i64 .i64 n (by omega) (by omega) W
 clear o1 o2 o1' hps
 go_enter Tryz.func8,Tryz.ntmps8
 go_wp2_with fail
 refine wp_region_held_drew (S:=fun W=>Below w.heap.size w W) (by kernel_rfl) hd0 (fun _=>?_)
 refine tK 0 hd0 ?_
 try simp only [Act.put,tkT,tk0,tkS]
 refine tK 1 hd0 ?_
 try simp only [Act.put,tkT,tk0,tkS]
 refine tK 2 hd0 ?_
 try simp only [Act.put,tkT,tk0,tkS]
 refine tK 3 hd0 ?_
 try simp only [Act.put,tkT,tk0,tkS]
 refine tK 5 hd0 ?_
 try simp only [Act.put,tkT,tk0,tkS]
 refine tK 6 hd0 ?_
 try simp only [Act.put,tkT,tk0,tkS]
 refine wpAnyH_ready (rs:=[4,7]) (by kernel_rfl) (by simp) (AllReadyH.cons (by simp only [tkA,tkG];rfl) (fun K hK=>?_) (AllReadyH.cons (by simp only [tkA,tkG];rfl) (fun K hK=>?_) AllReadyH.nil))
 ·go_simp
  go_wp2_with fail
  refine hK.out _ _ hm1 (fun _=>?_)
  clear hK K
  refine clH 7 (by kernel_rfl) (by simp only [tkA,tkG];rfl) (fun K hK=>?_)
  go_simp
  go_wp2_with fail
  refine hK.out _ _ hm2 (fun _=>?_)
  clear hK K
  refine tK 8 hm2 ?_
  try simp only [Act.put,tkT,tk0,tkS]
  refine clH 9 (by kernel_rfl) (by simp only [tkA,tkG];rfl) (fun K hK=>?_)
  go_simp
  have hm3:=hm2.alloc hm2.size (.cells #[.int .i64 (node:Nat),.slice A n cap,.slice (some ⟨w.heap.size,0,none⟩) n n,.slice (some ⟨w.heap.size + 1,0,none⟩) n n,.slice none 0 0] 105)
  go_wp2_with fail
  refine hK.out _ _ hm3 (fun _=>?_)
  clear hK K
  refine tK 10 hm3 ?_
  try simp only [Act.put,tkT,tk0,tkS]
  refine wpAnyH_done (by kernel_rfl) ?_ _
  go_wp2_with fail
  go_ret
  have h:=HA.out _ rfl
  simp at h
  exact h
 ·go_simp
  go_wp2_with fail
  refine hK.out _ _ hm1 (fun _=>?_)
  clear hK K
  refine clH 4 (by kernel_rfl) (by simp only [tkA,tkG];rfl) (fun K hK=>?_)
  go_simp
  go_wp2_with fail
  refine hK.out _ _ hm2 (fun _=>?_)
  clear hK K
  refine tK 8 hm2 ?_
  try simp only [Act.put,tkT,tk0,tkS]
  refine clH 9 (by kernel_rfl) (by simp only [tkA,tkG];rfl) (fun K hK=>?_)
  go_simp
  have hm3:=hm2.alloc hm2.size (.cells #[.int .i64 (node:Nat),.slice A n cap,.slice (some ⟨w.heap.size + 1,0,none⟩) n n,.slice (some ⟨w.heap.size,0,none⟩) n n,.slice none 0 0] 105)
  go_wp2_with fail
  refine hK.out _ _ hm3 (fun _=>?_)
  clear hK K
  refine tK 10 hm3 ?_
  try simp only [Act.put,tkT,tk0,tkS]
  refine wpAnyH_done (by kernel_rfl) ?_ _
  go_wp2_with fail
  go_ret
  have h:=HB.out _ rfl
  simp at h
  exact h
def RSealH (w:World) (B r node:Nat) (vs vl vw vo:Value) (parts:List TableP.Part) (m:Mon) (e:Ending) (w':World):Prop:=
 e = .returned vo∧w'.ownsRow B 137 5 vo m.out.length (recsVals m.out)∧RMem w' B r node vs vl vw (.slice none 0 0) parts (sealM m)∧Apart (fun k=>k=r) w w'
theorem zC6 (w:World) (B r node:Nat) (vs vl vw vo:Value) (parts:List TableP.Part) (m:Mon) (h:RMem w B r node vs vl vw vo parts m) :
 Calls Tryz.prog 23 #[.pointer (some ⟨r,0,none⟩)] w (RSealH w B r node vs vl vw vo parts m):=by
 obtain ⟨A,cap,hvr,-⟩:=za6 h.out
 have a1:Apart (fun k=>k=r) w (w.setCell ⟨r,4,none⟩ (.slice none 0 0)):=(Apart.refl (fun k=>k=r) w).setCell (p:=⟨r,4,none⟩) (.inl rfl) _
 have HF:Hid (RSealH w B r node vs vl vw vo parts m (.returned vo) (w.setCell ⟨r,4,none⟩ (.slice none 0 0))):=Lib.hid ⟨rfl,za3 h.out a1 (fun k hk e=>zb2 h.out h.hd (by decide) k hk e),⟨heap_setCell_same w r 4 _ _ _ h.hd,h.ps.apart a1 (fun k e=>by subst e;exact h.off (.inl rfl)),za3 h.last a1 (fun k hk e=>zb2 h.last h.hd (by decide) k hk e),za3 h.row a1 (fun k hk e=>zb2 h.row h.hd (by decide) k hk e),h.lw,World.ownsRow_nil _ _ _ _,h.base⟩,a1⟩
 have k2:w.cell? ⟨r,4,none⟩=some vo:=za0 h.hd 4 rfl
 have f2:=za2 h.hd 4
 subst hvr
 clear h a1
 go_enter Tryz.func23,Tryz.ntmps23
 go_wp2_with fail
 go_ret
 exact HF.out
open Go.RowKit HeaP
set_option maxRecDepth 100000
def txt15 (c:Nat):List UInt8:=if c=0 then [] else numN c
def RRepH (w:World) (B r node:Nat) (vs vl vw vo:Value) (parts:List TableP.Part) (m:Mon) (rd:Nat) (part:Int) (k:Nat) (e:Ending) (w':World):Prop:=
 e = .returned (.tuple #[.int .u8 ((reportT (parts.map sayOf) node m rd part k).1.1:Nat),strV (txt15 (reportT (parts.map sayOf) node m rd part k).1.2)]) ∧
 ∃ vo',RMem w' B r node vs vl vw vo' parts (reportT (parts.map sayOf) node m rd part k).2∧Apart (RFd r vl vw vo) w w'∧(vo'.ownBlock=vo.ownBlock∨∃ q,vo'.ownBlock=some q∧w.heap.size≤q)
theorem zC7 (w:World) (B r node:Nat) (vs vl vw vo:Value) (parts:List TableP.Part) (m:Mon) (h:RMem w B r node vs vl vw vo parts m) (rd:Nat) (part:Int) (k:Nat) (hb:part < 0∨(parts.length:Int)≤part∨3 < k∨1048576≤rd) :
 Calls Tryz.prog 37 #[.pointer (some ⟨r,0,none⟩),.int .u32 (rd:Nat),.int .i64 part,.int .i64 (k:Nat)] w (RRepH w B r node vs vl vw vo parts m rd part k):=by
 have hrep:=zr4 (recover:=parts.map sayOf) (node:=node) (m:=m) (r:=rd) (part:=part) (k:=k) (by rw [List.length_map];exact hb)
 have HF:Hid (∀ W,Below w.heap.size w W→RRepH w B r node vs vl vw vo parts m rd part k (.returned (.tuple #[.int .u8 0,strV (numN 2)])) W):=Lib.hid fun W hW=>by
  unfold RRepH
  rw [hrep]
  refine ⟨?_,vo,h.keep hW,Apart.of_below' hW,.inl rfl⟩
  show _=Ending.returned (.tuple #[.int .u8 0,strV (txt15 2)])
  rw [show txt15 2=numN 2 from if_neg (by decide)]
 have HE:=Lib.hid (fun W=>e_any 2 W (by omega))
 obtain ⟨A,cap,rfl,-,-⟩:=h.ps
 have k1:w.cell? ⟨r,1,none⟩=some (.slice A parts.length cap):=za0 h.hd 1 rfl
 have hc:part < 0∨0≤part∧(parts.length:Int)≤part∨0≤part∧part < (parts.length:Int)∧3 < k∨0≤part∧part < (parts.length:Int)∧k≤3∧1048576≤rd:=by omega
 clear h hrep hb
 generalize parts.length=n at *
 unfold strV at *
 generalize numN 2=t2 at *
 have dk:decide ((k:Int) < 0)=false:=decide_eq_false (by omega)
 rcases hc with h1 | ⟨h1,h2⟩ | ⟨h1,h2,h3⟩ | ⟨h1,h2,h3,h4⟩
 ·have d1:decide (part < 0)=true:=decide_eq_true h1
  clear h1
  go_enter Tryz.func37,Tryz.ntmps37
  go_wp2_with fail
  refine (HE.out w).mono ?_
  rintro e w1 ⟨rfl,hb1⟩
  have HX:=Lib.hid (HF.out w1 hb1)
  clear hb1
  go_wp2_with fail
  go_ret2
  exact HX.out
 ·have d1:decide (part < 0)=false:=decide_eq_false (by omega)
  have d2:decide ((n:Int)≤part)=true:=decide_eq_true h2
  clear h1 h2
  go_enter Tryz.func37,Tryz.ntmps37
  go_wp2_with fail
  refine (HE.out w).mono ?_
  rintro e w1 ⟨rfl,hb1⟩
  have HX:=Lib.hid (HF.out w1 hb1)
  clear hb1
  go_wp2_with fail
  go_ret2
  exact HX.out
 ·have d1:decide (part < 0)=false:=decide_eq_false (by omega)
  have d2:decide ((n:Int)≤part)=false:=decide_eq_false (by omega)
  have d3:decide ((3:Int) < (k:Int))=true:=decide_eq_true (by omega)
  clear h1 h2 h3
  go_enter Tryz.func37,Tryz.ntmps37
  go_wp2_with fail
  refine (HE.out w).mono ?_
  rintro e w1 ⟨rfl,hb1⟩
  have HX:=Lib.hid (HF.out w1 hb1)
  clear hb1
  go_wp2_with fail
  go_ret2
  exact HX.out
 ·have d1:decide (part < 0)=false:=decide_eq_false (by omega)
  have d2:decide ((n:Int)≤part)=false:=decide_eq_false (by omega)
  have d3:decide ((3:Int) < (k:Int))=false:=decide_eq_false (by omega)
  have d4:decide ((1048576:Int)≤(rd:Int))=true:=decide_eq_true (by omega)
  clear h1 h2 h3 h4
  go_enter Tryz.func37,Tryz.ntmps37
  go_wp2_with fail
  refine (HE.out w).mono ?_
  rintro e w1 ⟨rfl,hb1⟩
  have HX:=Lib.hid (HF.out w1 hb1)
  clear hb1
  go_wp2_with fail
  go_ret2
  exact HX.out
theorem rm_row {w:World} {B r node gw n cw:Nat} {vs vl vo:Value} {parts:List TableP.Part} {m:Mon} (hn:parts.length=n) (h:RMem w B r node vs vl (.slice (some ⟨gw,0,none⟩) n cw) vo parts m) (p x:Nat) :
 RMem (w.setCell ⟨gw,p,none⟩ (.int .i64 (x:Nat))) B r node vs vl (.slice (some ⟨gw,0,none⟩) n cw) vo parts ⟨m.last,m.row.set p x,m.out⟩∧Apart (fun k=>k=gw) w (w.setCell ⟨gw,p,none⟩ (.int .i64 (x:Nat))):=by
 have ha:Apart (fun k=>k=gw) w (w.setCell ⟨gw,p,none⟩ (.int .i64 (x:Nat))):=(Apart.refl (fun k=>k=gw) w).setCell (p:=⟨gw,p,none⟩) (.inl rfl) _
 have hr:=h.row
 rw [hn] at hr
 have h1:=(hr.stored p (.int .i64 (x:Nat))).1
 refine ⟨⟨(ha.block r (lt_of_block h.hd) (fun e=>zb2 h.row h.hd (by decide) gw rfl e.symm)).trans h.hd,h.ps.apart ha (fun k e=>by subst e;exact h.off (.inr (.inr (.inl rfl)))),za3 h.last ha (fun k hk e=>h.lw k hk (by rw [e];rfl)),?_,h.lw,za3 h.out ha (fun k hk e=>ze8 h.row h.out (by decide) gw rfl (by rw [← e];exact hk)),h.base⟩,ha⟩
 rw [hn,zs6]
 exact h1
theorem zv0 {w:World} {B r node gl n cl:Nat} {vs vw vo:Value} {parts:List TableP.Part} {m:Mon} (hn:parts.length=n) (h:RMem w B r node vs (.slice (some ⟨gl,0,none⟩) n cl) vw vo parts m) (p x:Nat) :
 RMem (w.setCell ⟨gl,p,none⟩ (.int .i64 (x:Nat))) B r node vs (.slice (some ⟨gl,0,none⟩) n cl) vw vo parts ⟨m.last.set p x,m.row,m.out⟩∧Apart (fun k=>k=gl) w (w.setCell ⟨gl,p,none⟩ (.int .i64 (x:Nat))):=by
 have ha:Apart (fun k=>k=gl) w (w.setCell ⟨gl,p,none⟩ (.int .i64 (x:Nat))):=(Apart.refl (fun k=>k=gl) w).setCell (p:=⟨gl,p,none⟩) (.inl rfl) _
 have hr:=h.last
 rw [hn] at hr
 have h1:=(hr.stored p (.int .i64 (x:Nat))).1
 refine ⟨⟨(ha.block r (lt_of_block h.hd) (fun e=>zb2 h.last h.hd (by decide) gl rfl e.symm)).trans h.hd,h.ps.apart ha (fun k e=>by subst e;exact h.off (.inr (.inl rfl))),?_,za3 h.row ha (fun k hk e=>h.lw gl rfl (by rw [← e];exact hk)),h.lw,za3 h.out ha (fun k hk e=>ze8 h.last h.out (by decide) gl rfl (by rw [← e];exact hk)),h.base⟩,ha⟩
 rw [hn,zs6]
 exact h1
theorem RMem.frozen_row {w:World} {B e n g cap:Nat} {xs:List Value} (h:w.ownsRow B e 1 (.slice (some ⟨g,0,none⟩) n cap) n xs) (j:Nat):w.frozen? ⟨g,j,none⟩=false:=(Seg.of_own h).frozen j
theorem zF0 {w:World} {B e size n:Nat} {v:Value} {xs:List Value} (h:w.ownsRow B e size v n xs) (hn:0 < n):∃ g cap,v = .slice (some ⟨g,0,none⟩) n cap∧n≤cap:=by
 rcases h.2 with ⟨-,h0⟩ | ⟨g,cap,cur,rfl,-,-,hc,-⟩
 ·omega
 ·exact ⟨g,cap,rfl,hc⟩
def midR (rec:List (List Nat)) (node:Nat) (m:Mon) (rd p k:Nat):Mon:=⟨(nextM rec node m rd p k).last,(nextM rec node m rd p k).row,m.out⟩
theorem mid_yes {rec:List (List Nat)} {node:Nat} {m:Mon} {rd p k:Nat} (h:recOf rec p k=1):midR rec node m rd p k=⟨m.last.set p (rd + 1),m.row.set p (nextRow m p rd),m.out⟩:=by
 unfold midR nextM;rw [if_pos h]
theorem mid_no {rec:List (List Nat)} {node:Nat} {m:Mon} {rd p k:Nat} (h:recOf rec p k≠1):midR rec node m rd p k=m:=by
 unfold midR nextM;rw [if_neg h]
theorem nextR_out (rec:List (List Nat)) (node:Nat) (m:Mon) (r p k:Nat):(nextM rec node m r p k).out=noteT node r p k (didT rec m r p k) m.out:=by unfold nextM;split<;>rfl
def MidC (w:World) (B r node:Nat) (vs vl vw vo:Value) (parts:List TableP.Part) (m:Mon) (rd p k:Nat) (a:Value) (W:World):Prop:=
 a = .int .u8 (didT (parts.map sayOf) m rd p k:Nat)∧RMem W B r node vs vl vw vo parts (midR (parts.map sayOf) node m rd p k)∧Apart (RFd r vl vw vo) w W
def R12 (r node:Nat) (vs vl vw vo:Value) (W:World):Prop:=W.heap[r]? = some (.cells #[.int .i64 (node:Nat),vs,vl,vw,vo] 105 (0,0))
theorem infoRecR:(Tryz.prog.info? 137).map (fun i=>(i.zero,i.size,i.bytes))=some (some (.agg #[.int .u32 0,.int .u8 0,.int .u8 0,.int .u8 0,.int .u8 0]),5,8):=by kernel_rfl
theorem zJ7 {w w2:World} {B r node:Nat} {vs vl vw vo v':Value} {parts:List TableP.Part} {m m':Mon} (h:RMem w B r node vs vl vw vo parts m) (y:FrameP.Rec) (hm:m'.last=m.last) (hm2:m'.row=m.row) (ho:m'.out=m.out ++ [y])
 (hown:w2.ownsRow B 137 5 v' (m.out.length + 1) (recsVals m.out ++ recVals y)) (ha:Apart (fun k=>vo.ownBlock=some k) w w2) :
 RMem (w2.setCell ⟨r,4,none⟩ v') B r node vs vl vw v' parts m'∧Apart (RFd r vl vw vo) w (w2.setCell ⟨r,4,none⟩ v'):=by
 have hd2:w2.heap[r]? = some (.cells #[.int .i64 (node:Nat),vs,vl,vw,vo] 105 (0,0)):=(ha.block r (lt_of_block h.hd) (fun e=>zb2 h.out h.hd (by decide) r e rfl)).trans h.hd
 have g1:=heap_setCell_same w2 r 4 _ _ v' hd2
 have a1:Apart (fun k=>k=r) w2 (w2.setCell ⟨r,4,none⟩ v'):=(Apart.refl (fun k=>k=r) w2).setCell (p:=⟨r,4,none⟩) (.inl rfl) _
 have p2:=h.ps.apart ha (fun k e=>h.off (.inr (.inr (.inr e))))
 have l2:=za3 h.last ha (fun k hk e=>ze8 h.last h.out (by decide) k hk e)
 have w2':=za3 h.row ha (fun k hk e=>ze8 h.row h.out (by decide) k hk e)
 refine ⟨⟨g1,p2.apart a1 (fun k e=>by subst e;exact ⟨h.base,zf3 hd2 (by decide)⟩),?_,?_,h.lw,?_,h.base⟩,(ha.mono fun _ _ e=>.inr (.inr (.inr e))).trans a1 fun _ e=>.inl (.inl e)⟩
 ·rw [hm];exact za3 l2 a1 (fun k hk e=>zb2 l2 hd2 (by decide) k hk e)
 ·rw [hm2];exact za3 w2' a1 (fun k hk e=>zb2 w2' hd2 (by decide) k hk e)
 ·have ho2:=za3 hown a1 (fun k hk e=>zb2 hown hd2 (by decide) k hk e)
  rw [ho,List.length_append,List.length_singleton,zi3]
  have e:recsVals [y]=recVals y:=by simp [recsVals]
  rw [e]
  exact ho2
def R6S (r node gw p:Nat) (vs vl vw vo:Value) (ro:Nat) (W:World):Prop:=R12 r node vs vl vw vo W∧W.cell? ⟨gw,p,none⟩=some (.int .i64 (ro:Nat))
set_option maxHeartbeats 8000000 in
theorem zz2 (w:World) (B r node:Nat) (vs vl vw vo:Value) (parts:List TableP.Part) (m:Mon) (hv:MonV (parts.map sayOf) m) (hro:∀ p,rowOf m p≤1000000) (h:RMem w B r node vs vl vw vo parts m) (hnode:node≤255) (rd p k:Nat) (hp:p < parts.length) (hn:parts.length≤255) (hk:k≤3) (hr:rd < 1048576) (hB:B≤w.heap.size) :
 Calls Tryz.prog 37 #[.pointer (some ⟨r,0,none⟩),.int .u32 (rd:Nat),.int .i64 (p:Nat),.int .i64 (k:Nat)] w (RRepH w B r node vs vl vw vo parts m rd (p:Int) k):=by
 obtain ⟨n,hnn⟩:∃ n,parts.length=n:=⟨_,rfl⟩
 obtain ⟨PA,cs,hvs,hits,-⟩:=h.ps
 obtain ⟨gs,so,rfl,-,hps⟩:=hits (by omega)
 have hla:=h.last
 have hrw:=h.row
 rw [hnn] at hla hrw hvs
 obtain ⟨gl,cl,hvl,hcl⟩:=zF0 hla (by omega)
 obtain ⟨gw,cw,hvw,hcw⟩:=zF0 hrw (by omega)
 subst hvs hvl hvw
 obtain ⟨part,hpart⟩:∃ x,parts[p]? = some x:=⟨_,List.getElem?_eq_getElem hp⟩
 have hrec:recOf (parts.map sayOf) p k=((sayOf part)[k]?).getD 0:=by
  unfold recOf
  rw [List.getElem?_map,hpart]
  rfl
 have kS:w.cell? ⟨gs,so + p * 9 + 5 + k,none⟩=some (.int .u8 (recOf (parts.map sayOf) p k:Nat)):=by
  have hc:k=0∨k=1∨k=2∨k=3:=by omega
  have h2:∀ u,(partVals part)[5 + k]? = some u→w.cell? ⟨gs,so + p * 9 + (5 + k),none⟩=some u:=fun u hu=>hps p part hpart (5 + k) u hu
  rw [hrec,Nat.add_assoc]
  refine h2 _ ?_
  rcases hc with rfl | rfl | rfl | rfl<;>rfl
 have hrep:=zv6 (recover:=parts.map sayOf) (node:=node) (m:=m) (p:=p) (k:=k) (by rw [List.length_map];exact hp) hk hr
 have kL:w.cell? ⟨gl,p,none⟩=some (.int .i64 (lastOf m p:Nat)):=by
  rw [hla.cellAt p (by omega)]
  exact nV_get (by rw [hv.ok.last,List.length_map];exact hp)
 have kR:w.cell? ⟨gw,p,none⟩=some (.int .i64 (rowOf m p:Nat)):=by
  rw [hrw.cellAt p (by omega)]
  exact nV_get (by rw [hv.ok.row,List.length_map];exact hp)
 have hplen:p < m.row.length:=by rw [hv.ok.row,List.length_map];exact hp
 have HM:=Lib.hid h
 have hkL:(nV m.last)[p]? = some (.int .i64 (lastOf m p:Nat)):=nV_get (by rw [hv.ok.last,List.length_map];exact hp)
 have HkL:=Lib.hid hkL
 clear hkL
 have k1:w.cell? ⟨r,1,none⟩=some (.slice (some ⟨gs,so,none⟩) n cs):=za0 h.hd 1 rfl
 have k2:w.cell? ⟨r,2,none⟩=some (.slice (some ⟨gl,0,none⟩) n cl):=za0 h.hd 2 rfl
 have k3:w.cell? ⟨r,3,none⟩=some (.slice (some ⟨gw,0,none⟩) n cw):=za0 h.hd 3 rfl
 have fW:=RMem.frozen_row hrw p
 have hlow:=hv.low p
 have hrob:=hro p
 have hout:=hv.ok.out
 have HRep:=Lib.hid hrep
 have Hnn:=Lib.hid hnn
 have Hpl:=Lib.hid hplen
 have d1:decide ((p:Int) < 0)=false:=decide_eq_false (by omega)
 have d2:decide ((n:Int)≤(p:Int))=false:=decide_eq_false (by omega)
 have d2':decide (n≤p)=false:=decide_eq_false (by omega)
 have d0:decide ((k:Int) < 0)=false:=decide_eq_false (by omega)
 have d3:decide ((3:Int) < (k:Int))=false:=decide_eq_false (by omega)
 have d3':decide (3 < k)=false:=decide_eq_false (by omega)
 have d4:decide ((1048576:Int)≤(rd:Int))=false:=decide_eq_false (by omega)
 have d4':decide (1048576≤rd)=false:=decide_eq_false (by omega)
 have hlt:p < n:=by omega
 have hk4:(k:Int) < 4:=by omega
 have b1:IntKind.i64.wrap (rd:Int)=(rd:Int):=IntWalk.i64_in _ (by omega)
 obtain ⟨rd1,hrd1⟩:∃ x,x=rd + 1:=⟨_,rfl⟩
 obtain ⟨la1,hla1⟩:∃ x,x=lastOf m p + 1:=⟨_,rfl⟩
 obtain ⟨ro1,hro1⟩:∃ x,x=rowOf m p + 1:=⟨_,rfl⟩
 have b2:IntKind.i64.wrap ((rd:Int) + 1)=(rd1:Int):=by rw [IntWalk.i64_in _ (by omega)];omega
 have b3:IntKind.i64.wrap ((lastOf m p:Int) + 1)=(la1:Int):=by rw [IntWalk.i64_in _ (by omega)];omega
 have b4:IntKind.i64.wrap ((rowOf m p:Int) + 1)=(ro1:Int):=by rw [IntWalk.i64_in _ (by omega)];omega
 have Hrd1:=Lib.hid hrd1
 have Hla1:=Lib.hid hla1
 have Hro1:=Lib.hid hro1
 obtain ⟨aR,haR⟩:∃ x,recOf (parts.map sayOf) p k=x:=⟨_,rfl⟩
 rw [haR] at kS
 have HaR:=Lib.hid haR
 have hllen:p < m.last.length:=by rw [hv.ok.last,List.length_map];exact hp
 have Hll:=Lib.hid hllen
 clear h hps hla hrw hpart hrec hrep hp hv hro hplen haR hllen hrd1 hla1 hro1
 go_enter Tryz.func37,Tryz.ntmps37
 go_upto_if 46 with (fail)
 go_cut [10] (fun a wx=>MidC w B r node (.slice (some ⟨gs,so,none⟩) n cs) (.slice (some ⟨gl,0,none⟩) n cl) (.slice (some ⟨gw,0,none⟩) n cw) vo parts m rd p k a wx)
 case first=>
  by_cases h1:aR=1
  case neg=>
   have hne:((aR:Int) == 1)=false:=by rw [beq_eq_false_iff_ne];omega
   have HF:Hid (MidC w B r node (.slice (some ⟨gs,so,none⟩) n cs) (.slice (some ⟨gl,0,none⟩) n cl) (.slice (some ⟨gw,0,none⟩) n cw) vo parts m rd p k (.int .u8 (aR:Nat)) w):=Lib.hid ⟨by unfold didT;rw [HaR.out,if_neg h1],by rw [mid_no (by rw [HaR.out];exact h1)];exact HM.out,Apart.refl _ _⟩
   clear h1
   go_wp2_with fail
   go_meet
   exact HF.out
  have hye:((aR:Int) == 1)=true:=by rw [beq_iff_eq];omega
  have HF:Hid (∀ x W a,nextRow m p rd=x→(if 3≤x then 2 else 1)=a→RMem W B r node (.slice (some ⟨gs,so,none⟩) n cs) (.slice (some ⟨gl,0,none⟩) n cl) (.slice (some ⟨gw,0,none⟩) n cw) vo parts ⟨m.last.set p rd1,m.row.set p x,m.out⟩→Apart (RFd r (.slice (some ⟨gl,0,none⟩) n cl) (.slice (some ⟨gw,0,none⟩) n cw) vo) w W→MidC w B r node (.slice (some ⟨gs,so,none⟩) n cs) (.slice (some ⟨gl,0,none⟩) n cl) (.slice (some ⟨gw,0,none⟩) n cw) vo parts m rd p k (.int .u8 (a:Nat)) W):=Lib.hid fun x W a e1 e2 h2 h3=>
   ⟨by unfold didT;rw [HaR.out,if_pos h1,e1,e2],by rw [mid_yes (by rw [HaR.out];exact h1),e1,← Hrd1.out];exact h2,h3⟩
  have h6:nextRow m p rd=if 0 < lastOf m p∧rd≤lastOf m p then rowOf m p + 1 else 1:=rfl
  have H6:=Lib.hid h6
  have Ha1:=Lib.hid h1
  clear h6 h1
  generalize lastOf m p=la at *
  generalize rowOf m p=ro at *
  by_cases hin:0 < la∧rd≤la
  case pos=>
   have hx1:nextRow m p rd=ro1:=by rw [H6.out,if_pos hin,Hro1.out]
   have x1:decide ((0:Int) < (la:Int))=true:=decide_eq_true (by omega)
   have x2:decide (0 < la)=true:=decide_eq_true (by omega)
   have x3:decide ((rd1:Int)≤(la1:Int))=true:=decide_eq_true (by have:=Hrd1.out;have:=Hla1.out;omega)
   have x4:decide (rd1≤la1)=true:=decide_eq_true (by have:=Hrd1.out;have:=Hla1.out;omega)
   have hdr:R6S r node gw p (.slice (some ⟨gs,so,none⟩) n cs) (.slice (some ⟨gl,0,none⟩) n cl) (.slice (some ⟨gw,0,none⟩) n cw) vo ro w.drew:=⟨HM.out.hd,kR⟩
   have hR1:RMem ((w.setCell ⟨gw,p,none⟩ (.int .i64 (ro1:Nat))).drew) B r node (.slice (some ⟨gs,so,none⟩) n cs) (.slice (some ⟨gl,0,none⟩) n cl) (.slice (some ⟨gw,0,none⟩) n cw) vo parts ⟨m.last,m.row.set p ro1,m.out⟩∧Apart (fun k=>k=gw) w (w.setCell ⟨gw,p,none⟩ (.int .i64 (ro1:Nat))).drew:=⟨(rm_row Hnn.out HM.out p ro1).1.keep (Below.refl _ _).drew,(rm_row Hnn.out HM.out p ro1).2.drew⟩
   have c3:∀ W,R6S r node gw p (.slice (some ⟨gs,so,none⟩) n cs) (.slice (some ⟨gl,0,none⟩) n cl) (.slice (some ⟨gw,0,none⟩) n cw) vo ro W→W.cell? ⟨r,3,none⟩=some (.slice (some ⟨gw,0,none⟩) n cw):=fun W hW=>za0 hW.1 3 rfl
   have cR:∀ W,R6S r node gw p (.slice (some ⟨gs,so,none⟩) n cs) (.slice (some ⟨gl,0,none⟩) n cl) (.slice (some ⟨gw,0,none⟩) n cw) vo ro W→W.cell? ⟨gw,p,none⟩=some (.int .i64 (ro:Nat)):=fun W hW=>hW.2
   have fD:w.drew.frozen? ⟨gw,p,none⟩=false:=fW
   have cD:w.drew.cell? ⟨gw,p,none⟩=some (.int .i64 (ro:Nat)):=kR
   have Hx:=Lib.hid hx1
   clear hx1 H6 hin
   go_upto_region 6 with (fail)
   refine za9 (st:=14) (S:=fun W=>R6S r node gw p (.slice (some ⟨gs,so,none⟩) n cs) (.slice (some ⟨gl,0,none⟩) n cl) (.slice (some ⟨gw,0,none⟩) n cw) vo ro W) (by kernel_rfl) hdr (fun _=>?_)
   refine tL 0 hdr ?_
   try simp only [Act.put,tkT,tk0,tkS]
   refine tL 1 hdr ?_
   try simp only [Act.put,tkT,tk0,tkS]
   refine tL 2 hdr ?_
   try simp only [Act.put,tkT,tk0,tkS]
   refine tL 3 hdr ?_
   try simp only [Act.put,tkT,tk0,tkS]
   refine tL 4 hdr ?_
   try simp only [Act.put,tkT,tk0,tkS]
   refine tL 5 hdr ?_
   try simp only [Act.put,tkT,tk0,tkS]
   refine tL 6 hdr ?_
   try simp only [Act.put,tkT,tk0,tkS]
   refine tL 7 hdr ?_
   try simp only [Act.put,tkT,tk0,tkS]
   refine tL 8 hdr ?_
   try simp only [Act.put,tkT,tk0,tkS]
   refine tL 9 hdr ?_
   try simp only [Act.put,tkT,tk0,tkS]
   refine tL 10 hdr ?_
   try simp only [Act.put,tkT,tk0,tkS]
   refine tL 11 hdr ?_
   try simp only [Act.put,tkT,tk0,tkS]
   refine tL 12 hdr ?_
   try simp only [Act.put,tkT,tk0,tkS]
   refine tL 13 hdr ?_
   try simp only [Act.put,tkT,tk0,tkS]
   clear c3 cR
   refine zc0 (k:=14) (by kernel_rfl) (by simp only [tkA,tkG];rfl) (fun K hK=>?_)
   go_simp
   go_wp2_with fail
   refine hK.out _ _ ?_
   clear hK K
   refine zb9 (by kernel_rfl) ?_ _
   clear hdr fD cD
   go_upto_region 8 with (fail)
   by_cases h3:3≤ro1
   ·have y1:decide ((3:Int)≤(ro1:Int))=true:=decide_eq_true (by omega)
    have y2:decide (3≤ro1)=true:=decide_eq_true h3
    have HX:=Lib.hid (fun W=>HF.out ro1 W 2 Hx.out (if_pos h3))
    clear HF h3
    obtain ⟨hM1,hA1⟩:=hR1
    generalize (w.setCell ⟨gw,p,none⟩ (.int .i64 (ro1:Nat))).drew=w1 at *
    have q2:w1.cell? ⟨r,2,none⟩=some (.slice (some ⟨gl,0,none⟩) n cl):=za0 hM1.hd 2 rfl
    have hl1:=hM1.last
    rw [Hnn.out] at hl1
    have qL:w1.cell? ⟨gl,p,none⟩=some (.int .i64 (la:Nat)):=by
     rw [hl1.cellAt p (by omega)]
     exact HkL.out
    have fL:=RMem.frozen_row hl1 p
    have hR2:RMem (w1.setCell ⟨gl,p,none⟩ (.int .i64 (rd1:Nat))) B r node (.slice (some ⟨gs,so,none⟩) n cs) (.slice (some ⟨gl,0,none⟩) n cl) (.slice (some ⟨gw,0,none⟩) n cw) vo parts ⟨m.last.set p rd1,m.row.set p ro1,m.out⟩∧Apart (fun k=>k=gl) w1 (w1.setCell ⟨gl,p,none⟩ (.int .i64 (rd1:Nat))):=zv0 Hnn.out hM1 p rd1
    clear hM1 hl1
    go_upto_region 9 with (fail)
    obtain ⟨hM2,hA2⟩:=hR2
    generalize w1.setCell ⟨gl,p,none⟩ (.int .i64 (rd1:Nat))=w2 at *
    have q3:w2.cell? ⟨r,3,none⟩=some (.slice (some ⟨gw,0,none⟩) n cw):=za0 hM2.hd 3 rfl
    have hr2:=hM2.row
    rw [Hnn.out] at hr2
    have qR:w2.cell? ⟨gw,p,none⟩=some (.int .i64 (ro1:Nat)):=by
     rw [hr2.cellAt p (by omega),zs6,List.getElem?_set_self (by rw [zE9];exact Hpl.out)]
    have HZ:=Lib.hid (HX.out w2 hM2 ((hA1.mono fun _ _ e=>.inr (.inr (.inl (by rw [e];rfl)))).trans hA2 fun _ e=>.inl (.inr (.inl (by rw [e];rfl)))))
    clear hM2 hr2 hA1 hA2 HX
    go_wp2_with fail
    go_meet
    exact HZ.out
   ·have y1:decide ((3:Int)≤(ro1:Int))=false:=decide_eq_false (by omega)
    have y2:decide (3≤ro1)=false:=decide_eq_false h3
    have HX:=Lib.hid (fun W=>HF.out ro1 W aR Hx.out (by rw [if_neg h3,Ha1.out]))
    clear HF h3
    obtain ⟨hM1,hA1⟩:=hR1
    generalize (w.setCell ⟨gw,p,none⟩ (.int .i64 (ro1:Nat))).drew=w1 at *
    have q2:w1.cell? ⟨r,2,none⟩=some (.slice (some ⟨gl,0,none⟩) n cl):=za0 hM1.hd 2 rfl
    have hl1:=hM1.last
    rw [Hnn.out] at hl1
    have qL:w1.cell? ⟨gl,p,none⟩=some (.int .i64 (la:Nat)):=by
     rw [hl1.cellAt p (by omega)]
     exact HkL.out
    have fL:=RMem.frozen_row hl1 p
    have hR2:RMem (w1.setCell ⟨gl,p,none⟩ (.int .i64 (rd1:Nat))) B r node (.slice (some ⟨gs,so,none⟩) n cs) (.slice (some ⟨gl,0,none⟩) n cl) (.slice (some ⟨gw,0,none⟩) n cw) vo parts ⟨m.last.set p rd1,m.row.set p ro1,m.out⟩∧Apart (fun k=>k=gl) w1 (w1.setCell ⟨gl,p,none⟩ (.int .i64 (rd1:Nat))):=zv0 Hnn.out hM1 p rd1
    clear hM1 hl1
    go_upto_region 9 with (fail)
    obtain ⟨hM2,hA2⟩:=hR2
    generalize w1.setCell ⟨gl,p,none⟩ (.int .i64 (rd1:Nat))=w2 at *
    have q3:w2.cell? ⟨r,3,none⟩=some (.slice (some ⟨gw,0,none⟩) n cw):=za0 hM2.hd 3 rfl
    have hr2:=hM2.row
    rw [Hnn.out] at hr2
    have qR:w2.cell? ⟨gw,p,none⟩=some (.int .i64 (ro1:Nat)):=by
     rw [hr2.cellAt p (by omega),zs6,List.getElem?_set_self (by rw [zE9];exact Hpl.out)]
    have HZ:=Lib.hid (HX.out w2 hM2 ((hA1.mono fun _ _ e=>.inr (.inr (.inl (by rw [e];rfl)))).trans hA2 fun _ e=>.inl (.inr (.inl (by rw [e];rfl)))))
    clear hM2 hr2 hA1 hA2 HX
    go_wp2_with fail
    go_meet
    exact HZ.out
  have hx1:nextRow m p rd=1:=by rw [H6.out,if_neg hin]
  have HX:=Lib.hid (fun W=>HF.out 1 W aR hx1 (by rw [Ha1.out];rfl))
  have e0:la=0∨0 < la∧la < rd:=by omega
  have hR1:RMem (w.setCell ⟨gw,p,none⟩ (.int .i64 1)) B r node (.slice (some ⟨gs,so,none⟩) n cs) (.slice (some ⟨gl,0,none⟩) n cl) (.slice (some ⟨gw,0,none⟩) n cw) vo parts ⟨m.last,m.row.set p 1,m.out⟩∧Apart (fun k=>k=gw) w (w.setCell ⟨gw,p,none⟩ (.int .i64 1)):=rm_row Hnn.out HM.out p 1
  clear H6 Ha1 hx1 HF hin
  rcases e0 with e0 | ⟨e0,e00⟩
  ·have x1:decide ((0:Int) < (la:Int))=false:=decide_eq_false (by omega)
   have x2:decide (0 < la)=false:=decide_eq_false (by omega)
   clear e0
   go_upto_region 8 with (fail)
   obtain ⟨hM1,hA1⟩:=hR1
   generalize w.setCell ⟨gw,p,none⟩ (.int .i64 1)=w1 at *
   have q2:w1.cell? ⟨r,2,none⟩=some (.slice (some ⟨gl,0,none⟩) n cl):=za0 hM1.hd 2 rfl
   have hl1:=hM1.last
   rw [Hnn.out] at hl1
   have qL:w1.cell? ⟨gl,p,none⟩=some (.int .i64 (la:Nat)):=by
    rw [hl1.cellAt p (by omega)]
    exact HkL.out
   have fL:=RMem.frozen_row hl1 p
   have hR2:RMem (w1.setCell ⟨gl,p,none⟩ (.int .i64 (rd1:Nat))) B r node (.slice (some ⟨gs,so,none⟩) n cs) (.slice (some ⟨gl,0,none⟩) n cl) (.slice (some ⟨gw,0,none⟩) n cw) vo parts ⟨m.last.set p rd1,m.row.set p 1,m.out⟩∧Apart (fun k=>k=gl) w1 (w1.setCell ⟨gl,p,none⟩ (.int .i64 (rd1:Nat))):=zv0 Hnn.out hM1 p rd1
   clear hM1 hl1
   go_upto_region 9 with (fail)
   obtain ⟨hM2,hA2⟩:=hR2
   generalize w1.setCell ⟨gl,p,none⟩ (.int .i64 (rd1:Nat))=w2 at *
   have q3:w2.cell? ⟨r,3,none⟩=some (.slice (some ⟨gw,0,none⟩) n cw):=za0 hM2.hd 3 rfl
   have hr2:=hM2.row
   rw [Hnn.out] at hr2
   have qR:w2.cell? ⟨gw,p,none⟩=some (.int .i64 1):=by
    rw [hr2.cellAt p (by omega),zs6,List.getElem?_set_self (by rw [zE9];exact Hpl.out)];rfl
   have HZ:=Lib.hid (HX.out w2 hM2 ((hA1.mono fun _ _ e=>.inr (.inr (.inl (by rw [e];rfl)))).trans hA2 fun _ e=>.inl (.inr (.inl (by rw [e];rfl)))))
   clear hM2 hr2 hA1 hA2 HX
   go_wp2_with fail
   go_meet
   exact HZ.out
  ·have x1:decide ((0:Int) < (la:Int))=true:=decide_eq_true (by omega)
   have x2:decide (0 < la)=true:=decide_eq_true (by omega)
   have x3:decide ((rd1:Int)≤(la1:Int))=false:=decide_eq_false (by have:=Hrd1.out;have:=Hla1.out;omega)
   have x4:decide (rd1≤la1)=false:=decide_eq_false (by have:=Hrd1.out;have:=Hla1.out;omega)
   clear e0 e00
   go_upto_region 8 with (fail)
   obtain ⟨hM1,hA1⟩:=hR1
   generalize w.setCell ⟨gw,p,none⟩ (.int .i64 1)=w1 at *
   have q2:w1.cell? ⟨r,2,none⟩=some (.slice (some ⟨gl,0,none⟩) n cl):=za0 hM1.hd 2 rfl
   have hl1:=hM1.last
   rw [Hnn.out] at hl1
   have qL:w1.cell? ⟨gl,p,none⟩=some (.int .i64 (la:Nat)):=by
    rw [hl1.cellAt p (by omega)]
    exact HkL.out
   have fL:=RMem.frozen_row hl1 p
   have hR2:RMem (w1.setCell ⟨gl,p,none⟩ (.int .i64 (rd1:Nat))) B r node (.slice (some ⟨gs,so,none⟩) n cs) (.slice (some ⟨gl,0,none⟩) n cl) (.slice (some ⟨gw,0,none⟩) n cw) vo parts ⟨m.last.set p rd1,m.row.set p 1,m.out⟩∧Apart (fun k=>k=gl) w1 (w1.setCell ⟨gl,p,none⟩ (.int .i64 (rd1:Nat))):=zv0 Hnn.out hM1 p rd1
   clear hM1 hl1
   go_upto_region 9 with (fail)
   obtain ⟨hM2,hA2⟩:=hR2
   generalize w1.setCell ⟨gl,p,none⟩ (.int .i64 (rd1:Nat))=w2 at *
   have q3:w2.cell? ⟨r,3,none⟩=some (.slice (some ⟨gw,0,none⟩) n cw):=za0 hM2.hd 3 rfl
   have hr2:=hM2.row
   rw [Hnn.out] at hr2
   have qR:w2.cell? ⟨gw,p,none⟩=some (.int .i64 1):=by
    rw [hr2.cellAt p (by omega),zs6,List.getElem?_set_self (by rw [zE9];exact Hpl.out)];rfl
   have HZ:=Lib.hid (HX.out w2 hM2 ((hA1.mono fun _ _ e=>.inr (.inr (.inl (by rw [e];rfl)))).trans hA2 fun _ e=>.inl (.inr (.inl (by rw [e];rfl)))))
   clear hM2 hr2 hA1 hA2 HX
   go_wp2_with fail
   go_meet
   exact HZ.out
 case rest=>
  obtain ⟨rfl,hM,hA⟩:=hcut
  have HM1:=Lib.hid hM
  have HA1:=Lib.hid hA
  obtain ⟨q,hq⟩:∃ q,m.out.length=q:=⟨_,rfl⟩
  obtain ⟨A2,cap2,hvo,-⟩:=za6 hM.out
  change vo = .slice A2 m.out.length cap2 at hvo
  rw [hq] at hvo hout
  have HQ:=Lib.hid hq
  have hwn:IntKind.u8.wrap (node:Int)=(node:Int):=by rw [IntKind.wrap_u8];omega
  have hwp:IntKind.u8.wrap (p:Int)=(p:Int):=by rw [IntKind.wrap_u8];omega
  have hwk:IntKind.u8.wrap (k:Int)=(k:Int):=by rw [IntKind.wrap_u8];omega
  have Hnx:=Lib.hid (nextR_out (parts.map sayOf) node m rd p k)
  have k4:wc.cell? ⟨r,4,none⟩=some vo:=za0 hM.hd 4 rfl
  clear kS kL kR k1 k2 k3 fW b1 b2 b3 b4 Hrd1 Hla1 Hro1 HaR HM hM hA hq hlow hrob Hpl HkL Hll
  by_cases hfull:q < 4
  case neg=>
   have hfin:Hid (RRepH w B r node (.slice (some ⟨gs,so,none⟩) n cs) (.slice (some ⟨gl,0,none⟩) n cl) (.slice (some ⟨gw,0,none⟩) n cw) vo parts m rd (p:Int) k (.returned (.tuple #[.int .u8 (didT (parts.map sayOf) m rd p k:Nat),.string ⟨#[]⟩])) wc):=Lib.hid (by
    unfold RRepH
    rw [HRep.out]
    have e:nextM (parts.map sayOf) node m rd p k=(midR (parts.map sayOf) node m rd p k):=by
     have e1:(nextM (parts.map sayOf) node m rd p k).out=m.out:=by rw [Hnx.out];unfold noteT;rw [if_neg (by rw [HQ.out];exact hfull)]
     show nextM (parts.map sayOf) node m rd p k=⟨_,_,m.out⟩
     rw [← e1]
    exact ⟨rfl,vo,by rw [e];exact HM1.out,HA1.out,.inl rfl⟩)
   have dq:decide ((q:Int) < 4)=false:=decide_eq_false (by omega)
   have dq':decide (q < 4)=false:=decide_eq_false (by omega)
   clear HM1 HA1 Hnx HRep HQ hfull hout
   subst hvo
   generalize didT (parts.map sayOf) m rd p k=did at *
   go_wp2_with fail
   go_ret2
   exact hfin.out
  have dq:decide ((q:Int) < 4)=true:=decide_eq_true (by omega)
  have dq':decide (q < 4)=true:=decide_eq_true (by omega)
  have hfin:Hid (∀ w2 v',w2.ownsRow B 137 5 v' (q + 1) (recsVals m.out ++ recVals ⟨rd,node,p,k,didT (parts.map sayOf) m rd p k⟩)→Apart (fun x=>vo.ownBlock=some x) wc w2→(v'.ownBlock=vo.ownBlock∨∃ y,v'.ownBlock=some y∧wc.heap.size≤y) →
   RRepH w B r node (.slice (some ⟨gs,so,none⟩) n cs) (.slice (some ⟨gl,0,none⟩) n cl) (.slice (some ⟨gw,0,none⟩) n cw) vo parts m rd (p:Int) k (.returned (.tuple #[.int .u8 (didT (parts.map sayOf) m rd p k:Nat),.string ⟨#[]⟩])) (w2.setCell ⟨r,4,none⟩ v')):=Lib.hid fun w2 v' h3 h4 h5=>by
   unfold RRepH
   rw [HRep.out]
   rw [← HQ.out] at h3
   have h6:=zJ7 (m':=nextM (parts.map sayOf) node m rd p k) HM1.out ⟨rd,node,p,k,didT (parts.map sayOf) m rd p k⟩ rfl rfl (by
    rw [Hnx.out];unfold noteT;rw [if_pos (by rw [HQ.out];exact hfull)];rfl) h3 h4
   refine ⟨rfl,v',h6.1,HA1.out.trans h6.2 (fun _ e=>.inl e),?_⟩
   rcases h5 with h5 | ⟨y,h5,h7⟩
   ·exact .inl h5
   ·exact .inr ⟨y,h5,Nat.le_trans HA1.out.size h7⟩
  have HO:Hid (wc.ownsRow B 137 5 vo q (recsVals m.out)):=Lib.hid (by
   have:=HM1.out.out
   change wc.ownsRow B 137 5 vo m.out.length (recsVals m.out) at this
   rw [HQ.out] at this
   exact this)
  have HD:Hid (R12 r node (.slice (some ⟨gs,so,none⟩) n cs) (.slice (some ⟨gl,0,none⟩) n cl) (.slice (some ⟨gw,0,none⟩) n cw) vo wc):=Lib.hid HM1.out.hd
  have HBz:Hid (B≤wc.heap.size):=Lib.hid (Nat.le_trans hB HA1.out.size)
  have Hq4:=Lib.hid hfull
  clear Hnx HRep hfull hout HM1 HA1
  subst hvo
  generalize hD:didT (parts.map sayOf) m rd p k=did at *
  clear hD
  have hdr:R12 r node (.slice (some ⟨gs,so,none⟩) n cs) (.slice (some ⟨gl,0,none⟩) n cl) (.slice (some ⟨gw,0,none⟩) n cw) (.slice A2 q cap2) wc.drew:=HD.out
  have c0:∀ W,R12 r node (.slice (some ⟨gs,so,none⟩) n cs) (.slice (some ⟨gl,0,none⟩) n cl) (.slice (some ⟨gw,0,none⟩) n cw) (.slice A2 q cap2) W→W.cell? ⟨r,0,none⟩=some (.int .i64 (node:Nat)):=fun W hW=>za0 hW 0 rfl
  have c4:∀ W,R12 r node (.slice (some ⟨gs,so,none⟩) n cs) (.slice (some ⟨gl,0,none⟩) n cl) (.slice (some ⟨gw,0,none⟩) n cw) (.slice A2 q cap2) W→W.cell? ⟨r,4,none⟩=some (.slice A2 q cap2):=fun W hW=>za0 hW 4 rfl
  go_upto_region 12 with (fail)
  refine za9 (st:=21) (S:=fun W=>R12 r node (.slice (some ⟨gs,so,none⟩) n cs) (.slice (some ⟨gl,0,none⟩) n cl) (.slice (some ⟨gw,0,none⟩) n cw) (.slice A2 q cap2) W) (by kernel_rfl) hdr (fun _=>?_)
  refine tL 0 hdr ?_
  try simp only [Act.put,tkT,tk0,tkS]
  refine tL 1 hdr ?_
  try simp only [Act.put,tkT,tk0,tkS]
  refine tL 2 hdr ?_
  try simp only [Act.put,tkT,tk0,tkS]
  refine tL 3 hdr ?_
  try simp only [Act.put,tkT,tk0,tkS]
  refine tL 4 hdr ?_
  try simp only [Act.put,tkT,tk0,tkS]
  refine tL 5 hdr ?_
  try simp only [Act.put,tkT,tk0,tkS]
  refine tL 6 hdr ?_
  try simp only [Act.put,tkT,tk0,tkS]
  refine tL 7 hdr ?_
  try simp only [Act.put,tkT,tk0,tkS]
  refine tL 8 hdr ?_
  try simp only [Act.put,tkT,tk0,tkS]
  refine tL 9 hdr ?_
  try simp only [Act.put,tkT,tk0,tkS]
  refine tL 10 hdr ?_
  try simp only [Act.put,tkT,tk0,tkS]
  refine tL 11 hdr ?_
  try simp only [Act.put,tkT,tk0,tkS]
  refine tL 12 hdr ?_
  try simp only [Act.put,tkT,tk0,tkS]
  refine tL 13 hdr ?_
  try simp only [Act.put,tkT,tk0,tkS]
  refine tL 14 hdr ?_
  try simp only [Act.put,tkT,tk0,tkS]
  refine tL 15 hdr ?_
  try simp only [Act.put,tkT,tk0,tkS]
  refine tL 16 hdr ?_
  try simp only [Act.put,tkT,tk0,tkS]
  clear c0 c4 k4
  have Hsz:=Lib.hid (lt_of_block hdr)
  have hda:R12 r node (.slice (some ⟨gs,so,none⟩) n cs) (.slice (some ⟨gl,0,none⟩) n cl) (.slice (some ⟨gw,0,none⟩) n cw) (.slice A2 q cap2) (wc.drew.alloc (.cells (recVals ⟨rd,node,p,k,did⟩).toArray 137)):=(Below.heap_alloc _ _ _ Hsz.out).trans hdr
  clear hdr
  refine za8 (k:=17) (by kernel_rfl) (by simp only [tkA,tkG];rfl) (fun K hK=>?_)
  go_simp
  go_wp2_with fail
  refine hK.out _ _ (fun _=>hda) ?_
  clear hK K
  refine za8 (k:=18) (by kernel_rfl) (by simp only [tkA,tkG];rfl) (fun K hK=>?_)
  refine za7 rfl (.tmp 116) (.tmp 129) _ rfl B 137 _ 5 8 Tryz.underlying84 infoRecR rfl (by omega) _ q (recsVals m.out) rfl (HO.out.drew.alloc _) (some ⟨wc.drew.heap.size,0,none⟩) 1 1 (recVals ⟨rd,node,p,k,did⟩) rfl rfl (fun _=>⟨_,rfl,zk2 wc.drew _ (recVals ⟨rd,node,p,k,did⟩) wc.drew.heap.size rfl⟩) (zn4 _) (by have:=Hq4.out;unfold maxLen;omega) (by have:=Hq4.out;omega) (by have:=HBz.out;simp;omega) ?_
  intro v8 w8 ho8 ha8 hb8
  have ha80:Apart (fun x=>(Value.slice A2 q cap2).ownBlock=some x) wc w8:=((Apart.refl _ wc).drew.alloc _).trans ha8 (fun _ e=>.inl e)
  have hd8:R12 r node (.slice (some ⟨gs,so,none⟩) n cs) (.slice (some ⟨gl,0,none⟩) n cl) (.slice (some ⟨gw,0,none⟩) n cw) (.slice A2 q cap2) w8:=(ha80.block r Hsz.out (fun e=>zb2 HO.out HD.out (by decide) r e rfl)).trans HD.out
  obtain ⟨g8,c8,rfl,-,-⟩:=ho8.form (by omega)
  have HF8:=Lib.hid (hfin.out w8 _ ho8 ha80 (by
   rcases hb8 with e | e
   ·exact .inl e
   ·simp only [Value.ownBlock,Option.some.injEq] at e
    exact .inr ⟨g8,rfl,by rw [e];simp⟩))
  have kb8:w8.cell? ⟨r,4,none⟩=some (.slice A2 q cap2):=za0 hd8 4 rfl
  have fb8:=za2 hd8 4
  clear ho8 ha8 hb8 ha80 hfin
  go_wp2_with fail
  refine hK.out _ _ (fun _=>hd8) ?_
  clear hK K
  refine tL 19 hd8 ?_
  try simp only [Act.put,tkT,tk0,tkS]
  refine tL 20 hd8 ?_
  try simp only [Act.put,tkT,tk0,tkS]
  refine zc0 (k:=21) (by kernel_rfl) (by simp only [tkA,tkG];rfl) (fun K hK=>?_)
  go_simp
  go_wp2_with fail
  refine hK.out _ _ ?_
  clear hK K
  refine zb9 (by kernel_rfl) ?_ _
  clear hd8 hda
  go_wp2_with fail
  go_ret2
  exact HF8.out
theorem zC8 (w:World) (B r node:Nat) (vs vl vw vo:Value) (parts:List TableP.Part) (m:Mon) (hv:MonV (parts.map sayOf) m) (hro:∀ p,rowOf m p≤1000000) (h:RMem w B r node vs vl vw vo parts m) (hnode:node≤255) (rd:Nat) (part:Int) (k:Nat) (hn:parts.length≤255) (hB:B≤w.heap.size) :
 Calls Tryz.prog 37 #[.pointer (some ⟨r,0,none⟩),.int .u32 (rd:Nat),.int .i64 part,.int .i64 (k:Nat)] w (RRepH w B r node vs vl vw vo parts m rd part k):=by
 by_cases hb:part < 0∨(parts.length:Int)≤part∨3 < k∨1048576≤rd
 ·exact zC7 w B r node vs vl vw vo parts m h rd part k hb
 ·obtain ⟨p,rfl⟩:=Int.eq_ofNat_of_zero_le (show 0≤part by omega)
  exact zz2 w B r node vs vl vw vo parts m hv hro h hnode rd p k (by omega) hn (by omega) (by omega) hB
end Go.Proofs.YtfgpfmhjnccccaaGreatDoor
