/- ApexRuns: for every input the law returns true, and the arguments read afterwards as before; the row lists errors.errorType, and the card ties it to the program's text. Conditions: those that the given row prints. -/
import Derived.ProofKit
import Derived.Test.YtfgpfmhjnccccaaGreatDoorTie
import Derived.Test.YtfgpfmhjnccccaaGreatDoorCards
import Derived.Test.YtfgpfmhjnccccaaGreatDoorSa34
import Derived.Test.YtfgpfmhjnccccaaGreatDoorSa14
import Derived.Test.YtfgpfmhjnccccaaGreatDoorSa13
import Derived.Test.YtfgpfmhjnccccaaGreatDoorSa16
import Derived.Test.YtfgpfmhjnccccaaGreatDoorSa15
namespace Go.Proofs.YtfgpfmhjnccccaaGreatDoor
open Go.ChangeShapes Go.WideShapes Go.ChangeAt Go.RowKit
set_option maxRecDepth 100000 in
theorem aruns_lifted (os:Os) (started:os.Started) (H:Type) (enc:TypeId × Value→H) :
 ReturnsInHanded {} Tryz.checked os 3 .any (fun w args=>(Rows.apexRunsSpec.pre enc Tryz.prog Tryz.f3 [] false w args∧laidMetH Tryz.prog laidOf w)∧sizedMet enc Tryz.prog Tryz.f3 (OpenSpec.ofChange Rows.apexRunsSpec) false w args)
  (Rows.apexRunsSpec.post enc Tryz.prog Tryz.f3 false true false false):=by
 refine returnsInHanded_of_change_and (C:=Tryz.checked) (X:=fun w _=>laidMetH Tryz.prog laidOf w) (fun _ _ _ hh h=>h.of_heap hh) own started (by kernel_rfl) Tryz.func3
  (ChangeSpec.witness_at (enc:=enc) (C:=Tryz.checked) (os:=os) (X:=fun w _=>laidMetH Tryz.prog laidOf w) false (laidWorld os) #[.agg #[.int .i64 0,.int .i64 0,.int .i64 0,.int .i64 0,.int .i64 0,.int .i64 0,.int .i64 0,.int .i64 0,.slice none 0 0,.slice none 0 0,.slice none 0 0],.int .i64 0,.slice none 0 0] 8 rfl (by kernel_rfl) (by kernel_rfl) (by kernel_rfl) (by kernel_rfl) (by kernel_rfl) (zu9 os _)) ?_
 intro W base args ds gs before hval0 hW _ hsz0 hL _
 have hval:∀ (j:Nat) t v,Tryz.f3.params[j]? = some t→args[j]? = some v→Value.okWide Tryz.prog W .any base t v:=hval0
 have hsz:(DataW.weightsEach Tryz.prog (Tryz.f3.params.toList ++ Rows.apexRunsSpec.plain.varTypes Tryz.prog) (ds ++ gs)).all (·≤reachBytes)=true:=hsz0
 have hW':=hW
 have hg:=zq1 hL
 obtain ⟨p,q,hA0,hV0,-,-,-⟩:=hW
 have hA:DataW.TrodAll enc Tryz.prog W 0 (fun _=>true) true Tryz.f3.params.toList args.toList ds p:=hA0
 rw [Tryz.params3] at hA hval hsz
 obtain ⟨v0,v1,v2,d0,d1,d2,p0,p1,p2,rfl,rfl,rfl,h0,h1,h2⟩:=trodAll_three hA
 have hw0:∀ k∈d0.weights Tryz.prog 26,k≤reachBytes:=fun k hk=>by
  have:=List.all_eq_true.1 hsz k (DataW.weights_mem_each (j:=0) (t:=26) (d:=d0) rfl rfl k hk)
  simpa using this
 obtain ⟨x,rfl,hx⟩:=cfg_open (hval 0 26 v0 rfl rfl) h0 hw0
 obtain ⟨a1,rfl,rfl,rfl,w1⟩:=open_int Tryz.underlying3 (hval 1 3 v1 rfl rfl) h1
 have hw2:∀ k∈d2.weights Tryz.prog 27,k≤reachBytes:=fun k hk=>by
  have:=List.all_eq_true.1 hsz k (DataW.weights_mem_each (j:=2) (t:=27) (d:=d2) rfl rfl k hk)
  simpa using this
 obtain ⟨A2,l2,n2,c2,rfl,hl2,hc2,hn2,hi2,ho2⟩:=zI3 (hval 2 27 v2 rfl rfl) h2 hw2
 refine (runs_law x a1 A2 n2 c2 l2 hl2 (by omega) W hg hx hi2 ho2).mono fun e W' ⟨he,hb⟩=>⟨_,he,?_⟩
 obtain ⟨rfl,rfl⟩:=trodVars_none hV0
 exact law_post rowLaidOut (by rw [Tryz.params3];intro t ht;simp at ht;rcases ht with rfl | rfl | rfl<;>exact ⟨by kernel_rfl,of_decide_eq_true (by kernel_rfl)⟩) Tryz.underlying4 rfl rfl rfl hW' hb
theorem aruns_holds:Rows.ApexRunsSaid:=
 OpenClaim.holds_of_wide 3 Tryz.f3 rfl rfl rfl rfl rfl rfl rfl ⟨rfl,rfl,rfl,rfl,rfl⟩ rfl rfl rfl rfl rfl (by kernel_rfl) Tryz.func3 (by kernel_rfl)
  (of_decide_eq_true (by kernel_rfl)) (by unfold Func.isWrapper;rw [if_neg (of_decide_eq_false (by kernel_rfl))];exact ⟨rfl,rfl⟩)
  (fun os started H enc _=>aruns_lifted os started H enc)
theorem aruns_card:Rows.ApexRunsCardSaid:=
 Claim7.holds_tied_plain_at .later [] [.handle] true _ true
  aruns_holds (fun _ h=>by cases h) (by kernel_rfl) (fun _ h=>by cases h) apexRuns_row_tie rfl ⟨rfl,rfl⟩ (by kernel_rfl) rfl
  (fun f fn hf hfn=>by
    obtain rfl:f=3:=Option.some.inj ((show Tryz.prog.funcNamed "escapement/escapementlaw16.ApexRuns" = some 3 by kernel_rfl).symm.trans hf) |>.symm
    obtain rfl:fn=Tryz.f3:=(Option.some.inj (Tryz.func3.symm.trans hfn)).symm
    exact ⟨by kernel_rfl,fun j t ht=>by
     rw [Tryz.params3] at ht
     rcases j with _ | _ | _ | j
     ·obtain rfl:t=26:=by simpa using ht.symm
      exact (show Tryz.prog.wantsStandIn 26=false by kernel_rfl)
     ·obtain rfl:t=3:=by simpa using ht.symm
      exact (show Tryz.prog.wantsStandIn 3=false by kernel_rfl)
     ·obtain rfl:t=27:=by simpa using ht.symm
      exact (show Tryz.prog.wantsStandIn 27=false by kernel_rfl)
     ·simp at ht⟩)
  (by kernel_rfl)
#print axioms aruns_card
end Go.Proofs.YtfgpfmhjnccccaaGreatDoor
