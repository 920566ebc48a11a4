/- FaultChain: for every slice of links the law returns true, and the argument reads afterwards as before; the row lists errors.errorType, and the card ties it to the program's text. Conditions: those that the given row prints. -/
import Derived.Test.YtinjaidmoghjjaaDoorErrV
import Derived.Test.YtinjaidmoghjjaaDoorErrW
import Derived.Test.YtinjaidmoghjjaaDoorTie
import Derived.Test.YtinjaidmoghjjaaDoorCards
namespace Go.Proofs.YtinjaidmoghjjaaDoor
open Go.ChangeShapes Go.WideShapes Go.RowKit

theorem made_of (w : World) (v : Value) (hl : LinksAt w v) : (∃ a len cap, v = .slice a len cap) ∧ ∀ W, Below w.heap.size w W → Calls Tryd.prog 7 #[v] W (MadePost W) := by
  rcases hl with ⟨a, cap, rfl⟩ | ⟨b, off, len, cap, c, at_, bare, rfl, hb, hlen, hc, ha⟩
  · exact ⟨⟨_, _, _, rfl⟩, fun W _ => made_empty a cap W⟩
  · refine ⟨⟨_, _, _, rfl⟩, fun W hW => made_any b off len cap c at_ bare W (Nat.lt_of_lt_of_le hb hW.size) hlen (fun i hi => ?_) ha⟩
    obtain ⟨h0, h1, h2⟩ := hc i hi
    exact ⟨(hW.cell (by exact hb)).trans h0, (hW.cell (by exact hb)).trans h1, (hW.cell (by exact hb)).trans h2⟩

set_option maxRecDepth 100000 in
theorem chain_lifted (os : Os) (started : os.Started) (H : Type) (enc : TypeId × Value → H) :
    ReturnsInHanded {} Tryd.checked os 5 .any (fun w args => (Rows.faultChainSpec.pre enc Tryd.prog Tryd.f5 [] false w args ∧ laidMetH Tryd.prog laidOf w) ∧ sizedMet enc Tryd.prog Tryd.f5 (OpenSpec.ofChange Rows.faultChainSpec) false w args)
      (Rows.faultChainSpec.post enc Tryd.prog Tryd.f5 false true false false) := by
  refine returnsInHanded_of_change_and (C := Tryd.checked) (X := fun w _ => laidMetH Tryd.prog laidOf w) (fun _ _ _ hh h => h.of_heap hh) own started (by kernel_rfl) Tryd.func5
    (ChangeSpec.witness_at (enc := enc) (C := Tryd.checked) (os := os) (X := fun w _ => laidMetH Tryd.prog laidOf w) false (laidWorld os) #[.slice none 0 0] 8 rfl (by kernel_rfl) (by kernel_rfl) (by kernel_rfl) (by kernel_rfl) (by kernel_rfl) (laidWorld_met os _)) ?_
  intro W base args ds gs before hval0 hW _ _ hL _
  have hval : ∀ (j : Nat) t v, Tryd.f5.params[j]? = some t → args[j]? = some v → Value.okWide Tryd.prog W .any base t v := hval0
  have hW' := hW
  obtain ⟨p, q, hA0, hV0, -, -, -⟩ := hW
  have hA : DataW.TrodAll enc Tryd.prog W 0 (fun _ => true) true Tryd.f5.params.toList args.toList ds p := hA0
  rw [Tryd.params5] at hA hval
  obtain ⟨v0, d0, rfl, rfl, h0⟩ := trodAll_one hA
  obtain ⟨⟨a, len, cap, rfl⟩, hmade⟩ := made_of W v0 (links_open (hval 0 22 v0 rfl rfl) h0)
  refine (chain_law a len cap W (hasType_of_laid hL) hmade).mono fun e W' ⟨he, hb⟩ => ⟨_, he, ?_⟩
  obtain ⟨rfl, rfl⟩ := trodVars_none hV0
  exact law_post rowLaidOut (by rw [Tryd.params5]; intro t ht; simp at ht; subst ht; exact ⟨by kernel_rfl, of_decide_eq_true (by kernel_rfl)⟩) Tryd.underlying4 rfl rfl rfl hW' hb

theorem chain_holds : Rows.FaultChainSaid :=
  OpenClaim.holds_of_wide 5 Tryd.f5 rfl rfl rfl rfl rfl rfl rfl ⟨rfl, rfl, rfl, rfl, rfl⟩ rfl rfl rfl rfl rfl (by kernel_rfl) Tryd.func5 (by kernel_rfl)
    (of_decide_eq_true (by kernel_rfl)) (by unfold Func.isWrapper; rw [if_neg (of_decide_eq_false (by kernel_rfl))]; exact ⟨rfl, rfl⟩)
    (fun os started H enc _ => chain_lifted os started H enc)

theorem chain_card : Rows.FaultChainCardSaid :=
  Claim7.holds_tied_plain_at .later [] [.handle] true _ true
    chain_holds (fun _ h => by cases h) (by kernel_rfl) (fun _ h => by cases h) faultChain_row_tie rfl ⟨rfl, rfl⟩ (by kernel_rfl) rfl
    (fun f fn hf hfn => by
      obtain rfl : f = 5 := Option.some.inj ((show Tryd.prog.funcNamed "escapement/escapementlaw01.FaultChain" = some 5 by kernel_rfl).symm.trans hf) |>.symm
      obtain rfl : fn = Tryd.f5 := (Option.some.inj (Tryd.func5.symm.trans hfn)).symm
      exact ⟨by kernel_rfl, fun j t ht => by
        rw [Tryd.params5] at ht
        have h3 : t = 22 := by
          rcases j with _ | j
          · simpa using ht.symm
          · simp at ht
        subst h3
        exact (show Tryd.prog.wantsStandIn 22 = false by kernel_rfl)⟩)
    (by kernel_rfl)
end Go.Proofs.YtinjaidmoghjjaaDoor
