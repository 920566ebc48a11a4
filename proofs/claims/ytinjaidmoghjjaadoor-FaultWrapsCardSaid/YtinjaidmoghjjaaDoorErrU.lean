/- The walk of the law FaultChain: it tells true. Conditions: errors.errorType holds the type error; what made makes of the argument. -/
import Derived.Test.YtinjaidmoghjjaaDoorErrT
namespace Go.Proofs.YtinjaidmoghjjaaDoor
open Go.RowKit Go.Extern.Stop Go.Stop Go.Extern

theorem made_empty (a : Option Addr) (cap : Nat) (w : World) : Calls Tryd.prog 7 #[.slice a 0 cap] w (MadePost w) := by
  have hfin : Hid (MadePost w (.returned (.tuple #[.nilIface, .string ⟨#[]⟩])) w) := Lib.hid ⟨[], none, rfl, ⟨by simp, trivial, ⟨fun n hn => absurd hn (by simp), fun m hm => by cases hm⟩⟩, Below.refl _ _⟩
  go_enter Tryd.func7, Tryd.ntmps7
  go_wp2_with fail
  refine wp_loop_rounds 1 ?_
  rw [rounds_succ]
  go_wp2_with fail
  go_ret2
  exact hfin.out

theorem codes_drop (l : List (Nat × Int × Int)) (t : Option Int) (i : Nat) (h : i ≤ l.length) : codes (l.drop i) t = (codes l t).drop i := by
  simp [codes, List.drop_append, Nat.sub_eq_zero_of_le h, List.map_drop]

def ChainRel (l : List (Nat × Int × Int)) (t : Option Int) (W : World) (ve vi : Value) (wr : World) : Prop :=
  ∃ i, i ≤ (codes l t).length ∧ vi = .int .i64 (i : Nat) ∧ ve = errAt l t i ∧ Below W.heap.size W wr

/-- What the law asks of an error at the i-th step. -/
structure Asks (l : List (Nat × Int × Int)) (t : Option Int) (W : World) (i : Nat) : Prop where
  code : ∀ wr, Below W.heap.size W wr → Calls Tryd.prog 11 #[errAt l t i] wr fun e w' => e = .returned (.int .i64 ((codes l t).getD i 0)) ∧ Below wr.heap.size wr w'
  root : ∀ wr, Below W.heap.size W wr → Calls Tryd.prog 12 #[errAt l t i] wr fun e w' => e = .returned (.int .i64 ((codes l t).getD ((codes l t).length - 1) 0)) ∧ Below wr.heap.size wr w'
  trail : ∀ wr, Below W.heap.size W wr → Calls Tryd.prog 9 #[errAt l t i] wr fun e w' => (∃ g cap, e = .returned (.slice (some ⟨g, 0, none⟩) ((codes l t).length - i) cap)) ∧ Below wr.heap.size wr w'
  has : ∀ j, i + j < (codes l t).length → ∀ wr, Below W.heap.size W wr → Calls Tryd.prog 15 #[errAt l t i, .int .i64 ((codes l t).getD (i + j) 0)] wr fun e w' => e = .returned (.bool true) ∧ Below wr.heap.size wr w'
  unwrap : ∀ wr, Below W.heap.size W wr → Calls Tryd.prog 18 #[errAt l t i] wr fun e w' => e = .returned (errAt l t (i + 1)) ∧ wr = w'

theorem asks (l : List (Nat × Int × Int)) (t : Option Int) (W : World) (hl : l.length ≤ 12) (hg : HasType W) (hin : ErrIn W t W.heap.size l) (i : Nat) (hi : i < (codes l t).length) : Asks l t W i := by
  have hlen := codes_len l t
  have hil : i ≤ l.length := by
    cases t <;> simp at hlen <;> omega
  have he : errAt l t i = errV (l.drop i) t := errAt_drop hil
  have hc := codes_drop l t i hil
  have hdl : (l.drop i).length ≤ 1000000 := by simp; omega
  have hty : ∀ wr, Below W.heap.size W wr → HasType wr := fun wr h => hg.keep (h.block 0 hg.pos)
  have hdin : ∀ wr, Below W.heap.size W wr → ErrIn wr t W.heap.size (l.drop i) := fun wr h => (hin.drop i).below h (Nat.le_refl _)
  refine ⟨fun wr h => ?_, fun wr h => ?_, fun wr h => ?_, fun j hj wr h => ?_, fun wr h => ?_⟩
  · rw [he]
    have := code_any W.heap.size (l.drop i) t wr hdl (hty wr h) h.size (hdin wr h)
    have e : codeOf (l.drop i) t = (codes l t).getD i 0 := by
      unfold codeOf
      rw [hc, List.headD_eq_head?_getD, List.head?_drop, List.getD_eq_getElem?_getD]
    rwa [e] at this
  · rw [he]
    have := root_any W.heap.size (l.drop i) t wr hdl (hty wr h) h.size (hdin wr h)
    have e : rootOf (l.drop i) t = (codes l t).getD ((codes l t).length - 1) 0 := by
      unfold rootOf
      rw [hc, List.getLastD_eq_getLast?, List.getLast?_eq_getElem?, List.getD_eq_getElem?_getD, List.getElem?_drop]
      congr 2
      simp; omega
    rwa [e] at this
  · rw [he]
    refine (trail_any W.heap.size (l.drop i) t wr hdl (hty wr h) h.size (hdin wr h)).mono ?_
    rintro e w' ⟨v, rfl, ho, hb⟩
    rw [hc] at ho
    have hlen2 : ((codes l t).drop i).length = (codes l t).length - i := by simp
    rw [hlen2] at ho
    obtain ⟨g, cap, rfl, -⟩ := own_at ho (by omega)
    exact ⟨⟨g, cap, rfl⟩, hb⟩
  · rw [he]
    have := has_any W.heap.size (l.drop i) t ((codes l t).getD (i + j) 0) wr hdl h.size (hdin wr h)
    have e : (codes l t).getD (i + j) 0 ∈ codes (l.drop i) t := by
      rw [hc, List.getD_eq_getElem?_getD, List.getElem?_eq_getElem hj]
      simp only [Option.getD_some]
      refine List.mem_iff_getElem?.2 ⟨j, ?_⟩
      rw [List.getElem?_drop, List.getElem?_eq_getElem hj]
    rwa [decide_eq_true e] at this
  · rcases Nat.lt_or_ge i l.length with hlt | hge
    · obtain ⟨h1, h2⟩ := ErrIn.node hin hlt
      rw [errAt_F hlt]
      exact unwrapF _ _ wr (cells3 ((h.block _ h1).trans h2)).2.2
    · obtain rfl : l.length = i := by omega
      rw [errAt_end, errAt_past (Nat.lt_succ_self _)]
      cases t with
      | none => simp at hlen; omega
      | some m => exact unwrapE _ wr

theorem errAt_isErr {l : List (Nat × Int × Int)} {t : Option Int} {i : Nat} (h : i < (codes l t).length) : (∃ m, errAt l t i = .iface 33 (.int .i64 m)) ∨ ∃ b, errAt l t i = .iface 36 (.pointer (some ⟨b, 0, none⟩)) := by
  have hlen := codes_len l t
  rcases Nat.lt_or_ge i l.length with hlt | hge
  · exact .inr ⟨_, errAt_F hlt⟩
  · cases t with
    | none => simp at hlen; omega
    | some m =>
      simp at hlen
      obtain rfl : l.length = i := by omega
      exact .inl ⟨m, errAt_end _ _⟩

theorem errAt_nil {l : List (Nat × Int × Int)} {t : Option Int} {i : Nat} (h : i = (codes l t).length) : errAt l t i = .nilIface := by
  have hlen := codes_len l t
  cases t with
  | none => simp at hlen; rw [h, hlen, errAt_end]; rfl
  | some m => simp at hlen; rw [h, hlen]; exact errAt_past (Nat.lt_succ_self _)
end Go.Proofs.YtinjaidmoghjjaaDoor
