/- The two monitors side by side (DuoX): contracts of Report, Seal. Conditions: where they lie. -/
import Derived.Test.YtabndibenffngaaDoorHeaT
import Derived.Test.YtabndibenffngaaDoorHeaG
import Derived.Test.YtabndibenffngaaDoorFraJ
namespace Go.Proofs.YtabndibenffngaaDoor
open Go.RowKit HeaP Go.Extern.Stop Go.Stop Go.Extern
set_option maxRecDepth 100000

theorem heads_ne {w : World} {a b : Nat} {cs cs' : Array Value} {t t' : TypeId} (h : w.heap[a]? = some (.cells cs t (0, 0))) (h' : w.heap[b]? = some (.cells cs' t' (0, 0))) (hne : t ≠ t') : a ≠ b := fun e => by
  subst e
  rw [h] at h'
  simp only [Option.some.injEq, Obj.cells.injEq] at h'
  exact hne h'.2.1
/-- The program's monitor knows m1, the document's m2. -/
def DuoX (W : World) (b B r nd : Nat) (vs : Value) (parts : List TableP.Part) (m1 m2 : Mon) : Prop :=
  ∃ vp vr vl vw vo, MonIn W b b nd (parts.map sayOf) m1 vp vr ∧ RMem W B r nd vs vl vw vo parts m2 ∧ ∀ k, vr.ownBlock = some k → vo.ownBlock ≠ some k
theorem duo_cross {W : World} {b B r nd : Nat} {vs vp vr vl vw vo : Value} {parts : List TableP.Part} {rec : List (List Nat)} {m1 m2 : Mon} (h1 : MonIn W b b nd rec m1 vp vr) (h2 : RMem W B r nd vs vl vw vo parts m2) (hd : ∀ k, vr.ownBlock = some k → vo.ownBlock ≠ some k) :
    (∀ k, RFd r vl vw vo k → ¬ MonF b vp vr k) ∧ (∀ k, vs.ownBlock = some k → ¬ MonF b vp vr k) := by
  refine ⟨fun k hk hm => ?_, fun k hk hm => ?_⟩
  · rcases hk with rfl | hk | hk | hk <;> rcases hm with e | hm | hm
    · exact heads_ne h2.hd h1.hd (by decide) e
    · exact own_off h1.wat h2.hd (by decide) _ hm rfl
    · exact own_off h1.recs h2.hd (by decide) _ hm rfl
    · exact own_off h2.last h1.hd (by decide) k hk e
    · exact own_tag6 h2.last h1.wat (by decide) k hk hm
    · exact own_tag6 h2.last h1.recs (by decide) k hk hm
    · exact own_off h2.row h1.hd (by decide) k hk e
    · exact own_tag6 h2.row h1.wat (by decide) k hk hm
    · exact own_tag6 h2.row h1.recs (by decide) k hk hm
    · exact own_off h2.out h1.hd (by decide) k hk e
    · exact own_tag6 h2.out h1.wat (by decide) k hk hm
    · exact hd k hm hk
  · rcases hm with e | hm | hm
    · exact own_off h2.ps h1.hd (by decide) k hk e
    · exact own_tag6 h2.ps h1.wat (by decide) k hk hm
    · exact own_tag6 h2.ps h1.recs (by decide) k hk hm
theorem DuoX.keep {W W' : World} {b B r nd : Nat} {vs : Value} {parts : List TableP.Part} {m1 m2 : Mon} (h : DuoX W b B r nd vs parts m1 m2) (hb : Below W.heap.size W W') : DuoX W' b B r nd vs parts m1 m2 := by
  obtain ⟨vp, vr, vl, vw, vo, h1, h2, h3⟩ := h
  exact ⟨vp, vr, vl, vw, vo, h1.keep hb, h2.keep hb, h3⟩
theorem DuoX.v {W : World} {b B r nd : Nat} {vs : Value} {parts : List TableP.Part} {m1 m2 : Mon} (h : DuoX W b B r nd vs parts m1 m2) : MonV (parts.map sayOf) m1 := by
  obtain ⟨vp, vr, vl, vw, vo, h1, h2, h3⟩ := h
  exact h1.v
/-- What lies in the law's acts stays. -/
def KeepA (W w' : World) : Prop := ∀ (q : Nat) (cs : Array Value), W.heap[q]? = some (.cells cs 57 (0, 0)) → w'.heap[q]? = some (.cells cs 57 (0, 0))
theorem keepA_of {W w' : World} {B b nd : Nat} {rec : List (List Nat)} {m : Mon} {vp vr : Value} (h1 : MonIn W B b nd rec m vp vr) (h5 : Apart (MonF b vp vr) W w') : KeepA W w' := fun q cs hq => by
  refine (h5.block q (lt_of_block hq) (fun hm => ?_)).trans hq
  rcases hm with e | hm | hm
  · exact heads_ne hq h1.hd (by decide) e
  · exact own_off h1.wat hq (by decide) q hm rfl
  · exact own_off h1.recs hq (by decide) q hm rfl
def DxP (W : World) (b B r nd : Nat) (vs : Value) (parts : List TableP.Part) (m1 m2 : Mon) (rd : Nat) (part : Int) (k : Nat) (e : Ending) (w' : World) : Prop :=
  e = .returned (.tuple #[.int .u8 ((reportT (parts.map sayOf) nd m1 rd part k).1.1 : Nat), errH (reportT (parts.map sayOf) nd m1 rd part k).1.2]) ∧ DuoX w' b B r nd vs parts (reportT (parts.map sayOf) nd m1 rd part k).2 m2 ∧ Below b W w' ∧ KeepA W w'
theorem dx_health {W : World} {b B r nd : Nat} {vs : Value} {parts : List TableP.Part} {m1 m2 : Mon} (h : DuoX W b B r nd vs parts m1 m2) (hn : parts.length ≤ 255) (rd : Nat) (part : Int) (k : Nat) :
    Calls Tryd.prog 24 #[monH b, .int .u32 (rd : Nat), .int .i64 part, .int .u8 (k : Nat)] W (DxP W b B r nd vs parts m1 m2 rd part k) := by
  obtain ⟨vp, vr, vl, vw, vo, h1, h2, h3⟩ := h
  refine (hreport_any W b b nd (parts.map sayOf) m1 vp vr h1 rd part k (by rw [List.length_map]; exact hn)).mono fun e w' hr => ?_
  have hb := hr.below h1 (Nat.le_of_lt (lt_of_block h1.hd))
  obtain ⟨he, vr', h4, h5, h6⟩ := hr
  obtain ⟨c1, c2⟩ := duo_cross h1 h2 h3
  refine ⟨he, ⟨vp, vr', vl, vw, vo, h4, h2.apart h5 c1 c2, fun k hk hk2 => ?_⟩, hb, keepA_of h1 h5⟩
  rcases h6 with h6 | ⟨y, h6, h7⟩
  · exact h3 k (by rw [← h6]; exact hk) hk2
  · have e1 : y = k := Option.some.inj (h6.symm.trans hk)
    have := (h2.lt (.inr (.inr (.inr hk2)))).2
    omega
def DxR (W : World) (b B r nd : Nat) (vs : Value) (parts : List TableP.Part) (m1 m2 : Mon) (rd : Nat) (part : Int) (k : Nat) (e : Ending) (w' : World) : Prop :=
  e = .returned (.tuple #[.int .u8 ((reportT (parts.map sayOf) nd m2 rd part k).1.1 : Nat), strV (txt15 (reportT (parts.map sayOf) nd m2 rd part k).1.2)]) ∧ DuoX w' b B r nd vs parts m1 (reportT (parts.map sayOf) nd m2 rd part k).2 ∧ Below B W w'
theorem dx_ref {W : World} {b B r nd : Nat} {vs : Value} {parts : List TableP.Part} {m1 m2 : Mon} (h : DuoX W b B r nd vs parts m1 m2) (hv : MonV (parts.map sayOf) m2) (hro : ∀ p, rowOf m2 p ≤ 1000) (hnd : nd ≤ 255) (hn : parts.length ≤ 255) (hB : B ≤ W.heap.size) (rd : Nat) (part : Int) (k : Nat) :
    Calls Tryd.prog 25 #[.pointer (some ⟨r, 0, none⟩), .int .u32 (rd : Nat), .int .i64 part, .int .i64 (k : Nat)] W (DxR W b B r nd vs parts m1 m2 rd part k) := by
  obtain ⟨vp, vr, vl, vw, vo, h1, h2, h3⟩ := h
  refine (rreport_any W B r nd vs vl vw vo parts m2 hv hro h2 hnd rd part k hn hB).mono fun e w' hr => ?_
  obtain ⟨he, vo', h4, h5, h6⟩ := hr
  obtain ⟨c1, c2⟩ := duo_cross h1 h2 h3
  refine ⟨he, ⟨vp, vr, vl, vw, vo', h1.apart h5 (fun k a b => c1 k b a), h4, fun k hk hk2 => ?_⟩, h5.below hB fun k hk => (h2.lt hk).1⟩
  rcases h6 with h6 | ⟨y, h6, h7⟩
  · exact h3 k hk (by rw [← h6]; exact hk2)
  · have e1 : y = k := Option.some.inj (h6.symm.trans hk2)
    have := (h1.lt (.inr (.inr hk))).2
    omega
/-- Seal of both, one behind the other: the same records. -/
def DxS1 (W : World) (b B r nd : Nat) (vs : Value) (parts : List TableP.Part) (m1 m2 : Mon) (e : Ending) (w' : World) : Prop :=
  ∃ vr, e = .returned vr ∧ w'.ownsRow b 69 5 vr m1.out.length (recsVals m1.out) ∧ (∃ vp vl vw vo, MonIn w' b b nd (parts.map sayOf) (sealM m1) vp (.slice none 0 0) ∧ RMem w' B r nd vs vl vw vo parts m2 ∧ ∀ k, vr.ownBlock = some k → vo.ownBlock ≠ some k) ∧ Below b W w'
theorem dx_seal1 {W : World} {b B r nd : Nat} {vs : Value} {parts : List TableP.Part} {m1 m2 : Mon} (h : DuoX W b B r nd vs parts m1 m2) :
    Calls Tryd.prog 22 #[monH b] W (DxS1 W b B r nd vs parts m1 m2) := by
  obtain ⟨vp, vr, vl, vw, vo, h1, h2, h3⟩ := h
  refine (hseal_any W b b nd (parts.map sayOf) m1 vp vr h1).mono fun e w' hs => ?_
  obtain ⟨he, h4, h5, h6⟩ := hs
  obtain ⟨c1, c2⟩ := duo_cross h1 h2 h3
  exact ⟨vr, he, h4, ⟨vp, vl, vw, vo, h5, h2.apart h6 (fun k hk e => c1 k hk (.inl e)) (fun k hk e => c2 k hk (.inl e)), h3⟩, h6.below (Nat.le_of_lt (lt_of_block h1.hd)) fun k hk => by rw [hk]; exact Nat.le_refl _⟩
def DxS2 (W : World) (b B r nd : Nat) (vs vr : Value) (parts : List TableP.Part) (m1 m2 : Mon) (e : Ending) (w' : World) : Prop :=
  ∃ A cap A2 cap2, vr = .slice A m1.out.length cap ∧ e = .returned (.slice A2 m2.out.length cap2) ∧ RecsIn w' A m1.out ∧ RecsIn w' A2 m2.out ∧ DuoX w' b B r nd vs parts (sealM m1) (sealM m2) ∧ Below B W w'
theorem dx_seal2 {W : World} {b B r nd : Nat} {vs vr : Value} {parts : List TableP.Part} {m1 m2 : Mon} (ho : W.ownsRow b 69 5 vr m1.out.length (recsVals m1.out)) (h : ∃ vp vl vw vo, MonIn W b b nd (parts.map sayOf) (sealM m1) vp (.slice none 0 0) ∧ RMem W B r nd vs vl vw vo parts m2 ∧ ∀ k, vr.ownBlock = some k → vo.ownBlock ≠ some k) (hB : B ≤ W.heap.size) :
    Calls Tryd.prog 23 #[.pointer (some ⟨r, 0, none⟩)] W (DxS2 W b B r nd vs vr parts m1 m2) := by
  obtain ⟨vp, vl, vw, vo, h1, h2, h3⟩ := h
  refine (rseal15_any W B r nd vs vl vw vo parts m2 h2).mono fun e w' hs => ?_
  obtain ⟨he, h4, h5, h6⟩ := hs
  obtain ⟨c1, c2⟩ := duo_cross h1 h2 (fun k hk => by cases hk)
  have ho2 := own_apart ho h6 (fun k hk e => own_off ho h2.hd (by decide) k hk e)
  obtain ⟨A, cap, rfl, -, hR⟩ := RecsIn.own ho2
  obtain ⟨A2, cap2, rfl, -, hR2⟩ := RecsIn.own h4
  exact ⟨A, cap, A2, cap2, rfl, he, hR, hR2, ⟨vp, _, vl, vw, _, h1.apart h6 (fun k a e => c1 k (.inl e) a), h5, fun k hk => by cases hk⟩, h6.below hB fun k hk => by rw [hk]; exact h2.base⟩
end Go.Proofs.YtabndibenffngaaDoor
