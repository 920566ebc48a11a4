/- PaceTurns: boxed arguments, a pace and the document's, side by side; a frame that both hear. Conditions: where they lie, numbers in their ranges. -/
import Derived.Test.YthhbdnjihhpalaaPacG
import Derived.Test.YthhbdnjihhpalaaPacArg
namespace Go.Proofs.Ythhbdnjihhpalaa
open Go.RowKit
set_option maxRecDepth 100000

def whoCells (me since rate : Int) (cold : Bool) : Array Value := #[.int .i64 me, .int .i64 since, .int .i64 rate, .bool cold]
/-- Boxed tables and a boxed beginning. -/
def boxW (w : World) (x : CfgC) (me since rate : Int) (cold : Bool) : World := (boxC w x).alloc (.cells (whoCells me since rate cold) 28)
theorem boxW_size (w : World) (x : CfgC) (me since rate : Int) (cold : Bool) : (boxW w x me since rate cold).heap.size = w.heap.size + 1 + 1 := by simp [boxW, boxC]
theorem boxW_below (w : World) (x : CfgC) (me since rate : Int) (cold : Bool) : Below w.heap.size w (boxW w x me since rate cold) := (boxC_below w x).alloc (boxC_below w x).size _
def BoxWS (w : World) (x : CfgC) (me since rate : Int) (cold : Bool) (W : World) : Prop := Below (boxW w x me since rate cold).heap.size (boxW w x me since rate cold) W
section
variable {w : World} {x : CfgC} {me since rate : Int} {cold : Bool} {W W' : World}
theorem BoxWS.start (w : World) (x : CfgC) (me since rate : Int) (cold : Bool) : BoxWS w x me since rate cold (boxW w x me since rate cold) := Below.refl _ _
theorem BoxWS.drew (h : BoxWS w x me since rate cold W) : BoxWS w x me since rate cold W.drew := Below.drew h
theorem BoxWS.step (h : BoxWS w x me since rate cold W) (hb : Below W.heap.size W W') : BoxWS w x me since rate cold W' := h.trans (hb.mono h.size)
theorem BoxWS.below (h : BoxWS w x me since rate cold W) : Below w.heap.size w W := (boxW_below w x me since rate cold).trans (h.mono (by rw [boxW_size]; omega))
theorem BoxWS.box (h : BoxWS w x me since rate cold W) : BoxS w x W := ((Below.refl (boxC w x).heap.size (boxC w x)).alloc (Nat.le_refl _) _).trans (h.mono (by rw [boxW_size, boxC_size]; omega))
theorem BoxWS.cells (h : BoxWS w x me since rate cold W) : Box11 W w.heap.size x := h.box.cells
theorem BoxWS.who (h : BoxWS w x me since rate cold W) : W.heap[w.heap.size + 1]? = some (.cells (whoCells me since rate cold) 28 (0, 0)) := by
  rw [h.block (w.heap.size + 1) (by rw [boxW_size]; omega)]
  have := heap_alloc_new (boxC w x) (.cells (whoCells me since rate cold) 28)
  rwa [boxC_size] at this
theorem BoxWS.w0 (h : BoxWS w x me since rate cold W) : W.cell? ⟨w.heap.size + 1, 0, none⟩ = some (.int .i64 me) := cell_at h.who 0 rfl
theorem BoxWS.w1 (h : BoxWS w x me since rate cold W) : W.cell? ⟨w.heap.size + 1, 1, none⟩ = some (.int .i64 since) := cell_at h.who 1 rfl
theorem BoxWS.w2 (h : BoxWS w x me since rate cold W) : W.cell? ⟨w.heap.size + 1, 2, none⟩ = some (.int .i64 rate) := cell_at h.who 2 rfl
theorem BoxWS.w3 (h : BoxWS w x me since rate cold W) : W.cell? ⟨w.heap.size + 1, 3, none⟩ = some (.bool cold) := cell_at h.who 3 rfl
end

/-- Boxes, a pace (what it heard: hs, ds), the document's (hs2, ds2). -/
structure PT (w : World) (x y : CfgC) (me since rate : Int) (cold : Bool) (b bk rb gd gh N : Nat) (hs : List Bool) (ds : List Int) (hs2 : List Bool) (ds2 : List Int) (W : World) : Prop where
  box : BoxWS w x me since rate cold W
  pace : PaceIn W b y me cold bk since rate hs ds
  ref : RefIn W (boxW w x me since rate cold).heap.size rb x me since rate cold gd gh N hs2 ds2
  lo : (boxW w x me since rate cold).heap.size ≤ b
section
variable {w : World} {x y : CfgC} {me since rate : Int} {cold : Bool} {b bk rb gd gh N : Nat} {hs hs2 hs' : List Bool} {ds ds2 ds' : List Int} {W W' : World}
theorem PT.step (h : PT w x y me since rate cold b bk rb gd gh N hs ds hs2 ds2 W) (hb : Below W.heap.size W W') : PT w x y me since rate cold b bk rb gd gh N hs ds hs2 ds2 W' := ⟨h.box.step hb, h.pace.below hb, h.ref.below hb, h.lo⟩
theorem PT.drewN (h : PT w x y me since rate cold b bk rb gd gh N hs ds hs2 ds2 W) (m : Nat) : PT w x y me since rate cold b bk rb gd gh N hs ds hs2 ds2 (W.drewN m) := h.step (below_drewNc (Below.refl _ _) m)
theorem PT.ne (h : PT w x y me since rate cold b bk rb gd gh N hs ds hs2 ds2 W) : rb ≠ b := fun e => by
  have h1 := h.ref.at_
  rw [e, h.pace.at_, Option.some.injEq, Obj.cells.injEq] at h1
  exact absurd h1.2.1 (by decide)
theorem PT.hear (h : PT w x y me since rate cold b bk rb gd gh N hs ds hs2 ds2 W) (hg : PaceIn W' b y me cold bk since rate hs' ds') (ha : Apart (fun q => q = b) W W') : PT w x y me since rate cold b bk rb gd gh N hs' ds' hs2 ds2 W' :=
  ⟨h.box.trans (ha.below h.box.size (fun k hk => by subst hk; exact h.lo)), hg, h.ref.apart ha (fun q hq e => by
    subst e
    rcases hq with rfl | rfl | rfl
    · exact h.ne rfl
    · exact own_off h.ref.devs h.pace.at_ (by decide) _ rfl rfl
    · exact own_off h.ref.has h.pace.at_ (by decide) _ rfl rfl), h.lo⟩
theorem PT.rhear (h : PT w x y me since rate cold b bk rb gd gh N hs ds hs2 ds2 W) (hg : RefIn W' (boxW w x me since rate cold).heap.size rb x me since rate cold gd gh N hs' ds') (ha : Apart (fun q => q = gd ∨ q = gh) W W') : PT w x y me since rate cold b bk rb gd gh N hs ds hs' ds' W' :=
  ⟨h.box.trans (ha.below h.box.size (fun k hk => by
    rcases hk with rfl | rfl
    · exact (h.ref.devs.lt _ rfl).1
    · exact (h.ref.has.lt _ rfl).1)), h.pace.apart ha (fun e => by
    rcases e with e | e
    · exact own_off h.ref.devs h.pace.at_ (by decide) gd rfl e.symm
    · exact own_off h.ref.has h.pace.at_ (by decide) gh rfl e.symm) (fun e => by
    rcases e with e | e
    · exact own_off h.ref.devs h.pace.clk.inn (by decide) gd rfl e.symm
    · exact own_off h.ref.has h.pace.clk.inn (by decide) gh rfl e.symm), hg, h.lo⟩
end
/-- Either hears, or neither: with the same deviation. -/
def Hears (w : World) (x y : CfgC) (me since rate : Int) (cold : Bool) (b bk rb gd gh N : Nat) (hs : List Bool) (ds : List Int) (no t : Int) (r : Bool) (hs' : List Bool) (ds' : List Int) : Prop :=
  PacQ.Devs ds' ∧ (∀ W, PT w x y me since rate cold b bk rb gd gh N hs ds hs ds W → Calls Try.prog 14 #[pv b, .int .i64 no, .int .i64 t] W (fun e w' => e = .returned (.bool r) ∧ PT w x y me since rate cold b bk rb gd gh N hs' ds' hs ds w')) ∧
  (∀ W, PT w x y me since rate cold b bk rb gd gh N hs' ds' hs ds W → Calls Try.prog 18 #[qv rb, .int .i64 no, .int .i64 t] W (fun e w' => e = .returned (.bool r) ∧ PT w x y me since rate cold b bk rb gd gh N hs' ds' hs' ds' w'))
theorem hears_no {w : World} {x y : CfgC} {me since rate : Int} {cold : Bool} {b bk rb gd gh N : Nat} {hs : List Bool} {ds : List Int} {no t : Int} (hd : PacQ.Devs ds)
    (h1 : ∀ W, PaceIn W b y me cold bk since rate hs ds → Calls Try.prog 14 #[pv b, .int .i64 no, .int .i64 t] W (Quiet (.bool false) W))
    (h2 : ∀ W, RefIn W (boxW w x me since rate cold).heap.size rb x me since rate cold gd gh N hs ds → Calls Try.prog 18 #[qv rb, .int .i64 no, .int .i64 t] W (Quiet (.bool false) W)) :
    Hears w x y me since rate cold b bk rb gd gh N hs ds no t false hs ds :=
  ⟨hd, fun W hW => (h1 W hW.pace).mono fun e w' ⟨he, m, hm⟩ => ⟨he, by rw [hm]; exact hW.drewN m⟩, fun W hW => (h2 W hW.ref).mono fun e w' ⟨he, m, hm⟩ => ⟨he, by rw [hm]; exact hW.drewN m⟩⟩
theorem hear_both (w : World) (x y : CfgC) (me since rate : Int) (cold : Bool) (b bk rb gd gh N : Nat) (hs : List Bool) (ds : List Int) (no t : Int) (e : y.plain = x.plain) (hN : x.nodes = (N : Int)) (hh : TableP.headOk x.plain) (hr : RateIn rate) (ht : PacQ.Soon (t - since)) (hd : PacQ.Devs ds) (hl : hs.length = 7) :
    ∃ r hs' ds', Hears w x y me since rate cold b bk rb gd gh N hs ds no t r hs' ds' := by
  have hx7 := (SndP.nums_in hh).nodes
  have hn1 : 1 ≤ x.nodes := hx7.1
  have hn7 : x.nodes ≤ 7 := hx7.2
  have hy : y.nodes = x.nodes := congrArg TableP.Cfg.nodes e
  have hhy : TableP.headOk y.plain := by rw [e]; exact hh
  by_cases h0 : no < 0
  · exact ⟨false, hs, ds, hears_no hd (fun W hW => phear_low y me cold bk since rate hs ds no t b W hW ⟨h0, by omega⟩) (fun W hW => rhear_low x me since rate cold gd gh N hs ds no t _ rb W hW ⟨h0, hn1⟩)⟩
  by_cases h1 : x.nodes ≤ no
  · exact ⟨false, hs, ds, hears_no hd (fun W hW => phear_high y me cold bk since rate hs ds no t b W hW ⟨by omega, by omega⟩) (fun W hW => rhear_high x me since rate cold gd gh N hs ds no t _ rb W hW ⟨by omega, h1⟩)⟩
  obtain ⟨k, rfl⟩ := Int.eq_ofNat_of_zero_le (show 0 ≤ no by omega)
  have hkN : k < N := by omega
  obtain ⟨p, hp⟩ : ∃ p, hs[k]? = some p := ⟨_, List.getElem?_eq_getElem (by omega)⟩
  by_cases hm : (k : Int) = me ∧ cold = false
  · obtain ⟨hm1, hm2⟩ := hm
    cases p with
    | true => exact ⟨false, hs, ds, hears_no hd (fun W hW => phear_again y me cold bk since rate hs ds k t b W hW ⟨by omega, by omega⟩ hp) (fun W hW => rhear_own x me since rate cold gd gh N hs ds k t _ rb W hW ⟨by omega, hN⟩ hm1 hm2)⟩
    | false => exact ⟨false, hs, ds, hears_no hd (fun W hW => phear_own y me cold bk since rate hs ds k t b W hW ⟨by omega, by omega⟩ hp hm1 hm2) (fun W hW => rhear_own x me since rate cold gd gh N hs ds k t _ rb W hW ⟨by omega, hN⟩ hm1 hm2)⟩
  cases p with
  | true =>
    refine ⟨false, hs, ds, hears_no hd (fun W hW => phear_again y me cold bk since rate hs ds k t b W hW ⟨by omega, by omega⟩ hp) (fun W hW => ?_)⟩
    by_cases hm1 : (k : Int) = me
    · exact rhear_again2 x me since rate cold gd gh N hs ds k t _ rb W hW ⟨by omega, hN⟩ hp hm1 (by cases cold with | true => rfl | false => exact absurd ⟨hm1, rfl⟩ hm)
    · exact rhear_again1 x me since rate cold gd gh N hs ds k t _ rb W hW ⟨by omega, hN⟩ hp hm1
  | false =>
    have hm2 : (k : Int) ≠ me ∨ cold = true := by
      by_cases hm1 : (k : Int) = me
      · exact .inr (by cases cold with | true => rfl | false => exact absurd ⟨hm1, rfl⟩ hm)
      · exact .inl hm1
    have hdv := (PacQ.dev_small (SndP.nums_in hh) (n := (k : Int)) ⟨by omega, by omega⟩ (show ClkP.RateOk rate from hr) ht).2.2
    refine ⟨true, hs.set k true, ds.set k (PacQ.devT x.plain since rate k t), PacQ.in_set hd hdv k, fun W hW => ?_, fun W hW => ?_⟩
    · have h3 := phear_yes y me cold bk since rate hs ds k (by omega) hp hm2 t ht b W hW.pace hhy
      rw [e] at h3
      exact h3.mono fun e' w' ⟨he, hg, ha⟩ => ⟨he, hW.hear hg ha⟩
    · exact (rhear_yes x me since rate cold gd gh N hs ds k hN hkN hp hm2 hr t ht _ rb W hW.ref hh).mono fun e' w' ⟨he, hg, ha⟩ => ⟨he, hW.rhear hg ha⟩
end Go.Proofs.Ythhbdnjihhpalaa
