/- Plain: what a pace counts and hears (chapter 11). No conditions beyond those that each states. -/
import Derived.Test.YthhbdnjihhpalaaPlB
import Derived.Test.YthhbdnjihhpalaaPlA
namespace Go.Proofs.Ythhbdnjihhpalaa.PacQ
open ClkP MidP

/-- Does a node's deviation count? -/
def takes (cold : Bool) (me : Int) (hs : List Bool) (i : Nat) : Bool := !cold || (hs.getD i false && decide ((i : Int) ≠ me))
/-- The deviations that count, of the first k nodes. -/
def cntd (cold : Bool) (me : Int) (hs : List Bool) (ds : List Int) (k : Nat) : List Int :=
  (List.range k).filterMap fun i => if takes cold me hs i = true then some (ds.getD i 0) else none
theorem getD_at {α : Type} {l : List α} {k : Nat} {x d : α} (h : l[k]? = some x) : l.getD k d = x := by
  rw [List.getD_eq_getElem?_getD, h]; rfl
variable {cold : Bool} {me : Int} {hs : List Bool} {ds : List Int} {k : Nat}
theorem cntd_zero : cntd cold me hs ds 0 = [] := rfl
theorem cntd_yes {d : Int} (h : takes cold me hs k = true) (hd : ds[k]? = some d) : cntd cold me hs ds (k + 1) = cntd cold me hs ds k ++ [d] := by
  unfold cntd
  rw [List.range_succ, List.filterMap_append]
  congr 1
  simp [h, hd]
theorem cntd_no (h : takes cold me hs k = false) : cntd cold me hs ds (k + 1) = cntd cold me hs ds k := by
  unfold cntd
  rw [List.range_succ, List.filterMap_append]
  simp [h]
theorem cntd_len : (cntd cold me hs ds k).length ≤ k := by
  have := List.length_filterMap_le (fun i => if takes cold me hs i = true then some (ds.getD i 0) else none) (List.range k)
  rwa [List.length_range] at this
theorem cntd_in {lo hi : Int} (h : In lo hi ds) (hk : k ≤ ds.length) : In lo hi (cntd cold me hs ds k) := fun x hx => by
  unfold cntd at hx
  obtain ⟨i, hi', e⟩ := List.mem_filterMap.1 hx
  have hi' := List.mem_range.1 hi'
  split at e
  · cases e
    exact h _ (by rw [List.getD_eq_getElem?_getD, List.getElem?_eq_getElem (by omega)]; exact List.getElem_mem _)
  · cases e
/-- One that isn't cold counts all. -/
theorem cntd_warm (hk : k ≤ ds.length) : cntd false me hs ds k = ds.take k := by
  induction k with
  | zero => simp [cntd]
  | succ k ih =>
    have hd : ds[k]? = some ds[k] := List.getElem?_eq_getElem (by omega)
    rw [cntd_yes rfl hd, ih (by omega), List.take_add_one, hd]; rfl
theorem in_set {lo hi x : Int} {l : List Int} (h : In lo hi l) (hx : lo ≤ x ∧ x ≤ hi) (k : Nat) : In lo hi (l.set k x) := fun y hy => by
  rcases List.mem_or_eq_of_mem_set hy with h1 | h1
  · exact h y h1
  · subst h1; exact hx
theorem in_rep {lo hi : Int} (h : lo ≤ 0 ∧ 0 ≤ hi) (n : Nat) : In lo hi (List.replicate n 0) := fun y hy => by
  rw [List.eq_of_mem_replicate hy]; exact h

/-- The deviation of a frame that comes. -/
def devT (c : TableP.Cfg) (since rate : Int) (node : Int) (real : Int) : Int := localT since rate real - SndP.sendT c node - SndP.meanT c
/-- Times within which a frame may come. -/
def Soon (d : Int) : Prop := -17179869184 ≤ d ∧ d ≤ 17179869184
/-- Deviations as great as may be. -/
def Devs (l : List Int) : Prop := In (-68719476736) 68719476736 l
theorem dev_small {c : TableP.Cfg} (h : SndP.Nums c) {since rate real n : Int} (hn : 0 ≤ n ∧ n ≤ 8) (hr : RateOk rate) (hd : Soon (real - since)) :
    (-34359738369 ≤ localT since rate real ∧ localT since rate real ≤ 34359738369) ∧
    (-34510733313 ≤ localT since rate real - SndP.sendT c n ∧ localT since rate real - SndP.sendT c n ≤ 34359738369) ∧
    -68719476736 ≤ devT c since rate n real ∧ devT c since rate n real ≤ 68719476736 := by
  have h1 := local_small hr hd.1 hd.2
  have hs := h.slot
  have hm := h.margin
  have hx := h.dmin
  have hy := h.dmax
  have h2 := SndP.mul_in hn ⟨by omega, hs.2⟩
  unfold devT SndP.sendT SndP.meanT
  omega
end Go.Proofs.Ythhbdnjihhpalaa.PacQ
