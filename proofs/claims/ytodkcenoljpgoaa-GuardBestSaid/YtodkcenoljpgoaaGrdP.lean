/- Plain: what the guardian says (chapter 9); at no time do two nodes' bytes pass. No conditions. -/
import Derived.Test.YtodkcenoljpgoaaSndP
namespace Go.Proofs.Ytodkcenoljpgoaa.GrdP
open TableP

def dueT (c : Cfg) (n : Int) : Int := SndP.sendT c n + SndP.meanT c
/-- What is said of bytes of node k that come at a: those of the nodes in ps passed already. -/
def verd (c : Cfg) (ps : List Bool) (k : Nat) (a : Int) : Int :=
  if a < dueT c k - c.margin then 2 else if dueT c k + c.margin < a then 3 else if ps[k]? = some true then 4 else 1
def next (c : Cfg) (ps : List Bool) (k : Nat) (a : Int) : List Bool := if verd c ps k a = 1 then ps.set k true else ps

theorem due_in {c : Cfg} (h : SndP.Nums c) {n : Int} (hn : 0 ≤ n ∧ n ≤ 8) : 0 ≤ dueT c n ∧ dueT c n ≤ 152043520 ∧ 0 ≤ SndP.sendT c n ∧ SndP.sendT c n ≤ 150994944 ∧ 0 ≤ SndP.meanT c ∧ SndP.meanT c ≤ 1048576 := by
  obtain ⟨h1, h2, h3, h4, h5, h6, h7, h8, -, -⟩ := h
  have s := SndP.mul_in (a := n) (b := c.slot) (m := 8) (n := 16777216) hn ⟨by omega, h3.2⟩
  unfold dueT SndP.sendT SndP.meanT
  omega
theorem next_length (c : Cfg) (ps : List Bool) (k : Nat) (a : Int) : (next c ps k a).length = ps.length := by
  unfold next
  split
  · exact List.length_set
  · rfl
theorem verd_early {c : Cfg} {ps : List Bool} {k : Nat} {a : Int} (h : a < dueT c k - c.margin) : verd c ps k a = 2 := if_pos h
theorem verd_late {c : Cfg} {ps : List Bool} {k : Nat} {a : Int} (h : ¬ a < dueT c k - c.margin) (h2 : dueT c k + c.margin < a) : verd c ps k a = 3 := by
  unfold verd; rw [if_neg h, if_pos h2]
theorem verd_again {c : Cfg} {ps : List Bool} {k : Nat} {a : Int} (h : ¬ a < dueT c k - c.margin) (h2 : ¬ dueT c k + c.margin < a) (h3 : ps[k]? = some true) : verd c ps k a = 4 := by
  unfold verd; rw [if_neg h, if_neg h2, if_pos h3]
theorem verd_pass {c : Cfg} {ps : List Bool} {k : Nat} {a : Int} (h : ¬ a < dueT c k - c.margin) (h2 : ¬ dueT c k + c.margin < a) (h3 : ps[k]? = some false) : verd c ps k a = 1 := by
  unfold verd; rw [if_neg h, if_neg h2, if_neg (by rw [h3]; simp)]
theorem next_not {c : Cfg} {ps : List Bool} {k : Nat} {a : Int} (h : verd c ps k a ≠ 1) : next c ps k a = ps := if_neg h
theorem next_pass {c : Cfg} {ps : List Bool} {k : Nat} {a : Int} (h : verd c ps k a = 1) : next c ps k a = ps.set k true := if_pos h

/-- At no time do the bytes of two nodes pass. -/
theorem one_only {c : Cfg} (h : SndP.Works c) {ps qs : List Bool} {j k : Nat} {a : Int} (hjk : j < k) (h1 : verd c ps j a = 1) (h2 : verd c qs k a = 1) : False := by
  have hn := SndP.nums_in h.allowed.head
  have hd := SndP.drift_in hn
  have hs := h.slot
  have hm := hn.dmin
  have hm2 := hn.dmax
  have hsl := hn.slot
  have hmul : ((j : Int) + 1) * c.slot ≤ (k : Int) * c.slot := Int.mul_le_mul_of_nonneg_right (by omega) (by omega)
  rw [Int.add_mul, Int.one_mul] at hmul
  have hp : 0 < SndP.precT c := by unfold SndP.precT; omega
  have a1 : ¬ dueT c j + c.margin < a := fun e => by
    by_cases h3 : a < dueT c j - c.margin
    · rw [verd_early h3] at h1; omega
    · rw [verd_late h3 e] at h1; omega
  have a2 : ¬ a < dueT c k - c.margin := fun e => by rw [verd_early e] at h2; omega
  unfold dueT SndP.sendT at a1 a2
  omega
end Go.Proofs.Ytodkcenoljpgoaa.GrdP
