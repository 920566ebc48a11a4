/- Plain: what the law of memory says of a run: a store and a load of one word. No conditions beyond those that each states. -/
import Derived.Test.YtemcgegickpdbaaGreatDoorSl01
namespace Go.Proofs.YtemcgegickpdbaaGreatDoor
namespace ApeP
open TableP
def rec0 : List (List Nat) := [[0, 0, 0, 0], [0, 0, 0, 0]]
def actO (a b : Int) : List Op := [⟨3, 0, a, b, 0, []⟩, ⟨4, 0, a, 0, 0, []⟩]
/-- The words behind an act. -/
def actM (mem : List Nat) (a b : Int) : List Nat := if a < 0 ∨ (mem.length : Int) ≤ a then mem else mem.set a.toNat (cut16 b)
def actR (mem : List Nat) (a b : Int) : Res := if a < 0 ∨ (mem.length : Int) ≤ a then ⟨150, 0, [], false⟩ else ⟨0, (cut16 b : Nat), [], false⟩
theorem actM_len (mem : List Nat) (a b : Int) : (actM mem a b).length = mem.length := by unfold actM; split <;> simp
section
variable {c : Cfg} {T : RepP.T}
theorem one_good {op : OpF} {left : Int} {s s' : AS} {o : Op} {r : Res} (hc : costT o ≤ left) (h : op s o = ((r, none), s')) : oneG op rec0 0 0 0 left s o = ⟨r, 0, false, left - costT o, s'⟩ := by
  have hs : stepG op left s o = (((r, none), left - costT o), s') := by
    unfold stepG
    rw [if_neg (by omega), h]
  unfold oneG
  rw [hs]
  rfl
theorem rep0 (m : HeaP.Mon) : HeaP.reportT rec0 0 m 0 ((0 : Nat) : Int) 1 = ((0, 0), HeaP.nextM rec0 0 m 0 0 1) := by
  rw [HeaP.report_ok (by decide) (by decide) (by decide)]
  rfl
theorem one_bad {op : OpF} {left : Int} {s : AS} {o : Op} (hc : costT o ≤ left) (h : op s o = ((Res.zero, some 150), s)) : oneG op rec0 0 0 0 left s o = ⟨⟨150, 0, [], false⟩, 0, false, left - costT o, monT s (HeaP.nextM rec0 0 s.mon 0 0 1)⟩ := by
  have hs : stepG op left s o = (((Res.zero, some 150), left - costT o), s) := by
    unfold stepG
    rw [if_neg (by omega), h]
  have hk : kindOf (some 150) = some 1 := rfl
  unfold oneG
  rw [hs]
  simp only
  unfold tellG
  rw [hk]
  simp only [rep0]
  rfl
theorem act_run (s : AS) (a b : Int) : (runG (opP c 0 0 T) rec0 0 0 0 (actO a b) 64 s).res = [actR s.mem a b, actR s.mem a b] ∧ (runG (opP c 0 0 T) rec0 0 0 0 (actO a b) 64 s).st.mem = actM s.mem a b := by
  have hc3 : ∀ q x y z d, costT ⟨3, q, x, y, z, d⟩ = 1 := fun _ _ _ _ _ => rfl
  have hc4 : ∀ q x y z d, costT ⟨4, q, x, y, z, d⟩ = 1 := fun _ _ _ _ _ => rfl
  unfold actO actR actM
  by_cases h : a < 0 ∨ (s.mem.length : Int) ≤ a
  · have e1 : ∀ t : AS, t.mem = s.mem → opP c 0 0 T t ⟨3, 0, a, b, 0, []⟩ = ((Res.zero, some 150), t) := fun t ht => by
      unfold opP opT
      simp [ht, h]
    have e2 : ∀ t : AS, t.mem = s.mem → opP c 0 0 T t ⟨4, 0, a, 0, 0, []⟩ = ((Res.zero, some 150), t) := fun t ht => by
      unfold opP opT
      simp [ht, h]
    have o1 := one_bad (left := 64) (by rw [hc3]; decide) (e1 s rfl)
    have o2 := one_bad (left := 63) (by rw [hc4]; decide) (e2 (monT s (HeaP.nextM rec0 0 s.mon 0 0 1)) rfl)
    simp only [if_pos h]
    unfold runG
    rw [o1]
    simp only [Bool.false_eq_true, if_false, hc3]
    unfold runG
    rw [show (64 : Int) - 1 = 63 from rfl, o2]
    exact ⟨rfl, rfl⟩
  · have e1 : opP c 0 0 T s ⟨3, 0, a, b, 0, []⟩ = ((⟨0, (cut16 b : Nat), [], false⟩, none), ⟨s.mem.set a.toNat (cut16 b), s.ports, s.mon, s.cmd⟩) := by
      unfold opP opT
      simp [h]
    have hm : (s.mem.set a.toNat (cut16 b))[a.toNat]?.getD 0 = cut16 b := by rw [List.getElem?_set_self (by omega)]; rfl
    have e2 : opP c 0 0 T ⟨s.mem.set a.toNat (cut16 b), s.ports, s.mon, s.cmd⟩ ⟨4, 0, a, 0, 0, []⟩ = ((⟨0, (cut16 b : Nat), [], false⟩, none), ⟨s.mem.set a.toNat (cut16 b), s.ports, s.mon, s.cmd⟩) := by
      unfold opP opT
      simp only [List.length_set, h, hm]
      simp
    have o1 := one_good (left := 64) (by rw [hc3]; decide) e1
    have o2 := one_good (left := 63) (by rw [hc4]; decide) e2
    simp only [if_neg h]
    unfold runG
    rw [o1]
    simp only [Bool.false_eq_true, if_false, hc3]
    unfold runG
    rw [show (64 : Int) - 1 = 63 from rfl, o2]
    exact ⟨rfl, rfl⟩
end
end ApeP
end Go.Proofs.YtemcgegickpdbaaGreatDoor
