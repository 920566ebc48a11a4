/- Plain: what the law of stops says of a run. No conditions beyond those that each states. -/
import Derived.Test.YtemcgegickpdbaaGreatDoorSl01
namespace Go.Proofs.YtemcgegickpdbaaGreatDoor
namespace ApeP
open TableP
def spinO : Op := ⟨5, 0, 0, 0, 0, []⟩
def wrongO (k : Nat) : Op := if k = 1 then ⟨4, 0, 99, 0, 0, []⟩ else if k = 2 then ⟨6, 0, 0, 0, 0, []⟩ else ⟨2, 99, 0, 0, 0, []⟩
def recS (k a : Nat) : List (List Nat) := [[0, if k = 1 then a else 0, if k = 2 then a else 0, if k = 3 then a else 0], [0, 0, 0, 0]]
def stopsO (ahead behind k : Nat) : List Op := List.replicate ahead spinO ++ wrongO k :: List.replicate behind spinO
/-- What a wrong op does: as the law's tables say. -/
structure WrongOk (op : OpF) (k a : Nat) (s : AS) : Prop where
  kind : kindOf (op s (wrongO k)).1.2 = some k
  mon : (op s (wrongO k)).2.mon = s.mon
theorem spin_op0 (op : OpF) (hop : ∀ s, op s spinO = ((Res.zero, none), s)) (recover : List (List Nat)) (node part round : Nat) (left : Int) (s : AS) (h : 1 ≤ left) : oneG op recover node part round left s spinO = ⟨Res.zero, 0, false, left - 1, s⟩ := by
  have hc : costT spinO = 1 := rfl
  unfold oneG stepG
  rw [if_neg (by rw [hc]; omega), hop, hc]
  rfl
theorem spins_G (op : OpF) (hop : ∀ s, op s spinO = ((Res.zero, none), s)) (recover : List (List Nat)) (node part round : Nat) (ops : List Op) (s : AS) : ∀ (n : Nat) (left : Int), (n : Int) ≤ left → runG op recover node part round (List.replicate n spinO ++ ops) left s = (runG op recover node part round ops (left - n) s).pre (List.replicate n Res.zero)
  | 0, left, _ => by simp [pre_nil]
  | n + 1, left, h => by
    rw [List.replicate_succ, List.cons_append, show runG op recover node part round (spinO :: (List.replicate n spinO ++ ops)) left s = (runG op recover node part round (spinO :: (List.replicate n spinO ++ ops)) left s).pre [] from rfl]
    rw [run_next (by rw [spin_op0 op hop _ _ _ _ _ _ (by omega)])]
    rw [spin_op0 op hop _ _ _ _ _ _ (by omega)]
    simp only [List.nil_append]
    rw [spins_G op hop recover node part round ops s n (left - 1) (by omega)]
    rw [show left - 1 - (n : Int) = left - ((n + 1 : Nat) : Int) by omega]
    rfl
theorem stops_run (op : OpF) (hop : ∀ s, op s spinO = ((Res.zero, none), s)) (k a : Nat) (hk : k = 1 ∨ k = 2 ∨ k = 3) (ha : a < 4) (s : AS) (hs : s.mon = HeaP.Mon.start 2) (hw : WrongOk op k a s) (ahead behind : Nat) (h1 : ahead < 10) (h2 : behind < 10) :
    (runG op (recS k a) 0 0 5 (stopsO ahead behind k) 64 s).res.length = (if a = 0 then ahead + 1 + behind else ahead + 1) ∧
    (64 : Int) - (runG op (recS k a) 0 0 5 (stopsO ahead behind k) 64 s).left = (if a = 0 then ahead + 1 + behind else ahead + 1 : Nat) ∧
    (runG op (recS k a) 0 0 5 (stopsO ahead behind k) 64 s).did = a ∧ (runG op (recS k a) 0 0 5 (stopsO ahead behind k) 64 s).st.mon.out.length = 1 := by
  have hcw : costT (wrongO k) = 1 := by rcases hk with rfl | rfl | rfl <;> rfl
  have hrep : ∀ m, m = HeaP.Mon.start 2 → (HeaP.reportT (recS k a) 0 m 5 (0 : Nat) k).1 = (a, 0) ∧ (HeaP.reportT (recS k a) 0 m 5 (0 : Nat) k).2.out.length = 1 := by
    rintro m rfl
    have ha4 : a = 0 ∨ a = 1 ∨ a = 2 ∨ a = 3 := by omega
    rcases hk with rfl | rfl | rfl <;> rcases ha4 with rfl | rfl | rfl | rfl <;> exact ⟨by decide, by decide⟩
  have hone : ∀ left : Int, 1 ≤ left → (oneG op (recS k a) 0 0 5 left s (wrongO k)).did = a ∧ (oneG op (recS k a) 0 0 5 left s (wrongO k)).ends = decide (a ≠ 0) ∧ (oneG op (recS k a) 0 0 5 left s (wrongO k)).left = left - 1 ∧ (oneG op (recS k a) 0 0 5 left s (wrongO k)).st.mon.out.length = 1 := fun left hl => by
    have hst : stepG op left s (wrongO k) = (((op s (wrongO k)).1, left - 1), (op s (wrongO k)).2) := by
      unfold stepG
      rw [if_neg (by rw [hcw]; omega), hcw]
    unfold oneG
    rw [hst]
    simp only
    unfold tellG
    rw [hw.kind, hw.mon]
    obtain ⟨r1, r2⟩ := hrep s.mon hs
    simp only [r1]
    have hk0 : k ≠ 0 := by omega
    refine ⟨trivial, ?_, trivial, r2⟩
    simp [hk0]
  unfold stopsO
  rw [spins_G op hop _ _ _ _ _ _ ahead 64 (by omega)]
  obtain ⟨o1, o2, o3, o4⟩ := hone (64 - ahead) (by omega)
  by_cases ha0 : a = 0
  · rw [if_pos ha0]
    have hends : (oneG op (recS k a) 0 0 5 (64 - ahead) s (wrongO k)).ends = false := by rw [o2]; simp [ha0]
    rw [run_next hends]
    have e := spins_G op hop (recS k a) 0 0 5 [] (oneG op (recS k a) 0 0 5 (64 - ahead) s (wrongO k)).st behind (oneG op (recS k a) 0 0 5 (64 - ahead) s (wrongO k)).left (by rw [o3]; omega)
    rw [List.append_nil] at e
    rw [e, o3]
    refine ⟨?_, ?_, ha0.symm, o4⟩
    · simp [Got.pre, runG]; omega
    · show (64 : Int) - (64 - (ahead : Int) - 1 - (behind : Int)) = ((ahead + 1 + behind : Nat) : Int)
      omega
  · rw [if_neg ha0]
    have hends : (oneG op (recS k a) 0 0 5 (64 - ahead) s (wrongO k)).ends = true := by rw [o2]; simp [ha0]
    rw [run_end hends]
    refine ⟨by simp, ?_, o1, o4⟩
    show (64 : Int) - (oneG op (recS k a) 0 0 5 (64 - ahead) s (wrongO k)).left = _
    rw [o3]
    omega
end ApeP
end Go.Proofs.YtemcgegickpdbaaGreatDoor
