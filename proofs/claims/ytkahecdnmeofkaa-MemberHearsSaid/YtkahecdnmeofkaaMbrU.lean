/- Plain: whole sets, in whatever order they were heard. No conditions beyond those that each states. -/
import Derived.Test.YtkahecdnmeofkaaMbrI
namespace Go.Proofs.Ytkahecdnmeofkaa
open Go.RowKit
set_option maxRecDepth 100000

theorem testBit_with {s k : Nat} (hk : k < 7) (j : Nat) : (MbrP.withT s (k : Int)).testBit j = (s.testBit j || decide (j = k)) := by
  unfold MbrP.withT
  rw [MbrP.just_in hk, Nat.testBit_or, Nat.testBit_two_pow]
  congr 1
  by_cases h : k = j
  · simp [h]
  · have h2 : ¬ j = k := fun e => h e.symm
    simp [h, h2]
def full (N : Nat) : Nat := 2 ^ N - 1
theorem full_fin : ∀ N : Fin 8, full N.1 < 128 ∧ MbrP.lst (full N.1) = List.range N.1 ∧ ∀ j : Fin 7, (full N.1).testBit j.1 = decide (j.1 < N.1) := by decide +kernel
theorem full_is {s N : Nat} (hs : s < 128) (hN : N ≤ 7) (h : ∀ j, j < 7 → s.testBit j = decide (j < N)) : s = full N := by
  obtain ⟨f1, -, f3⟩ := full_fin ⟨N, by omega⟩
  simp only at f1 f3
  apply Nat.eq_of_testBit_eq
  intro j
  by_cases hj : j < 7
  · rw [h j hj, f3 ⟨j, hj⟩]
  · have h1 : 2 ^ 7 ≤ 2 ^ j := Nat.pow_le_pow_right (by decide) (by omega)
    rw [Nat.testBit_lt_two_pow (by omega), Nat.testBit_lt_two_pow (by omega)]
theorem rot_inj : ∀ (N : Fin 8) (f i k : Fin 7), i.1 < N.1 → k.1 < N.1 → (i.1 + f.1) % N.1 = (k.1 + f.1) % N.1 → i.1 = k.1 := by decide +kernel
theorem rot_all : ∀ (N : Fin 8) (f j : Fin 7), j.1 < N.1 → ∃ i : Fin 7, i.1 < N.1 ∧ (i.1 + f.1) % N.1 = j.1 := by decide +kernel

/-- The first i are heard, as they stand. -/
structure Front (st : Nat → Nat × Nat) (i s : Nat) (u : Nat → Nat × Nat) : Prop where
  bits : ∀ j, j < 7 → s.testBit j = decide (j < i)
  st : ∀ j, j < i → u j = st j
theorem Front.start (st u : Nat → Nat × Nat) : Front st 0 0 u := ⟨fun j _ => by simp, fun j hj => by omega⟩
theorem Front.step {st u : Nat → Nat × Nat} {i s : Nat} (h : Front st i s u) (hi : i < 7) : Front st (i + 1) (MbrP.withT s (i : Int)) (upd u i (st i)) := by
  refine ⟨fun j hj => ?_, fun j hj => ?_⟩
  · rw [testBit_with hi, h.bits j hj]
    by_cases h1 : j < i
    · simp [h1, Nat.lt_succ_of_lt h1]
    · by_cases h2 : j = i
      · subst h2; simp
      · have h3 : ¬ j < i + 1 := by omega
        simp [h1, h2, h3]
  · unfold upd
    by_cases h2 : j = i
    · subst h2; rw [if_pos rfl]
    · rw [if_neg h2]; exact h.st j (by omega)
/-- .. in another order. -/
structure Turned (st : Nat → Nat × Nat) (N f i s : Nat) (u : Nat → Nat × Nat) : Prop where
  bits : ∀ j, j < 7 → (s.testBit j = true ↔ ∃ i', i' < i ∧ (i' + f) % N = j)
  st : ∀ i', i' < i → u ((i' + f) % N) = st ((i' + f) % N)
theorem Turned.start (st u : Nat → Nat × Nat) (N f : Nat) : Turned st N f 0 0 u := ⟨fun j _ => by simp, fun j hj => by omega⟩
theorem Turned.fresh {st u : Nat → Nat × Nat} {N f i s : Nat} (h : Turned st N f i s u) (hN : N ≤ 7) (hi : i < N) (hf : f < N) : s.testBit ((i + f) % N) = false := by
  have hm : (i + f) % N < N := Nat.mod_lt _ (by omega)
  cases ht : s.testBit ((i + f) % N) with
  | false => rfl
  | true =>
    obtain ⟨i', h1, h2⟩ := (h.bits _ (by omega)).1 ht
    have := rot_inj ⟨N, by omega⟩ ⟨f, by omega⟩ ⟨i', by omega⟩ ⟨i, by omega⟩ (by simp only; omega) hi h2
    simp only at this
    omega
theorem Turned.step {st u : Nat → Nat × Nat} {N f i s : Nat} (h : Turned st N f i s u) (hN : N ≤ 7) (hi : i < N) : Turned st N f (i + 1) (MbrP.withT s (((i + f) % N : Nat) : Int)) (upd u ((i + f) % N) (st ((i + f) % N))) := by
  have hm : (i + f) % N < N := Nat.mod_lt _ (by omega)
  refine ⟨fun j hj => ?_, fun i' hi' => ?_⟩
  · rw [testBit_with (by omega), Bool.or_eq_true, h.bits j hj, decide_eq_true_eq]
    constructor
    · rintro (⟨i', h1, h2⟩ | h2)
      · exact ⟨i', by omega, h2⟩
      · exact ⟨i, by omega, h2.symm⟩
    · rintro ⟨i', h1, h2⟩
      by_cases h3 : i' = i
      · subst h3; exact .inr h2.symm
      · exact .inl ⟨i', by omega, h2⟩
  · unfold upd
    by_cases h2 : (i' + f) % N = (i + f) % N
    · rw [if_pos h2, h2]
    · rw [if_neg h2]
      exact h.st i' (by
        by_cases h3 : i' = i
        · subst h3; exact absurd rfl h2
        · omega)
theorem Turned.front {st u : Nat → Nat × Nat} {N f s : Nat} (h : Turned st N f N s u) (hN : N ≤ 7) (hf : f < N) : Front st N s u := by
  refine ⟨fun j hj => ?_, fun j hj => ?_⟩
  · by_cases h1 : j < N
    · obtain ⟨i, h2, h3⟩ := rot_all ⟨N, by omega⟩ ⟨f, by omega⟩ ⟨j, hj⟩ h1
      rw [(h.bits j hj).2 ⟨i.1, h2, h3⟩]; simp [h1]
    · cases ht : s.testBit j with
      | false => simp [h1]
      | true =>
        obtain ⟨i', -, h3⟩ := (h.bits j hj).1 ht
        have : (i' + f) % N < N := Nat.mod_lt _ (by omega)
        omega
  · obtain ⟨i, h2, h3⟩ := rot_all ⟨N, by omega⟩ ⟨f, by omega⟩ ⟨j, by omega⟩ hj
    simp only at h2 h3
    rw [← h3]; exact h.st i.1 h2
theorem Front.right {st u : Nat → Nat × Nat} {N s : Nat} (h : Front st N s u) (hs : s < 128) (hN : N ≤ 7) (known : Bool) (mr mm : Nat) : s = full N ∧ rightS known mr mm s u = rightS known mr mm (full N) st ∧ ∀ o, memS s u o = memS (full N) st o := by
  have e := full_is hs hN h.bits
  have hl := (full_fin ⟨N, by omega⟩).2.1
  simp only at hl
  subst e
  have hc : ∀ n, n ∈ MbrP.lst (full N) → u n = st n := fun n hn => h.st n (by rw [hl] at hn; simpa using hn)
  refine ⟨rfl, ?_, fun o => ?_⟩
  · unfold rightS; rw [List.map_congr_left hc]
  · cases o with
    | none => rfl
    | some x =>
      show MbrP.bear (full N) u x = MbrP.bear (full N) st x
      unfold MbrP.bear MbrP.sub
      rw [List.filter_congr (fun n hn => by rw [hc n hn])]
/-- More than half bear the right stamp. -/
theorem most_half {s : Nat} {st : Nat → Nat × Nat} {x : Nat × Nat} (h : rightS false 0 0 s st = some x) : (MbrP.lst s).length < 2 * MbrP.len8 (memS s st (some x)) := by
  have h1 : MbrP.mostT ((MbrP.lst s).map st) = some x := h
  have h2 := MbrP.mostT_some h1
  unfold MbrP.Most MbrP.cnt at h2
  rw [List.length_map, List.countP_map] at h2
  unfold memS MbrP.bear
  rw [MbrP.sub_len, ← List.countP_eq_length_filter]
  exact h2

/-- What one heard, in memory that certain blocks are no part of. -/
def HrdF (F : Nat → Prop) (W : World) (b mr mm : Nat) (known : Bool) (s : Nat) (st : Nat → Nat × Nat) : Prop := ∃ fs, HeardIn W b mr mm known s fs ∧ (∀ n, n < 7 → stOf fs n = st n) ∧ ∀ x ∈ fs, FrameOff F x
section
variable {F : Nat → Prop} {W W' : World} {b mr mm s : Nat} {known : Bool} {st : Nat → Nat × Nat}
theorem HrdF.hrd (h : HrdF F W b mr mm known s st) : Hrd W b mr mm known s st := by
  obtain ⟨fs, h1, h2, -⟩ := h
  exact ⟨fs, h1, h2⟩
theorem HrdF.below (h : HrdF F W b mr mm known s st) (hb : Below W.heap.size W W') : HrdF F W' b mr mm known s st := by
  obtain ⟨fs, h1, h2, h3⟩ := h
  exact ⟨fs, h1.below hb, h2, h3⟩
theorem HrdF.apart (h : HrdF F W b mr mm known s st) {G : Nat → Prop} (ha : Apart G W W') (hG : ∀ k, G k → F k) (hb : ¬ G b) : HrdF F W' b mr mm known s st := by
  obtain ⟨fs, h1, h2, h3⟩ := h
  exact ⟨fs, h1.offs ha hb (fun x hx => (h3 x hx).mono hG), h2, h3⟩
theorem HrdF.new (h : HrdF F W b mr mm known s st) {G : Nat → Prop} (hG : ∀ k, G k → W.heap.size ≤ k) : HrdF (fun k => F k ∨ G k) W b mr mm known s st := by
  obtain ⟨fs, h1, h2, h3⟩ := h
  exact ⟨fs, h1, h2, fun x hx => (h3 x hx).or ((h1.frames x hx).off_new hG)⟩
theorem HrdF.mono (h : HrdF F W b mr mm known s st) {G : Nat → Prop} (hG : ∀ k, G k → F k) : HrdF G W b mr mm known s st := by
  obtain ⟨fs, h1, h2, h3⟩ := h
  exact ⟨fs, h1, h2, fun x hx => (h3 x hx).mono hG⟩
end
theorem flisten_any (mr mm : Nat) (known : Bool) (w : World) : Calls Try.prog 19 #[stampV mr mm, .bool known] w (fun e w' => ∃ b, e = .returned (hv b) ∧ (∀ F, HrdF F w' b mr mm known 0 (fun _ => (0, 0))) ∧ w.heap.size ≤ b ∧ Below w.heap.size w w') :=
  (listen_any mr mm known w).mono fun _ _ ⟨b, h1, h2, h3, h4⟩ => ⟨b, h1, fun _ => ⟨_, h2, fun _ hn => stOf_at (List.getElem?_replicate_of_lt hn), fun x hx => by
    rw [List.eq_of_mem_replicate hx]
    exact ⟨fun h => absurd h (by simp [zeroC]), fun y hy => absurd hy (by simp [zeroC]), fun h => absurd h (by simp [zeroC])⟩⟩, h3, h4⟩
theorem fhear_any (F : Nat → Prop) (mr mm s : Nat) (known : Bool) (st : Nat → Nat × Nat) (k : Nat) (hk : k < 7) (r m : Nat) (hr : r < 4294967296) (hm : m < 256) (b : Nat) (w : World) (h : HrdF F w b mr mm known s st) (hF : ∀ q, F q → q < w.heap.size) (hb : s.testBit k = false) :
    Calls Try.prog 21 #[hv b, .int .i64 (k : Nat), (bareC k r m).value] w (fun e w' => e = .returned (.bool true) ∧ HrdF F w' b mr mm known (MbrP.withT s (k : Int)) (upd st k (r, m)) ∧ Apart (fun q => q = b) w w') := by
  obtain ⟨fs, h1, h2, h3⟩ := h
  refine (hear_yes mr mm s known fs k hk (bareC k r m) rfl b w (bareC_in (by omega) hr hm w) (bareC_off _ _ _ _) h1 hb).mono fun _ _ ⟨he, y, hy, _, hh, hd, ha⟩ => ⟨he, ⟨_, hd, fun n hn => ?_, fun z hz => ?_⟩, ha⟩
  · have e1 : y.round = r := congrArg FrameP.Fr.round hy
    have e2 : y.members = m := congrArg FrameP.Fr.members hy
    unfold upd
    by_cases hnk : n = k
    · subst hnk
      have h7 : (fs.set n y)[n]? = some y := List.getElem?_set_self (by have := h1.len; omega)
      rw [stOf_at h7, if_pos rfl, e1, e2]
    · rw [if_neg hnk, ← h2 n hn]
      unfold stOf
      rw [List.getElem?_set_ne (Ne.symm hnk)]
  · rcases List.mem_or_eq_of_mem_set hz with hz | rfl
    · exact h3 z hz
    · exact hh.off hF
end Go.Proofs.Ytkahecdnmeofkaa
