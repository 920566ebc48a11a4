/- Plain: an image read back; what is wrong with tables; reading an image, with its errors. No conditions. -/
import Derived.Test.YtodkcenoljpgoaaTabP
namespace Go.Proofs.Ytodkcenoljpgoaa.TableP
open WireP FrameP

theorem inv1 {l : List UInt8} {a : Nat} {sh : Bool} {x : Took} (e : take l a sh 1 = x) (h : x.short = false) : sh = false ∧ l.drop a = num x.n 1 ++ l.drop x.at_ ∧ x.n < 256 := by
  subst e; exact take_inv1 h
theorem inv4 {l : List UInt8} {a : Nat} {sh : Bool} {x : Took} (e : take l a sh 4 = x) (h : x.short = false) : sh = false ∧ l.drop a = num x.n 4 ++ l.drop x.at_ ∧ x.n < 4294967296 := by
  subst e; exact take_inv4 h
theorem inum_nat (n s : Nat) (h : n < 4294967296) : inum (n : Int) s = num n s := by
  unfold inum
  congr 1
  omega
theorem B1_nat {n : Nat} (h : n < 256) : B1 (n : Int) := ⟨by omega, by omega⟩
theorem B4_nat {n : Nat} (h : n < 4294967296) : B4 (n : Int) := ⟨by omega, by omega⟩

theorem partsD_inv {l : List UInt8} : ∀ (k a : Nat) (s : Bool) (ps : List Part) (b : Nat), partsD l k a s = (ps, b, false) →
    s = false ∧ l.drop a = partsB ps ++ l.drop b ∧ ps.length = k ∧ ∀ p ∈ ps, PartFits p
  | 0, a, s, ps, b, h => by
    injection h with h1 h2
    injection h2 with h2 h3
    subst h1 h2 h3
    exact ⟨rfl, by simp [partsB], rfl, by simp⟩
  | k + 1, a, s, ps, b, h => by
    cases s with
    | true => simp [partsD] at h
    | false =>
      simp only [partsD, Bool.false_eq_true, if_false] at h
      generalize e0 : take l a false 1 = x0 at h
      generalize e1 : take l x0.at_ x0.short 4 = x1 at h
      generalize e2 : take l x1.at_ x1.short 4 = x2 at h
      generalize e3 : take l x2.at_ x2.short 1 = x3 at h
      generalize e4 : take l x3.at_ x3.short 1 = x4 at h
      generalize e5 : take l x4.at_ x4.short 1 = x5 at h
      generalize e6 : take l x5.at_ x5.short 1 = x6 at h
      generalize e7 : take l x6.at_ x6.short 1 = x7 at h
      generalize e8 : take l x7.at_ x7.short 1 = x8 at h
      injection h with h1 h2
      have h3 : partsD l k x8.at_ x8.short = ((partsD l k x8.at_ x8.short).1, b, false) := by rw [← h2]
      obtain ⟨g8, d9, n9, f9⟩ := partsD_inv k _ _ _ _ h3
      obtain ⟨g7, d8, b8⟩ := inv1 e8 g8
      obtain ⟨g6, d7, b7⟩ := inv1 e7 g7
      obtain ⟨g5, d6, b6⟩ := inv1 e6 g6
      obtain ⟨g4, d5, b5⟩ := inv1 e5 g5
      obtain ⟨g3, d4, b4⟩ := inv1 e4 g4
      obtain ⟨g2, d3, b3⟩ := inv1 e3 g3
      obtain ⟨g1, d2, b2⟩ := inv4 e2 g2
      obtain ⟨g0, d1, b1⟩ := inv4 e1 g1
      obtain ⟨_, d0, b0⟩ := inv1 e0 g0
      subst h1
      refine ⟨rfl, ?_, by simp [n9], ?_⟩
      · simp only [partsB, partB, List.append_assoc]
        rw [inum_nat _ _ (by omega), inum_nat _ _ b1, inum_nat _ _ b2, inum_nat _ _ (by omega), inum_nat _ _ (by omega)]
        rw [← d9, ← d8, ← d7, ← d6, ← d5, ← d4, ← d3, ← d2, ← d1]
        exact d0
      · intro p hp
        rcases List.mem_cons.1 hp with rfl | hp
        · exact ⟨B1_nat b0, B4_nat b1, B4_nat b2, B1_nat b3, B1_nat b4, b5, b6, b7, b8⟩
        · exact f9 p hp

theorem bit_of {n : Nat} (h : n ≤ 1) : bit (n == 1) = n := by
  have : n = 0 ∨ n = 1 := by omega
  rcases this with rfl | rfl <;> rfl

theorem portsD_inv {l : List UInt8} : ∀ (k i a : Nat) (s : Bool) (ps : List Port) (b : Nat), portsD l k i a s = .inl (ps, b, false) →
    s = false ∧ l.drop a = portsB ps ++ l.drop b ∧ ps.length = k ∧ ∀ p ∈ ps, PortFits p
  | 0, i, a, s, ps, b, h => by
    injection h with h
    injection h with h1 h2
    injection h2 with h2 h3
    subst h1 h2 h3
    exact ⟨rfl, by simp [portsB], rfl, by simp⟩
  | k + 1, i, a, s, ps, b, h => by
    cases s with
    | true => simp [portsD] at h
    | false =>
      simp only [portsD, Bool.false_eq_true, if_false] at h
      generalize e0 : take l a false 1 = x0 at h
      generalize e1 : take l x0.at_ x0.short 1 = x1 at h
      generalize e2 : take l x1.at_ x1.short 1 = x2 at h
      by_cases hb : x2.short = false ∧ 1 < x2.n
      · rw [if_pos hb] at h; cases h
      · rw [if_neg hb] at h
        generalize e3 : take l x2.at_ x2.short 1 = x3 at h
        generalize e4 : take l x3.at_ x3.short 1 = x4 at h
        generalize e5 : take l x4.at_ x4.short 1 = x5 at h
        cases h3 : portsD l k (i + 1) x5.at_ x5.short with
        | inr e => rw [h3] at h; cases h
        | inl r =>
          rw [h3] at h
          injection h with h
          injection h with h1 h2
          obtain ⟨r1, r2⟩ := r
          subst h2
          obtain ⟨g5, d6, n6, f6⟩ := portsD_inv k _ _ _ _ _ h3
          obtain ⟨g4, d5, b5⟩ := inv1 e5 g5
          obtain ⟨g3, d4, b4⟩ := inv1 e4 g4
          obtain ⟨g2, d3, b3⟩ := inv1 e3 g3
          obtain ⟨g1, d2, b2⟩ := inv1 e2 g2
          obtain ⟨g0, d1, b1⟩ := inv1 e1 g1
          obtain ⟨_, d0, b0⟩ := inv1 e0 g0
          have hx2 : x2.n ≤ 1 := by
            rcases Nat.lt_or_ge 1 x2.n with h | h
            · exact absurd ⟨g2, h⟩ hb
            · exact h
          subst h1
          refine ⟨rfl, ?_, by simp [n6], ?_⟩
          · simp only [portsB, portB, List.append_assoc, bit_of hx2]
            rw [inum_nat _ _ (by omega), inum_nat _ _ (by omega), inum_nat _ _ (by omega), inum_nat _ _ (by omega)]
            rw [← d6, ← d5, ← d4, ← d3, ← d2, ← d1]
            exact d0
          · intro p hp
            rcases List.mem_cons.1 hp with rfl | hp
            · exact ⟨B1_nat b0, b1, B1_nat b3, B1_nat b4, B1_nat b5⟩
            · exact f6 p hp

theorem routesD_inv {l : List UInt8} : ∀ (k a : Nat) (s : Bool) (ps : List Route) (b : Nat), routesD l k a s = (ps, b, false) →
    s = false ∧ l.drop a = routesB ps ++ l.drop b ∧ ps.length = k ∧ ∀ p ∈ ps, RouteFits p
  | 0, a, s, ps, b, h => by
    injection h with h1 h2
    injection h2 with h2 h3
    subst h1 h2 h3
    exact ⟨rfl, by simp [routesB], rfl, by simp⟩
  | k + 1, a, s, ps, b, h => by
    cases s with
    | true => simp [routesD] at h
    | false =>
      simp only [routesD, Bool.false_eq_true, if_false] at h
      generalize e0 : take l a false 1 = x0 at h
      generalize e1 : take l x0.at_ x0.short 1 = x1 at h
      injection h with h1 h2
      have h3 : routesD l k x1.at_ x1.short = ((routesD l k x1.at_ x1.short).1, b, false) := by rw [← h2]
      obtain ⟨g1, d2, n2, f2⟩ := routesD_inv k _ _ _ _ h3
      obtain ⟨g0, d1, b1⟩ := inv1 e1 g1
      obtain ⟨_, d0, b0⟩ := inv1 e0 g0
      subst h1
      refine ⟨rfl, ?_, by simp [n2], ?_⟩
      · simp only [routesB, routeB, List.append_assoc]
        rw [inum_nat _ _ (by omega), inum_nat _ _ (by omega), ← d2, ← d1]
        exact d0
      · intro p hp
        rcases List.mem_cons.1 hp with rfl | hp
        · exact ⟨B1_nat b0, B1_nat b1⟩
        · exact f2 p hp

/-- What was read without falling short is what is written so. -/
theorem rawT_inv {l : List UInt8} {a b : Nat} {s : Bool} {c : Cfg} (h : rawT l a s = .inl (c, b, false)) : s = false ∧ l.drop a = body c ++ l.drop b ∧ Fits c := by
  unfold rawT at h
  rw [then_] at h
  generalize e0 : take l a s 1 = x0 at h
  rw [then_] at h
  generalize e1 : take l x0.at_ x0.short 1 = x1 at h
  rw [then_] at h
  generalize e2 : take l x1.at_ x1.short 4 = x2 at h
  rw [then_] at h
  generalize e3 : take l x2.at_ x2.short 4 = x3 at h
  rw [then_] at h
  generalize e4 : take l x3.at_ x3.short 4 = x4 at h
  rw [then_] at h
  generalize e5 : take l x4.at_ x4.short 4 = x5 at h
  rw [then_] at h
  generalize e6 : take l x5.at_ x5.short 4 = x6 at h
  rw [then_] at h
  generalize e7 : take l x6.at_ x6.short 4 = x7 at h
  rw [then_] at h
  generalize e8 : take l x7.at_ x7.short 1 = x8 at h
  rw [then_] at h
  generalize e9 : take l x8.at_ x8.short 1 = x9 at h
  rw [then_] at h
  generalize e10 : take l x9.at_ x9.short 1 = x10 at h
  unfold listsD at h
  cases hq : portsD l x9.n 0 (partsD l x8.n x10.at_ x10.short).2.1 (partsD l x8.n x10.at_ x10.short).2.2 with
  | inr e => rw [hq] at h; cases h
  | inl qs =>
    rw [hq] at h
    obtain ⟨q1, q2, q3⟩ := qs
    injection h with h
    injection h with h1 h2
    have h3 : routesD l x10.n q2 q3 = ((routesD l x10.n q2 q3).1, b, false) := by rw [← h2]
    obtain ⟨rfl, d13, n13, f13⟩ := routesD_inv _ _ _ _ _ h3
    obtain ⟨g12, d12, n12, f12⟩ := portsD_inv _ _ _ _ _ _ hq
    have h4 : partsD l x8.n x10.at_ x10.short = ((partsD l x8.n x10.at_ x10.short).1, (partsD l x8.n x10.at_ x10.short).2.1, false) := by rw [← g12]
    obtain ⟨g10, d11, n11, f11⟩ := partsD_inv _ _ _ _ _ h4
    obtain ⟨g9, d10, b10⟩ := inv1 e10 g10
    obtain ⟨g8, d9, b9⟩ := inv1 e9 g9
    obtain ⟨g7, d8, b8⟩ := inv1 e8 g8
    obtain ⟨g6, d7, b7⟩ := inv4 e7 g7
    obtain ⟨g5, d6, b6⟩ := inv4 e6 g6
    obtain ⟨g4, d5, b5⟩ := inv4 e5 g5
    obtain ⟨g3, d4, b4⟩ := inv4 e4 g4
    obtain ⟨g2, d3, b3⟩ := inv4 e3 g3
    obtain ⟨g1, d2, b2⟩ := inv4 e2 g2
    obtain ⟨g0, d1, b1⟩ := inv1 e1 g1
    obtain ⟨gs, d0, b0⟩ := inv1 e0 g0
    subst h1
    refine ⟨gs, ?_, ⟨B1_nat b0, B1_nat b1, B4_nat b2, B4_nat b3, B4_nat b4, B4_nat b5, B4_nat b6, B4_nat b7, ?_, ?_, ?_, f11, f12, f13⟩⟩
    · simp only [body, List.append_assoc, n11, n12, n13]
      rw [inum_nat _ _ (by omega), inum_nat _ _ (by omega), inum_nat _ _ b2, inum_nat _ _ b3, inum_nat _ _ b4, inum_nat _ _ b5, inum_nat _ _ b6, inum_nat _ _ b7]
      rw [← d13, ← d12, ← d11, ← d10, ← d9, ← d8, ← d7, ← d6, ← d5, ← d4, ← d3, ← d2, ← d1]
      exact d0
    · show (partsD l x8.n x10.at_ x10.short).1.length < 256
      rw [n11]; exact b8
    · show q1.length < 256
      rw [n12]; exact b9
    · show (routesD l x10.n q2 false).1.length < 256
      rw [n13]; exact b10

/-- No image is the beginning of another one. -/
theorem enc_prefix {f g : Cfg} {r : List UInt8} (hf : Fits f) (hg : Fits g) (h : enc f = enc g ++ r) : r = [] := by
  have h1 := rawT_enc f [] hf
  have h2 := rawT_enc g r hg
  rw [List.append_nil, h, h2] at h1
  have h3 : (enc g).length = (enc g ++ r).length := (Prod.mk.inj (Prod.mk.inj (Sum.inl.inj h1)).2).1
  rw [List.length_append] at h3
  generalize (enc g).length = n at h3
  exact List.eq_nil_of_length_eq_zero (by omega)
end Go.Proofs.Ytodkcenoljpgoaa.TableP
