/- Plain: tables as an image of bytes and back. No conditions. -/
import Derived.Test.YtodkcenoljpgoaaFraP
namespace Go.Proofs.Ytodkcenoljpgoaa.TableP
open WireP FrameP

structure Part where
  node : Int
  start : Int
  length : Int
  budget : Int
  words : Int
  r0 : Nat
  r1 : Nat
  r2 : Nat
  r3 : Nat
structure Port where
  part : Int
  kind : Nat
  out : Bool
  size : Int
  depth : Int
  fresh : Int
structure Route where
  src : Int
  dst : Int
structure Cfg where
  nodes : Int
  faulty : Int
  slot : Int
  gap : Int
  rho : Int
  dmin : Int
  dmax : Int
  margin : Int
  parts : List Part
  ports : List Port
  routes : List Route

/-- A number's lowest bytes; of one below zero the like. -/
def inum (x : Int) (s : Nat) : List UInt8 := num (x % 4294967296).toNat s
def magic : Nat := 1163084593
def bit (b : Bool) : Nat := if b then 1 else 0
def partB (p : Part) : List UInt8 := inum p.node 1 ++ (inum p.start 4 ++ (inum p.length 4 ++ (inum p.budget 1 ++ (inum p.words 1 ++ (num p.r0 1 ++ (num p.r1 1 ++ (num p.r2 1 ++ num p.r3 1)))))))
def portB (p : Port) : List UInt8 := inum p.part 1 ++ (num p.kind 1 ++ (num (bit p.out) 1 ++ (inum p.size 1 ++ (inum p.depth 1 ++ inum p.fresh 1))))
def routeB (p : Route) : List UInt8 := inum p.src 1 ++ inum p.dst 1
def partsB : List Part → List UInt8
  | [] => []
  | p :: r => partB p ++ partsB r
def portsB : List Port → List UInt8
  | [] => []
  | p :: r => portB p ++ portsB r
def routesB : List Route → List UInt8
  | [] => []
  | p :: r => routeB p ++ routesB r
/-- The image, ahead of the sum. -/
def enc (c : Cfg) : List UInt8 :=
  num magic 4 ++ (inum c.nodes 1 ++ (inum c.faulty 1 ++ (inum c.slot 4 ++ (inum c.gap 4 ++ (inum c.rho 4 ++ (inum c.dmin 4 ++ (inum c.dmax 4 ++ (inum c.margin 4 ++
    (num c.parts.length 1 ++ (num c.ports.length 1 ++ (num c.routes.length 1 ++ (partsB c.parts ++ (portsB c.ports ++ routesB c.routes)))))))))))))

def partsD (l : List UInt8) : Nat → Nat → Bool → List Part × Nat × Bool
  | 0, a, s => ([], a, s)
  | k + 1, a, s =>
    if s then ([], a, s) else
      let x0 := take l a s 1
      let x1 := take l x0.at_ x0.short 4
      let x2 := take l x1.at_ x1.short 4
      let x3 := take l x2.at_ x2.short 1
      let x4 := take l x3.at_ x3.short 1
      let x5 := take l x4.at_ x4.short 1
      let x6 := take l x5.at_ x5.short 1
      let x7 := take l x6.at_ x6.short 1
      let x8 := take l x7.at_ x7.short 1
      let r := partsD l k x8.at_ x8.short
      (⟨x0.n, x1.n, x2.n, x3.n, x4.n, x5.n, x6.n, x7.n, x8.n⟩ :: r.1, r.2)
/-- Ports; or where the reading stopped, and at which of them: it leads neither in nor out. -/
def portsD (l : List UInt8) : Nat → Nat → Nat → Bool → (List Port × Nat × Bool) ⊕ (Nat × Nat)
  | 0, _, a, s => .inl ([], a, s)
  | k + 1, i, a, s =>
    if s then .inl ([], a, s) else
      let x0 := take l a s 1
      let x1 := take l x0.at_ x0.short 1
      let x2 := take l x1.at_ x1.short 1
      if x2.short = false ∧ 1 < x2.n then .inr (x2.at_, i) else
        let x3 := take l x2.at_ x2.short 1
        let x4 := take l x3.at_ x3.short 1
        let x5 := take l x4.at_ x4.short 1
        match portsD l k (i + 1) x5.at_ x5.short with
        | .inr e => .inr e
        | .inl r => .inl (⟨x0.n, x1.n, x2.n == 1, x3.n, x4.n, x5.n⟩ :: r.1, r.2)
def routesD (l : List UInt8) : Nat → Nat → Bool → List Route × Nat × Bool
  | 0, a, s => ([], a, s)
  | k + 1, a, s =>
    if s then ([], a, s) else
      let x0 := take l a s 1
      let x1 := take l x0.at_ x0.short 1
      let r := routesD l k x1.at_ x1.short
      (⟨x0.n, x1.n⟩ :: r.1, r.2)

/-- One reading behind another. -/
def then_ {β : Type} (t : Took) (f : Nat → Nat → Bool → β) : β := f t.n t.at_ t.short
/-- The lists, by their numbers. -/
def listsD (l : List UInt8) (n0 n1 n2 a : Nat) (s : Bool) (f : List Part → List Port → List Route → Cfg) : (Cfg × Nat × Bool) ⊕ (Nat × Nat) :=
  match portsD l n1 0 (partsD l n0 a s).2.1 (partsD l n0 a s).2.2 with
  | .inr e => .inr e
  | .inl qs => .inl (f (partsD l n0 a s).1 qs.1 (routesD l n2 qs.2.1 qs.2.2).1, (routesD l n2 qs.2.1 qs.2.2).2)
/-- What is read of an image behind its first four bytes. -/
def rawT (l : List UInt8) (a : Nat) (s : Bool) : (Cfg × Nat × Bool) ⊕ (Nat × Nat) :=
  then_ (take l a s 1) fun x0 a s => then_ (take l a s 1) fun x1 a s =>
  then_ (take l a s 4) fun x2 a s => then_ (take l a s 4) fun x3 a s => then_ (take l a s 4) fun x4 a s => then_ (take l a s 4) fun x5 a s => then_ (take l a s 4) fun x6 a s => then_ (take l a s 4) fun x7 a s =>
  then_ (take l a s 1) fun n0 a s => then_ (take l a s 1) fun n1 a s => then_ (take l a s 1) fun n2 a s =>
  listsD l n0 n1 n2 a s fun ps qs rs => ⟨x0, x1, x2, x3, x4, x5, x6, x7, ps, qs, rs⟩

/-- What fits. -/
def B1 (x : Int) : Prop := 0 ≤ x ∧ x < 256
def B4 (x : Int) : Prop := 0 ≤ x ∧ x < 4294967296
def PartFits (p : Part) : Prop := B1 p.node ∧ B4 p.start ∧ B4 p.length ∧ B1 p.budget ∧ B1 p.words ∧ p.r0 < 256 ∧ p.r1 < 256 ∧ p.r2 < 256 ∧ p.r3 < 256
def PortFits (p : Port) : Prop := B1 p.part ∧ p.kind < 256 ∧ B1 p.size ∧ B1 p.depth ∧ B1 p.fresh
def RouteFits (p : Route) : Prop := B1 p.src ∧ B1 p.dst
structure Fits (c : Cfg) : Prop where
  nodes : B1 c.nodes
  faulty : B1 c.faulty
  slot : B4 c.slot
  gap : B4 c.gap
  rho : B4 c.rho
  dmin : B4 c.dmin
  dmax : B4 c.dmax
  margin : B4 c.margin
  np : c.parts.length < 256
  nq : c.ports.length < 256
  nr : c.routes.length < 256
  parts : ∀ p ∈ c.parts, PartFits p
  ports : ∀ p ∈ c.ports, PortFits p
  routes : ∀ p ∈ c.routes, RouteFits p

/-! ### Forward -/
theorem itake1 {l r : List UInt8} {x : Int} {a : Nat} (h : l.drop a = inum x 1 ++ r) (hx : B1 x) : ∃ n : Nat, take l a false 1 = ⟨n, a + 1, false⟩ ∧ (n : Int) = x ∧ l.drop (a + 1) = r := by
  obtain ⟨h0, h1⟩ := hx
  obtain ⟨t, h2⟩ := take_drop1 h (by omega)
  exact ⟨_, t, by omega, h2⟩
theorem itake4 {l r : List UInt8} {x : Int} {a : Nat} (h : l.drop a = inum x 4 ++ r) (hx : B4 x) : ∃ n : Nat, take l a false 4 = ⟨n, a + 4, false⟩ ∧ (n : Int) = x ∧ l.drop (a + 4) = r := by
  obtain ⟨h0, h1⟩ := hx
  obtain ⟨t, h2⟩ := take_drop4 h (by omega)
  exact ⟨_, t, by omega, h2⟩
theorem inum_length (x : Int) (s : Nat) : (inum x s).length = s := num_length _ s

theorem partsD_enc {l r : List UInt8} : ∀ (ps : List Part) (a : Nat), l.drop a = partsB ps ++ r → (∀ p ∈ ps, PartFits p) → partsD l ps.length a false = (ps, a + (partsB ps).length, false) ∧ l.drop (a + (partsB ps).length) = r
  | [], a, h, _ => by simpa [partsD, partsB] using h
  | p :: ps, a, h, hf => by
    obtain ⟨f0, f1, f2, f3, f4, f5, f6, f7, f8⟩ := hf p (by simp)
    simp only [partsB, partB, List.append_assoc] at h
    obtain ⟨m0, t0, i0, h⟩ := itake1 h f0
    obtain ⟨m1, t1, i1, h⟩ := itake4 h f1
    obtain ⟨m2, t2, i2, h⟩ := itake4 h f2
    obtain ⟨m3, t3, i3, h⟩ := itake1 h f3
    obtain ⟨m4, t4, i4, h⟩ := itake1 h f4
    obtain ⟨t5, h⟩ := take_drop1 h f5
    obtain ⟨t6, h⟩ := take_drop1 h f6
    obtain ⟨t7, h⟩ := take_drop1 h f7
    obtain ⟨t8, h⟩ := take_drop1 h f8
    obtain ⟨t9, h⟩ := partsD_enc ps _ h (fun x hx => hf x (by simp [hx]))
    have e : (partsB (p :: ps)).length = 1 + (4 + (4 + (1 + (1 + (1 + (1 + (1 + (1 + (partsB ps).length)))))))) := by simp [partsB, partB, num_length, inum_length]
    constructor
    · rw [e]
      simp only [List.length_cons, partsD, Bool.false_eq_true, if_false, t0, t1, t2, t3, t4, t5, t6, t7, t8, t9, i0, i1, i2, i3, i4]
      simp only [Nat.add_assoc]
    · rw [e]
      simpa only [Nat.add_assoc] using h

theorem bit_lt (b : Bool) : bit b ≤ 1 := by cases b <;> simp [bit]
theorem bit_one (b : Bool) : (bit b == 1) = b := by cases b <;> rfl
theorem portsD_enc {l r : List UInt8} : ∀ (ps : List Port) (i a : Nat), l.drop a = portsB ps ++ r → (∀ p ∈ ps, PortFits p) → portsD l ps.length i a false = .inl (ps, a + (portsB ps).length, false) ∧ l.drop (a + (portsB ps).length) = r
  | [], i, a, h, _ => by simpa [portsD, portsB] using h
  | p :: ps, i, a, h, hf => by
    obtain ⟨f0, f1, f3, f4, f5⟩ := hf p (by simp)
    simp only [portsB, portB, List.append_assoc] at h
    have hb := bit_lt p.out
    obtain ⟨m0, t0, i0, h⟩ := itake1 h f0
    obtain ⟨t1, h⟩ := take_drop1 h f1
    obtain ⟨t2, h⟩ := take_drop1 h (by omega)
    obtain ⟨m3, t3, i3, h⟩ := itake1 h f3
    obtain ⟨m4, t4, i4, h⟩ := itake1 h f4
    obtain ⟨m5, t5, i5, h⟩ := itake1 h f5
    obtain ⟨t9, h⟩ := portsD_enc ps (i + 1) _ h (fun x hx => hf x (by simp [hx]))
    have e : (portsB (p :: ps)).length = 1 + (1 + (1 + (1 + (1 + (1 + (portsB ps).length))))) := by simp [portsB, portB, num_length, inum_length]
    have hnb : ¬ (True ∧ 1 < bit p.out) := by omega
    constructor
    · rw [e]
      simp only [List.length_cons, portsD, Bool.false_eq_true, if_false, t0, t1, t2, t3, t4, t5, t9, i0, i3, i4, i5, bit_one]
      rw [if_neg hnb]
      simp only [Nat.add_assoc]
    · rw [e]
      simpa only [Nat.add_assoc] using h

theorem routesD_enc {l r : List UInt8} : ∀ (ps : List Route) (a : Nat), l.drop a = routesB ps ++ r → (∀ p ∈ ps, RouteFits p) → routesD l ps.length a false = (ps, a + (routesB ps).length, false) ∧ l.drop (a + (routesB ps).length) = r
  | [], a, h, _ => by simpa [routesD, routesB] using h
  | p :: ps, a, h, hf => by
    obtain ⟨f0, f1⟩ := hf p (by simp)
    simp only [routesB, routeB, List.append_assoc] at h
    obtain ⟨m0, t0, i0, h⟩ := itake1 h f0
    obtain ⟨m1, t1, i1, h⟩ := itake1 h f1
    obtain ⟨t9, h⟩ := routesD_enc ps _ h (fun x hx => hf x (by simp [hx]))
    have e : (routesB (p :: ps)).length = 1 + (1 + (routesB ps).length) := by simp [routesB, routeB, inum_length]
    constructor
    · rw [e]
      simp only [List.length_cons, routesD, Bool.false_eq_true, if_false, t0, t1, t9, i0, i1]
      simp only [Nat.add_assoc]
    · rw [e]
      simpa only [Nat.add_assoc] using h

theorem magic_lt : magic < 4294967296 := by decide
theorem enc_head (c : Cfg) (r : List UInt8) : take (enc c ++ r) 0 false 4 = ⟨magic, 4, false⟩ := by
  have h : (enc c ++ r).drop 0 = enc c ++ r := rfl
  conv at h => rhs; unfold enc
  simp only [List.append_assoc] at h
  exact (take_drop4 h magic_lt).1

/-- What stands behind the first four bytes. -/
def body (c : Cfg) : List UInt8 :=
  inum c.nodes 1 ++ (inum c.faulty 1 ++ (inum c.slot 4 ++ (inum c.gap 4 ++ (inum c.rho 4 ++ (inum c.dmin 4 ++ (inum c.dmax 4 ++ (inum c.margin 4 ++
    (num c.parts.length 1 ++ (num c.ports.length 1 ++ (num c.routes.length 1 ++ (partsB c.parts ++ (portsB c.ports ++ routesB c.routes))))))))))))
theorem enc_body (c : Cfg) : enc c = num magic 4 ++ body c := rfl
theorem body_len (c : Cfg) : (body c).length = 1 + (1 + (4 + (4 + (4 + (4 + (4 + (4 + (1 + (1 + (1 + ((partsB c.parts).length + ((portsB c.ports).length + (routesB c.routes).length)))))))))))) := by
  simp only [body, List.length_append, num_length, inum_length]
theorem enc_len (c : Cfg) : (enc c).length = 4 + (body c).length := by
  rw [enc_body, List.length_append, num_length]

theorem rawT_body {l r : List UInt8} (c : Cfg) (a : Nat) (h : l.drop a = body c ++ r) (hf : Fits c) : rawT l a false = .inl (c, a + (body c).length, false) := by
  rw [body_len]
  unfold body at h
  simp only [List.append_assoc] at h
  obtain ⟨m0, t0, i0, h⟩ := itake1 h hf.nodes
  obtain ⟨m1, t1, i1, h⟩ := itake1 h hf.faulty
  obtain ⟨m2, t2, i2, h⟩ := itake4 h hf.slot
  obtain ⟨m3, t3, i3, h⟩ := itake4 h hf.gap
  obtain ⟨m4, t4, i4, h⟩ := itake4 h hf.rho
  obtain ⟨m5, t5, i5, h⟩ := itake4 h hf.dmin
  obtain ⟨m6, t6, i6, h⟩ := itake4 h hf.dmax
  obtain ⟨m7, t7, i7, h⟩ := itake4 h hf.margin
  obtain ⟨u0, h⟩ := take_drop1 h hf.np
  obtain ⟨u1, h⟩ := take_drop1 h hf.nq
  obtain ⟨u2, h⟩ := take_drop1 h hf.nr
  obtain ⟨v0, h⟩ := partsD_enc _ _ h hf.parts
  obtain ⟨v1, h⟩ := portsD_enc _ 0 _ h hf.ports
  obtain ⟨v2, -⟩ := routesD_enc _ _ h hf.routes
  simp only [rawT, then_, t0, t1, t2, t3, t4, t5, t6, t7, u0, u1, u2]
  simp only [listsD, v0, v1, v2, i0, i1, i2, i3, i4, i5, i6, i7]
  simp only [Nat.add_assoc]

/-- What was written is read, whatever stands behind it. -/
theorem rawT_enc (c : Cfg) (r : List UInt8) (hf : Fits c) : rawT (enc c ++ r) 4 false = .inl (c, (enc c).length, false) := by
  have h : (enc c ++ r).drop 4 = body c ++ r := by
    rw [enc_body, List.append_assoc, List.drop_append_of_le_length (by rw [num_length]; exact Nat.le_refl _), List.drop_of_length_le (by rw [num_length]; exact Nat.le_refl _), List.nil_append]
  rw [rawT_body c 4 h hf, enc_len]
end Go.Proofs.Ytodkcenoljpgoaa.TableP
