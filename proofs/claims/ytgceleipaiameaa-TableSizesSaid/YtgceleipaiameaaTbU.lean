/- Contract of table's takeTables. Conditions: where the Reader lies. -/
import Derived.Test.YtgceleipaiameaaTbT
import Derived.Test.YtgceleipaiameaaTbE
import Derived.Deep.RegionHeld3
namespace Go.Proofs.Ytgceleipaiameaa
open Go.RowKit
set_option maxRecDepth 100000

section
variable {P : Program}
/-- append of elements of several cells, as one step of a region that draws. -/
theorem step_append_s {w0 : World} {ops : Array Oper} {o : Oper} {a : Act} {K : Act → World → Prop} {Q : Exit → Act → World → Prop} {E : Prop} (hgd : o.guard = none) (s x : Operand) (t : TypeId)
    (ho : o.op = .call { callee := .builtin .append, args := #[s, x], argTypes := #[t, t] }) (B : Nat) (e : TypeId) (z : Value) (size bytes : Nat)
    (ht : P.underlying t = some (.slice e)) (hinfo : (P.info? e).map (fun i => (i.zero, i.size, i.bytes)) = some (some z, size, bytes)) (hzs : z.cells.size = size) (hsz : 0 < size)
    (v : Value) (n : Nat) (xs : List Value) (hs : a.eval s = v) (hown : w0.ownsRow B e size v n xs) (A : Option Addr) (m c : Nat) (news : List Value) (hx : a.eval x = .slice A m c) (hl : news.length = m * size)
    (hnews : 0 < m → ∃ ad, A = some ad ∧ ∀ j u, news[j]? = some u → w0.cell? (ad.add j) = some u) (h1 : ∀ u ∈ news, u.oneCell' = true)
    (h63 : n + m ≤ maxLen) (hbytes : (n + m) * bytes ≤ 140737488355328) (hB : B ≤ w0.heap.size)
    (h : ∀ v' w', w'.ownsRow B e size v' (n + m) (xs ++ news) → Apart (fun k => v.ownBlock = some k) w0 w' → (v'.ownBlock = v.ownBlock ∨ v'.ownBlock = some w0.heap.size) → K (a.put o.dst v') w') :
    if Region.wanted o (yielded ops a.tmps) = true then Oper.wp P o a w0 K Q else E := by
  have hw : Region.wanted o (yielded ops a.tmps) = true := by simp [Region.wanted, hgd]
  rw [if_pos hw]
  exact wp_append_s s x t ho B e z size bytes ht hinfo hzs hsz v n xs hs hown A m c news hx hl hnews h1 h63 hbytes hB h
end

/-- A row of the call's own, from block B on. -/
structure OwnI {α : Type} (vals : α → List Value) (size : Nat) (e : TypeId) (B : Nat) (v : Value) (l : List α) (w : World) : Prop where
  own : w.ownsRow B e size v l.length (itemsV vals l)
section
variable {α : Type} {vals : α → List Value} {size : Nat} {e : TypeId} {B : Nat} {v v' : Value} {l : List α} {w w' : World}
theorem OwnI.nil (vals : α → List Value) (size : Nat) (e : TypeId) (B : Nat) (w : World) : OwnI vals size e B (.slice none 0 0) [] w := ⟨World.ownsRow_nil _ _ _ _⟩
theorem OwnI.new {F : Nat → Prop} (h : OwnI vals size e B v l w) (ha : Apart F w w') (hv : ∀ k, v.ownBlock = some k → ¬ F k) : OwnI vals size e B v l w' := ⟨own_apart h.own ha hv⟩
theorem OwnI.apart {F : Nat → Prop} (h : OwnI vals size e B v l w) (ha : Apart F w w') (hF : ∀ k, F k → k < B) : OwnI vals size e B v l w' :=
  h.new ha (fun k hk e => by have := (h.own.lt k hk).1; have := hF k e; omega)
theorem OwnI.more {y : α} (ho : w'.ownsRow B e size v' (l.length + 1) (itemsV vals l ++ vals y)) : OwnI vals size e B v' (l ++ [y]) w' := by
  refine ⟨?_⟩
  rw [List.length_append, List.length_singleton, itemsV_append, itemsV_one']
  exact ho
theorem OwnI.hi (h : OwnI vals size e B v l w) : ∀ k, v.ownBlock = some k → B ≤ k := fun k hk => (h.own.lt k hk).1
end
theorem Bx.tk {br bp n cap : Nat} {A : Option Addr} {l : List UInt8} {W w w' : World} {t : TypeId} {a a' : Nat} {sh sh' : Bool} {xs : Array Value} (h : Bx br bp A n cap l W t a sh xs w) (ho : BxOk br bp A) (ht : TakeIn br A n cap l w a' sh' w') : Bx br bp A n cap l W t a' sh' xs w' :=
  ⟨ht.1, (ht.2.block bp (lt_of_block h.box) (fun e => ho.ne e.symm)).trans h.box, h.ap.trans ht.2 (fun _ e => .inl (.inl e))⟩
/-- What turns new blocks only. -/
theorem Bx.apart {br bp n cap : Nat} {A : Option Addr} {l : List UInt8} {W w w' : World} {t : TypeId} {a : Nat} {sh : Bool} {xs : Array Value} {F : Nat → Prop} (h : Bx br bp A n cap l W t a sh xs w) (hbr : br < W.heap.size) (hbp : bp < W.heap.size) (hA : ∀ k, blockOf A = some k → k < W.heap.size) (ha : Apart F w w') (hF : ∀ k, F k → W.heap.size ≤ k) : Bx br bp A n cap l W t a sh xs w' :=
  ⟨h.rd.apart ha (fun e => by have := hF _ e; omega) (fun k hk e => by have := hA k hk; have := hF _ e; omega), (ha.block bp (lt_of_block h.box) (fun e => by have := hF _ e; omega)).trans h.box, h.ap.trans ha (fun k e => .inr (hF k e))⟩

theorem infoP : (Try.prog.info? 60).map (fun i => (i.zero, i.size, i.bytes)) = some (some (.agg #[.int .i64 0, .int .i64 0, .int .i64 0, .int .i64 0, .int .i64 0, .int .u8 0, .int .u8 0, .int .u8 0, .int .u8 0]), 9, 48) := by kernel_rfl
theorem infoQ : (Try.prog.info? 63).map (fun i => (i.zero, i.size, i.bytes)) = some (some (.agg #[.int .i64 0, .int .u8 0, .bool false, .int .i64 0, .int .i64 0, .int .i64 0]), 6, 40) := by kernel_rfl
theorem infoR : (Try.prog.info? 66).map (fun i => (i.zero, i.size, i.bytes)) = some (some (.agg #[.int .i64 0, .int .i64 0]), 2, 16) := by kernel_rfl

/-! ### Plain: how the loops go on -/
theorem partsD_true (l : List UInt8) (j a : Nat) : TableP.partsD l j a true = ([], a, true) := by cases j <;> simp [TableP.partsD]
theorem routesD_true (l : List UInt8) (j a : Nat) : TableP.routesD l j a true = ([], a, true) := by cases j <;> simp [TableP.routesD]
theorem portsD_true (l : List UInt8) (j i a : Nat) : TableP.portsD l j i a true = .inl ([], a, true) := by cases j <;> simp [TableP.portsD]
theorem partsD_step {l : List UInt8} {j a : Nat} {s : Bool} {x0 x1 x2 x3 x4 x5 x6 x7 x8 : WireP.Took} {ps : List TableP.Part} {D : List TableP.Part × Nat × Bool} (h0 : WireP.take l a s 1 = x0) (h1 : WireP.take l x0.at_ x0.short 4 = x1) (h2 : WireP.take l x1.at_ x1.short 4 = x2) (h3 : WireP.take l x2.at_ x2.short 1 = x3) (h4 : WireP.take l x3.at_ x3.short 1 = x4) (h5 : WireP.take l x4.at_ x4.short 1 = x5) (h6 : WireP.take l x5.at_ x5.short 1 = x6) (h7 : WireP.take l x6.at_ x6.short 1 = x7) (h8 : WireP.take l x7.at_ x7.short 1 = x8)
    (g2 : (TableP.partsD l (j + 1) a s).2 = D.2) (g3 : D.2.2 = false → ps ++ (TableP.partsD l (j + 1) a s).1 = D.1) : (TableP.partsD l j x8.at_ x8.short).2 = D.2 ∧ (D.2.2 = false → (ps ++ [⟨x0.n, x1.n, x2.n, x3.n, x4.n, x5.n, x6.n, x7.n, x8.n⟩]) ++ (TableP.partsD l j x8.at_ x8.short).1 = D.1) := by
  cases s with
  | false =>
    simp only [TableP.partsD, Bool.false_eq_true, if_false, h0, h1, h2, h3, h4, h5, h6, h7, h8] at g2 g3
    exact ⟨g2, fun h => by rw [← g3 h]; simp⟩
  | true =>
    simp only [TableP.partsD, if_true] at g2
    rw [take_true'] at h0
    subst h0
    rw [take_true'] at h1
    subst h1
    rw [take_true'] at h2
    subst h2
    rw [take_true'] at h3
    subst h3
    rw [take_true'] at h4
    subst h4
    rw [take_true'] at h5
    subst h5
    rw [take_true'] at h6
    subst h6
    rw [take_true'] at h7
    subst h7
    rw [take_true'] at h8
    subst h8
    refine ⟨by rw [partsD_true, ← g2], fun h => ?_⟩
    rw [← g2] at h
    cases h
theorem routesD_step {l : List UInt8} {j a : Nat} {s : Bool} {x0 x1 : WireP.Took} {ps : List TableP.Route} {D : List TableP.Route × Nat × Bool} (h0 : WireP.take l a s 1 = x0) (h1 : WireP.take l x0.at_ x0.short 1 = x1)
    (g2 : (TableP.routesD l (j + 1) a s).2 = D.2) (g3 : D.2.2 = false → ps ++ (TableP.routesD l (j + 1) a s).1 = D.1) : (TableP.routesD l j x1.at_ x1.short).2 = D.2 ∧ (D.2.2 = false → (ps ++ [⟨x0.n, x1.n⟩]) ++ (TableP.routesD l j x1.at_ x1.short).1 = D.1) := by
  cases s with
  | false =>
    simp only [TableP.routesD, Bool.false_eq_true, if_false, h0, h1] at g2 g3
    exact ⟨g2, fun h => by rw [← g3 h]; simp⟩
  | true =>
    simp only [TableP.routesD, if_true] at g2
    rw [take_true'] at h0
    subst h0
    rw [take_true'] at h1
    subst h1
    refine ⟨by rw [routesD_true, ← g2], fun h => ?_⟩
    rw [← g2] at h
    cases h
/-- What is left of the ports to be read, against what the whole comes to. -/
def PortsTo (ps : List TableP.Port) (r : (List TableP.Port × Nat × Bool) ⊕ (Nat × Nat)) (D : (List TableP.Port × Nat × Bool) ⊕ (Nat × Nat)) : Prop :=
  match r, D with
  | .inl x, .inl y => x.2 = y.2 ∧ (y.2.2 = false → ps ++ x.1 = y.1)
  | .inr x, .inr y => x = y
  | _, _ => False
theorem PortsTo.start (D : (List TableP.Port × Nat × Bool) ⊕ (Nat × Nat)) : PortsTo [] D D := by
  cases D <;> simp [PortsTo]
theorem portsD_bad {l : List UInt8} {j i a : Nat} {s : Bool} {x0 x1 x2 : WireP.Took} {ps : List TableP.Port} {D : (List TableP.Port × Nat × Bool) ⊕ (Nat × Nat)} (h0 : WireP.take l a s 1 = x0) (h1 : WireP.take l x0.at_ x0.short 1 = x1) (h2 : WireP.take l x1.at_ x1.short 1 = x2)
    (hb : 1 < x2.n) (g : PortsTo ps (TableP.portsD l (j + 1) i a s) D) : D = .inr (x2.at_, i) ∧ x2.short = false := by
  cases s with
  | true =>
    rw [take_true'] at h0
    subst h0
    rw [take_true'] at h1
    subst h1
    rw [take_true'] at h2
    subst h2
    simp at hb
  | false =>
    have hs : x2.short = false := by
      cases hx : x2.short with
      | false => rfl
      | true =>
        have h9 : x2.n = 0 := by
          rw [← h2] at hx ⊢
          unfold WireP.take at hx ⊢
          split at hx
          · rename_i hc
            rw [if_pos hc]
          · rename_i hc
            rw [if_neg hc]
            split at hx
            · rename_i hd
              rw [if_pos hd]
            · cases hx
        omega
    simp only [TableP.portsD, Bool.false_eq_true, if_false, h0, h1, h2] at g
    rw [if_pos ⟨hs, hb⟩] at g
    cases D with
    | inl y => exact g.elim
    | inr y => exact ⟨by rw [← (show (x2.at_, i) = y from g)], hs⟩
theorem portsD_step {l : List UInt8} {j i a : Nat} {s : Bool} {x0 x1 x2 x3 x4 x5 : WireP.Took} {ps : List TableP.Port} {D : (List TableP.Port × Nat × Bool) ⊕ (Nat × Nat)} (h0 : WireP.take l a s 1 = x0) (h1 : WireP.take l x0.at_ x0.short 1 = x1) (h2 : WireP.take l x1.at_ x1.short 1 = x2) (h3 : WireP.take l x2.at_ x2.short 1 = x3) (h4 : WireP.take l x3.at_ x3.short 1 = x4) (h5 : WireP.take l x4.at_ x4.short 1 = x5)
    (hb : ¬ 1 < x2.n) (g : PortsTo ps (TableP.portsD l (j + 1) i a s) D) : PortsTo (ps ++ [⟨x0.n, x1.n, x2.n == 1, x3.n, x4.n, x5.n⟩]) (TableP.portsD l j (i + 1) x5.at_ x5.short) D := by
  cases s with
  | true =>
    rw [take_true'] at h0
    subst h0
    rw [take_true'] at h1
    subst h1
    rw [take_true'] at h2
    subst h2
    rw [take_true'] at h3
    subst h3
    rw [take_true'] at h4
    subst h4
    rw [take_true'] at h5
    subst h5
    simp only [TableP.portsD, if_true] at g
    rw [portsD_true]
    cases D with
    | inr y => exact g.elim
    | inl y =>
      obtain ⟨g1, g2⟩ := g
      refine ⟨g1, fun h => ?_⟩
      rw [← g1] at h
      cases h
  | false =>
    simp only [TableP.portsD, Bool.false_eq_true, if_false, h0, h1, h2, h3, h4, h5] at g
    rw [if_neg (fun h => hb h.2)] at g
    cases hr : TableP.portsD l j (i + 1) x5.at_ x5.short with
    | inr e =>
      rw [hr] at g
      cases D with
      | inl y => exact g.elim
      | inr y => exact g
    | inl r =>
      rw [hr] at g
      cases D with
      | inr y => exact g.elim
      | inl y =>
        obtain ⟨g1, g2⟩ := g
        exact ⟨g1, fun h => by rw [← g2 h]; simp⟩
end Go.Proofs.Ytgceleipaiameaa
