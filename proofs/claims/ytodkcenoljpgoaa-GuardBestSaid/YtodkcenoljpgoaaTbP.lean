/- Takes one behind the other; contract of table's take. Conditions: where the Reader and the fields lie. · A Reader and a block that is read into (Bx); contracts of table's takeRoute, takePort, takePart. Conditions: where the Reader lies. · Contracts of table's takePort and takePart. Conditions: where the Reader lies. · Contract of table's takePart. Conditions: where the Reader lies. · Contract of table's takeTables. Conditions: where the Reader lies. -/
import Derived.Test.YtodkcenoljpgoaaTbA
import Derived.Test.YtodkcenoljpgoaaWirG
import Derived.Deep.QuietTactic
import Derived.Test.YtodkcenoljpgoaaTbD
import Derived.Deep.RegionHeld3
namespace Go.Proofs.Ytodkcenoljpgoaa
open Go.RowKit
set_option maxRecDepth 100000

theorem take_lt (l : List UInt8) (a : Nat) (s : Bool) (k : Nat) : (WireP.take l a s (k : Int)).n < 256 ^ k := by
  have h0 : 0 < 256 ^ k := Nat.pow_pos (by omega)
  unfold WireP.take
  split
  · exact h0
  · split
    · exact h0
    · have h1 := WireP.val_lt ((l.drop a).take (k : Int).toNat)
      have h2 : ((l.drop a).take (k : Int).toNat).length ≤ k := by simp; omega
      exact Nat.lt_of_lt_of_le h1 (Nat.pow_le_pow_right (by omega) h2)
theorem take_lt1 (l : List UInt8) (a : Nat) (s : Bool) : (WireP.take l a s 1).n < 256 := by simpa using take_lt l a s 1
theorem take_lt2 (l : List UInt8) (a : Nat) (s : Bool) : (WireP.take l a s 2).n < 65536 := by simpa using take_lt l a s 2
theorem take_lt4 (l : List UInt8) (a : Nat) (s : Bool) : (WireP.take l a s 4).n < 4294967296 := by simpa using take_lt l a s 4

theorem take_true' (l : List UInt8) (a : Nat) (k : Int) : WireP.take l a true k = ⟨0, a, true⟩ := by
  unfold WireP.take
  rw [if_pos (.inr (.inr rfl))]

/-- So many takes of so many bytes each. -/
def takesD (l : List UInt8) (s : Int) : Nat → Nat → Bool → List Nat × Nat × Bool
  | 0, a, sh => ([], a, sh)
  | k + 1, a, sh => ((WireP.take l a sh s).n :: (takesD l s k (WireP.take l a sh s).at_ (WireP.take l a sh s).short).1, (takesD l s k (WireP.take l a sh s).at_ (WireP.take l a sh s).short).2)

/-- A block's cells behind stores of numbers into fields here and there. -/
def setAll (b : Nat) : List (Nat × Nat) → List Nat → Array Value → Array Value
  | p :: r, v :: vs, cs => setAll b r vs (if p.1 = b then cs.setIfInBounds p.2 (.int .i64 (v : Nat)) else cs)
  | _, _, cs => cs
theorem setAll_snoc (b : Nat) : ∀ (ps : List (Nat × Nat)) (vs : List Nat) (cs : Array Value) (p : Nat × Nat) (v : Nat), ps.length = vs.length →
    setAll b (ps ++ [p]) (vs ++ [v]) cs = if p.1 = b then (setAll b ps vs cs).setIfInBounds p.2 (.int .i64 (v : Nat)) else setAll b ps vs cs
  | [], [], cs, p, v, _ => by simp [setAll]
  | [], _ :: _, _, _, _, h => by simp at h
  | _ :: _, [], _, _, _, h => by simp at h
  | q :: ps, u :: vs, cs, p, v, h => by
    simp only [List.cons_append, setAll]
    exact setAll_snoc b ps vs _ p v (by simpa using h)
theorem setAll_size (b : Nat) : ∀ (ps : List (Nat × Nat)) (vs : List Nat) (cs : Array Value), (setAll b ps vs cs).size = cs.size
  | [], vs, cs => by cases vs <;> simp [setAll]
  | p :: ps, [], cs => by simp [setAll]
  | p :: ps, v :: vs, cs => by
    simp only [setAll]
    rw [setAll_size b ps vs]
    split <;> simp

/-- What a take may write: the Reader, and the fields' blocks. -/
def FF (br : Nat) (ps : List (Nat × Nat)) (k : Nat) : Prop := k = br ∨ ∃ p ∈ ps, p.1 = k

/-- The fields: none of the Reader's, none of its bytes', each there. -/
structure FieldsOk (br : Nat) (A : Option Addr) (W : World) (ps : List (Nat × Nat)) : Prop where
  rd : ∀ p ∈ ps, p.1 ≠ br
  arr : ∀ p ∈ ps, blockOf A ≠ some p.1
  there : ∀ p ∈ ps, ∃ cs t, W.heap[p.1]? = some (.cells cs t (0, 0)) ∧ p.2 < cs.size

theorem takesD_step {l : List UInt8} {s : Int} {N a : Nat} {sh : Bool} {vs : List Nat} {D : List Nat × Nat × Bool} {x : WireP.Took} (hN : vs.length < N) (hx : WireP.take l a sh s = x) (h : D = (vs ++ (takesD l s (N - vs.length) a sh).1, (takesD l s (N - vs.length) a sh).2)) :
    D = ((vs ++ [x.n]) ++ (takesD l s (N - (vs ++ [x.n]).length) x.at_ x.short).1, (takesD l s (N - (vs ++ [x.n]).length) x.at_ x.short).2) := by
  obtain ⟨j, hj⟩ : ∃ j, N - vs.length = j + 1 := ⟨N - vs.length - 1, by omega⟩
  rw [h, hj, List.length_append, List.length_singleton, show N - (vs.length + 1) = j by omega]
  subst hx
  simp [takesD]

end Go.Proofs.Ytodkcenoljpgoaa
namespace Go.Proofs.Ytodkcenoljpgoaa
open Go.RowKit
set_option maxRecDepth 100000

structure BxOk (br bp : Nat) (A : Option Addr) : Prop where
  ne : br ≠ bp
  arr : blockOf A ≠ some bp
section
variable {br bp n cap : Nat} {A : Option Addr} {l : List UInt8} {W w w' : World} {t : TypeId} {a : Nat} {sh : Bool} {xs : Array Value}
end
section
variable {br n cap : Nat} {A : Option Addr} {l : List UInt8} {W0 w : World} {t : TypeId} {a : Nat} {sh : Bool} {xs : Array Value} {o1 o2 : Obj}
end

end Go.Proofs.Ytodkcenoljpgoaa
namespace Go.Proofs.Ytodkcenoljpgoaa
open Go.RowKit
set_option maxRecDepth 100000

theorem beq_one (n : Nat) : (((n : Nat) : Int) == 1) = (n == 1) := by
  by_cases h : n = 1
  · subst h; rfl
  · rw [beq_eq_false_iff_ne.2 h, beq_eq_false_iff_ne]; omega

end Go.Proofs.Ytodkcenoljpgoaa
namespace Go.Proofs.Ytodkcenoljpgoaa
open Go.RowKit
set_option maxRecDepth 100000

end Go.Proofs.Ytodkcenoljpgoaa
namespace Go.Proofs.Ytodkcenoljpgoaa
open Go.RowKit
set_option maxRecDepth 100000

section
variable {P : Program}
/-- append of elements of several cells, as one step of a region that draws. -/
theorem step_append_s {w0 : World} {ops : Array Oper} {o : Oper} {a : Act} {K : Act → World → Prop} {Q : Exit → Act → World → Prop} {E : Prop} (hgd : o.guard = none) (s x : Operand) (t : TypeId)
    (ho : o.op = .call { callee := .builtin .append, args := #[s, x], argTypes := #[t, t] }) (B : Nat) (e : TypeId) (z : Value) (size bytes : Nat)
    (ht : P.underlying t = some (.slice e)) (hinfo : (P.info? e).map (fun i => (i.zero, i.size, i.bytes)) = some (some z, size, bytes)) (hzs : z.cells.size = size) (hsz : 0 < size)
    (v : Value) (n : Nat) (xs : List Value) (hs : a.eval s = v) (hown : w0.ownsRow B e size v n xs) (A : Option Addr) (m c : Nat) (news : List Value) (hx : a.eval x = .slice A m c) (hl : news.length = m * size)
    (hnews : 0 < m → ∃ ad, A = some ad ∧ ∀ j u, news[j]? = some u → w0.cell? (ad.add j) = some u) (h1 : ∀ u ∈ news, u.oneCell' = true)
    (h63 : n + m ≤ maxLen) (hbytes : (n + m) * bytes ≤ 140737488355328) (hB : B ≤ w0.heap.size)
    (h : ∀ v' w', w'.ownsRow B e size v' (n + m) (xs ++ news) → Apart (fun k => v.ownBlock = some k) w0 w' → (v'.ownBlock = v.ownBlock ∨ v'.ownBlock = some w0.heap.size) → K (a.put o.dst v') w') :
    if Region.wanted o (yielded ops a.tmps) = true then Oper.wp P o a w0 K Q else E := by
  have hw : Region.wanted o (yielded ops a.tmps) = true := by simp [Region.wanted, hgd]
  rw [if_pos hw]
  exact wp_append_s s x t ho B e z size bytes ht hinfo hzs hsz v n xs hs hown A m c news hx hl hnews h1 h63 hbytes hB h
end

/-- A row of the call's own, from block B on. -/
structure OwnI {α : Type} (vals : α → List Value) (size : Nat) (e : TypeId) (B : Nat) (v : Value) (l : List α) (w : World) : Prop where
  own : w.ownsRow B e size v l.length (itemsV vals l)
section
variable {α : Type} {vals : α → List Value} {size : Nat} {e : TypeId} {B : Nat} {v v' : Value} {l : List α} {w w' : World}
theorem OwnI.nil (vals : α → List Value) (size : Nat) (e : TypeId) (B : Nat) (w : World) : OwnI vals size e B (.slice none 0 0) [] w := ⟨World.ownsRow_nil _ _ _ _⟩
theorem OwnI.new {F : Nat → Prop} (h : OwnI vals size e B v l w) (ha : Apart F w w') (hv : ∀ k, v.ownBlock = some k → ¬ F k) : OwnI vals size e B v l w' := ⟨own_apart h.own ha hv⟩
theorem OwnI.apart {F : Nat → Prop} (h : OwnI vals size e B v l w) (ha : Apart F w w') (hF : ∀ k, F k → k < B) : OwnI vals size e B v l w' :=
  h.new ha (fun k hk e => by have := (h.own.lt k hk).1; have := hF k e; omega)
theorem OwnI.more {y : α} (ho : w'.ownsRow B e size v' (l.length + 1) (itemsV vals l ++ vals y)) : OwnI vals size e B v' (l ++ [y]) w' := by
  refine ⟨?_⟩
  rw [List.length_append, List.length_singleton, itemsV_append, itemsV_one']
  exact ho
theorem OwnI.hi (h : OwnI vals size e B v l w) : ∀ k, v.ownBlock = some k → B ≤ k := fun k hk => (h.own.lt k hk).1
end
theorem infoP : (Try.prog.info? 71).map (fun i => (i.zero, i.size, i.bytes)) = some (some (.agg #[.int .i64 0, .int .i64 0, .int .i64 0, .int .i64 0, .int .i64 0, .int .u8 0, .int .u8 0, .int .u8 0, .int .u8 0]), 9, 48) := by kernel_rfl
theorem infoQ : (Try.prog.info? 74).map (fun i => (i.zero, i.size, i.bytes)) = some (some (.agg #[.int .i64 0, .int .u8 0, .bool false, .int .i64 0, .int .i64 0, .int .i64 0]), 6, 40) := by kernel_rfl
theorem infoR : (Try.prog.info? 76).map (fun i => (i.zero, i.size, i.bytes)) = some (some (.agg #[.int .i64 0, .int .i64 0]), 2, 16) := by kernel_rfl

/-! ### Plain: how the loops go on -/
theorem partsD_true (l : List UInt8) (j a : Nat) : TableP.partsD l j a true = ([], a, true) := by cases j <;> simp [TableP.partsD]
theorem routesD_true (l : List UInt8) (j a : Nat) : TableP.routesD l j a true = ([], a, true) := by cases j <;> simp [TableP.routesD]
theorem portsD_true (l : List UInt8) (j i a : Nat) : TableP.portsD l j i a true = .inl ([], a, true) := by cases j <;> simp [TableP.portsD]
theorem partsD_step {l : List UInt8} {j a : Nat} {s : Bool} {x0 x1 x2 x3 x4 x5 x6 x7 x8 : WireP.Took} {ps : List TableP.Part} {D : List TableP.Part × Nat × Bool} (h0 : WireP.take l a s 1 = x0) (h1 : WireP.take l x0.at_ x0.short 4 = x1) (h2 : WireP.take l x1.at_ x1.short 4 = x2) (h3 : WireP.take l x2.at_ x2.short 1 = x3) (h4 : WireP.take l x3.at_ x3.short 1 = x4) (h5 : WireP.take l x4.at_ x4.short 1 = x5) (h6 : WireP.take l x5.at_ x5.short 1 = x6) (h7 : WireP.take l x6.at_ x6.short 1 = x7) (h8 : WireP.take l x7.at_ x7.short 1 = x8)
    (g2 : (TableP.partsD l (j + 1) a s).2 = D.2) (g3 : D.2.2 = false → ps ++ (TableP.partsD l (j + 1) a s).1 = D.1) : (TableP.partsD l j x8.at_ x8.short).2 = D.2 ∧ (D.2.2 = false → (ps ++ [⟨x0.n, x1.n, x2.n, x3.n, x4.n, x5.n, x6.n, x7.n, x8.n⟩]) ++ (TableP.partsD l j x8.at_ x8.short).1 = D.1) := by
  cases s with
  | false =>
    simp only [TableP.partsD, Bool.false_eq_true, if_false, h0, h1, h2, h3, h4, h5, h6, h7, h8] at g2 g3
    exact ⟨g2, fun h => by rw [← g3 h]; simp⟩
  | true =>
    simp only [TableP.partsD, if_true] at g2
    rw [take_true'] at h0
    subst h0
    rw [take_true'] at h1
    subst h1
    rw [take_true'] at h2
    subst h2
    rw [take_true'] at h3
    subst h3
    rw [take_true'] at h4
    subst h4
    rw [take_true'] at h5
    subst h5
    rw [take_true'] at h6
    subst h6
    rw [take_true'] at h7
    subst h7
    rw [take_true'] at h8
    subst h8
    refine ⟨by rw [partsD_true, ← g2], fun h => ?_⟩
    rw [← g2] at h
    cases h
theorem routesD_step {l : List UInt8} {j a : Nat} {s : Bool} {x0 x1 : WireP.Took} {ps : List TableP.Route} {D : List TableP.Route × Nat × Bool} (h0 : WireP.take l a s 1 = x0) (h1 : WireP.take l x0.at_ x0.short 1 = x1)
    (g2 : (TableP.routesD l (j + 1) a s).2 = D.2) (g3 : D.2.2 = false → ps ++ (TableP.routesD l (j + 1) a s).1 = D.1) : (TableP.routesD l j x1.at_ x1.short).2 = D.2 ∧ (D.2.2 = false → (ps ++ [⟨x0.n, x1.n⟩]) ++ (TableP.routesD l j x1.at_ x1.short).1 = D.1) := by
  cases s with
  | false =>
    simp only [TableP.routesD, Bool.false_eq_true, if_false, h0, h1] at g2 g3
    exact ⟨g2, fun h => by rw [← g3 h]; simp⟩
  | true =>
    simp only [TableP.routesD, if_true] at g2
    rw [take_true'] at h0
    subst h0
    rw [take_true'] at h1
    subst h1
    refine ⟨by rw [routesD_true, ← g2], fun h => ?_⟩
    rw [← g2] at h
    cases h
/-- What is left of the ports to be read, against what the whole comes to. -/
def PortsTo (ps : List TableP.Port) (r : (List TableP.Port × Nat × Bool) ⊕ (Nat × Nat)) (D : (List TableP.Port × Nat × Bool) ⊕ (Nat × Nat)) : Prop :=
  match r, D with
  | .inl x, .inl y => x.2 = y.2 ∧ (y.2.2 = false → ps ++ x.1 = y.1)
  | .inr x, .inr y => x = y
  | _, _ => False
theorem PortsTo.start (D : (List TableP.Port × Nat × Bool) ⊕ (Nat × Nat)) : PortsTo [] D D := by
  cases D <;> simp [PortsTo]
theorem portsD_bad {l : List UInt8} {j i a : Nat} {s : Bool} {x0 x1 x2 : WireP.Took} {ps : List TableP.Port} {D : (List TableP.Port × Nat × Bool) ⊕ (Nat × Nat)} (h0 : WireP.take l a s 1 = x0) (h1 : WireP.take l x0.at_ x0.short 1 = x1) (h2 : WireP.take l x1.at_ x1.short 1 = x2)
    (hb : 1 < x2.n) (g : PortsTo ps (TableP.portsD l (j + 1) i a s) D) : D = .inr (x2.at_, i) ∧ x2.short = false := by
  cases s with
  | true =>
    rw [take_true'] at h0
    subst h0
    rw [take_true'] at h1
    subst h1
    rw [take_true'] at h2
    subst h2
    simp at hb
  | false =>
    have hs : x2.short = false := by
      cases hx : x2.short with
      | false => rfl
      | true =>
        have h9 : x2.n = 0 := by
          rw [← h2] at hx ⊢
          unfold WireP.take at hx ⊢
          split at hx
          · rename_i hc
            rw [if_pos hc]
          · rename_i hc
            rw [if_neg hc]
            split at hx
            · rename_i hd
              rw [if_pos hd]
            · cases hx
        omega
    simp only [TableP.portsD, Bool.false_eq_true, if_false, h0, h1, h2] at g
    rw [if_pos ⟨hs, hb⟩] at g
    cases D with
    | inl y => exact g.elim
    | inr y => exact ⟨by rw [← (show (x2.at_, i) = y from g)], hs⟩
theorem portsD_step {l : List UInt8} {j i a : Nat} {s : Bool} {x0 x1 x2 x3 x4 x5 : WireP.Took} {ps : List TableP.Port} {D : (List TableP.Port × Nat × Bool) ⊕ (Nat × Nat)} (h0 : WireP.take l a s 1 = x0) (h1 : WireP.take l x0.at_ x0.short 1 = x1) (h2 : WireP.take l x1.at_ x1.short 1 = x2) (h3 : WireP.take l x2.at_ x2.short 1 = x3) (h4 : WireP.take l x3.at_ x3.short 1 = x4) (h5 : WireP.take l x4.at_ x4.short 1 = x5)
    (hb : ¬ 1 < x2.n) (g : PortsTo ps (TableP.portsD l (j + 1) i a s) D) : PortsTo (ps ++ [⟨x0.n, x1.n, x2.n == 1, x3.n, x4.n, x5.n⟩]) (TableP.portsD l j (i + 1) x5.at_ x5.short) D := by
  cases s with
  | true =>
    rw [take_true'] at h0
    subst h0
    rw [take_true'] at h1
    subst h1
    rw [take_true'] at h2
    subst h2
    rw [take_true'] at h3
    subst h3
    rw [take_true'] at h4
    subst h4
    rw [take_true'] at h5
    subst h5
    simp only [TableP.portsD, if_true] at g
    rw [portsD_true]
    cases D with
    | inr y => exact g.elim
    | inl y =>
      obtain ⟨g1, g2⟩ := g
      refine ⟨g1, fun h => ?_⟩
      rw [← g1] at h
      cases h
  | false =>
    simp only [TableP.portsD, Bool.false_eq_true, if_false, h0, h1, h2, h3, h4, h5] at g
    rw [if_neg (fun h => hb h.2)] at g
    cases hr : TableP.portsD l j (i + 1) x5.at_ x5.short with
    | inr e =>
      rw [hr] at g
      cases D with
      | inl y => exact g.elim
      | inr y => exact g
    | inl r =>
      rw [hr] at g
      cases D with
      | inr y => exact g.elim
      | inl y =>
        obtain ⟨g1, g2⟩ := g
        exact ⟨g1, fun h => by rw [← g2 h]; simp⟩
end Go.Proofs.Ytodkcenoljpgoaa
