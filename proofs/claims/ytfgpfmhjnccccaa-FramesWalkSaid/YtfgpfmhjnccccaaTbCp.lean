/- Takes one behind the other; contract of table's take. Conditions: where the Reader and the fields lie. · A Reader and a block that is read into (Bx); contracts of table's takeRoute, takePort, takePart. Conditions: where the Reader lies. · Contracts of table's takePort and takePart. Conditions: where the Reader lies. · Contract of table's takePart. Conditions: where the Reader lies. · Contract of table's takeTables. Conditions: where the Reader lies. · Contract of the document's Copied at tables in memory: tables that read alike, with lists of their own. Conditions: where their lists lie; at most 1000000 items in each. -/
import Derived.Test.YtfgpfmhjnccccaaTbM
import Derived.Test.YtfgpfmhjnccccaaWirM
import Derived.Deep.QuietTactic
import Derived.Deep.RegionHeld3
namespace Go.Proofs.Ytfgpfmhjnccccaa
open Go.RowKit
set_option maxRecDepth 100000

theorem take_lt (l : List UInt8) (a : Nat) (s : Bool) (k : Nat) : (WireP.take l a s (k : Int)).n < 256 ^ k := by
  have h0 : 0 < 256 ^ k := Nat.pow_pos (by omega)
  unfold WireP.take
  split
  · exact h0
  · split
    · exact h0
    · have h1 := WireP.val_lt ((l.drop a).take (k : Int).toNat)
      have h2 : ((l.drop a).take (k : Int).toNat).length ≤ k := by simp; omega
      exact Nat.lt_of_lt_of_le h1 (Nat.pow_le_pow_right (by omega) h2)
theorem take_lt1 (l : List UInt8) (a : Nat) (s : Bool) : (WireP.take l a s 1).n < 256 := by simpa using take_lt l a s 1
theorem take_lt2 (l : List UInt8) (a : Nat) (s : Bool) : (WireP.take l a s 2).n < 65536 := by simpa using take_lt l a s 2
theorem take_lt4 (l : List UInt8) (a : Nat) (s : Bool) : (WireP.take l a s 4).n < 4294967296 := by simpa using take_lt l a s 4

theorem take_true' (l : List UInt8) (a : Nat) (k : Int) : WireP.take l a true k = ⟨0, a, true⟩ := by
  unfold WireP.take
  rw [if_pos (.inr (.inr rfl))]

/-- So many takes of so many bytes each. -/
def takesD (l : List UInt8) (s : Int) : Nat → Nat → Bool → List Nat × Nat × Bool
  | 0, a, sh => ([], a, sh)
  | k + 1, a, sh => ((WireP.take l a sh s).n :: (takesD l s k (WireP.take l a sh s).at_ (WireP.take l a sh s).short).1, (takesD l s k (WireP.take l a sh s).at_ (WireP.take l a sh s).short).2)

/-- A block's cells behind stores of numbers into fields here and there. -/
def setAll (b : Nat) : List (Nat × Nat) → List Nat → Array Value → Array Value
  | p :: r, v :: vs, cs => setAll b r vs (if p.1 = b then cs.setIfInBounds p.2 (.int .i64 (v : Nat)) else cs)
  | _, _, cs => cs
theorem setAll_snoc (b : Nat) : ∀ (ps : List (Nat × Nat)) (vs : List Nat) (cs : Array Value) (p : Nat × Nat) (v : Nat), ps.length = vs.length →
    setAll b (ps ++ [p]) (vs ++ [v]) cs = if p.1 = b then (setAll b ps vs cs).setIfInBounds p.2 (.int .i64 (v : Nat)) else setAll b ps vs cs
  | [], [], cs, p, v, _ => by simp [setAll]
  | [], _ :: _, _, _, _, h => by simp at h
  | _ :: _, [], _, _, _, h => by simp at h
  | q :: ps, u :: vs, cs, p, v, h => by
    simp only [List.cons_append, setAll]
    exact setAll_snoc b ps vs _ p v (by simpa using h)
theorem setAll_size (b : Nat) : ∀ (ps : List (Nat × Nat)) (vs : List Nat) (cs : Array Value), (setAll b ps vs cs).size = cs.size
  | [], vs, cs => by cases vs <;> simp [setAll]
  | p :: ps, [], cs => by simp [setAll]
  | p :: ps, v :: vs, cs => by
    simp only [setAll]
    rw [setAll_size b ps vs]
    split <;> simp

/-- What a take may write: the Reader, and the fields' blocks. -/
def FF (br : Nat) (ps : List (Nat × Nat)) (k : Nat) : Prop := k = br ∨ ∃ p ∈ ps, p.1 = k

/-- The fields: none of the Reader's, none of its bytes', each there. -/
structure FieldsOk (br : Nat) (A : Option Addr) (W : World) (ps : List (Nat × Nat)) : Prop where
  rd : ∀ p ∈ ps, p.1 ≠ br
  arr : ∀ p ∈ ps, blockOf A ≠ some p.1
  there : ∀ p ∈ ps, ∃ cs t, W.heap[p.1]? = some (.cells cs t (0, 0)) ∧ p.2 < cs.size

theorem takesD_step {l : List UInt8} {s : Int} {N a : Nat} {sh : Bool} {vs : List Nat} {D : List Nat × Nat × Bool} {x : WireP.Took} (hN : vs.length < N) (hx : WireP.take l a sh s = x) (h : D = (vs ++ (takesD l s (N - vs.length) a sh).1, (takesD l s (N - vs.length) a sh).2)) :
    D = ((vs ++ [x.n]) ++ (takesD l s (N - (vs ++ [x.n]).length) x.at_ x.short).1, (takesD l s (N - (vs ++ [x.n]).length) x.at_ x.short).2) := by
  obtain ⟨j, hj⟩ : ∃ j, N - vs.length = j + 1 := ⟨N - vs.length - 1, by omega⟩
  rw [h, hj, List.length_append, List.length_singleton, show N - (vs.length + 1) = j by omega]
  subst hx
  simp [takesD]

end Go.Proofs.Ytfgpfmhjnccccaa
namespace Go.Proofs.Ytfgpfmhjnccccaa
open Go.RowKit
set_option maxRecDepth 100000

structure BxOk (br bp : Nat) (A : Option Addr) : Prop where
  ne : br ≠ bp
  arr : blockOf A ≠ some bp
section
variable {br bp n cap : Nat} {A : Option Addr} {l : List UInt8} {W w w' : World} {t : TypeId} {a : Nat} {sh : Bool} {xs : Array Value}
end
section
variable {br n cap : Nat} {A : Option Addr} {l : List UInt8} {W0 w : World} {t : TypeId} {a : Nat} {sh : Bool} {xs : Array Value} {o1 o2 : Obj}
end

end Go.Proofs.Ytfgpfmhjnccccaa
namespace Go.Proofs.Ytfgpfmhjnccccaa
open Go.RowKit
set_option maxRecDepth 100000

theorem beq_one (n : Nat) : (((n : Nat) : Int) == 1) = (n == 1) := by
  by_cases h : n = 1
  · subst h; rfl
  · rw [beq_eq_false_iff_ne.2 h, beq_eq_false_iff_ne]; omega

end Go.Proofs.Ytfgpfmhjnccccaa
namespace Go.Proofs.Ytfgpfmhjnccccaa
open Go.RowKit
set_option maxRecDepth 100000

end Go.Proofs.Ytfgpfmhjnccccaa
namespace Go.Proofs.Ytfgpfmhjnccccaa
open Go.RowKit
set_option maxRecDepth 100000

section
variable {P : Program}
/-- append of elements of several cells, as one step of a region that draws. -/
theorem step_append_s {w0 : World} {ops : Array Oper} {o : Oper} {a : Act} {K : Act → World → Prop} {Q : Exit → Act → World → Prop} {E : Prop} (hgd : o.guard = none) (s x : Operand) (t : TypeId)
    (ho : o.op = .call { callee := .builtin .append, args := #[s, x], argTypes := #[t, t] }) (B : Nat) (e : TypeId) (z : Value) (size bytes : Nat)
    (ht : P.underlying t = some (.slice e)) (hinfo : (P.info? e).map (fun i => (i.zero, i.size, i.bytes)) = some (some z, size, bytes)) (hzs : z.cells.size = size) (hsz : 0 < size)
    (v : Value) (n : Nat) (xs : List Value) (hs : a.eval s = v) (hown : w0.ownsRow B e size v n xs) (A : Option Addr) (m c : Nat) (news : List Value) (hx : a.eval x = .slice A m c) (hl : news.length = m * size)
    (hnews : 0 < m → ∃ ad, A = some ad ∧ ∀ j u, news[j]? = some u → w0.cell? (ad.add j) = some u) (h1 : ∀ u ∈ news, u.oneCell' = true)
    (h63 : n + m ≤ maxLen) (hbytes : (n + m) * bytes ≤ 140737488355328) (hB : B ≤ w0.heap.size)
    (h : ∀ v' w', w'.ownsRow B e size v' (n + m) (xs ++ news) → Apart (fun k => v.ownBlock = some k) w0 w' → (v'.ownBlock = v.ownBlock ∨ v'.ownBlock = some w0.heap.size) → K (a.put o.dst v') w') :
    if Region.wanted o (yielded ops a.tmps) = true then Oper.wp P o a w0 K Q else E := by
  have hw : Region.wanted o (yielded ops a.tmps) = true := by simp [Region.wanted, hgd]
  rw [if_pos hw]
  exact wp_append_s s x t ho B e z size bytes ht hinfo hzs hsz v n xs hs hown A m c news hx hl hnews h1 h63 hbytes hB h
end

/-- A row of the call's own, from block B on. -/
structure OwnI {α : Type} (vals : α → List Value) (size : Nat) (e : TypeId) (B : Nat) (v : Value) (l : List α) (w : World) : Prop where
  own : w.ownsRow B e size v l.length (itemsV vals l)
section
variable {α : Type} {vals : α → List Value} {size : Nat} {e : TypeId} {B : Nat} {v v' : Value} {l : List α} {w w' : World}
theorem OwnI.nil (vals : α → List Value) (size : Nat) (e : TypeId) (B : Nat) (w : World) : OwnI vals size e B (.slice none 0 0) [] w := ⟨World.ownsRow_nil _ _ _ _⟩
theorem OwnI.new {F : Nat → Prop} (h : OwnI vals size e B v l w) (ha : Apart F w w') (hv : ∀ k, v.ownBlock = some k → ¬ F k) : OwnI vals size e B v l w' := ⟨own_apart h.own ha hv⟩
theorem OwnI.apart {F : Nat → Prop} (h : OwnI vals size e B v l w) (ha : Apart F w w') (hF : ∀ k, F k → k < B) : OwnI vals size e B v l w' :=
  h.new ha (fun k hk e => by have := (h.own.lt k hk).1; have := hF k e; omega)
theorem OwnI.more {y : α} (ho : w'.ownsRow B e size v' (l.length + 1) (itemsV vals l ++ vals y)) : OwnI vals size e B v' (l ++ [y]) w' := by
  refine ⟨?_⟩
  rw [List.length_append, List.length_singleton, itemsV_append, itemsV_one']
  exact ho
theorem OwnI.hi (h : OwnI vals size e B v l w) : ∀ k, v.ownBlock = some k → B ≤ k := fun k hk => (h.own.lt k hk).1
end
theorem infoP : (Try.prog.info? 39).map (fun i => (i.zero, i.size, i.bytes)) = some (some (.agg #[.int .i64 0, .int .i64 0, .int .i64 0, .int .i64 0, .int .i64 0, .int .u8 0, .int .u8 0, .int .u8 0, .int .u8 0]), 9, 48) := by kernel_rfl
theorem infoQ : (Try.prog.info? 55).map (fun i => (i.zero, i.size, i.bytes)) = some (some (.agg #[.int .i64 0, .int .u8 0, .bool false, .int .i64 0, .int .i64 0, .int .i64 0]), 6, 40) := by kernel_rfl
theorem infoR : (Try.prog.info? 57).map (fun i => (i.zero, i.size, i.bytes)) = some (some (.agg #[.int .i64 0, .int .i64 0]), 2, 16) := by kernel_rfl

/-! ### Plain: how the loops go on -/
theorem partsD_true (l : List UInt8) (j a : Nat) : TableP.partsD l j a true = ([], a, true) := by cases j <;> simp [TableP.partsD]
theorem routesD_true (l : List UInt8) (j a : Nat) : TableP.routesD l j a true = ([], a, true) := by cases j <;> simp [TableP.routesD]
theorem portsD_true (l : List UInt8) (j i a : Nat) : TableP.portsD l j i a true = .inl ([], a, true) := by cases j <;> simp [TableP.portsD]
theorem partsD_step {l : List UInt8} {j a : Nat} {s : Bool} {x0 x1 x2 x3 x4 x5 x6 x7 x8 : WireP.Took} {ps : List TableP.Part} {D : List TableP.Part × Nat × Bool} (h0 : WireP.take l a s 1 = x0) (h1 : WireP.take l x0.at_ x0.short 4 = x1) (h2 : WireP.take l x1.at_ x1.short 4 = x2) (h3 : WireP.take l x2.at_ x2.short 1 = x3) (h4 : WireP.take l x3.at_ x3.short 1 = x4) (h5 : WireP.take l x4.at_ x4.short 1 = x5) (h6 : WireP.take l x5.at_ x5.short 1 = x6) (h7 : WireP.take l x6.at_ x6.short 1 = x7) (h8 : WireP.take l x7.at_ x7.short 1 = x8)
    (g2 : (TableP.partsD l (j + 1) a s).2 = D.2) (g3 : D.2.2 = false → ps ++ (TableP.partsD l (j + 1) a s).1 = D.1) : (TableP.partsD l j x8.at_ x8.short).2 = D.2 ∧ (D.2.2 = false → (ps ++ [⟨x0.n, x1.n, x2.n, x3.n, x4.n, x5.n, x6.n, x7.n, x8.n⟩]) ++ (TableP.partsD l j x8.at_ x8.short).1 = D.1) := by
  cases s with
  | false =>
    simp only [TableP.partsD, Bool.false_eq_true, if_false, h0, h1, h2, h3, h4, h5, h6, h7, h8] at g2 g3
    exact ⟨g2, fun h => by rw [← g3 h]; simp⟩
  | true =>
    simp only [TableP.partsD, if_true] at g2
    rw [take_true'] at h0
    subst h0
    rw [take_true'] at h1
    subst h1
    rw [take_true'] at h2
    subst h2
    rw [take_true'] at h3
    subst h3
    rw [take_true'] at h4
    subst h4
    rw [take_true'] at h5
    subst h5
    rw [take_true'] at h6
    subst h6
    rw [take_true'] at h7
    subst h7
    rw [take_true'] at h8
    subst h8
    refine ⟨by rw [partsD_true, ← g2], fun h => ?_⟩
    rw [← g2] at h
    cases h
theorem routesD_step {l : List UInt8} {j a : Nat} {s : Bool} {x0 x1 : WireP.Took} {ps : List TableP.Route} {D : List TableP.Route × Nat × Bool} (h0 : WireP.take l a s 1 = x0) (h1 : WireP.take l x0.at_ x0.short 1 = x1)
    (g2 : (TableP.routesD l (j + 1) a s).2 = D.2) (g3 : D.2.2 = false → ps ++ (TableP.routesD l (j + 1) a s).1 = D.1) : (TableP.routesD l j x1.at_ x1.short).2 = D.2 ∧ (D.2.2 = false → (ps ++ [⟨x0.n, x1.n⟩]) ++ (TableP.routesD l j x1.at_ x1.short).1 = D.1) := by
  cases s with
  | false =>
    simp only [TableP.routesD, Bool.false_eq_true, if_false, h0, h1] at g2 g3
    exact ⟨g2, fun h => by rw [← g3 h]; simp⟩
  | true =>
    simp only [TableP.routesD, if_true] at g2
    rw [take_true'] at h0
    subst h0
    rw [take_true'] at h1
    subst h1
    refine ⟨by rw [routesD_true, ← g2], fun h => ?_⟩
    rw [← g2] at h
    cases h
/-- What is left of the ports to be read, against what the whole comes to. -/
def PortsTo (ps : List TableP.Port) (r : (List TableP.Port × Nat × Bool) ⊕ (Nat × Nat)) (D : (List TableP.Port × Nat × Bool) ⊕ (Nat × Nat)) : Prop :=
  match r, D with
  | .inl x, .inl y => x.2 = y.2 ∧ (y.2.2 = false → ps ++ x.1 = y.1)
  | .inr x, .inr y => x = y
  | _, _ => False
theorem PortsTo.start (D : (List TableP.Port × Nat × Bool) ⊕ (Nat × Nat)) : PortsTo [] D D := by
  cases D <;> simp [PortsTo]
theorem portsD_bad {l : List UInt8} {j i a : Nat} {s : Bool} {x0 x1 x2 : WireP.Took} {ps : List TableP.Port} {D : (List TableP.Port × Nat × Bool) ⊕ (Nat × Nat)} (h0 : WireP.take l a s 1 = x0) (h1 : WireP.take l x0.at_ x0.short 1 = x1) (h2 : WireP.take l x1.at_ x1.short 1 = x2)
    (hb : 1 < x2.n) (g : PortsTo ps (TableP.portsD l (j + 1) i a s) D) : D = .inr (x2.at_, i) ∧ x2.short = false := by
  cases s with
  | true =>
    rw [take_true'] at h0
    subst h0
    rw [take_true'] at h1
    subst h1
    rw [take_true'] at h2
    subst h2
    simp at hb
  | false =>
    have hs : x2.short = false := by
      cases hx : x2.short with
      | false => rfl
      | true =>
        have h9 : x2.n = 0 := by
          rw [← h2] at hx ⊢
          unfold WireP.take at hx ⊢
          split at hx
          · rename_i hc
            rw [if_pos hc]
          · rename_i hc
            rw [if_neg hc]
            split at hx
            · rename_i hd
              rw [if_pos hd]
            · cases hx
        omega
    simp only [TableP.portsD, Bool.false_eq_true, if_false, h0, h1, h2] at g
    rw [if_pos ⟨hs, hb⟩] at g
    cases D with
    | inl y => exact g.elim
    | inr y => exact ⟨by rw [← (show (x2.at_, i) = y from g)], hs⟩
theorem portsD_step {l : List UInt8} {j i a : Nat} {s : Bool} {x0 x1 x2 x3 x4 x5 : WireP.Took} {ps : List TableP.Port} {D : (List TableP.Port × Nat × Bool) ⊕ (Nat × Nat)} (h0 : WireP.take l a s 1 = x0) (h1 : WireP.take l x0.at_ x0.short 1 = x1) (h2 : WireP.take l x1.at_ x1.short 1 = x2) (h3 : WireP.take l x2.at_ x2.short 1 = x3) (h4 : WireP.take l x3.at_ x3.short 1 = x4) (h5 : WireP.take l x4.at_ x4.short 1 = x5)
    (hb : ¬ 1 < x2.n) (g : PortsTo ps (TableP.portsD l (j + 1) i a s) D) : PortsTo (ps ++ [⟨x0.n, x1.n, x2.n == 1, x3.n, x4.n, x5.n⟩]) (TableP.portsD l j (i + 1) x5.at_ x5.short) D := by
  cases s with
  | true =>
    rw [take_true'] at h0
    subst h0
    rw [take_true'] at h1
    subst h1
    rw [take_true'] at h2
    subst h2
    rw [take_true'] at h3
    subst h3
    rw [take_true'] at h4
    subst h4
    rw [take_true'] at h5
    subst h5
    simp only [TableP.portsD, if_true] at g
    rw [portsD_true]
    cases D with
    | inr y => exact g.elim
    | inl y =>
      obtain ⟨g1, g2⟩ := g
      refine ⟨g1, fun h => ?_⟩
      rw [← g1] at h
      cases h
  | false =>
    simp only [TableP.portsD, Bool.false_eq_true, if_false, h0, h1, h2, h3, h4, h5] at g
    rw [if_neg (fun h => hb h.2)] at g
    cases hr : TableP.portsD l j (i + 1) x5.at_ x5.short with
    | inr e =>
      rw [hr] at g
      cases D with
      | inl y => exact g.elim
      | inr y => exact g
    | inl r =>
      rw [hr] at g
      cases D with
      | inr y => exact g.elim
      | inl y =>
        obtain ⟨g1, g2⟩ := g
        exact ⟨g1, fun h => by rw [← g2 h]; simp⟩
end Go.Proofs.Ytfgpfmhjnccccaa
namespace Go.Proofs.Ytfgpfmhjnccccaa
open Go.RowKit
set_option maxRecDepth 100000

theorem own_empty (W : World) (B N size : Nat) (e : TypeId) (hN : N = W.heap.size) (hB : B ≤ W.heap.size) : (W.alloc (.cells #[] e)).ownsRow B e size (.slice (some ⟨N, 0, none⟩) 0 0) 0 [] := by
  subst hN
  exact World.ownsRow_lit (base := B) (e := e) (size := size) W #[] 0 hB (by unfold maxLen; omega) (by simp)
def CopiedPost (f : TableP.Cfg) (w : World) (e : Ending) (w' : World) : Prop := ∃ v, e = .returned v ∧ CfgAt w' v f ∧ Below w.heap.size w w'
/-- The same, and the copies' rows are the call's own. -/
def CopiedOwn (f : TableP.Cfg) (w : World) (e : Ending) (w' : World) : Prop :=
  ∃ x3 : CfgC, e = .returned x3.value ∧ CfgIn w' x3 ∧ x3.plain = f ∧ OwnI partVals 9 39 (w.heap.size + 2) (.slice x3.PA x3.pn x3.pcap) x3.parts w' ∧ OwnI portVals 6 55 (w.heap.size + 2) (.slice x3.QA x3.qn x3.qcap) x3.ports w' ∧
    OwnI routeVals 2 57 (w.heap.size + 2) (.slice x3.RA x3.rn x3.rcap) x3.routes w' ∧ Below w.heap.size w w'

/-- The argument's box and the result's, and what was made so far. -/
structure CpS (w : World) (cs zs : Array Value) (W : World) : Prop where
  box : W.heap[w.heap.size]? = some (.cells cs 26 (0, 0))
  res : W.heap[w.heap.size + 1]? = some (.cells zs 26 (0, 0))
  bel : Below w.heap.size w W
theorem CpS.lt {w : World} {cs zs : Array Value} {W : World} (h : CpS w cs zs W) : w.heap.size + 2 ≤ W.heap.size := lt_of_block h.res
theorem CpS.step {w : World} {cs zs : Array Value} {W W' : World} (h : CpS w cs zs W) (hb : Below W.heap.size W W') : CpS w cs zs W' := by
  have := h.lt
  exact ⟨(hb.block _ (by omega)).trans h.box, (hb.block _ (by omega)).trans h.res, h.bel.trans (hb.mono (by omega))⟩
theorem CpS.store {w : World} {cs zs : Array Value} {W : World} (h : CpS w cs zs W) (i : Nat) (u : Value) : CpS w (cs.setIfInBounds i u) zs (W.setCell ⟨w.heap.size, i, none⟩ u) :=
  ⟨heap_setCell_same W _ i _ _ u h.box, (Below.heap_setCell _ _ _ _ (by simp)).trans h.res, h.bel.setCell (by simp) _⟩
/-- Behind an append to what was made empty. -/
theorem below_app {W w1 : World} {o : Obj} {N : Nat} (hN : N = W.heap.size) (ha : Apart (fun k => N = k) (W.alloc o) w1) : Below W.heap.size W w1 :=
  ((Below.refl _ _).alloc (Nat.le_refl _) _).trans (ha.below (by simp) (fun k e => by omega))
theorem items_own' {α : Type} {vals : α → List Value} {size : Nat} (hs : ∀ x, (vals x).length = size) {e : TypeId} {B : Nat} {A : Option Addr} {n cap : Nat} {l : List α} {W : World} (h : OwnI vals size e B (.slice A n cap) l W) (hl : l.length = n) : n ≤ cap ∧ ItemsIn vals size W A l := by
  obtain ⟨A', cap', e1, h1, h2⟩ := ItemsIn.own hs h.own
  injection e1 with e1 _ e3
  subst e1 e3
  exact ⟨by omega, h2⟩

set_option maxHeartbeats 4000000 in
theorem copied_own (x : CfgC) (w : World) (h : CfgIn w x) (hp : x.pn ≤ 1000000) (hq : x.qn ≤ 1000000) (hr : x.rn ≤ 1000000) :
    Calls Try.prog 9 #[x.value] w (CopiedOwn x.plain w) := by
  have HP := Lib.hid (fun W (hW : Below w.heap.size w W) => h.parts.below hW)
  have HQ := Lib.hid (fun W (hW : Below w.heap.size w W) => h.ports.below hW)
  have HR := Lib.hid (fun W (hW : Below w.heap.size w W) => h.routes.below hW)
  have Hpl := Lib.hid h.plen
  have Hql := Lib.hid h.qlen
  have Hrl := Lib.hid h.rlen
  clear h
  obtain ⟨nodes, faulty, slot, gap, rho, dmin, dmax, margin, PA, pn, pcap, parts, QA, qn, qcap, ports, RA, rn, rcap, routes⟩ := x
  simp only at HP HQ HR Hpl Hql Hrl hp hq hr
  simp only [CfgC.value]
  have HS0 : Hid (CpS w #[.int .i64 nodes, .int .i64 faulty, .int .i64 slot, .int .i64 gap, .int .i64 rho, .int .i64 dmin, .int .i64 dmax, .int .i64 margin, .slice PA pn pcap, .slice QA qn qcap, .slice RA rn rcap] #[.int .i64 0, .int .i64 0, .int .i64 0, .int .i64 0, .int .i64 0, .int .i64 0, .int .i64 0, .int .i64 0, .slice none 0 0, .slice none 0 0, .slice none 0 0] ((w.alloc (.cells #[.int .i64 nodes, .int .i64 faulty, .int .i64 slot, .int .i64 gap, .int .i64 rho, .int .i64 dmin, .int .i64 dmax, .int .i64 margin, .slice PA pn pcap, .slice QA qn qcap, .slice RA rn rcap] 26)).alloc (.cells #[.int .i64 0, .int .i64 0, .int .i64 0, .int .i64 0, .int .i64 0, .int .i64 0, .int .i64 0, .int .i64 0, .slice none 0 0, .slice none 0 0, .slice none 0 0] 26))) := Lib.hid
    ⟨(Below.heap_alloc _ _ _ (by simp)).trans (heap_alloc_new w _), by have h9 := heap_alloc_new (w.alloc (.cells #[.int .i64 nodes, .int .i64 faulty, .int .i64 slot, .int .i64 gap, .int .i64 rho, .int .i64 dmin, .int .i64 dmax, .int .i64 margin, .slice PA pn pcap, .slice QA qn qcap, .slice RA rn rcap] 26)) (.cells #[.int .i64 0, .int .i64 0, .int .i64 0, .int .i64 0, .int .i64 0, .int .i64 0, .int .i64 0, .int .i64 0, .slice none 0 0, .slice none 0 0, .slice none 0 0] 26); simpa using h9, ((Below.refl _ _).alloc (Nat.le_refl _) _).alloc (by simp) _⟩
  go_enter Try.func9, Try.ntmps9
  go_wp2_with (first
  | (at_builtin
     refine wpList_append_s rfl (.tmp 3) (.tmp 5) _ rfl (w.heap.size + 2) 39 _ 9 48 Try.underlying22 infoP rfl (by omega) _ 0 [] rfl (own_empty _ (w.heap.size + 2) _ 9 _ (by simp) (by have := HS0.out.lt; simp at this ⊢ <;> omega)) PA pn pcap (itemsV partVals parts) rfl (by rw [itemsV_length partVals_len, Hpl.out]) ?n1 (itemsV_oneCell partVals_one _) (by unfold maxLen; omega) (by omega) (by have := HS0.out.lt; simp at this ⊢ <;> omega) ?_
     case n1 => exact fun hn => (HP.out _ (HS0.out.bel.alloc (by have := HS0.out.lt; simp at this ⊢ <;> omega) _)).news partVals_len (by omega) (by rw [Hpl.out]; exact hn)
     intro v1 w1 ho1 ha1 hb1
     have hap1 : Apart (fun k => w.heap.size + 1 + 1 = k) _ w1 := ha1.mono (fun k _ e => Option.some.inj e)
     have hbl := below_app (W := ((w.alloc (.cells #[.int .i64 nodes, .int .i64 faulty, .int .i64 slot, .int .i64 gap, .int .i64 rho, .int .i64 dmin, .int .i64 dmax, .int .i64 margin, .slice PA pn pcap, .slice QA qn qcap, .slice RA rn rcap] 26)).alloc (.cells #[.int .i64 0, .int .i64 0, .int .i64 0, .int .i64 0, .int .i64 0, .int .i64 0, .int .i64 0, .int .i64 0, .slice none 0 0, .slice none 0 0, .slice none 0 0] 26))) (by simp) hap1
     clear hap1
     have hs1 := HS0.out.step hbl
     have hr1 : OwnI partVals 9 39 (w.heap.size + 2) v1 parts w1 := ⟨by rw [Hpl.out]; simpa using ho1⟩
     obtain ⟨A1, c1, hv1, -⟩ := own_slice ho1
     rw [Nat.zero_add] at hv1
     subst hv1
     have kb1 : w1.cell? ⟨w.heap.size, 8, none⟩ = some (.slice PA pn pcap) := cell_at hs1.box 8 rfl
     have fb1 := free_at hs1.box 8
     have hz1 : w.heap.size < w1.heap.size := by have := hs1.lt; omega
     have hs2 := hs1.store 8 (.slice A1 pn c1)
     have kn1_9 : (w1.setCell ⟨w.heap.size, 8, none⟩ (.slice A1 pn c1)).cell? ⟨w.heap.size, 9, none⟩ = some (.slice QA qn qcap) := cell_at hs2.box 9 rfl
     have fn1_9 := free_at hs2.box 9
     have kn1_10 : (w1.setCell ⟨w.heap.size, 8, none⟩ (.slice A1 pn c1)).cell? ⟨w.heap.size, 10, none⟩ = some (.slice RA rn rcap) := cell_at hs2.box 10 rfl
     have fn1_10 := free_at hs2.box 10
     have RW1 := Lib.hid (hr1.apart (Apart.setCell (F := fun q => q = w.heap.size) (Apart.refl _ w1) (p := ⟨w.heap.size, 8, none⟩) (.inl rfl) (.slice A1 pn c1)) (fun q e => by omega))
     have HS1 := Lib.hid hs2
     clear ho1 ha1 hb1 hs1 hs2 hr1 hbl)
  | (at_builtin
     refine wpList_append_s rfl (.tmp 8) (.tmp 10) _ rfl (w.heap.size + 2) 55 _ 6 40 Try.underlying23 infoQ rfl (by omega) _ 0 [] rfl (own_empty _ (w.heap.size + 2) _ 6 _ (by simp) (by have := HS1.out.lt; simp at this ⊢ <;> omega)) QA qn qcap (itemsV portVals ports) rfl (by rw [itemsV_length portVals_len, Hql.out]) ?n2 (itemsV_oneCell portVals_one _) (by unfold maxLen; omega) (by omega) (by have := HS1.out.lt; simp at this ⊢ <;> omega) ?_
     case n2 => exact fun hn => (HQ.out _ (HS1.out.bel.alloc (by have := HS1.out.lt; simp at this ⊢ <;> omega) _)).news portVals_len (by omega) (by rw [Hql.out]; exact hn)
     intro v2 w2 ho2 ha2 hb2
     have hap2 : Apart (fun k => w1.heap.size = k) _ w2 := ha2.mono (fun k _ e => Option.some.inj e)
     have hbl := below_app (W := (w1.setCell ⟨w.heap.size, 8, none⟩ (.slice A1 pn c1))) (by simp) hap2
     clear hap2
     have hs1 := HS1.out.step hbl
     have hr1 : OwnI portVals 6 55 (w.heap.size + 2) v2 ports w2 := ⟨by rw [Hql.out]; simpa using ho2⟩
     obtain ⟨A2, c2, hv2, -⟩ := own_slice ho2
     rw [Nat.zero_add] at hv2
     subst hv2
     have kb2 : w2.cell? ⟨w.heap.size, 9, none⟩ = some (.slice QA qn qcap) := cell_at hs1.box 9 rfl
     have fb2 := free_at hs1.box 9
     have hz2 : w.heap.size < w2.heap.size := by have := hs1.lt; omega
     have hs2 := hs1.store 9 (.slice A2 qn c2)
     have kn2_10 : (w2.setCell ⟨w.heap.size, 9, none⟩ (.slice A2 qn c2)).cell? ⟨w.heap.size, 10, none⟩ = some (.slice RA rn rcap) := cell_at hs2.box 10 rfl
     have fn2_10 := free_at hs2.box 10
     have RW2 := Lib.hid (hr1.apart (Apart.setCell (F := fun q => q = w.heap.size) (Apart.refl _ w2) (p := ⟨w.heap.size, 9, none⟩) (.inl rfl) (.slice A2 qn c2)) (fun q e => by omega))
     have RW1n := (RW1.out.apart (F := fun _ => False) (Apart.of_below' hbl) (fun _ h => h.elim)).apart (Apart.setCell (F := fun q => q = w.heap.size) (Apart.refl _ w2) (p := ⟨w.heap.size, 9, none⟩) (.inl rfl) (.slice A2 qn c2)) (fun q e => by omega)
     clear RW1
     have RW1 := Lib.hid RW1n
     clear RW1n
     have HS2 := Lib.hid hs2
     clear ho2 ha2 hb2 hs1 hs2 hr1 hbl)
  | (at_builtin
     refine wpList_append_s rfl (.tmp 13) (.tmp 15) _ rfl (w.heap.size + 2) 57 _ 2 16 Try.underlying24 infoR rfl (by omega) _ 0 [] rfl (own_empty _ (w.heap.size + 2) _ 2 _ (by simp) (by have := HS2.out.lt; simp at this ⊢ <;> omega)) RA rn rcap (itemsV routeVals routes) rfl (by rw [itemsV_length routeVals_len, Hrl.out]) ?n3 (itemsV_oneCell routeVals_one _) (by unfold maxLen; omega) (by omega) (by have := HS2.out.lt; simp at this ⊢ <;> omega) ?_
     case n3 => exact fun hn => (HR.out _ (HS2.out.bel.alloc (by have := HS2.out.lt; simp at this ⊢ <;> omega) _)).news routeVals_len (by omega) (by rw [Hrl.out]; exact hn)
     intro v3 w3 ho3 ha3 hb3
     have hap3 : Apart (fun k => w2.heap.size = k) _ w3 := ha3.mono (fun k _ e => Option.some.inj e)
     have hbl := below_app (W := (w2.setCell ⟨w.heap.size, 9, none⟩ (.slice A2 qn c2))) (by simp) hap3
     clear hap3
     have hs1 := HS2.out.step hbl
     have hr1 : OwnI routeVals 2 57 (w.heap.size + 2) v3 routes w3 := ⟨by rw [Hrl.out]; simpa using ho3⟩
     obtain ⟨A3, c3, hv3, -⟩ := own_slice ho3
     rw [Nat.zero_add] at hv3
     subst hv3
     have kb3 : w3.cell? ⟨w.heap.size, 10, none⟩ = some (.slice RA rn rcap) := cell_at hs1.box 10 rfl
     have fb3 := free_at hs1.box 10
     have hz3 : w.heap.size < w3.heap.size := by have := hs1.lt; omega
     have hs2 := hs1.store 10 (.slice A3 rn c3)
     have kn3_0 : (w3.setCell ⟨w.heap.size, 10, none⟩ (.slice A3 rn c3)).cell? ⟨w.heap.size, 0, none⟩ = some (.int .i64 nodes) := cell_at hs2.box 0 rfl
     have fn3_0 := free_at hs2.box 0
     have kn3_1 : (w3.setCell ⟨w.heap.size, 10, none⟩ (.slice A3 rn c3)).cell? ⟨w.heap.size, 1, none⟩ = some (.int .i64 faulty) := cell_at hs2.box 1 rfl
     have fn3_1 := free_at hs2.box 1
     have kn3_2 : (w3.setCell ⟨w.heap.size, 10, none⟩ (.slice A3 rn c3)).cell? ⟨w.heap.size, 2, none⟩ = some (.int .i64 slot) := cell_at hs2.box 2 rfl
     have fn3_2 := free_at hs2.box 2
     have kn3_3 : (w3.setCell ⟨w.heap.size, 10, none⟩ (.slice A3 rn c3)).cell? ⟨w.heap.size, 3, none⟩ = some (.int .i64 gap) := cell_at hs2.box 3 rfl
     have fn3_3 := free_at hs2.box 3
     have kn3_4 : (w3.setCell ⟨w.heap.size, 10, none⟩ (.slice A3 rn c3)).cell? ⟨w.heap.size, 4, none⟩ = some (.int .i64 rho) := cell_at hs2.box 4 rfl
     have fn3_4 := free_at hs2.box 4
     have kn3_5 : (w3.setCell ⟨w.heap.size, 10, none⟩ (.slice A3 rn c3)).cell? ⟨w.heap.size, 5, none⟩ = some (.int .i64 dmin) := cell_at hs2.box 5 rfl
     have fn3_5 := free_at hs2.box 5
     have kn3_6 : (w3.setCell ⟨w.heap.size, 10, none⟩ (.slice A3 rn c3)).cell? ⟨w.heap.size, 6, none⟩ = some (.int .i64 dmax) := cell_at hs2.box 6 rfl
     have fn3_6 := free_at hs2.box 6
     have kn3_7 : (w3.setCell ⟨w.heap.size, 10, none⟩ (.slice A3 rn c3)).cell? ⟨w.heap.size, 7, none⟩ = some (.int .i64 margin) := cell_at hs2.box 7 rfl
     have fn3_7 := free_at hs2.box 7
     have kn3_8 : (w3.setCell ⟨w.heap.size, 10, none⟩ (.slice A3 rn c3)).cell? ⟨w.heap.size, 8, none⟩ = some (.slice A1 pn c1) := cell_at hs2.box 8 rfl
     have fn3_8 := free_at hs2.box 8
     have kn3_9 : (w3.setCell ⟨w.heap.size, 10, none⟩ (.slice A3 rn c3)).cell? ⟨w.heap.size, 9, none⟩ = some (.slice A2 qn c2) := cell_at hs2.box 9 rfl
     have fn3_9 := free_at hs2.box 9
     have kn3_10 : (w3.setCell ⟨w.heap.size, 10, none⟩ (.slice A3 rn c3)).cell? ⟨w.heap.size, 10, none⟩ = some (.slice A3 rn c3) := cell_at hs2.box 10 rfl
     have fn3_10 := free_at hs2.box 10
     have RW3 := Lib.hid (hr1.apart (Apart.setCell (F := fun q => q = w.heap.size) (Apart.refl _ w3) (p := ⟨w.heap.size, 10, none⟩) (.inl rfl) (.slice A3 rn c3)) (fun q e => by omega))
     have RW1n := (RW1.out.apart (F := fun _ => False) (Apart.of_below' hbl) (fun _ h => h.elim)).apart (Apart.setCell (F := fun q => q = w.heap.size) (Apart.refl _ w3) (p := ⟨w.heap.size, 10, none⟩) (.inl rfl) (.slice A3 rn c3)) (fun q e => by omega)
     clear RW1
     have RW1 := Lib.hid RW1n
     clear RW1n
     have RW2n := (RW2.out.apart (F := fun _ => False) (Apart.of_below' hbl) (fun _ h => h.elim)).apart (Apart.setCell (F := fun q => q = w.heap.size) (Apart.refl _ w3) (p := ⟨w.heap.size, 10, none⟩) (.inl rfl) (.slice A3 rn c3)) (fun q e => by omega)
     clear RW2
     have RW2 := Lib.hid RW2n
     clear RW2n
     have fr := fun i => free_at hs2.res i
     have r0 := cell_at hs2.res 0 rfl
     have r1 := cell_at hs2.res 1 rfl
     have r2 := cell_at hs2.res 2 rfl
     have r3 := cell_at hs2.res 3 rfl
     have r4 := cell_at hs2.res 4 rfl
     have r5 := cell_at hs2.res 5 rfl
     have r6 := cell_at hs2.res 6 rfl
     have r7 := cell_at hs2.res 7 rfl
     have r8 := cell_at hs2.res 8 rfl
     have r9 := cell_at hs2.res 9 rfl
     have r10 := cell_at hs2.res 10 rfl
     have HS3 := Lib.hid hs2
     clear ho3 ha3 hb3 hs1 hs2 hr1 hbl)
  | fail)
  show bodyPost _ _ _ _ _ (storeAll (w3.setCell ⟨w.heap.size, 10, none⟩ (.slice A3 rn c3)) (w.heap.size + 1) [.int .i64 nodes, .int .i64 faulty, .int .i64 slot, .int .i64 gap, .int .i64 rho, .int .i64 dmin, .int .i64 dmax, .int .i64 margin, .slice A1 pn c1, .slice A2 qn c2, .slice A3 rn c3] 0)
  have hfin := storeAll_heap (b := w.heap.size + 1) (t := 26) [.int .i64 nodes, .int .i64 faulty, .int .i64 slot, .int .i64 gap, .int .i64 rho, .int .i64 dmin, .int .i64 dmax, .int .i64 margin, .slice A1 pn c1, .slice A2 qn c2, .slice A3 rn c3] 0 (w3.setCell ⟨w.heap.size, 10, none⟩ (.slice A3 rn c3)) [] [_, _, _, _, _, _, _, _, _, _, _] HS3.out.res rfl rfl
  rw [List.nil_append] at hfin
  have hap := storeAll_apart (w.heap.size + 1) [.int .i64 nodes, .int .i64 faulty, .int .i64 slot, .int .i64 gap, .int .i64 rho, .int .i64 dmin, .int .i64 dmax, .int .i64 margin, .slice A1 pn c1, .slice A2 qn c2, .slice A3 rn c3] 0 (w3.setCell ⟨w.heap.size, 10, none⟩ (.slice A3 rn c3))
  have HFin : Hid (CopiedOwn (CfgC.plain ⟨nodes, faulty, slot, gap, rho, dmin, dmax, margin, PA, pn, pcap, parts, QA, qn, qcap, ports, RA, rn, rcap, routes⟩) w (.returned (CfgC.value ⟨nodes, faulty, slot, gap, rho, dmin, dmax, margin, A1, pn, c1, parts, A2, qn, c2, ports, A3, rn, c3, routes⟩)) (storeAll (w3.setCell ⟨w.heap.size, 10, none⟩ (.slice A3 rn c3)) (w.heap.size + 1) [.int .i64 nodes, .int .i64 faulty, .int .i64 slot, .int .i64 gap, .int .i64 rho, .int .i64 dmin, .int .i64 dmax, .int .i64 margin, .slice A1 pn c1, .slice A2 qn c2, .slice A3 rn c3] 0)) := Lib.hid (by
    have o1 := RW1.out.apart hap (fun q e => by omega)
    have o2 := RW2.out.apart hap (fun q e => by omega)
    have o3 := RW3.out.apart hap (fun q e => by omega)
    obtain ⟨p1, p2⟩ := items_own' partVals_len o1 Hpl.out
    obtain ⟨q1, q2⟩ := items_own' portVals_len o2 Hql.out
    obtain ⟨r1, r2⟩ := items_own' routeVals_len o3 Hrl.out
    exact ⟨⟨nodes, faulty, slot, gap, rho, dmin, dmax, margin, A1, pn, c1, parts, A2, qn, c2, ports, A3, rn, c3, routes⟩, rfl, ⟨p2, Hpl.out, p1, by simp only; omega, q2, Hql.out, q1, by simp only; omega, r2, Hrl.out, r1, by simp only; omega⟩, rfl, o1, o2, o3, HS3.out.bel.trans (hap.below (by have := HS3.out.lt; omega) (fun q e => by omega))⟩)
  generalize storeAll (w3.setCell ⟨w.heap.size, 10, none⟩ (.slice A3 rn c3)) (w.heap.size + 1) [.int .i64 nodes, .int .i64 faulty, .int .i64 slot, .int .i64 gap, .int .i64 rho, .int .i64 dmin, .int .i64 dmax, .int .i64 margin, .slice A1 pn c1, .slice A2 qn c2, .slice A3 rn c3] 0 = Wf at *
  have z0 := cell_at hfin 0 rfl
  have z1 := cell_at hfin 1 rfl
  have z2 := cell_at hfin 2 rfl
  have z3 := cell_at hfin 3 rfl
  have z4 := cell_at hfin 4 rfl
  have z5 := cell_at hfin 5 rfl
  have z6 := cell_at hfin 6 rfl
  have z7 := cell_at hfin 7 rfl
  have z8 := cell_at hfin 8 rfl
  have z9 := cell_at hfin 9 rfl
  have z10 := cell_at hfin 10 rfl
  refine bodyPost_ret (v := CfgC.value ⟨nodes, faulty, slot, gap, rho, dmin, dmax, margin, A1, pn, c1, parts, A2, qn, c2, ports, A3, rn, c3, routes⟩) (by simp [results, Try.results9, go_sem, CfgC.value, z0, z1, z2, z3, z4, z5, z6, z7, z8, z9, z10]) rfl ?_
  exact HFin.out
theorem copied_any (x : CfgC) (w : World) (h : CfgIn w x) (hp : x.pn ≤ 1000000) (hq : x.qn ≤ 1000000) (hr : x.rn ≤ 1000000) :
    Calls Try.prog 9 #[x.value] w (CopiedPost x.plain w) :=
  (copied_own x w h hp hq hr).mono fun _ _ ⟨x3, h1, h2, h3, _, _, _, h4⟩ => ⟨_, h1, ⟨x3, rfl, h2, h3⟩, h4⟩
end Go.Proofs.Ytfgpfmhjnccccaa
