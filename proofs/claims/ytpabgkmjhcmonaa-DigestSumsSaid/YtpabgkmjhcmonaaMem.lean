/- Bytes in memory: what a slice of bytes reads as; append, conversion to a string, cutting. Over whatever program. No conditions beyond those that each states. · What a call leaves untouched, block by block (Apart), and append of bytes with the block that it may write. Over whatever program. No conditions beyond those that each states. · append of some bytes that were just laid into a block of their own, to a slice that the call owns. Over whatever program. No conditions beyond those that each states. · Rows of elements of several cells that the call owns: append to them, wherever the elements lie, nil let in. Over whatever program. No conditions beyond those that each states. · Rows of elements of so many cells each, in memory: where they lie (ItemsIn), their cells (itemsV), rows that a call owns. Over whatever program. No conditions beyond those that each states. · More on rows of elements that a call owns: cut, apart by their types; slices of them. Over whatever program. No conditions beyond those that each states. · A slice of the call's own that lies anywhere in a block of the call's own (Seg): its front and its tail, append to it, whatever room it has. Over whatever program. No conditions beyond those that each states. · A region that draws its order, whose last write breaks the condition under which its reads yield: the condition is asked of all worlds ahead of that write alone; each operation that is taken first must be one that the write waits for. No conditions. · Calls that only compute (they may draw orders). Over whatever program. No conditions beyond those that each states. -/
import Derived.WalkKit
import Derived.Lib.Hide
import Derived.Outline
import Derived.OwnWalk
import Derived.Below
import Derived.Laws.BytesArg
import Derived.Laws.OwnMore
import Derived.Deep.AppendLies
import Derived.Laws.BitsAllLaws
import Derived.OneCell
import Derived.Deep.QuietTactic
import Derived.Deep.RegionLaw
import Derived.Maps.AppendAt
import Derived.Deep.RegionHeld3
import Derived.ArgAppend
import Derived.BigQuiet
namespace Go.Proofs.Ytpabgkmjhcmonaa
open Go.RowKit

theorem ret_int {k : IntKind} {a b : Int} (h : a = b) : Ending.returned (.int k a) = .returned (.int k b) := by rw [h]

/-- A slice's bytes in memory, below block B. -/
def Bytes (w : World) (B : Nat) (A : Option Addr) (l : List UInt8) : Prop :=
  0 < l.length → ∃ b o, A = some ⟨b, o, none⟩ ∧ b < B ∧ ∀ i c, l[i]? = some c → w.cell? ⟨b, o + i, none⟩ = some (.int .u8 (c.toNat : Nat))

theorem Bytes.none_ {w : World} {B : Nat} {A : Option Addr} : Bytes w B A [] := fun h => absurd h (by simp)
theorem Bytes.keep {w w' : World} {B : Nat} {A : Option Addr} {l : List UInt8} (h : Bytes w B A l) (hk : ∀ p : Addr, p.block < B → w'.cell? p = w.cell? p) : Bytes w' B A l := fun hn => by
  obtain ⟨b, o, e, hb, hc⟩ := h hn
  exact ⟨b, o, e, hb, fun i c hi => (hk _ hb).trans (hc i c hi)⟩
theorem Bytes.more {w : World} {B B' : Nat} {A : Option Addr} {l : List UInt8} (h : Bytes w B A l) (hB : B ≤ B') : Bytes w B' A l := fun hn => by
  obtain ⟨b, o, e, hb, hc⟩ := h hn
  exact ⟨b, o, e, by omega, hc⟩
theorem Bytes.below {w w' : World} {B C : Nat} {A : Option Addr} {l : List UInt8} (h : Bytes w B A l) (hb : Below C w w') (hB : B ≤ C) : Bytes w' B A l := h.keep fun _ hp => hb.cell (by omega)
theorem Bytes.take {w : World} {B : Nat} {A : Option Addr} {l : List UInt8} (h : Bytes w B A l) (n : Nat) : Bytes w B A (l.take n) := fun hn => by
  have hl : (l.take n).length ≤ l.length := by simp; omega
  obtain ⟨b, o, e, hb, hc⟩ := h (by omega)
  refine ⟨b, o, e, hb, fun i c hi => hc i c ?_⟩
  rw [List.getElem?_take] at hi
  split at hi
  · exact hi
  · cases hi
theorem Bytes.at_ {w : World} {B : Nat} {A : Option Addr} {l : List UInt8} (h : Bytes w B A l) {k : Nat} (hk : k < l.length) : ∃ b o, A = some ⟨b, o, none⟩ ∧ b < B ∧ w.cell? ⟨b, o + k, none⟩ = some (.int .u8 (l[k].toNat : Nat)) := by
  obtain ⟨b, o, e, hb, hc⟩ := h (by omega)
  exact ⟨b, o, e, hb, hc k _ (List.getElem?_eq_getElem hk)⟩


theorem Bytes.alloc {w : World} {B : Nat} {A : Option Addr} {l : List UInt8} (h : Bytes w B A l) (hB : B ≤ w.heap.size) (o : Obj) : Bytes (w.alloc o) B A l :=
  h.keep fun p hp => World.cell?_alloc_lt w o p (by omega)
theorem Bytes.drew {w : World} {B : Nat} {A : Option Addr} {l : List UInt8} (h : Bytes w B A l) : Bytes w.drew B A l := h
theorem Bytes.setCell {w : World} {B : Nat} {A : Option Addr} {l : List UInt8} (h : Bytes w B A l) {p : Addr} (hB : B ≤ p.block) (u : Value) : Bytes (w.setCell p u) B A l :=
  h.keep fun q hq => World.cell?_setCell_other w p q u (fun e => by subst e; omega)
theorem Bytes.grown {w w' : World} {B : Nat} {A : Option Addr} {l : List UInt8} (h : Bytes w B A l) {row : Option Nat} (hg : w.grownBy w' row) (hB : B ≤ w.heap.size) (hr : ∀ g, row = some g → B ≤ g) : Bytes w' B A l :=
  h.keep fun p hp => World.cell?_of_block (hg.block p.block (by omega) (fun e => by have := hr _ e.symm; omega))

/-- The values of bytes. -/
def bytesV (l : List UInt8) : List Value := l.map fun c => .int .u8 (c.toNat : Nat)
theorem bytesV_length (l : List UInt8) : (bytesV l).length = l.length := by simp [bytesV]
theorem bytesV_append (x y : List UInt8) : bytesV (x ++ y) = bytesV x ++ bytesV y := by simp [bytesV]
theorem bytesV_at {l : List UInt8} {j : Nat} {u : Value} (h : (bytesV l)[j]? = some u) : ∃ c, l[j]? = some c ∧ u = .int .u8 (c.toNat : Nat) := by
  simp only [bytesV, List.getElem?_map] at h
  cases hc : l[j]? with
  | none => rw [hc] at h; cases h
  | some c => rw [hc] at h; exact ⟨c, rfl, (Option.some.inj h).symm⟩
theorem bytesV_one (l : List UInt8) : ∀ u ∈ bytesV l, u.oneCell' = true := by
  intro u hu
  simp only [bytesV, List.mem_map] at hu
  obtain ⟨c, _, rfl⟩ := hu
  rfl

theorem addr_addB (b o n : Nat) : (⟨b, o, none⟩ : Addr).add n = ⟨b, o + n, none⟩ := by
  unfold Addr.add
  split <;> simp_all
theorem addr_add0 (b n : Nat) : (⟨b, 0, none⟩ : Addr).add n = ⟨b, 0 + n, none⟩ := addr_addB b 0 n

/-- A slice of the call's own that holds bytes: how it reads. -/
theorem own_bytes {w : World} {base : Nat} {e : TypeId} {v : Value} {n : Nat} {l : List UInt8} (h : w.ownsRow base e 1 v n (bytesV l)) :
    ∃ A cap, v = .slice A n cap ∧ l.length = n ∧ n ≤ cap ∧ Bytes w w.heap.size A l ∧ (A = none ∨ ∃ g, A = some ⟨g, 0, none⟩ ∧ base ≤ g) := by
  have hl : l.length = n := by have := h.1; rw [bytesV_length] at this; omega
  rcases h.2 with ⟨rfl, rfl⟩ | ⟨g, cap, cur, rfl, hb, hg, hnc, _, hsz, hx⟩
  · obtain rfl := List.eq_nil_of_length_eq_zero hl
    exact ⟨none, 0, rfl, rfl, Nat.le_refl _, Bytes.none_, .inl rfl⟩
  · refine ⟨some ⟨g, 0, none⟩, cap, rfl, hl, hnc, fun hn => ⟨g, 0, rfl, (Array.getElem?_eq_some_iff.1 hg).1, fun i c hi => ?_⟩, .inr ⟨g, rfl, hb⟩⟩
    have hv : (bytesV l)[i]? = some (.int .u8 (c.toNat : Nat)) := by simp [bytesV, hi]
    have := World.ownsRow.cells h (g := g) (by simp [Value.ownBlock]) i _ hv
    rwa [addr_add0] at this

section
variable {P : Program}

/-- append of bytes, wherever they lie, to a slice that the call owns. -/
theorem wpList_append_b {w0 : World} {ops : Array Oper} {rest : List Oper} {o : Oper} {a : Act} {Q : Exit → Act → World → Prop} (hgd : o.guard = none) (s x : Operand) (t : TypeId)
    (ho : o.op = .call { callee := .builtin .append, args := #[s, x], argTypes := #[t, t] }) (base : Nat) (e : TypeId) (z : Value)
    (ht : P.underlying t = some (.slice e)) (hinfo : (P.info? e).map (fun i => (i.zero, i.size, i.bytes)) = some (some z, 1, 1)) (hzs : z.cells.size = 1)
    (v : Value) (n : Nat) (xs : List Value) (hs : a.eval s = v) (hown : w0.ownsRow base e 1 v n xs) (B : Nat) (A : Option Addr) (m c : Nat) (l : List UInt8) (hx : a.eval x = .slice A m c) (hm : l.length = m) (hr : Bytes w0 B A l)
    (hn : n + m ≤ 1000000000000) (hbase : base ≤ w0.heap.size)
    (h : ∀ v' w', w'.ownsRow base e 1 v' (n + m) (xs ++ bytesV l) → w0.grownBy w' v.ownBlock → Below base w0 w' → wpList P ops Q rest (a.put o.dst v') w') :
    wpList P ops Q (o :: rest) a w0 := by
  obtain ⟨i, hi, hz, hsize, hbytes⟩ := info_parts hinfo
  have hbl : ∀ w', w0.grownBy w' v.ownBlock → Below base w0 w' := fun w' hg => (Below.refl base w0).grown hg hbase (fun k hk => (hown.lt k hk).1)
  rcases A with _ | ad
  · have h0 : m = 0 := by
      rcases Nat.eq_zero_or_pos m with h0 | h0
      · exact h0
      · obtain ⟨_, _, h, _⟩ := hr (by omega)
        cases h
    subst h0
    obtain rfl := List.eq_nil_of_length_eq_zero hm
    refine wpList_plain hgd fun K hK => ?_
    have hrun : (Builtin.append_ #[t, t] o.type #[v, .slice none 0 c]).run P w0 = .ok v w0 := by
      rcases hown.2 with ⟨rfl, rfl⟩ | ⟨g, cap, cur, rfl, _, _, hnc, _⟩
      · simp [Builtin.append_, run_underlying ht, sizeOf, typeInfo, hi, Builtin.lenOf, Builtin.firstCells]
      · simp [Builtin.append_, run_underlying ht, sizeOf, typeInfo, hi, Builtin.lenOf, Builtin.firstCells, hnc, storeCells]
    unfold Oper.wp execOp
    simp only [ho, resolve, invoke, builtin, Sem.run_bind, Sem.run_pure, Result.andThen_ok, List.map_toArray, List.map_cons, List.map_nil, hs, hx, hrun]
    exact hK _ _ (h v w0 (by simpa [bytesV] using hown) (World.grownBy.refl w0 _) (Below.refl _ _))
  · refine wpList_append_own _ hgd s x t ho base e i z 1 1 ht hi hz hsize hbytes hzs (by decide) v n xs hs hown ad m c (bytesV l) hx (by rw [bytesV_length]; omega) ?_ (bytesV_one l) (by unfold maxLen; omega) (by omega) hbase ?_
    · intro j u hj
      obtain ⟨b, hb, rfl⟩ := bytesV_at hj
      obtain ⟨g, of, e1, _, hc⟩ := hr (by have := (List.getElem?_eq_some_iff.1 hb).1; omega)
      injection e1 with e1
      subst e1
      rw [addr_addB]
      exact hc j b hb
    · intro v' w' h1 h2 _
      exact h v' w' h1 h2 (hbl w' h2)

/-- append of one byte to a slice that the call owns. -/
theorem wpList_append_1 {w0 : World} {ops : Array Oper} {rest : List Oper} {o : Oper} {a : Act} {Q : Exit → Act → World → Prop} (hgd : o.guard = none) (s x : Operand) (t : TypeId)
    (ho : o.op = .call { callee := .builtin .append, args := #[s, x], argTypes := #[t, t] }) (base : Nat) (e : TypeId) (z : Value)
    (ht : P.underlying t = some (.slice e)) (hinfo : (P.info? e).map (fun i => (i.zero, i.size, i.bytes)) = some (some z, 1, 1)) (hzs : z.cells.size = 1)
    (v : Value) (n : Nat) (xs : List Value) (hs : a.eval s = v) (hown : w0.ownsRow base e 1 v n xs) (c : Nat) (u : Value) (hx : a.eval x = .slice (some ⟨w0.heap.size, 0, none⟩) 1 c) (h1 : u.oneCell' = true)
    (hn : n + 1 ≤ 1000000000000) (hbase : base ≤ w0.heap.size)
    (h : ∀ v' w', w'.ownsRow base e 1 v' (n + 1) (xs ++ [u]) → Below base w0 w' → wpList P ops Q rest (a.put o.dst v') w') :
    wpList P ops Q (o :: rest) a (w0.alloc (.cells #[u] e)) := by
  obtain ⟨i, hi, hz, hsize, hbytes⟩ := info_parts hinfo
  have hown' : (w0.alloc (.cells #[u] e)).ownsRow base e 1 v n xs := hown.alloc _
  refine wpList_append_own _ hgd s x t ho base e i z 1 1 ht hi hz hsize hbytes hzs (by decide) v n xs hs (hown.alloc _) ⟨w0.heap.size, 0, none⟩ 1 c [u] hx rfl ?_ ?_ (by unfold maxLen; omega) (by omega) (by simp; omega) ?_
  · intro j u' hj
    match j, hj with
    | 0, hj => simp at hj; subst hj; simp [Addr.add]
  · intro u' hu; simp at hu; subst hu; exact h1
  · intro v' w' ho' hg _
    exact h v' w' ho' (((Below.refl base w0).alloc hbase _).grown hg (by simp; omega) (fun k hk => (hown'.lt k hk).1))

/-- s[:h]. -/
theorem run_slice_to (W : World) (t e : TypeId) (ht : P.underlying t = some (.slice e)) (hz : ∀ w, (Go.sizeOf e).run P w = .ok 1 w) (A : Option Addr) (len cap : Nat) (h : Int) (h0 : 0 ≤ h) (h2 : h ≤ cap) :
    (Instr.slice t (.slice A len cap) none (some (.int .i64 h)) none).run P W = .ok (.slice A h.toNat cap) W := by
  have ht' : P.underlying t = some (.slice (P.elem t)) := by simp [Program.elem, ht]
  have he : P.elem t = e := by simp [Program.elem, ht]
  rw [run_slice_h W t _ _ _ ht' .i64 _ h0 h2, he, hz]
  have ha : A.map (fun x : Addr => x.add (0 * 1)) = A := by cases A <;> simp [Addr.add]
  simp only [Result.andThen, sliced, Nat.sub_zero]
  rw [ha]
  split <;> rfl

/-- string(b). -/
theorem run_convert_b (w : World) (src e : TypeId) (hs : P.underlying src = some (.slice e)) (he : P.underlying e = some (.int .u8)) (B : Nat) (A : Option Addr) (l : List UInt8) (n cap : Nat) (hn : l.length = n) (h : Bytes w B A l) (dst : TypeId) (hd : P.underlying dst = some .string) :
    (convert src dst (.slice A n cap)).run P w = .ok (.string ⟨l.toArray⟩) w := by
  subst hn
  rcases Nat.eq_zero_or_pos l.length with h0 | h0
  · obtain rfl := List.eq_nil_of_length_eq_zero h0
    rcases A with _ | ⟨b, o, sp⟩
    · rw [run_convert_bytes_nil w src e hs he _ _ dst hd]; rfl
    · have hlc : (loadCells ⟨b, o, sp⟩ 0).run P w = .ok (([] : List Int).map (Value.int .u8)).toArray w := by
        have := run_loadCells_list (P := P) w ⟨b, o, sp⟩ [] (fun j v hj => by simp at hj)
        simpa using this
      rw [run_convert_bytes_string w src dst e _ _ cap hs he hd, List.length_nil, run_bytesToString w _ 0 cap [] hlc]
      rfl
  · obtain ⟨b, o, rfl, _, hc⟩ := h h0
    have := run_convert_bytes_arg (P := P) w src e hs he b o l.length cap (l.map fun c => (c.toNat : Int)) (by simp) (fun i hi => by
      rw [hc i _ (List.getElem?_eq_getElem hi)]
      simp [List.getD, List.getElem?_eq_getElem hi]) dst hd
    rw [this]
    congr 2
    unfold strOfNums
    congr 1
    rw [List.map_map]
    congr 1
    conv => rhs; rw [← List.map_id l]
    apply List.map_congr_left
    intro c _
    simp
end
end Go.Proofs.Ytpabgkmjhcmonaa
namespace Go.Proofs.Ytpabgkmjhcmonaa
open Go.RowKit

/-- Of the blocks of w those outside F are as they were. -/
structure Apart (F : Nat → Prop) (w w' : World) : Prop where
  os : w'.os = w.os
  tape : w'.tape = w.tape
  output : w'.output = w.output
  size : w.heap.size ≤ w'.heap.size
  block : ∀ k, k < w.heap.size → ¬ F k → w'.heap[k]? = w.heap[k]?

theorem Apart.refl (F : Nat → Prop) (w : World) : Apart F w w := ⟨rfl, rfl, rfl, Nat.le_refl _, fun _ _ _ => rfl⟩
theorem Apart.trans {F G : Nat → Prop} {a b c : World} (h : Apart F a b) (k : Apart G b c) (hG : ∀ i, G i → F i ∨ a.heap.size ≤ i) : Apart F a c :=
  ⟨k.os.trans h.os, k.tape.trans h.tape, k.output.trans h.output, Nat.le_trans h.size k.size, fun i hi hF =>
    (k.block i (Nat.lt_of_lt_of_le hi h.size) (fun hg => by rcases hG i hg with h1 | h1; exact hF h1; omega)).trans (h.block i hi hF)⟩
theorem Apart.mono {F G : Nat → Prop} {a b : World} (h : Apart F a b) (hG : ∀ i, i < a.heap.size → F i → G i) : Apart G a b :=
  ⟨h.os, h.tape, h.output, h.size, fun i hi hg => h.block i hi (fun hf => hg (hG i hi hf))⟩
theorem Apart.drew {F : Nat → Prop} {a w : World} (h : Apart F a w) : Apart F a w.drew := ⟨h.os, h.tape, h.output, h.size, h.block⟩
theorem Apart.drewN {F : Nat → Prop} {a w : World} (h : Apart F a w) (n : Nat) : Apart F a (w.drewN n) := ⟨h.os, h.tape, h.output, h.size, h.block⟩
theorem Apart.undrew {F : Nat → Prop} {a w : World} (h : Apart F a.drew w) : Apart F a w := ⟨h.os, h.tape, h.output, h.size, h.block⟩
theorem Apart.alloc {F : Nat → Prop} {a w : World} (h : Apart F a w) (o : Obj) : Apart F a (w.alloc o) :=
  h.trans (G := fun _ => False) ⟨rfl, rfl, rfl, by simp, fun k hk _ => Below.heap_alloc _ _ _ hk⟩ (fun _ h => h.elim)
theorem Apart.setCell {F : Nat → Prop} {a w : World} (h : Apart F a w) {p : Addr} (hp : F p.block ∨ a.heap.size ≤ p.block) (u : Value) : Apart F a (w.setCell p u) :=
  h.trans (G := fun k => k = p.block) ⟨rfl, rfl, rfl, by simp [World.setCell], fun k _ hk => Below.heap_setCell _ _ _ _ hk⟩ (fun _ e => by subst e; exact hp)
theorem Apart.grown {F : Nat → Prop} {a w w' : World} {row : Option Nat} (h : Apart F a w) (hg : w.grownBy w' row) (hr : ∀ k, row = some k → F k ∨ a.heap.size ≤ k) : Apart F a w' :=
  h.trans (G := fun k => row = some k) ⟨hg.os, hg.tape, hg.output, hg.size, fun k hk hn => hg.block k hk (fun e => hn e.symm)⟩ hr
theorem Apart.below {F : Nat → Prop} {a w : World} {B : Nat} (h : Apart F a w) (hB : B ≤ a.heap.size) (hF : ∀ k, F k → B ≤ k) : Below B a w :=
  ⟨h.os, h.tape, h.output, h.size, fun k hk => h.block k (by omega) (fun hf => by have := hF k hf; omega)⟩
theorem Apart.of_below {F : Nat → Prop} {a w : World} {B : Nat} (h : Below B a w) (hB : ∀ k, B ≤ k → k < a.heap.size → F k) : Apart F a w :=
  ⟨h.os, h.tape, h.output, h.size, fun k hk hf => h.block k (Nat.lt_of_not_le fun hb => hf (hB k hb hk))⟩
theorem Apart.of_below' {F : Nat → Prop} {a w : World} (h : Below a.heap.size a w) : Apart F a w := Apart.of_below h fun k h1 h2 => by omega
theorem Apart.cell {F : Nat → Prop} {a w : World} (h : Apart F a w) {p : Addr} (hp : p.block < a.heap.size) (hF : ¬ F p.block) : w.cell? p = a.cell? p := World.cell?_of_block (w := a) (h.block p.block hp hF)

/-- The block that a slice's elements lie in. -/
def blockOf : Option Addr → Option Nat
  | some a => some a.block
  | none => none

theorem Bytes.apart {w w' : World} {B : Nat} {A : Option Addr} {l : List UInt8} {F : Nat → Prop} (h : Bytes w B A l) (ha : Apart F w w') (hB : B ≤ w.heap.size) (hF : ∀ k, blockOf A = some k → ¬ F k) : Bytes w' B A l := fun hn => by
  obtain ⟨b, o, e, hb, hc⟩ := h hn
  exact ⟨b, o, e, hb, fun i c hi => (ha.cell (p := ⟨b, o + i, none⟩) (by simp; omega) (hF b (by simp [e, blockOf]))).trans (hc i c hi)⟩

theorem Bytes.apart0 {w w' : World} {B : Nat} {A : Option Addr} {l : List UInt8} {F : Nat → Prop} (h : Bytes w B A l) (ha : Apart F w w') (hB : B ≤ w.heap.size) (hF : 0 < l.length → ∀ k, blockOf A = some k → ¬ F k) : Bytes w' B A l := fun hn => h.apart ha hB (hF hn) hn

/-- A slice of the call's own that holds bytes; g: its block. -/
def Row (w : World) (B : Nat) (e : TypeId) (g : Option Nat) (v : Value) (l : List UInt8) : Prop :=
  v.ownBlock = g ∧ w.ownsRow B e 1 v l.length (bytesV l)
/-- The block that a slice of the call's own lies in behind an append: the one it had, or a new one. -/
def Moved (w : World) (g g' : Option Nat) : Prop := g' = g ∨ ∃ k, g' = some k ∧ w.heap.size ≤ k

theorem Moved.refl (w : World) (g : Option Nat) : Moved w g g := .inl rfl
theorem Moved.trans {w w1 : World} {g g1 g2 : Option Nat} (h : Moved w g g1) (k : Moved w1 g1 g2) (hs : w.heap.size ≤ w1.heap.size) : Moved w g g2 := by
  rcases k with rfl | ⟨b, rfl, hb⟩
  · exact h
  · exact .inr ⟨b, rfl, by omega⟩

theorem Moved.undrew {w : World} {g g' : Option Nat} (h : Moved w.drew g g') : Moved w g g' := h

theorem Row.lt {w : World} {B : Nat} {e : TypeId} {g : Option Nat} {v : Value} {l : List UInt8} (h : Row w B e g v l) : ∀ k, g = some k → B ≤ k ∧ k < w.heap.size := fun k hk => h.2.lt k (h.1.trans hk)
theorem Row.apart {w w' : World} {B : Nat} {e : TypeId} {g : Option Nat} {v : Value} {l : List UInt8} {F : Nat → Prop} (h : Row w B e g v l) (ha : Apart F w w') (hF : ∀ k, g = some k → ¬ F k) : Row w' B e g v l := by
  refine ⟨h.1, h.2.1, ?_⟩
  rcases h.2.2 with hn | ⟨b, cap, cur, rfl, hb, hgg, rest⟩
  · exact .inl hn
  · refine .inr ⟨b, cap, cur, rfl, hb, ?_, rest⟩
    rw [ha.block b (Array.getElem?_eq_some_iff.1 hgg).1 (hF b (by rw [← h.1]; rfl))]
    exact hgg
theorem Row.alloc {w : World} {B : Nat} {e : TypeId} {g : Option Nat} {v : Value} {l : List UInt8} (h : Row w B e g v l) (o : Obj) : Row (w.alloc o) B e g v l := ⟨h.1, h.2.alloc o⟩
theorem Row.drew {w : World} {B : Nat} {e : TypeId} {g : Option Nat} {v : Value} {l : List UInt8} (h : Row w B e g v l) : Row w.drew B e g v l := h
theorem Row.drewN {w : World} {B : Nat} {e : TypeId} {g : Option Nat} {v : Value} {l : List UInt8} (h : Row w B e g v l) (n : Nat) : Row (w.drewN n) B e g v l := h
theorem Row.nil (w : World) (B : Nat) (e : TypeId) : Row w B e none (.slice none 0 0) [] := ⟨rfl, World.ownsRow_nil w B e 1⟩
theorem Row.lit (w : World) (B : Nat) (e : TypeId) (hB : B ≤ w.heap.size) : Row (w.alloc (.cells #[] e)) B e (some w.heap.size) (.slice (some ⟨w.heap.size, 0, none⟩) 0 0) [] :=
  ⟨rfl, World.ownsRow_lit (base := B) (e := e) (size := 1) w #[] 0 hB (by unfold maxLen; omega) rfl⟩
/-- How it reads. -/
theorem Row.bytes {w : World} {B : Nat} {e : TypeId} {g : Option Nat} {v : Value} {l : List UInt8} (h : Row w B e g v l) : ∃ A cap, v = .slice A l.length cap ∧ l.length ≤ cap ∧ blockOf A = g ∧ Bytes w w.heap.size A l := by
  obtain ⟨A, cap, rfl, _, h2, h3, h4⟩ := own_bytes h.2
  refine ⟨A, cap, rfl, h2, ?_, h3⟩
  have := h.1
  rcases h4 with rfl | ⟨k, rfl, _⟩ <;> exact this
theorem Row.slice {w : World} {B : Nat} {e : TypeId} {g : Option Nat} {v : Value} {l : List UInt8} (h : Row w B e g v l) : ∃ A n cap, v = .slice A n cap := by
  obtain ⟨A, cap, rfl, -⟩ := h.bytes
  exact ⟨_, _, _, rfl⟩
theorem Row.base {w : World} {B B' : Nat} {e : TypeId} {g : Option Nat} {v : Value} {l : List UInt8} (h : Row w B e g v l) (hg : ∀ k, g = some k → B' ≤ k) : Row w B' e g v l := by
  refine ⟨h.1, h.2.1, ?_⟩
  rcases h.2.2 with hn | ⟨b, cap, cur, rfl, hb, rest⟩
  · exact .inl hn
  · exact .inr ⟨b, cap, cur, rfl, hg b (by rw [← h.1]; rfl), rest⟩

section
variable {P : Program}

theorem append_block {w : World} (base : Nat) (t ty e : TypeId) (i : TypeInfo) (z : Value) (bytes : Nat) (ht : P.underlying t = some (.slice e)) (hi : P.info? e = some i) (hz : i.zero = some z)
    (hsize : i.size = 1) (hby : i.bytes = bytes) (v : Value) (n : Nat) (xs : List Value) (hown : w.ownsRow base e 1 v n xs)
    (a : Addr) (m c : Nat) (news : List Value) (hl : news.length = m) (hnews : ∀ j u, news[j]? = some u → w.cell? (a.add j) = some u) (h1 : ∀ u ∈ news, u.oneCell' = true)
    (h63 : n + m ≤ maxLen) (hbytes : (n + m) * bytes ≤ 140737488355328) {v' : Value} {w' : World}
    (hr : (Builtin.append_ #[t, t] ty #[v, .slice (some a) m c]).run P w = .ok v' w') (hm0 : v' = .slice none 0 0 ↔ v = .slice none 0 0 ∧ m = 0) : v'.ownBlock = v.ownBlock ∨ v'.ownBlock = some w.heap.size := by
  have hsmall : n + m ≤ 9223372036854775807 := by simp only [maxLen] at h63; omega
  rcases hown.2 with ⟨rfl, rfl⟩ | ⟨g, cap, cur, rfl, hbg, hg, hnc, hcm, hcs, htake⟩
  · by_cases hm : m = 0
    · exact .inl (by rw [hm0.2 ⟨rfl, hm⟩])
    · have hr2 := run_append_nil (P := P) w t ty e i z ht hi hz a m c news (by rw [hsize]; omega) hnews (by omega) (by omega) (by rw [hby]; have hb := hbytes; simp only [Nat.zero_add] at hb; omega)
      obtain ⟨rfl, -⟩ := Result.ok.inj (hr.symm.trans hr2)
      exact .inr rfl
  · by_cases hroom : n + m ≤ cap
    · have hr2 := run_append_room (P := P) w t ty e i ht hi g n cap cur hg a m c news (by rw [hsize]; omega) hnews h1 hroom (by rw [hsize, hl, hcs]; omega)
      obtain ⟨rfl, -⟩ := Result.ok.inj (hr.symm.trans hr2)
      exact .inl rfl
    · have hr2 := run_append_grow (P := P) w t ty e i z ht hi hz ⟨g, 0, none⟩ n cap xs (by rw [hsize]; exact hown.1) (hown.cells (g := g) rfl) a m c news (by rw [hsize]; omega) hnews (by omega) (by omega) (by rw [hby]; exact growslice_fits (by omega) hbytes)
      obtain ⟨rfl, -⟩ := Result.ok.inj (hr.symm.trans hr2)
      exact .inr rfl

/-- append of bytes, wherever they lie, to a slice that the call owns: what is written, and where it lies then. -/
theorem wp_append_r {w0 : World} {o : Oper} {a : Act} {K : Act → World → Prop} {Q : Exit → Act → World → Prop} (s x : Operand) (t : TypeId)
    (ho : o.op = .call { callee := .builtin .append, args := #[s, x], argTypes := #[t, t] }) (B : Nat) (e : TypeId) (z : Value)
    (ht : P.underlying t = some (.slice e)) (hinfo : (P.info? e).map (fun i => (i.zero, i.size, i.bytes)) = some (some z, 1, 1)) (hzs : z.cells.size = 1)
    (v : Value) (g : Option Nat) (xs : List UInt8) (hs : a.eval s = v) (hown : Row w0 B e g v xs) (C : Nat) (A : Option Addr) (m c : Nat) (l : List UInt8) (hx : a.eval x = .slice A m c) (hm : l.length = m) (hr : Bytes w0 C A l)
    (hn : xs.length + m ≤ 140737488355328) (hB : B ≤ w0.heap.size)
    (h : ∀ v' w' g', Row w' B e g' v' (xs ++ l) → Moved w0 g g' → Apart (fun k => g = some k) w0 w' → K (a.put o.dst v') w') :
    o.wp P a w0 K Q := by
  obtain ⟨i, hi, hz, hsize, hbytes⟩ := info_parts hinfo
  obtain ⟨hg, hown⟩ := hown
  subst hg
  rcases A with _ | ad
  · have h0 : m = 0 := by
      rcases Nat.eq_zero_or_pos m with h0 | h0
      · exact h0
      · obtain ⟨_, _, h, _⟩ := hr (by omega)
        cases h
    subst h0
    obtain rfl := List.eq_nil_of_length_eq_zero hm
    have hrun : (Builtin.append_ #[t, t] o.type #[v, .slice none 0 c]).run P w0 = .ok v w0 := by
      rcases hown.2 with ⟨rfl, -⟩ | ⟨g, cap, cur, rfl, _, _, hnc, _⟩
      · simp [Builtin.append_, run_underlying ht, sizeOf, typeInfo, hi, Builtin.lenOf, Builtin.firstCells]
      · simp [Builtin.append_, run_underlying ht, sizeOf, typeInfo, hi, Builtin.lenOf, Builtin.firstCells, hnc, storeCells]
    unfold Oper.wp execOp
    simp only [ho, resolve, invoke, builtin, Sem.run_bind, Sem.run_pure, Result.andThen_ok, List.map_toArray, List.map_cons, List.map_nil, hs, hx, hrun]
    exact h v w0 v.ownBlock (by rw [List.append_nil]; exact ⟨rfl, hown⟩) (Moved.refl _ _) (Apart.refl _ _)
  · have hnews : ∀ j u, (bytesV l)[j]? = some u → w0.cell? (ad.add j) = some u := by
      intro j u hj
      obtain ⟨b, hb, rfl⟩ := bytesV_at hj
      obtain ⟨g, of, e1, _, hc⟩ := hr (by have := (List.getElem?_eq_some_iff.1 hb).1; omega)
      injection e1 with e1
      subst e1
      rw [addr_addB]
      exact hc j b hb
    have h63 : xs.length + m ≤ maxLen := by unfold maxLen; omega
    have hby : (xs.length + m) * 1 ≤ 140737488355328 := by omega
    obtain ⟨v', w', hrun, h2, h3, h4⟩ := run_append_own (P := P) w0 B t o.type e i z 1 1 ht hi hz hsize hbytes hzs (by decide) v xs.length (bytesV xs) hown ad m c (bytesV l) (by rw [bytesV_length]; omega) hnews (bytesV_one l) h63 hby hB
    have hblk := append_block (P := P) B t o.type e i z 1 ht hi hz hsize hbytes v xs.length (bytesV xs) hown ad m c (bytesV l) (by rw [bytesV_length]; omega) hnews (bytesV_one l) h63 hby hrun h4
    unfold Oper.wp execOp
    simp only [ho, resolve, invoke, builtin, Sem.run_bind, Sem.run_pure, Result.andThen_ok, List.map_toArray, List.map_cons, List.map_nil, hs, hx, hrun]
    refine h v' w' v'.ownBlock ⟨rfl, ?_⟩ ?_ ?_
    · rw [bytesV_append, List.length_append, hm]; exact h2
    · rcases hblk with e1 | e1
      · exact .inl e1
      · exact .inr ⟨_, e1, Nat.le_refl _⟩
    · exact (Apart.refl _ _).grown h3 fun k hk => .inl hk

theorem wpList_append_r {w0 : World} {ops : Array Oper} {rest : List Oper} {o : Oper} {a : Act} {Q : Exit → Act → World → Prop} (hgd : o.guard = none) (s x : Operand) (t : TypeId)
    (ho : o.op = .call { callee := .builtin .append, args := #[s, x], argTypes := #[t, t] }) (B : Nat) (e : TypeId) (z : Value)
    (ht : P.underlying t = some (.slice e)) (hinfo : (P.info? e).map (fun i => (i.zero, i.size, i.bytes)) = some (some z, 1, 1)) (hzs : z.cells.size = 1)
    (v : Value) (g : Option Nat) (xs : List UInt8) (hs : a.eval s = v) (hown : Row w0 B e g v xs) (C : Nat) (A : Option Addr) (m c : Nat) (l : List UInt8) (hx : a.eval x = .slice A m c) (hm : l.length = m) (hr : Bytes w0 C A l)
    (hn : xs.length + m ≤ 140737488355328) (hB : B ≤ w0.heap.size)
    (h : ∀ v' w' g', Row w' B e g' v' (xs ++ l) → Moved w0 g g' → Apart (fun k => g = some k) w0 w' → wpList P ops Q rest (a.put o.dst v') w') :
    wpList P ops Q (o :: rest) a w0 :=
  wpList_plain hgd fun _ hK => wp_append_r s x t ho B e z ht hinfo hzs v g xs hs hown C A m c l hx hm hr hn hB fun v' w' g' h1 h2 h3 => hK _ _ (h v' w' g' h1 h2 h3)

/-- The same as one step of a region that draws. -/
theorem step_append_r {w0 : World} {ops : Array Oper} {o : Oper} {a : Act} {K : Act → World → Prop} {Q : Exit → Act → World → Prop} {E : Prop} (hgd : o.guard = none) (s x : Operand) (t : TypeId)
    (ho : o.op = .call { callee := .builtin .append, args := #[s, x], argTypes := #[t, t] }) (B : Nat) (e : TypeId) (z : Value)
    (ht : P.underlying t = some (.slice e)) (hinfo : (P.info? e).map (fun i => (i.zero, i.size, i.bytes)) = some (some z, 1, 1)) (hzs : z.cells.size = 1)
    (v : Value) (g : Option Nat) (xs : List UInt8) (hs : a.eval s = v) (hown : Row w0 B e g v xs) (C : Nat) (A : Option Addr) (m c : Nat) (l : List UInt8) (hx : a.eval x = .slice A m c) (hm : l.length = m) (hr : Bytes w0 C A l)
    (hn : xs.length + m ≤ 140737488355328) (hB : B ≤ w0.heap.size)
    (h : ∀ v' w' g', Row w' B e g' v' (xs ++ l) → Moved w0 g g' → Apart (fun k => g = some k) w0 w' → K (a.put o.dst v') w') :
    if Region.wanted o (yielded ops a.tmps) = true then Oper.wp P o a w0 K Q else E := by
  have hw : Region.wanted o (yielded ops a.tmps) = true := by simp [Region.wanted, hgd]
  rw [if_pos hw]
  exact wp_append_r s x t ho B e z ht hinfo hzs v g xs hs hown C A m c l hx hm hr hn hB h

/-- append of one byte to a slice that the call owns. -/
theorem wpList_append_r1 {w0 : World} {ops : Array Oper} {rest : List Oper} {o : Oper} {a : Act} {Q : Exit → Act → World → Prop} (hgd : o.guard = none) (s x : Operand) (t : TypeId)
    (ho : o.op = .call { callee := .builtin .append, args := #[s, x], argTypes := #[t, t] }) (B : Nat) (e : TypeId) (z : Value)
    (ht : P.underlying t = some (.slice e)) (hinfo : (P.info? e).map (fun i => (i.zero, i.size, i.bytes)) = some (some z, 1, 1)) (hzs : z.cells.size = 1)
    (v : Value) (g : Option Nat) (xs : List UInt8) (hs : a.eval s = v) (hown : Row w0 B e g v xs) (N cap : Nat) (b : Int) (hx : a.eval x = .slice (some ⟨N, 0, none⟩) 1 cap) (hN : N = w0.heap.size) (c : UInt8) (hc : b = (c.toNat : Nat))
    (hn : xs.length + 1 ≤ 140737488355328) (hB : B ≤ w0.heap.size)
    (h : ∀ v' w' g', Row w' B e g' v' (xs ++ [c]) → Moved w0 g g' → Apart (fun k => g = some k) w0 w' → wpList P ops Q rest (a.put o.dst v') w') :
    wpList P ops Q (o :: rest) a (w0.alloc (.cells #[.int .u8 b] e)) := by
  subst hc hN
  refine wpList_append_r hgd s x t ho B e z ht hinfo hzs v g xs hs (hown.alloc _) (w0.heap.size + 1) _ 1 cap [c] hx rfl ?_ hn (by simp; omega) ?_
  · intro _
    refine ⟨w0.heap.size, 0, rfl, by omega, fun i c' hi => ?_⟩
    match i, hi with
    | 0, hi => simp at hi; subst hi; simp
  · intro v' w' g' h1 h2 h3
    have h0 : Apart (fun k => g = some k) w0 (w0.alloc (.cells #[.int .u8 (c.toNat : Nat)] e)) := (Apart.refl _ _).alloc _
    refine h v' w' g' h1 ?_ (h0.trans h3 fun _ e => .inl e)
    rcases h2 with e1 | ⟨k, e1, e2⟩
    · exact .inl e1
    · exact .inr ⟨k, e1, by simp at e2; omega⟩
end
end Go.Proofs.Ytpabgkmjhcmonaa
namespace Go.Proofs.Ytpabgkmjhcmonaa
open Go.RowKit

/-- Bytes that were just laid. -/
theorem Bytes.laid (w : World) (cs : Array Value) (e : TypeId) (l : List UInt8) (hcs : cs = (bytesV l).toArray) : Bytes (w.alloc (.cells cs e)) (w.heap.size + 1) (some ⟨w.heap.size, 0, none⟩) l := by
  subst hcs
  intro _
  refine ⟨w.heap.size, 0, rfl, by omega, fun i c hi => ?_⟩
  have h0 : (w.alloc (.cells (bytesV l).toArray e)).heap[w.heap.size]? = some (.cells (bytesV l).toArray e (0, 0)) := heap_alloc_new w _
  unfold World.cell?
  simp only [h0, Nat.zero_add]
  simp [bytesV, hi]
theorem Row.laid (w : World) (cs : Array Value) (e : TypeId) (l : List UInt8) (m : Nat) (hcs : cs = (bytesV l).toArray) (hm : l.length = m) (h : m ≤ maxLen) : Row (w.alloc (.cells cs e)) w.heap.size e (some w.heap.size) (.slice (some ⟨w.heap.size, 0, none⟩) m m) l := by
  subst hcs hm
  refine ⟨rfl, ?_⟩
  have := World.ownsRow_lit (base := w.heap.size) (e := e) (size := 1) w (bytesV l).toArray l.length (Nat.le_refl _) h (by simp [bytesV_length])
  simpa using this

/-- Bytes that the call gathers: nothing below block B has turned since W. -/
def OutIn (B : Nat) (e : TypeId) (W : World) (l : List UInt8) (v : Value) (w : World) : Prop := ∃ g, Row w B e g v l ∧ Below B W w
theorem OutIn.below {B : Nat} {e : TypeId} {W w w' : World} {l : List UInt8} {v : Value} (h : OutIn B e W l v w) (hB : B ≤ W.heap.size) (hb : Below w.heap.size w w') : OutIn B e W l v w' := by
  obtain ⟨g, h1, h2⟩ := h
  exact ⟨g, h1.apart (F := fun _ => False) (Apart.of_below' hb) (fun _ _ h => h), h2.trans (hb.mono (Nat.le_trans hB h2.size))⟩
theorem OutIn.of {B : Nat} {e : TypeId} {W w : World} {l : List UInt8} {v : Value} (h : OutIn B e W l v w) : Below B W w := by
  obtain ⟨g, _, h2⟩ := h
  exact h2
theorem OutIn.drew {B : Nat} {e : TypeId} {W w : World} {l : List UInt8} {v : Value} (h : OutIn B e W l v w) : OutIn B e W l v w.drew := by
  obtain ⟨g, h1, h2⟩ := h
  exact ⟨g, h1.drew, ⟨h2.os, h2.tape, h2.output, h2.size, h2.block⟩⟩
theorem OutIn.drewN {B : Nat} {e : TypeId} {W w : World} {l : List UInt8} {v : Value} (h : OutIn B e W l v w) (n : Nat) : OutIn B e W l v (w.drewN n) := by
  obtain ⟨g, h1, h2⟩ := h
  exact ⟨g, h1.drewN n, ⟨h2.os, h2.tape, h2.output, h2.size, h2.block⟩⟩
theorem OutIn.first (w : World) (cs : Array Value) (e : TypeId) (l : List UInt8) (m : Nat) (hcs : cs = (bytesV l).toArray) (hm : l.length = m) (h : m ≤ maxLen) : OutIn w.heap.size e w l (.slice (some ⟨w.heap.size, 0, none⟩) m m) (w.alloc (.cells cs e)) :=
  ⟨_, Row.laid w cs e l m hcs hm h, (Below.refl _ _).alloc (Nat.le_refl _) _⟩

section
variable {P : Program}
theorem wp_append_rk {w0 : World} {o : Oper} {a : Act} {K : Act → World → Prop} {Q : Exit → Act → World → Prop} (s x : Operand) (t : TypeId)
    (ho : o.op = .call { callee := .builtin .append, args := #[s, x], argTypes := #[t, t] }) (B : Nat) (e : TypeId) (z : Value)
    (ht : P.underlying t = some (.slice e)) (hinfo : (P.info? e).map (fun i => (i.zero, i.size, i.bytes)) = some (some z, 1, 1)) (hzs : z.cells.size = 1)
    (v : Value) (g : Option Nat) (xs : List UInt8) (hs : a.eval s = v) (hown : Row w0 B e g v xs) (N m cap : Nat) (cs : Array Value) (l : List UInt8) (hx : a.eval x = .slice (some ⟨N, 0, none⟩) m cap) (hN : N = w0.heap.size) (hcs : cs = (bytesV l).toArray) (hm : l.length = m)
    (hn : xs.length + m ≤ 140737488355328) (hB : B ≤ w0.heap.size)
    (h : ∀ v' w' g', Row w' B e g' v' (xs ++ l) → Moved w0 g g' → Apart (fun k => g = some k) w0 w' → K (a.put o.dst v') w') :
    o.wp P a (w0.alloc (.cells cs e)) K Q := by
  subst hN
  refine wp_append_r s x t ho B e z ht hinfo hzs v g xs hs (hown.alloc _) (w0.heap.size + 1) _ m cap l hx hm (Bytes.laid w0 cs e l hcs) hn (by simp; omega) ?_
  intro v' w' g' h1 h2 h3
  have h0 : Apart (fun k => g = some k) w0 (w0.alloc (.cells cs e)) := (Apart.refl _ _).alloc _
  refine h v' w' g' h1 ?_ (h0.trans h3 fun _ e => .inl e)
  rcases h2 with e1 | ⟨k, e1, e2⟩
  · exact .inl e1
  · exact .inr ⟨k, e1, by simp at e2; omega⟩
theorem wpList_append_rk {w0 : World} {ops : Array Oper} {rest : List Oper} {o : Oper} {a : Act} {Q : Exit → Act → World → Prop} (hgd : o.guard = none) (s x : Operand) (t : TypeId)
    (ho : o.op = .call { callee := .builtin .append, args := #[s, x], argTypes := #[t, t] }) (B : Nat) (e : TypeId) (z : Value)
    (ht : P.underlying t = some (.slice e)) (hinfo : (P.info? e).map (fun i => (i.zero, i.size, i.bytes)) = some (some z, 1, 1)) (hzs : z.cells.size = 1)
    (v : Value) (g : Option Nat) (xs : List UInt8) (hs : a.eval s = v) (hown : Row w0 B e g v xs) (N m cap : Nat) (cs : Array Value) (l : List UInt8) (hx : a.eval x = .slice (some ⟨N, 0, none⟩) m cap) (hN : N = w0.heap.size) (hcs : cs = (bytesV l).toArray) (hm : l.length = m)
    (hn : xs.length + m ≤ 140737488355328) (hB : B ≤ w0.heap.size)
    (h : ∀ v' w' g', Row w' B e g' v' (xs ++ l) → Moved w0 g g' → Apart (fun k => g = some k) w0 w' → wpList P ops Q rest (a.put o.dst v') w') :
    wpList P ops Q (o :: rest) a (w0.alloc (.cells cs e)) :=
  wpList_plain hgd fun _ hK => wp_append_rk s x t ho B e z ht hinfo hzs v g xs hs hown N m cap cs l hx hN hcs hm hn hB fun v' w' g' h1 h2 h3 => hK _ _ (h v' w' g' h1 h2 h3)
theorem step_append_rk {w0 : World} {ops : Array Oper} {o : Oper} {a : Act} {K : Act → World → Prop} {Q : Exit → Act → World → Prop} {E : Prop} (hgd : o.guard = none) (s x : Operand) (t : TypeId)
    (ho : o.op = .call { callee := .builtin .append, args := #[s, x], argTypes := #[t, t] }) (B : Nat) (e : TypeId) (z : Value)
    (ht : P.underlying t = some (.slice e)) (hinfo : (P.info? e).map (fun i => (i.zero, i.size, i.bytes)) = some (some z, 1, 1)) (hzs : z.cells.size = 1)
    (v : Value) (g : Option Nat) (xs : List UInt8) (hs : a.eval s = v) (hown : Row w0 B e g v xs) (N m cap : Nat) (cs : Array Value) (l : List UInt8) (hx : a.eval x = .slice (some ⟨N, 0, none⟩) m cap) (hN : N = w0.heap.size) (hcs : cs = (bytesV l).toArray) (hm : l.length = m)
    (hn : xs.length + m ≤ 140737488355328) (hB : B ≤ w0.heap.size)
    (h : ∀ v' w' g', Row w' B e g' v' (xs ++ l) → Moved w0 g g' → Apart (fun k => g = some k) w0 w' → K (a.put o.dst v') w') :
    if Region.wanted o (yielded ops a.tmps) = true then Oper.wp P o a (w0.alloc (.cells cs e)) K Q else E := by
  have hw : Region.wanted o (yielded ops a.tmps) = true := by simp [Region.wanted, hgd]
  rw [if_pos hw]
  exact wp_append_rk s x t ho B e z ht hinfo hzs v g xs hs hown N m cap cs l hx hN hcs hm hn hB h

theorem wpList_append_o {w0 : World} {ops : Array Oper} {rest : List Oper} {o : Oper} {a : Act} {Q : Exit → Act → World → Prop} (hgd : o.guard = none) (s x : Operand) (t : TypeId)
    (ho : o.op = .call { callee := .builtin .append, args := #[s, x], argTypes := #[t, t] }) (B : Nat) (e : TypeId) (z : Value) (W : World) (hBW : B ≤ W.heap.size)
    (ht : P.underlying t = some (.slice e)) (hinfo : (P.info? e).map (fun i => (i.zero, i.size, i.bytes)) = some (some z, 1, 1)) (hzs : z.cells.size = 1)
    (v : Value) (xs : List UInt8) (hs : a.eval s = v) (hown : OutIn B e W xs v w0) (C : Nat) (A : Option Addr) (m c : Nat) (l : List UInt8) (hx : a.eval x = .slice A m c) (hm : l.length = m) (hr : Bytes w0 C A l)
    (hn : xs.length + m ≤ 140737488355328)
    (h : ∀ v' w', OutIn B e W (xs ++ l) v' w' → wpList P ops Q rest (a.put o.dst v') w') :
    wpList P ops Q (o :: rest) a w0 := by
  obtain ⟨g, h1, h2⟩ := hown
  refine wpList_append_r hgd s x t ho B e z ht hinfo hzs v g xs hs h1 C A m c l hx hm hr hn (Nat.le_trans hBW h2.size) ?_
  intro v' w' g' h3 h4 h5
  exact h v' w' ⟨g', h3, h2.trans (h5.below (Nat.le_trans hBW h2.size) (fun k hk => (h1.lt k hk).1))⟩
theorem wpList_append_ok {w0 : World} {ops : Array Oper} {rest : List Oper} {o : Oper} {a : Act} {Q : Exit → Act → World → Prop} (hgd : o.guard = none) (s x : Operand) (t : TypeId)
    (ho : o.op = .call { callee := .builtin .append, args := #[s, x], argTypes := #[t, t] }) (B : Nat) (e : TypeId) (z : Value) (W : World) (hBW : B ≤ W.heap.size)
    (ht : P.underlying t = some (.slice e)) (hinfo : (P.info? e).map (fun i => (i.zero, i.size, i.bytes)) = some (some z, 1, 1)) (hzs : z.cells.size = 1)
    (v : Value) (xs : List UInt8) (hs : a.eval s = v) (hown : OutIn B e W xs v w0) (N m cap : Nat) (cs : Array Value) (l : List UInt8) (hx : a.eval x = .slice (some ⟨N, 0, none⟩) m cap) (hN : N = w0.heap.size) (hcs : cs = (bytesV l).toArray) (hm : l.length = m)
    (hn : xs.length + m ≤ 140737488355328)
    (h : ∀ v' w', OutIn B e W (xs ++ l) v' w' → wpList P ops Q rest (a.put o.dst v') w') :
    wpList P ops Q (o :: rest) a (w0.alloc (.cells cs e)) := by
  obtain ⟨g, h1, h2⟩ := hown
  refine wpList_append_rk hgd s x t ho B e z ht hinfo hzs v g xs hs h1 N m cap cs l hx hN hcs hm hn (Nat.le_trans hBW h2.size) ?_
  intro v' w' g' h3 h4 h5
  exact h v' w' ⟨g', h3, h2.trans (h5.below (Nat.le_trans hBW h2.size) (fun k hk => (h1.lt k hk).1))⟩
theorem step_append_ok {w0 : World} {ops : Array Oper} {o : Oper} {a : Act} {K : Act → World → Prop} {Q : Exit → Act → World → Prop} {E : Prop} (hgd : o.guard = none) (s x : Operand) (t : TypeId)
    (ho : o.op = .call { callee := .builtin .append, args := #[s, x], argTypes := #[t, t] }) (B : Nat) (e : TypeId) (z : Value) (W : World) (hBW : B ≤ W.heap.size)
    (ht : P.underlying t = some (.slice e)) (hinfo : (P.info? e).map (fun i => (i.zero, i.size, i.bytes)) = some (some z, 1, 1)) (hzs : z.cells.size = 1)
    (v : Value) (xs : List UInt8) (hs : a.eval s = v) (hown : OutIn B e W xs v w0) (N m cap : Nat) (cs : Array Value) (l : List UInt8) (hx : a.eval x = .slice (some ⟨N, 0, none⟩) m cap) (hN : N = w0.heap.size) (hcs : cs = (bytesV l).toArray) (hm : l.length = m)
    (hn : xs.length + m ≤ 140737488355328)
    (h : ∀ v' w', OutIn B e W (xs ++ l) v' w' → K (a.put o.dst v') w') :
    if Region.wanted o (yielded ops a.tmps) = true then Oper.wp P o a (w0.alloc (.cells cs e)) K Q else E := by
  obtain ⟨g, h1, h2⟩ := hown
  refine step_append_rk hgd s x t ho B e z ht hinfo hzs v g xs hs h1 N m cap cs l hx hN hcs hm hn (Nat.le_trans hBW h2.size) ?_
  intro v' w' g' h3 h4 h5
  exact h v' w' ⟨g', h3, h2.trans (h5.below (Nat.le_trans hBW h2.size) (fun k hk => (h1.lt k hk).1))⟩
end
end Go.Proofs.Ytpabgkmjhcmonaa
namespace Go.Proofs.Ytpabgkmjhcmonaa
open Go.RowKit

theorem own_slice {w : World} {B : Nat} {e : TypeId} {size n : Nat} {v : Value} {xs : List Value} (h : w.ownsRow B e size v n xs) : ∃ A cap, v = .slice A n cap ∧ n ≤ cap := by
  rcases h.2 with ⟨rfl, rfl⟩ | ⟨g, cap, cur, rfl, _, _, hnc, _⟩
  · exact ⟨_, _, rfl, Nat.le_refl _⟩
  · exact ⟨_, _, rfl, hnc⟩
theorem ownBlock_slice (A : Option Addr) (n cap : Nat) : (Value.slice A n cap).ownBlock = blockOf A := by cases A <;> rfl
theorem own_form {w : World} {B : Nat} {e : TypeId} {size n : Nat} {v : Value} {xs : List Value} (h : w.ownsRow B e size v n xs) {g : Nat} (hg : v.ownBlock = some g) : ∃ cap, v = .slice (some ⟨g, 0, none⟩) n cap ∧ n ≤ cap ∧ B ≤ g ∧ g < w.heap.size := by
  have hlt := h.lt g hg
  rcases h.2 with ⟨rfl, rfl⟩ | ⟨g', cap, cur, rfl, _, _, hnc, _⟩
  · simp [Value.ownBlock] at hg
  · simp [Value.ownBlock] at hg
    subst hg
    exact ⟨cap, rfl, hnc, hlt.1, hlt.2⟩
theorem own_apart {w w' : World} {B : Nat} {e : TypeId} {size n : Nat} {v : Value} {xs : List Value} {F : Nat → Prop} (h : w.ownsRow B e size v n xs) (ha : Apart F w w') (hF : ∀ k, v.ownBlock = some k → ¬ F k) : w'.ownsRow B e size v n xs := by
  refine ⟨h.1, ?_⟩
  rcases h.2 with hn | ⟨b, cap, cur, rfl, hb, hgg, rest⟩
  · exact .inl hn
  · refine .inr ⟨b, cap, cur, rfl, hb, ?_, rest⟩
    rw [ha.block b (Array.getElem?_eq_some_iff.1 hgg).1 (hF b rfl)]
    exact hgg

theorem cell_at {w : World} {b : Nat} {cs : Array Value} {t : TypeId} (h : w.heap[b]? = some (.cells cs t (0, 0))) (i : Nat) {v : Value} (hv : cs[i]? = some v) : w.cell? ⟨b, i, none⟩ = some v := by
  unfold World.cell?
  simp only [h]
  exact hv
theorem free_at {w : World} {b : Nat} {cs : Array Value} {t : TypeId} (h : w.heap[b]? = some (.cells cs t (0, 0))) (i : Nat) : w.frozen? ⟨b, i, none⟩ = false := by
  simp [World.frozen?, h]
/-- Stores one behind the other, into the cells of a block. -/
def storeAll (w : World) (b : Nat) : List Value → Nat → World
  | [], _ => w
  | v :: r, i => storeAll (w.setCell ⟨b, i, none⟩ v) b r (i + 1)
theorem storeAll_heap {b : Nat} {t : TypeId} : ∀ (vs : List Value) (i : Nat) (w : World) (pre rest : List Value), w.heap[b]? = some (.cells (pre ++ rest).toArray t (0, 0)) → pre.length = i → rest.length = vs.length →
    (storeAll w b vs i).heap[b]? = some (.cells (pre ++ vs).toArray t (0, 0))
  | [], i, w, pre, rest, h, _, h2 => by
    obtain rfl : rest = [] := List.eq_nil_of_length_eq_zero (by simpa using h2)
    exact h
  | v :: vs, i, w, pre, [], h, _, h2 => by simp at h2
  | v :: vs, i, w, pre, r :: rest, h, h1, h2 => by
    have h3 := heap_setCell_same w b i _ t v h
    have h4 := storeAll_heap (t := t) vs (i + 1) (w.setCell ⟨b, i, none⟩ v) (pre ++ [v]) rest (by
      rw [h3]
      subst h1
      simp) (by simp [h1]) (by simpa using h2)
    simpa [storeAll] using h4
theorem storeAll_apart (b : Nat) : ∀ (vs : List Value) (i : Nat) (w : World), Apart (fun k => k = b) w (storeAll w b vs i)
  | [], _, _ => Apart.refl _ _
  | v :: vs, i, w => (Apart.setCell (F := fun k => k = b) (Apart.refl _ w) (p := ⟨b, i, none⟩) (.inl rfl) v).trans (storeAll_apart b vs (i + 1) _) (fun _ h => .inl h)

section
variable {P : Program}
theorem wp_append_s {w0 : World} {o : Oper} {a : Act} {K : Act → World → Prop} {Q : Exit → Act → World → Prop} (s x : Operand) (t : TypeId)
    (ho : o.op = .call { callee := .builtin .append, args := #[s, x], argTypes := #[t, t] }) (B : Nat) (e : TypeId) (z : Value) (size bytes : Nat)
    (ht : P.underlying t = some (.slice e)) (hinfo : (P.info? e).map (fun i => (i.zero, i.size, i.bytes)) = some (some z, size, bytes)) (hzs : z.cells.size = size) (hsz : 0 < size)
    (v : Value) (n : Nat) (xs : List Value) (hs : a.eval s = v) (hown : w0.ownsRow B e size v n xs) (A : Option Addr) (m c : Nat) (news : List Value) (hx : a.eval x = .slice A m c) (hl : news.length = m * size)
    (hnews : 0 < m → ∃ ad, A = some ad ∧ ∀ j u, news[j]? = some u → w0.cell? (ad.add j) = some u) (h1 : ∀ u ∈ news, u.oneCell' = true)
    (h63 : n + m ≤ maxLen) (hbytes : (n + m) * bytes ≤ 140737488355328) (hB : B ≤ w0.heap.size)
    (h : ∀ v' w', w'.ownsRow B e size v' (n + m) (xs ++ news) → Apart (fun k => v.ownBlock = some k) w0 w' → (v'.ownBlock = v.ownBlock ∨ v'.ownBlock = some w0.heap.size) → K (a.put o.dst v') w') :
    o.wp P a w0 K Q := by
  obtain ⟨i, hi, hz, hsize, hby⟩ := info_parts hinfo
  rcases Nat.eq_zero_or_pos m with h0 | h0
  · subst h0
    obtain rfl : news = [] := List.eq_nil_of_length_eq_zero (by omega)
    rcases A with _ | ad
    · have hrun : (Builtin.append_ #[t, t] o.type #[v, .slice none 0 c]).run P w0 = .ok v w0 := by
        rcases hown.2 with ⟨rfl, rfl⟩ | ⟨g, cap, cur, rfl, _, _, hnc, _⟩
        · simp [Builtin.append_, run_underlying ht, sizeOf, typeInfo, hi, Builtin.lenOf, Builtin.firstCells]
        · simp [Builtin.append_, run_underlying ht, sizeOf, typeInfo, hi, Builtin.lenOf, Builtin.firstCells, hnc, storeCells]
      unfold Oper.wp execOp
      simp only [ho, resolve, invoke, builtin, Sem.run_bind, Sem.run_pure, Result.andThen_ok, List.map_toArray, List.map_cons, List.map_nil, hs, hx, hrun]
      exact h v w0 (by simpa using hown) (Apart.refl _ _) (.inl rfl)
    · obtain ⟨v', w', hrun, h2, h3, _, h5⟩ := run_append_own_at (P := P) w0 B t o.type e i z size bytes ht hi hz hsize hby hzs hsz v n xs hown ad 0 c [] hl (by simp) (by simp) h63 hbytes hB
      unfold Oper.wp execOp
      simp only [ho, resolve, invoke, builtin, Sem.run_bind, Sem.run_pure, Result.andThen_ok, List.map_toArray, List.map_cons, List.map_nil, hs, hx, hrun]
      exact h v' w' h2 ((Apart.refl _ _).grown h3 fun k hk => .inl hk) h5
  · obtain ⟨ad, rfl, hcells⟩ := hnews h0
    obtain ⟨v', w', hrun, h2, h3, _, h5⟩ := run_append_own_at (P := P) w0 B t o.type e i z size bytes ht hi hz hsize hby hzs hsz v n xs hown ad m c news hl hcells h1 h63 hbytes hB
    unfold Oper.wp execOp
    simp only [ho, resolve, invoke, builtin, Sem.run_bind, Sem.run_pure, Result.andThen_ok, List.map_toArray, List.map_cons, List.map_nil, hs, hx, hrun]
    exact h v' w' h2 ((Apart.refl _ _).grown h3 fun k hk => .inl hk) h5
theorem wpList_append_s {w0 : World} {ops : Array Oper} {rest : List Oper} {o : Oper} {a : Act} {Q : Exit → Act → World → Prop} (hgd : o.guard = none) (s x : Operand) (t : TypeId)
    (ho : o.op = .call { callee := .builtin .append, args := #[s, x], argTypes := #[t, t] }) (B : Nat) (e : TypeId) (z : Value) (size bytes : Nat)
    (ht : P.underlying t = some (.slice e)) (hinfo : (P.info? e).map (fun i => (i.zero, i.size, i.bytes)) = some (some z, size, bytes)) (hzs : z.cells.size = size) (hsz : 0 < size)
    (v : Value) (n : Nat) (xs : List Value) (hs : a.eval s = v) (hown : w0.ownsRow B e size v n xs) (A : Option Addr) (m c : Nat) (news : List Value) (hx : a.eval x = .slice A m c) (hl : news.length = m * size)
    (hnews : 0 < m → ∃ ad, A = some ad ∧ ∀ j u, news[j]? = some u → w0.cell? (ad.add j) = some u) (h1 : ∀ u ∈ news, u.oneCell' = true)
    (h63 : n + m ≤ maxLen) (hbytes : (n + m) * bytes ≤ 140737488355328) (hB : B ≤ w0.heap.size)
    (h : ∀ v' w', w'.ownsRow B e size v' (n + m) (xs ++ news) → Apart (fun k => v.ownBlock = some k) w0 w' → (v'.ownBlock = v.ownBlock ∨ v'.ownBlock = some w0.heap.size) → wpList P ops Q rest (a.put o.dst v') w') :
    wpList P ops Q (o :: rest) a w0 :=
  wpList_plain hgd fun _ hK => wp_append_s s x t ho B e z size bytes ht hinfo hzs hsz v n xs hs hown A m c news hx hl hnews h1 h63 hbytes hB fun v' w' h1 h2 h3 => hK _ _ (h v' w' h1 h2 h3)
end
end Go.Proofs.Ytpabgkmjhcmonaa
namespace Go.Proofs.Ytpabgkmjhcmonaa
open Go.RowKit

/-- Elements of so many cells each, in memory. -/
def ItemsIn {α : Type} (vals : α → List Value) (size : Nat) (W : World) (A : Option Addr) (l : List α) : Prop :=
  0 < l.length → ∃ b off, A = some ⟨b, off, none⟩ ∧ b < W.heap.size ∧ ∀ i x, l[i]? = some x → ∀ j u, (vals x)[j]? = some u → W.cell? ⟨b, off + i * size + j, none⟩ = some u
theorem ItemsIn.apart {α : Type} {vals : α → List Value} {size : Nat} {W W' : World} {A : Option Addr} {l : List α} {F : Nat → Prop} (h : ItemsIn vals size W A l) (ha : Apart F W W') (hF : 0 < l.length → ∀ k, blockOf A = some k → ¬ F k) : ItemsIn vals size W' A l := fun hl => by
  obtain ⟨b, off, e, hb, hi⟩ := h hl
  have hn := hF hl b (by rw [e]; rfl)
  exact ⟨b, off, e, Nat.lt_of_lt_of_le hb ha.size, fun i x hx j u hu => (ha.cell (p := ⟨b, _, none⟩) hb hn).trans (hi i x hx j u hu)⟩
theorem ItemsIn.below {α : Type} {vals : α → List Value} {size : Nat} {W W' : World} {A : Option Addr} {l : List α} (h : ItemsIn vals size W A l) (hw : Below W.heap.size W W') : ItemsIn vals size W' A l :=
  h.apart (F := fun _ => False) (Apart.of_below' hw) (fun _ _ _ h => h)
theorem ItemsIn.drewN {α : Type} {vals : α → List Value} {size : Nat} {W : World} {A : Option Addr} {l : List α} (h : ItemsIn vals size W A l) (m : Nat) : ItemsIn vals size (W.drewN m) A l := h

/-- A row's cells. -/
def itemsV {α : Type} (vals : α → List Value) (l : List α) : List Value := l.flatMap vals
theorem itemsV_append {α : Type} (vals : α → List Value) (l r : List α) : itemsV vals (l ++ r) = itemsV vals l ++ itemsV vals r := by simp [itemsV]
theorem itemsV_one' {α : Type} (vals : α → List Value) (x : α) : itemsV vals [x] = vals x := by simp [itemsV]
theorem itemsV_length {α : Type} {vals : α → List Value} {size : Nat} (hs : ∀ x, (vals x).length = size) : ∀ (l : List α), (itemsV vals l).length = l.length * size
  | [] => by simp [itemsV]
  | x :: l => by
    have := itemsV_length hs l
    simp only [itemsV, List.flatMap_cons, List.length_append, List.length_cons] at this ⊢
    rw [this, hs, Nat.succ_mul, Nat.add_comm]
theorem itemsV_at {α : Type} {vals : α → List Value} {size : Nat} (hs : ∀ x, (vals x).length = size) : ∀ (l : List α) (i : Nat) (x : α), l[i]? = some x → ∀ j, j < size → (itemsV vals l)[i * size + j]? = (vals x)[j]?
  | [], i, x, h => by simp at h
  | y :: l, 0, x, h => by
    simp at h
    subst h
    intro j hj
    simp only [itemsV, List.flatMap_cons, Nat.zero_mul, Nat.zero_add]
    rw [List.getElem?_append_left (by rw [hs]; exact hj)]
  | y :: l, i + 1, x, h => by
    intro j hj
    have h1 := itemsV_at hs l i x (by simpa using h) j hj
    have e1 : (i + 1) * size + j = size + (i * size + j) := by rw [Nat.succ_mul]; omega
    rw [e1, ← h1]
    simp only [itemsV, List.flatMap_cons]
    rw [List.getElem?_append_right (by rw [hs]; omega), hs, Nat.add_sub_cancel_left]
theorem itemsV_oneCell {α : Type} {vals : α → List Value} (h1 : ∀ x, ∀ u ∈ vals x, u.oneCell' = true) (l : List α) : ∀ u ∈ itemsV vals l, u.oneCell' = true := by
  intro u hu
  simp only [itemsV, List.mem_flatMap] at hu
  obtain ⟨x, _, hx⟩ := hu
  exact h1 x u hx
/-- The cells, out of where they lie: to be appended. -/
theorem ItemsIn.news {α : Type} {vals : α → List Value} {size : Nat} (hs : ∀ x, (vals x).length = size) (hz : 0 < size) {W : World} {A : Option Addr} {l : List α} (h : ItemsIn vals size W A l) (hn : 0 < l.length) : ∃ ad, A = some ad ∧ ∀ j u, (itemsV vals l)[j]? = some u → W.cell? (ad.add j) = some u := by
  obtain ⟨b, off, rfl, _, hi⟩ := h hn
  refine ⟨_, rfl, fun j u hj => ?_⟩
  rw [addr_addB]
  have hlt : j < (itemsV vals l).length := (List.getElem?_eq_some_iff.1 hj).1
  rw [itemsV_length hs] at hlt
  have hd : j / size < l.length := Nat.div_lt_of_lt_mul (by rw [Nat.mul_comm]; exact hlt)
  have hm : j % size < size := Nat.mod_lt _ hz
  have hx : l[j / size]? = some (l[j / size]'hd) := List.getElem?_eq_getElem hd
  have h1 := itemsV_at hs l (j / size) _ hx (j % size) hm
  have ej : j / size * size + j % size = j := by rw [Nat.mul_comm]; exact Nat.div_add_mod j size
  rw [ej] at h1
  have h2 := hi _ _ hx (j % size) u (by rw [← h1]; exact hj)
  rw [Nat.add_assoc, ej] at h2
  exact h2
/-- Out of a row that the call owns. -/
theorem ItemsIn.own {α : Type} {vals : α → List Value} {size : Nat} (hs : ∀ x, (vals x).length = size) {W : World} {B : Nat} {e : TypeId} {v : Value} {l : List α} (h : W.ownsRow B e size v l.length (itemsV vals l)) : ∃ A cap, v = .slice A l.length cap ∧ l.length ≤ cap ∧ ItemsIn vals size W A l := by
  rcases h.2 with ⟨rfl, h0⟩ | ⟨g, cap, cur, rfl, hb, hg, hnc, _⟩
  · rw [h0]
    exact ⟨none, 0, rfl, Nat.le_refl _, fun hn => by omega⟩
  · refine ⟨_, cap, rfl, hnc, fun hn => ⟨g, 0, rfl, (Array.getElem?_eq_some_iff.1 hg).1, fun i x hx j u hu => ?_⟩⟩
    have hi : i < l.length := (List.getElem?_eq_some_iff.1 hx).1
    have hj : j < size := by rw [← hs x]; exact (List.getElem?_eq_some_iff.1 hu).1
    have h1 := itemsV_at hs l i x hx j hj
    have hlt : i * size + j < l.length * size := by
      have : (i + 1) * size ≤ l.length * size := Nat.mul_le_mul_right _ hi
      rw [Nat.succ_mul] at this
      omega
    rw [Nat.zero_add, World.ownsRow.cellAt h _ hlt, h1]
    exact hu
/-- An element's cells, just laid. -/
theorem laid_at (w : World) (t : TypeId) (cs : List Value) (N : Nat) (hN : N = w.heap.size) : ∀ j u, cs[j]? = some u → (w.alloc (.cells cs.toArray t)).cell? ((⟨N, 0, none⟩ : Addr).add j) = some u := by
  subst hN
  intro j u hj
  rw [addr_add0, Nat.zero_add]
  exact cell_at (heap_alloc_new w _) j (by simpa using hj)

end Go.Proofs.Ytpabgkmjhcmonaa
namespace Go.Proofs.Ytpabgkmjhcmonaa
open Go.RowKit

/-- A row lies in no block of another type. -/
theorem own_off {W : World} {B e size n T : Nat} {v : Value} {xs : List Value} {cs : Array Value} {t : TypeId} (h : W.ownsRow B e size v n xs) (hT : W.heap[T]? = some (.cells cs t (0, 0))) (hne : e ≠ t) (q : Nat) (hq : v.ownBlock = some q) : q ≠ T := fun e1 => by
  subst e1
  rcases h.2 with ⟨rfl, -⟩ | ⟨g, cap, cur, rfl, -, hg, -⟩
  · simp [Value.ownBlock] at hq
  · simp [Value.ownBlock] at hq
    subst hq
    rw [hT] at hg
    simp at hg
    exact hne hg.2.symm
theorem wpAnyH_gen {P : Program} {md : Region.Mode} {ops : Array Oper} {Q : Exit → Act → World → Prop} {S : World → Prop} {fuel : Nat} {listed : Array Bool} {a : Act} {w : World} (h : ∀ W, W = w → wpAnyH P md ops Q S fuel listed a W) : wpAnyH P md ops Q S fuel listed a w := h w rfl
theorem own_tag6 {w : World} {B B' e e' size size' n n' : Nat} {v v' : Value} {xs xs' : List Value} (h : w.ownsRow B e size v n xs) (h' : w.ownsRow B' e' size' v' n' xs') (hne : e ≠ e') (q : Nat) (hq : v.ownBlock = some q) : v'.ownBlock ≠ some q := fun hq' => by
  rcases h'.2 with ⟨rfl, -⟩ | ⟨g, cap, cur, rfl, -, hg, -⟩
  · simp [Value.ownBlock] at hq'
  · simp [Value.ownBlock] at hq'
    subst hq'
    exact own_off h hg hne _ hq rfl
theorem own_cut {w : World} {B e size g n cap k : Nat} {xs : List Value} (h : w.ownsRow B e size (.slice (some ⟨g, 0, none⟩) n cap) n xs) (hk : k ≤ n) : w.ownsRow B e size (.slice (some ⟨g, 0, none⟩) k cap) k (xs.take (k * size)) := by
  have hm := Nat.mul_le_mul_right size hk
  refine ⟨by rw [List.length_take, h.1]; omega, ?_⟩
  rcases h.2 with ⟨h1, -⟩ | ⟨g', cap', cur, h1, h2, h3, h4, h5, h6, h7⟩
  · cases h1
  · cases h1
    exact .inr ⟨g, cap, cur, rfl, h2, h3, by omega, h5, h6, by rw [← h7, List.take_take, Nat.min_eq_left hm]⟩
theorem items_take {α : Type} {vals : α → List Value} {size : Nat} (hs : ∀ x, (vals x).length = size) : ∀ (l : List α) (k : Nat), (itemsV vals l).take (k * size) = itemsV vals (l.take k)
  | [], k => by simp [itemsV]
  | x :: r, 0 => by simp [itemsV]
  | x :: r, k + 1 => by
    have ih := items_take hs r k
    have e : (k + 1) * size = (vals x).length + k * size := by rw [hs x, Nat.add_mul, Nat.one_mul, Nat.add_comm]
    simp only [itemsV, List.flatMap_cons, List.take_succ_cons] at ih ⊢
    rw [e, List.take_length_add_append, ih]
theorem items_drop {α : Type} {vals : α → List Value} {size : Nat} (hs : ∀ x, (vals x).length = size) : ∀ (l : List α) (k : Nat), (itemsV vals l).drop (k * size) = itemsV vals (l.drop k)
  | [], k => by simp [itemsV]
  | x :: r, 0 => by simp [itemsV]
  | x :: r, k + 1 => by
    have ih := items_drop hs r k
    have e : (k + 1) * size = (vals x).length + k * size := by rw [hs x, Nat.add_mul, Nat.one_mul, Nat.add_comm]
    simp only [itemsV, List.flatMap_cons, List.drop_succ_cons] at ih ⊢
    rw [e, List.drop_length_add_append, ih]
section
variable {P : Program}
/-- s[lo:], of elements of so many cells each. -/
theorem run_slice_froms (W : World) (t e : TypeId) (sz : Nat) (ht : P.underlying t = some (.slice e)) (hz : ∀ w, (Go.sizeOf e).run P w = .ok sz w) (b o : Nat) (len cap : Nat) (lo : Int) (k : Nat) (hlo : lo = k) (h1 : k ≤ len) :
    (Instr.slice t (.slice (some ⟨b, o, none⟩) len cap) (some (.int .i64 lo)) none none).run P W = .ok (.slice (some (if cap = k then ⟨b, o, none⟩ else ⟨b, o + k * sz, none⟩)) (len - k) (cap - k)) W := by
  subst hlo
  have ht' : P.underlying t = some (.slice (P.elem t)) := by simp [Program.elem, ht]
  have he : P.elem t = e := by simp [Program.elem, ht]
  rw [run_slice_l W t _ _ _ ht' .i64 _ (by omega) (by omega), he, hz]
  have ha : (⟨b, o, none⟩ : Addr).add (k * sz) = ⟨b, o + k * sz, none⟩ := addr_addB b o (k * sz)
  simp only [Result.andThen, sliced, Int.toNat_natCast]
  by_cases h : cap = k
  · rw [if_pos h, if_pos h]
  · rw [if_neg h, if_neg h]
    simp [ha]
/-- s[:h], of elements of so many cells each. -/
theorem run_slice_front (W : World) (t e : TypeId) (sz : Nat) (ht : P.underlying t = some (.slice e)) (hz : ∀ w, (Go.sizeOf e).run P w = .ok sz w) (A : Option Addr) (len cap : Nat) (h : Int) (k : Nat) (hk : h = k) (h2 : k ≤ cap) :
    (Instr.slice t (.slice A len cap) none (some (.int .i64 h)) none).run P W = .ok (.slice A k cap) W := by
  subst hk
  have ht' : P.underlying t = some (.slice (P.elem t)) := by simp [Program.elem, ht]
  have he : P.elem t = e := by simp [Program.elem, ht]
  rw [run_slice_h W t _ _ _ ht' .i64 _ (by omega) (by omega), he, hz]
  have ha : A.map (fun x : Addr => x.add (0 * sz)) = A := by cases A <;> simp [Addr.add]
  simp only [Result.andThen, sliced, Nat.sub_zero, Int.toNat_natCast]
  rw [ha]
  split <;> rfl
/-- s[:h:h]. -/
theorem run_slice_full (W : World) (t e : TypeId) (sz : Nat) (ht : P.underlying t = some (.slice e)) (hz : ∀ w, (Go.sizeOf e).run P w = .ok sz w) (A : Option Addr) (len cap : Nat) (h : Int) (k : Nat) (hk : h = k) (h2 : k ≤ cap) :
    (Instr.slice t (.slice A len cap) none (some (.int .i64 h)) (some (.int .i64 h))).run P W = .ok (.slice A k k) W := by
  subst hk
  have ht' : P.underlying t = some (.slice (P.elem t)) := by simp [Program.elem, ht]
  have he : P.elem t = e := by simp [Program.elem, ht]
  rw [run_slice_hm W t _ _ _ ht' .i64 .i64 _ _ (by omega) (by omega) (by omega), he, hz]
  have ha : A.map (fun x : Addr => x.add (0 * sz)) = A := by cases A <;> simp [Addr.add]
  simp only [Result.andThen, sliced, Nat.sub_zero, Int.toNat_natCast]
  rw [ha]
  split <;> rfl
theorem step_append_m {w0 : World} {ops : Array Oper} {o : Oper} {a : Act} {K : Act → World → Prop} {Q : Exit → Act → World → Prop} {E : Prop} (hgd : o.guard = none) (s x : Operand) (t : TypeId)
    (ho : o.op = .call { callee := .builtin .append, args := #[s, x], argTypes := #[t, t] }) (B : Nat) (e : TypeId) (z : Value) (size bytes : Nat)
    (ht : P.underlying t = some (.slice e)) (hinfo : (P.info? e).map (fun i => (i.zero, i.size, i.bytes)) = some (some z, size, bytes)) (hzs : z.cells.size = size) (hsz : 0 < size)
    (v : Value) (n : Nat) (xs : List Value) (hs : a.eval s = v) (hown : w0.ownsRow B e size v n xs) (A : Option Addr) (m c : Nat) (news : List Value) (hx : a.eval x = .slice A m c) (hl : news.length = m * size)
    (hnews : 0 < m → ∃ ad, A = some ad ∧ ∀ j u, news[j]? = some u → w0.cell? (ad.add j) = some u) (h1 : ∀ u ∈ news, u.oneCell' = true)
    (h63 : n + m ≤ maxLen) (hbytes : (n + m) * bytes ≤ 140737488355328) (hB : B ≤ w0.heap.size)
    (h : ∀ v' w', w'.ownsRow B e size v' (n + m) (xs ++ news) → Apart (fun k => v.ownBlock = some k) w0 w' → (v'.ownBlock = v.ownBlock ∨ v'.ownBlock = some w0.heap.size) → K (a.put o.dst v') w') :
    if Region.wanted o (yielded ops a.tmps) = true then Oper.wp P o a w0 K Q else E := by
  have hw : Region.wanted o (yielded ops a.tmps) = true := by simp [Region.wanted, hgd]
  rw [if_pos hw]
  exact wp_append_s s x t ho B e z size bytes ht hinfo hzs hsz v n xs hs hown A m c news hx hl hnews h1 h63 hbytes hB h
end
/-- The cells behind the k-th element. -/
theorem tail_cells {α : Type} {vals : α → List Value} {size : Nat} (hs : ∀ x, (vals x).length = size) {w : World} {B e g n cap k : Nat} {l : List α} (h : w.ownsRow B e size (.slice (some ⟨g, 0, none⟩) n cap) n (itemsV vals l)) (hk : k < n) (hn : n ≤ cap) :
    0 < n - (k + 1) → ∃ ad : Addr, (some (if cap = k + 1 then (⟨g, 0, none⟩ : Addr) else ⟨g, (k + 1) * size, none⟩)) = some ad ∧ ∀ (j : Nat) u, (itemsV vals (l.drop (k + 1)))[j]? = some u → w.cell? (ad.add j) = some u := fun hlt => by
  rw [if_neg (by omega)]
  refine ⟨_, rfl, fun j u hj => ?_⟩
  rw [← items_drop hs, List.getElem?_drop] at hj
  have hj2 := (List.getElem?_eq_some_iff.1 hj).1
  rw [h.1] at hj2
  rw [addr_addB, h.cellAt _ hj2]
  exact hj
/-- Rows of bools. -/
def bitV (l : List Bool) : List Value := l.map Value.bool
theorem bitV_get {l : List Bool} {k : Nat} {b : Bool} (h : l[k]? = some b) : (bitV l)[k]? = some (.bool b) := by simp [bitV, h]
theorem bitV_set (l : List Bool) (k : Nat) (b : Bool) : bitV (l.set k b) = (bitV l).set k (.bool b) := by simp [bitV, List.map_set]
theorem bits_made {w : World} {B n : Nat} {e : TypeId} (hB : B ≤ w.heap.size) (hn : n ≤ maxLen) : (w.alloc (.cells (madeCells #[.bool false] n) e)).ownsRow B e 1 (.slice (some ⟨w.heap.size, 0, none⟩) n n) n (bitV (List.replicate n false)) := by
  have h1 := World.ownsRow_lit (e := e) (size := 1) (base := B) w (madeCells #[.bool false] n) n hB hn (by have := congrArg List.length (toList_madeCells_one (.bool false) n); simpa using this)
  rw [toList_madeCells_one] at h1
  have e1 : bitV (List.replicate n false) = List.replicate n (.bool false) := by simp [bitV]
  rw [e1]
  exact h1
end Go.Proofs.Ytpabgkmjhcmonaa
namespace Go.Proofs.Ytpabgkmjhcmonaa
open Go.RowKit

/-- A slice of n elements of so many cells each, in a block from B on: nil, or from somewhere in its block. -/
def Seg (w : World) (B : Nat) (e : TypeId) (size : Nat) (v : Value) (n : Nat) (xs : List Value) : Prop :=
  xs.length = n * size ∧ ((v = .slice none 0 0 ∧ n = 0) ∨
    ∃ g off cap cur, v = .slice (some ⟨g, off, none⟩) n cap ∧ B ≤ g ∧ w.heap[g]? = some (.cells cur e (0, 0)) ∧ n ≤ cap ∧ cap ≤ maxLen ∧ off + cap * size ≤ cur.size ∧ ∀ (j : Nat) (u : Value), xs[j]? = some u → cur[off + j]? = some u)

section
variable {w w' : World} {B : Nat} {e : TypeId} {size n : Nat} {v : Value} {xs : List Value}
theorem Seg.nil (w : World) (B : Nat) (e : TypeId) (size : Nat) : Seg w B e size (.slice none 0 0) 0 [] := ⟨by simp, .inl ⟨rfl, rfl⟩⟩
theorem Seg.of_own (h : w.ownsRow B e size v n xs) : Seg w B e size v n xs := by
  refine ⟨h.1, ?_⟩
  rcases h.2 with h1 | ⟨g, cap, cur, rfl, h2, h3, h4, h5, h6, h7⟩
  · exact .inl h1
  · refine .inr ⟨g, 0, cap, cur, rfl, h2, h3, h4, h5, by omega, fun j u hj => ?_⟩
    have hj1 := (List.getElem?_eq_some_iff.1 hj).1
    rw [h.1] at hj1
    rw [← h7, List.getElem?_take, if_pos hj1] at hj
    simpa using hj
theorem Seg.slice (h : Seg w B e size v n xs) : ∃ A cap, v = .slice A n cap ∧ n ≤ cap := by
  rcases h.2 with ⟨rfl, rfl⟩ | ⟨g, off, cap, cur, rfl, -, -, h4, -⟩
  · exact ⟨none, 0, rfl, Nat.le_refl _⟩
  · exact ⟨_, cap, rfl, h4⟩
theorem Seg.lt (h : Seg w B e size v n xs) : ∀ k, v.ownBlock = some k → B ≤ k ∧ k < w.heap.size := fun k hk => by
  rcases h.2 with ⟨rfl, -⟩ | ⟨g, off, cap, cur, rfl, h2, h3, -⟩
  · simp [Value.ownBlock] at hk
  · simp only [Value.ownBlock, Option.some.injEq] at hk
    subst hk
    exact ⟨h2, (Array.getElem?_eq_some_iff.1 h3).1⟩
/-- It lies in a block of its type. -/
theorem Seg.block (h : Seg w B e size v n xs) : ∀ k, v.ownBlock = some k → ∃ cur, w.heap[k]? = some (.cells cur e (0, 0)) := fun k hk => by
  rcases h.2 with ⟨rfl, -⟩ | ⟨g, off, cap, cur, rfl, h2, h3, -⟩
  · simp [Value.ownBlock] at hk
  · simp only [Value.ownBlock, Option.some.injEq] at hk
    subst hk
    exact ⟨cur, h3⟩
theorem Seg.off (h : Seg w B e size v n xs) {T : Nat} {cs : Array Value} {t : TypeId} (hT : w.heap[T]? = some (.cells cs t (0, 0))) (hne : e ≠ t) (q : Nat) (hq : v.ownBlock = some q) : q ≠ T := fun e1 => by
  subst e1
  obtain ⟨cur, h1⟩ := h.block q hq
  rw [hT] at h1
  simp only [Option.some.injEq, Obj.cells.injEq] at h1
  exact hne h1.2.1.symm
theorem Seg.apart {F : Nat → Prop} (h : Seg w B e size v n xs) (ha : Apart F w w') (hF : ∀ k, v.ownBlock = some k → ¬ F k) : Seg w' B e size v n xs := by
  refine ⟨h.1, ?_⟩
  rcases h.2 with h1 | ⟨g, off, cap, cur, rfl, h2, h3, h4⟩
  · exact .inl h1
  · exact .inr ⟨g, off, cap, cur, rfl, h2, (ha.block g (Array.getElem?_eq_some_iff.1 h3).1 (hF g rfl)).trans h3, h4⟩
theorem Seg.keep (h : Seg w B e size v n xs) (hb : Below w.heap.size w w') : Seg w' B e size v n xs := h.apart (F := fun _ => False) (Apart.of_below' hb) (fun _ _ h => h)
theorem Seg.drew (h : Seg w B e size v n xs) : Seg w.drew B e size v n xs := h.keep (Below.refl _ _).drew
theorem Seg.cell {g off cap : Nat} (h : Seg w B e size (.slice (some ⟨g, off, none⟩) n cap) n xs) {j : Nat} {u : Value} (hj : xs[j]? = some u) : w.cell? ⟨g, off + j, none⟩ = some u := by
  rcases h.2 with ⟨h1, -⟩ | ⟨g', off', cap', cur, h1, h2, h3, h4, h5, h6, h7⟩
  · cases h1
  · cases h1
    exact cell_at h3 _ (h7 j u hj)
theorem Seg.frozen {g off cap : Nat} (h : Seg w B e size (.slice (some ⟨g, off, none⟩) n cap) n xs) (j : Nat) : w.frozen? ⟨g, j, none⟩ = false := by
  rcases h.2 with ⟨h1, -⟩ | ⟨g', off', cap', cur, h1, h2, h3, h4⟩
  · cases h1
  · cases h1
    exact free_at h3 j
/-- Not nil, if it has elements. -/
theorem Seg.form (h : Seg w B e size v n xs) (hn : 0 < n) : ∃ g off cap, v = .slice (some ⟨g, off, none⟩) n cap ∧ n ≤ cap := by
  rcases h.2 with ⟨rfl, rfl⟩ | ⟨g, off, cap, cur, rfl, -, -, h4, -⟩
  · omega
  · exact ⟨g, off, cap, rfl, h4⟩
/-- v[:k] and v[:k:k]. -/
theorem Seg.front {A : Option Addr} {cap : Nat} (h : Seg w B e size (.slice A n cap) n xs) {k c : Nat} (hk : k ≤ n) (hkc : k ≤ c) (hc : c ≤ cap) : Seg w B e size (.slice A k c) k (xs.take (k * size)) := by
  have hm := Nat.mul_le_mul_right size hk
  have hm2 := Nat.mul_le_mul_right size hc
  refine ⟨by rw [List.length_take, h.1]; omega, ?_⟩
  rcases h.2 with ⟨h1, rfl⟩ | ⟨g', off', cap', cur, h1, h2, h3, h4, h5, h6, h7⟩
  · cases h1
    obtain rfl : k = 0 := by omega
    obtain rfl : c = 0 := by omega
    exact .inl ⟨rfl, rfl⟩
  · cases h1
    refine .inr ⟨g', off', c, cur, rfl, h2, h3, hkc, by omega, by omega, fun j u hj => h7 j u ?_⟩
    rw [List.getElem?_take] at hj
    split at hj
    · exact hj
    · cases hj
/-- v[k:]. -/
theorem Seg.tail {g off cap : Nat} (h : Seg w B e size (.slice (some ⟨g, off, none⟩) n cap) n xs) {k : Nat} (hk : k ≤ n) : Seg w B e size (.slice (some (if cap = k then ⟨g, off, none⟩ else ⟨g, off + k * size, none⟩)) (n - k) (cap - k)) (n - k) (xs.drop (k * size)) := by
  refine ⟨by rw [List.length_drop, h.1, Nat.sub_mul], ?_⟩
  rcases h.2 with ⟨h1, -⟩ | ⟨g', off', cap', cur, h1, h2, h3, h4, h5, h6, h7⟩
  · cases h1
  · cases h1
    by_cases hc : cap = k
    · rw [if_pos hc]
      obtain rfl : n = k := by omega
      refine .inr ⟨g, off, cap - n, cur, rfl, h2, h3, by omega, by omega, by have := Nat.mul_le_mul_right size (show cap - n ≤ cap by omega); omega, fun j u hj => ?_⟩
      rw [List.drop_of_length_le (by rw [h.1]; omega)] at hj
      simp at hj
    · rw [if_neg hc]
      refine .inr ⟨g, off + k * size, cap - k, cur, rfl, h2, h3, by omega, by omega, ?_, fun j u hj => ?_⟩
      · have : k * size + (cap - k) * size = cap * size := by rw [← Nat.add_mul]; congr 1; omega
        omega
      · rw [List.getElem?_drop] at hj
        have := h7 _ _ hj
        rw [show off + k * size + j = off + (k * size + j) by omega]
        exact this
theorem Seg.items {α : Type} {vals : α → List Value} (hs : ∀ x, (vals x).length = size) {l : List α} (h : Seg w B e size v l.length (itemsV vals l)) : ∃ A cap, v = .slice A l.length cap ∧ l.length ≤ cap ∧ ItemsIn vals size w A l := by
  rcases h.2 with ⟨rfl, h0⟩ | ⟨g, off, cap, cur, rfl, h2, h3, h4, h5, h6, h7⟩
  · rw [h0]
    exact ⟨none, 0, rfl, Nat.le_refl _, fun hl => by omega⟩
  · refine ⟨_, cap, rfl, h4, fun _ => ⟨g, off, rfl, (Array.getElem?_eq_some_iff.1 h3).1, fun i x hx j u hu => ?_⟩⟩
    have hj : j < size := by rw [← hs x]; exact (List.getElem?_eq_some_iff.1 hu).1
    have := h7 (i * size + j) u (by rw [itemsV_at hs l i x hx j hj]; exact hu)
    rw [Nat.add_assoc]
    exact cell_at h3 _ this
end

/-- The cells of a block behind stores one behind the other. -/
theorem setCells_row {g : Nat} {e : TypeId} : ∀ (vs : List Value) (o : Nat) (w : World) (cur : Array Value), w.heap[g]? = some (.cells cur e (0, 0)) → o + vs.length ≤ cur.size →
    ∃ cur', (w.setCells g o vs).heap[g]? = some (.cells cur' e (0, 0)) ∧ cur'.size = cur.size ∧ (∀ (j : Nat) u, vs[j]? = some u → cur'[o + j]? = some u) ∧ ∀ i, (i < o ∨ o + vs.length ≤ i) → cur'[i]? = cur[i]?
  | [], o, w, cur, h, _ => ⟨cur, h, rfl, fun j u hj => by simp at hj, fun _ _ => rfl⟩
  | v :: r, o, w, cur, h, hl => by
    simp only [List.length_cons] at hl
    have h1 := heap_setCell_same w g o cur e v h
    obtain ⟨cur', g1, g2, g3, g4⟩ := setCells_row r (o + 1) (w.setCell ⟨g, o, none⟩ v) _ h1 (by rw [Array.size_setIfInBounds]; omega)
    refine ⟨cur', g1, by rw [g2, Array.size_setIfInBounds], fun j u hj => ?_, fun i hi => ?_⟩
    · match j, hj with
      | 0, hj =>
        simp at hj
        subst hj
        rw [Nat.add_zero, g4 o (.inl (by omega)), Array.getElem?_setIfInBounds_self_of_lt (by omega)]
      | j + 1, hj =>
        have := g3 j u (by simpa using hj)
        rwa [show o + 1 + j = o + (j + 1) by omega] at this
    · simp only [List.length_cons] at hi
      rw [g4 i (by omega), Array.getElem?_setIfInBounds_ne (by omega)]
theorem setCells_apart (g : Nat) : ∀ (vs : List Value) (o : Nat) (w : World), Apart (fun k => k = g) w (w.setCells g o vs)
  | [], _, _ => Apart.refl _ _
  | v :: r, o, w => (Apart.setCell (F := fun k => k = g) (Apart.refl _ w) (p := ⟨g, o, none⟩) (.inl rfl) v).trans (setCells_apart g r (o + 1) _) (fun _ h => .inl h)

section
variable {P : Program}
theorem wp_append_seg {w0 : World} {o : Oper} {a : Act} {K : Act → World → Prop} {Q : Exit → Act → World → Prop} (s x : Operand) (t : TypeId)
    (ho : o.op = .call { callee := .builtin .append, args := #[s, x], argTypes := #[t, t] }) (B : Nat) (e : TypeId) (z : Value) (size bytes : Nat)
    (ht : P.underlying t = some (.slice e)) (hinfo : (P.info? e).map (fun i => (i.zero, i.size, i.bytes)) = some (some z, size, bytes)) (hzs : z.cells.size = size) (hsz : 0 < size)
    (v : Value) (n : Nat) (xs : List Value) (hs : a.eval s = v) (hown : Seg w0 B e size v n xs) (A : Option Addr) (m c : Nat) (news : List Value) (hx : a.eval x = .slice A m c) (hl : news.length = m * size)
    (hnews : 0 < m → ∃ ad, A = some ad ∧ ∀ j u, news[j]? = some u → w0.cell? (ad.add j) = some u) (h1 : ∀ u ∈ news, u.oneCell' = true)
    (h63 : n + m ≤ maxLen) (hbytes : (n + m) * bytes ≤ 140737488355328) (hB : B ≤ w0.heap.size)
    (h : ∀ v' w', Seg w' B e size v' (n + m) (xs ++ news) → Apart (fun k => v.ownBlock = some k) w0 w' → Moved w0 v.ownBlock v'.ownBlock → K (a.put o.dst v') w') :
    o.wp P a w0 K Q := by
  rcases hown.2 with ⟨rfl, rfl⟩ | ⟨g, off, cap, cur, rfl, g2, g3, g4, g5, g6, g7⟩
  · obtain rfl : xs = [] := List.eq_nil_of_length_eq_zero (by have := hown.1; omega)
    exact wp_append_s s x t ho B e z size bytes ht hinfo hzs hsz _ 0 [] hs (World.ownsRow_nil _ _ _ _) A m c news hx hl hnews h1 h63 hbytes hB fun v' w' h1 h2 h3 => h v' w' (Seg.of_own h1) h2 (h3.imp id fun e => ⟨_, e, Nat.le_refl _⟩)
  obtain ⟨i, hi, hz, hsize, hby⟩ := info_parts hinfo
  rcases A with _ | ad
  · obtain rfl : m = 0 := by
      rcases Nat.eq_zero_or_pos m with h0 | h0
      · exact h0
      · obtain ⟨_, h, _⟩ := hnews h0
        cases h
    obtain rfl : news = [] := List.eq_nil_of_length_eq_zero (by omega)
    have hrun : (Builtin.append_ #[t, t] o.type #[.slice (some ⟨g, off, none⟩) n cap, .slice none 0 c]).run P w0 = .ok (.slice (some ⟨g, off, none⟩) n cap) w0 := by
      simp [Builtin.append_, run_underlying ht, sizeOf, typeInfo, hi, Builtin.lenOf, Builtin.firstCells, g4, storeCells]
    unfold Oper.wp execOp
    simp only [ho, resolve, invoke, builtin, Sem.run_bind, Sem.run_pure, Result.andThen_ok, List.map_toArray, List.map_cons, List.map_nil, hs, hx, hrun]
    exact h _ w0 (by simpa using hown) (Apart.refl _ _) (.inl rfl)
  · have hcells : ∀ j u, news[j]? = some u → w0.cell? (ad.add j) = some u := by
      rcases Nat.eq_zero_or_pos m with h0 | h0
      · subst h0
        obtain rfl : news = [] := List.eq_nil_of_length_eq_zero (by omega)
        intro j u hj
        simp at hj
      · obtain ⟨ad', e1, h2⟩ := hnews h0
        cases e1
        exact h2
    have hxl := hown.1
    by_cases hroom : n + m ≤ cap
    · have hfit : off + n * size + news.length ≤ cur.size := by
        have := Nat.mul_le_mul_right size hroom
        rw [Nat.add_mul] at this
        omega
      have hrun := run_append_room_cells (P := P) w0 t o.type e i ht hi g off n cap ad m c news (by rw [hsize]; exact hl) hcells h1 hroom
        (fun j hj => by rw [cell_of_row w0 g _ cur e (0, 0) g3, hsize]; rw [Array.getElem?_eq_getElem (by omega)]; rfl) (fun j hj => frozen_of_row w0 g _ cur e g3)
      rw [hsize] at hrun
      obtain ⟨cur', q1, q2, q3, q4⟩ := setCells_row news (off + n * size) w0 cur g3 (by omega)
      unfold Oper.wp execOp
      simp only [ho, resolve, invoke, builtin, Sem.run_bind, Sem.run_pure, Result.andThen_ok, List.map_toArray, List.map_cons, List.map_nil, hs, hx, hrun]
      refine h _ _ ⟨by rw [List.length_append, hxl, hl, Nat.add_mul], .inr ⟨g, off, cap, cur', rfl, g2, q1, hroom, g5, by rw [q2]; exact g6, fun j u hj => ?_⟩⟩ ((setCells_apart g news _ w0).mono fun k _ e => by rw [e]; rfl) (.inl rfl)
      by_cases hjl : j < xs.length
      · rw [List.getElem?_append_left hjl] at hj
        rw [q4 _ (.inl (by omega))]
        exact g7 j u hj
      · rw [List.getElem?_append_right (by omega)] at hj
        have := q3 _ u hj
        rwa [show off + n * size + (j - xs.length) = off + j by omega] at this
    · obtain ⟨v', w', hrun, r1, r2⟩ := run_append_arg_grows (P := P) w0 t o.type e i z size bytes ht hi hz hsize hby hzs hsz ⟨g, off, none⟩ n cap xs hxl (fun j u hj => by rw [addr_addB]; exact cell_at g3 _ (g7 j u hj)) ad m c news hl hcells (by omega) h63 hbytes
      unfold Oper.wp execOp
      simp only [ho, resolve, invoke, builtin, Sem.run_bind, Sem.run_pure, Result.andThen_ok, List.map_toArray, List.map_cons, List.map_nil, hs, hx, hrun]
      have hb := r1.lt
      refine h v' w' ?_ ((Apart.refl _ w0).grown r2 fun k hk => by cases hk) ?_
      · obtain ⟨s1, s2⟩ := Seg.of_own r1
        refine ⟨s1, ?_⟩
        rcases s2 with s2 | ⟨g', off', cap', cur', e1, e2, e3⟩
        · exact .inl s2
        · exact .inr ⟨g', off', cap', cur', e1, Nat.le_trans hB e2, e3⟩
      · obtain ⟨g', cap', rfl, -, -⟩ := r1.form (by omega)
        exact .inr ⟨g', rfl, (hb g' rfl).1⟩
theorem wpList_append_seg {w0 : World} {ops : Array Oper} {rest : List Oper} {o : Oper} {a : Act} {Q : Exit → Act → World → Prop} (hgd : o.guard = none) (s x : Operand) (t : TypeId)
    (ho : o.op = .call { callee := .builtin .append, args := #[s, x], argTypes := #[t, t] }) (B : Nat) (e : TypeId) (z : Value) (size bytes : Nat)
    (ht : P.underlying t = some (.slice e)) (hinfo : (P.info? e).map (fun i => (i.zero, i.size, i.bytes)) = some (some z, size, bytes)) (hzs : z.cells.size = size) (hsz : 0 < size)
    (v : Value) (n : Nat) (xs : List Value) (hs : a.eval s = v) (hown : Seg w0 B e size v n xs) (A : Option Addr) (m c : Nat) (news : List Value) (hx : a.eval x = .slice A m c) (hl : news.length = m * size)
    (hnews : 0 < m → ∃ ad, A = some ad ∧ ∀ j u, news[j]? = some u → w0.cell? (ad.add j) = some u) (h1 : ∀ u ∈ news, u.oneCell' = true)
    (h63 : n + m ≤ maxLen) (hbytes : (n + m) * bytes ≤ 140737488355328) (hB : B ≤ w0.heap.size)
    (h : ∀ v' w', Seg w' B e size v' (n + m) (xs ++ news) → Apart (fun k => v.ownBlock = some k) w0 w' → Moved w0 v.ownBlock v'.ownBlock → wpList P ops Q rest (a.put o.dst v') w') :
    wpList P ops Q (o :: rest) a w0 :=
  wpList_plain hgd fun _ hK => wp_append_seg s x t ho B e z size bytes ht hinfo hzs hsz v n xs hs hown A m c news hx hl hnews h1 h63 hbytes hB fun v' w' h1 h2 h3 => hK _ _ (h v' w' h1 h2 h3)
/-- The same as one step of a region that draws. -/
theorem step_append_seg {w0 : World} {ops : Array Oper} {o : Oper} {a : Act} {K : Act → World → Prop} {Q : Exit → Act → World → Prop} {E : Prop} (hgd : o.guard = none) (s x : Operand) (t : TypeId)
    (ho : o.op = .call { callee := .builtin .append, args := #[s, x], argTypes := #[t, t] }) (B : Nat) (e : TypeId) (z : Value) (size bytes : Nat)
    (ht : P.underlying t = some (.slice e)) (hinfo : (P.info? e).map (fun i => (i.zero, i.size, i.bytes)) = some (some z, size, bytes)) (hzs : z.cells.size = size) (hsz : 0 < size)
    (v : Value) (n : Nat) (xs : List Value) (hs : a.eval s = v) (hown : Seg w0 B e size v n xs) (A : Option Addr) (m c : Nat) (news : List Value) (hx : a.eval x = .slice A m c) (hl : news.length = m * size)
    (hnews : 0 < m → ∃ ad, A = some ad ∧ ∀ j u, news[j]? = some u → w0.cell? (ad.add j) = some u) (h1 : ∀ u ∈ news, u.oneCell' = true)
    (h63 : n + m ≤ maxLen) (hbytes : (n + m) * bytes ≤ 140737488355328) (hB : B ≤ w0.heap.size)
    (h : ∀ v' w', Seg w' B e size v' (n + m) (xs ++ news) → Apart (fun k => v.ownBlock = some k) w0 w' → Moved w0 v.ownBlock v'.ownBlock → K (a.put o.dst v') w') :
    if Region.wanted o (yielded ops a.tmps) = true then Oper.wp P o a w0 K Q else E := by
  have hw : Region.wanted o (yielded ops a.tmps) = true := by simp [Region.wanted, hgd]
  rw [if_pos hw]
  exact wp_append_seg s x t ho B e z size bytes ht hinfo hzs hsz v n xs hs hown A m c news hx hl hnews h1 h63 hbytes hB h
/-- What a slice holds, to be appended. -/
theorem Seg.news {w : World} {B : Nat} {e : TypeId} {size n cap : Nat} {A : Option Addr} {xs : List Value} (h : Seg w B e size (.slice A n cap) n xs) (hn : 0 < n) : ∃ ad, A = some ad ∧ ∀ j u, xs[j]? = some u → w.cell? (ad.add j) = some u := by
  obtain ⟨g, off, cap', e1, -⟩ := h.form hn
  cases e1
  exact ⟨_, rfl, fun j u hj => by rw [addr_addB]; exact h.cell hj⟩
end
end Go.Proofs.Ytpabgkmjhcmonaa
namespace Go.Proofs.Ytpabgkmjhcmonaa
section
variable {P : Program} {md : Region.Mode} {ops : Array Oper} {Q : Exit → Act → World → Prop} {S : World → Prop}

/-- Number k, not come up yet, waits for number i, itself or by others that have not come up yet. -/
def reaches (md : Region.Mode) (ops : Array Oper) (listed : Array Bool) : Nat → Nat → Nat → Bool
  | 0, _, _ => false
  | f + 1, k, i => !listed.getD k true && (match ops[k]? with | some o => o.after.any (fun e => Region.binds md e && (e.on == i || reaches md ops listed f e.on i)) | none => false)

theorem reaches_spec {listed : Array Bool} {f k i : Nat} (h : reaches md ops listed (f + 1) k i = true) :
    listed.getD k true = false ∧ ∃ o, ops[k]? = some o ∧ ∃ e ∈ o.after, Region.binds md e = true ∧ (e.on = i ∨ reaches md ops listed f e.on i = true) := by
  unfold reaches at h
  rw [Bool.and_eq_true, Bool.not_eq_true'] at h
  refine ⟨h.1, ?_⟩
  cases ho : ops[k]? with
  | none => rw [ho] at h; cases h.2
  | some o =>
    rw [ho] at h
    obtain ⟨e, he, h2⟩ := Array.any_eq_true'.1 h.2
    rw [Bool.and_eq_true, Bool.or_eq_true, beq_iff_eq] at h2
    exact ⟨o, rfl, e, he, h2.1, h2.2⟩

theorem getD_false_of {l : Array Bool} {i : Nat} (h : l.getD i true = false) : ¬ l.getD i false = true := by
  intro h2
  rw [Array.getD_eq_getD_getElem?] at h h2
  cases hi : l[i]? with
  | none => rw [hi] at h; cases h
  | some b => rw [hi] at h h2; rw [Option.getD_some] at h h2; rw [h] at h2; cases h2

theorem reaches_unlisted {listed : Array Bool} {i : Nat} : ∀ {f k : Nat}, reaches md ops listed f k i = true → listed.getD k true = false
  | 0, _, h => by cases h
  | _ + 1, _, h => (reaches_spec h).1

theorem reaches_not_ready {listed : Array Bool} {f k i : Nat} (hi : listed.getD i true = false) (h : reaches md ops listed f k i = true) : k ∉ Region.ready md ops listed := by
  intro hr
  cases f with
  | zero => cases h
  | succ f =>
    obtain ⟨_, o, ho, e, he, hb, h2⟩ := reaches_spec h
    obtain ⟨_, o', ho', hall⟩ := mem_ready.1 hr
    rw [ho] at ho'
    cases ho'
    have h3 := hall e he hb
    rcases h2 with h2 | h2
    · rw [h2] at h3; exact getD_false_of hi h3
    · exact getD_false_of (reaches_unlisted h2) h3

theorem reaches_step {listed : Array Bool} {i j : Nat} (hi : listed.getD i true = false) (hj : j ∈ Region.ready md ops listed) : ∀ {f k : Nat}, reaches md ops listed f k i = true → reaches md ops (listed.setIfInBounds j true) f k i = true
  | 0, _, h => by cases h
  | f + 1, k, h => by
    have hkj : j ≠ k := fun e => reaches_not_ready hi h (e ▸ hj)
    obtain ⟨h0, o, ho, e, he, hb, h2⟩ := reaches_spec h
    unfold reaches
    rw [getD_set_ne true hkj, h0, ho]
    simp only [Bool.not_false, Bool.true_and]
    refine Array.any_eq_true'.2 ⟨e, he, ?_⟩
    rw [hb, Bool.true_and, Bool.or_eq_true, beq_iff_eq]
    exact h2.imp id (fun h => reaches_step hi hj h)

/-- Whatever order is picked from here on, and S holds behind every operation that comes up ahead of number st. -/
def wpAnyL (P : Program) (md : Region.Mode) (ops : Array Oper) (Q : Exit → Act → World → Prop) (S : World → Prop) (st : Nat) : Nat → Array Bool → Act → World → Prop
  | 0, listed, a, w => Region.ready md ops listed = [] ∧ Q .normal a w
  | fuel + 1, listed, a, w =>
    (Region.ready md ops listed = [] → Q .normal a w) ∧
    ∀ i ∈ Region.ready md ops listed, wpOp P ops Q i (fun a' w' => ((listed.setIfInBounds i true).getD st true = false → S w') ∧ wpAnyL P md ops Q S st fuel (listed.setIfInBounds i true) a' w') a w

theorem wpAny_of_L {st : Nat} : ∀ (fuel : Nat) (listed : Array Bool) (a : Act) (w : World), wpAnyL P md ops Q S st fuel listed a w → wpAny P md ops Q fuel listed a w
  | 0, _, _, _, h => h
  | fuel + 1, _, _, _, h => ⟨h.1, fun i hi => wpOp_mono (fun a' w' h' => wpAny_of_L fuel _ a' w' h'.2) (h.2 i hi)⟩

theorem wpAnyL_first {st i f : Nat} {oi : Oper} {v : Value} (hi : ops[i]? = some oi) (hsel : ∀ (j : Nat) (o : Oper) cs b, ops[j]? = some o → o.op ≠ .select cs b)
    (hQ : ∀ c a w, Q (.panic c) (a.put oi.dst v) w → Q (.panic c) a w) :
    ∀ (fuel : Nat) (listed : Array Bool) (a : Act) (w : World),
      (∀ j oj, ops[j]? = some oj → j ≠ i → listed.getD j true = false → (∀ e ∈ oj.after, Region.binds md e = true → e.on ≠ i) → oi.apart ops oj = true) →
      i ∈ Region.ready md ops listed → reaches md ops listed f st i = true → YieldsIf P ops S oi v a → S w →
      wpAnyL P md ops Q S st fuel (listed.setIfInBounds i true) (a.put oi.dst v) w → wpAnyL P md ops Q S st (fuel + 1) listed a w := by
  intro fuel
  induction fuel with
  | zero =>
    intro listed a w _ hr hp hy hS H
    refine ⟨fun h => (by rw [h] at hr; cases hr), fun j hj => ?_⟩
    by_cases hji : j = i
    · subst hji; exact hy.wpOp hi hS ⟨fun _ => hS, H⟩
    · have := ready_mono hj hji
      rw [H.1] at this
      cases this
  | succ fuel ih =>
    intro listed a w hfree hr hp hy hS H
    refine ⟨fun h => (by rw [h] at hr; cases hr), fun j hj => ?_⟩
    have hiu := (mem_ready.1 hr).1
    have hst : st ≠ i := fun e => reaches_not_ready hiu hp (e ▸ hr)
    have hstj : st ≠ j := fun e => reaches_not_ready hiu hp (e ▸ hj)
    have hstu := reaches_unlisted hp
    by_cases hji : j = i
    · subst hji; exact hy.wpOp hi hS ⟨fun _ => hS, H⟩
    · have h1 := H.2 j (ready_mono hj hji)
      obtain ⟨hjun, oj, hoj, hall⟩ := mem_ready.1 hj
      have hnot : ∀ e ∈ oj.after, Region.binds md e = true → e.on ≠ i := fun e he hb heq => by
        have h1 := hall e he hb
        rw [heq] at h1
        exact getD_false_of hiu h1
      have h2 := wpOp_putIf hoj (hfree j oj hoj hji hjun hnot) (fun cs b => hsel i oi cs b hi) (fun cs b => hsel j oj cs b hoj) hQ hy h1
      have hfree' : ∀ k ok, ops[k]? = some ok → k ≠ i → (listed.setIfInBounds j true).getD k true = false →
          (∀ e ∈ ok.after, Region.binds md e = true → e.on ≠ i) → oi.apart ops ok = true := fun k ok hk hki hun hno => by
        refine hfree k ok hk hki ?_ hno
        by_cases hjk : j = k
        · subst hjk; exact hjun
        · rw [getD_set_ne true hjk] at hun; exact hun
      refine wpOp_mono (fun a' w' h3 => ?_) h2
      have hS' : S w' := h3.2.1 (by rw [getD_set_ne true (Ne.symm hstj), getD_set_ne true (Ne.symm hst)]; exact hstu)
      refine ⟨fun _ => hS', ih (listed.setIfInBounds j true) a' w' hfree' (ready_mono hr (Ne.symm hji)) (reaches_step hiu hj hp) h3.1 hS' ?_⟩
      rw [Array.setIfInBounds_comm _ _ hji]
      exact h3.2.2

theorem wpAnyL_free {st i : Nat} {oi : Oper} {v : Value} (hi : ops[i]? = some oi) (hne : st ≠ i) (hsel : ∀ (j : Nat) (o : Oper) cs b, ops[j]? = some o → o.op ≠ .select cs b)
    (hQ : ∀ c a w, Q (.panic c) (a.put oi.dst v) w → Q (.panic c) a w) :
    ∀ (fuel : Nat) (listed : Array Bool) (a : Act) (w : World),
      (∀ j oj, ops[j]? = some oj → j ≠ i → listed.getD j true = false → (∀ e ∈ oj.after, Region.binds md e = true → e.on ≠ i) → oi.apart ops oj = true) →
      i ∈ Region.ready md ops listed → YieldsIf P ops (fun _ => True) oi v a → ((listed.setIfInBounds i true).getD st true = false → S w) →
      wpAnyL P md ops Q S st fuel (listed.setIfInBounds i true) (a.put oi.dst v) w → wpAnyL P md ops Q S st (fuel + 1) listed a w := by
  intro fuel
  induction fuel with
  | zero =>
    intro listed a w _ hr hy hS H
    refine ⟨fun h => (by rw [h] at hr; cases hr), fun j hj => ?_⟩
    by_cases hji : j = i
    · subst hji; exact hy.wpOp hi trivial ⟨hS, H⟩
    · have := ready_mono hj hji
      rw [H.1] at this
      cases this
  | succ fuel ih =>
    intro listed a w hfree hr hy hS H
    refine ⟨fun h => (by rw [h] at hr; cases hr), fun j hj => ?_⟩
    have hiu := (mem_ready.1 hr).1
    by_cases hji : j = i
    · subst hji; exact hy.wpOp hi trivial ⟨hS, H⟩
    · have h1 := H.2 j (ready_mono hj hji)
      obtain ⟨hjun, oj, hoj, hall⟩ := mem_ready.1 hj
      have hnot : ∀ e ∈ oj.after, Region.binds md e = true → e.on ≠ i := fun e he hb heq => by
        have h1 := hall e he hb
        rw [heq] at h1
        exact getD_false_of hiu h1
      have h2 := wpOp_putIf hoj (hfree j oj hoj hji hjun hnot) (fun cs b => hsel i oi cs b hi) (fun cs b => hsel j oj cs b hoj) hQ hy h1
      have hfree' : ∀ k ok, ops[k]? = some ok → k ≠ i → (listed.setIfInBounds j true).getD k true = false →
          (∀ e ∈ ok.after, Region.binds md e = true → e.on ≠ i) → oi.apart ops ok = true := fun k ok hk hki hun hno => by
        refine hfree k ok hk hki ?_ hno
        by_cases hjk : j = k
        · subst hjk; exact hjun
        · rw [getD_set_ne true hjk] at hun; exact hun
      refine wpOp_mono (fun a' w' h3 => ?_) h2
      have hS' : ((listed.setIfInBounds j true).setIfInBounds i true).getD st true = false → S w' := fun e => h3.2.1 (by rw [Array.setIfInBounds_comm _ _ (Ne.symm hji)]; exact e)
      refine ⟨fun e => hS' (by rw [getD_set_ne true (Ne.symm hne)]; exact e), ih (listed.setIfInBounds j true) a' w' hfree' (ready_mono hr (Ne.symm hji)) h3.1 hS' ?_⟩
      rw [Array.setIfInBounds_comm _ _ hji]
      exact h3.2.2

/-- An operation that asks nothing of the world, whenever it comes up. -/
theorem wpAnyL_quiet {st i : Nat} {oi : Oper} {v : Value} {fuel : Nat} {listed : Array Bool} {a : Act} {w : World} (hi : ops[i]? = some oi) (hne : st ≠ i)
    (hs : Region.noSelect ops = true) (hf : Region.free md ops listed i = true) (hr : (Region.ready md ops listed).contains i = true)
    (hQ : ∀ c a w, Q (.panic c) (a.put oi.dst v) w → Q (.panic c) a w) (hy : YieldsIf P ops (fun _ => True) oi v a) (hS : S w)
    (h : wpAnyL P md ops Q S st fuel (listed.setIfInBounds i true) (a.put oi.dst v) w) : wpAnyL P md ops Q S st (fuel + 1) listed a w :=
  wpAnyL_free hi hne (Region.noSelect_spec hs) hQ fuel listed a w (Region.free_spec hi hf) (by simpa using hr) hy (fun _ => hS) h

theorem wpAnyL_take {st i f : Nat} {oi : Oper} {v : Value} {fuel : Nat} {listed : Array Bool} {a : Act} {w : World} (hi : ops[i]? = some oi)
    (hs : Region.noSelect ops = true) (hf : Region.free md ops listed i = true) (hr : (Region.ready md ops listed).contains i = true) (hp : reaches md ops listed f st i = true)
    (hQ : ∀ c a w, Q (.panic c) (a.put oi.dst v) w → Q (.panic c) a w) (hy : YieldsIf P ops S oi v a) (hS : S w)
    (h : wpAnyL P md ops Q S st fuel (listed.setIfInBounds i true) (a.put oi.dst v) w) : wpAnyL P md ops Q S st (fuel + 1) listed a w :=
  wpAnyL_first hi (Region.noSelect_spec hs) hQ fuel listed a w (Region.free_spec hi hf) (by simpa using hr) hp hy hS h

theorem wpAnyL_done {st : Nat} {listed : Array Bool} {a : Act} {w : World} (hr : Region.ready md ops listed = []) (h : Q .normal a w) :
    ∀ fuel, wpAnyL P md ops Q S st fuel listed a w
  | 0 => ⟨hr, h⟩
  | _ + 1 => ⟨fun _ => h, by rw [hr]; simp⟩

/-- The one operation that may come up comes up; S is asked behind it where st has not come up. -/
theorem wpAnyL_one {st k : Nat} {o : Oper} {fuel : Nat} {listed : Array Bool} {a : Act} {w : World} (hr : Region.ready md ops listed = [k]) (ho : ops[k]? = some o)
    (h : ∀ K' : Act → World → Prop, Shut (∀ a w, ((listed.setIfInBounds k true).getD st true = false → S w) → wpAnyL P md ops Q S st fuel (listed.setIfInBounds k true) a w → K' a w) → if Region.wanted o (yielded ops a.tmps) = true then Oper.wp P o a w K' Q else K' (a.put o.dst undef) w) :
    wpAnyL P md ops Q S st (fuel + 1) listed a w :=
  ⟨fun h0 => (by rw [hr] at h0; cases h0), fun j hj => (by
    rw [hr] at hj
    rcases List.mem_singleton.1 hj with rfl
    exact wpOp_step ho (fun K' hK => h K' (fun a w hS hW => hK a w ⟨hS, hW⟩)))⟩

theorem getD_set_self {l : Array Bool} {k : Nat} : (l.setIfInBounds k true).getD k true = true := by
  rw [Array.getD_eq_getD_getElem?, Array.getElem?_setIfInBounds]
  split
  · split <;> rfl
  · rename_i h; exact absurd rfl h

/-- The same for st itself: nothing is asked behind it. -/
theorem wpAnyL_last {k : Nat} {o : Oper} {fuel : Nat} {listed : Array Bool} {a : Act} {w : World} (hr : Region.ready md ops listed = [k]) (ho : ops[k]? = some o)
    (h : ∀ K' : Act → World → Prop, Shut (∀ a w, wpAnyL P md ops Q S k fuel (listed.setIfInBounds k true) a w → K' a w) → if Region.wanted o (yielded ops a.tmps) = true then Oper.wp P o a w K' Q else K' (a.put o.dst undef) w) :
    wpAnyL P md ops Q S k (fuel + 1) listed a w :=
  wpAnyL_one hr ho fun K' hK => h K' (fun a w hW => hK.out a w (fun e => by rw [getD_set_self] at e; cases e) hW)

/-- The beginning: S is shown of the world behind the draw. -/
theorem wp_region_L_drew {st : Nat} {id : Nat} {a : Act} {w : World} (hm : P.follows .mixedOrders = true) (hS : S w.drew)
    (h : S w.drew → wpAnyL P .any ops Q S st ops.size (Array.replicate ops.size false) a w.drew) : (Code.region id ops true).wp P Q a w :=
  wp_region_any hm (wpAny_of_L _ _ _ _ (h hS))
end
end Go.Proofs.Ytpabgkmjhcmonaa
namespace Go.Proofs.Ytpabgkmjhcmonaa
open Go.RowKit

/-- A call that only computes (it may draw orders). -/
def Quiet (v : Value) (w : World) (e : Ending) (w' : World) : Prop := e = .returned v ∧ ∃ m, w' = w.drewN m
theorem quiet_quiet {P : Program} {f : FuncId} {args : Array Value} {w : World} {n : Nat} {v : Value}
    (h : Calls P f args (w.drewN n) (Quiet v (w.drewN n))) : Calls P f args (w.drewN n) fun e w'' => e = .returned v ∧ ∃ m, w'' = w.drewN m :=
  h.mono fun _ _ ⟨he, m, hm⟩ => ⟨he, n + m, by rw [hm, World.drewN_drewN]⟩
theorem below_drewNc {B : Nat} {a w : World} (h : Below B a w) (n : Nat) : Below B a (w.drewN n) := ⟨h.os, h.tape, h.output, h.size, h.block⟩
end Go.Proofs.Ytpabgkmjhcmonaa
namespace Go.Proofs.Ytpabgkmjhcmonaa
open Go.RowKit
theorem tkA {α : Type} (l : List α) (i : Nat) : l.toArray[i]? = l[i]? := List.getElem?_toArray
theorem tkG {α : Type} (x : α) (l : List α) (i : Nat) : (x :: l)[i + 1]? = l[i]? := rfl
/-- Eleven facts of all worlds, at one. -/
theorem eleven {S p0 p1 p2 p3 p4 p5 p6 p7 p8 p9 p10 : World → Prop} {W : World} (h : S W) (f0 : ∀ W, S W → p0 W) (f1 : ∀ W, S W → p1 W) (f2 : ∀ W, S W → p2 W) (f3 : ∀ W, S W → p3 W) (f4 : ∀ W, S W → p4 W) (f5 : ∀ W, S W → p5 W) (f6 : ∀ W, S W → p6 W) (f7 : ∀ W, S W → p7 W) (f8 : ∀ W, S W → p8 W) (f9 : ∀ W, S W → p9 W) (f10 : ∀ W, S W → p10 W) :
    p0 W ∧ p1 W ∧ p2 W ∧ p3 W ∧ p4 W ∧ p5 W ∧ p6 W ∧ p7 W ∧ p8 W ∧ p9 W ∧ p10 W := ⟨f0 W h, f1 W h, f2 W h, f3 W h, f4 W h, f5 W h, f6 W h, f7 W h, f8 W h, f9 W h, f10 W h⟩
theorem tkT {α : Type} (l : List α) (i : Nat) (x : α) : l.toArray.setIfInBounds i x = (l.set i x).toArray := List.setIfInBounds_toArray l i x
theorem tk0 {α : Type} (x y : α) (l : List α) : (x :: l).set 0 y = y :: l := rfl
theorem tkS {α : Type} (x y : α) (l : List α) (i : Nat) : (x :: l).set (i + 1) y = x :: l.set i y := rfl
section
variable {P : Program} {md : Region.Mode} {ops : Array Oper} {Q : Exit → Act → World → Prop} {S : World → Prop}
/-- May the operation be taken (the three checks in one)? -/
def tkOk (md : Region.Mode) (ops : Array Oper) (listed : Array Bool) (i : Nat) : Bool := Region.noSelect ops && Region.free md ops listed i && (Region.ready md ops listed).contains i
theorem tkOk_all {listed : Array Bool} {i : Nat} (h : tkOk md ops listed i = true) : Region.noSelect ops = true ∧ Region.free md ops listed i = true ∧ (Region.ready md ops listed).contains i = true := by
  unfold tkOk at h
  simp only [Bool.and_eq_true] at h
  exact ⟨h.1.1, h.1.2, h.2⟩
theorem tkH (i : Nat) {oi : Oper} {v : Value} {fuel : Nat} {listed : Array Bool} {a : Act} {w : World} (hi : ops[i]? = some oi) (hc : tkOk md ops listed i = true)
    (hQ : ∀ c a w, Q (.panic c) (a.put oi.dst v) w → Q (.panic c) a w) (hw : Region.wanted oi (yielded ops a.tmps) = true) (hy : ∀ w, S w → (execOp a.eval oi).run P w = .ok (.value v) w) (hS : S w)
    (h : wpAnyH P md ops Q S fuel (listed.setIfInBounds i true) (a.put oi.dst v) w) : wpAnyH P md ops Q S (fuel + 1) listed a w :=
  wpAnyH_take hi (tkOk_all hc).1 (tkOk_all hc).2.1 (tkOk_all hc).2.2 hQ (.inl ⟨hw, hy⟩) hS h
/-- The one operation that is ready comes up. -/
theorem clH (k : Nat) {o : Oper} {fuel : Nat} {listed : Array Bool} {a : Act} {w : World} (hr : Region.ready md ops listed = [k]) (ho : ops[k]? = some o)
    (h : ∀ K' : Act → World → Prop, Shut (∀ a w, S w → (S w → wpAnyH P md ops Q S fuel (listed.setIfInBounds k true) a w) → K' a w) → if Region.wanted o (yielded ops a.tmps) = true then Oper.wp P o a w K' Q else K' (a.put o.dst undef) w) : wpAnyH P md ops Q S (fuel + 1) listed a w :=
  wpAnyH_ready hr (by simp) (AllReadyH.cons ho h AllReadyH.nil)
/-- .. under a last write, number st. -/
def tkOkL (md : Region.Mode) (ops : Array Oper) (listed : Array Bool) (st i : Nat) : Bool := tkOk md ops listed i && reaches md ops listed 12 st i
theorem tkL {st : Nat} (i : Nat) {oi : Oper} {v : Value} {fuel : Nat} {listed : Array Bool} {a : Act} {w : World} (hi : ops[i]? = some oi) (hc : tkOkL md ops listed st i = true)
    (hQ : ∀ c a w, Q (.panic c) (a.put oi.dst v) w → Q (.panic c) a w) (hw : Region.wanted oi (yielded ops a.tmps) = true) (hy : ∀ w, S w → (execOp a.eval oi).run P w = .ok (.value v) w) (hS : S w)
    (h : wpAnyL P md ops Q S st fuel (listed.setIfInBounds i true) (a.put oi.dst v) w) : wpAnyL P md ops Q S st (fuel + 1) listed a w := by
  unfold tkOkL at hc
  simp only [Bool.and_eq_true] at hc
  exact wpAnyL_take (f := 12) hi (tkOk_all hc.1).1 (tkOk_all hc.1).2.1 (tkOk_all hc.1).2.2 hc.2 hQ (.inl ⟨hw, hy⟩) hS h
end
end Go.Proofs.Ytpabgkmjhcmonaa
