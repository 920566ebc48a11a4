/- Bytes in memory: what a slice of bytes reads as; append, conversion to a string, cutting. Over whatever program. No conditions beyond those that each states. · What a call leaves untouched, block by block (Apart), and append of bytes with the block that it may write. Over whatever program. No conditions beyond those that each states. · append of some bytes that were just laid into a block of their own, to a slice that the call owns. Over whatever program. No conditions beyond those that each states. · Rows of elements of several cells that the call owns: append to them, wherever the elements lie, nil let in. Over whatever program. No conditions beyond those that each states. · Rows of elements of so many cells each, in memory: where they lie (ItemsIn), their cells (itemsV), rows that a call owns. Over whatever program. No conditions beyond those that each states. · More on rows of elements that a call owns: cut, apart by their types; slices of them. Over whatever program. No conditions beyond those that each states. · A slice of the call's own that lies anywhere in a block of the call's own (Seg): its front and its tail, append to it, whatever room it has. Over whatever program. No conditions beyond those that each states. · A region that draws its order, whose last write breaks the condition under which its reads yield: the condition is asked of all worlds ahead of that write alone; each operation that is taken first must be one that the write waits for. No conditions. · Calls that only compute (they may draw orders). Over whatever program. No conditions beyond those that each states. · Ops, turns and results as they stand in memory. Of no program. No conditions beyond those that each states. · Lists whose elements hold bytes of the call's own, in slices of the call's own anywhere in their blocks (LIn); many of them side by side (Many). Over whatever program. No conditions beyond those that each states. · A row of records of which each holds a list of bytes and an age, in memory: reading, storing, what stays. Over whatever program. No conditions beyond those that each states. · Frames in memory: messages, records, a frame as a value (FrameIn). Over whatever program. No conditions. -/
import Derived.WalkKit
import Derived.Lib.Hide
import Derived.Outline
import Derived.OwnWalk
import Derived.Below
import Derived.Laws.BytesArg
import Derived.Laws.OwnMore
import Derived.Deep.AppendLies
import Derived.Laws.BitsAllLaws
import Derived.OneCell
import Derived.Deep.QuietTactic
import Derived.Deep.RegionLaw
import Derived.Maps.AppendAt
import Derived.Deep.RegionHeld3
import Derived.ArgAppend
import Derived.BigQuiet
import Derived.Test.YtemcgegickpdbaaGreatDoorSn01
namespace Go.Proofs.YtemcgegickpdbaaGreatDoor
open Go.RowKit

/-- A slice's bytes in memory, below block B. -/
def Bytes (w : World) (B : Nat) (A : Option Addr) (l : List UInt8) : Prop :=
  0 < l.length → ∃ b o, A = some ⟨b, o, none⟩ ∧ b < B ∧ ∀ i c, l[i]? = some c → w.cell? ⟨b, o + i, none⟩ = some (.int .u8 (c.toNat : Nat))

theorem Bytes.none_ {w : World} {B : Nat} {A : Option Addr} : Bytes w B A [] := fun h => absurd h (by simp)
theorem Bytes.keep {w w' : World} {B : Nat} {A : Option Addr} {l : List UInt8} (h : Bytes w B A l) (hk : ∀ p : Addr, p.block < B → w'.cell? p = w.cell? p) : Bytes w' B A l := fun hn => by
  obtain ⟨b, o, e, hb, hc⟩ := h hn
  exact ⟨b, o, e, hb, fun i c hi => (hk _ hb).trans (hc i c hi)⟩
theorem Bytes.more {w : World} {B B' : Nat} {A : Option Addr} {l : List UInt8} (h : Bytes w B A l) (hB : B ≤ B') : Bytes w B' A l := fun hn => by
  obtain ⟨b, o, e, hb, hc⟩ := h hn
  exact ⟨b, o, e, by omega, hc⟩
theorem Bytes.below {w w' : World} {B C : Nat} {A : Option Addr} {l : List UInt8} (h : Bytes w B A l) (hb : Below C w w') (hB : B ≤ C) : Bytes w' B A l := h.keep fun _ hp => hb.cell (by omega)
/-- The values of bytes. -/
def bytesV (l : List UInt8) : List Value := l.map fun c => .int .u8 (c.toNat : Nat)
theorem bytesV_length (l : List UInt8) : (bytesV l).length = l.length := by simp [bytesV]
theorem bytesV_append (x y : List UInt8) : bytesV (x ++ y) = bytesV x ++ bytesV y := by simp [bytesV]
theorem bytesV_at {l : List UInt8} {j : Nat} {u : Value} (h : (bytesV l)[j]? = some u) : ∃ c, l[j]? = some c ∧ u = .int .u8 (c.toNat : Nat) := by
  simp only [bytesV, List.getElem?_map] at h
  cases hc : l[j]? with
  | none => rw [hc] at h; cases h
  | some c => rw [hc] at h; exact ⟨c, rfl, (Option.some.inj h).symm⟩
theorem bytesV_one (l : List UInt8) : ∀ u ∈ bytesV l, u.oneCell' = true := by
  intro u hu
  simp only [bytesV, List.mem_map] at hu
  obtain ⟨c, _, rfl⟩ := hu
  rfl

theorem addr_addB (b o n : Nat) : (⟨b, o, none⟩ : Addr).add n = ⟨b, o + n, none⟩ := by
  unfold Addr.add
  split <;> simp_all
theorem addr_add0 (b n : Nat) : (⟨b, 0, none⟩ : Addr).add n = ⟨b, 0 + n, none⟩ := addr_addB b 0 n

/-- A slice of the call's own that holds bytes: how it reads. -/
theorem own_bytes {w : World} {base : Nat} {e : TypeId} {v : Value} {n : Nat} {l : List UInt8} (h : w.ownsRow base e 1 v n (bytesV l)) :
    ∃ A cap, v = .slice A n cap ∧ l.length = n ∧ n ≤ cap ∧ Bytes w w.heap.size A l ∧ (A = none ∨ ∃ g, A = some ⟨g, 0, none⟩ ∧ base ≤ g) := by
  have hl : l.length = n := by have := h.1; rw [bytesV_length] at this; omega
  rcases h.2 with ⟨rfl, rfl⟩ | ⟨g, cap, cur, rfl, hb, hg, hnc, _, hsz, hx⟩
  · obtain rfl := List.eq_nil_of_length_eq_zero hl
    exact ⟨none, 0, rfl, rfl, Nat.le_refl _, Bytes.none_, .inl rfl⟩
  · refine ⟨some ⟨g, 0, none⟩, cap, rfl, hl, hnc, fun hn => ⟨g, 0, rfl, (Array.getElem?_eq_some_iff.1 hg).1, fun i c hi => ?_⟩, .inr ⟨g, rfl, hb⟩⟩
    have hv : (bytesV l)[i]? = some (.int .u8 (c.toNat : Nat)) := by simp [bytesV, hi]
    have := World.ownsRow.cells h (g := g) (by simp [Value.ownBlock]) i _ hv
    rwa [addr_add0] at this

section
variable {P : Program}

end
end Go.Proofs.YtemcgegickpdbaaGreatDoor
namespace Go.Proofs.YtemcgegickpdbaaGreatDoor
open Go.RowKit

/-- Of the blocks of w those outside F are as they were. -/
structure Apart (F : Nat → Prop) (w w' : World) : Prop where
  os : w'.os = w.os
  tape : w'.tape = w.tape
  output : w'.output = w.output
  size : w.heap.size ≤ w'.heap.size
  block : ∀ k, k < w.heap.size → ¬ F k → w'.heap[k]? = w.heap[k]?

theorem Apart.refl (F : Nat → Prop) (w : World) : Apart F w w := ⟨rfl, rfl, rfl, Nat.le_refl _, fun _ _ _ => rfl⟩
theorem Apart.trans {F G : Nat → Prop} {a b c : World} (h : Apart F a b) (k : Apart G b c) (hG : ∀ i, G i → F i ∨ a.heap.size ≤ i) : Apart F a c :=
  ⟨k.os.trans h.os, k.tape.trans h.tape, k.output.trans h.output, Nat.le_trans h.size k.size, fun i hi hF =>
    (k.block i (Nat.lt_of_lt_of_le hi h.size) (fun hg => by rcases hG i hg with h1 | h1; exact hF h1; omega)).trans (h.block i hi hF)⟩
theorem Apart.mono {F G : Nat → Prop} {a b : World} (h : Apart F a b) (hG : ∀ i, i < a.heap.size → F i → G i) : Apart G a b :=
  ⟨h.os, h.tape, h.output, h.size, fun i hi hg => h.block i hi (fun hf => hg (hG i hi hf))⟩
theorem Apart.drew {F : Nat → Prop} {a w : World} (h : Apart F a w) : Apart F a w.drew := ⟨h.os, h.tape, h.output, h.size, h.block⟩
theorem Apart.alloc {F : Nat → Prop} {a w : World} (h : Apart F a w) (o : Obj) : Apart F a (w.alloc o) :=
  h.trans (G := fun _ => False) ⟨rfl, rfl, rfl, by simp, fun k hk _ => Below.heap_alloc _ _ _ hk⟩ (fun _ h => h.elim)
theorem Apart.setCell {F : Nat → Prop} {a w : World} (h : Apart F a w) {p : Addr} (hp : F p.block ∨ a.heap.size ≤ p.block) (u : Value) : Apart F a (w.setCell p u) :=
  h.trans (G := fun k => k = p.block) ⟨rfl, rfl, rfl, by simp [World.setCell], fun k _ hk => Below.heap_setCell _ _ _ _ hk⟩ (fun _ e => by subst e; exact hp)
theorem Apart.grown {F : Nat → Prop} {a w w' : World} {row : Option Nat} (h : Apart F a w) (hg : w.grownBy w' row) (hr : ∀ k, row = some k → F k ∨ a.heap.size ≤ k) : Apart F a w' :=
  h.trans (G := fun k => row = some k) ⟨hg.os, hg.tape, hg.output, hg.size, fun k hk hn => hg.block k hk (fun e => hn e.symm)⟩ hr
theorem Apart.below {F : Nat → Prop} {a w : World} {B : Nat} (h : Apart F a w) (hB : B ≤ a.heap.size) (hF : ∀ k, F k → B ≤ k) : Below B a w :=
  ⟨h.os, h.tape, h.output, h.size, fun k hk => h.block k (by omega) (fun hf => by have := hF k hf; omega)⟩
theorem Apart.of_below {F : Nat → Prop} {a w : World} {B : Nat} (h : Below B a w) (hB : ∀ k, B ≤ k → k < a.heap.size → F k) : Apart F a w :=
  ⟨h.os, h.tape, h.output, h.size, fun k hk hf => h.block k (Nat.lt_of_not_le fun hb => hf (hB k hb hk))⟩
theorem Apart.of_below' {F : Nat → Prop} {a w : World} (h : Below a.heap.size a w) : Apart F a w := Apart.of_below h fun k h1 h2 => by omega
theorem Apart.cell {F : Nat → Prop} {a w : World} (h : Apart F a w) {p : Addr} (hp : p.block < a.heap.size) (hF : ¬ F p.block) : w.cell? p = a.cell? p := World.cell?_of_block (w := a) (h.block p.block hp hF)

/-- The block that a slice's elements lie in. -/
def blockOf : Option Addr → Option Nat
  | some a => some a.block
  | none => none

theorem Bytes.apart {w w' : World} {B : Nat} {A : Option Addr} {l : List UInt8} {F : Nat → Prop} (h : Bytes w B A l) (ha : Apart F w w') (hB : B ≤ w.heap.size) (hF : ∀ k, blockOf A = some k → ¬ F k) : Bytes w' B A l := fun hn => by
  obtain ⟨b, o, e, hb, hc⟩ := h hn
  exact ⟨b, o, e, hb, fun i c hi => (ha.cell (p := ⟨b, o + i, none⟩) (by simp; omega) (hF b (by simp [e, blockOf]))).trans (hc i c hi)⟩

theorem Bytes.apart0 {w w' : World} {B : Nat} {A : Option Addr} {l : List UInt8} {F : Nat → Prop} (h : Bytes w B A l) (ha : Apart F w w') (hB : B ≤ w.heap.size) (hF : 0 < l.length → ∀ k, blockOf A = some k → ¬ F k) : Bytes w' B A l := fun hn => h.apart ha hB (hF hn) hn

/-- A slice of the call's own that holds bytes; g: its block. -/
def Row (w : World) (B : Nat) (e : TypeId) (g : Option Nat) (v : Value) (l : List UInt8) : Prop :=
  v.ownBlock = g ∧ w.ownsRow B e 1 v l.length (bytesV l)
/-- The block that a slice of the call's own lies in behind an append: the one it had, or a new one. -/
def Moved (w : World) (g g' : Option Nat) : Prop := g' = g ∨ ∃ k, g' = some k ∧ w.heap.size ≤ k

theorem Moved.refl (w : World) (g : Option Nat) : Moved w g g := .inl rfl
section
variable {P : Program}

theorem append_block {w : World} (base : Nat) (t ty e : TypeId) (i : TypeInfo) (z : Value) (bytes : Nat) (ht : P.underlying t = some (.slice e)) (hi : P.info? e = some i) (hz : i.zero = some z)
    (hsize : i.size = 1) (hby : i.bytes = bytes) (v : Value) (n : Nat) (xs : List Value) (hown : w.ownsRow base e 1 v n xs)
    (a : Addr) (m c : Nat) (news : List Value) (hl : news.length = m) (hnews : ∀ j u, news[j]? = some u → w.cell? (a.add j) = some u) (h1 : ∀ u ∈ news, u.oneCell' = true)
    (h63 : n + m ≤ maxLen) (hbytes : (n + m) * bytes ≤ 140737488355328) {v' : Value} {w' : World}
    (hr : (Builtin.append_ #[t, t] ty #[v, .slice (some a) m c]).run P w = .ok v' w') (hm0 : v' = .slice none 0 0 ↔ v = .slice none 0 0 ∧ m = 0) : v'.ownBlock = v.ownBlock ∨ v'.ownBlock = some w.heap.size := by
  have hsmall : n + m ≤ 9223372036854775807 := by simp only [maxLen] at h63; omega
  rcases hown.2 with ⟨rfl, rfl⟩ | ⟨g, cap, cur, rfl, hbg, hg, hnc, hcm, hcs, htake⟩
  · by_cases hm : m = 0
    · exact .inl (by rw [hm0.2 ⟨rfl, hm⟩])
    · have hr2 := run_append_nil (P := P) w t ty e i z ht hi hz a m c news (by rw [hsize]; omega) hnews (by omega) (by omega) (by rw [hby]; have hb := hbytes; simp only [Nat.zero_add] at hb; omega)
      obtain ⟨rfl, -⟩ := Result.ok.inj (hr.symm.trans hr2)
      exact .inr rfl
  · by_cases hroom : n + m ≤ cap
    · have hr2 := run_append_room (P := P) w t ty e i ht hi g n cap cur hg a m c news (by rw [hsize]; omega) hnews h1 hroom (by rw [hsize, hl, hcs]; omega)
      obtain ⟨rfl, -⟩ := Result.ok.inj (hr.symm.trans hr2)
      exact .inl rfl
    · have hr2 := run_append_grow (P := P) w t ty e i z ht hi hz ⟨g, 0, none⟩ n cap xs (by rw [hsize]; exact hown.1) (hown.cells (g := g) rfl) a m c news (by rw [hsize]; omega) hnews (by omega) (by omega) (by rw [hby]; exact growslice_fits (by omega) hbytes)
      obtain ⟨rfl, -⟩ := Result.ok.inj (hr.symm.trans hr2)
      exact .inr rfl

/-- append of bytes, wherever they lie, to a slice that the call owns: what is written, and where it lies then. -/
theorem wp_append_r {w0 : World} {o : Oper} {a : Act} {K : Act → World → Prop} {Q : Exit → Act → World → Prop} (s x : Operand) (t : TypeId)
    (ho : o.op = .call { callee := .builtin .append, args := #[s, x], argTypes := #[t, t] }) (B : Nat) (e : TypeId) (z : Value)
    (ht : P.underlying t = some (.slice e)) (hinfo : (P.info? e).map (fun i => (i.zero, i.size, i.bytes)) = some (some z, 1, 1)) (hzs : z.cells.size = 1)
    (v : Value) (g : Option Nat) (xs : List UInt8) (hs : a.eval s = v) (hown : Row w0 B e g v xs) (C : Nat) (A : Option Addr) (m c : Nat) (l : List UInt8) (hx : a.eval x = .slice A m c) (hm : l.length = m) (hr : Bytes w0 C A l)
    (hn : xs.length + m ≤ 140737488355328) (hB : B ≤ w0.heap.size)
    (h : ∀ v' w' g', Row w' B e g' v' (xs ++ l) → Moved w0 g g' → Apart (fun k => g = some k) w0 w' → K (a.put o.dst v') w') :
    o.wp P a w0 K Q := by
  obtain ⟨i, hi, hz, hsize, hbytes⟩ := info_parts hinfo
  obtain ⟨hg, hown⟩ := hown
  subst hg
  rcases A with _ | ad
  · have h0 : m = 0 := by
      rcases Nat.eq_zero_or_pos m with h0 | h0
      · exact h0
      · obtain ⟨_, _, h, _⟩ := hr (by omega)
        cases h
    subst h0
    obtain rfl := List.eq_nil_of_length_eq_zero hm
    have hrun : (Builtin.append_ #[t, t] o.type #[v, .slice none 0 c]).run P w0 = .ok v w0 := by
      rcases hown.2 with ⟨rfl, -⟩ | ⟨g, cap, cur, rfl, _, _, hnc, _⟩
      · simp [Builtin.append_, run_underlying ht, sizeOf, typeInfo, hi, Builtin.lenOf, Builtin.firstCells]
      · simp [Builtin.append_, run_underlying ht, sizeOf, typeInfo, hi, Builtin.lenOf, Builtin.firstCells, hnc, storeCells]
    unfold Oper.wp execOp
    simp only [ho, resolve, invoke, builtin, Sem.run_bind, Sem.run_pure, Result.andThen_ok, List.map_toArray, List.map_cons, List.map_nil, hs, hx, hrun]
    exact h v w0 v.ownBlock (by rw [List.append_nil]; exact ⟨rfl, hown⟩) (Moved.refl _ _) (Apart.refl _ _)
  · have hnews : ∀ j u, (bytesV l)[j]? = some u → w0.cell? (ad.add j) = some u := by
      intro j u hj
      obtain ⟨b, hb, rfl⟩ := bytesV_at hj
      obtain ⟨g, of, e1, _, hc⟩ := hr (by have := (List.getElem?_eq_some_iff.1 hb).1; omega)
      injection e1 with e1
      subst e1
      rw [addr_addB]
      exact hc j b hb
    have h63 : xs.length + m ≤ maxLen := by unfold maxLen; omega
    have hby : (xs.length + m) * 1 ≤ 140737488355328 := by omega
    obtain ⟨v', w', hrun, h2, h3, h4⟩ := run_append_own (P := P) w0 B t o.type e i z 1 1 ht hi hz hsize hbytes hzs (by decide) v xs.length (bytesV xs) hown ad m c (bytesV l) (by rw [bytesV_length]; omega) hnews (bytesV_one l) h63 hby hB
    have hblk := append_block (P := P) B t o.type e i z 1 ht hi hz hsize hbytes v xs.length (bytesV xs) hown ad m c (bytesV l) (by rw [bytesV_length]; omega) hnews (bytesV_one l) h63 hby hrun h4
    unfold Oper.wp execOp
    simp only [ho, resolve, invoke, builtin, Sem.run_bind, Sem.run_pure, Result.andThen_ok, List.map_toArray, List.map_cons, List.map_nil, hs, hx, hrun]
    refine h v' w' v'.ownBlock ⟨rfl, ?_⟩ ?_ ?_
    · rw [bytesV_append, List.length_append, hm]; exact h2
    · rcases hblk with e1 | e1
      · exact .inl e1
      · exact .inr ⟨_, e1, Nat.le_refl _⟩
    · exact (Apart.refl _ _).grown h3 fun k hk => .inl hk

theorem wpList_append_r {w0 : World} {ops : Array Oper} {rest : List Oper} {o : Oper} {a : Act} {Q : Exit → Act → World → Prop} (hgd : o.guard = none) (s x : Operand) (t : TypeId)
    (ho : o.op = .call { callee := .builtin .append, args := #[s, x], argTypes := #[t, t] }) (B : Nat) (e : TypeId) (z : Value)
    (ht : P.underlying t = some (.slice e)) (hinfo : (P.info? e).map (fun i => (i.zero, i.size, i.bytes)) = some (some z, 1, 1)) (hzs : z.cells.size = 1)
    (v : Value) (g : Option Nat) (xs : List UInt8) (hs : a.eval s = v) (hown : Row w0 B e g v xs) (C : Nat) (A : Option Addr) (m c : Nat) (l : List UInt8) (hx : a.eval x = .slice A m c) (hm : l.length = m) (hr : Bytes w0 C A l)
    (hn : xs.length + m ≤ 140737488355328) (hB : B ≤ w0.heap.size)
    (h : ∀ v' w' g', Row w' B e g' v' (xs ++ l) → Moved w0 g g' → Apart (fun k => g = some k) w0 w' → wpList P ops Q rest (a.put o.dst v') w') :
    wpList P ops Q (o :: rest) a w0 :=
  wpList_plain hgd fun _ hK => wp_append_r s x t ho B e z ht hinfo hzs v g xs hs hown C A m c l hx hm hr hn hB fun v' w' g' h1 h2 h3 => hK _ _ (h v' w' g' h1 h2 h3)

end
end Go.Proofs.YtemcgegickpdbaaGreatDoor
namespace Go.Proofs.YtemcgegickpdbaaGreatDoor
open Go.RowKit

section
variable {P : Program}
end
end Go.Proofs.YtemcgegickpdbaaGreatDoor
namespace Go.Proofs.YtemcgegickpdbaaGreatDoor
open Go.RowKit

theorem own_slice {w : World} {B : Nat} {e : TypeId} {size n : Nat} {v : Value} {xs : List Value} (h : w.ownsRow B e size v n xs) : ∃ A cap, v = .slice A n cap ∧ n ≤ cap := by
  rcases h.2 with ⟨rfl, rfl⟩ | ⟨g, cap, cur, rfl, _, _, hnc, _⟩
  · exact ⟨_, _, rfl, Nat.le_refl _⟩
  · exact ⟨_, _, rfl, hnc⟩
theorem ownBlock_slice (A : Option Addr) (n cap : Nat) : (Value.slice A n cap).ownBlock = blockOf A := by cases A <;> rfl
theorem own_apart {w w' : World} {B : Nat} {e : TypeId} {size n : Nat} {v : Value} {xs : List Value} {F : Nat → Prop} (h : w.ownsRow B e size v n xs) (ha : Apart F w w') (hF : ∀ k, v.ownBlock = some k → ¬ F k) : w'.ownsRow B e size v n xs := by
  refine ⟨h.1, ?_⟩
  rcases h.2 with hn | ⟨b, cap, cur, rfl, hb, hgg, rest⟩
  · exact .inl hn
  · refine .inr ⟨b, cap, cur, rfl, hb, ?_, rest⟩
    rw [ha.block b (Array.getElem?_eq_some_iff.1 hgg).1 (hF b rfl)]
    exact hgg

theorem cell_at {w : World} {b : Nat} {cs : Array Value} {t : TypeId} (h : w.heap[b]? = some (.cells cs t (0, 0))) (i : Nat) {v : Value} (hv : cs[i]? = some v) : w.cell? ⟨b, i, none⟩ = some v := by
  unfold World.cell?
  simp only [h]
  exact hv
theorem free_at {w : World} {b : Nat} {cs : Array Value} {t : TypeId} (h : w.heap[b]? = some (.cells cs t (0, 0))) (i : Nat) : w.frozen? ⟨b, i, none⟩ = false := by
  simp [World.frozen?, h]
/-- Stores one behind the other, into the cells of a block. -/
def storeAll (w : World) (b : Nat) : List Value → Nat → World
  | [], _ => w
  | v :: r, i => storeAll (w.setCell ⟨b, i, none⟩ v) b r (i + 1)
theorem storeAll_heap {b : Nat} {t : TypeId} : ∀ (vs : List Value) (i : Nat) (w : World) (pre rest : List Value), w.heap[b]? = some (.cells (pre ++ rest).toArray t (0, 0)) → pre.length = i → rest.length = vs.length →
    (storeAll w b vs i).heap[b]? = some (.cells (pre ++ vs).toArray t (0, 0))
  | [], i, w, pre, rest, h, _, h2 => by
    obtain rfl : rest = [] := List.eq_nil_of_length_eq_zero (by simpa using h2)
    exact h
  | v :: vs, i, w, pre, [], h, _, h2 => by simp at h2
  | v :: vs, i, w, pre, r :: rest, h, h1, h2 => by
    have h3 := heap_setCell_same w b i _ t v h
    have h4 := storeAll_heap (t := t) vs (i + 1) (w.setCell ⟨b, i, none⟩ v) (pre ++ [v]) rest (by
      rw [h3]
      subst h1
      simp) (by simp [h1]) (by simpa using h2)
    simpa [storeAll] using h4
theorem storeAll_apart (b : Nat) : ∀ (vs : List Value) (i : Nat) (w : World), Apart (fun k => k = b) w (storeAll w b vs i)
  | [], _, _ => Apart.refl _ _
  | v :: vs, i, w => (Apart.setCell (F := fun k => k = b) (Apart.refl _ w) (p := ⟨b, i, none⟩) (.inl rfl) v).trans (storeAll_apart b vs (i + 1) _) (fun _ h => .inl h)

section
variable {P : Program}
theorem wp_append_s {w0 : World} {o : Oper} {a : Act} {K : Act → World → Prop} {Q : Exit → Act → World → Prop} (s x : Operand) (t : TypeId)
    (ho : o.op = .call { callee := .builtin .append, args := #[s, x], argTypes := #[t, t] }) (B : Nat) (e : TypeId) (z : Value) (size bytes : Nat)
    (ht : P.underlying t = some (.slice e)) (hinfo : (P.info? e).map (fun i => (i.zero, i.size, i.bytes)) = some (some z, size, bytes)) (hzs : z.cells.size = size) (hsz : 0 < size)
    (v : Value) (n : Nat) (xs : List Value) (hs : a.eval s = v) (hown : w0.ownsRow B e size v n xs) (A : Option Addr) (m c : Nat) (news : List Value) (hx : a.eval x = .slice A m c) (hl : news.length = m * size)
    (hnews : 0 < m → ∃ ad, A = some ad ∧ ∀ j u, news[j]? = some u → w0.cell? (ad.add j) = some u) (h1 : ∀ u ∈ news, u.oneCell' = true)
    (h63 : n + m ≤ maxLen) (hbytes : (n + m) * bytes ≤ 140737488355328) (hB : B ≤ w0.heap.size)
    (h : ∀ v' w', w'.ownsRow B e size v' (n + m) (xs ++ news) → Apart (fun k => v.ownBlock = some k) w0 w' → (v'.ownBlock = v.ownBlock ∨ v'.ownBlock = some w0.heap.size) → K (a.put o.dst v') w') :
    o.wp P a w0 K Q := by
  obtain ⟨i, hi, hz, hsize, hby⟩ := info_parts hinfo
  rcases Nat.eq_zero_or_pos m with h0 | h0
  · subst h0
    obtain rfl : news = [] := List.eq_nil_of_length_eq_zero (by omega)
    rcases A with _ | ad
    · have hrun : (Builtin.append_ #[t, t] o.type #[v, .slice none 0 c]).run P w0 = .ok v w0 := by
        rcases hown.2 with ⟨rfl, rfl⟩ | ⟨g, cap, cur, rfl, _, _, hnc, _⟩
        · simp [Builtin.append_, run_underlying ht, sizeOf, typeInfo, hi, Builtin.lenOf, Builtin.firstCells]
        · simp [Builtin.append_, run_underlying ht, sizeOf, typeInfo, hi, Builtin.lenOf, Builtin.firstCells, hnc, storeCells]
      unfold Oper.wp execOp
      simp only [ho, resolve, invoke, builtin, Sem.run_bind, Sem.run_pure, Result.andThen_ok, List.map_toArray, List.map_cons, List.map_nil, hs, hx, hrun]
      exact h v w0 (by simpa using hown) (Apart.refl _ _) (.inl rfl)
    · obtain ⟨v', w', hrun, h2, h3, _, h5⟩ := run_append_own_at (P := P) w0 B t o.type e i z size bytes ht hi hz hsize hby hzs hsz v n xs hown ad 0 c [] hl (by simp) (by simp) h63 hbytes hB
      unfold Oper.wp execOp
      simp only [ho, resolve, invoke, builtin, Sem.run_bind, Sem.run_pure, Result.andThen_ok, List.map_toArray, List.map_cons, List.map_nil, hs, hx, hrun]
      exact h v' w' h2 ((Apart.refl _ _).grown h3 fun k hk => .inl hk) h5
  · obtain ⟨ad, rfl, hcells⟩ := hnews h0
    obtain ⟨v', w', hrun, h2, h3, _, h5⟩ := run_append_own_at (P := P) w0 B t o.type e i z size bytes ht hi hz hsize hby hzs hsz v n xs hown ad m c news hl hcells h1 h63 hbytes hB
    unfold Oper.wp execOp
    simp only [ho, resolve, invoke, builtin, Sem.run_bind, Sem.run_pure, Result.andThen_ok, List.map_toArray, List.map_cons, List.map_nil, hs, hx, hrun]
    exact h v' w' h2 ((Apart.refl _ _).grown h3 fun k hk => .inl hk) h5
theorem wpList_append_s {w0 : World} {ops : Array Oper} {rest : List Oper} {o : Oper} {a : Act} {Q : Exit → Act → World → Prop} (hgd : o.guard = none) (s x : Operand) (t : TypeId)
    (ho : o.op = .call { callee := .builtin .append, args := #[s, x], argTypes := #[t, t] }) (B : Nat) (e : TypeId) (z : Value) (size bytes : Nat)
    (ht : P.underlying t = some (.slice e)) (hinfo : (P.info? e).map (fun i => (i.zero, i.size, i.bytes)) = some (some z, size, bytes)) (hzs : z.cells.size = size) (hsz : 0 < size)
    (v : Value) (n : Nat) (xs : List Value) (hs : a.eval s = v) (hown : w0.ownsRow B e size v n xs) (A : Option Addr) (m c : Nat) (news : List Value) (hx : a.eval x = .slice A m c) (hl : news.length = m * size)
    (hnews : 0 < m → ∃ ad, A = some ad ∧ ∀ j u, news[j]? = some u → w0.cell? (ad.add j) = some u) (h1 : ∀ u ∈ news, u.oneCell' = true)
    (h63 : n + m ≤ maxLen) (hbytes : (n + m) * bytes ≤ 140737488355328) (hB : B ≤ w0.heap.size)
    (h : ∀ v' w', w'.ownsRow B e size v' (n + m) (xs ++ news) → Apart (fun k => v.ownBlock = some k) w0 w' → (v'.ownBlock = v.ownBlock ∨ v'.ownBlock = some w0.heap.size) → wpList P ops Q rest (a.put o.dst v') w') :
    wpList P ops Q (o :: rest) a w0 :=
  wpList_plain hgd fun _ hK => wp_append_s s x t ho B e z size bytes ht hinfo hzs hsz v n xs hs hown A m c news hx hl hnews h1 h63 hbytes hB fun v' w' h1 h2 h3 => hK _ _ (h v' w' h1 h2 h3)
end
end Go.Proofs.YtemcgegickpdbaaGreatDoor
namespace Go.Proofs.YtemcgegickpdbaaGreatDoor
open Go.RowKit

/-- Elements of so many cells each, in memory. -/
def ItemsIn {α : Type} (vals : α → List Value) (size : Nat) (W : World) (A : Option Addr) (l : List α) : Prop :=
  0 < l.length → ∃ b off, A = some ⟨b, off, none⟩ ∧ b < W.heap.size ∧ ∀ i x, l[i]? = some x → ∀ j u, (vals x)[j]? = some u → W.cell? ⟨b, off + i * size + j, none⟩ = some u
theorem ItemsIn.apart {α : Type} {vals : α → List Value} {size : Nat} {W W' : World} {A : Option Addr} {l : List α} {F : Nat → Prop} (h : ItemsIn vals size W A l) (ha : Apart F W W') (hF : 0 < l.length → ∀ k, blockOf A = some k → ¬ F k) : ItemsIn vals size W' A l := fun hl => by
  obtain ⟨b, off, e, hb, hi⟩ := h hl
  have hn := hF hl b (by rw [e]; rfl)
  exact ⟨b, off, e, Nat.lt_of_lt_of_le hb ha.size, fun i x hx j u hu => (ha.cell (p := ⟨b, _, none⟩) hb hn).trans (hi i x hx j u hu)⟩
theorem ItemsIn.below {α : Type} {vals : α → List Value} {size : Nat} {W W' : World} {A : Option Addr} {l : List α} (h : ItemsIn vals size W A l) (hw : Below W.heap.size W W') : ItemsIn vals size W' A l :=
  h.apart (F := fun _ => False) (Apart.of_below' hw) (fun _ _ _ h => h)
/-- A row's cells. -/
def itemsV {α : Type} (vals : α → List Value) (l : List α) : List Value := l.flatMap vals
theorem itemsV_append {α : Type} (vals : α → List Value) (l r : List α) : itemsV vals (l ++ r) = itemsV vals l ++ itemsV vals r := by simp [itemsV]
theorem itemsV_one' {α : Type} (vals : α → List Value) (x : α) : itemsV vals [x] = vals x := by simp [itemsV]
theorem itemsV_length {α : Type} {vals : α → List Value} {size : Nat} (hs : ∀ x, (vals x).length = size) : ∀ (l : List α), (itemsV vals l).length = l.length * size
  | [] => by simp [itemsV]
  | x :: l => by
    have := itemsV_length hs l
    simp only [itemsV, List.flatMap_cons, List.length_append, List.length_cons] at this ⊢
    rw [this, hs, Nat.succ_mul, Nat.add_comm]
theorem itemsV_at {α : Type} {vals : α → List Value} {size : Nat} (hs : ∀ x, (vals x).length = size) : ∀ (l : List α) (i : Nat) (x : α), l[i]? = some x → ∀ j, j < size → (itemsV vals l)[i * size + j]? = (vals x)[j]?
  | [], i, x, h => by simp at h
  | y :: l, 0, x, h => by
    simp at h
    subst h
    intro j hj
    simp only [itemsV, List.flatMap_cons, Nat.zero_mul, Nat.zero_add]
    rw [List.getElem?_append_left (by rw [hs]; exact hj)]
  | y :: l, i + 1, x, h => by
    intro j hj
    have h1 := itemsV_at hs l i x (by simpa using h) j hj
    have e1 : (i + 1) * size + j = size + (i * size + j) := by rw [Nat.succ_mul]; omega
    rw [e1, ← h1]
    simp only [itemsV, List.flatMap_cons]
    rw [List.getElem?_append_right (by rw [hs]; omega), hs, Nat.add_sub_cancel_left]
theorem itemsV_oneCell {α : Type} {vals : α → List Value} (h1 : ∀ x, ∀ u ∈ vals x, u.oneCell' = true) (l : List α) : ∀ u ∈ itemsV vals l, u.oneCell' = true := by
  intro u hu
  simp only [itemsV, List.mem_flatMap] at hu
  obtain ⟨x, _, hx⟩ := hu
  exact h1 x u hx
/-- The cells, out of where they lie: to be appended. -/
theorem ItemsIn.news {α : Type} {vals : α → List Value} {size : Nat} (hs : ∀ x, (vals x).length = size) (hz : 0 < size) {W : World} {A : Option Addr} {l : List α} (h : ItemsIn vals size W A l) (hn : 0 < l.length) : ∃ ad, A = some ad ∧ ∀ j u, (itemsV vals l)[j]? = some u → W.cell? (ad.add j) = some u := by
  obtain ⟨b, off, rfl, _, hi⟩ := h hn
  refine ⟨_, rfl, fun j u hj => ?_⟩
  rw [addr_addB]
  have hlt : j < (itemsV vals l).length := (List.getElem?_eq_some_iff.1 hj).1
  rw [itemsV_length hs] at hlt
  have hd : j / size < l.length := Nat.div_lt_of_lt_mul (by rw [Nat.mul_comm]; exact hlt)
  have hm : j % size < size := Nat.mod_lt _ hz
  have hx : l[j / size]? = some (l[j / size]'hd) := List.getElem?_eq_getElem hd
  have h1 := itemsV_at hs l (j / size) _ hx (j % size) hm
  have ej : j / size * size + j % size = j := by rw [Nat.mul_comm]; exact Nat.div_add_mod j size
  rw [ej] at h1
  have h2 := hi _ _ hx (j % size) u (by rw [← h1]; exact hj)
  rw [Nat.add_assoc, ej] at h2
  exact h2
/-- Out of a row that the call owns. -/
theorem ItemsIn.own {α : Type} {vals : α → List Value} {size : Nat} (hs : ∀ x, (vals x).length = size) {W : World} {B : Nat} {e : TypeId} {v : Value} {l : List α} (h : W.ownsRow B e size v l.length (itemsV vals l)) : ∃ A cap, v = .slice A l.length cap ∧ l.length ≤ cap ∧ ItemsIn vals size W A l := by
  rcases h.2 with ⟨rfl, h0⟩ | ⟨g, cap, cur, rfl, hb, hg, hnc, _⟩
  · rw [h0]
    exact ⟨none, 0, rfl, Nat.le_refl _, fun hn => by omega⟩
  · refine ⟨_, cap, rfl, hnc, fun hn => ⟨g, 0, rfl, (Array.getElem?_eq_some_iff.1 hg).1, fun i x hx j u hu => ?_⟩⟩
    have hi : i < l.length := (List.getElem?_eq_some_iff.1 hx).1
    have hj : j < size := by rw [← hs x]; exact (List.getElem?_eq_some_iff.1 hu).1
    have h1 := itemsV_at hs l i x hx j hj
    have hlt : i * size + j < l.length * size := by
      have : (i + 1) * size ≤ l.length * size := Nat.mul_le_mul_right _ hi
      rw [Nat.succ_mul] at this
      omega
    rw [Nat.zero_add, World.ownsRow.cellAt h _ hlt, h1]
    exact hu
/-- An element's cells, just laid. -/
theorem laid_at (w : World) (t : TypeId) (cs : List Value) (N : Nat) (hN : N = w.heap.size) : ∀ j u, cs[j]? = some u → (w.alloc (.cells cs.toArray t)).cell? ((⟨N, 0, none⟩ : Addr).add j) = some u := by
  subst hN
  intro j u hj
  rw [addr_add0, Nat.zero_add]
  exact cell_at (heap_alloc_new w _) j (by simpa using hj)

end Go.Proofs.YtemcgegickpdbaaGreatDoor
namespace Go.Proofs.YtemcgegickpdbaaGreatDoor
open Go.RowKit

/-- A row lies in no block of another type. -/
theorem own_off {W : World} {B e size n T : Nat} {v : Value} {xs : List Value} {cs : Array Value} {t : TypeId} (h : W.ownsRow B e size v n xs) (hT : W.heap[T]? = some (.cells cs t (0, 0))) (hne : e ≠ t) (q : Nat) (hq : v.ownBlock = some q) : q ≠ T := fun e1 => by
  subst e1
  rcases h.2 with ⟨rfl, -⟩ | ⟨g, cap, cur, rfl, -, hg, -⟩
  · simp [Value.ownBlock] at hq
  · simp [Value.ownBlock] at hq
    subst hq
    rw [hT] at hg
    simp at hg
    exact hne hg.2.symm
theorem own_tag6 {w : World} {B B' e e' size size' n n' : Nat} {v v' : Value} {xs xs' : List Value} (h : w.ownsRow B e size v n xs) (h' : w.ownsRow B' e' size' v' n' xs') (hne : e ≠ e') (q : Nat) (hq : v.ownBlock = some q) : v'.ownBlock ≠ some q := fun hq' => by
  rcases h'.2 with ⟨rfl, -⟩ | ⟨g, cap, cur, rfl, -, hg, -⟩
  · simp [Value.ownBlock] at hq'
  · simp [Value.ownBlock] at hq'
    subst hq'
    exact own_off h hg hne _ hq rfl
section
variable {P : Program}
/-- s[lo:], of elements of so many cells each. -/
theorem run_slice_froms (W : World) (t e : TypeId) (sz : Nat) (ht : P.underlying t = some (.slice e)) (hz : ∀ w, (Go.sizeOf e).run P w = .ok sz w) (b o : Nat) (len cap : Nat) (lo : Int) (k : Nat) (hlo : lo = k) (h1 : k ≤ len) :
    (Instr.slice t (.slice (some ⟨b, o, none⟩) len cap) (some (.int .i64 lo)) none none).run P W = .ok (.slice (some (if cap = k then ⟨b, o, none⟩ else ⟨b, o + k * sz, none⟩)) (len - k) (cap - k)) W := by
  subst hlo
  have ht' : P.underlying t = some (.slice (P.elem t)) := by simp [Program.elem, ht]
  have he : P.elem t = e := by simp [Program.elem, ht]
  rw [run_slice_l W t _ _ _ ht' .i64 _ (by omega) (by omega), he, hz]
  have ha : (⟨b, o, none⟩ : Addr).add (k * sz) = ⟨b, o + k * sz, none⟩ := addr_addB b o (k * sz)
  simp only [Result.andThen, sliced, Int.toNat_natCast]
  by_cases h : cap = k
  · rw [if_pos h, if_pos h]
  · rw [if_neg h, if_neg h]
    simp [ha]
/-- s[:h], of elements of so many cells each. -/
theorem run_slice_front (W : World) (t e : TypeId) (sz : Nat) (ht : P.underlying t = some (.slice e)) (hz : ∀ w, (Go.sizeOf e).run P w = .ok sz w) (A : Option Addr) (len cap : Nat) (h : Int) (k : Nat) (hk : h = k) (h2 : k ≤ cap) :
    (Instr.slice t (.slice A len cap) none (some (.int .i64 h)) none).run P W = .ok (.slice A k cap) W := by
  subst hk
  have ht' : P.underlying t = some (.slice (P.elem t)) := by simp [Program.elem, ht]
  have he : P.elem t = e := by simp [Program.elem, ht]
  rw [run_slice_h W t _ _ _ ht' .i64 _ (by omega) (by omega), he, hz]
  have ha : A.map (fun x : Addr => x.add (0 * sz)) = A := by cases A <;> simp [Addr.add]
  simp only [Result.andThen, sliced, Nat.sub_zero, Int.toNat_natCast]
  rw [ha]
  split <;> rfl
theorem step_append_m {w0 : World} {ops : Array Oper} {o : Oper} {a : Act} {K : Act → World → Prop} {Q : Exit → Act → World → Prop} {E : Prop} (hgd : o.guard = none) (s x : Operand) (t : TypeId)
    (ho : o.op = .call { callee := .builtin .append, args := #[s, x], argTypes := #[t, t] }) (B : Nat) (e : TypeId) (z : Value) (size bytes : Nat)
    (ht : P.underlying t = some (.slice e)) (hinfo : (P.info? e).map (fun i => (i.zero, i.size, i.bytes)) = some (some z, size, bytes)) (hzs : z.cells.size = size) (hsz : 0 < size)
    (v : Value) (n : Nat) (xs : List Value) (hs : a.eval s = v) (hown : w0.ownsRow B e size v n xs) (A : Option Addr) (m c : Nat) (news : List Value) (hx : a.eval x = .slice A m c) (hl : news.length = m * size)
    (hnews : 0 < m → ∃ ad, A = some ad ∧ ∀ j u, news[j]? = some u → w0.cell? (ad.add j) = some u) (h1 : ∀ u ∈ news, u.oneCell' = true)
    (h63 : n + m ≤ maxLen) (hbytes : (n + m) * bytes ≤ 140737488355328) (hB : B ≤ w0.heap.size)
    (h : ∀ v' w', w'.ownsRow B e size v' (n + m) (xs ++ news) → Apart (fun k => v.ownBlock = some k) w0 w' → (v'.ownBlock = v.ownBlock ∨ v'.ownBlock = some w0.heap.size) → K (a.put o.dst v') w') :
    if Region.wanted o (yielded ops a.tmps) = true then Oper.wp P o a w0 K Q else E := by
  have hw : Region.wanted o (yielded ops a.tmps) = true := by simp [Region.wanted, hgd]
  rw [if_pos hw]
  exact wp_append_s s x t ho B e z size bytes ht hinfo hzs hsz v n xs hs hown A m c news hx hl hnews h1 h63 hbytes hB h
end
end Go.Proofs.YtemcgegickpdbaaGreatDoor
namespace Go.Proofs.YtemcgegickpdbaaGreatDoor
open Go.RowKit

/-- A slice of n elements of so many cells each, in a block from B on: nil, or from somewhere in its block. -/
def Seg (w : World) (B : Nat) (e : TypeId) (size : Nat) (v : Value) (n : Nat) (xs : List Value) : Prop :=
  xs.length = n * size ∧ ((v = .slice none 0 0 ∧ n = 0) ∨
    ∃ g off cap cur, v = .slice (some ⟨g, off, none⟩) n cap ∧ B ≤ g ∧ w.heap[g]? = some (.cells cur e (0, 0)) ∧ n ≤ cap ∧ cap ≤ maxLen ∧ off + cap * size ≤ cur.size ∧ ∀ (j : Nat) (u : Value), xs[j]? = some u → cur[off + j]? = some u)

section
variable {w w' : World} {B : Nat} {e : TypeId} {size n : Nat} {v : Value} {xs : List Value}
theorem Seg.nil (w : World) (B : Nat) (e : TypeId) (size : Nat) : Seg w B e size (.slice none 0 0) 0 [] := ⟨by simp, .inl ⟨rfl, rfl⟩⟩
theorem Seg.of_own (h : w.ownsRow B e size v n xs) : Seg w B e size v n xs := by
  refine ⟨h.1, ?_⟩
  rcases h.2 with h1 | ⟨g, cap, cur, rfl, h2, h3, h4, h5, h6, h7⟩
  · exact .inl h1
  · refine .inr ⟨g, 0, cap, cur, rfl, h2, h3, h4, h5, by omega, fun j u hj => ?_⟩
    have hj1 := (List.getElem?_eq_some_iff.1 hj).1
    rw [h.1] at hj1
    rw [← h7, List.getElem?_take, if_pos hj1] at hj
    simpa using hj
theorem Seg.lt (h : Seg w B e size v n xs) : ∀ k, v.ownBlock = some k → B ≤ k ∧ k < w.heap.size := fun k hk => by
  rcases h.2 with ⟨rfl, -⟩ | ⟨g, off, cap, cur, rfl, h2, h3, -⟩
  · simp [Value.ownBlock] at hk
  · simp only [Value.ownBlock, Option.some.injEq] at hk
    subst hk
    exact ⟨h2, (Array.getElem?_eq_some_iff.1 h3).1⟩
/-- It lies in a block of its type. -/
theorem Seg.block (h : Seg w B e size v n xs) : ∀ k, v.ownBlock = some k → ∃ cur, w.heap[k]? = some (.cells cur e (0, 0)) := fun k hk => by
  rcases h.2 with ⟨rfl, -⟩ | ⟨g, off, cap, cur, rfl, h2, h3, -⟩
  · simp [Value.ownBlock] at hk
  · simp only [Value.ownBlock, Option.some.injEq] at hk
    subst hk
    exact ⟨cur, h3⟩
theorem Seg.off (h : Seg w B e size v n xs) {T : Nat} {cs : Array Value} {t : TypeId} (hT : w.heap[T]? = some (.cells cs t (0, 0))) (hne : e ≠ t) (q : Nat) (hq : v.ownBlock = some q) : q ≠ T := fun e1 => by
  subst e1
  obtain ⟨cur, h1⟩ := h.block q hq
  rw [hT] at h1
  simp only [Option.some.injEq, Obj.cells.injEq] at h1
  exact hne h1.2.1.symm
theorem Seg.apart {F : Nat → Prop} (h : Seg w B e size v n xs) (ha : Apart F w w') (hF : ∀ k, v.ownBlock = some k → ¬ F k) : Seg w' B e size v n xs := by
  refine ⟨h.1, ?_⟩
  rcases h.2 with h1 | ⟨g, off, cap, cur, rfl, h2, h3, h4⟩
  · exact .inl h1
  · exact .inr ⟨g, off, cap, cur, rfl, h2, (ha.block g (Array.getElem?_eq_some_iff.1 h3).1 (hF g rfl)).trans h3, h4⟩
theorem Seg.frozen {g off cap : Nat} (h : Seg w B e size (.slice (some ⟨g, off, none⟩) n cap) n xs) (j : Nat) : w.frozen? ⟨g, j, none⟩ = false := by
  rcases h.2 with ⟨h1, -⟩ | ⟨g', off', cap', cur, h1, h2, h3, h4⟩
  · cases h1
  · cases h1
    exact free_at h3 j
end

/-- The cells of a block behind stores one behind the other. -/
theorem setCells_row {g : Nat} {e : TypeId} : ∀ (vs : List Value) (o : Nat) (w : World) (cur : Array Value), w.heap[g]? = some (.cells cur e (0, 0)) → o + vs.length ≤ cur.size →
    ∃ cur', (w.setCells g o vs).heap[g]? = some (.cells cur' e (0, 0)) ∧ cur'.size = cur.size ∧ (∀ (j : Nat) u, vs[j]? = some u → cur'[o + j]? = some u) ∧ ∀ i, (i < o ∨ o + vs.length ≤ i) → cur'[i]? = cur[i]?
  | [], o, w, cur, h, _ => ⟨cur, h, rfl, fun j u hj => by simp at hj, fun _ _ => rfl⟩
  | v :: r, o, w, cur, h, hl => by
    simp only [List.length_cons] at hl
    have h1 := heap_setCell_same w g o cur e v h
    obtain ⟨cur', g1, g2, g3, g4⟩ := setCells_row r (o + 1) (w.setCell ⟨g, o, none⟩ v) _ h1 (by rw [Array.size_setIfInBounds]; omega)
    refine ⟨cur', g1, by rw [g2, Array.size_setIfInBounds], fun j u hj => ?_, fun i hi => ?_⟩
    · match j, hj with
      | 0, hj =>
        simp at hj
        subst hj
        rw [Nat.add_zero, g4 o (.inl (by omega)), Array.getElem?_setIfInBounds_self_of_lt (by omega)]
      | j + 1, hj =>
        have := g3 j u (by simpa using hj)
        rwa [show o + 1 + j = o + (j + 1) by omega] at this
    · simp only [List.length_cons] at hi
      rw [g4 i (by omega), Array.getElem?_setIfInBounds_ne (by omega)]
theorem setCells_apart (g : Nat) : ∀ (vs : List Value) (o : Nat) (w : World), Apart (fun k => k = g) w (w.setCells g o vs)
  | [], _, _ => Apart.refl _ _
  | v :: r, o, w => (Apart.setCell (F := fun k => k = g) (Apart.refl _ w) (p := ⟨g, o, none⟩) (.inl rfl) v).trans (setCells_apart g r (o + 1) _) (fun _ h => .inl h)

section
variable {P : Program}
end
end Go.Proofs.YtemcgegickpdbaaGreatDoor
namespace Go.Proofs.YtemcgegickpdbaaGreatDoor
section
variable {P : Program} {md : Region.Mode} {ops : Array Oper} {Q : Exit → Act → World → Prop} {S : World → Prop}

/-- Number k, not come up yet, waits for number i, itself or by others that have not come up yet. -/
def reaches (md : Region.Mode) (ops : Array Oper) (listed : Array Bool) : Nat → Nat → Nat → Bool
  | 0, _, _ => false
  | f + 1, k, i => !listed.getD k true && (match ops[k]? with | some o => o.after.any (fun e => Region.binds md e && (e.on == i || reaches md ops listed f e.on i)) | none => false)

theorem reaches_spec {listed : Array Bool} {f k i : Nat} (h : reaches md ops listed (f + 1) k i = true) :
    listed.getD k true = false ∧ ∃ o, ops[k]? = some o ∧ ∃ e ∈ o.after, Region.binds md e = true ∧ (e.on = i ∨ reaches md ops listed f e.on i = true) := by
  unfold reaches at h
  rw [Bool.and_eq_true, Bool.not_eq_true'] at h
  refine ⟨h.1, ?_⟩
  cases ho : ops[k]? with
  | none => rw [ho] at h; cases h.2
  | some o =>
    rw [ho] at h
    obtain ⟨e, he, h2⟩ := Array.any_eq_true'.1 h.2
    rw [Bool.and_eq_true, Bool.or_eq_true, beq_iff_eq] at h2
    exact ⟨o, rfl, e, he, h2.1, h2.2⟩

theorem getD_false_of {l : Array Bool} {i : Nat} (h : l.getD i true = false) : ¬ l.getD i false = true := by
  intro h2
  rw [Array.getD_eq_getD_getElem?] at h h2
  cases hi : l[i]? with
  | none => rw [hi] at h; cases h
  | some b => rw [hi] at h h2; rw [Option.getD_some] at h h2; rw [h] at h2; cases h2

theorem reaches_unlisted {listed : Array Bool} {i : Nat} : ∀ {f k : Nat}, reaches md ops listed f k i = true → listed.getD k true = false
  | 0, _, h => by cases h
  | _ + 1, _, h => (reaches_spec h).1

theorem reaches_not_ready {listed : Array Bool} {f k i : Nat} (hi : listed.getD i true = false) (h : reaches md ops listed f k i = true) : k ∉ Region.ready md ops listed := by
  intro hr
  cases f with
  | zero => cases h
  | succ f =>
    obtain ⟨_, o, ho, e, he, hb, h2⟩ := reaches_spec h
    obtain ⟨_, o', ho', hall⟩ := mem_ready.1 hr
    rw [ho] at ho'
    cases ho'
    have h3 := hall e he hb
    rcases h2 with h2 | h2
    · rw [h2] at h3; exact getD_false_of hi h3
    · exact getD_false_of (reaches_unlisted h2) h3

theorem reaches_step {listed : Array Bool} {i j : Nat} (hi : listed.getD i true = false) (hj : j ∈ Region.ready md ops listed) : ∀ {f k : Nat}, reaches md ops listed f k i = true → reaches md ops (listed.setIfInBounds j true) f k i = true
  | 0, _, h => by cases h
  | f + 1, k, h => by
    have hkj : j ≠ k := fun e => reaches_not_ready hi h (e ▸ hj)
    obtain ⟨h0, o, ho, e, he, hb, h2⟩ := reaches_spec h
    unfold reaches
    rw [getD_set_ne true hkj, h0, ho]
    simp only [Bool.not_false, Bool.true_and]
    refine Array.any_eq_true'.2 ⟨e, he, ?_⟩
    rw [hb, Bool.true_and, Bool.or_eq_true, beq_iff_eq]
    exact h2.imp id (fun h => reaches_step hi hj h)

/-- Whatever order is picked from here on, and S holds behind every operation that comes up ahead of number st. -/
def wpAnyL (P : Program) (md : Region.Mode) (ops : Array Oper) (Q : Exit → Act → World → Prop) (S : World → Prop) (st : Nat) : Nat → Array Bool → Act → World → Prop
  | 0, listed, a, w => Region.ready md ops listed = [] ∧ Q .normal a w
  | fuel + 1, listed, a, w =>
    (Region.ready md ops listed = [] → Q .normal a w) ∧
    ∀ i ∈ Region.ready md ops listed, wpOp P ops Q i (fun a' w' => ((listed.setIfInBounds i true).getD st true = false → S w') ∧ wpAnyL P md ops Q S st fuel (listed.setIfInBounds i true) a' w') a w

theorem wpAny_of_L {st : Nat} : ∀ (fuel : Nat) (listed : Array Bool) (a : Act) (w : World), wpAnyL P md ops Q S st fuel listed a w → wpAny P md ops Q fuel listed a w
  | 0, _, _, _, h => h
  | fuel + 1, _, _, _, h => ⟨h.1, fun i hi => wpOp_mono (fun a' w' h' => wpAny_of_L fuel _ a' w' h'.2) (h.2 i hi)⟩

theorem wpAnyL_first {st i f : Nat} {oi : Oper} {v : Value} (hi : ops[i]? = some oi) (hsel : ∀ (j : Nat) (o : Oper) cs b, ops[j]? = some o → o.op ≠ .select cs b)
    (hQ : ∀ c a w, Q (.panic c) (a.put oi.dst v) w → Q (.panic c) a w) :
    ∀ (fuel : Nat) (listed : Array Bool) (a : Act) (w : World),
      (∀ j oj, ops[j]? = some oj → j ≠ i → listed.getD j true = false → (∀ e ∈ oj.after, Region.binds md e = true → e.on ≠ i) → oi.apart ops oj = true) →
      i ∈ Region.ready md ops listed → reaches md ops listed f st i = true → YieldsIf P ops S oi v a → S w →
      wpAnyL P md ops Q S st fuel (listed.setIfInBounds i true) (a.put oi.dst v) w → wpAnyL P md ops Q S st (fuel + 1) listed a w := by
  intro fuel
  induction fuel with
  | zero =>
    intro listed a w _ hr hp hy hS H
    refine ⟨fun h => (by rw [h] at hr; cases hr), fun j hj => ?_⟩
    by_cases hji : j = i
    · subst hji; exact hy.wpOp hi hS ⟨fun _ => hS, H⟩
    · have := ready_mono hj hji
      rw [H.1] at this
      cases this
  | succ fuel ih =>
    intro listed a w hfree hr hp hy hS H
    refine ⟨fun h => (by rw [h] at hr; cases hr), fun j hj => ?_⟩
    have hiu := (mem_ready.1 hr).1
    have hst : st ≠ i := fun e => reaches_not_ready hiu hp (e ▸ hr)
    have hstj : st ≠ j := fun e => reaches_not_ready hiu hp (e ▸ hj)
    have hstu := reaches_unlisted hp
    by_cases hji : j = i
    · subst hji; exact hy.wpOp hi hS ⟨fun _ => hS, H⟩
    · have h1 := H.2 j (ready_mono hj hji)
      obtain ⟨hjun, oj, hoj, hall⟩ := mem_ready.1 hj
      have hnot : ∀ e ∈ oj.after, Region.binds md e = true → e.on ≠ i := fun e he hb heq => by
        have h1 := hall e he hb
        rw [heq] at h1
        exact getD_false_of hiu h1
      have h2 := wpOp_putIf hoj (hfree j oj hoj hji hjun hnot) (fun cs b => hsel i oi cs b hi) (fun cs b => hsel j oj cs b hoj) hQ hy h1
      have hfree' : ∀ k ok, ops[k]? = some ok → k ≠ i → (listed.setIfInBounds j true).getD k true = false →
          (∀ e ∈ ok.after, Region.binds md e = true → e.on ≠ i) → oi.apart ops ok = true := fun k ok hk hki hun hno => by
        refine hfree k ok hk hki ?_ hno
        by_cases hjk : j = k
        · subst hjk; exact hjun
        · rw [getD_set_ne true hjk] at hun; exact hun
      refine wpOp_mono (fun a' w' h3 => ?_) h2
      have hS' : S w' := h3.2.1 (by rw [getD_set_ne true (Ne.symm hstj), getD_set_ne true (Ne.symm hst)]; exact hstu)
      refine ⟨fun _ => hS', ih (listed.setIfInBounds j true) a' w' hfree' (ready_mono hr (Ne.symm hji)) (reaches_step hiu hj hp) h3.1 hS' ?_⟩
      rw [Array.setIfInBounds_comm _ _ hji]
      exact h3.2.2

theorem wpAnyL_take {st i f : Nat} {oi : Oper} {v : Value} {fuel : Nat} {listed : Array Bool} {a : Act} {w : World} (hi : ops[i]? = some oi)
    (hs : Region.noSelect ops = true) (hf : Region.free md ops listed i = true) (hr : (Region.ready md ops listed).contains i = true) (hp : reaches md ops listed f st i = true)
    (hQ : ∀ c a w, Q (.panic c) (a.put oi.dst v) w → Q (.panic c) a w) (hy : YieldsIf P ops S oi v a) (hS : S w)
    (h : wpAnyL P md ops Q S st fuel (listed.setIfInBounds i true) (a.put oi.dst v) w) : wpAnyL P md ops Q S st (fuel + 1) listed a w :=
  wpAnyL_first hi (Region.noSelect_spec hs) hQ fuel listed a w (Region.free_spec hi hf) (by simpa using hr) hp hy hS h

theorem wpAnyL_done {st : Nat} {listed : Array Bool} {a : Act} {w : World} (hr : Region.ready md ops listed = []) (h : Q .normal a w) :
    ∀ fuel, wpAnyL P md ops Q S st fuel listed a w
  | 0 => ⟨hr, h⟩
  | _ + 1 => ⟨fun _ => h, by rw [hr]; simp⟩

/-- The one operation that may come up comes up; S is asked behind it where st has not come up. -/
theorem wpAnyL_one {st k : Nat} {o : Oper} {fuel : Nat} {listed : Array Bool} {a : Act} {w : World} (hr : Region.ready md ops listed = [k]) (ho : ops[k]? = some o)
    (h : ∀ K' : Act → World → Prop, Shut (∀ a w, ((listed.setIfInBounds k true).getD st true = false → S w) → wpAnyL P md ops Q S st fuel (listed.setIfInBounds k true) a w → K' a w) → if Region.wanted o (yielded ops a.tmps) = true then Oper.wp P o a w K' Q else K' (a.put o.dst undef) w) :
    wpAnyL P md ops Q S st (fuel + 1) listed a w :=
  ⟨fun h0 => (by rw [hr] at h0; cases h0), fun j hj => (by
    rw [hr] at hj
    rcases List.mem_singleton.1 hj with rfl
    exact wpOp_step ho (fun K' hK => h K' (fun a w hS hW => hK a w ⟨hS, hW⟩)))⟩

theorem getD_set_self {l : Array Bool} {k : Nat} : (l.setIfInBounds k true).getD k true = true := by
  rw [Array.getD_eq_getD_getElem?, Array.getElem?_setIfInBounds]
  split
  · split <;> rfl
  · rename_i h; exact absurd rfl h

/-- The same for st itself: nothing is asked behind it. -/
theorem wpAnyL_last {k : Nat} {o : Oper} {fuel : Nat} {listed : Array Bool} {a : Act} {w : World} (hr : Region.ready md ops listed = [k]) (ho : ops[k]? = some o)
    (h : ∀ K' : Act → World → Prop, Shut (∀ a w, wpAnyL P md ops Q S k fuel (listed.setIfInBounds k true) a w → K' a w) → if Region.wanted o (yielded ops a.tmps) = true then Oper.wp P o a w K' Q else K' (a.put o.dst undef) w) :
    wpAnyL P md ops Q S k (fuel + 1) listed a w :=
  wpAnyL_one hr ho fun K' hK => h K' (fun a w hW => hK.out a w (fun e => by rw [getD_set_self] at e; cases e) hW)

/-- The beginning: S is shown of the world behind the draw. -/
theorem wp_region_L_drew {st : Nat} {id : Nat} {a : Act} {w : World} (hm : P.follows .mixedOrders = true) (hS : S w.drew)
    (h : S w.drew → wpAnyL P .any ops Q S st ops.size (Array.replicate ops.size false) a w.drew) : (Code.region id ops true).wp P Q a w :=
  wp_region_any hm (wpAny_of_L _ _ _ _ (h hS))
end
end Go.Proofs.YtemcgegickpdbaaGreatDoor
namespace Go.Proofs.YtemcgegickpdbaaGreatDoor
open Go.RowKit

/-- A call that only computes (it may draw orders). -/
def Quiet (v : Value) (w : World) (e : Ending) (w' : World) : Prop := e = .returned v ∧ ∃ m, w' = w.drewN m
theorem below_drewNc {B : Nat} {a w : World} (h : Below B a w) (n : Nat) : Below B a (w.drewN n) := ⟨h.os, h.tape, h.output, h.size, h.block⟩
end Go.Proofs.YtemcgegickpdbaaGreatDoor
namespace Go.Proofs.YtemcgegickpdbaaGreatDoor
open Go.RowKit
theorem tkA {α : Type} (l : List α) (i : Nat) : l.toArray[i]? = l[i]? := List.getElem?_toArray
theorem tkG {α : Type} (x : α) (l : List α) (i : Nat) : (x :: l)[i + 1]? = l[i]? := rfl
/-- Eleven facts of all worlds, at one. -/
theorem eleven {S p0 p1 p2 p3 p4 p5 p6 p7 p8 p9 p10 : World → Prop} {W : World} (h : S W) (f0 : ∀ W, S W → p0 W) (f1 : ∀ W, S W → p1 W) (f2 : ∀ W, S W → p2 W) (f3 : ∀ W, S W → p3 W) (f4 : ∀ W, S W → p4 W) (f5 : ∀ W, S W → p5 W) (f6 : ∀ W, S W → p6 W) (f7 : ∀ W, S W → p7 W) (f8 : ∀ W, S W → p8 W) (f9 : ∀ W, S W → p9 W) (f10 : ∀ W, S W → p10 W) :
    p0 W ∧ p1 W ∧ p2 W ∧ p3 W ∧ p4 W ∧ p5 W ∧ p6 W ∧ p7 W ∧ p8 W ∧ p9 W ∧ p10 W := ⟨f0 W h, f1 W h, f2 W h, f3 W h, f4 W h, f5 W h, f6 W h, f7 W h, f8 W h, f9 W h, f10 W h⟩
theorem tkT {α : Type} (l : List α) (i : Nat) (x : α) : l.toArray.setIfInBounds i x = (l.set i x).toArray := List.setIfInBounds_toArray l i x
theorem tk0 {α : Type} (x y : α) (l : List α) : (x :: l).set 0 y = y :: l := rfl
theorem tkS {α : Type} (x y : α) (l : List α) (i : Nat) : (x :: l).set (i + 1) y = x :: l.set i y := rfl
section
variable {P : Program} {md : Region.Mode} {ops : Array Oper} {Q : Exit → Act → World → Prop} {S : World → Prop}
/-- May the operation be taken (the three checks in one)? -/
def tkOk (md : Region.Mode) (ops : Array Oper) (listed : Array Bool) (i : Nat) : Bool := Region.noSelect ops && Region.free md ops listed i && (Region.ready md ops listed).contains i
theorem tkOk_all {listed : Array Bool} {i : Nat} (h : tkOk md ops listed i = true) : Region.noSelect ops = true ∧ Region.free md ops listed i = true ∧ (Region.ready md ops listed).contains i = true := by
  unfold tkOk at h
  simp only [Bool.and_eq_true] at h
  exact ⟨h.1.1, h.1.2, h.2⟩
theorem tkH (i : Nat) {oi : Oper} {v : Value} {fuel : Nat} {listed : Array Bool} {a : Act} {w : World} (hi : ops[i]? = some oi) (hc : tkOk md ops listed i = true)
    (hQ : ∀ c a w, Q (.panic c) (a.put oi.dst v) w → Q (.panic c) a w) (hw : Region.wanted oi (yielded ops a.tmps) = true) (hy : ∀ w, S w → (execOp a.eval oi).run P w = .ok (.value v) w) (hS : S w)
    (h : wpAnyH P md ops Q S fuel (listed.setIfInBounds i true) (a.put oi.dst v) w) : wpAnyH P md ops Q S (fuel + 1) listed a w :=
  wpAnyH_take hi (tkOk_all hc).1 (tkOk_all hc).2.1 (tkOk_all hc).2.2 hQ (.inl ⟨hw, hy⟩) hS h
/-- The one operation that is ready comes up. -/
theorem clH (k : Nat) {o : Oper} {fuel : Nat} {listed : Array Bool} {a : Act} {w : World} (hr : Region.ready md ops listed = [k]) (ho : ops[k]? = some o)
    (h : ∀ K' : Act → World → Prop, Shut (∀ a w, S w → (S w → wpAnyH P md ops Q S fuel (listed.setIfInBounds k true) a w) → K' a w) → if Region.wanted o (yielded ops a.tmps) = true then Oper.wp P o a w K' Q else K' (a.put o.dst undef) w) : wpAnyH P md ops Q S (fuel + 1) listed a w :=
  wpAnyH_ready hr (by simp) (AllReadyH.cons ho h AllReadyH.nil)
/-- .. under a last write, number st. -/
def tkOkL (md : Region.Mode) (ops : Array Oper) (listed : Array Bool) (st i : Nat) : Bool := tkOk md ops listed i && reaches md ops listed 12 st i
theorem tkL {st : Nat} (i : Nat) {oi : Oper} {v : Value} {fuel : Nat} {listed : Array Bool} {a : Act} {w : World} (hi : ops[i]? = some oi) (hc : tkOkL md ops listed st i = true)
    (hQ : ∀ c a w, Q (.panic c) (a.put oi.dst v) w → Q (.panic c) a w) (hw : Region.wanted oi (yielded ops a.tmps) = true) (hy : ∀ w, S w → (execOp a.eval oi).run P w = .ok (.value v) w) (hS : S w)
    (h : wpAnyL P md ops Q S st fuel (listed.setIfInBounds i true) (a.put oi.dst v) w) : wpAnyL P md ops Q S st (fuel + 1) listed a w := by
  unfold tkOkL at hc
  simp only [Bool.and_eq_true] at hc
  exact wpAnyL_take (f := 12) hi (tkOk_all hc.1).1 (tkOk_all hc.1).2.1 (tkOk_all hc.1).2.2 hc.2 hQ (.inl ⟨hw, hy⟩) hS h
end
end Go.Proofs.YtemcgegickpdbaaGreatDoor
namespace Go.Proofs.YtemcgegickpdbaaGreatDoor
open Go.RowKit

/-- An op, where its bytes lie. -/
structure OpC where
  kind : Nat
  port : Int
  a : Int
  b : Int
  c : Int
  D : Option Addr
  m : Nat
  cap : Nat
  data : List UInt8
def opVals (x : OpC) : List Value := [.int .u8 (x.kind : Nat), .int .i64 x.port, .int .i64 x.a, .int .i64 x.b, .int .i64 x.c, .slice x.D x.m x.cap]
def opV (x : OpC) : Value := .agg #[.int .u8 (x.kind : Nat), .int .i64 x.port, .int .i64 x.a, .int .i64 x.b, .int .i64 x.c, .slice x.D x.m x.cap]
def OpC.plain (x : OpC) : ApeP.Op := ⟨x.kind, x.port, x.a, x.b, x.c, x.data⟩
theorem opVals_len (x : OpC) : (opVals x).length = 6 := rfl
structure OpOk (W : World) (x : OpC) : Prop where
  kind : x.kind ≤ 255
  port : -9223372036854775808 ≤ x.port ∧ x.port ≤ 9223372036854775807
  a : -9223372036854775808 ≤ x.a ∧ x.a ≤ 9223372036854775807
  b : -9223372036854775808 ≤ x.b ∧ x.b ≤ 9223372036854775807
  c : -9223372036854775808 ≤ x.c ∧ x.c ≤ 9223372036854775807
  len : x.data.length = x.m
  mcap : x.m ≤ x.cap
  most : x.m ≤ 140737488351232
  bytes : Bytes W W.heap.size x.D x.data
theorem OpOk.below {W W' : World} {x : OpC} (h : OpOk W x) (hw : Below W.heap.size W W') : OpOk W' x :=
  ⟨h.kind, h.port, h.a, h.b, h.c, h.len, h.mcap, h.most, (h.bytes.below hw (Nat.le_refl _)).more hw.size⟩
def zOp : OpC := ⟨0, 0, 0, 0, 0, none, 0, 0, []⟩
theorem zOp_ok (W : World) : OpOk W zOp := ⟨by decide, by decide, by decide, by decide, by decide, rfl, Nat.le_refl _, by decide, Bytes.none_⟩
/-- Ops somewhere in memory, each with its bytes. -/
structure OpsAt (W : World) (A : Option Addr) (l : List OpC) : Prop where
  items : ItemsIn opVals 6 W A l
  ok : ∀ x ∈ l, OpOk W x
/-- A result, where its bytes lie. -/
structure ResC where
  code : Nat
  value : Int
  A : Option Addr
  cap : Nat
  data : List UInt8
  fresh : Bool
def resVals (x : ResC) : List Value := [.int .i64 (x.code : Nat), .int .i64 x.value, .slice x.A x.data.length x.cap, .bool x.fresh]
def resV (x : ResC) : Value := .agg #[.int .i64 (x.code : Nat), .int .i64 x.value, .slice x.A x.data.length x.cap, .bool x.fresh]
def ResC.plain (x : ResC) : ApeP.Res := ⟨x.code, x.value, x.data, x.fresh⟩
theorem resVals_len (x : ResC) : (resVals x).length = 4 := rfl
def codeR (k : Nat) : ResC := ⟨k, 0, none, 0, [], false⟩
end Go.Proofs.YtemcgegickpdbaaGreatDoor
namespace Go.Proofs.YtemcgegickpdbaaGreatDoor
open Go.RowKit

section
variable {α : Type} {e : TypeId} {size : Nat} {vals : α → List Value} {dat : α → Value × List UInt8} {W W' W1 : World} {B : Nat} {v v' : Value} {l : List α}
/-- A list in memory: its elements' cells in a slice of the call's own, each element's bytes in a row of the call's own. -/
structure LIn (e : TypeId) (size : Nat) (vals : α → List Value) (dat : α → Value × List UInt8) (W : World) (B : Nat) (v : Value) (l : List α) : Prop where
  seg : Seg W B e size v l.length (itemsV vals l)
  rows : ∀ x ∈ l, W.ownsRow B 5 1 (dat x).1 (dat x).2.length (bytesV (dat x).2)
theorem LIn.nil (W : World) (B : Nat) : LIn e size vals dat W B (.slice none 0 0) [] := ⟨Seg.nil W B e size, fun x hx => (by cases hx)⟩
theorem LIn.apart {F : Nat → Prop} (h : LIn e size vals dat W B v l) (ha : Apart F W W') (hv : ∀ q, v.ownBlock = some q → ¬ F q) (hr : ∀ x ∈ l, ∀ q, (dat x).1.ownBlock = some q → ¬ F q) : LIn e size vals dat W' B v l :=
  ⟨h.seg.apart ha hv, fun x hx => own_apart (h.rows x hx) ha (hr x hx)⟩
/-- A row of bytes lies in no block of another type's slice. -/
theorem LIn.bytes_off {x : α} (hx : W.ownsRow B 5 1 (dat x).1 (dat x).2.length (bytesV (dat x).2)) (h : Seg W B e size v' l.length (itemsV vals l)) (hne : 5 ≠ e) {q : Nat} (hq : (dat x).1.ownBlock = some q) : v'.ownBlock ≠ some q := fun hv => by
  obtain ⟨cur, hc⟩ := h.block q hv
  exact own_off hx hc hne q hq rfl
theorem LIn.low (h : LIn e size vals dat W B v l) {B' : Nat} (hb : B' ≤ B) : LIn e size vals dat W B' v l := by
  refine ⟨⟨h.seg.1, ?_⟩, fun x hx => ⟨(h.rows x hx).1, ?_⟩⟩
  · rcases h.seg.2 with h1 | ⟨g, off, cap, cur, h1, h2, h3⟩
    · exact .inl h1
    · exact .inr ⟨g, off, cap, cur, h1, Nat.le_trans hb h2, h3⟩
  · rcases (h.rows x hx).2 with h1 | ⟨g, cap, cur, h1, h2, h3⟩
    · exact .inl h1
    · exact .inr ⟨g, cap, cur, h1, Nat.le_trans hb h2, h3⟩

variable {vs : List Value} {ls : List (List α)}
end
/-- A text: its slice and its bytes. -/
abbrev Txt := Value × List UInt8
def txtVals (x : Txt) : List Value := [x.1]
theorem txtVals_len (x : Txt) : (txtVals x).length = 1 := rfl
end Go.Proofs.YtemcgegickpdbaaGreatDoor
namespace Go.Proofs.YtemcgegickpdbaaGreatDoor
open Go.RowKit

/-- A record: its other cells ahead, its list, its age. -/
structure El where
  pre : List Value
  v : Value
  msgs : List Txt
  age : Nat
def elVals (e : El) : List Value := e.pre ++ [e.v, .int .i64 (e.age : Nat)]
def El.ps (e : El) : PorP.PS := ⟨e.msgs.map Prod.snd, e.age⟩
def elSt (es : List El) : PorP.St := es.map El.ps
/-- The blocks that may be written. -/
def EF (g : Nat) (es : List El) (k : Nat) : Prop := k = g ∨ ∃ e ∈ es, e.v.ownBlock = some k
/-- The blocks of the bytes. -/
def ED (es : List El) (k : Nat) : Prop := ∃ e ∈ es, ∃ x ∈ e.msgs, x.1.ownBlock = some k
abbrev LTx (W : World) (B : Nat) (v : Value) (l : List Txt) : Prop := LIn (α := Txt) 89 1 txtVals id W B v l
structure Els (m : Nat) (t : TypeId) (z : Bool) (W : World) (B g : Nat) (es : List El) : Prop where
  row : W.heap[g]? = some (.cells (itemsV elVals es).toArray t (0, 0))
  pres : ∀ e ∈ es, e.pre.length = m
  each : ∀ e ∈ es, LTx W B e.v e.msgs
  apart : ∀ (i j : Nat) (e e' : El), i ≠ j → es[i]? = some e → es[j]? = some e' → ∀ q, e.v.ownBlock = some q → e'.v.ownBlock ≠ some q
  own : z = true → ∀ e ∈ es, W.ownsRow B 89 1 e.v e.msgs.length (itemsV txtVals e.msgs)
  base : B ≤ g
  ok : ∀ e ∈ es, e.msgs.length ≤ 4 ∧ (∀ x ∈ e.msgs, x.2.length ≤ 16) ∧ e.age ≤ 9

theorem items_at' {α : Type} {vals : α → List Value} {size : Nat} : ∀ (l : List α), (∀ x ∈ l, (vals x).length = size) → ∀ (i : Nat) (x : α), l[i]? = some x → ∀ j, j < size → (itemsV vals l)[i * size + j]? = (vals x)[j]?
  | [], _, i, x, h => by simp at h
  | y :: l, hs, 0, x, h => by
    simp at h
    subst h
    intro j hj
    simp only [itemsV, List.flatMap_cons, Nat.zero_mul, Nat.zero_add]
    rw [List.getElem?_append_left (by rw [hs y (by simp)]; exact hj)]
  | y :: l, hs, i + 1, x, h => by
    intro j hj
    have h1 := items_at' l (fun x hx => hs x (List.mem_cons_of_mem _ hx)) i x (by simpa using h) j hj
    have e1 : (i + 1) * size + j = size + (i * size + j) := by rw [Nat.succ_mul]; omega
    rw [e1, ← h1]
    simp only [itemsV, List.flatMap_cons]
    rw [List.getElem?_append_right (by rw [hs y (by simp)]; omega), hs y (by simp), Nat.add_sub_cancel_left]
theorem items_set' {α : Type} {vals : α → List Value} {size : Nat} : ∀ (l : List α), (∀ x ∈ l, (vals x).length = size) → ∀ (i : Nat) (x y : α) (j : Nat) (u : Value), l[i]? = some x → j < size → vals y = (vals x).set j u → (itemsV vals l).set (i * size + j) u = itemsV vals (l.set i y)
  | [], _, i, x, y, j, u, h, _, _ => by simp at h
  | a :: l, hs, 0, x, y, j, u, h, hj, hy => by
    simp at h
    subst h
    simp only [itemsV, List.flatMap_cons, Nat.zero_mul, Nat.zero_add, List.set_cons_zero]
    rw [List.set_append_left _ _ (by rw [hs a (by simp)]; exact hj), hy]
  | a :: l, hs, i + 1, x, y, j, u, h, hj, hy => by
    have h1 := items_set' l (fun x hx => hs x (List.mem_cons_of_mem _ hx)) i x y j u (by simpa using h) hj hy
    have e1 : (i + 1) * size + j = size + (i * size + j) := by rw [Nat.succ_mul]; omega
    simp only [itemsV, List.flatMap_cons, List.set_cons_succ] at h1 ⊢
    rw [e1, List.set_append_right _ _ (by rw [hs a (by simp)]; omega), hs a (by simp), Nat.add_sub_cancel_left, h1]

section
variable {m : Nat} {t : TypeId} {z : Bool} {W W' W1 W2 : World} {B g i : Nat} {es : List El} {e : El}
theorem Els.size (h : Els m t z W B g es) : ∀ e ∈ es, (elVals e).length = m + 2 := fun e he => by simp [elVals, h.pres e he]
theorem Els.lt (h : Els m t z W B g es) : g < W.heap.size := lt_of_block h.row
theorem Els.cell (h : Els m t z W B g es) (hi : es[i]? = some e) {j : Nat} {u : Value} (hu : (elVals e)[j]? = some u) : W.cell? ⟨g, i * (m + 2) + j, none⟩ = some u := by
  have hj : j < m + 2 := by rw [← h.size e (List.mem_of_getElem? hi)]; exact (List.getElem?_eq_some_iff.1 hu).1
  refine cell_at h.row _ ?_
  rw [List.getElem?_toArray, items_at' es h.size i e hi j hj]
  exact hu
theorem Els.cellV (h : Els m t z W B g es) (hi : es[i]? = some e) : W.cell? ⟨g, i * (m + 2) + m, none⟩ = some e.v := h.cell hi (by
  have := h.pres e (List.mem_of_getElem? hi)
  rw [elVals, List.getElem?_append_right (by omega), this, Nat.sub_self]; rfl)
theorem Els.cellA (h : Els m t z W B g es) (hi : es[i]? = some e) : W.cell? ⟨g, i * (m + 2) + (m + 1), none⟩ = some (.int .i64 (e.age : Nat)) := h.cell hi (by
  have := h.pres e (List.mem_of_getElem? hi)
  rw [elVals, List.getElem?_append_right (by omega), this, Nat.add_sub_cancel_left]; rfl)
theorem Els.free (h : Els m t z W B g es) (o : Nat) : W.frozen? ⟨g, o, none⟩ = false := free_at h.row o
/-- What it is in memory stays where nothing of it is written. -/
theorem Els.away {F : Nat → Prop} (h : Els m t z W B g es) (ha : Apart F W W') (hF : ∀ k, EF g es k → ¬ F k) (hD : ∀ k, ED es k → ¬ F k) : Els m t z W' B g es :=
  ⟨(ha.block g h.lt (hF g (.inl rfl))).trans h.row, h.pres, fun e he => (h.each e he).apart ha (fun q hq => hF q (.inr ⟨e, he, hq⟩)) (fun x hx q hq => hD q ⟨e, he, x, hx, hq⟩), h.apart,
    fun hz e he => own_apart (h.own hz e he) ha (fun q hq => hF q (.inr ⟨e, he, hq⟩)), h.base, h.ok⟩
theorem Els.fLt (h : Els m t z W B g es) {k : Nat} (hk : EF g es k) : B ≤ k ∧ k < W.heap.size := by
  rcases hk with rfl | ⟨e, he, hk⟩
  · exact ⟨h.base, h.lt⟩
  · exact (h.each e he).seg.lt k hk
/-- The types of these blocks. -/
theorem Els.fTag (h : Els m t z W B g es) {k : Nat} (hk : EF g es k) : ∃ cs t', W.heap[k]? = some (.cells cs t' (0, 0)) ∧ (t' = t ∨ t' = 89) := by
  rcases hk with rfl | ⟨e, he, hk⟩
  · exact ⟨_, _, h.row, .inl rfl⟩
  · obtain ⟨cur, hc⟩ := (h.each e he).seg.block k hk
    exact ⟨_, _, hc, .inr rfl⟩
theorem Els.dTag (h : Els m t z W B g es) {k : Nat} (hk : ED es k) : ∃ cs, W.heap[k]? = some (.cells cs 5 (0, 0)) := by
  obtain ⟨e, he, x, hx, hk⟩ := hk
  exact (Seg.of_own ((h.each e he).rows x hx)).block k hk
/-- A block of another type is none that may be written. -/
theorem Els.fOff (h : Els m t z W B g es) {k : Nat} {cs : Array Value} {t' : TypeId} (hk : W.heap[k]? = some (.cells cs t' (0, 0))) (h1 : t' ≠ t) (h2 : t' ≠ 89) : ¬ EF g es k := fun hf => by
  obtain ⟨cs', t2, e1, e2⟩ := h.fTag hf
  rw [hk] at e1
  simp only [Option.some.injEq, Obj.cells.injEq] at e1
  obtain ⟨-, rfl, -⟩ := e1
  rcases e2 with e2 | e2
  · exact h1 e2
  · exact h2 e2
/-- What a call does to it. -/
structure Goes (g : Nat) (w w' : World) (es es' : List El) : Prop where
  apart : Apart (EF g es) w w'
  f : ∀ k, EF g es' k → EF g es k ∨ w.heap.size ≤ k
  d : ∀ k, ED es' k → ED es k ∨ w.heap.size ≤ k
theorem Goes.of_below {w w' : World} (h : Below w.heap.size w w') (g : Nat) (es : List El) : Goes g w w' es es := ⟨Apart.of_below' h, fun _ h => .inl h, fun _ h => .inl h⟩
theorem Goes.trans {a b c : World} {x y u : List El} (h : Goes g a b x y) (k : Goes g b c y u) : Goes g a c x u := by
  have hs := h.apart.size
  refine ⟨h.apart.trans k.apart h.f, fun i hi => ?_, fun i hi => ?_⟩
  · rcases k.f i hi with h1 | h1
    · exact h.f i h1
    · exact .inr (by omega)
  · rcases k.d i hi with h1 | h1
    · exact h.d i h1
    · exact .inr (by omega)
/-- One of them changes. -/
theorem Els.upd (h : Els m t z W B g es) (ht : t ≠ 89) (ht8 : t ≠ 5) (hi : es[i]? = some e) {e' : El} (hp : e'.pre = e.pre) (ha : Apart (fun q => e.v.ownBlock = some q) W W1)
    (ha2 : Apart (fun q => q = g) W1 W2) (hrow : W2.heap[g]? = some (.cells (itemsV elVals (es.set i e')).toArray t (0, 0)))
    (hl : LTx W1 B e'.v e'.msgs) (ho : z = true → W1.ownsRow B 89 1 e'.v e'.msgs.length (itemsV txtVals e'.msgs)) (hv : ∀ q, e'.v.ownBlock = some q → e.v.ownBlock = some q ∨ W.heap.size ≤ q)
    (hd : ∀ x ∈ e'.msgs, x ∈ e.msgs ∨ ∀ q, x.1.ownBlock = some q → W.heap.size ≤ q) (hok : e'.msgs.length ≤ 4 ∧ (∀ x ∈ e'.msgs, x.2.length ≤ 16) ∧ e'.age ≤ 9) :
    Els m t z W2 B g (es.set i e') ∧ Goes g W W2 es (es.set i e') := by
  have hil := (List.getElem?_eq_some_iff.1 hi).1
  have hem := List.mem_of_getElem? hi
  have hg1 : W1.heap[g]? = some (.cells (itemsV elVals es).toArray t (0, 0)) := (ha.block g h.lt (fun e1 => (h.each e hem).seg.off h.row (fun e2 => ht e2.symm) g e1 rfl)).trans h.row
  have hmem : ∀ y ∈ es.set i e', y = e' ∨ ∃ j, j ≠ i ∧ es[j]? = some y := fun y hy => by
    obtain ⟨j, hj⟩ := List.getElem?_of_mem hy
    by_cases hji : j = i
    · subst hji
      rw [List.getElem?_set_self hil] at hj
      exact .inl (Option.some.inj hj).symm
    · rw [List.getElem?_set_ne (Ne.symm hji)] at hj
      exact .inr ⟨j, hji, hj⟩
  have hoff : ∀ j y, j ≠ i → es[j]? = some y → ∀ q, y.v.ownBlock = some q → e.v.ownBlock ≠ some q := fun j y hj hy q hq => h.apart j i y e hj hy hi q hq
  have h1 : ∀ y ∈ es.set i e', LTx W1 B y.v y.msgs ∧ (z = true → W1.ownsRow B 89 1 y.v y.msgs.length (itemsV txtVals y.msgs)) := fun y hy => by
    rcases hmem y hy with rfl | ⟨j, hj, hy⟩
    · exact ⟨hl, ho⟩
    · have hy' := List.mem_of_getElem? hy
      exact ⟨(h.each y hy').apart ha (fun q hq => hoff j y hj hy q hq) (fun x hx q hq => LIn.bytes_off ((h.each y hy').rows x hx) (h.each e hem).seg (by decide) hq), fun hz => own_apart (h.own hz y hy') ha (fun q hq => hoff j y hj hy q hq)⟩
  have h2 : ∀ y ∈ es.set i e', LTx W2 B y.v y.msgs ∧ (z = true → W2.ownsRow B 89 1 y.v y.msgs.length (itemsV txtVals y.msgs)) := fun y hy => by
    obtain ⟨q1, q2⟩ := h1 y hy
    have hne : ∀ q, y.v.ownBlock = some q → ¬ q = g := fun q hq => q1.seg.off hg1 (fun e2 => ht e2.symm) q hq
    exact ⟨q1.apart ha2 hne (fun x hx q hq => own_off (q1.rows x hx) hg1 (fun e2 => ht8 e2.symm) q hq), fun hz => own_apart (q2 hz) ha2 hne⟩
  refine ⟨⟨hrow, fun y hy => ?_, fun y hy => (h2 y hy).1, fun a b x y hab hx hy q hq => ?_, fun hz y hy => (h2 y hy).2 hz, h.base, fun y hy => ?_⟩, ⟨?_, fun k hk => ?_, fun k hk => ?_⟩⟩
  · rcases hmem y hy with rfl | ⟨j, hj, hy⟩
    · rw [hp]; exact h.pres e hem
    · exact h.pres y (List.mem_of_getElem? hy)
  · have hsep : ∀ (j : Nat) (u : El), j ≠ i → es[j]? = some u → ∀ q, u.v.ownBlock = some q → e'.v.ownBlock ≠ some q := fun j u hj hu q hq e2 => by
      rcases hv q e2 with h3 | h3
      · exact hoff j u hj hu q hq h3
      · have := ((h.each u (List.mem_of_getElem? hu)).seg.lt q hq).2; omega
    by_cases hai : a = i
    · subst hai
      rw [List.getElem?_set_self hil] at hx
      obtain rfl := Option.some.inj hx
      rw [List.getElem?_set_ne hab] at hy
      exact fun e2 => hsep b y (Ne.symm hab) hy q e2 hq
    · rw [List.getElem?_set_ne (Ne.symm hai)] at hx
      by_cases hbi : b = i
      · subst hbi
        rw [List.getElem?_set_self hil] at hy
        obtain rfl := Option.some.inj hy
        exact hsep a x hai hx q hq
      · rw [List.getElem?_set_ne (Ne.symm hbi)] at hy
        exact h.apart a b x y hab hx hy q hq
  · rcases hmem y hy with rfl | ⟨j, hj, hy⟩
    · exact hok
    · exact h.ok y (List.mem_of_getElem? hy)
  · exact (ha.mono fun k _ hk => .inr ⟨e, hem, hk⟩).trans ha2 fun k hk => .inl (.inl hk)
  · rcases hk with rfl | ⟨y, hy, hk⟩
    · exact .inl (.inl rfl)
    · rcases hmem y hy with rfl | ⟨j, hj, hy⟩
      · rcases hv k hk with h3 | h3
        · exact .inl (.inr ⟨e, hem, h3⟩)
        · exact .inr h3
      · exact .inl (.inr ⟨y, List.mem_of_getElem? hy, hk⟩)
  · obtain ⟨y, hy, x, hx, hk⟩ := hk
    rcases hmem y hy with rfl | ⟨j, hj, hy⟩
    · rcases hd x hx with h3 | h3
      · exact .inl ⟨e, hem, x, h3, hk⟩
      · exact .inr (h3 k hk)
    · exact .inl ⟨y, List.mem_of_getElem? hy, x, hx, hk⟩
/-- A store of its list, of its age. -/
theorem els_rowV (hrow : W.heap[g]? = some (.cells (itemsV elVals es).toArray t (0, 0))) (hs : ∀ e ∈ es, e.pre.length = m) (hi : es[i]? = some e) (v : Value) (l : List Txt) : (W.setCell ⟨g, i * (m + 2) + m, none⟩ v).heap[g]? = some (.cells (itemsV elVals (es.set i ⟨e.pre, v, l, e.age⟩)).toArray t (0, 0)) := by
  have h1 := heap_setCell_same W g (i * (m + 2) + m) _ t v hrow
  rw [h1, List.setIfInBounds_toArray, items_set' es (fun y hy => by simp [elVals, hs y hy]) i e ⟨e.pre, v, l, e.age⟩ m v hi (by omega)]
  have := hs e (List.mem_of_getElem? hi)
  simp only [elVals]
  rw [List.set_append_right _ _ (by omega), this, Nat.sub_self]; rfl
theorem els_rowA (hrow : W.heap[g]? = some (.cells (itemsV elVals es).toArray t (0, 0))) (hs : ∀ e ∈ es, e.pre.length = m) (hi : es[i]? = some e) (a : Nat) : (W.setCell ⟨g, i * (m + 2) + (m + 1), none⟩ (.int .i64 (a : Nat))).heap[g]? = some (.cells (itemsV elVals (es.set i ⟨e.pre, e.v, e.msgs, a⟩)).toArray t (0, 0)) := by
  have h1 := heap_setCell_same W g (i * (m + 2) + (m + 1)) _ t (.int .i64 (a : Nat)) hrow
  rw [h1, List.setIfInBounds_toArray, items_set' es (fun y hy => by simp [elVals, hs y hy]) i e ⟨e.pre, e.v, e.msgs, a⟩ (m + 1) (.int .i64 (a : Nat)) hi (by omega)]
  have := hs e (List.mem_of_getElem? hi)
  simp only [elVals]
  rw [List.set_append_right _ _ (by omega), this, Nat.add_sub_cancel_left]; rfl
theorem Els.setAge (h : Els m t z W B g es) (ht : t ≠ 89) (ht8 : t ≠ 5) (hi : es[i]? = some e) (a : Nat) (ha : a ≤ 9) :
    Els m t z (W.setCell ⟨g, i * (m + 2) + (m + 1), none⟩ (.int .i64 (a : Nat))) B g (es.set i ⟨e.pre, e.v, e.msgs, a⟩) ∧ Goes g W (W.setCell ⟨g, i * (m + 2) + (m + 1), none⟩ (.int .i64 (a : Nat))) es (es.set i ⟨e.pre, e.v, e.msgs, a⟩) := by
  have hem := List.mem_of_getElem? hi
  have hok := h.ok e hem
  exact h.upd ht ht8 hi (e' := ⟨e.pre, e.v, e.msgs, a⟩) rfl (W1 := W) (Apart.refl _ _) ((Apart.refl (fun q => q = g) W).setCell (p := ⟨g, _, none⟩) (.inl rfl) _) (els_rowA h.row h.pres hi a) (h.each e hem) (fun hz => h.own hz e hem) (fun _ h => .inl h) (fun _ h => .inl h) ⟨hok.1, hok.2.1, ha⟩
theorem Els.setNil (h : Els m t z W B g es) (ht : t ≠ 89) (ht8 : t ≠ 5) (hi : es[i]? = some e) :
    Els m t z (W.setCell ⟨g, i * (m + 2) + m, none⟩ (.slice none 0 0)) B g (es.set i ⟨e.pre, .slice none 0 0, [], e.age⟩) ∧ Goes g W (W.setCell ⟨g, i * (m + 2) + m, none⟩ (.slice none 0 0)) es (es.set i ⟨e.pre, .slice none 0 0, [], e.age⟩) := by
  have hem := List.mem_of_getElem? hi
  have hok := h.ok e hem
  exact h.upd ht ht8 hi (e' := ⟨e.pre, .slice none 0 0, [], e.age⟩) rfl (W1 := W) (Apart.refl _ _) ((Apart.refl (fun q => q = g) W).setCell (p := ⟨g, _, none⟩) (.inl rfl) _) (els_rowV h.row h.pres hi _ _) (LIn.nil _ _) (fun _ => World.ownsRow_nil _ _ _ _) (fun _ h => by simp [Value.ownBlock] at h) (fun _ h => by cases h) ⟨by simp, by simp, hok.2.2⟩
/-- Its list is another. -/
theorem Els.setV (h : Els m t z W B g es) (ht : t ≠ 89) (ht8 : t ≠ 5) (hi : es[i]? = some e) {v : Value} {l : List Txt} (ha : Apart (fun q => e.v.ownBlock = some q) W W1)
    (hl : LTx W1 B v l) (ho : z = true → W1.ownsRow B 89 1 v l.length (itemsV txtVals l)) (hv : ∀ q, v.ownBlock = some q → e.v.ownBlock = some q ∨ W.heap.size ≤ q)
    (hd : ∀ x ∈ l, x ∈ e.msgs ∨ ∀ q, x.1.ownBlock = some q → W.heap.size ≤ q) (hok : l.length ≤ 4 ∧ (∀ x ∈ l, x.2.length ≤ 16)) :
    Els m t z (W1.setCell ⟨g, i * (m + 2) + m, none⟩ v) B g (es.set i ⟨e.pre, v, l, e.age⟩) ∧ Goes g W (W1.setCell ⟨g, i * (m + 2) + m, none⟩ v) es (es.set i ⟨e.pre, v, l, e.age⟩) := by
  have hem := List.mem_of_getElem? hi
  have hg1 : W1.heap[g]? = some (.cells (itemsV elVals es).toArray t (0, 0)) := (ha.block g h.lt (fun e1 => (h.each e hem).seg.off h.row (fun e2 => ht e2.symm) g e1 rfl)).trans h.row
  exact h.upd ht ht8 hi (e' := ⟨e.pre, v, l, e.age⟩) rfl ha ((Apart.refl (fun q => q = g) W1).setCell (p := ⟨g, _, none⟩) (.inl rfl) _) (els_rowV hg1 h.pres hi v l) hl ho hv hd ⟨hok.1, hok.2, (h.ok e hem).2.2⟩
/-- One more in its list. -/
theorem Els.more (h : Els m t z W B g es) (ht : t ≠ 89) (ht8 : t ≠ 5) (hi : es[i]? = some e) {v ve : Value} {l : List UInt8} (ha : Apart (fun q => e.v.ownBlock = some q) W W1)
    (he : W1.ownsRow B 5 1 ve l.length (bytesV l)) (hs : Seg W1 B 89 1 v (e.msgs.length + 1) (itemsV txtVals e.msgs ++ [ve])) (ho : z = true → W1.ownsRow B 89 1 v (e.msgs.length + 1) (itemsV txtVals e.msgs ++ [ve]))
    (hv : Moved W e.v.ownBlock v.ownBlock) (hd : ∀ q, ve.ownBlock = some q → W.heap.size ≤ q) (h4 : e.msgs.length ≤ 3) (h16 : l.length ≤ 16) :
    Els m t z (W1.setCell ⟨g, i * (m + 2) + m, none⟩ v) B g (es.set i ⟨e.pre, v, e.msgs ++ [(ve, l)], e.age⟩) ∧ Goes g W (W1.setCell ⟨g, i * (m + 2) + m, none⟩ v) es (es.set i ⟨e.pre, v, e.msgs ++ [(ve, l)], e.age⟩) := by
  have hem := List.mem_of_getElem? hi
  have e1 : (e.msgs ++ [(ve, l)]).length = e.msgs.length + 1 := by simp
  have e2 : itemsV txtVals (e.msgs ++ [(ve, l)]) = itemsV txtVals e.msgs ++ [ve] := by rw [itemsV_append, itemsV_one']; rfl
  refine h.setV ht ht8 hi ha ⟨by rw [e1, e2]; exact hs, fun x hx => ?_⟩ (fun hz => by rw [e1, e2]; exact ho hz) (fun q hq => ?_) (fun x hx => ?_) ⟨by rw [e1]; omega, fun x hx => ?_⟩
  · rcases List.mem_append.1 hx with hx | hx
    · exact own_apart ((h.each e hem).rows x hx) ha (fun q hq => LIn.bytes_off ((h.each e hem).rows x hx) (h.each e hem).seg (by decide) hq)
    · rw [List.mem_singleton.1 hx]; exact he
  · rcases hv with hv | ⟨k, hv, hk⟩
    · exact .inl (hv ▸ hq)
    · rw [hv] at hq
      exact .inr (by have := Option.some.inj hq; omega)
  · rcases List.mem_append.1 hx with hx | hx
    · exact .inl hx
    · rw [List.mem_singleton.1 hx]; exact .inr hd
  · rcases List.mem_append.1 hx with hx | hx
    · exact (h.ok e hem).2.1 x hx
    · rw [List.mem_singleton.1 hx]; exact h16
end
end Go.Proofs.YtemcgegickpdbaaGreatDoor
namespace Go.Proofs.YtemcgegickpdbaaGreatDoor
open Go.RowKit

def recVals (x : FrameP.Rec) : List Value := [.int .u32 (x.round : Nat), .int .u8 (x.node : Nat), .int .u8 (x.part : Nat), .int .u8 (x.kind : Nat), .int .u8 (x.did : Nat)]

end Go.Proofs.YtemcgegickpdbaaGreatDoor
