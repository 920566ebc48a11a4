/- What a call leaves untouched, block by block (Apart), and append of bytes with the block that it may write. Over whatever program. No conditions beyond those that each states. -/
import Derived.Test.YthihdbcclocbkaaByt
import Derived.OneCell
import Derived.Deep.QuietTactic
import Derived.Deep.RegionLaw
namespace Go.Proofs.Ythihdbcclocbkaa
open Go.RowKit

/-- Of the blocks of w those outside F are as they were. -/
structure Apart (F : Nat → Prop) (w w' : World) : Prop where
  os : w'.os = w.os
  tape : w'.tape = w.tape
  output : w'.output = w.output
  size : w.heap.size ≤ w'.heap.size
  block : ∀ k, k < w.heap.size → ¬ F k → w'.heap[k]? = w.heap[k]?

theorem Apart.refl (F : Nat → Prop) (w : World) : Apart F w w := ⟨rfl, rfl, rfl, Nat.le_refl _, fun _ _ _ => rfl⟩
theorem Apart.trans {F G : Nat → Prop} {a b c : World} (h : Apart F a b) (k : Apart G b c) (hG : ∀ i, G i → F i ∨ a.heap.size ≤ i) : Apart F a c :=
  ⟨k.os.trans h.os, k.tape.trans h.tape, k.output.trans h.output, Nat.le_trans h.size k.size, fun i hi hF =>
    (k.block i (Nat.lt_of_lt_of_le hi h.size) (fun hg => by rcases hG i hg with h1 | h1; exact hF h1; omega)).trans (h.block i hi hF)⟩
theorem Apart.mono {F G : Nat → Prop} {a b : World} (h : Apart F a b) (hG : ∀ i, i < a.heap.size → F i → G i) : Apart G a b :=
  ⟨h.os, h.tape, h.output, h.size, fun i hi hg => h.block i hi (fun hf => hg (hG i hi hf))⟩
theorem Apart.drew {F : Nat → Prop} {a w : World} (h : Apart F a w) : Apart F a w.drew := ⟨h.os, h.tape, h.output, h.size, h.block⟩
theorem Apart.drewN {F : Nat → Prop} {a w : World} (h : Apart F a w) (n : Nat) : Apart F a (w.drewN n) := ⟨h.os, h.tape, h.output, h.size, h.block⟩
theorem Apart.undrew {F : Nat → Prop} {a w : World} (h : Apart F a.drew w) : Apart F a w := ⟨h.os, h.tape, h.output, h.size, h.block⟩
theorem Apart.alloc {F : Nat → Prop} {a w : World} (h : Apart F a w) (o : Obj) : Apart F a (w.alloc o) :=
  h.trans (G := fun _ => False) ⟨rfl, rfl, rfl, by simp, fun k hk _ => Below.heap_alloc _ _ _ hk⟩ (fun _ h => h.elim)
theorem Apart.setCell {F : Nat → Prop} {a w : World} (h : Apart F a w) {p : Addr} (hp : F p.block ∨ a.heap.size ≤ p.block) (u : Value) : Apart F a (w.setCell p u) :=
  h.trans (G := fun k => k = p.block) ⟨rfl, rfl, rfl, by simp [World.setCell], fun k _ hk => Below.heap_setCell _ _ _ _ hk⟩ (fun _ e => by subst e; exact hp)
theorem Apart.grown {F : Nat → Prop} {a w w' : World} {row : Option Nat} (h : Apart F a w) (hg : w.grownBy w' row) (hr : ∀ k, row = some k → F k ∨ a.heap.size ≤ k) : Apart F a w' :=
  h.trans (G := fun k => row = some k) ⟨hg.os, hg.tape, hg.output, hg.size, fun k hk hn => hg.block k hk (fun e => hn e.symm)⟩ hr
theorem Apart.below {F : Nat → Prop} {a w : World} {B : Nat} (h : Apart F a w) (hB : B ≤ a.heap.size) (hF : ∀ k, F k → B ≤ k) : Below B a w :=
  ⟨h.os, h.tape, h.output, h.size, fun k hk => h.block k (by omega) (fun hf => by have := hF k hf; omega)⟩
theorem Apart.of_below {F : Nat → Prop} {a w : World} {B : Nat} (h : Below B a w) (hB : ∀ k, B ≤ k → k < a.heap.size → F k) : Apart F a w :=
  ⟨h.os, h.tape, h.output, h.size, fun k hk hf => h.block k (Nat.lt_of_not_le fun hb => hf (hB k hb hk))⟩
theorem Apart.of_below' {F : Nat → Prop} {a w : World} (h : Below a.heap.size a w) : Apart F a w := Apart.of_below h fun k h1 h2 => by omega
theorem Apart.cell {F : Nat → Prop} {a w : World} (h : Apart F a w) {p : Addr} (hp : p.block < a.heap.size) (hF : ¬ F p.block) : w.cell? p = a.cell? p := World.cell?_of_block (w := a) (h.block p.block hp hF)

/-- The block that a slice's elements lie in. -/
def blockOf : Option Addr → Option Nat
  | some a => some a.block
  | none => none

theorem Bytes.apart {w w' : World} {B : Nat} {A : Option Addr} {l : List UInt8} {F : Nat → Prop} (h : Bytes w B A l) (ha : Apart F w w') (hB : B ≤ w.heap.size) (hF : ∀ k, blockOf A = some k → ¬ F k) : Bytes w' B A l := fun hn => by
  obtain ⟨b, o, e, hb, hc⟩ := h hn
  exact ⟨b, o, e, hb, fun i c hi => (ha.cell (p := ⟨b, o + i, none⟩) (by simp; omega) (hF b (by simp [e, blockOf]))).trans (hc i c hi)⟩

theorem Bytes.apart0 {w w' : World} {B : Nat} {A : Option Addr} {l : List UInt8} {F : Nat → Prop} (h : Bytes w B A l) (ha : Apart F w w') (hB : B ≤ w.heap.size) (hF : 0 < l.length → ∀ k, blockOf A = some k → ¬ F k) : Bytes w' B A l := fun hn => h.apart ha hB (hF hn) hn

/-- A slice of the call's own that holds bytes; g: its block. -/
def Row (w : World) (B : Nat) (e : TypeId) (g : Option Nat) (v : Value) (l : List UInt8) : Prop :=
  v.ownBlock = g ∧ w.ownsRow B e 1 v l.length (bytesV l)
/-- The block that a slice of the call's own lies in behind an append: the one it had, or a new one. -/
def Moved (w : World) (g g' : Option Nat) : Prop := g' = g ∨ ∃ k, g' = some k ∧ w.heap.size ≤ k

theorem Moved.refl (w : World) (g : Option Nat) : Moved w g g := .inl rfl
theorem Moved.trans {w w1 : World} {g g1 g2 : Option Nat} (h : Moved w g g1) (k : Moved w1 g1 g2) (hs : w.heap.size ≤ w1.heap.size) : Moved w g g2 := by
  rcases k with rfl | ⟨b, rfl, hb⟩
  · exact h
  · exact .inr ⟨b, rfl, by omega⟩

theorem Moved.undrew {w : World} {g g' : Option Nat} (h : Moved w.drew g g') : Moved w g g' := h

theorem Row.lt {w : World} {B : Nat} {e : TypeId} {g : Option Nat} {v : Value} {l : List UInt8} (h : Row w B e g v l) : ∀ k, g = some k → B ≤ k ∧ k < w.heap.size := fun k hk => h.2.lt k (h.1.trans hk)
theorem Row.apart {w w' : World} {B : Nat} {e : TypeId} {g : Option Nat} {v : Value} {l : List UInt8} {F : Nat → Prop} (h : Row w B e g v l) (ha : Apart F w w') (hF : ∀ k, g = some k → ¬ F k) : Row w' B e g v l := by
  refine ⟨h.1, h.2.1, ?_⟩
  rcases h.2.2 with hn | ⟨b, cap, cur, rfl, hb, hgg, rest⟩
  · exact .inl hn
  · refine .inr ⟨b, cap, cur, rfl, hb, ?_, rest⟩
    rw [ha.block b (Array.getElem?_eq_some_iff.1 hgg).1 (hF b (by rw [← h.1]; rfl))]
    exact hgg
theorem Row.alloc {w : World} {B : Nat} {e : TypeId} {g : Option Nat} {v : Value} {l : List UInt8} (h : Row w B e g v l) (o : Obj) : Row (w.alloc o) B e g v l := ⟨h.1, h.2.alloc o⟩
theorem Row.drew {w : World} {B : Nat} {e : TypeId} {g : Option Nat} {v : Value} {l : List UInt8} (h : Row w B e g v l) : Row w.drew B e g v l := h
theorem Row.drewN {w : World} {B : Nat} {e : TypeId} {g : Option Nat} {v : Value} {l : List UInt8} (h : Row w B e g v l) (n : Nat) : Row (w.drewN n) B e g v l := h
theorem Row.nil (w : World) (B : Nat) (e : TypeId) : Row w B e none (.slice none 0 0) [] := ⟨rfl, World.ownsRow_nil w B e 1⟩
theorem Row.lit (w : World) (B : Nat) (e : TypeId) (hB : B ≤ w.heap.size) : Row (w.alloc (.cells #[] e)) B e (some w.heap.size) (.slice (some ⟨w.heap.size, 0, none⟩) 0 0) [] :=
  ⟨rfl, World.ownsRow_lit (base := B) (e := e) (size := 1) w #[] 0 hB (by unfold maxLen; omega) rfl⟩
/-- How it reads. -/
theorem Row.bytes {w : World} {B : Nat} {e : TypeId} {g : Option Nat} {v : Value} {l : List UInt8} (h : Row w B e g v l) : ∃ A cap, v = .slice A l.length cap ∧ l.length ≤ cap ∧ blockOf A = g ∧ Bytes w w.heap.size A l := by
  obtain ⟨A, cap, rfl, _, h2, h3, h4⟩ := own_bytes h.2
  refine ⟨A, cap, rfl, h2, ?_, h3⟩
  have := h.1
  rcases h4 with rfl | ⟨k, rfl, _⟩ <;> exact this
theorem Row.slice {w : World} {B : Nat} {e : TypeId} {g : Option Nat} {v : Value} {l : List UInt8} (h : Row w B e g v l) : ∃ A n cap, v = .slice A n cap := by
  obtain ⟨A, cap, rfl, -⟩ := h.bytes
  exact ⟨_, _, _, rfl⟩
theorem Row.base {w : World} {B B' : Nat} {e : TypeId} {g : Option Nat} {v : Value} {l : List UInt8} (h : Row w B e g v l) (hg : ∀ k, g = some k → B' ≤ k) : Row w B' e g v l := by
  refine ⟨h.1, h.2.1, ?_⟩
  rcases h.2.2 with hn | ⟨b, cap, cur, rfl, hb, rest⟩
  · exact .inl hn
  · exact .inr ⟨b, cap, cur, rfl, hg b (by rw [← h.1]; rfl), rest⟩

section
variable {P : Program}

theorem append_block {w : World} (base : Nat) (t ty e : TypeId) (i : TypeInfo) (z : Value) (bytes : Nat) (ht : P.underlying t = some (.slice e)) (hi : P.info? e = some i) (hz : i.zero = some z)
    (hsize : i.size = 1) (hby : i.bytes = bytes) (v : Value) (n : Nat) (xs : List Value) (hown : w.ownsRow base e 1 v n xs)
    (a : Addr) (m c : Nat) (news : List Value) (hl : news.length = m) (hnews : ∀ j u, news[j]? = some u → w.cell? (a.add j) = some u) (h1 : ∀ u ∈ news, u.oneCell' = true)
    (h63 : n + m ≤ maxLen) (hbytes : (n + m) * bytes ≤ 140737488355328) {v' : Value} {w' : World}
    (hr : (Builtin.append_ #[t, t] ty #[v, .slice (some a) m c]).run P w = .ok v' w') (hm0 : v' = .slice none 0 0 ↔ v = .slice none 0 0 ∧ m = 0) : v'.ownBlock = v.ownBlock ∨ v'.ownBlock = some w.heap.size := by
  have hsmall : n + m ≤ 9223372036854775807 := by simp only [maxLen] at h63; omega
  rcases hown.2 with ⟨rfl, rfl⟩ | ⟨g, cap, cur, rfl, hbg, hg, hnc, hcm, hcs, htake⟩
  · by_cases hm : m = 0
    · exact .inl (by rw [hm0.2 ⟨rfl, hm⟩])
    · have hr2 := run_append_nil (P := P) w t ty e i z ht hi hz a m c news (by rw [hsize]; omega) hnews (by omega) (by omega) (by rw [hby]; have hb := hbytes; simp only [Nat.zero_add] at hb; omega)
      obtain ⟨rfl, -⟩ := Result.ok.inj (hr.symm.trans hr2)
      exact .inr rfl
  · by_cases hroom : n + m ≤ cap
    · have hr2 := run_append_room (P := P) w t ty e i ht hi g n cap cur hg a m c news (by rw [hsize]; omega) hnews h1 hroom (by rw [hsize, hl, hcs]; omega)
      obtain ⟨rfl, -⟩ := Result.ok.inj (hr.symm.trans hr2)
      exact .inl rfl
    · have hr2 := run_append_grow (P := P) w t ty e i z ht hi hz ⟨g, 0, none⟩ n cap xs (by rw [hsize]; exact hown.1) (hown.cells (g := g) rfl) a m c news (by rw [hsize]; omega) hnews (by omega) (by omega) (by rw [hby]; exact growslice_fits (by omega) hbytes)
      obtain ⟨rfl, -⟩ := Result.ok.inj (hr.symm.trans hr2)
      exact .inr rfl

/-- append of bytes, wherever they lie, to a slice that the call owns: what is written, and where it lies then. -/
theorem wp_append_r {w0 : World} {o : Oper} {a : Act} {K : Act → World → Prop} {Q : Exit → Act → World → Prop} (s x : Operand) (t : TypeId)
    (ho : o.op = .call { callee := .builtin .append, args := #[s, x], argTypes := #[t, t] }) (B : Nat) (e : TypeId) (z : Value)
    (ht : P.underlying t = some (.slice e)) (hinfo : (P.info? e).map (fun i => (i.zero, i.size, i.bytes)) = some (some z, 1, 1)) (hzs : z.cells.size = 1)
    (v : Value) (g : Option Nat) (xs : List UInt8) (hs : a.eval s = v) (hown : Row w0 B e g v xs) (C : Nat) (A : Option Addr) (m c : Nat) (l : List UInt8) (hx : a.eval x = .slice A m c) (hm : l.length = m) (hr : Bytes w0 C A l)
    (hn : xs.length + m ≤ 140737488355328) (hB : B ≤ w0.heap.size)
    (h : ∀ v' w' g', Row w' B e g' v' (xs ++ l) → Moved w0 g g' → Apart (fun k => g = some k) w0 w' → K (a.put o.dst v') w') :
    o.wp P a w0 K Q := by
  obtain ⟨i, hi, hz, hsize, hbytes⟩ := info_parts hinfo
  obtain ⟨hg, hown⟩ := hown
  subst hg
  rcases A with _ | ad
  · have h0 : m = 0 := by
      rcases Nat.eq_zero_or_pos m with h0 | h0
      · exact h0
      · obtain ⟨_, _, h, _⟩ := hr (by omega)
        cases h
    subst h0
    obtain rfl := List.eq_nil_of_length_eq_zero hm
    have hrun : (Builtin.append_ #[t, t] o.type #[v, .slice none 0 c]).run P w0 = .ok v w0 := by
      rcases hown.2 with ⟨rfl, -⟩ | ⟨g, cap, cur, rfl, _, _, hnc, _⟩
      · simp [Builtin.append_, run_underlying ht, sizeOf, typeInfo, hi, Builtin.lenOf, Builtin.firstCells]
      · simp [Builtin.append_, run_underlying ht, sizeOf, typeInfo, hi, Builtin.lenOf, Builtin.firstCells, hnc, storeCells]
    unfold Oper.wp execOp
    simp only [ho, resolve, invoke, builtin, Sem.run_bind, Sem.run_pure, Result.andThen_ok, List.map_toArray, List.map_cons, List.map_nil, hs, hx, hrun]
    exact h v w0 v.ownBlock (by rw [List.append_nil]; exact ⟨rfl, hown⟩) (Moved.refl _ _) (Apart.refl _ _)
  · have hnews : ∀ j u, (bytesV l)[j]? = some u → w0.cell? (ad.add j) = some u := by
      intro j u hj
      obtain ⟨b, hb, rfl⟩ := bytesV_at hj
      obtain ⟨g, of, e1, _, hc⟩ := hr (by have := (List.getElem?_eq_some_iff.1 hb).1; omega)
      injection e1 with e1
      subst e1
      rw [addr_addB]
      exact hc j b hb
    have h63 : xs.length + m ≤ maxLen := by unfold maxLen; omega
    have hby : (xs.length + m) * 1 ≤ 140737488355328 := by omega
    obtain ⟨v', w', hrun, h2, h3, h4⟩ := run_append_own (P := P) w0 B t o.type e i z 1 1 ht hi hz hsize hbytes hzs (by decide) v xs.length (bytesV xs) hown ad m c (bytesV l) (by rw [bytesV_length]; omega) hnews (bytesV_one l) h63 hby hB
    have hblk := append_block (P := P) B t o.type e i z 1 ht hi hz hsize hbytes v xs.length (bytesV xs) hown ad m c (bytesV l) (by rw [bytesV_length]; omega) hnews (bytesV_one l) h63 hby hrun h4
    unfold Oper.wp execOp
    simp only [ho, resolve, invoke, builtin, Sem.run_bind, Sem.run_pure, Result.andThen_ok, List.map_toArray, List.map_cons, List.map_nil, hs, hx, hrun]
    refine h v' w' v'.ownBlock ⟨rfl, ?_⟩ ?_ ?_
    · rw [bytesV_append, List.length_append, hm]; exact h2
    · rcases hblk with e1 | e1
      · exact .inl e1
      · exact .inr ⟨_, e1, Nat.le_refl _⟩
    · exact (Apart.refl _ _).grown h3 fun k hk => .inl hk

theorem wpList_append_r {w0 : World} {ops : Array Oper} {rest : List Oper} {o : Oper} {a : Act} {Q : Exit → Act → World → Prop} (hgd : o.guard = none) (s x : Operand) (t : TypeId)
    (ho : o.op = .call { callee := .builtin .append, args := #[s, x], argTypes := #[t, t] }) (B : Nat) (e : TypeId) (z : Value)
    (ht : P.underlying t = some (.slice e)) (hinfo : (P.info? e).map (fun i => (i.zero, i.size, i.bytes)) = some (some z, 1, 1)) (hzs : z.cells.size = 1)
    (v : Value) (g : Option Nat) (xs : List UInt8) (hs : a.eval s = v) (hown : Row w0 B e g v xs) (C : Nat) (A : Option Addr) (m c : Nat) (l : List UInt8) (hx : a.eval x = .slice A m c) (hm : l.length = m) (hr : Bytes w0 C A l)
    (hn : xs.length + m ≤ 140737488355328) (hB : B ≤ w0.heap.size)
    (h : ∀ v' w' g', Row w' B e g' v' (xs ++ l) → Moved w0 g g' → Apart (fun k => g = some k) w0 w' → wpList P ops Q rest (a.put o.dst v') w') :
    wpList P ops Q (o :: rest) a w0 :=
  wpList_plain hgd fun _ hK => wp_append_r s x t ho B e z ht hinfo hzs v g xs hs hown C A m c l hx hm hr hn hB fun v' w' g' h1 h2 h3 => hK _ _ (h v' w' g' h1 h2 h3)

/-- The same as one step of a region that draws. -/
theorem step_append_r {w0 : World} {ops : Array Oper} {o : Oper} {a : Act} {K : Act → World → Prop} {Q : Exit → Act → World → Prop} {E : Prop} (hgd : o.guard = none) (s x : Operand) (t : TypeId)
    (ho : o.op = .call { callee := .builtin .append, args := #[s, x], argTypes := #[t, t] }) (B : Nat) (e : TypeId) (z : Value)
    (ht : P.underlying t = some (.slice e)) (hinfo : (P.info? e).map (fun i => (i.zero, i.size, i.bytes)) = some (some z, 1, 1)) (hzs : z.cells.size = 1)
    (v : Value) (g : Option Nat) (xs : List UInt8) (hs : a.eval s = v) (hown : Row w0 B e g v xs) (C : Nat) (A : Option Addr) (m c : Nat) (l : List UInt8) (hx : a.eval x = .slice A m c) (hm : l.length = m) (hr : Bytes w0 C A l)
    (hn : xs.length + m ≤ 140737488355328) (hB : B ≤ w0.heap.size)
    (h : ∀ v' w' g', Row w' B e g' v' (xs ++ l) → Moved w0 g g' → Apart (fun k => g = some k) w0 w' → K (a.put o.dst v') w') :
    if Region.wanted o (yielded ops a.tmps) = true then Oper.wp P o a w0 K Q else E := by
  have hw : Region.wanted o (yielded ops a.tmps) = true := by simp [Region.wanted, hgd]
  rw [if_pos hw]
  exact wp_append_r s x t ho B e z ht hinfo hzs v g xs hs hown C A m c l hx hm hr hn hB h

/-- append of one byte to a slice that the call owns. -/
theorem wpList_append_r1 {w0 : World} {ops : Array Oper} {rest : List Oper} {o : Oper} {a : Act} {Q : Exit → Act → World → Prop} (hgd : o.guard = none) (s x : Operand) (t : TypeId)
    (ho : o.op = .call { callee := .builtin .append, args := #[s, x], argTypes := #[t, t] }) (B : Nat) (e : TypeId) (z : Value)
    (ht : P.underlying t = some (.slice e)) (hinfo : (P.info? e).map (fun i => (i.zero, i.size, i.bytes)) = some (some z, 1, 1)) (hzs : z.cells.size = 1)
    (v : Value) (g : Option Nat) (xs : List UInt8) (hs : a.eval s = v) (hown : Row w0 B e g v xs) (N cap : Nat) (b : Int) (hx : a.eval x = .slice (some ⟨N, 0, none⟩) 1 cap) (hN : N = w0.heap.size) (c : UInt8) (hc : b = (c.toNat : Nat))
    (hn : xs.length + 1 ≤ 140737488355328) (hB : B ≤ w0.heap.size)
    (h : ∀ v' w' g', Row w' B e g' v' (xs ++ [c]) → Moved w0 g g' → Apart (fun k => g = some k) w0 w' → wpList P ops Q rest (a.put o.dst v') w') :
    wpList P ops Q (o :: rest) a (w0.alloc (.cells #[.int .u8 b] e)) := by
  subst hc hN
  refine wpList_append_r hgd s x t ho B e z ht hinfo hzs v g xs hs (hown.alloc _) (w0.heap.size + 1) _ 1 cap [c] hx rfl ?_ hn (by simp; omega) ?_
  · intro _
    refine ⟨w0.heap.size, 0, rfl, by omega, fun i c' hi => ?_⟩
    match i, hi with
    | 0, hi => simp at hi; subst hi; simp
  · intro v' w' g' h1 h2 h3
    have h0 : Apart (fun k => g = some k) w0 (w0.alloc (.cells #[.int .u8 (c.toNat : Nat)] e)) := (Apart.refl _ _).alloc _
    refine h v' w' g' h1 ?_ (h0.trans h3 fun _ e => .inl e)
    rcases h2 with e1 | ⟨k, e1, e2⟩
    · exact .inl e1
    · exact .inr ⟨k, e1, by simp at e2; omega⟩
end
end Go.Proofs.Ythihdbcclocbkaa
