/- Bytes in memory: what a slice of bytes reads as; append, conversion to a string, cutting. Over whatever program. No conditions beyond those that each states. -/
import Derived.WalkKit
import Derived.Lib.Hide
import Derived.Outline
import Derived.OwnWalk
import Derived.Below
import Derived.Laws.BytesArg
import Derived.Laws.OwnMore
import Derived.Deep.AppendLies
import Derived.Laws.BitsAllLaws
namespace Go.Proofs.Ythihdbcclocbkaa
open Go.RowKit

theorem ret_int {k : IntKind} {a b : Int} (h : a = b) : Ending.returned (.int k a) = .returned (.int k b) := by rw [h]

/-- A slice's bytes in memory, below block B. -/
def Bytes (w : World) (B : Nat) (A : Option Addr) (l : List UInt8) : Prop :=
  0 < l.length → ∃ b o, A = some ⟨b, o, none⟩ ∧ b < B ∧ ∀ i c, l[i]? = some c → w.cell? ⟨b, o + i, none⟩ = some (.int .u8 (c.toNat : Nat))

theorem Bytes.none_ {w : World} {B : Nat} {A : Option Addr} : Bytes w B A [] := fun h => absurd h (by simp)
theorem Bytes.keep {w w' : World} {B : Nat} {A : Option Addr} {l : List UInt8} (h : Bytes w B A l) (hk : ∀ p : Addr, p.block < B → w'.cell? p = w.cell? p) : Bytes w' B A l := fun hn => by
  obtain ⟨b, o, e, hb, hc⟩ := h hn
  exact ⟨b, o, e, hb, fun i c hi => (hk _ hb).trans (hc i c hi)⟩
theorem Bytes.more {w : World} {B B' : Nat} {A : Option Addr} {l : List UInt8} (h : Bytes w B A l) (hB : B ≤ B') : Bytes w B' A l := fun hn => by
  obtain ⟨b, o, e, hb, hc⟩ := h hn
  exact ⟨b, o, e, by omega, hc⟩
theorem Bytes.below {w w' : World} {B C : Nat} {A : Option Addr} {l : List UInt8} (h : Bytes w B A l) (hb : Below C w w') (hB : B ≤ C) : Bytes w' B A l := h.keep fun _ hp => hb.cell (by omega)
theorem Bytes.take {w : World} {B : Nat} {A : Option Addr} {l : List UInt8} (h : Bytes w B A l) (n : Nat) : Bytes w B A (l.take n) := fun hn => by
  have hl : (l.take n).length ≤ l.length := by simp; omega
  obtain ⟨b, o, e, hb, hc⟩ := h (by omega)
  refine ⟨b, o, e, hb, fun i c hi => hc i c ?_⟩
  rw [List.getElem?_take] at hi
  split at hi
  · exact hi
  · cases hi
theorem Bytes.at_ {w : World} {B : Nat} {A : Option Addr} {l : List UInt8} (h : Bytes w B A l) {k : Nat} (hk : k < l.length) : ∃ b o, A = some ⟨b, o, none⟩ ∧ b < B ∧ w.cell? ⟨b, o + k, none⟩ = some (.int .u8 (l[k].toNat : Nat)) := by
  obtain ⟨b, o, e, hb, hc⟩ := h (by omega)
  exact ⟨b, o, e, hb, hc k _ (List.getElem?_eq_getElem hk)⟩


theorem Bytes.alloc {w : World} {B : Nat} {A : Option Addr} {l : List UInt8} (h : Bytes w B A l) (hB : B ≤ w.heap.size) (o : Obj) : Bytes (w.alloc o) B A l :=
  h.keep fun p hp => World.cell?_alloc_lt w o p (by omega)
theorem Bytes.drew {w : World} {B : Nat} {A : Option Addr} {l : List UInt8} (h : Bytes w B A l) : Bytes w.drew B A l := h
theorem Bytes.setCell {w : World} {B : Nat} {A : Option Addr} {l : List UInt8} (h : Bytes w B A l) {p : Addr} (hB : B ≤ p.block) (u : Value) : Bytes (w.setCell p u) B A l :=
  h.keep fun q hq => World.cell?_setCell_other w p q u (fun e => by subst e; omega)
theorem Bytes.grown {w w' : World} {B : Nat} {A : Option Addr} {l : List UInt8} (h : Bytes w B A l) {row : Option Nat} (hg : w.grownBy w' row) (hB : B ≤ w.heap.size) (hr : ∀ g, row = some g → B ≤ g) : Bytes w' B A l :=
  h.keep fun p hp => World.cell?_of_block (hg.block p.block (by omega) (fun e => by have := hr _ e.symm; omega))

/-- The values of bytes. -/
def bytesV (l : List UInt8) : List Value := l.map fun c => .int .u8 (c.toNat : Nat)
theorem bytesV_length (l : List UInt8) : (bytesV l).length = l.length := by simp [bytesV]
theorem bytesV_append (x y : List UInt8) : bytesV (x ++ y) = bytesV x ++ bytesV y := by simp [bytesV]
theorem bytesV_at {l : List UInt8} {j : Nat} {u : Value} (h : (bytesV l)[j]? = some u) : ∃ c, l[j]? = some c ∧ u = .int .u8 (c.toNat : Nat) := by
  simp only [bytesV, List.getElem?_map] at h
  cases hc : l[j]? with
  | none => rw [hc] at h; cases h
  | some c => rw [hc] at h; exact ⟨c, rfl, (Option.some.inj h).symm⟩
theorem bytesV_one (l : List UInt8) : ∀ u ∈ bytesV l, u.oneCell' = true := by
  intro u hu
  simp only [bytesV, List.mem_map] at hu
  obtain ⟨c, _, rfl⟩ := hu
  rfl

theorem addr_addB (b o n : Nat) : (⟨b, o, none⟩ : Addr).add n = ⟨b, o + n, none⟩ := by
  unfold Addr.add
  split <;> simp_all
theorem addr_add0 (b n : Nat) : (⟨b, 0, none⟩ : Addr).add n = ⟨b, 0 + n, none⟩ := addr_addB b 0 n

/-- A slice of the call's own that holds bytes: how it reads. -/
theorem own_bytes {w : World} {base : Nat} {e : TypeId} {v : Value} {n : Nat} {l : List UInt8} (h : w.ownsRow base e 1 v n (bytesV l)) :
    ∃ A cap, v = .slice A n cap ∧ l.length = n ∧ n ≤ cap ∧ Bytes w w.heap.size A l ∧ (A = none ∨ ∃ g, A = some ⟨g, 0, none⟩ ∧ base ≤ g) := by
  have hl : l.length = n := by have := h.1; rw [bytesV_length] at this; omega
  rcases h.2 with ⟨rfl, rfl⟩ | ⟨g, cap, cur, rfl, hb, hg, hnc, _, hsz, hx⟩
  · obtain rfl := List.eq_nil_of_length_eq_zero hl
    exact ⟨none, 0, rfl, rfl, Nat.le_refl _, Bytes.none_, .inl rfl⟩
  · refine ⟨some ⟨g, 0, none⟩, cap, rfl, hl, hnc, fun hn => ⟨g, 0, rfl, (Array.getElem?_eq_some_iff.1 hg).1, fun i c hi => ?_⟩, .inr ⟨g, rfl, hb⟩⟩
    have hv : (bytesV l)[i]? = some (.int .u8 (c.toNat : Nat)) := by simp [bytesV, hi]
    have := World.ownsRow.cells h (g := g) (by simp [Value.ownBlock]) i _ hv
    rwa [addr_add0] at this

section
variable {P : Program}

/-- append of bytes, wherever they lie, to a slice that the call owns. -/
theorem wpList_append_b {w0 : World} {ops : Array Oper} {rest : List Oper} {o : Oper} {a : Act} {Q : Exit → Act → World → Prop} (hgd : o.guard = none) (s x : Operand) (t : TypeId)
    (ho : o.op = .call { callee := .builtin .append, args := #[s, x], argTypes := #[t, t] }) (base : Nat) (e : TypeId) (z : Value)
    (ht : P.underlying t = some (.slice e)) (hinfo : (P.info? e).map (fun i => (i.zero, i.size, i.bytes)) = some (some z, 1, 1)) (hzs : z.cells.size = 1)
    (v : Value) (n : Nat) (xs : List Value) (hs : a.eval s = v) (hown : w0.ownsRow base e 1 v n xs) (B : Nat) (A : Option Addr) (m c : Nat) (l : List UInt8) (hx : a.eval x = .slice A m c) (hm : l.length = m) (hr : Bytes w0 B A l)
    (hn : n + m ≤ 1000000000000) (hbase : base ≤ w0.heap.size)
    (h : ∀ v' w', w'.ownsRow base e 1 v' (n + m) (xs ++ bytesV l) → w0.grownBy w' v.ownBlock → Below base w0 w' → wpList P ops Q rest (a.put o.dst v') w') :
    wpList P ops Q (o :: rest) a w0 := by
  obtain ⟨i, hi, hz, hsize, hbytes⟩ := info_parts hinfo
  have hbl : ∀ w', w0.grownBy w' v.ownBlock → Below base w0 w' := fun w' hg => (Below.refl base w0).grown hg hbase (fun k hk => (hown.lt k hk).1)
  rcases A with _ | ad
  · have h0 : m = 0 := by
      rcases Nat.eq_zero_or_pos m with h0 | h0
      · exact h0
      · obtain ⟨_, _, h, _⟩ := hr (by omega)
        cases h
    subst h0
    obtain rfl := List.eq_nil_of_length_eq_zero hm
    refine wpList_plain hgd fun K hK => ?_
    have hrun : (Builtin.append_ #[t, t] o.type #[v, .slice none 0 c]).run P w0 = .ok v w0 := by
      rcases hown.2 with ⟨rfl, rfl⟩ | ⟨g, cap, cur, rfl, _, _, hnc, _⟩
      · simp [Builtin.append_, run_underlying ht, sizeOf, typeInfo, hi, Builtin.lenOf, Builtin.firstCells]
      · simp [Builtin.append_, run_underlying ht, sizeOf, typeInfo, hi, Builtin.lenOf, Builtin.firstCells, hnc, storeCells]
    unfold Oper.wp execOp
    simp only [ho, resolve, invoke, builtin, Sem.run_bind, Sem.run_pure, Result.andThen_ok, List.map_toArray, List.map_cons, List.map_nil, hs, hx, hrun]
    exact hK _ _ (h v w0 (by simpa [bytesV] using hown) (World.grownBy.refl w0 _) (Below.refl _ _))
  · refine wpList_append_own _ hgd s x t ho base e i z 1 1 ht hi hz hsize hbytes hzs (by decide) v n xs hs hown ad m c (bytesV l) hx (by rw [bytesV_length]; omega) ?_ (bytesV_one l) (by unfold maxLen; omega) (by omega) hbase ?_
    · intro j u hj
      obtain ⟨b, hb, rfl⟩ := bytesV_at hj
      obtain ⟨g, of, e1, _, hc⟩ := hr (by have := (List.getElem?_eq_some_iff.1 hb).1; omega)
      injection e1 with e1
      subst e1
      rw [addr_addB]
      exact hc j b hb
    · intro v' w' h1 h2 _
      exact h v' w' h1 h2 (hbl w' h2)

/-- append of one byte to a slice that the call owns. -/
theorem wpList_append_1 {w0 : World} {ops : Array Oper} {rest : List Oper} {o : Oper} {a : Act} {Q : Exit → Act → World → Prop} (hgd : o.guard = none) (s x : Operand) (t : TypeId)
    (ho : o.op = .call { callee := .builtin .append, args := #[s, x], argTypes := #[t, t] }) (base : Nat) (e : TypeId) (z : Value)
    (ht : P.underlying t = some (.slice e)) (hinfo : (P.info? e).map (fun i => (i.zero, i.size, i.bytes)) = some (some z, 1, 1)) (hzs : z.cells.size = 1)
    (v : Value) (n : Nat) (xs : List Value) (hs : a.eval s = v) (hown : w0.ownsRow base e 1 v n xs) (c : Nat) (u : Value) (hx : a.eval x = .slice (some ⟨w0.heap.size, 0, none⟩) 1 c) (h1 : u.oneCell' = true)
    (hn : n + 1 ≤ 1000000000000) (hbase : base ≤ w0.heap.size)
    (h : ∀ v' w', w'.ownsRow base e 1 v' (n + 1) (xs ++ [u]) → Below base w0 w' → wpList P ops Q rest (a.put o.dst v') w') :
    wpList P ops Q (o :: rest) a (w0.alloc (.cells #[u] e)) := by
  obtain ⟨i, hi, hz, hsize, hbytes⟩ := info_parts hinfo
  have hown' : (w0.alloc (.cells #[u] e)).ownsRow base e 1 v n xs := hown.alloc _
  refine wpList_append_own _ hgd s x t ho base e i z 1 1 ht hi hz hsize hbytes hzs (by decide) v n xs hs (hown.alloc _) ⟨w0.heap.size, 0, none⟩ 1 c [u] hx rfl ?_ ?_ (by unfold maxLen; omega) (by omega) (by simp; omega) ?_
  · intro j u' hj
    match j, hj with
    | 0, hj => simp at hj; subst hj; simp [Addr.add]
  · intro u' hu; simp at hu; subst hu; exact h1
  · intro v' w' ho' hg _
    exact h v' w' ho' (((Below.refl base w0).alloc hbase _).grown hg (by simp; omega) (fun k hk => (hown'.lt k hk).1))

/-- s[:h]. -/
theorem run_slice_to (W : World) (t e : TypeId) (ht : P.underlying t = some (.slice e)) (hz : ∀ w, (Go.sizeOf e).run P w = .ok 1 w) (A : Option Addr) (len cap : Nat) (h : Int) (h0 : 0 ≤ h) (h2 : h ≤ cap) :
    (Instr.slice t (.slice A len cap) none (some (.int .i64 h)) none).run P W = .ok (.slice A h.toNat cap) W := by
  have ht' : P.underlying t = some (.slice (P.elem t)) := by simp [Program.elem, ht]
  have he : P.elem t = e := by simp [Program.elem, ht]
  rw [run_slice_h W t _ _ _ ht' .i64 _ h0 h2, he, hz]
  have ha : A.map (fun x : Addr => x.add (0 * 1)) = A := by cases A <;> simp [Addr.add]
  simp only [Result.andThen, sliced, Nat.sub_zero]
  rw [ha]
  split <;> rfl

/-- string(b). -/
theorem run_convert_b (w : World) (src e : TypeId) (hs : P.underlying src = some (.slice e)) (he : P.underlying e = some (.int .u8)) (B : Nat) (A : Option Addr) (l : List UInt8) (n cap : Nat) (hn : l.length = n) (h : Bytes w B A l) (dst : TypeId) (hd : P.underlying dst = some .string) :
    (convert src dst (.slice A n cap)).run P w = .ok (.string ⟨l.toArray⟩) w := by
  subst hn
  rcases Nat.eq_zero_or_pos l.length with h0 | h0
  · obtain rfl := List.eq_nil_of_length_eq_zero h0
    rcases A with _ | ⟨b, o, sp⟩
    · rw [run_convert_bytes_nil w src e hs he _ _ dst hd]; rfl
    · have hlc : (loadCells ⟨b, o, sp⟩ 0).run P w = .ok (([] : List Int).map (Value.int .u8)).toArray w := by
        have := run_loadCells_list (P := P) w ⟨b, o, sp⟩ [] (fun j v hj => by simp at hj)
        simpa using this
      rw [run_convert_bytes_string w src dst e _ _ cap hs he hd, List.length_nil, run_bytesToString w _ 0 cap [] hlc]
      rfl
  · obtain ⟨b, o, rfl, _, hc⟩ := h h0
    have := run_convert_bytes_arg (P := P) w src e hs he b o l.length cap (l.map fun c => (c.toNat : Int)) (by simp) (fun i hi => by
      rw [hc i _ (List.getElem?_eq_getElem hi)]
      simp [List.getD, List.getElem?_eq_getElem hi]) dst hd
    rw [this]
    congr 2
    unfold strOfNums
    congr 1
    rw [List.map_map]
    congr 1
    conv => rhs; rw [← List.map_id l]
    apply List.map_congr_left
    intro c _
    simp
end
end Go.Proofs.Ythihdbcclocbkaa
