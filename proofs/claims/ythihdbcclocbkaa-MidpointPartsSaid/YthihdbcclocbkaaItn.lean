/- More on rows of elements that a call owns: cut, apart by their types; slices of them. Over whatever program. No conditions beyond those that each states. -/
import Derived.Test.YthihdbcclocbkaaItm
import Derived.Deep.RegionHeld3
namespace Go.Proofs.Ythihdbcclocbkaa
open Go.RowKit

/-- A row lies in no block of another type. -/
theorem own_off {W : World} {B e size n T : Nat} {v : Value} {xs : List Value} {cs : Array Value} {t : TypeId} (h : W.ownsRow B e size v n xs) (hT : W.heap[T]? = some (.cells cs t (0, 0))) (hne : e ≠ t) (q : Nat) (hq : v.ownBlock = some q) : q ≠ T := fun e1 => by
  subst e1
  rcases h.2 with ⟨rfl, -⟩ | ⟨g, cap, cur, rfl, -, hg, -⟩
  · simp [Value.ownBlock] at hq
  · simp [Value.ownBlock] at hq
    subst hq
    rw [hT] at hg
    simp at hg
    exact hne hg.2.symm
theorem wpAnyH_gen {P : Program} {md : Region.Mode} {ops : Array Oper} {Q : Exit → Act → World → Prop} {S : World → Prop} {fuel : Nat} {listed : Array Bool} {a : Act} {w : World} (h : ∀ W, W = w → wpAnyH P md ops Q S fuel listed a W) : wpAnyH P md ops Q S fuel listed a w := h w rfl
theorem own_tag6 {w : World} {B B' e e' size size' n n' : Nat} {v v' : Value} {xs xs' : List Value} (h : w.ownsRow B e size v n xs) (h' : w.ownsRow B' e' size' v' n' xs') (hne : e ≠ e') (q : Nat) (hq : v.ownBlock = some q) : v'.ownBlock ≠ some q := fun hq' => by
  rcases h'.2 with ⟨rfl, -⟩ | ⟨g, cap, cur, rfl, -, hg, -⟩
  · simp [Value.ownBlock] at hq'
  · simp [Value.ownBlock] at hq'
    subst hq'
    exact own_off h hg hne _ hq rfl
theorem own_cut {w : World} {B e size g n cap k : Nat} {xs : List Value} (h : w.ownsRow B e size (.slice (some ⟨g, 0, none⟩) n cap) n xs) (hk : k ≤ n) : w.ownsRow B e size (.slice (some ⟨g, 0, none⟩) k cap) k (xs.take (k * size)) := by
  have hm := Nat.mul_le_mul_right size hk
  refine ⟨by rw [List.length_take, h.1]; omega, ?_⟩
  rcases h.2 with ⟨h1, -⟩ | ⟨g', cap', cur, h1, h2, h3, h4, h5, h6, h7⟩
  · cases h1
  · cases h1
    exact .inr ⟨g, cap, cur, rfl, h2, h3, by omega, h5, h6, by rw [← h7, List.take_take, Nat.min_eq_left hm]⟩
theorem items_take {α : Type} {vals : α → List Value} {size : Nat} (hs : ∀ x, (vals x).length = size) : ∀ (l : List α) (k : Nat), (itemsV vals l).take (k * size) = itemsV vals (l.take k)
  | [], k => by simp [itemsV]
  | x :: r, 0 => by simp [itemsV]
  | x :: r, k + 1 => by
    have ih := items_take hs r k
    have e : (k + 1) * size = (vals x).length + k * size := by rw [hs x, Nat.add_mul, Nat.one_mul, Nat.add_comm]
    simp only [itemsV, List.flatMap_cons, List.take_succ_cons] at ih ⊢
    rw [e, List.take_length_add_append, ih]
theorem items_drop {α : Type} {vals : α → List Value} {size : Nat} (hs : ∀ x, (vals x).length = size) : ∀ (l : List α) (k : Nat), (itemsV vals l).drop (k * size) = itemsV vals (l.drop k)
  | [], k => by simp [itemsV]
  | x :: r, 0 => by simp [itemsV]
  | x :: r, k + 1 => by
    have ih := items_drop hs r k
    have e : (k + 1) * size = (vals x).length + k * size := by rw [hs x, Nat.add_mul, Nat.one_mul, Nat.add_comm]
    simp only [itemsV, List.flatMap_cons, List.drop_succ_cons] at ih ⊢
    rw [e, List.drop_length_add_append, ih]
section
variable {P : Program}
/-- s[lo:], of elements of so many cells each. -/
theorem run_slice_froms (W : World) (t e : TypeId) (sz : Nat) (ht : P.underlying t = some (.slice e)) (hz : ∀ w, (Go.sizeOf e).run P w = .ok sz w) (b o : Nat) (len cap : Nat) (lo : Int) (k : Nat) (hlo : lo = k) (h1 : k ≤ len) :
    (Instr.slice t (.slice (some ⟨b, o, none⟩) len cap) (some (.int .i64 lo)) none none).run P W = .ok (.slice (some (if cap = k then ⟨b, o, none⟩ else ⟨b, o + k * sz, none⟩)) (len - k) (cap - k)) W := by
  subst hlo
  have ht' : P.underlying t = some (.slice (P.elem t)) := by simp [Program.elem, ht]
  have he : P.elem t = e := by simp [Program.elem, ht]
  rw [run_slice_l W t _ _ _ ht' .i64 _ (by omega) (by omega), he, hz]
  have ha : (⟨b, o, none⟩ : Addr).add (k * sz) = ⟨b, o + k * sz, none⟩ := addr_addB b o (k * sz)
  simp only [Result.andThen, sliced, Int.toNat_natCast]
  by_cases h : cap = k
  · rw [if_pos h, if_pos h]
  · rw [if_neg h, if_neg h]
    simp [ha]
/-- s[:h], of elements of so many cells each. -/
theorem run_slice_front (W : World) (t e : TypeId) (sz : Nat) (ht : P.underlying t = some (.slice e)) (hz : ∀ w, (Go.sizeOf e).run P w = .ok sz w) (A : Option Addr) (len cap : Nat) (h : Int) (k : Nat) (hk : h = k) (h2 : k ≤ cap) :
    (Instr.slice t (.slice A len cap) none (some (.int .i64 h)) none).run P W = .ok (.slice A k cap) W := by
  subst hk
  have ht' : P.underlying t = some (.slice (P.elem t)) := by simp [Program.elem, ht]
  have he : P.elem t = e := by simp [Program.elem, ht]
  rw [run_slice_h W t _ _ _ ht' .i64 _ (by omega) (by omega), he, hz]
  have ha : A.map (fun x : Addr => x.add (0 * sz)) = A := by cases A <;> simp [Addr.add]
  simp only [Result.andThen, sliced, Nat.sub_zero, Int.toNat_natCast]
  rw [ha]
  split <;> rfl
/-- s[:h:h]. -/
theorem run_slice_full (W : World) (t e : TypeId) (sz : Nat) (ht : P.underlying t = some (.slice e)) (hz : ∀ w, (Go.sizeOf e).run P w = .ok sz w) (A : Option Addr) (len cap : Nat) (h : Int) (k : Nat) (hk : h = k) (h2 : k ≤ cap) :
    (Instr.slice t (.slice A len cap) none (some (.int .i64 h)) (some (.int .i64 h))).run P W = .ok (.slice A k k) W := by
  subst hk
  have ht' : P.underlying t = some (.slice (P.elem t)) := by simp [Program.elem, ht]
  have he : P.elem t = e := by simp [Program.elem, ht]
  rw [run_slice_hm W t _ _ _ ht' .i64 .i64 _ _ (by omega) (by omega) (by omega), he, hz]
  have ha : A.map (fun x : Addr => x.add (0 * sz)) = A := by cases A <;> simp [Addr.add]
  simp only [Result.andThen, sliced, Nat.sub_zero, Int.toNat_natCast]
  rw [ha]
  split <;> rfl
theorem step_append_m {w0 : World} {ops : Array Oper} {o : Oper} {a : Act} {K : Act → World → Prop} {Q : Exit → Act → World → Prop} {E : Prop} (hgd : o.guard = none) (s x : Operand) (t : TypeId)
    (ho : o.op = .call { callee := .builtin .append, args := #[s, x], argTypes := #[t, t] }) (B : Nat) (e : TypeId) (z : Value) (size bytes : Nat)
    (ht : P.underlying t = some (.slice e)) (hinfo : (P.info? e).map (fun i => (i.zero, i.size, i.bytes)) = some (some z, size, bytes)) (hzs : z.cells.size = size) (hsz : 0 < size)
    (v : Value) (n : Nat) (xs : List Value) (hs : a.eval s = v) (hown : w0.ownsRow B e size v n xs) (A : Option Addr) (m c : Nat) (news : List Value) (hx : a.eval x = .slice A m c) (hl : news.length = m * size)
    (hnews : 0 < m → ∃ ad, A = some ad ∧ ∀ j u, news[j]? = some u → w0.cell? (ad.add j) = some u) (h1 : ∀ u ∈ news, u.oneCell' = true)
    (h63 : n + m ≤ maxLen) (hbytes : (n + m) * bytes ≤ 140737488355328) (hB : B ≤ w0.heap.size)
    (h : ∀ v' w', w'.ownsRow B e size v' (n + m) (xs ++ news) → Apart (fun k => v.ownBlock = some k) w0 w' → (v'.ownBlock = v.ownBlock ∨ v'.ownBlock = some w0.heap.size) → K (a.put o.dst v') w') :
    if Region.wanted o (yielded ops a.tmps) = true then Oper.wp P o a w0 K Q else E := by
  have hw : Region.wanted o (yielded ops a.tmps) = true := by simp [Region.wanted, hgd]
  rw [if_pos hw]
  exact wp_append_s s x t ho B e z size bytes ht hinfo hzs hsz v n xs hs hown A m c news hx hl hnews h1 h63 hbytes hB h
end
/-- The cells behind the k-th element. -/
theorem tail_cells {α : Type} {vals : α → List Value} {size : Nat} (hs : ∀ x, (vals x).length = size) {w : World} {B e g n cap k : Nat} {l : List α} (h : w.ownsRow B e size (.slice (some ⟨g, 0, none⟩) n cap) n (itemsV vals l)) (hk : k < n) (hn : n ≤ cap) :
    0 < n - (k + 1) → ∃ ad : Addr, (some (if cap = k + 1 then (⟨g, 0, none⟩ : Addr) else ⟨g, (k + 1) * size, none⟩)) = some ad ∧ ∀ (j : Nat) u, (itemsV vals (l.drop (k + 1)))[j]? = some u → w.cell? (ad.add j) = some u := fun hlt => by
  rw [if_neg (by omega)]
  refine ⟨_, rfl, fun j u hj => ?_⟩
  rw [← items_drop hs, List.getElem?_drop] at hj
  have hj2 := (List.getElem?_eq_some_iff.1 hj).1
  rw [h.1] at hj2
  rw [addr_addB, h.cellAt _ hj2]
  exact hj
/-- Rows of bools. -/
def bitV (l : List Bool) : List Value := l.map Value.bool
theorem bitV_get {l : List Bool} {k : Nat} {b : Bool} (h : l[k]? = some b) : (bitV l)[k]? = some (.bool b) := by simp [bitV, h]
theorem bitV_set (l : List Bool) (k : Nat) (b : Bool) : bitV (l.set k b) = (bitV l).set k (.bool b) := by simp [bitV, List.map_set]
theorem bits_made {w : World} {B n : Nat} {e : TypeId} (hB : B ≤ w.heap.size) (hn : n ≤ maxLen) : (w.alloc (.cells (madeCells #[.bool false] n) e)).ownsRow B e 1 (.slice (some ⟨w.heap.size, 0, none⟩) n n) n (bitV (List.replicate n false)) := by
  have h1 := World.ownsRow_lit (e := e) (size := 1) (base := B) w (madeCells #[.bool false] n) n hB hn (by have := congrArg List.length (toList_madeCells_one (.bool false) n); simpa using this)
  rw [toList_madeCells_one] at h1
  have e1 : bitV (List.replicate n false) = List.replicate n (.bool false) := by simp [bitV]
  rw [e1]
  exact h1
end Go.Proofs.Ythihdbcclocbkaa
