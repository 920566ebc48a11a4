/- A slice of the call's own that lies anywhere in a block of the call's own (Seg): its front and its tail, append to it, whatever room it has. Over whatever program. No conditions beyond those that each states. -/
import Derived.Test.YthihdbcclocbkaaItn
import Derived.ArgAppend
namespace Go.Proofs.Ythihdbcclocbkaa
open Go.RowKit

/-- A slice of n elements of so many cells each, in a block from B on: nil, or from somewhere in its block. -/
def Seg (w : World) (B : Nat) (e : TypeId) (size : Nat) (v : Value) (n : Nat) (xs : List Value) : Prop :=
  xs.length = n * size ∧ ((v = .slice none 0 0 ∧ n = 0) ∨
    ∃ g off cap cur, v = .slice (some ⟨g, off, none⟩) n cap ∧ B ≤ g ∧ w.heap[g]? = some (.cells cur e (0, 0)) ∧ n ≤ cap ∧ cap ≤ maxLen ∧ off + cap * size ≤ cur.size ∧ ∀ (j : Nat) (u : Value), xs[j]? = some u → cur[off + j]? = some u)

section
variable {w w' : World} {B : Nat} {e : TypeId} {size n : Nat} {v : Value} {xs : List Value}
theorem Seg.nil (w : World) (B : Nat) (e : TypeId) (size : Nat) : Seg w B e size (.slice none 0 0) 0 [] := ⟨by simp, .inl ⟨rfl, rfl⟩⟩
theorem Seg.of_own (h : w.ownsRow B e size v n xs) : Seg w B e size v n xs := by
  refine ⟨h.1, ?_⟩
  rcases h.2 with h1 | ⟨g, cap, cur, rfl, h2, h3, h4, h5, h6, h7⟩
  · exact .inl h1
  · refine .inr ⟨g, 0, cap, cur, rfl, h2, h3, h4, h5, by omega, fun j u hj => ?_⟩
    have hj1 := (List.getElem?_eq_some_iff.1 hj).1
    rw [h.1] at hj1
    rw [← h7, List.getElem?_take, if_pos hj1] at hj
    simpa using hj
theorem Seg.slice (h : Seg w B e size v n xs) : ∃ A cap, v = .slice A n cap ∧ n ≤ cap := by
  rcases h.2 with ⟨rfl, rfl⟩ | ⟨g, off, cap, cur, rfl, -, -, h4, -⟩
  · exact ⟨none, 0, rfl, Nat.le_refl _⟩
  · exact ⟨_, cap, rfl, h4⟩
theorem Seg.lt (h : Seg w B e size v n xs) : ∀ k, v.ownBlock = some k → B ≤ k ∧ k < w.heap.size := fun k hk => by
  rcases h.2 with ⟨rfl, -⟩ | ⟨g, off, cap, cur, rfl, h2, h3, -⟩
  · simp [Value.ownBlock] at hk
  · simp only [Value.ownBlock, Option.some.injEq] at hk
    subst hk
    exact ⟨h2, (Array.getElem?_eq_some_iff.1 h3).1⟩
/-- It lies in a block of its type. -/
theorem Seg.block (h : Seg w B e size v n xs) : ∀ k, v.ownBlock = some k → ∃ cur, w.heap[k]? = some (.cells cur e (0, 0)) := fun k hk => by
  rcases h.2 with ⟨rfl, -⟩ | ⟨g, off, cap, cur, rfl, h2, h3, -⟩
  · simp [Value.ownBlock] at hk
  · simp only [Value.ownBlock, Option.some.injEq] at hk
    subst hk
    exact ⟨cur, h3⟩
theorem Seg.off (h : Seg w B e size v n xs) {T : Nat} {cs : Array Value} {t : TypeId} (hT : w.heap[T]? = some (.cells cs t (0, 0))) (hne : e ≠ t) (q : Nat) (hq : v.ownBlock = some q) : q ≠ T := fun e1 => by
  subst e1
  obtain ⟨cur, h1⟩ := h.block q hq
  rw [hT] at h1
  simp only [Option.some.injEq, Obj.cells.injEq] at h1
  exact hne h1.2.1.symm
theorem Seg.apart {F : Nat → Prop} (h : Seg w B e size v n xs) (ha : Apart F w w') (hF : ∀ k, v.ownBlock = some k → ¬ F k) : Seg w' B e size v n xs := by
  refine ⟨h.1, ?_⟩
  rcases h.2 with h1 | ⟨g, off, cap, cur, rfl, h2, h3, h4⟩
  · exact .inl h1
  · exact .inr ⟨g, off, cap, cur, rfl, h2, (ha.block g (Array.getElem?_eq_some_iff.1 h3).1 (hF g rfl)).trans h3, h4⟩
theorem Seg.keep (h : Seg w B e size v n xs) (hb : Below w.heap.size w w') : Seg w' B e size v n xs := h.apart (F := fun _ => False) (Apart.of_below' hb) (fun _ _ h => h)
theorem Seg.drew (h : Seg w B e size v n xs) : Seg w.drew B e size v n xs := h.keep (Below.refl _ _).drew
theorem Seg.cell {g off cap : Nat} (h : Seg w B e size (.slice (some ⟨g, off, none⟩) n cap) n xs) {j : Nat} {u : Value} (hj : xs[j]? = some u) : w.cell? ⟨g, off + j, none⟩ = some u := by
  rcases h.2 with ⟨h1, -⟩ | ⟨g', off', cap', cur, h1, h2, h3, h4, h5, h6, h7⟩
  · cases h1
  · cases h1
    exact cell_at h3 _ (h7 j u hj)
theorem Seg.frozen {g off cap : Nat} (h : Seg w B e size (.slice (some ⟨g, off, none⟩) n cap) n xs) (j : Nat) : w.frozen? ⟨g, j, none⟩ = false := by
  rcases h.2 with ⟨h1, -⟩ | ⟨g', off', cap', cur, h1, h2, h3, h4⟩
  · cases h1
  · cases h1
    exact free_at h3 j
/-- Not nil, if it has elements. -/
theorem Seg.form (h : Seg w B e size v n xs) (hn : 0 < n) : ∃ g off cap, v = .slice (some ⟨g, off, none⟩) n cap ∧ n ≤ cap := by
  rcases h.2 with ⟨rfl, rfl⟩ | ⟨g, off, cap, cur, rfl, -, -, h4, -⟩
  · omega
  · exact ⟨g, off, cap, rfl, h4⟩
/-- v[:k] and v[:k:k]. -/
theorem Seg.front {A : Option Addr} {cap : Nat} (h : Seg w B e size (.slice A n cap) n xs) {k c : Nat} (hk : k ≤ n) (hkc : k ≤ c) (hc : c ≤ cap) : Seg w B e size (.slice A k c) k (xs.take (k * size)) := by
  have hm := Nat.mul_le_mul_right size hk
  have hm2 := Nat.mul_le_mul_right size hc
  refine ⟨by rw [List.length_take, h.1]; omega, ?_⟩
  rcases h.2 with ⟨h1, rfl⟩ | ⟨g', off', cap', cur, h1, h2, h3, h4, h5, h6, h7⟩
  · cases h1
    obtain rfl : k = 0 := by omega
    obtain rfl : c = 0 := by omega
    exact .inl ⟨rfl, rfl⟩
  · cases h1
    refine .inr ⟨g', off', c, cur, rfl, h2, h3, hkc, by omega, by omega, fun j u hj => h7 j u ?_⟩
    rw [List.getElem?_take] at hj
    split at hj
    · exact hj
    · cases hj
/-- v[k:]. -/
theorem Seg.tail {g off cap : Nat} (h : Seg w B e size (.slice (some ⟨g, off, none⟩) n cap) n xs) {k : Nat} (hk : k ≤ n) : Seg w B e size (.slice (some (if cap = k then ⟨g, off, none⟩ else ⟨g, off + k * size, none⟩)) (n - k) (cap - k)) (n - k) (xs.drop (k * size)) := by
  refine ⟨by rw [List.length_drop, h.1, Nat.sub_mul], ?_⟩
  rcases h.2 with ⟨h1, -⟩ | ⟨g', off', cap', cur, h1, h2, h3, h4, h5, h6, h7⟩
  · cases h1
  · cases h1
    by_cases hc : cap = k
    · rw [if_pos hc]
      obtain rfl : n = k := by omega
      refine .inr ⟨g, off, cap - n, cur, rfl, h2, h3, by omega, by omega, by have := Nat.mul_le_mul_right size (show cap - n ≤ cap by omega); omega, fun j u hj => ?_⟩
      rw [List.drop_of_length_le (by rw [h.1]; omega)] at hj
      simp at hj
    · rw [if_neg hc]
      refine .inr ⟨g, off + k * size, cap - k, cur, rfl, h2, h3, by omega, by omega, ?_, fun j u hj => ?_⟩
      · have : k * size + (cap - k) * size = cap * size := by rw [← Nat.add_mul]; congr 1; omega
        omega
      · rw [List.getElem?_drop] at hj
        have := h7 _ _ hj
        rw [show off + k * size + j = off + (k * size + j) by omega]
        exact this
theorem Seg.items {α : Type} {vals : α → List Value} (hs : ∀ x, (vals x).length = size) {l : List α} (h : Seg w B e size v l.length (itemsV vals l)) : ∃ A cap, v = .slice A l.length cap ∧ l.length ≤ cap ∧ ItemsIn vals size w A l := by
  rcases h.2 with ⟨rfl, h0⟩ | ⟨g, off, cap, cur, rfl, h2, h3, h4, h5, h6, h7⟩
  · rw [h0]
    exact ⟨none, 0, rfl, Nat.le_refl _, fun hl => by omega⟩
  · refine ⟨_, cap, rfl, h4, fun _ => ⟨g, off, rfl, (Array.getElem?_eq_some_iff.1 h3).1, fun i x hx j u hu => ?_⟩⟩
    have hj : j < size := by rw [← hs x]; exact (List.getElem?_eq_some_iff.1 hu).1
    have := h7 (i * size + j) u (by rw [itemsV_at hs l i x hx j hj]; exact hu)
    rw [Nat.add_assoc]
    exact cell_at h3 _ this
end

/-- The cells of a block behind stores one behind the other. -/
theorem setCells_row {g : Nat} {e : TypeId} : ∀ (vs : List Value) (o : Nat) (w : World) (cur : Array Value), w.heap[g]? = some (.cells cur e (0, 0)) → o + vs.length ≤ cur.size →
    ∃ cur', (w.setCells g o vs).heap[g]? = some (.cells cur' e (0, 0)) ∧ cur'.size = cur.size ∧ (∀ (j : Nat) u, vs[j]? = some u → cur'[o + j]? = some u) ∧ ∀ i, (i < o ∨ o + vs.length ≤ i) → cur'[i]? = cur[i]?
  | [], o, w, cur, h, _ => ⟨cur, h, rfl, fun j u hj => by simp at hj, fun _ _ => rfl⟩
  | v :: r, o, w, cur, h, hl => by
    simp only [List.length_cons] at hl
    have h1 := heap_setCell_same w g o cur e v h
    obtain ⟨cur', g1, g2, g3, g4⟩ := setCells_row r (o + 1) (w.setCell ⟨g, o, none⟩ v) _ h1 (by rw [Array.size_setIfInBounds]; omega)
    refine ⟨cur', g1, by rw [g2, Array.size_setIfInBounds], fun j u hj => ?_, fun i hi => ?_⟩
    · match j, hj with
      | 0, hj =>
        simp at hj
        subst hj
        rw [Nat.add_zero, g4 o (.inl (by omega)), Array.getElem?_setIfInBounds_self_of_lt (by omega)]
      | j + 1, hj =>
        have := g3 j u (by simpa using hj)
        rwa [show o + 1 + j = o + (j + 1) by omega] at this
    · simp only [List.length_cons] at hi
      rw [g4 i (by omega), Array.getElem?_setIfInBounds_ne (by omega)]
theorem setCells_apart (g : Nat) : ∀ (vs : List Value) (o : Nat) (w : World), Apart (fun k => k = g) w (w.setCells g o vs)
  | [], _, _ => Apart.refl _ _
  | v :: r, o, w => (Apart.setCell (F := fun k => k = g) (Apart.refl _ w) (p := ⟨g, o, none⟩) (.inl rfl) v).trans (setCells_apart g r (o + 1) _) (fun _ h => .inl h)

section
variable {P : Program}
theorem wp_append_seg {w0 : World} {o : Oper} {a : Act} {K : Act → World → Prop} {Q : Exit → Act → World → Prop} (s x : Operand) (t : TypeId)
    (ho : o.op = .call { callee := .builtin .append, args := #[s, x], argTypes := #[t, t] }) (B : Nat) (e : TypeId) (z : Value) (size bytes : Nat)
    (ht : P.underlying t = some (.slice e)) (hinfo : (P.info? e).map (fun i => (i.zero, i.size, i.bytes)) = some (some z, size, bytes)) (hzs : z.cells.size = size) (hsz : 0 < size)
    (v : Value) (n : Nat) (xs : List Value) (hs : a.eval s = v) (hown : Seg w0 B e size v n xs) (A : Option Addr) (m c : Nat) (news : List Value) (hx : a.eval x = .slice A m c) (hl : news.length = m * size)
    (hnews : 0 < m → ∃ ad, A = some ad ∧ ∀ j u, news[j]? = some u → w0.cell? (ad.add j) = some u) (h1 : ∀ u ∈ news, u.oneCell' = true)
    (h63 : n + m ≤ maxLen) (hbytes : (n + m) * bytes ≤ 140737488355328) (hB : B ≤ w0.heap.size)
    (h : ∀ v' w', Seg w' B e size v' (n + m) (xs ++ news) → Apart (fun k => v.ownBlock = some k) w0 w' → Moved w0 v.ownBlock v'.ownBlock → K (a.put o.dst v') w') :
    o.wp P a w0 K Q := by
  rcases hown.2 with ⟨rfl, rfl⟩ | ⟨g, off, cap, cur, rfl, g2, g3, g4, g5, g6, g7⟩
  · obtain rfl : xs = [] := List.eq_nil_of_length_eq_zero (by have := hown.1; omega)
    exact wp_append_s s x t ho B e z size bytes ht hinfo hzs hsz _ 0 [] hs (World.ownsRow_nil _ _ _ _) A m c news hx hl hnews h1 h63 hbytes hB fun v' w' h1 h2 h3 => h v' w' (Seg.of_own h1) h2 (h3.imp id fun e => ⟨_, e, Nat.le_refl _⟩)
  obtain ⟨i, hi, hz, hsize, hby⟩ := info_parts hinfo
  rcases A with _ | ad
  · obtain rfl : m = 0 := by
      rcases Nat.eq_zero_or_pos m with h0 | h0
      · exact h0
      · obtain ⟨_, h, _⟩ := hnews h0
        cases h
    obtain rfl : news = [] := List.eq_nil_of_length_eq_zero (by omega)
    have hrun : (Builtin.append_ #[t, t] o.type #[.slice (some ⟨g, off, none⟩) n cap, .slice none 0 c]).run P w0 = .ok (.slice (some ⟨g, off, none⟩) n cap) w0 := by
      simp [Builtin.append_, run_underlying ht, sizeOf, typeInfo, hi, Builtin.lenOf, Builtin.firstCells, g4, storeCells]
    unfold Oper.wp execOp
    simp only [ho, resolve, invoke, builtin, Sem.run_bind, Sem.run_pure, Result.andThen_ok, List.map_toArray, List.map_cons, List.map_nil, hs, hx, hrun]
    exact h _ w0 (by simpa using hown) (Apart.refl _ _) (.inl rfl)
  · have hcells : ∀ j u, news[j]? = some u → w0.cell? (ad.add j) = some u := by
      rcases Nat.eq_zero_or_pos m with h0 | h0
      · subst h0
        obtain rfl : news = [] := List.eq_nil_of_length_eq_zero (by omega)
        intro j u hj
        simp at hj
      · obtain ⟨ad', e1, h2⟩ := hnews h0
        cases e1
        exact h2
    have hxl := hown.1
    by_cases hroom : n + m ≤ cap
    · have hfit : off + n * size + news.length ≤ cur.size := by
        have := Nat.mul_le_mul_right size hroom
        rw [Nat.add_mul] at this
        omega
      have hrun := run_append_room_cells (P := P) w0 t o.type e i ht hi g off n cap ad m c news (by rw [hsize]; exact hl) hcells h1 hroom
        (fun j hj => by rw [cell_of_row w0 g _ cur e (0, 0) g3, hsize]; rw [Array.getElem?_eq_getElem (by omega)]; rfl) (fun j hj => frozen_of_row w0 g _ cur e g3)
      rw [hsize] at hrun
      obtain ⟨cur', q1, q2, q3, q4⟩ := setCells_row news (off + n * size) w0 cur g3 (by omega)
      unfold Oper.wp execOp
      simp only [ho, resolve, invoke, builtin, Sem.run_bind, Sem.run_pure, Result.andThen_ok, List.map_toArray, List.map_cons, List.map_nil, hs, hx, hrun]
      refine h _ _ ⟨by rw [List.length_append, hxl, hl, Nat.add_mul], .inr ⟨g, off, cap, cur', rfl, g2, q1, hroom, g5, by rw [q2]; exact g6, fun j u hj => ?_⟩⟩ ((setCells_apart g news _ w0).mono fun k _ e => by rw [e]; rfl) (.inl rfl)
      by_cases hjl : j < xs.length
      · rw [List.getElem?_append_left hjl] at hj
        rw [q4 _ (.inl (by omega))]
        exact g7 j u hj
      · rw [List.getElem?_append_right (by omega)] at hj
        have := q3 _ u hj
        rwa [show off + n * size + (j - xs.length) = off + j by omega] at this
    · obtain ⟨v', w', hrun, r1, r2⟩ := run_append_arg_grows (P := P) w0 t o.type e i z size bytes ht hi hz hsize hby hzs hsz ⟨g, off, none⟩ n cap xs hxl (fun j u hj => by rw [addr_addB]; exact cell_at g3 _ (g7 j u hj)) ad m c news hl hcells (by omega) h63 hbytes
      unfold Oper.wp execOp
      simp only [ho, resolve, invoke, builtin, Sem.run_bind, Sem.run_pure, Result.andThen_ok, List.map_toArray, List.map_cons, List.map_nil, hs, hx, hrun]
      have hb := r1.lt
      refine h v' w' ?_ ((Apart.refl _ w0).grown r2 fun k hk => by cases hk) ?_
      · obtain ⟨s1, s2⟩ := Seg.of_own r1
        refine ⟨s1, ?_⟩
        rcases s2 with s2 | ⟨g', off', cap', cur', e1, e2, e3⟩
        · exact .inl s2
        · exact .inr ⟨g', off', cap', cur', e1, Nat.le_trans hB e2, e3⟩
      · obtain ⟨g', cap', rfl, -, -⟩ := r1.form (by omega)
        exact .inr ⟨g', rfl, (hb g' rfl).1⟩
theorem wpList_append_seg {w0 : World} {ops : Array Oper} {rest : List Oper} {o : Oper} {a : Act} {Q : Exit → Act → World → Prop} (hgd : o.guard = none) (s x : Operand) (t : TypeId)
    (ho : o.op = .call { callee := .builtin .append, args := #[s, x], argTypes := #[t, t] }) (B : Nat) (e : TypeId) (z : Value) (size bytes : Nat)
    (ht : P.underlying t = some (.slice e)) (hinfo : (P.info? e).map (fun i => (i.zero, i.size, i.bytes)) = some (some z, size, bytes)) (hzs : z.cells.size = size) (hsz : 0 < size)
    (v : Value) (n : Nat) (xs : List Value) (hs : a.eval s = v) (hown : Seg w0 B e size v n xs) (A : Option Addr) (m c : Nat) (news : List Value) (hx : a.eval x = .slice A m c) (hl : news.length = m * size)
    (hnews : 0 < m → ∃ ad, A = some ad ∧ ∀ j u, news[j]? = some u → w0.cell? (ad.add j) = some u) (h1 : ∀ u ∈ news, u.oneCell' = true)
    (h63 : n + m ≤ maxLen) (hbytes : (n + m) * bytes ≤ 140737488355328) (hB : B ≤ w0.heap.size)
    (h : ∀ v' w', Seg w' B e size v' (n + m) (xs ++ news) → Apart (fun k => v.ownBlock = some k) w0 w' → Moved w0 v.ownBlock v'.ownBlock → wpList P ops Q rest (a.put o.dst v') w') :
    wpList P ops Q (o :: rest) a w0 :=
  wpList_plain hgd fun _ hK => wp_append_seg s x t ho B e z size bytes ht hinfo hzs hsz v n xs hs hown A m c news hx hl hnews h1 h63 hbytes hB fun v' w' h1 h2 h3 => hK _ _ (h v' w' h1 h2 h3)
/-- The same as one step of a region that draws. -/
theorem step_append_seg {w0 : World} {ops : Array Oper} {o : Oper} {a : Act} {K : Act → World → Prop} {Q : Exit → Act → World → Prop} {E : Prop} (hgd : o.guard = none) (s x : Operand) (t : TypeId)
    (ho : o.op = .call { callee := .builtin .append, args := #[s, x], argTypes := #[t, t] }) (B : Nat) (e : TypeId) (z : Value) (size bytes : Nat)
    (ht : P.underlying t = some (.slice e)) (hinfo : (P.info? e).map (fun i => (i.zero, i.size, i.bytes)) = some (some z, size, bytes)) (hzs : z.cells.size = size) (hsz : 0 < size)
    (v : Value) (n : Nat) (xs : List Value) (hs : a.eval s = v) (hown : Seg w0 B e size v n xs) (A : Option Addr) (m c : Nat) (news : List Value) (hx : a.eval x = .slice A m c) (hl : news.length = m * size)
    (hnews : 0 < m → ∃ ad, A = some ad ∧ ∀ j u, news[j]? = some u → w0.cell? (ad.add j) = some u) (h1 : ∀ u ∈ news, u.oneCell' = true)
    (h63 : n + m ≤ maxLen) (hbytes : (n + m) * bytes ≤ 140737488355328) (hB : B ≤ w0.heap.size)
    (h : ∀ v' w', Seg w' B e size v' (n + m) (xs ++ news) → Apart (fun k => v.ownBlock = some k) w0 w' → Moved w0 v.ownBlock v'.ownBlock → K (a.put o.dst v') w') :
    if Region.wanted o (yielded ops a.tmps) = true then Oper.wp P o a w0 K Q else E := by
  have hw : Region.wanted o (yielded ops a.tmps) = true := by simp [Region.wanted, hgd]
  rw [if_pos hw]
  exact wp_append_seg s x t ho B e z size bytes ht hinfo hzs hsz v n xs hs hown A m c news hx hl hnews h1 h63 hbytes hB h
/-- What a slice holds, to be appended. -/
theorem Seg.news {w : World} {B : Nat} {e : TypeId} {size n cap : Nat} {A : Option Addr} {xs : List Value} (h : Seg w B e size (.slice A n cap) n xs) (hn : 0 < n) : ∃ ad, A = some ad ∧ ∀ j u, xs[j]? = some u → w.cell? (ad.add j) = some u := by
  obtain ⟨g, off, cap', e1, -⟩ := h.form hn
  cases e1
  exact ⟨_, rfl, fun j u hj => by rw [addr_addB]; exact h.cell hj⟩
end
end Go.Proofs.Ythihdbcclocbkaa
