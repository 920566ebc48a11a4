/- append of some bytes that were just laid into a block of their own, to a slice that the call owns. Over whatever program. No conditions beyond those that each states. -/
import Derived.Test.YthihdbcclocbkaaFrm
namespace Go.Proofs.Ythihdbcclocbkaa
open Go.RowKit

/-- Bytes that were just laid. -/
theorem Bytes.laid (w : World) (cs : Array Value) (e : TypeId) (l : List UInt8) (hcs : cs = (bytesV l).toArray) : Bytes (w.alloc (.cells cs e)) (w.heap.size + 1) (some ⟨w.heap.size, 0, none⟩) l := by
  subst hcs
  intro _
  refine ⟨w.heap.size, 0, rfl, by omega, fun i c hi => ?_⟩
  have h0 : (w.alloc (.cells (bytesV l).toArray e)).heap[w.heap.size]? = some (.cells (bytesV l).toArray e (0, 0)) := heap_alloc_new w _
  unfold World.cell?
  simp only [h0, Nat.zero_add]
  simp [bytesV, hi]
theorem Row.laid (w : World) (cs : Array Value) (e : TypeId) (l : List UInt8) (m : Nat) (hcs : cs = (bytesV l).toArray) (hm : l.length = m) (h : m ≤ maxLen) : Row (w.alloc (.cells cs e)) w.heap.size e (some w.heap.size) (.slice (some ⟨w.heap.size, 0, none⟩) m m) l := by
  subst hcs hm
  refine ⟨rfl, ?_⟩
  have := World.ownsRow_lit (base := w.heap.size) (e := e) (size := 1) w (bytesV l).toArray l.length (Nat.le_refl _) h (by simp [bytesV_length])
  simpa using this

/-- Bytes that the call gathers: nothing below block B has turned since W. -/
def OutIn (B : Nat) (e : TypeId) (W : World) (l : List UInt8) (v : Value) (w : World) : Prop := ∃ g, Row w B e g v l ∧ Below B W w
theorem OutIn.below {B : Nat} {e : TypeId} {W w w' : World} {l : List UInt8} {v : Value} (h : OutIn B e W l v w) (hB : B ≤ W.heap.size) (hb : Below w.heap.size w w') : OutIn B e W l v w' := by
  obtain ⟨g, h1, h2⟩ := h
  exact ⟨g, h1.apart (F := fun _ => False) (Apart.of_below' hb) (fun _ _ h => h), h2.trans (hb.mono (Nat.le_trans hB h2.size))⟩
theorem OutIn.of {B : Nat} {e : TypeId} {W w : World} {l : List UInt8} {v : Value} (h : OutIn B e W l v w) : Below B W w := by
  obtain ⟨g, _, h2⟩ := h
  exact h2
theorem OutIn.drew {B : Nat} {e : TypeId} {W w : World} {l : List UInt8} {v : Value} (h : OutIn B e W l v w) : OutIn B e W l v w.drew := by
  obtain ⟨g, h1, h2⟩ := h
  exact ⟨g, h1.drew, ⟨h2.os, h2.tape, h2.output, h2.size, h2.block⟩⟩
theorem OutIn.drewN {B : Nat} {e : TypeId} {W w : World} {l : List UInt8} {v : Value} (h : OutIn B e W l v w) (n : Nat) : OutIn B e W l v (w.drewN n) := by
  obtain ⟨g, h1, h2⟩ := h
  exact ⟨g, h1.drewN n, ⟨h2.os, h2.tape, h2.output, h2.size, h2.block⟩⟩
theorem OutIn.first (w : World) (cs : Array Value) (e : TypeId) (l : List UInt8) (m : Nat) (hcs : cs = (bytesV l).toArray) (hm : l.length = m) (h : m ≤ maxLen) : OutIn w.heap.size e w l (.slice (some ⟨w.heap.size, 0, none⟩) m m) (w.alloc (.cells cs e)) :=
  ⟨_, Row.laid w cs e l m hcs hm h, (Below.refl _ _).alloc (Nat.le_refl _) _⟩

section
variable {P : Program}
theorem wp_append_rk {w0 : World} {o : Oper} {a : Act} {K : Act → World → Prop} {Q : Exit → Act → World → Prop} (s x : Operand) (t : TypeId)
    (ho : o.op = .call { callee := .builtin .append, args := #[s, x], argTypes := #[t, t] }) (B : Nat) (e : TypeId) (z : Value)
    (ht : P.underlying t = some (.slice e)) (hinfo : (P.info? e).map (fun i => (i.zero, i.size, i.bytes)) = some (some z, 1, 1)) (hzs : z.cells.size = 1)
    (v : Value) (g : Option Nat) (xs : List UInt8) (hs : a.eval s = v) (hown : Row w0 B e g v xs) (N m cap : Nat) (cs : Array Value) (l : List UInt8) (hx : a.eval x = .slice (some ⟨N, 0, none⟩) m cap) (hN : N = w0.heap.size) (hcs : cs = (bytesV l).toArray) (hm : l.length = m)
    (hn : xs.length + m ≤ 140737488355328) (hB : B ≤ w0.heap.size)
    (h : ∀ v' w' g', Row w' B e g' v' (xs ++ l) → Moved w0 g g' → Apart (fun k => g = some k) w0 w' → K (a.put o.dst v') w') :
    o.wp P a (w0.alloc (.cells cs e)) K Q := by
  subst hN
  refine wp_append_r s x t ho B e z ht hinfo hzs v g xs hs (hown.alloc _) (w0.heap.size + 1) _ m cap l hx hm (Bytes.laid w0 cs e l hcs) hn (by simp; omega) ?_
  intro v' w' g' h1 h2 h3
  have h0 : Apart (fun k => g = some k) w0 (w0.alloc (.cells cs e)) := (Apart.refl _ _).alloc _
  refine h v' w' g' h1 ?_ (h0.trans h3 fun _ e => .inl e)
  rcases h2 with e1 | ⟨k, e1, e2⟩
  · exact .inl e1
  · exact .inr ⟨k, e1, by simp at e2; omega⟩
theorem wpList_append_rk {w0 : World} {ops : Array Oper} {rest : List Oper} {o : Oper} {a : Act} {Q : Exit → Act → World → Prop} (hgd : o.guard = none) (s x : Operand) (t : TypeId)
    (ho : o.op = .call { callee := .builtin .append, args := #[s, x], argTypes := #[t, t] }) (B : Nat) (e : TypeId) (z : Value)
    (ht : P.underlying t = some (.slice e)) (hinfo : (P.info? e).map (fun i => (i.zero, i.size, i.bytes)) = some (some z, 1, 1)) (hzs : z.cells.size = 1)
    (v : Value) (g : Option Nat) (xs : List UInt8) (hs : a.eval s = v) (hown : Row w0 B e g v xs) (N m cap : Nat) (cs : Array Value) (l : List UInt8) (hx : a.eval x = .slice (some ⟨N, 0, none⟩) m cap) (hN : N = w0.heap.size) (hcs : cs = (bytesV l).toArray) (hm : l.length = m)
    (hn : xs.length + m ≤ 140737488355328) (hB : B ≤ w0.heap.size)
    (h : ∀ v' w' g', Row w' B e g' v' (xs ++ l) → Moved w0 g g' → Apart (fun k => g = some k) w0 w' → wpList P ops Q rest (a.put o.dst v') w') :
    wpList P ops Q (o :: rest) a (w0.alloc (.cells cs e)) :=
  wpList_plain hgd fun _ hK => wp_append_rk s x t ho B e z ht hinfo hzs v g xs hs hown N m cap cs l hx hN hcs hm hn hB fun v' w' g' h1 h2 h3 => hK _ _ (h v' w' g' h1 h2 h3)
theorem step_append_rk {w0 : World} {ops : Array Oper} {o : Oper} {a : Act} {K : Act → World → Prop} {Q : Exit → Act → World → Prop} {E : Prop} (hgd : o.guard = none) (s x : Operand) (t : TypeId)
    (ho : o.op = .call { callee := .builtin .append, args := #[s, x], argTypes := #[t, t] }) (B : Nat) (e : TypeId) (z : Value)
    (ht : P.underlying t = some (.slice e)) (hinfo : (P.info? e).map (fun i => (i.zero, i.size, i.bytes)) = some (some z, 1, 1)) (hzs : z.cells.size = 1)
    (v : Value) (g : Option Nat) (xs : List UInt8) (hs : a.eval s = v) (hown : Row w0 B e g v xs) (N m cap : Nat) (cs : Array Value) (l : List UInt8) (hx : a.eval x = .slice (some ⟨N, 0, none⟩) m cap) (hN : N = w0.heap.size) (hcs : cs = (bytesV l).toArray) (hm : l.length = m)
    (hn : xs.length + m ≤ 140737488355328) (hB : B ≤ w0.heap.size)
    (h : ∀ v' w' g', Row w' B e g' v' (xs ++ l) → Moved w0 g g' → Apart (fun k => g = some k) w0 w' → K (a.put o.dst v') w') :
    if Region.wanted o (yielded ops a.tmps) = true then Oper.wp P o a (w0.alloc (.cells cs e)) K Q else E := by
  have hw : Region.wanted o (yielded ops a.tmps) = true := by simp [Region.wanted, hgd]
  rw [if_pos hw]
  exact wp_append_rk s x t ho B e z ht hinfo hzs v g xs hs hown N m cap cs l hx hN hcs hm hn hB h

theorem wpList_append_o {w0 : World} {ops : Array Oper} {rest : List Oper} {o : Oper} {a : Act} {Q : Exit → Act → World → Prop} (hgd : o.guard = none) (s x : Operand) (t : TypeId)
    (ho : o.op = .call { callee := .builtin .append, args := #[s, x], argTypes := #[t, t] }) (B : Nat) (e : TypeId) (z : Value) (W : World) (hBW : B ≤ W.heap.size)
    (ht : P.underlying t = some (.slice e)) (hinfo : (P.info? e).map (fun i => (i.zero, i.size, i.bytes)) = some (some z, 1, 1)) (hzs : z.cells.size = 1)
    (v : Value) (xs : List UInt8) (hs : a.eval s = v) (hown : OutIn B e W xs v w0) (C : Nat) (A : Option Addr) (m c : Nat) (l : List UInt8) (hx : a.eval x = .slice A m c) (hm : l.length = m) (hr : Bytes w0 C A l)
    (hn : xs.length + m ≤ 140737488355328)
    (h : ∀ v' w', OutIn B e W (xs ++ l) v' w' → wpList P ops Q rest (a.put o.dst v') w') :
    wpList P ops Q (o :: rest) a w0 := by
  obtain ⟨g, h1, h2⟩ := hown
  refine wpList_append_r hgd s x t ho B e z ht hinfo hzs v g xs hs h1 C A m c l hx hm hr hn (Nat.le_trans hBW h2.size) ?_
  intro v' w' g' h3 h4 h5
  exact h v' w' ⟨g', h3, h2.trans (h5.below (Nat.le_trans hBW h2.size) (fun k hk => (h1.lt k hk).1))⟩
theorem wpList_append_ok {w0 : World} {ops : Array Oper} {rest : List Oper} {o : Oper} {a : Act} {Q : Exit → Act → World → Prop} (hgd : o.guard = none) (s x : Operand) (t : TypeId)
    (ho : o.op = .call { callee := .builtin .append, args := #[s, x], argTypes := #[t, t] }) (B : Nat) (e : TypeId) (z : Value) (W : World) (hBW : B ≤ W.heap.size)
    (ht : P.underlying t = some (.slice e)) (hinfo : (P.info? e).map (fun i => (i.zero, i.size, i.bytes)) = some (some z, 1, 1)) (hzs : z.cells.size = 1)
    (v : Value) (xs : List UInt8) (hs : a.eval s = v) (hown : OutIn B e W xs v w0) (N m cap : Nat) (cs : Array Value) (l : List UInt8) (hx : a.eval x = .slice (some ⟨N, 0, none⟩) m cap) (hN : N = w0.heap.size) (hcs : cs = (bytesV l).toArray) (hm : l.length = m)
    (hn : xs.length + m ≤ 140737488355328)
    (h : ∀ v' w', OutIn B e W (xs ++ l) v' w' → wpList P ops Q rest (a.put o.dst v') w') :
    wpList P ops Q (o :: rest) a (w0.alloc (.cells cs e)) := by
  obtain ⟨g, h1, h2⟩ := hown
  refine wpList_append_rk hgd s x t ho B e z ht hinfo hzs v g xs hs h1 N m cap cs l hx hN hcs hm hn (Nat.le_trans hBW h2.size) ?_
  intro v' w' g' h3 h4 h5
  exact h v' w' ⟨g', h3, h2.trans (h5.below (Nat.le_trans hBW h2.size) (fun k hk => (h1.lt k hk).1))⟩
theorem step_append_ok {w0 : World} {ops : Array Oper} {o : Oper} {a : Act} {K : Act → World → Prop} {Q : Exit → Act → World → Prop} {E : Prop} (hgd : o.guard = none) (s x : Operand) (t : TypeId)
    (ho : o.op = .call { callee := .builtin .append, args := #[s, x], argTypes := #[t, t] }) (B : Nat) (e : TypeId) (z : Value) (W : World) (hBW : B ≤ W.heap.size)
    (ht : P.underlying t = some (.slice e)) (hinfo : (P.info? e).map (fun i => (i.zero, i.size, i.bytes)) = some (some z, 1, 1)) (hzs : z.cells.size = 1)
    (v : Value) (xs : List UInt8) (hs : a.eval s = v) (hown : OutIn B e W xs v w0) (N m cap : Nat) (cs : Array Value) (l : List UInt8) (hx : a.eval x = .slice (some ⟨N, 0, none⟩) m cap) (hN : N = w0.heap.size) (hcs : cs = (bytesV l).toArray) (hm : l.length = m)
    (hn : xs.length + m ≤ 140737488355328)
    (h : ∀ v' w', OutIn B e W (xs ++ l) v' w' → K (a.put o.dst v') w') :
    if Region.wanted o (yielded ops a.tmps) = true then Oper.wp P o a (w0.alloc (.cells cs e)) K Q else E := by
  obtain ⟨g, h1, h2⟩ := hown
  refine step_append_rk hgd s x t ho B e z ht hinfo hzs v g xs hs h1 N m cap cs l hx hN hcs hm hn (Nat.le_trans hBW h2.size) ?_
  intro v' w' g' h3 h4 h5
  exact h v' w' ⟨g', h3, h2.trans (h5.below (Nat.le_trans hBW h2.size) (fun k hk => (h1.lt k hk).1))⟩
end
end Go.Proofs.Ythihdbcclocbkaa
