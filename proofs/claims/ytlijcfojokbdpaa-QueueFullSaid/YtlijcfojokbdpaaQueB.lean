/- A queue in memory (QueIn), and the contract of swap. Conditions: where the queue lies; the places are within it. -/
import Derived.Test.YtlijcfojokbdpaaQueA
import Derived.BigQuiet
namespace Go.Proofs.Ytlijcfojokbdpaa
open Go.RowKit
set_option maxRecDepth 100000

/-- A queue in memory: its header at Q, its entries in a row of the call's own. -/
structure QueIn (w : World) (B Q : Nat) (v : Value) (es : List QueP.Ent) (puts : Int) : Prop where
  hd : w.heap[Q]? = some (.cells #[v, .int .i64 puts] 46 (0, 0))
  own : w.ownsRow B 49 4 v es.length (itemsV entVals es)
  base : B ≤ Q
theorem QueIn.apart {w w' : World} {B Q : Nat} {v : Value} {es : List QueP.Ent} {puts : Int} {F : Nat → Prop} (h : QueIn w B Q v es puts) (ha : Apart F w w') (h1 : ¬ F Q) (h2 : ∀ k, v.ownBlock = some k → ¬ F k) : QueIn w' B Q v es puts :=
  ⟨(ha.block Q (lt_of_block h.hd) h1).trans h.hd, own_apart h.own ha h2, h.base⟩
theorem QueIn.keep {w w' : World} {B Q : Nat} {v : Value} {es : List QueP.Ent} {puts : Int} (h : QueIn w B Q v es puts) (hb : Below w.heap.size w w') : QueIn w' B Q v es puts :=
  h.apart (F := fun _ => False) (Apart.of_below' hb) (fun h => h) (fun _ _ h => h)
theorem QueIn.drew {w : World} {B Q : Nat} {v : Value} {es : List QueP.Ent} {puts : Int} (h : QueIn w B Q v es puts) : QueIn w.drew B Q v es puts := h.keep (Below.refl _ _).drew
theorem QueIn.head {w : World} {B Q : Nat} {v : Value} {es : List QueP.Ent} {puts : Int} (h : QueIn w B Q v es puts) : w.cell? ⟨Q, 0, none⟩ = some v := cell_at h.hd 0 rfl
theorem QueIn.puts {w : World} {B Q : Nat} {v : Value} {es : List QueP.Ent} {puts : Int} (h : QueIn w B Q v es puts) : w.cell? ⟨Q, 1, none⟩ = some (.int .i64 puts) := cell_at h.hd 1 rfl
theorem QueIn.free {w : World} {B Q : Nat} {v : Value} {es : List QueP.Ent} {puts : Int} (h : QueIn w B Q v es puts) (i : Nat) : w.frozen? ⟨Q, i, none⟩ = false := free_at h.hd i
/-- The row isn't the header. -/
theorem QueIn.ne {w : World} {B Q : Nat} {v : Value} {es : List QueP.Ent} {puts : Int} (h : QueIn w B Q v es puts) (k : Nat) (hk : v.ownBlock = some k) : k ≠ Q := fun e => by
  subst e
  rcases h.own.2 with ⟨rfl, -⟩ | ⟨g, cap, cur, rfl, -, hg, -⟩
  · simp [Value.ownBlock] at hk
  · simp [Value.ownBlock] at hk
    subst hk
    rw [h.hd] at hg
    simp at hg

theorem ent_cells {w : World} {B g n cap : Nat} {es : List QueP.Ent} (h : w.ownsRow B 49 4 (.slice (some ⟨g, 0, none⟩) n cap) n (itemsV entVals es)) (hn : es.length = n) {i : Nat} {e : QueP.Ent} (hi : es[i]? = some e) {j : Nat} {u : Value} (hj : (entVals e)[j]? = some u) :
    w.cell? ⟨g, i * 4 + j, none⟩ = some u := by
  have hil : i < n := by have := (List.getElem?_eq_some_iff.1 hi).1; omega
  have hjl : j < 4 := by have := (List.getElem?_eq_some_iff.1 hj).1; rw [entVals_len] at this; exact this
  rw [h.cellAt _ (by omega), itemsV_at entVals_len es i e hi j hjl]
  exact hj
/-- What lies at a place. -/
structure EntAt (w : World) (g o : Nat) (a0 a1 a2 a3 : Int) : Prop where
  c0 : w.cell? ⟨g, o, none⟩ = some (.int .i64 a0)
  c1 : w.cell? ⟨g, o + 1, none⟩ = some (.int .i64 a1)
  c2 : w.cell? ⟨g, o + 2, none⟩ = some (.int .i64 a2)
  c3 : w.cell? ⟨g, o + 3, none⟩ = some (.int .i64 a3)
theorem QueIn.ent {w : World} {B Q g n cap : Nat} {es : List QueP.Ent} {puts : Int} (h : QueIn w B Q (.slice (some ⟨g, 0, none⟩) n cap) es puts) (hn : es.length = n) {i : Nat} {a0 a1 a2 a3 : Int} (hi : es[i]? = some ⟨⟨a0, a1, a2⟩, a3⟩) : EntAt w g (i * 4) a0 a1 a2 a3 := by
  have ho := h.own
  rw [hn] at ho
  exact ⟨ent_cells ho hn hi (j := 0) rfl, ent_cells ho hn hi (j := 1) rfl, ent_cells ho hn hi (j := 2) rfl, ent_cells ho hn hi (j := 3) rfl⟩

theorem itemsV_set : ∀ (es : List QueP.Ent) (i : Nat) (e : QueP.Ent), i < es.length →
    itemsV entVals (es.set i e) = ((((itemsV entVals es).set (i * 4) (.int .i64 e.ev.at_)).set (i * 4 + 1) (.int .i64 e.ev.rank)).set (i * 4 + 2) (.int .i64 e.ev.what)).set (i * 4 + 3) (.int .i64 e.n)
  | [], _, _, h => by simp at h
  | y :: l, 0, e, _ => by simp [itemsV, entVals]
  | y :: l, i + 1, e, h => by
    have h1 := itemsV_set l i e (by simpa using h)
    have e1 : itemsV entVals ((y :: l).set (i + 1) e) = entVals y ++ itemsV entVals (l.set i e) := by simp [itemsV]
    have e2 : itemsV entVals (y :: l) = entVals y ++ itemsV entVals l := by simp [itemsV]
    rw [e1, e2, h1]
    have hl := entVals_len y
    rw [List.set_append_right _ _ (by omega), List.set_append_right _ _ (by omega), List.set_append_right _ _ (by omega), List.set_append_right _ _ (by omega), hl]
    rw [show (i + 1) * 4 - 4 = i * 4 by omega, show (i + 1) * 4 + 1 - 4 = i * 4 + 1 by omega, show (i + 1) * 4 + 2 - 4 = i * 4 + 2 by omega, show (i + 1) * 4 + 3 - 4 = i * 4 + 3 by omega]

/-- An entry stored at a place. -/
def setEnt (w : World) (g o : Nat) (a0 a1 a2 a3 : Int) : World := (((w.setCell ⟨g, o, none⟩ (.int .i64 a0)).setCell ⟨g, o + 1, none⟩ (.int .i64 a1)).setCell ⟨g, o + 2, none⟩ (.int .i64 a2)).setCell ⟨g, o + 3, none⟩ (.int .i64 a3)
theorem setEnt_apart (w : World) (g o : Nat) (a0 a1 a2 a3 : Int) : Apart (fun k => k = g) w (setEnt w g o a0 a1 a2 a3) :=
  ((((Apart.refl (fun k => k = g) w).setCell (p := ⟨g, o, none⟩) (.inl rfl) _).setCell (p := ⟨g, o + 1, none⟩) (.inl rfl) _).setCell (p := ⟨g, o + 2, none⟩) (.inl rfl) _).setCell (p := ⟨g, o + 3, none⟩) (.inl rfl) _
theorem QueIn.stored {w : World} {B Q g n cap : Nat} {es : List QueP.Ent} {puts : Int} (h : QueIn w B Q (.slice (some ⟨g, 0, none⟩) n cap) es puts) (hn : es.length = n) (i : Nat) (hi : i < n) (a0 a1 a2 a3 : Int) :
    QueIn (setEnt w g (i * 4) a0 a1 a2 a3) B Q (.slice (some ⟨g, 0, none⟩) n cap) (es.set i ⟨⟨a0, a1, a2⟩, a3⟩) puts := by
  have ho := h.own
  rw [hn] at ho
  have h1 := ho.stored (i * 4) (.int .i64 a0)
  have h2 := h1.1.stored (i * 4 + 1) (.int .i64 a1)
  have h3 := h2.1.stored (i * 4 + 2) (.int .i64 a2)
  have h4 := h3.1.stored (i * 4 + 3) (.int .i64 a3)
  refine ⟨((setEnt_apart w g (i * 4) a0 a1 a2 a3).block Q (lt_of_block h.hd) (fun e => h.ne g rfl e.symm)).trans h.hd, ?_, h.base⟩
  rw [List.length_set, hn, itemsV_set es i _ (by omega)]
  exact h4.1
end Go.Proofs.Ytlijcfojokbdpaa
