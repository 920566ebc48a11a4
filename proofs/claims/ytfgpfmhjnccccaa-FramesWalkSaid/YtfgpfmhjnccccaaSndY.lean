/- Slices of bools of a call's own, behind boxed tables. No conditions. -/
import Derived.Test.YtfgpfmhjnccccaaSndN
import Derived.Test.YtfgpfmhjnccccaaMem
namespace Go.Proofs.Ytfgpfmhjnccccaa
open Go.RowKit
set_option maxRecDepth 100000

theorem infoB1 : (Try.prog.info? 4).map (fun i => (i.zero, i.size, i.bytes)) = some (some (.bool false), 1, 1) := by kernel_rfl
/-- The boxed tables, and behind them a slice of bools of the call's own. -/
def SeenS (w : World) (x : CfgC) (g n : Nat) (bl : List Bool) (W : World) : Prop :=
  BoxS w x W ∧ W.ownsRow (boxC w x).heap.size 4 1 (.slice (some ⟨g, 0, none⟩) n n) n (bitV bl)
theorem SeenS.drew {w : World} {x : CfgC} {g n : Nat} {bl : List Bool} {W : World} (h : SeenS w x g n bl W) : SeenS w x g n bl W.drew := ⟨h.1.drew, own_keep h.2 (Below.refl _ _).drew⟩
theorem SeenS.step {w : World} {x : CfgC} {g n : Nat} {bl : List Bool} {W W' : World} (h : SeenS w x g n bl W) (hb : Below W.heap.size W W') : SeenS w x g n bl W' := ⟨h.1.step hb, own_keep h.2 hb⟩
theorem SeenS.cell {w : World} {x : CfgC} {g n : Nat} {bl : List Bool} {W : World} (h : SeenS w x g n bl W) {k : Nat} {b : Bool} (hk : bl[k]? = some b) (hkn : k < n) : W.cell? ⟨g, k, none⟩ = some (.bool b) := by
  rw [h.2.cellAt k (by omega)]; exact bitV_get hk
theorem SeenS.free {w : World} {x : CfgC} {g n : Nat} {bl : List Bool} {W : World} (h : SeenS w x g n bl W) (k : Nat) : W.frozen? ⟨g, k, none⟩ = false := h.2.frozenAt k
theorem SeenS.lt {w : World} {x : CfgC} {g n : Nat} {bl : List Bool} {W : World} (h : SeenS w x g n bl W) : (boxC w x).heap.size ≤ g ∧ g < W.heap.size := h.2.lt g (by simp [Value.ownBlock])
theorem SeenS.stored {w : World} {x : CfgC} {g n : Nat} {bl : List Bool} {W : World} (h : SeenS w x g n bl W) (k : Nat) (b : Bool) : SeenS w x g n (bl.set k b) (W.setCell ⟨g, k, none⟩ (.bool b)) := by
  have h2 := h.2.stored k (.bool b)
  refine ⟨Below.grown h.1 h2.2 h.1.size (fun q hq => ?_), by rw [bitV_set]; exact h2.1⟩
  cases hq
  exact h.lt.1
theorem ord_cell {W : World} {B n : Nat} {A : Option Addr} {cap : Nat} {L : List Nat} (h : W.ownsRow B 3 1 (.slice A n cap) n (idxV L)) {j p : Nat} (hj : L[j]? = some p) (hjn : j < n) :
    ∃ b, A = some ⟨b, 0, none⟩ ∧ W.cell? ⟨b, j, none⟩ = some (.int .i64 (p : Nat)) := by
  rcases h.2 with ⟨h1, h2⟩ | ⟨b, cap', cur, h1, _⟩
  · omega
  · simp only [Value.slice.injEq] at h1
    obtain ⟨rfl, -, rfl⟩ := h1
    exact ⟨b, rfl, by rw [h.cellAt j (by omega)]; exact idxV_get hj⟩

theorem own_low {w : World} {B B' e size n : Nat} {v : Value} {xs : List Value} (h : w.ownsRow B e size v n xs) (hb : B' ≤ B) : w.ownsRow B' e size v n xs :=
  ⟨h.1, h.2.imp id fun ⟨g, cap, cur, h1, h2, h3⟩ => ⟨g, cap, cur, h1, Nat.le_trans hb h2, h3⟩⟩
end Go.Proofs.Ytfgpfmhjnccccaa
