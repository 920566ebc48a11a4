/- Two nodes' ports side by side (Duo); Awake. Conditions: where they lie. -/
import Derived.Lib.SlBytesConst
import Derived.Test.YtemcgegickpdbaaGreatDoorSn17
namespace Go.Proofs.YtemcgegickpdbaaGreatDoor
open Go.RowKit PorP
set_option maxRecDepth 100000

section
variable {W W' : World} {B : Nat} {c : TableP.Cfg} {x y : PC} {sx sy st : St}
end
theorem PIn.low {W : World} {B B' : Nat} {c : TableP.Cfg} {x : PC} (h : PIn W B c x) (hb : B' ≤ B) : PIn W B' c x :=
  ⟨h.hd, ⟨h.els.row, h.els.pres, fun e he => (h.els.each e he).low hb, h.els.apart, fun hz e he => low_own (h.els.own hz e he) hb, Nat.le_trans hb h.els.base, h.els.ok⟩, h.len, fun i e p hi hp => by
    obtain ⟨tv, h1, h2⟩ := h.shape i e p hi hp
    refine ⟨tv, h1, h2.1, ?_⟩
    rcases h2.2 with h3 | ⟨g, off, cap, cur, h3, h4, h5⟩
    · exact .inl h3
    · exact .inr ⟨g, off, cap, cur, h3, Nat.le_trans hb h4, h5⟩, Nat.le_trans hb h.base⟩
section
variable {W W' : World} {B : Nat} {c : TableP.Cfg} {a b : Nat} {sx sy : St}
end
end Go.Proofs.YtemcgegickpdbaaGreatDoor
