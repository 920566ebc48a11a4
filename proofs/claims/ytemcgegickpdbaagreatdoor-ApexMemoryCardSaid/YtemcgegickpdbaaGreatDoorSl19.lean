/- Two nodes' ports side by side (Duo); Awake. Conditions: where they lie. · A copy of bytes handed in (append to an empty literal, guarded or not); one node's calls; PortsWrong. Conditions: where the bytes lie. -/
import Derived.Lib.SlBytesConst
import Derived.Test.YtemcgegickpdbaaGreatDoorSl18
namespace Go.Proofs.YtemcgegickpdbaaGreatDoor
open Go.RowKit PorP
set_option maxRecDepth 100000

section
variable {W W' : World} {B : Nat} {c : TableP.Cfg} {x y : PC} {sx sy st : St}
end
theorem PIn.low {W : World} {B B' : Nat} {c : TableP.Cfg} {x : PC} (h : PIn W B c x) (hb : B' ≤ B) : PIn W B' c x :=
  ⟨h.hd, ⟨h.els.row, h.els.pres, fun e he => (h.els.each e he).low hb, h.els.apart, fun hz e he => low_own (h.els.own hz e he) hb, Nat.le_trans hb h.els.base, h.els.ok⟩, h.len, fun i e p hi hp => by
    obtain ⟨tv, h1, h2⟩ := h.shape i e p hi hp
    refine ⟨tv, h1, h2.1, ?_⟩
    rcases h2.2 with h3 | ⟨g, off, cap, cur, h3, h4, h5⟩
    · exact .inl h3
    · exact .inr ⟨g, off, cap, cur, h3, Nat.le_trans hb h4, h5⟩, Nat.le_trans hb h.base⟩
def ByteBlock (W : World) (A : Option Addr) (l : List UInt8) : Prop := 0 < l.length → ∀ k, blockOf A = some k → ∃ cs f, W.heap[k]? = some (.cells cs 5 f)
theorem ByteBlock.off {W : World} {A : Option Addr} {l : List UInt8} {B : Nat} {c : TableP.Cfg} {x : PC} (h : ByteBlock W A l) (hx : PIn W B c x) : 0 < l.length → ∀ k, blockOf A = some k → ¬ EF x.g x.es k := fun hl k hk hf => by
  obtain ⟨cs, f, e1⟩ := h hl k hk
  obtain ⟨cs', t', e2, e3⟩ := hx.els.fTag hf
  rw [e1] at e2
  simp only [Option.some.injEq, Obj.cells.injEq] at e2
  obtain ⟨-, rfl, -⟩ := e2
  rcases e3 with e3 | e3
  · cases e3
  · cases e3
section
variable {W W' : World} {B : Nat} {c : TableP.Cfg} {a b : Nat} {sx sy : St}
end
end Go.Proofs.YtemcgegickpdbaaGreatDoor
namespace Go.Proofs.YtemcgegickpdbaaGreatDoor
open Go.RowKit PorP
set_option maxRecDepth 100000

theorem wpList_copy {w0 : World} {ops : Array Oper} {rest : List Oper} {o : Oper} {a : Act} {Q : Exit → Act → World → Prop} (hw : Region.wanted o (yielded ops a.tmps) = true) (s x : Operand)
    (ho : o.op = .call { callee := .builtin .append, args := #[s, x], argTypes := #[89, 89] }) (hs : a.eval s = .slice (some ⟨w0.heap.size, 0, none⟩) 0 0) (A : Option Addr) (m c : Nat) (l : List UInt8) (hx : a.eval x = .slice A m c) (hm : l.length = m) (hr : Bytes w0 w0.heap.size A l) (hn : m ≤ 140737488355328)
    (h : ∀ A' c' w', w'.ownsRow w0.heap.size 5 1 (.slice A' l.length c') l.length (bytesV l) → Bytes w' w'.heap.size A' l → ByteBlock w' A' l → Below w0.heap.size w0 w' → wpList Tryz.prog ops Q rest (a.put o.dst (.slice A' l.length c')) w') :
    wpList Tryz.prog ops Q (o :: rest) a (w0.alloc (.cells #[] 5)) := by
  have hb0 : Below w0.heap.size w0 (w0.alloc (.cells #[] 5)) := (Below.refl _ _).alloc (Nat.le_refl _) _
  unfold wpList
  rw [if_pos hw]
  refine .inl (wp_append_r s x 89 ho w0.heap.size 5 (.int .u8 0) Tryz.underlying89 infoU12 rfl _ (some w0.heap.size) [] hs (Row.lit w0 w0.heap.size 5 (Nat.le_refl _)) w0.heap.size A m c l hx hm (hr.below hb0 (Nat.le_refl _)) (by simp; omega) (by simp) ?_)
  intro v' w' g' h1 h2 h3
  simp only [List.nil_append] at h1
  obtain ⟨A', c', rfl, -, hg, hby⟩ := h1.bytes
  refine h A' c' w' h1.2 hby (fun _ k hk => ?_) (hb0.trans (h3.below (by simp) (fun k e => by simp only [Option.some.injEq] at e; omega)))
  obtain ⟨cur, hc⟩ := (Seg.of_own h1.2).block k (by rw [ownBlock_slice]; exact hk)
  exact ⟨_, _, hc⟩
section
variable {W : World} {B : Nat} {c : TableP.Cfg} {a : Nat} {node : Int} {st : St}
end
end Go.Proofs.YtemcgegickpdbaaGreatDoor
