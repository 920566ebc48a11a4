/- PortsClear: plain (what is left of the messages) and the contracts that its walk calls. Conditions: where the ports lie. -/
import Derived.Test.YtdeodoppcflgfaaPorX
import Derived.Test.YtdeodoppcflgfaaSndRf
namespace Go.Proofs.Ytdeodoppcflgfaa
open Go.RowKit PorP
set_option maxRecDepth 100000

def keepM (c : TableP.Cfg) (part : Int) (m : FrameP.Msg) : Bool := match c.ports[m.port.toNat]? with | some p => decide (p.part ≠ part) | none => true
theorem img_clear (c : TableP.Cfg) (sel : TableP.Port → Bool) (part : Int) (st : St) : ∀ k, imgP c sel (clearT c part st) k = (imgP c sel st k).filter (keepM c part)
  | 0 => rfl
  | k + 1 => by
    unfold imgP
    rw [img_clear c sel part st k, List.filter_append]
    congr 1
    unfold clearT
    rw [List.getElem?_zipWith]
    cases hp : c.ports[k]? with
    | none => rfl
    | some p =>
      cases hs : st[k]? with
      | none => rfl
      | some s =>
        simp only
        have hk : ∀ d, keepM c part (msgOf k d) = decide (p.part ≠ part) := fun d => by
          unfold keepM msgOf
          simp only [Int.toNat_natCast, hp]
        by_cases hsel : sel p = true
        · rw [if_pos hsel, if_pos hsel]
          by_cases hpp : p.part = part
          · rw [if_pos hpp]
            symm
            rw [show (PS.empty.msgs.map (msgOf k)) = [] from rfl, List.filter_eq_nil_iff]
            intro m hm
            obtain ⟨d, -, rfl⟩ := List.mem_map.1 hm
            rw [hk]
            simp [hpp]
          · rw [if_neg hpp]
            symm
            rw [List.filter_eq_self]
            intro m hm
            obtain ⟨d, -, rfl⟩ := List.mem_map.1 hm
            rw [hk]
            simp [hpp]
        · rw [if_neg hsel, if_neg hsel]; rfl
theorem img_port {c : TableP.Cfg} {sel : TableP.Port → Bool} {st : St} {m : FrameP.Msg} : ∀ k, m ∈ imgP c sel st k → ∃ (i : Nat) (p : TableP.Port), m.port = (i : Int) ∧ c.ports[i]? = some p
  | 0, h => by simp [imgP] at h
  | k + 1, h => by
    unfold imgP at h
    rcases List.mem_append.1 h with h | h
    · exact img_port k h
    · cases hp : c.ports[k]? with
      | none => rw [hp] at h; simp at h
      | some p =>
        cases hs : st[k]? with
        | none => rw [hp, hs] at h; simp at h
        | some s =>
          rw [hp, hs] at h
          simp only at h
          split at h
          · obtain ⟨d, -, rfl⟩ := List.mem_map.1 h
            exact ⟨k, p, rfl, hp⟩
          · simp at h
theorem img_most {c : TableP.Cfg} {sel : TableP.Port → Bool} {st : St} (h : ∀ s ∈ st, s.msgs.length ≤ 4) (k : Nat) (hk : k ≤ 24) : (imgP c sel st k).length ≤ 96 := by
  have := imgP_len (c := c) (sel := sel) h k
  omega
section
variable {W W' : World} {B B' : Nat} {c : TableP.Cfg} {a : Nat} {node : Int} {st : St} {v : Value} {ys : List MsgC}
theorem solo_clear (h : SoloE W B c a node st) (ha : c.ports.length ≤ 24) (part : Int) :
    Calls Try.prog 30 #[.pointer (some ⟨a, 0, none⟩), .int .i64 part] W (fun e w' => e = .returned (.tuple #[]) ∧ SoloE w' B c a node (clearT c part st) ∧ Touch B W w') := by
  obtain ⟨hB, x, rfl, rfl, rfl, h⟩ := h
  refine (pclear_any W B c x h ha part).mono ?_
  rintro e w' ⟨rfl, h1⟩
  obtain ⟨h3, h4⟩ := SoloE.left hB h h1
  exact ⟨rfl, h3, h4⟩
theorem SoloE.out (h : SoloE W B c a node st) (ho : OutM W B' v ys) (ha : Apart (fun q => v.ownBlock = some q) W W') : SoloE W' B c a node st := by
  obtain ⟨hB, x, h1, h2, h3, h4⟩ := h
  exact ⟨Nat.le_trans hB ha.size, x, h1, h2, h3, h4.out ho ha⟩
theorem SoloE.most (h : SoloE W B c a node st) : ∀ s ∈ st, s.msgs.length ≤ 4 := by
  obtain ⟨hB, x, -, -, rfl, h4⟩ := h
  intro s hs
  obtain ⟨e, he, rfl⟩ := List.mem_map.1 hs
  have := (h4.els.ok e he).1
  simpa [El.ps] using this
theorem SoloE.len (h : SoloE W B c a node st) : st.length = c.ports.length := by
  obtain ⟨hB, x, -, -, rfl, h4⟩ := h
  rw [elSt_len, h4.len]
/-- Messages of two lists: one list grows, the other stays. -/
theorem OutM.keep {B2 N : Nat} {v2 : Value} {zs : List MsgC} (h : OutM W B v ys) (h2 : OutM W B2 v2 zs) (hv : ∀ q, v.ownBlock = some q → q < N) (hv2 : ∀ q, v2.ownBlock = some q → N ≤ q) (ha : Apart (fun q => v2.ownBlock = some q) W W') : OutM W' B v ys := by
  refine h.away ha (fun q hq hf => by have := hv q hq; have := hv2 q hf; omega) (fun y hy q hq hf => ?_)
  exact own_tag6 (h.each y hy).row h2.row (by decide) q hq hf
end
/-- What comes into one node's ports keeps the law's tables. -/
def InR (c : TableP.Cfg) (Kept : World → Prop) (B a : Nat) (node : Int) (n : Nat) (i : Value) (wr : World) : Prop := ∃ (k : Nat) (st : St), k ≤ n ∧ i = .int .i64 (k : Nat) ∧ SoloE wr B c a node st ∧ Kept wr
def WantR (c : TableP.Cfg) (Kept : World → Prop) (B a : Nat) (node part : Int) (st : St) (N : Nat) (vI : Value) (ys : List MsgC) (v i : Value) (wr : World) : Prop :=
  ∃ (k : Nat) (zs : List MsgC), k ≤ ys.length ∧ i = .int .i64 (k : Nat) ∧ zs = (ys.take k).filter (fun y => keepM c part y.plain) ∧ OutM wr B v zs ∧ (∀ q, v.ownBlock = some q → N ≤ q) ∧ OutM wr B vI ys ∧ SoloE wr B c a node st ∧ Kept wr ∧ N ≤ wr.heap.size
end Go.Proofs.Ytdeodoppcflgfaa
