/- Plain facts on an error's links: what stands at the n-th step of unwrapping. No conditions. -/
import Derived.Test.YthihdbcclocbkaaErrA0
namespace Go.Proofs.Ythihdbcclocbkaa
open Go.RowKit

/-- What n steps of unwrapping come to. -/
def errAt (l : List (Nat × Int × Int)) (t : Option Int) (n : Nat) : Value := errV (l.drop n) (if n ≤ l.length then t else none)
def nd (l : List (Nat × Int × Int)) (n : Nat) : Nat × Int × Int := l.getD n (0, 0, 0)
def flt (b : Nat) : Value := .iface 51 (.pointer (some ⟨b, 0, none⟩))

theorem errAt_zero (l : List (Nat × Int × Int)) (t : Option Int) : errAt l t 0 = errV l t := by simp [errAt]

theorem errAt_F {l : List (Nat × Int × Int)} {t : Option Int} {n : Nat} (h : n < l.length) : errAt l t n = flt (nd l n).1 := by
  unfold errAt nd flt
  rw [List.drop_eq_getElem_cons h, List.getD_eq_getElem?_getD, List.getElem?_eq_getElem h]
  rcases l[n] with ⟨b, c, a⟩
  simp [errV]

theorem errAt_end (l : List (Nat × Int × Int)) (t : Option Int) : errAt l t l.length = errV [] t := by simp [errAt]

theorem errAt_past {l : List (Nat × Int × Int)} {t : Option Int} {n : Nat} (h : l.length < n) : errAt l t n = .nilIface := by
  unfold errAt
  rw [List.drop_of_length_le (by omega), if_neg (by omega)]
  rfl

theorem ErrIn.node {w : World} {t : Option Int} : ∀ {l : List (Nat × Int × Int)} {B : Nat} {n : Nat}, ErrIn w t B l → n < l.length →
    (nd l n).1 < B ∧ w.heap[(nd l n).1]? = some (.cells #[.int .i64 (nd l n).2.1, .int .i64 (nd l n).2.2, errAt l t (n + 1)] 53 (0, 0))
  | [], _, _, _, h => absurd h (by simp)
  | (b, c, a) :: r, B, 0, ⟨h1, h2, _⟩, _ => by
    refine ⟨h1, ?_⟩
    have e : errAt ((b, c, a) :: r) t (0 + 1) = errV r t := by simp [errAt]
    rw [e]; exact h2
  | (b, c, a) :: r, B, n + 1, ⟨h1, _, h3⟩, h => by
    have h' : n < r.length := by simpa using h
    obtain ⟨g1, g2⟩ := ErrIn.node (n := n) h3 h'
    have e1 : nd ((b, c, a) :: r) (n + 1) = nd r n := by simp [nd]
    have e2 : errAt ((b, c, a) :: r) t (n + 1 + 1) = errAt r t (n + 1) := by simp [errAt]
    rw [e1, e2]
    exact ⟨by omega, g2⟩

theorem ErrIn.desc {w : World} {t : Option Int} : ∀ {l : List (Nat × Int × Int)} {B : Nat} {i j : Nat}, ErrIn w t B l → i < j → j < l.length → (nd l j).1 < (nd l i).1
  | [], _, _, _, _, _, h => absurd h (by simp)
  | (b, c, a) :: r, _, 0, j + 1, ⟨_, _, h3⟩, _, h => by
    have h' : j < r.length := by simpa using h
    have e : nd ((b, c, a) :: r) (j + 1) = nd r j := by simp [nd]
    rw [e]
    exact (ErrIn.node h3 h').1
  | (b, c, a) :: r, _, i + 1, j + 1, ⟨_, _, h3⟩, hij, h => by
    have h' : j < r.length := by simpa using h
    have e : nd ((b, c, a) :: r) (j + 1) = nd r j := by simp [nd]
    have e' : nd ((b, c, a) :: r) (i + 1) = nd r i := by simp [nd]
    rw [e, e']
    exact ErrIn.desc h3 (by omega) h'
  | (_, _, _) :: _, _, _, 0, _, h, _ => absurd h (by omega)

theorem cell0 {w : World} {p : Nat} {v : Value} {t : TypeId} (h : w.heap[p]? = some (.cells #[v] t (0, 0))) : w.cell? ⟨p, 0, none⟩ = some v ∧ w.frozen? ⟨p, 0, none⟩ = false := by
  simp [World.cell?, World.frozen?, h]

theorem set0 {w : World} {p : Nat} {v v' : Value} {t : TypeId} (h : w.heap[p]? = some (.cells #[v] t (0, 0))) : (w.setCell ⟨p, 0, none⟩ v').heap[p]? = some (.cells #[v'] t (0, 0)) := by
  simp only [World.setCell, Array.getElem?_modify, if_pos, h]; rfl

theorem far {w : World} {p b : Nat} {v : Value} (h : b ≠ p) : (w.setCell ⟨p, 0, none⟩ v).heap[b]? = w.heap[b]? :=
  Below.heap_setCell w ⟨p, 0, none⟩ v b h

theorem grown_set {w w' : World} {p : Nat} {v : Value} (h : w.grownBy w' (some p)) : w.grownBy (w'.setCell ⟨p, 0, none⟩ v) (some p) :=
  ⟨h.os, h.tape, h.output, by simpa [World.setCell] using h.size, fun k hk hne => (far (fun e => hne (by rw [e]))).trans (h.block k hk hne)⟩

theorem grown_refl (w : World) (row : Option Nat) : w.grownBy w row := ⟨rfl, rfl, rfl, Nat.le_refl _, fun _ _ _ => rfl⟩
end Go.Proofs.Ythihdbcclocbkaa
