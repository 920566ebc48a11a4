/- A Writer in memory (WriterAt), and the contract of Put. Conditions: where the Writer lies; it holds at most 100000000 bytes. · Contracts of the Writer's Put (any size), Text and Bytes. Conditions: where the Writer lies; it holds at most 100000000 bytes. · A Reader in memory (ReaderAt), and contracts of enough, next, At and Read. Conditions: where the Reader lies. · Contracts of the Reader's Take and Text. Conditions: where the Reader lies. · Contracts of the Reader's Text, Err and End, and how their errors read. Conditions: where the Reader lies. -/
import Derived.Test.YtfgpfmhjnccccaaChecked
import Derived.Test.YtfgpfmhjnccccaaPlA
import Derived.Test.YtfgpfmhjnccccaaMem
import Derived.WalkKit
import Derived.Lib.Hide
import Derived.Outline
import Derived.OwnWalk
import Derived.RegionTactic
import Derived.BigQuiet
import Derived.Tactics2
import Derived.StillTactics
import Derived.Laws.Pointers
import Derived.Test.YtfgpfmhjnccccaaErrM
import Derived.Deep.RegionHeld3
namespace Go.Proofs.Ytfgpfmhjnccccaa
open Go.RowKit

theorem infoB : (Try.prog.info? 5).map (fun i => (i.zero, i.size, i.bytes)) = some (some (.int .u8 0), 1, 1) := by kernel_rfl

/-- What a Writer's block and its bytes' block may be written. -/
def WF (bw : Nat) (g : Option Nat) (k : Nat) : Prop := k = bw ∨ g = some k

theorem u8_nat (n : Nat) : ((n % 256 : Nat) : Int) = (((UInt8.ofNat (n % 256)).toNat : Nat) : Int) := by simp

end Go.Proofs.Ytfgpfmhjnccccaa
namespace Go.Proofs.Ytfgpfmhjnccccaa
open Go.RowKit

/-- What Bytes answers: a new slice of the bytes. -/
def BytesPost (l : List UInt8) (w : World) (e : Ending) (w' : World) : Prop :=
  ∃ v g, e = .returned v ∧ Row w' w.heap.size 5 g v l ∧ Below w.heap.size w w'

end Go.Proofs.Ytfgpfmhjnccccaa
namespace Go.Proofs.Ytfgpfmhjnccccaa
open Go.RowKit

/-- A block of three cells: what they hold, that they may be written, and what it is behind a store. -/
theorem three_cells {w : World} {b : Nat} {x y z : Value} {t : TypeId} (h : w.heap[b]? = some (.cells #[x, y, z] t (0, 0))) :
    w.cell? ⟨b, 0, none⟩ = some x ∧ w.cell? ⟨b, 1, none⟩ = some y ∧ w.cell? ⟨b, 2, none⟩ = some z ∧ w.frozen? ⟨b, 0, none⟩ = false ∧ w.frozen? ⟨b, 1, none⟩ = false ∧ w.frozen? ⟨b, 2, none⟩ = false := by
  refine ⟨?_, ?_, ?_, ?_, ?_, ?_⟩ <;> simp [World.cell?, World.frozen?, h]
theorem three_set {w : World} {b : Nat} {x y z u : Value} {t : TypeId} (h : w.heap[b]? = some (.cells #[x, y, z] t (0, 0))) :
    (w.setCell ⟨b, 1, none⟩ u).heap[b]? = some (.cells #[x, u, z] t (0, 0)) ∧ (w.setCell ⟨b, 2, none⟩ u).heap[b]? = some (.cells #[x, y, u] t (0, 0)) := by
  have hlt := lt_of_block h
  have h' : w.heap[b] = .cells #[x, y, z] t (0, 0) := by simpa [Array.getElem?_eq_getElem hlt] using h
  constructor
  · show (w.heap.modify b _)[b]? = _
    rw [Array.getElem?_eq_getElem (by simpa using hlt), Array.getElem_modify_self, h']
    rfl
  · show (w.heap.modify b _)[b]? = _
    rw [Array.getElem?_eq_getElem (by simpa using hlt), Array.getElem_modify_self, h']
    rfl

/-- Bytes within bytes. -/
theorem Bytes.drop {w : World} {B : Nat} {b o : Nat} {l : List UInt8} (h : Bytes w B (some ⟨b, o, none⟩) l) (k : Nat) : Bytes w B (some ⟨b, o + k, none⟩) (l.drop k) := fun hn => by
  have hl : 0 < l.length := by simp at hn; omega
  obtain ⟨b', o', e, hb, hc⟩ := h hl
  injection e with e
  injection e with e1 e2 e3
  subst e1 e2
  refine ⟨b, o + k, rfl, hb, fun i c hi => ?_⟩
  rw [List.getElem?_drop] at hi
  rw [Nat.add_assoc]
  exact hc (k + i) c hi

section
variable {P : Program}
/-- s[lo:hi]. -/
theorem run_slice_mid (W : World) (t e : TypeId) (ht : P.underlying t = some (.slice e)) (hz : ∀ w, (Go.sizeOf e).run P w = .ok 1 w) (b o : Nat) (len cap : Nat) (lo hi : Int) (k n : Nat) (hlo : lo = k) (hhi : hi = (k + n : Nat)) (hn : 0 < n) (h2 : k + n ≤ cap) :
    (Instr.slice t (.slice (some ⟨b, o, none⟩) len cap) (some (.int .i64 lo)) (some (.int .i64 hi)) none).run P W = .ok (.slice (some ⟨b, o + k, none⟩) n (cap - k)) W := by
  subst hlo hhi
  have ht' : P.underlying t = some (.slice (P.elem t)) := by simp [Program.elem, ht]
  have he : P.elem t = e := by simp [Program.elem, ht]
  rw [run_slice_lh W t _ _ _ ht' .i64 .i64 _ _ (by omega) (by omega) (by omega), he, hz]
  have ha : (⟨b, o, none⟩ : Addr).add (k * 1) = ⟨b, o + k, none⟩ := by rw [Nat.mul_one]; exact addr_addB b o k
  simp only [Result.andThen, sliced, Int.toNat_natCast]
  rw [if_neg (by omega)]
  simp only [Option.map_some, ha]
  congr 2
  omega
/-- s[lo:]. -/
theorem run_slice_from (W : World) (t e : TypeId) (ht : P.underlying t = some (.slice e)) (hz : ∀ w, (Go.sizeOf e).run P w = .ok 1 w) (b o : Nat) (len cap : Nat) (lo : Int) (k : Nat) (hlo : lo = k) (h1 : k ≤ len) :
    (Instr.slice t (.slice (some ⟨b, o, none⟩) len cap) (some (.int .i64 lo)) none none).run P W = .ok (.slice (some (if cap = k then ⟨b, o, none⟩ else ⟨b, o + k, none⟩)) (len - k) (cap - k)) W := by
  subst hlo
  have ht' : P.underlying t = some (.slice (P.elem t)) := by simp [Program.elem, ht]
  have he : P.elem t = e := by simp [Program.elem, ht]
  rw [run_slice_l W t _ _ _ ht' .i64 _ (by omega) (by omega), he, hz]
  have ha : (⟨b, o, none⟩ : Addr).add (k * 1) = ⟨b, o + k, none⟩ := by rw [Nat.mul_one]; exact addr_addB b o k
  simp only [Result.andThen, sliced, Int.toNat_natCast]
  by_cases h : cap = k
  · rw [if_pos h, if_pos h]
  · rw [if_neg h, if_neg h]
    simp only [Option.map_some, ha]
end

/-- The Reader's own block is all that may be written. -/
def RF (br : Nat) (k : Nat) : Prop := k = br

end Go.Proofs.Ytfgpfmhjnccccaa
namespace Go.Proofs.Ytfgpfmhjnccccaa
open Go.RowKit

theorem or_byte (q c : Nat) (hq : q < 16777216) (hc : c < 256) : bits .or .u32 ((q : Int) * 256) (c : Int) = ((q * 256 + c : Nat) : Int) := by
  have h := u32_or_nat (q * 256) c (by omega) (by omega)
  have e : ((q : Int) * 256) = ((q * 256 : Nat) : Int) := by omega
  rw [e, h]
  congr 1
  have := Nat.two_pow_add_eq_or_of_lt (i := 8) (b := c) (by omega) q
  rw [show q * 256 = 2 ^ 8 * q by omega, this]

end Go.Proofs.Ytfgpfmhjnccccaa
namespace Go.Proofs.Ytfgpfmhjnccccaa
open Go.RowKit Go.Extern.Stop Go.Stop Go.Extern

theorem below_drewN {B : Nat} {a w : World} (h : Below B a w) (n : Nat) : Below B a (w.drewN n) := ⟨h.os, h.tape, h.output, h.size, h.block⟩

theorem place_of (a : Int) (h : -1 ≤ a) : place a = a := by unfold place; rw [if_neg (by omega)]

def errText (sh : Bool) (a : Nat) : List UInt8 := if sh then atT 4 a else []
def endText (sh : Bool) (a n : Nat) : List UInt8 := if sh then atT 4 a else if a < n then atT 5 a else []

end Go.Proofs.Ytfgpfmhjnccccaa
