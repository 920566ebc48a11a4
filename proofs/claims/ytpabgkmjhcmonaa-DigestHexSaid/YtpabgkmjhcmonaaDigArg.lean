/- What an argument of 32 bytes is. Conditions: those of the reading of the argument. -/
import Derived.OpenShut
import Derived.Test.YtpabgkmjhcmonaaLawM
import Derived.Test.YtpabgkmjhcmonaaMem
namespace Go.Proofs.Ytpabgkmjhcmonaa
open Go.ChangeShapes Go.WideShapes Go.RowKit Go.Deep
set_option maxRecDepth 100000

theorem cells_arr32 : Try.prog.cellsOf 24 = 32 := by kernel_rfl
theorem cells_of_bytes : ∀ l : List Value, (∀ i, i < l.length → ∃ c : UInt8, l[i]? = some (.int .u8 (c.toNat : Nat))) → ∃ s : List UInt8, s.length = l.length ∧ l = bytesV s
  | [], _ => ⟨[], rfl, rfl⟩
  | v :: r, h => by
    obtain ⟨s, h1, h2⟩ := cells_of_bytes r (fun i hi => h (i + 1) (by rw [List.length_cons]; omega))
    obtain ⟨c, hc⟩ := h 0 (by rw [List.length_cons]; omega)
    cases hc
    exact ⟨c :: s, by rw [List.length_cons, List.length_cons, h1], by rw [h2]; rfl⟩
theorem arr32_open {H : Type} {enc : TypeId × Value → H} {w : World} {v : Value} {d : DataW H} {p : List MemPlace} {r : Reach} {b0 : Nat} (hv : Value.okWide Try.prog w r b0 24 v) (h : DataW.Trod enc Try.prog w 0 (fun _ => true) true 24 v d p) :
    ∃ s : List UInt8, s.length = 32 ∧ v = .agg (bytesV s).toArray := by
  simp only [Value.okWide, Try.underlying24] at hv
  obtain ⟨cs, rfl, hsz, _⟩ := hv
  have hs32 := hsz.trans cells_arr32
  obtain ⟨l⟩ := cs
  have hl : l.length = 32 := by simpa using hs32
  obtain ⟨fuel, hf⟩ := h
  have hf' : DataW.trod enc Try.prog w 0 (fun _ => true) true fuel 24 l = some (d, p) := hf
  obtain ⟨xs, m, _, hx, _, hxl, hf2⟩ := DataW.trod_array Try.underlying24 hf'
  have key : ∀ i, i < l.length → ∃ c : UInt8, l[i]? = some (.int .u8 (c.toNat : Nat)) := fun i hi => by
    have g := hf2 i (by omega)
    rw [cells_u8, Nat.mul_one, List.getElem?_eq_getElem (show i < xs.length by omega)] at g
    obtain ⟨k, e, _, hwf⟩ := DataW.trod_int Try.underlying5 g
    have e1 : l[i]? = some (.int .u8 k) := by
      have e2 := congrArg (fun x : List Value => x[0]?) e
      simp only [List.getElem?_take_of_lt (Nat.succ_pos 0), List.getElem?_drop, Nat.add_zero, List.getElem?_cons_zero] at e2
      exact e2
    have hb := bounds_u8 hwf
    refine ⟨UInt8.ofNat k.toNat, ?_⟩
    rw [e1]
    congr 2
    simp
    omega
  obtain ⟨s, h1, h2⟩ := cells_of_bytes l key
  exact ⟨s, by omega, by rw [h2]⟩
end Go.Proofs.Ytpabgkmjhcmonaa
