/- SoundApart: the walk of the law at tables in memory. Conditions: where their lists lie. -/
import Derived.Test.YtfgpfmhjnccccaaSndRf
import Derived.Test.YtfgpfmhjnccccaaTbCp
import Derived.Maps.Own
import Derived.Maps.Views
namespace Go.Proofs.Ytfgpfmhjnccccaa
open Go.RowKit
set_option maxRecDepth 100000

/-- What a map's bool reads as. -/
def boolR : Value → Option (DataW Unit × List MemPlace)
  | .bool b => some (.lit (.bool b), [])
  | _ => none
theorem boolR_inv {v : Value} {b : Bool} {ps : List MemPlace} (h : boolR v = some (.lit (.bool b), ps)) : v = .bool b := by
  cases v <;> simp [boolR] at h
  rw [h.1]
theorem int_wf {n : Int} (h : -9223372036854775808 ≤ n ∧ n ≤ 9223372036854775807) : (Lit.int .i64 n).wf = true := by
  have := wrap64_wf n
  rwa [IntWalk.wrap64_in n ⟨by omega, by omega⟩] at this
/-- The keys that a map holds are none of these. -/
def Fresh6 (l : List TableP.Route) (k : Nat) (D : DataW Unit) : Prop := ∀ d : Int, (∀ r ∈ l.take k, r.dst ≠ d) → D.atKey (.int .i64 d) (.lit (.bool false)) = .lit (.bool false)
theorem Fresh6.start (l : List TableP.Route) : Fresh6 l 0 (.map []) := fun d _ => by kernel_rfl
theorem Fresh6.step {l : List TableP.Route} {k : Nat} {D : DataW Unit} {r : TableP.Route} (h : Fresh6 l k D) (hr : l[k]? = some r) : Fresh6 l (k + 1) (D.put (.int .i64 r.dst) (.lit (.bool true))) := fun d hd => by
  have hk := (List.getElem?_eq_some_iff.1 hr)
  rw [Maps.atKey_put_other]
  · exact h d fun q hq => hd q (by rw [List.take_add_one]; simp [hq])
  · intro e
    cases e
    exact hd r (by rw [List.take_add_one, hr]; simp) rfl
theorem meet_sym (a b : TableP.Part) : SndP.meetB a b = SndP.meetB b a := by simp only [SndP.meetB]; exact Bool.and_comm _ _
theorem apart_of {c : TableP.Cfg} (h : SndP.Works c) {i k : Nat} {p q : TableP.Part} (hp : c.parts[i]? = some p) (hq : c.parts[k]? = some q) (hik : i ≠ k) (hn : p.node = q.node) : SndP.meetB p q = false := by
  rcases Nat.lt_or_ge k i with hl | hl
  · have h1 := h.fit i p hp
    simp only [SndP.fitB, Bool.and_eq_true, Bool.not_eq_true', List.any_eq_false] at h1
    have h2 := h1.2 q (List.mem_take_iff_getElem.2 ⟨k, by have := (List.getElem?_eq_some_iff.1 hq).1; omega, (List.getElem?_eq_some_iff.1 hq).2⟩)
    simp only [SndP.clash, hn, decide_true, Bool.true_and, Bool.not_eq_true] at h2
    rw [meet_sym]; exact h2
  · have h1 := h.fit k q hq
    simp only [SndP.fitB, Bool.and_eq_true, Bool.not_eq_true', List.any_eq_false] at h1
    have h2 := h1.2 p (List.mem_take_iff_getElem.2 ⟨i, by have := (List.getElem?_eq_some_iff.1 hp).1; omega, (List.getElem?_eq_some_iff.1 hp).2⟩)
    simp only [SndP.clash, hn, decide_true, Bool.true_and, Bool.not_eq_true] at h2
    exact h2
theorem fits_of {c : TableP.Cfg} (h : SndP.Works c) {i : Nat} {p : TableP.Part} (hp : c.parts[i]? = some p) : p.start + p.length ≤ c.nodes * c.slot := by
  have h1 := h.fit i p hp
  simp only [SndP.fitB, Bool.and_eq_true, decide_eq_true_eq] at h1
  exact h1.1
/-- What a route of tables that work joins. -/
theorem joins_of {c : TableP.Cfg} (h : SndP.Works c) {k : Nat} {r : TableP.Route} (hr : c.routes[k]? = some r) :
    ∃ s d : Nat, r = ⟨(s : Int), (d : Int)⟩ ∧ s < c.ports.length ∧ d < c.ports.length ∧ ∃ pa pb, c.ports[s]? = some pa ∧ c.ports[d]? = some pb ∧ pa.out = true ∧ pb.out = false ∧ pa.kind = pb.kind ∧ ∀ q ∈ c.routes.take k, q.dst ≠ (d : Int) := by
  obtain ⟨h1, h2⟩ := h.allowed.route r (List.mem_of_getElem? hr)
  unfold TableP.up at h1 h2
  have h3 := h.join k r hr
  obtain ⟨src, dst⟩ := r
  simp only at h1 h2
  obtain ⟨s, rfl⟩ := Int.eq_ofNat_of_zero_le h1.1
  obtain ⟨d, rfl⟩ := Int.eq_ofNat_of_zero_le h2.1
  have hs : s < c.ports.length := by omega
  have hd : d < c.ports.length := by omega
  have ea := List.getElem?_eq_getElem hs
  have eb := List.getElem?_eq_getElem hd
  simp only [SndP.joinB, Int.toNat_natCast, ea, eb, Bool.and_eq_true, Bool.not_eq_true', decide_eq_true_eq, List.any_eq_false, SndP.leads] at h3
  exact ⟨s, d, rfl, hs, hd, _, _, ea, eb, h3.1.1.1.1, h3.1.1.1.2, h3.1.1.2, fun q hq => h3.2 q hq⟩

def ApRel (w : World) (x : CfgC) (n : Nat) (i : Value) (W : World) : Prop := ∃ k, k ≤ n ∧ i = .int .i64 (k : Nat) ∧ BoxS w x W
def ApIn (w : World) (x : CfgC) (N : Nat) (cs : Array Value) (t : TypeId) (n : Nat) (i : Value) (W : World) : Prop := ∃ k, k ≤ n ∧ i = .int .i64 (k : Nat) ∧ AndP w x N cs t W
def ApMap (w : World) (x : CfgC) (M : Nat) (l : List TableP.Route) (n : Nat) (i : Value) (W : World) : Prop := ∃ k D, k ≤ n ∧ i = .int .i64 (k : Nat) ∧ BoxS w x W ∧ W.ownsMap Try.prog 3 boolR M k D ∧ Fresh6 l k D

/-- A route laid beside the boxed tables, and the call's own map. -/
def ApS (w : World) (x : CfgC) (N : Nat) (cs : Array Value) (t : TypeId) (M k : Nat) (D : DataW Unit) (W : World) : Prop := AndP w x N cs t W ∧ W.ownsMap Try.prog 3 boolR M k D
theorem ApS.drew {w : World} {x : CfgC} {N : Nat} {cs : Array Value} {t : TypeId} {M k : Nat} {D : DataW Unit} {W : World} (h : ApS w x N cs t M k D W) : ApS w x N cs t M k D W.drew := ⟨⟨h.1.1.drew, h.1.2⟩, h.2.drew⟩

end Go.Proofs.Ytfgpfmhjnccccaa
