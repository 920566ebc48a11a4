/- A table of values by keys in memory (RepIn): its map or none, its count; what a look-up, a store, a drop make of it. Conditions: where it lies. -/
import Derived.Test.YtcibnjcnbocbdaaRepP
import Derived.Test.YtcibnjcnbocbdaaMem
import Derived.Test.YtcibnjcnbocbdaaErrM
import Derived.Maps.OwnSet
import Derived.Maps.OwnOps
import Derived.WalkSpells
namespace Go.Proofs.Ytcibnjcnbocbdaa
open Go.RowKit RepP Go.Maps
set_option maxRecDepth 100000

def u8L (k : Nat) : Lit := .int .u8 (k : Nat)
def u16D (v : Nat) : DataW Unit := .lit (.int .u16 (v : Nat))
theorem u8L_wf {k : Nat} (h : k ≤ 255) : (u8L k).wf = true := by
  show (decide (IntKind.min .u8 ≤ (k : Int)) && decide ((k : Int) ≤ IntKind.max .u8)) = true
  rw [show IntKind.min .u8 = 0 from by decide, show IntKind.max .u8 = 255 from by decide]
  simp; omega
theorem u16L_wf {v : Nat} (h : v < 65536) : (Lit.int .u16 (v : Nat)).wf = true := by
  show (decide (IntKind.min .u16 ≤ (v : Int)) && decide ((v : Int) ≤ IntKind.max .u16)) = true
  rw [show IntKind.min .u16 = 0 from by decide, show IntKind.max .u16 = 65535 from by decide]
  simp; omega
theorem u8L_ne {j k : Nat} (h : j ≠ k) : u8L j ≠ u8L k := fun e => by simp [u8L] at e; omega
theorem u8L_key (k : Nat) : WideAt.IsKeyLit (u8L k) := trivial
theorem keyU8 : Keyed Try.prog 5 := int_keyed Try.underlying5
theorem zeroU16 (w : World) : (zeroValue 27).run Try.prog w = .ok (.int .u16 0) w := by kernel_rfl
theorem keyOfU8 {k : Nat} (h : k ≤ 255) : keyOf Try.prog 5 (.int .u8 (k : Nat)) = some (u8L k) := keyOf_int_mk Try.underlying5 (u8L_wf h)

/-- A map's datum tells a table. -/
def Tied (D : DataW Unit) (t : T) : Prop := ∀ k, has D (u8L k) = (tat t k).isSome ∧ ∀ v, tat t k = some v → v < 65536 ∧ D.atKey (u8L k) (u16D 0) = u16D v
theorem Tied.none_ {t : T} (h : ∀ k, tat t k = none) : Tied (.map []) t := fun k => by
  rw [h k]
  exact ⟨by kernel_rfl, fun v e => by cases e⟩
theorem tat_set_same {t : T} {k : Nat} (h : k < t.length) (o : Option Nat) : tat (t.set k o) k = o := tat_get (List.getElem?_set_self h)
theorem tat_set_other {t : T} {j k : Nat} (h : j ≠ k) (o : Option Nat) : tat (t.set k o) j = tat t j := by
  unfold tat; rw [List.getElem?_set_ne (Ne.symm h)]
theorem Tied.put {D : DataW Unit} {t : T} (h : Tied D t) (hD : IsMap D) {k v : Nat} (hk : k < t.length) (hv : v < 65536) : Tied (D.put (u8L k) (u16D v)) (t.set k (some v)) := fun j => by
  by_cases hj : j = k
  · subst hj
    rw [tat_set_same hk, has_put_same hD (u8L_key j)]
    refine ⟨rfl, fun x e => ?_⟩
    obtain rfl := Option.some.inj e
    exact ⟨hv, atKey_put_same hD (u8L_key j) _ _⟩
  · rw [tat_set_other hj, has_put_other (u8L_ne hj), atKey_put_other (u8L_ne hj)]
    exact h j
theorem Tied.del {D : DataW Unit} {t : T} (h : Tied D t) {k : Nat} (hk : k < t.length) : Tied (D.del (u8L k)) (t.set k none) := fun j => by
  by_cases hj : j = k
  · subst hj
    rw [tat_set_same hk, has_del_same]
    exact ⟨rfl, fun x e => by cases e⟩
  · rw [tat_set_other hj, has_del_other (u8L_ne hj), atKey_del_other (u8L_ne hj)]
    exact h j

/-- A table's map: none yet, or a block. -/
def MapAt (W : World) (m : Option Nat) (n : Nat) (t : T) : Prop :=
  match m with
  | none => ∀ k, tat t k = none
  | some M => ∃ D : DataW Unit, W.ownsMap Try.prog 5 (plainElem Try.prog 27) M n D ∧ Tied D t
theorem MapAt.lt {W : World} {m : Option Nat} {n : Nat} {t : T} (h : MapAt W m n t) : ∀ M, m = some M → M < W.heap.size := fun M e => by
  subst e
  obtain ⟨D, h1, -⟩ := h
  exact h1.lt
theorem MapAt.block {W : World} {m : Option Nat} {n : Nat} {t : T} (h : MapAt W m n t) : ∀ M, m = some M → ∃ es clock, W.heap[M]? = some (.map es clock) := fun M e => by
  subst e
  obtain ⟨D, ⟨es, clock, h1, -⟩, -⟩ := h
  exact ⟨es, clock, h1⟩
theorem MapAt.apart {W W' : World} {F : Nat → Prop} {m : Option Nat} {n : Nat} {t : T} (h : MapAt W m n t) (ha : Apart F W W') (hF : ∀ M, m = some M → ¬ F M) : MapAt W' m n t := by
  have hl := h.lt
  match m, h with
  | none, h => exact h
  | some M, ⟨D, ⟨es, clock, h1, h2⟩, h3⟩ => exact ⟨D, ⟨es, clock, (ha.block M (hl M rfl) (hF M rfl)).trans h1, h2⟩, h3⟩
theorem MapAt.mono {W : World} {m : Option Nat} {n n' : Nat} {t : T} (h : MapAt W m n t) (hn : n ≤ n') : MapAt W m n' t := by
  match m, h with
  | none, h => exact h
  | some M, ⟨D, h1, h2⟩ => exact ⟨D, h1.mono hn, h2⟩
/-- 'v, has := values[key]'. -/
theorem MapAt.look {W : World} {m : Option Nat} {n : Nat} {t : T} (h : MapAt W m n t) {k : Nat} (hk : k ≤ 255) :
    (Instr.lookup 57 (.map m) (.int .u8 (k : Nat)) true).run Try.prog W = .ok (.tuple #[.int .u16 ((tat t k).getD 0 : Nat), .bool (tat t k).isSome]) W := by
  match m, h with
  | none, h =>
    rw [h k]
    exact look_nil true keyU8 Try.underlying57 (zeroU16 W) (keyOfU8 hk)
  | some M, ⟨D, h1, h2⟩ =>
    obtain ⟨v, ps, hrun, hv⟩ := h1.look_ok keyU8 Try.underlying57 (zeroU16 W) (plainElem_int Try.underlying27 (a := 0) (by decide)) (keyOfU8 hk)
    rw [hrun]
    obtain ⟨h3, h4⟩ := h2 k
    obtain ⟨a, rfl, ha, -⟩ := plainElem_int_inv Try.underlying27 hv
    simp only [Prod.mk.injEq] at ha
    have ha1 := ha.1
    cases ht : tat t k with
    | none =>
      rw [ht] at h3
      rw [h3]
      rw [atKey_of_not_has h3] at ha1
      obtain rfl : (0 : Int) = a := by injection ha1 with e; injection e
      rfl
    | some v =>
      rw [ht] at h3
      rw [h3]
      have h5 := (h4 v ht).2
      unfold u16D at h5
      rw [show ((0 : Nat) : Int) = 0 from rfl] at h5
      rw [h5] at ha1
      obtain rfl : ((v : Nat) : Int) = a := by injection ha1 with e; injection e
      rfl
/-- 'delete(values, key)'. -/
theorem MapAt.drop {W : World} {m : Option Nat} {n : Nat} {t : T} (h : MapAt W m n t) {k : Nat} (hk : k ≤ 255) (hl : k < t.length) (ty : TypeId) :
    ∃ W', (Builtin.delete_ #[57, 5] ty #[.map m, .int .u8 (k : Nat)]).run Try.prog W = .ok (.tuple #[]) W' ∧ MapAt W' m n (t.set k none) ∧ W.grownBy W' m := by
  match m, h with
  | none, h =>
    refine ⟨W, drop_nil keyU8 Try.underlying57 (keyOfU8 hk) ty, fun j => ?_, grown_refl W none⟩
    by_cases hj : j = k
    · subst hj; exact tat_set_same hl _
    · rw [tat_set_other hj]; exact h j
  | some M, ⟨D, h1, h2⟩ =>
    obtain ⟨W', hrun, h3, h4⟩ := h1.drop keyU8 Try.underlying57 (keyOfU8 hk) ty
    exact ⟨W', hrun, ⟨_, h3, h2.del hl⟩, h4.grown⟩
/-- A table's blocks. -/
def RepB (b : Nat) (m : Option Nat) (k : Nat) : Prop := k = b ∨ m = some k
/-- A table of values by keys in memory: n commands done, at most k entries. -/
structure RepIn (W : World) (b : Nat) (m : Option Nat) (t : T) (n k : Nat) : Prop where
  at_ : W.heap[b]? = some (.cells #[.map m, .int .i64 (n : Nat)] 59 (0, 0))
  len : t.length = 8
  mp : MapAt W m k t
section
variable {W W' : World} {b : Nat} {m : Option Nat} {t : T} {n k : Nat}
theorem RepIn.lt (h : RepIn W b m t n k) : b < W.heap.size := (Array.getElem?_eq_some_iff.1 h.at_).1
theorem RepIn.mlt (h : RepIn W b m t n k) : ∀ M, m = some M → M < W.heap.size := h.mp.lt
theorem RepIn.ne (h : RepIn W b m t n k) : ∀ M, m = some M → M ≠ b := fun M e e1 => by
  obtain ⟨es, clock, h1⟩ := h.mp.block M e
  rw [e1, h.at_] at h1
  cases h1
theorem RepIn.blt (h : RepIn W b m t n k) : ∀ q, RepB b m q → q < W.heap.size := fun q hq => by
  rcases hq with rfl | hq
  · exact h.lt
  · exact h.mlt q hq
theorem RepIn.apart {F : Nat → Prop} (h : RepIn W b m t n k) (ha : Apart F W W') (hF : ∀ q, RepB b m q → ¬ F q) : RepIn W' b m t n k :=
  ⟨(ha.block b h.lt (hF b (.inl rfl))).trans h.at_, h.len, h.mp.apart ha fun M e => hF M (.inr e)⟩
theorem RepIn.below (h : RepIn W b m t n k) (hb : Below W.heap.size W W') : RepIn W' b m t n k := h.apart (F := fun _ => False) (Apart.of_below' hb) (fun _ _ h => h)
theorem RepIn.drew (h : RepIn W b m t n k) : RepIn W.drew b m t n k := h.below (Below.refl _ _).drew
theorem RepIn.drewN (h : RepIn W b m t n k) (q : Nat) : RepIn (W.drewN q) b m t n k := h.below (below_drewNc (Below.refl _ _) q)
theorem RepIn.mono (h : RepIn W b m t n k) {k' : Nat} (hk : k ≤ k') : RepIn W b m t n k' := ⟨h.at_, h.len, h.mp.mono hk⟩
theorem RepIn.c0 (h : RepIn W b m t n k) : W.cell? ⟨b, 0, none⟩ = some (.map m) := cell_at h.at_ 0 rfl
theorem RepIn.c1 (h : RepIn W b m t n k) : W.cell? ⟨b, 1, none⟩ = some (.int .i64 (n : Nat)) := cell_at h.at_ 1 rfl
theorem RepIn.free (h : RepIn W b m t n k) (i : Nat) : W.frozen? ⟨b, i, none⟩ = false := free_at h.at_ i
/-- Behind the store of its count. -/
theorem RepIn.counted (h : RepIn W b m t n k) (p : Nat) : RepIn (W.setCell ⟨b, 1, none⟩ (.int .i64 (p : Nat))) b m t p k := by
  refine ⟨heap_setCell_same W b 1 _ _ _ h.at_, h.len, h.mp.apart ((Apart.refl (fun q => q = b) W).setCell (p := ⟨b, 1, none⟩) (.inl rfl) _) fun M e => h.ne M e⟩
end
/-- What a call on a table leaves. -/
def RepGo (w : World) (b : Nat) (m : Option Nat) (t : T) (n k : Nat) (w' : World) : Prop := ∃ m', RepIn w' b m' t n k ∧ Apart (RepB b m) w w' ∧ Moved w m m'
def repV (b : Nat) : Value := .pointer (some ⟨b, 0, none⟩)
def cmdVals (c : Cmd) : List Value := [.int .u8 (c.kind : Nat), .int .u8 (c.key : Nat), .int .u16 (c.val : Nat), .int .u16 (c.old : Nat)]
def cmdV14 (c : Cmd) : Value := .agg #[.int .u8 (c.kind : Nat), .int .u8 (c.key : Nat), .int .u16 (c.val : Nat), .int .u16 (c.old : Nat)]
structure CmdIn (c : Cmd) : Prop where
  kind : c.kind ≤ 255
  key : c.key ≤ 255
  val : c.val < 65536
  old : c.old < 65536
/-- An error by its number; 0: none. -/
def errN (n : Nat) : Value := if n = 0 then .nilIface else .iface 60 (.int .i64 (n : Nat))
end Go.Proofs.Ytcibnjcnbocbdaa
