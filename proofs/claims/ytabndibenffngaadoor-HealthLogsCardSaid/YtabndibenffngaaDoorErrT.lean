/- Contract of the law's made: an error in memory and its text. Conditions: the links are read from a slice in memory. -/
import Derived.Test.YtabndibenffngaaDoorErrS
namespace Go.Proofs.YtabndibenffngaaDoor
open Go.RowKit Go.Extern.Stop Go.Stop Go.Extern

/-- A made error and its text. -/
def MadeOk (w : World) (i : Nat) (l : List (Nat × Int × Int)) (t : Option Int) : Prop :=
  l.length + t.toList.length ≤ i ∧ ErrIn w t w.heap.size l ∧ Good l t

def MadeRel (len : Nat) (w : World) (vi ve vt : Value) (wr : World) : Prop :=
  ∃ i l t, i ≤ len ∧ i ≤ 12 ∧ vi = .int .i64 (i : Nat) ∧ ve = errV l t ∧ vt = strV (sufT t true l) ∧ MadeOk wr i l t ∧ Below w.heap.size w wr

def MadePost (w : World) (e : Ending) (w' : World) : Prop :=
  ∃ l t, e = .returned (.tuple #[errV l t, strV (sufT t true l)]) ∧ MadeOk w' 12 l t ∧ Below w.heap.size w w'

theorem digs_ne : ∀ (f n : Nat) (acc : List UInt8), acc ≠ [] → digs f n acc ≠ []
  | 0, _, _, h => by simpa [digs] using h
  | f + 1, n, acc, _ => by
    unfold digs
    split
    · simp
    · exact digs_ne f _ _ (by simp)
theorem numN_ne (n : Nat) : numN n ≠ [] := by
  unfold numN digs
  split
  · simp
  · exact digs_ne _ _ _ (by simp)
theorem atT_ne (c : Nat) (a : Int) : atT c a ≠ [] := by simp [atT]
theorem atT_place (c : Nat) (a : Int) : atT c (place a) = atT c a := by
  have : plc (place a) = plc a := by
    unfold plc place
    by_cases h : a < -1
    · rw [if_pos h, if_pos (by omega), if_pos (by omega)]
    · rw [if_neg h]
  simp [atT, this]
theorem place_ok (a : Int) (h : a ≤ 9223372036854775807) : -1 ≤ place a ∧ place a ≤ 9223372036854775807 := by
  unfold place; split <;> omega

theorem sufT_ne {l : List (Nat × Int × Int)} {t : Option Int} (h : errV l t ≠ .nilIface) (f : Bool) : sufT t f l ≠ [] := by
  match l, t with
  | [], none => exact absurd rfl h
  | [], some m => simp [sufT, numN_ne]
  | (b, c, a) :: r, t => simp [sufT, atT_ne]
theorem sufT_false {l : List (Nat × Int × Int)} {t : Option Int} (h : errV l t ≠ .nilIface) : sufT t false l = 62 :: sufT t true l := by
  match l, t with
  | [], none => exact absurd rfl h
  | [], some m => simp [sufT, sep]
  | (b, c, a) :: r, t => simp [sufT, sep]
theorem sufT_len (t : Option Int) : ∀ (l : List (Nat × Int × Int)) (f : Bool), (sufT t f l).length ≤ 64 * (l.length + 1)
  | [], f => by
    cases t with
    | none => simp [sufT]
    | some m =>
      have := numN_len m.toNat
      have hs : (sep f).length ≤ 1 := by unfold sep; split <;> simp
      simp [sufT]; omega
  | (b, c, a) :: r, f => by
    have := atT_len c.toNat a
    have hs : (sep f).length ≤ 1 := by unfold sep; split <;> simp
    have := sufT_len t r false
    simp [sufT]; omega

theorem good_cons {l : List (Nat × Int × Int)} {t : Option Int} (h : Good l t) {b : Nat} {c a : Int} (hc : 1 ≤ c ∧ c ≤ 199) (ha : -1 ≤ a ∧ a ≤ 9223372036854775807) : Good ((b, c, a) :: l) t := by
  refine ⟨fun n hn => ?_, h.2⟩
  match n, hn with
  | 0, _ => exact ⟨hc.1, hc.2, ha.1, ha.2⟩
  | n + 1, hn =>
    have := h.1 n (by simpa using hn)
    simpa [nd] using this

theorem made_new {len i : Nat} {w wr w2 : World} (hi : i < len) (hi12 : i < 12) (hb : Below w.heap.size w wr) (c : Nat) (a : Int) (hc : c ≠ 0) (hc2 : c < 200) (ha : a ≤ 9223372036854775807)
    (h2 : Below (wr.heap.size + 1) (wr.alloc (.cells #[.int .i64 (c : Nat), .int .i64 (place a), .nilIface] 82)) w2) :
    MadeRel len w (.int .i64 (↑i + 1)) (.iface 80 (.pointer (some ⟨wr.heap.size, 0, none⟩))) (strV (atT c a)) w2 := by
  have hs := h2.size
  simp at hs
  have hbs := hb.size
  refine ⟨i + 1, [(wr.heap.size, (c : Int), place a)], none, by omega, by omega, by simp, rfl, ?_, ⟨by simp, ⟨by omega, ?_, trivial⟩, ?_⟩, (hb.alloc hbs _).trans (h2.mono (by omega))⟩
  · simp [sufT, sep, atT_place]
  · rw [h2.block _ (by omega)]
    exact newAt _ _
  · exact good_cons ⟨fun n hn => absurd hn (by simp), fun m hm => by cases hm⟩ (by omega) (place_ok a ha)

theorem made_wrap {len i : Nat} {w wr w2 : World} {l : List (Nat × Int × Int)} {t : Option Int} (hi : i < len) (hi12 : i < 12) (hb : Below w.heap.size w wr) (hok : MadeOk wr i l t) (hne : errV l t ≠ .nilIface) (c : Nat) (a : Int) (hc : c ≠ 0) (hc2 : c < 200) (ha : a ≤ 9223372036854775807)
    (h2 : Below (wr.heap.size + 1) (wr.alloc (.cells #[.int .i64 (c : Nat), .int .i64 (place a), errV l t] 82)) w2) :
    MadeRel len w (.int .i64 (↑i + 1)) (.iface 80 (.pointer (some ⟨wr.heap.size, 0, none⟩))) (strV (overT c a (sufT t true l))) w2 := by
  have hs := h2.size
  simp at hs
  have hbs := hb.size
  have hb1 : Below wr.heap.size wr (wr.alloc (.cells #[.int .i64 (c : Nat), .int .i64 (place a), errV l t] 82)) := (Below.refl _ _).alloc (Nat.le_refl _) _
  obtain ⟨hl, hin, hg⟩ := hok
  refine ⟨i + 1, (wr.heap.size, (c : Int), place a) :: l, t, by omega, by omega, by simp, rfl, ?_, ⟨by simp; omega, ⟨by omega, ?_, ?_⟩, ?_⟩, (hb.alloc hbs _).trans (h2.mono (by omega))⟩
  · unfold overT
    rw [if_neg (sufT_ne hne true)]
    simp [sufT, sep, atT_place, sufT_false hne]
  · rw [h2.block _ (by omega)]
    exact newAt _ _
  · exact (hin.below hb1 (Nat.le_refl _)).below h2 (by omega)
  · exact good_cons hg (by omega) (place_ok a ha)

theorem made_E {len i : Nat} {w wr w2 : World} (hi : i < len) (hi12 : i < 12) (hb : Below w.heap.size w wr) (c : Nat) (hc : c ≠ 0) (hc2 : c < 200) (h2 : Below wr.heap.size wr w2) :
    MadeRel len w (.int .i64 (↑i + 1)) (.iface 30 (.int .i64 (c : Nat))) (strV (numN c)) w2 := by
  refine ⟨i + 1, [], some (c : Int), by omega, by omega, by simp, rfl, ?_, ⟨by simp, trivial, ⟨fun n hn => absurd hn (by simp), fun m hm => ?_⟩⟩, hb.trans (h2.mono hb.size)⟩
  · simp [sufT, sep]
  · cases hm; omega

theorem made_same {len i : Nat} {w wr : World} {l : List (Nat × Int × Int)} {t : Option Int} (hi : i < len) (hi12 : i < 12) (hb : Below w.heap.size w wr) (hok : MadeOk wr i l t) :
    MadeRel len w (.int .i64 (↑i + 1)) (errV l t) (strV (sufT t true l)) wr :=
  ⟨i + 1, l, t, by omega, by omega, by simp, rfl, rfl, ⟨by have := hok.1; omega, hok.2⟩, hb⟩

theorem code_nat (c : Int) : ∃ n : Nat, wrap64 ((IntKind.u64.wrap c).tmod 200) = (n : Int) ∧ n < 200 := by
  have h : 0 ≤ IntKind.u64.wrap c := by rw [IntKind.wrap_u64]; omega
  have h1 : (IntKind.u64.wrap c).tmod 200 = (IntKind.u64.wrap c) % 200 := by rw [Int.tmod_eq_emod_of_nonneg h]
  rw [h1]
  refine ⟨((IntKind.u64.wrap c) % 200).toNat, ?_, by omega⟩
  unfold wrap64
  omega

end Go.Proofs.YtabndibenffngaaDoor
