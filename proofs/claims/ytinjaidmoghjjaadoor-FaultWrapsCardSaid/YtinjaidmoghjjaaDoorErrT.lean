/- Contract of the law's made: an error in memory and its text. Conditions: the links are read from a slice in memory. -/
import Derived.Test.YtinjaidmoghjjaaDoorErrS
namespace Go.Proofs.YtinjaidmoghjjaaDoor
open Go.RowKit Go.Extern.Stop Go.Stop Go.Extern

/-- A made error and its text. -/
def MadeOk (w : World) (i : Nat) (l : List (Nat × Int × Int)) (t : Option Int) : Prop :=
  l.length + t.toList.length ≤ i ∧ ErrIn w t w.heap.size l ∧ Good l t

def MadeRel (len : Nat) (w : World) (vi ve vt : Value) (wr : World) : Prop :=
  ∃ i l t, i ≤ len ∧ i ≤ 12 ∧ vi = .int .i64 (i : Nat) ∧ ve = errV l t ∧ vt = strV (sufT t true l) ∧ MadeOk wr i l t ∧ Below w.heap.size w wr

def MadePost (w : World) (e : Ending) (w' : World) : Prop :=
  ∃ l t, e = .returned (.tuple #[errV l t, strV (sufT t true l)]) ∧ MadeOk w' 12 l t ∧ Below w.heap.size w w'

theorem digs_ne : ∀ (f n : Nat) (acc : List UInt8), acc ≠ [] → digs f n acc ≠ []
  | 0, _, _, h => by simpa [digs] using h
  | f + 1, n, acc, _ => by
    unfold digs
    split
    · simp
    · exact digs_ne f _ _ (by simp)
theorem numN_ne (n : Nat) : numN n ≠ [] := by
  unfold numN digs
  split
  · simp
  · exact digs_ne _ _ _ (by simp)
theorem atT_ne (c : Nat) (a : Int) : atT c a ≠ [] := by simp [atT]
theorem atT_place (c : Nat) (a : Int) : atT c (place a) = atT c a := by
  have : plc (place a) = plc a := by
    unfold plc place
    by_cases h : a < -1
    · rw [if_pos h, if_pos (by omega), if_pos (by omega)]
    · rw [if_neg h]
  simp [atT, this]
theorem place_ok (a : Int) (h : a ≤ 9223372036854775807) : -1 ≤ place a ∧ place a ≤ 9223372036854775807 := by
  unfold place; split <;> omega

theorem sufT_ne {l : List (Nat × Int × Int)} {t : Option Int} (h : errV l t ≠ .nilIface) (f : Bool) : sufT t f l ≠ [] := by
  match l, t with
  | [], none => exact absurd rfl h
  | [], some m => simp [sufT, numN_ne]
  | (b, c, a) :: r, t => simp [sufT, atT_ne]
theorem sufT_false {l : List (Nat × Int × Int)} {t : Option Int} (h : errV l t ≠ .nilIface) : sufT t false l = 62 :: sufT t true l := by
  match l, t with
  | [], none => exact absurd rfl h
  | [], some m => simp [sufT, sep]
  | (b, c, a) :: r, t => simp [sufT, sep]
theorem sufT_len (t : Option Int) : ∀ (l : List (Nat × Int × Int)) (f : Bool), (sufT t f l).length ≤ 64 * (l.length + 1)
  | [], f => by
    cases t with
    | none => simp [sufT]
    | some m =>
      have := numN_len m.toNat
      have hs : (sep f).length ≤ 1 := by unfold sep; split <;> simp
      simp [sufT]; omega
  | (b, c, a) :: r, f => by
    have := atT_len c.toNat a
    have hs : (sep f).length ≤ 1 := by unfold sep; split <;> simp
    have := sufT_len t r false
    simp [sufT]; omega

theorem good_cons {l : List (Nat × Int × Int)} {t : Option Int} (h : Good l t) {b : Nat} {c a : Int} (hc : 1 ≤ c ∧ c ≤ 199) (ha : -1 ≤ a ∧ a ≤ 9223372036854775807) : Good ((b, c, a) :: l) t := by
  refine ⟨fun n hn => ?_, h.2⟩
  match n, hn with
  | 0, _ => exact ⟨hc.1, hc.2, ha.1, ha.2⟩
  | n + 1, hn =>
    have := h.1 n (by simpa using hn)
    simpa [nd] using this

theorem made_new {len i : Nat} {w wr w2 : World} (hi : i < len) (hi12 : i < 12) (hb : Below w.heap.size w wr) (c : Nat) (a : Int) (hc : c ≠ 0) (hc2 : c < 200) (ha : a ≤ 9223372036854775807)
    (h2 : Below (wr.heap.size + 1) (wr.alloc (.cells #[.int .i64 (c : Nat), .int .i64 (place a), .nilIface] 39)) w2) :
    MadeRel len w (.int .i64 (↑i + 1)) (.iface 36 (.pointer (some ⟨wr.heap.size, 0, none⟩))) (strV (atT c a)) w2 := by
  have hs := h2.size
  simp at hs
  have hbs := hb.size
  refine ⟨i + 1, [(wr.heap.size, (c : Int), place a)], none, by omega, by omega, by simp, rfl, ?_, ⟨by simp, ⟨by omega, ?_, trivial⟩, ?_⟩, (hb.alloc hbs _).trans (h2.mono (by omega))⟩
  · simp [sufT, sep, atT_place]
  · rw [h2.block _ (by omega)]
    exact newAt _ _
  · exact good_cons ⟨fun n hn => absurd hn (by simp), fun m hm => by cases hm⟩ (by omega) (place_ok a ha)

theorem made_wrap {len i : Nat} {w wr w2 : World} {l : List (Nat × Int × Int)} {t : Option Int} (hi : i < len) (hi12 : i < 12) (hb : Below w.heap.size w wr) (hok : MadeOk wr i l t) (hne : errV l t ≠ .nilIface) (c : Nat) (a : Int) (hc : c ≠ 0) (hc2 : c < 200) (ha : a ≤ 9223372036854775807)
    (h2 : Below (wr.heap.size + 1) (wr.alloc (.cells #[.int .i64 (c : Nat), .int .i64 (place a), errV l t] 39)) w2) :
    MadeRel len w (.int .i64 (↑i + 1)) (.iface 36 (.pointer (some ⟨wr.heap.size, 0, none⟩))) (strV (overT c a (sufT t true l))) w2 := by
  have hs := h2.size
  simp at hs
  have hbs := hb.size
  have hb1 : Below wr.heap.size wr (wr.alloc (.cells #[.int .i64 (c : Nat), .int .i64 (place a), errV l t] 39)) := (Below.refl _ _).alloc (Nat.le_refl _) _
  obtain ⟨hl, hin, hg⟩ := hok
  refine ⟨i + 1, (wr.heap.size, (c : Int), place a) :: l, t, by omega, by omega, by simp, rfl, ?_, ⟨by simp; omega, ⟨by omega, ?_, ?_⟩, ?_⟩, (hb.alloc hbs _).trans (h2.mono (by omega))⟩
  · unfold overT
    rw [if_neg (sufT_ne hne true)]
    simp [sufT, sep, atT_place, sufT_false hne]
  · rw [h2.block _ (by omega)]
    exact newAt _ _
  · exact (hin.below hb1 (Nat.le_refl _)).below h2 (by omega)
  · exact good_cons hg (by omega) (place_ok a ha)

theorem made_E {len i : Nat} {w wr w2 : World} (hi : i < len) (hi12 : i < 12) (hb : Below w.heap.size w wr) (c : Nat) (hc : c ≠ 0) (hc2 : c < 200) (h2 : Below wr.heap.size wr w2) :
    MadeRel len w (.int .i64 (↑i + 1)) (.iface 33 (.int .i64 (c : Nat))) (strV (numN c)) w2 := by
  refine ⟨i + 1, [], some (c : Int), by omega, by omega, by simp, rfl, ?_, ⟨by simp, trivial, ⟨fun n hn => absurd hn (by simp), fun m hm => ?_⟩⟩, hb.trans (h2.mono hb.size)⟩
  · simp [sufT, sep]
  · cases hm; omega

theorem made_same {len i : Nat} {w wr : World} {l : List (Nat × Int × Int)} {t : Option Int} (hi : i < len) (hi12 : i < 12) (hb : Below w.heap.size w wr) (hok : MadeOk wr i l t) :
    MadeRel len w (.int .i64 (↑i + 1)) (errV l t) (strV (sufT t true l)) wr :=
  ⟨i + 1, l, t, by omega, by omega, by simp, rfl, rfl, ⟨by have := hok.1; omega, hok.2⟩, hb⟩

theorem code_nat (c : Int) : ∃ n : Nat, wrap64 ((IntKind.u64.wrap c).tmod 200) = (n : Int) ∧ n < 200 := by
  have h : 0 ≤ IntKind.u64.wrap c := by rw [IntKind.wrap_u64]; omega
  have h1 : (IntKind.u64.wrap c).tmod 200 = (IntKind.u64.wrap c) % 200 := by rw [Int.tmod_eq_emod_of_nonneg h]
  rw [h1]
  refine ⟨((IntKind.u64.wrap c) % 200).toNat, ?_, by omega⟩
  unfold wrap64
  omega

set_option maxRecDepth 100000 in
set_option maxHeartbeats 4000000 in
theorem made_any (b off len cap : Nat) (c a : Nat → Int) (bare : Nat → Bool) (w : World) (hb : b < w.heap.size) (hlen : len ≤ 9223372036854775807)
    (hc : ∀ i, i < len → w.cell? ⟨b, off + i * 3, none⟩ = some (.int .i64 (c i)) ∧ w.cell? ⟨b, off + i * 3 + 1, none⟩ = some (.int .i64 (a i)) ∧ w.cell? ⟨b, off + i * 3 + 2, none⟩ = some (.bool (bare i)))
    (ha : ∀ i, i < len → a i ≤ 9223372036854775807) :
    Calls Tryd.prog 7 #[.slice (some ⟨b, off, none⟩) len cap] w (MadePost w) := by
  have Hc := Lib.hid hc
  have Ha := Lib.hid ha
  have hst : Hid (MadeRel len w (.int .i64 0) .nilIface (.string ⟨#[]⟩) w) := Lib.hid ⟨0, [], none, Nat.zero_le _, by omega, rfl, rfl, rfl, ⟨by simp, trivial, ⟨fun n hn => absurd hn (by simp), fun m hm => by cases hm⟩⟩, Below.refl _ _⟩
  clear hc ha
  go_enter Tryd.func7, Tryd.ntmps7
  go_wp2_with fail
  go_loopw [6, 4, 5] (MadeRel len w) (fun v _ _ _ => len + 1 - (intOf v).toNat)
  case atStart => exact hst.out
  case round =>
    clear hst
    obtain ⟨i, l, t, hi, hi12, rfl, rfl, rfl, hok, hbl⟩ := hrel
    by_cases hlt : i < len ∧ i < 12
    · obtain ⟨hl1, hl2⟩ := hlt
      obtain ⟨k0, k1, k2⟩ := Hc.out i hl1
      rw [← hbl.cell (by exact hb)] at k0 k1 k2
      have hal := Ha.out i hl1
      obtain ⟨cn, hcd, hcn⟩ := code_nat (c i)
      generalize c i = ci at *
      generalize a i = ai at *
      generalize bare i = bi at *
      have htl := sufT_len t l true
      have hl12 : l.length ≤ 12 := by have := hok.1; omega
      have hSame : Hid (MadeRel len w (.int .i64 (↑i + 1)) (errV l t) (strV (sufT t true l)) wr) := Lib.hid (made_same hl1 hl2 hbl hok)
      have hNew : Hid (cn ≠ 0 → ∀ w2, Below (wr.heap.size + 1) (wr.alloc (.cells #[.int .i64 (cn : Nat), .int .i64 (place ai), .nilIface] 39)) w2 → MadeRel len w (.int .i64 (↑i + 1)) (.iface 36 (.pointer (some ⟨wr.heap.size, 0, none⟩))) (strV (atT cn ai)) w2) :=
        Lib.hid fun h w2 h2 => made_new hl1 hl2 hbl cn ai h hcn hal h2
      have hWrap : Hid (cn ≠ 0 → errV l t ≠ .nilIface → ∀ w2, Below (wr.heap.size + 1) (wr.alloc (.cells #[.int .i64 (cn : Nat), .int .i64 (place ai), errV l t] 39)) w2 → MadeRel len w (.int .i64 (↑i + 1)) (.iface 36 (.pointer (some ⟨wr.heap.size, 0, none⟩))) (strV (overT cn ai (sufT t true l))) w2) :=
        Lib.hid fun h hne w2 h2 => made_wrap hl1 hl2 hbl hok hne cn ai h hcn hal h2
      have hE : Hid (cn ≠ 0 → ∀ w2, Below wr.heap.size wr w2 → MadeRel len w (.int .i64 (↑i + 1)) (.iface 33 (.int .i64 (cn : Nat))) (strV (numN cn)) w2) :=
        Lib.hid fun h w2 h2 => made_E hl1 hl2 hbl cn h hcn h2
      have cE : Hid (∀ W, Calls Tryd.prog 21 #[.int .i64 (cn : Nat)] W fun e w' => e = .returned (strV (numN cn)) ∧ Below W.heap.size W w') := Lib.hid fun W => e_any cn W (by omega)
      have cA : Hid (∀ W, Calls Tryd.prog 22 #[.int .i64 (cn : Nat), .int .i64 ai] W fun e w' => e = .returned (strV (atT cn ai)) ∧ Below W.heap.size W w') := Lib.hid fun W => at_any cn ai W (by omega) hal
      have cO : Hid (∀ W, Calls Tryd.prog 23 #[.int .i64 (cn : Nat), .int .i64 ai, strV (sufT t true l)] W fun e w' => e = .returned (strV (overT cn ai (sufT t true l))) ∧ Below W.heap.size W w') := Lib.hid fun W => over_any cn ai _ W (by omega) hal (by omega)
      have hz : i = 0 → errV l t = .nilIface := fun h => by
        have h0 := hok.1
        rw [h] at h0
        match l, t with
        | [], none => rfl
        | [], some _ => simp at h0
        | _ :: _, _ => simp at h0
      have hm : Hid (i < len) := Lib.hid hl1
      have hbw : b < wr.heap.size := by have := hbl.size; omega
      have hv := errV_cases l t
      generalize errV l t = v at *
      generalize sufT t true l = tx at *
      generalize atT cn ai = tA at *
      generalize overT cn ai tx = tO at *
      generalize numN cn = tE at *
      clear hok hbl hal hcn htl hl12 hi hi12
      unfold strV at *
      by_cases hc0 : cn = 0
      · subst hc0
        clear hNew hWrap hE cE cA cO
        simp only [Int.ofNat_zero] at hcd
        by_cases hi0 : i = 0
        · subst hi0
          obtain rfl := hz rfl
          clear hz hv
          simp only [Nat.zero_mul, Nat.add_zero] at k0 k1 k2
          cases bi
          · go_wp2_with fail
            refine (new_ok _ _).mono ?_
            rintro e w' ⟨rfl, rfl⟩
            go_wp2_with fail
            go_roundw
            case rel => exact hSame.out
            case measure => simp [intOf] <;> (have := hm.out; omega)
          · go_wp2_with fail
            go_roundw
            case rel => exact hSame.out
            case measure => simp [intOf] <;> (have := hm.out; omega)
        · have hi1 : ((i : Int) == 0) = false := by rw [beq_eq_false_iff_ne]; omega
          clear hz
          rcases hv with rfl | ⟨m, rfl⟩ | ⟨b', rfl⟩
          · go_wp2_with fail
            refine (new_ok _ _).mono ?_
            rintro e w' ⟨rfl, rfl⟩
            go_wp2_with fail
            go_roundw
            case rel => exact hSame.out
            case measure => simp [intOf] <;> (have := hm.out; omega)
          · go_wp2_with fail
            refine (wrap_ok _ _ (.inl ⟨_, rfl⟩) _).mono ?_
            rintro e w' ⟨rfl, rfl⟩
            go_wp2_with fail
            go_roundw
            case rel => exact hSame.out
            case measure => simp [intOf] <;> (have := hm.out; omega)
          · go_wp2_with fail
            refine (wrap_ok _ _ (.inr ⟨_, rfl⟩) _).mono ?_
            rintro e w' ⟨rfl, rfl⟩
            go_wp2_with fail
            go_roundw
            case rel => exact hSame.out
            case measure => simp [intOf] <;> (have := hm.out; omega)
      · have hcz : ((cn : Int) == 0) = false := by rw [beq_eq_false_iff_ne]; omega
        have kN := Lib.hid (hNew.out hc0)
        have kW := Lib.hid (hWrap.out hc0)
        have kE := Lib.hid (hE.out hc0)
        clear hNew hWrap hE hSame hc0
        by_cases hi0 : i = 0
        · subst hi0
          obtain rfl := hz rfl
          clear hz hv
          simp only [Nat.zero_mul, Nat.add_zero] at k0 k1 k2
          have k1' : ∀ o : Obj, (wr.alloc o).cell? ⟨b, off + 1, none⟩ = _ := fun o => (World.cell?_alloc_lt _ _ _ (by exact hbw)).trans k1
          cases bi
          · go_wp2_with fail
            refine (new_some _ _ _ hcz).mono ?_
            rintro e w' ⟨rfl, rfl⟩
            go_wp2_with fail
            refine (cA.out _).mono ?_
            rintro e w2 ⟨rfl, hb2⟩
            have K := Lib.hid (kN.out w2 (by simpa using hb2))
            clear hb2
            go_wp2_with fail
            go_roundw
            case rel => exact K.out
            case measure => simp [intOf] <;> (have := hm.out; omega)
          · go_wp2_with fail
            refine (cE.out _).mono ?_
            rintro e w2 ⟨rfl, hb2⟩
            have K := Lib.hid (kE.out w2 hb2)
            clear hb2
            go_wp2_with fail
            go_roundw
            case rel => exact K.out
            case measure => simp [intOf] <;> (have := hm.out; omega)
        · have hi1 : ((i : Int) == 0) = false := by rw [beq_eq_false_iff_ne]; omega
          clear hz
          have k1' : ∀ o : Obj, (wr.alloc o).cell? ⟨b, off + i * 3 + 1, none⟩ = _ := fun o => (World.cell?_alloc_lt _ _ _ (by exact hbw)).trans k1
          rcases hv with rfl | ⟨m, rfl⟩ | ⟨b', rfl⟩
          · go_wp2_with fail
            refine (new_some _ _ _ hcz).mono ?_
            rintro e w' ⟨rfl, rfl⟩
            go_wp2_with fail
            refine (cA.out _).mono ?_
            rintro e w2 ⟨rfl, hb2⟩
            have K := Lib.hid (kN.out w2 (by simpa using hb2))
            clear hb2
            go_wp2_with fail
            go_roundw
            case rel => exact K.out
            case measure => simp [intOf] <;> (have := hm.out; omega)
          · go_wp2_with fail
            refine (wrap_E _ _ _ _ hcz).mono ?_
            rintro e w' ⟨rfl, rfl⟩
            go_wp2_with fail
            refine (cO.out _).mono ?_
            rintro e w2 ⟨rfl, hb2⟩
            have K := Lib.hid (kW.out (by simp) w2 (by simpa using hb2))
            clear hb2
            go_wp2_with fail
            go_roundw
            case rel => exact K.out
            case measure => simp [intOf] <;> (have := hm.out; omega)
          · go_wp2_with fail
            refine (wrap_F _ _ _ _ hcz).mono ?_
            rintro e w' ⟨rfl, rfl⟩
            go_wp2_with fail
            refine (cO.out _).mono ?_
            rintro e w2 ⟨rfl, hb2⟩
            have K := Lib.hid (kW.out (by simp) w2 (by simpa using hb2))
            clear hb2
            go_wp2_with fail
            go_roundw
            case rel => exact K.out
            case measure => simp [intOf] <;> (have := hm.out; omega)
    · have hfin : Hid (MadePost w (.returned (.tuple #[errV l t, strV (sufT t true l)])) wr) := Lib.hid ⟨l, t, rfl, ⟨by have := hok.1; omega, hok.2⟩, hbl⟩
      have hv := errV_cases l t
      generalize errV l t = v at *
      generalize sufT t true l = tx at *
      clear hok hbl
      unfold strV at *
      by_cases hlt2 : i < len
      · obtain rfl : i = 12 := by omega
        clear hlt
        go_wp2_with fail
        go_ret2
        exact hfin.out
      · obtain rfl : i = len := by omega
        clear hlt hlt2
        go_wp2_with fail
        go_ret2
        exact hfin.out
end Go.Proofs.YtinjaidmoghjjaaDoor
