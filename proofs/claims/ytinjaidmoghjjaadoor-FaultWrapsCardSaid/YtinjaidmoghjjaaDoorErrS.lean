/- Contracts of fault.Place and of the law's Awake (it tells true). Conditions: errors.errorType holds the type error. -/
import Derived.Test.YtinjaidmoghjjaaDoorErrR
namespace Go.Proofs.YtinjaidmoghjjaaDoor
open Go.RowKit Go.Extern.Stop Go.Stop Go.Extern

def placeOf : List (Nat × Int × Int) → Int
  | [] => -1
  | (_, _, a) :: _ => a

theorem place_any (B : Nat) (l : List (Nat × Int × Int)) (t : Option Int) (w : World) (hl : l.length ≤ 1000000) (hg : HasType w) (hB : B ≤ w.heap.size) (hin : ErrIn w t B l) :
    Calls Tryd.prog 13 #[errV l t] w fun e w' => e = .returned (.int .i64 (placeOf l)) ∧ Below w.heap.size w w' := by
  have H := Lib.hid (outermost_any B l t w hl hg hB hin)
  have hv := errV_cases l t
  generalize errV l t = v at *
  rcases hv with rfl | ⟨m, rfl⟩ | ⟨b, rfl⟩
  all_goals
    rcases l with _ | ⟨⟨b', c', a'⟩, r⟩
    · clear hin
      simp only [ptrOf, placeOf] at *
      go_enter Tryd.func13, Tryd.ntmps13
      go_wp2_with fail
      refine H.out.mono ?_
      rintro e w1 ⟨rfl, hb⟩
      have Hb := Lib.hid hb
      clear hb
      go_wp2_with fail
      go_ret
      exact ⟨rfl, Hb.out⟩
    · obtain ⟨h1, h2, -⟩ := hin
      have Hcell : Hid (∀ W, Below w.heap.size w W → W.cell? ⟨b', 1, none⟩ = some (.int .i64 a')) := Lib.hid fun W h => (cells3 ((h.block _ (by omega)).trans h2)).2.1
      clear h1 h2
      simp only [ptrOf, placeOf] at *
      go_enter Tryd.func13, Tryd.ntmps13
      go_wp2_with fail
      refine H.out.mono ?_
      rintro e w1 ⟨rfl, hb⟩
      have k1 := Hcell.out w1 hb
      have Hb := Lib.hid hb
      clear hb
      go_wp2_with fail
      go_ret
      exact ⟨rfl, Hb.out⟩

theorem awakeText (b b' : Nat) : sufT none true [(b, 40, 9), (b', 12, 3)] = [52, 48, 64, 57, 62, 49, 50, 64, 51] := by
  simp only [sufT, sep]
  decide +kernel

set_option maxRecDepth 100000 in
set_option maxHeartbeats 1000000 in
theorem awake_any (w : World) (hg : HasType w) :
    Calls Tryd.prog 6 #[] w fun e w' => e = .returned (.bool true) ∧ Below w.heap.size w w' := by
  have hp9 : place 9 = 9 := by decide
  have hp3 : place 3 = 3 := by decide
  have HN := Lib.hid (new_some 12 3 w (by decide))
  have HW := Lib.hid (wrap_F 40 9 w.heap.size (w.alloc (.cells #[.int .i64 12, .int .i64 3, .nilIface] 39)) (by decide))
  rw [hp3] at HN
  rw [hp9] at HW
  clear hp9 hp3
  have hB2 : Below w.heap.size w ((w.alloc (.cells #[.int .i64 12, .int .i64 3, .nilIface] 39)).alloc (.cells #[.int .i64 40, .int .i64 9, .iface 36 (.pointer (some ⟨w.heap.size, 0, none⟩))] 39)) :=
    ((Below.refl _ _).alloc (Nat.le_refl _) _).alloc (by simp) _
  have hin0 : ErrIn ((w.alloc (.cells #[.int .i64 12, .int .i64 3, .nilIface] 39)).alloc (.cells #[.int .i64 40, .int .i64 9, .iface 36 (.pointer (some ⟨w.heap.size, 0, none⟩))] 39)) none (w.heap.size + 2) [(w.heap.size + 1, 40, 9), (w.heap.size, 12, 3)] :=
    ⟨by omega, newAt1 _ _ _, by omega, (allocAt _ _ _ (by simp)).trans (newAt _ _), trivial⟩
  have hgood : Good [(w.heap.size + 1, 40, 9), (w.heap.size, 12, 3)] none := ⟨fun n hn => by
    match n, hn with
    | 0, _ => simp [nd]
    | 1, _ => simp [nd], fun m hm => by cases hm⟩
  have HA : Hid (∀ W, Below (w.heap.size + 2) ((w.alloc (.cells #[.int .i64 12, .int .i64 3, .nilIface] 39)).alloc (.cells #[.int .i64 40, .int .i64 9, .iface 36 (.pointer (some ⟨w.heap.size, 0, none⟩))] 39)) W →
      HasType W ∧ w.heap.size + 2 ≤ W.heap.size ∧ ErrIn W none (w.heap.size + 2) [(w.heap.size + 1, 40, 9), (w.heap.size, 12, 3)] ∧ Below w.heap.size w W) := Lib.hid fun W hW => by
    have hs := hW.size
    simp at hs
    exact ⟨hg.keep (by rw [hW.block 0 (by omega), hB2.block 0 hg.pos]), by omega, hin0.below hW (Nat.le_refl _), hB2.trans (hW.mono (by omega))⟩
  have HR : Hid (∀ W, HasType W → w.heap.size + 2 ≤ W.heap.size → ErrIn W none (w.heap.size + 2) [(w.heap.size + 1, 40, 9), (w.heap.size, 12, 3)] →
      (Calls Tryd.prog 8 #[.iface 36 (.pointer (some ⟨w.heap.size + 1, 0, none⟩))] W fun e w' => e = .returned (.string ⟨#[52, 48, 64, 57, 62, 49, 50, 64, 51]⟩) ∧ Below W.heap.size W w') ∧
      (Calls Tryd.prog 11 #[.iface 36 (.pointer (some ⟨w.heap.size + 1, 0, none⟩))] W fun e w' => e = .returned (.int .i64 40) ∧ Below W.heap.size W w') ∧
      (Calls Tryd.prog 12 #[.iface 36 (.pointer (some ⟨w.heap.size + 1, 0, none⟩))] W fun e w' => e = .returned (.int .i64 12) ∧ Below W.heap.size W w') ∧
      (Calls Tryd.prog 13 #[.iface 36 (.pointer (some ⟨w.heap.size + 1, 0, none⟩))] W fun e w' => e = .returned (.int .i64 9) ∧ Below W.heap.size W w')) := Lib.hid fun W h1 h2 h3 => by
    refine ⟨(read_any _ _ _ W (by simp) h2 h3 hgood).mono ?_, code_any _ _ _ W (by simp) h1 h2 h3, root_any _ _ _ W (by simp) h1 h2 h3, place_any _ _ _ W (by simp) h1 h2 h3⟩
    rintro e w' ⟨he, hb⟩
    rw [awakeText] at he
    exact ⟨he, hb⟩
  have hW0 : Below (w.heap.size + 2) ((w.alloc (.cells #[.int .i64 12, .int .i64 3, .nilIface] 39)).alloc (.cells #[.int .i64 40, .int .i64 9, .iface 36 (.pointer (some ⟨w.heap.size, 0, none⟩))] 39)) _ := Below.refl _ _
  have H0 := Lib.hid hW0
  clear hB2 hin0 hgood hW0 hg
  go_enter Tryd.func6, Tryd.ntmps6
  go_wp2_with fail
  refine HN.out.mono ?_
  rintro e w1 ⟨rfl, rfl⟩
  go_wp2_with fail
  refine HW.out.mono ?_
  rintro e w2 ⟨rfl, rfl⟩
  obtain ⟨t2, s2, i2, b2⟩ := HA.out _ H0.out
  have K2 := Lib.hid (HR.out _ t2 s2 i2)
  have S2 := Lib.hid s2
  clear t2 s2 i2 b2
  go_wp2_with fail
  refine K2.out.1.mono ?_
  rintro e w3 ⟨rfl, hb⟩
  have H3 := Lib.hid (H0.out.trans (hb.mono S2.out))
  obtain ⟨t3, s3, i3, b3⟩ := HA.out w3 H3.out
  have K3 := Lib.hid (HR.out _ t3 s3 i3)
  have S3 := Lib.hid s3
  clear t3 s3 i3 b3 hb
  go_wp2_with fail
  refine K3.out.2.1.mono ?_
  rintro e w4 ⟨rfl, hb⟩
  have H4 := Lib.hid (H3.out.trans (hb.mono S3.out))
  obtain ⟨t4, s4, i4, b4⟩ := HA.out w4 H4.out
  have K4 := Lib.hid (HR.out _ t4 s4 i4)
  have S4 := Lib.hid s4
  clear t4 s4 i4 b4 hb
  go_wp2_with fail
  refine K4.out.2.2.1.mono ?_
  rintro e w5 ⟨rfl, hb⟩
  have H5 := Lib.hid (H4.out.trans (hb.mono S4.out))
  obtain ⟨t5, s5, i5, b5⟩ := HA.out w5 H5.out
  have K5 := Lib.hid (HR.out _ t5 s5 i5)
  have S5 := Lib.hid s5
  clear t5 s5 i5 b5 hb
  go_wp2_with fail
  refine K5.out.2.2.2.mono ?_
  rintro e w6 ⟨rfl, hb⟩
  have H6 := Lib.hid (H5.out.trans (hb.mono S5.out))
  obtain ⟨t6, s6, i6, b6⟩ := HA.out w6 H6.out
  have B6 := Lib.hid b6
  clear t6 s6 i6 b6 hb
  go_wp2_with fail
  refine (new_ok 3 _).mono ?_
  rintro e w7 ⟨rfl, rfl⟩
  go_wp2_with fail
  go_ret
  exact ⟨rfl, B6.out⟩
end Go.Proofs.YtinjaidmoghjjaaDoor
