/- MemberParts: true. Conditions: none but numbers' ranges. -/
import Derived.Test.YtkahecdnmeofkaaMbrI
namespace Go.Proofs.Ytkahecdnmeofkaa
open Go.RowKit
set_option maxRecDepth 100000

theorem parts12 : ∀ (q : Fin 128) (t : Fin 7), MbrP.hasT (MbrP.withT q.1 (t.1 : Int)) (t.1 : Int) = true ∧ MbrP.hasT (MbrP.outT q.1 (t.1 : Int)) (t.1 : Int) = false ∧ MbrP.outT (MbrP.withT q.1 (t.1 : Int)) (t.1 : Int) = MbrP.outT q.1 (t.1 : Int) ∧
    MbrP.len8 (MbrP.withT q.1 (t.1 : Int)) = MbrP.len8 (MbrP.outT q.1 (t.1 : Int)) + 1 ∧ decide (MbrP.withT q.1 (t.1 : Int) = q.1) = MbrP.hasT q.1 (t.1 : Int) := by decide +kernel
theorem len8_le (s : Nat) : MbrP.len8 s ≤ 8 := by
  have := List.countP_le_length (p := fun n => s.testBit n) (l := List.range 8)
  simpa [MbrP.len8] using this
set_option maxHeartbeats 4000000 in
theorem mparts_law (s : Nat) (hs : s < 256) (n : Int) (w : World) : Calls Try.prog 7 #[setV s, .int .i64 n] w (MTrue12 w) := by
  have HA := Lib.hid (awake12_any w)
  unfold MTrue12 at *
  obtain ⟨t, ht, hmod⟩ := mod_of n 7 (by decide) (by decide)
  have ht7 : t < 7 := by omega
  have hq : s &&& 127 < 128 := Nat.lt_of_le_of_lt Nat.and_le_right (by decide)
  have hand : bits BinOp.and IntKind.u8 (s : Int) 127 = ((s &&& 127 : Nat) : Int) := MbrP.bits_and (b := 127) hs (by decide)
  generalize s &&& 127 = q at *
  obtain ⟨p1, p2, p3, p4, p5⟩ := parts12 ⟨q, hq⟩ ⟨t, ht7⟩
  simp only at p1 p2 p3 p4 p5
  have p6 : MbrP.hasT q (t : Int) = decide (MbrP.withT q (t : Int) = q) := p5.symm
  clear p5
  have hq8 : q < 256 := by omega
  have ha8 := MbrP.with_in hq8 (t : Int)
  have hb8 := MbrP.out_in hq8 (t : Int)
  have C0 := Lib.hid (fun W => with_any q hq8 (t : Int) W)
  have C1 := Lib.hid (fun W => has_any _ ha8 (t : Int) W)
  have C2 := Lib.hid (fun W => without_any q hq8 (t : Int) W)
  have C3 := Lib.hid (fun W => has_any _ hb8 (t : Int) W)
  have C4 := Lib.hid (fun W => without_any _ ha8 (t : Int) W)
  have C5 := Lib.hid (fun W => list_any q hq8 W)
  have C6 := Lib.hid (fun A n' c hn hl W h => of_any A n' c (MbrP.ints (MbrP.lst q)) hl hn W h)
  have C7 := Lib.hid (fun W => len_any q hq8 W)
  have C8 := Lib.hid (fun W => len_any _ ha8 W)
  have C9 := Lib.hid (fun W => len_any _ hb8 W)
  have C10 := Lib.hid (fun W => has_any q hq8 (t : Int) W)
  have hls := (MbrP.lists_all ⟨q, hq⟩).2
  simp only at hls
  have hl7 := MbrP.lst_length q
  have hb9 := len8_le (MbrP.outT q (t : Int))
  have HLn := Lib.hid (MbrP.ints_length (MbrP.lst q))
  rw [MbrP.ofT_lst hq] at C6
  rw [p1] at C1
  rw [p2] at C3
  rw [p3] at C4
  rw [p4] at C8
  rw [p6] at C10
  unfold PureM at C0 C1 C2 C3 C4 C7 C8 C9 C10
  unfold Quiet at C6
  unfold ListP at C5
  rw [hls] at C5 HLn hl7
  unfold setV at *
  generalize MbrP.withT q (t : Int) = a at *
  generalize MbrP.outT q (t : Int) = b at *
  generalize MbrP.len8 q = lq at *
  generalize MbrP.len8 b = lb at *
  have e8 : ((lb + 1 : Nat) : Int) - (lb : Int) = 1 := by omega
  have e9 : IntKind.i64.wrap (((lb + 1 : Nat) : Int) - (lb : Int)) = 1 := by rw [e8]; rfl
  have e10 : IntKind.i64.wrap ((lb : Int) + 1 - (lb : Int)) = 1 := by rw [show (lb : Int) + 1 - (lb : Int) = 1 by omega]; rfl
  have e11 : wrap64 ((lb : Int) + 1 - (lb : Int)) = 1 := by rw [show (lb : Int) + 1 - (lb : Int) = 1 by omega]; exact IntWalk.wrap64_in 1 ⟨by omega, by omega⟩
  clear p1 p2 p3 p4 p6 hls hs hq ht
  go_enter Try.func7, Try.ntmps7
  go_wp2_with fail
  refine HA.out.mono ?_
  rintro e w1 ⟨rfl, hb1⟩
  have Hb1 := Lib.hid hb1
  clear hb1 HA
  go_wp2_with fail
  refine (C0.out _).mono ?_
  rintro e w2 ⟨rfl, rfl⟩
  go_wp2_with fail
  refine (C1.out _).mono ?_
  rintro e w2 ⟨rfl, rfl⟩
  go_wp2_with fail
  refine (C2.out _).mono ?_
  rintro e w2 ⟨rfl, rfl⟩
  go_wp2_with fail
  refine (C3.out _).mono ?_
  rintro e w2 ⟨rfl, rfl⟩
  go_wp2_with fail
  refine (C0.out _).mono ?_
  rintro e w2 ⟨rfl, rfl⟩
  go_wp2_with fail
  refine (C4.out _).mono ?_
  rintro e w2 ⟨rfl, rfl⟩
  go_wp2_with fail
  refine (C2.out _).mono ?_
  rintro e w2 ⟨rfl, rfl⟩
  go_wp2_with fail
  refine (C5.out _).mono ?_
  rintro e w2 ⟨v2, rfl, ho2, hb2⟩
  obtain ⟨A2, c2, rfl, -, hl2, hi2⟩ := own_ints ho2
  have HO := Lib.hid (C6.out A2 lq c2 (by omega) hl2 w2 hi2)
  have Hb2 := Lib.hid (Hb1.out.trans (hb2.mono Hb1.out.size))
  clear ho2 hb2 hi2 hl2
  go_wp2_with fail
  refine HO.out.mono ?_
  rintro e w3 ⟨rfl, m3, rfl⟩
  have Hb3 := Lib.hid (below_drewNc Hb2.out m3)
  generalize w2.drewN m3 = w3 at *
  go_wp2_with fail
  refine (C5.out _).mono ?_
  rintro e w4 ⟨v4, rfl, ho4, hb4⟩
  obtain ⟨A4, c4, rfl, -⟩ := own_slice ho4
  have Hb4 := Lib.hid (Hb3.out.trans (hb4.mono Hb3.out.size))
  clear ho4 hb4
  go_wp2_with fail
  refine (C7.out _).mono ?_
  rintro e w5 ⟨rfl, rfl⟩
  go_wp2_with fail
  refine (C0.out _).mono ?_
  rintro e w5 ⟨rfl, rfl⟩
  go_wp2_with fail
  refine (C8.out _).mono ?_
  rintro e w5 ⟨rfl, rfl⟩
  go_wp2_with fail
  refine (C2.out _).mono ?_
  rintro e w5 ⟨rfl, rfl⟩
  go_wp2_with fail
  refine (C9.out _).mono ?_
  rintro e w5 ⟨rfl, rfl⟩
  go_wp2_with fail
  refine (C0.out _).mono ?_
  rintro e w5 ⟨rfl, rfl⟩
  go_wp2_with fail
  refine (C10.out _).mono ?_
  rintro e w5 ⟨rfl, rfl⟩
  go_wp2_with fail
  go_ret
  have HE : (((a : Int) == (q : Int)) == decide (a = q)) = true := by
    by_cases h : a = q
    · subst h; simp
    · have h2 : ((a : Int) == (q : Int)) = false := by rw [beq_eq_false_iff_ne]; omega
      rw [h2, decide_eq_false h]; rfl
  exact ⟨congrArg (fun z => Ending.returned (.bool z)) HE, Hb4.out⟩
end Go.Proofs.Ytkahecdnmeofkaa
