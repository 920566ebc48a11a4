/- QueueFull: the walk of the law. Conditions: none. -/
import Derived.Test.YtlijcfojokbdpaaQueI
namespace Go.Proofs.Ytlijcfojokbdpaa
open Go.RowKit
set_option maxRecDepth 100000

/-- So many events were put. -/
def FullR (w1 : World) (i : Value) (W : World) : Prop := ∃ (n : Nat) (want : List QueP.Ev), n ≤ 4096 ∧ i = .int .i64 (n : Nat) ∧ want.length = n ∧ QueS W w1.heap.size w1.heap.size want (n : Nat) ∧ Below w1.heap.size w1 W
/-- So many events were taken, the last at such a time. -/
def EmptyR (w1 : World) (N : Nat) (last k : Value) (W : World) : Prop := ∃ (l : Int) (n : Nat) (want : List QueP.Ev) (a b c : Int), last = .int .i64 l ∧ k = .int .i64 (n : Nat) ∧ n + want.length = 4096 ∧ (0 < n → ∀ y ∈ want, l ≤ y.at_) ∧ QueS W w1.heap.size w1.heap.size want 4097 ∧ W.heap[N]? = some (.cells #[.int .i64 a, .int .i64 b, .int .i64 c] 28 (0, 0)) ∧ Below w1.heap.size w1 W

theorem best_least {want : List QueP.Ev} {x : QueP.Ev} (h : 0 < want.length) (hx : want[QueP.bestTo want want.length]? = some x) : ∀ y ∈ want, ¬ QueP.less y x := fun y hy => by
  obtain ⟨x', h1, h2, -⟩ := QueP.best_to want h want.length (Nat.le_refl _)
  rw [hx] at h1
  cases h1
  obtain ⟨j, hj⟩ := List.mem_iff_getElem?.1 hy
  exact h2 j y (List.getElem?_eq_some_iff.1 hj).1 hj

set_option maxHeartbeats 4000000 in
theorem full_law (a s : Int) (w : World) : Calls Try.prog 4 #[.int .i64 a, .int .i64 s] w (QBool true w) := by
  have HA := Lib.hid (awake_any w)
  have HNw := Lib.hid (fun W => new_any W)
  have HE : Hid (∀ W, Calls Try.prog 12 #[.int .i64 11] W fun e w' => e = .returned (strV (numN 11)) ∧ Below W.heap.size W w') := Lib.hid (fun W => e_any 11 W (by omega))
  have HR : Hid (∀ W, Calls Try.prog 11 #[.iface 47 (.int .i64 11)] W fun e w' => e = .returned (strV (numN 11)) ∧ Below W.heap.size W w') := Lib.hid (fun W => read_any 0 [] (some 11) W (by simp) (Nat.zero_le _) trivial ⟨by simp, by simp⟩)
  generalize numN 11 = y at *
  unfold strV at *
  go_enter Try.func4, Try.ntmps4
  go_wp2_with fail
  refine HA.out.mono ?_
  rintro e w1 ⟨rfl, hb1⟩
  have Hb1 := Lib.hid hb1
  clear hb1 HA
  go_wp2_with fail
  refine (HNw.out _).mono ?_
  rintro e w2 ⟨rfl, rfl⟩
  have HS : Hid (FullR w1 (.int .i64 0) (w1.alloc (.cells #[.slice none 0 0, .int .i64 0] 46))) := Lib.hid ⟨0, [], by omega, rfl, rfl, new_holds w1, (Below.refl _ _).alloc (Nat.le_refl _) _⟩
  generalize w1.alloc (.cells #[.slice none 0 0, .int .i64 0] 46) = w2 at *
  clear HNw
  go_wp2_with fail
  go_loopw [6] (FullR w1) (fun i _ => (4096 - intOf i).toNat)
  case atStart => exact HS.out
  case round =>
    clear HS
    obtain ⟨n, want, hn, rfl, hwl, hq, hb⟩ := hrel
    by_cases hlt : n < 4096
    · have HPk := Lib.hid (fun v => put_any wr _ _ want (n : Nat) hq (by omega) (by omega) (by omega) ⟨v, 0, (n : Nat)⟩)
      have HF : Hid (∀ (v : Int) W, QueS W w1.heap.size w1.heap.size (want ++ [⟨v, 0, (n : Nat)⟩]) ((n : Int) + 1) → QOnly w1.heap.size wr W → FullR w1 (.int .i64 ((n : Int) + 1)) W) := Lib.hid fun v W h1 h2 =>
        ⟨n + 1, want ++ [⟨v, 0, (n : Nat)⟩], by omega, by go_num, by simp [hwl], by simpa using h1, hb.trans (h2.below hb.size)⟩
      have q1 : decide ((n : Int) < 4096) = true := decide_eq_true (by omega)
      clear hq hb hwl
      unfold evV queV at HPk
      go_wp2_with fail
      refine (HPk.out _).mono ?_
      rintro e w3 ⟨rfl, hq3, ho3⟩
      have HF3 := Lib.hid (HF.out _ _ hq3 ho3)
      clear hq3 ho3 HF
      go_wp2_with fail
      go_roundw
      case rel => exact HF3.out
      case measure => simp [intOf]; omega
    obtain rfl : n = 4096 := by omega
    have HPf := Lib.hid (fun v => put_full wr _ _ want _ hq hwl ⟨v, 0, 0⟩)
    have Hq := Lib.hid hq
    have Hb := Lib.hid hb
    have Hwl := Lib.hid hwl
    clear hq hb hwl hlt
    unfold evV queV at HPf
    go_wp2_with fail
    refine (HPf.out _).mono ?_
    rintro e w3 ⟨rfl, hb3⟩
    have hq3 := Hq.out.keep hb3
    have Hb3 := Lib.hid (Hb.out.trans (hb3.mono Hb.out.size))
    have HT3 := Lib.hid (take_any w3 _ _ want _ hq3 (by rw [Hwl.out]; omega) (by rw [Hwl.out]; omega))
    clear hb3 Hq Hb HPf hq3
    unfold queV at HT3
    go_wp2_with fail
    refine HT3.out.mono ?_
    rintro e w4 ⟨⟨x0, x1, x2⟩, hx4, rfl, hq4, ho4⟩
    have hl4 : (want.eraseIdx (QueP.bestTo want want.length)).length = 4095 := by
      rw [List.length_eraseIdx, if_pos (List.getElem?_eq_some_iff.1 hx4).1, Hwl.out]
    have Hb4 := Lib.hid (Hb3.out.trans (ho4.below Hb3.out.size))
    generalize want.eraseIdx (QueP.bestTo want want.length) = want4 at *
    clear hx4 ho4 HT3 Hb3 Hwl
    have hbx : ∀ o, Below w4.heap.size w4 (w4.alloc o) := fun o => (Below.refl _ _).alloc (Nat.le_refl _) o
    have HP4 := Lib.hid (fun o => put_any (w4.alloc o) _ _ want4 _ (hq4.keep (hbx o)) (by omega) (by omega) (by omega) ⟨x0, 0, -1⟩)
    clear hq4 hbx
    unfold evV queV at HP4
    simp only [evV]
    go_wp2_with fail
    refine (HP4.out _).mono ?_
    rintro e w5 ⟨rfl, hq5, ho5⟩
    have hx5 := ho5.block (heap_alloc_new w4 _) (by decide) (by decide)
    have Hb5 := Lib.hid ((Hb4.out.alloc Hb4.out.size _).trans (ho5.below (by have := Hb4.out.size; simp; omega)))
    have HE5 : Hid (∀ W, Below w5.heap.size w5 W → EmptyR w1 w4.heap.size (.int .i64 0) (.int .i64 0) W) := Lib.hid fun W hW =>
      ⟨0, 0, want4 ++ [⟨x0, 0, -1⟩], x0, x1, x2, rfl, rfl, by simp [hl4], by omega, hq5.keep hW, (hW.block _ (lt_of_block hx5)).trans hx5, Hb5.out.trans (hW.mono Hb5.out.size)⟩
    have hNb : w1.heap.size ≤ w4.heap.size := Hb4.out.size
    clear hq5 ho5 hx5 HP4 hl4 Hb4
    go_wp2_with fail
    refine (HR.out _).mono ?_
    rintro e w6 ⟨rfl, hb6⟩
    have Hb6 := Lib.hid hb6
    clear hb6
    go_wp2_with fail
    refine (HE.out _).mono ?_
    rintro e w7 ⟨rfl, hb7⟩
    have HE7 := Lib.hid (HE5.out _ (Hb6.out.trans (hb7.mono Hb6.out.size)))
    clear hb7 Hb6 HE5 HR HE
    generalize w4.heap.size = N at *
    go_wp2_with fail
    go_loopw [8, 9] (EmptyR w1 N) (fun _ k _ => (4096 - intOf k).toNat)
    case atStart => exact HE7.out
    case round =>
      clear HE7
      obtain ⟨l, n, want2, b0, b1, b2, rfl, rfl, hnl, hle, hq, hN, hb⟩ := hrel
      have HLn := Lib.hid (len_any wr _ _ want2 _ hq)
      have Hb := Lib.hid hb
      have HN := Lib.hid hN
      unfold queV at HLn
      by_cases h0 : want2.length = 0
      · obtain rfl : n = 4096 := by omega
        rw [h0] at HLn
        clear hnl hle hq hN hb h0
        go_wp2_with fail
        refine HLn.out.mono ?_
        rintro e w8 ⟨rfl, hb8⟩
        have Hb8 := Lib.hid ((Hb1.out.trans (Hb.out.mono Hb1.out.size)).trans (hb8.mono (by have := Hb.out.size; have := Hb1.out.size; omega)))
        clear hb8
        go_wp2_with fail
        go_ret
        exact ⟨rfl, Hb8.out⟩
      have hpos : 0 < want2.length := by omega
      have q0 : decide ((0 : Int) < (want2.length : Int)) = true := decide_eq_true (by omega)
      have q0' : decide (0 < want2.length) = true := decide_eq_true hpos
      have Hq := Lib.hid hq
      have Hle := Lib.hid hle
      have Hnl := Lib.hid hnl
      have HBl := Lib.hid (fun x hx => best_least (x := x) hpos hx)
      clear hnl hle hq hN hb h0
      go_wp2_with fail
      refine HLn.out.mono ?_
      rintro e w8 ⟨rfl, hb8⟩
      have HT8 := Lib.hid (take_any w8 _ _ want2 _ (Hq.out.keep hb8) hpos (by have := Hnl.out; omega))
      have Hb8 := Lib.hid (Hb.out.trans (hb8.mono Hb.out.size))
      have HN8 := Lib.hid ((hb8.block _ (lt_of_block HN.out)).trans HN.out)
      clear hb8 Hq Hb HN HLn
      unfold queV at HT8
      go_wp2_with fail
      refine HT8.out.mono ?_
      rintro e w9 ⟨⟨x0, x1, x2⟩, hx9, rfl, hq9, ho9⟩
      have hl9 : (want2.eraseIdx (QueP.bestTo want2 want2.length)).length + 1 = want2.length := by
        rw [List.length_eraseIdx, if_pos (List.getElem?_eq_some_iff.1 hx9).1]
        omega
      have hlx : 0 < n → l ≤ x0 := fun h => Hle.out h _ (List.mem_of_getElem? hx9)
      have hxy : ∀ y ∈ want2.eraseIdx (QueP.bestTo want2 want2.length), x0 ≤ y.at_ := fun y hy => by
        have := HBl.out _ hx9 y (List.mem_of_mem_eraseIdx hy)
        unfold QueP.less at this
        simp only at this
        omega
      have hN9 := ho9.block HN8.out (by decide) (by decide)
      have Hb9 := Lib.hid (Hb8.out.trans (ho9.below Hb8.out.size))
      generalize want2.eraseIdx (QueP.bestTo want2 want2.length) = want9 at *
      have r0 := cell_at hN9 0 rfl
      have r1 := cell_at hN9 1 rfl
      have r2 := cell_at hN9 2 rfl
      have f0 := free_at hN9 0
      have f1 := free_at hN9 1
      have f2 := free_at hN9 2
      have hlt9 := lt_of_block hN9
      have g1 := heap_setCell_same w9 N 0 _ _ (.int .i64 x0) hN9
      have g2 := heap_setCell_same _ N 1 _ _ (.int .i64 x1) g1
      have g3 := heap_setCell_same _ N 2 _ _ (.int .i64 x2) g2
      have HG := Lib.hid g3
      have hA9 : Apart (fun k => k = N) w9 (((w9.setCell ⟨N, 0, none⟩ (.int .i64 x0)).setCell ⟨N, 1, none⟩ (.int .i64 x1)).setCell ⟨N, 2, none⟩ (.int .i64 x2)) :=
        (((Apart.refl (fun k => k = N) w9).setCell (p := ⟨N, 0, none⟩) (.inl rfl) _).setCell (p := ⟨N, 1, none⟩) (.inl rfl) _).setCell (p := ⟨N, 2, none⟩) (.inl rfl) _
      have hq10 := hq9.beside hA9 (fun k cs t hk ht e => by
        subst e
        rw [hN9] at hk
        simp only [Option.some.injEq, Obj.cells.injEq] at hk
        obtain ⟨-, rfl, -⟩ := hk
        rcases ht with ht | ht <;> exact absurd ht (by decide))
      have HF : Hid (EmptyR w1 N (.int .i64 x0) (.int .i64 ((n : Int) + 1)) (((w9.setCell ⟨N, 0, none⟩ (.int .i64 x0)).setCell ⟨N, 1, none⟩ (.int .i64 x1)).setCell ⟨N, 2, none⟩ (.int .i64 x2))) := Lib.hid
        ⟨x0, n + 1, want9, x0, x1, x2, rfl, by go_num, by have := Hnl.out; omega, fun _ => hxy, hq10, HG.out, Hb9.out.trans (hA9.below Hb9.out.size (fun k e => by omega))⟩
      have hn4 : n ≤ 4096 := by have := Hnl.out; omega
      clear hx9 hq9 ho9 hxy hN9 g1 g2 g3 hA9 hq10 Hb9 HG hl9 HT8 HN8 Hb8 HBl Hle
      simp only [evV]
      by_cases hn0 : n = 0
      · subst hn0
        have HF2 := Lib.hid HF.out
        clear HF hlx
        go_wp2_with fail
        go_roundw
        case rel => exact HF2.out
        case measure => simp [intOf]
      have q1 : decide ((0 : Int) < (n : Int)) = true := decide_eq_true (by omega)
      have q2 : decide (x0 < l) = false := decide_eq_false (by have := hlx (by omega); omega)
      have q3 : decide (0 < n) = true := decide_eq_true (by omega)
      clear hlx hn0
      go_wp2_with fail
      go_roundw
      case rel => exact HF.out
      case measure => simp [intOf]; have := Hnl.out; omega
end Go.Proofs.Ytlijcfojokbdpaa
