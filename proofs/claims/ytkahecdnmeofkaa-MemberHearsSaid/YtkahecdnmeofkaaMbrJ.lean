/- MemberSets and MemberParts: true. Conditions: where the numbers lie. -/
import Derived.Test.YtkahecdnmeofkaaMbrI
namespace Go.Proofs.Ytkahecdnmeofkaa
open Go.RowKit
set_option maxRecDepth 100000

theorem pow_just {k : Nat} (h : k < 7) : (2 : Int) ^ k % 256 = ((MbrP.just (k : Int) : Nat) : Int) := by
  have h2 : ∀ j : Fin 7, (2 : Int) ^ j.1 % 256 = ((2 ^ j.1 : Nat) : Int) := by decide +kernel
  rw [MbrP.just_in h]
  exact h2 ⟨k, h⟩
theorem just8 (n : Int) : MbrP.just n < 256 := Nat.lt_trans (MbrP.just_small n) (by decide)
theorem with_out {z : Nat} {n : Int} (h : ¬ (0 ≤ n ∧ n < 7)) : MbrP.withT z n = z := by unfold MbrP.withT; rw [MbrP.just_out h]; simp
def WanR (l : List Int) (w1 : World) (z i : Value) (W : World) : Prop := ∃ k m, k ≤ l.length ∧ i = .int .i64 (k : Nat) ∧ z = setV (MbrP.ofT (l.take k)) ∧ W = w1.drewN m
def LstR (s : Nat) (w1 : World) (v i : Value) (W : World) : Prop := ∃ k, k ≤ 7 ∧ i = .int .i64 (k : Nat) ∧ W.ownsRow w1.heap.size 3 1 v (lstK s k).length (intV (MbrP.ints (lstK s k))) ∧ Below w1.heap.size w1 W
set_option maxHeartbeats 4000000 in
theorem msets_law (s : Nat) (hs : s < 256) (A : Option Addr) (n cap : Nat) (l : List Int) (hl : l.length = n) (x : Int) (w : World) (h : IntsIn w A l) : Calls Try.prog 3 #[setV s, .slice A n cap, .int .i64 x] w (MTrue12 w) := by
  have HA := Lib.hid (awake12_any w)
  unfold MTrue12 at *
  have Hl := Lib.hid hl
  have HI := Lib.hid (fun W (hW : Below w.heap.size w W) => h.below hW)
  clear h hl
  by_cases hn : 1000 < n
  · have q1 : decide ((1000 : Int) < (n : Int)) = true := decide_eq_true (by omega)
    have q2 : decide (1000 < n) = true := decide_eq_true hn
    unfold setV
    clear hn HI hs
    go_enter Try.func3, Try.ntmps3
    go_wp2_with fail
    refine HA.out.mono ?_
    rintro e w1 ⟨rfl, hb1⟩
    go_wp2_with fail
    go_ret
    exact ⟨rfl, hb1⟩
  have q1 : decide ((1000 : Int) < (n : Int)) = false := decide_eq_false (by omega)
  have q2 : decide (1000 < n) = false := decide_eq_false hn
  have hn1 : n ≤ 1000 := by omega
  have C0 := Lib.hid (fun W => has_any s hs x W)
  have C1 := Lib.hid (fun W => refhas_any s hs x W)
  have C2 := Lib.hid (fun W => with_any s hs x W)
  have C3 := Lib.hid (fun W => without_any s hs x W)
  have C4 := Lib.hid (fun W => len_any s hs W)
  have C5 := Lib.hid (fun W => reflen_any s hs W)
  have C6 := Lib.hid (fun W => list_any s hs W)
  have hbit := just8 x
  have hwi : bits BinOp.or IntKind.u8 (s : Int) ((MbrP.just x : Nat) : Int) = ((MbrP.withT s x : Nat) : Int) := MbrP.bits_or hs hbit
  have hou : bits BinOp.andNot IntKind.u8 (s : Int) ((MbrP.just x : Nat) : Int) = ((MbrP.outT s x : Nat) : Int) := MbrP.bits_out hs hbit
  have HS := Lib.hid (fun (k : Nat) (hk : k < 7) => MbrP.shr_bit hs (k := k) (by omega))
  have HWt : Hid (∀ (k : Nat) (y : Nat), y < 7 → bits BinOp.or IntKind.u8 ((MbrP.ofT (l.take k) : Nat) : Int) ((MbrP.just (y : Int) : Nat) : Int) = ((MbrP.withT (MbrP.ofT (l.take k)) (y : Int) : Nat) : Int)) := Lib.hid fun k y _ => MbrP.bits_or (Nat.lt_trans (MbrP.ofT_in _) (by decide)) (just8 _)
  unfold PureM at C0 C1 C2 C3 C4
  unfold Quiet at C5
  unfold setV at C0 C1 C2 C3 C4 C5 C6 ⊢
  clear hn hs
  go_enter Try.func3, Try.ntmps3
  go_wp2_with fail
  refine HA.out.mono ?_
  rintro e w1 ⟨rfl, hb1⟩
  have HI1 := Lib.hid (HI.out w1 hb1)
  have Hb1 := Lib.hid hb1
  have HW0 : Hid (WanR l w1 (.int .u8 0) (.int .i64 0) w1) := Lib.hid ⟨0, 0, Nat.zero_le _, rfl, rfl, rfl⟩
  clear hb1 HI HA
  go_wp2_with fail
  go_loopw [8, 22] (WanR l w1) (fun _ i _ => (n + 1 - intOf i).toNat)
  case atStart => exact HW0.out
  case round =>
    clear HW0
    obtain ⟨k, m, hk, rfl, rfl, rfl⟩ := hrel
    rw [Hl.out] at hk
    by_cases hkn : k < n
    case pos =>
      clear C0 C1 C2 C3 C4 C5 C6 hwi hou hbit HS q1 q2
      obtain ⟨y, hy⟩ : ∃ y, l[k]? = some y := ⟨_, List.getElem?_eq_getElem (by rw [Hl.out]; exact hkn)⟩
      obtain ⟨ba, oa, rfl, -, c0⟩ := HI1.out.at_ hy
      have q1 : decide ((k : Int) < (n : Int)) = true := decide_eq_true (by omega)
      have hkz : (k : Int) < (n : Int) := by omega
      have e1 : IntKind.i64.wrap ((k : Int) + 1) = (k : Int) + 1 := IntWalk.i64_in _ (by omega)
      have hof := MbrP.ofT_take hy
      have HR : Hid (∀ m', WanR l w1 (setV (MbrP.withT (MbrP.ofT (l.take k)) y)) (.int .i64 ((k : Int) + 1)) (w1.drewN m')) := Lib.hid fun m' => ⟨k + 1, m', by rw [Hl.out]; exact hkn, by go_num, by rw [hof], rfl⟩
      have HWk := Lib.hid (HWt.out k)
      by_cases hy0 : 0 ≤ y
      case neg =>
        have g1 : decide (y ≥ 0) = false := decide_eq_false hy0
        rw [with_out (by omega)] at HR
        unfold setV at *
        clear hk hy hof HWt hy0
        go_wp2_with fail
        go_roundw
        case rel => exact HR.out _
        case measure => simp [intOf]; omega
      have g1 : decide (y ≥ 0) = true := decide_eq_true hy0
      by_cases hy7 : y < 7
      case neg =>
        have g2 : decide (y < 7) = false := decide_eq_false hy7
        rw [with_out (by omega)] at HR
        unfold setV at *
        clear hk hy hof HWt hy0 hy7
        go_wp2_with fail
        go_roundw
        case rel => exact HR.out _
        case measure => simp [intOf]; omega
      have g2 : decide (y < 7) = true := decide_eq_true hy7
      obtain ⟨j, rfl⟩ := Int.eq_ofNat_of_zero_le hy0
      have hpj := pow_just (k := j) (by omega)
      have hwj := HWk.out j (by omega)
      generalize MbrP.withT (MbrP.ofT (l.take k)) (j : Int) = z2 at *
      generalize MbrP.ofT (l.take k) = z1 at *
      generalize MbrP.just (j : Int) = jj at *
      unfold setV at *
      clear hk hy hof HWt HWk
      go_wp2_with fail
      go_roundw
      case rel => exact HR.out _
      case measure => simp [intOf]; omega
    obtain rfl : k = n := by omega
    have hof : l.take k = l := by rw [← Hl.out, List.take_length]
    rw [hof]
    have q1k : decide ((k : Int) < (k : Int)) = false := decide_eq_false (by omega)
    have hwt7 := MbrP.ofT_in l
    generalize hz : MbrP.ofT l = z at *
    have Hz := Lib.hid hz
    unfold setV
    clear hk hkn hof hz HWt
    have HI3 := Lib.hid (HI1.out.below (below_drewNc (Below.refl w1.heap.size w1) m))
    have Hb3 := Lib.hid (below_drewNc Hb1.out m)
    generalize w1.drewN m = w3 at *
    have HL0 : Hid (LstR s w3 (.slice none 0 0) (.int .i64 0) w3) := Lib.hid ⟨0, by omega, rfl, ⟨rfl, .inl ⟨rfl, rfl⟩⟩, Below.refl _ _⟩
    clear HI1 Hb1
    by_cases hx0 : 0 ≤ x
    case neg =>
      have g1 : decide (x ≥ 0) = false := decide_eq_false hx0
      have hj0 := MbrP.just_out (n := x) (by omega)
      rw [hj0] at hwi hou
      have hwi : bits BinOp.or IntKind.u8 (s : Int) 0 = ((MbrP.withT s x : Nat) : Int) := hwi
      have hou : bits BinOp.andNot IntKind.u8 (s : Int) 0 = ((MbrP.outT s x : Nat) : Int) := hou
      clear hj0
      go_wp2_with fail
      go_loopw [12, 13] (LstR s w3) (fun _ i _ => (8 - intOf i).toNat)
      case atStart => exact HL0.out
      case round =>
        clear HL0
        obtain ⟨k2, hk2, rfl, hO, hB⟩ := hrel
        obtain ⟨Av, cv, rfl, -⟩ := own_slice hO
        have HOw := Lib.hid hO
        have HBw := Lib.hid hB
        clear hO hB
        by_cases hk7 : k2 < 7
        case pos =>
          clear C0 C1 C2 C3 C4 C5 C6 hwi hou hbit
          try clear hpj
          have g7 : decide ((k2 : Int) < 7) = true := decide_eq_true (by omega)
          have e1 : IntKind.i64.wrap ((k2 : Int) + 1) = (k2 : Int) + 1 := IntWalk.i64_in _ (by omega)
          have hb := HS.out k2 hk7
          simp only [Int.toNat_natCast] at hb
          have hst := lstK_step s k2
          have hlen := lstK_length s k2
          cases ht : s.testBit k2 with
          | false =>
            rw [ht] at hb
            rw [ht, if_neg (by decide)] at hst
            have HR : Hid (LstR s w3 (.slice Av (lstK s k2).length cv) (.int .i64 ((k2 : Int) + 1)) wr) := Lib.hid ⟨k2 + 1, hk7, by go_num, by rw [hst]; exact HOw.out, HBw.out⟩
            simp only [Bool.toNat_false] at hb
            clear hst HS HOw HBw
            go_wp2_with fail
            go_roundw
            case rel => exact HR.out
            case measure => simp [intOf]; omega
          | true =>
            rw [ht] at hb
            rw [ht, if_pos rfl] at hst
            simp only [Bool.toNat_true] at hb
            clear HS
            go_wp2_with (at_builtin
                         refine wpList_int1 rfl (.tmp 54) (.tmp 56) rfl w3.heap.size _ _ (MbrP.ints (lstK s k2)) rfl HOw.out (k2 : Int) rfl (by omega) HBw.out.size ?_
                         intro v2 w2 ho2 hb2
                         have HR : Hid (LstR s w3 v2 (.int .i64 ((k2 : Int) + 1)) w2) := Lib.hid ⟨k2 + 1, hk7, by go_num, by rw [hst]; simpa [MbrP.ints] using ho2, HBw.out.trans hb2⟩
                         clear ho2 hb2 HOw HBw hst)
            go_roundw
            case rel => exact HR.out
            case measure => simp [intOf]; omega
        obtain rfl : k2 = 7 := by omega
        have g7 : decide (((7 : Nat) : Int) < 7) = false := by decide
        obtain ⟨A3, c3, e3, hc3, hl3, hi3⟩ := own_ints HOw.out
        injection e3 with e31 e32 e33
        subst e31 e33
        have HI3b := Lib.hid (HI3.out.below HBw.out)
        have HI4 := Lib.hid (fun W (hW : Below wr.heap.size wr W) => hi3.below hW)
        have Hbw := Lib.hid (Hb3.out.trans (HBw.out.mono Hb3.out.size))
        have HOe := Lib.hid (World.ownsRow_lit (base := wr.heap.size) (e := 3) (size := 1) wr #[] 0 (Nat.le_refl _) (by unfold maxLen; omega) rfl)
        have HB1 := Lib.hid (fun o => (Below.refl wr.heap.size wr).alloc (Nat.le_refl _) o)
        have Hls := Lib.hid (show (MbrP.ints (lstK s 7)).length = (lstK s 7).length from List.length_map _)
        have hls7 := lstK_length s 7
        have HLP := C6
        unfold ListP at HLP
        simp only [show MbrP.lst s = lstK s 7 from rfl] at HLP
        have HSm := Lib.hid (fun A5 c5 W h5 (hW : Below wr.heap.size wr W) => isame_any A5 Av (lstK s 7).length c5 cv (MbrP.ints (lstK s 7)) Hls.out (by omega) W h5 (HI4.out W hW))
        unfold Quiet at HSm
        generalize lstK s 7 = LL at *
        clear hi3 hl3 HBw HOw HI3 C6 HS HI4 Hb3
        go_wp2_with (at_builtin
                     refine wpList_append_s rfl (.tmp 58) (.tmp 59) _ rfl wr.heap.size 3 (.int .i64 0) 1 8 Try.underlying22 infoInt rfl (by decide) _ 0 [] rfl HOe.out A k cap (intV l) rfl (by rw [intV_length, Hl.out, Nat.mul_one]) (fun h0 => (HI3b.out.below (HB1.out _)).news (by rw [Hl.out]; exact h0)) (intV_one l) (by unfold maxLen; omega) (by omega) (by simp) ?_
                     intro v4 w4 h1 h2 h3
                     have hb4 : Below wr.heap.size wr w4 := (HB1.out (.cells #[] 3)).trans (h2.below (by simp) (fun q e => by have e : some wr.heap.size = some q := e; cases e; exact Nat.le_refl _))
                     have h5 : w4.ownsRow wr.heap.size 3 1 v4 k (intV l) := by simpa using h1
                     obtain ⟨A4, c4, rfl, -, -, hi4⟩ := own_ints h5
                     have HOf := Lib.hid (of_any A4 k c4 l Hl.out (by omega) w4 hi4)
                     rw [Hz.out] at HOf
                     unfold Quiet setV at HOf
                     have Hb4 := Lib.hid hb4
                     clear h1 h2 h3 h5 hi4 hb4 HOe HB1 HI3b)
        refine HOf.out.mono ?_
        rintro e w5 ⟨rfl, m5, rfl⟩
        go_wp2_with fail
        refine (C0.out _).mono ?_
        rintro e w6 ⟨rfl, rfl⟩
        go_wp2_with fail
        refine (C1.out _).mono ?_
        rintro e w6 ⟨rfl, rfl⟩
        go_wp2_with fail
        refine (C2.out _).mono ?_
        rintro e w6 ⟨rfl, rfl⟩
        go_wp2_with fail
        refine (C3.out _).mono ?_
        rintro e w6 ⟨rfl, rfl⟩
        go_wp2_with fail
        refine (C4.out _).mono ?_
        rintro e w6 ⟨rfl, rfl⟩
        go_wp2_with fail
        refine (C5.out _).mono ?_
        rintro e w6 ⟨rfl, m6, rfl⟩
        go_wp2_with fail
        refine (HLP.out _).mono ?_
        rintro e w7 ⟨v7, rfl, ho7, hb7⟩
        obtain ⟨A7, c7, rfl, -, -, hi7⟩ := own_ints ho7
        have hb47 : Below wr.heap.size wr w7 := (below_drewNc Hb4.out (m5 + m6)).trans (hb7.mono (below_drewNc Hb4.out (m5 + m6)).size)
        have HS7 := Lib.hid (HSm.out A7 c7 w7 hi7 hb47)
        have Hb7 := Lib.hid (Hbw.out.trans (hb47.mono Hbw.out.size))
        clear ho7 hb7 hi7 hb47
        go_wp2_with fail
        refine HS7.out.mono ?_
        rintro e w8 ⟨rfl, m8, rfl⟩
        go_wp2_with fail
        go_ret
        exact ⟨rfl, below_drewNc Hb7.out _⟩
    have g1 : decide (x ≥ 0) = true := decide_eq_true hx0
    by_cases hx7 : x < 7
    case neg =>
      have g2 : decide (x < 7) = false := decide_eq_false hx7
      have hj0 := MbrP.just_out (n := x) (by omega)
      rw [hj0] at hwi hou
      have hwi : bits BinOp.or IntKind.u8 (s : Int) 0 = ((MbrP.withT s x : Nat) : Int) := hwi
      have hou : bits BinOp.andNot IntKind.u8 (s : Int) 0 = ((MbrP.outT s x : Nat) : Int) := hou
      clear hj0
      go_wp2_with fail
      go_loopw [12, 13] (LstR s w3) (fun _ i _ => (8 - intOf i).toNat)
      case atStart => exact HL0.out
      case round =>
        clear HL0
        obtain ⟨k2, hk2, rfl, hO, hB⟩ := hrel
        obtain ⟨Av, cv, rfl, -⟩ := own_slice hO
        have HOw := Lib.hid hO
        have HBw := Lib.hid hB
        clear hO hB
        by_cases hk7 : k2 < 7
        case pos =>
          clear C0 C1 C2 C3 C4 C5 C6 hwi hou hbit
          try clear hpj
          have g7 : decide ((k2 : Int) < 7) = true := decide_eq_true (by omega)
          have e1 : IntKind.i64.wrap ((k2 : Int) + 1) = (k2 : Int) + 1 := IntWalk.i64_in _ (by omega)
          have hb := HS.out k2 hk7
          simp only [Int.toNat_natCast] at hb
          have hst := lstK_step s k2
          have hlen := lstK_length s k2
          cases ht : s.testBit k2 with
          | false =>
            rw [ht] at hb
            rw [ht, if_neg (by decide)] at hst
            have HR : Hid (LstR s w3 (.slice Av (lstK s k2).length cv) (.int .i64 ((k2 : Int) + 1)) wr) := Lib.hid ⟨k2 + 1, hk7, by go_num, by rw [hst]; exact HOw.out, HBw.out⟩
            simp only [Bool.toNat_false] at hb
            clear hst HS HOw HBw
            go_wp2_with fail
            go_roundw
            case rel => exact HR.out
            case measure => simp [intOf]; omega
          | true =>
            rw [ht] at hb
            rw [ht, if_pos rfl] at hst
            simp only [Bool.toNat_true] at hb
            clear HS
            go_wp2_with (at_builtin
                         refine wpList_int1 rfl (.tmp 54) (.tmp 56) rfl w3.heap.size _ _ (MbrP.ints (lstK s k2)) rfl HOw.out (k2 : Int) rfl (by omega) HBw.out.size ?_
                         intro v2 w2 ho2 hb2
                         have HR : Hid (LstR s w3 v2 (.int .i64 ((k2 : Int) + 1)) w2) := Lib.hid ⟨k2 + 1, hk7, by go_num, by rw [hst]; simpa [MbrP.ints] using ho2, HBw.out.trans hb2⟩
                         clear ho2 hb2 HOw HBw hst)
            go_roundw
            case rel => exact HR.out
            case measure => simp [intOf]; omega
        obtain rfl : k2 = 7 := by omega
        have g7 : decide (((7 : Nat) : Int) < 7) = false := by decide
        obtain ⟨A3, c3, e3, hc3, hl3, hi3⟩ := own_ints HOw.out
        injection e3 with e31 e32 e33
        subst e31 e33
        have HI3b := Lib.hid (HI3.out.below HBw.out)
        have HI4 := Lib.hid (fun W (hW : Below wr.heap.size wr W) => hi3.below hW)
        have Hbw := Lib.hid (Hb3.out.trans (HBw.out.mono Hb3.out.size))
        have HOe := Lib.hid (World.ownsRow_lit (base := wr.heap.size) (e := 3) (size := 1) wr #[] 0 (Nat.le_refl _) (by unfold maxLen; omega) rfl)
        have HB1 := Lib.hid (fun o => (Below.refl wr.heap.size wr).alloc (Nat.le_refl _) o)
        have Hls := Lib.hid (show (MbrP.ints (lstK s 7)).length = (lstK s 7).length from List.length_map _)
        have hls7 := lstK_length s 7
        have HLP := C6
        unfold ListP at HLP
        simp only [show MbrP.lst s = lstK s 7 from rfl] at HLP
        have HSm := Lib.hid (fun A5 c5 W h5 (hW : Below wr.heap.size wr W) => isame_any A5 Av (lstK s 7).length c5 cv (MbrP.ints (lstK s 7)) Hls.out (by omega) W h5 (HI4.out W hW))
        unfold Quiet at HSm
        generalize lstK s 7 = LL at *
        clear hi3 hl3 HBw HOw HI3 C6 HS HI4 Hb3
        go_wp2_with (at_builtin
                     refine wpList_append_s rfl (.tmp 58) (.tmp 59) _ rfl wr.heap.size 3 (.int .i64 0) 1 8 Try.underlying22 infoInt rfl (by decide) _ 0 [] rfl HOe.out A k cap (intV l) rfl (by rw [intV_length, Hl.out, Nat.mul_one]) (fun h0 => (HI3b.out.below (HB1.out _)).news (by rw [Hl.out]; exact h0)) (intV_one l) (by unfold maxLen; omega) (by omega) (by simp) ?_
                     intro v4 w4 h1 h2 h3
                     have hb4 : Below wr.heap.size wr w4 := (HB1.out (.cells #[] 3)).trans (h2.below (by simp) (fun q e => by have e : some wr.heap.size = some q := e; cases e; exact Nat.le_refl _))
                     have h5 : w4.ownsRow wr.heap.size 3 1 v4 k (intV l) := by simpa using h1
                     obtain ⟨A4, c4, rfl, -, -, hi4⟩ := own_ints h5
                     have HOf := Lib.hid (of_any A4 k c4 l Hl.out (by omega) w4 hi4)
                     rw [Hz.out] at HOf
                     unfold Quiet setV at HOf
                     have Hb4 := Lib.hid hb4
                     clear h1 h2 h3 h5 hi4 hb4 HOe HB1 HI3b)
        refine HOf.out.mono ?_
        rintro e w5 ⟨rfl, m5, rfl⟩
        go_wp2_with fail
        refine (C0.out _).mono ?_
        rintro e w6 ⟨rfl, rfl⟩
        go_wp2_with fail
        refine (C1.out _).mono ?_
        rintro e w6 ⟨rfl, rfl⟩
        go_wp2_with fail
        refine (C2.out _).mono ?_
        rintro e w6 ⟨rfl, rfl⟩
        go_wp2_with fail
        refine (C3.out _).mono ?_
        rintro e w6 ⟨rfl, rfl⟩
        go_wp2_with fail
        refine (C4.out _).mono ?_
        rintro e w6 ⟨rfl, rfl⟩
        go_wp2_with fail
        refine (C5.out _).mono ?_
        rintro e w6 ⟨rfl, m6, rfl⟩
        go_wp2_with fail
        refine (HLP.out _).mono ?_
        rintro e w7 ⟨v7, rfl, ho7, hb7⟩
        obtain ⟨A7, c7, rfl, -, -, hi7⟩ := own_ints ho7
        have hb47 : Below wr.heap.size wr w7 := (below_drewNc Hb4.out (m5 + m6)).trans (hb7.mono (below_drewNc Hb4.out (m5 + m6)).size)
        have HS7 := Lib.hid (HSm.out A7 c7 w7 hi7 hb47)
        have Hb7 := Lib.hid (Hbw.out.trans (hb47.mono Hbw.out.size))
        clear ho7 hb7 hi7 hb47
        go_wp2_with fail
        refine HS7.out.mono ?_
        rintro e w8 ⟨rfl, m8, rfl⟩
        go_wp2_with fail
        go_ret
        exact ⟨rfl, below_drewNc Hb7.out _⟩
    have g2 : decide (x < 7) = true := decide_eq_true hx7
    obtain ⟨j, rfl⟩ := Int.eq_ofNat_of_zero_le hx0
    have hpj := pow_just (k := j) (by omega)
    generalize MbrP.just (j : Int) = jj at *
    generalize MbrP.withT s (j : Int) = z2 at *
    generalize MbrP.outT s (j : Int) = z3 at *
    generalize MbrP.hasT s (j : Int) = z4 at *
    go_wp2_with fail
    go_loopw [12, 13] (LstR s w3) (fun _ i _ => (8 - intOf i).toNat)
    case atStart => exact HL0.out
    case round =>
      clear HL0
      obtain ⟨k2, hk2, rfl, hO, hB⟩ := hrel
      obtain ⟨Av, cv, rfl, -⟩ := own_slice hO
      have HOw := Lib.hid hO
      have HBw := Lib.hid hB
      clear hO hB
      by_cases hk7 : k2 < 7
      case pos =>
        clear C0 C1 C2 C3 C4 C5 C6 hwi hou hbit
        try clear hpj
        have g7 : decide ((k2 : Int) < 7) = true := decide_eq_true (by omega)
        have e1 : IntKind.i64.wrap ((k2 : Int) + 1) = (k2 : Int) + 1 := IntWalk.i64_in _ (by omega)
        have hb := HS.out k2 hk7
        simp only [Int.toNat_natCast] at hb
        have hst := lstK_step s k2
        have hlen := lstK_length s k2
        cases ht : s.testBit k2 with
        | false =>
          rw [ht] at hb
          rw [ht, if_neg (by decide)] at hst
          have HR : Hid (LstR s w3 (.slice Av (lstK s k2).length cv) (.int .i64 ((k2 : Int) + 1)) wr) := Lib.hid ⟨k2 + 1, hk7, by go_num, by rw [hst]; exact HOw.out, HBw.out⟩
          simp only [Bool.toNat_false] at hb
          clear hst HS HOw HBw
          go_wp2_with fail
          go_roundw
          case rel => exact HR.out
          case measure => simp [intOf]; omega
        | true =>
          rw [ht] at hb
          rw [ht, if_pos rfl] at hst
          simp only [Bool.toNat_true] at hb
          clear HS
          go_wp2_with (at_builtin
                       refine wpList_int1 rfl (.tmp 54) (.tmp 56) rfl w3.heap.size _ _ (MbrP.ints (lstK s k2)) rfl HOw.out (k2 : Int) rfl (by omega) HBw.out.size ?_
                       intro v2 w2 ho2 hb2
                       have HR : Hid (LstR s w3 v2 (.int .i64 ((k2 : Int) + 1)) w2) := Lib.hid ⟨k2 + 1, hk7, by go_num, by rw [hst]; simpa [MbrP.ints] using ho2, HBw.out.trans hb2⟩
                       clear ho2 hb2 HOw HBw hst)
          go_roundw
          case rel => exact HR.out
          case measure => simp [intOf]; omega
      obtain rfl : k2 = 7 := by omega
      have g7 : decide (((7 : Nat) : Int) < 7) = false := by decide
      obtain ⟨A3, c3, e3, hc3, hl3, hi3⟩ := own_ints HOw.out
      injection e3 with e31 e32 e33
      subst e31 e33
      have HI3b := Lib.hid (HI3.out.below HBw.out)
      have HI4 := Lib.hid (fun W (hW : Below wr.heap.size wr W) => hi3.below hW)
      have Hbw := Lib.hid (Hb3.out.trans (HBw.out.mono Hb3.out.size))
      have HOe := Lib.hid (World.ownsRow_lit (base := wr.heap.size) (e := 3) (size := 1) wr #[] 0 (Nat.le_refl _) (by unfold maxLen; omega) rfl)
      have HB1 := Lib.hid (fun o => (Below.refl wr.heap.size wr).alloc (Nat.le_refl _) o)
      have Hls := Lib.hid (show (MbrP.ints (lstK s 7)).length = (lstK s 7).length from List.length_map _)
      have hls7 := lstK_length s 7
      have HLP := C6
      unfold ListP at HLP
      simp only [show MbrP.lst s = lstK s 7 from rfl] at HLP
      have HSm := Lib.hid (fun A5 c5 W h5 (hW : Below wr.heap.size wr W) => isame_any A5 Av (lstK s 7).length c5 cv (MbrP.ints (lstK s 7)) Hls.out (by omega) W h5 (HI4.out W hW))
      unfold Quiet at HSm
      generalize lstK s 7 = LL at *
      clear hi3 hl3 HBw HOw HI3 C6 HS HI4 Hb3
      go_wp2_with (at_builtin
                   refine wpList_append_s rfl (.tmp 58) (.tmp 59) _ rfl wr.heap.size 3 (.int .i64 0) 1 8 Try.underlying22 infoInt rfl (by decide) _ 0 [] rfl HOe.out A k cap (intV l) rfl (by rw [intV_length, Hl.out, Nat.mul_one]) (fun h0 => (HI3b.out.below (HB1.out _)).news (by rw [Hl.out]; exact h0)) (intV_one l) (by unfold maxLen; omega) (by omega) (by simp) ?_
                   intro v4 w4 h1 h2 h3
                   have hb4 : Below wr.heap.size wr w4 := (HB1.out (.cells #[] 3)).trans (h2.below (by simp) (fun q e => by have e : some wr.heap.size = some q := e; cases e; exact Nat.le_refl _))
                   have h5 : w4.ownsRow wr.heap.size 3 1 v4 k (intV l) := by simpa using h1
                   obtain ⟨A4, c4, rfl, -, -, hi4⟩ := own_ints h5
                   have HOf := Lib.hid (of_any A4 k c4 l Hl.out (by omega) w4 hi4)
                   rw [Hz.out] at HOf
                   unfold Quiet setV at HOf
                   have Hb4 := Lib.hid hb4
                   clear h1 h2 h3 h5 hi4 hb4 HOe HB1 HI3b)
      refine HOf.out.mono ?_
      rintro e w5 ⟨rfl, m5, rfl⟩
      go_wp2_with fail
      refine (C0.out _).mono ?_
      rintro e w6 ⟨rfl, rfl⟩
      go_wp2_with fail
      refine (C1.out _).mono ?_
      rintro e w6 ⟨rfl, rfl⟩
      go_wp2_with fail
      refine (C2.out _).mono ?_
      rintro e w6 ⟨rfl, rfl⟩
      go_wp2_with fail
      refine (C3.out _).mono ?_
      rintro e w6 ⟨rfl, rfl⟩
      go_wp2_with fail
      refine (C4.out _).mono ?_
      rintro e w6 ⟨rfl, rfl⟩
      go_wp2_with fail
      refine (C5.out _).mono ?_
      rintro e w6 ⟨rfl, m6, rfl⟩
      go_wp2_with fail
      refine (HLP.out _).mono ?_
      rintro e w7 ⟨v7, rfl, ho7, hb7⟩
      obtain ⟨A7, c7, rfl, -, -, hi7⟩ := own_ints ho7
      have hb47 : Below wr.heap.size wr w7 := (below_drewNc Hb4.out (m5 + m6)).trans (hb7.mono (below_drewNc Hb4.out (m5 + m6)).size)
      have HS7 := Lib.hid (HSm.out A7 c7 w7 hi7 hb47)
      have Hb7 := Lib.hid (Hbw.out.trans (hb47.mono Hbw.out.size))
      clear ho7 hb7 hi7 hb47
      go_wp2_with fail
      refine HS7.out.mono ?_
      rintro e w8 ⟨rfl, m8, rfl⟩
      go_wp2_with fail
      go_ret
      exact ⟨rfl, below_drewNc Hb7.out _⟩
end Go.Proofs.Ytkahecdnmeofkaa
