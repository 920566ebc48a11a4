/- PortsWrong: the walk of the law. Conditions: where the bytes lie. -/
import Derived.Test.YtdeodoppcflgfaaPorU
namespace Go.Proofs.Ytdeodoppcflgfaa
open Go.RowKit PorP
set_option maxRecDepth 100000

set_option maxHeartbeats 8000000 in
theorem wrong_law (part port : Int) (hport : port ≤ 9223372036854775807) (A : Option Addr) (n cap : Nat) (l : List UInt8) (hl : l.length = n) (w : World) (hby : Bytes w w.heap.size A l) :
    Calls Try.prog 7 #[.int .i64 part, .int .i64 port, .slice A n cap] w (AwakeP w) := by
  have HAw := Lib.hid (awake13_any w)
  have HAl := Lib.hid (SndP.works wired_ok).allowed
  have kc := fun (w : World) (C : Array Value) (n c : Nat) => Lib.run_convert_bytes_const (P := Try.prog) w 44 5 C n c Try.underlying44 Try.underlying5
  by_cases h100 : 100 < n
  · have q1 : decide ((100 : Int) < (n : Int)) = true := decide_eq_true (by omega)
    have q2 : decide (100 < n) = true := decide_eq_true h100
    clear hby h100 hl kc
    go_enter Try.func7, Try.ntmps7
    go_wp2_with fail
    refine HAw.out.mono ?_
    rintro e w1 ⟨rfl, hb1⟩
    have HF := Lib.hid hb1
    clear hb1 HAw
    go_wp2_with fail
    go_ret
    exact ⟨rfl, HF.out⟩
  have q1 : decide ((100 : Int) < (n : Int)) = false := decide_eq_false (by omega)
  have q2 : decide (100 < n) = false := decide_eq_false h100
  have Hby := Lib.hid (fun W (hW : Below w.heap.size w W) => (hby.below hW (Nat.le_refl _)).more hW.size)
  have Hl := Lib.hid hl
  clear hby hl
  go_enter Try.func7, Try.ntmps7
  go_wp2_with fail
  refine HAw.out.mono ?_
  rintro e w1 ⟨rfl, hb1⟩
  have HB1 := Lib.hid hb1
  clear hb1 HAw
  go_wp2_with fail
  refine (wired_any w1).mono ?_
  rintro e w2 ⟨rfl, h2, hb2⟩
  have H2 := Lib.hid h2
  have HB2 := Lib.hid (HB1.out.trans (hb2.mono HB1.out.size))
  clear h2 hb2 q1 q2
  go_wp2_with fail
  refine (wnew_any 1 1 2 1 1 wired_ok _ 0 (by omega) w2 H2.out).mono ?_
  rintro e w3 ⟨b, rfl, nb, pb, sb, hb3⟩
  have HB3 := Lib.hid (HB2.out.trans (hb3.mono HB2.out.size))
  have HS : Hid (SoloE w3 w.heap.size (wired 1 1 2 1 1) b.a 0 (wst [] [])) := Lib.hid ⟨HB3.out.size, b, rfl, nb, sb, pb.low HB2.out.size⟩
  unfold pv
  generalize b.a = ba at *
  clear nb pb sb hb3 H2
  go_wp2_with fail
  obtain ⟨hy4, hk4, hb4⟩ := lit_new w3 keepT #[.int .u8 107, .int .u8 101, .int .u8 101, .int .u8 112] (4, 5) rfl
  refine (solo_write (HS.out.below hb4) HAl.out 0 2 (by omega) (some ⟨w3.heap.size, 0, none⟩) 4 4 keepT rfl hy4 hk4 none (wst [] [keepT]) (by rfl)).mono ?_
  rintro e w5 ⟨v, rfl, hv5, hS5, hT5⟩
  obtain rfl : v = .nilIface := hv5.form
  have HS5 := Lib.hid hS5
  have HB5 := Lib.hid (HB3.out.trans ((hb4.mono HB3.out.size).trans (hT5.below (Nat.le_trans HB3.out.size hb4.size))))
  clear hy4 hk4 hb4 hv5 hS5 hT5 HS HB3 HB2 kc
  by_cases hm : part = 0 ∧ (port = 0 ∨ port = 2)
  case neg =>
    have HRd := Lib.hid (solo_read HS5.out HAl.out part port hport [] false (some 17) _ (wrong_read hm _))
    have HNot : Hid (∀ W, SoloE W w.heap.size (wired 1 1 2 1 1) ba 0 (wst [] [keepT]) → ∀ A n cap, l.length = n → Bytes W W.heap.size A l → ByteBlock W A l → Calls Try.prog 18 #[.pointer (some ⟨ba, 0, none⟩), .int .i64 part, .int .i64 port, .slice A n cap] W (fun e w' => ∃ v, e = .returned v ∧ ErrV w' (some 17) port v ∧ SoloE w' w.heap.size (wired 1 1 2 1 1) ba 0 (wst [] [keepT]) ∧ Touch w.heap.size W w')) := Lib.hid fun W h A n cap h1 h2 h3 => solo_write h HAl.out part port hport A n cap l h1 h2 h3 _ _ (wrong_write hm _ l)
    have HAt := Lib.hid (fun W => at_any 17 port W (by omega) hport)
    by_cases h0 : part = 0
    case pos =>
      subst h0
      have p1 : (port == 0) = false := by simp; omega
      have p2 : (port == 2) = false := by simp; omega
      go_wp2_with fail
      refine HRd.out.mono ?_
      rintro e w6 ⟨A6, c6, ev, rfl, -, he6, hS6, hT6⟩
      obtain ⟨bf, rfl⟩ : ∃ bf, ev = .iface 89 (.pointer (some ⟨bf, 0, none⟩)) := he6.form
      have HS6 := Lib.hid hS6
      have HB6 := Lib.hid (HB5.out.trans (hT6.below HB5.out.size))
      have HE6 := Lib.hid he6.text
      clear he6 hS6 hT6 HRd HS5 HB5
      go_wp2_with (at_builtin
                   refine wpList_copy (by rfl) (.tmp 58) (.tmp 59) rfl rfl A n cap l rfl Hl.out (Hby.out w6 HB6.out) (by omega) ?_
                   intro A7 c7 w7 _ h1 h2 h3
                   have HW7 := Lib.hid (HNot.out w7 (HS6.out.below h3) A7 _ c7 rfl h1 h2)
                   have HE7 := Lib.hid (HE6.out.below h3)
                   have HB7 := Lib.hid (HB6.out.trans (h3.mono HB6.out.size))
                   clear h1 h2 h3 HE6 HB6 HS6 HNot)
      refine HW7.out.mono ?_
      rintro e w8 ⟨v8, rfl, he8, hS8, hT8⟩
      have HS8 := Lib.hid hS8
      have HE8 := Lib.hid he8.text
      have HE78 := Lib.hid (HE7.out.touch hT8)
      have HB8 := Lib.hid (HB7.out.trans (hT8.below HB7.out.size))
      obtain ⟨bg, rfl⟩ : ∃ bg, v8 = .iface 89 (.pointer (some ⟨bg, 0, none⟩)) := he8.form
      clear he8 hS8 hT8 HW7 HE7 HB7
      go_wp2_with fail
      simp only [errO] at HE8 HE78
      generalize atT 17 port = T17 at *
      refine HE78.out.read.mono ?_
      rintro e w9 ⟨rfl, hb9⟩
      have HE9 := Lib.hid (HE8.out.below hb9)
      have HS9 := Lib.hid (HS8.out.below hb9)
      have HB9 := Lib.hid (HB8.out.trans (hb9.mono HB8.out.size))
      clear hb9 HE8 HE78 HS8 HB8
      go_wp2_with fail
      refine (HAt.out _).mono ?_
      rintro e w10 ⟨rfl, hb10⟩
      have HE10 := Lib.hid (HE9.out.below hb10)
      have HS10 := Lib.hid (HS9.out.below hb10)
      have HB10 := Lib.hid (HB9.out.trans (hb10.mono HB9.out.size))
      clear hb10 HE9 HS9 HB9
      unfold strV
      go_wp2_with fail
      refine HE10.out.read.mono ?_
      rintro e w11 ⟨rfl, hb11⟩
      have HS11 := Lib.hid (HS10.out.below hb11)
      have HB11 := Lib.hid (HB10.out.trans (hb11.mono HB10.out.size))
      clear hb11 HE10 HS10 HB10
      go_wp2_with fail
      refine (HAt.out _).mono ?_
      rintro e w12 ⟨rfl, hb12⟩
      have HS12 := Lib.hid (HS11.out.below hb12)
      have HB12 := Lib.hid (HB11.out.trans (hb12.mono HB11.out.size))
      clear hb12 HS11 HB11
      unfold strV
      go_wp2_with fail
      refine (solo_image HS12.out HAl.out [msgOf 2 keepT] (by rfl)).mono ?_
      rintro e w13 ⟨A9, n9, c9, ys, rfl, hyn, -, hpl, hb13⟩
      have hn1 : n9 = 1 := by rw [← hyn, ← List.length_map (f := MsgC.plain), hpl]; rfl
      subst hn1
      have HB13 := Lib.hid (HB12.out.trans (hb13.mono HB12.out.size))
      clear hyn hpl hb13 HS12 HB12
      go_wp2_with fail
      go_ret
      exact ⟨rfl, HB13.out⟩
    case neg =>
      have p0 : (part == 0) = false := by simp [h0]
      by_cases h2 : port = 2
      case pos =>
        subst h2
        go_wp2_with fail
        refine HRd.out.mono ?_
        rintro e w6 ⟨A6, c6, ev, rfl, -, he6, hS6, hT6⟩
        obtain ⟨bf, rfl⟩ : ∃ bf, ev = .iface 89 (.pointer (some ⟨bf, 0, none⟩)) := he6.form
        have HS6 := Lib.hid hS6
        have HB6 := Lib.hid (HB5.out.trans (hT6.below HB5.out.size))
        have HE6 := Lib.hid he6.text
        clear he6 hS6 hT6 HRd HS5 HB5
        go_wp2_with (at_builtin
                     refine wpList_copy (by rfl) (.tmp 58) (.tmp 59) rfl rfl A n cap l rfl Hl.out (Hby.out w6 HB6.out) (by omega) ?_
                     intro A7 c7 w7 _ h1 h2 h3
                     have HW7 := Lib.hid (HNot.out w7 (HS6.out.below h3) A7 _ c7 rfl h1 h2)
                     have HE7 := Lib.hid (HE6.out.below h3)
                     have HB7 := Lib.hid (HB6.out.trans (h3.mono HB6.out.size))
                     clear h1 h2 h3 HE6 HB6 HS6 HNot)
        refine HW7.out.mono ?_
        rintro e w8 ⟨v8, rfl, he8, hS8, hT8⟩
        have HS8 := Lib.hid hS8
        have HE8 := Lib.hid he8.text
        have HE78 := Lib.hid (HE7.out.touch hT8)
        have HB8 := Lib.hid (HB7.out.trans (hT8.below HB7.out.size))
        obtain ⟨bg, rfl⟩ : ∃ bg, v8 = .iface 89 (.pointer (some ⟨bg, 0, none⟩)) := he8.form
        clear he8 hS8 hT8 HW7 HE7 HB7
        go_wp2_with fail
        simp only [errO] at HE8 HE78
        generalize atT 17 2 = T17 at *
        refine HE78.out.read.mono ?_
        rintro e w9 ⟨rfl, hb9⟩
        have HE9 := Lib.hid (HE8.out.below hb9)
        have HS9 := Lib.hid (HS8.out.below hb9)
        have HB9 := Lib.hid (HB8.out.trans (hb9.mono HB8.out.size))
        clear hb9 HE8 HE78 HS8 HB8
        go_wp2_with fail
        refine (HAt.out _).mono ?_
        rintro e w10 ⟨rfl, hb10⟩
        have HE10 := Lib.hid (HE9.out.below hb10)
        have HS10 := Lib.hid (HS9.out.below hb10)
        have HB10 := Lib.hid (HB9.out.trans (hb10.mono HB9.out.size))
        clear hb10 HE9 HS9 HB9
        unfold strV
        go_wp2_with fail
        refine HE10.out.read.mono ?_
        rintro e w11 ⟨rfl, hb11⟩
        have HS11 := Lib.hid (HS10.out.below hb11)
        have HB11 := Lib.hid (HB10.out.trans (hb11.mono HB10.out.size))
        clear hb11 HE10 HS10 HB10
        go_wp2_with fail
        refine (HAt.out _).mono ?_
        rintro e w12 ⟨rfl, hb12⟩
        have HS12 := Lib.hid (HS11.out.below hb12)
        have HB12 := Lib.hid (HB11.out.trans (hb12.mono HB11.out.size))
        clear hb12 HS11 HB11
        unfold strV
        go_wp2_with fail
        refine (solo_image HS12.out HAl.out [msgOf 2 keepT] (by rfl)).mono ?_
        rintro e w13 ⟨A9, n9, c9, ys, rfl, hyn, -, hpl, hb13⟩
        have hn1 : n9 = 1 := by rw [← hyn, ← List.length_map (f := MsgC.plain), hpl]; rfl
        subst hn1
        have HB13 := Lib.hid (HB12.out.trans (hb13.mono HB12.out.size))
        clear hyn hpl hb13 HS12 HB12
        go_wp2_with fail
        go_ret
        exact ⟨rfl, HB13.out⟩
      case neg =>
        have p2 : (port == 2) = false := by simp [h2]
        go_wp2_with fail
        refine HRd.out.mono ?_
        rintro e w6 ⟨A6, c6, ev, rfl, -, he6, hS6, hT6⟩
        obtain ⟨bf, rfl⟩ : ∃ bf, ev = .iface 89 (.pointer (some ⟨bf, 0, none⟩)) := he6.form
        have HS6 := Lib.hid hS6
        have HB6 := Lib.hid (HB5.out.trans (hT6.below HB5.out.size))
        have HE6 := Lib.hid he6.text
        clear he6 hS6 hT6 HRd HS5 HB5
        go_wp2_with (at_builtin
                     refine wpList_copy (by rfl) (.tmp 58) (.tmp 59) rfl rfl A n cap l rfl Hl.out (Hby.out w6 HB6.out) (by omega) ?_
                     intro A7 c7 w7 _ h1 h2 h3
                     have HW7 := Lib.hid (HNot.out w7 (HS6.out.below h3) A7 _ c7 rfl h1 h2)
                     have HE7 := Lib.hid (HE6.out.below h3)
                     have HB7 := Lib.hid (HB6.out.trans (h3.mono HB6.out.size))
                     clear h1 h2 h3 HE6 HB6 HS6 HNot)
        refine HW7.out.mono ?_
        rintro e w8 ⟨v8, rfl, he8, hS8, hT8⟩
        have HS8 := Lib.hid hS8
        have HE8 := Lib.hid he8.text
        have HE78 := Lib.hid (HE7.out.touch hT8)
        have HB8 := Lib.hid (HB7.out.trans (hT8.below HB7.out.size))
        obtain ⟨bg, rfl⟩ : ∃ bg, v8 = .iface 89 (.pointer (some ⟨bg, 0, none⟩)) := he8.form
        clear he8 hS8 hT8 HW7 HE7 HB7
        go_wp2_with fail
        simp only [errO] at HE8 HE78
        generalize atT 17 port = T17 at *
        refine HE78.out.read.mono ?_
        rintro e w9 ⟨rfl, hb9⟩
        have HE9 := Lib.hid (HE8.out.below hb9)
        have HS9 := Lib.hid (HS8.out.below hb9)
        have HB9 := Lib.hid (HB8.out.trans (hb9.mono HB8.out.size))
        clear hb9 HE8 HE78 HS8 HB8
        go_wp2_with fail
        refine (HAt.out _).mono ?_
        rintro e w10 ⟨rfl, hb10⟩
        have HE10 := Lib.hid (HE9.out.below hb10)
        have HS10 := Lib.hid (HS9.out.below hb10)
        have HB10 := Lib.hid (HB9.out.trans (hb10.mono HB9.out.size))
        clear hb10 HE9 HS9 HB9
        unfold strV
        go_wp2_with fail
        refine HE10.out.read.mono ?_
        rintro e w11 ⟨rfl, hb11⟩
        have HS11 := Lib.hid (HS10.out.below hb11)
        have HB11 := Lib.hid (HB10.out.trans (hb11.mono HB10.out.size))
        clear hb11 HE10 HS10 HB10
        go_wp2_with fail
        refine (HAt.out _).mono ?_
        rintro e w12 ⟨rfl, hb12⟩
        have HS12 := Lib.hid (HS11.out.below hb12)
        have HB12 := Lib.hid (HB11.out.trans (hb12.mono HB11.out.size))
        clear hb12 HS11 HB11
        unfold strV
        go_wp2_with fail
        refine (solo_image HS12.out HAl.out [msgOf 2 keepT] (by rfl)).mono ?_
        rintro e w13 ⟨A9, n9, c9, ys, rfl, hyn, -, hpl, hb13⟩
        have hn1 : n9 = 1 := by rw [← hyn, ← List.length_map (f := MsgC.plain), hpl]; rfl
        subst hn1
        have HB13 := Lib.hid (HB12.out.trans (hb13.mono HB12.out.size))
        clear hyn hpl hb13 HS12 HB12
        go_wp2_with fail
        go_ret
        exact ⟨rfl, HB13.out⟩
  case pos =>
    obtain ⟨h0, h02⟩ := hm
    subst h0
    rcases h02 with h0 | h2
    case inl =>
      subst h0
      have HRd := Lib.hid (solo_read HS5.out HAl.out 0 0 (by omega) [] false (some 13) (wst [] [keepT]) (by rfl))
      have HAt := Lib.hid (fun W => at_any 13 0 W (by omega) (by omega))
      by_cases hd : n ≤ 1
      case pos =>
        have p3 : decide ((1 : Int) < (n : Int)) = false := decide_eq_false (by omega)
        have p3' : decide (1 < n) = false := decide_eq_false (by omega)
        have HWr : Hid (∀ W, SoloE W w.heap.size (wired 1 1 2 1 1) ba 0 (wst [] [keepT]) → ∀ A n cap, l.length = n → Bytes W W.heap.size A l → ByteBlock W A l → Calls Try.prog 18 #[.pointer (some ⟨ba, 0, none⟩), .int .i64 0, .int .i64 0, .slice A n cap] W (fun e w' => ∃ v, e = .returned v ∧ ErrV w' none 0 v ∧ SoloE w' w.heap.size (wired 1 1 2 1 1) ba 0 (wst [l] [keepT]) ∧ Touch w.heap.size W w')) := Lib.hid fun W h A n cap h1 h2 h3 => solo_write h HAl.out 0 0 (by omega) A n cap l h1 h2 h3 _ _ (by unfold wst; rw [wiredP_write0, if_neg (by have := Hl.out; omega), if_pos (by decide)]; rfl)
        go_wp2_with fail
        refine HRd.out.mono ?_
        rintro e w6 ⟨A6, c6, ev, rfl, -, he6, hS6, hT6⟩
        obtain ⟨bf, rfl⟩ : ∃ bf, ev = .iface 89 (.pointer (some ⟨bf, 0, none⟩)) := he6.form
        have HS6 := Lib.hid hS6
        have HB6 := Lib.hid (HB5.out.trans (hT6.below HB5.out.size))
        have HE6 := Lib.hid he6.text
        clear he6 hS6 hT6 HRd HS5 HB5
        go_wp2_with (at_builtin
                     refine wpList_copy (by rfl) (.tmp 58) (.tmp 59) rfl rfl A n cap l rfl Hl.out (Hby.out w6 HB6.out) (by omega) ?_
                     intro A7 c7 w7 _ h1 h2 h3
                     have HW7 := Lib.hid (HWr.out w7 (HS6.out.below h3) A7 _ c7 rfl h1 h2)
                     have HE7 := Lib.hid (HE6.out.below h3)
                     have HB7 := Lib.hid (HB6.out.trans (h3.mono HB6.out.size))
                     clear h1 h2 h3 HE6 HB6 HS6 HWr)
        refine HW7.out.mono ?_
        rintro e w8 ⟨v8, rfl, he8, hS8, hT8⟩
        have HS8 := Lib.hid hS8
        have HE8 := Lib.hid he8.text
        have HE78 := Lib.hid (HE7.out.touch hT8)
        have HB8 := Lib.hid (HB7.out.trans (hT8.below HB7.out.size))
        obtain rfl : v8 = .nilIface := he8.form
        clear he8 hS8 hT8 HW7 HE7 HB7
        go_wp2_with fail
        simp only [errO] at HE8 HE78
        refine HE78.out.read.mono ?_
        rintro e w9 ⟨rfl, hb9⟩
        have HB9 := Lib.hid (HB8.out.trans (hb9.mono HB8.out.size))
        clear hb9 HE8 HE78 HS8 HB8
        go_wp2_with fail
        refine (HAt.out _).mono ?_
        rintro e w10 ⟨rfl, hb10⟩
        have HB10 := Lib.hid (HB9.out.trans (hb10.mono HB9.out.size))
        clear hb10 HB9
        unfold strV
        go_wp2_with fail
        go_ret
        exact ⟨rfl, HB10.out⟩
      case neg =>
        have p3 : decide ((1 : Int) < (n : Int)) = true := decide_eq_true (by omega)
        have p3' : decide (1 < n) = true := decide_eq_true (by omega)
        have HWr : Hid (∀ W, SoloE W w.heap.size (wired 1 1 2 1 1) ba 0 (wst [] [keepT]) → ∀ A n cap, l.length = n → Bytes W W.heap.size A l → ByteBlock W A l → Calls Try.prog 18 #[.pointer (some ⟨ba, 0, none⟩), .int .i64 0, .int .i64 0, .slice A n cap] W (fun e w' => ∃ v, e = .returned v ∧ ErrV w' (some 12) 0 v ∧ SoloE w' w.heap.size (wired 1 1 2 1 1) ba 0 (wst [] [keepT]) ∧ Touch w.heap.size W w')) := Lib.hid fun W h A n cap h1 h2 h3 => solo_write h HAl.out 0 0 (by omega) A n cap l h1 h2 h3 _ _ (by unfold wst; rw [wiredP_write0, if_pos (by have := Hl.out; omega)])
        have HAt2 := Lib.hid (fun W => at_any 12 0 W (by omega) (by omega))
        go_wp2_with fail
        refine HRd.out.mono ?_
        rintro e w6 ⟨A6, c6, ev, rfl, -, he6, hS6, hT6⟩
        obtain ⟨bf, rfl⟩ : ∃ bf, ev = .iface 89 (.pointer (some ⟨bf, 0, none⟩)) := he6.form
        have HS6 := Lib.hid hS6
        have HB6 := Lib.hid (HB5.out.trans (hT6.below HB5.out.size))
        have HE6 := Lib.hid he6.text
        clear he6 hS6 hT6 HRd HS5 HB5
        go_wp2_with (at_builtin
                     refine wpList_copy (by rfl) (.tmp 58) (.tmp 59) rfl rfl A n cap l rfl Hl.out (Hby.out w6 HB6.out) (by omega) ?_
                     intro A7 c7 w7 _ h1 h2 h3
                     have HW7 := Lib.hid (HWr.out w7 (HS6.out.below h3) A7 _ c7 rfl h1 h2)
                     have HE7 := Lib.hid (HE6.out.below h3)
                     have HB7 := Lib.hid (HB6.out.trans (h3.mono HB6.out.size))
                     clear h1 h2 h3 HE6 HB6 HS6 HWr)
        refine HW7.out.mono ?_
        rintro e w8 ⟨v8, rfl, he8, hS8, hT8⟩
        have HS8 := Lib.hid hS8
        have HE8 := Lib.hid he8.text
        have HE78 := Lib.hid (HE7.out.touch hT8)
        have HB8 := Lib.hid (HB7.out.trans (hT8.below HB7.out.size))
        obtain ⟨bg, rfl⟩ : ∃ bg, v8 = .iface 89 (.pointer (some ⟨bg, 0, none⟩)) := he8.form
        clear he8 hS8 hT8 HW7 HE7 HB7
        go_wp2_with fail
        simp only [errO] at HE8 HE78
        refine HE78.out.read.mono ?_
        rintro e w9 ⟨rfl, hb9⟩
        have HE9 := Lib.hid (HE8.out.below hb9)
        have HS9 := Lib.hid (HS8.out.below hb9)
        have HB9 := Lib.hid (HB8.out.trans (hb9.mono HB8.out.size))
        clear hb9 HE8 HE78 HS8 HB8
        go_wp2_with fail
        refine (HAt.out _).mono ?_
        rintro e w10 ⟨rfl, hb10⟩
        have HE10 := Lib.hid (HE9.out.below hb10)
        have HS10 := Lib.hid (HS9.out.below hb10)
        have HB10 := Lib.hid (HB9.out.trans (hb10.mono HB9.out.size))
        clear hb10 HE9 HS9 HB9
        unfold strV
        go_wp2_with fail
        refine (solo_image HS10.out HAl.out [msgOf 2 keepT] (by rfl)).mono ?_
        rintro e w11 ⟨A9, n9, c9, ys, rfl, hyn, ho9, hpl, hb11⟩
        have hn1 : n9 = 1 := by rw [← hyn, ← List.length_map (f := MsgC.plain), hpl]; rfl
        subst hn1
        obtain ⟨yk, ryk⟩ : ∃ y, ys = [y] := by
          match ys, hyn with
          | [y], _ => exact ⟨y, rfl⟩
        subst ryk
        have hpl1 := (List.cons.inj hpl).1
        obtain ⟨yp, yA, ym, yc, yd⟩ := yk
        obtain ⟨A10, c10, e10, -, hin⟩ := ho9.reads
        injection e10 with e101 e102 e103
        subst e101 e103
        clear e102
        have hyd : yd = keepT := congrArg FrameP.Msg.data hpl1
        subst hyd
        obtain ⟨bm, om, rfl, hbm, hmi⟩ := hin (by simp)
        obtain ⟨-, kt, kok⟩ := hmi 0 _ rfl
        have hym : 4 = ym := kok.len
        subst hym
        simp only [Nat.zero_mul, Nat.add_zero] at kt
        have HK11 : Hid (∀ W, Below w11.heap.size w11 W → W.cell? ⟨bm, om + 1, none⟩ = some (.slice yA (4 : Nat) yc) ∧ (convert 44 9 (.slice yA (4 : Nat) yc)).run Try.prog W = .ok (.string ⟨keepT.toArray⟩) W) := Lib.hid fun W hW => ⟨(hW.cell (p := ⟨bm, om + 1, none⟩) hbm).trans kt, conv_w rfl ((kok.bytes.below hW (Nat.le_refl _)).more hW.size)⟩
        have HE11 := Lib.hid (HE10.out.below hb11)
        have HB11 := Lib.hid (HB10.out.trans (hb11.mono HB10.out.size))
        clear hyn ho9 hpl hpl1 hb11 hin hmi kok kt hbm HS10 HE10 HB10
        go_wp2_with fail
        refine HE11.out.read.mono ?_
        rintro e w12 ⟨rfl, hb12⟩
        have HB12 := Lib.hid (HB11.out.trans (hb12.mono HB11.out.size))
        have HL12 := Lib.hid hb12
        clear hb12 HE11 HB11
        go_wp2_with fail
        refine (HAt2.out _).mono ?_
        rintro e w13 ⟨rfl, hb13⟩
        obtain ⟨kt, kcv⟩ := HK11.out w13 (HL12.out.trans (hb13.mono HL12.out.size))
        have HB13 := Lib.hid (HB12.out.trans (hb13.mono HB12.out.size))
        clear hb13 HB12 HK11 HL12
        unfold strV keepT at *
        go_wp2_with fail
        go_ret
        exact ⟨rfl, HB13.out⟩
    case inr =>
      subst h2
      have HRd := Lib.hid (solo_read HS5.out HAl.out 0 2 (by omega) [] false (some 13) (wst [] [keepT]) (by rfl))
      have HAt := Lib.hid (fun W => at_any 13 2 W (by omega) (by omega))
      by_cases hd : n ≤ 4
      case pos =>
        have p3 : decide ((4 : Int) < (n : Int)) = false := decide_eq_false (by omega)
        have p3' : decide (4 < n) = false := decide_eq_false (by omega)
        have HWr : Hid (∀ W, SoloE W w.heap.size (wired 1 1 2 1 1) ba 0 (wst [] [keepT]) → ∀ A n cap, l.length = n → Bytes W W.heap.size A l → ByteBlock W A l → Calls Try.prog 18 #[.pointer (some ⟨ba, 0, none⟩), .int .i64 0, .int .i64 2, .slice A n cap] W (fun e w' => ∃ v, e = .returned v ∧ ErrV w' none 2 v ∧ SoloE w' w.heap.size (wired 1 1 2 1 1) ba 0 (wst [] [l]) ∧ Touch w.heap.size W w')) := Lib.hid fun W h A n cap h1 h2 h3 => solo_write h HAl.out 0 2 (by omega) A n cap l h1 h2 h3 _ _ (by unfold wst; rw [wiredP_write2, if_neg (by have := Hl.out; omega)])
        go_wp2_with fail
        refine HRd.out.mono ?_
        rintro e w6 ⟨A6, c6, ev, rfl, -, he6, hS6, hT6⟩
        obtain ⟨bf, rfl⟩ : ∃ bf, ev = .iface 89 (.pointer (some ⟨bf, 0, none⟩)) := he6.form
        have HS6 := Lib.hid hS6
        have HB6 := Lib.hid (HB5.out.trans (hT6.below HB5.out.size))
        have HE6 := Lib.hid he6.text
        clear he6 hS6 hT6 HRd HS5 HB5
        go_wp2_with (at_builtin
                     refine wpList_copy (by rfl) (.tmp 58) (.tmp 59) rfl rfl A n cap l rfl Hl.out (Hby.out w6 HB6.out) (by omega) ?_
                     intro A7 c7 w7 _ h1 h2 h3
                     have HW7 := Lib.hid (HWr.out w7 (HS6.out.below h3) A7 _ c7 rfl h1 h2)
                     have HE7 := Lib.hid (HE6.out.below h3)
                     have HB7 := Lib.hid (HB6.out.trans (h3.mono HB6.out.size))
                     clear h1 h2 h3 HE6 HB6 HS6 HWr)
        refine HW7.out.mono ?_
        rintro e w8 ⟨v8, rfl, he8, hS8, hT8⟩
        have HS8 := Lib.hid hS8
        have HE8 := Lib.hid he8.text
        have HE78 := Lib.hid (HE7.out.touch hT8)
        have HB8 := Lib.hid (HB7.out.trans (hT8.below HB7.out.size))
        obtain rfl : v8 = .nilIface := he8.form
        clear he8 hS8 hT8 HW7 HE7 HB7
        go_wp2_with fail
        simp only [errO] at HE8 HE78
        refine HE78.out.read.mono ?_
        rintro e w9 ⟨rfl, hb9⟩
        have HB9 := Lib.hid (HB8.out.trans (hb9.mono HB8.out.size))
        clear hb9 HE8 HE78 HS8 HB8
        go_wp2_with fail
        refine (HAt.out _).mono ?_
        rintro e w10 ⟨rfl, hb10⟩
        have HB10 := Lib.hid (HB9.out.trans (hb10.mono HB9.out.size))
        clear hb10 HB9
        unfold strV
        go_wp2_with fail
        go_ret
        exact ⟨rfl, HB10.out⟩
      case neg =>
        have p3 : decide ((4 : Int) < (n : Int)) = true := decide_eq_true (by omega)
        have p3' : decide (4 < n) = true := decide_eq_true (by omega)
        have HWr : Hid (∀ W, SoloE W w.heap.size (wired 1 1 2 1 1) ba 0 (wst [] [keepT]) → ∀ A n cap, l.length = n → Bytes W W.heap.size A l → ByteBlock W A l → Calls Try.prog 18 #[.pointer (some ⟨ba, 0, none⟩), .int .i64 0, .int .i64 2, .slice A n cap] W (fun e w' => ∃ v, e = .returned v ∧ ErrV w' (some 12) 2 v ∧ SoloE w' w.heap.size (wired 1 1 2 1 1) ba 0 (wst [] [keepT]) ∧ Touch w.heap.size W w')) := Lib.hid fun W h A n cap h1 h2 h3 => solo_write h HAl.out 0 2 (by omega) A n cap l h1 h2 h3 _ _ (by unfold wst; rw [wiredP_write2, if_pos (by have := Hl.out; omega)])
        have HAt2 := Lib.hid (fun W => at_any 12 2 W (by omega) (by omega))
        go_wp2_with fail
        refine HRd.out.mono ?_
        rintro e w6 ⟨A6, c6, ev, rfl, -, he6, hS6, hT6⟩
        obtain ⟨bf, rfl⟩ : ∃ bf, ev = .iface 89 (.pointer (some ⟨bf, 0, none⟩)) := he6.form
        have HS6 := Lib.hid hS6
        have HB6 := Lib.hid (HB5.out.trans (hT6.below HB5.out.size))
        have HE6 := Lib.hid he6.text
        clear he6 hS6 hT6 HRd HS5 HB5
        go_wp2_with (at_builtin
                     refine wpList_copy (by rfl) (.tmp 58) (.tmp 59) rfl rfl A n cap l rfl Hl.out (Hby.out w6 HB6.out) (by omega) ?_
                     intro A7 c7 w7 _ h1 h2 h3
                     have HW7 := Lib.hid (HWr.out w7 (HS6.out.below h3) A7 _ c7 rfl h1 h2)
                     have HE7 := Lib.hid (HE6.out.below h3)
                     have HB7 := Lib.hid (HB6.out.trans (h3.mono HB6.out.size))
                     clear h1 h2 h3 HE6 HB6 HS6 HWr)
        refine HW7.out.mono ?_
        rintro e w8 ⟨v8, rfl, he8, hS8, hT8⟩
        have HS8 := Lib.hid hS8
        have HE8 := Lib.hid he8.text
        have HE78 := Lib.hid (HE7.out.touch hT8)
        have HB8 := Lib.hid (HB7.out.trans (hT8.below HB7.out.size))
        obtain ⟨bg, rfl⟩ : ∃ bg, v8 = .iface 89 (.pointer (some ⟨bg, 0, none⟩)) := he8.form
        clear he8 hS8 hT8 HW7 HE7 HB7
        go_wp2_with fail
        simp only [errO] at HE8 HE78
        refine HE78.out.read.mono ?_
        rintro e w9 ⟨rfl, hb9⟩
        have HE9 := Lib.hid (HE8.out.below hb9)
        have HS9 := Lib.hid (HS8.out.below hb9)
        have HB9 := Lib.hid (HB8.out.trans (hb9.mono HB8.out.size))
        clear hb9 HE8 HE78 HS8 HB8
        go_wp2_with fail
        refine (HAt.out _).mono ?_
        rintro e w10 ⟨rfl, hb10⟩
        have HE10 := Lib.hid (HE9.out.below hb10)
        have HS10 := Lib.hid (HS9.out.below hb10)
        have HB10 := Lib.hid (HB9.out.trans (hb10.mono HB9.out.size))
        clear hb10 HE9 HS9 HB9
        unfold strV
        go_wp2_with fail
        refine (solo_image HS10.out HAl.out [msgOf 2 keepT] (by rfl)).mono ?_
        rintro e w11 ⟨A9, n9, c9, ys, rfl, hyn, ho9, hpl, hb11⟩
        have hn1 : n9 = 1 := by rw [← hyn, ← List.length_map (f := MsgC.plain), hpl]; rfl
        subst hn1
        obtain ⟨yk, ryk⟩ : ∃ y, ys = [y] := by
          match ys, hyn with
          | [y], _ => exact ⟨y, rfl⟩
        subst ryk
        have hpl1 := (List.cons.inj hpl).1
        obtain ⟨yp, yA, ym, yc, yd⟩ := yk
        obtain ⟨A10, c10, e10, -, hin⟩ := ho9.reads
        injection e10 with e101 e102 e103
        subst e101 e103
        clear e102
        have hyd : yd = keepT := congrArg FrameP.Msg.data hpl1
        subst hyd
        obtain ⟨bm, om, rfl, hbm, hmi⟩ := hin (by simp)
        obtain ⟨-, kt, kok⟩ := hmi 0 _ rfl
        have hym : 4 = ym := kok.len
        subst hym
        simp only [Nat.zero_mul, Nat.add_zero] at kt
        have HK11 : Hid (∀ W, Below w11.heap.size w11 W → W.cell? ⟨bm, om + 1, none⟩ = some (.slice yA (4 : Nat) yc) ∧ (convert 44 9 (.slice yA (4 : Nat) yc)).run Try.prog W = .ok (.string ⟨keepT.toArray⟩) W) := Lib.hid fun W hW => ⟨(hW.cell (p := ⟨bm, om + 1, none⟩) hbm).trans kt, conv_w rfl ((kok.bytes.below hW (Nat.le_refl _)).more hW.size)⟩
        have HE11 := Lib.hid (HE10.out.below hb11)
        have HB11 := Lib.hid (HB10.out.trans (hb11.mono HB10.out.size))
        clear hyn ho9 hpl hpl1 hb11 hin hmi kok kt hbm HS10 HE10 HB10
        go_wp2_with fail
        refine HE11.out.read.mono ?_
        rintro e w12 ⟨rfl, hb12⟩
        have HB12 := Lib.hid (HB11.out.trans (hb12.mono HB11.out.size))
        have HL12 := Lib.hid hb12
        clear hb12 HE11 HB11
        go_wp2_with fail
        refine (HAt2.out _).mono ?_
        rintro e w13 ⟨rfl, hb13⟩
        obtain ⟨kt, kcv⟩ := HK11.out w13 (HL12.out.trans (hb13.mono HL12.out.size))
        have HB13 := Lib.hid (HB12.out.trans (hb13.mono HB12.out.size))
        clear hb13 HB12 HK11 HL12
        unfold strV keepT at *
        go_wp2_with fail
        go_ret
        exact ⟨rfl, HB13.out⟩
end Go.Proofs.Ytdeodoppcflgfaa
