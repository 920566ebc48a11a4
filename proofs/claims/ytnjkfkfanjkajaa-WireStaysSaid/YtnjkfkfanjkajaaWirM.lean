/- WireStays: the walk of the law at bytes and acts in memory. Conditions: where they lie. -/
import Derived.Test.YtnjkfkfanjkajaaWirH
import Derived.Test.YtnjkfkfanjkajaaActArg
namespace Go.Proofs.Ytnjkfkfanjkajaa
open Go.RowKit Go.Extern.Stop Go.Stop Go.Extern

/-- The first round: every four bytes, then none. -/
def StayRel (B br : Nat) (A : Option Addr) (n cap : Nat) (l : List UInt8) (W : World) (i : Value) (wr : World) : Prop :=
  ∃ k s, i = .int .i64 (k : Nat) ∧ k ≤ 1251 ∧ ReaderAt wr br A n cap l (if s then n / 4 * 4 else 4 * k) s ∧ Below B W wr

theorem take_true (l : List UInt8) (a : Nat) (s : Int) : WireP.take l a true s = ⟨0, a, true⟩ := by
  unfold WireP.take
  rw [if_pos (.inr (.inr rfl))]
theorem tell_true (l : List UInt8) (a : Nat) : WireP.tell l a true = ⟨[], a, true⟩ := by
  unfold WireP.tell
  rw [if_pos (.inl rfl)]

theorem stay_next {B br n cap k : Nat} {A : Option Addr} {l : List UInt8} {W wr w1 : World} {t : WireP.Took} (hn : l.length = n) (hn2 : n ≤ 5000) (hk : 4 * k ≤ n) (ht : WireP.take l (4 * k) false 4 = t) (hr : ReaderAt w1 br A n cap l t.at_ t.short) (hb : Below B W wr) (hbr : B ≤ br) (hB : B ≤ wr.heap.size) (ha : Apart (RF br) wr w1) :
    StayRel B br A n cap l W (.int .i64 ((k : Int) + 1)) w1 := by
  have hb1 := hb.trans (ha.below hB (fun q e => by have e : q = br := e; omega))
  by_cases h4 : 4 * k + 4 ≤ n
  · have e : t = ⟨WireP.val ((l.drop (4 * k)).take 4), 4 * k + 4, false⟩ := by
      rw [← ht]
      unfold WireP.take
      rw [if_neg (by simp), if_neg (by simp; omega)]
      rfl
    rw [e] at hr
    exact ⟨k + 1, false, by go_num, by omega, hr, hb1⟩
  · have e : t = ⟨0, 4 * k, true⟩ := by
      rw [← ht]
      unfold WireP.take
      rw [if_neg (by simp), if_pos (by simp; omega)]
    rw [e] at hr
    refine ⟨k + 1, true, by go_num, by omega, ?_, hb1⟩
    rw [show (if true = true then n / 4 * 4 else 4 * (k + 1)) = 4 * k by simp; omega]
    exact hr

/-- The second round: nothing turns. -/
def StayRel2 (B br : Nat) (A : Option Addr) (n cap : Nat) (l : List UInt8) (a len : Nat) (W : World) (i : Value) (wr : World) : Prop :=
  ∃ k, i = .int .i64 (k : Nat) ∧ k ≤ len ∧ k ≤ 50 ∧ ReaderAt wr br A n cap l a true ∧ Below B W wr

set_option maxRecDepth 100000 in
set_option maxHeartbeats 2000000 in
theorem stays_law (Ab : Option Addr) (l : List UInt8) (n capb : Nat) (hn : l.length = n) (A : Option Addr) (len cap : Nat) (f : Nat → ActC) (w : World) (hb : Bytes w w.heap.size Ab l) (hf : ActsIn w A len f) :
    Calls Try.prog 7 #[.slice Ab n capb, .slice A len cap] w (AwakePost w) := by
  have HA := Lib.hid (awake_any w)
  have Hf := Lib.hid hf
  have Hby := Lib.hid hb
  have Hn := Lib.hid hn
  clear hf hb hn
  by_cases h5 : (5000 : Int) < n
  · go_enter Try.func7, Try.ntmps7
    go_wp2_with fail
    refine HA.out.mono ?_
    rintro e w1 ⟨rfl, hb1⟩
    have HF : Hid (AwakePost w (.returned (.bool true)) w1) := Lib.hid ⟨rfl, hb1⟩
    clear hb1
    go_wp2_with fail
    go_ret
    exact HF.out
  · go_enter Try.func7, Try.ntmps7
    go_wp2_with fail
    refine HA.out.mono ?_
    rintro e w1 ⟨rfl, hb1⟩
    have HR := Lib.hid (read_new Ab n capb l Hn.out (by omega) w1 ((Hby.out.below hb1 (Nat.le_refl _)).more hb1.size))
    have Hb1 := Lib.hid hb1
    clear hb1
    go_wp2_with fail
    refine HR.out.mono ?_
    rintro e w2 ⟨br, A2, cap2, rfl, hbr, -, hr, hb2⟩
    rw [Hn.out] at hr
    have Hbr := Lib.hid (Nat.le_trans Hb1.out.size hbr)
    have h0 : Hid (StayRel w.heap.size br A2 n cap2 l w (.int .i64 0) w2) := Lib.hid ⟨0, false, rfl, by omega, hr, Hb1.out.trans (hb2.mono Hb1.out.size)⟩
    clear hbr hr hb2 HR HA Hb1
    go_wp2_with fail
    go_loopw [6] (fun i wr => StayRel w.heap.size br A2 n cap2 l w i wr) (fun i _ => (1300 - intOf i).toNat)
    case atStart => exact h0.out
    case round =>
      clear h0
      obtain ⟨k, s, rfl, hk, hr, hbw⟩ := hrel
      have q1 : decide ((k : Int) < 2000) = true := by rw [decide_eq_true_iff]; omega
      have HB := Lib.hid (Nat.le_trans Hbr.out (Nat.le_of_lt (lt_of_block hr.block)))
      have HE := Lib.hid (err_any br A2 n cap2 l _ s wr hr)
      have Hr := Lib.hid hr
      have Hbw := Lib.hid hbw
      have hp := hr.place
      cases s with
      | false =>
        simp only [Bool.false_eq_true, if_false] at hp
        clear hr hbw
        go_wp2_with fail
        refine HE.out.mono ?_
        rintro e w3 ⟨v3, rfl, -, h3, hb3⟩
        have h3' : v3 = .nilIface := h3
        subst h3'
        have hr3 := Hr.out.below hb3
        have HT := Lib.hid (take_any br A2 n cap2 l _ false 4 w3 hr3)
        have Hb3 := Lib.hid (Hbw.out.trans (hb3.mono HB.out))
        have HB3 := Lib.hid (Nat.le_trans HB.out hb3.size)
        clear h3 hb3 hr3 HE Hr Hbw
        go_wp2_with fail
        refine HT.out.mono ?_
        rintro e w4 ⟨rfl, h4, ha4⟩
        have HF := Lib.hid (stay_next Hn.out (by omega) hp rfl h4 Hb3.out Hbr.out HB3.out ha4)
        clear h4 ha4 HT
        go_wp2_with fail
        go_roundw
        case rel => exact HF.out
        case measure => simp [intOf]; omega
      | true =>
        simp only [if_true] at hp
        clear hr hbw
        go_wp2_with fail
        refine HE.out.mono ?_
        rintro e w3 ⟨v3, rfl, -, ⟨b3, rfl⟩, hb3⟩
        have Hr3 := Lib.hid (Hr.out.below hb3)
        have Hb3 := Lib.hid (Hbw.out.trans (hb3.mono HB.out))
        have HB3 := Lib.hid (Nat.le_trans HB.out hb3.size)
        simp only [if_true] at Hr3
        clear hb3 HE Hr Hbw
        have Hq := Lib.hid (show n / 4 * 4 = n / 4 * 4 from rfl)
        generalize hq : n / 4 * 4 = a at *
        have Hqq := Lib.hid hq
        clear hq Hq
        have ha5 : a ≤ 5000 := by omega
        have qa : ((a : Int) != (n : Int) / 4 * 4) = false := by rw [bne_eq_false_iff_eq]; have := Hqq.out; omega
        go_wp2_with fail
        refine (at_any' br A2 n cap2 l a true w3 Hr3.out).mono ?_
        rintro e w4 ⟨rfl, rfl⟩
        go_wp2_with fail
        refine (err_any br A2 n cap2 l a true w3 Hr3.out).mono ?_
        rintro e w4 ⟨v4, rfl, hv4, -, hb4⟩
        have Hr4 := Lib.hid (Hr3.out.below hb4)
        have Hb4 := Lib.hid (Hb3.out.trans (hb4.mono HB3.out))
        have HB4 := Lib.hid (Nat.le_trans HB3.out hb4.size)
        have HRd := Lib.hid hv4.read
        have HAt : Hid (∀ W, Calls Try.prog 24 #[.int .i64 4, .int .i64 (a : Nat)] W fun e w' => e = .returned (strV (errText true a)) ∧ Below W.heap.size W w') := Lib.hid fun W => at_any 4 (a : Nat) W (by omega) (by omega)
        have HErr := Lib.hid (fun W h => err_any br A2 n cap2 l a true W h)
        have HEnd := Lib.hid (fun W h => end_any br A2 n cap2 l a true W h)
        have hee : endText true a n = errText true a := rfl
        rw [hee] at HEnd
        generalize errText true a = x at *
        clear hv4 hb4 Hr3 Hb3 HB3 hee
        go_wp2_with fail
        refine HRd.out.mono ?_
        rintro e w5 ⟨rfl, hb5⟩
        have Hr5 := Lib.hid (Hr4.out.below hb5)
        have Hb5 := Lib.hid (Hb4.out.trans (hb5.mono HB4.out))
        have HB5 := Lib.hid (Nat.le_trans HB4.out hb5.size)
        clear hb5 Hr4 Hb4 HB4 HRd
        simp only [strV] at HAt HErr HEnd ⊢
        go_wp2_with fail
        refine (HAt.out w5).mono ?_
        rintro e w6 ⟨rfl, hb6⟩
        have Hr6 := Lib.hid (Hr5.out.below hb6)
        have Hb6 := Lib.hid (Hb5.out.trans (hb6.mono HB5.out))
        have HB6 := Lib.hid (Nat.le_trans HB5.out hb6.size)
        have h1 : Hid (StayRel2 w.heap.size br A2 n cap2 l a len w (.int .i64 0) w6) := Lib.hid ⟨0, rfl, by omega, by omega, Hr6.out, Hb6.out⟩
        clear hb6 Hr5 Hb5 HB5 Hr6 Hb6 HB6 HAt hk q1 HB hp
        go_wp2_with fail
        clear qa
        go_loopw [9] (fun i wr => StayRel2 w.heap.size br A2 n cap2 l a len w i wr) (fun i _ => (len + 1 - intOf i).toNat)
        case atStart => exact h1.out
        case round =>
          clear h1
          obtain ⟨j, rfl, hj, hj50, hr, hbw⟩ := hrel
          by_cases hjl : j < len
          · by_cases h50 : j < 50
            · have q50 : decide ((j : Int) < 50) = true := by rw [decide_eq_true_iff]; omega
              obtain ⟨b, off, rfl, hb, hfk⟩ := Hf.out (by omega)
              have hB := Nat.le_trans Hbr.out (Nat.le_of_lt (lt_of_block hr.block))
              have Hok : Hid (∀ W, Below w.heap.size w W → ActOk W b (off + j * 4) (f j)) := Lib.hid fun W hW => (hfk j hjl).below hb hW
              generalize f j = x1 at *
              obtain ⟨kd, sz, num, DA, dm, dc, dat⟩ := x1
              obtain ⟨a0, a1, -, -, -, -, -, -, -, -, -⟩ := Hok.out wr hbw
              simp only at a0 a1
              have HN : Hid (∀ W, Below w.heap.size w W → ReaderAt W br A2 n cap2 l a true → StayRel2 w.heap.size br A2 n cap2 l a len w (.int .i64 ((j : Int) + 1)) W) := Lib.hid fun W h1 h2 => ⟨j + 1, by go_num, by omega, by omega, h2, h1⟩
              have Hr := Lib.hid hr
              have Hbw := Lib.hid hbw
              have HB := Lib.hid hB
              clear hr hbw hfk hB Hf
              by_cases hkind : kd = 1
              · subst hkind
                go_wp2_with fail
                refine (tell_any br A2 n cap2 l a true wr Hr.out).mono ?_
                rw [tell_true]
                rintro e w7 ⟨v7, g7, rfl, hr7, h7, ha7⟩
                obtain ⟨A7, c7, hv7, -, -, -⟩ := hr7.bytes
                replace hv7 : v7 = .slice A7 0 c7 := hv7
                subst hv7
                have hb7 := Hbw.out.trans (ha7.below (B := w.heap.size) HB.out (fun q e => by have e : q = br := e; have := Hbr.out; omega))
                obtain ⟨-, b1, -, -, -, -, -, -, -, -, -⟩ := Hok.out w7 hb7
                have HB7 := Lib.hid (Nat.le_trans HB.out ha7.size)
                have Hb7 := Lib.hid hb7
                have Hr7 := Lib.hid h7
                clear hr7 h7 ha7 hb7 Hr Hbw HB a0 a1
                go_wp2_with fail
                refine (take_any br A2 n cap2 l a true sz w7 Hr7.out).mono ?_
                rw [take_true]
                rintro e w8 ⟨rfl, h8, ha8⟩
                have Hb8 := Lib.hid (Hb7.out.trans (ha8.below (B := w.heap.size) HB7.out (fun q e => by have e : q = br := e; have := Hbr.out; omega)))
                have HB8 := Lib.hid (Nat.le_trans HB7.out ha8.size)
                have Hr8 := Lib.hid h8
                clear h8 ha8 Hr7 Hb7 HB7
                go_wp2_with fail
                refine (at_any' br A2 n cap2 l a true w8 Hr8.out).mono ?_
                rintro e w9 ⟨rfl, rfl⟩
                go_wp2_with fail
                refine (HErr.out w8 Hr8.out).mono ?_
                rintro e w9 ⟨v9, rfl, hv9, -, hb9⟩
                have Hr9 := Lib.hid (Hr8.out.below hb9)
                have Hb9 := Lib.hid (Hb8.out.trans (hb9.mono HB8.out))
                have HB9 := Lib.hid (Nat.le_trans HB8.out hb9.size)
                have HR9 := Lib.hid hv9.read
                clear hv9 hb9 Hr8 Hb8 HB8
                simp only [strV] at HR9
                go_wp2_with fail
                refine HR9.out.mono ?_
                rintro e w10 ⟨rfl, hb10⟩
                have Hr10 := Lib.hid (Hr9.out.below hb10)
                have Hb10 := Lib.hid (Hb9.out.trans (hb10.mono HB9.out))
                have HB10 := Lib.hid (Nat.le_trans HB9.out hb10.size)
                clear hb10 Hr9 Hb9 HB9 HR9
                go_wp2_with fail
                refine (HEnd.out w10 Hr10.out).mono ?_
                rintro e w11 ⟨v11, rfl, hv11, -, hb11⟩
                have Hr11 := Lib.hid (Hr10.out.below hb11)
                have Hb11 := Lib.hid (Hb10.out.trans (hb11.mono HB10.out))
                have HB11 := Lib.hid (Nat.le_trans HB10.out hb11.size)
                have HR11 := Lib.hid hv11.read
                clear hv11 hb11 Hr10 Hb10 HB10
                simp only [strV] at HR11
                go_wp2_with fail
                refine HR11.out.mono ?_
                rintro e w12 ⟨rfl, hb12⟩
                have HF := Lib.hid (HN.out w12 (Hb11.out.trans (hb12.mono HB11.out)) (Hr11.out.below hb12))
                clear hb12 Hr11 Hb11 HB11 HR11
                go_wp2_with fail
                go_roundw
                case rel => exact HF.out
                case measure => simp [intOf]; omega
              · have q : (kd == 1) = false := beq_eq_false_iff_ne.2 hkind
                clear hkind
                have Hr7 := Hr
                have Hb7 := Hbw
                have HB7 := HB
                clear Hr Hbw HB
                go_wp2_with fail
                refine (take_any br A2 n cap2 l a true sz wr Hr7.out).mono ?_
                rw [take_true]
                rintro e w8 ⟨rfl, h8, ha8⟩
                have Hb8 := Lib.hid (Hb7.out.trans (ha8.below (B := w.heap.size) HB7.out (fun q e => by have e : q = br := e; have := Hbr.out; omega)))
                have HB8 := Lib.hid (Nat.le_trans HB7.out ha8.size)
                have Hr8 := Lib.hid h8
                clear h8 ha8 Hr7 Hb7 HB7
                go_wp2_with fail
                refine (at_any' br A2 n cap2 l a true w8 Hr8.out).mono ?_
                rintro e w9 ⟨rfl, rfl⟩
                go_wp2_with fail
                refine (HErr.out w8 Hr8.out).mono ?_
                rintro e w9 ⟨v9, rfl, hv9, -, hb9⟩
                have Hr9 := Lib.hid (Hr8.out.below hb9)
                have Hb9 := Lib.hid (Hb8.out.trans (hb9.mono HB8.out))
                have HB9 := Lib.hid (Nat.le_trans HB8.out hb9.size)
                have HR9 := Lib.hid hv9.read
                clear hv9 hb9 Hr8 Hb8 HB8
                simp only [strV] at HR9
                go_wp2_with fail
                refine HR9.out.mono ?_
                rintro e w10 ⟨rfl, hb10⟩
                have Hr10 := Lib.hid (Hr9.out.below hb10)
                have Hb10 := Lib.hid (Hb9.out.trans (hb10.mono HB9.out))
                have HB10 := Lib.hid (Nat.le_trans HB9.out hb10.size)
                clear hb10 Hr9 Hb9 HB9 HR9
                go_wp2_with fail
                refine (HEnd.out w10 Hr10.out).mono ?_
                rintro e w11 ⟨v11, rfl, hv11, -, hb11⟩
                have Hr11 := Lib.hid (Hr10.out.below hb11)
                have Hb11 := Lib.hid (Hb10.out.trans (hb11.mono HB10.out))
                have HB11 := Lib.hid (Nat.le_trans HB10.out hb11.size)
                have HR11 := Lib.hid hv11.read
                clear hv11 hb11 Hr10 Hb10 HB10
                simp only [strV] at HR11
                go_wp2_with fail
                refine HR11.out.mono ?_
                rintro e w12 ⟨rfl, hb12⟩
                have HF := Lib.hid (HN.out w12 (Hb11.out.trans (hb12.mono HB11.out)) (Hr11.out.below hb12))
                clear hb12 Hr11 Hb11 HB11 HR11
                go_wp2_with fail
                go_roundw
                case rel => exact HF.out
                case measure => simp [intOf]; omega
            · have q50 : decide ((j : Int) < 50) = false := by rw [decide_eq_false_iff_not]; omega
              have HF : Hid (AwakePost w (.returned (.bool true)) wr) := Lib.hid ⟨rfl, hbw⟩
              clear hr hbw Hf
              go_wp2_with fail
              go_ret
              exact HF.out
          · have HF : Hid (AwakePost w (.returned (.bool true)) wr) := Lib.hid ⟨rfl, hbw⟩
            clear hr hbw Hf
            go_wp2_with fail
            go_ret
            exact HF.out
end Go.Proofs.Ytnjkfkfanjkajaa
