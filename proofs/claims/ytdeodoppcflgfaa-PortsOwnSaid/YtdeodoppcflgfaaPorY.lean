/- PortsOwn: the walk of the law. Conditions: where the bytes lie. -/
import Derived.Test.YtdeodoppcflgfaaPorX
namespace Go.Proofs.Ytdeodoppcflgfaa
open Go.RowKit PorP
set_option maxRecDepth 100000

def OneR (w8 w9 : World) (i : Value) (wr : World) : Prop := ∃ k : Nat, i = .int .i64 (k : Nat) ∧ ((k = 0 ∧ wr = w9) ∨ (k = 1 ∧ Below w8.heap.size w8 wr))
theorem own_kept {l : List UInt8} : readT (wired 1 1 2 1 1) 1 (agedS l 0) 1 3 = ((l, true, none), agedS l 0) := by rfl
theorem one_msg {ys : List MsgC} {n : Nat} {k : Nat} {l : List UInt8} (h : ys.length = n) (hp : ys.map MsgC.plain = [msgOf k l]) : n = 1 ∧ ∃ p A m c, ys = [⟨p, A, m, c, l⟩] := by
  have hn1 : n = 1 := by rw [← h, ← List.length_map (f := MsgC.plain), hp]; rfl
  obtain ⟨⟨yp, yA, ym, yc, yd⟩, rfl⟩ : ∃ y, ys = [y] := by
    subst hn1
    match ys, h with
    | [y], _ => exact ⟨y, rfl⟩
  have hyd : yd = l := congrArg FrameP.Msg.data (List.cons.inj hp).1
  subst hyd
  exact ⟨hn1, _, _, _, _, rfl⟩
theorem one_in {W : World} {B : Nat} {A : Option Addr} {n cap : Nat} {p : Int} {yA : Option Addr} {m c : Nat} {l : List UInt8} (h : OutM W B (.slice A n cap) [⟨p, yA, m, c, l⟩]) : ∃ bm om, A = some ⟨bm, om, none⟩ ∧ m = l.length ∧ W.cell? ⟨bm, om, none⟩ = some (.int .i64 p) ∧ W.cell? ⟨bm, om + 1, none⟩ = some (.slice yA (l.length : Nat) c) ∧ W.ownsRow B 5 1 (.slice yA (l.length : Nat) c) l.length (bytesV l) ∧ ∃ cur t, W.heap[bm]? = some (.cells cur t (0, 0)) ∧ t ≠ 5 := by
  obtain ⟨A10, c10, e10, -, hin⟩ := h.reads
  injection e10 with e101 e102 e103
  subst e101
  obtain ⟨bm, om, rfl, hbm, hmi⟩ := hin (by simp)
  obtain ⟨kp, kt, kok⟩ := hmi 0 _ rfl
  have hm : l.length = m := kok.len
  subst hm
  obtain ⟨cur, t, h1, h2, -⟩ := h.tag bm rfl
  have hr := (h.each _ (List.mem_singleton.2 rfl)).row
  exact ⟨bm, om, rfl, rfl, by simpa using kp, by simpa using kt, hr, cur, t, h1, h2⟩

set_option maxHeartbeats 16000000 in
theorem own_law (A : Option Addr) (n cap : Nat) (l : List UInt8) (hl : l.length = n) (w : World) (hby : Bytes w w.heap.size A l) :
    Calls Try.prog 6 #[.slice A n cap] w (AwakeP w) := by
  subst hl
  have HAw := Lib.hid (awake13_any w)
  have HAl := Lib.hid (SndP.works wired_ok).allowed
  by_cases h100 : 4 < l.length
  · have q1 : decide ((4 : Int) < (l.length : Int)) = true := decide_eq_true (by omega)
    have q2 : decide (4 < l.length) = true := decide_eq_true h100
    clear hby h100
    go_enter Try.func6, Try.ntmps6
    go_wp2_with fail
    refine HAw.out.mono ?_
    rintro e w1 ⟨rfl, hb1⟩
    have HF := Lib.hid hb1
    clear hb1 HAw
    go_wp2_with fail
    go_ret
    exact ⟨rfl, HF.out⟩
  have q1 : decide ((4 : Int) < (l.length : Int)) = false := decide_eq_false (by omega)
  have q2 : decide (4 < l.length) = false := decide_eq_false h100
  have Hby := Lib.hid (fun W (hW : Below w.heap.size w W) => (hby.below hW (Nat.le_refl _)).more hW.size)
  have Hn : Hid (l.length ≤ 4) := Lib.hid (by omega)
  clear hby h100
  go_enter Try.func6, Try.ntmps6
  go_wp2_with fail
  refine HAw.out.mono ?_
  rintro e w1 ⟨rfl, hb1⟩
  have HB1 := Lib.hid hb1
  clear hb1 HAw
  go_wp2_with (at_builtin
               refine wpList_copy (by rfl) (.tmp 27) (.tmp 28) rfl rfl A l.length cap l rfl rfl (Hby.out w1 HB1.out) (by have := Hn.out; omega) ?_
               intro A2 c2 w2 ho2 h1 h2 h3
               have HO2 := Lib.hid ho2
               have HY2 := Lib.hid h1
               have HK2 := Lib.hid h2
               have HT2 := Lib.hid (HB1.out.trans (h3.mono HB1.out.size))
               have Hw1 := Lib.hid (And.intro HB1.out.size h3.size)
               clear h1 h2 h3 ho2 HB1)
  clear q1 q2
  refine (wired_any w2).mono ?_
  rintro e w3 ⟨rfl, h3, hb3⟩
  have H3 := Lib.hid h3
  have HB3 := Lib.hid hb3
  clear h3 hb3
  go_wp2_with fail
  refine (wnew_any 1 1 2 1 1 wired_ok _ 0 (by omega) w3 H3.out).mono ?_
  rintro e w4 ⟨a, rfl, na, pa, sa, hb4⟩
  have Ha := Lib.hid (And.intro na (And.intro (pa.low HB3.out.size) sa))
  have HB4 := Lib.hid (HB3.out.trans (hb4.mono HB3.out.size))
  unfold pv
  clear na pa sa hb4 H3 HB3
  go_wp2_with fail
  refine (wired_any w4).mono ?_
  rintro e w5 ⟨rfl, h5, hb5⟩
  have H5 := Lib.hid h5
  have HB5 := Lib.hid hb5
  clear h5 hb5
  go_wp2_with fail
  refine (wnew_any 1 1 2 1 1 wired_ok _ 1 (by omega) w5 H5.out).mono ?_
  rintro e w6 ⟨b, rfl, nb, pb, sb, hb6⟩
  have HB46 := Lib.hid (HB5.out.trans (hb6.mono HB5.out.size))
  have HB6 := Lib.hid (HB4.out.trans (HB46.out.mono HB4.out.size))
  have HD6 : Hid (DuoG w6 w2.heap.size (wired 1 1 2 1 1) a.a b.a (frS PS.empty PS.empty) (frS PS.empty PS.empty) (fun k => w2.heap.size ≤ k)) := Lib.hid (by
    have h := Duo.swapped Ha.out.2.1 (pb.low (Nat.le_trans HB4.out.size HB5.out.size)) HB46.out Ha.out.1 nb (fun q hq => Nat.le_trans HB5.out.size (pb.hi q hq))
    rw [Ha.out.2.2, sb] at h
    exact ⟨HB6.out.size, a, b, rfl, rfl, h, fun k hk => (h.px.els.dLt hk).1, fun k hk => (h.py.els.dLt hk).1⟩)
  unfold pv
  generalize a.a = aa at *
  generalize b.a = ba at *
  have HWr := Lib.hid (g_write HD6.out HAl.out 0 2 (by omega) A2 l.length c2 l rfl ((HY2.out.below HB6.out (Nat.le_refl _)).more HB6.out.size) (HK2.out.below HB6.out) (frS ⟨[l], 0⟩ PS.empty) (by unfold frS; rw [wiredP_write2, if_neg (by have := Hn.out; omega)]))
  clear nb pb sb hb6 H5 HB5 HB46 Ha HB4 HD6 HK2
  go_wp2_with fail
  refine HWr.out.mono ?_
  rintro e w7 ⟨rfl, hD7, hb7⟩
  have HD7 := Lib.hid hD7
  have HB7 := Lib.hid (HB6.out.trans hb7)
  have HO7 := Lib.hid (own_below' HO2.out HB7.out)
  have HOff : Hid (∀ q, (Value.slice A2 l.length c2).ownBlock = some q → ¬ w2.heap.size ≤ q) := Lib.hid fun q hq => by have := (HO2.out.lt q hq).2; omega
  have HX0 : Hid (XorR w7 w1.heap.size (.slice A2 l.length c2) l.length (.int .i64 0) w7) := Lib.hid ⟨0, l, Nat.zero_le _, rfl, rfl, HO7.out, Apart.refl _ _⟩
  have HT7 := Lib.hid (HT2.out.trans (HB7.out.mono HT2.out.size))
  clear hD7 hb7 HWr HB6 HO2 HY2
  go_wp2_with fail
  go_loopw [54] (XorR w7 w1.heap.size (.slice A2 l.length c2) l.length) (fun j _ => (l.length + 1 - intOf j).toNat)
  case atStart => exact HX0.out
  case round =>
    clear HX0
    have HRel := Lib.hid hrel
    obtain ⟨k, l', hk, rfl, hl', ho, ha⟩ := hrel
    by_cases hlt : k < l.length
    case pos =>
      obtain ⟨g, cp, c, hv, kc, fc, hnx⟩ := xor_step hlt hl' ho ha
      injection hv with hv1 hv2 hv3
      subst hv1 hv3
      have q3 : decide ((k : Int) < (l.length : Int)) = true := decide_eq_true (by omega)
      have q4 : decide (k < l.length) = true := decide_eq_true hlt
      have q5 : (k : Int) < (l.length : Int) := by omega
      have Hn4 := Hn.out
      have e1 : IntKind.i64.wrap ((k : Int) + 1) = (k : Int) + 1 := IntWalk.i64_in _ (by omega)
      have HR := Lib.hid (hnx 255 (by omega))
      have Hlt := Lib.hid hlt
      clear hk hl' ho ha hnx hv2 HRel Hn4
      go_wp2_with fail
      go_roundw
      case rel => exact HR.out
      case measure => have := Hlt.out; simp [intOf]; omega
    case neg =>
      obtain rfl : k = l.length := by omega
      have q3 : decide ((l.length : Int) < (l.length : Int)) = false := decide_eq_false (by omega)
      obtain ⟨w8, hw8⟩ : ∃ w8, w8 = wr := ⟨_, rfl⟩
      subst hw8
      have HB8 := Lib.hid (HT7.out.trans (xor_below HRel.out Hw1.out.1 HT7.out.size))
      have HD8 := Lib.hid (HD7.out.bytes HO7.out ha HOff.out)
      have HIm := Lib.hid (g_image HD8.out HAl.out [msgOf 2 l] (by rfl))
      clear hk hl' ho ha hlt HRel HD7 HO7 HOff HT7 HB7
      go_wp2_with fail
      refine HIm.out.mono ?_
      rintro e w9 ⟨A9, n9, c9, ys, rfl, hyn, hO9, hpl, hb9⟩
      obtain ⟨rfl, yp, yA, ym, yc, rfl⟩ := one_msg hyn hpl
      obtain ⟨bm, om, rfl, rfl, kp, kt, hrow, -⟩ := one_in hO9
      have HK9 := Lib.hid (And.intro kp (And.intro kt hrow))
      have Hb9 := Lib.hid hb9
      have HI0 : Hid (OneR w8 w9 (.int .i64 0) w9) := Lib.hid ⟨0, rfl, .inl ⟨rfl, rfl⟩⟩
      clear kp kt hrow hyn hO9 hpl hb9 HIm q3
      go_wp2_with fail
      go_loopw [67] (OneR w8 w9) (fun j _ => (2 - intOf j).toNat)
      case atStart => exact HI0.out
      case round =>
        clear HI0
        obtain ⟨j, rfl, ⟨rfl, rfl⟩ | ⟨rfl, hb⟩⟩ := hrel
        · obtain ⟨kp, kt, hrow⟩ := HK9.out
          have hbx : Below wr.heap.size wr (wr.alloc (.cells #[.int .i64 yp, .slice yA (l.length : Nat) yc] 68)) := (Below.refl _ _).alloc (Nat.le_refl _) _
          have hnb := heap_alloc_new wr (.cells #[.int .i64 yp, .slice yA (l.length : Nat) yc] 68)
          have hro := own_below' hrow hbx
          have m1 := cell_at hnb 1 rfl
          have HKb : Hid (∀ W, Apart (fun q => (Value.slice yA (l.length : Nat) yc).ownBlock = some q) (wr.alloc (.cells #[.int .i64 yp, .slice yA (l.length : Nat) yc] 68)) W → W.cell? ⟨wr.heap.size, 1, none⟩ = some (.slice yA (l.length : Nat) yc)) := Lib.hid fun W hW => (hW.cell (p := ⟨wr.heap.size, 1, none⟩) (lt_of_block hnb) (fun hq => own_off hro hnb (by decide) _ hq rfl)).trans m1
          have HX0 : Hid (XorR (wr.alloc (.cells #[.int .i64 yp, .slice yA (l.length : Nat) yc] 68)) w8.heap.size (.slice yA (l.length : Nat) yc) l.length (.int .i64 0) (wr.alloc (.cells #[.int .i64 yp, .slice yA (l.length : Nat) yc] 68))) := Lib.hid ⟨0, l, Nat.zero_le _, rfl, rfl, hro, Apart.refl _ _⟩
          have Hb10 := Lib.hid (Hb9.out.trans (hbx.mono Hb9.out.size))
          clear hro hnb hrow hbx HK9
          go_wp2_with fail
          generalize wr.alloc (.cells #[.int .i64 yp, .slice yA (l.length : Nat) yc] 68) = w10 at *
          obtain ⟨w9, hw9⟩ : ∃ w9, w9 = wr := ⟨_, rfl⟩
          subst hw9
          clear m1 kp kt
          go_loopw [74] (XorR w10 w8.heap.size (.slice yA (l.length : Nat) yc) l.length) (fun j _ => (l.length + 1 - intOf j).toNat)
          case atStart => exact HX0.out
          case round =>
            clear HX0
            have HRel := Lib.hid hrel
            obtain ⟨k, l', hk, rfl, hl', ho, ha⟩ := hrel
            by_cases hlt : k < l.length
            case pos =>
              have kb := HKb.out wr ha
              obtain ⟨g, cp, c, hv, kc, fc, hnx⟩ := xor_step hlt hl' ho ha
              injection hv with hv1 hv2 hv3
              subst hv1 hv3
              have q3 : decide ((k : Int) < (l.length : Int)) = true := decide_eq_true (by omega)
              have q4 : decide (k < l.length) = true := decide_eq_true hlt
              have q5 : (k : Int) < (l.length : Int) := by omega
              have Hn4 := Hn.out
              have e1 : IntKind.i64.wrap ((k : Int) + 1) = (k : Int) + 1 := IntWalk.i64_in _ (by omega)
              have HR := Lib.hid (hnx 170 (by omega))
              have Hlt := Lib.hid hlt
              clear hk hl' ho ha hnx hv2 HRel Hn4
              go_wp2_with fail
              go_roundw
              case rel => exact HR.out
              case measure => have := Hlt.out; simp [intOf]; omega
            case neg =>
              obtain rfl : k = l.length := by omega
              have q3 : decide ((l.length : Int) < (l.length : Int)) = false := decide_eq_false (by omega)
              have HR := Lib.hid (xor_below HRel.out (Nat.le_refl _) Hb10.out.size)
              have HR2 : Hid (OneR w8 w9 (.int .i64 1) wr) := Lib.hid ⟨1, rfl, .inr ⟨rfl, Hb10.out.trans HR.out⟩⟩
              clear hk hl' ho ha hlt HRel HR HKb Hb10
              go_wp2_with fail
              go_roundw
              case rel => exact HR2.out
              case measure => simp [intOf]
        · have HD11 := Lib.hid (HD8.out.below hb).lt
          have HB11 := Lib.hid (HB8.out.trans (hb.mono HB8.out.size))
          have Hw2 := Lib.hid (Nat.le_trans HT2.out.size (Nat.le_refl w2.heap.size))
          clear hb HD8 HB8 HK9 Hb9
          obtain ⟨w11, hw11⟩ : ∃ w11, w11 = wr := ⟨_, rfl⟩
          subst hw11
          go_wp2_with fail
          refine (g_seal HD11.out HAl.out [msgOf 2 l] (by rfl)).mono ?_
          rintro e w12 ⟨A12, n12, c12, ys, rfl, hyn, hO12, hpl, hS12, hb12⟩
          obtain ⟨rfl, zp, zA, zm, zc, rfl⟩ := one_msg hyn hpl
          have HDl := Lib.hid (s_deliver hS12 HAl.out 0 A12 1 c12 _ hyn (by omega) hO12 _ hpl 1 (agedS l 0) (fr_deliver Hn.out))
          have hrow12 := (hO12.each _ (List.mem_singleton.2 rfl)).row
          have HOff : Hid (∀ q, (Value.slice zA zm zc).ownBlock = some q → ¬ (q < w11.heap.size ∨ w12.heap.size ≤ q)) := Lib.hid fun q hq => by have := hrow12.lt q hq; omega
          have HB12 := Lib.hid (HB11.out.trans (hb12.mono HT2.out.size))
          clear hyn hO12 hpl hS12 hb12 hrow12 HD11
          go_wp2_with fail
          refine HDl.out.mono ?_
          rintro e w13 ⟨rfl, hS13, hO13, hb13⟩
          obtain ⟨bl, ol, rfl, rfl, -, kt, hrow, cur, tt, hbl, htt⟩ := one_in hO13
          have HS13 := Lib.hid hS13
          have HB13 := Lib.hid (HB12.out.trans (hb13.mono HT2.out.size))
          have HO13 := Lib.hid hrow
          have HKl : Hid (∀ W, Apart (fun q => (Value.slice zA (l.length : Nat) zc).ownBlock = some q) w13 W → W.cell? ⟨bl, ol + 1, none⟩ = some (.slice zA (l.length : Nat) zc)) := Lib.hid fun W hW => (hW.cell (p := ⟨bl, ol + 1, none⟩) (lt_of_block hbl) (fun hq => own_off hrow hbl (Ne.symm htt) _ hq rfl)).trans kt
          have HX0 : Hid (XorR w13 w11.heap.size (.slice zA (l.length : Nat) zc) l.length (.int .i64 0) w13) := Lib.hid ⟨0, l, Nat.zero_le _, rfl, rfl, hrow, Apart.refl _ _⟩
          have Hw11 := Lib.hid HB11.out.size
          clear hS13 hO13 hb13 hrow hbl htt HDl HB12 HB11
          go_wp2_with fail
          clear kt
          go_loopw [96] (XorR w13 w11.heap.size (.slice zA (l.length : Nat) zc) l.length) (fun j _ => (l.length + 1 - intOf j).toNat)
          case atStart => exact HX0.out
          case round =>
            clear HX0
            have HRel := Lib.hid hrel
            obtain ⟨k, l', hk, rfl, hl', ho, ha⟩ := hrel
            by_cases hlt : k < l.length
            case pos =>
              have kb := HKl.out wr ha
              obtain ⟨g, cp, c, hv, kc, fc, hnx⟩ := xor_step hlt hl' ho ha
              injection hv with hv1 hv2 hv3
              subst hv1 hv3
              have q3 : decide ((k : Int) < (l.length : Int)) = true := decide_eq_true (by omega)
              have q4 : decide (k < l.length) = true := decide_eq_true hlt
              have q5 : (k : Int) < (l.length : Int) := by omega
              have Hn4 := Hn.out
              have e1 : IntKind.i64.wrap ((k : Int) + 1) = (k : Int) + 1 := IntWalk.i64_in _ (by omega)
              have HR := Lib.hid (hnx 255 (by omega))
              have Hlt := Lib.hid hlt
              clear hk hl' ho ha hnx hv2 HRel Hn4
              go_wp2_with fail
              go_roundw
              case rel => exact HR.out
              case measure => have := Hlt.out; simp [intOf]; omega
            case neg =>
              obtain rfl : k = l.length := by omega
              have q3 : decide ((l.length : Int) < (l.length : Int)) = false := decide_eq_false (by omega)
              obtain ⟨w14, hw14⟩ : ∃ w14, w14 = wr := ⟨_, rfl⟩
              subst hw14
              have HB14 := Lib.hid (HB13.out.trans (xor_below HRel.out Hw11.out HB13.out.size))
              have HS14 := Lib.hid (HS13.out.bytes HO13.out ha HOff.out).lt
              clear hk hl' ho ha hlt HRel HS13 HO13 HOff HKl HB13
              go_wp2_with fail
              clear q3
              refine (s_read HS14.out HAl.out 1 3 (by omega) (p := ⟨1, 1, false, 4, 0, 1⟩) rfl rfl l true (agedS l 0) own_kept).mono ?_
              rintro e w15 ⟨Ar, cr, rfl, ho15, hS15, hb15⟩
              have HS15 := Lib.hid hS15
              have HB15 := Lib.hid (HB14.out.trans (hb15.mono HB14.out.size))
              have HO15 := Lib.hid ho15
              have kz : (convert 44 9 (.slice Ar (l.length : Nat) cr)).run Try.prog w15 = .ok (.string ⟨l.toArray⟩) w15 := conv_w rfl (by
                obtain ⟨Aq, cq, eq, -, -, hbq, -⟩ := own_bytes ho15
                injection eq with eq1 eq2 eq3
                rw [eq1]; exact hbq)
              have HX0 : Hid (XorR w15 w14.heap.size (.slice Ar (l.length : Nat) cr) l.length (.int .i64 0) w15) := Lib.hid ⟨0, l, Nat.zero_le _, rfl, rfl, ho15, Apart.refl _ _⟩
              have HOff : Hid (∀ q, (Value.slice Ar (l.length : Nat) cr).ownBlock = some q → ¬ (q < w14.heap.size)) := Lib.hid fun q hq => by have := (ho15.lt q hq).1; omega
              have Hw14 := Lib.hid HB14.out.size
              clear ho15 hS15 hb15 HS14 HB14
              go_wp2_with fail
              clear kz
              go_loopw [119] (XorR w15 w14.heap.size (.slice Ar (l.length : Nat) cr) l.length) (fun j _ => (l.length + 1 - intOf j).toNat)
              case atStart => exact HX0.out
              case round =>
                clear HX0
                have HRel := Lib.hid hrel
                obtain ⟨k, l', hk, rfl, hl', ho, ha⟩ := hrel
                by_cases hlt : k < l.length
                case pos =>
                  obtain ⟨g, cp, c, hv, kc, fc, hnx⟩ := xor_step hlt hl' ho ha
                  injection hv with hv1 hv2 hv3
                  subst hv1 hv3
                  have q3 : decide ((k : Int) < (l.length : Int)) = true := decide_eq_true (by omega)
                  have q4 : decide (k < l.length) = true := decide_eq_true hlt
                  have q5 : (k : Int) < (l.length : Int) := by omega
                  have Hn4 := Hn.out
                  have e1 : IntKind.i64.wrap ((k : Int) + 1) = (k : Int) + 1 := IntWalk.i64_in _ (by omega)
                  have HR := Lib.hid (hnx 255 (by omega))
                  have Hlt := Lib.hid hlt
                  clear hk hl' ho ha hnx hv2 HRel Hn4
                  go_wp2_with fail
                  go_roundw
                  case rel => exact HR.out
                  case measure => have := Hlt.out; simp [intOf]; omega
                case neg =>
                  obtain rfl : k = l.length := by omega
                  have q3 : decide ((l.length : Int) < (l.length : Int)) = false := decide_eq_false (by omega)
                  obtain ⟨w16, hw16⟩ : ∃ w16, w16 = wr := ⟨_, rfl⟩
                  subst hw16
                  have HB16 := Lib.hid (HB15.out.trans (xor_below HRel.out Hw14.out HB15.out.size))
                  have HS16 := Lib.hid (HS15.out.bytes HO15.out ha HOff.out)
                  clear hk hl' ho ha hlt HRel HS15 HO15 HOff HB15
                  go_wp2_with fail
                  clear q3
                  refine (s_read HS16.out HAl.out 1 3 (by omega) (p := ⟨1, 1, false, 4, 0, 1⟩) rfl rfl l true (agedS l 0) own_kept).mono ?_
                  rintro e w17 ⟨Ar2, cr2, rfl, ho17, hS17, hb17⟩
                  have HB17 := Lib.hid (HB16.out.trans (hb17.mono HB16.out.size))
                  have kz : (convert 44 9 (.slice Ar2 (l.length : Nat) cr2)).run Try.prog w17 = .ok (.string ⟨l.toArray⟩) w17 := conv_w rfl (by
                    obtain ⟨Aq, cq, eq, -, -, hbq, -⟩ := own_bytes ho17
                    injection eq with eq1 eq2 eq3
                    rw [eq1]; exact hbq)
                  have ky : (convert 44 9 (.slice A (l.length : Nat) cap)).run Try.prog w17 = .ok (.string ⟨l.toArray⟩) w17 := conv_w rfl (Hby.out w17 HB17.out)
                  clear ho17 hS17 hb17 HS16 HB16
                  go_wp2_with fail
                  go_ret
                  exact ⟨rfl, HB17.out⟩
end Go.Proofs.Ytdeodoppcflgfaa
