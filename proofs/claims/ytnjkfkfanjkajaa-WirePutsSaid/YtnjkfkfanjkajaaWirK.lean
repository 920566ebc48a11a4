/- WirePuts: the walk of the law at acts in memory. Conditions: where the acts lie. -/
import Derived.Test.YtnjkfkfanjkajaaWirD
import Derived.Test.YtnjkfkfanjkajaaWirH
import Derived.Test.YtnjkfkfanjkajaaActArg
import Derived.StillTailTactics
namespace Go.Proofs.Ytnjkfkfanjkajaa
open Go.RowKit

/-- A Writer and a slice of the call's own that hold the same bytes, apart from each other. -/
def PutsIn (B bw : Nat) (W : World) (wr : World) (v : Value) (l : List UInt8) : Prop :=
  ∃ g gw, WriterAt wr B bw g l ∧ Row wr B 5 gw v l ∧ gw ≠ some bw ∧ (∀ k, gw = some k → g ≠ some k) ∧ Below B W wr

def PutsRel (B bw len : Nat) (W : World) (v i : Value) (wr : World) : Prop :=
  ∃ k l, k ≤ len ∧ k ≤ 100 ∧ i = .int .i64 (k : Nat) ∧ l.length ≤ 256 * k ∧ PutsIn B bw W wr v l

/-- Behind a call that put something into the Writer, the slice is as it was. -/
theorem puts_mid {B bw : Nat} {g gw g1 : Option Nat} {W wr w1 : World} {v : Value} {l more : List UInt8} (hB : B ≤ wr.heap.size) (hw : WriterAt wr B bw g l) (hr : Row wr B 5 gw v l) (h1 : gw ≠ some bw) (h2 : ∀ k, gw = some k → g ≠ some k) (hb : Below B W wr)
    (hw1 : WriterAt w1 B bw g1 (l ++ more)) (hm : Moved wr g g1) (ha : Apart (WF bw g) wr w1) :
    Row w1 B 5 gw v l ∧ (∀ k, gw = some k → g1 ≠ some k) ∧ Below B W w1 := by
  refine ⟨hr.apart ha (fun k hk => ?_), fun k hk e => ?_, hb.trans (ha.below hB ?_)⟩
  · rintro (rfl | e)
    · exact h1 hk
    · exact h2 k hk e
  · rcases hm with rfl | ⟨q, rfl, hq⟩
    · exact h2 k hk e
    · injection e with e
      have := (hr.lt k hk).2
      omega
  · rintro k (rfl | e)
    · exact hw.1
    · exact (hw.glt k e).1

/-- Behind an append to the slice of what was put. -/
theorem puts_end {B bw : Nat} {g1 gw gw2 : Option Nat} {W w1 w2 w3 : World} {v v3 : Value} {l more : List UInt8} (hB : B ≤ w1.heap.size) (hw1 : WriterAt w1 B bw g1 (l ++ more)) (hr1 : Row w1 B 5 gw v l) (h1 : gw ≠ some bw) (h2 : ∀ k, gw = some k → g1 ≠ some k) (hb1 : Below B W w1)
    (hb2 : Below w1.heap.size w1 w2) (hr3 : Row w3 B 5 gw2 v3 (l ++ more)) (hm : Moved w2 gw gw2) (ha : Apart (fun k => gw = some k) w2 w3) : PutsIn B bw W w3 v3 (l ++ more) := by
  have hw2 := hw1.apart (F := fun _ => False) (Apart.of_below' hb2) (fun h => h) (fun _ _ h => h)
  refine ⟨g1, gw2, hw2.apart ha h1 (fun k hk e => h2 k e hk), hr3, ?_, fun k hk e => ?_, (hb1.trans (hb2.mono hB)).trans (ha.below (Nat.le_trans hB hb2.size) (fun k hk => (hr1.lt k hk).1))⟩
  · rcases hm with rfl | ⟨q, rfl, hq⟩
    · exact h1
    · intro e
      injection e with e
      have := hw2.lt
      omega
  · rcases hm with rfl | ⟨q, rfl, hq⟩
    · exact h2 k hk e
    · injection hk with hk
      have := (hw2.glt k e).2
      omega

theorem WriterAt.drewN {w : World} {B bw : Nat} {g : Option Nat} {l : List UInt8} (h : WriterAt w B bw g l) (n : Nat) : WriterAt (w.drewN n) B bw g l := h

/-- What stands from place i on in the slice that is compared. -/
def TailIn (wr : World) (A : Option Addr) (B i : Nat) (l : List UInt8) : Prop :=
  0 < l.length → ∃ g, A = some ⟨g, 0, none⟩ ∧ B ≤ g ∧ ∀ j c, i ≤ j → l[j]? = some c → wr.cell? ⟨g, j, none⟩ = some (.int .u8 (c.toNat : Nat)) ∧ wr.frozen? ⟨g, j, none⟩ = false

theorem TailIn.start {w : World} {B : Nat} {e : TypeId} {g : Option Nat} {A : Option Addr} {n cap : Nat} {l : List UInt8} (h : Row w B e g (.slice A n cap) l) (hn : l.length = n) : TailIn w A B 0 l := fun hl => by
  subst hn
  obtain ⟨-, hr⟩ := h
  rcases hr.2 with ⟨h1, h2⟩ | ⟨g', cap', cur, h1, hb, hrest⟩
  · omega
  · injection h1 with h1 h2 h3
    subst h1 h3
    refine ⟨g', rfl, hb, fun j c _ hj => ⟨?_, ?_⟩⟩
    · have hlt : j < l.length := (List.getElem?_eq_some_iff.1 hj).1
      rw [World.ownsRow.cellAt hr j (by omega)]
      simp [bytesV, hj]
    · exact World.ownsRow.frozenAt hr j
theorem TailIn.step {wr : World} {g B i : Nat} {l : List UInt8} (h : TailIn wr (some ⟨g, 0, none⟩) B i l) (u : Value) : TailIn (wr.setCell ⟨g, i, none⟩ u) (some ⟨g, 0, none⟩) B (i + 1) l := fun hl => by
  obtain ⟨g', e, hb, hc⟩ := h hl
  injection e with e
  injection e with e _ _
  subst e
  refine ⟨g, rfl, hb, fun j c hij hj => ?_⟩
  obtain ⟨h1, h2⟩ := hc j c (by omega) hj
  refine ⟨?_, ?_⟩
  · rw [World.cell?_setCell_other wr ⟨g, i, none⟩ ⟨g, j, none⟩ u (by intro e; injection e with _ e _; omega)]
    exact h1
  · rw [← h2]
    exact World.frozen?_setCell _ _ _ _
theorem TailIn.drewN {wr : World} {A : Option Addr} {B i : Nat} {l : List UInt8} (h : TailIn wr A B i l) (n : Nat) : TailIn (wr.drewN n) A B i l := h

/-- The relation of the second round: below block C nothing has turned since. -/
def CmpRel (C : Nat) (A : Option Addr) (l : List UInt8) (W1 : World) (i : Value) (wr : World) : Prop :=
  ∃ k, k ≤ l.length ∧ i = .int .i64 (k : Nat) ∧ TailIn wr A C k l ∧ Below C W1 wr

theorem drewN_one (w : World) : ({ heap := w.heap, tape := w.tape, drawn := w.drawn + 1, os := w.os, output := w.output } : World) = w.drewN 1 := rfl

set_option maxRecDepth 100000 in
set_option maxHeartbeats 2000000 in
theorem puts_law (A : Option Addr) (len cap : Nat) (f : Nat → ActC) (w : World) (hf : ActsIn w A len f) :
    Calls Try.prog 3 #[.slice A len cap] w (AwakePost w) := by
  have HA := Lib.hid (awake_any w)
  have Hf := Lib.hid hf
  clear hf
  go_enter Try.func3, Try.ntmps3
  go_wp2_with fail
  refine HA.out.mono ?_
  rintro e w1 ⟨rfl, hb1⟩
  have h0 : Hid (PutsRel w.heap.size w1.heap.size len w (.slice none 0 0) (.int .i64 0) (w1.alloc (.cells #[.slice none 0 0] 26))) := Lib.hid
    ⟨0, [], Nat.zero_le _, Nat.zero_le _, rfl, Nat.le_refl _, none, none, WriterAt.new w1 _ hb1.size, Row.nil _ _ _, by simp, by simp, hb1.alloc hb1.size _⟩
  have Hs := Lib.hid hb1.size
  clear hb1 HA
  go_wp2_with fail
  go_loopw [4, 5] (PutsRel w.heap.size w1.heap.size len w) (fun _ i _ => (len + 1 - intOf i).toNat)
  case atStart => exact h0.out
  case round =>
    clear h0
    obtain ⟨k, l, hk, hk100, rfl, hl, g, gw, hw, hr, h1, h2, hbw⟩ := hrel
    by_cases hlt : k < len
    · by_cases h100 : k < 100
      · obtain ⟨b, off, rfl, hb, hfk⟩ := Hf.out (by omega)
        have Hfk := Lib.hid hfk
        clear hfk
        have hok := (Hfk.out k hlt).below hb (hbw.mono (Nat.le_refl _))
        obtain ⟨a0, a1, a2, a3, a4, a5, a6, a7, a8, a9, a10⟩ := hok
        have HR : Hid (∀ (v : Value) (wz : World) (l2 : List UInt8), l2.length ≤ 256 → PutsIn w.heap.size w1.heap.size w wz v (l ++ l2) → PutsRel w.heap.size w1.heap.size len w v (.int .i64 ((k : Int) + 1)) wz) := Lib.hid fun v wz l2 h3 h4 =>
          ⟨k + 1, l ++ l2, by omega, by omega, by go_num, by rw [List.length_append]; omega, h4⟩
        have HB := Lib.hid (Nat.le_trans Hs.out (Nat.le_of_lt hw.lt))
        have Hl := Lib.hid (show l.length ≤ 25600 by omega)
        generalize hx : f k = x at *
        obtain ⟨kd, sz, num, DA, dm, dc, dat⟩ := x
        simp only at a0 a1 a2 a3 a4 a5 a6 a7 a8 a9 a10
        have Hda := Lib.hid a7
        have Hdl := Lib.hid a4
        have Hw := Lib.hid hw
        have Hr := Lib.hid hr
        have H1 := Lib.hid h1
        have H2 := Lib.hid h2
        have Hbw := Lib.hid hbw
        have Hok : Hid (∀ W, Below w.heap.size w W → ActOk W b (off + k * 4) ⟨kd, sz, num, DA, dm, dc, dat⟩) := Lib.hid fun W hW => by
          rw [← hx]
          exact (Hfk.out k hlt).below hb hW
        have q100 : decide ((k : Int) < 100) = true := by rw [decide_eq_true_iff]; omega
        have hbw2 : b < wr.heap.size := Nat.lt_of_lt_of_le hb hbw.size
        clear hw hr h1 h2 hbw a7 a4 hl a8 Hf Hfk hx
        by_cases hkind : kd = 1
        · subst hkind
          have HL := Lib.hid (Row.lit wr wr.heap.size 5 (Nat.le_refl _))
          have hca := a6
          go_wp2_with (at_builtin
                       refine wpList_append_r rfl (.tmp 26) (.tmp 31) _ rfl wr.heap.size 5 (.int .u8 0) Try.underlying24 infoB rfl _ _ [] rfl HL.out wr.heap.size DA dm dc dat rfl Hdl.out (Hda.out.alloc (Nat.le_refl _) _) (by simp <;> omega) (by simp) ?_
                       intro v2 w2 g2 hr2 hm2 ha2
                       have hb2 : Below wr.heap.size wr w2 := ((Below.refl _ _).alloc (Nat.le_refl _) (.cells #[] 5)).trans (ha2.below (by simp) (fun k e => by injection e with e; omega))
                       have Hr2 := Lib.hid hr2
                       have Hb2 := Lib.hid hb2
                       clear hr2 hm2 ha2 hb2)
          obtain ⟨A2, c2, hv2, hc2, hg2, hby2⟩ := Hr2.out.bytes
          have hn2 : ([] ++ dat).length = dm := by simpa using Hdl.out
          rw [hn2] at hv2 hc2
          subst hv2
          have hHT := text_any w1.heap.size w.heap.size g l A2 dm c2 dat Hdl.out hc2 w2 (by have := Hl.out; omega) (Nat.le_trans HB.out Hb2.out.size) (Hw.out.apart (F := fun _ => False) (Apart.of_below' Hb2.out) (fun h => h) (fun _ _ h => h)) (by simpa using hby2) (by
            intro _ q hq
            have h7 := (Hr2.out.lt q (hg2.symm.trans hq)).1
            rintro (h8 | h8)
            · have := Hw.out.lt; omega
            · have := (Hw.out.glt _ h8).2; omega)
          have HT := Lib.hid hHT
          clear hc2 hg2 hby2 hn2 hHT
          go_wp2_with fail
          refine HT.out.mono ?_
          rintro e w3 ⟨g3, rfl, hw3, hm3, ha3⟩
          have hB2 := Nat.le_trans HB.out Hb2.out.size
          have hbw2' := Hbw.out.trans (Hb2.out.mono HB.out)
          obtain ⟨hr3, h23, hb3⟩ := puts_mid (W := w) hB2 (Hw.out.apart (F := fun _ => False) (Apart.of_below' Hb2.out) (fun h => h) (fun _ _ h => h)) (Hr.out.apart (F := fun _ => False) (Apart.of_below' Hb2.out) (fun _ _ h => h)) H1.out H2.out hbw2' hw3 hm3 ha3
          have hok3 := Hok.out w3 hb3
          have k3 := hok3.text
          have HT3 := Lib.hid (reftext_any DA dm dc dat Hdl.out hok3.cap_ w3 hok3.bytes)
          have hB3 := Nat.le_trans hB2 ha3.size
          have HE : Hid (∀ w4 g4 v4, Row w4 w3.heap.size 5 g4 v4 (WireP.text dat) → Below w3.heap.size w3 w4 → ∀ v5 w5 g5, Row w5 w.heap.size 5 g5 v5 (l ++ WireP.text dat) → Moved w4 gw g5 → Apart (fun k => gw = some k) w4 w5 → PutsRel w.heap.size w1.heap.size len w v5 (.int .i64 ((k : Int) + 1)) w5) := Lib.hid fun w4 g4 v4 hr4 hb4 v5 w5 g5 hr5 hm5 ha5 =>
            HR.out _ _ _ (WireP.text_length dat) (puts_end hB3 hw3 hr3 H1.out h23 hb3 hb4 hr5 hm5 ha5)
          have Hr3 := Lib.hid hr3
          have HB3 := Lib.hid hB3
          clear hw3 hm3 ha3 hr3 h23 hb3 hok3 hbw2' hB2 hB3 HT Hw Hr H1 H2 Hbw HR HL Hr2 Hb2 Hda Hok
          go_wp2_with fail
          refine HT3.out.mono ?_
          rintro e w4 ⟨v4, g4, rfl, hr4, hb4⟩
          have HE4 := Lib.hid (HE.out w4 g4 v4 hr4 hb4)
          obtain ⟨A4, c4, hv4, hc4, hg4, hby4⟩ := hr4.bytes
          generalize hn4 : (WireP.text dat).length = n4 at *
          subst hv4
          have hle4 : n4 ≤ 256 := by rw [← hn4]; exact WireP.text_length dat
          have Hn4 := Lib.hid hn4
          have Hby4 := Lib.hid hby4
          have Hr4 := Lib.hid (Hr3.out.apart (F := fun _ => False) (Apart.of_below' hb4) (fun _ _ h => h))
          have HB4 := Lib.hid (Nat.le_trans HB3.out hb4.size)
          clear hr4 hb4 hc4 hg4 hby4 hn4 HE Hr3 HT3 k3 HB3
          go_wp2_with (at_builtin
                       refine wpList_append_r rfl (.tmp 34) (.tmp 40) _ rfl w.heap.size 5 (.int .u8 0) Try.underlying24 infoB rfl _ _ _ rfl Hr4.out w4.heap.size A4 n4 c4 _ rfl Hn4.out Hby4.out (by have := Hl.out; omega) HB4.out ?_
                       intro v5 w5 g5 hr5 hm5 ha5
                       have HF := Lib.hid (HE4.out v5 w5 g5 hr5 hm5 ha5)
                       clear hr5 hm5 ha5)
          go_roundw
          case rel => exact HF.out
          case measure => simp [intOf]; omega
        · have q : (kd == 1) = false := beq_eq_false_iff_ne.2 hkind
          clear hkind
          go_wp2_with fail
          go_still_tail 10, (by kernel_rfl)
          rw [drewN_one]
          have HP := Lib.hid (put_any w1.heap.size w.heap.size g l num sz a10 (wr.drewN 1) (by have := Hl.out; omega) HB.out (Hw.out.drewN 1))
          go_wp2_with fail
          refine HP.out.mono ?_
          rintro e w3 ⟨g3, rfl, hw3, hm3, ha3⟩
          obtain ⟨hr3, h23, hb3⟩ := puts_mid (W := w) (show w.heap.size ≤ (wr.drewN 1).heap.size from HB.out) (Hw.out.drewN 1) (Hr.out.drewN 1) H1.out H2.out (below_drewN Hbw.out 1) hw3 hm3 ha3
          have hok3 := Hok.out w3 hb3
          have k31 := hok3.size
          have k32 := hok3.num
          have hB3 : w.heap.size ≤ w3.heap.size := Nat.le_trans HB.out ha3.size
          have hb3w : b < w3.heap.size := Nat.lt_of_lt_of_le hbw2 ha3.size
          by_cases hsz : 1 ≤ sz
          · have qs : decide (1 ≤ sz) = true := decide_eq_true hsz
            have HT3 := Lib.hid (fun W => refnum_any num sz a10 hsz a9.2 W)
            have HE : Hid (∀ w4 g4 v4, Row w4 w3.heap.size 5 g4 v4 (WireP.put num sz) → Below w3.heap.size w3 w4 → ∀ v5 w5 g5, Row w5 w.heap.size 5 g5 v5 (l ++ WireP.put num sz) → Moved w4 gw g5 → Apart (fun k => gw = some k) w4 w5 → PutsRel w.heap.size w1.heap.size len w v5 (.int .i64 ((k : Int) + 1)) w5) := Lib.hid fun w4 g4 v4 hr4 hb4 v5 w5 g5 hr5 hm5 ha5 =>
              HR.out _ _ _ (by have := WireP.put_length num sz; omega) (puts_end hB3 hw3 hr3 H1.out h23 hb3 hb4 hr5 hm5 ha5)
            have Hr3 := Lib.hid hr3
            have HB3 := Lib.hid hB3
            have a9' := a9
            clear hw3 hm3 ha3 hr3 h23 hb3 hok3 hB3 HP Hw Hr H1 H2 Hbw HR Hda Hok a9 a0 a1 a2 a3
            go_wp2_with fail
            go_region_law (first
              | (refine step_append_r rfl (.tmp 59) (.tmp 70) _ rfl w.heap.size 5 (.int .u8 0) Try.underlying24 infoB rfl _ _ _ rfl Hr4.out w4.heap.size A4 n4 c4 _ rfl Hn4.out Hby4.out (by have := Hl.out; omega) HB4.out ?_
                 intro v5 w5 g5 hr5 hm5 ha5
                 have HF := Lib.hid (HE4.out v5 w5 g5 hr5 hm5 ha5)
                 clear hr5 hm5 ha5)
              | (go_simp
                 refine (HT3.out _).mono ?_
                 rintro e w4 ⟨v4, g4, rfl, hr4, hb4⟩
                 replace hb4 : Below w3.heap.size w3 w4 := ⟨hb4.os, hb4.tape, hb4.output, hb4.size, hb4.block⟩
                 have HE4 := Lib.hid (HE.out w4 g4 v4 hr4 hb4)
                 obtain ⟨A4, c4, hv4, hc4, hg4, hby4⟩ := hr4.bytes
                 have hle4 := WireP.put_length num sz
                 generalize hn4 : (WireP.put num sz).length = n4 at *
                 subst hv4
                 have Hn4 := Lib.hid hn4
                 have Hby4 := Lib.hid hby4
                 have Hr4 := Lib.hid (Hr3.out.apart (F := fun _ => False) (Apart.of_below' hb4) (fun _ _ h => h))
                 have HB4 := Lib.hid (Nat.le_trans HB3.out hb4.size)
                 clear hr4 hb4 hc4 hg4 hby4 hn4
                 go_wp2_with fail))
            all_goals
              go_wp2_with fail
              go_roundw
              case rel => exact HF.out
              case measure => simp [intOf]; omega
          · have qs : decide (1 ≤ sz) = false := decide_eq_false hsz
            have HF : Hid (PutsRel w.heap.size w1.heap.size len w u4 (.int .i64 ((k : Int) + 1)) w3) := Lib.hid (by
              refine HR.out _ _ [] (by simp) ?_
              rw [WireP.put_other num sz (by omega)] at hw3
              rw [List.append_nil] at hw3 ⊢
              exact ⟨g3, gw, hw3, hr3, H1.out, h23, hb3⟩)
            clear hw3 hm3 ha3 hr3 h23 hb3 hok3 hB3 HP Hw Hr H1 H2 Hbw HR Hda Hok
            go_wp2_with fail
            go_roundw
            case rel => exact HF.out
            case measure => simp [intOf]; omega
      · have q2 : decide ((k : Int) < 100) = false := by rw [decide_eq_false_iff_not]; omega
        have hl2 : l.length ≤ 25600 := by omega
        clear h100 hk hk100 Hf
        obtain ⟨wo, hwo⟩ : ∃ wo : World, wo = wr := ⟨_, rfl⟩
        subst hwo
        have HB := Lib.hid (Nat.le_trans Hs.out (Nat.le_of_lt hw.lt))
        have HY := Lib.hid (bytes_any w1.heap.size w.heap.size g l wo (by omega) hw)
        obtain ⟨Aw, cw, rfl, hcw, hgw, hbw2⟩ := hr.bytes
        have Hbw := Lib.hid hbw2
        have Hw := Lib.hid hw
        have Hb := Lib.hid hbw
        clear hw hr hbw hbw2 h1 h2 hl hcw hgw
        generalize hn : l.length = n at *
        go_wp2_with fail
        refine HY.out.mono ?_
        rintro e w3 ⟨v3, g3, rfl, hr3, hb3⟩
        obtain ⟨A3, c3, hv3, hc3, hg3, hby3⟩ := hr3.bytes
        rw [hn] at hv3 hc3
        subst hv3
        have hAt := TailIn.start hr3 hn
        have Hst : Hid (CmpRel wo.heap.size A3 l w3 (.int .i64 0) w3) := Lib.hid ⟨0, Nat.zero_le _, rfl, hAt, Below.refl _ _⟩
        have Hb3 := Lib.hid hb3
        have Hn := Lib.hid hn
        clear hr3 hb3 hc3 hg3 hby3 hAt hn
        go_wp2_with fail
        go_loopw [7, 75] (fun _ i wr2 => CmpRel wo.heap.size A3 l w3 i wr2) (fun _ i _ => (n + 1 - intOf i).toNat)
        case atStart => exact Hst.out
        case round =>
          clear Hst
          obtain ⟨j, hj, rfl, ht, hb4⟩ := hrel
          rw [Hn.out] at hj
          have Hbo := Lib.hid (Hb3.out.trans hb4)
          by_cases hjn : j < n
          · obtain ⟨q, rfl, hq, htc⟩ := ht (by rw [Hn.out]; omega)
            have hjl : j < l.length := by rw [Hn.out]; exact hjn
            obtain ⟨kc, kf⟩ := htc j l[j] (Nat.le_refl _) (List.getElem?_eq_getElem hjl)
            obtain ⟨bo, oo, rfl, hbo, kw⟩ := (Hbw.out.below Hbo.out (Nat.le_refl _)).at_ hjl
            have HS : Hid (∀ u, CmpRel wo.heap.size (some ⟨q, 0, none⟩) l w3 (.int .i64 ((j : Int) + 1)) ((wr.setCell ⟨q, j, none⟩ u).drew)) := Lib.hid fun u =>
              ⟨j + 1, by omega, by go_num, ht.step u, (hb4.setCell (p := ⟨q, j, none⟩) hq u).drew⟩
            have hc2 : l[j].toNat < 256 := l[j].toNat_lt
            clear ht htc hb4 hbo
            generalize l[j].toNat = c at *
            go_wp2_with fail
            go_region
            go_wp2_with fail
            go_roundw
            case rel => exact HS.out _
            case measure => simp [intOf]; omega
          · obtain rfl : j = n := by omega
            have HY2 := Lib.hid (bytes_any w1.heap.size w.heap.size g l wr.drew (by rw [Hn.out]; omega) (Hw.out.apart (F := fun _ => False) (Apart.of_below' Hbo.out.drew) (fun h => h) (fun _ _ h => h)))
            have hst := fun W (h : Below wo.heap.size wo W) => conv_any (w := W) (cap := cw) Hn.out ((Hbw.out.below h (Nat.le_refl _)).more h.size)
            have ks1 := hst wr.drew Hbo.out.drew
            have HF : Hid (∀ W, Below wo.heap.size wo W → AwakePost w (.returned (.bool true)) W) := Lib.hid fun W h => ⟨rfl, Hb.out.trans (h.mono HB.out)⟩
            have Hst := Lib.hid hst
            clear ht hb4 hst
            simp only [strV] at ks1
            go_wp2_with fail
            go_region_with (first
              | (go_at_call 13
                 refine HY2.out.mono ?_
                 rintro e w6 ⟨v6, g6, rfl, hr6, hb6⟩
                 have hbo6 : Below wo.heap.size wo w6 := Hbo.out.drew.trans (hb6.mono (by have := Hbo.out.size; simpa using this))
                 have ks2 := Hst.out w6 hbo6
                 obtain ⟨A6, c6, hv6, -, -, hby6⟩ := hr6.bytes
                 rw [Hn.out] at hv6
                 subst hv6
                 have ks3 := conv_any (cap := c6) Hn.out hby6
                 have HFF := Lib.hid (HF.out w6 hbo6)
                 simp only [strV] at ks2 ks3
                 clear hr6 hb6 hbo6 hby6))
            all_goals
              go_wp2_with fail
              go_ret
              exact HFF.out
    · have hl2 : l.length ≤ 25600 := by omega
      clear hk Hf
      obtain ⟨wo, hwo⟩ : ∃ wo : World, wo = wr := ⟨_, rfl⟩
      subst hwo
      have HB := Lib.hid (Nat.le_trans Hs.out (Nat.le_of_lt hw.lt))
      have HY := Lib.hid (bytes_any w1.heap.size w.heap.size g l wo (by omega) hw)
      obtain ⟨Aw, cw, rfl, hcw, hgw, hbw2⟩ := hr.bytes
      have Hbw := Lib.hid hbw2
      have Hw := Lib.hid hw
      have Hb := Lib.hid hbw
      clear hw hr hbw hbw2 h1 h2 hl hcw hgw
      generalize hn : l.length = n at *
      go_wp2_with fail
      refine HY.out.mono ?_
      rintro e w3 ⟨v3, g3, rfl, hr3, hb3⟩
      obtain ⟨A3, c3, hv3, hc3, hg3, hby3⟩ := hr3.bytes
      rw [hn] at hv3 hc3
      subst hv3
      have hAt := TailIn.start hr3 hn
      have Hst : Hid (CmpRel wo.heap.size A3 l w3 (.int .i64 0) w3) := Lib.hid ⟨0, Nat.zero_le _, rfl, hAt, Below.refl _ _⟩
      have Hb3 := Lib.hid hb3
      have Hn := Lib.hid hn
      clear hr3 hb3 hc3 hg3 hby3 hAt hn
      go_wp2_with fail
      go_loopw [7, 75] (fun _ i wr2 => CmpRel wo.heap.size A3 l w3 i wr2) (fun _ i _ => (n + 1 - intOf i).toNat)
      case atStart => exact Hst.out
      case round =>
        clear Hst
        obtain ⟨j, hj, rfl, ht, hb4⟩ := hrel
        rw [Hn.out] at hj
        have Hbo := Lib.hid (Hb3.out.trans hb4)
        by_cases hjn : j < n
        · obtain ⟨q, rfl, hq, htc⟩ := ht (by rw [Hn.out]; omega)
          have hjl : j < l.length := by rw [Hn.out]; exact hjn
          obtain ⟨kc, kf⟩ := htc j l[j] (Nat.le_refl _) (List.getElem?_eq_getElem hjl)
          obtain ⟨bo, oo, rfl, hbo, kw⟩ := (Hbw.out.below Hbo.out (Nat.le_refl _)).at_ hjl
          have HS : Hid (∀ u, CmpRel wo.heap.size (some ⟨q, 0, none⟩) l w3 (.int .i64 ((j : Int) + 1)) ((wr.setCell ⟨q, j, none⟩ u).drew)) := Lib.hid fun u =>
            ⟨j + 1, by omega, by go_num, ht.step u, (hb4.setCell (p := ⟨q, j, none⟩) hq u).drew⟩
          have hc2 : l[j].toNat < 256 := l[j].toNat_lt
          clear ht htc hb4 hbo
          generalize l[j].toNat = c at *
          go_wp2_with fail
          go_region
          go_wp2_with fail
          go_roundw
          case rel => exact HS.out _
          case measure => simp [intOf]; omega
        · obtain rfl : j = n := by omega
          have HY2 := Lib.hid (bytes_any w1.heap.size w.heap.size g l wr.drew (by rw [Hn.out]; omega) (Hw.out.apart (F := fun _ => False) (Apart.of_below' Hbo.out.drew) (fun h => h) (fun _ _ h => h)))
          have hst := fun W (h : Below wo.heap.size wo W) => conv_any (w := W) (cap := cw) Hn.out ((Hbw.out.below h (Nat.le_refl _)).more h.size)
          have ks1 := hst wr.drew Hbo.out.drew
          have HF : Hid (∀ W, Below wo.heap.size wo W → AwakePost w (.returned (.bool true)) W) := Lib.hid fun W h => ⟨rfl, Hb.out.trans (h.mono HB.out)⟩
          have Hst := Lib.hid hst
          clear ht hb4 hst
          simp only [strV] at ks1
          go_wp2_with fail
          go_region_with (first
            | (go_at_call 13
               refine HY2.out.mono ?_
               rintro e w6 ⟨v6, g6, rfl, hr6, hb6⟩
               have hbo6 : Below wo.heap.size wo w6 := Hbo.out.drew.trans (hb6.mono (by have := Hbo.out.size; simpa using this))
               have ks2 := Hst.out w6 hbo6
               obtain ⟨A6, c6, hv6, -, -, hby6⟩ := hr6.bytes
               rw [Hn.out] at hv6
               subst hv6
               have ks3 := conv_any (cap := c6) Hn.out hby6
               have HFF := Lib.hid (HF.out w6 hbo6)
               simp only [strV] at ks2 ks3
               clear hr6 hb6 hbo6 hby6))
          all_goals
            go_wp2_with fail
            go_ret
            exact HFF.out
end Go.Proofs.Ytnjkfkfanjkajaa
