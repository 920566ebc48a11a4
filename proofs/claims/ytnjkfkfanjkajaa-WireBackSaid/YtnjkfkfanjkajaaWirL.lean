/- WireBack: the walk of the law at acts in memory. Conditions: where the acts lie. -/
import Derived.Test.YtnjkfkfanjkajaaWirH
import Derived.Test.YtnjkfkfanjkajaaWirQ
import Derived.StillTailTactics
import Derived.Test.YtnjkfkfanjkajaaHeld
namespace Go.Proofs.Ytnjkfkfanjkajaa
open Go.RowKit

def BackPut (B bw len : Nat) (f : Nat → ActC) (W : World) (i : Value) (wr : World) : Prop :=
  ∃ k g, k ≤ len ∧ k ≤ 100 ∧ i = .int .i64 (k : Nat) ∧ WriterAt wr B bw g (enc f k) ∧ Below B W wr

theorem drewN_one (w : World) : ({ heap := w.heap, tape := w.tape, drawn := w.drawn + 1, os := w.os, output := w.output } : World) = w.drewN 1 := rfl
theorem WriterAt.drewN {w : World} {B bw : Nat} {g : Option Nat} {l : List UInt8} (h : WriterAt w B bw g l) (n : Nat) : WriterAt (w.drewN n) B bw g l := h

theorem back_put {B bw len k : Nat} {g : Option Nat} {f : Nat → ActC} {W wr : World} {x : ActC} {more : List UInt8} (hk : k < len) (h100 : k < 100) (hx : f k = x) (hm : actB x = more) (hw : WriterAt wr B bw g (enc f k)) (hB : B ≤ wr.heap.size) (hb : Below B W wr) {e : Ending} {w1 : World} (hp : PutPost B bw g (enc f k) more wr e w1) :
    e = .returned (.tuple #[]) ∧ BackPut B bw len f W (.int .i64 ((k : Int) + 1)) w1 := by
  obtain ⟨g1, h1, h2, h3, h4⟩ := hp
  refine ⟨h1, k + 1, g1, by omega, by omega, by go_num, ?_, hb.trans (h4.below hB ?_)⟩
  · simp only [enc]
    rw [hx, hm]
    exact h2
  · rintro q (rfl | e)
    · exact hw.1
    · exact (hw.glt q e).1

def BackRead (B br m : Nat) (A' : Option Addr) (n' cap' : Nat) (f : Nat → ActC) (W : World) (i : Value) (wr : World) : Prop :=
  ∃ j, j ≤ m ∧ i = .int .i64 (j : Nat) ∧ ReaderAt wr br A' n' cap' (enc f m) (enc f j).length false ∧ Below B W wr

theorem back_next {B br m j n' cap' : Nat} {A' : Option Addr} {f : Nat → ActC} {W wr w6 : World} {x : ActC} {more : List UInt8} {a : Nat} (hj : j < m) (hx : f j = x) (hm : actB x = more) (hbr : B ≤ br) (hB : B ≤ wr.heap.size) (hb : Below B W wr)
    (hr : ReaderAt w6 br A' n' cap' (enc f m) a false) (ha : a = (enc f j).length + more.length) (hap : Apart (RF br) wr w6) : BackRead B br m A' n' cap' f W (.int .i64 ((j : Int) + 1)) w6 := by
  refine ⟨j + 1, by omega, by go_num, ?_, hb.trans (hap.below hB (fun k e => by have e : k = br := e; omega))⟩
  rw [enc_next, hx, hm, ← ha]
  exact hr

theorem and_mask (n k : Nat) (hn : n < 4294967296) (hk : k ≤ 32) : bits .and .u32 (n : Int) ((2 ^ k - 1 : Nat) : Int) = ((n % 2 ^ k : Nat) : Int) := by
  have h2 : 2 ^ k ≤ 2 ^ 32 := Nat.pow_le_pow_right (by omega) hk
  have h3 : 0 < 2 ^ k := Nat.pow_pos (by omega)
  rw [u32_and_nat n (2 ^ k - 1) hn (by omega), Nat.and_two_pow_sub_one_eq_mod]

theorem heldText {B b o : Nat} {v : Value} {W wa wb : World} (h : wa.cell? ⟨b, o, none⟩ = some v ∧ Below B W wa) (hb : b < B) (ha : Below B wa wb) : wb.cell? ⟨b, o, none⟩ = some v ∧ Below B W wb :=
  ⟨(ha.cell (p := ⟨b, o, none⟩) hb).trans h.1, h.2.trans ha⟩

set_option maxRecDepth 100000 in
set_option maxHeartbeats 2000000 in
theorem back_law (A : Option Addr) (len cap : Nat) (f : Nat → ActC) (w : World) (hf : ActsIn w A len f) :
    Calls Try.prog 5 #[.slice A len cap] w (AwakePost w) := by
  have HA := Lib.hid (awake_any w)
  have Hf := Lib.hid hf
  clear hf
  go_enter Try.func5, Try.ntmps5
  go_wp2_with fail
  refine HA.out.mono ?_
  rintro e w1 ⟨rfl, hb1⟩
  have h0 : Hid (BackPut w.heap.size w1.heap.size len f w (.int .i64 0) (w1.alloc (.cells #[.slice none 0 0] 26))) := Lib.hid
    ⟨0, none, Nat.zero_le _, Nat.zero_le _, rfl, WriterAt.new w1 _ hb1.size, hb1.alloc hb1.size _⟩
  have Hs := Lib.hid hb1.size
  clear hb1 HA
  go_wp2_with fail
  go_loopw [4] (fun i wr => BackPut w.heap.size w1.heap.size len f w i wr) (fun i _ => (len + 1 - intOf i).toNat)
  case atStart => exact h0.out
  case round =>
    clear h0
    obtain ⟨k, g, hk, hk100, rfl, hw, hbw⟩ := hrel
    by_cases hlt : k < len
    · by_cases h100 : k < 100
      · have q100 : decide ((k : Int) < 100) = true := by rw [decide_eq_true_iff]; omega
        obtain ⟨b, off, rfl, hb, hfk⟩ := Hf.out (by omega)
        have hby0 := (hfk k hlt).bytes
        obtain ⟨a0, a1, a2, a3, a4, a5, a6, a7, a8, a9, a10⟩ := (hfk k hlt).below hb (hbw.mono (Nat.le_refl _))
        have hbw2 : b < wr.heap.size := Nat.lt_of_lt_of_le hb hbw.size
        have HB := Lib.hid (Nat.le_trans Hs.out (Nat.le_of_lt hw.lt))
        have hel := enc_length f k
        generalize hx : f k = x at *
        obtain ⟨kd, sz, num, DA, dm, dc, dat⟩ := x
        simp only at hby0 a0 a1 a2 a3 a4 a5 a6 a7 a8 a9 a10
        by_cases hkind : kd = 1
        · subst hkind
          have hda : 0 < dat.length → ∀ q, blockOf DA = some q → ¬ WF w1.heap.size g q := fun hp q hq => by
            obtain ⟨b', o', rfl, hb', -⟩ := hby0 hp
            obtain rfl : b' = q := by simpa [blockOf] using hq
            rintro (h8 | h8)
            · have := Hs.out; omega
            · have := (hw.glt _ h8).1; omega
          have HP := Lib.hid ((text_any w1.heap.size w.heap.size g (enc f k) DA dm dc dat a4 a5 wr (by omega) HB.out hw a7 hda).mono (R := fun e w' => _) fun e w' hp => back_put (more := WireP.text dat) hlt h100 hx (by simp [actB]) hw HB.out hbw hp)
          clear hw hbw hfk a7 hx Hf hda
          go_wp2_with fail
          refine HP.out.mono ?_
          rintro e w3 ⟨rfl, h3⟩
          go_wp2_with fail
          go_roundw
          case rel => exact h3
          case measure => simp [intOf]; omega
        · have q : (kd == 1) = false := beq_eq_false_iff_ne.2 hkind
          have qr := size_rem sz
          have hm4 : (sz % 4).toNat ≤ 3 := by omega
          have HP := Lib.hid ((put_any w1.heap.size w.heap.size g (enc f k) num (1 + (((sz % 4).toNat : Nat) : Int)) a10 (wr.drewN 1) (by omega) HB.out (hw.drewN 1)).mono (R := fun e w' => _) fun e w' hp => back_put (more := WireP.num num (size4 sz)) hlt h100 hx (by simp [actB, hkind]) (hw.drewN 1) (show w.heap.size ≤ (wr.drewN 1).heap.size from HB.out) (below_drewN hbw 1) (by
            have e : (1 + (((sz % 4).toNat : Nat) : Int)) = ((size4 sz : Nat) : Int) := by unfold size4; omega
            rw [e, put_num num (size4 sz) (size4_in sz)] at hp
            exact hp))
          generalize (sz % 4).toNat = m4 at *
          clear hkind hw hbw hfk a7 hx Hf
          go_wp2_with fail
          go_still_tail 14, (by kernel_rfl)
          rw [drewN_one]
          go_wp2_with fail
          refine HP.out.mono ?_
          rintro e w3 ⟨rfl, h3⟩
          go_wp2_with fail
          go_roundw
          case rel => exact h3
          case measure => simp [intOf]; omega
      · obtain ⟨wo, hwo⟩ : ∃ wo : World, wo = wr := ⟨_, rfl⟩
        subst hwo
        have hel := enc_length f k
        have HY := Lib.hid (bytes_any w1.heap.size w.heap.size g (enc f k) wo (by omega) hw)
        have HB := Lib.hid (Nat.le_trans Hs.out (Nat.le_of_lt hw.lt))
        have Hbw := Lib.hid hbw
        clear hw hbw
        go_wp2_with fail
        refine HY.out.mono ?_
        rintro e w3 ⟨v3, g3, rfl, hr3, hb3⟩
        obtain ⟨A3, c3, hv3, hc3, hg3, hby3⟩ := hr3.bytes
        generalize hn3 : (enc f k).length = n3 at *
        subst hv3
        have hn3' : n3 ≤ 25600 := by omega
        have HRd := Lib.hid (read_new A3 n3 c3 (enc f k) hn3 (by omega) w3 hby3)
        have Hb3 := Lib.hid (Hbw.out.trans (hb3.mono HB.out))
        have HB3 := Lib.hid (Nat.le_trans HB.out hb3.size)
        have Hn3 := Lib.hid hn3
        clear hr3 hb3 hc3 hg3 hby3 HY hn3 hel
        go_wp2_with fail
        refine HRd.out.mono ?_
        rintro e w4 ⟨br, A4, cap4, rfl, hbr, -, hr4, hb4⟩
        rw [Hn3.out] at hr4
        have hbr1 := Lib.hid (Nat.le_trans HB3.out hbr)
        have Hst : Hid (BackRead w.heap.size br k A4 n3 cap4 f w (.int .i64 0) w4) := Lib.hid ⟨0, Nat.zero_le _, rfl, hr4, Hb3.out.trans (hb4.mono HB3.out)⟩
        clear hbr hr4 hb4 HRd
        go_wp2_with fail
        go_loopw [6] (fun i wr => BackRead w.heap.size br k A4 n3 cap4 f w i wr) (fun i _ => (k + 1 - intOf i).toNat)
        case atStart => exact Hst.out
        case round =>
          clear Hst
          obtain ⟨j, hj, rfl, hrd, hbj⟩ := hrel
          by_cases hjm : j < k
          · have hjl : j < len := by omega
            have q100j : decide ((j : Int) < 100) = true := by rw [decide_eq_true_iff]; omega
            obtain ⟨b, off, rfl, hb, hfk⟩ := Hf.out (by omega)
            have hby0 := (hfk j hjl).bytes
            obtain ⟨a0, a1, a2, a3, a4, a5, a6, a7, a8, a9, a10⟩ := (hfk j hjl).below hb hbj
            have hbw2 : b < wr.heap.size := Nat.lt_of_lt_of_le hb hbj.size
            have HBr := Lib.hid (Nat.le_trans hbr1.out (Nat.le_of_lt (lt_of_block hrd.block)))
            obtain ⟨r, hr⟩ := enc_split f k j hjm
            generalize hx : f j = x at *
            obtain ⟨kd, sz, num, DA, dm, dc, dat⟩ := x
            simp only at hby0 a0 a1 a2 a3 a4 a5 a6 a7 a8 a9 a10
            have hS : wr.cell? ⟨b, off + j * 4 + 3, none⟩ = some (.slice DA dm dc) ∧ Below w.heap.size w wr := ⟨a3, hbj⟩
            by_cases hkind : kd = 1
            · subst hkind
              have hac : actB (⟨1, sz, num, DA, dm, dc, dat⟩ : ActC) = WireP.text dat := by simp [actB]
              rw [hac] at hr
              have HT := Lib.hid (fun W (hW : ReaderAt W br A4 n3 cap4 (enc f k) (enc f j).length false) => tell_any br A4 n3 cap4 (enc f k) (enc f j).length false W hW)
              have ht := tell_at (enc f j) r dat
              rw [← hr] at ht
              rw [ht] at HT
              have HN : Hid (∀ W w6, Below w.heap.size w W → w.heap.size ≤ W.heap.size → ReaderAt w6 br A4 n3 cap4 (enc f k) ((enc f j).length + (WireP.text dat).length) false → Apart (RF br) W w6 → BackRead w.heap.size br k A4 n3 cap4 f w (.int .i64 ((j : Int) + 1)) w6) := Lib.hid fun W w6 h1 h2 h3 h4 => back_next hjm hx hac hbr1.out h2 h1 h3 rfl h4
              have Hcv := Lib.hid (fun W (hW : Below w.heap.size w W) (q : Nat) (hq : (dat.take 255).length = q) => conv_any (w := W) (A := DA) (n := q) (cap := dc) (l := dat.take 255) hq ((((hby0.below hW (Nat.le_refl _)).more hW.size).take 255)))
              have Hrd := Lib.hid hrd
              have Hbj := Lib.hid hbj
              clear hby0 hfk hx hac hr ht hrd hbj a7 Hf a1 a2 a10 a9 a8
              by_cases h255 : (dm : Int) ≤ 255
              · have hsl := fun W => run_slice_to (P := Try.prog) W 24 5 Try.underlying24 (fun w => by kernel_rfl) DA dm dc ((dm : Nat) : Int) (by omega) (by omega)
                simp only [Int.toNat_natCast] at hsl
                have hmin : (if (255 : Int) < (dm : Int) then (255 : Int) else (dm : Int)) = (dm : Int) := if_neg (by omega)
                have hql : (dat.take 255).length = dm := by rw [List.length_take]; omega
                have hcv := fun W hW => Hcv.out W hW dm hql
                have Hql := Lib.hid hql
                clear hql a4
                simp only [strV] at hcv
                go_wp2_with fail
                have hSd : wr.drew.cell? ⟨b, off + j * 4 + 3, none⟩ = some (.slice DA dm dc) ∧ Below w.heap.size w wr.drew := ⟨a3, Hbj.out.drew⟩
                refine wp_region_held_drew (S := fun W => W.cell? ⟨b, off + j * 4 + 3, none⟩ = some (.slice DA dm dc) ∧ Below w.heap.size w W) (by kernel_rfl) hSd (fun _ => ?_)
                refine wpAnyH_take (i := 0) (oi := ?oo1) (v := ?vv1) ?ii1 (by kernel_rfl) ?ff1 (by kernel_rfl) ?qq1 (Or.inl ⟨?ww1, ?yy1⟩) hSd ?rr1
                case ii1 => simp only [List.getElem?_toArray, List.getElem?_cons_zero]; rfl
                case ff1 => kernel_rfl
                case qq1 => exact fun _ _ _ h => h
                case ww1 => rfl
                case yy1 => intro W hW; go_simp <;> with_reducible rfl
                simp only [Act.put, List.setIfInBounds_toArray, List.set_cons_zero, List.set_cons_succ]
                refine wpAnyH_take (i := 3) (oi := ?oo2) (v := ?vv2) ?ii2 (by kernel_rfl) ?ff2 (by kernel_rfl) ?qq2 (Or.inl ⟨?ww2, ?yy2⟩) hSd ?rr2
                case ii2 => simp only [List.getElem?_toArray, List.getElem?_cons_succ, List.getElem?_cons_zero]; rfl
                case ff2 => kernel_rfl
                case qq2 => exact fun _ _ _ h => h
                case ww2 => rfl
                case yy2 => intro W hW; go_simp <;> with_reducible rfl
                simp only [Act.put, List.setIfInBounds_toArray, List.set_cons_zero, List.set_cons_succ]
                refine wpAnyH_take (i := 4) (oi := ?oo3) (v := ?vv3) ?ii3 (by kernel_rfl) ?ff3 (by kernel_rfl) ?qq3 (Or.inl ⟨?ww3, ?yy3⟩) hSd ?rr3
                case ii3 => simp only [List.getElem?_toArray, List.getElem?_cons_succ, List.getElem?_cons_zero]; rfl
                case ff3 => kernel_rfl
                case qq3 => exact fun _ _ _ h => h
                case ww3 => rfl
                case yy3 => intro W hW; go_simp <;> with_reducible rfl
                simp only [Act.put, List.setIfInBounds_toArray, List.set_cons_zero, List.set_cons_succ]
                refine wpAnyH_take (i := 5) (oi := ?oo4) (v := ?vv4) ?ii4 (by kernel_rfl) ?ff4 (by kernel_rfl) ?qq4 (Or.inl ⟨?ww4, ?yy4⟩) hSd ?rr4
                case ii4 => simp only [List.getElem?_toArray, List.getElem?_cons_succ, List.getElem?_cons_zero]; rfl
                case ff4 => kernel_rfl
                case qq4 => exact fun _ _ _ h => h
                case ww4 => rfl
                case yy4 => intro W hW; go_simp <;> with_reducible rfl
                simp only [Act.put, List.setIfInBounds_toArray, List.set_cons_zero, List.set_cons_succ]
                refine wpAnyH_take (i := 6) (oi := ?oo5) (v := ?vv5) ?ii5 (by kernel_rfl) ?ff5 (by kernel_rfl) ?qq5 (Or.inl ⟨?ww5, ?yy5⟩) hSd ?rr5
                case ii5 => simp only [List.getElem?_toArray, List.getElem?_cons_succ, List.getElem?_cons_zero]; rfl
                case ff5 => kernel_rfl
                case qq5 => exact fun _ _ _ h => h
                case ww5 => rfl
                case yy5 => intro W hW; go_simp <;> with_reducible rfl
                simp only [Act.put, List.setIfInBounds_toArray, List.set_cons_zero, List.set_cons_succ]
                refine wpAnyH_take (i := 7) (oi := ?oo6) (v := ?vv6) ?ii6 (by kernel_rfl) ?ff6 (by kernel_rfl) ?qq6 (Or.inl ⟨?ww6, ?yy6⟩) hSd ?rr6
                case ii6 => simp only [List.getElem?_toArray, List.getElem?_cons_succ, List.getElem?_cons_zero]; rfl
                case ff6 => kernel_rfl
                case qq6 => exact fun _ _ _ h => h
                case ww6 => rfl
                case yy6 => intro W hW; go_simp <;> with_reducible rfl
                simp only [Act.put, List.setIfInBounds_toArray, List.set_cons_zero, List.set_cons_succ]
                refine wpAnyH_take (i := 8) (oi := ?oo7) (v := ?vv7) ?ii7 (by kernel_rfl) ?ff7 (by kernel_rfl) ?qq7 (Or.inl ⟨?ww7, ?yy7⟩) hSd ?rr7
                case ii7 => simp only [List.getElem?_toArray, List.getElem?_cons_succ, List.getElem?_cons_zero]; rfl
                case ff7 => kernel_rfl
                case qq7 => exact fun _ _ _ h => h
                case ww7 => rfl
                case yy7 => intro W hW; go_simp <;> with_reducible rfl
                simp only [Act.put, List.setIfInBounds_toArray, List.set_cons_zero, List.set_cons_succ]
                refine wpAnyH_take (i := 9) (oi := ?oo8) (v := ?vv8) ?ii8 (by kernel_rfl) ?ff8 (by kernel_rfl) ?qq8 (Or.inl ⟨?ww8, ?yy8⟩) hSd ?rr8
                case ii8 => simp only [List.getElem?_toArray, List.getElem?_cons_succ, List.getElem?_cons_zero]; rfl
                case ff8 => kernel_rfl
                case qq8 => exact fun _ _ _ h => h
                case ww8 => rfl
                case yy8 => intro W hW; go_simp <;> with_reducible rfl
                simp only [Act.put, List.setIfInBounds_toArray, List.set_cons_zero, List.set_cons_succ]
                refine wpAnyH_take (i := 10) (oi := ?oo9) (v := ?vv9) ?ii9 (by kernel_rfl) ?ff9 (by kernel_rfl) ?qq9 (Or.inl ⟨?ww9, ?yy9⟩) hSd ?rr9
                case ii9 => simp only [List.getElem?_toArray, List.getElem?_cons_succ, List.getElem?_cons_zero]; rfl
                case ff9 => kernel_rfl
                case qq9 => exact fun _ _ _ h => h
                case ww9 => rfl
                case yy9 => intro W hW; go_simp <;> with_reducible rfl
                simp only [Act.put, List.setIfInBounds_toArray, List.set_cons_zero, List.set_cons_succ]
                refine wpAnyH_take (i := 11) (oi := ?oo10) (v := ?vv10) ?ii10 (by kernel_rfl) ?ff10 (by kernel_rfl) ?qq10 (Or.inl ⟨?ww10, ?yy10⟩) hSd ?rr10
                case ii10 => simp only [List.getElem?_toArray, List.getElem?_cons_succ, List.getElem?_cons_zero]; rfl
                case ff10 => kernel_rfl
                case qq10 => exact fun _ _ _ h => h
                case ww10 => rfl
                case yy10 => intro W hW; go_simp <;> with_reducible rfl
                simp only [Act.put, List.setIfInBounds_toArray, List.set_cons_zero, List.set_cons_succ]
                refine wpAnyH_take (i := 12) (oi := ?oo11) (v := ?vv11) ?ii11 (by kernel_rfl) ?ff11 (by kernel_rfl) ?qq11 (Or.inl ⟨?ww11, ?yy11⟩) hSd ?rr11
                case ii11 => simp only [List.getElem?_toArray, List.getElem?_cons_succ, List.getElem?_cons_zero]; rfl
                case ff11 => kernel_rfl
                case qq11 => exact fun _ _ _ h => h
                case ww11 => rfl
                case yy11 => intro W hW; go_simp <;> with_reducible rfl
                simp only [Act.put, List.setIfInBounds_toArray, List.set_cons_zero, List.set_cons_succ]
                refine wpAnyH_take (i := 13) (oi := ?oo12) (v := ?vv12) ?ii12 (by kernel_rfl) ?ff12 (by kernel_rfl) ?qq12 (Or.inl ⟨?ww12, ?yy12⟩) hSd ?rr12
                case ii12 => simp only [List.getElem?_toArray, List.getElem?_cons_succ, List.getElem?_cons_zero]; rfl
                case ff12 => kernel_rfl
                case qq12 => exact fun _ _ _ h => h
                case ww12 => rfl
                case yy12 => intro W hW; go_simp <;> with_reducible rfl
                simp only [Act.put, List.setIfInBounds_toArray, List.set_cons_zero, List.set_cons_succ]
                refine wpAnyH_take (i := 14) (oi := ?oo13) (v := ?vv13) ?ii13 (by kernel_rfl) ?ff13 (by kernel_rfl) ?qq13 (Or.inl ⟨?ww13, ?yy13⟩) hSd ?rr13
                case ii13 => simp only [List.getElem?_toArray, List.getElem?_cons_succ, List.getElem?_cons_zero]; rfl
                case ff13 => kernel_rfl
                case qq13 => exact fun _ _ _ h => h
                case ww13 => rfl
                case yy13 => intro W hW; go_simp <;> with_reducible rfl
                simp only [Act.put, List.setIfInBounds_toArray, List.set_cons_zero, List.set_cons_succ]
                refine wpAnyH_take (i := 15) (oi := ?oo14) (v := ?vv14) ?ii14 (by kernel_rfl) ?ff14 (by kernel_rfl) ?qq14 (Or.inl ⟨?ww14, ?yy14⟩) hSd ?rr14
                case ii14 => simp only [List.getElem?_toArray, List.getElem?_cons_succ, List.getElem?_cons_zero]; rfl
                case ff14 => kernel_rfl
                case qq14 => exact fun _ _ _ h => h
                case ww14 => rfl
                case yy14 => intro W hW; go_simp <;> with_reducible rfl
                simp only [Act.put, List.setIfInBounds_toArray, List.set_cons_zero, List.set_cons_succ]
                have hcv' := fun W (hW : W.cell? ⟨b, off + j * 4 + 3, none⟩ = some (.slice DA dm dc) ∧ Below w.heap.size w W) => hcv W hW.2
                refine wpAnyH_take (i := 16) (oi := ?oo15) (v := ?vv15) ?ii15 (by kernel_rfl) ?ff15 (by kernel_rfl) ?qq15 (Or.inl ⟨?ww15, ?yy15⟩) hSd ?rr15
                case ii15 => simp only [List.getElem?_toArray, List.getElem?_cons_succ, List.getElem?_cons_zero]; rfl
                case ff15 => kernel_rfl
                case qq15 => exact fun _ _ _ h => h
                case ww15 => rfl
                case yy15 => intro W hW; go_simp <;> with_reducible rfl
                simp only [Act.put, List.setIfInBounds_toArray, List.set_cons_zero, List.set_cons_succ]
                refine wpAnyH_ready (rs := [1]) (by kernel_rfl) (by simp) ?_
                refine AllReadyH.cons (o := ?oo16) ?ii16 (fun K hK => ?_) AllReadyH.nil
                case ii16 => simp only [List.getElem?_toArray, List.getElem?_cons_succ, List.getElem?_cons_zero]; rfl
                go_simp
                refine (HT.out _ Hrd.out.drew).mono ?_
                rintro e w6 ⟨v6, g6, rfl, hr6, h6, ha6⟩
                have hb6 : Below w.heap.size wr w6 := ha6.undrew.below HBr.out (fun q e => by have e : q = br := e; have := hbr1.out; omega)
                have hh := heldText (b := b) (o := off + j * 4 + 3) hS hb hb6
                obtain ⟨A6, c6, hv6, -, -, hby6⟩ := hr6.bytes
                rw [Hql.out] at hv6
                subst hv6
                have ks6 := fun W (hW : Below w6.heap.size w6 W) => conv_any (cap := c6) Hql.out ((hby6.below hW (Nat.le_refl _)).more hW.size)
                have HF := Lib.hid (HN.out wr w6 Hbj.out HBr.out h6 ha6.undrew)
                have h66 := Below.refl w6.heap.size w6
                have Hh := Lib.hid hh
                simp only [strV] at ks6
                clear hr6 h6 ha6 hb6 hby6 hh
                go_wp2_with fail
                refine hK.out _ _ Hh.out (fun _ => ?_)
                clear hK K
                refine wpAnyH_mono (S' := fun W => Below w6.heap.size w6 W) (fun W hW => heldText Hh.out hb (hW.mono (Hh.out.2.size))) _ _ _ _ ?_
                refine wpAnyH_take (i := 2) (oi := ?oo17) (v := ?vv17) ?ii17 (by kernel_rfl) ?ff17 (by kernel_rfl) ?qq17 (Or.inl ⟨?ww17, ?yy17⟩) h66 ?rr17
                case ii17 => simp only [List.getElem?_toArray, List.getElem?_cons_succ, List.getElem?_cons_zero]; rfl
                case ff17 => kernel_rfl
                case qq17 => exact fun _ _ _ h => h
                case ww17 => rfl
                case yy17 => intro W hW; go_simp <;> with_reducible rfl
                simp only [Act.put, List.setIfInBounds_toArray, List.set_cons_zero, List.set_cons_succ]
                refine wpAnyH_take (i := 17) (oi := ?oo18) (v := ?vv18) ?ii18 (by kernel_rfl) ?ff18 (by kernel_rfl) ?qq18 (Or.inl ⟨?ww18, ?yy18⟩) h66 ?rr18
                case ii18 => simp only [List.getElem?_toArray, List.getElem?_cons_succ, List.getElem?_cons_zero]; rfl
                case ff18 => kernel_rfl
                case qq18 => exact fun _ _ _ h => h
                case ww18 => rfl
                case yy18 => intro W hW; go_simp <;> with_reducible rfl
                simp only [Act.put, List.setIfInBounds_toArray, List.set_cons_zero, List.set_cons_succ]
                refine wpAnyH_done (by kernel_rfl) ?_ _
                go_wp2_with fail
                go_roundw
                case rel => exact HF.out
                case measure => simp [intOf]; omega
              · have hsl := fun W => run_slice_to (P := Try.prog) W 24 5 Try.underlying24 (fun w => by kernel_rfl) DA dm dc (255 : Int) (by omega) (by omega)
                have h255' : (255 : Int) < dm := by omega
                have hql : (dat.take 255).length = 255 := by rw [List.length_take]; omega
                have hcv := fun W hW => Hcv.out W hW 255 hql
                have Hql := Lib.hid hql
                clear hql a4
                simp only [strV] at hcv
                go_wp2_with fail
                have hSd : wr.drew.cell? ⟨b, off + j * 4 + 3, none⟩ = some (.slice DA dm dc) ∧ Below w.heap.size w wr.drew := ⟨a3, Hbj.out.drew⟩
                refine wp_region_held_drew (S := fun W => W.cell? ⟨b, off + j * 4 + 3, none⟩ = some (.slice DA dm dc) ∧ Below w.heap.size w W) (by kernel_rfl) hSd (fun _ => ?_)
                refine wpAnyH_take (i := 0) (oi := ?oo19) (v := ?vv19) ?ii19 (by kernel_rfl) ?ff19 (by kernel_rfl) ?qq19 (Or.inl ⟨?ww19, ?yy19⟩) hSd ?rr19
                case ii19 => simp only [List.getElem?_toArray, List.getElem?_cons_zero]; rfl
                case ff19 => kernel_rfl
                case qq19 => exact fun _ _ _ h => h
                case ww19 => rfl
                case yy19 => intro W hW; go_simp <;> with_reducible rfl
                simp only [Act.put, List.setIfInBounds_toArray, List.set_cons_zero, List.set_cons_succ]
                refine wpAnyH_take (i := 3) (oi := ?oo20) (v := ?vv20) ?ii20 (by kernel_rfl) ?ff20 (by kernel_rfl) ?qq20 (Or.inl ⟨?ww20, ?yy20⟩) hSd ?rr20
                case ii20 => simp only [List.getElem?_toArray, List.getElem?_cons_succ, List.getElem?_cons_zero]; rfl
                case ff20 => kernel_rfl
                case qq20 => exact fun _ _ _ h => h
                case ww20 => rfl
                case yy20 => intro W hW; go_simp <;> with_reducible rfl
                simp only [Act.put, List.setIfInBounds_toArray, List.set_cons_zero, List.set_cons_succ]
                refine wpAnyH_take (i := 4) (oi := ?oo21) (v := ?vv21) ?ii21 (by kernel_rfl) ?ff21 (by kernel_rfl) ?qq21 (Or.inl ⟨?ww21, ?yy21⟩) hSd ?rr21
                case ii21 => simp only [List.getElem?_toArray, List.getElem?_cons_succ, List.getElem?_cons_zero]; rfl
                case ff21 => kernel_rfl
                case qq21 => exact fun _ _ _ h => h
                case ww21 => rfl
                case yy21 => intro W hW; go_simp <;> with_reducible rfl
                simp only [Act.put, List.setIfInBounds_toArray, List.set_cons_zero, List.set_cons_succ]
                refine wpAnyH_take (i := 5) (oi := ?oo22) (v := ?vv22) ?ii22 (by kernel_rfl) ?ff22 (by kernel_rfl) ?qq22 (Or.inl ⟨?ww22, ?yy22⟩) hSd ?rr22
                case ii22 => simp only [List.getElem?_toArray, List.getElem?_cons_succ, List.getElem?_cons_zero]; rfl
                case ff22 => kernel_rfl
                case qq22 => exact fun _ _ _ h => h
                case ww22 => rfl
                case yy22 => intro W hW; go_simp <;> with_reducible rfl
                simp only [Act.put, List.setIfInBounds_toArray, List.set_cons_zero, List.set_cons_succ]
                refine wpAnyH_take (i := 6) (oi := ?oo23) (v := ?vv23) ?ii23 (by kernel_rfl) ?ff23 (by kernel_rfl) ?qq23 (Or.inl ⟨?ww23, ?yy23⟩) hSd ?rr23
                case ii23 => simp only [List.getElem?_toArray, List.getElem?_cons_succ, List.getElem?_cons_zero]; rfl
                case ff23 => kernel_rfl
                case qq23 => exact fun _ _ _ h => h
                case ww23 => rfl
                case yy23 => intro W hW; go_simp <;> with_reducible rfl
                simp only [Act.put, List.setIfInBounds_toArray, List.set_cons_zero, List.set_cons_succ]
                refine wpAnyH_take (i := 7) (oi := ?oo24) (v := ?vv24) ?ii24 (by kernel_rfl) ?ff24 (by kernel_rfl) ?qq24 (Or.inl ⟨?ww24, ?yy24⟩) hSd ?rr24
                case ii24 => simp only [List.getElem?_toArray, List.getElem?_cons_succ, List.getElem?_cons_zero]; rfl
                case ff24 => kernel_rfl
                case qq24 => exact fun _ _ _ h => h
                case ww24 => rfl
                case yy24 => intro W hW; go_simp <;> with_reducible rfl
                simp only [Act.put, List.setIfInBounds_toArray, List.set_cons_zero, List.set_cons_succ]
                refine wpAnyH_take (i := 8) (oi := ?oo25) (v := ?vv25) ?ii25 (by kernel_rfl) ?ff25 (by kernel_rfl) ?qq25 (Or.inl ⟨?ww25, ?yy25⟩) hSd ?rr25
                case ii25 => simp only [List.getElem?_toArray, List.getElem?_cons_succ, List.getElem?_cons_zero]; rfl
                case ff25 => kernel_rfl
                case qq25 => exact fun _ _ _ h => h
                case ww25 => rfl
                case yy25 => intro W hW; go_simp <;> with_reducible rfl
                simp only [Act.put, List.setIfInBounds_toArray, List.set_cons_zero, List.set_cons_succ]
                refine wpAnyH_take (i := 9) (oi := ?oo26) (v := ?vv26) ?ii26 (by kernel_rfl) ?ff26 (by kernel_rfl) ?qq26 (Or.inl ⟨?ww26, ?yy26⟩) hSd ?rr26
                case ii26 => simp only [List.getElem?_toArray, List.getElem?_cons_succ, List.getElem?_cons_zero]; rfl
                case ff26 => kernel_rfl
                case qq26 => exact fun _ _ _ h => h
                case ww26 => rfl
                case yy26 => intro W hW; go_simp <;> with_reducible rfl
                simp only [Act.put, List.setIfInBounds_toArray, List.set_cons_zero, List.set_cons_succ]
                refine wpAnyH_take (i := 10) (oi := ?oo27) (v := ?vv27) ?ii27 (by kernel_rfl) ?ff27 (by kernel_rfl) ?qq27 (Or.inl ⟨?ww27, ?yy27⟩) hSd ?rr27
                case ii27 => simp only [List.getElem?_toArray, List.getElem?_cons_succ, List.getElem?_cons_zero]; rfl
                case ff27 => kernel_rfl
                case qq27 => exact fun _ _ _ h => h
                case ww27 => rfl
                case yy27 => intro W hW; go_simp <;> with_reducible rfl
                simp only [Act.put, List.setIfInBounds_toArray, List.set_cons_zero, List.set_cons_succ]
                refine wpAnyH_take (i := 11) (oi := ?oo28) (v := ?vv28) ?ii28 (by kernel_rfl) ?ff28 (by kernel_rfl) ?qq28 (Or.inl ⟨?ww28, ?yy28⟩) hSd ?rr28
                case ii28 => simp only [List.getElem?_toArray, List.getElem?_cons_succ, List.getElem?_cons_zero]; rfl
                case ff28 => kernel_rfl
                case qq28 => exact fun _ _ _ h => h
                case ww28 => rfl
                case yy28 => intro W hW; go_simp <;> with_reducible rfl
                simp only [Act.put, List.setIfInBounds_toArray, List.set_cons_zero, List.set_cons_succ]
                refine wpAnyH_take (i := 12) (oi := ?oo29) (v := ?vv29) ?ii29 (by kernel_rfl) ?ff29 (by kernel_rfl) ?qq29 (Or.inl ⟨?ww29, ?yy29⟩) hSd ?rr29
                case ii29 => simp only [List.getElem?_toArray, List.getElem?_cons_succ, List.getElem?_cons_zero]; rfl
                case ff29 => kernel_rfl
                case qq29 => exact fun _ _ _ h => h
                case ww29 => rfl
                case yy29 => intro W hW; go_simp <;> with_reducible rfl
                simp only [Act.put, List.setIfInBounds_toArray, List.set_cons_zero, List.set_cons_succ]
                refine wpAnyH_take (i := 13) (oi := ?oo30) (v := ?vv30) ?ii30 (by kernel_rfl) ?ff30 (by kernel_rfl) ?qq30 (Or.inl ⟨?ww30, ?yy30⟩) hSd ?rr30
                case ii30 => simp only [List.getElem?_toArray, List.getElem?_cons_succ, List.getElem?_cons_zero]; rfl
                case ff30 => kernel_rfl
                case qq30 => exact fun _ _ _ h => h
                case ww30 => rfl
                case yy30 => intro W hW; go_simp <;> with_reducible rfl
                simp only [Act.put, List.setIfInBounds_toArray, List.set_cons_zero, List.set_cons_succ]
                refine wpAnyH_take (i := 14) (oi := ?oo31) (v := ?vv31) ?ii31 (by kernel_rfl) ?ff31 (by kernel_rfl) ?qq31 (Or.inl ⟨?ww31, ?yy31⟩) hSd ?rr31
                case ii31 => simp only [List.getElem?_toArray, List.getElem?_cons_succ, List.getElem?_cons_zero]; rfl
                case ff31 => kernel_rfl
                case qq31 => exact fun _ _ _ h => h
                case ww31 => rfl
                case yy31 => intro W hW; go_simp <;> with_reducible rfl
                simp only [Act.put, List.setIfInBounds_toArray, List.set_cons_zero, List.set_cons_succ]
                refine wpAnyH_take (i := 15) (oi := ?oo32) (v := ?vv32) ?ii32 (by kernel_rfl) ?ff32 (by kernel_rfl) ?qq32 (Or.inl ⟨?ww32, ?yy32⟩) hSd ?rr32
                case ii32 => simp only [List.getElem?_toArray, List.getElem?_cons_succ, List.getElem?_cons_zero]; rfl
                case ff32 => kernel_rfl
                case qq32 => exact fun _ _ _ h => h
                case ww32 => rfl
                case yy32 => intro W hW; go_simp <;> with_reducible rfl
                simp only [Act.put, List.setIfInBounds_toArray, List.set_cons_zero, List.set_cons_succ]
                have hcv' := fun W (hW : W.cell? ⟨b, off + j * 4 + 3, none⟩ = some (.slice DA dm dc) ∧ Below w.heap.size w W) => hcv W hW.2
                refine wpAnyH_take (i := 16) (oi := ?oo33) (v := ?vv33) ?ii33 (by kernel_rfl) ?ff33 (by kernel_rfl) ?qq33 (Or.inl ⟨?ww33, ?yy33⟩) hSd ?rr33
                case ii33 => simp only [List.getElem?_toArray, List.getElem?_cons_succ, List.getElem?_cons_zero]; rfl
                case ff33 => kernel_rfl
                case qq33 => exact fun _ _ _ h => h
                case ww33 => rfl
                case yy33 => intro W hW; go_simp <;> with_reducible rfl
                simp only [Act.put, List.setIfInBounds_toArray, List.set_cons_zero, List.set_cons_succ]
                refine wpAnyH_ready (rs := [1]) (by kernel_rfl) (by simp) ?_
                refine AllReadyH.cons (o := ?oo34) ?ii34 (fun K hK => ?_) AllReadyH.nil
                case ii34 => simp only [List.getElem?_toArray, List.getElem?_cons_succ, List.getElem?_cons_zero]; rfl
                go_simp
                refine (HT.out _ Hrd.out.drew).mono ?_
                rintro e w6 ⟨v6, g6, rfl, hr6, h6, ha6⟩
                have hb6 : Below w.heap.size wr w6 := ha6.undrew.below HBr.out (fun q e => by have e : q = br := e; have := hbr1.out; omega)
                have hh := heldText (b := b) (o := off + j * 4 + 3) hS hb hb6
                obtain ⟨A6, c6, hv6, -, -, hby6⟩ := hr6.bytes
                rw [Hql.out] at hv6
                subst hv6
                have ks6 := fun W (hW : Below w6.heap.size w6 W) => conv_any (cap := c6) Hql.out ((hby6.below hW (Nat.le_refl _)).more hW.size)
                have HF := Lib.hid (HN.out wr w6 Hbj.out HBr.out h6 ha6.undrew)
                have h66 := Below.refl w6.heap.size w6
                have Hh := Lib.hid hh
                simp only [strV] at ks6
                clear hr6 h6 ha6 hb6 hby6 hh
                go_wp2_with fail
                refine hK.out _ _ Hh.out (fun _ => ?_)
                clear hK K
                refine wpAnyH_mono (S' := fun W => Below w6.heap.size w6 W) (fun W hW => heldText Hh.out hb (hW.mono (Hh.out.2.size))) _ _ _ _ ?_
                refine wpAnyH_take (i := 2) (oi := ?oo35) (v := ?vv35) ?ii35 (by kernel_rfl) ?ff35 (by kernel_rfl) ?qq35 (Or.inl ⟨?ww35, ?yy35⟩) h66 ?rr35
                case ii35 => simp only [List.getElem?_toArray, List.getElem?_cons_succ, List.getElem?_cons_zero]; rfl
                case ff35 => kernel_rfl
                case qq35 => exact fun _ _ _ h => h
                case ww35 => rfl
                case yy35 => intro W hW; go_simp <;> with_reducible rfl
                simp only [Act.put, List.setIfInBounds_toArray, List.set_cons_zero, List.set_cons_succ]
                refine wpAnyH_take (i := 17) (oi := ?oo36) (v := ?vv36) ?ii36 (by kernel_rfl) ?ff36 (by kernel_rfl) ?qq36 (Or.inl ⟨?ww36, ?yy36⟩) h66 ?rr36
                case ii36 => simp only [List.getElem?_toArray, List.getElem?_cons_succ, List.getElem?_cons_zero]; rfl
                case ff36 => kernel_rfl
                case qq36 => exact fun _ _ _ h => h
                case ww36 => rfl
                case yy36 => intro W hW; go_simp <;> with_reducible rfl
                simp only [Act.put, List.setIfInBounds_toArray, List.set_cons_zero, List.set_cons_succ]
                refine wpAnyH_done (by kernel_rfl) ?_ _
                go_wp2_with fail
                go_roundw
                case rel => exact HF.out
                case measure => simp [intOf]; omega
            · have q : (kd == 1) = false := beq_eq_false_iff_ne.2 hkind
              have hac : actB (⟨kd, sz, num, DA, dm, dc, dat⟩ : ActC) = WireP.num num (size4 sz) := by simp [actB, hkind]
              rw [hac] at hr
              have qr := size_rem sz
              have hsz : size4 sz = 1 + (sz % 4).toNat := rfl
              have hm4 : (sz % 4).toNat ≤ 3 := by omega
              generalize (sz % 4).toNat = m4 at *
              generalize size4 sz = s4 at *
              subst hsz
              have hS2 : wr.cell? ⟨b, off + j * 4 + 2, none⟩ = some (.int .u32 (num : Nat)) ∧ Below w.heap.size w wr := ⟨a2, hbj⟩
              have Hac := Lib.hid hac
              have Hrd := Lib.hid hrd
              have Hbj := Lib.hid hbj
              have Hx := Lib.hid hx
              clear hkind hac hx hrd hbj a7 hby0 hfk Hf a3 hS
              have h4 : m4 = 0 ∨ m4 = 1 ∨ m4 = 2 ∨ m4 = 3 := by omega
              rcases h4 with rfl | rfl | rfl | rfl
              · have ht := take_at (enc f j) r num 1 (by omega)
                rw [← hr] at ht
                have HT := Lib.hid (take_any br A4 n3 cap4 (enc f k) (enc f j).length false 1 wr.drew Hrd.out.drew)
                rw [show (1 : Int) = ((1 : Nat) : Int) from rfl, ht] at HT
                have hshift : ∀ W, (Op.shift .shr .u32 4294967295 .i64 (IntKind.i64.wrap (32 - IntKind.i64.wrap 8))).run Try.prog W = .ok (.int .u32 255) W := fun W => by kernel_rfl
                have hmask : bits .and .u32 (num : Int) 255 = ((num % 256 : Nat) : Int) := and_mask num 8 a10 (by omega)
                have hSd : wr.drew.cell? ⟨b, off + j * 4 + 2, none⟩ = some (.int .u32 (num : Nat)) ∧ Below w.heap.size w wr.drew := ⟨a2, Hbj.out.drew⟩
                clear ht hr
                go_wp2_with fail
                refine wp_region_held_drew (S := fun W => W.cell? ⟨b, off + j * 4 + 2, none⟩ = some (.int .u32 (num : Nat)) ∧ Below w.heap.size w W) (by kernel_rfl) hSd (fun _ => ?_)
                refine wpAnyH_take (i := 0) (oi := ?oo37) (v := ?vv37) ?ii37 (by kernel_rfl) ?ff37 (by kernel_rfl) ?qq37 (Or.inl ⟨?ww37, ?yy37⟩) hSd ?rr37
                case ii37 => simp only [List.getElem?_toArray, List.getElem?_cons_zero]; rfl
                case ff37 => kernel_rfl
                case qq37 => exact fun _ _ _ h => h
                case ww37 => rfl
                case yy37 => intro W hW; go_simp <;> with_reducible rfl
                simp only [Act.put, List.setIfInBounds_toArray, List.set_cons_zero, List.set_cons_succ]
                refine wpAnyH_take (i := 1) (oi := ?oo38) (v := ?vv38) ?ii38 (by kernel_rfl) ?ff38 (by kernel_rfl) ?qq38 (Or.inl ⟨?ww38, ?yy38⟩) hSd ?rr38
                case ii38 => simp only [List.getElem?_toArray, List.getElem?_cons_succ, List.getElem?_cons_zero]; rfl
                case ff38 => kernel_rfl
                case qq38 => exact fun _ _ _ h => h
                case ww38 => rfl
                case yy38 => intro W hW; go_simp <;> with_reducible rfl
                simp only [Act.put, List.setIfInBounds_toArray, List.set_cons_zero, List.set_cons_succ]
                refine wpAnyH_take (i := 3) (oi := ?oo39) (v := ?vv39) ?ii39 (by kernel_rfl) ?ff39 (by kernel_rfl) ?qq39 (Or.inl ⟨?ww39, ?yy39⟩) hSd ?rr39
                case ii39 => simp only [List.getElem?_toArray, List.getElem?_cons_succ, List.getElem?_cons_zero]; rfl
                case ff39 => kernel_rfl
                case qq39 => exact fun _ _ _ h => h
                case ww39 => rfl
                case yy39 => intro W hW; go_simp <;> with_reducible rfl
                simp only [Act.put, List.setIfInBounds_toArray, List.set_cons_zero, List.set_cons_succ]
                refine wpAnyH_take (i := 4) (oi := ?oo40) (v := ?vv40) ?ii40 (by kernel_rfl) ?ff40 (by kernel_rfl) ?qq40 (Or.inl ⟨?ww40, ?yy40⟩) hSd ?rr40
                case ii40 => simp only [List.getElem?_toArray, List.getElem?_cons_succ, List.getElem?_cons_zero]; rfl
                case ff40 => kernel_rfl
                case qq40 => exact fun _ _ _ h => h
                case ww40 => rfl
                case yy40 => intro W hW; go_simp <;> with_reducible rfl
                simp only [Act.put, List.setIfInBounds_toArray, List.set_cons_zero, List.set_cons_succ]
                refine wpAnyH_take (i := 5) (oi := ?oo41) (v := ?vv41) ?ii41 (by kernel_rfl) ?ff41 (by kernel_rfl) ?qq41 (Or.inl ⟨?ww41, ?yy41⟩) hSd ?rr41
                case ii41 => simp only [List.getElem?_toArray, List.getElem?_cons_succ, List.getElem?_cons_zero]; rfl
                case ff41 => kernel_rfl
                case qq41 => exact fun _ _ _ h => h
                case ww41 => rfl
                case yy41 => intro W hW; go_simp <;> with_reducible rfl
                simp only [Act.put, List.setIfInBounds_toArray, List.set_cons_zero, List.set_cons_succ]
                refine wpAnyH_take (i := 6) (oi := ?oo42) (v := ?vv42) ?ii42 (by kernel_rfl) ?ff42 (by kernel_rfl) ?qq42 (Or.inl ⟨?ww42, ?yy42⟩) hSd ?rr42
                case ii42 => simp only [List.getElem?_toArray, List.getElem?_cons_succ, List.getElem?_cons_zero]; rfl
                case ff42 => kernel_rfl
                case qq42 => exact fun _ _ _ h => h
                case ww42 => rfl
                case yy42 => intro W hW; go_simp <;> with_reducible rfl
                simp only [Act.put, List.setIfInBounds_toArray, List.set_cons_zero, List.set_cons_succ]
                refine wpAnyH_take (i := 7) (oi := ?oo43) (v := ?vv43) ?ii43 (by kernel_rfl) ?ff43 (by kernel_rfl) ?qq43 (Or.inl ⟨?ww43, ?yy43⟩) hSd ?rr43
                case ii43 => simp only [List.getElem?_toArray, List.getElem?_cons_succ, List.getElem?_cons_zero]; rfl
                case ff43 => kernel_rfl
                case qq43 => exact fun _ _ _ h => h
                case ww43 => rfl
                case yy43 => intro W hW; go_simp <;> with_reducible rfl
                simp only [Act.put, List.setIfInBounds_toArray, List.set_cons_zero, List.set_cons_succ]
                refine wpAnyH_take (i := 8) (oi := ?oo44) (v := ?vv44) ?ii44 (by kernel_rfl) ?ff44 (by kernel_rfl) ?qq44 (Or.inl ⟨?ww44, ?yy44⟩) hSd ?rr44
                case ii44 => simp only [List.getElem?_toArray, List.getElem?_cons_succ, List.getElem?_cons_zero]; rfl
                case ff44 => kernel_rfl
                case qq44 => exact fun _ _ _ h => h
                case ww44 => rfl
                case yy44 => intro W hW; go_simp <;> with_reducible rfl
                simp only [Act.put, List.setIfInBounds_toArray, List.set_cons_zero, List.set_cons_succ]
                refine wpAnyH_take (i := 9) (oi := ?oo45) (v := ?vv45) ?ii45 (by kernel_rfl) ?ff45 (by kernel_rfl) ?qq45 (Or.inl ⟨?ww45, ?yy45⟩) hSd ?rr45
                case ii45 => simp only [List.getElem?_toArray, List.getElem?_cons_succ, List.getElem?_cons_zero]; rfl
                case ff45 => kernel_rfl
                case qq45 => exact fun _ _ _ h => h
                case ww45 => rfl
                case yy45 => intro W hW; go_simp <;> with_reducible rfl
                simp only [Act.put, List.setIfInBounds_toArray, List.set_cons_zero, List.set_cons_succ]
                refine wpAnyH_take (i := 10) (oi := ?oo46) (v := ?vv46) ?ii46 (by kernel_rfl) ?ff46 (by kernel_rfl) ?qq46 (Or.inl ⟨?ww46, ?yy46⟩) hSd ?rr46
                case ii46 => simp only [List.getElem?_toArray, List.getElem?_cons_succ, List.getElem?_cons_zero]; rfl
                case ff46 => kernel_rfl
                case qq46 => exact fun _ _ _ h => h
                case ww46 => rfl
                case yy46 => intro W hW; go_simp <;> with_reducible rfl
                simp only [Act.put, List.setIfInBounds_toArray, List.set_cons_zero, List.set_cons_succ]
                refine wpAnyH_take (i := 11) (oi := ?oo47) (v := ?vv47) ?ii47 (by kernel_rfl) ?ff47 (by kernel_rfl) ?qq47 (Or.inl ⟨?ww47, ?yy47⟩) hSd ?rr47
                case ii47 => simp only [List.getElem?_toArray, List.getElem?_cons_succ, List.getElem?_cons_zero]; rfl
                case ff47 => kernel_rfl
                case qq47 => exact fun _ _ _ h => h
                case ww47 => rfl
                case yy47 => intro W hW; go_simp <;> with_reducible rfl
                simp only [Act.put, List.setIfInBounds_toArray, List.set_cons_zero, List.set_cons_succ]
                refine wpAnyH_take (i := 12) (oi := ?oo48) (v := ?vv48) ?ii48 (by kernel_rfl) ?ff48 (by kernel_rfl) ?qq48 (Or.inl ⟨?ww48, ?yy48⟩) hSd ?rr48
                case ii48 => simp only [List.getElem?_toArray, List.getElem?_cons_succ, List.getElem?_cons_zero]; rfl
                case ff48 => kernel_rfl
                case qq48 => exact fun _ _ _ h => h
                case ww48 => rfl
                case yy48 => intro W hW; go_simp <;> with_reducible rfl
                simp only [Act.put, List.setIfInBounds_toArray, List.set_cons_zero, List.set_cons_succ]
                refine wpAnyH_ready (rs := [2]) (by kernel_rfl) (by simp) ?_
                refine AllReadyH.cons (o := ?oo49) ?ii49 (fun K hK => ?_) AllReadyH.nil
                case ii49 => simp only [List.getElem?_toArray, List.getElem?_cons_succ, List.getElem?_cons_zero]; rfl
                go_simp
                refine HT.out.mono ?_
                rintro e w6 ⟨rfl, h6, ha6⟩
                have hb6 : Below w.heap.size wr w6 := ha6.undrew.below HBr.out (fun q e => by have e : q = br := e; have := hbr1.out; omega)
                have Hh := Lib.hid (heldText (b := b) (o := off + j * 4 + 2) hS2 hb hb6)
                have HF := Lib.hid (back_next hjm Hx.out Hac.out hbr1.out HBr.out Hbj.out h6 (by rw [WireP.num_length]) ha6.undrew)
                clear h6 ha6 hb6
                go_wp2_with fail
                refine hK.out _ _ Hh.out (fun _ => ?_)
                clear hK K
                refine wpAnyH_take (i := 13) (oi := ?oo50) (v := ?vv50) ?ii50 (by kernel_rfl) ?ff50 (by kernel_rfl) ?qq50 (Or.inl ⟨?ww50, ?yy50⟩) Hh.out ?rr50
                case ii50 => simp only [List.getElem?_toArray, List.getElem?_cons_succ, List.getElem?_cons_zero]; rfl
                case ff50 => kernel_rfl
                case qq50 => exact fun _ _ _ h => h
                case ww50 => rfl
                case yy50 => intro W hW; go_simp <;> with_reducible rfl
                simp only [Act.put, List.setIfInBounds_toArray, List.set_cons_zero, List.set_cons_succ]
                refine wpAnyH_done (by kernel_rfl) ?_ _
                go_wp2_with fail
                go_roundw
                case rel => exact HF.out
                case measure => simp [intOf]; omega
              · have ht := take_at (enc f j) r num 2 (by omega)
                rw [← hr] at ht
                have HT := Lib.hid (take_any br A4 n3 cap4 (enc f k) (enc f j).length false 2 wr.drew Hrd.out.drew)
                rw [show (2 : Int) = ((2 : Nat) : Int) from rfl, ht] at HT
                have hshift : ∀ W, (Op.shift .shr .u32 4294967295 .i64 (IntKind.i64.wrap (32 - IntKind.i64.wrap 16))).run Try.prog W = .ok (.int .u32 65535) W := fun W => by kernel_rfl
                have hmask : bits .and .u32 (num : Int) 65535 = ((num % 65536 : Nat) : Int) := and_mask num 16 a10 (by omega)
                have hSd : wr.drew.cell? ⟨b, off + j * 4 + 2, none⟩ = some (.int .u32 (num : Nat)) ∧ Below w.heap.size w wr.drew := ⟨a2, Hbj.out.drew⟩
                clear ht hr
                go_wp2_with fail
                refine wp_region_held_drew (S := fun W => W.cell? ⟨b, off + j * 4 + 2, none⟩ = some (.int .u32 (num : Nat)) ∧ Below w.heap.size w W) (by kernel_rfl) hSd (fun _ => ?_)
                refine wpAnyH_take (i := 0) (oi := ?oo51) (v := ?vv51) ?ii51 (by kernel_rfl) ?ff51 (by kernel_rfl) ?qq51 (Or.inl ⟨?ww51, ?yy51⟩) hSd ?rr51
                case ii51 => simp only [List.getElem?_toArray, List.getElem?_cons_zero]; rfl
                case ff51 => kernel_rfl
                case qq51 => exact fun _ _ _ h => h
                case ww51 => rfl
                case yy51 => intro W hW; go_simp <;> with_reducible rfl
                simp only [Act.put, List.setIfInBounds_toArray, List.set_cons_zero, List.set_cons_succ]
                refine wpAnyH_take (i := 1) (oi := ?oo52) (v := ?vv52) ?ii52 (by kernel_rfl) ?ff52 (by kernel_rfl) ?qq52 (Or.inl ⟨?ww52, ?yy52⟩) hSd ?rr52
                case ii52 => simp only [List.getElem?_toArray, List.getElem?_cons_succ, List.getElem?_cons_zero]; rfl
                case ff52 => kernel_rfl
                case qq52 => exact fun _ _ _ h => h
                case ww52 => rfl
                case yy52 => intro W hW; go_simp <;> with_reducible rfl
                simp only [Act.put, List.setIfInBounds_toArray, List.set_cons_zero, List.set_cons_succ]
                refine wpAnyH_take (i := 3) (oi := ?oo53) (v := ?vv53) ?ii53 (by kernel_rfl) ?ff53 (by kernel_rfl) ?qq53 (Or.inl ⟨?ww53, ?yy53⟩) hSd ?rr53
                case ii53 => simp only [List.getElem?_toArray, List.getElem?_cons_succ, List.getElem?_cons_zero]; rfl
                case ff53 => kernel_rfl
                case qq53 => exact fun _ _ _ h => h
                case ww53 => rfl
                case yy53 => intro W hW; go_simp <;> with_reducible rfl
                simp only [Act.put, List.setIfInBounds_toArray, List.set_cons_zero, List.set_cons_succ]
                refine wpAnyH_take (i := 4) (oi := ?oo54) (v := ?vv54) ?ii54 (by kernel_rfl) ?ff54 (by kernel_rfl) ?qq54 (Or.inl ⟨?ww54, ?yy54⟩) hSd ?rr54
                case ii54 => simp only [List.getElem?_toArray, List.getElem?_cons_succ, List.getElem?_cons_zero]; rfl
                case ff54 => kernel_rfl
                case qq54 => exact fun _ _ _ h => h
                case ww54 => rfl
                case yy54 => intro W hW; go_simp <;> with_reducible rfl
                simp only [Act.put, List.setIfInBounds_toArray, List.set_cons_zero, List.set_cons_succ]
                refine wpAnyH_take (i := 5) (oi := ?oo55) (v := ?vv55) ?ii55 (by kernel_rfl) ?ff55 (by kernel_rfl) ?qq55 (Or.inl ⟨?ww55, ?yy55⟩) hSd ?rr55
                case ii55 => simp only [List.getElem?_toArray, List.getElem?_cons_succ, List.getElem?_cons_zero]; rfl
                case ff55 => kernel_rfl
                case qq55 => exact fun _ _ _ h => h
                case ww55 => rfl
                case yy55 => intro W hW; go_simp <;> with_reducible rfl
                simp only [Act.put, List.setIfInBounds_toArray, List.set_cons_zero, List.set_cons_succ]
                refine wpAnyH_take (i := 6) (oi := ?oo56) (v := ?vv56) ?ii56 (by kernel_rfl) ?ff56 (by kernel_rfl) ?qq56 (Or.inl ⟨?ww56, ?yy56⟩) hSd ?rr56
                case ii56 => simp only [List.getElem?_toArray, List.getElem?_cons_succ, List.getElem?_cons_zero]; rfl
                case ff56 => kernel_rfl
                case qq56 => exact fun _ _ _ h => h
                case ww56 => rfl
                case yy56 => intro W hW; go_simp <;> with_reducible rfl
                simp only [Act.put, List.setIfInBounds_toArray, List.set_cons_zero, List.set_cons_succ]
                refine wpAnyH_take (i := 7) (oi := ?oo57) (v := ?vv57) ?ii57 (by kernel_rfl) ?ff57 (by kernel_rfl) ?qq57 (Or.inl ⟨?ww57, ?yy57⟩) hSd ?rr57
                case ii57 => simp only [List.getElem?_toArray, List.getElem?_cons_succ, List.getElem?_cons_zero]; rfl
                case ff57 => kernel_rfl
                case qq57 => exact fun _ _ _ h => h
                case ww57 => rfl
                case yy57 => intro W hW; go_simp <;> with_reducible rfl
                simp only [Act.put, List.setIfInBounds_toArray, List.set_cons_zero, List.set_cons_succ]
                refine wpAnyH_take (i := 8) (oi := ?oo58) (v := ?vv58) ?ii58 (by kernel_rfl) ?ff58 (by kernel_rfl) ?qq58 (Or.inl ⟨?ww58, ?yy58⟩) hSd ?rr58
                case ii58 => simp only [List.getElem?_toArray, List.getElem?_cons_succ, List.getElem?_cons_zero]; rfl
                case ff58 => kernel_rfl
                case qq58 => exact fun _ _ _ h => h
                case ww58 => rfl
                case yy58 => intro W hW; go_simp <;> with_reducible rfl
                simp only [Act.put, List.setIfInBounds_toArray, List.set_cons_zero, List.set_cons_succ]
                refine wpAnyH_take (i := 9) (oi := ?oo59) (v := ?vv59) ?ii59 (by kernel_rfl) ?ff59 (by kernel_rfl) ?qq59 (Or.inl ⟨?ww59, ?yy59⟩) hSd ?rr59
                case ii59 => simp only [List.getElem?_toArray, List.getElem?_cons_succ, List.getElem?_cons_zero]; rfl
                case ff59 => kernel_rfl
                case qq59 => exact fun _ _ _ h => h
                case ww59 => rfl
                case yy59 => intro W hW; go_simp <;> with_reducible rfl
                simp only [Act.put, List.setIfInBounds_toArray, List.set_cons_zero, List.set_cons_succ]
                refine wpAnyH_take (i := 10) (oi := ?oo60) (v := ?vv60) ?ii60 (by kernel_rfl) ?ff60 (by kernel_rfl) ?qq60 (Or.inl ⟨?ww60, ?yy60⟩) hSd ?rr60
                case ii60 => simp only [List.getElem?_toArray, List.getElem?_cons_succ, List.getElem?_cons_zero]; rfl
                case ff60 => kernel_rfl
                case qq60 => exact fun _ _ _ h => h
                case ww60 => rfl
                case yy60 => intro W hW; go_simp <;> with_reducible rfl
                simp only [Act.put, List.setIfInBounds_toArray, List.set_cons_zero, List.set_cons_succ]
                refine wpAnyH_take (i := 11) (oi := ?oo61) (v := ?vv61) ?ii61 (by kernel_rfl) ?ff61 (by kernel_rfl) ?qq61 (Or.inl ⟨?ww61, ?yy61⟩) hSd ?rr61
                case ii61 => simp only [List.getElem?_toArray, List.getElem?_cons_succ, List.getElem?_cons_zero]; rfl
                case ff61 => kernel_rfl
                case qq61 => exact fun _ _ _ h => h
                case ww61 => rfl
                case yy61 => intro W hW; go_simp <;> with_reducible rfl
                simp only [Act.put, List.setIfInBounds_toArray, List.set_cons_zero, List.set_cons_succ]
                refine wpAnyH_take (i := 12) (oi := ?oo62) (v := ?vv62) ?ii62 (by kernel_rfl) ?ff62 (by kernel_rfl) ?qq62 (Or.inl ⟨?ww62, ?yy62⟩) hSd ?rr62
                case ii62 => simp only [List.getElem?_toArray, List.getElem?_cons_succ, List.getElem?_cons_zero]; rfl
                case ff62 => kernel_rfl
                case qq62 => exact fun _ _ _ h => h
                case ww62 => rfl
                case yy62 => intro W hW; go_simp <;> with_reducible rfl
                simp only [Act.put, List.setIfInBounds_toArray, List.set_cons_zero, List.set_cons_succ]
                refine wpAnyH_ready (rs := [2]) (by kernel_rfl) (by simp) ?_
                refine AllReadyH.cons (o := ?oo63) ?ii63 (fun K hK => ?_) AllReadyH.nil
                case ii63 => simp only [List.getElem?_toArray, List.getElem?_cons_succ, List.getElem?_cons_zero]; rfl
                go_simp
                refine HT.out.mono ?_
                rintro e w6 ⟨rfl, h6, ha6⟩
                have hb6 : Below w.heap.size wr w6 := ha6.undrew.below HBr.out (fun q e => by have e : q = br := e; have := hbr1.out; omega)
                have Hh := Lib.hid (heldText (b := b) (o := off + j * 4 + 2) hS2 hb hb6)
                have HF := Lib.hid (back_next hjm Hx.out Hac.out hbr1.out HBr.out Hbj.out h6 (by rw [WireP.num_length]) ha6.undrew)
                clear h6 ha6 hb6
                go_wp2_with fail
                refine hK.out _ _ Hh.out (fun _ => ?_)
                clear hK K
                refine wpAnyH_take (i := 13) (oi := ?oo64) (v := ?vv64) ?ii64 (by kernel_rfl) ?ff64 (by kernel_rfl) ?qq64 (Or.inl ⟨?ww64, ?yy64⟩) Hh.out ?rr64
                case ii64 => simp only [List.getElem?_toArray, List.getElem?_cons_succ, List.getElem?_cons_zero]; rfl
                case ff64 => kernel_rfl
                case qq64 => exact fun _ _ _ h => h
                case ww64 => rfl
                case yy64 => intro W hW; go_simp <;> with_reducible rfl
                simp only [Act.put, List.setIfInBounds_toArray, List.set_cons_zero, List.set_cons_succ]
                refine wpAnyH_done (by kernel_rfl) ?_ _
                go_wp2_with fail
                go_roundw
                case rel => exact HF.out
                case measure => simp [intOf]; omega
              · have ht := take_at (enc f j) r num 3 (by omega)
                rw [← hr] at ht
                have HT := Lib.hid (take_any br A4 n3 cap4 (enc f k) (enc f j).length false 3 wr.drew Hrd.out.drew)
                rw [show (3 : Int) = ((3 : Nat) : Int) from rfl, ht] at HT
                have hshift : ∀ W, (Op.shift .shr .u32 4294967295 .i64 (IntKind.i64.wrap (32 - IntKind.i64.wrap 24))).run Try.prog W = .ok (.int .u32 16777215) W := fun W => by kernel_rfl
                have hmask : bits .and .u32 (num : Int) 16777215 = ((num % 16777216 : Nat) : Int) := and_mask num 24 a10 (by omega)
                have hSd : wr.drew.cell? ⟨b, off + j * 4 + 2, none⟩ = some (.int .u32 (num : Nat)) ∧ Below w.heap.size w wr.drew := ⟨a2, Hbj.out.drew⟩
                clear ht hr
                go_wp2_with fail
                refine wp_region_held_drew (S := fun W => W.cell? ⟨b, off + j * 4 + 2, none⟩ = some (.int .u32 (num : Nat)) ∧ Below w.heap.size w W) (by kernel_rfl) hSd (fun _ => ?_)
                refine wpAnyH_take (i := 0) (oi := ?oo65) (v := ?vv65) ?ii65 (by kernel_rfl) ?ff65 (by kernel_rfl) ?qq65 (Or.inl ⟨?ww65, ?yy65⟩) hSd ?rr65
                case ii65 => simp only [List.getElem?_toArray, List.getElem?_cons_zero]; rfl
                case ff65 => kernel_rfl
                case qq65 => exact fun _ _ _ h => h
                case ww65 => rfl
                case yy65 => intro W hW; go_simp <;> with_reducible rfl
                simp only [Act.put, List.setIfInBounds_toArray, List.set_cons_zero, List.set_cons_succ]
                refine wpAnyH_take (i := 1) (oi := ?oo66) (v := ?vv66) ?ii66 (by kernel_rfl) ?ff66 (by kernel_rfl) ?qq66 (Or.inl ⟨?ww66, ?yy66⟩) hSd ?rr66
                case ii66 => simp only [List.getElem?_toArray, List.getElem?_cons_succ, List.getElem?_cons_zero]; rfl
                case ff66 => kernel_rfl
                case qq66 => exact fun _ _ _ h => h
                case ww66 => rfl
                case yy66 => intro W hW; go_simp <;> with_reducible rfl
                simp only [Act.put, List.setIfInBounds_toArray, List.set_cons_zero, List.set_cons_succ]
                refine wpAnyH_take (i := 3) (oi := ?oo67) (v := ?vv67) ?ii67 (by kernel_rfl) ?ff67 (by kernel_rfl) ?qq67 (Or.inl ⟨?ww67, ?yy67⟩) hSd ?rr67
                case ii67 => simp only [List.getElem?_toArray, List.getElem?_cons_succ, List.getElem?_cons_zero]; rfl
                case ff67 => kernel_rfl
                case qq67 => exact fun _ _ _ h => h
                case ww67 => rfl
                case yy67 => intro W hW; go_simp <;> with_reducible rfl
                simp only [Act.put, List.setIfInBounds_toArray, List.set_cons_zero, List.set_cons_succ]
                refine wpAnyH_take (i := 4) (oi := ?oo68) (v := ?vv68) ?ii68 (by kernel_rfl) ?ff68 (by kernel_rfl) ?qq68 (Or.inl ⟨?ww68, ?yy68⟩) hSd ?rr68
                case ii68 => simp only [List.getElem?_toArray, List.getElem?_cons_succ, List.getElem?_cons_zero]; rfl
                case ff68 => kernel_rfl
                case qq68 => exact fun _ _ _ h => h
                case ww68 => rfl
                case yy68 => intro W hW; go_simp <;> with_reducible rfl
                simp only [Act.put, List.setIfInBounds_toArray, List.set_cons_zero, List.set_cons_succ]
                refine wpAnyH_take (i := 5) (oi := ?oo69) (v := ?vv69) ?ii69 (by kernel_rfl) ?ff69 (by kernel_rfl) ?qq69 (Or.inl ⟨?ww69, ?yy69⟩) hSd ?rr69
                case ii69 => simp only [List.getElem?_toArray, List.getElem?_cons_succ, List.getElem?_cons_zero]; rfl
                case ff69 => kernel_rfl
                case qq69 => exact fun _ _ _ h => h
                case ww69 => rfl
                case yy69 => intro W hW; go_simp <;> with_reducible rfl
                simp only [Act.put, List.setIfInBounds_toArray, List.set_cons_zero, List.set_cons_succ]
                refine wpAnyH_take (i := 6) (oi := ?oo70) (v := ?vv70) ?ii70 (by kernel_rfl) ?ff70 (by kernel_rfl) ?qq70 (Or.inl ⟨?ww70, ?yy70⟩) hSd ?rr70
                case ii70 => simp only [List.getElem?_toArray, List.getElem?_cons_succ, List.getElem?_cons_zero]; rfl
                case ff70 => kernel_rfl
                case qq70 => exact fun _ _ _ h => h
                case ww70 => rfl
                case yy70 => intro W hW; go_simp <;> with_reducible rfl
                simp only [Act.put, List.setIfInBounds_toArray, List.set_cons_zero, List.set_cons_succ]
                refine wpAnyH_take (i := 7) (oi := ?oo71) (v := ?vv71) ?ii71 (by kernel_rfl) ?ff71 (by kernel_rfl) ?qq71 (Or.inl ⟨?ww71, ?yy71⟩) hSd ?rr71
                case ii71 => simp only [List.getElem?_toArray, List.getElem?_cons_succ, List.getElem?_cons_zero]; rfl
                case ff71 => kernel_rfl
                case qq71 => exact fun _ _ _ h => h
                case ww71 => rfl
                case yy71 => intro W hW; go_simp <;> with_reducible rfl
                simp only [Act.put, List.setIfInBounds_toArray, List.set_cons_zero, List.set_cons_succ]
                refine wpAnyH_take (i := 8) (oi := ?oo72) (v := ?vv72) ?ii72 (by kernel_rfl) ?ff72 (by kernel_rfl) ?qq72 (Or.inl ⟨?ww72, ?yy72⟩) hSd ?rr72
                case ii72 => simp only [List.getElem?_toArray, List.getElem?_cons_succ, List.getElem?_cons_zero]; rfl
                case ff72 => kernel_rfl
                case qq72 => exact fun _ _ _ h => h
                case ww72 => rfl
                case yy72 => intro W hW; go_simp <;> with_reducible rfl
                simp only [Act.put, List.setIfInBounds_toArray, List.set_cons_zero, List.set_cons_succ]
                refine wpAnyH_take (i := 9) (oi := ?oo73) (v := ?vv73) ?ii73 (by kernel_rfl) ?ff73 (by kernel_rfl) ?qq73 (Or.inl ⟨?ww73, ?yy73⟩) hSd ?rr73
                case ii73 => simp only [List.getElem?_toArray, List.getElem?_cons_succ, List.getElem?_cons_zero]; rfl
                case ff73 => kernel_rfl
                case qq73 => exact fun _ _ _ h => h
                case ww73 => rfl
                case yy73 => intro W hW; go_simp <;> with_reducible rfl
                simp only [Act.put, List.setIfInBounds_toArray, List.set_cons_zero, List.set_cons_succ]
                refine wpAnyH_take (i := 10) (oi := ?oo74) (v := ?vv74) ?ii74 (by kernel_rfl) ?ff74 (by kernel_rfl) ?qq74 (Or.inl ⟨?ww74, ?yy74⟩) hSd ?rr74
                case ii74 => simp only [List.getElem?_toArray, List.getElem?_cons_succ, List.getElem?_cons_zero]; rfl
                case ff74 => kernel_rfl
                case qq74 => exact fun _ _ _ h => h
                case ww74 => rfl
                case yy74 => intro W hW; go_simp <;> with_reducible rfl
                simp only [Act.put, List.setIfInBounds_toArray, List.set_cons_zero, List.set_cons_succ]
                refine wpAnyH_take (i := 11) (oi := ?oo75) (v := ?vv75) ?ii75 (by kernel_rfl) ?ff75 (by kernel_rfl) ?qq75 (Or.inl ⟨?ww75, ?yy75⟩) hSd ?rr75
                case ii75 => simp only [List.getElem?_toArray, List.getElem?_cons_succ, List.getElem?_cons_zero]; rfl
                case ff75 => kernel_rfl
                case qq75 => exact fun _ _ _ h => h
                case ww75 => rfl
                case yy75 => intro W hW; go_simp <;> with_reducible rfl
                simp only [Act.put, List.setIfInBounds_toArray, List.set_cons_zero, List.set_cons_succ]
                refine wpAnyH_take (i := 12) (oi := ?oo76) (v := ?vv76) ?ii76 (by kernel_rfl) ?ff76 (by kernel_rfl) ?qq76 (Or.inl ⟨?ww76, ?yy76⟩) hSd ?rr76
                case ii76 => simp only [List.getElem?_toArray, List.getElem?_cons_succ, List.getElem?_cons_zero]; rfl
                case ff76 => kernel_rfl
                case qq76 => exact fun _ _ _ h => h
                case ww76 => rfl
                case yy76 => intro W hW; go_simp <;> with_reducible rfl
                simp only [Act.put, List.setIfInBounds_toArray, List.set_cons_zero, List.set_cons_succ]
                refine wpAnyH_ready (rs := [2]) (by kernel_rfl) (by simp) ?_
                refine AllReadyH.cons (o := ?oo77) ?ii77 (fun K hK => ?_) AllReadyH.nil
                case ii77 => simp only [List.getElem?_toArray, List.getElem?_cons_succ, List.getElem?_cons_zero]; rfl
                go_simp
                refine HT.out.mono ?_
                rintro e w6 ⟨rfl, h6, ha6⟩
                have hb6 : Below w.heap.size wr w6 := ha6.undrew.below HBr.out (fun q e => by have e : q = br := e; have := hbr1.out; omega)
                have Hh := Lib.hid (heldText (b := b) (o := off + j * 4 + 2) hS2 hb hb6)
                have HF := Lib.hid (back_next hjm Hx.out Hac.out hbr1.out HBr.out Hbj.out h6 (by rw [WireP.num_length]) ha6.undrew)
                clear h6 ha6 hb6
                go_wp2_with fail
                refine hK.out _ _ Hh.out (fun _ => ?_)
                clear hK K
                refine wpAnyH_take (i := 13) (oi := ?oo78) (v := ?vv78) ?ii78 (by kernel_rfl) ?ff78 (by kernel_rfl) ?qq78 (Or.inl ⟨?ww78, ?yy78⟩) Hh.out ?rr78
                case ii78 => simp only [List.getElem?_toArray, List.getElem?_cons_succ, List.getElem?_cons_zero]; rfl
                case ff78 => kernel_rfl
                case qq78 => exact fun _ _ _ h => h
                case ww78 => rfl
                case yy78 => intro W hW; go_simp <;> with_reducible rfl
                simp only [Act.put, List.setIfInBounds_toArray, List.set_cons_zero, List.set_cons_succ]
                refine wpAnyH_done (by kernel_rfl) ?_ _
                go_wp2_with fail
                go_roundw
                case rel => exact HF.out
                case measure => simp [intOf]; omega
              · have ht := take_at (enc f j) r num 4 (by omega)
                rw [← hr] at ht
                have HT := Lib.hid (take_any br A4 n3 cap4 (enc f k) (enc f j).length false 4 wr.drew Hrd.out.drew)
                rw [show (4 : Int) = ((4 : Nat) : Int) from rfl, ht] at HT
                have hshift : ∀ W, (Op.shift .shr .u32 4294967295 .i64 (IntKind.i64.wrap (32 - IntKind.i64.wrap 32))).run Try.prog W = .ok (.int .u32 4294967295) W := fun W => by kernel_rfl
                have hmask : bits .and .u32 (num : Int) 4294967295 = ((num % 4294967296 : Nat) : Int) := and_mask num 32 a10 (by omega)
                have hSd : wr.drew.cell? ⟨b, off + j * 4 + 2, none⟩ = some (.int .u32 (num : Nat)) ∧ Below w.heap.size w wr.drew := ⟨a2, Hbj.out.drew⟩
                clear ht hr
                go_wp2_with fail
                refine wp_region_held_drew (S := fun W => W.cell? ⟨b, off + j * 4 + 2, none⟩ = some (.int .u32 (num : Nat)) ∧ Below w.heap.size w W) (by kernel_rfl) hSd (fun _ => ?_)
                refine wpAnyH_take (i := 0) (oi := ?oo79) (v := ?vv79) ?ii79 (by kernel_rfl) ?ff79 (by kernel_rfl) ?qq79 (Or.inl ⟨?ww79, ?yy79⟩) hSd ?rr79
                case ii79 => simp only [List.getElem?_toArray, List.getElem?_cons_zero]; rfl
                case ff79 => kernel_rfl
                case qq79 => exact fun _ _ _ h => h
                case ww79 => rfl
                case yy79 => intro W hW; go_simp <;> with_reducible rfl
                simp only [Act.put, List.setIfInBounds_toArray, List.set_cons_zero, List.set_cons_succ]
                refine wpAnyH_take (i := 1) (oi := ?oo80) (v := ?vv80) ?ii80 (by kernel_rfl) ?ff80 (by kernel_rfl) ?qq80 (Or.inl ⟨?ww80, ?yy80⟩) hSd ?rr80
                case ii80 => simp only [List.getElem?_toArray, List.getElem?_cons_succ, List.getElem?_cons_zero]; rfl
                case ff80 => kernel_rfl
                case qq80 => exact fun _ _ _ h => h
                case ww80 => rfl
                case yy80 => intro W hW; go_simp <;> with_reducible rfl
                simp only [Act.put, List.setIfInBounds_toArray, List.set_cons_zero, List.set_cons_succ]
                refine wpAnyH_take (i := 3) (oi := ?oo81) (v := ?vv81) ?ii81 (by kernel_rfl) ?ff81 (by kernel_rfl) ?qq81 (Or.inl ⟨?ww81, ?yy81⟩) hSd ?rr81
                case ii81 => simp only [List.getElem?_toArray, List.getElem?_cons_succ, List.getElem?_cons_zero]; rfl
                case ff81 => kernel_rfl
                case qq81 => exact fun _ _ _ h => h
                case ww81 => rfl
                case yy81 => intro W hW; go_simp <;> with_reducible rfl
                simp only [Act.put, List.setIfInBounds_toArray, List.set_cons_zero, List.set_cons_succ]
                refine wpAnyH_take (i := 4) (oi := ?oo82) (v := ?vv82) ?ii82 (by kernel_rfl) ?ff82 (by kernel_rfl) ?qq82 (Or.inl ⟨?ww82, ?yy82⟩) hSd ?rr82
                case ii82 => simp only [List.getElem?_toArray, List.getElem?_cons_succ, List.getElem?_cons_zero]; rfl
                case ff82 => kernel_rfl
                case qq82 => exact fun _ _ _ h => h
                case ww82 => rfl
                case yy82 => intro W hW; go_simp <;> with_reducible rfl
                simp only [Act.put, List.setIfInBounds_toArray, List.set_cons_zero, List.set_cons_succ]
                refine wpAnyH_take (i := 5) (oi := ?oo83) (v := ?vv83) ?ii83 (by kernel_rfl) ?ff83 (by kernel_rfl) ?qq83 (Or.inl ⟨?ww83, ?yy83⟩) hSd ?rr83
                case ii83 => simp only [List.getElem?_toArray, List.getElem?_cons_succ, List.getElem?_cons_zero]; rfl
                case ff83 => kernel_rfl
                case qq83 => exact fun _ _ _ h => h
                case ww83 => rfl
                case yy83 => intro W hW; go_simp <;> with_reducible rfl
                simp only [Act.put, List.setIfInBounds_toArray, List.set_cons_zero, List.set_cons_succ]
                refine wpAnyH_take (i := 6) (oi := ?oo84) (v := ?vv84) ?ii84 (by kernel_rfl) ?ff84 (by kernel_rfl) ?qq84 (Or.inl ⟨?ww84, ?yy84⟩) hSd ?rr84
                case ii84 => simp only [List.getElem?_toArray, List.getElem?_cons_succ, List.getElem?_cons_zero]; rfl
                case ff84 => kernel_rfl
                case qq84 => exact fun _ _ _ h => h
                case ww84 => rfl
                case yy84 => intro W hW; go_simp <;> with_reducible rfl
                simp only [Act.put, List.setIfInBounds_toArray, List.set_cons_zero, List.set_cons_succ]
                refine wpAnyH_take (i := 7) (oi := ?oo85) (v := ?vv85) ?ii85 (by kernel_rfl) ?ff85 (by kernel_rfl) ?qq85 (Or.inl ⟨?ww85, ?yy85⟩) hSd ?rr85
                case ii85 => simp only [List.getElem?_toArray, List.getElem?_cons_succ, List.getElem?_cons_zero]; rfl
                case ff85 => kernel_rfl
                case qq85 => exact fun _ _ _ h => h
                case ww85 => rfl
                case yy85 => intro W hW; go_simp <;> with_reducible rfl
                simp only [Act.put, List.setIfInBounds_toArray, List.set_cons_zero, List.set_cons_succ]
                refine wpAnyH_take (i := 8) (oi := ?oo86) (v := ?vv86) ?ii86 (by kernel_rfl) ?ff86 (by kernel_rfl) ?qq86 (Or.inl ⟨?ww86, ?yy86⟩) hSd ?rr86
                case ii86 => simp only [List.getElem?_toArray, List.getElem?_cons_succ, List.getElem?_cons_zero]; rfl
                case ff86 => kernel_rfl
                case qq86 => exact fun _ _ _ h => h
                case ww86 => rfl
                case yy86 => intro W hW; go_simp <;> with_reducible rfl
                simp only [Act.put, List.setIfInBounds_toArray, List.set_cons_zero, List.set_cons_succ]
                refine wpAnyH_take (i := 9) (oi := ?oo87) (v := ?vv87) ?ii87 (by kernel_rfl) ?ff87 (by kernel_rfl) ?qq87 (Or.inl ⟨?ww87, ?yy87⟩) hSd ?rr87
                case ii87 => simp only [List.getElem?_toArray, List.getElem?_cons_succ, List.getElem?_cons_zero]; rfl
                case ff87 => kernel_rfl
                case qq87 => exact fun _ _ _ h => h
                case ww87 => rfl
                case yy87 => intro W hW; go_simp <;> with_reducible rfl
                simp only [Act.put, List.setIfInBounds_toArray, List.set_cons_zero, List.set_cons_succ]
                refine wpAnyH_take (i := 10) (oi := ?oo88) (v := ?vv88) ?ii88 (by kernel_rfl) ?ff88 (by kernel_rfl) ?qq88 (Or.inl ⟨?ww88, ?yy88⟩) hSd ?rr88
                case ii88 => simp only [List.getElem?_toArray, List.getElem?_cons_succ, List.getElem?_cons_zero]; rfl
                case ff88 => kernel_rfl
                case qq88 => exact fun _ _ _ h => h
                case ww88 => rfl
                case yy88 => intro W hW; go_simp <;> with_reducible rfl
                simp only [Act.put, List.setIfInBounds_toArray, List.set_cons_zero, List.set_cons_succ]
                refine wpAnyH_take (i := 11) (oi := ?oo89) (v := ?vv89) ?ii89 (by kernel_rfl) ?ff89 (by kernel_rfl) ?qq89 (Or.inl ⟨?ww89, ?yy89⟩) hSd ?rr89
                case ii89 => simp only [List.getElem?_toArray, List.getElem?_cons_succ, List.getElem?_cons_zero]; rfl
                case ff89 => kernel_rfl
                case qq89 => exact fun _ _ _ h => h
                case ww89 => rfl
                case yy89 => intro W hW; go_simp <;> with_reducible rfl
                simp only [Act.put, List.setIfInBounds_toArray, List.set_cons_zero, List.set_cons_succ]
                refine wpAnyH_take (i := 12) (oi := ?oo90) (v := ?vv90) ?ii90 (by kernel_rfl) ?ff90 (by kernel_rfl) ?qq90 (Or.inl ⟨?ww90, ?yy90⟩) hSd ?rr90
                case ii90 => simp only [List.getElem?_toArray, List.getElem?_cons_succ, List.getElem?_cons_zero]; rfl
                case ff90 => kernel_rfl
                case qq90 => exact fun _ _ _ h => h
                case ww90 => rfl
                case yy90 => intro W hW; go_simp <;> with_reducible rfl
                simp only [Act.put, List.setIfInBounds_toArray, List.set_cons_zero, List.set_cons_succ]
                refine wpAnyH_ready (rs := [2]) (by kernel_rfl) (by simp) ?_
                refine AllReadyH.cons (o := ?oo91) ?ii91 (fun K hK => ?_) AllReadyH.nil
                case ii91 => simp only [List.getElem?_toArray, List.getElem?_cons_succ, List.getElem?_cons_zero]; rfl
                go_simp
                refine HT.out.mono ?_
                rintro e w6 ⟨rfl, h6, ha6⟩
                have hb6 : Below w.heap.size wr w6 := ha6.undrew.below HBr.out (fun q e => by have e : q = br := e; have := hbr1.out; omega)
                have Hh := Lib.hid (heldText (b := b) (o := off + j * 4 + 2) hS2 hb hb6)
                have HF := Lib.hid (back_next hjm Hx.out Hac.out hbr1.out HBr.out Hbj.out h6 (by rw [WireP.num_length]) ha6.undrew)
                clear h6 ha6 hb6
                go_wp2_with fail
                refine hK.out _ _ Hh.out (fun _ => ?_)
                clear hK K
                refine wpAnyH_take (i := 13) (oi := ?oo92) (v := ?vv92) ?ii92 (by kernel_rfl) ?ff92 (by kernel_rfl) ?qq92 (Or.inl ⟨?ww92, ?yy92⟩) Hh.out ?rr92
                case ii92 => simp only [List.getElem?_toArray, List.getElem?_cons_succ, List.getElem?_cons_zero]; rfl
                case ff92 => kernel_rfl
                case qq92 => exact fun _ _ _ h => h
                case ww92 => rfl
                case yy92 => intro W hW; go_simp <;> with_reducible rfl
                simp only [Act.put, List.setIfInBounds_toArray, List.set_cons_zero, List.set_cons_succ]
                refine wpAnyH_done (by kernel_rfl) ?_ _
                go_wp2_with fail
                go_roundw
                case rel => exact HF.out
                case measure => simp [intOf]; omega
          · obtain rfl : j = k := by omega
            have HE := Lib.hid (end_any br A4 n3 cap4 (enc f j) (enc f j).length false wr hrd)
            rw [Hn3.out] at HE
            have Hbj := Lib.hid hbj
            have HBr := Lib.hid (Nat.le_trans hbr1.out (Nat.le_of_lt (lt_of_block hrd.block)))
            have hde : (!false && decide (n3 ≤ n3)) = true := by simp
            rw [hde] at HE
            clear hrd hbj hde
            have q100j : decide ((j : Int) < 100) = false := by rw [decide_eq_false_iff_not]; omega
            go_wp2_with fail
            refine HE.out.mono ?_
            rintro e w6 ⟨v6, rfl, -, h6, hb6⟩
            have h6' : v6 = .nilIface := h6
            subst h6'
            have HF : Hid (AwakePost w (.returned (.bool true)) w6) := Lib.hid ⟨rfl, Hbj.out.trans (hb6.mono HBr.out)⟩
            clear h6 hb6
            go_wp2_with fail
            go_ret
            exact HF.out
    · obtain ⟨wo, hwo⟩ : ∃ wo : World, wo = wr := ⟨_, rfl⟩
      subst hwo
      have hel := enc_length f k
      have HY := Lib.hid (bytes_any w1.heap.size w.heap.size g (enc f k) wo (by omega) hw)
      have HB := Lib.hid (Nat.le_trans Hs.out (Nat.le_of_lt hw.lt))
      have Hbw := Lib.hid hbw
      clear hw hbw
      go_wp2_with fail
      refine HY.out.mono ?_
      rintro e w3 ⟨v3, g3, rfl, hr3, hb3⟩
      obtain ⟨A3, c3, hv3, hc3, hg3, hby3⟩ := hr3.bytes
      generalize hn3 : (enc f k).length = n3 at *
      subst hv3
      have hn3' : n3 ≤ 25600 := by omega
      have HRd := Lib.hid (read_new A3 n3 c3 (enc f k) hn3 (by omega) w3 hby3)
      have Hb3 := Lib.hid (Hbw.out.trans (hb3.mono HB.out))
      have HB3 := Lib.hid (Nat.le_trans HB.out hb3.size)
      have Hn3 := Lib.hid hn3
      clear hr3 hb3 hc3 hg3 hby3 HY hn3 hel
      go_wp2_with fail
      refine HRd.out.mono ?_
      rintro e w4 ⟨br, A4, cap4, rfl, hbr, -, hr4, hb4⟩
      rw [Hn3.out] at hr4
      have hbr1 := Lib.hid (Nat.le_trans HB3.out hbr)
      have Hst : Hid (BackRead w.heap.size br k A4 n3 cap4 f w (.int .i64 0) w4) := Lib.hid ⟨0, Nat.zero_le _, rfl, hr4, Hb3.out.trans (hb4.mono HB3.out)⟩
      clear hbr hr4 hb4 HRd
      go_wp2_with fail
      go_loopw [6] (fun i wr => BackRead w.heap.size br k A4 n3 cap4 f w i wr) (fun i _ => (k + 1 - intOf i).toNat)
      case atStart => exact Hst.out
      case round =>
        clear Hst
        obtain ⟨j, hj, rfl, hrd, hbj⟩ := hrel
        by_cases hjm : j < k
        · have hjl : j < len := by omega
          have q100j : decide ((j : Int) < 100) = true := by rw [decide_eq_true_iff]; omega
          obtain ⟨b, off, rfl, hb, hfk⟩ := Hf.out (by omega)
          have hby0 := (hfk j hjl).bytes
          obtain ⟨a0, a1, a2, a3, a4, a5, a6, a7, a8, a9, a10⟩ := (hfk j hjl).below hb hbj
          have hbw2 : b < wr.heap.size := Nat.lt_of_lt_of_le hb hbj.size
          have HBr := Lib.hid (Nat.le_trans hbr1.out (Nat.le_of_lt (lt_of_block hrd.block)))
          obtain ⟨r, hr⟩ := enc_split f k j hjm
          generalize hx : f j = x at *
          obtain ⟨kd, sz, num, DA, dm, dc, dat⟩ := x
          simp only at hby0 a0 a1 a2 a3 a4 a5 a6 a7 a8 a9 a10
          have hS : wr.cell? ⟨b, off + j * 4 + 3, none⟩ = some (.slice DA dm dc) ∧ Below w.heap.size w wr := ⟨a3, hbj⟩
          by_cases hkind : kd = 1
          · subst hkind
            have hac : actB (⟨1, sz, num, DA, dm, dc, dat⟩ : ActC) = WireP.text dat := by simp [actB]
            rw [hac] at hr
            have HT := Lib.hid (fun W (hW : ReaderAt W br A4 n3 cap4 (enc f k) (enc f j).length false) => tell_any br A4 n3 cap4 (enc f k) (enc f j).length false W hW)
            have ht := tell_at (enc f j) r dat
            rw [← hr] at ht
            rw [ht] at HT
            have HN : Hid (∀ W w6, Below w.heap.size w W → w.heap.size ≤ W.heap.size → ReaderAt w6 br A4 n3 cap4 (enc f k) ((enc f j).length + (WireP.text dat).length) false → Apart (RF br) W w6 → BackRead w.heap.size br k A4 n3 cap4 f w (.int .i64 ((j : Int) + 1)) w6) := Lib.hid fun W w6 h1 h2 h3 h4 => back_next hjm hx hac hbr1.out h2 h1 h3 rfl h4
            have Hcv := Lib.hid (fun W (hW : Below w.heap.size w W) (q : Nat) (hq : (dat.take 255).length = q) => conv_any (w := W) (A := DA) (n := q) (cap := dc) (l := dat.take 255) hq ((((hby0.below hW (Nat.le_refl _)).more hW.size).take 255)))
            have Hrd := Lib.hid hrd
            have Hbj := Lib.hid hbj
            clear hby0 hfk hx hac hr ht hrd hbj a7 Hf a1 a2 a10 a9 a8
            by_cases h255 : (dm : Int) ≤ 255
            · have hsl := fun W => run_slice_to (P := Try.prog) W 24 5 Try.underlying24 (fun w => by kernel_rfl) DA dm dc ((dm : Nat) : Int) (by omega) (by omega)
              simp only [Int.toNat_natCast] at hsl
              have hmin : (if (255 : Int) < (dm : Int) then (255 : Int) else (dm : Int)) = (dm : Int) := if_neg (by omega)
              have hql : (dat.take 255).length = dm := by rw [List.length_take]; omega
              have hcv := fun W hW => Hcv.out W hW dm hql
              have Hql := Lib.hid hql
              clear hql a4
              simp only [strV] at hcv
              go_wp2_with fail
              have hSd : wr.drew.cell? ⟨b, off + j * 4 + 3, none⟩ = some (.slice DA dm dc) ∧ Below w.heap.size w wr.drew := ⟨a3, Hbj.out.drew⟩
              refine wp_region_held_drew (S := fun W => W.cell? ⟨b, off + j * 4 + 3, none⟩ = some (.slice DA dm dc) ∧ Below w.heap.size w W) (by kernel_rfl) hSd (fun _ => ?_)
              refine wpAnyH_take (i := 0) (oi := ?oo93) (v := ?vv93) ?ii93 (by kernel_rfl) ?ff93 (by kernel_rfl) ?qq93 (Or.inl ⟨?ww93, ?yy93⟩) hSd ?rr93
              case ii93 => simp only [List.getElem?_toArray, List.getElem?_cons_zero]; rfl
              case ff93 => kernel_rfl
              case qq93 => exact fun _ _ _ h => h
              case ww93 => rfl
              case yy93 => intro W hW; go_simp <;> with_reducible rfl
              simp only [Act.put, List.setIfInBounds_toArray, List.set_cons_zero, List.set_cons_succ]
              refine wpAnyH_take (i := 3) (oi := ?oo94) (v := ?vv94) ?ii94 (by kernel_rfl) ?ff94 (by kernel_rfl) ?qq94 (Or.inl ⟨?ww94, ?yy94⟩) hSd ?rr94
              case ii94 => simp only [List.getElem?_toArray, List.getElem?_cons_succ, List.getElem?_cons_zero]; rfl
              case ff94 => kernel_rfl
              case qq94 => exact fun _ _ _ h => h
              case ww94 => rfl
              case yy94 => intro W hW; go_simp <;> with_reducible rfl
              simp only [Act.put, List.setIfInBounds_toArray, List.set_cons_zero, List.set_cons_succ]
              refine wpAnyH_take (i := 4) (oi := ?oo95) (v := ?vv95) ?ii95 (by kernel_rfl) ?ff95 (by kernel_rfl) ?qq95 (Or.inl ⟨?ww95, ?yy95⟩) hSd ?rr95
              case ii95 => simp only [List.getElem?_toArray, List.getElem?_cons_succ, List.getElem?_cons_zero]; rfl
              case ff95 => kernel_rfl
              case qq95 => exact fun _ _ _ h => h
              case ww95 => rfl
              case yy95 => intro W hW; go_simp <;> with_reducible rfl
              simp only [Act.put, List.setIfInBounds_toArray, List.set_cons_zero, List.set_cons_succ]
              refine wpAnyH_take (i := 5) (oi := ?oo96) (v := ?vv96) ?ii96 (by kernel_rfl) ?ff96 (by kernel_rfl) ?qq96 (Or.inl ⟨?ww96, ?yy96⟩) hSd ?rr96
              case ii96 => simp only [List.getElem?_toArray, List.getElem?_cons_succ, List.getElem?_cons_zero]; rfl
              case ff96 => kernel_rfl
              case qq96 => exact fun _ _ _ h => h
              case ww96 => rfl
              case yy96 => intro W hW; go_simp <;> with_reducible rfl
              simp only [Act.put, List.setIfInBounds_toArray, List.set_cons_zero, List.set_cons_succ]
              refine wpAnyH_take (i := 6) (oi := ?oo97) (v := ?vv97) ?ii97 (by kernel_rfl) ?ff97 (by kernel_rfl) ?qq97 (Or.inl ⟨?ww97, ?yy97⟩) hSd ?rr97
              case ii97 => simp only [List.getElem?_toArray, List.getElem?_cons_succ, List.getElem?_cons_zero]; rfl
              case ff97 => kernel_rfl
              case qq97 => exact fun _ _ _ h => h
              case ww97 => rfl
              case yy97 => intro W hW; go_simp <;> with_reducible rfl
              simp only [Act.put, List.setIfInBounds_toArray, List.set_cons_zero, List.set_cons_succ]
              refine wpAnyH_take (i := 7) (oi := ?oo98) (v := ?vv98) ?ii98 (by kernel_rfl) ?ff98 (by kernel_rfl) ?qq98 (Or.inl ⟨?ww98, ?yy98⟩) hSd ?rr98
              case ii98 => simp only [List.getElem?_toArray, List.getElem?_cons_succ, List.getElem?_cons_zero]; rfl
              case ff98 => kernel_rfl
              case qq98 => exact fun _ _ _ h => h
              case ww98 => rfl
              case yy98 => intro W hW; go_simp <;> with_reducible rfl
              simp only [Act.put, List.setIfInBounds_toArray, List.set_cons_zero, List.set_cons_succ]
              refine wpAnyH_take (i := 8) (oi := ?oo99) (v := ?vv99) ?ii99 (by kernel_rfl) ?ff99 (by kernel_rfl) ?qq99 (Or.inl ⟨?ww99, ?yy99⟩) hSd ?rr99
              case ii99 => simp only [List.getElem?_toArray, List.getElem?_cons_succ, List.getElem?_cons_zero]; rfl
              case ff99 => kernel_rfl
              case qq99 => exact fun _ _ _ h => h
              case ww99 => rfl
              case yy99 => intro W hW; go_simp <;> with_reducible rfl
              simp only [Act.put, List.setIfInBounds_toArray, List.set_cons_zero, List.set_cons_succ]
              refine wpAnyH_take (i := 9) (oi := ?oo100) (v := ?vv100) ?ii100 (by kernel_rfl) ?ff100 (by kernel_rfl) ?qq100 (Or.inl ⟨?ww100, ?yy100⟩) hSd ?rr100
              case ii100 => simp only [List.getElem?_toArray, List.getElem?_cons_succ, List.getElem?_cons_zero]; rfl
              case ff100 => kernel_rfl
              case qq100 => exact fun _ _ _ h => h
              case ww100 => rfl
              case yy100 => intro W hW; go_simp <;> with_reducible rfl
              simp only [Act.put, List.setIfInBounds_toArray, List.set_cons_zero, List.set_cons_succ]
              refine wpAnyH_take (i := 10) (oi := ?oo101) (v := ?vv101) ?ii101 (by kernel_rfl) ?ff101 (by kernel_rfl) ?qq101 (Or.inl ⟨?ww101, ?yy101⟩) hSd ?rr101
              case ii101 => simp only [List.getElem?_toArray, List.getElem?_cons_succ, List.getElem?_cons_zero]; rfl
              case ff101 => kernel_rfl
              case qq101 => exact fun _ _ _ h => h
              case ww101 => rfl
              case yy101 => intro W hW; go_simp <;> with_reducible rfl
              simp only [Act.put, List.setIfInBounds_toArray, List.set_cons_zero, List.set_cons_succ]
              refine wpAnyH_take (i := 11) (oi := ?oo102) (v := ?vv102) ?ii102 (by kernel_rfl) ?ff102 (by kernel_rfl) ?qq102 (Or.inl ⟨?ww102, ?yy102⟩) hSd ?rr102
              case ii102 => simp only [List.getElem?_toArray, List.getElem?_cons_succ, List.getElem?_cons_zero]; rfl
              case ff102 => kernel_rfl
              case qq102 => exact fun _ _ _ h => h
              case ww102 => rfl
              case yy102 => intro W hW; go_simp <;> with_reducible rfl
              simp only [Act.put, List.setIfInBounds_toArray, List.set_cons_zero, List.set_cons_succ]
              refine wpAnyH_take (i := 12) (oi := ?oo103) (v := ?vv103) ?ii103 (by kernel_rfl) ?ff103 (by kernel_rfl) ?qq103 (Or.inl ⟨?ww103, ?yy103⟩) hSd ?rr103
              case ii103 => simp only [List.getElem?_toArray, List.getElem?_cons_succ, List.getElem?_cons_zero]; rfl
              case ff103 => kernel_rfl
              case qq103 => exact fun _ _ _ h => h
              case ww103 => rfl
              case yy103 => intro W hW; go_simp <;> with_reducible rfl
              simp only [Act.put, List.setIfInBounds_toArray, List.set_cons_zero, List.set_cons_succ]
              refine wpAnyH_take (i := 13) (oi := ?oo104) (v := ?vv104) ?ii104 (by kernel_rfl) ?ff104 (by kernel_rfl) ?qq104 (Or.inl ⟨?ww104, ?yy104⟩) hSd ?rr104
              case ii104 => simp only [List.getElem?_toArray, List.getElem?_cons_succ, List.getElem?_cons_zero]; rfl
              case ff104 => kernel_rfl
              case qq104 => exact fun _ _ _ h => h
              case ww104 => rfl
              case yy104 => intro W hW; go_simp <;> with_reducible rfl
              simp only [Act.put, List.setIfInBounds_toArray, List.set_cons_zero, List.set_cons_succ]
              refine wpAnyH_take (i := 14) (oi := ?oo105) (v := ?vv105) ?ii105 (by kernel_rfl) ?ff105 (by kernel_rfl) ?qq105 (Or.inl ⟨?ww105, ?yy105⟩) hSd ?rr105
              case ii105 => simp only [List.getElem?_toArray, List.getElem?_cons_succ, List.getElem?_cons_zero]; rfl
              case ff105 => kernel_rfl
              case qq105 => exact fun _ _ _ h => h
              case ww105 => rfl
              case yy105 => intro W hW; go_simp <;> with_reducible rfl
              simp only [Act.put, List.setIfInBounds_toArray, List.set_cons_zero, List.set_cons_succ]
              refine wpAnyH_take (i := 15) (oi := ?oo106) (v := ?vv106) ?ii106 (by kernel_rfl) ?ff106 (by kernel_rfl) ?qq106 (Or.inl ⟨?ww106, ?yy106⟩) hSd ?rr106
              case ii106 => simp only [List.getElem?_toArray, List.getElem?_cons_succ, List.getElem?_cons_zero]; rfl
              case ff106 => kernel_rfl
              case qq106 => exact fun _ _ _ h => h
              case ww106 => rfl
              case yy106 => intro W hW; go_simp <;> with_reducible rfl
              simp only [Act.put, List.setIfInBounds_toArray, List.set_cons_zero, List.set_cons_succ]
              have hcv' := fun W (hW : W.cell? ⟨b, off + j * 4 + 3, none⟩ = some (.slice DA dm dc) ∧ Below w.heap.size w W) => hcv W hW.2
              refine wpAnyH_take (i := 16) (oi := ?oo107) (v := ?vv107) ?ii107 (by kernel_rfl) ?ff107 (by kernel_rfl) ?qq107 (Or.inl ⟨?ww107, ?yy107⟩) hSd ?rr107
              case ii107 => simp only [List.getElem?_toArray, List.getElem?_cons_succ, List.getElem?_cons_zero]; rfl
              case ff107 => kernel_rfl
              case qq107 => exact fun _ _ _ h => h
              case ww107 => rfl
              case yy107 => intro W hW; go_simp <;> with_reducible rfl
              simp only [Act.put, List.setIfInBounds_toArray, List.set_cons_zero, List.set_cons_succ]
              refine wpAnyH_ready (rs := [1]) (by kernel_rfl) (by simp) ?_
              refine AllReadyH.cons (o := ?oo108) ?ii108 (fun K hK => ?_) AllReadyH.nil
              case ii108 => simp only [List.getElem?_toArray, List.getElem?_cons_succ, List.getElem?_cons_zero]; rfl
              go_simp
              refine (HT.out _ Hrd.out.drew).mono ?_
              rintro e w6 ⟨v6, g6, rfl, hr6, h6, ha6⟩
              have hb6 : Below w.heap.size wr w6 := ha6.undrew.below HBr.out (fun q e => by have e : q = br := e; have := hbr1.out; omega)
              have hh := heldText (b := b) (o := off + j * 4 + 3) hS hb hb6
              obtain ⟨A6, c6, hv6, -, -, hby6⟩ := hr6.bytes
              rw [Hql.out] at hv6
              subst hv6
              have ks6 := fun W (hW : Below w6.heap.size w6 W) => conv_any (cap := c6) Hql.out ((hby6.below hW (Nat.le_refl _)).more hW.size)
              have HF := Lib.hid (HN.out wr w6 Hbj.out HBr.out h6 ha6.undrew)
              have h66 := Below.refl w6.heap.size w6
              have Hh := Lib.hid hh
              simp only [strV] at ks6
              clear hr6 h6 ha6 hb6 hby6 hh
              go_wp2_with fail
              refine hK.out _ _ Hh.out (fun _ => ?_)
              clear hK K
              refine wpAnyH_mono (S' := fun W => Below w6.heap.size w6 W) (fun W hW => heldText Hh.out hb (hW.mono (Hh.out.2.size))) _ _ _ _ ?_
              refine wpAnyH_take (i := 2) (oi := ?oo109) (v := ?vv109) ?ii109 (by kernel_rfl) ?ff109 (by kernel_rfl) ?qq109 (Or.inl ⟨?ww109, ?yy109⟩) h66 ?rr109
              case ii109 => simp only [List.getElem?_toArray, List.getElem?_cons_succ, List.getElem?_cons_zero]; rfl
              case ff109 => kernel_rfl
              case qq109 => exact fun _ _ _ h => h
              case ww109 => rfl
              case yy109 => intro W hW; go_simp <;> with_reducible rfl
              simp only [Act.put, List.setIfInBounds_toArray, List.set_cons_zero, List.set_cons_succ]
              refine wpAnyH_take (i := 17) (oi := ?oo110) (v := ?vv110) ?ii110 (by kernel_rfl) ?ff110 (by kernel_rfl) ?qq110 (Or.inl ⟨?ww110, ?yy110⟩) h66 ?rr110
              case ii110 => simp only [List.getElem?_toArray, List.getElem?_cons_succ, List.getElem?_cons_zero]; rfl
              case ff110 => kernel_rfl
              case qq110 => exact fun _ _ _ h => h
              case ww110 => rfl
              case yy110 => intro W hW; go_simp <;> with_reducible rfl
              simp only [Act.put, List.setIfInBounds_toArray, List.set_cons_zero, List.set_cons_succ]
              refine wpAnyH_done (by kernel_rfl) ?_ _
              go_wp2_with fail
              go_roundw
              case rel => exact HF.out
              case measure => simp [intOf]; omega
            · have hsl := fun W => run_slice_to (P := Try.prog) W 24 5 Try.underlying24 (fun w => by kernel_rfl) DA dm dc (255 : Int) (by omega) (by omega)
              have h255' : (255 : Int) < dm := by omega
              have hql : (dat.take 255).length = 255 := by rw [List.length_take]; omega
              have hcv := fun W hW => Hcv.out W hW 255 hql
              have Hql := Lib.hid hql
              clear hql a4
              simp only [strV] at hcv
              go_wp2_with fail
              have hSd : wr.drew.cell? ⟨b, off + j * 4 + 3, none⟩ = some (.slice DA dm dc) ∧ Below w.heap.size w wr.drew := ⟨a3, Hbj.out.drew⟩
              refine wp_region_held_drew (S := fun W => W.cell? ⟨b, off + j * 4 + 3, none⟩ = some (.slice DA dm dc) ∧ Below w.heap.size w W) (by kernel_rfl) hSd (fun _ => ?_)
              refine wpAnyH_take (i := 0) (oi := ?oo111) (v := ?vv111) ?ii111 (by kernel_rfl) ?ff111 (by kernel_rfl) ?qq111 (Or.inl ⟨?ww111, ?yy111⟩) hSd ?rr111
              case ii111 => simp only [List.getElem?_toArray, List.getElem?_cons_zero]; rfl
              case ff111 => kernel_rfl
              case qq111 => exact fun _ _ _ h => h
              case ww111 => rfl
              case yy111 => intro W hW; go_simp <;> with_reducible rfl
              simp only [Act.put, List.setIfInBounds_toArray, List.set_cons_zero, List.set_cons_succ]
              refine wpAnyH_take (i := 3) (oi := ?oo112) (v := ?vv112) ?ii112 (by kernel_rfl) ?ff112 (by kernel_rfl) ?qq112 (Or.inl ⟨?ww112, ?yy112⟩) hSd ?rr112
              case ii112 => simp only [List.getElem?_toArray, List.getElem?_cons_succ, List.getElem?_cons_zero]; rfl
              case ff112 => kernel_rfl
              case qq112 => exact fun _ _ _ h => h
              case ww112 => rfl
              case yy112 => intro W hW; go_simp <;> with_reducible rfl
              simp only [Act.put, List.setIfInBounds_toArray, List.set_cons_zero, List.set_cons_succ]
              refine wpAnyH_take (i := 4) (oi := ?oo113) (v := ?vv113) ?ii113 (by kernel_rfl) ?ff113 (by kernel_rfl) ?qq113 (Or.inl ⟨?ww113, ?yy113⟩) hSd ?rr113
              case ii113 => simp only [List.getElem?_toArray, List.getElem?_cons_succ, List.getElem?_cons_zero]; rfl
              case ff113 => kernel_rfl
              case qq113 => exact fun _ _ _ h => h
              case ww113 => rfl
              case yy113 => intro W hW; go_simp <;> with_reducible rfl
              simp only [Act.put, List.setIfInBounds_toArray, List.set_cons_zero, List.set_cons_succ]
              refine wpAnyH_take (i := 5) (oi := ?oo114) (v := ?vv114) ?ii114 (by kernel_rfl) ?ff114 (by kernel_rfl) ?qq114 (Or.inl ⟨?ww114, ?yy114⟩) hSd ?rr114
              case ii114 => simp only [List.getElem?_toArray, List.getElem?_cons_succ, List.getElem?_cons_zero]; rfl
              case ff114 => kernel_rfl
              case qq114 => exact fun _ _ _ h => h
              case ww114 => rfl
              case yy114 => intro W hW; go_simp <;> with_reducible rfl
              simp only [Act.put, List.setIfInBounds_toArray, List.set_cons_zero, List.set_cons_succ]
              refine wpAnyH_take (i := 6) (oi := ?oo115) (v := ?vv115) ?ii115 (by kernel_rfl) ?ff115 (by kernel_rfl) ?qq115 (Or.inl ⟨?ww115, ?yy115⟩) hSd ?rr115
              case ii115 => simp only [List.getElem?_toArray, List.getElem?_cons_succ, List.getElem?_cons_zero]; rfl
              case ff115 => kernel_rfl
              case qq115 => exact fun _ _ _ h => h
              case ww115 => rfl
              case yy115 => intro W hW; go_simp <;> with_reducible rfl
              simp only [Act.put, List.setIfInBounds_toArray, List.set_cons_zero, List.set_cons_succ]
              refine wpAnyH_take (i := 7) (oi := ?oo116) (v := ?vv116) ?ii116 (by kernel_rfl) ?ff116 (by kernel_rfl) ?qq116 (Or.inl ⟨?ww116, ?yy116⟩) hSd ?rr116
              case ii116 => simp only [List.getElem?_toArray, List.getElem?_cons_succ, List.getElem?_cons_zero]; rfl
              case ff116 => kernel_rfl
              case qq116 => exact fun _ _ _ h => h
              case ww116 => rfl
              case yy116 => intro W hW; go_simp <;> with_reducible rfl
              simp only [Act.put, List.setIfInBounds_toArray, List.set_cons_zero, List.set_cons_succ]
              refine wpAnyH_take (i := 8) (oi := ?oo117) (v := ?vv117) ?ii117 (by kernel_rfl) ?ff117 (by kernel_rfl) ?qq117 (Or.inl ⟨?ww117, ?yy117⟩) hSd ?rr117
              case ii117 => simp only [List.getElem?_toArray, List.getElem?_cons_succ, List.getElem?_cons_zero]; rfl
              case ff117 => kernel_rfl
              case qq117 => exact fun _ _ _ h => h
              case ww117 => rfl
              case yy117 => intro W hW; go_simp <;> with_reducible rfl
              simp only [Act.put, List.setIfInBounds_toArray, List.set_cons_zero, List.set_cons_succ]
              refine wpAnyH_take (i := 9) (oi := ?oo118) (v := ?vv118) ?ii118 (by kernel_rfl) ?ff118 (by kernel_rfl) ?qq118 (Or.inl ⟨?ww118, ?yy118⟩) hSd ?rr118
              case ii118 => simp only [List.getElem?_toArray, List.getElem?_cons_succ, List.getElem?_cons_zero]; rfl
              case ff118 => kernel_rfl
              case qq118 => exact fun _ _ _ h => h
              case ww118 => rfl
              case yy118 => intro W hW; go_simp <;> with_reducible rfl
              simp only [Act.put, List.setIfInBounds_toArray, List.set_cons_zero, List.set_cons_succ]
              refine wpAnyH_take (i := 10) (oi := ?oo119) (v := ?vv119) ?ii119 (by kernel_rfl) ?ff119 (by kernel_rfl) ?qq119 (Or.inl ⟨?ww119, ?yy119⟩) hSd ?rr119
              case ii119 => simp only [List.getElem?_toArray, List.getElem?_cons_succ, List.getElem?_cons_zero]; rfl
              case ff119 => kernel_rfl
              case qq119 => exact fun _ _ _ h => h
              case ww119 => rfl
              case yy119 => intro W hW; go_simp <;> with_reducible rfl
              simp only [Act.put, List.setIfInBounds_toArray, List.set_cons_zero, List.set_cons_succ]
              refine wpAnyH_take (i := 11) (oi := ?oo120) (v := ?vv120) ?ii120 (by kernel_rfl) ?ff120 (by kernel_rfl) ?qq120 (Or.inl ⟨?ww120, ?yy120⟩) hSd ?rr120
              case ii120 => simp only [List.getElem?_toArray, List.getElem?_cons_succ, List.getElem?_cons_zero]; rfl
              case ff120 => kernel_rfl
              case qq120 => exact fun _ _ _ h => h
              case ww120 => rfl
              case yy120 => intro W hW; go_simp <;> with_reducible rfl
              simp only [Act.put, List.setIfInBounds_toArray, List.set_cons_zero, List.set_cons_succ]
              refine wpAnyH_take (i := 12) (oi := ?oo121) (v := ?vv121) ?ii121 (by kernel_rfl) ?ff121 (by kernel_rfl) ?qq121 (Or.inl ⟨?ww121, ?yy121⟩) hSd ?rr121
              case ii121 => simp only [List.getElem?_toArray, List.getElem?_cons_succ, List.getElem?_cons_zero]; rfl
              case ff121 => kernel_rfl
              case qq121 => exact fun _ _ _ h => h
              case ww121 => rfl
              case yy121 => intro W hW; go_simp <;> with_reducible rfl
              simp only [Act.put, List.setIfInBounds_toArray, List.set_cons_zero, List.set_cons_succ]
              refine wpAnyH_take (i := 13) (oi := ?oo122) (v := ?vv122) ?ii122 (by kernel_rfl) ?ff122 (by kernel_rfl) ?qq122 (Or.inl ⟨?ww122, ?yy122⟩) hSd ?rr122
              case ii122 => simp only [List.getElem?_toArray, List.getElem?_cons_succ, List.getElem?_cons_zero]; rfl
              case ff122 => kernel_rfl
              case qq122 => exact fun _ _ _ h => h
              case ww122 => rfl
              case yy122 => intro W hW; go_simp <;> with_reducible rfl
              simp only [Act.put, List.setIfInBounds_toArray, List.set_cons_zero, List.set_cons_succ]
              refine wpAnyH_take (i := 14) (oi := ?oo123) (v := ?vv123) ?ii123 (by kernel_rfl) ?ff123 (by kernel_rfl) ?qq123 (Or.inl ⟨?ww123, ?yy123⟩) hSd ?rr123
              case ii123 => simp only [List.getElem?_toArray, List.getElem?_cons_succ, List.getElem?_cons_zero]; rfl
              case ff123 => kernel_rfl
              case qq123 => exact fun _ _ _ h => h
              case ww123 => rfl
              case yy123 => intro W hW; go_simp <;> with_reducible rfl
              simp only [Act.put, List.setIfInBounds_toArray, List.set_cons_zero, List.set_cons_succ]
              refine wpAnyH_take (i := 15) (oi := ?oo124) (v := ?vv124) ?ii124 (by kernel_rfl) ?ff124 (by kernel_rfl) ?qq124 (Or.inl ⟨?ww124, ?yy124⟩) hSd ?rr124
              case ii124 => simp only [List.getElem?_toArray, List.getElem?_cons_succ, List.getElem?_cons_zero]; rfl
              case ff124 => kernel_rfl
              case qq124 => exact fun _ _ _ h => h
              case ww124 => rfl
              case yy124 => intro W hW; go_simp <;> with_reducible rfl
              simp only [Act.put, List.setIfInBounds_toArray, List.set_cons_zero, List.set_cons_succ]
              have hcv' := fun W (hW : W.cell? ⟨b, off + j * 4 + 3, none⟩ = some (.slice DA dm dc) ∧ Below w.heap.size w W) => hcv W hW.2
              refine wpAnyH_take (i := 16) (oi := ?oo125) (v := ?vv125) ?ii125 (by kernel_rfl) ?ff125 (by kernel_rfl) ?qq125 (Or.inl ⟨?ww125, ?yy125⟩) hSd ?rr125
              case ii125 => simp only [List.getElem?_toArray, List.getElem?_cons_succ, List.getElem?_cons_zero]; rfl
              case ff125 => kernel_rfl
              case qq125 => exact fun _ _ _ h => h
              case ww125 => rfl
              case yy125 => intro W hW; go_simp <;> with_reducible rfl
              simp only [Act.put, List.setIfInBounds_toArray, List.set_cons_zero, List.set_cons_succ]
              refine wpAnyH_ready (rs := [1]) (by kernel_rfl) (by simp) ?_
              refine AllReadyH.cons (o := ?oo126) ?ii126 (fun K hK => ?_) AllReadyH.nil
              case ii126 => simp only [List.getElem?_toArray, List.getElem?_cons_succ, List.getElem?_cons_zero]; rfl
              go_simp
              refine (HT.out _ Hrd.out.drew).mono ?_
              rintro e w6 ⟨v6, g6, rfl, hr6, h6, ha6⟩
              have hb6 : Below w.heap.size wr w6 := ha6.undrew.below HBr.out (fun q e => by have e : q = br := e; have := hbr1.out; omega)
              have hh := heldText (b := b) (o := off + j * 4 + 3) hS hb hb6
              obtain ⟨A6, c6, hv6, -, -, hby6⟩ := hr6.bytes
              rw [Hql.out] at hv6
              subst hv6
              have ks6 := fun W (hW : Below w6.heap.size w6 W) => conv_any (cap := c6) Hql.out ((hby6.below hW (Nat.le_refl _)).more hW.size)
              have HF := Lib.hid (HN.out wr w6 Hbj.out HBr.out h6 ha6.undrew)
              have h66 := Below.refl w6.heap.size w6
              have Hh := Lib.hid hh
              simp only [strV] at ks6
              clear hr6 h6 ha6 hb6 hby6 hh
              go_wp2_with fail
              refine hK.out _ _ Hh.out (fun _ => ?_)
              clear hK K
              refine wpAnyH_mono (S' := fun W => Below w6.heap.size w6 W) (fun W hW => heldText Hh.out hb (hW.mono (Hh.out.2.size))) _ _ _ _ ?_
              refine wpAnyH_take (i := 2) (oi := ?oo127) (v := ?vv127) ?ii127 (by kernel_rfl) ?ff127 (by kernel_rfl) ?qq127 (Or.inl ⟨?ww127, ?yy127⟩) h66 ?rr127
              case ii127 => simp only [List.getElem?_toArray, List.getElem?_cons_succ, List.getElem?_cons_zero]; rfl
              case ff127 => kernel_rfl
              case qq127 => exact fun _ _ _ h => h
              case ww127 => rfl
              case yy127 => intro W hW; go_simp <;> with_reducible rfl
              simp only [Act.put, List.setIfInBounds_toArray, List.set_cons_zero, List.set_cons_succ]
              refine wpAnyH_take (i := 17) (oi := ?oo128) (v := ?vv128) ?ii128 (by kernel_rfl) ?ff128 (by kernel_rfl) ?qq128 (Or.inl ⟨?ww128, ?yy128⟩) h66 ?rr128
              case ii128 => simp only [List.getElem?_toArray, List.getElem?_cons_succ, List.getElem?_cons_zero]; rfl
              case ff128 => kernel_rfl
              case qq128 => exact fun _ _ _ h => h
              case ww128 => rfl
              case yy128 => intro W hW; go_simp <;> with_reducible rfl
              simp only [Act.put, List.setIfInBounds_toArray, List.set_cons_zero, List.set_cons_succ]
              refine wpAnyH_done (by kernel_rfl) ?_ _
              go_wp2_with fail
              go_roundw
              case rel => exact HF.out
              case measure => simp [intOf]; omega
          · have q : (kd == 1) = false := beq_eq_false_iff_ne.2 hkind
            have hac : actB (⟨kd, sz, num, DA, dm, dc, dat⟩ : ActC) = WireP.num num (size4 sz) := by simp [actB, hkind]
            rw [hac] at hr
            have qr := size_rem sz
            have hsz : size4 sz = 1 + (sz % 4).toNat := rfl
            have hm4 : (sz % 4).toNat ≤ 3 := by omega
            generalize (sz % 4).toNat = m4 at *
            generalize size4 sz = s4 at *
            subst hsz
            have hS2 : wr.cell? ⟨b, off + j * 4 + 2, none⟩ = some (.int .u32 (num : Nat)) ∧ Below w.heap.size w wr := ⟨a2, hbj⟩
            have Hac := Lib.hid hac
            have Hrd := Lib.hid hrd
            have Hbj := Lib.hid hbj
            have Hx := Lib.hid hx
            clear hkind hac hx hrd hbj a7 hby0 hfk Hf a3 hS
            have h4 : m4 = 0 ∨ m4 = 1 ∨ m4 = 2 ∨ m4 = 3 := by omega
            rcases h4 with rfl | rfl | rfl | rfl
            · have ht := take_at (enc f j) r num 1 (by omega)
              rw [← hr] at ht
              have HT := Lib.hid (take_any br A4 n3 cap4 (enc f k) (enc f j).length false 1 wr.drew Hrd.out.drew)
              rw [show (1 : Int) = ((1 : Nat) : Int) from rfl, ht] at HT
              have hshift : ∀ W, (Op.shift .shr .u32 4294967295 .i64 (IntKind.i64.wrap (32 - IntKind.i64.wrap 8))).run Try.prog W = .ok (.int .u32 255) W := fun W => by kernel_rfl
              have hmask : bits .and .u32 (num : Int) 255 = ((num % 256 : Nat) : Int) := and_mask num 8 a10 (by omega)
              have hSd : wr.drew.cell? ⟨b, off + j * 4 + 2, none⟩ = some (.int .u32 (num : Nat)) ∧ Below w.heap.size w wr.drew := ⟨a2, Hbj.out.drew⟩
              clear ht hr
              go_wp2_with fail
              refine wp_region_held_drew (S := fun W => W.cell? ⟨b, off + j * 4 + 2, none⟩ = some (.int .u32 (num : Nat)) ∧ Below w.heap.size w W) (by kernel_rfl) hSd (fun _ => ?_)
              refine wpAnyH_take (i := 0) (oi := ?oo129) (v := ?vv129) ?ii129 (by kernel_rfl) ?ff129 (by kernel_rfl) ?qq129 (Or.inl ⟨?ww129, ?yy129⟩) hSd ?rr129
              case ii129 => simp only [List.getElem?_toArray, List.getElem?_cons_zero]; rfl
              case ff129 => kernel_rfl
              case qq129 => exact fun _ _ _ h => h
              case ww129 => rfl
              case yy129 => intro W hW; go_simp <;> with_reducible rfl
              simp only [Act.put, List.setIfInBounds_toArray, List.set_cons_zero, List.set_cons_succ]
              refine wpAnyH_take (i := 1) (oi := ?oo130) (v := ?vv130) ?ii130 (by kernel_rfl) ?ff130 (by kernel_rfl) ?qq130 (Or.inl ⟨?ww130, ?yy130⟩) hSd ?rr130
              case ii130 => simp only [List.getElem?_toArray, List.getElem?_cons_succ, List.getElem?_cons_zero]; rfl
              case ff130 => kernel_rfl
              case qq130 => exact fun _ _ _ h => h
              case ww130 => rfl
              case yy130 => intro W hW; go_simp <;> with_reducible rfl
              simp only [Act.put, List.setIfInBounds_toArray, List.set_cons_zero, List.set_cons_succ]
              refine wpAnyH_take (i := 3) (oi := ?oo131) (v := ?vv131) ?ii131 (by kernel_rfl) ?ff131 (by kernel_rfl) ?qq131 (Or.inl ⟨?ww131, ?yy131⟩) hSd ?rr131
              case ii131 => simp only [List.getElem?_toArray, List.getElem?_cons_succ, List.getElem?_cons_zero]; rfl
              case ff131 => kernel_rfl
              case qq131 => exact fun _ _ _ h => h
              case ww131 => rfl
              case yy131 => intro W hW; go_simp <;> with_reducible rfl
              simp only [Act.put, List.setIfInBounds_toArray, List.set_cons_zero, List.set_cons_succ]
              refine wpAnyH_take (i := 4) (oi := ?oo132) (v := ?vv132) ?ii132 (by kernel_rfl) ?ff132 (by kernel_rfl) ?qq132 (Or.inl ⟨?ww132, ?yy132⟩) hSd ?rr132
              case ii132 => simp only [List.getElem?_toArray, List.getElem?_cons_succ, List.getElem?_cons_zero]; rfl
              case ff132 => kernel_rfl
              case qq132 => exact fun _ _ _ h => h
              case ww132 => rfl
              case yy132 => intro W hW; go_simp <;> with_reducible rfl
              simp only [Act.put, List.setIfInBounds_toArray, List.set_cons_zero, List.set_cons_succ]
              refine wpAnyH_take (i := 5) (oi := ?oo133) (v := ?vv133) ?ii133 (by kernel_rfl) ?ff133 (by kernel_rfl) ?qq133 (Or.inl ⟨?ww133, ?yy133⟩) hSd ?rr133
              case ii133 => simp only [List.getElem?_toArray, List.getElem?_cons_succ, List.getElem?_cons_zero]; rfl
              case ff133 => kernel_rfl
              case qq133 => exact fun _ _ _ h => h
              case ww133 => rfl
              case yy133 => intro W hW; go_simp <;> with_reducible rfl
              simp only [Act.put, List.setIfInBounds_toArray, List.set_cons_zero, List.set_cons_succ]
              refine wpAnyH_take (i := 6) (oi := ?oo134) (v := ?vv134) ?ii134 (by kernel_rfl) ?ff134 (by kernel_rfl) ?qq134 (Or.inl ⟨?ww134, ?yy134⟩) hSd ?rr134
              case ii134 => simp only [List.getElem?_toArray, List.getElem?_cons_succ, List.getElem?_cons_zero]; rfl
              case ff134 => kernel_rfl
              case qq134 => exact fun _ _ _ h => h
              case ww134 => rfl
              case yy134 => intro W hW; go_simp <;> with_reducible rfl
              simp only [Act.put, List.setIfInBounds_toArray, List.set_cons_zero, List.set_cons_succ]
              refine wpAnyH_take (i := 7) (oi := ?oo135) (v := ?vv135) ?ii135 (by kernel_rfl) ?ff135 (by kernel_rfl) ?qq135 (Or.inl ⟨?ww135, ?yy135⟩) hSd ?rr135
              case ii135 => simp only [List.getElem?_toArray, List.getElem?_cons_succ, List.getElem?_cons_zero]; rfl
              case ff135 => kernel_rfl
              case qq135 => exact fun _ _ _ h => h
              case ww135 => rfl
              case yy135 => intro W hW; go_simp <;> with_reducible rfl
              simp only [Act.put, List.setIfInBounds_toArray, List.set_cons_zero, List.set_cons_succ]
              refine wpAnyH_take (i := 8) (oi := ?oo136) (v := ?vv136) ?ii136 (by kernel_rfl) ?ff136 (by kernel_rfl) ?qq136 (Or.inl ⟨?ww136, ?yy136⟩) hSd ?rr136
              case ii136 => simp only [List.getElem?_toArray, List.getElem?_cons_succ, List.getElem?_cons_zero]; rfl
              case ff136 => kernel_rfl
              case qq136 => exact fun _ _ _ h => h
              case ww136 => rfl
              case yy136 => intro W hW; go_simp <;> with_reducible rfl
              simp only [Act.put, List.setIfInBounds_toArray, List.set_cons_zero, List.set_cons_succ]
              refine wpAnyH_take (i := 9) (oi := ?oo137) (v := ?vv137) ?ii137 (by kernel_rfl) ?ff137 (by kernel_rfl) ?qq137 (Or.inl ⟨?ww137, ?yy137⟩) hSd ?rr137
              case ii137 => simp only [List.getElem?_toArray, List.getElem?_cons_succ, List.getElem?_cons_zero]; rfl
              case ff137 => kernel_rfl
              case qq137 => exact fun _ _ _ h => h
              case ww137 => rfl
              case yy137 => intro W hW; go_simp <;> with_reducible rfl
              simp only [Act.put, List.setIfInBounds_toArray, List.set_cons_zero, List.set_cons_succ]
              refine wpAnyH_take (i := 10) (oi := ?oo138) (v := ?vv138) ?ii138 (by kernel_rfl) ?ff138 (by kernel_rfl) ?qq138 (Or.inl ⟨?ww138, ?yy138⟩) hSd ?rr138
              case ii138 => simp only [List.getElem?_toArray, List.getElem?_cons_succ, List.getElem?_cons_zero]; rfl
              case ff138 => kernel_rfl
              case qq138 => exact fun _ _ _ h => h
              case ww138 => rfl
              case yy138 => intro W hW; go_simp <;> with_reducible rfl
              simp only [Act.put, List.setIfInBounds_toArray, List.set_cons_zero, List.set_cons_succ]
              refine wpAnyH_take (i := 11) (oi := ?oo139) (v := ?vv139) ?ii139 (by kernel_rfl) ?ff139 (by kernel_rfl) ?qq139 (Or.inl ⟨?ww139, ?yy139⟩) hSd ?rr139
              case ii139 => simp only [List.getElem?_toArray, List.getElem?_cons_succ, List.getElem?_cons_zero]; rfl
              case ff139 => kernel_rfl
              case qq139 => exact fun _ _ _ h => h
              case ww139 => rfl
              case yy139 => intro W hW; go_simp <;> with_reducible rfl
              simp only [Act.put, List.setIfInBounds_toArray, List.set_cons_zero, List.set_cons_succ]
              refine wpAnyH_take (i := 12) (oi := ?oo140) (v := ?vv140) ?ii140 (by kernel_rfl) ?ff140 (by kernel_rfl) ?qq140 (Or.inl ⟨?ww140, ?yy140⟩) hSd ?rr140
              case ii140 => simp only [List.getElem?_toArray, List.getElem?_cons_succ, List.getElem?_cons_zero]; rfl
              case ff140 => kernel_rfl
              case qq140 => exact fun _ _ _ h => h
              case ww140 => rfl
              case yy140 => intro W hW; go_simp <;> with_reducible rfl
              simp only [Act.put, List.setIfInBounds_toArray, List.set_cons_zero, List.set_cons_succ]
              refine wpAnyH_ready (rs := [2]) (by kernel_rfl) (by simp) ?_
              refine AllReadyH.cons (o := ?oo141) ?ii141 (fun K hK => ?_) AllReadyH.nil
              case ii141 => simp only [List.getElem?_toArray, List.getElem?_cons_succ, List.getElem?_cons_zero]; rfl
              go_simp
              refine HT.out.mono ?_
              rintro e w6 ⟨rfl, h6, ha6⟩
              have hb6 : Below w.heap.size wr w6 := ha6.undrew.below HBr.out (fun q e => by have e : q = br := e; have := hbr1.out; omega)
              have Hh := Lib.hid (heldText (b := b) (o := off + j * 4 + 2) hS2 hb hb6)
              have HF := Lib.hid (back_next hjm Hx.out Hac.out hbr1.out HBr.out Hbj.out h6 (by rw [WireP.num_length]) ha6.undrew)
              clear h6 ha6 hb6
              go_wp2_with fail
              refine hK.out _ _ Hh.out (fun _ => ?_)
              clear hK K
              refine wpAnyH_take (i := 13) (oi := ?oo142) (v := ?vv142) ?ii142 (by kernel_rfl) ?ff142 (by kernel_rfl) ?qq142 (Or.inl ⟨?ww142, ?yy142⟩) Hh.out ?rr142
              case ii142 => simp only [List.getElem?_toArray, List.getElem?_cons_succ, List.getElem?_cons_zero]; rfl
              case ff142 => kernel_rfl
              case qq142 => exact fun _ _ _ h => h
              case ww142 => rfl
              case yy142 => intro W hW; go_simp <;> with_reducible rfl
              simp only [Act.put, List.setIfInBounds_toArray, List.set_cons_zero, List.set_cons_succ]
              refine wpAnyH_done (by kernel_rfl) ?_ _
              go_wp2_with fail
              go_roundw
              case rel => exact HF.out
              case measure => simp [intOf]; omega
            · have ht := take_at (enc f j) r num 2 (by omega)
              rw [← hr] at ht
              have HT := Lib.hid (take_any br A4 n3 cap4 (enc f k) (enc f j).length false 2 wr.drew Hrd.out.drew)
              rw [show (2 : Int) = ((2 : Nat) : Int) from rfl, ht] at HT
              have hshift : ∀ W, (Op.shift .shr .u32 4294967295 .i64 (IntKind.i64.wrap (32 - IntKind.i64.wrap 16))).run Try.prog W = .ok (.int .u32 65535) W := fun W => by kernel_rfl
              have hmask : bits .and .u32 (num : Int) 65535 = ((num % 65536 : Nat) : Int) := and_mask num 16 a10 (by omega)
              have hSd : wr.drew.cell? ⟨b, off + j * 4 + 2, none⟩ = some (.int .u32 (num : Nat)) ∧ Below w.heap.size w wr.drew := ⟨a2, Hbj.out.drew⟩
              clear ht hr
              go_wp2_with fail
              refine wp_region_held_drew (S := fun W => W.cell? ⟨b, off + j * 4 + 2, none⟩ = some (.int .u32 (num : Nat)) ∧ Below w.heap.size w W) (by kernel_rfl) hSd (fun _ => ?_)
              refine wpAnyH_take (i := 0) (oi := ?oo143) (v := ?vv143) ?ii143 (by kernel_rfl) ?ff143 (by kernel_rfl) ?qq143 (Or.inl ⟨?ww143, ?yy143⟩) hSd ?rr143
              case ii143 => simp only [List.getElem?_toArray, List.getElem?_cons_zero]; rfl
              case ff143 => kernel_rfl
              case qq143 => exact fun _ _ _ h => h
              case ww143 => rfl
              case yy143 => intro W hW; go_simp <;> with_reducible rfl
              simp only [Act.put, List.setIfInBounds_toArray, List.set_cons_zero, List.set_cons_succ]
              refine wpAnyH_take (i := 1) (oi := ?oo144) (v := ?vv144) ?ii144 (by kernel_rfl) ?ff144 (by kernel_rfl) ?qq144 (Or.inl ⟨?ww144, ?yy144⟩) hSd ?rr144
              case ii144 => simp only [List.getElem?_toArray, List.getElem?_cons_succ, List.getElem?_cons_zero]; rfl
              case ff144 => kernel_rfl
              case qq144 => exact fun _ _ _ h => h
              case ww144 => rfl
              case yy144 => intro W hW; go_simp <;> with_reducible rfl
              simp only [Act.put, List.setIfInBounds_toArray, List.set_cons_zero, List.set_cons_succ]
              refine wpAnyH_take (i := 3) (oi := ?oo145) (v := ?vv145) ?ii145 (by kernel_rfl) ?ff145 (by kernel_rfl) ?qq145 (Or.inl ⟨?ww145, ?yy145⟩) hSd ?rr145
              case ii145 => simp only [List.getElem?_toArray, List.getElem?_cons_succ, List.getElem?_cons_zero]; rfl
              case ff145 => kernel_rfl
              case qq145 => exact fun _ _ _ h => h
              case ww145 => rfl
              case yy145 => intro W hW; go_simp <;> with_reducible rfl
              simp only [Act.put, List.setIfInBounds_toArray, List.set_cons_zero, List.set_cons_succ]
              refine wpAnyH_take (i := 4) (oi := ?oo146) (v := ?vv146) ?ii146 (by kernel_rfl) ?ff146 (by kernel_rfl) ?qq146 (Or.inl ⟨?ww146, ?yy146⟩) hSd ?rr146
              case ii146 => simp only [List.getElem?_toArray, List.getElem?_cons_succ, List.getElem?_cons_zero]; rfl
              case ff146 => kernel_rfl
              case qq146 => exact fun _ _ _ h => h
              case ww146 => rfl
              case yy146 => intro W hW; go_simp <;> with_reducible rfl
              simp only [Act.put, List.setIfInBounds_toArray, List.set_cons_zero, List.set_cons_succ]
              refine wpAnyH_take (i := 5) (oi := ?oo147) (v := ?vv147) ?ii147 (by kernel_rfl) ?ff147 (by kernel_rfl) ?qq147 (Or.inl ⟨?ww147, ?yy147⟩) hSd ?rr147
              case ii147 => simp only [List.getElem?_toArray, List.getElem?_cons_succ, List.getElem?_cons_zero]; rfl
              case ff147 => kernel_rfl
              case qq147 => exact fun _ _ _ h => h
              case ww147 => rfl
              case yy147 => intro W hW; go_simp <;> with_reducible rfl
              simp only [Act.put, List.setIfInBounds_toArray, List.set_cons_zero, List.set_cons_succ]
              refine wpAnyH_take (i := 6) (oi := ?oo148) (v := ?vv148) ?ii148 (by kernel_rfl) ?ff148 (by kernel_rfl) ?qq148 (Or.inl ⟨?ww148, ?yy148⟩) hSd ?rr148
              case ii148 => simp only [List.getElem?_toArray, List.getElem?_cons_succ, List.getElem?_cons_zero]; rfl
              case ff148 => kernel_rfl
              case qq148 => exact fun _ _ _ h => h
              case ww148 => rfl
              case yy148 => intro W hW; go_simp <;> with_reducible rfl
              simp only [Act.put, List.setIfInBounds_toArray, List.set_cons_zero, List.set_cons_succ]
              refine wpAnyH_take (i := 7) (oi := ?oo149) (v := ?vv149) ?ii149 (by kernel_rfl) ?ff149 (by kernel_rfl) ?qq149 (Or.inl ⟨?ww149, ?yy149⟩) hSd ?rr149
              case ii149 => simp only [List.getElem?_toArray, List.getElem?_cons_succ, List.getElem?_cons_zero]; rfl
              case ff149 => kernel_rfl
              case qq149 => exact fun _ _ _ h => h
              case ww149 => rfl
              case yy149 => intro W hW; go_simp <;> with_reducible rfl
              simp only [Act.put, List.setIfInBounds_toArray, List.set_cons_zero, List.set_cons_succ]
              refine wpAnyH_take (i := 8) (oi := ?oo150) (v := ?vv150) ?ii150 (by kernel_rfl) ?ff150 (by kernel_rfl) ?qq150 (Or.inl ⟨?ww150, ?yy150⟩) hSd ?rr150
              case ii150 => simp only [List.getElem?_toArray, List.getElem?_cons_succ, List.getElem?_cons_zero]; rfl
              case ff150 => kernel_rfl
              case qq150 => exact fun _ _ _ h => h
              case ww150 => rfl
              case yy150 => intro W hW; go_simp <;> with_reducible rfl
              simp only [Act.put, List.setIfInBounds_toArray, List.set_cons_zero, List.set_cons_succ]
              refine wpAnyH_take (i := 9) (oi := ?oo151) (v := ?vv151) ?ii151 (by kernel_rfl) ?ff151 (by kernel_rfl) ?qq151 (Or.inl ⟨?ww151, ?yy151⟩) hSd ?rr151
              case ii151 => simp only [List.getElem?_toArray, List.getElem?_cons_succ, List.getElem?_cons_zero]; rfl
              case ff151 => kernel_rfl
              case qq151 => exact fun _ _ _ h => h
              case ww151 => rfl
              case yy151 => intro W hW; go_simp <;> with_reducible rfl
              simp only [Act.put, List.setIfInBounds_toArray, List.set_cons_zero, List.set_cons_succ]
              refine wpAnyH_take (i := 10) (oi := ?oo152) (v := ?vv152) ?ii152 (by kernel_rfl) ?ff152 (by kernel_rfl) ?qq152 (Or.inl ⟨?ww152, ?yy152⟩) hSd ?rr152
              case ii152 => simp only [List.getElem?_toArray, List.getElem?_cons_succ, List.getElem?_cons_zero]; rfl
              case ff152 => kernel_rfl
              case qq152 => exact fun _ _ _ h => h
              case ww152 => rfl
              case yy152 => intro W hW; go_simp <;> with_reducible rfl
              simp only [Act.put, List.setIfInBounds_toArray, List.set_cons_zero, List.set_cons_succ]
              refine wpAnyH_take (i := 11) (oi := ?oo153) (v := ?vv153) ?ii153 (by kernel_rfl) ?ff153 (by kernel_rfl) ?qq153 (Or.inl ⟨?ww153, ?yy153⟩) hSd ?rr153
              case ii153 => simp only [List.getElem?_toArray, List.getElem?_cons_succ, List.getElem?_cons_zero]; rfl
              case ff153 => kernel_rfl
              case qq153 => exact fun _ _ _ h => h
              case ww153 => rfl
              case yy153 => intro W hW; go_simp <;> with_reducible rfl
              simp only [Act.put, List.setIfInBounds_toArray, List.set_cons_zero, List.set_cons_succ]
              refine wpAnyH_take (i := 12) (oi := ?oo154) (v := ?vv154) ?ii154 (by kernel_rfl) ?ff154 (by kernel_rfl) ?qq154 (Or.inl ⟨?ww154, ?yy154⟩) hSd ?rr154
              case ii154 => simp only [List.getElem?_toArray, List.getElem?_cons_succ, List.getElem?_cons_zero]; rfl
              case ff154 => kernel_rfl
              case qq154 => exact fun _ _ _ h => h
              case ww154 => rfl
              case yy154 => intro W hW; go_simp <;> with_reducible rfl
              simp only [Act.put, List.setIfInBounds_toArray, List.set_cons_zero, List.set_cons_succ]
              refine wpAnyH_ready (rs := [2]) (by kernel_rfl) (by simp) ?_
              refine AllReadyH.cons (o := ?oo155) ?ii155 (fun K hK => ?_) AllReadyH.nil
              case ii155 => simp only [List.getElem?_toArray, List.getElem?_cons_succ, List.getElem?_cons_zero]; rfl
              go_simp
              refine HT.out.mono ?_
              rintro e w6 ⟨rfl, h6, ha6⟩
              have hb6 : Below w.heap.size wr w6 := ha6.undrew.below HBr.out (fun q e => by have e : q = br := e; have := hbr1.out; omega)
              have Hh := Lib.hid (heldText (b := b) (o := off + j * 4 + 2) hS2 hb hb6)
              have HF := Lib.hid (back_next hjm Hx.out Hac.out hbr1.out HBr.out Hbj.out h6 (by rw [WireP.num_length]) ha6.undrew)
              clear h6 ha6 hb6
              go_wp2_with fail
              refine hK.out _ _ Hh.out (fun _ => ?_)
              clear hK K
              refine wpAnyH_take (i := 13) (oi := ?oo156) (v := ?vv156) ?ii156 (by kernel_rfl) ?ff156 (by kernel_rfl) ?qq156 (Or.inl ⟨?ww156, ?yy156⟩) Hh.out ?rr156
              case ii156 => simp only [List.getElem?_toArray, List.getElem?_cons_succ, List.getElem?_cons_zero]; rfl
              case ff156 => kernel_rfl
              case qq156 => exact fun _ _ _ h => h
              case ww156 => rfl
              case yy156 => intro W hW; go_simp <;> with_reducible rfl
              simp only [Act.put, List.setIfInBounds_toArray, List.set_cons_zero, List.set_cons_succ]
              refine wpAnyH_done (by kernel_rfl) ?_ _
              go_wp2_with fail
              go_roundw
              case rel => exact HF.out
              case measure => simp [intOf]; omega
            · have ht := take_at (enc f j) r num 3 (by omega)
              rw [← hr] at ht
              have HT := Lib.hid (take_any br A4 n3 cap4 (enc f k) (enc f j).length false 3 wr.drew Hrd.out.drew)
              rw [show (3 : Int) = ((3 : Nat) : Int) from rfl, ht] at HT
              have hshift : ∀ W, (Op.shift .shr .u32 4294967295 .i64 (IntKind.i64.wrap (32 - IntKind.i64.wrap 24))).run Try.prog W = .ok (.int .u32 16777215) W := fun W => by kernel_rfl
              have hmask : bits .and .u32 (num : Int) 16777215 = ((num % 16777216 : Nat) : Int) := and_mask num 24 a10 (by omega)
              have hSd : wr.drew.cell? ⟨b, off + j * 4 + 2, none⟩ = some (.int .u32 (num : Nat)) ∧ Below w.heap.size w wr.drew := ⟨a2, Hbj.out.drew⟩
              clear ht hr
              go_wp2_with fail
              refine wp_region_held_drew (S := fun W => W.cell? ⟨b, off + j * 4 + 2, none⟩ = some (.int .u32 (num : Nat)) ∧ Below w.heap.size w W) (by kernel_rfl) hSd (fun _ => ?_)
              refine wpAnyH_take (i := 0) (oi := ?oo157) (v := ?vv157) ?ii157 (by kernel_rfl) ?ff157 (by kernel_rfl) ?qq157 (Or.inl ⟨?ww157, ?yy157⟩) hSd ?rr157
              case ii157 => simp only [List.getElem?_toArray, List.getElem?_cons_zero]; rfl
              case ff157 => kernel_rfl
              case qq157 => exact fun _ _ _ h => h
              case ww157 => rfl
              case yy157 => intro W hW; go_simp <;> with_reducible rfl
              simp only [Act.put, List.setIfInBounds_toArray, List.set_cons_zero, List.set_cons_succ]
              refine wpAnyH_take (i := 1) (oi := ?oo158) (v := ?vv158) ?ii158 (by kernel_rfl) ?ff158 (by kernel_rfl) ?qq158 (Or.inl ⟨?ww158, ?yy158⟩) hSd ?rr158
              case ii158 => simp only [List.getElem?_toArray, List.getElem?_cons_succ, List.getElem?_cons_zero]; rfl
              case ff158 => kernel_rfl
              case qq158 => exact fun _ _ _ h => h
              case ww158 => rfl
              case yy158 => intro W hW; go_simp <;> with_reducible rfl
              simp only [Act.put, List.setIfInBounds_toArray, List.set_cons_zero, List.set_cons_succ]
              refine wpAnyH_take (i := 3) (oi := ?oo159) (v := ?vv159) ?ii159 (by kernel_rfl) ?ff159 (by kernel_rfl) ?qq159 (Or.inl ⟨?ww159, ?yy159⟩) hSd ?rr159
              case ii159 => simp only [List.getElem?_toArray, List.getElem?_cons_succ, List.getElem?_cons_zero]; rfl
              case ff159 => kernel_rfl
              case qq159 => exact fun _ _ _ h => h
              case ww159 => rfl
              case yy159 => intro W hW; go_simp <;> with_reducible rfl
              simp only [Act.put, List.setIfInBounds_toArray, List.set_cons_zero, List.set_cons_succ]
              refine wpAnyH_take (i := 4) (oi := ?oo160) (v := ?vv160) ?ii160 (by kernel_rfl) ?ff160 (by kernel_rfl) ?qq160 (Or.inl ⟨?ww160, ?yy160⟩) hSd ?rr160
              case ii160 => simp only [List.getElem?_toArray, List.getElem?_cons_succ, List.getElem?_cons_zero]; rfl
              case ff160 => kernel_rfl
              case qq160 => exact fun _ _ _ h => h
              case ww160 => rfl
              case yy160 => intro W hW; go_simp <;> with_reducible rfl
              simp only [Act.put, List.setIfInBounds_toArray, List.set_cons_zero, List.set_cons_succ]
              refine wpAnyH_take (i := 5) (oi := ?oo161) (v := ?vv161) ?ii161 (by kernel_rfl) ?ff161 (by kernel_rfl) ?qq161 (Or.inl ⟨?ww161, ?yy161⟩) hSd ?rr161
              case ii161 => simp only [List.getElem?_toArray, List.getElem?_cons_succ, List.getElem?_cons_zero]; rfl
              case ff161 => kernel_rfl
              case qq161 => exact fun _ _ _ h => h
              case ww161 => rfl
              case yy161 => intro W hW; go_simp <;> with_reducible rfl
              simp only [Act.put, List.setIfInBounds_toArray, List.set_cons_zero, List.set_cons_succ]
              refine wpAnyH_take (i := 6) (oi := ?oo162) (v := ?vv162) ?ii162 (by kernel_rfl) ?ff162 (by kernel_rfl) ?qq162 (Or.inl ⟨?ww162, ?yy162⟩) hSd ?rr162
              case ii162 => simp only [List.getElem?_toArray, List.getElem?_cons_succ, List.getElem?_cons_zero]; rfl
              case ff162 => kernel_rfl
              case qq162 => exact fun _ _ _ h => h
              case ww162 => rfl
              case yy162 => intro W hW; go_simp <;> with_reducible rfl
              simp only [Act.put, List.setIfInBounds_toArray, List.set_cons_zero, List.set_cons_succ]
              refine wpAnyH_take (i := 7) (oi := ?oo163) (v := ?vv163) ?ii163 (by kernel_rfl) ?ff163 (by kernel_rfl) ?qq163 (Or.inl ⟨?ww163, ?yy163⟩) hSd ?rr163
              case ii163 => simp only [List.getElem?_toArray, List.getElem?_cons_succ, List.getElem?_cons_zero]; rfl
              case ff163 => kernel_rfl
              case qq163 => exact fun _ _ _ h => h
              case ww163 => rfl
              case yy163 => intro W hW; go_simp <;> with_reducible rfl
              simp only [Act.put, List.setIfInBounds_toArray, List.set_cons_zero, List.set_cons_succ]
              refine wpAnyH_take (i := 8) (oi := ?oo164) (v := ?vv164) ?ii164 (by kernel_rfl) ?ff164 (by kernel_rfl) ?qq164 (Or.inl ⟨?ww164, ?yy164⟩) hSd ?rr164
              case ii164 => simp only [List.getElem?_toArray, List.getElem?_cons_succ, List.getElem?_cons_zero]; rfl
              case ff164 => kernel_rfl
              case qq164 => exact fun _ _ _ h => h
              case ww164 => rfl
              case yy164 => intro W hW; go_simp <;> with_reducible rfl
              simp only [Act.put, List.setIfInBounds_toArray, List.set_cons_zero, List.set_cons_succ]
              refine wpAnyH_take (i := 9) (oi := ?oo165) (v := ?vv165) ?ii165 (by kernel_rfl) ?ff165 (by kernel_rfl) ?qq165 (Or.inl ⟨?ww165, ?yy165⟩) hSd ?rr165
              case ii165 => simp only [List.getElem?_toArray, List.getElem?_cons_succ, List.getElem?_cons_zero]; rfl
              case ff165 => kernel_rfl
              case qq165 => exact fun _ _ _ h => h
              case ww165 => rfl
              case yy165 => intro W hW; go_simp <;> with_reducible rfl
              simp only [Act.put, List.setIfInBounds_toArray, List.set_cons_zero, List.set_cons_succ]
              refine wpAnyH_take (i := 10) (oi := ?oo166) (v := ?vv166) ?ii166 (by kernel_rfl) ?ff166 (by kernel_rfl) ?qq166 (Or.inl ⟨?ww166, ?yy166⟩) hSd ?rr166
              case ii166 => simp only [List.getElem?_toArray, List.getElem?_cons_succ, List.getElem?_cons_zero]; rfl
              case ff166 => kernel_rfl
              case qq166 => exact fun _ _ _ h => h
              case ww166 => rfl
              case yy166 => intro W hW; go_simp <;> with_reducible rfl
              simp only [Act.put, List.setIfInBounds_toArray, List.set_cons_zero, List.set_cons_succ]
              refine wpAnyH_take (i := 11) (oi := ?oo167) (v := ?vv167) ?ii167 (by kernel_rfl) ?ff167 (by kernel_rfl) ?qq167 (Or.inl ⟨?ww167, ?yy167⟩) hSd ?rr167
              case ii167 => simp only [List.getElem?_toArray, List.getElem?_cons_succ, List.getElem?_cons_zero]; rfl
              case ff167 => kernel_rfl
              case qq167 => exact fun _ _ _ h => h
              case ww167 => rfl
              case yy167 => intro W hW; go_simp <;> with_reducible rfl
              simp only [Act.put, List.setIfInBounds_toArray, List.set_cons_zero, List.set_cons_succ]
              refine wpAnyH_take (i := 12) (oi := ?oo168) (v := ?vv168) ?ii168 (by kernel_rfl) ?ff168 (by kernel_rfl) ?qq168 (Or.inl ⟨?ww168, ?yy168⟩) hSd ?rr168
              case ii168 => simp only [List.getElem?_toArray, List.getElem?_cons_succ, List.getElem?_cons_zero]; rfl
              case ff168 => kernel_rfl
              case qq168 => exact fun _ _ _ h => h
              case ww168 => rfl
              case yy168 => intro W hW; go_simp <;> with_reducible rfl
              simp only [Act.put, List.setIfInBounds_toArray, List.set_cons_zero, List.set_cons_succ]
              refine wpAnyH_ready (rs := [2]) (by kernel_rfl) (by simp) ?_
              refine AllReadyH.cons (o := ?oo169) ?ii169 (fun K hK => ?_) AllReadyH.nil
              case ii169 => simp only [List.getElem?_toArray, List.getElem?_cons_succ, List.getElem?_cons_zero]; rfl
              go_simp
              refine HT.out.mono ?_
              rintro e w6 ⟨rfl, h6, ha6⟩
              have hb6 : Below w.heap.size wr w6 := ha6.undrew.below HBr.out (fun q e => by have e : q = br := e; have := hbr1.out; omega)
              have Hh := Lib.hid (heldText (b := b) (o := off + j * 4 + 2) hS2 hb hb6)
              have HF := Lib.hid (back_next hjm Hx.out Hac.out hbr1.out HBr.out Hbj.out h6 (by rw [WireP.num_length]) ha6.undrew)
              clear h6 ha6 hb6
              go_wp2_with fail
              refine hK.out _ _ Hh.out (fun _ => ?_)
              clear hK K
              refine wpAnyH_take (i := 13) (oi := ?oo170) (v := ?vv170) ?ii170 (by kernel_rfl) ?ff170 (by kernel_rfl) ?qq170 (Or.inl ⟨?ww170, ?yy170⟩) Hh.out ?rr170
              case ii170 => simp only [List.getElem?_toArray, List.getElem?_cons_succ, List.getElem?_cons_zero]; rfl
              case ff170 => kernel_rfl
              case qq170 => exact fun _ _ _ h => h
              case ww170 => rfl
              case yy170 => intro W hW; go_simp <;> with_reducible rfl
              simp only [Act.put, List.setIfInBounds_toArray, List.set_cons_zero, List.set_cons_succ]
              refine wpAnyH_done (by kernel_rfl) ?_ _
              go_wp2_with fail
              go_roundw
              case rel => exact HF.out
              case measure => simp [intOf]; omega
            · have ht := take_at (enc f j) r num 4 (by omega)
              rw [← hr] at ht
              have HT := Lib.hid (take_any br A4 n3 cap4 (enc f k) (enc f j).length false 4 wr.drew Hrd.out.drew)
              rw [show (4 : Int) = ((4 : Nat) : Int) from rfl, ht] at HT
              have hshift : ∀ W, (Op.shift .shr .u32 4294967295 .i64 (IntKind.i64.wrap (32 - IntKind.i64.wrap 32))).run Try.prog W = .ok (.int .u32 4294967295) W := fun W => by kernel_rfl
              have hmask : bits .and .u32 (num : Int) 4294967295 = ((num % 4294967296 : Nat) : Int) := and_mask num 32 a10 (by omega)
              have hSd : wr.drew.cell? ⟨b, off + j * 4 + 2, none⟩ = some (.int .u32 (num : Nat)) ∧ Below w.heap.size w wr.drew := ⟨a2, Hbj.out.drew⟩
              clear ht hr
              go_wp2_with fail
              refine wp_region_held_drew (S := fun W => W.cell? ⟨b, off + j * 4 + 2, none⟩ = some (.int .u32 (num : Nat)) ∧ Below w.heap.size w W) (by kernel_rfl) hSd (fun _ => ?_)
              refine wpAnyH_take (i := 0) (oi := ?oo171) (v := ?vv171) ?ii171 (by kernel_rfl) ?ff171 (by kernel_rfl) ?qq171 (Or.inl ⟨?ww171, ?yy171⟩) hSd ?rr171
              case ii171 => simp only [List.getElem?_toArray, List.getElem?_cons_zero]; rfl
              case ff171 => kernel_rfl
              case qq171 => exact fun _ _ _ h => h
              case ww171 => rfl
              case yy171 => intro W hW; go_simp <;> with_reducible rfl
              simp only [Act.put, List.setIfInBounds_toArray, List.set_cons_zero, List.set_cons_succ]
              refine wpAnyH_take (i := 1) (oi := ?oo172) (v := ?vv172) ?ii172 (by kernel_rfl) ?ff172 (by kernel_rfl) ?qq172 (Or.inl ⟨?ww172, ?yy172⟩) hSd ?rr172
              case ii172 => simp only [List.getElem?_toArray, List.getElem?_cons_succ, List.getElem?_cons_zero]; rfl
              case ff172 => kernel_rfl
              case qq172 => exact fun _ _ _ h => h
              case ww172 => rfl
              case yy172 => intro W hW; go_simp <;> with_reducible rfl
              simp only [Act.put, List.setIfInBounds_toArray, List.set_cons_zero, List.set_cons_succ]
              refine wpAnyH_take (i := 3) (oi := ?oo173) (v := ?vv173) ?ii173 (by kernel_rfl) ?ff173 (by kernel_rfl) ?qq173 (Or.inl ⟨?ww173, ?yy173⟩) hSd ?rr173
              case ii173 => simp only [List.getElem?_toArray, List.getElem?_cons_succ, List.getElem?_cons_zero]; rfl
              case ff173 => kernel_rfl
              case qq173 => exact fun _ _ _ h => h
              case ww173 => rfl
              case yy173 => intro W hW; go_simp <;> with_reducible rfl
              simp only [Act.put, List.setIfInBounds_toArray, List.set_cons_zero, List.set_cons_succ]
              refine wpAnyH_take (i := 4) (oi := ?oo174) (v := ?vv174) ?ii174 (by kernel_rfl) ?ff174 (by kernel_rfl) ?qq174 (Or.inl ⟨?ww174, ?yy174⟩) hSd ?rr174
              case ii174 => simp only [List.getElem?_toArray, List.getElem?_cons_succ, List.getElem?_cons_zero]; rfl
              case ff174 => kernel_rfl
              case qq174 => exact fun _ _ _ h => h
              case ww174 => rfl
              case yy174 => intro W hW; go_simp <;> with_reducible rfl
              simp only [Act.put, List.setIfInBounds_toArray, List.set_cons_zero, List.set_cons_succ]
              refine wpAnyH_take (i := 5) (oi := ?oo175) (v := ?vv175) ?ii175 (by kernel_rfl) ?ff175 (by kernel_rfl) ?qq175 (Or.inl ⟨?ww175, ?yy175⟩) hSd ?rr175
              case ii175 => simp only [List.getElem?_toArray, List.getElem?_cons_succ, List.getElem?_cons_zero]; rfl
              case ff175 => kernel_rfl
              case qq175 => exact fun _ _ _ h => h
              case ww175 => rfl
              case yy175 => intro W hW; go_simp <;> with_reducible rfl
              simp only [Act.put, List.setIfInBounds_toArray, List.set_cons_zero, List.set_cons_succ]
              refine wpAnyH_take (i := 6) (oi := ?oo176) (v := ?vv176) ?ii176 (by kernel_rfl) ?ff176 (by kernel_rfl) ?qq176 (Or.inl ⟨?ww176, ?yy176⟩) hSd ?rr176
              case ii176 => simp only [List.getElem?_toArray, List.getElem?_cons_succ, List.getElem?_cons_zero]; rfl
              case ff176 => kernel_rfl
              case qq176 => exact fun _ _ _ h => h
              case ww176 => rfl
              case yy176 => intro W hW; go_simp <;> with_reducible rfl
              simp only [Act.put, List.setIfInBounds_toArray, List.set_cons_zero, List.set_cons_succ]
              refine wpAnyH_take (i := 7) (oi := ?oo177) (v := ?vv177) ?ii177 (by kernel_rfl) ?ff177 (by kernel_rfl) ?qq177 (Or.inl ⟨?ww177, ?yy177⟩) hSd ?rr177
              case ii177 => simp only [List.getElem?_toArray, List.getElem?_cons_succ, List.getElem?_cons_zero]; rfl
              case ff177 => kernel_rfl
              case qq177 => exact fun _ _ _ h => h
              case ww177 => rfl
              case yy177 => intro W hW; go_simp <;> with_reducible rfl
              simp only [Act.put, List.setIfInBounds_toArray, List.set_cons_zero, List.set_cons_succ]
              refine wpAnyH_take (i := 8) (oi := ?oo178) (v := ?vv178) ?ii178 (by kernel_rfl) ?ff178 (by kernel_rfl) ?qq178 (Or.inl ⟨?ww178, ?yy178⟩) hSd ?rr178
              case ii178 => simp only [List.getElem?_toArray, List.getElem?_cons_succ, List.getElem?_cons_zero]; rfl
              case ff178 => kernel_rfl
              case qq178 => exact fun _ _ _ h => h
              case ww178 => rfl
              case yy178 => intro W hW; go_simp <;> with_reducible rfl
              simp only [Act.put, List.setIfInBounds_toArray, List.set_cons_zero, List.set_cons_succ]
              refine wpAnyH_take (i := 9) (oi := ?oo179) (v := ?vv179) ?ii179 (by kernel_rfl) ?ff179 (by kernel_rfl) ?qq179 (Or.inl ⟨?ww179, ?yy179⟩) hSd ?rr179
              case ii179 => simp only [List.getElem?_toArray, List.getElem?_cons_succ, List.getElem?_cons_zero]; rfl
              case ff179 => kernel_rfl
              case qq179 => exact fun _ _ _ h => h
              case ww179 => rfl
              case yy179 => intro W hW; go_simp <;> with_reducible rfl
              simp only [Act.put, List.setIfInBounds_toArray, List.set_cons_zero, List.set_cons_succ]
              refine wpAnyH_take (i := 10) (oi := ?oo180) (v := ?vv180) ?ii180 (by kernel_rfl) ?ff180 (by kernel_rfl) ?qq180 (Or.inl ⟨?ww180, ?yy180⟩) hSd ?rr180
              case ii180 => simp only [List.getElem?_toArray, List.getElem?_cons_succ, List.getElem?_cons_zero]; rfl
              case ff180 => kernel_rfl
              case qq180 => exact fun _ _ _ h => h
              case ww180 => rfl
              case yy180 => intro W hW; go_simp <;> with_reducible rfl
              simp only [Act.put, List.setIfInBounds_toArray, List.set_cons_zero, List.set_cons_succ]
              refine wpAnyH_take (i := 11) (oi := ?oo181) (v := ?vv181) ?ii181 (by kernel_rfl) ?ff181 (by kernel_rfl) ?qq181 (Or.inl ⟨?ww181, ?yy181⟩) hSd ?rr181
              case ii181 => simp only [List.getElem?_toArray, List.getElem?_cons_succ, List.getElem?_cons_zero]; rfl
              case ff181 => kernel_rfl
              case qq181 => exact fun _ _ _ h => h
              case ww181 => rfl
              case yy181 => intro W hW; go_simp <;> with_reducible rfl
              simp only [Act.put, List.setIfInBounds_toArray, List.set_cons_zero, List.set_cons_succ]
              refine wpAnyH_take (i := 12) (oi := ?oo182) (v := ?vv182) ?ii182 (by kernel_rfl) ?ff182 (by kernel_rfl) ?qq182 (Or.inl ⟨?ww182, ?yy182⟩) hSd ?rr182
              case ii182 => simp only [List.getElem?_toArray, List.getElem?_cons_succ, List.getElem?_cons_zero]; rfl
              case ff182 => kernel_rfl
              case qq182 => exact fun _ _ _ h => h
              case ww182 => rfl
              case yy182 => intro W hW; go_simp <;> with_reducible rfl
              simp only [Act.put, List.setIfInBounds_toArray, List.set_cons_zero, List.set_cons_succ]
              refine wpAnyH_ready (rs := [2]) (by kernel_rfl) (by simp) ?_
              refine AllReadyH.cons (o := ?oo183) ?ii183 (fun K hK => ?_) AllReadyH.nil
              case ii183 => simp only [List.getElem?_toArray, List.getElem?_cons_succ, List.getElem?_cons_zero]; rfl
              go_simp
              refine HT.out.mono ?_
              rintro e w6 ⟨rfl, h6, ha6⟩
              have hb6 : Below w.heap.size wr w6 := ha6.undrew.below HBr.out (fun q e => by have e : q = br := e; have := hbr1.out; omega)
              have Hh := Lib.hid (heldText (b := b) (o := off + j * 4 + 2) hS2 hb hb6)
              have HF := Lib.hid (back_next hjm Hx.out Hac.out hbr1.out HBr.out Hbj.out h6 (by rw [WireP.num_length]) ha6.undrew)
              clear h6 ha6 hb6
              go_wp2_with fail
              refine hK.out _ _ Hh.out (fun _ => ?_)
              clear hK K
              refine wpAnyH_take (i := 13) (oi := ?oo184) (v := ?vv184) ?ii184 (by kernel_rfl) ?ff184 (by kernel_rfl) ?qq184 (Or.inl ⟨?ww184, ?yy184⟩) Hh.out ?rr184
              case ii184 => simp only [List.getElem?_toArray, List.getElem?_cons_succ, List.getElem?_cons_zero]; rfl
              case ff184 => kernel_rfl
              case qq184 => exact fun _ _ _ h => h
              case ww184 => rfl
              case yy184 => intro W hW; go_simp <;> with_reducible rfl
              simp only [Act.put, List.setIfInBounds_toArray, List.set_cons_zero, List.set_cons_succ]
              refine wpAnyH_done (by kernel_rfl) ?_ _
              go_wp2_with fail
              go_roundw
              case rel => exact HF.out
              case measure => simp [intOf]; omega
        · obtain rfl : j = k := by omega
          have HE := Lib.hid (end_any br A4 n3 cap4 (enc f j) (enc f j).length false wr hrd)
          rw [Hn3.out] at HE
          have Hbj := Lib.hid hbj
          have HBr := Lib.hid (Nat.le_trans hbr1.out (Nat.le_of_lt (lt_of_block hrd.block)))
          have hde : (!false && decide (n3 ≤ n3)) = true := by simp
          rw [hde] at HE
          clear hrd hbj hde
          go_wp2_with fail
          refine HE.out.mono ?_
          rintro e w6 ⟨v6, rfl, -, h6, hb6⟩
          have h6' : v6 = .nilIface := h6
          subst h6'
          have HF : Hid (AwakePost w (.returned (.bool true)) w6) := Lib.hid ⟨rfl, Hbj.out.trans (hb6.mono HBr.out)⟩
          clear h6 hb6
          go_wp2_with fail
          go_ret
          exact HF.out
end Go.Proofs.Ytnjkfkfanjkajaa
