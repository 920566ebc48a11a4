/- WireTakes: the walk of the law at bytes and acts in memory. Conditions: where they lie. -/
import Derived.Test.YtnjkfkfanjkajaaWirH
import Derived.Test.YtnjkfkfanjkajaaWirN
import Derived.Test.YtnjkfkfanjkajaaActArg
namespace Go.Proofs.Ytnjkfkfanjkajaa
open Go.RowKit Go.Extern.Stop Go.Stop Go.Extern

/-- string(b) of bytes in memory, in whatever world they lie. -/
theorem conv_in {w : World} {B : Nat} {A : Option Addr} {n cap : Nat} {l : List UInt8} (hn : l.length = n) (h : Bytes w B A l) : (convert 24 9 (.slice A n cap)).run Try.prog w = .ok (.string ⟨l.toArray⟩) w :=
  run_convert_b w 24 5 Try.underlying24 Try.underlying5 B A l n cap hn h 9 Try.underlying9

/-- The program's Reader and the document's, apart from each other, at one place. -/
structure Both (W : World) (br rr : Nat) (A2 Ab : Option Addr) (n cap2 capb : Nat) (l : List UInt8) (wr : World) (a : Nat) (s : Bool) : Prop where
  rd : ReaderAt wr br A2 n cap2 l a s
  rf : RefAt wr rr Ab n capb l a s
  below : Below W.heap.size W wr

/-- How the two lie. -/
structure Lies (W : World) (br rr : Nat) (A2 Ab : Option Addr) (l : List UInt8) : Prop where
  hbr : W.heap.size ≤ br
  hrr : W.heap.size ≤ rr
  hne : br ≠ rr
  ha2 : ∀ k, blockOf A2 = some k → W.heap.size ≤ k ∧ k ≠ rr
  hab : 0 < l.length → ∀ k, blockOf Ab = some k → k < W.heap.size

theorem both_first {W : World} {br rr : Nat} {A2 Ab : Option Addr} {n cap2 capb : Nat} {l : List UInt8} {wr w1 : World} {a : Nat} {s : Bool} (hl : Lies W br rr A2 Ab l) (h : Both W br rr A2 Ab n cap2 capb l wr a s) (ha : Apart (RF br) wr w1) : RefAt w1 rr Ab n capb l a s ∧ Below W.heap.size W w1 := by
  refine ⟨h.rf.apart ha (fun e => hl.hne (by have e : rr = br := e; exact e.symm)) (fun hp k hk e => ?_), h.below.trans (ha.below h.below.size (fun k e => by have e : k = br := e; have := hl.hbr; omega))⟩
  have e : k = br := e
  have := hl.hab hp k hk
  have := hl.hbr
  omega
theorem both_second {W : World} {br rr : Nat} {A2 Ab : Option Addr} {n cap2 capb : Nat} {l : List UInt8} {w1 w2 : World} {a1 : Nat} {s1 : Bool} (hl : Lies W br rr A2 Ab l) (hb : Below W.heap.size W w1) (h1 : ReaderAt w1 br A2 n cap2 l a1 s1) (h2 : RefAt w2 rr Ab n capb l a1 s1) (ha : Apart (RF rr) w1 w2) : Both W br rr A2 Ab n cap2 capb l w2 a1 s1 :=
  ⟨h1.apart ha (fun e => hl.hne (by have e : br = rr := e; exact e)) (fun k hk e => (hl.ha2 k hk).2 (by have e : k = rr := e; exact e)), h2, hb.trans (ha.below hb.size (fun k e => by have e : k = rr := e; have := hl.hrr; omega))⟩
theorem Both.keep {W : World} {br rr : Nat} {A2 Ab : Option Addr} {n cap2 capb : Nat} {l : List UInt8} {wr w1 : World} {a : Nat} {s : Bool} (h : Both W br rr A2 Ab n cap2 capb l wr a s) (hb : Below wr.heap.size wr w1) : Both W br rr A2 Ab n cap2 capb l w1 a s :=
  ⟨h.rd.below hb, h.rf.below hb, h.below.trans (hb.mono h.below.size)⟩
theorem Both.drew {W : World} {br rr : Nat} {A2 Ab : Option Addr} {n cap2 capb : Nat} {l : List UInt8} {wr : World} {a : Nat} {s : Bool} (h : Both W br rr A2 Ab n cap2 capb l wr a s) : Both W br rr A2 Ab n cap2 capb l wr.drew a s :=
  ⟨h.rd.drew, h.rf.drew, h.below.drew⟩

def TakesRel (W : World) (br rr : Nat) (A2 Ab : Option Addr) (n cap2 capb : Nat) (l : List UInt8) (len : Nat) (i : Value) (wr : World) : Prop :=
  ∃ k a s, i = .int .i64 (k : Nat) ∧ k ≤ len ∧ k ≤ 100 ∧ Both W br rr A2 Ab n cap2 capb l wr a s

theorem heldSize {B b o : Nat} {v : Value} {W wa wb : World} (h : wa.cell? ⟨b, o, none⟩ = some v ∧ Below B W wa) (hb : b < B) (ha : Below B wa wb) : wb.cell? ⟨b, o, none⟩ = some v ∧ Below B W wb :=
  ⟨(ha.cell (p := ⟨b, o, none⟩) hb).trans h.1, h.2.trans ha⟩

set_option maxRecDepth 100000 in
set_option maxHeartbeats 2000000 in
theorem takes_law (Ab : Option Addr) (l : List UInt8) (n capb : Nat) (hn : l.length = n) (hcapb : n ≤ capb) (A : Option Addr) (len cap : Nat) (f : Nat → ActC) (w : World) (hb : Bytes w w.heap.size Ab l) (hf : ActsIn w A len f) :
    Calls Try.prog 4 #[.slice Ab n capb, .slice A len cap] w (AwakePost w) := by
  have HA := Lib.hid (awake_any w)
  have Hf := Lib.hid hf
  have Hby := Lib.hid hb
  have Hn := Lib.hid hn
  clear hf hb hn
  by_cases h5 : (5000 : Int) < n
  · go_enter Try.func4, Try.ntmps4
    go_wp2_with fail
    refine HA.out.mono ?_
    rintro e w1 ⟨rfl, hb1⟩
    have HF : Hid (AwakePost w (.returned (.bool true)) w1) := Lib.hid ⟨rfl, hb1⟩
    clear hb1
    go_wp2_with fail
    go_ret
    exact HF.out
  · go_enter Try.func4, Try.ntmps4
    go_wp2_with fail
    refine HA.out.mono ?_
    rintro e w1 ⟨rfl, hb1⟩
    have Hb1 := Lib.hid hb1
    have HL := Lib.hid (Row.lit w1 w1.heap.size 5 (Nat.le_refl _))
    have Hbl := Lib.hid (((Hby.out.below hb1 (Nat.le_refl _)).more hb1.size).alloc (Nat.le_refl _) (.cells #[] 5))
    clear hb1
    go_wp2_with (at_builtin
                 refine wpList_append_r rfl (.tmp 13) (.tmp 14) _ rfl w1.heap.size 5 (.int .u8 0) Try.underlying24 infoB rfl _ _ [] rfl HL.out w1.heap.size Ab n capb l rfl Hn.out Hbl.out (by simp <;> omega) (by simp) ?_
                 intro v2 w2 g2 hr2 hm2 ha2
                 have hb2 : Below w1.heap.size w1 w2 := ((Below.refl _ _).alloc (Nat.le_refl _) (.cells #[] 5)).trans (ha2.below (by simp) (fun k e => by injection e with e; omega))
                 have Hr2 := Lib.hid hr2
                 have Hb2 := Lib.hid hb2
                 clear hr2 hm2 ha2 hb2)
    obtain ⟨A9, c9, hv9, hc9, hg9, hby9⟩ := Hr2.out.bytes
    have hn9 : ([] ++ l).length = n := by simpa using Hn.out
    rw [hn9] at hv9 hc9
    subst hv9
    have HR := Lib.hid (read_new A9 n c9 l Hn.out (by omega) w2 (by simpa using hby9))
    clear hc9 hg9 hby9 hn9
    go_wp2_with fail
    refine HR.out.mono ?_
    rintro e w3 ⟨br, A2, cap2, rfl, hbr, hA2, hr3, hb3⟩
    rw [Hn.out] at hr3
    have hW3 : Below w.heap.size w w3 := (Hb1.out.trans (Hb2.out.mono Hb1.out.size)).trans (hb3.mono (Nat.le_trans Hb1.out.size Hb2.out.size))
    have hlt3 := lt_of_block hr3.block
    have hs2 := Nat.le_trans Hb1.out.size Hb2.out.size
    have hL : Lies w br w3.heap.size A2 Ab l := ⟨by omega, by omega, by omega, fun k hk => ⟨by have := hA2 k hk; omega, by have := hA2 k hk; omega⟩, fun hp k hk => by
      obtain ⟨b', o', rfl, hb', -⟩ := Hby.out hp
      obtain rfl : b' = k := by simpa [blockOf] using hk
      exact hb'⟩
    have h0 : Hid (TakesRel w br w3.heap.size A2 Ab n cap2 capb l len (.int .i64 0) (w3.alloc (.cells #[.slice Ab n capb, .int .i64 0, .string ⟨#[]⟩] 40))) := Lib.hid (by
      have hal : Below w3.heap.size w3 (w3.alloc (.cells #[.slice Ab n capb, .int .i64 0, .string ⟨#[]⟩] 40)) := (Below.refl _ _).alloc (Nat.le_refl _) _
      refine ⟨0, 0, false, rfl, by omega, by omega, hr3.below hal, ⟨heap_alloc_new w3 _, ((Hby.out.below hW3 (Nat.le_refl _)).more hW3.size |>.alloc (Nat.le_refl _) _).more (by simp), Hn.out, hcapb, by omega, fun hp e => ?_, Nat.zero_le _⟩, hW3.alloc hW3.size _⟩
      have := hL.hab hp _ e
      have := hW3.size
      omega)
    have HL2 := Lib.hid hL
    clear hbr hA2 hr3 hb3 hW3 hlt3 hs2 hL HR HA Hb1 Hb2 Hr2 HL Hbl
    go_wp2_with fail
    generalize w3.heap.size = rr at *
    go_loopw [7] (fun i wr => TakesRel w br rr A2 Ab n cap2 capb l len i wr) (fun i _ => (len + 1 - intOf i).toNat)
    case atStart => exact h0.out
    case round =>
      clear h0
      obtain ⟨k, a, s, rfl, hk, hk100, hbo⟩ := hrel
      by_cases hlt : k < len
      · by_cases h100 : k < 100
        · have q100 : decide ((k : Int) < 100) = true := by rw [decide_eq_true_iff]; omega
          obtain ⟨b, off, rfl, hb, hfk⟩ := Hf.out (by omega)
          have Hok : Hid (∀ W, Below w.heap.size w W → ActOk W b (off + k * 4) (f k)) := Lib.hid fun W hW => (hfk k hlt).below hb hW
          generalize f k = x1 at *
          obtain ⟨kd, sz, num, DA, dm, dc, dat⟩ := x1
          have hB := hbo.below.size
          obtain ⟨a0, a1, -, -, -, -, -, -, -, -, -⟩ := Hok.out wr hbo.below
          simp only at a0 a1
          have HN : Hid (∀ W a' s', Both w br rr A2 Ab n cap2 capb l W a' s' → TakesRel w br rr A2 Ab n cap2 capb l len (.int .i64 ((k : Int) + 1)) W) := Lib.hid fun W a' s' h => ⟨k + 1, a', s', by go_num, by omega, by omega, h⟩
          have Hbo := Lib.hid hbo
          have HB := Lib.hid hB
          have hbwr : b < wr.heap.size := Nat.lt_of_lt_of_le hb hB
          clear hbo hfk hB Hf
          by_cases hkind : kd = 1
          · subst hkind
            go_wp2_with fail
            refine wp_region_held_drew (S := fun _ => True) (by kernel_rfl) trivial (fun _ => ?_)
            refine wpAnyH_take (i := 0) (oi := ?oo1) (v := ?vv1) ?ii1 (by kernel_rfl) ?ff1 (by kernel_rfl) ?qq1 (Or.inl ⟨?ww1, ?yy1⟩) trivial ?rr1
            case ii1 => simp only [List.getElem?_toArray, List.getElem?_cons_zero]; rfl
            case ff1 => kernel_rfl
            case qq1 => exact fun _ _ _ h => h
            case ww1 => rfl
            case yy1 => intro W hW; go_simp <;> with_reducible rfl
            simp only [Act.put, List.setIfInBounds_toArray, List.set_cons_zero, List.set_cons_succ]
            refine wpAnyH_take (i := 3) (oi := ?oo2) (v := ?vv2) ?ii2 (by kernel_rfl) ?ff2 (by kernel_rfl) ?qq2 (Or.inl ⟨?ww2, ?yy2⟩) trivial ?rr2
            case ii2 => simp only [List.getElem?_toArray, List.getElem?_cons_succ, List.getElem?_cons_zero]; rfl
            case ff2 => kernel_rfl
            case qq2 => exact fun _ _ _ h => h
            case ww2 => rfl
            case yy2 => intro W hW; go_simp <;> with_reducible rfl
            simp only [Act.put, List.setIfInBounds_toArray, List.set_cons_zero, List.set_cons_succ]
            refine wpAnyH_ready (rs := [1]) (by kernel_rfl) (by simp) ?_
            refine AllReadyH.cons (o := ?oo3) ?ii3 (fun K hK => ?_) AllReadyH.nil
            case ii3 => simp only [List.getElem?_toArray, List.getElem?_cons_succ, List.getElem?_cons_zero]; rfl
            go_simp
            refine (tell_any br A2 n cap2 l a s wr.drew Hbo.out.drew.rd).mono ?_
            rintro e w7 ⟨v7, g7, rfl, hr7, h7, ha7⟩
            replace ha7 := ha7.undrew
            obtain ⟨hf7, hb7⟩ := both_first HL2.out Hbo.out ha7
            have HT7 := Lib.hid (reftell_any rr Ab n capb l a s w7 hf7)
            obtain ⟨A7, c7, hv7, -, hg7, hby7⟩ := hr7.bytes
            have hge7 : ∀ q, blockOf A7 = some q → wr.heap.size ≤ q ∧ q < w7.heap.size := fun q hq => hr7.lt q (hg7.symm.trans hq)
            have Hge7 := Lib.hid hge7
            have H7 := Lib.hid h7
            have Hb7 := Lib.hid hb7
            have Hf7 := Lib.hid hf7
            have Hrr := Lib.hid (lt_of_block Hbo.out.rf.block)
            have h77 : Bytes w7 w7.heap.size A7 (WireP.tell l a s).l := hby7
            generalize hq7 : (WireP.tell l a s).l.length = q7 at *
            have Hq7 := Lib.hid hq7
            subst hv7
            clear hr7 h7 ha7 hf7 hb7 hg7 hge7 hby7 hq7
            generalize WireP.tell l a s = tt at *
            obtain ⟨tl, ta, ts⟩ := tt
            simp only at H7 HT7 h77 Hq7
            have hc7 := fun W (hW : Bytes W w7.heap.size A7 tl) => conv_in (w := W) (cap := c7) Hq7.out hW
            go_wp2_with fail
            refine hK.out _ _ trivial (fun _ => ?_)
            clear hK K
            refine wpAnyH_mono (S' := fun W => Bytes W w7.heap.size A7 tl) (fun _ _ => trivial) _ _ _ _ ?_
            refine wpAnyH_take (i := 2) (oi := ?oo4) (v := ?vv4) ?ii4 (by kernel_rfl) ?ff4 (by kernel_rfl) ?qq4 (Or.inl ⟨?ww4, ?yy4⟩) h77 ?rr4
            case ii4 => simp only [List.getElem?_toArray, List.getElem?_cons_succ, List.getElem?_cons_zero]; rfl
            case ff4 => kernel_rfl
            case qq4 => exact fun _ _ _ h => h
            case ww4 => rfl
            case yy4 => intro W hW; go_simp <;> with_reducible rfl
            simp only [Act.put, List.setIfInBounds_toArray, List.set_cons_zero, List.set_cons_succ]
            refine wpAnyH_ready (rs := [4]) (by kernel_rfl) (by simp) ?_
            refine AllReadyH.cons (o := ?oo5) ?ii5 (fun K hK => ?_) AllReadyH.nil
            case ii5 => simp only [List.getElem?_toArray, List.getElem?_cons_succ, List.getElem?_cons_zero]; rfl
            go_simp
            refine HT7.out.mono ?_
            rintro e w8 ⟨v8, g8, rfl, hr8, h8, ha8⟩
            have hbo8 := both_second HL2.out Hb7.out H7.out h8 ha8
            have h88 : Bytes w8 w7.heap.size A7 tl := h77.apart ha8 (Nat.le_refl _) (fun q hq e => by have e : q = rr := e; have := Hge7.out q hq; have := Hrr.out; omega)
            obtain ⟨A8, c8, hv8, -, -, hby8⟩ := hr8.bytes
            have hv8' : v8 = .slice A8 q7 c8 := hv8.trans (by rw [show (WireP.Told.mk tl ta ts).l.length = q7 from Hq7.out])
            subst hv8'
            have hc8 := fun W (hW : Bytes W w7.heap.size A7 tl ∧ Bytes W w8.heap.size A8 tl) => conv_in (w := W) (cap := c8) Hq7.out hW.2
            have h888 : Bytes w8 w7.heap.size A7 tl ∧ Bytes w8 w8.heap.size A8 tl := ⟨h88, hby8⟩
            have Hbo8 := Lib.hid hbo8
            clear hr8 h8 ha8 hbo8 h88 hby8 hv8 H7 Hb7 Hf7 HT7 hc7 h77 Hbo Hge7
            go_wp2_with fail
            refine hK.out _ _ h888.1 (fun _ => ?_)
            clear hK K
            refine wpAnyH_mono (S' := fun W => Bytes W w7.heap.size A7 tl ∧ Bytes W w8.heap.size A8 tl) (fun _ h => h.1) _ _ _ _ ?_
            refine wpAnyH_take (i := 5) (oi := ?oo6) (v := ?vv6) ?ii6 (by kernel_rfl) ?ff6 (by kernel_rfl) ?qq6 (Or.inl ⟨?ww6, ?yy6⟩) h888 ?rr6
            case ii6 => simp only [List.getElem?_toArray, List.getElem?_cons_succ, List.getElem?_cons_zero]; rfl
            case ff6 => kernel_rfl
            case qq6 => exact fun _ _ _ h => h
            case ww6 => rfl
            case yy6 => intro W hW; go_simp <;> with_reducible rfl
            simp only [Act.put, List.setIfInBounds_toArray, List.set_cons_zero, List.set_cons_succ]
            refine wpAnyH_take (i := 6) (oi := ?oo7) (v := ?vv7) ?ii7 (by kernel_rfl) ?ff7 (by kernel_rfl) ?qq7 (Or.inl ⟨?ww7, ?yy7⟩) h888 ?rr7
            case ii7 => simp only [List.getElem?_toArray, List.getElem?_cons_succ, List.getElem?_cons_zero]; rfl
            case ff7 => kernel_rfl
            case qq7 => exact fun _ _ _ h => h
            case ww7 => rfl
            case yy7 => intro W hW; go_simp <;> with_reducible rfl
            simp only [Act.put, List.setIfInBounds_toArray, List.set_cons_zero, List.set_cons_succ]
            refine wpAnyH_done (by kernel_rfl) ?_ _
            clear hc8 h888
            have hd : Below w8.heap.size w8 w8.drew := (Below.refl _ _).drew
            have ks1 := fun W (hW : Below w8.heap.size w8 W) => (three_cells ((hW.block rr (lt_of_block Hbo8.out.rf.block)).trans Hbo8.out.rf.block)).2.1
            have ks2 := fun W (hW : Below w8.heap.size w8 W) => (three_cells ((hW.block rr (lt_of_block Hbo8.out.rf.block)).trans Hbo8.out.rf.block)).2.2.1
            have HE9 := Lib.hid (err_any br A2 n cap2 l ta ts w8.drew Hbo8.out.drew.rd)
            have HAt := Lib.hid (at_any' br A2 n cap2 l ta ts w8.drew Hbo8.out.drew.rd)
            have HEnd := Lib.hid (fun W (hW : Below w8.heap.size w8 W) => end_any br A2 n cap2 l ta ts W (Hbo8.out.rd.below hW))
            have HREnd := Lib.hid (fun W (hW : Below w8.heap.size w8 W) => refend_any rr Ab n capb l ta ts W (Hbo8.out.rf.below hW))
            have HF := Lib.hid (fun W (hW : Below w8.heap.size w8 W) => HN.out W ta ts (Hbo8.out.keep hW))
            generalize errText ts ta = x at *
            generalize endText ts ta n = y at *
            simp only [strV] at ks2
            clear Hbo8 HN
            go_wp2_with fail
            refine wp_region_held_drew (S := fun W => Below w8.heap.size w8 W) (by kernel_rfl) hd (fun _ => ?_)
            refine wpAnyH_take (i := 0) (oi := ?oo8) (v := ?vv8) ?ii8 (by kernel_rfl) ?ff8 (by kernel_rfl) ?qq8 (Or.inl ⟨?ww8, ?yy8⟩) hd ?rr8
            case ii8 => simp only [List.getElem?_toArray, List.getElem?_cons_zero]; rfl
            case ff8 => kernel_rfl
            case qq8 => exact fun _ _ _ h => h
            case ww8 => rfl
            case yy8 => intro W hW; go_simp <;> with_reducible rfl
            simp only [Act.put, List.setIfInBounds_toArray, List.set_cons_zero, List.set_cons_succ]
            refine wpAnyH_take (i := 2) (oi := ?oo9) (v := ?vv9) ?ii9 (by kernel_rfl) ?ff9 (by kernel_rfl) ?qq9 (Or.inl ⟨?ww9, ?yy9⟩) hd ?rr9
            case ii9 => simp only [List.getElem?_toArray, List.getElem?_cons_succ, List.getElem?_cons_zero]; rfl
            case ff9 => kernel_rfl
            case qq9 => exact fun _ _ _ h => h
            case ww9 => rfl
            case yy9 => intro W hW; go_simp <;> with_reducible rfl
            simp only [Act.put, List.setIfInBounds_toArray, List.set_cons_zero, List.set_cons_succ]
            refine wpAnyH_take (i := 3) (oi := ?oo10) (v := ?vv10) ?ii10 (by kernel_rfl) ?ff10 (by kernel_rfl) ?qq10 (Or.inl ⟨?ww10, ?yy10⟩) hd ?rr10
            case ii10 => simp only [List.getElem?_toArray, List.getElem?_cons_succ, List.getElem?_cons_zero]; rfl
            case ff10 => kernel_rfl
            case qq10 => exact fun _ _ _ h => h
            case ww10 => rfl
            case yy10 => intro W hW; go_simp <;> with_reducible rfl
            simp only [Act.put, List.setIfInBounds_toArray, List.set_cons_zero, List.set_cons_succ]
            refine wpAnyH_take (i := 4) (oi := ?oo11) (v := ?vv11) ?ii11 (by kernel_rfl) ?ff11 (by kernel_rfl) ?qq11 (Or.inl ⟨?ww11, ?yy11⟩) hd ?rr11
            case ii11 => simp only [List.getElem?_toArray, List.getElem?_cons_succ, List.getElem?_cons_zero]; rfl
            case ff11 => kernel_rfl
            case qq11 => exact fun _ _ _ h => h
            case ww11 => rfl
            case yy11 => intro W hW; go_simp <;> with_reducible rfl
            simp only [Act.put, List.setIfInBounds_toArray, List.set_cons_zero, List.set_cons_succ]
            refine wpAnyH_take (i := 5) (oi := ?oo12) (v := ?vv12) ?ii12 (by kernel_rfl) ?ff12 (by kernel_rfl) ?qq12 (Or.inl ⟨?ww12, ?yy12⟩) hd ?rr12
            case ii12 => simp only [List.getElem?_toArray, List.getElem?_cons_succ, List.getElem?_cons_zero]; rfl
            case ff12 => kernel_rfl
            case qq12 => exact fun _ _ _ h => h
            case ww12 => rfl
            case yy12 => intro W hW; go_simp <;> with_reducible rfl
            simp only [Act.put, List.setIfInBounds_toArray, List.set_cons_zero, List.set_cons_succ]
            refine wpAnyH_ready (rs := [1]) (by kernel_rfl) (by simp) ?_
            refine AllReadyH.cons (o := ?oo13) ?ii13 (fun K hK => ?_) AllReadyH.nil
            case ii13 => simp only [List.getElem?_toArray, List.getElem?_cons_succ, List.getElem?_cons_zero]; rfl
            go_simp
            refine HAt.out.mono ?_
            rintro e w9 ⟨rfl, rfl⟩
            go_wp2_with fail
            refine hK.out _ _ hd (fun _ => ?_)
            clear hK K
            refine wpAnyH_take (i := 6) (oi := ?oo14) (v := ?vv14) ?ii14 (by kernel_rfl) ?ff14 (by kernel_rfl) ?qq14 (Or.inl ⟨?ww14, ?yy14⟩) hd ?rr14
            case ii14 => simp only [List.getElem?_toArray, List.getElem?_cons_succ, List.getElem?_cons_zero]; rfl
            case ff14 => kernel_rfl
            case qq14 => exact fun _ _ _ h => h
            case ww14 => rfl
            case yy14 => intro W hW; go_simp <;> with_reducible rfl
            simp only [Act.put, List.setIfInBounds_toArray, List.set_cons_zero, List.set_cons_succ]
            refine wpAnyH_take (i := 7) (oi := ?oo15) (v := ?vv15) ?ii15 (by kernel_rfl) ?ff15 (by kernel_rfl) ?qq15 (Or.inl ⟨?ww15, ?yy15⟩) hd ?rr15
            case ii15 => simp only [List.getElem?_toArray, List.getElem?_cons_succ, List.getElem?_cons_zero]; rfl
            case ff15 => kernel_rfl
            case qq15 => exact fun _ _ _ h => h
            case ww15 => rfl
            case yy15 => intro W hW; go_simp <;> with_reducible rfl
            simp only [Act.put, List.setIfInBounds_toArray, List.set_cons_zero, List.set_cons_succ]
            refine wpAnyH_take (i := 8) (oi := ?oo16) (v := ?vv16) ?ii16 (by kernel_rfl) ?ff16 (by kernel_rfl) ?qq16 (Or.inl ⟨?ww16, ?yy16⟩) hd ?rr16
            case ii16 => simp only [List.getElem?_toArray, List.getElem?_cons_succ, List.getElem?_cons_zero]; rfl
            case ff16 => kernel_rfl
            case qq16 => exact fun _ _ _ h => h
            case ww16 => rfl
            case yy16 => intro W hW; go_simp <;> with_reducible rfl
            simp only [Act.put, List.setIfInBounds_toArray, List.set_cons_zero, List.set_cons_succ]
            refine wpAnyH_take (i := 11) (oi := ?oo17) (v := ?vv17) ?ii17 (by kernel_rfl) ?ff17 (by kernel_rfl) ?qq17 (Or.inl ⟨?ww17, ?yy17⟩) hd ?rr17
            case ii17 => simp only [List.getElem?_toArray, List.getElem?_cons_succ, List.getElem?_cons_zero]; rfl
            case ff17 => kernel_rfl
            case qq17 => exact fun _ _ _ h => h
            case ww17 => rfl
            case yy17 => intro W hW; go_simp <;> with_reducible rfl
            simp only [Act.put, List.setIfInBounds_toArray, List.set_cons_zero, List.set_cons_succ]
            refine wpAnyH_take (i := 12) (oi := ?oo18) (v := ?vv18) ?ii18 (by kernel_rfl) ?ff18 (by kernel_rfl) ?qq18 (Or.inl ⟨?ww18, ?yy18⟩) hd ?rr18
            case ii18 => simp only [List.getElem?_toArray, List.getElem?_cons_succ, List.getElem?_cons_zero]; rfl
            case ff18 => kernel_rfl
            case qq18 => exact fun _ _ _ h => h
            case ww18 => rfl
            case yy18 => intro W hW; go_simp <;> with_reducible rfl
            simp only [Act.put, List.setIfInBounds_toArray, List.set_cons_zero, List.set_cons_succ]
            refine wpAnyH_take (i := 13) (oi := ?oo19) (v := ?vv19) ?ii19 (by kernel_rfl) ?ff19 (by kernel_rfl) ?qq19 (Or.inl ⟨?ww19, ?yy19⟩) hd ?rr19
            case ii19 => simp only [List.getElem?_toArray, List.getElem?_cons_succ, List.getElem?_cons_zero]; rfl
            case ff19 => kernel_rfl
            case qq19 => exact fun _ _ _ h => h
            case ww19 => rfl
            case yy19 => intro W hW; go_simp <;> with_reducible rfl
            simp only [Act.put, List.setIfInBounds_toArray, List.set_cons_zero, List.set_cons_succ]
            refine wpAnyH_take (i := 14) (oi := ?oo20) (v := ?vv20) ?ii20 (by kernel_rfl) ?ff20 (by kernel_rfl) ?qq20 (Or.inl ⟨?ww20, ?yy20⟩) hd ?rr20
            case ii20 => simp only [List.getElem?_toArray, List.getElem?_cons_succ, List.getElem?_cons_zero]; rfl
            case ff20 => kernel_rfl
            case qq20 => exact fun _ _ _ h => h
            case ww20 => rfl
            case yy20 => intro W hW; go_simp <;> with_reducible rfl
            simp only [Act.put, List.setIfInBounds_toArray, List.set_cons_zero, List.set_cons_succ]
            refine wpAnyH_ready (rs := [9]) (by kernel_rfl) (by simp) ?_
            refine AllReadyH.cons (o := ?oo21) ?ii21 (fun K hK => ?_) AllReadyH.nil
            case ii21 => simp only [List.getElem?_toArray, List.getElem?_cons_succ, List.getElem?_cons_zero]; rfl
            go_simp
            refine HE9.out.mono ?_
            rintro e w9 ⟨v9, rfl, hv9, -, hb9⟩
            have hd9 : Below w8.heap.size w8 w9 := hd.trans (hb9.mono (Nat.le_refl _))
            have HR9 := Lib.hid hv9.read
            simp only [strV] at HR9
            clear hv9 hb9
            go_wp2_with fail
            refine hK.out _ _ hd9 (fun _ => ?_)
            clear hK K
            refine wpAnyH_ready (rs := [10]) (by kernel_rfl) (by simp) ?_
            refine AllReadyH.cons (o := ?oo22) ?ii22 (fun K hK => ?_) AllReadyH.nil
            case ii22 => simp only [List.getElem?_toArray, List.getElem?_cons_succ, List.getElem?_cons_zero]; rfl
            go_simp
            refine HR9.out.mono ?_
            rintro e w10 ⟨rfl, hb10⟩
            have hd10 : Below w8.heap.size w8 w10 := hd9.trans (hb10.mono hd9.size)
            clear hb10 HR9
            go_wp2_with fail
            refine hK.out _ _ hd10 (fun _ => ?_)
            clear hK K
            refine wpAnyH_take (i := 15) (oi := ?oo23) (v := ?vv23) ?ii23 (by kernel_rfl) ?ff23 (by kernel_rfl) ?qq23 (Or.inl ⟨?ww23, ?yy23⟩) hd10 ?rr23
            case ii23 => simp only [List.getElem?_toArray, List.getElem?_cons_succ, List.getElem?_cons_zero]; rfl
            case ff23 => kernel_rfl
            case qq23 => exact fun _ _ _ h => h
            case ww23 => rfl
            case yy23 => intro W hW; go_simp <;> with_reducible rfl
            simp only [Act.put, List.setIfInBounds_toArray, List.set_cons_zero, List.set_cons_succ]
            refine wpAnyH_take (i := 16) (oi := ?oo24) (v := ?vv24) ?ii24 (by kernel_rfl) ?ff24 (by kernel_rfl) ?qq24 (Or.inl ⟨?ww24, ?yy24⟩) hd10 ?rr24
            case ii24 => simp only [List.getElem?_toArray, List.getElem?_cons_succ, List.getElem?_cons_zero]; rfl
            case ff24 => kernel_rfl
            case qq24 => exact fun _ _ _ h => h
            case ww24 => rfl
            case yy24 => intro W hW; go_simp <;> with_reducible rfl
            simp only [Act.put, List.setIfInBounds_toArray, List.set_cons_zero, List.set_cons_succ]
            refine wpAnyH_take (i := 17) (oi := ?oo25) (v := ?vv25) ?ii25 (by kernel_rfl) ?ff25 (by kernel_rfl) ?qq25 (Or.inl ⟨?ww25, ?yy25⟩) hd10 ?rr25
            case ii25 => simp only [List.getElem?_toArray, List.getElem?_cons_succ, List.getElem?_cons_zero]; rfl
            case ff25 => kernel_rfl
            case qq25 => exact fun _ _ _ h => h
            case ww25 => rfl
            case yy25 => intro W hW; go_simp <;> with_reducible rfl
            simp only [Act.put, List.setIfInBounds_toArray, List.set_cons_zero, List.set_cons_succ]
            refine wpAnyH_take (i := 18) (oi := ?oo26) (v := ?vv26) ?ii26 (by kernel_rfl) ?ff26 (by kernel_rfl) ?qq26 (Or.inl ⟨?ww26, ?yy26⟩) hd10 ?rr26
            case ii26 => simp only [List.getElem?_toArray, List.getElem?_cons_succ, List.getElem?_cons_zero]; rfl
            case ff26 => kernel_rfl
            case qq26 => exact fun _ _ _ h => h
            case ww26 => rfl
            case yy26 => intro W hW; go_simp <;> with_reducible rfl
            simp only [Act.put, List.setIfInBounds_toArray, List.set_cons_zero, List.set_cons_succ]
            refine wpAnyH_take (i := 21) (oi := ?oo27) (v := ?vv27) ?ii27 (by kernel_rfl) ?ff27 (by kernel_rfl) ?qq27 (Or.inl ⟨?ww27, ?yy27⟩) hd10 ?rr27
            case ii27 => simp only [List.getElem?_toArray, List.getElem?_cons_succ, List.getElem?_cons_zero]; rfl
            case ff27 => kernel_rfl
            case qq27 => exact fun _ _ _ h => h
            case ww27 => rfl
            case yy27 => intro W hW; go_simp <;> with_reducible rfl
            simp only [Act.put, List.setIfInBounds_toArray, List.set_cons_zero, List.set_cons_succ]
            refine wpAnyH_ready (rs := [19]) (by kernel_rfl) (by simp) ?_
            refine AllReadyH.cons (o := ?oo28) ?ii28 (fun K hK => ?_) AllReadyH.nil
            case ii28 => simp only [List.getElem?_toArray, List.getElem?_cons_succ, List.getElem?_cons_zero]; rfl
            go_simp
            refine (HEnd.out w10 hd10).mono ?_
            rintro e w11 ⟨v11, rfl, hv11, -, hb11⟩
            have hd11 : Below w8.heap.size w8 w11 := hd10.trans (hb11.mono hd10.size)
            have HR11 := Lib.hid hv11.read
            simp only [strV] at HR11
            clear hv11 hb11
            go_wp2_with fail
            refine hK.out _ _ hd11 (fun _ => ?_)
            clear hK K
            refine wpAnyH_ready (rs := [20]) (by kernel_rfl) (by simp) ?_
            refine AllReadyH.cons (o := ?oo29) ?ii29 (fun K hK => ?_) AllReadyH.nil
            case ii29 => simp only [List.getElem?_toArray, List.getElem?_cons_succ, List.getElem?_cons_zero]; rfl
            go_simp
            refine HR11.out.mono ?_
            rintro e w12 ⟨rfl, hb12⟩
            have hd12 : Below w8.heap.size w8 w12 := hd11.trans (hb12.mono hd11.size)
            clear hb12 HR11
            go_wp2_with fail
            refine hK.out _ _ hd12 (fun _ => ?_)
            clear hK K
            refine wpAnyH_ready (rs := [22]) (by kernel_rfl) (by simp) ?_
            refine AllReadyH.cons (o := ?oo30) ?ii30 (fun K hK => ?_) AllReadyH.nil
            case ii30 => simp only [List.getElem?_toArray, List.getElem?_cons_succ, List.getElem?_cons_zero]; rfl
            go_simp
            refine (HREnd.out w12 hd12).mono ?_
            rintro e w13 ⟨rfl, hb13⟩
            have hd13 : Below w8.heap.size w8 w13 := hd12.trans (hb13.mono hd12.size)
            clear hb13
            simp only [strV]
            go_wp2_with fail
            refine hK.out _ _ hd13 (fun _ => ?_)
            clear hK K
            refine wpAnyH_take (i := 23) (oi := ?oo31) (v := ?vv31) ?ii31 (by kernel_rfl) ?ff31 (by kernel_rfl) ?qq31 (Or.inl ⟨?ww31, ?yy31⟩) hd13 ?rr31
            case ii31 => simp only [List.getElem?_toArray, List.getElem?_cons_succ, List.getElem?_cons_zero]; rfl
            case ff31 => kernel_rfl
            case qq31 => exact fun _ _ _ h => h
            case ww31 => rfl
            case yy31 => intro W hW; go_simp <;> with_reducible rfl
            simp only [Act.put, List.setIfInBounds_toArray, List.set_cons_zero, List.set_cons_succ]
            refine wpAnyH_take (i := 24) (oi := ?oo32) (v := ?vv32) ?ii32 (by kernel_rfl) ?ff32 (by kernel_rfl) ?qq32 (Or.inl ⟨?ww32, ?yy32⟩) hd13 ?rr32
            case ii32 => simp only [List.getElem?_toArray, List.getElem?_cons_succ, List.getElem?_cons_zero]; rfl
            case ff32 => kernel_rfl
            case qq32 => exact fun _ _ _ h => h
            case ww32 => rfl
            case yy32 => intro W hW; go_simp <;> with_reducible rfl
            simp only [Act.put, List.setIfInBounds_toArray, List.set_cons_zero, List.set_cons_succ]
            refine wpAnyH_done (by kernel_rfl) ?_ _
            have HFF := Lib.hid (HF.out w13 hd13)
            clear ks1 ks2 hd hd9 hd10 hd11 hd12 hd13
            go_wp2_with fail
            go_roundw
            case rel => exact HFF.out
            case measure => simp [intOf]; omega
          · have q : (kd == 1) = false := beq_eq_false_iff_ne.2 hkind
            clear hkind
            have hS : wr.cell? ⟨b, off + k * 4 + 1, none⟩ = some (.int .i64 sz) ∧ Below w.heap.size w wr := ⟨a1, Hbo.out.below⟩
            have hSd : wr.drew.cell? ⟨b, off + k * 4 + 1, none⟩ = some (.int .i64 sz) ∧ Below w.heap.size w wr.drew := ⟨a1, Hbo.out.below.drew⟩
            go_wp2_with fail
            refine wp_region_held_drew (S := fun W => W.cell? ⟨b, off + k * 4 + 1, none⟩ = some (.int .i64 sz) ∧ Below w.heap.size w W) (by kernel_rfl) hSd (fun _ => ?_)
            refine wpAnyH_take (i := 0) (oi := ?oo33) (v := ?vv33) ?ii33 (by kernel_rfl) ?ff33 (by kernel_rfl) ?qq33 (Or.inl ⟨?ww33, ?yy33⟩) hSd ?rr33
            case ii33 => simp only [List.getElem?_toArray, List.getElem?_cons_zero]; rfl
            case ff33 => kernel_rfl
            case qq33 => exact fun _ _ _ h => h
            case ww33 => rfl
            case yy33 => intro W hW; go_simp <;> with_reducible rfl
            simp only [Act.put, List.setIfInBounds_toArray, List.set_cons_zero, List.set_cons_succ]
            refine wpAnyH_take (i := 1) (oi := ?oo34) (v := ?vv34) ?ii34 (by kernel_rfl) ?ff34 (by kernel_rfl) ?qq34 (Or.inl ⟨?ww34, ?yy34⟩) hSd ?rr34
            case ii34 => simp only [List.getElem?_toArray, List.getElem?_cons_succ, List.getElem?_cons_zero]; rfl
            case ff34 => kernel_rfl
            case qq34 => exact fun _ _ _ h => h
            case ww34 => rfl
            case yy34 => intro W hW; go_simp <;> with_reducible rfl
            simp only [Act.put, List.setIfInBounds_toArray, List.set_cons_zero, List.set_cons_succ]
            refine wpAnyH_take (i := 2) (oi := ?oo35) (v := ?vv35) ?ii35 (by kernel_rfl) ?ff35 (by kernel_rfl) ?qq35 (Or.inl ⟨?ww35, ?yy35⟩) hSd ?rr35
            case ii35 => simp only [List.getElem?_toArray, List.getElem?_cons_succ, List.getElem?_cons_zero]; rfl
            case ff35 => kernel_rfl
            case qq35 => exact fun _ _ _ h => h
            case ww35 => rfl
            case yy35 => intro W hW; go_simp <;> with_reducible rfl
            simp only [Act.put, List.setIfInBounds_toArray, List.set_cons_zero, List.set_cons_succ]
            refine wpAnyH_take (i := 3) (oi := ?oo36) (v := ?vv36) ?ii36 (by kernel_rfl) ?ff36 (by kernel_rfl) ?qq36 (Or.inl ⟨?ww36, ?yy36⟩) hSd ?rr36
            case ii36 => simp only [List.getElem?_toArray, List.getElem?_cons_succ, List.getElem?_cons_zero]; rfl
            case ff36 => kernel_rfl
            case qq36 => exact fun _ _ _ h => h
            case ww36 => rfl
            case yy36 => intro W hW; go_simp <;> with_reducible rfl
            simp only [Act.put, List.setIfInBounds_toArray, List.set_cons_zero, List.set_cons_succ]
            refine wpAnyH_take (i := 4) (oi := ?oo37) (v := ?vv37) ?ii37 (by kernel_rfl) ?ff37 (by kernel_rfl) ?qq37 (Or.inl ⟨?ww37, ?yy37⟩) hSd ?rr37
            case ii37 => simp only [List.getElem?_toArray, List.getElem?_cons_succ, List.getElem?_cons_zero]; rfl
            case ff37 => kernel_rfl
            case qq37 => exact fun _ _ _ h => h
            case ww37 => rfl
            case yy37 => intro W hW; go_simp <;> with_reducible rfl
            simp only [Act.put, List.setIfInBounds_toArray, List.set_cons_zero, List.set_cons_succ]
            refine wpAnyH_take (i := 5) (oi := ?oo38) (v := ?vv38) ?ii38 (by kernel_rfl) ?ff38 (by kernel_rfl) ?qq38 (Or.inl ⟨?ww38, ?yy38⟩) hSd ?rr38
            case ii38 => simp only [List.getElem?_toArray, List.getElem?_cons_succ, List.getElem?_cons_zero]; rfl
            case ff38 => kernel_rfl
            case qq38 => exact fun _ _ _ h => h
            case ww38 => rfl
            case yy38 => intro W hW; go_simp <;> with_reducible rfl
            simp only [Act.put, List.setIfInBounds_toArray, List.set_cons_zero, List.set_cons_succ]
            refine wpAnyH_take (i := 7) (oi := ?oo39) (v := ?vv39) ?ii39 (by kernel_rfl) ?ff39 (by kernel_rfl) ?qq39 (Or.inl ⟨?ww39, ?yy39⟩) hSd ?rr39
            case ii39 => simp only [List.getElem?_toArray, List.getElem?_cons_succ, List.getElem?_cons_zero]; rfl
            case ff39 => kernel_rfl
            case qq39 => exact fun _ _ _ h => h
            case ww39 => rfl
            case yy39 => intro W hW; go_simp <;> with_reducible rfl
            simp only [Act.put, List.setIfInBounds_toArray, List.set_cons_zero, List.set_cons_succ]
            refine wpAnyH_take (i := 8) (oi := ?oo40) (v := ?vv40) ?ii40 (by kernel_rfl) ?ff40 (by kernel_rfl) ?qq40 (Or.inl ⟨?ww40, ?yy40⟩) hSd ?rr40
            case ii40 => simp only [List.getElem?_toArray, List.getElem?_cons_succ, List.getElem?_cons_zero]; rfl
            case ff40 => kernel_rfl
            case qq40 => exact fun _ _ _ h => h
            case ww40 => rfl
            case yy40 => intro W hW; go_simp <;> with_reducible rfl
            simp only [Act.put, List.setIfInBounds_toArray, List.set_cons_zero, List.set_cons_succ]
            refine wpAnyH_take (i := 9) (oi := ?oo41) (v := ?vv41) ?ii41 (by kernel_rfl) ?ff41 (by kernel_rfl) ?qq41 (Or.inl ⟨?ww41, ?yy41⟩) hSd ?rr41
            case ii41 => simp only [List.getElem?_toArray, List.getElem?_cons_succ, List.getElem?_cons_zero]; rfl
            case ff41 => kernel_rfl
            case qq41 => exact fun _ _ _ h => h
            case ww41 => rfl
            case yy41 => intro W hW; go_simp <;> with_reducible rfl
            simp only [Act.put, List.setIfInBounds_toArray, List.set_cons_zero, List.set_cons_succ]
            refine wpAnyH_take (i := 10) (oi := ?oo42) (v := ?vv42) ?ii42 (by kernel_rfl) ?ff42 (by kernel_rfl) ?qq42 (Or.inl ⟨?ww42, ?yy42⟩) hSd ?rr42
            case ii42 => simp only [List.getElem?_toArray, List.getElem?_cons_succ, List.getElem?_cons_zero]; rfl
            case ff42 => kernel_rfl
            case qq42 => exact fun _ _ _ h => h
            case ww42 => rfl
            case yy42 => intro W hW; go_simp <;> with_reducible rfl
            simp only [Act.put, List.setIfInBounds_toArray, List.set_cons_zero, List.set_cons_succ]
            refine wpAnyH_take (i := 11) (oi := ?oo43) (v := ?vv43) ?ii43 (by kernel_rfl) ?ff43 (by kernel_rfl) ?qq43 (Or.inl ⟨?ww43, ?yy43⟩) hSd ?rr43
            case ii43 => simp only [List.getElem?_toArray, List.getElem?_cons_succ, List.getElem?_cons_zero]; rfl
            case ff43 => kernel_rfl
            case qq43 => exact fun _ _ _ h => h
            case ww43 => rfl
            case yy43 => intro W hW; go_simp <;> with_reducible rfl
            simp only [Act.put, List.setIfInBounds_toArray, List.set_cons_zero, List.set_cons_succ]
            refine wpAnyH_take (i := 12) (oi := ?oo44) (v := ?vv44) ?ii44 (by kernel_rfl) ?ff44 (by kernel_rfl) ?qq44 (Or.inl ⟨?ww44, ?yy44⟩) hSd ?rr44
            case ii44 => simp only [List.getElem?_toArray, List.getElem?_cons_succ, List.getElem?_cons_zero]; rfl
            case ff44 => kernel_rfl
            case qq44 => exact fun _ _ _ h => h
            case ww44 => rfl
            case yy44 => intro W hW; go_simp <;> with_reducible rfl
            simp only [Act.put, List.setIfInBounds_toArray, List.set_cons_zero, List.set_cons_succ]
            refine wpAnyH_ready (rs := [6]) (by kernel_rfl) (by simp) ?_
            refine AllReadyH.cons (o := ?oo45) ?ii45 (fun K hK => ?_) AllReadyH.nil
            case ii45 => simp only [List.getElem?_toArray, List.getElem?_cons_succ, List.getElem?_cons_zero]; rfl
            go_simp
            refine (take_any br A2 n cap2 l a s sz wr.drew Hbo.out.drew.rd).mono ?_
            rintro e w7 ⟨rfl, h7, ha7⟩
            replace ha7 := ha7.undrew
            obtain ⟨hf7, hb7⟩ := both_first HL2.out Hbo.out ha7
            have HT7 := Lib.hid (reftake_any rr Ab n capb l a s sz w7 hf7)
            have HS7 := Lib.hid (heldSize hS hb (ha7.below HB.out (fun q e => by have e : q = br := e; have := HL2.out.hbr; omega)))
            have H7 := Lib.hid h7
            have Hb7 := Lib.hid hb7
            clear h7 ha7 hf7 hb7
            generalize WireP.take l a s sz = tt at *
            obtain ⟨tn, ta, ts⟩ := tt
            simp only at H7 HT7
            go_wp2_with fail
            refine hK.out _ _ HS7.out (fun _ => ?_)
            clear hK K
            refine wpAnyH_ready (rs := [13]) (by kernel_rfl) (by simp) ?_
            refine AllReadyH.cons (o := ?oo46) ?ii46 (fun K hK => ?_) AllReadyH.nil
            case ii46 => simp only [List.getElem?_toArray, List.getElem?_cons_succ, List.getElem?_cons_zero]; rfl
            go_simp
            refine HT7.out.mono ?_
            rintro e w8 ⟨rfl, h8, ha8⟩
            have hbo8 := both_second HL2.out Hb7.out H7.out h8 ha8
            have HS8 := Lib.hid (heldSize HS7.out hb (ha8.below Hb7.out.size (fun q e => by have e : q = rr := e; have := HL2.out.hrr; omega)))
            have Hbo8 := Lib.hid hbo8
            clear h8 ha8 hbo8 H7 Hb7 HT7 Hbo
            go_wp2_with fail
            refine hK.out _ _ HS8.out (fun _ => ?_)
            clear hK K
            refine wpAnyH_take (i := 14) (oi := ?oo47) (v := ?vv47) ?ii47 (by kernel_rfl) ?ff47 (by kernel_rfl) ?qq47 (Or.inl ⟨?ww47, ?yy47⟩) HS8.out ?rr47
            case ii47 => simp only [List.getElem?_toArray, List.getElem?_cons_succ, List.getElem?_cons_zero]; rfl
            case ff47 => kernel_rfl
            case qq47 => exact fun _ _ _ h => h
            case ww47 => rfl
            case yy47 => intro W hW; go_simp <;> with_reducible rfl
            simp only [Act.put, List.setIfInBounds_toArray, List.set_cons_zero, List.set_cons_succ]
            refine wpAnyH_done (by kernel_rfl) ?_ _
            clear hS hSd
            have hd : Below w8.heap.size w8 w8.drew := (Below.refl _ _).drew
            have ks1 := fun W (hW : Below w8.heap.size w8 W) => (three_cells ((hW.block rr (lt_of_block Hbo8.out.rf.block)).trans Hbo8.out.rf.block)).2.1
            have ks2 := fun W (hW : Below w8.heap.size w8 W) => (three_cells ((hW.block rr (lt_of_block Hbo8.out.rf.block)).trans Hbo8.out.rf.block)).2.2.1
            have HE9 := Lib.hid (err_any br A2 n cap2 l ta ts w8.drew Hbo8.out.drew.rd)
            have HAt := Lib.hid (at_any' br A2 n cap2 l ta ts w8.drew Hbo8.out.drew.rd)
            have HEnd := Lib.hid (fun W (hW : Below w8.heap.size w8 W) => end_any br A2 n cap2 l ta ts W (Hbo8.out.rd.below hW))
            have HREnd := Lib.hid (fun W (hW : Below w8.heap.size w8 W) => refend_any rr Ab n capb l ta ts W (Hbo8.out.rf.below hW))
            have HF := Lib.hid (fun W (hW : Below w8.heap.size w8 W) => HN.out W ta ts (Hbo8.out.keep hW))
            generalize errText ts ta = x at *
            generalize endText ts ta n = y at *
            simp only [strV] at ks2
            clear Hbo8 HN
            go_wp2_with fail
            refine wp_region_held_drew (S := fun W => Below w8.heap.size w8 W) (by kernel_rfl) hd (fun _ => ?_)
            refine wpAnyH_take (i := 0) (oi := ?oo48) (v := ?vv48) ?ii48 (by kernel_rfl) ?ff48 (by kernel_rfl) ?qq48 (Or.inl ⟨?ww48, ?yy48⟩) hd ?rr48
            case ii48 => simp only [List.getElem?_toArray, List.getElem?_cons_zero]; rfl
            case ff48 => kernel_rfl
            case qq48 => exact fun _ _ _ h => h
            case ww48 => rfl
            case yy48 => intro W hW; go_simp <;> with_reducible rfl
            simp only [Act.put, List.setIfInBounds_toArray, List.set_cons_zero, List.set_cons_succ]
            refine wpAnyH_take (i := 2) (oi := ?oo49) (v := ?vv49) ?ii49 (by kernel_rfl) ?ff49 (by kernel_rfl) ?qq49 (Or.inl ⟨?ww49, ?yy49⟩) hd ?rr49
            case ii49 => simp only [List.getElem?_toArray, List.getElem?_cons_succ, List.getElem?_cons_zero]; rfl
            case ff49 => kernel_rfl
            case qq49 => exact fun _ _ _ h => h
            case ww49 => rfl
            case yy49 => intro W hW; go_simp <;> with_reducible rfl
            simp only [Act.put, List.setIfInBounds_toArray, List.set_cons_zero, List.set_cons_succ]
            refine wpAnyH_take (i := 3) (oi := ?oo50) (v := ?vv50) ?ii50 (by kernel_rfl) ?ff50 (by kernel_rfl) ?qq50 (Or.inl ⟨?ww50, ?yy50⟩) hd ?rr50
            case ii50 => simp only [List.getElem?_toArray, List.getElem?_cons_succ, List.getElem?_cons_zero]; rfl
            case ff50 => kernel_rfl
            case qq50 => exact fun _ _ _ h => h
            case ww50 => rfl
            case yy50 => intro W hW; go_simp <;> with_reducible rfl
            simp only [Act.put, List.setIfInBounds_toArray, List.set_cons_zero, List.set_cons_succ]
            refine wpAnyH_take (i := 4) (oi := ?oo51) (v := ?vv51) ?ii51 (by kernel_rfl) ?ff51 (by kernel_rfl) ?qq51 (Or.inl ⟨?ww51, ?yy51⟩) hd ?rr51
            case ii51 => simp only [List.getElem?_toArray, List.getElem?_cons_succ, List.getElem?_cons_zero]; rfl
            case ff51 => kernel_rfl
            case qq51 => exact fun _ _ _ h => h
            case ww51 => rfl
            case yy51 => intro W hW; go_simp <;> with_reducible rfl
            simp only [Act.put, List.setIfInBounds_toArray, List.set_cons_zero, List.set_cons_succ]
            refine wpAnyH_take (i := 5) (oi := ?oo52) (v := ?vv52) ?ii52 (by kernel_rfl) ?ff52 (by kernel_rfl) ?qq52 (Or.inl ⟨?ww52, ?yy52⟩) hd ?rr52
            case ii52 => simp only [List.getElem?_toArray, List.getElem?_cons_succ, List.getElem?_cons_zero]; rfl
            case ff52 => kernel_rfl
            case qq52 => exact fun _ _ _ h => h
            case ww52 => rfl
            case yy52 => intro W hW; go_simp <;> with_reducible rfl
            simp only [Act.put, List.setIfInBounds_toArray, List.set_cons_zero, List.set_cons_succ]
            refine wpAnyH_ready (rs := [1]) (by kernel_rfl) (by simp) ?_
            refine AllReadyH.cons (o := ?oo53) ?ii53 (fun K hK => ?_) AllReadyH.nil
            case ii53 => simp only [List.getElem?_toArray, List.getElem?_cons_succ, List.getElem?_cons_zero]; rfl
            go_simp
            refine HAt.out.mono ?_
            rintro e w9 ⟨rfl, rfl⟩
            go_wp2_with fail
            refine hK.out _ _ hd (fun _ => ?_)
            clear hK K
            refine wpAnyH_take (i := 6) (oi := ?oo54) (v := ?vv54) ?ii54 (by kernel_rfl) ?ff54 (by kernel_rfl) ?qq54 (Or.inl ⟨?ww54, ?yy54⟩) hd ?rr54
            case ii54 => simp only [List.getElem?_toArray, List.getElem?_cons_succ, List.getElem?_cons_zero]; rfl
            case ff54 => kernel_rfl
            case qq54 => exact fun _ _ _ h => h
            case ww54 => rfl
            case yy54 => intro W hW; go_simp <;> with_reducible rfl
            simp only [Act.put, List.setIfInBounds_toArray, List.set_cons_zero, List.set_cons_succ]
            refine wpAnyH_take (i := 7) (oi := ?oo55) (v := ?vv55) ?ii55 (by kernel_rfl) ?ff55 (by kernel_rfl) ?qq55 (Or.inl ⟨?ww55, ?yy55⟩) hd ?rr55
            case ii55 => simp only [List.getElem?_toArray, List.getElem?_cons_succ, List.getElem?_cons_zero]; rfl
            case ff55 => kernel_rfl
            case qq55 => exact fun _ _ _ h => h
            case ww55 => rfl
            case yy55 => intro W hW; go_simp <;> with_reducible rfl
            simp only [Act.put, List.setIfInBounds_toArray, List.set_cons_zero, List.set_cons_succ]
            refine wpAnyH_take (i := 8) (oi := ?oo56) (v := ?vv56) ?ii56 (by kernel_rfl) ?ff56 (by kernel_rfl) ?qq56 (Or.inl ⟨?ww56, ?yy56⟩) hd ?rr56
            case ii56 => simp only [List.getElem?_toArray, List.getElem?_cons_succ, List.getElem?_cons_zero]; rfl
            case ff56 => kernel_rfl
            case qq56 => exact fun _ _ _ h => h
            case ww56 => rfl
            case yy56 => intro W hW; go_simp <;> with_reducible rfl
            simp only [Act.put, List.setIfInBounds_toArray, List.set_cons_zero, List.set_cons_succ]
            refine wpAnyH_take (i := 11) (oi := ?oo57) (v := ?vv57) ?ii57 (by kernel_rfl) ?ff57 (by kernel_rfl) ?qq57 (Or.inl ⟨?ww57, ?yy57⟩) hd ?rr57
            case ii57 => simp only [List.getElem?_toArray, List.getElem?_cons_succ, List.getElem?_cons_zero]; rfl
            case ff57 => kernel_rfl
            case qq57 => exact fun _ _ _ h => h
            case ww57 => rfl
            case yy57 => intro W hW; go_simp <;> with_reducible rfl
            simp only [Act.put, List.setIfInBounds_toArray, List.set_cons_zero, List.set_cons_succ]
            refine wpAnyH_take (i := 12) (oi := ?oo58) (v := ?vv58) ?ii58 (by kernel_rfl) ?ff58 (by kernel_rfl) ?qq58 (Or.inl ⟨?ww58, ?yy58⟩) hd ?rr58
            case ii58 => simp only [List.getElem?_toArray, List.getElem?_cons_succ, List.getElem?_cons_zero]; rfl
            case ff58 => kernel_rfl
            case qq58 => exact fun _ _ _ h => h
            case ww58 => rfl
            case yy58 => intro W hW; go_simp <;> with_reducible rfl
            simp only [Act.put, List.setIfInBounds_toArray, List.set_cons_zero, List.set_cons_succ]
            refine wpAnyH_take (i := 13) (oi := ?oo59) (v := ?vv59) ?ii59 (by kernel_rfl) ?ff59 (by kernel_rfl) ?qq59 (Or.inl ⟨?ww59, ?yy59⟩) hd ?rr59
            case ii59 => simp only [List.getElem?_toArray, List.getElem?_cons_succ, List.getElem?_cons_zero]; rfl
            case ff59 => kernel_rfl
            case qq59 => exact fun _ _ _ h => h
            case ww59 => rfl
            case yy59 => intro W hW; go_simp <;> with_reducible rfl
            simp only [Act.put, List.setIfInBounds_toArray, List.set_cons_zero, List.set_cons_succ]
            refine wpAnyH_take (i := 14) (oi := ?oo60) (v := ?vv60) ?ii60 (by kernel_rfl) ?ff60 (by kernel_rfl) ?qq60 (Or.inl ⟨?ww60, ?yy60⟩) hd ?rr60
            case ii60 => simp only [List.getElem?_toArray, List.getElem?_cons_succ, List.getElem?_cons_zero]; rfl
            case ff60 => kernel_rfl
            case qq60 => exact fun _ _ _ h => h
            case ww60 => rfl
            case yy60 => intro W hW; go_simp <;> with_reducible rfl
            simp only [Act.put, List.setIfInBounds_toArray, List.set_cons_zero, List.set_cons_succ]
            refine wpAnyH_ready (rs := [9]) (by kernel_rfl) (by simp) ?_
            refine AllReadyH.cons (o := ?oo61) ?ii61 (fun K hK => ?_) AllReadyH.nil
            case ii61 => simp only [List.getElem?_toArray, List.getElem?_cons_succ, List.getElem?_cons_zero]; rfl
            go_simp
            refine HE9.out.mono ?_
            rintro e w9 ⟨v9, rfl, hv9, -, hb9⟩
            have hd9 : Below w8.heap.size w8 w9 := hd.trans (hb9.mono (Nat.le_refl _))
            have HR9 := Lib.hid hv9.read
            simp only [strV] at HR9
            clear hv9 hb9
            go_wp2_with fail
            refine hK.out _ _ hd9 (fun _ => ?_)
            clear hK K
            refine wpAnyH_ready (rs := [10]) (by kernel_rfl) (by simp) ?_
            refine AllReadyH.cons (o := ?oo62) ?ii62 (fun K hK => ?_) AllReadyH.nil
            case ii62 => simp only [List.getElem?_toArray, List.getElem?_cons_succ, List.getElem?_cons_zero]; rfl
            go_simp
            refine HR9.out.mono ?_
            rintro e w10 ⟨rfl, hb10⟩
            have hd10 : Below w8.heap.size w8 w10 := hd9.trans (hb10.mono hd9.size)
            clear hb10 HR9
            go_wp2_with fail
            refine hK.out _ _ hd10 (fun _ => ?_)
            clear hK K
            refine wpAnyH_take (i := 15) (oi := ?oo63) (v := ?vv63) ?ii63 (by kernel_rfl) ?ff63 (by kernel_rfl) ?qq63 (Or.inl ⟨?ww63, ?yy63⟩) hd10 ?rr63
            case ii63 => simp only [List.getElem?_toArray, List.getElem?_cons_succ, List.getElem?_cons_zero]; rfl
            case ff63 => kernel_rfl
            case qq63 => exact fun _ _ _ h => h
            case ww63 => rfl
            case yy63 => intro W hW; go_simp <;> with_reducible rfl
            simp only [Act.put, List.setIfInBounds_toArray, List.set_cons_zero, List.set_cons_succ]
            refine wpAnyH_take (i := 16) (oi := ?oo64) (v := ?vv64) ?ii64 (by kernel_rfl) ?ff64 (by kernel_rfl) ?qq64 (Or.inl ⟨?ww64, ?yy64⟩) hd10 ?rr64
            case ii64 => simp only [List.getElem?_toArray, List.getElem?_cons_succ, List.getElem?_cons_zero]; rfl
            case ff64 => kernel_rfl
            case qq64 => exact fun _ _ _ h => h
            case ww64 => rfl
            case yy64 => intro W hW; go_simp <;> with_reducible rfl
            simp only [Act.put, List.setIfInBounds_toArray, List.set_cons_zero, List.set_cons_succ]
            refine wpAnyH_take (i := 17) (oi := ?oo65) (v := ?vv65) ?ii65 (by kernel_rfl) ?ff65 (by kernel_rfl) ?qq65 (Or.inl ⟨?ww65, ?yy65⟩) hd10 ?rr65
            case ii65 => simp only [List.getElem?_toArray, List.getElem?_cons_succ, List.getElem?_cons_zero]; rfl
            case ff65 => kernel_rfl
            case qq65 => exact fun _ _ _ h => h
            case ww65 => rfl
            case yy65 => intro W hW; go_simp <;> with_reducible rfl
            simp only [Act.put, List.setIfInBounds_toArray, List.set_cons_zero, List.set_cons_succ]
            refine wpAnyH_take (i := 18) (oi := ?oo66) (v := ?vv66) ?ii66 (by kernel_rfl) ?ff66 (by kernel_rfl) ?qq66 (Or.inl ⟨?ww66, ?yy66⟩) hd10 ?rr66
            case ii66 => simp only [List.getElem?_toArray, List.getElem?_cons_succ, List.getElem?_cons_zero]; rfl
            case ff66 => kernel_rfl
            case qq66 => exact fun _ _ _ h => h
            case ww66 => rfl
            case yy66 => intro W hW; go_simp <;> with_reducible rfl
            simp only [Act.put, List.setIfInBounds_toArray, List.set_cons_zero, List.set_cons_succ]
            refine wpAnyH_take (i := 21) (oi := ?oo67) (v := ?vv67) ?ii67 (by kernel_rfl) ?ff67 (by kernel_rfl) ?qq67 (Or.inl ⟨?ww67, ?yy67⟩) hd10 ?rr67
            case ii67 => simp only [List.getElem?_toArray, List.getElem?_cons_succ, List.getElem?_cons_zero]; rfl
            case ff67 => kernel_rfl
            case qq67 => exact fun _ _ _ h => h
            case ww67 => rfl
            case yy67 => intro W hW; go_simp <;> with_reducible rfl
            simp only [Act.put, List.setIfInBounds_toArray, List.set_cons_zero, List.set_cons_succ]
            refine wpAnyH_ready (rs := [19]) (by kernel_rfl) (by simp) ?_
            refine AllReadyH.cons (o := ?oo68) ?ii68 (fun K hK => ?_) AllReadyH.nil
            case ii68 => simp only [List.getElem?_toArray, List.getElem?_cons_succ, List.getElem?_cons_zero]; rfl
            go_simp
            refine (HEnd.out w10 hd10).mono ?_
            rintro e w11 ⟨v11, rfl, hv11, -, hb11⟩
            have hd11 : Below w8.heap.size w8 w11 := hd10.trans (hb11.mono hd10.size)
            have HR11 := Lib.hid hv11.read
            simp only [strV] at HR11
            clear hv11 hb11
            go_wp2_with fail
            refine hK.out _ _ hd11 (fun _ => ?_)
            clear hK K
            refine wpAnyH_ready (rs := [20]) (by kernel_rfl) (by simp) ?_
            refine AllReadyH.cons (o := ?oo69) ?ii69 (fun K hK => ?_) AllReadyH.nil
            case ii69 => simp only [List.getElem?_toArray, List.getElem?_cons_succ, List.getElem?_cons_zero]; rfl
            go_simp
            refine HR11.out.mono ?_
            rintro e w12 ⟨rfl, hb12⟩
            have hd12 : Below w8.heap.size w8 w12 := hd11.trans (hb12.mono hd11.size)
            clear hb12 HR11
            go_wp2_with fail
            refine hK.out _ _ hd12 (fun _ => ?_)
            clear hK K
            refine wpAnyH_ready (rs := [22]) (by kernel_rfl) (by simp) ?_
            refine AllReadyH.cons (o := ?oo70) ?ii70 (fun K hK => ?_) AllReadyH.nil
            case ii70 => simp only [List.getElem?_toArray, List.getElem?_cons_succ, List.getElem?_cons_zero]; rfl
            go_simp
            refine (HREnd.out w12 hd12).mono ?_
            rintro e w13 ⟨rfl, hb13⟩
            have hd13 : Below w8.heap.size w8 w13 := hd12.trans (hb13.mono hd12.size)
            clear hb13
            simp only [strV]
            go_wp2_with fail
            refine hK.out _ _ hd13 (fun _ => ?_)
            clear hK K
            refine wpAnyH_take (i := 23) (oi := ?oo71) (v := ?vv71) ?ii71 (by kernel_rfl) ?ff71 (by kernel_rfl) ?qq71 (Or.inl ⟨?ww71, ?yy71⟩) hd13 ?rr71
            case ii71 => simp only [List.getElem?_toArray, List.getElem?_cons_succ, List.getElem?_cons_zero]; rfl
            case ff71 => kernel_rfl
            case qq71 => exact fun _ _ _ h => h
            case ww71 => rfl
            case yy71 => intro W hW; go_simp <;> with_reducible rfl
            simp only [Act.put, List.setIfInBounds_toArray, List.set_cons_zero, List.set_cons_succ]
            refine wpAnyH_take (i := 24) (oi := ?oo72) (v := ?vv72) ?ii72 (by kernel_rfl) ?ff72 (by kernel_rfl) ?qq72 (Or.inl ⟨?ww72, ?yy72⟩) hd13 ?rr72
            case ii72 => simp only [List.getElem?_toArray, List.getElem?_cons_succ, List.getElem?_cons_zero]; rfl
            case ff72 => kernel_rfl
            case qq72 => exact fun _ _ _ h => h
            case ww72 => rfl
            case yy72 => intro W hW; go_simp <;> with_reducible rfl
            simp only [Act.put, List.setIfInBounds_toArray, List.set_cons_zero, List.set_cons_succ]
            refine wpAnyH_done (by kernel_rfl) ?_ _
            have HFF := Lib.hid (HF.out w13 hd13)
            clear ks1 ks2 hd hd9 hd10 hd11 hd12 hd13
            go_wp2_with fail
            go_roundw
            case rel => exact HFF.out
            case measure => simp [intOf]; omega
        · have q100 : decide ((k : Int) < 100) = false := by rw [decide_eq_false_iff_not]; omega
          have HF : Hid (AwakePost w (.returned (.bool true)) wr) := Lib.hid ⟨rfl, hbo.below⟩
          clear hbo Hf
          go_wp2_with fail
          go_ret
          exact HF.out
      · have HF : Hid (AwakePost w (.returned (.bool true)) wr) := Lib.hid ⟨rfl, hbo.below⟩
        clear hbo Hf
        go_wp2_with fail
        go_ret
        exact HF.out
end Go.Proofs.Ytnjkfkfanjkajaa
