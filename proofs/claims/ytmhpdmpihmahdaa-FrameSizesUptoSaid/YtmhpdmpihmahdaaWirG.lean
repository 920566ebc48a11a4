/- Contracts of the Reader's Text, Err and End, and how their errors read. Conditions: where the Reader lies. -/
import Derived.Test.YtmhpdmpihmahdaaWirF
import Derived.Test.YtmhpdmpihmahdaaErrR
import Derived.Deep.RegionHeld3
namespace Go.Proofs.Ytmhpdmpihmahdaa
open Go.RowKit Go.Extern.Stop Go.Stop Go.Extern

theorem below_drewN {B : Nat} {a w : World} (h : Below B a w) (n : Nat) : Below B a (w.drewN n) := ⟨h.os, h.tape, h.output, h.size, h.block⟩

set_option maxHeartbeats 400000 in
theorem tell_in (br : Nat) (A : Option Addr) (n cap : Nat) (l : List UInt8) (a c : Nat) (hc : (l.getD a 0).toNat = c) (hin : a + 1 + c ≤ n) (w : World) (h : ReaderAt w br A n cap l a false) :
    Calls Try.prog 62 #[.pointer (some ⟨br, 0, none⟩)] w (TellPost br A n cap l ⟨(l.drop (a + 1)).take c, a + 1 + c, false⟩ w) := by
  have hE := enough_any br A n cap l a 1 (by omega) w h
  rw [decide_eq_true (show a + (1 : Int).toNat ≤ n by simp; omega)] at hE
  have HE := Lib.hid hE
  have hl := h.len
  have hc2 : c < 256 := by rw [← hc]; exact UInt8.toNat_lt _
  have HE2 : Hid (∀ W, ReaderAt W br A n cap l a false → Calls Try.prog 60 #[.pointer (some ⟨br, 0, none⟩), .int .i64 (1 + (c : Int))] W (EnoughPost br A n cap l a true W)) := Lib.hid fun W hW => by
    have hE2 := enough_any br A n cap l a (1 + (c : Int)) (by omega) W hW
    rwa [decide_eq_true (by omega)] at hE2
  have HN : Hid (∀ W, ReaderAt W br A n cap l a false → Calls Try.prog 61 #[.pointer (some ⟨br, 0, none⟩), .int .i64 (1 + (c : Int))] W (NextPost br A n cap l a (1 + c) false W)) := Lib.hid fun W hW => by
    have := next_any br A n cap l a (1 + c) false (by omega) (by omega) W hW
    rwa [show ((1 + c : Nat) : Int) = 1 + (c : Int) by omega] at this
  have HB : Hid (∀ W, ReaderAt W br A n cap l a false → ∃ b o, A = some ⟨b, o, none⟩ ∧ W.cell? ⟨b, o + a, none⟩ = some (.int .u8 (c : Nat))) := Lib.hid fun W hW => by
    obtain ⟨b, o, e, _, h2⟩ := hW.bytes.at_ (k := a) (by omega)
    refine ⟨b, o, e, ?_⟩
    rw [h2]
    have e9 : l[a].toNat = c := Eq.trans (by simp [List.getD, List.getElem?_eq_getElem (show a < l.length by omega)]) hc
    rw [e9]
  have hp := h.most
  have hlt : a < n := by omega
  have Hl : Hid (((l.drop (a + 1)).take c).length = c) := Lib.hid (by rw [List.length_take, List.length_drop]; omega)
  have He : Hid ((l.drop a).take (1 + c) = [l.getD a 0] ++ (l.drop (a + 1)).take c) := Lib.hid (by
    rw [List.drop_eq_getElem_cons (show a < l.length by omega), Nat.add_comm 1 c, List.take_succ_cons]
    simp [List.getD, List.getElem?_eq_getElem (show a < l.length by omega)])
  have Hin := Lib.hid (show a + (1 + c) = a + 1 + c by omega)
  clear h hE hl hc hin
  go_enter Try.func62, Try.ntmps62
  go_wp2_with fail
  refine HE.out.mono ?_
  rintro e w1 ⟨rfl, h1, ha1⟩
  obtain ⟨b, o, rfl, kb⟩ := HB.out w1 h1
  obtain ⟨k0, k1, k2, f0, f1, f2⟩ := three_cells h1.block
  have H1 := Lib.hid h1
  have HA1 := Lib.hid ha1
  clear h1 ha1 HE HB
  go_wp2_with fail
  go_quiet (fail)
  go_wp2_with fail
  refine (HE2.out _ (H1.out.drewN _)).mono ?_
  rintro e w2 ⟨rfl, h2, ha2⟩
  have H2 := Lib.hid h2
  have HA2 := Lib.hid ((HA1.out.drewN _).trans ha2 (fun _ e => .inl e))
  clear h2 ha2 H1 HA1 HE2 k0 k1 k2 f0 f1 f2 kb
  go_wp2_with fail
  refine (HN.out _ H2.out).mono ?_
  rintro e w3 ⟨b3, o3, c3, rfl, hc3, hb3, hby, h3, ha3⟩
  have hd := hby.drop 1
  rw [He.out, List.singleton_append, List.drop_succ_cons, List.drop_zero] at hd
  have Hby : Hid (Bytes w3 w3.heap.size (some (if c3 = 1 then ⟨b3, o3, none⟩ else ⟨b3, o3 + 1, none⟩)) ((l.drop (a + 1)).take c)) := Lib.hid (by
    by_cases e1 : c3 = 1
    · have e2 : (l.drop (a + 1)).take c = [] := List.eq_nil_of_length_eq_zero (by have := Hl.out; omega)
      rw [e2]
      exact fun hn => absurd hn (by simp)
    · rw [if_neg e1]; exact hd)
  have hsl := fun W => run_slice_from (P := Try.prog) W 35 5 Try.underlying35 (fun w => by kernel_rfl) b3 o3 (1 + c) c3 1 1 rfl (by omega)
  rw [Hin.out] at h3
  have HA3 := Lib.hid (HA2.out.trans ha3 (fun _ e => .inl e))
  have HF : Hid (∀ v1 w4 g1, Row w4 w3.heap.size 5 g1 v1 ((l.drop (a + 1)).take c) → Below w3.heap.size w3 w4 → TellPost br (some ⟨b, o, none⟩) n cap l ⟨(l.drop (a + 1)).take c, a + 1 + c, false⟩ w (.returned v1) w4) := Lib.hid fun v1 w4 g1 hr hb4 =>
    ⟨v1, g1, rfl, hr.base (fun k hk => Nat.le_trans HA3.out.size (hr.lt k hk).1), h3.below hb4, HA3.out.trans (G := fun _ => False) (Apart.of_below' hb4) (fun _ h => h.elim)⟩
  have HR := Lib.hid (Row.nil w3 w3.heap.size 5)
  clear hc3 hb3 hby h3 ha3 hd H2 HA2 HN HA3
  simp only [Nat.add_sub_cancel_left] at hsl
  generalize (l.drop (a + 1)).take c = t at *
  generalize (some (if c3 = 1 then ⟨b3, o3, none⟩ else ⟨b3, o3 + 1, none⟩) : Option Addr) = A3 at *
  go_wp2_with (at_builtin
               refine wpList_append_r rfl (.const (.slice none 0 0)) (.tmp 27) _ rfl w3.heap.size 5 (.int .u8 0) Try.underlying35 infoB rfl _ none [] rfl HR.out w3.heap.size A3 c (c3 - 1) t rfl Hl.out Hby.out (by simp; omega) (Nat.le_refl _) ?_
               intro v1 w4 g1 hr1 hm1 ha1
               have HFF := Lib.hid (HF.out v1 w4 g1 (by simpa using hr1) (ha1.below (Nat.le_refl _) (by simp)))
               clear hr1 hm1 ha1)
  go_ret
  exact HFF.out

/-- Text. -/
theorem tell_any (br : Nat) (A : Option Addr) (n cap : Nat) (l : List UInt8) (a : Nat) (sh : Bool) (w : World) (h : ReaderAt w br A n cap l a sh) :
    Calls Try.prog 62 #[.pointer (some ⟨br, 0, none⟩)] w (TellPost br A n cap l (WireP.tell l a sh) w) := by
  have hl := h.len
  cases sh with
  | true =>
    have e : WireP.tell l a true = ⟨[], a, true⟩ := by
      unfold WireP.tell
      rw [if_pos (.inl rfl)]
    rw [e]
    exact tell_none br A n cap l a w (enough_short br A n cap l a _ w h)
  | false =>
    by_cases ha : a < n
    · by_cases hin : a + 1 + (l.getD a 0).toNat ≤ n
      · have e : WireP.tell l a false = ⟨(l.drop (a + 1)).take (l.getD a 0).toNat, a + 1 + (l.getD a 0).toNat, false⟩ := by
          unfold WireP.tell
          rw [if_neg (by simp; omega), if_neg (by omega)]
        rw [e]
        exact tell_in br A n cap l a _ rfl hin w h
      · have e : WireP.tell l a false = ⟨[], a, true⟩ := by
          unfold WireP.tell
          rw [if_neg (by simp; omega), if_pos (by omega)]
        rw [e]
        exact tell_short br A n cap l a _ rfl ha (by omega) w h
    · have e : WireP.tell l a false = ⟨[], a, true⟩ := by
        unfold WireP.tell
        rw [if_pos (.inr (by omega))]
      rw [e]
      have hE := enough_any br A n cap l a 1 (by omega) w h
      rw [decide_eq_false (by simp; omega)] at hE
      exact tell_none br A n cap l a w hE

/-- An error in memory, of at most k links, and the text that the laws read of it. -/
def ErrTextK (k : Nat) (w : World) (v : Value) (x : List UInt8) : Prop := ∃ l t, v = errV l t ∧ l.length ≤ k ∧ ErrIn w t w.heap.size l ∧ Good l t ∧ x = sufT t true l
def ErrText (w : World) (v : Value) (x : List UInt8) : Prop := ErrTextK 4 w v x

theorem ErrTextK.below {k : Nat} {w w' : World} {v : Value} {x : List UInt8} (h : ErrTextK k w v x) (hb : Below w.heap.size w w') : ErrTextK k w' v x := by
  obtain ⟨l, t, h1, h2, h3, h4, h5⟩ := h
  exact ⟨l, t, h1, h2, (h3.below hb (Nat.le_refl _)).mono hb.size, h4, h5⟩
theorem ErrText.below {w w' : World} {v : Value} {x : List UInt8} (h : ErrText w v x) (hb : Below w.heap.size w w') : ErrText w' v x := ErrTextK.below h hb

theorem ErrTextK.none_ (k : Nat) (w : World) : ErrTextK k w .nilIface [] := ⟨[], none, rfl, by simp, trivial, ⟨fun n hn => absurd hn (by simp), fun m hm => by cases hm⟩, rfl⟩
theorem ErrText.none_ (w : World) : ErrText w .nilIface [] := ErrTextK.none_ 4 w

theorem ErrTextK.read {k : Nat} (hk : k ≤ 12) {w : World} {v : Value} {x : List UInt8} (h : ErrTextK k w v x) : Calls Try.prog 14 #[v] w fun e w' => e = .returned (strV x) ∧ Below w.heap.size w w' := by
  obtain ⟨l, t, rfl, h2, h3, h4, rfl⟩ := h
  exact read_any w.heap.size l t w (Nat.le_trans h2 hk) (Nat.le_refl _) h3 h4
theorem ErrText.read {w : World} {v : Value} {x : List UInt8} (h : ErrText w v x) : Calls Try.prog 14 #[v] w fun e w' => e = .returned (strV x) ∧ Below w.heap.size w w' := ErrTextK.read (by omega) h

/-- A fault over a fault. -/
theorem ErrTextK.wrap {k b : Nat} {w : World} {x : List UInt8} (h : ErrTextK k w (.iface 76 (.pointer (some ⟨b, 0, none⟩))) x) (c a : Int) (hc : 1 ≤ c ∧ c ≤ 199) (ha : -1 ≤ a ∧ a ≤ 9223372036854775807) :
    ErrTextK (k + 1) (w.alloc (.cells #[.int .i64 c, .int .i64 a, .iface 76 (.pointer (some ⟨b, 0, none⟩))] 78)) (.iface 76 (.pointer (some ⟨w.heap.size, 0, none⟩))) (atT c.toNat a ++ 62 :: x) := by
  obtain ⟨l, t, h1, h2, h3, h4, h5⟩ := h
  match l, h1 with
  | [], h1 => cases t <;> simp [errV] at h1
  | y :: r, h1 =>
    refine ⟨(w.heap.size, c, a) :: y :: r, t, rfl, by simp at h2 ⊢; omega, ⟨by simp, ?_, ?_⟩, ⟨fun n hn => ?_, h4.2⟩, ?_⟩
    · rw [← h1]; exact heap_alloc_new w _
    · exact h3.keep fun k hk => Below.heap_alloc _ _ _ hk
    · match n, hn with
      | 0, _ => exact ⟨hc.1, hc.2, ha.1, ha.2⟩
      | n + 1, hn => simpa [nd] using h4.1 n (by simpa using hn)
    · obtain ⟨y1, y2, y3⟩ := y
      rw [h5]
      simp [sufT, sep]

theorem place_of (a : Int) (h : -1 ≤ a) : place a = a := by unfold place; rw [if_neg (by omega)]

/-- A new fault. -/
theorem ErrText.new (w : World) (c a : Int) (hc : 1 ≤ c ∧ c ≤ 199) (ha : -1 ≤ a ∧ a ≤ 9223372036854775807) : ErrText (w.alloc (.cells #[.int .i64 c, .int .i64 a, .nilIface] 78)) (.iface 76 (.pointer (some ⟨w.heap.size, 0, none⟩))) (atT c.toNat a) := by
  refine ⟨[(w.heap.size, c, a)], none, rfl, by simp, ⟨by simp, heap_alloc_new w _, trivial⟩, ⟨fun n hn => ?_, fun m hm => by cases hm⟩, by simp [sufT, sep]⟩
  match n, hn with
  | 0, _ => exact ⟨hc.1, hc.2, ha.1, ha.2⟩

def errText (sh : Bool) (a : Nat) : List UInt8 := if sh then atT 4 a else []
def endText (sh : Bool) (a n : Nat) : List UInt8 := if sh then atT 4 a else if a < n then atT 5 a else []

/-- What Err and End answer. -/
def ErrPost (x : List UInt8) (ok : Bool) (w : World) (e : Ending) (w' : World) : Prop :=
  ∃ v, e = .returned v ∧ ErrText w' v x ∧ (if ok then v = .nilIface else ∃ b, v = .iface 76 (.pointer (some ⟨b, 0, none⟩))) ∧ Below w.heap.size w w'

theorem errpost_new (w W : World) (c a : Int) (hc : 1 ≤ c ∧ c ≤ 199) (ha : -1 ≤ a ∧ a ≤ 9223372036854775807) (hb : Below w.heap.size w W) :
    ErrPost (atT c.toNat a) false w (.returned (.iface 76 (.pointer (some ⟨W.heap.size, 0, none⟩)))) (W.alloc (.cells #[.int .i64 c, .int .i64 a, .nilIface] 78)) :=
  ⟨_, rfl, ErrText.new W c a hc ha, ⟨_, rfl⟩, hb.alloc hb.size _⟩

theorem err_nil (w : World) :
    Calls Try.prog 63 #[.pointer none] w (ErrPost (atT 1 (-1)) false w) := by
  have HF := Lib.hid (errpost_new w w 1 (-1) (by omega) (by omega) (Below.refl _ _))
  have HN := Lib.hid (new_some 1 (-1) w rfl)
  rw [place_of (-1) (by omega)] at HN
  go_enter Try.func63, Try.ntmps63
  go_wp2_with fail
  refine HN.out.mono ?_
  rintro e w1 ⟨rfl, rfl⟩
  go_wp2_with fail
  go_ret
  exact HF.out

theorem err_any (br : Nat) (A : Option Addr) (n cap : Nat) (l : List UInt8) (a : Nat) (sh : Bool) (w : World) (h : ReaderAt w br A n cap l a sh) :
    Calls Try.prog 63 #[.pointer (some ⟨br, 0, none⟩)] w (ErrPost (errText sh a) (!sh) w) := by
  obtain ⟨k0, k1, k2, f0, f1, f2⟩ := three_cells h.block
  have hp := h.place
  have hmo := h.most
  cases sh with
  | true =>
    have HF := Lib.hid (errpost_new w w 4 a (by omega) (by omega) (Below.refl _ _))
    have HN := Lib.hid (new_some 4 a w rfl)
    rw [place_of a (by omega)] at HN
    clear h
    go_enter Try.func63, Try.ntmps63
    go_wp2_with fail
    refine HN.out.mono ?_
    rintro e w1 ⟨rfl, rfl⟩
    go_wp2_with fail
    go_ret
    exact HF.out
  | false =>
    have HF : Hid (ErrPost [] true w (.returned .nilIface) w) := Lib.hid ⟨_, rfl, ErrText.none_ w, rfl, Below.refl _ _⟩
    clear h
    go_enter Try.func63, Try.ntmps63
    go_wp2_with fail
    go_ret
    exact HF.out

theorem end_any (br : Nat) (A : Option Addr) (n cap : Nat) (l : List UInt8) (a : Nat) (sh : Bool) (w : World) (h : ReaderAt w br A n cap l a sh) :
    Calls Try.prog 47 #[.pointer (some ⟨br, 0, none⟩)] w (ErrPost (endText sh a n) (!sh && decide (n ≤ a)) w) := by
  have HE := Lib.hid (err_any br A n cap l a sh w h)
  have H := Lib.hid h
  have hp := h.place
  have hmo := h.most
  cases sh with
  | true =>
    clear h
    go_enter Try.func47, Try.ntmps47
    go_wp2_with fail
    refine HE.out.mono ?_
    rintro e w1 ⟨v, rfl, h1, ⟨b, rfl⟩, h3⟩
    have HF : Hid (ErrPost (endText true a n) false w (.returned (.iface 76 (.pointer (some ⟨b, 0, none⟩)))) w1) := Lib.hid ⟨_, rfl, h1, ⟨b, rfl⟩, h3⟩
    clear h1 h3
    go_wp2_with fail
    go_ret
    exact HF.out
  | false =>
    by_cases hlt : a < n
    · have q : decide ((a : Int) < n) = true := by rw [decide_eq_true_iff]; omega
      have e1 : endText false a n = atT 5 a := by simp [endText, hlt]
      have e2 : (!false && decide (n ≤ a)) = false := by simp; omega
      rw [e1, e2]
      clear h e1 e2
      go_enter Try.func47, Try.ntmps47
      go_wp2_with fail
      refine HE.out.mono ?_
      rintro e w1 ⟨v, rfl, h1, rfl, h3⟩
      have H1 := Lib.hid (H.out.below h3)
      obtain ⟨k0, k1, k2, f0, f1, f2⟩ := three_cells H1.out.block
      have H3 := Lib.hid h3
      clear h1 h3
      go_wp2_with fail
      go_quiet (fail)
      have HN := fun W => Lib.hid (new_some 5 a W rfl)
      rw [place_of a (by omega)] at HN
      have HNN := Lib.hid HN
      clear HN
      go_wp2_with fail
      refine (HNN.out _).out.mono ?_
      rintro e w2 ⟨rfl, rfl⟩
      have HF := Lib.hid (fun m => errpost_new w (w1.drewN m) 5 a (by omega) (by omega) (below_drewN H3.out m))
      go_wp2_with fail
      go_ret
      exact HF.out _
    · have q : decide ((a : Int) < n) = false := by rw [decide_eq_false_iff_not]; omega
      have e1 : endText false a n = [] := by simp [endText, hlt]
      have e2 : (!false && decide (n ≤ a)) = true := by simp; omega
      rw [e1, e2]
      clear h e1 e2
      go_enter Try.func47, Try.ntmps47
      go_wp2_with fail
      refine HE.out.mono ?_
      rintro e w1 ⟨v, rfl, h1, rfl, h3⟩
      have H1 := Lib.hid (H.out.below h3)
      obtain ⟨k0, k1, k2, f0, f1, f2⟩ := three_cells H1.out.block
      have HF : Hid (∀ m, ErrPost [] true w (.returned .nilIface) (w1.drewN m)) := Lib.hid fun m => ⟨_, rfl, ErrText.none_ _, rfl, below_drewN h3 m⟩
      clear h1 h3
      go_wp2_with fail
      go_quiet (fail)
      go_wp2_with fail
      go_ret
      exact HF.out _
end Go.Proofs.Ytmhpdmpihmahdaa
