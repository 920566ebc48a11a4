/- QueuePlays: the walk of the law. Conditions: where the argument lies. -/
import Derived.Test.YtlijcfojokbdpaaQueArg
import Derived.Test.YtlijcfojokbdpaaSeg
namespace Go.Proofs.Ytlijcfojokbdpaa
open Go.RowKit
set_option maxRecDepth 100000

theorem infoEv : (Try.prog.info? 28).map (fun i => (i.zero, i.size, i.bytes)) = some (some (.agg #[.int .i64 0, .int .i64 0, .int .i64 0]), 3, 24) := by kernel_rfl
/-- What waits, in a slice of the law's own. -/
def WantIn (B : Nat) (v : Value) (want : List QueP.Ev) (W : World) : Prop := Seg W B 28 3 v want.length (itemsV evVals want)
theorem WantIn.only {B B' : Nat} {v : Value} {want : List QueP.Ev} {W W' : World} (h : WantIn B' v want W) (ho : QOnly B W W') : WantIn B' v want W' :=
  Seg.apart h ho fun k hk ⟨_, cs, t, e1, e2⟩ => by
    obtain ⟨cur, h1⟩ := Seg.block h k hk
    rw [h1] at e1
    simp only [Option.some.injEq, Obj.cells.injEq] at e1
    obtain ⟨-, rfl, -⟩ := e1
    rcases e2 with e2 | e2 <;> exact absurd e2 (by decide)
/-- A write into what waits leaves the queue. -/
theorem QueS.apart_want {W W' : World} {B Q B' : Nat} {want want' : List QueP.Ev} {next : Int} {v : Value} (h : QueS W B Q want next) (hw : WantIn B' v want' W) (ha : Apart (fun k => v.ownBlock = some k) W W') : QueS W' B Q want next :=
  h.beside ha fun k cs t hk ht e => by
    obtain ⟨cur, h1⟩ := Seg.block hw k e
    rw [h1] at hk
    simp only [Option.some.injEq, Obj.cells.injEq] at hk
    obtain ⟨-, rfl, -⟩ := hk
    rcases ht with e2 | e2 <;> exact absurd e2 (by decide)
theorem WantIn.cells {B g off cap : Nat} {want : List QueP.Ev} {W : World} (h : WantIn B (.slice (some ⟨g, off, none⟩) want.length cap) want W) {i : Nat} {x0 x1 x2 : Int} (hi : want[i]? = some ⟨x0, x1, x2⟩) :
    W.cell? ⟨g, off + i * 3, none⟩ = some (.int .i64 x0) ∧ W.cell? ⟨g, off + i * 3 + 1, none⟩ = some (.int .i64 x1) ∧ W.cell? ⟨g, off + i * 3 + 2, none⟩ = some (.int .i64 x2) :=
  ⟨by have := Seg.cell h (j := i * 3 + 0) (u := .int .i64 x0) (by rw [itemsV_at evVals_len want i _ hi 0 (by omega)]; rfl); simpa using this,
   by have := Seg.cell h (j := i * 3 + 1) (u := .int .i64 x1) (by rw [itemsV_at evVals_len want i _ hi 1 (by omega)]; rfl); rwa [← Nat.add_assoc] at this,
   by have := Seg.cell h (j := i * 3 + 2) (u := .int .i64 x2) (by rw [itemsV_at evVals_len want i _ hi 2 (by omega)]; rfl); rwa [← Nat.add_assoc] at this⟩

def PlayR (w1 : World) (n : Nat) (wv i : Value) (W : World) : Prop :=
  ∃ (k : Nat) (want : List QueP.Ev) (next : Int), k ≤ n ∧ k ≤ 400 ∧ i = .int .i64 (k : Nat) ∧ want.length ≤ k ∧ 0 ≤ next ∧ next ≤ k ∧ WantIn w1.heap.size wv want W ∧ QueS W w1.heap.size w1.heap.size want next ∧ Below w1.heap.size w1 W

/-- The best of the first so many. -/
def BestR (w4 : World) (want : List QueP.Ev) (best k : Value) (W : World) : Prop :=
  ∃ j : Nat, j ≤ want.length ∧ best = .int .i64 (QueP.bestTo want j : Nat) ∧ k = .int .i64 (j : Nat) ∧ Below w4.heap.size w4 W

def PlayS (B N g woff wcap : Nat) (want : List QueP.Ev) (x0 x1 x2 : Int) (W : World) : Prop := WantIn B (.slice (some ⟨g, woff, none⟩) want.length wcap) want W ∧ W.heap[N]? = some (.cells #[.int .i64 x0, .int .i64 x1, .int .i64 x2] 28 (0, 0))

theorem want_left {w : World} {B : Nat} {v : Value} {want : List QueP.Ev} {bb : Nat} (hb : bb < want.length) (h : Seg w B 28 3 v (bb + (want.length - (bb + 1))) ((itemsV evVals want).take (bb * 3) ++ (itemsV evVals want).drop ((bb + 1) * 3))) : WantIn B v (want.eraseIdx bb) w := by
  unfold WantIn
  rw [items_take evVals_len, items_drop evVals_len, ← itemsV_append, ← List.eraseIdx_eq_take_drop_succ] at h
  have e : (want.eraseIdx bb).length = bb + (want.length - (bb + 1)) := by rw [List.length_eraseIdx, if_pos hb]; omega
  rw [e]
  exact h

/-- What an act is in memory. -/
theorem act_cells {W : World} {A : Option Addr} {l : List ActQ} (h : ItemsIn actVals 4 W A l) {k : Nat} {t : Bool} {x0 x1 x2 : Int} (hk : l[k]? = some ⟨t, ⟨x0, x1, x2⟩⟩) :
    ∃ b off, A = some ⟨b, off, none⟩ ∧ b < W.heap.size ∧ W.cell? ⟨b, off + k * 4, none⟩ = some (.bool t) ∧ W.cell? ⟨b, off + k * 4 + 1, none⟩ = some (.int .i64 x0) ∧ W.cell? ⟨b, off + k * 4 + 1 + 1, none⟩ = some (.int .i64 x1) ∧ W.cell? ⟨b, off + k * 4 + 1 + 2, none⟩ = some (.int .i64 x2) := by
  obtain ⟨b, off, e, hb, hi⟩ := h (by have := (List.getElem?_eq_some_iff.1 hk).1; omega)
  have := hi k _ hk
  exact ⟨b, off, e, hb, this 0 _ rfl, this 1 _ rfl, this 2 _ rfl, this 3 _ rfl⟩

set_option maxHeartbeats 8000000 in
theorem plays_law (A : Option Addr) (l : List ActQ) (n cap : Nat) (hl : l.length = n) (hn : n * 32 ≤ 140737488355328) (w : World) (hin : ItemsIn actVals 4 w A l) :
    Calls Try.prog 3 #[.slice A n cap] w (QBool true w) := by
  have HA := Lib.hid (awake_any w)
  have HNw := Lib.hid (fun W => new_any W)
  have HE : Hid (∀ W, Calls Try.prog 12 #[.int .i64 10] W fun e w' => e = .returned (strV (numN 10)) ∧ Below W.heap.size W w') := Lib.hid (fun W => e_any 10 W (by omega))
  have HR : Hid (∀ W, Calls Try.prog 11 #[.iface 47 (.int .i64 10)] W fun e w' => e = .returned (strV (numN 10)) ∧ Below W.heap.size W w') := Lib.hid (fun W => read_any 0 [] (some 10) W (by simp) (Nat.zero_le _) trivial ⟨by simp, by simp⟩)
  generalize numN 10 = y at *
  unfold strV at *
  have HIn := Lib.hid (fun W (h : Below w.heap.size w W) => hin.below h)
  have HL := Lib.hid hl
  clear hin hl
  go_enter Try.func3, Try.ntmps3
  go_wp2_with fail
  refine HA.out.mono ?_
  rintro e w1 ⟨rfl, hb1⟩
  have Hb1 := Lib.hid hb1
  clear hb1 HA
  go_wp2_with fail
  refine (HNw.out _).mono ?_
  rintro e w2 ⟨rfl, rfl⟩
  have HS : Hid (PlayR w1 n (.slice none 0 0) (.int .i64 0) (w1.alloc (.cells #[.slice none 0 0, .int .i64 0] 46))) := Lib.hid ⟨0, [], 0, by omega, by omega, rfl, Nat.le_refl _, by omega, by omega, Seg.nil _ _ _ _, new_holds w1, (Below.refl _ _).alloc (Nat.le_refl _) _⟩
  generalize w1.alloc (.cells #[.slice none 0 0, .int .i64 0] 46) = w2 at *
  clear HNw
  unfold queV at *
  go_wp2_with fail
  go_loopw [4, 5] (PlayR w1 n) (fun _ i _ => (401 - intOf i).toNat)
  case atStart => exact HS.out
  case round =>
    clear HS
    obtain ⟨k, want, next, hk, hk4, rfl, hwl, hx0, hx1, hwant, hq, hb⟩ := hrel
    obtain ⟨WA, wcap, rfl, hwc⟩ := Seg.slice hwant
    have HLn := Lib.hid (fun W h => len_any W _ _ want _ (hq.keep (W' := W) h))
    have Hb := Lib.hid hb
    have HAc := Lib.hid (fun W (h : Below wr.heap.size wr W) k x hx => act_cells (HIn.out W (Hb1.out.trans ((hb.trans (h.mono hb.size)).mono Hb1.out.size))) (k := k) (t := x.take) (x0 := x.ev.at_) (x1 := x.ev.rank) (x2 := x.ev.what) (show l[k]? = some x from hx))
    have Hq := Lib.hid hq
    have Hw := Lib.hid hwant
    clear hb hq hwant
    by_cases hkn : k < n ∧ k < 400
    case neg =>
      have HF : Hid (∀ W, Below wr.heap.size wr W → QBool true w (.returned (.bool true)) W) := Lib.hid fun W hW => ⟨rfl, Hb1.out.trans ((Hb.out.trans (hW.mono Hb.out.size)).mono Hb1.out.size)⟩
      have HL1 := Lib.hid (HLn.out wr (Below.refl _ _))
      clear HLn HAc
      unfold queV at HL1
      by_cases hkn1 : k < n
      · obtain rfl : k = 400 := by omega
        have q1 : decide ((400 : Int) < (n : Int)) = true := decide_eq_true (by omega)
        have q2 : decide (400 < n) = true := decide_eq_true (by omega)
        clear hkn hkn1
        go_wp2_with fail
        refine HL1.out.mono ?_
        rintro e w3 ⟨rfl, hb3⟩
        have HF3 := Lib.hid (HF.out _ hb3)
        clear hb3 HF
        go_wp2_with fail
        go_ret
        exact HF3.out
      · have q1 : decide ((k : Int) < (n : Int)) = false := decide_eq_false (by omega)
        clear hkn
        go_wp2_with fail
        refine HL1.out.mono ?_
        rintro e w3 ⟨rfl, hb3⟩
        have HF3 := Lib.hid (HF.out _ hb3)
        clear hb3 HF
        go_wp2_with fail
        go_ret
        exact HF3.out
    obtain ⟨hkn, hk400⟩ := hkn
    obtain ⟨⟨tk, ⟨x0, x1, x2⟩⟩, hx⟩ : ∃ x, l[k]? = some x := ⟨_, List.getElem?_eq_getElem (by have := HL.out; omega)⟩
    obtain ⟨b, off, rfl, -, c0, c1, c2, c3⟩ := HAc.out wr (Below.refl _ _) k _ hx
    simp only at c0 c1 c2 c3
    have hwm : want.length ≤ 400 := by omega
    have qk : decide ((k : Int) < 400) = true := decide_eq_true (by omega)
    have qk2 : decide (k < 400) = true := decide_eq_true (by omega)
    cases tk with
    | false =>
      have HP := Lib.hid (put_any wr _ _ want next Hq.out (by omega) hx0 (by omega) ⟨x0, x1, x2⟩)
      unfold queV evV at HP
      go_wp2_with fail
      refine HP.out.mono ?_
      rintro e w3 ⟨rfl, hq3, ho3⟩
      have hb3 := ho3.below Hb.out.size
      obtain ⟨b', off', e1, -, -, d1, d2, d3⟩ := act_cells (HIn.out w3 (Hb1.out.trans ((Hb.out.trans hb3).mono Hb1.out.size))) hx
      cases e1
      have Hb3 := Lib.hid (Hb.out.trans hb3)
      have hbx : Below w3.heap.size w3 (w3.alloc (.cells #[.int .i64 x0, .int .i64 x1, .int .i64 x2] 28)) := (Below.refl _ _).alloc (Nat.le_refl _) _
      have Hq3 := Lib.hid (hq3.keep hbx)
      have Hw3 := Lib.hid (Seg.keep (WantIn.only Hw.out ho3) hbx)
      clear hq3 ho3 hb3 hbx c0 c1 c2 c3 HP
      have hsz3 : w1.heap.size ≤ w3.heap.size := Hb3.out.size
      go_wp2_with (first
      | (at_builtin
         refine wpList_append_seg rfl (.tmp 37) (.tmp 43) _ rfl w1.heap.size 28 _ 3 24 Try.underlying26 infoEv rfl (by omega) _ want.length (itemsV evVals want) rfl Hw3.out (some ⟨w3.heap.size, 0, none⟩) 1 1 (evVals ⟨x0, x1, x2⟩) rfl rfl (fun _ => ⟨_, rfl, laid_at w3 _ (evVals ⟨x0, x1, x2⟩) w3.heap.size rfl⟩) (evVals_one _) (by unfold maxLen; omega) (by omega) (by simp; omega) ?_
         intro v4 w4 hw4 ha4 hm4
         have HR4 : Hid (PlayR w1 n v4 (.int .i64 ((k : Int) + 1)) w4) := Lib.hid (by
           refine ⟨k + 1, want ++ [⟨x0, x1, x2⟩], next + 1, by omega, by omega, by go_num, by rw [List.length_append, List.length_singleton]; omega, by omega, by omega, ?_, Hq3.out.apart_want Hw3.out ha4, (Hb3.out.alloc hsz3 _).trans (ha4.below (by simp; omega) (fun q hq => (Seg.lt Hw3.out q hq).1))⟩
           unfold WantIn
           rw [List.length_append, List.length_singleton, itemsV_append, itemsV_one']
           exact hw4)
         clear hw4 ha4 hm4)
      | fail)
      go_roundw
      case rel => exact HR4.out
      case measure => simp [intOf]; omega
    | true =>
    clear c1 c2 c3 hx
    by_cases h0 : want = []
    case pos =>
      subst h0
      have HT := Lib.hid (take_empty wr _ _ next Hq.out)
      have HF : Hid (∀ W, Below wr.heap.size wr W → PlayR w1 n (.slice WA 0 wcap) (.int .i64 ((k : Int) + 1)) W) := Lib.hid fun W hW =>
        ⟨k + 1, [], next, by omega, by omega, by go_num, by simp, hx0, by omega, Seg.keep Hw.out hW, Hq.out.keep hW, Hb.out.trans (hW.mono Hb.out.size)⟩
      unfold queV evV at HT
      clear HLn HAc
      simp only [List.length_nil]
      go_wp2_with fail
      refine HT.out.mono ?_
      rintro e w3 ⟨rfl, hb3⟩
      have HF3 : Hid (∀ W, Below w3.heap.size w3 W → Below wr.heap.size wr W) := Lib.hid fun W h => hb3.trans (h.mono hb3.size)
      clear hb3 c0 HT
      go_wp2_with fail
      refine (HR.out _).mono ?_
      rintro e w4 ⟨rfl, hb4⟩
      have HF4 := Lib.hid (HF3.out _ (((Below.refl w3.heap.size w3).alloc (Nat.le_refl _) _).trans (hb4.mono (by simp))))
      clear hb4 HF3
      go_wp2_with fail
      refine (HE.out _).mono ?_
      rintro e w5 ⟨rfl, hb5⟩
      have HF5 := Lib.hid (HF.out _ (HF4.out.trans (hb5.mono HF4.out.size)))
      clear hb5 HF4 HF
      go_wp2_with fail
      go_roundw
      case rel => exact HF5.out
      case measure => simp [intOf]; omega
    have hpos : 0 < want.length := List.length_pos_iff.2 h0
    have HT := Lib.hid (take_any wr _ _ want next Hq.out hpos (by omega))
    unfold queV at HT
    clear h0 HLn HAc
    go_wp2_with fail
    refine HT.out.mono ?_
    rintro e w3 ⟨⟨x0, x1, x2⟩, hx3, rfl, hq3, ho3⟩
    have hw3 := WantIn.only Hw.out ho3
    have hb3 := Hb.out.trans (ho3.below Hb.out.size)
    have Hx3 := Lib.hid hx3
    have q0 : ((want.length : Int) == 0) = false := by rw [beq_eq_false_iff_ne]; omega
    have hbx : Below w3.heap.size w3 (w3.alloc (.cells #[.int .i64 x0, .int .i64 x1, .int .i64 x2] 28)) := (Below.refl _ _).alloc (Nat.le_refl _) _
    have Hw4 := Lib.hid (Seg.keep hw3 hbx)
    have Hq4 := Lib.hid (hq3.keep hbx)
    have Hb4 := Lib.hid (hb3.trans (hbx.mono hb3.size))
    have Hx4 := Lib.hid (heap_alloc_new w3 (.cells #[.int .i64 x0, .int .i64 x1, .int .i64 x2] 28 (0, 0)))
    clear hx3 hq3 ho3 hw3 hb3 hbx HT c0 Hq Hw Hb
    simp only [evV]
    go_wp2_with fail
    generalize w3.alloc (.cells #[.int .i64 x0, .int .i64 x1, .int .i64 x2] 28) = w4 at *
    generalize w3.heap.size = N at *
    obtain ⟨g, woff, wc', e1, -⟩ := Seg.form Hw4.out hpos
    cases e1
    have HS4 : Hid (BestR w4 want (.int .i64 0) (.int .i64 0) w4) := Lib.hid ⟨0, Nat.zero_le _, rfl, rfl, Below.refl _ _⟩
    have Hpos := Lib.hid hpos
    clear hpos
    go_loopw [8, 64] (BestR w4 want) (fun _ k _ => (want.length + 1 - intOf k).toNat)
    case atStart => exact HS4.out
    case round =>
      clear HS4
      obtain ⟨j, hj, rfl, rfl, hbj⟩ := hrel
      by_cases hlt : j < want.length
      case neg =>
        obtain rfl : j = want.length := by omega
        have hbl := QueP.best_in Hpos.out (Nat.le_refl _)
        have hx := Hx3.out
        have hq := Hq4.out.keep hbj
        generalize QueP.bestTo want want.length = bb at *
        have hd0 : PlayS w1.heap.size N g woff wcap want x0 x1 x2 wr.drew := ⟨Seg.drew (Seg.keep Hw4.out hbj), (hbj.block _ (lt_of_block Hx4.out)).trans Hx4.out⟩
        have kx0 : ∀ W, PlayS w1.heap.size N g woff wcap want x0 x1 x2 W → W.cell? ⟨N, 0, none⟩ = some (.int .i64 x0) := fun W hW => cell_at hW.2 0 rfl
        have kx1 : ∀ W, PlayS w1.heap.size N g woff wcap want x0 x1 x2 W → W.cell? ⟨N, 1, none⟩ = some (.int .i64 x1) := fun W hW => cell_at hW.2 1 rfl
        have kx2 : ∀ W, PlayS w1.heap.size N g woff wcap want x0 x1 x2 W → W.cell? ⟨N, 2, none⟩ = some (.int .i64 x2) := fun W hW => cell_at hW.2 2 rfl
        have kb0 : ∀ W, PlayS w1.heap.size N g woff wcap want x0 x1 x2 W → W.cell? ⟨g, woff + bb * 3, none⟩ = some (.int .i64 x0) := fun W hW => (WantIn.cells hW.1 hx).1
        have kb1 : ∀ W, PlayS w1.heap.size N g woff wcap want x0 x1 x2 W → W.cell? ⟨g, woff + bb * 3 + 1, none⟩ = some (.int .i64 x1) := fun W hW => (WantIn.cells hW.1 hx).2.1
        have kb2 : ∀ W, PlayS w1.heap.size N g woff wcap want x0 x1 x2 W → W.cell? ⟨g, woff + bb * 3 + 2, none⟩ = some (.int .i64 x2) := fun W hW => (WantIn.cells hW.1 hx).2.2
        have Hb5 := Lib.hid (Hb4.out.trans (hbj.mono Hb4.out.size))
        have Hq5 := Lib.hid hq
        have Hbl := Lib.hid hbl
        clear hx hq hbj hlt Hq4 Hb4 Hx3 Hx4 Hw4
        go_wp2_with fail
        refine wp_region_held_drew (S := fun W => PlayS w1.heap.size N g woff wcap want x0 x1 x2 W) (by kernel_rfl) hd0 (fun _ => ?_)
        refine wpAnyH_take (i := 0) (oi := ?oo1) (v := ?vv1) ?ii1 (by kernel_rfl) ?ff1 (by kernel_rfl) ?qq1 (Or.inl ⟨?ww1, ?yy1⟩) hd0 ?rr1
        case ii1 => simp only [List.getElem?_toArray, List.getElem?_cons_zero]; rfl
        case ff1 => kernel_rfl
        case qq1 => exact fun _ _ _ h => h
        case ww1 => rfl
        case yy1 => intro W hW; go_simp <;> with_reducible rfl
        try simp only [Act.put, List.setIfInBounds_toArray, List.set_cons_zero, List.set_cons_succ]
        refine wpAnyH_take (i := 1) (oi := ?oo2) (v := ?vv2) ?ii2 (by kernel_rfl) ?ff2 (by kernel_rfl) ?qq2 (Or.inl ⟨?ww2, ?yy2⟩) hd0 ?rr2
        case ii2 => simp only [List.getElem?_toArray, List.getElem?_cons_succ, List.getElem?_cons_zero]; rfl
        case ff2 => kernel_rfl
        case qq2 => exact fun _ _ _ h => h
        case ww2 => rfl
        case yy2 => intro W hW; go_simp <;> with_reducible rfl
        try simp only [Act.put, List.setIfInBounds_toArray, List.set_cons_zero, List.set_cons_succ]
        refine wpAnyH_take (i := 2) (oi := ?oo3) (v := ?vv3) ?ii3 (by kernel_rfl) ?ff3 (by kernel_rfl) ?qq3 (Or.inl ⟨?ww3, ?yy3⟩) hd0 ?rr3
        case ii3 => simp only [List.getElem?_toArray, List.getElem?_cons_succ, List.getElem?_cons_zero]; rfl
        case ff3 => kernel_rfl
        case qq3 => exact fun _ _ _ h => h
        case ww3 => rfl
        case yy3 => intro W hW; go_simp <;> with_reducible rfl
        try simp only [Act.put, List.setIfInBounds_toArray, List.set_cons_zero, List.set_cons_succ]
        refine wpAnyH_take (i := 3) (oi := ?oo4) (v := ?vv4) ?ii4 (by kernel_rfl) ?ff4 (by kernel_rfl) ?qq4 (Or.inl ⟨?ww4, ?yy4⟩) hd0 ?rr4
        case ii4 => simp only [List.getElem?_toArray, List.getElem?_cons_succ, List.getElem?_cons_zero]; rfl
        case ff4 => kernel_rfl
        case qq4 => exact fun _ _ _ h => h
        case ww4 => rfl
        case yy4 => intro W hW; go_simp <;> with_reducible rfl
        try simp only [Act.put, List.setIfInBounds_toArray, List.set_cons_zero, List.set_cons_succ]
        refine wpAnyH_take (i := 4) (oi := ?oo5) (v := ?vv5) ?ii5 (by kernel_rfl) ?ff5 (by kernel_rfl) ?qq5 (Or.inl ⟨?ww5, ?yy5⟩) hd0 ?rr5
        case ii5 => simp only [List.getElem?_toArray, List.getElem?_cons_succ, List.getElem?_cons_zero]; rfl
        case ff5 => kernel_rfl
        case qq5 => exact fun _ _ _ h => h
        case ww5 => rfl
        case yy5 => intro W hW; go_simp <;> with_reducible rfl
        try simp only [Act.put, List.setIfInBounds_toArray, List.set_cons_zero, List.set_cons_succ]
        refine wpAnyH_take (i := 5) (oi := ?oo6) (v := ?vv6) ?ii6 (by kernel_rfl) ?ff6 (by kernel_rfl) ?qq6 (Or.inl ⟨?ww6, ?yy6⟩) hd0 ?rr6
        case ii6 => simp only [List.getElem?_toArray, List.getElem?_cons_succ, List.getElem?_cons_zero]; rfl
        case ff6 => kernel_rfl
        case qq6 => exact fun _ _ _ h => h
        case ww6 => rfl
        case yy6 => intro W hW; go_simp <;> with_reducible rfl
        try simp only [Act.put, List.setIfInBounds_toArray, List.set_cons_zero, List.set_cons_succ]
        refine wpAnyH_take (i := 6) (oi := ?oo7) (v := ?vv7) ?ii7 (by kernel_rfl) ?ff7 (by kernel_rfl) ?qq7 (Or.inl ⟨?ww7, ?yy7⟩) hd0 ?rr7
        case ii7 => simp only [List.getElem?_toArray, List.getElem?_cons_succ, List.getElem?_cons_zero]; rfl
        case ff7 => kernel_rfl
        case qq7 => exact fun _ _ _ h => h
        case ww7 => rfl
        case yy7 => intro W hW; go_simp <;> with_reducible rfl
        try simp only [Act.put, List.setIfInBounds_toArray, List.set_cons_zero, List.set_cons_succ]
        refine wpAnyH_take (i := 7) (oi := ?oo8) (v := ?vv8) ?ii8 (by kernel_rfl) ?ff8 (by kernel_rfl) ?qq8 (Or.inl ⟨?ww8, ?yy8⟩) hd0 ?rr8
        case ii8 => simp only [List.getElem?_toArray, List.getElem?_cons_succ, List.getElem?_cons_zero]; rfl
        case ff8 => kernel_rfl
        case qq8 => exact fun _ _ _ h => h
        case ww8 => rfl
        case yy8 => intro W hW; go_simp <;> with_reducible rfl
        try simp only [Act.put, List.setIfInBounds_toArray, List.set_cons_zero, List.set_cons_succ]
        refine wpAnyH_take (i := 8) (oi := ?oo9) (v := ?vv9) ?ii9 (by kernel_rfl) ?ff9 (by kernel_rfl) ?qq9 (Or.inl ⟨?ww9, ?yy9⟩) hd0 ?rr9
        case ii9 => simp only [List.getElem?_toArray, List.getElem?_cons_succ, List.getElem?_cons_zero]; rfl
        case ff9 => kernel_rfl
        case qq9 => exact fun _ _ _ h => h
        case ww9 => rfl
        case yy9 => intro W hW; go_simp <;> with_reducible rfl
        try simp only [Act.put, List.setIfInBounds_toArray, List.set_cons_zero, List.set_cons_succ]
        refine wpAnyH_take (i := 9) (oi := ?oo10) (v := ?vv10) ?ii10 (by kernel_rfl) ?ff10 (by kernel_rfl) ?qq10 (Or.inl ⟨?ww10, ?yy10⟩) hd0 ?rr10
        case ii10 => simp only [List.getElem?_toArray, List.getElem?_cons_succ, List.getElem?_cons_zero]; rfl
        case ff10 => kernel_rfl
        case qq10 => exact fun _ _ _ h => h
        case ww10 => rfl
        case yy10 => intro W hW; go_simp <;> with_reducible rfl
        try simp only [Act.put, List.setIfInBounds_toArray, List.set_cons_zero, List.set_cons_succ]
        refine wpAnyH_done (by kernel_rfl) ?_ _
        clear kx0 kx1 kx2 kb0 kb1 kb2
        have hbb := Hbl.out
        have hwr : IntKind.i64.wrap ((bb : Int) + 1) = (bb : Int) + 1 := IntWalk.i64_in _ (by omega)
        have hs1 := fun W => run_slice_full (P := Try.prog) W 26 28 3 Try.underlying26 (fun w => by kernel_rfl) (some ⟨g, woff, none⟩) want.length wcap ((bb : Nat) : Int) bb rfl (by omega)
        have hs2 := fun W => run_slice_froms (P := Try.prog) W 26 28 3 Try.underlying26 (fun w => by kernel_rfl) g woff want.length wcap ((bb : Int) + 1) (bb + 1) (by omega) (by omega)
        have hw5 : WantIn w1.heap.size (.slice (some ⟨g, woff, none⟩) want.length wcap) want wr.drew.drew := Seg.drew hd0.1
        have Hq6 := Lib.hid (QueS.keep Hq5.out (Below.refl _ _).drew.drew)
        have Hb6 := Lib.hid (Hb5.out.drew.drew)
        have hf := Seg.front hw5 (k := bb) (c := bb) (by omega) (Nat.le_refl _) (by omega)
        have ht := Seg.tail hw5 (k := bb + 1) (by omega)
        obtain ⟨TA, hTA⟩ : ∃ TA : Addr, TA = (if wcap = bb + 1 then (⟨g, woff, none⟩ : Addr) else ⟨g, woff + (bb + 1) * 3, none⟩) := ⟨_, rfl⟩
        rw [← hTA] at ht
        simp only [← hTA] at hs2
        clear hTA
        have Hnews := Lib.hid (fun h => Seg.news ht h)
        have Hone : Hid (∀ u ∈ (itemsV evVals want).drop ((bb + 1) * 3), u.oneCell' = true) := Lib.hid fun u hu => itemsV_oneCell evVals_one want u (List.mem_of_mem_drop hu)
        have Hnl := Lib.hid ht.1
        have Hf := Lib.hid hf
        have Hw5 := Lib.hid hw5
        have hbs := Hb6.out.size
        have hd1 : Below w1.heap.size w1 wr.drew.drew := Hb6.out
        clear hd0 hw5 hf ht
        go_wp2_with fail
        refine wp_region_held_drew (S := fun W => Below w1.heap.size w1 W) (by kernel_rfl) hd1 (fun _ => ?_)
        refine wpAnyH_take (i := 0) (oi := ?oo11) (v := ?vv11) ?ii11 (by kernel_rfl) ?ff11 (by kernel_rfl) ?qq11 (Or.inl ⟨?ww11, ?yy11⟩) hd1 ?rr11
        case ii11 => simp only [List.getElem?_toArray, List.getElem?_cons_zero]; rfl
        case ff11 => kernel_rfl
        case qq11 => exact fun _ _ _ h => h
        case ww11 => rfl
        case yy11 => intro W hW; go_simp <;> with_reducible rfl
        try simp only [Act.put, List.setIfInBounds_toArray, List.set_cons_zero, List.set_cons_succ]
        refine wpAnyH_take (i := 1) (oi := ?oo12) (v := ?vv12) ?ii12 (by kernel_rfl) ?ff12 (by kernel_rfl) ?qq12 (Or.inl ⟨?ww12, ?yy12⟩) hd1 ?rr12
        case ii12 => simp only [List.getElem?_toArray, List.getElem?_cons_succ, List.getElem?_cons_zero]; rfl
        case ff12 => kernel_rfl
        case qq12 => exact fun _ _ _ h => h
        case ww12 => rfl
        case yy12 => intro W hW; go_simp <;> with_reducible rfl
        try simp only [Act.put, List.setIfInBounds_toArray, List.set_cons_zero, List.set_cons_succ]
        refine wpAnyH_take (i := 2) (oi := ?oo13) (v := ?vv13) ?ii13 (by kernel_rfl) ?ff13 (by kernel_rfl) ?qq13 (Or.inl ⟨?ww13, ?yy13⟩) hd1 ?rr13
        case ii13 => simp only [List.getElem?_toArray, List.getElem?_cons_succ, List.getElem?_cons_zero]; rfl
        case ff13 => kernel_rfl
        case qq13 => exact fun _ _ _ h => h
        case ww13 => rfl
        case yy13 => intro W hW; go_simp <;> with_reducible rfl
        try simp only [Act.put, List.setIfInBounds_toArray, List.set_cons_zero, List.set_cons_succ]
        refine wpAnyH_take (i := 3) (oi := ?oo14) (v := ?vv14) ?ii14 (by kernel_rfl) ?ff14 (by kernel_rfl) ?qq14 (Or.inl ⟨?ww14, ?yy14⟩) hd1 ?rr14
        case ii14 => simp only [List.getElem?_toArray, List.getElem?_cons_succ, List.getElem?_cons_zero]; rfl
        case ff14 => kernel_rfl
        case qq14 => exact fun _ _ _ h => h
        case ww14 => rfl
        case yy14 => intro W hW; go_simp <;> with_reducible rfl
        try simp only [Act.put, List.setIfInBounds_toArray, List.set_cons_zero, List.set_cons_succ]
        refine wpAnyH_take (i := 4) (oi := ?oo15) (v := ?vv15) ?ii15 (by kernel_rfl) ?ff15 (by kernel_rfl) ?qq15 (Or.inl ⟨?ww15, ?yy15⟩) hd1 ?rr15
        case ii15 => simp only [List.getElem?_toArray, List.getElem?_cons_succ, List.getElem?_cons_zero]; rfl
        case ff15 => kernel_rfl
        case qq15 => exact fun _ _ _ h => h
        case ww15 => rfl
        case yy15 => intro W hW; go_simp <;> with_reducible rfl
        try simp only [Act.put, List.setIfInBounds_toArray, List.set_cons_zero, List.set_cons_succ]
        refine wpAnyH_take (i := 5) (oi := ?oo16) (v := ?vv16) ?ii16 (by kernel_rfl) ?ff16 (by kernel_rfl) ?qq16 (Or.inl ⟨?ww16, ?yy16⟩) hd1 ?rr16
        case ii16 => simp only [List.getElem?_toArray, List.getElem?_cons_succ, List.getElem?_cons_zero]; rfl
        case ff16 => kernel_rfl
        case qq16 => exact fun _ _ _ h => h
        case ww16 => rfl
        case yy16 => intro W hW; go_simp <;> with_reducible rfl
        try simp only [Act.put, List.setIfInBounds_toArray, List.set_cons_zero, List.set_cons_succ]
        refine wpAnyH_take (i := 6) (oi := ?oo17) (v := ?vv17) ?ii17 (by kernel_rfl) ?ff17 (by kernel_rfl) ?qq17 (Or.inl ⟨?ww17, ?yy17⟩) hd1 ?rr17
        case ii17 => simp only [List.getElem?_toArray, List.getElem?_cons_succ, List.getElem?_cons_zero]; rfl
        case ff17 => kernel_rfl
        case qq17 => exact fun _ _ _ h => h
        case ww17 => rfl
        case yy17 => intro W hW; go_simp <;> with_reducible rfl
        try simp only [Act.put, List.setIfInBounds_toArray, List.set_cons_zero, List.set_cons_succ]
        refine wpAnyH_take (i := 7) (oi := ?oo18) (v := ?vv18) ?ii18 (by kernel_rfl) ?ff18 (by kernel_rfl) ?qq18 (Or.inl ⟨?ww18, ?yy18⟩) hd1 ?rr18
        case ii18 => simp only [List.getElem?_toArray, List.getElem?_cons_succ, List.getElem?_cons_zero]; rfl
        case ff18 => kernel_rfl
        case qq18 => exact fun _ _ _ h => h
        case ww18 => rfl
        case yy18 => intro W hW; go_simp <;> with_reducible rfl
        try simp only [Act.put, List.setIfInBounds_toArray, List.set_cons_zero, List.set_cons_succ]
        refine wpAnyH_ready (rs := [8]) (by kernel_rfl) (by simp) ?_
        refine AllReadyH.cons (o := ?oo19) ?ii19 (fun K hK => ?_) AllReadyH.nil
        case ii19 => simp only [List.getElem?_toArray, List.getElem?_cons_succ, List.getElem?_cons_zero]; rfl
        refine step_append_seg rfl (.tmp 119) (.tmp 123) _ rfl w1.heap.size 28 _ 3 24 Try.underlying26 infoEv rfl (by omega) _ bb ((itemsV evVals want).take (bb * 3)) rfl Hf.out _ (want.length - (bb + 1)) (wcap - (bb + 1)) ((itemsV evVals want).drop ((bb + 1) * 3)) rfl Hnl.out Hnews.out Hone.out (by unfold maxLen; omega) (by omega) hbs ?_
        intro v7 w7 hs7 ha7 hm7
        have HR7 : Hid (PlayR w1 n v7 (.int .i64 ((k : Int) + 1)) w7) := Lib.hid (by
          have hl7 : (want.eraseIdx bb).length = want.length - 1 := by rw [List.length_eraseIdx, if_pos hbb]
          exact ⟨k + 1, want.eraseIdx bb, next, by omega, by omega, by go_num, by omega, hx0, by omega, want_left hbb hs7, Hq6.out.apart_want Hw5.out ha7, Hb6.out.trans (ha7.below hbs (fun q hq => (Seg.lt Hf.out q hq).1))⟩)
        have hd7 : Below w1.heap.size w1 w7 := Hb6.out.trans (ha7.below hbs (fun q hq => (Seg.lt Hf.out q hq).1))
        clear hs7 ha7 hm7 hs1 hs2
        go_wp2_with fail
        refine hK.out _ _ hd7 (fun _ => ?_)
        clear hK K
        refine wpAnyH_take (i := 9) (oi := ?oo20) (v := ?vv20) ?ii20 (by kernel_rfl) ?ff20 (by kernel_rfl) ?qq20 (Or.inl ⟨?ww20, ?yy20⟩) hd7 ?rr20
        case ii20 => simp only [List.getElem?_toArray, List.getElem?_cons_succ, List.getElem?_cons_zero]; rfl
        case ff20 => kernel_rfl
        case qq20 => exact fun _ _ _ h => h
        case ww20 => rfl
        case yy20 => intro W hW; go_simp <;> with_reducible rfl
        try simp only [Act.put, List.setIfInBounds_toArray, List.set_cons_zero, List.set_cons_succ]
        refine wpAnyH_done (by kernel_rfl) ?_ _
        clear hd7 hd1
        go_wp2_with fail
        go_roundw
        case rel => exact HR7.out
        case measure => simp [intOf]; omega
      obtain ⟨⟨y0, y1, y2⟩, hyj⟩ : ∃ y, want[j]? = some y := ⟨_, List.getElem?_eq_getElem hlt⟩
      have hbi := QueP.best_in Hpos.out hj
      obtain ⟨⟨z0, z1, z2⟩, hzj⟩ : ∃ z, want[QueP.bestTo want j]? = some z := ⟨_, List.getElem?_eq_getElem hbi⟩
      have HSu := Lib.hid (QueP.best_succ hzj hyj)
      have hd0 : WantIn w1.heap.size (.slice (some ⟨g, woff, none⟩) want.length wcap) want wr.drew := Seg.drew (Seg.keep Hw4.out hbj)
      generalize QueP.bestTo want j = bj at *
      have ky0 : ∀ W, WantIn w1.heap.size (.slice (some ⟨g, woff, none⟩) want.length wcap) want W → W.cell? ⟨g, woff + j * 3, none⟩ = some (.int .i64 y0) := fun W hW => (WantIn.cells hW hyj).1
      have ky1 : ∀ W, WantIn w1.heap.size (.slice (some ⟨g, woff, none⟩) want.length wcap) want W → W.cell? ⟨g, woff + j * 3 + 1, none⟩ = some (.int .i64 y1) := fun W hW => (WantIn.cells hW hyj).2.1
      have kz0 : ∀ W, WantIn w1.heap.size (.slice (some ⟨g, woff, none⟩) want.length wcap) want W → W.cell? ⟨g, woff + bj * 3, none⟩ = some (.int .i64 z0) := fun W hW => (WantIn.cells hW hzj).1
      have kz1 : ∀ W, WantIn w1.heap.size (.slice (some ⟨g, woff, none⟩) want.length wcap) want W → W.cell? ⟨g, woff + bj * 3 + 1, none⟩ = some (.int .i64 z1) := fun W hW => (WantIn.cells hW hzj).2.1
      have HbJ := Lib.hid hbj
      clear hbj hyj hzj
      by_cases h1 : y0 < z0
      case pos =>
        have q1 : decide (y0 < z0) = true := decide_eq_true h1
        have HR2 : Hid (∀ W, Below wr.heap.size wr W → BestR w4 want (.int .i64 (j : Nat)) (.int .i64 ((j : Int) + 1)) W) := Lib.hid fun W hW => ⟨j + 1, by omega, by rw [HSu.out, if_pos (by unfold QueP.less; simp only; omega)], by go_num, HbJ.out.trans (hW.mono HbJ.out.size)⟩
        clear HSu HbJ
        go_wp2_with fail
        refine wp_region_held_drew (S := fun W => WantIn w1.heap.size (.slice (some ⟨g, woff, none⟩) want.length wcap) want W) (by kernel_rfl) hd0 (fun _ => ?_)
        refine wpAnyH_take (i := 0) (oi := ?oo21) (v := ?vv21) ?ii21 (by kernel_rfl) ?ff21 (by kernel_rfl) ?qq21 (Or.inl ⟨?ww21, ?yy21⟩) hd0 ?rr21
        case ii21 => simp only [List.getElem?_toArray, List.getElem?_cons_zero]; rfl
        case ff21 => kernel_rfl
        case qq21 => exact fun _ _ _ h => h
        case ww21 => rfl
        case yy21 => intro W hW; go_simp <;> with_reducible rfl
        try simp only [Act.put, List.setIfInBounds_toArray, List.set_cons_zero, List.set_cons_succ]
        refine wpAnyH_take (i := 1) (oi := ?oo22) (v := ?vv22) ?ii22 (by kernel_rfl) ?ff22 (by kernel_rfl) ?qq22 (Or.inl ⟨?ww22, ?yy22⟩) hd0 ?rr22
        case ii22 => simp only [List.getElem?_toArray, List.getElem?_cons_succ, List.getElem?_cons_zero]; rfl
        case ff22 => kernel_rfl
        case qq22 => exact fun _ _ _ h => h
        case ww22 => rfl
        case yy22 => intro W hW; go_simp <;> with_reducible rfl
        try simp only [Act.put, List.setIfInBounds_toArray, List.set_cons_zero, List.set_cons_succ]
        refine wpAnyH_take (i := 2) (oi := ?oo23) (v := ?vv23) ?ii23 (by kernel_rfl) ?ff23 (by kernel_rfl) ?qq23 (Or.inl ⟨?ww23, ?yy23⟩) hd0 ?rr23
        case ii23 => simp only [List.getElem?_toArray, List.getElem?_cons_succ, List.getElem?_cons_zero]; rfl
        case ff23 => kernel_rfl
        case qq23 => exact fun _ _ _ h => h
        case ww23 => rfl
        case yy23 => intro W hW; go_simp <;> with_reducible rfl
        try simp only [Act.put, List.setIfInBounds_toArray, List.set_cons_zero, List.set_cons_succ]
        refine wpAnyH_take (i := 3) (oi := ?oo24) (v := ?vv24) ?ii24 (by kernel_rfl) ?ff24 (by kernel_rfl) ?qq24 (Or.inl ⟨?ww24, ?yy24⟩) hd0 ?rr24
        case ii24 => simp only [List.getElem?_toArray, List.getElem?_cons_succ, List.getElem?_cons_zero]; rfl
        case ff24 => kernel_rfl
        case qq24 => exact fun _ _ _ h => h
        case ww24 => rfl
        case yy24 => intro W hW; go_simp <;> with_reducible rfl
        try simp only [Act.put, List.setIfInBounds_toArray, List.set_cons_zero, List.set_cons_succ]
        refine wpAnyH_take (i := 4) (oi := ?oo25) (v := ?vv25) ?ii25 (by kernel_rfl) ?ff25 (by kernel_rfl) ?qq25 (Or.inl ⟨?ww25, ?yy25⟩) hd0 ?rr25
        case ii25 => simp only [List.getElem?_toArray, List.getElem?_cons_succ, List.getElem?_cons_zero]; rfl
        case ff25 => kernel_rfl
        case qq25 => exact fun _ _ _ h => h
        case ww25 => rfl
        case yy25 => intro W hW; go_simp <;> with_reducible rfl
        try simp only [Act.put, List.setIfInBounds_toArray, List.set_cons_zero, List.set_cons_succ]
        refine wpAnyH_take (i := 5) (oi := ?oo26) (v := ?vv26) ?ii26 (by kernel_rfl) ?ff26 (by kernel_rfl) ?qq26 (Or.inl ⟨?ww26, ?yy26⟩) hd0 ?rr26
        case ii26 => simp only [List.getElem?_toArray, List.getElem?_cons_succ, List.getElem?_cons_zero]; rfl
        case ff26 => kernel_rfl
        case qq26 => exact fun _ _ _ h => h
        case ww26 => rfl
        case yy26 => intro W hW; go_simp <;> with_reducible rfl
        try simp only [Act.put, List.setIfInBounds_toArray, List.set_cons_zero, List.set_cons_succ]
        refine wpAnyH_take (i := 6) (oi := ?oo27) (v := ?vv27) ?ii27 (by kernel_rfl) ?ff27 (by kernel_rfl) ?qq27 (Or.inl ⟨?ww27, ?yy27⟩) hd0 ?rr27
        case ii27 => simp only [List.getElem?_toArray, List.getElem?_cons_succ, List.getElem?_cons_zero]; rfl
        case ff27 => kernel_rfl
        case qq27 => exact fun _ _ _ h => h
        case ww27 => rfl
        case yy27 => intro W hW; go_simp <;> with_reducible rfl
        try simp only [Act.put, List.setIfInBounds_toArray, List.set_cons_zero, List.set_cons_succ]
        refine wpAnyH_take (i := 7) (oi := ?oo28) (v := ?vv28) ?ii28 (by kernel_rfl) ?ff28 (by kernel_rfl) ?qq28 (Or.inl ⟨?ww28, ?yy28⟩) hd0 ?rr28
        case ii28 => simp only [List.getElem?_toArray, List.getElem?_cons_succ, List.getElem?_cons_zero]; rfl
        case ff28 => kernel_rfl
        case qq28 => exact fun _ _ _ h => h
        case ww28 => rfl
        case yy28 => intro W hW; go_simp <;> with_reducible rfl
        try simp only [Act.put, List.setIfInBounds_toArray, List.set_cons_zero, List.set_cons_succ]
        refine wpAnyH_take (i := 8) (oi := ?oo29) (v := ?vv29) ?ii29 (by kernel_rfl) ?ff29 (by kernel_rfl) ?qq29 (Or.inl ⟨?ww29, ?yy29⟩) hd0 ?rr29
        case ii29 => simp only [List.getElem?_toArray, List.getElem?_cons_succ, List.getElem?_cons_zero]; rfl
        case ff29 => kernel_rfl
        case qq29 => exact fun _ _ _ h => h
        case ww29 => rfl
        case yy29 => intro W hW; go_simp <;> with_reducible rfl
        try simp only [Act.put, List.setIfInBounds_toArray, List.set_cons_zero, List.set_cons_succ]
        refine wpAnyH_take (i := 9) (oi := ?oo30) (v := ?vv30) ?ii30 (by kernel_rfl) ?ff30 (by kernel_rfl) ?qq30 (Or.inl ⟨?ww30, ?yy30⟩) hd0 ?rr30
        case ii30 => simp only [List.getElem?_toArray, List.getElem?_cons_succ, List.getElem?_cons_zero]; rfl
        case ff30 => kernel_rfl
        case qq30 => exact fun _ _ _ h => h
        case ww30 => rfl
        case yy30 => intro W hW; go_simp <;> with_reducible rfl
        try simp only [Act.put, List.setIfInBounds_toArray, List.set_cons_zero, List.set_cons_succ]
        refine wpAnyH_take (i := 10) (oi := ?oo31) (v := ?vv31) ?ii31 (by kernel_rfl) ?ff31 (by kernel_rfl) ?qq31 (Or.inl ⟨?ww31, ?yy31⟩) hd0 ?rr31
        case ii31 => simp only [List.getElem?_toArray, List.getElem?_cons_succ, List.getElem?_cons_zero]; rfl
        case ff31 => kernel_rfl
        case qq31 => exact fun _ _ _ h => h
        case ww31 => rfl
        case yy31 => intro W hW; go_simp <;> with_reducible rfl
        try simp only [Act.put, List.setIfInBounds_toArray, List.set_cons_zero, List.set_cons_succ]
        refine wpAnyH_take (i := 11) (oi := ?oo32) (v := ?vv32) ?ii32 (by kernel_rfl) ?ff32 (by kernel_rfl) ?qq32 (Or.inl ⟨?ww32, ?yy32⟩) hd0 ?rr32
        case ii32 => simp only [List.getElem?_toArray, List.getElem?_cons_succ, List.getElem?_cons_zero]; rfl
        case ff32 => kernel_rfl
        case qq32 => exact fun _ _ _ h => h
        case ww32 => rfl
        case yy32 => intro W hW; go_simp <;> with_reducible rfl
        try simp only [Act.put, List.setIfInBounds_toArray, List.set_cons_zero, List.set_cons_succ]
        refine wpAnyH_take (i := 12) (oi := ?oo33) (v := undef) ?ii33 (by kernel_rfl) ?ff33 (by kernel_rfl) ?qq33 (Or.inr ⟨?ww33, rfl⟩) hd0 ?rr33
        case ii33 => simp only [List.getElem?_toArray, List.getElem?_cons_succ, List.getElem?_cons_zero]; rfl
        case ff33 => kernel_rfl
        case qq33 => exact fun _ _ _ h => h
        case ww33 => rfl
        try simp only [Act.put, List.setIfInBounds_toArray, List.set_cons_zero, List.set_cons_succ]
        refine wpAnyH_take (i := 13) (oi := ?oo34) (v := undef) ?ii34 (by kernel_rfl) ?ff34 (by kernel_rfl) ?qq34 (Or.inr ⟨?ww34, rfl⟩) hd0 ?rr34
        case ii34 => simp only [List.getElem?_toArray, List.getElem?_cons_succ, List.getElem?_cons_zero]; rfl
        case ff34 => kernel_rfl
        case qq34 => exact fun _ _ _ h => h
        case ww34 => rfl
        try simp only [Act.put, List.setIfInBounds_toArray, List.set_cons_zero, List.set_cons_succ]
        refine wpAnyH_take (i := 14) (oi := ?oo35) (v := undef) ?ii35 (by kernel_rfl) ?ff35 (by kernel_rfl) ?qq35 (Or.inr ⟨?ww35, rfl⟩) hd0 ?rr35
        case ii35 => simp only [List.getElem?_toArray, List.getElem?_cons_succ, List.getElem?_cons_zero]; rfl
        case ff35 => kernel_rfl
        case qq35 => exact fun _ _ _ h => h
        case ww35 => rfl
        try simp only [Act.put, List.setIfInBounds_toArray, List.set_cons_zero, List.set_cons_succ]
        refine wpAnyH_take (i := 15) (oi := ?oo36) (v := undef) ?ii36 (by kernel_rfl) ?ff36 (by kernel_rfl) ?qq36 (Or.inr ⟨?ww36, rfl⟩) hd0 ?rr36
        case ii36 => simp only [List.getElem?_toArray, List.getElem?_cons_succ, List.getElem?_cons_zero]; rfl
        case ff36 => kernel_rfl
        case qq36 => exact fun _ _ _ h => h
        case ww36 => rfl
        try simp only [Act.put, List.setIfInBounds_toArray, List.set_cons_zero, List.set_cons_succ]
        refine wpAnyH_take (i := 16) (oi := ?oo37) (v := undef) ?ii37 (by kernel_rfl) ?ff37 (by kernel_rfl) ?qq37 (Or.inr ⟨?ww37, rfl⟩) hd0 ?rr37
        case ii37 => simp only [List.getElem?_toArray, List.getElem?_cons_succ, List.getElem?_cons_zero]; rfl
        case ff37 => kernel_rfl
        case qq37 => exact fun _ _ _ h => h
        case ww37 => rfl
        try simp only [Act.put, List.setIfInBounds_toArray, List.set_cons_zero, List.set_cons_succ]
        refine wpAnyH_take (i := 17) (oi := ?oo38) (v := undef) ?ii38 (by kernel_rfl) ?ff38 (by kernel_rfl) ?qq38 (Or.inr ⟨?ww38, rfl⟩) hd0 ?rr38
        case ii38 => simp only [List.getElem?_toArray, List.getElem?_cons_succ, List.getElem?_cons_zero]; rfl
        case ff38 => kernel_rfl
        case qq38 => exact fun _ _ _ h => h
        case ww38 => rfl
        try simp only [Act.put, List.setIfInBounds_toArray, List.set_cons_zero, List.set_cons_succ]
        refine wpAnyH_take (i := 18) (oi := ?oo39) (v := undef) ?ii39 (by kernel_rfl) ?ff39 (by kernel_rfl) ?qq39 (Or.inr ⟨?ww39, rfl⟩) hd0 ?rr39
        case ii39 => simp only [List.getElem?_toArray, List.getElem?_cons_succ, List.getElem?_cons_zero]; rfl
        case ff39 => kernel_rfl
        case qq39 => exact fun _ _ _ h => h
        case ww39 => rfl
        try simp only [Act.put, List.setIfInBounds_toArray, List.set_cons_zero, List.set_cons_succ]
        refine wpAnyH_take (i := 19) (oi := ?oo40) (v := undef) ?ii40 (by kernel_rfl) ?ff40 (by kernel_rfl) ?qq40 (Or.inr ⟨?ww40, rfl⟩) hd0 ?rr40
        case ii40 => simp only [List.getElem?_toArray, List.getElem?_cons_succ, List.getElem?_cons_zero]; rfl
        case ff40 => kernel_rfl
        case qq40 => exact fun _ _ _ h => h
        case ww40 => rfl
        try simp only [Act.put, List.setIfInBounds_toArray, List.set_cons_zero, List.set_cons_succ]
        refine wpAnyH_take (i := 20) (oi := ?oo41) (v := undef) ?ii41 (by kernel_rfl) ?ff41 (by kernel_rfl) ?qq41 (Or.inr ⟨?ww41, rfl⟩) hd0 ?rr41
        case ii41 => simp only [List.getElem?_toArray, List.getElem?_cons_succ, List.getElem?_cons_zero]; rfl
        case ff41 => kernel_rfl
        case qq41 => exact fun _ _ _ h => h
        case ww41 => rfl
        try simp only [Act.put, List.setIfInBounds_toArray, List.set_cons_zero, List.set_cons_succ]
        refine wpAnyH_take (i := 21) (oi := ?oo42) (v := undef) ?ii42 (by kernel_rfl) ?ff42 (by kernel_rfl) ?qq42 (Or.inr ⟨?ww42, rfl⟩) hd0 ?rr42
        case ii42 => simp only [List.getElem?_toArray, List.getElem?_cons_succ, List.getElem?_cons_zero]; rfl
        case ff42 => kernel_rfl
        case qq42 => exact fun _ _ _ h => h
        case ww42 => rfl
        try simp only [Act.put, List.setIfInBounds_toArray, List.set_cons_zero, List.set_cons_succ]
        refine wpAnyH_take (i := 22) (oi := ?oo43) (v := undef) ?ii43 (by kernel_rfl) ?ff43 (by kernel_rfl) ?qq43 (Or.inr ⟨?ww43, rfl⟩) hd0 ?rr43
        case ii43 => simp only [List.getElem?_toArray, List.getElem?_cons_succ, List.getElem?_cons_zero]; rfl
        case ff43 => kernel_rfl
        case qq43 => exact fun _ _ _ h => h
        case ww43 => rfl
        try simp only [Act.put, List.setIfInBounds_toArray, List.set_cons_zero, List.set_cons_succ]
        refine wpAnyH_take (i := 23) (oi := ?oo44) (v := undef) ?ii44 (by kernel_rfl) ?ff44 (by kernel_rfl) ?qq44 (Or.inr ⟨?ww44, rfl⟩) hd0 ?rr44
        case ii44 => simp only [List.getElem?_toArray, List.getElem?_cons_succ, List.getElem?_cons_zero]; rfl
        case ff44 => kernel_rfl
        case qq44 => exact fun _ _ _ h => h
        case ww44 => rfl
        try simp only [Act.put, List.setIfInBounds_toArray, List.set_cons_zero, List.set_cons_succ]
        refine wpAnyH_take (i := 24) (oi := ?oo45) (v := undef) ?ii45 (by kernel_rfl) ?ff45 (by kernel_rfl) ?qq45 (Or.inr ⟨?ww45, rfl⟩) hd0 ?rr45
        case ii45 => simp only [List.getElem?_toArray, List.getElem?_cons_succ, List.getElem?_cons_zero]; rfl
        case ff45 => kernel_rfl
        case qq45 => exact fun _ _ _ h => h
        case ww45 => rfl
        try simp only [Act.put, List.setIfInBounds_toArray, List.set_cons_zero, List.set_cons_succ]
        refine wpAnyH_take (i := 25) (oi := ?oo46) (v := undef) ?ii46 (by kernel_rfl) ?ff46 (by kernel_rfl) ?qq46 (Or.inr ⟨?ww46, rfl⟩) hd0 ?rr46
        case ii46 => simp only [List.getElem?_toArray, List.getElem?_cons_succ, List.getElem?_cons_zero]; rfl
        case ff46 => kernel_rfl
        case qq46 => exact fun _ _ _ h => h
        case ww46 => rfl
        try simp only [Act.put, List.setIfInBounds_toArray, List.set_cons_zero, List.set_cons_succ]
        refine wpAnyH_take (i := 26) (oi := ?oo47) (v := undef) ?ii47 (by kernel_rfl) ?ff47 (by kernel_rfl) ?qq47 (Or.inr ⟨?ww47, rfl⟩) hd0 ?rr47
        case ii47 => simp only [List.getElem?_toArray, List.getElem?_cons_succ, List.getElem?_cons_zero]; rfl
        case ff47 => kernel_rfl
        case qq47 => exact fun _ _ _ h => h
        case ww47 => rfl
        try simp only [Act.put, List.setIfInBounds_toArray, List.set_cons_zero, List.set_cons_succ]
        refine wpAnyH_take (i := 27) (oi := ?oo48) (v := undef) ?ii48 (by kernel_rfl) ?ff48 (by kernel_rfl) ?qq48 (Or.inr ⟨?ww48, rfl⟩) hd0 ?rr48
        case ii48 => simp only [List.getElem?_toArray, List.getElem?_cons_succ, List.getElem?_cons_zero]; rfl
        case ff48 => kernel_rfl
        case qq48 => exact fun _ _ _ h => h
        case ww48 => rfl
        try simp only [Act.put, List.setIfInBounds_toArray, List.set_cons_zero, List.set_cons_succ]
        refine wpAnyH_take (i := 28) (oi := ?oo49) (v := undef) ?ii49 (by kernel_rfl) ?ff49 (by kernel_rfl) ?qq49 (Or.inr ⟨?ww49, rfl⟩) hd0 ?rr49
        case ii49 => simp only [List.getElem?_toArray, List.getElem?_cons_succ, List.getElem?_cons_zero]; rfl
        case ff49 => kernel_rfl
        case qq49 => exact fun _ _ _ h => h
        case ww49 => rfl
        try simp only [Act.put, List.setIfInBounds_toArray, List.set_cons_zero, List.set_cons_succ]
        refine wpAnyH_take (i := 29) (oi := ?oo50) (v := undef) ?ii50 (by kernel_rfl) ?ff50 (by kernel_rfl) ?qq50 (Or.inr ⟨?ww50, rfl⟩) hd0 ?rr50
        case ii50 => simp only [List.getElem?_toArray, List.getElem?_cons_succ, List.getElem?_cons_zero]; rfl
        case ff50 => kernel_rfl
        case qq50 => exact fun _ _ _ h => h
        case ww50 => rfl
        try simp only [Act.put, List.setIfInBounds_toArray, List.set_cons_zero, List.set_cons_succ]
        refine wpAnyH_take (i := 30) (oi := ?oo51) (v := undef) ?ii51 (by kernel_rfl) ?ff51 (by kernel_rfl) ?qq51 (Or.inr ⟨?ww51, rfl⟩) hd0 ?rr51
        case ii51 => simp only [List.getElem?_toArray, List.getElem?_cons_succ, List.getElem?_cons_zero]; rfl
        case ff51 => kernel_rfl
        case qq51 => exact fun _ _ _ h => h
        case ww51 => rfl
        try simp only [Act.put, List.setIfInBounds_toArray, List.set_cons_zero, List.set_cons_succ]
        refine wpAnyH_take (i := 31) (oi := ?oo52) (v := undef) ?ii52 (by kernel_rfl) ?ff52 (by kernel_rfl) ?qq52 (Or.inr ⟨?ww52, rfl⟩) hd0 ?rr52
        case ii52 => simp only [List.getElem?_toArray, List.getElem?_cons_succ, List.getElem?_cons_zero]; rfl
        case ff52 => kernel_rfl
        case qq52 => exact fun _ _ _ h => h
        case ww52 => rfl
        try simp only [Act.put, List.setIfInBounds_toArray, List.set_cons_zero, List.set_cons_succ]
        refine wpAnyH_take (i := 32) (oi := ?oo53) (v := undef) ?ii53 (by kernel_rfl) ?ff53 (by kernel_rfl) ?qq53 (Or.inr ⟨?ww53, rfl⟩) hd0 ?rr53
        case ii53 => simp only [List.getElem?_toArray, List.getElem?_cons_succ, List.getElem?_cons_zero]; rfl
        case ff53 => kernel_rfl
        case qq53 => exact fun _ _ _ h => h
        case ww53 => rfl
        try simp only [Act.put, List.setIfInBounds_toArray, List.set_cons_zero, List.set_cons_succ]
        refine wpAnyH_take (i := 33) (oi := ?oo54) (v := undef) ?ii54 (by kernel_rfl) ?ff54 (by kernel_rfl) ?qq54 (Or.inr ⟨?ww54, rfl⟩) hd0 ?rr54
        case ii54 => simp only [List.getElem?_toArray, List.getElem?_cons_succ, List.getElem?_cons_zero]; rfl
        case ff54 => kernel_rfl
        case qq54 => exact fun _ _ _ h => h
        case ww54 => rfl
        try simp only [Act.put, List.setIfInBounds_toArray, List.set_cons_zero, List.set_cons_succ]
        refine wpAnyH_take (i := 34) (oi := ?oo55) (v := undef) ?ii55 (by kernel_rfl) ?ff55 (by kernel_rfl) ?qq55 (Or.inr ⟨?ww55, rfl⟩) hd0 ?rr55
        case ii55 => simp only [List.getElem?_toArray, List.getElem?_cons_succ, List.getElem?_cons_zero]; rfl
        case ff55 => kernel_rfl
        case qq55 => exact fun _ _ _ h => h
        case ww55 => rfl
        try simp only [Act.put, List.setIfInBounds_toArray, List.set_cons_zero, List.set_cons_succ]
        refine wpAnyH_take (i := 35) (oi := ?oo56) (v := undef) ?ii56 (by kernel_rfl) ?ff56 (by kernel_rfl) ?qq56 (Or.inr ⟨?ww56, rfl⟩) hd0 ?rr56
        case ii56 => simp only [List.getElem?_toArray, List.getElem?_cons_succ, List.getElem?_cons_zero]; rfl
        case ff56 => kernel_rfl
        case qq56 => exact fun _ _ _ h => h
        case ww56 => rfl
        try simp only [Act.put, List.setIfInBounds_toArray, List.set_cons_zero, List.set_cons_succ]
        refine wpAnyH_take (i := 36) (oi := ?oo57) (v := ?vv57) ?ii57 (by kernel_rfl) ?ff57 (by kernel_rfl) ?qq57 (Or.inl ⟨?ww57, ?yy57⟩) hd0 ?rr57
        case ii57 => simp only [List.getElem?_toArray, List.getElem?_cons_succ, List.getElem?_cons_zero]; rfl
        case ff57 => kernel_rfl
        case qq57 => exact fun _ _ _ h => h
        case ww57 => rfl
        case yy57 => intro W hW; go_simp <;> with_reducible rfl
        try simp only [Act.put, List.setIfInBounds_toArray, List.set_cons_zero, List.set_cons_succ]
        refine wpAnyH_done (by kernel_rfl) ?_ _
        have HR3 := Lib.hid (HR2.out _ (Below.refl _ _).drew)
        clear hd0 HR2
        go_wp2_with fail
        go_roundw
        case rel => exact HR3.out
        case measure => simp [intOf]; omega
      have q1 : decide (y0 < z0) = false := decide_eq_false h1
      by_cases h2 : y0 = z0
      case neg =>
        have q2 : (y0 == z0) = false := by rw [beq_eq_false_iff_ne]; exact h2
        have HR2 : Hid (∀ W, Below wr.heap.size wr W → BestR w4 want (.int .i64 (bj : Nat)) (.int .i64 ((j : Int) + 1)) W) := Lib.hid fun W hW => ⟨j + 1, by omega, by rw [HSu.out, if_neg (by unfold QueP.less; simp only; omega)], by go_num, HbJ.out.trans (hW.mono HbJ.out.size)⟩
        clear HSu HbJ
        go_wp2_with fail
        refine wp_region_held_drew (S := fun W => WantIn w1.heap.size (.slice (some ⟨g, woff, none⟩) want.length wcap) want W) (by kernel_rfl) hd0 (fun _ => ?_)
        refine wpAnyH_take (i := 0) (oi := ?oo58) (v := ?vv58) ?ii58 (by kernel_rfl) ?ff58 (by kernel_rfl) ?qq58 (Or.inl ⟨?ww58, ?yy58⟩) hd0 ?rr58
        case ii58 => simp only [List.getElem?_toArray, List.getElem?_cons_zero]; rfl
        case ff58 => kernel_rfl
        case qq58 => exact fun _ _ _ h => h
        case ww58 => rfl
        case yy58 => intro W hW; go_simp <;> with_reducible rfl
        try simp only [Act.put, List.setIfInBounds_toArray, List.set_cons_zero, List.set_cons_succ]
        refine wpAnyH_take (i := 1) (oi := ?oo59) (v := ?vv59) ?ii59 (by kernel_rfl) ?ff59 (by kernel_rfl) ?qq59 (Or.inl ⟨?ww59, ?yy59⟩) hd0 ?rr59
        case ii59 => simp only [List.getElem?_toArray, List.getElem?_cons_succ, List.getElem?_cons_zero]; rfl
        case ff59 => kernel_rfl
        case qq59 => exact fun _ _ _ h => h
        case ww59 => rfl
        case yy59 => intro W hW; go_simp <;> with_reducible rfl
        try simp only [Act.put, List.setIfInBounds_toArray, List.set_cons_zero, List.set_cons_succ]
        refine wpAnyH_take (i := 2) (oi := ?oo60) (v := ?vv60) ?ii60 (by kernel_rfl) ?ff60 (by kernel_rfl) ?qq60 (Or.inl ⟨?ww60, ?yy60⟩) hd0 ?rr60
        case ii60 => simp only [List.getElem?_toArray, List.getElem?_cons_succ, List.getElem?_cons_zero]; rfl
        case ff60 => kernel_rfl
        case qq60 => exact fun _ _ _ h => h
        case ww60 => rfl
        case yy60 => intro W hW; go_simp <;> with_reducible rfl
        try simp only [Act.put, List.setIfInBounds_toArray, List.set_cons_zero, List.set_cons_succ]
        refine wpAnyH_take (i := 3) (oi := ?oo61) (v := ?vv61) ?ii61 (by kernel_rfl) ?ff61 (by kernel_rfl) ?qq61 (Or.inl ⟨?ww61, ?yy61⟩) hd0 ?rr61
        case ii61 => simp only [List.getElem?_toArray, List.getElem?_cons_succ, List.getElem?_cons_zero]; rfl
        case ff61 => kernel_rfl
        case qq61 => exact fun _ _ _ h => h
        case ww61 => rfl
        case yy61 => intro W hW; go_simp <;> with_reducible rfl
        try simp only [Act.put, List.setIfInBounds_toArray, List.set_cons_zero, List.set_cons_succ]
        refine wpAnyH_take (i := 4) (oi := ?oo62) (v := ?vv62) ?ii62 (by kernel_rfl) ?ff62 (by kernel_rfl) ?qq62 (Or.inl ⟨?ww62, ?yy62⟩) hd0 ?rr62
        case ii62 => simp only [List.getElem?_toArray, List.getElem?_cons_succ, List.getElem?_cons_zero]; rfl
        case ff62 => kernel_rfl
        case qq62 => exact fun _ _ _ h => h
        case ww62 => rfl
        case yy62 => intro W hW; go_simp <;> with_reducible rfl
        try simp only [Act.put, List.setIfInBounds_toArray, List.set_cons_zero, List.set_cons_succ]
        refine wpAnyH_take (i := 5) (oi := ?oo63) (v := ?vv63) ?ii63 (by kernel_rfl) ?ff63 (by kernel_rfl) ?qq63 (Or.inl ⟨?ww63, ?yy63⟩) hd0 ?rr63
        case ii63 => simp only [List.getElem?_toArray, List.getElem?_cons_succ, List.getElem?_cons_zero]; rfl
        case ff63 => kernel_rfl
        case qq63 => exact fun _ _ _ h => h
        case ww63 => rfl
        case yy63 => intro W hW; go_simp <;> with_reducible rfl
        try simp only [Act.put, List.setIfInBounds_toArray, List.set_cons_zero, List.set_cons_succ]
        refine wpAnyH_take (i := 6) (oi := ?oo64) (v := ?vv64) ?ii64 (by kernel_rfl) ?ff64 (by kernel_rfl) ?qq64 (Or.inl ⟨?ww64, ?yy64⟩) hd0 ?rr64
        case ii64 => simp only [List.getElem?_toArray, List.getElem?_cons_succ, List.getElem?_cons_zero]; rfl
        case ff64 => kernel_rfl
        case qq64 => exact fun _ _ _ h => h
        case ww64 => rfl
        case yy64 => intro W hW; go_simp <;> with_reducible rfl
        try simp only [Act.put, List.setIfInBounds_toArray, List.set_cons_zero, List.set_cons_succ]
        refine wpAnyH_take (i := 7) (oi := ?oo65) (v := ?vv65) ?ii65 (by kernel_rfl) ?ff65 (by kernel_rfl) ?qq65 (Or.inl ⟨?ww65, ?yy65⟩) hd0 ?rr65
        case ii65 => simp only [List.getElem?_toArray, List.getElem?_cons_succ, List.getElem?_cons_zero]; rfl
        case ff65 => kernel_rfl
        case qq65 => exact fun _ _ _ h => h
        case ww65 => rfl
        case yy65 => intro W hW; go_simp <;> with_reducible rfl
        try simp only [Act.put, List.setIfInBounds_toArray, List.set_cons_zero, List.set_cons_succ]
        refine wpAnyH_take (i := 8) (oi := ?oo66) (v := ?vv66) ?ii66 (by kernel_rfl) ?ff66 (by kernel_rfl) ?qq66 (Or.inl ⟨?ww66, ?yy66⟩) hd0 ?rr66
        case ii66 => simp only [List.getElem?_toArray, List.getElem?_cons_succ, List.getElem?_cons_zero]; rfl
        case ff66 => kernel_rfl
        case qq66 => exact fun _ _ _ h => h
        case ww66 => rfl
        case yy66 => intro W hW; go_simp <;> with_reducible rfl
        try simp only [Act.put, List.setIfInBounds_toArray, List.set_cons_zero, List.set_cons_succ]
        refine wpAnyH_take (i := 9) (oi := ?oo67) (v := ?vv67) ?ii67 (by kernel_rfl) ?ff67 (by kernel_rfl) ?qq67 (Or.inl ⟨?ww67, ?yy67⟩) hd0 ?rr67
        case ii67 => simp only [List.getElem?_toArray, List.getElem?_cons_succ, List.getElem?_cons_zero]; rfl
        case ff67 => kernel_rfl
        case qq67 => exact fun _ _ _ h => h
        case ww67 => rfl
        case yy67 => intro W hW; go_simp <;> with_reducible rfl
        try simp only [Act.put, List.setIfInBounds_toArray, List.set_cons_zero, List.set_cons_succ]
        refine wpAnyH_take (i := 10) (oi := ?oo68) (v := ?vv68) ?ii68 (by kernel_rfl) ?ff68 (by kernel_rfl) ?qq68 (Or.inl ⟨?ww68, ?yy68⟩) hd0 ?rr68
        case ii68 => simp only [List.getElem?_toArray, List.getElem?_cons_succ, List.getElem?_cons_zero]; rfl
        case ff68 => kernel_rfl
        case qq68 => exact fun _ _ _ h => h
        case ww68 => rfl
        case yy68 => intro W hW; go_simp <;> with_reducible rfl
        try simp only [Act.put, List.setIfInBounds_toArray, List.set_cons_zero, List.set_cons_succ]
        refine wpAnyH_take (i := 11) (oi := ?oo69) (v := ?vv69) ?ii69 (by kernel_rfl) ?ff69 (by kernel_rfl) ?qq69 (Or.inl ⟨?ww69, ?yy69⟩) hd0 ?rr69
        case ii69 => simp only [List.getElem?_toArray, List.getElem?_cons_succ, List.getElem?_cons_zero]; rfl
        case ff69 => kernel_rfl
        case qq69 => exact fun _ _ _ h => h
        case ww69 => rfl
        case yy69 => intro W hW; go_simp <;> with_reducible rfl
        try simp only [Act.put, List.setIfInBounds_toArray, List.set_cons_zero, List.set_cons_succ]
        refine wpAnyH_take (i := 12) (oi := ?oo70) (v := ?vv70) ?ii70 (by kernel_rfl) ?ff70 (by kernel_rfl) ?qq70 (Or.inl ⟨?ww70, ?yy70⟩) hd0 ?rr70
        case ii70 => simp only [List.getElem?_toArray, List.getElem?_cons_succ, List.getElem?_cons_zero]; rfl
        case ff70 => kernel_rfl
        case qq70 => exact fun _ _ _ h => h
        case ww70 => rfl
        case yy70 => intro W hW; go_simp <;> with_reducible rfl
        try simp only [Act.put, List.setIfInBounds_toArray, List.set_cons_zero, List.set_cons_succ]
        refine wpAnyH_take (i := 13) (oi := ?oo71) (v := ?vv71) ?ii71 (by kernel_rfl) ?ff71 (by kernel_rfl) ?qq71 (Or.inl ⟨?ww71, ?yy71⟩) hd0 ?rr71
        case ii71 => simp only [List.getElem?_toArray, List.getElem?_cons_succ, List.getElem?_cons_zero]; rfl
        case ff71 => kernel_rfl
        case qq71 => exact fun _ _ _ h => h
        case ww71 => rfl
        case yy71 => intro W hW; go_simp <;> with_reducible rfl
        try simp only [Act.put, List.setIfInBounds_toArray, List.set_cons_zero, List.set_cons_succ]
        refine wpAnyH_take (i := 14) (oi := ?oo72) (v := ?vv72) ?ii72 (by kernel_rfl) ?ff72 (by kernel_rfl) ?qq72 (Or.inl ⟨?ww72, ?yy72⟩) hd0 ?rr72
        case ii72 => simp only [List.getElem?_toArray, List.getElem?_cons_succ, List.getElem?_cons_zero]; rfl
        case ff72 => kernel_rfl
        case qq72 => exact fun _ _ _ h => h
        case ww72 => rfl
        case yy72 => intro W hW; go_simp <;> with_reducible rfl
        try simp only [Act.put, List.setIfInBounds_toArray, List.set_cons_zero, List.set_cons_succ]
        refine wpAnyH_take (i := 15) (oi := ?oo73) (v := ?vv73) ?ii73 (by kernel_rfl) ?ff73 (by kernel_rfl) ?qq73 (Or.inl ⟨?ww73, ?yy73⟩) hd0 ?rr73
        case ii73 => simp only [List.getElem?_toArray, List.getElem?_cons_succ, List.getElem?_cons_zero]; rfl
        case ff73 => kernel_rfl
        case qq73 => exact fun _ _ _ h => h
        case ww73 => rfl
        case yy73 => intro W hW; go_simp <;> with_reducible rfl
        try simp only [Act.put, List.setIfInBounds_toArray, List.set_cons_zero, List.set_cons_succ]
        refine wpAnyH_take (i := 16) (oi := ?oo74) (v := ?vv74) ?ii74 (by kernel_rfl) ?ff74 (by kernel_rfl) ?qq74 (Or.inl ⟨?ww74, ?yy74⟩) hd0 ?rr74
        case ii74 => simp only [List.getElem?_toArray, List.getElem?_cons_succ, List.getElem?_cons_zero]; rfl
        case ff74 => kernel_rfl
        case qq74 => exact fun _ _ _ h => h
        case ww74 => rfl
        case yy74 => intro W hW; go_simp <;> with_reducible rfl
        try simp only [Act.put, List.setIfInBounds_toArray, List.set_cons_zero, List.set_cons_succ]
        refine wpAnyH_take (i := 17) (oi := ?oo75) (v := ?vv75) ?ii75 (by kernel_rfl) ?ff75 (by kernel_rfl) ?qq75 (Or.inl ⟨?ww75, ?yy75⟩) hd0 ?rr75
        case ii75 => simp only [List.getElem?_toArray, List.getElem?_cons_succ, List.getElem?_cons_zero]; rfl
        case ff75 => kernel_rfl
        case qq75 => exact fun _ _ _ h => h
        case ww75 => rfl
        case yy75 => intro W hW; go_simp <;> with_reducible rfl
        try simp only [Act.put, List.setIfInBounds_toArray, List.set_cons_zero, List.set_cons_succ]
        refine wpAnyH_take (i := 18) (oi := ?oo76) (v := ?vv76) ?ii76 (by kernel_rfl) ?ff76 (by kernel_rfl) ?qq76 (Or.inl ⟨?ww76, ?yy76⟩) hd0 ?rr76
        case ii76 => simp only [List.getElem?_toArray, List.getElem?_cons_succ, List.getElem?_cons_zero]; rfl
        case ff76 => kernel_rfl
        case qq76 => exact fun _ _ _ h => h
        case ww76 => rfl
        case yy76 => intro W hW; go_simp <;> with_reducible rfl
        try simp only [Act.put, List.setIfInBounds_toArray, List.set_cons_zero, List.set_cons_succ]
        refine wpAnyH_take (i := 19) (oi := ?oo77) (v := ?vv77) ?ii77 (by kernel_rfl) ?ff77 (by kernel_rfl) ?qq77 (Or.inl ⟨?ww77, ?yy77⟩) hd0 ?rr77
        case ii77 => simp only [List.getElem?_toArray, List.getElem?_cons_succ, List.getElem?_cons_zero]; rfl
        case ff77 => kernel_rfl
        case qq77 => exact fun _ _ _ h => h
        case ww77 => rfl
        case yy77 => intro W hW; go_simp <;> with_reducible rfl
        try simp only [Act.put, List.setIfInBounds_toArray, List.set_cons_zero, List.set_cons_succ]
        refine wpAnyH_take (i := 20) (oi := ?oo78) (v := ?vv78) ?ii78 (by kernel_rfl) ?ff78 (by kernel_rfl) ?qq78 (Or.inl ⟨?ww78, ?yy78⟩) hd0 ?rr78
        case ii78 => simp only [List.getElem?_toArray, List.getElem?_cons_succ, List.getElem?_cons_zero]; rfl
        case ff78 => kernel_rfl
        case qq78 => exact fun _ _ _ h => h
        case ww78 => rfl
        case yy78 => intro W hW; go_simp <;> with_reducible rfl
        try simp only [Act.put, List.setIfInBounds_toArray, List.set_cons_zero, List.set_cons_succ]
        refine wpAnyH_take (i := 21) (oi := ?oo79) (v := ?vv79) ?ii79 (by kernel_rfl) ?ff79 (by kernel_rfl) ?qq79 (Or.inl ⟨?ww79, ?yy79⟩) hd0 ?rr79
        case ii79 => simp only [List.getElem?_toArray, List.getElem?_cons_succ, List.getElem?_cons_zero]; rfl
        case ff79 => kernel_rfl
        case qq79 => exact fun _ _ _ h => h
        case ww79 => rfl
        case yy79 => intro W hW; go_simp <;> with_reducible rfl
        try simp only [Act.put, List.setIfInBounds_toArray, List.set_cons_zero, List.set_cons_succ]
        refine wpAnyH_take (i := 22) (oi := ?oo80) (v := ?vv80) ?ii80 (by kernel_rfl) ?ff80 (by kernel_rfl) ?qq80 (Or.inl ⟨?ww80, ?yy80⟩) hd0 ?rr80
        case ii80 => simp only [List.getElem?_toArray, List.getElem?_cons_succ, List.getElem?_cons_zero]; rfl
        case ff80 => kernel_rfl
        case qq80 => exact fun _ _ _ h => h
        case ww80 => rfl
        case yy80 => intro W hW; go_simp <;> with_reducible rfl
        try simp only [Act.put, List.setIfInBounds_toArray, List.set_cons_zero, List.set_cons_succ]
        refine wpAnyH_take (i := 23) (oi := ?oo81) (v := ?vv81) ?ii81 (by kernel_rfl) ?ff81 (by kernel_rfl) ?qq81 (Or.inl ⟨?ww81, ?yy81⟩) hd0 ?rr81
        case ii81 => simp only [List.getElem?_toArray, List.getElem?_cons_succ, List.getElem?_cons_zero]; rfl
        case ff81 => kernel_rfl
        case qq81 => exact fun _ _ _ h => h
        case ww81 => rfl
        case yy81 => intro W hW; go_simp <;> with_reducible rfl
        try simp only [Act.put, List.setIfInBounds_toArray, List.set_cons_zero, List.set_cons_succ]
        refine wpAnyH_take (i := 24) (oi := ?oo82) (v := undef) ?ii82 (by kernel_rfl) ?ff82 (by kernel_rfl) ?qq82 (Or.inr ⟨?ww82, rfl⟩) hd0 ?rr82
        case ii82 => simp only [List.getElem?_toArray, List.getElem?_cons_succ, List.getElem?_cons_zero]; rfl
        case ff82 => kernel_rfl
        case qq82 => exact fun _ _ _ h => h
        case ww82 => rfl
        try simp only [Act.put, List.setIfInBounds_toArray, List.set_cons_zero, List.set_cons_succ]
        refine wpAnyH_take (i := 25) (oi := ?oo83) (v := undef) ?ii83 (by kernel_rfl) ?ff83 (by kernel_rfl) ?qq83 (Or.inr ⟨?ww83, rfl⟩) hd0 ?rr83
        case ii83 => simp only [List.getElem?_toArray, List.getElem?_cons_succ, List.getElem?_cons_zero]; rfl
        case ff83 => kernel_rfl
        case qq83 => exact fun _ _ _ h => h
        case ww83 => rfl
        try simp only [Act.put, List.setIfInBounds_toArray, List.set_cons_zero, List.set_cons_succ]
        refine wpAnyH_take (i := 26) (oi := ?oo84) (v := undef) ?ii84 (by kernel_rfl) ?ff84 (by kernel_rfl) ?qq84 (Or.inr ⟨?ww84, rfl⟩) hd0 ?rr84
        case ii84 => simp only [List.getElem?_toArray, List.getElem?_cons_succ, List.getElem?_cons_zero]; rfl
        case ff84 => kernel_rfl
        case qq84 => exact fun _ _ _ h => h
        case ww84 => rfl
        try simp only [Act.put, List.setIfInBounds_toArray, List.set_cons_zero, List.set_cons_succ]
        refine wpAnyH_take (i := 27) (oi := ?oo85) (v := undef) ?ii85 (by kernel_rfl) ?ff85 (by kernel_rfl) ?qq85 (Or.inr ⟨?ww85, rfl⟩) hd0 ?rr85
        case ii85 => simp only [List.getElem?_toArray, List.getElem?_cons_succ, List.getElem?_cons_zero]; rfl
        case ff85 => kernel_rfl
        case qq85 => exact fun _ _ _ h => h
        case ww85 => rfl
        try simp only [Act.put, List.setIfInBounds_toArray, List.set_cons_zero, List.set_cons_succ]
        refine wpAnyH_take (i := 28) (oi := ?oo86) (v := undef) ?ii86 (by kernel_rfl) ?ff86 (by kernel_rfl) ?qq86 (Or.inr ⟨?ww86, rfl⟩) hd0 ?rr86
        case ii86 => simp only [List.getElem?_toArray, List.getElem?_cons_succ, List.getElem?_cons_zero]; rfl
        case ff86 => kernel_rfl
        case qq86 => exact fun _ _ _ h => h
        case ww86 => rfl
        try simp only [Act.put, List.setIfInBounds_toArray, List.set_cons_zero, List.set_cons_succ]
        refine wpAnyH_take (i := 29) (oi := ?oo87) (v := undef) ?ii87 (by kernel_rfl) ?ff87 (by kernel_rfl) ?qq87 (Or.inr ⟨?ww87, rfl⟩) hd0 ?rr87
        case ii87 => simp only [List.getElem?_toArray, List.getElem?_cons_succ, List.getElem?_cons_zero]; rfl
        case ff87 => kernel_rfl
        case qq87 => exact fun _ _ _ h => h
        case ww87 => rfl
        try simp only [Act.put, List.setIfInBounds_toArray, List.set_cons_zero, List.set_cons_succ]
        refine wpAnyH_take (i := 30) (oi := ?oo88) (v := undef) ?ii88 (by kernel_rfl) ?ff88 (by kernel_rfl) ?qq88 (Or.inr ⟨?ww88, rfl⟩) hd0 ?rr88
        case ii88 => simp only [List.getElem?_toArray, List.getElem?_cons_succ, List.getElem?_cons_zero]; rfl
        case ff88 => kernel_rfl
        case qq88 => exact fun _ _ _ h => h
        case ww88 => rfl
        try simp only [Act.put, List.setIfInBounds_toArray, List.set_cons_zero, List.set_cons_succ]
        refine wpAnyH_take (i := 31) (oi := ?oo89) (v := undef) ?ii89 (by kernel_rfl) ?ff89 (by kernel_rfl) ?qq89 (Or.inr ⟨?ww89, rfl⟩) hd0 ?rr89
        case ii89 => simp only [List.getElem?_toArray, List.getElem?_cons_succ, List.getElem?_cons_zero]; rfl
        case ff89 => kernel_rfl
        case qq89 => exact fun _ _ _ h => h
        case ww89 => rfl
        try simp only [Act.put, List.setIfInBounds_toArray, List.set_cons_zero, List.set_cons_succ]
        refine wpAnyH_take (i := 32) (oi := ?oo90) (v := undef) ?ii90 (by kernel_rfl) ?ff90 (by kernel_rfl) ?qq90 (Or.inr ⟨?ww90, rfl⟩) hd0 ?rr90
        case ii90 => simp only [List.getElem?_toArray, List.getElem?_cons_succ, List.getElem?_cons_zero]; rfl
        case ff90 => kernel_rfl
        case qq90 => exact fun _ _ _ h => h
        case ww90 => rfl
        try simp only [Act.put, List.setIfInBounds_toArray, List.set_cons_zero, List.set_cons_succ]
        refine wpAnyH_take (i := 33) (oi := ?oo91) (v := undef) ?ii91 (by kernel_rfl) ?ff91 (by kernel_rfl) ?qq91 (Or.inr ⟨?ww91, rfl⟩) hd0 ?rr91
        case ii91 => simp only [List.getElem?_toArray, List.getElem?_cons_succ, List.getElem?_cons_zero]; rfl
        case ff91 => kernel_rfl
        case qq91 => exact fun _ _ _ h => h
        case ww91 => rfl
        try simp only [Act.put, List.setIfInBounds_toArray, List.set_cons_zero, List.set_cons_succ]
        refine wpAnyH_take (i := 34) (oi := ?oo92) (v := undef) ?ii92 (by kernel_rfl) ?ff92 (by kernel_rfl) ?qq92 (Or.inr ⟨?ww92, rfl⟩) hd0 ?rr92
        case ii92 => simp only [List.getElem?_toArray, List.getElem?_cons_succ, List.getElem?_cons_zero]; rfl
        case ff92 => kernel_rfl
        case qq92 => exact fun _ _ _ h => h
        case ww92 => rfl
        try simp only [Act.put, List.setIfInBounds_toArray, List.set_cons_zero, List.set_cons_succ]
        refine wpAnyH_take (i := 35) (oi := ?oo93) (v := ?vv93) ?ii93 (by kernel_rfl) ?ff93 (by kernel_rfl) ?qq93 (Or.inl ⟨?ww93, ?yy93⟩) hd0 ?rr93
        case ii93 => simp only [List.getElem?_toArray, List.getElem?_cons_succ, List.getElem?_cons_zero]; rfl
        case ff93 => kernel_rfl
        case qq93 => exact fun _ _ _ h => h
        case ww93 => rfl
        case yy93 => intro W hW; go_simp <;> with_reducible rfl
        try simp only [Act.put, List.setIfInBounds_toArray, List.set_cons_zero, List.set_cons_succ]
        refine wpAnyH_take (i := 36) (oi := ?oo94) (v := ?vv94) ?ii94 (by kernel_rfl) ?ff94 (by kernel_rfl) ?qq94 (Or.inl ⟨?ww94, ?yy94⟩) hd0 ?rr94
        case ii94 => simp only [List.getElem?_toArray, List.getElem?_cons_succ, List.getElem?_cons_zero]; rfl
        case ff94 => kernel_rfl
        case qq94 => exact fun _ _ _ h => h
        case ww94 => rfl
        case yy94 => intro W hW; go_simp <;> with_reducible rfl
        try simp only [Act.put, List.setIfInBounds_toArray, List.set_cons_zero, List.set_cons_succ]
        refine wpAnyH_done (by kernel_rfl) ?_ _
        have HR3 := Lib.hid (HR2.out _ (Below.refl _ _).drew)
        clear hd0 HR2
        go_wp2_with fail
        go_roundw
        case rel => exact HR3.out
        case measure => simp [intOf]; omega
      have q2 : (y0 == z0) = true := by rw [beq_iff_eq]; exact h2
      have H2 := Lib.hid h2
      clear h2
      by_cases h3 : y1 < z1
      case pos =>
        have q3 : decide (y1 < z1) = true := decide_eq_true h3
        have HR2 : Hid (∀ W, Below wr.heap.size wr W → BestR w4 want (.int .i64 (j : Nat)) (.int .i64 ((j : Int) + 1)) W) := Lib.hid fun W hW => ⟨j + 1, by omega, by rw [HSu.out, if_pos (by unfold QueP.less; simp only; have := H2.out; omega)], by go_num, HbJ.out.trans (hW.mono HbJ.out.size)⟩
        clear HSu HbJ
        go_wp2_with fail
        refine wp_region_held_drew (S := fun W => WantIn w1.heap.size (.slice (some ⟨g, woff, none⟩) want.length wcap) want W) (by kernel_rfl) hd0 (fun _ => ?_)
        refine wpAnyH_take (i := 0) (oi := ?oo95) (v := ?vv95) ?ii95 (by kernel_rfl) ?ff95 (by kernel_rfl) ?qq95 (Or.inl ⟨?ww95, ?yy95⟩) hd0 ?rr95
        case ii95 => simp only [List.getElem?_toArray, List.getElem?_cons_zero]; rfl
        case ff95 => kernel_rfl
        case qq95 => exact fun _ _ _ h => h
        case ww95 => rfl
        case yy95 => intro W hW; go_simp <;> with_reducible rfl
        try simp only [Act.put, List.setIfInBounds_toArray, List.set_cons_zero, List.set_cons_succ]
        refine wpAnyH_take (i := 1) (oi := ?oo96) (v := ?vv96) ?ii96 (by kernel_rfl) ?ff96 (by kernel_rfl) ?qq96 (Or.inl ⟨?ww96, ?yy96⟩) hd0 ?rr96
        case ii96 => simp only [List.getElem?_toArray, List.getElem?_cons_succ, List.getElem?_cons_zero]; rfl
        case ff96 => kernel_rfl
        case qq96 => exact fun _ _ _ h => h
        case ww96 => rfl
        case yy96 => intro W hW; go_simp <;> with_reducible rfl
        try simp only [Act.put, List.setIfInBounds_toArray, List.set_cons_zero, List.set_cons_succ]
        refine wpAnyH_take (i := 2) (oi := ?oo97) (v := ?vv97) ?ii97 (by kernel_rfl) ?ff97 (by kernel_rfl) ?qq97 (Or.inl ⟨?ww97, ?yy97⟩) hd0 ?rr97
        case ii97 => simp only [List.getElem?_toArray, List.getElem?_cons_succ, List.getElem?_cons_zero]; rfl
        case ff97 => kernel_rfl
        case qq97 => exact fun _ _ _ h => h
        case ww97 => rfl
        case yy97 => intro W hW; go_simp <;> with_reducible rfl
        try simp only [Act.put, List.setIfInBounds_toArray, List.set_cons_zero, List.set_cons_succ]
        refine wpAnyH_take (i := 3) (oi := ?oo98) (v := ?vv98) ?ii98 (by kernel_rfl) ?ff98 (by kernel_rfl) ?qq98 (Or.inl ⟨?ww98, ?yy98⟩) hd0 ?rr98
        case ii98 => simp only [List.getElem?_toArray, List.getElem?_cons_succ, List.getElem?_cons_zero]; rfl
        case ff98 => kernel_rfl
        case qq98 => exact fun _ _ _ h => h
        case ww98 => rfl
        case yy98 => intro W hW; go_simp <;> with_reducible rfl
        try simp only [Act.put, List.setIfInBounds_toArray, List.set_cons_zero, List.set_cons_succ]
        refine wpAnyH_take (i := 4) (oi := ?oo99) (v := ?vv99) ?ii99 (by kernel_rfl) ?ff99 (by kernel_rfl) ?qq99 (Or.inl ⟨?ww99, ?yy99⟩) hd0 ?rr99
        case ii99 => simp only [List.getElem?_toArray, List.getElem?_cons_succ, List.getElem?_cons_zero]; rfl
        case ff99 => kernel_rfl
        case qq99 => exact fun _ _ _ h => h
        case ww99 => rfl
        case yy99 => intro W hW; go_simp <;> with_reducible rfl
        try simp only [Act.put, List.setIfInBounds_toArray, List.set_cons_zero, List.set_cons_succ]
        refine wpAnyH_take (i := 5) (oi := ?oo100) (v := ?vv100) ?ii100 (by kernel_rfl) ?ff100 (by kernel_rfl) ?qq100 (Or.inl ⟨?ww100, ?yy100⟩) hd0 ?rr100
        case ii100 => simp only [List.getElem?_toArray, List.getElem?_cons_succ, List.getElem?_cons_zero]; rfl
        case ff100 => kernel_rfl
        case qq100 => exact fun _ _ _ h => h
        case ww100 => rfl
        case yy100 => intro W hW; go_simp <;> with_reducible rfl
        try simp only [Act.put, List.setIfInBounds_toArray, List.set_cons_zero, List.set_cons_succ]
        refine wpAnyH_take (i := 6) (oi := ?oo101) (v := ?vv101) ?ii101 (by kernel_rfl) ?ff101 (by kernel_rfl) ?qq101 (Or.inl ⟨?ww101, ?yy101⟩) hd0 ?rr101
        case ii101 => simp only [List.getElem?_toArray, List.getElem?_cons_succ, List.getElem?_cons_zero]; rfl
        case ff101 => kernel_rfl
        case qq101 => exact fun _ _ _ h => h
        case ww101 => rfl
        case yy101 => intro W hW; go_simp <;> with_reducible rfl
        try simp only [Act.put, List.setIfInBounds_toArray, List.set_cons_zero, List.set_cons_succ]
        refine wpAnyH_take (i := 7) (oi := ?oo102) (v := ?vv102) ?ii102 (by kernel_rfl) ?ff102 (by kernel_rfl) ?qq102 (Or.inl ⟨?ww102, ?yy102⟩) hd0 ?rr102
        case ii102 => simp only [List.getElem?_toArray, List.getElem?_cons_succ, List.getElem?_cons_zero]; rfl
        case ff102 => kernel_rfl
        case qq102 => exact fun _ _ _ h => h
        case ww102 => rfl
        case yy102 => intro W hW; go_simp <;> with_reducible rfl
        try simp only [Act.put, List.setIfInBounds_toArray, List.set_cons_zero, List.set_cons_succ]
        refine wpAnyH_take (i := 8) (oi := ?oo103) (v := ?vv103) ?ii103 (by kernel_rfl) ?ff103 (by kernel_rfl) ?qq103 (Or.inl ⟨?ww103, ?yy103⟩) hd0 ?rr103
        case ii103 => simp only [List.getElem?_toArray, List.getElem?_cons_succ, List.getElem?_cons_zero]; rfl
        case ff103 => kernel_rfl
        case qq103 => exact fun _ _ _ h => h
        case ww103 => rfl
        case yy103 => intro W hW; go_simp <;> with_reducible rfl
        try simp only [Act.put, List.setIfInBounds_toArray, List.set_cons_zero, List.set_cons_succ]
        refine wpAnyH_take (i := 9) (oi := ?oo104) (v := ?vv104) ?ii104 (by kernel_rfl) ?ff104 (by kernel_rfl) ?qq104 (Or.inl ⟨?ww104, ?yy104⟩) hd0 ?rr104
        case ii104 => simp only [List.getElem?_toArray, List.getElem?_cons_succ, List.getElem?_cons_zero]; rfl
        case ff104 => kernel_rfl
        case qq104 => exact fun _ _ _ h => h
        case ww104 => rfl
        case yy104 => intro W hW; go_simp <;> with_reducible rfl
        try simp only [Act.put, List.setIfInBounds_toArray, List.set_cons_zero, List.set_cons_succ]
        refine wpAnyH_take (i := 10) (oi := ?oo105) (v := ?vv105) ?ii105 (by kernel_rfl) ?ff105 (by kernel_rfl) ?qq105 (Or.inl ⟨?ww105, ?yy105⟩) hd0 ?rr105
        case ii105 => simp only [List.getElem?_toArray, List.getElem?_cons_succ, List.getElem?_cons_zero]; rfl
        case ff105 => kernel_rfl
        case qq105 => exact fun _ _ _ h => h
        case ww105 => rfl
        case yy105 => intro W hW; go_simp <;> with_reducible rfl
        try simp only [Act.put, List.setIfInBounds_toArray, List.set_cons_zero, List.set_cons_succ]
        refine wpAnyH_take (i := 11) (oi := ?oo106) (v := ?vv106) ?ii106 (by kernel_rfl) ?ff106 (by kernel_rfl) ?qq106 (Or.inl ⟨?ww106, ?yy106⟩) hd0 ?rr106
        case ii106 => simp only [List.getElem?_toArray, List.getElem?_cons_succ, List.getElem?_cons_zero]; rfl
        case ff106 => kernel_rfl
        case qq106 => exact fun _ _ _ h => h
        case ww106 => rfl
        case yy106 => intro W hW; go_simp <;> with_reducible rfl
        try simp only [Act.put, List.setIfInBounds_toArray, List.set_cons_zero, List.set_cons_succ]
        refine wpAnyH_take (i := 12) (oi := ?oo107) (v := ?vv107) ?ii107 (by kernel_rfl) ?ff107 (by kernel_rfl) ?qq107 (Or.inl ⟨?ww107, ?yy107⟩) hd0 ?rr107
        case ii107 => simp only [List.getElem?_toArray, List.getElem?_cons_succ, List.getElem?_cons_zero]; rfl
        case ff107 => kernel_rfl
        case qq107 => exact fun _ _ _ h => h
        case ww107 => rfl
        case yy107 => intro W hW; go_simp <;> with_reducible rfl
        try simp only [Act.put, List.setIfInBounds_toArray, List.set_cons_zero, List.set_cons_succ]
        refine wpAnyH_take (i := 13) (oi := ?oo108) (v := ?vv108) ?ii108 (by kernel_rfl) ?ff108 (by kernel_rfl) ?qq108 (Or.inl ⟨?ww108, ?yy108⟩) hd0 ?rr108
        case ii108 => simp only [List.getElem?_toArray, List.getElem?_cons_succ, List.getElem?_cons_zero]; rfl
        case ff108 => kernel_rfl
        case qq108 => exact fun _ _ _ h => h
        case ww108 => rfl
        case yy108 => intro W hW; go_simp <;> with_reducible rfl
        try simp only [Act.put, List.setIfInBounds_toArray, List.set_cons_zero, List.set_cons_succ]
        refine wpAnyH_take (i := 14) (oi := ?oo109) (v := ?vv109) ?ii109 (by kernel_rfl) ?ff109 (by kernel_rfl) ?qq109 (Or.inl ⟨?ww109, ?yy109⟩) hd0 ?rr109
        case ii109 => simp only [List.getElem?_toArray, List.getElem?_cons_succ, List.getElem?_cons_zero]; rfl
        case ff109 => kernel_rfl
        case qq109 => exact fun _ _ _ h => h
        case ww109 => rfl
        case yy109 => intro W hW; go_simp <;> with_reducible rfl
        try simp only [Act.put, List.setIfInBounds_toArray, List.set_cons_zero, List.set_cons_succ]
        refine wpAnyH_take (i := 15) (oi := ?oo110) (v := ?vv110) ?ii110 (by kernel_rfl) ?ff110 (by kernel_rfl) ?qq110 (Or.inl ⟨?ww110, ?yy110⟩) hd0 ?rr110
        case ii110 => simp only [List.getElem?_toArray, List.getElem?_cons_succ, List.getElem?_cons_zero]; rfl
        case ff110 => kernel_rfl
        case qq110 => exact fun _ _ _ h => h
        case ww110 => rfl
        case yy110 => intro W hW; go_simp <;> with_reducible rfl
        try simp only [Act.put, List.setIfInBounds_toArray, List.set_cons_zero, List.set_cons_succ]
        refine wpAnyH_take (i := 16) (oi := ?oo111) (v := ?vv111) ?ii111 (by kernel_rfl) ?ff111 (by kernel_rfl) ?qq111 (Or.inl ⟨?ww111, ?yy111⟩) hd0 ?rr111
        case ii111 => simp only [List.getElem?_toArray, List.getElem?_cons_succ, List.getElem?_cons_zero]; rfl
        case ff111 => kernel_rfl
        case qq111 => exact fun _ _ _ h => h
        case ww111 => rfl
        case yy111 => intro W hW; go_simp <;> with_reducible rfl
        try simp only [Act.put, List.setIfInBounds_toArray, List.set_cons_zero, List.set_cons_succ]
        refine wpAnyH_take (i := 17) (oi := ?oo112) (v := ?vv112) ?ii112 (by kernel_rfl) ?ff112 (by kernel_rfl) ?qq112 (Or.inl ⟨?ww112, ?yy112⟩) hd0 ?rr112
        case ii112 => simp only [List.getElem?_toArray, List.getElem?_cons_succ, List.getElem?_cons_zero]; rfl
        case ff112 => kernel_rfl
        case qq112 => exact fun _ _ _ h => h
        case ww112 => rfl
        case yy112 => intro W hW; go_simp <;> with_reducible rfl
        try simp only [Act.put, List.setIfInBounds_toArray, List.set_cons_zero, List.set_cons_succ]
        refine wpAnyH_take (i := 18) (oi := ?oo113) (v := ?vv113) ?ii113 (by kernel_rfl) ?ff113 (by kernel_rfl) ?qq113 (Or.inl ⟨?ww113, ?yy113⟩) hd0 ?rr113
        case ii113 => simp only [List.getElem?_toArray, List.getElem?_cons_succ, List.getElem?_cons_zero]; rfl
        case ff113 => kernel_rfl
        case qq113 => exact fun _ _ _ h => h
        case ww113 => rfl
        case yy113 => intro W hW; go_simp <;> with_reducible rfl
        try simp only [Act.put, List.setIfInBounds_toArray, List.set_cons_zero, List.set_cons_succ]
        refine wpAnyH_take (i := 19) (oi := ?oo114) (v := ?vv114) ?ii114 (by kernel_rfl) ?ff114 (by kernel_rfl) ?qq114 (Or.inl ⟨?ww114, ?yy114⟩) hd0 ?rr114
        case ii114 => simp only [List.getElem?_toArray, List.getElem?_cons_succ, List.getElem?_cons_zero]; rfl
        case ff114 => kernel_rfl
        case qq114 => exact fun _ _ _ h => h
        case ww114 => rfl
        case yy114 => intro W hW; go_simp <;> with_reducible rfl
        try simp only [Act.put, List.setIfInBounds_toArray, List.set_cons_zero, List.set_cons_succ]
        refine wpAnyH_take (i := 20) (oi := ?oo115) (v := ?vv115) ?ii115 (by kernel_rfl) ?ff115 (by kernel_rfl) ?qq115 (Or.inl ⟨?ww115, ?yy115⟩) hd0 ?rr115
        case ii115 => simp only [List.getElem?_toArray, List.getElem?_cons_succ, List.getElem?_cons_zero]; rfl
        case ff115 => kernel_rfl
        case qq115 => exact fun _ _ _ h => h
        case ww115 => rfl
        case yy115 => intro W hW; go_simp <;> with_reducible rfl
        try simp only [Act.put, List.setIfInBounds_toArray, List.set_cons_zero, List.set_cons_succ]
        refine wpAnyH_take (i := 21) (oi := ?oo116) (v := ?vv116) ?ii116 (by kernel_rfl) ?ff116 (by kernel_rfl) ?qq116 (Or.inl ⟨?ww116, ?yy116⟩) hd0 ?rr116
        case ii116 => simp only [List.getElem?_toArray, List.getElem?_cons_succ, List.getElem?_cons_zero]; rfl
        case ff116 => kernel_rfl
        case qq116 => exact fun _ _ _ h => h
        case ww116 => rfl
        case yy116 => intro W hW; go_simp <;> with_reducible rfl
        try simp only [Act.put, List.setIfInBounds_toArray, List.set_cons_zero, List.set_cons_succ]
        refine wpAnyH_take (i := 22) (oi := ?oo117) (v := ?vv117) ?ii117 (by kernel_rfl) ?ff117 (by kernel_rfl) ?qq117 (Or.inl ⟨?ww117, ?yy117⟩) hd0 ?rr117
        case ii117 => simp only [List.getElem?_toArray, List.getElem?_cons_succ, List.getElem?_cons_zero]; rfl
        case ff117 => kernel_rfl
        case qq117 => exact fun _ _ _ h => h
        case ww117 => rfl
        case yy117 => intro W hW; go_simp <;> with_reducible rfl
        try simp only [Act.put, List.setIfInBounds_toArray, List.set_cons_zero, List.set_cons_succ]
        refine wpAnyH_take (i := 23) (oi := ?oo118) (v := ?vv118) ?ii118 (by kernel_rfl) ?ff118 (by kernel_rfl) ?qq118 (Or.inl ⟨?ww118, ?yy118⟩) hd0 ?rr118
        case ii118 => simp only [List.getElem?_toArray, List.getElem?_cons_succ, List.getElem?_cons_zero]; rfl
        case ff118 => kernel_rfl
        case qq118 => exact fun _ _ _ h => h
        case ww118 => rfl
        case yy118 => intro W hW; go_simp <;> with_reducible rfl
        try simp only [Act.put, List.setIfInBounds_toArray, List.set_cons_zero, List.set_cons_succ]
        refine wpAnyH_take (i := 24) (oi := ?oo119) (v := ?vv119) ?ii119 (by kernel_rfl) ?ff119 (by kernel_rfl) ?qq119 (Or.inl ⟨?ww119, ?yy119⟩) hd0 ?rr119
        case ii119 => simp only [List.getElem?_toArray, List.getElem?_cons_succ, List.getElem?_cons_zero]; rfl
        case ff119 => kernel_rfl
        case qq119 => exact fun _ _ _ h => h
        case ww119 => rfl
        case yy119 => intro W hW; go_simp <;> with_reducible rfl
        try simp only [Act.put, List.setIfInBounds_toArray, List.set_cons_zero, List.set_cons_succ]
        refine wpAnyH_take (i := 25) (oi := ?oo120) (v := ?vv120) ?ii120 (by kernel_rfl) ?ff120 (by kernel_rfl) ?qq120 (Or.inl ⟨?ww120, ?yy120⟩) hd0 ?rr120
        case ii120 => simp only [List.getElem?_toArray, List.getElem?_cons_succ, List.getElem?_cons_zero]; rfl
        case ff120 => kernel_rfl
        case qq120 => exact fun _ _ _ h => h
        case ww120 => rfl
        case yy120 => intro W hW; go_simp <;> with_reducible rfl
        try simp only [Act.put, List.setIfInBounds_toArray, List.set_cons_zero, List.set_cons_succ]
        refine wpAnyH_take (i := 26) (oi := ?oo121) (v := ?vv121) ?ii121 (by kernel_rfl) ?ff121 (by kernel_rfl) ?qq121 (Or.inl ⟨?ww121, ?yy121⟩) hd0 ?rr121
        case ii121 => simp only [List.getElem?_toArray, List.getElem?_cons_succ, List.getElem?_cons_zero]; rfl
        case ff121 => kernel_rfl
        case qq121 => exact fun _ _ _ h => h
        case ww121 => rfl
        case yy121 => intro W hW; go_simp <;> with_reducible rfl
        try simp only [Act.put, List.setIfInBounds_toArray, List.set_cons_zero, List.set_cons_succ]
        refine wpAnyH_take (i := 27) (oi := ?oo122) (v := ?vv122) ?ii122 (by kernel_rfl) ?ff122 (by kernel_rfl) ?qq122 (Or.inl ⟨?ww122, ?yy122⟩) hd0 ?rr122
        case ii122 => simp only [List.getElem?_toArray, List.getElem?_cons_succ, List.getElem?_cons_zero]; rfl
        case ff122 => kernel_rfl
        case qq122 => exact fun _ _ _ h => h
        case ww122 => rfl
        case yy122 => intro W hW; go_simp <;> with_reducible rfl
        try simp only [Act.put, List.setIfInBounds_toArray, List.set_cons_zero, List.set_cons_succ]
        refine wpAnyH_take (i := 28) (oi := ?oo123) (v := ?vv123) ?ii123 (by kernel_rfl) ?ff123 (by kernel_rfl) ?qq123 (Or.inl ⟨?ww123, ?yy123⟩) hd0 ?rr123
        case ii123 => simp only [List.getElem?_toArray, List.getElem?_cons_succ, List.getElem?_cons_zero]; rfl
        case ff123 => kernel_rfl
        case qq123 => exact fun _ _ _ h => h
        case ww123 => rfl
        case yy123 => intro W hW; go_simp <;> with_reducible rfl
        try simp only [Act.put, List.setIfInBounds_toArray, List.set_cons_zero, List.set_cons_succ]
        refine wpAnyH_take (i := 29) (oi := ?oo124) (v := ?vv124) ?ii124 (by kernel_rfl) ?ff124 (by kernel_rfl) ?qq124 (Or.inl ⟨?ww124, ?yy124⟩) hd0 ?rr124
        case ii124 => simp only [List.getElem?_toArray, List.getElem?_cons_succ, List.getElem?_cons_zero]; rfl
        case ff124 => kernel_rfl
        case qq124 => exact fun _ _ _ h => h
        case ww124 => rfl
        case yy124 => intro W hW; go_simp <;> with_reducible rfl
        try simp only [Act.put, List.setIfInBounds_toArray, List.set_cons_zero, List.set_cons_succ]
        refine wpAnyH_take (i := 30) (oi := ?oo125) (v := ?vv125) ?ii125 (by kernel_rfl) ?ff125 (by kernel_rfl) ?qq125 (Or.inl ⟨?ww125, ?yy125⟩) hd0 ?rr125
        case ii125 => simp only [List.getElem?_toArray, List.getElem?_cons_succ, List.getElem?_cons_zero]; rfl
        case ff125 => kernel_rfl
        case qq125 => exact fun _ _ _ h => h
        case ww125 => rfl
        case yy125 => intro W hW; go_simp <;> with_reducible rfl
        try simp only [Act.put, List.setIfInBounds_toArray, List.set_cons_zero, List.set_cons_succ]
        refine wpAnyH_take (i := 31) (oi := ?oo126) (v := ?vv126) ?ii126 (by kernel_rfl) ?ff126 (by kernel_rfl) ?qq126 (Or.inl ⟨?ww126, ?yy126⟩) hd0 ?rr126
        case ii126 => simp only [List.getElem?_toArray, List.getElem?_cons_succ, List.getElem?_cons_zero]; rfl
        case ff126 => kernel_rfl
        case qq126 => exact fun _ _ _ h => h
        case ww126 => rfl
        case yy126 => intro W hW; go_simp <;> with_reducible rfl
        try simp only [Act.put, List.setIfInBounds_toArray, List.set_cons_zero, List.set_cons_succ]
        refine wpAnyH_take (i := 32) (oi := ?oo127) (v := ?vv127) ?ii127 (by kernel_rfl) ?ff127 (by kernel_rfl) ?qq127 (Or.inl ⟨?ww127, ?yy127⟩) hd0 ?rr127
        case ii127 => simp only [List.getElem?_toArray, List.getElem?_cons_succ, List.getElem?_cons_zero]; rfl
        case ff127 => kernel_rfl
        case qq127 => exact fun _ _ _ h => h
        case ww127 => rfl
        case yy127 => intro W hW; go_simp <;> with_reducible rfl
        try simp only [Act.put, List.setIfInBounds_toArray, List.set_cons_zero, List.set_cons_succ]
        refine wpAnyH_take (i := 33) (oi := ?oo128) (v := ?vv128) ?ii128 (by kernel_rfl) ?ff128 (by kernel_rfl) ?qq128 (Or.inl ⟨?ww128, ?yy128⟩) hd0 ?rr128
        case ii128 => simp only [List.getElem?_toArray, List.getElem?_cons_succ, List.getElem?_cons_zero]; rfl
        case ff128 => kernel_rfl
        case qq128 => exact fun _ _ _ h => h
        case ww128 => rfl
        case yy128 => intro W hW; go_simp <;> with_reducible rfl
        try simp only [Act.put, List.setIfInBounds_toArray, List.set_cons_zero, List.set_cons_succ]
        refine wpAnyH_take (i := 34) (oi := ?oo129) (v := ?vv129) ?ii129 (by kernel_rfl) ?ff129 (by kernel_rfl) ?qq129 (Or.inl ⟨?ww129, ?yy129⟩) hd0 ?rr129
        case ii129 => simp only [List.getElem?_toArray, List.getElem?_cons_succ, List.getElem?_cons_zero]; rfl
        case ff129 => kernel_rfl
        case qq129 => exact fun _ _ _ h => h
        case ww129 => rfl
        case yy129 => intro W hW; go_simp <;> with_reducible rfl
        try simp only [Act.put, List.setIfInBounds_toArray, List.set_cons_zero, List.set_cons_succ]
        refine wpAnyH_take (i := 35) (oi := ?oo130) (v := ?vv130) ?ii130 (by kernel_rfl) ?ff130 (by kernel_rfl) ?qq130 (Or.inl ⟨?ww130, ?yy130⟩) hd0 ?rr130
        case ii130 => simp only [List.getElem?_toArray, List.getElem?_cons_succ, List.getElem?_cons_zero]; rfl
        case ff130 => kernel_rfl
        case qq130 => exact fun _ _ _ h => h
        case ww130 => rfl
        case yy130 => intro W hW; go_simp <;> with_reducible rfl
        try simp only [Act.put, List.setIfInBounds_toArray, List.set_cons_zero, List.set_cons_succ]
        refine wpAnyH_take (i := 36) (oi := ?oo131) (v := ?vv131) ?ii131 (by kernel_rfl) ?ff131 (by kernel_rfl) ?qq131 (Or.inl ⟨?ww131, ?yy131⟩) hd0 ?rr131
        case ii131 => simp only [List.getElem?_toArray, List.getElem?_cons_succ, List.getElem?_cons_zero]; rfl
        case ff131 => kernel_rfl
        case qq131 => exact fun _ _ _ h => h
        case ww131 => rfl
        case yy131 => intro W hW; go_simp <;> with_reducible rfl
        try simp only [Act.put, List.setIfInBounds_toArray, List.set_cons_zero, List.set_cons_succ]
        refine wpAnyH_done (by kernel_rfl) ?_ _
        have HR3 := Lib.hid (HR2.out _ (Below.refl _ _).drew)
        clear hd0 HR2
        go_wp2_with fail
        go_roundw
        case rel => exact HR3.out
        case measure => simp [intOf]; omega
      have q3 : decide (y1 < z1) = false := decide_eq_false h3
      have HR2 : Hid (∀ W, Below wr.heap.size wr W → BestR w4 want (.int .i64 (bj : Nat)) (.int .i64 ((j : Int) + 1)) W) := Lib.hid fun W hW => ⟨j + 1, by omega, by rw [HSu.out, if_neg (by unfold QueP.less; simp only; have := H2.out; omega)], by go_num, HbJ.out.trans (hW.mono HbJ.out.size)⟩
      clear HSu HbJ
      go_wp2_with fail
      refine wp_region_held_drew (S := fun W => WantIn w1.heap.size (.slice (some ⟨g, woff, none⟩) want.length wcap) want W) (by kernel_rfl) hd0 (fun _ => ?_)
      refine wpAnyH_take (i := 0) (oi := ?oo132) (v := ?vv132) ?ii132 (by kernel_rfl) ?ff132 (by kernel_rfl) ?qq132 (Or.inl ⟨?ww132, ?yy132⟩) hd0 ?rr132
      case ii132 => simp only [List.getElem?_toArray, List.getElem?_cons_zero]; rfl
      case ff132 => kernel_rfl
      case qq132 => exact fun _ _ _ h => h
      case ww132 => rfl
      case yy132 => intro W hW; go_simp <;> with_reducible rfl
      try simp only [Act.put, List.setIfInBounds_toArray, List.set_cons_zero, List.set_cons_succ]
      refine wpAnyH_take (i := 1) (oi := ?oo133) (v := ?vv133) ?ii133 (by kernel_rfl) ?ff133 (by kernel_rfl) ?qq133 (Or.inl ⟨?ww133, ?yy133⟩) hd0 ?rr133
      case ii133 => simp only [List.getElem?_toArray, List.getElem?_cons_succ, List.getElem?_cons_zero]; rfl
      case ff133 => kernel_rfl
      case qq133 => exact fun _ _ _ h => h
      case ww133 => rfl
      case yy133 => intro W hW; go_simp <;> with_reducible rfl
      try simp only [Act.put, List.setIfInBounds_toArray, List.set_cons_zero, List.set_cons_succ]
      refine wpAnyH_take (i := 2) (oi := ?oo134) (v := ?vv134) ?ii134 (by kernel_rfl) ?ff134 (by kernel_rfl) ?qq134 (Or.inl ⟨?ww134, ?yy134⟩) hd0 ?rr134
      case ii134 => simp only [List.getElem?_toArray, List.getElem?_cons_succ, List.getElem?_cons_zero]; rfl
      case ff134 => kernel_rfl
      case qq134 => exact fun _ _ _ h => h
      case ww134 => rfl
      case yy134 => intro W hW; go_simp <;> with_reducible rfl
      try simp only [Act.put, List.setIfInBounds_toArray, List.set_cons_zero, List.set_cons_succ]
      refine wpAnyH_take (i := 3) (oi := ?oo135) (v := ?vv135) ?ii135 (by kernel_rfl) ?ff135 (by kernel_rfl) ?qq135 (Or.inl ⟨?ww135, ?yy135⟩) hd0 ?rr135
      case ii135 => simp only [List.getElem?_toArray, List.getElem?_cons_succ, List.getElem?_cons_zero]; rfl
      case ff135 => kernel_rfl
      case qq135 => exact fun _ _ _ h => h
      case ww135 => rfl
      case yy135 => intro W hW; go_simp <;> with_reducible rfl
      try simp only [Act.put, List.setIfInBounds_toArray, List.set_cons_zero, List.set_cons_succ]
      refine wpAnyH_take (i := 4) (oi := ?oo136) (v := ?vv136) ?ii136 (by kernel_rfl) ?ff136 (by kernel_rfl) ?qq136 (Or.inl ⟨?ww136, ?yy136⟩) hd0 ?rr136
      case ii136 => simp only [List.getElem?_toArray, List.getElem?_cons_succ, List.getElem?_cons_zero]; rfl
      case ff136 => kernel_rfl
      case qq136 => exact fun _ _ _ h => h
      case ww136 => rfl
      case yy136 => intro W hW; go_simp <;> with_reducible rfl
      try simp only [Act.put, List.setIfInBounds_toArray, List.set_cons_zero, List.set_cons_succ]
      refine wpAnyH_take (i := 5) (oi := ?oo137) (v := ?vv137) ?ii137 (by kernel_rfl) ?ff137 (by kernel_rfl) ?qq137 (Or.inl ⟨?ww137, ?yy137⟩) hd0 ?rr137
      case ii137 => simp only [List.getElem?_toArray, List.getElem?_cons_succ, List.getElem?_cons_zero]; rfl
      case ff137 => kernel_rfl
      case qq137 => exact fun _ _ _ h => h
      case ww137 => rfl
      case yy137 => intro W hW; go_simp <;> with_reducible rfl
      try simp only [Act.put, List.setIfInBounds_toArray, List.set_cons_zero, List.set_cons_succ]
      refine wpAnyH_take (i := 6) (oi := ?oo138) (v := ?vv138) ?ii138 (by kernel_rfl) ?ff138 (by kernel_rfl) ?qq138 (Or.inl ⟨?ww138, ?yy138⟩) hd0 ?rr138
      case ii138 => simp only [List.getElem?_toArray, List.getElem?_cons_succ, List.getElem?_cons_zero]; rfl
      case ff138 => kernel_rfl
      case qq138 => exact fun _ _ _ h => h
      case ww138 => rfl
      case yy138 => intro W hW; go_simp <;> with_reducible rfl
      try simp only [Act.put, List.setIfInBounds_toArray, List.set_cons_zero, List.set_cons_succ]
      refine wpAnyH_take (i := 7) (oi := ?oo139) (v := ?vv139) ?ii139 (by kernel_rfl) ?ff139 (by kernel_rfl) ?qq139 (Or.inl ⟨?ww139, ?yy139⟩) hd0 ?rr139
      case ii139 => simp only [List.getElem?_toArray, List.getElem?_cons_succ, List.getElem?_cons_zero]; rfl
      case ff139 => kernel_rfl
      case qq139 => exact fun _ _ _ h => h
      case ww139 => rfl
      case yy139 => intro W hW; go_simp <;> with_reducible rfl
      try simp only [Act.put, List.setIfInBounds_toArray, List.set_cons_zero, List.set_cons_succ]
      refine wpAnyH_take (i := 8) (oi := ?oo140) (v := ?vv140) ?ii140 (by kernel_rfl) ?ff140 (by kernel_rfl) ?qq140 (Or.inl ⟨?ww140, ?yy140⟩) hd0 ?rr140
      case ii140 => simp only [List.getElem?_toArray, List.getElem?_cons_succ, List.getElem?_cons_zero]; rfl
      case ff140 => kernel_rfl
      case qq140 => exact fun _ _ _ h => h
      case ww140 => rfl
      case yy140 => intro W hW; go_simp <;> with_reducible rfl
      try simp only [Act.put, List.setIfInBounds_toArray, List.set_cons_zero, List.set_cons_succ]
      refine wpAnyH_take (i := 9) (oi := ?oo141) (v := ?vv141) ?ii141 (by kernel_rfl) ?ff141 (by kernel_rfl) ?qq141 (Or.inl ⟨?ww141, ?yy141⟩) hd0 ?rr141
      case ii141 => simp only [List.getElem?_toArray, List.getElem?_cons_succ, List.getElem?_cons_zero]; rfl
      case ff141 => kernel_rfl
      case qq141 => exact fun _ _ _ h => h
      case ww141 => rfl
      case yy141 => intro W hW; go_simp <;> with_reducible rfl
      try simp only [Act.put, List.setIfInBounds_toArray, List.set_cons_zero, List.set_cons_succ]
      refine wpAnyH_take (i := 10) (oi := ?oo142) (v := ?vv142) ?ii142 (by kernel_rfl) ?ff142 (by kernel_rfl) ?qq142 (Or.inl ⟨?ww142, ?yy142⟩) hd0 ?rr142
      case ii142 => simp only [List.getElem?_toArray, List.getElem?_cons_succ, List.getElem?_cons_zero]; rfl
      case ff142 => kernel_rfl
      case qq142 => exact fun _ _ _ h => h
      case ww142 => rfl
      case yy142 => intro W hW; go_simp <;> with_reducible rfl
      try simp only [Act.put, List.setIfInBounds_toArray, List.set_cons_zero, List.set_cons_succ]
      refine wpAnyH_take (i := 11) (oi := ?oo143) (v := ?vv143) ?ii143 (by kernel_rfl) ?ff143 (by kernel_rfl) ?qq143 (Or.inl ⟨?ww143, ?yy143⟩) hd0 ?rr143
      case ii143 => simp only [List.getElem?_toArray, List.getElem?_cons_succ, List.getElem?_cons_zero]; rfl
      case ff143 => kernel_rfl
      case qq143 => exact fun _ _ _ h => h
      case ww143 => rfl
      case yy143 => intro W hW; go_simp <;> with_reducible rfl
      try simp only [Act.put, List.setIfInBounds_toArray, List.set_cons_zero, List.set_cons_succ]
      refine wpAnyH_take (i := 12) (oi := ?oo144) (v := ?vv144) ?ii144 (by kernel_rfl) ?ff144 (by kernel_rfl) ?qq144 (Or.inl ⟨?ww144, ?yy144⟩) hd0 ?rr144
      case ii144 => simp only [List.getElem?_toArray, List.getElem?_cons_succ, List.getElem?_cons_zero]; rfl
      case ff144 => kernel_rfl
      case qq144 => exact fun _ _ _ h => h
      case ww144 => rfl
      case yy144 => intro W hW; go_simp <;> with_reducible rfl
      try simp only [Act.put, List.setIfInBounds_toArray, List.set_cons_zero, List.set_cons_succ]
      refine wpAnyH_take (i := 13) (oi := ?oo145) (v := ?vv145) ?ii145 (by kernel_rfl) ?ff145 (by kernel_rfl) ?qq145 (Or.inl ⟨?ww145, ?yy145⟩) hd0 ?rr145
      case ii145 => simp only [List.getElem?_toArray, List.getElem?_cons_succ, List.getElem?_cons_zero]; rfl
      case ff145 => kernel_rfl
      case qq145 => exact fun _ _ _ h => h
      case ww145 => rfl
      case yy145 => intro W hW; go_simp <;> with_reducible rfl
      try simp only [Act.put, List.setIfInBounds_toArray, List.set_cons_zero, List.set_cons_succ]
      refine wpAnyH_take (i := 14) (oi := ?oo146) (v := ?vv146) ?ii146 (by kernel_rfl) ?ff146 (by kernel_rfl) ?qq146 (Or.inl ⟨?ww146, ?yy146⟩) hd0 ?rr146
      case ii146 => simp only [List.getElem?_toArray, List.getElem?_cons_succ, List.getElem?_cons_zero]; rfl
      case ff146 => kernel_rfl
      case qq146 => exact fun _ _ _ h => h
      case ww146 => rfl
      case yy146 => intro W hW; go_simp <;> with_reducible rfl
      try simp only [Act.put, List.setIfInBounds_toArray, List.set_cons_zero, List.set_cons_succ]
      refine wpAnyH_take (i := 15) (oi := ?oo147) (v := ?vv147) ?ii147 (by kernel_rfl) ?ff147 (by kernel_rfl) ?qq147 (Or.inl ⟨?ww147, ?yy147⟩) hd0 ?rr147
      case ii147 => simp only [List.getElem?_toArray, List.getElem?_cons_succ, List.getElem?_cons_zero]; rfl
      case ff147 => kernel_rfl
      case qq147 => exact fun _ _ _ h => h
      case ww147 => rfl
      case yy147 => intro W hW; go_simp <;> with_reducible rfl
      try simp only [Act.put, List.setIfInBounds_toArray, List.set_cons_zero, List.set_cons_succ]
      refine wpAnyH_take (i := 16) (oi := ?oo148) (v := ?vv148) ?ii148 (by kernel_rfl) ?ff148 (by kernel_rfl) ?qq148 (Or.inl ⟨?ww148, ?yy148⟩) hd0 ?rr148
      case ii148 => simp only [List.getElem?_toArray, List.getElem?_cons_succ, List.getElem?_cons_zero]; rfl
      case ff148 => kernel_rfl
      case qq148 => exact fun _ _ _ h => h
      case ww148 => rfl
      case yy148 => intro W hW; go_simp <;> with_reducible rfl
      try simp only [Act.put, List.setIfInBounds_toArray, List.set_cons_zero, List.set_cons_succ]
      refine wpAnyH_take (i := 17) (oi := ?oo149) (v := ?vv149) ?ii149 (by kernel_rfl) ?ff149 (by kernel_rfl) ?qq149 (Or.inl ⟨?ww149, ?yy149⟩) hd0 ?rr149
      case ii149 => simp only [List.getElem?_toArray, List.getElem?_cons_succ, List.getElem?_cons_zero]; rfl
      case ff149 => kernel_rfl
      case qq149 => exact fun _ _ _ h => h
      case ww149 => rfl
      case yy149 => intro W hW; go_simp <;> with_reducible rfl
      try simp only [Act.put, List.setIfInBounds_toArray, List.set_cons_zero, List.set_cons_succ]
      refine wpAnyH_take (i := 18) (oi := ?oo150) (v := ?vv150) ?ii150 (by kernel_rfl) ?ff150 (by kernel_rfl) ?qq150 (Or.inl ⟨?ww150, ?yy150⟩) hd0 ?rr150
      case ii150 => simp only [List.getElem?_toArray, List.getElem?_cons_succ, List.getElem?_cons_zero]; rfl
      case ff150 => kernel_rfl
      case qq150 => exact fun _ _ _ h => h
      case ww150 => rfl
      case yy150 => intro W hW; go_simp <;> with_reducible rfl
      try simp only [Act.put, List.setIfInBounds_toArray, List.set_cons_zero, List.set_cons_succ]
      refine wpAnyH_take (i := 19) (oi := ?oo151) (v := ?vv151) ?ii151 (by kernel_rfl) ?ff151 (by kernel_rfl) ?qq151 (Or.inl ⟨?ww151, ?yy151⟩) hd0 ?rr151
      case ii151 => simp only [List.getElem?_toArray, List.getElem?_cons_succ, List.getElem?_cons_zero]; rfl
      case ff151 => kernel_rfl
      case qq151 => exact fun _ _ _ h => h
      case ww151 => rfl
      case yy151 => intro W hW; go_simp <;> with_reducible rfl
      try simp only [Act.put, List.setIfInBounds_toArray, List.set_cons_zero, List.set_cons_succ]
      refine wpAnyH_take (i := 20) (oi := ?oo152) (v := ?vv152) ?ii152 (by kernel_rfl) ?ff152 (by kernel_rfl) ?qq152 (Or.inl ⟨?ww152, ?yy152⟩) hd0 ?rr152
      case ii152 => simp only [List.getElem?_toArray, List.getElem?_cons_succ, List.getElem?_cons_zero]; rfl
      case ff152 => kernel_rfl
      case qq152 => exact fun _ _ _ h => h
      case ww152 => rfl
      case yy152 => intro W hW; go_simp <;> with_reducible rfl
      try simp only [Act.put, List.setIfInBounds_toArray, List.set_cons_zero, List.set_cons_succ]
      refine wpAnyH_take (i := 21) (oi := ?oo153) (v := ?vv153) ?ii153 (by kernel_rfl) ?ff153 (by kernel_rfl) ?qq153 (Or.inl ⟨?ww153, ?yy153⟩) hd0 ?rr153
      case ii153 => simp only [List.getElem?_toArray, List.getElem?_cons_succ, List.getElem?_cons_zero]; rfl
      case ff153 => kernel_rfl
      case qq153 => exact fun _ _ _ h => h
      case ww153 => rfl
      case yy153 => intro W hW; go_simp <;> with_reducible rfl
      try simp only [Act.put, List.setIfInBounds_toArray, List.set_cons_zero, List.set_cons_succ]
      refine wpAnyH_take (i := 22) (oi := ?oo154) (v := ?vv154) ?ii154 (by kernel_rfl) ?ff154 (by kernel_rfl) ?qq154 (Or.inl ⟨?ww154, ?yy154⟩) hd0 ?rr154
      case ii154 => simp only [List.getElem?_toArray, List.getElem?_cons_succ, List.getElem?_cons_zero]; rfl
      case ff154 => kernel_rfl
      case qq154 => exact fun _ _ _ h => h
      case ww154 => rfl
      case yy154 => intro W hW; go_simp <;> with_reducible rfl
      try simp only [Act.put, List.setIfInBounds_toArray, List.set_cons_zero, List.set_cons_succ]
      refine wpAnyH_take (i := 23) (oi := ?oo155) (v := ?vv155) ?ii155 (by kernel_rfl) ?ff155 (by kernel_rfl) ?qq155 (Or.inl ⟨?ww155, ?yy155⟩) hd0 ?rr155
      case ii155 => simp only [List.getElem?_toArray, List.getElem?_cons_succ, List.getElem?_cons_zero]; rfl
      case ff155 => kernel_rfl
      case qq155 => exact fun _ _ _ h => h
      case ww155 => rfl
      case yy155 => intro W hW; go_simp <;> with_reducible rfl
      try simp only [Act.put, List.setIfInBounds_toArray, List.set_cons_zero, List.set_cons_succ]
      refine wpAnyH_take (i := 24) (oi := ?oo156) (v := ?vv156) ?ii156 (by kernel_rfl) ?ff156 (by kernel_rfl) ?qq156 (Or.inl ⟨?ww156, ?yy156⟩) hd0 ?rr156
      case ii156 => simp only [List.getElem?_toArray, List.getElem?_cons_succ, List.getElem?_cons_zero]; rfl
      case ff156 => kernel_rfl
      case qq156 => exact fun _ _ _ h => h
      case ww156 => rfl
      case yy156 => intro W hW; go_simp <;> with_reducible rfl
      try simp only [Act.put, List.setIfInBounds_toArray, List.set_cons_zero, List.set_cons_succ]
      refine wpAnyH_take (i := 25) (oi := ?oo157) (v := ?vv157) ?ii157 (by kernel_rfl) ?ff157 (by kernel_rfl) ?qq157 (Or.inl ⟨?ww157, ?yy157⟩) hd0 ?rr157
      case ii157 => simp only [List.getElem?_toArray, List.getElem?_cons_succ, List.getElem?_cons_zero]; rfl
      case ff157 => kernel_rfl
      case qq157 => exact fun _ _ _ h => h
      case ww157 => rfl
      case yy157 => intro W hW; go_simp <;> with_reducible rfl
      try simp only [Act.put, List.setIfInBounds_toArray, List.set_cons_zero, List.set_cons_succ]
      refine wpAnyH_take (i := 26) (oi := ?oo158) (v := ?vv158) ?ii158 (by kernel_rfl) ?ff158 (by kernel_rfl) ?qq158 (Or.inl ⟨?ww158, ?yy158⟩) hd0 ?rr158
      case ii158 => simp only [List.getElem?_toArray, List.getElem?_cons_succ, List.getElem?_cons_zero]; rfl
      case ff158 => kernel_rfl
      case qq158 => exact fun _ _ _ h => h
      case ww158 => rfl
      case yy158 => intro W hW; go_simp <;> with_reducible rfl
      try simp only [Act.put, List.setIfInBounds_toArray, List.set_cons_zero, List.set_cons_succ]
      refine wpAnyH_take (i := 27) (oi := ?oo159) (v := ?vv159) ?ii159 (by kernel_rfl) ?ff159 (by kernel_rfl) ?qq159 (Or.inl ⟨?ww159, ?yy159⟩) hd0 ?rr159
      case ii159 => simp only [List.getElem?_toArray, List.getElem?_cons_succ, List.getElem?_cons_zero]; rfl
      case ff159 => kernel_rfl
      case qq159 => exact fun _ _ _ h => h
      case ww159 => rfl
      case yy159 => intro W hW; go_simp <;> with_reducible rfl
      try simp only [Act.put, List.setIfInBounds_toArray, List.set_cons_zero, List.set_cons_succ]
      refine wpAnyH_take (i := 28) (oi := ?oo160) (v := ?vv160) ?ii160 (by kernel_rfl) ?ff160 (by kernel_rfl) ?qq160 (Or.inl ⟨?ww160, ?yy160⟩) hd0 ?rr160
      case ii160 => simp only [List.getElem?_toArray, List.getElem?_cons_succ, List.getElem?_cons_zero]; rfl
      case ff160 => kernel_rfl
      case qq160 => exact fun _ _ _ h => h
      case ww160 => rfl
      case yy160 => intro W hW; go_simp <;> with_reducible rfl
      try simp only [Act.put, List.setIfInBounds_toArray, List.set_cons_zero, List.set_cons_succ]
      refine wpAnyH_take (i := 29) (oi := ?oo161) (v := ?vv161) ?ii161 (by kernel_rfl) ?ff161 (by kernel_rfl) ?qq161 (Or.inl ⟨?ww161, ?yy161⟩) hd0 ?rr161
      case ii161 => simp only [List.getElem?_toArray, List.getElem?_cons_succ, List.getElem?_cons_zero]; rfl
      case ff161 => kernel_rfl
      case qq161 => exact fun _ _ _ h => h
      case ww161 => rfl
      case yy161 => intro W hW; go_simp <;> with_reducible rfl
      try simp only [Act.put, List.setIfInBounds_toArray, List.set_cons_zero, List.set_cons_succ]
      refine wpAnyH_take (i := 30) (oi := ?oo162) (v := ?vv162) ?ii162 (by kernel_rfl) ?ff162 (by kernel_rfl) ?qq162 (Or.inl ⟨?ww162, ?yy162⟩) hd0 ?rr162
      case ii162 => simp only [List.getElem?_toArray, List.getElem?_cons_succ, List.getElem?_cons_zero]; rfl
      case ff162 => kernel_rfl
      case qq162 => exact fun _ _ _ h => h
      case ww162 => rfl
      case yy162 => intro W hW; go_simp <;> with_reducible rfl
      try simp only [Act.put, List.setIfInBounds_toArray, List.set_cons_zero, List.set_cons_succ]
      refine wpAnyH_take (i := 31) (oi := ?oo163) (v := ?vv163) ?ii163 (by kernel_rfl) ?ff163 (by kernel_rfl) ?qq163 (Or.inl ⟨?ww163, ?yy163⟩) hd0 ?rr163
      case ii163 => simp only [List.getElem?_toArray, List.getElem?_cons_succ, List.getElem?_cons_zero]; rfl
      case ff163 => kernel_rfl
      case qq163 => exact fun _ _ _ h => h
      case ww163 => rfl
      case yy163 => intro W hW; go_simp <;> with_reducible rfl
      try simp only [Act.put, List.setIfInBounds_toArray, List.set_cons_zero, List.set_cons_succ]
      refine wpAnyH_take (i := 32) (oi := ?oo164) (v := ?vv164) ?ii164 (by kernel_rfl) ?ff164 (by kernel_rfl) ?qq164 (Or.inl ⟨?ww164, ?yy164⟩) hd0 ?rr164
      case ii164 => simp only [List.getElem?_toArray, List.getElem?_cons_succ, List.getElem?_cons_zero]; rfl
      case ff164 => kernel_rfl
      case qq164 => exact fun _ _ _ h => h
      case ww164 => rfl
      case yy164 => intro W hW; go_simp <;> with_reducible rfl
      try simp only [Act.put, List.setIfInBounds_toArray, List.set_cons_zero, List.set_cons_succ]
      refine wpAnyH_take (i := 33) (oi := ?oo165) (v := ?vv165) ?ii165 (by kernel_rfl) ?ff165 (by kernel_rfl) ?qq165 (Or.inl ⟨?ww165, ?yy165⟩) hd0 ?rr165
      case ii165 => simp only [List.getElem?_toArray, List.getElem?_cons_succ, List.getElem?_cons_zero]; rfl
      case ff165 => kernel_rfl
      case qq165 => exact fun _ _ _ h => h
      case ww165 => rfl
      case yy165 => intro W hW; go_simp <;> with_reducible rfl
      try simp only [Act.put, List.setIfInBounds_toArray, List.set_cons_zero, List.set_cons_succ]
      refine wpAnyH_take (i := 34) (oi := ?oo166) (v := ?vv166) ?ii166 (by kernel_rfl) ?ff166 (by kernel_rfl) ?qq166 (Or.inl ⟨?ww166, ?yy166⟩) hd0 ?rr166
      case ii166 => simp only [List.getElem?_toArray, List.getElem?_cons_succ, List.getElem?_cons_zero]; rfl
      case ff166 => kernel_rfl
      case qq166 => exact fun _ _ _ h => h
      case ww166 => rfl
      case yy166 => intro W hW; go_simp <;> with_reducible rfl
      try simp only [Act.put, List.setIfInBounds_toArray, List.set_cons_zero, List.set_cons_succ]
      refine wpAnyH_take (i := 35) (oi := ?oo167) (v := ?vv167) ?ii167 (by kernel_rfl) ?ff167 (by kernel_rfl) ?qq167 (Or.inl ⟨?ww167, ?yy167⟩) hd0 ?rr167
      case ii167 => simp only [List.getElem?_toArray, List.getElem?_cons_succ, List.getElem?_cons_zero]; rfl
      case ff167 => kernel_rfl
      case qq167 => exact fun _ _ _ h => h
      case ww167 => rfl
      case yy167 => intro W hW; go_simp <;> with_reducible rfl
      try simp only [Act.put, List.setIfInBounds_toArray, List.set_cons_zero, List.set_cons_succ]
      refine wpAnyH_take (i := 36) (oi := ?oo168) (v := ?vv168) ?ii168 (by kernel_rfl) ?ff168 (by kernel_rfl) ?qq168 (Or.inl ⟨?ww168, ?yy168⟩) hd0 ?rr168
      case ii168 => simp only [List.getElem?_toArray, List.getElem?_cons_succ, List.getElem?_cons_zero]; rfl
      case ff168 => kernel_rfl
      case qq168 => exact fun _ _ _ h => h
      case ww168 => rfl
      case yy168 => intro W hW; go_simp <;> with_reducible rfl
      try simp only [Act.put, List.setIfInBounds_toArray, List.set_cons_zero, List.set_cons_succ]
      refine wpAnyH_done (by kernel_rfl) ?_ _
      have HR3 := Lib.hid (HR2.out _ (Below.refl _ _).drew)
      clear hd0 HR2
      go_wp2_with fail
      go_roundw
      case rel => exact HR3.out
      case measure => simp [intOf]; omega
end Go.Proofs.Ytlijcfojokbdpaa
