/- Contract of the queue's Put. Conditions: where the queue and the bytes lie. -/
import Derived.Test.YtodkcenoljpgoaaGrdF
namespace Go.Proofs.Ytodkcenoljpgoaa
open Go.RowKit
set_option maxRecDepth 100000

theorem infoBs9 : (Try.prog.info? 53).map (fun i => (i.zero, i.size, i.bytes)) = some (some (.slice none 0 0), 1, 24) := by kernel_rfl
/-- Behind a put. -/
theorem best_put {w w2 : World} {B Q : Nat} {v : Value} {es : List Value} {q : List (List UInt8)} (h : BestIn w B Q v es q) {ve : Value} {l : List UInt8} (he : w2.ownsRow B 5 1 ve l.length (bytesV l)) (ha : Apart (fun k => v.ownBlock = some k) w w2)
    {v' : Value} (ho : w2.ownsRow B 53 1 v' (q.length + 1) (es ++ [ve])) :
    BestS (w2.setCell ⟨Q, 0, none⟩ v') B Q (q ++ [l]) ∧ BOnly B w (w2.setCell ⟨Q, 0, none⟩ v') := by
  have hd2 : w2.heap[Q]? = some (.cells #[v] 51 (0, 0)) := (ha.block Q (lt_of_block h.hd) (fun e => h.ne Q e rfl)).trans h.hd
  have g1 := heap_setCell_same w2 Q 0 _ _ v' hd2
  have a1 : Apart (fun k => k = Q) w2 (w2.setCell ⟨Q, 0, none⟩ v') := (Apart.refl (fun k => k = Q) w2).setCell (p := ⟨Q, 0, none⟩) (.inl rfl) _
  refine ⟨⟨v', es ++ [ve], g1, ?_, by simp [h.len], fun i e l' hi hl => ?_, h.base⟩, h.only ((ha.mono fun _ _ e => .inr e).trans a1 fun _ e => .inl (.inl e))⟩
  · have := own_apart ho a1 (fun k hk e => own_off ho hd2 (by decide) k hk e)
    rw [List.length_append, List.length_singleton, h.len]
    exact this
  · by_cases hlt : i < es.length
    · rw [List.getElem?_append_left hlt] at hi
      rw [List.getElem?_append_left (by rw [← h.len]; exact hlt)] at hl
      have e1 := h.each i e l' hi hl
      have e2 := own_apart e1 ha (fun k hk => own_tag6 e1 h.own (by decide) k hk)
      exact own_apart e2 a1 (fun k hk e => own_off e2 hd2 (by decide) k hk e)
    · rw [List.getElem?_append_right (by omega)] at hi
      rw [List.getElem?_append_right (by rw [← h.len]; omega)] at hl
      have e0 : i - es.length = 0 := by have := (List.getElem?_eq_some_iff.1 hi).1; simp at this; omega
      rw [e0] at hi
      rw [← h.len, e0] at hl
      simp only [List.getElem?_cons_zero, Option.some.injEq] at hi hl
      subst hi hl
      exact own_apart he a1 (fun k hk e => own_off he hd2 (by decide) k hk e)

def BHd (Q : Nat) (v : Value) (W : World) : Prop := W.heap[Q]? = some (.cells #[v] 51 (0, 0))
theorem BHd.keep {Q : Nat} {v : Value} {W W' : World} (h : BHd Q v W) (hb : Below W.heap.size W W') : BHd Q v W' := (hb.block Q (lt_of_block h)).trans h

theorem bput_no (w : World) (B Q : Nat) (q : List (List UInt8)) (h : BestS w B Q q) (A : Option Addr) (n cap : Nat) (hno : 4 ≤ q.length ∨ 16 < n) :
    Calls Try.prog 18 #[bestV Q, .slice A n cap] w fun e w' => e = .returned (.bool false) ∧ w' = w := by
  obtain ⟨v, es, h1⟩ := h
  obtain ⟨A1, c1, rfl, -⟩ := h1.slice
  have k0 := cell_at h1.hd 0 rfl
  generalize q.length = m at *
  clear h1
  unfold bestV
  by_cases h4 : 4 ≤ m
  · have q1 : decide ((4 : Int) ≤ (m : Int)) = true := decide_eq_true (by omega)
    have q2 : decide (4 ≤ m) = true := decide_eq_true h4
    clear hno h4
    go_enter Try.func18, Try.ntmps18
    go_wp2_with fail
    go_ret
    exact ⟨rfl, rfl⟩
  · have q1 : decide ((4 : Int) ≤ (m : Int)) = false := decide_eq_false (by omega)
    have q2 : decide (4 ≤ m) = false := decide_eq_false h4
    have q3 : decide ((16 : Int) < (n : Int)) = true := decide_eq_true (by omega)
    have q4 : decide (16 < n) = true := decide_eq_true (by omega)
    clear hno h4
    go_enter Try.func18, Try.ntmps18
    go_wp2_with fail
    go_ret
    exact ⟨rfl, rfl⟩

def BPutP (w : World) (B Q : Nat) (q : List (List UInt8)) (e : Ending) (w' : World) : Prop := e = .returned (.bool true) ∧ BestS w' B Q q ∧ BOnly B w w'
set_option maxHeartbeats 2000000 in
theorem bput_any (w : World) (B Q : Nat) (q : List (List UInt8)) (hB : B ≤ w.heap.size) (h : BestS w B Q q) (hq : q.length < 4) (g o n cap : Nat) (l : List UInt8) (hl : l.length = n) (hn : n ≤ 16) (hby : Bytes w w.heap.size (some ⟨g, o, none⟩) l) :
    Calls Try.prog 18 #[bestV Q, .slice (some ⟨g, o, none⟩) n cap] w (BPutP w B Q (q ++ [l])) := by
  obtain ⟨v, es, h1⟩ := h
  obtain ⟨A1, c1, hv, -⟩ := h1.slice
  have HI := Lib.hid h1
  have k0 : w.cell? ⟨Q, 0, none⟩ = some v := cell_at h1.hd 0 rfl
  have kd : ∀ W, BHd Q v W → W.cell? ⟨Q, 0, none⟩ = some v := fun W hW => cell_at hW 0 rfl
  have hd0 : BHd Q v w.drew := h1.hd
  have HC := Lib.hid (clone_any g o n cap l hl (by omega) w.drew hby)
  have HFin : Hid (∀ ve v' w2, w2.ownsRow B 5 1 ve l.length (bytesV l) → Apart (fun k => v.ownBlock = some k) w w2 → w2.ownsRow B 53 1 v' (q.length + 1) (es ++ [ve]) → BPutP w B Q (q ++ [l]) (.returned (.bool true)) (w2.setCell ⟨Q, 0, none⟩ v')) := Lib.hid fun ve v' w2 he ha ho => ⟨rfl, best_put h1 he ha ho⟩
  have q1 : decide ((4 : Int) ≤ (q.length : Int)) = false := decide_eq_false (by omega)
  have q2 : decide (4 ≤ q.length) = false := decide_eq_false (by omega)
  have q3 : decide ((16 : Int) < (n : Int)) = false := decide_eq_false (by omega)
  have q4 : decide (16 < n) = false := decide_eq_false (by omega)
  obtain ⟨m, hm⟩ : ∃ m, q.length = m := ⟨_, rfl⟩
  have HM := Lib.hid hm
  rw [hm] at hv q1 q2 HFin hq
  subst hv
  clear h1 hl hby hm
  unfold bestV
  go_enter Try.func18, Try.ntmps18
  go_wp2_with fail
  clear q1 q2 q3 q4 k0
  refine wp_region_L_drew (st := 11) (S := fun W => BHd Q (.slice A1 m c1) W) (by kernel_rfl) hd0 (fun _ => ?_)
  refine wpAnyL_take (i := 0) (f := 12) (oi := ?oo1) (v := ?vv1) ?ii1 (by kernel_rfl) ?ff1 (by kernel_rfl) ?pp1 ?qq1 (Or.inl ⟨?ww1, ?yy1⟩) hd0 ?rr1
  case ii1 => simp only [List.getElem?_toArray, List.getElem?_cons_zero]; rfl
  case ff1 => kernel_rfl
  case pp1 => kernel_rfl
  case qq1 => exact fun _ _ _ h => h
  case ww1 => rfl
  case yy1 => intro W hW; go_simp <;> with_reducible rfl
  try simp only [Act.put, List.setIfInBounds_toArray, List.set_cons_zero, List.set_cons_succ]
  refine wpAnyL_take (i := 1) (f := 12) (oi := ?oo2) (v := ?vv2) ?ii2 (by kernel_rfl) ?ff2 (by kernel_rfl) ?pp2 ?qq2 (Or.inl ⟨?ww2, ?yy2⟩) hd0 ?rr2
  case ii2 => simp only [List.getElem?_toArray, List.getElem?_cons_succ, List.getElem?_cons_zero]; rfl
  case ff2 => kernel_rfl
  case pp2 => kernel_rfl
  case qq2 => exact fun _ _ _ h => h
  case ww2 => rfl
  case yy2 => intro W hW; go_simp <;> with_reducible rfl
  try simp only [Act.put, List.setIfInBounds_toArray, List.set_cons_zero, List.set_cons_succ]
  refine wpAnyL_take (i := 2) (f := 12) (oi := ?oo3) (v := ?vv3) ?ii3 (by kernel_rfl) ?ff3 (by kernel_rfl) ?pp3 ?qq3 (Or.inl ⟨?ww3, ?yy3⟩) hd0 ?rr3
  case ii3 => simp only [List.getElem?_toArray, List.getElem?_cons_succ, List.getElem?_cons_zero]; rfl
  case ff3 => kernel_rfl
  case pp3 => kernel_rfl
  case qq3 => exact fun _ _ _ h => h
  case ww3 => rfl
  case yy3 => intro W hW; go_simp <;> with_reducible rfl
  try simp only [Act.put, List.setIfInBounds_toArray, List.set_cons_zero, List.set_cons_succ]
  refine wpAnyL_take (i := 3) (f := 12) (oi := ?oo4) (v := ?vv4) ?ii4 (by kernel_rfl) ?ff4 (by kernel_rfl) ?pp4 ?qq4 (Or.inl ⟨?ww4, ?yy4⟩) hd0 ?rr4
  case ii4 => simp only [List.getElem?_toArray, List.getElem?_cons_succ, List.getElem?_cons_zero]; rfl
  case ff4 => kernel_rfl
  case pp4 => kernel_rfl
  case qq4 => exact fun _ _ _ h => h
  case ww4 => rfl
  case yy4 => intro W hW; go_simp <;> with_reducible rfl
  try simp only [Act.put, List.setIfInBounds_toArray, List.set_cons_zero, List.set_cons_succ]
  refine wpAnyL_take (i := 4) (f := 12) (oi := ?oo5) (v := ?vv5) ?ii5 (by kernel_rfl) ?ff5 (by kernel_rfl) ?pp5 ?qq5 (Or.inl ⟨?ww5, ?yy5⟩) hd0 ?rr5
  case ii5 => simp only [List.getElem?_toArray, List.getElem?_cons_succ, List.getElem?_cons_zero]; rfl
  case ff5 => kernel_rfl
  case pp5 => kernel_rfl
  case qq5 => exact fun _ _ _ h => h
  case ww5 => rfl
  case yy5 => intro W hW; go_simp <;> with_reducible rfl
  try simp only [Act.put, List.setIfInBounds_toArray, List.set_cons_zero, List.set_cons_succ]
  refine wpAnyL_take (i := 5) (f := 12) (oi := ?oo6) (v := ?vv6) ?ii6 (by kernel_rfl) ?ff6 (by kernel_rfl) ?pp6 ?qq6 (Or.inl ⟨?ww6, ?yy6⟩) hd0 ?rr6
  case ii6 => simp only [List.getElem?_toArray, List.getElem?_cons_succ, List.getElem?_cons_zero]; rfl
  case ff6 => kernel_rfl
  case pp6 => kernel_rfl
  case qq6 => exact fun _ _ _ h => h
  case ww6 => rfl
  case yy6 => intro W hW; go_simp <;> with_reducible rfl
  try simp only [Act.put, List.setIfInBounds_toArray, List.set_cons_zero, List.set_cons_succ]
  refine wpAnyL_one (k := 6) (o := ?oo7) (by kernel_rfl) ?ii7 (fun K hK => ?_)
  case ii7 => simp only [List.getElem?_toArray, List.getElem?_cons_succ, List.getElem?_cons_zero]; rfl
  go_simp
  refine HC.out.mono ?_
  rintro e w6 ⟨ve, rfl, he, hb6⟩
  obtain ⟨Ae, ce, rfl, -⟩ := own_slice he
  have hd6 : BHd Q (.slice A1 m c1) w6 := hd0.keep hb6
  have hI6 := HI.out.keep ((Below.refl w.heap.size w).drew.trans hb6)
  have hown6 : w6.ownsRow B 53 1 (.slice A1 m c1) m es := by have := hI6.own; rw [hI6.len, HM.out] at this; exact this
  have hes := hI6.len.trans HM.out
  have hda : BHd Q (.slice A1 m c1) (w6.alloc (.cells #[.slice Ae l.length ce] 53)) := hd6.keep ((Below.refl _ _).alloc (Nat.le_refl _) _)
  have hB6 : B ≤ w6.heap.size := by have := hb6.size; simp at this; omega
  have he6 : w6.ownsRow B 5 1 (.slice Ae l.length ce) l.length (bytesV l) := own_base he hB
  have Ha6 := Lib.hid (Apart.of_below' (F := fun k => (Value.slice A1 m c1).ownBlock = some k) ((Below.refl w.heap.size w).drew.trans hb6))
  have He6 := Lib.hid he6
  have Ho6 := Lib.hid hown6
  clear he hb6 hI6 hd0 HC HI he6 hown6 kd
  go_wp2_with fail
  refine hK.out _ _ (fun _ => hd6) ?_
  clear hK K
  refine wpAnyL_one (k := 7) (o := ?oo8) (by kernel_rfl) ?ii8 (fun K hK => ?_)
  case ii8 => simp only [List.getElem?_toArray, List.getElem?_cons_succ, List.getElem?_cons_zero]; rfl
  go_simp
  go_wp2_with fail
  refine hK.out _ _ (fun _ => hda) ?_
  clear hK K
  refine wpAnyL_one (k := 8) (o := ?oo9) (by kernel_rfl) ?ii9 (fun K hK => ?_)
  case ii9 => simp only [List.getElem?_toArray, List.getElem?_cons_succ, List.getElem?_cons_zero]; rfl
  refine step_append_m rfl (.tmp 24) (.tmp 27) _ rfl B 53 _ 1 24 Try.underlying49 infoBs9 rfl (by omega) _ m es rfl (Ho6.out.alloc _) (some ⟨w6.heap.size, 0, none⟩) 1 1 [.slice Ae l.length ce] rfl rfl (fun _ => ⟨_, rfl, fun j u hj => ?c1⟩) (fun u hu => ?c2) (by unfold maxLen; omega) (by omega) (by simp; omega) ?_
  case c1 =>
    have hj0 : j = 0 := by have := (List.getElem?_eq_some_iff.1 hj).1; simp at this; omega
    subst hj0
    simp only [List.getElem?_cons_zero, Option.some.injEq] at hj
    subst hj
    exact cell_at (heap_alloc_new w6 _) 0 rfl
  case c2 =>
    simp only [List.mem_singleton] at hu
    subst hu
    rfl
  intro v8 w8 ho8 ha8 hb8
  have ha80 : Apart (fun k => (Value.slice A1 m c1).ownBlock = some k) w6 w8 := ((Apart.refl _ w6).alloc _).trans ha8 (fun _ e => .inl e)
  have ha81 := Ha6.out.trans ha80 (fun _ e => .inl e)
  have he8 := own_apart He6.out ha80 (fun k hk => own_tag6 He6.out Ho6.out (by decide) k hk)
  have hd8 : BHd Q (.slice A1 m c1) w8 := (ha80.block Q (lt_of_block hd6) (fun e => own_off Ho6.out hd6 (by decide) Q e rfl)).trans hd6
  obtain ⟨g8, c8, rfl, -, -⟩ := ho8.form (by omega)
  have HR := Lib.hid (HFin.out _ _ w8 he8 ha81 ho8)
  have f8 := free_at hd8 0
  have k8 : w8.cell? ⟨Q, 0, none⟩ = some (.slice A1 m c1) := cell_at hd8 0 rfl
  clear ho8 ha8 hb8 ha80 ha81 he8 HFin He6 Ho6 Ha6
  go_wp2_with fail
  refine hK.out _ _ (fun _ => hd8) ?_
  clear hK K
  refine wpAnyL_take (i := 9) (f := 12) (oi := ?oo10) (v := ?vv10) ?ii10 (by kernel_rfl) ?ff10 (by kernel_rfl) ?pp10 ?qq10 (Or.inl ⟨?ww10, ?yy10⟩) hd8 ?rr10
  case ii10 => simp only [List.getElem?_toArray, List.getElem?_cons_succ, List.getElem?_cons_zero]; rfl
  case ff10 => kernel_rfl
  case pp10 => kernel_rfl
  case qq10 => exact fun _ _ _ h => h
  case ww10 => rfl
  case yy10 => intro W hW; go_simp <;> with_reducible rfl
  try simp only [Act.put, List.setIfInBounds_toArray, List.set_cons_zero, List.set_cons_succ]
  refine wpAnyL_take (i := 10) (f := 12) (oi := ?oo11) (v := ?vv11) ?ii11 (by kernel_rfl) ?ff11 (by kernel_rfl) ?pp11 ?qq11 (Or.inl ⟨?ww11, ?yy11⟩) hd8 ?rr11
  case ii11 => simp only [List.getElem?_toArray, List.getElem?_cons_succ, List.getElem?_cons_zero]; rfl
  case ff11 => kernel_rfl
  case pp11 => kernel_rfl
  case qq11 => exact fun _ _ _ h => h
  case ww11 => rfl
  case yy11 => intro W hW; go_simp <;> with_reducible rfl
  try simp only [Act.put, List.setIfInBounds_toArray, List.set_cons_zero, List.set_cons_succ]
  refine wpAnyL_last (k := 11) (o := ?oo12) (by kernel_rfl) ?ii12 (fun K hK => ?_)
  case ii12 => simp only [List.getElem?_toArray, List.getElem?_cons_succ, List.getElem?_cons_zero]; rfl
  go_simp
  go_wp2_with fail
  refine hK.out _ _ ?_
  clear hK K
  refine wpAnyL_done (by kernel_rfl) ?_ _
  clear hd8 hda hd6
  go_wp2_with fail
  go_ret
  exact HR.out
end Go.Proofs.Ytodkcenoljpgoaa
