/- Contracts of queue's Take. Conditions: where the queue lies; at most 4096 events. -/
import Derived.Test.YtlijcfojokbdpaaQueG
namespace Go.Proofs.Ytlijcfojokbdpaa
open Go.RowKit
set_option maxRecDepth 100000

def TakeP (w : World) (B Q : Nat) (want : List QueP.Ev) (next : Int) (e : Ending) (w' : World) : Prop :=
  ∃ x, want[QueP.bestTo want want.length]? = some x ∧ e = .returned (.tuple #[evV x, .nilIface]) ∧ QueS w' B Q (want.eraseIdx (QueP.bestTo want want.length)) next ∧ QOnly B w w'
def TakeS (B Q N : Nat) (v : Value) (es : List QueP.Ent) (next : Int) (W : World) : Prop := QueIn W B Q v es next ∧ W.heap[N]? = some (.cells #[.int .i64 0, .int .i64 0, .int .i64 0] 28 (0, 0))

theorem take_nil (w : World) : Calls Try.prog 10 #[.pointer none] w (QRet (.tuple #[evV ⟨0, 0, 0⟩, .iface 47 (.int .i64 1)]) w) := by
  go_enter Try.func10, Try.ntmps10
  go_wp2_with fail
  refine bodyPost_ret (v := .tuple #[evV ⟨0, 0, 0⟩, .iface 47 (.int .i64 1)]) (by simp [results, Try.results10, go_sem, evV]) rfl ?_
  exact ⟨rfl, (Below.refl _ _).alloc (Nat.le_refl _) _⟩
theorem take_empty (w : World) (B Q : Nat) (next : Int) (h : QueS w B Q [] next) :
    Calls Try.prog 10 #[queV Q] w (QRet (.tuple #[evV ⟨0, 0, 0⟩, .iface 47 (.int .i64 10)]) w) := by
  obtain ⟨v, es, ents, h1, -, h3, h4⟩ := h
  obtain ⟨A, cap, rfl, -⟩ := own_slice h1.own
  have hl : es.length = 0 := h3.length_eq.trans (queued_length h4)
  have k := (h1.keep ((Below.refl w.heap.size w).alloc (Nat.le_refl _) (.cells #[.int .i64 0, .int .i64 0, .int .i64 0] 28))).head
  rw [hl] at k
  clear h1 h3 h4 hl
  unfold queV
  go_enter Try.func10, Try.ntmps10
  go_wp2_with fail
  refine bodyPost_ret (v := .tuple #[evV ⟨0, 0, 0⟩, .iface 47 (.int .i64 10)]) (by simp [results, Try.results10, go_sem, evV]) rfl ?_
  exact ⟨rfl, (Below.refl _ _).alloc (Nat.le_refl _) _⟩

set_option maxHeartbeats 4000000 in
theorem take_any (w : World) (B Q : Nat) (want : List QueP.Ev) (next : Int) (h : QueS w B Q want next) (hl : 0 < want.length) (hl2 : want.length ≤ 4096) :
    Calls Try.prog 10 #[queV Q] w (TakeP w B Q want next) := by
  obtain ⟨v, es, ents, h1, h2, h3, h4⟩ := h
  have hlen := h3.length_eq.trans (queued_length h4)
  obtain ⟨m, hm⟩ : ∃ m, es.length = m + 1 := ⟨es.length - 1, by omega⟩
  have hm4 : m < 4096 := by omega
  obtain ⟨a, ha⟩ : ∃ a, es[0]? = some a := ⟨_, List.getElem?_eq_getElem (by omega)⟩
  obtain ⟨z, hz⟩ : ∃ z, es[m]? = some z := ⟨_, List.getElem?_eq_getElem (by omega)⟩
  have ho := h1.own
  rw [hm] at ho
  obtain ⟨g, cap, rfl, -, -⟩ := ho.form (by omega)
  have hcap : m + 1 ≤ cap := by
    obtain ⟨_, _, e, hc⟩ := own_slice ho
    cases e
    exact hc
  have hb := QueP.best_to want hl want.length (Nat.le_refl _)
  generalize hbe : QueP.bestTo want want.length = b at hb
  obtain ⟨hb1, hb2⟩ := QueP.first_best h4 h3 h2 ha hb
  have hes2 : ((es.set 0 z).set m a).take m = (es.take m).set 0 z := by have := QueP.take_swap es a z; rw [hm] at this; exact this
  have hperm : (a :: (es.take m).set 0 z).Perm es := by have := QueP.take_perm ha (show es[es.length - 1]? = some z by rw [hm]; exact hz); rw [hm] at this; exact this
  have hdown : QueP.DownAt QueP.le ((es.take m).set 0 z) 0 := by have := QueP.down_new h2 z; rw [hm] at this; exact this
  have HFin : Hid (∀ w4, (∃ es4, es4.Perm ((es.take m).set 0 z) ∧ QueP.Heap QueP.le es4 ∧ QueIn w4 B Q (.slice (some ⟨g, 0, none⟩) m cap) es4 next ∧ Apart (fun k => k = Q ∨ k = g) w w4) → TakeP w B Q want next (.returned (.tuple #[evV a.ev, .nilIface])) w4) := Lib.hid fun w4 ⟨es4, q1, q2, q3, q4⟩ => by
    unfold TakeP
    rw [hbe]
    refine ⟨a.ev, hb2, rfl, ⟨_, es4, ents.eraseIdx b, q3, q2, QueP.left_perm hb1 h3 ((List.Perm.cons _ q1).trans hperm), QueP.queued_take h4 b⟩, h1.only (q4.mono fun k _ e => ?_)⟩
    rcases e with e | e
    · exact .inl e
    · exact .inr (by rw [e]; rfl)
  have HSw := Lib.hid (fun W hW => swap_any W B Q g (m + 1) cap es next 0 m hW hm a z ha hz)
  have HDn := Lib.hid hdown
  have HE2 := Lib.hid hes2
  have hb0 : Below w.heap.size w (w.alloc (.cells #[.int .i64 0, .int .i64 0, .int .i64 0] 28)) := (Below.refl w.heap.size w).alloc (Nat.le_refl _) _
  have kw := (h1.keep hb0).head
  have hd0 : TakeS B Q w.heap.size (.slice (some ⟨g, 0, none⟩) (m + 1) cap) es next (w.alloc (.cells #[.int .i64 0, .int .i64 0, .int .i64 0] 28)).drew := ⟨(h1.keep hb0).drew, heap_alloc_new w _⟩
  obtain ⟨⟨a0, a1, a2⟩, a3⟩ := a
  have kh : ∀ W, TakeS B Q w.heap.size (.slice (some ⟨g, 0, none⟩) (m + 1) cap) es next W → W.cell? ⟨Q, 0, none⟩ = some (.slice (some ⟨g, 0, none⟩) (m + 1) cap) := fun W hW => hW.1.head
  have k0 : ∀ W, TakeS B Q w.heap.size (.slice (some ⟨g, 0, none⟩) (m + 1) cap) es next W → W.cell? ⟨g, 0, none⟩ = some (.int .i64 a0) := fun W hW => by have := (hW.1.ent hm ha).c0; simpa using this
  have k1 : ∀ W, TakeS B Q w.heap.size (.slice (some ⟨g, 0, none⟩) (m + 1) cap) es next W → W.cell? ⟨g, 1, none⟩ = some (.int .i64 a1) := fun W hW => by have := (hW.1.ent hm ha).c1; simpa using this
  have k2 : ∀ W, TakeS B Q w.heap.size (.slice (some ⟨g, 0, none⟩) (m + 1) cap) es next W → W.cell? ⟨g, 2, none⟩ = some (.int .i64 a2) := fun W hW => by have := (hW.1.ent hm ha).c2; simpa using this
  have HQ := Lib.hid h1
  have hwm : IntKind.i64.wrap (m : Int) = (m : Int) := IntWalk.i64_in _ (by omega)
  have hgl : g < w.heap.size := (h1.own.lt g rfl).2
  have hQl : Q < w.heap.size := lt_of_block h1.hd
  have hml : ((es.take m).set 0 z).length = m := by rw [List.length_set, List.length_take]; omega
  have HM := Lib.hid hm
  have hsl := fun W => run_slice_tos (P := Try.prog) W 44 49 4 Try.underlying44 (fun w => by kernel_rfl) (some ⟨g, 0, none⟩) (m + 1) cap ((m : Nat) : Int) m rfl (by omega)
  clear h1 h2 h3 h4 hlen hm ha hz ho hb hb1 hb2 hbe hes2 hperm hdown hl hl2
  unfold queV
  simp only [evV] at HFin
  go_enter Try.func10, Try.ntmps10
  go_wp2_with fail
  clear kw
  refine wp_region_held_drew (S := fun W => TakeS B Q w.heap.size (.slice (some ⟨g, 0, none⟩) (m + 1) cap) es next W) (by kernel_rfl) hd0 (fun _ => ?_)
  refine wpAnyH_take (i := 0) (oi := ?oo1) (v := ?vv1) ?ii1 (by kernel_rfl) ?ff1 (by kernel_rfl) ?qq1 (Or.inl ⟨?ww1, ?yy1⟩) hd0 ?rr1
  case ii1 => simp only [List.getElem?_toArray, List.getElem?_cons_zero]; rfl
  case ff1 => kernel_rfl
  case qq1 => exact fun _ _ _ h => h
  case ww1 => rfl
  case yy1 => intro W hW; go_simp <;> with_reducible rfl
  try simp only [Act.put, List.setIfInBounds_toArray, List.set_cons_zero, List.set_cons_succ]
  refine wpAnyH_take (i := 1) (oi := ?oo2) (v := ?vv2) ?ii2 (by kernel_rfl) ?ff2 (by kernel_rfl) ?qq2 (Or.inl ⟨?ww2, ?yy2⟩) hd0 ?rr2
  case ii2 => simp only [List.getElem?_toArray, List.getElem?_cons_succ, List.getElem?_cons_zero]; rfl
  case ff2 => kernel_rfl
  case qq2 => exact fun _ _ _ h => h
  case ww2 => rfl
  case yy2 => intro W hW; go_simp <;> with_reducible rfl
  try simp only [Act.put, List.setIfInBounds_toArray, List.set_cons_zero, List.set_cons_succ]
  refine wpAnyH_take (i := 2) (oi := ?oo3) (v := ?vv3) ?ii3 (by kernel_rfl) ?ff3 (by kernel_rfl) ?qq3 (Or.inl ⟨?ww3, ?yy3⟩) hd0 ?rr3
  case ii3 => simp only [List.getElem?_toArray, List.getElem?_cons_succ, List.getElem?_cons_zero]; rfl
  case ff3 => kernel_rfl
  case qq3 => exact fun _ _ _ h => h
  case ww3 => rfl
  case yy3 => intro W hW; go_simp <;> with_reducible rfl
  try simp only [Act.put, List.setIfInBounds_toArray, List.set_cons_zero, List.set_cons_succ]
  refine wpAnyH_take (i := 3) (oi := ?oo4) (v := ?vv4) ?ii4 (by kernel_rfl) ?ff4 (by kernel_rfl) ?qq4 (Or.inl ⟨?ww4, ?yy4⟩) hd0 ?rr4
  case ii4 => simp only [List.getElem?_toArray, List.getElem?_cons_succ, List.getElem?_cons_zero]; rfl
  case ff4 => kernel_rfl
  case qq4 => exact fun _ _ _ h => h
  case ww4 => rfl
  case yy4 => intro W hW; go_simp <;> with_reducible rfl
  try simp only [Act.put, List.setIfInBounds_toArray, List.set_cons_zero, List.set_cons_succ]
  refine wpAnyH_take (i := 4) (oi := ?oo5) (v := ?vv5) ?ii5 (by kernel_rfl) ?ff5 (by kernel_rfl) ?qq5 (Or.inl ⟨?ww5, ?yy5⟩) hd0 ?rr5
  case ii5 => simp only [List.getElem?_toArray, List.getElem?_cons_succ, List.getElem?_cons_zero]; rfl
  case ff5 => kernel_rfl
  case qq5 => exact fun _ _ _ h => h
  case ww5 => rfl
  case yy5 => intro W hW; go_simp <;> with_reducible rfl
  try simp only [Act.put, List.setIfInBounds_toArray, List.set_cons_zero, List.set_cons_succ]
  refine wpAnyH_take (i := 5) (oi := ?oo6) (v := ?vv6) ?ii6 (by kernel_rfl) ?ff6 (by kernel_rfl) ?qq6 (Or.inl ⟨?ww6, ?yy6⟩) hd0 ?rr6
  case ii6 => simp only [List.getElem?_toArray, List.getElem?_cons_succ, List.getElem?_cons_zero]; rfl
  case ff6 => kernel_rfl
  case qq6 => exact fun _ _ _ h => h
  case ww6 => rfl
  case yy6 => intro W hW; go_simp <;> with_reducible rfl
  try simp only [Act.put, List.setIfInBounds_toArray, List.set_cons_zero, List.set_cons_succ]
  refine wpAnyH_take (i := 6) (oi := ?oo7) (v := ?vv7) ?ii7 (by kernel_rfl) ?ff7 (by kernel_rfl) ?qq7 (Or.inl ⟨?ww7, ?yy7⟩) hd0 ?rr7
  case ii7 => simp only [List.getElem?_toArray, List.getElem?_cons_succ, List.getElem?_cons_zero]; rfl
  case ff7 => kernel_rfl
  case qq7 => exact fun _ _ _ h => h
  case ww7 => rfl
  case yy7 => intro W hW; go_simp <;> with_reducible rfl
  try simp only [Act.put, List.setIfInBounds_toArray, List.set_cons_zero, List.set_cons_succ]
  refine wpAnyH_take (i := 7) (oi := ?oo8) (v := ?vv8) ?ii8 (by kernel_rfl) ?ff8 (by kernel_rfl) ?qq8 (Or.inl ⟨?ww8, ?yy8⟩) hd0 ?rr8
  case ii8 => simp only [List.getElem?_toArray, List.getElem?_cons_succ, List.getElem?_cons_zero]; rfl
  case ff8 => kernel_rfl
  case qq8 => exact fun _ _ _ h => h
  case ww8 => rfl
  case yy8 => intro W hW; go_simp <;> with_reducible rfl
  try simp only [Act.put, List.setIfInBounds_toArray, List.set_cons_zero, List.set_cons_succ]
  refine wpAnyH_take (i := 8) (oi := ?oo9) (v := ?vv9) ?ii9 (by kernel_rfl) ?ff9 (by kernel_rfl) ?qq9 (Or.inl ⟨?ww9, ?yy9⟩) hd0 ?rr9
  case ii9 => simp only [List.getElem?_toArray, List.getElem?_cons_succ, List.getElem?_cons_zero]; rfl
  case ff9 => kernel_rfl
  case qq9 => exact fun _ _ _ h => h
  case ww9 => rfl
  case yy9 => intro W hW; go_simp <;> with_reducible rfl
  try simp only [Act.put, List.setIfInBounds_toArray, List.set_cons_zero, List.set_cons_succ]
  refine wpAnyH_take (i := 9) (oi := ?oo10) (v := ?vv10) ?ii10 (by kernel_rfl) ?ff10 (by kernel_rfl) ?qq10 (Or.inl ⟨?ww10, ?yy10⟩) hd0 ?rr10
  case ii10 => simp only [List.getElem?_toArray, List.getElem?_cons_succ, List.getElem?_cons_zero]; rfl
  case ff10 => kernel_rfl
  case qq10 => exact fun _ _ _ h => h
  case ww10 => rfl
  case yy10 => intro W hW; go_simp <;> with_reducible rfl
  try simp only [Act.put, List.setIfInBounds_toArray, List.set_cons_zero, List.set_cons_succ]
  refine wpAnyH_take (i := 10) (oi := ?oo11) (v := ?vv11) ?ii11 (by kernel_rfl) ?ff11 (by kernel_rfl) ?qq11 (Or.inl ⟨?ww11, ?yy11⟩) hd0 ?rr11
  case ii11 => simp only [List.getElem?_toArray, List.getElem?_cons_succ, List.getElem?_cons_zero]; rfl
  case ff11 => kernel_rfl
  case qq11 => exact fun _ _ _ h => h
  case ww11 => rfl
  case yy11 => intro W hW; go_simp <;> with_reducible rfl
  try simp only [Act.put, List.setIfInBounds_toArray, List.set_cons_zero, List.set_cons_succ]
  refine wpAnyH_take (i := 11) (oi := ?oo12) (v := ?vv12) ?ii12 (by kernel_rfl) ?ff12 (by kernel_rfl) ?qq12 (Or.inl ⟨?ww12, ?yy12⟩) hd0 ?rr12
  case ii12 => simp only [List.getElem?_toArray, List.getElem?_cons_succ, List.getElem?_cons_zero]; rfl
  case ff12 => kernel_rfl
  case qq12 => exact fun _ _ _ h => h
  case ww12 => rfl
  case yy12 => intro W hW; go_simp <;> with_reducible rfl
  try simp only [Act.put, List.setIfInBounds_toArray, List.set_cons_zero, List.set_cons_succ]
  refine wpAnyH_take (i := 12) (oi := ?oo13) (v := ?vv13) ?ii13 (by kernel_rfl) ?ff13 (by kernel_rfl) ?qq13 (Or.inl ⟨?ww13, ?yy13⟩) hd0 ?rr13
  case ii13 => simp only [List.getElem?_toArray, List.getElem?_cons_succ, List.getElem?_cons_zero]; rfl
  case ff13 => kernel_rfl
  case qq13 => exact fun _ _ _ h => h
  case ww13 => rfl
  case yy13 => intro W hW; go_simp <;> with_reducible rfl
  try simp only [Act.put, List.setIfInBounds_toArray, List.set_cons_zero, List.set_cons_succ]
  have hb1 := hb0.drew
  generalize (w.alloc (.cells #[.int .i64 0, .int .i64 0, .int .i64 0] 28)).drew = we at *
  have hda : ∀ o, TakeS B Q w.heap.size (.slice (some ⟨g, 0, none⟩) (m + 1) cap) es next (we.alloc o) := fun o => ⟨hd0.1.keep ((Below.refl _ _).alloc (Nat.le_refl _) o), (Below.heap_alloc _ _ _ (lt_of_block hd0.2)).trans hd0.2⟩
  refine wpAnyH_ready (rs := [13]) (by kernel_rfl) (by simp) ?_
  refine AllReadyH.cons (o := ?oo14) ?ii14 (fun K hK => ?_) AllReadyH.nil
  case ii14 => simp only [List.getElem?_toArray, List.getElem?_cons_succ, List.getElem?_cons_zero]; rfl
  go_simp
  go_wp2_with fail
  refine hK.out _ _ (hda _) (fun _ => ?_)
  clear hK K
  refine wpAnyH_ready (rs := [14]) (by kernel_rfl) (by simp) ?_
  refine AllReadyH.cons (o := ?oo15) ?ii15 (fun K hK => ?_) AllReadyH.nil
  case ii15 => simp only [List.getElem?_toArray, List.getElem?_cons_succ, List.getElem?_cons_zero]; rfl
  go_simp
  go_wp2_with fail
  refine hK.out _ _ (hda _) (fun _ => ?_)
  clear hK K
  refine wpAnyH_take (i := 15) (oi := ?oo16) (v := ?vv16) ?ii16 (by kernel_rfl) ?ff16 (by kernel_rfl) ?qq16 (Or.inl ⟨?ww16, ?yy16⟩) (hda _) ?rr16
  case ii16 => simp only [List.getElem?_toArray, List.getElem?_cons_succ, List.getElem?_cons_zero]; rfl
  case ff16 => kernel_rfl
  case qq16 => exact fun _ _ _ h => h
  case ww16 => rfl
  case yy16 => intro W hW; go_simp <;> with_reducible rfl
  try simp only [Act.put, List.setIfInBounds_toArray, List.set_cons_zero, List.set_cons_succ]
  refine wpAnyH_done (by kernel_rfl) ?_ _
  have hbx := heap_alloc_new we (.cells #[.int .i64 a0, .int .i64 a1, .int .i64 a2] 28 (0, 0))
  have hdF := hda (.cells #[.int .i64 a0, .int .i64 a1, .int .i64 a2] 28)
  have hbF : Below w.heap.size w (we.alloc (.cells #[.int .i64 a0, .int .i64 a1, .int .i64 a2] 28)) := hb1.alloc (by have := hb1.size; omega) _
  have hNe := hb1.size
  have hN1 : w.heap.size < we.heap.size := lt_of_block hd0.2
  clear hda hd0 kh k0 k1 k2 hb0 hb1
  generalize we.alloc (.cells #[.int .i64 a0, .int .i64 a1, .int .i64 a2] 28) = wf at *
  have HS1 := Lib.hid (HSw.out wf hdF.1)
  have Hbx := Lib.hid hbx
  have HbF := Lib.hid hbF
  have HdF := Lib.hid hdF
  clear hbx hbF hdF HSw
  go_wp2_with fail
  refine HS1.out.mono ?_
  rintro e w2 ⟨rfl, hq2, ha2⟩
  have kq := hq2.head
  have fq := hq2.free 0
  have hq3 : QueIn (w2.setCell ⟨Q, 0, none⟩ (.slice (some ⟨g, 0, none⟩) m cap)) B Q (.slice (some ⟨g, 0, none⟩) m cap) ((es.take m).set 0 z) next := by
    have ap1 : Apart (fun k => k = Q) w2 (w2.setCell ⟨Q, 0, none⟩ (.slice (some ⟨g, 0, none⟩) m cap)) := (Apart.refl (fun k => k = Q) w2).setCell (p := ⟨Q, 0, none⟩) (.inl rfl) _
    have ho := hq2.own
    have hln : ((es.set 0 z).set m ⟨⟨a0, a1, a2⟩, a3⟩).length = m + 1 := by rw [List.length_set, List.length_set]; exact HM.out
    rw [hln] at ho
    have hc := own_cut (k := m) ho (by omega)
    rw [items_take entVals_len, HE2.out] at hc
    refine ⟨heap_setCell_same w2 Q 0 _ _ _ hq2.hd, ?_, hq2.base⟩
    rw [hml]
    exact own_apart hc ap1 (fun k hk e => hq2.ne k hk e)
  have HSk := Lib.hid (sink_any _ B Q g m cap _ next hq3 hml (by omega) HDn.out)
  have hA3 : Apart (fun k => k = Q ∨ k = g) wf (w2.setCell ⟨Q, 0, none⟩ (.slice (some ⟨g, 0, none⟩) m cap)) := (ha2.mono fun _ _ e => .inr e).trans ((Apart.refl (fun k => k = Q) w2).setCell (p := ⟨Q, 0, none⟩) (.inl rfl) _) (fun _ e => .inl (.inl e))
  have HA3 := Lib.hid hA3
  clear hq2 ha2 hq3 hA3
  go_wp2_with fail
  refine HSk.out.mono ?_
  rintro e w4 ⟨rfl, es4, p4, hh4, hq4, ha4⟩
  have hA4 : Apart (fun k => k = Q ∨ k = g) wf w4 := HA3.out.trans ha4 (fun _ e => .inl (.inr e))
  have hx4 := (hA4.block we.heap.size (lt_of_block Hbx.out) (fun e => by rcases e with e | e <;> omega)).trans Hbx.out
  have hr4 := (hA4.block w.heap.size (lt_of_block HdF.out.2) (fun e => by rcases e with e | e <;> omega)).trans HdF.out.2
  have x0 := cell_at hx4 0 rfl
  have x1 := cell_at hx4 1 rfl
  have x2 := cell_at hx4 2 rfl
  have r0 := cell_at hr4 0 rfl
  have r1 := cell_at hr4 1 rfl
  have r2 := cell_at hr4 2 rfl
  have f0 := free_at hr4 0
  have f1 := free_at hr4 1
  have f2 := free_at hr4 2
  have g1 := heap_setCell_same w4 w.heap.size 0 _ _ (.int .i64 a0) hr4
  have g2 := heap_setCell_same _ w.heap.size 1 _ _ (.int .i64 a1) g1
  have g3 := heap_setCell_same _ w.heap.size 2 _ _ (.int .i64 a2) g2
  have HG := Lib.hid g3
  have hA5 : Apart (fun k => k = w.heap.size) w4 (((w4.setCell ⟨w.heap.size, 0, none⟩ (.int .i64 a0)).setCell ⟨w.heap.size, 1, none⟩ (.int .i64 a1)).setCell ⟨w.heap.size, 2, none⟩ (.int .i64 a2)) :=
    (((Apart.refl (fun k => k = w.heap.size) w4).setCell (p := ⟨w.heap.size, 0, none⟩) (.inl rfl) _).setCell (p := ⟨w.heap.size, 1, none⟩) (.inl rfl) _).setCell (p := ⟨w.heap.size, 2, none⟩) (.inl rfl) _
  have HR := Lib.hid (HFin.out _ ⟨es4, p4, hh4, hq4.apart hA5 (by omega) (fun k hk e => by simp only [Value.ownBlock, Option.some.injEq] at hk; omega), ((Apart.of_below' (F := fun k => k = Q ∨ k = g) HbF.out).trans hA4 (fun _ e => .inl e)).trans hA5 (fun _ e => .inr (by omega))⟩)
  clear hA4 hx4 hr4 kq fq hsl g1 g2 g3 hA5 p4 hh4 hq4 ha4 HFin
  go_wp2_with fail
  generalize ((w4.setCell ⟨w.heap.size, 0, none⟩ (.int .i64 a0)).setCell ⟨w.heap.size, 1, none⟩ (.int .i64 a1)).setCell ⟨w.heap.size, 2, none⟩ (.int .i64 a2) = w5 at *
  have y0 : w5.cell? ⟨w.heap.size, 0, none⟩ = some (.int .i64 a0) := cell_at HG.out 0 rfl
  have y1 : w5.cell? ⟨w.heap.size, 1, none⟩ = some (.int .i64 a1) := cell_at HG.out 1 rfl
  have y2 : w5.cell? ⟨w.heap.size, 2, none⟩ = some (.int .i64 a2) := cell_at HG.out 2 rfl
  refine bodyPost_ret (v := .tuple #[.agg #[.int .i64 a0, .int .i64 a1, .int .i64 a2], .nilIface]) (by simp [results, Try.results10, go_sem, y0, y1, y2]) rfl ?_
  exact HR.out
end Go.Proofs.Ytlijcfojokbdpaa
