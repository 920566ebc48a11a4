/- Contract of queue's Put with room. Conditions: where the queue lies; fewer than 4096 events; at most a million puts. -/
import Derived.Test.YtlijcfojokbdpaaQueF
namespace Go.Proofs.Ytlijcfojokbdpaa
open Go.RowKit
set_option maxRecDepth 100000

theorem infoEnt : (Try.prog.info? 49).map (fun i => (i.zero, i.size, i.bytes)) = some (some (.agg #[.int .i64 0, .int .i64 0, .int .i64 0, .int .i64 0]), 4, 32) := by kernel_rfl
/-- Behind the two stores into the header. -/
theorem put_stored {w w2 : World} {B Q n : Nat} {v v' : Value} {es : List QueP.Ent} {next : Int} (h : QueIn w B Q v es next) (hn : es.length = n) (new : QueP.Ent) (ho : w2.ownsRow B 49 4 v' (n + 1) (itemsV entVals es ++ entVals new)) (ha : Apart (fun k => v.ownBlock = some k) w w2) (p : Int) :
    QueIn ((w2.setCell ⟨Q, 0, none⟩ v').setCell ⟨Q, 1, none⟩ (.int .i64 p)) B Q v' (es ++ [new]) p ∧ Apart (fun k => k = Q ∨ v.ownBlock = some k) w ((w2.setCell ⟨Q, 0, none⟩ v').setCell ⟨Q, 1, none⟩ (.int .i64 p)) := by
  have hd2 : w2.heap[Q]? = some (.cells #[v, .int .i64 next] 46 (0, 0)) := (ha.block Q (lt_of_block h.hd) (fun e => h.ne Q e rfl)).trans h.hd
  have g1 := heap_setCell_same w2 Q 0 _ _ v' hd2
  have g2 := heap_setCell_same (w2.setCell ⟨Q, 0, none⟩ v') Q 1 _ _ (.int .i64 p) g1
  have a1 : Apart (fun k => k = Q) w2 ((w2.setCell ⟨Q, 0, none⟩ v').setCell ⟨Q, 1, none⟩ (.int .i64 p)) := ((Apart.refl (fun k => k = Q) w2).setCell (p := ⟨Q, 0, none⟩) (.inl rfl) _).setCell (p := ⟨Q, 1, none⟩) (.inl rfl) _
  refine ⟨⟨g2, ?_, h.base⟩, (ha.mono fun _ _ e => .inr e).trans a1 fun _ e => .inl (.inl e)⟩
  have ho2 := own_apart ho a1 (fun k hk e => own_off ho hd2 (by decide) k hk e)
  have e1 : (es ++ [new]).length = n + 1 := by rw [List.length_append, List.length_singleton, hn]
  have e2 : itemsV entVals (es ++ [new]) = itemsV entVals es ++ entVals new := by rw [itemsV_append, itemsV_one']
  rw [e1, e2]
  exact ho2

def PutP (w : World) (B Q : Nat) (want : List QueP.Ev) (next : Int) (e : Ending) (w' : World) : Prop := e = .returned .nilIface ∧ QueS w' B Q want next ∧ QOnly B w w'

def PutS (Q N : Nat) (v : Value) (next : Int) (ev : QueP.Ev) (W : World) : Prop := W.heap[Q]? = some (.cells #[v, .int .i64 next] 46 (0, 0)) ∧ W.heap[N]? = some (.cells #[.int .i64 ev.at_, .int .i64 ev.rank, .int .i64 ev.what] 28 (0, 0))

set_option maxHeartbeats 4000000 in
theorem put_any (w : World) (B Q : Nat) (want : List QueP.Ev) (next : Int) (h : QueS w B Q want next) (hl : want.length < 4096) (hx0 : 0 ≤ next) (hx1 : next ≤ 1000000) (ev : QueP.Ev) :
    Calls Try.prog 9 #[queV Q, evV ev] w (PutP w B Q (want ++ [ev]) (next + 1)) := by
  obtain ⟨v, es, ents, h1, h2, h3, h4⟩ := h
  have hlen := h3.length_eq.trans (queued_length h4)
  obtain ⟨n, hn⟩ : ∃ n, n = es.length := ⟨_, rfl⟩
  obtain ⟨A, cap, hv, -⟩ := own_slice h1.own
  rw [← hn] at hv
  have hn4 : n < 4096 := by omega
  have HQ := Lib.hid h1
  have HN := Lib.hid hn
  -- what is left behind the calls
  have HFin : Hid (∀ v' w2 w4 g cap', v' = .slice (some ⟨g, 0, none⟩) (n + 1) cap' → w2.ownsRow B 49 4 v' (n + 1) (itemsV entVals es ++ entVals ⟨ev, next⟩) → Apart (fun k => v.ownBlock = some k) w w2 → (v.ownBlock = some g ∨ w.heap.size ≤ g) →
      SiftP ((w2.setCell ⟨Q, 0, none⟩ v').setCell ⟨Q, 1, none⟩ (.int .i64 (next + 1))) B Q g (n + 1) cap' (es ++ [⟨ev, next⟩]) (next + 1) (.returned (.tuple #[])) w4 → PutP w B Q (want ++ [ev]) (next + 1) (.returned .nilIface) w4) := Lib.hid fun v' w2 w4 g cap' hv' ho ha hg hS => by
    obtain ⟨-, es1, hp, hh, hq, ha4⟩ := hS
    obtain ⟨h5, h6⟩ := put_stored h1 hn.symm ⟨ev, next⟩ ho ha (next + 1)
    refine ⟨rfl, ⟨_, es1, ents ++ [⟨ev, next⟩], hq, hh, hp.trans (List.Perm.append_right _ h3), QueP.queued_put h4 ev (next + 1) (by omega)⟩, ?_⟩
    refine h1.only (h6.trans ha4 fun k e => ?_)
    rcases hg with hg | hg
    · exact .inl (.inr (by rw [hg, e]))
    · exact .inr (by omega)
  have HUp := Lib.hid (QueP.up_new h2 (⟨ev, next⟩ : QueP.Ent))
  have kd : ∀ W, PutS Q w.heap.size v next ev W → W.cell? ⟨Q, 0, none⟩ = some v := fun W hW => cell_at hW.1 0 rfl
  have kp : ∀ W, PutS Q w.heap.size v next ev W → W.cell? ⟨Q, 1, none⟩ = some (.int .i64 next) := fun W hW => cell_at hW.1 1 rfl
  have k0 : ∀ W, PutS Q w.heap.size v next ev W → W.cell? ⟨w.heap.size, 0, none⟩ = some (.int .i64 ev.at_) := fun W hW => cell_at hW.2 0 rfl
  have k1 : ∀ W, PutS Q w.heap.size v next ev W → W.cell? ⟨w.heap.size, 1, none⟩ = some (.int .i64 ev.rank) := fun W hW => cell_at hW.2 1 rfl
  have k2 : ∀ W, PutS Q w.heap.size v next ev W → W.cell? ⟨w.heap.size, 2, none⟩ = some (.int .i64 ev.what) := fun W hW => cell_at hW.2 2 rfl
  have hb0 : Below w.heap.size w (w.alloc (.cells #[.int .i64 ev.at_, .int .i64 ev.rank, .int .i64 ev.what] 28)).drew := ((Below.refl w.heap.size w).alloc (Nat.le_refl _) _).drew
  have hd : PutS Q w.heap.size v next ev (w.alloc (.cells #[.int .i64 ev.at_, .int .i64 ev.rank, .int .i64 ev.what] 28)).drew := ⟨(h1.keep hb0).hd, heap_alloc_new w _⟩
  have hq0 := h1.keep hb0
  have kq := (h1.keep ((Below.refl w.heap.size w).alloc (Nat.le_refl _) (.cells #[.int .i64 ev.at_, .int .i64 ev.rank, .int .i64 ev.what] 28))).head
  have hwr : IntKind.i64.wrap (next + 1) = next + 1 := IntWalk.i64_in _ (by omega)
  have q1 : decide ((4096 : Int) ≤ (n : Int)) = false := decide_eq_false (by omega)
  subst hv
  clear h1 h2 h3 h4 hlen hl hn
  unfold queV evV
  go_enter Try.func9, Try.ntmps9
  go_wp2_with fail
  clear kq q1
  refine wp_region_L_drew (st := 15) (S := fun W => PutS Q w.heap.size (.slice A n cap) next ev W) (by kernel_rfl) hd (fun _ => ?_)
  refine wpAnyL_take (i := 0) (f := 12) (oi := ?oo1) (v := ?vv1) ?ii1 (by kernel_rfl) ?ff1 (by kernel_rfl) ?pp1 ?qq1 (Or.inl ⟨?ww1, ?yy1⟩) hd ?rr1
  case ii1 => simp only [List.getElem?_toArray, List.getElem?_cons_zero]; rfl
  case ff1 => kernel_rfl
  case pp1 => kernel_rfl
  case qq1 => exact fun _ _ _ h => h
  case ww1 => rfl
  case yy1 => intro W hW; go_simp <;> with_reducible rfl
  try simp only [Act.put, List.setIfInBounds_toArray, List.set_cons_zero, List.set_cons_succ]
  refine wpAnyL_take (i := 1) (f := 12) (oi := ?oo2) (v := ?vv2) ?ii2 (by kernel_rfl) ?ff2 (by kernel_rfl) ?pp2 ?qq2 (Or.inl ⟨?ww2, ?yy2⟩) hd ?rr2
  case ii2 => simp only [List.getElem?_toArray, List.getElem?_cons_succ, List.getElem?_cons_zero]; rfl
  case ff2 => kernel_rfl
  case pp2 => kernel_rfl
  case qq2 => exact fun _ _ _ h => h
  case ww2 => rfl
  case yy2 => intro W hW; go_simp <;> with_reducible rfl
  try simp only [Act.put, List.setIfInBounds_toArray, List.set_cons_zero, List.set_cons_succ]
  refine wpAnyL_take (i := 2) (f := 12) (oi := ?oo3) (v := ?vv3) ?ii3 (by kernel_rfl) ?ff3 (by kernel_rfl) ?pp3 ?qq3 (Or.inl ⟨?ww3, ?yy3⟩) hd ?rr3
  case ii3 => simp only [List.getElem?_toArray, List.getElem?_cons_succ, List.getElem?_cons_zero]; rfl
  case ff3 => kernel_rfl
  case pp3 => kernel_rfl
  case qq3 => exact fun _ _ _ h => h
  case ww3 => rfl
  case yy3 => intro W hW; go_simp <;> with_reducible rfl
  try simp only [Act.put, List.setIfInBounds_toArray, List.set_cons_zero, List.set_cons_succ]
  refine wpAnyL_take (i := 3) (f := 12) (oi := ?oo4) (v := ?vv4) ?ii4 (by kernel_rfl) ?ff4 (by kernel_rfl) ?pp4 ?qq4 (Or.inl ⟨?ww4, ?yy4⟩) hd ?rr4
  case ii4 => simp only [List.getElem?_toArray, List.getElem?_cons_succ, List.getElem?_cons_zero]; rfl
  case ff4 => kernel_rfl
  case pp4 => kernel_rfl
  case qq4 => exact fun _ _ _ h => h
  case ww4 => rfl
  case yy4 => intro W hW; go_simp <;> with_reducible rfl
  try simp only [Act.put, List.setIfInBounds_toArray, List.set_cons_zero, List.set_cons_succ]
  refine wpAnyL_take (i := 4) (f := 12) (oi := ?oo5) (v := ?vv5) ?ii5 (by kernel_rfl) ?ff5 (by kernel_rfl) ?pp5 ?qq5 (Or.inl ⟨?ww5, ?yy5⟩) hd ?rr5
  case ii5 => simp only [List.getElem?_toArray, List.getElem?_cons_succ, List.getElem?_cons_zero]; rfl
  case ff5 => kernel_rfl
  case pp5 => kernel_rfl
  case qq5 => exact fun _ _ _ h => h
  case ww5 => rfl
  case yy5 => intro W hW; go_simp <;> with_reducible rfl
  try simp only [Act.put, List.setIfInBounds_toArray, List.set_cons_zero, List.set_cons_succ]
  refine wpAnyL_take (i := 5) (f := 12) (oi := ?oo6) (v := ?vv6) ?ii6 (by kernel_rfl) ?ff6 (by kernel_rfl) ?pp6 ?qq6 (Or.inl ⟨?ww6, ?yy6⟩) hd ?rr6
  case ii6 => simp only [List.getElem?_toArray, List.getElem?_cons_succ, List.getElem?_cons_zero]; rfl
  case ff6 => kernel_rfl
  case pp6 => kernel_rfl
  case qq6 => exact fun _ _ _ h => h
  case ww6 => rfl
  case yy6 => intro W hW; go_simp <;> with_reducible rfl
  try simp only [Act.put, List.setIfInBounds_toArray, List.set_cons_zero, List.set_cons_succ]
  refine wpAnyL_take (i := 6) (f := 12) (oi := ?oo7) (v := ?vv7) ?ii7 (by kernel_rfl) ?ff7 (by kernel_rfl) ?pp7 ?qq7 (Or.inl ⟨?ww7, ?yy7⟩) hd ?rr7
  case ii7 => simp only [List.getElem?_toArray, List.getElem?_cons_succ, List.getElem?_cons_zero]; rfl
  case ff7 => kernel_rfl
  case pp7 => kernel_rfl
  case qq7 => exact fun _ _ _ h => h
  case ww7 => rfl
  case yy7 => intro W hW; go_simp <;> with_reducible rfl
  try simp only [Act.put, List.setIfInBounds_toArray, List.set_cons_zero, List.set_cons_succ]
  refine wpAnyL_take (i := 7) (f := 12) (oi := ?oo8) (v := ?vv8) ?ii8 (by kernel_rfl) ?ff8 (by kernel_rfl) ?pp8 ?qq8 (Or.inl ⟨?ww8, ?yy8⟩) hd ?rr8
  case ii8 => simp only [List.getElem?_toArray, List.getElem?_cons_succ, List.getElem?_cons_zero]; rfl
  case ff8 => kernel_rfl
  case pp8 => kernel_rfl
  case qq8 => exact fun _ _ _ h => h
  case ww8 => rfl
  case yy8 => intro W hW; go_simp <;> with_reducible rfl
  try simp only [Act.put, List.setIfInBounds_toArray, List.set_cons_zero, List.set_cons_succ]
  refine wpAnyL_take (i := 8) (f := 12) (oi := ?oo9) (v := ?vv9) ?ii9 (by kernel_rfl) ?ff9 (by kernel_rfl) ?pp9 ?qq9 (Or.inl ⟨?ww9, ?yy9⟩) hd ?rr9
  case ii9 => simp only [List.getElem?_toArray, List.getElem?_cons_succ, List.getElem?_cons_zero]; rfl
  case ff9 => kernel_rfl
  case pp9 => kernel_rfl
  case qq9 => exact fun _ _ _ h => h
  case ww9 => rfl
  case yy9 => intro W hW; go_simp <;> with_reducible rfl
  try simp only [Act.put, List.setIfInBounds_toArray, List.set_cons_zero, List.set_cons_succ]
  refine wpAnyL_take (i := 9) (f := 12) (oi := ?oo10) (v := ?vv10) ?ii10 (by kernel_rfl) ?ff10 (by kernel_rfl) ?pp10 ?qq10 (Or.inl ⟨?ww10, ?yy10⟩) hd ?rr10
  case ii10 => simp only [List.getElem?_toArray, List.getElem?_cons_succ, List.getElem?_cons_zero]; rfl
  case ff10 => kernel_rfl
  case pp10 => kernel_rfl
  case qq10 => exact fun _ _ _ h => h
  case ww10 => rfl
  case yy10 => intro W hW; go_simp <;> with_reducible rfl
  try simp only [Act.put, List.setIfInBounds_toArray, List.set_cons_zero, List.set_cons_succ]
  refine wpAnyL_take (i := 10) (f := 12) (oi := ?oo11) (v := ?vv11) ?ii11 (by kernel_rfl) ?ff11 (by kernel_rfl) ?pp11 ?qq11 (Or.inl ⟨?ww11, ?yy11⟩) hd ?rr11
  case ii11 => simp only [List.getElem?_toArray, List.getElem?_cons_succ, List.getElem?_cons_zero]; rfl
  case ff11 => kernel_rfl
  case pp11 => kernel_rfl
  case qq11 => exact fun _ _ _ h => h
  case ww11 => rfl
  case yy11 => intro W hW; go_simp <;> with_reducible rfl
  try simp only [Act.put, List.setIfInBounds_toArray, List.set_cons_zero, List.set_cons_succ]
  generalize (w.alloc (.cells #[.int .i64 ev.at_, .int .i64 ev.rank, .int .i64 ev.what] 28)).drew = we at *
  clear kd kp k0 k1 k2
  have Hqe := Lib.hid hq0
  have Hbe := Lib.hid hb0
  have hsz : w.heap.size < we.heap.size := lt_of_block hd.2
  have hqz : Q < we.heap.size := lt_of_block hd.1
  have hda : PutS Q w.heap.size (.slice A n cap) next ev (we.alloc (.cells (entVals ⟨ev, next⟩).toArray 49)) := ⟨(Below.heap_alloc _ _ _ hqz).trans hd.1, (Below.heap_alloc _ _ _ hsz).trans hd.2⟩
  have Hd := Lib.hid hd
  clear hq0 hb0 hd
  refine wpAnyL_one (k := 11) (o := ?oo12) (by kernel_rfl) ?ii12 (fun K hK => ?_)
  case ii12 => simp only [List.getElem?_toArray, List.getElem?_cons_succ, List.getElem?_cons_zero]; rfl
  go_simp
  go_wp2_with fail
  refine hK.out _ _ (fun _ => hda) ?_
  clear hK K
  refine wpAnyL_one (k := 12) (o := ?oo13) (by kernel_rfl) ?ii13 (fun K hK => ?_)
  case ii13 => simp only [List.getElem?_toArray, List.getElem?_cons_succ, List.getElem?_cons_zero]; rfl
  refine step_append_m rfl (.tmp 19) (.tmp 26) _ rfl B 49 _ 4 32 Try.underlying44 infoEnt rfl (by omega) _ n (itemsV entVals es) rfl (by have := Hqe.out.own; rw [← HN.out] at this; exact this.alloc _) (some ⟨we.heap.size, 0, none⟩) 1 1 (entVals ⟨ev, next⟩) rfl rfl (fun _ => ⟨_, rfl, laid_at we _ (entVals ⟨ev, next⟩) we.heap.size rfl⟩) (entVals_one _) (by unfold maxLen; omega) (by omega) (by have := Hqe.out.base; simp; omega) ?_
  intro v8 w8 ho8 ha8 hb8
  have ha80 : Apart (fun q => (Value.slice A n cap).ownBlock = some q) we w8 := ((Apart.refl _ we).alloc _).trans ha8 (fun _ e => .inl e)
  have ha81 : Apart (fun q => (Value.slice A n cap).ownBlock = some q) w w8 := (Apart.of_below' (F := fun q => (Value.slice A n cap).ownBlock = some q) Hbe.out).trans ha80 (fun q e => .inl e)
  have hd8 : PutS Q w.heap.size (.slice A n cap) next ev w8 := ⟨(ha80.block Q hqz (fun e => Hqe.out.ne Q e rfl)).trans Hd.out.1, (ha80.block _ hsz (fun e => own_off Hqe.out.own Hd.out.2 (by decide) _ e rfl)).trans Hd.out.2⟩
  obtain ⟨g8, c8, rfl, -, -⟩ := ho8.form (by omega)
  have hg8 : (Value.slice A n cap).ownBlock = some g8 ∨ w.heap.size ≤ g8 := by
    rcases hb8 with e | e
    · exact .inl e.symm
    · simp only [Value.ownBlock, Option.some.injEq] at e
      exact .inr (by rw [e]; simp; omega)
  have hput := put_stored Hqe.out HN.out.symm ⟨ev, next⟩ ho8 ha80 (next + 1)
  have HRise := Lib.hid (rise_any _ B Q g8 (n + 1) c8 _ (next + 1) n hput.1 (by rw [List.length_append, ← HN.out]; rfl) (by omega) (by omega) (by rw [HN.out]; exact HUp.out))
  have HF8 := Lib.hid (fun w4 => HFin.out _ w8 w4 g8 c8 rfl ho8 ha81 hg8)
  have kb8 : w8.cell? ⟨Q, 0, none⟩ = some (.slice A n cap) := cell_at hd8.1 0 rfl
  have kp8 : w8.cell? ⟨Q, 1, none⟩ = some (.int .i64 next) := cell_at hd8.1 1 rfl
  have fb8 := free_at hd8.1 0
  have fp8 := free_at hd8.1 1
  clear ho8 ha8 hb8 ha80 ha81 hg8 hput HFin
  go_wp2_with fail
  refine hK.out _ _ (fun _ => hd8) ?_
  clear hK K
  refine wpAnyL_take (i := 13) (f := 12) (oi := ?oo14) (v := ?vv14) ?ii14 (by kernel_rfl) ?ff14 (by kernel_rfl) ?pp14 ?qq14 (Or.inl ⟨?ww14, ?yy14⟩) hd8 ?rr14
  case ii14 => simp only [List.getElem?_toArray, List.getElem?_cons_succ, List.getElem?_cons_zero]; rfl
  case ff14 => kernel_rfl
  case pp14 => kernel_rfl
  case qq14 => exact fun _ _ _ h => h
  case ww14 => rfl
  case yy14 => intro W hW; go_simp <;> with_reducible rfl
  try simp only [Act.put, List.setIfInBounds_toArray, List.set_cons_zero, List.set_cons_succ]
  refine wpAnyL_take (i := 14) (f := 12) (oi := ?oo15) (v := ?vv15) ?ii15 (by kernel_rfl) ?ff15 (by kernel_rfl) ?pp15 ?qq15 (Or.inl ⟨?ww15, ?yy15⟩) hd8 ?rr15
  case ii15 => simp only [List.getElem?_toArray, List.getElem?_cons_succ, List.getElem?_cons_zero]; rfl
  case ff15 => kernel_rfl
  case pp15 => kernel_rfl
  case qq15 => exact fun _ _ _ h => h
  case ww15 => rfl
  case yy15 => intro W hW; go_simp <;> with_reducible rfl
  try simp only [Act.put, List.setIfInBounds_toArray, List.set_cons_zero, List.set_cons_succ]
  refine wpAnyL_last (k := 15) (o := ?oo16) (by kernel_rfl) ?ii16 (fun K hK => ?_)
  case ii16 => simp only [List.getElem?_toArray, List.getElem?_cons_succ, List.getElem?_cons_zero]; rfl
  go_simp
  go_wp2_with fail
  refine hK.out _ _ ?_
  clear hK K
  refine wpAnyL_done (by kernel_rfl) ?_ _
  clear hd8 hda
  go_wp2_with fail
  refine HRise.out.mono ?_
  rintro e w9 hS
  have he := hS.1
  subst he
  have HR := Lib.hid (HF8.out _ hS)
  clear hS HF8
  go_wp2_with fail
  go_ret
  exact HR.out
end Go.Proofs.Ytlijcfojokbdpaa
