/- Contract of clone, its walk. Conditions: where its lists lie. -/
import Derived.Test.YtkahecdnmeofkaaMbrC
namespace Go.Proofs.Ytkahecdnmeofkaa
open Go.RowKit
set_option maxRecDepth 100000

def CloR (w : World) (x : FrameC) (i : Value) (W : World) : Prop := ∃ k A c ys, k ≤ x.mn ∧ i = .int .i64 (k : Nat) ∧ CloIn w x (.slice A k c) k ys W
/-- The box and the message's own block. -/
def BxD (N q : Nat) (cs : Array Value) (a b : Value) (W : World) : Prop := W.heap[N]? = some (.cells cs 51 (0, 0)) ∧ W.heap[q]? = some (.cells #[a, b] 73 (0, 0))
theorem BxD.keep {N q : Nat} {cs : Array Value} {a b : Value} {W W' : World} (h : BxD N q cs a b W) (hb : Below W.heap.size W W') : BxD N q cs a b W' :=
  ⟨(hb.block _ (lt_of_block h.1)).trans h.1, (hb.block _ (lt_of_block h.2)).trans h.2⟩
theorem msg_one (y : MsgC) : ∀ u ∈ y.vals, u.oneCell' = true := by
  intro u hu
  simp only [MsgC.vals, List.mem_cons, List.not_mem_nil, or_false] at hu
  rcases hu with rfl | rfl <;> rfl

set_option maxHeartbeats 4000000 in
theorem fclone_any (x : FrameC) (w : World) (h : FrameIn w x) : Calls Try.prog 31 #[x.value] w (ClonedFP x w) := by
  have HM := Lib.hid (fun W (hW : Below w.heap.size w W) => h.msgs.below hW)
  have HR := Lib.hid (fun W (hW : Below w.heap.size w W) => h.recs.below hW)
  have Hml := Lib.hid h.mlen
  have Hrl := Lib.hid h.rlen
  have hm := h.mmost
  have hr := h.rmost
  have HF : Hid (∀ (MA : Option Addr) (mcap : Nat) (l : List MsgC) (RA : Option Addr) (rcap : Nat) (W : World), l.map MsgC.plain = x.msgs.map MsgC.plain → MsgsIn W MA l → RecsIn W RA x.recs → x.mn ≤ mcap → x.rn ≤ rcap → FrameHi w.heap.size ⟨x.sender, x.round, x.members, MA, x.mn, mcap, l, x.kind, x.key, x.val, x.old, RA, x.rn, rcap, x.recs⟩ → Below w.heap.size w W →
      ClonedFP x w (.returned (FrameC.value ⟨x.sender, x.round, x.members, MA, x.mn, mcap, l, x.kind, x.key, x.val, x.old, RA, x.rn, rcap, x.recs⟩)) W) := Lib.hid fun MA mcap l RA rcap W hl h1 h2 h3 h4 h6 h5 => by
    have hp : FrameC.plain ⟨x.sender, x.round, x.members, MA, x.mn, mcap, l, x.kind, x.key, x.val, x.old, RA, x.rn, rcap, x.recs⟩ = x.plain := by simp only [FrameC.plain, hl]
    refine ⟨_, rfl, ⟨h1, ?_, h3, h.mmost, h2, h.rlen, h4, h.rmost, by rw [hp]; exact h.typed⟩, hp, h6, h5⟩
    have := congrArg List.length hl
    have h9 := h.mlen
    simp only [List.length_map] at this
    simp only
    omega
  have HC0 : Hid (∀ o1 o2 : Obj, o1 = .cells (boxCs x (.slice none 0 0) (.slice x.RA x.rn x.rcap)) 51 → o2 = .cells zeroCs 51 → CloIn w x (.slice none 0 0) 0 [] ((w.alloc o1).alloc o2)) := Lib.hid fun o1 o2 e1 e2 => by
    subst e1 e2
    exact ⟨⟨rfl, .inl ⟨rfl, rfl⟩⟩, by simp, fun y hy => (by cases hy), (Below.heap_alloc _ _ _ (by simp)).trans (heap_alloc_new w _), heap_new_at _ _ _ (by simp), ((Below.refl w.heap.size w).alloc (Nat.le_refl _) _).alloc (by simp) _⟩
  clear h
  obtain ⟨sender, round, members, MA, mn, mcap, msgs, kind, key, val, old, RA, rn, rcap, recs⟩ := x
  simp only [FrameC.value] at HF ⊢
  simp only at HM HR Hml Hrl hm hr HF HC0
  simp only [boxCs, zeroCs] at HC0
  go_enter Try.func31, Try.ntmps31
  go_wp2_with fail
  have HC1 := Lib.hid (HC0.out _ _ rfl rfl)
  clear HC0
  go_loopw [11] (CloR w ⟨sender, round, members, MA, mn, mcap, msgs, kind, key, val, old, RA, rn, rcap, recs⟩) (fun i _ => (mn + 1 - intOf i).toNat)
  case atStart => exact ⟨0, none, 0, [], Nat.zero_le _, rfl, HC1.out⟩
  case round =>
    clear HC1
    obtain ⟨k, Av, cv, ys, hk, rfl, hc⟩ := hrel
    have HC := Lib.hid hc
    have hsz := hc.size
    have kb3 : wr.cell? ⟨w.heap.size, 3, none⟩ = some (.slice Av k cv) := cell_at hc.box 3 rfl
    have hcb := hc.below
    clear hc
    simp only at hk HC
    by_cases hlt : k < mn
    · obtain ⟨b, off, rfl, hb, hi⟩ := HM.out wr hcb (by rw [Hml.out]; omega)
      obtain ⟨⟨port, D, m, c, data⟩, hmk⟩ : ∃ y, msgs[k]? = some y := ⟨_, List.getElem?_eq_getElem (by rw [Hml.out]; exact hlt)⟩
      obtain ⟨kp, kt, ok1, ok2, ok3, ok4, ok5⟩ := hi k _ hmk
      simp only at kp kt ok1 ok2 ok3 ok4 ok5
      have HB5 := Lib.hid (fun o => (Below.refl wr.heap.size wr).alloc (Nat.le_refl _) o)
      have Hok1 := Lib.hid ok1
      have Hok4 := Lib.hid ok4
      have Hmk := Lib.hid hmk
      have hbs : b < wr.heap.size := hb
      have q1 : decide ((k : Int) < (mn : Int)) = true := decide_eq_true (by omega)
      have hkz : (k : Int) < (mn : Int) := by omega
      clear hi hmk ok1 ok4 hb
      go_wp2_with fail
      have hn5 : (wr.alloc (.cells #[.int .i64 port, .slice D m c] 73)).heap[wr.heap.size]? = _ := heap_alloc_new wr _
      have HC5 := Lib.hid (HC.out.step (HB5.out (.cells #[.int .i64 port, .slice D m c] 73)))
      have hb5 := HB5.out (.cells #[.int .i64 port, .slice D m c] 73)
      have hby5 := (Hok4.out.below hb5 (Nat.le_refl _)).more hb5.size
      have hd5 : BxD w.heap.size wr.heap.size (boxCs ⟨sender, round, members, some ⟨b, off, none⟩, mn, mcap, msgs, kind, key, val, old, RA, rn, rcap, recs⟩ (.slice Av k cv) (.slice RA rn rcap)) (.int .i64 port) (.slice D m c) (wr.alloc (.cells #[.int .i64 port, .slice D m c] 73)) := ⟨HC5.out.box, hn5⟩
      have Hv5 : Hid (∀ q, (Value.slice Av k cv).ownBlock = some q → q ≠ wr.heap.size) := Lib.hid fun q e => by have := (HC.out.own.lt q e).2; omega
      have hbx3 : (boxCs ⟨sender, round, members, some ⟨b, off, none⟩, mn, mcap, msgs, kind, key, val, old, RA, rn, rcap, recs⟩ (.slice Av k cv) (.slice RA rn rcap))[3]? = some (.slice Av k cv) := rfl
      clear kp kt kb3 HB5 hn5 HC hb5 Hok4 HM
      generalize wr.alloc (.cells #[.int .i64 port, .slice D m c] 73) = w5 at *
      generalize boxCs ⟨sender, round, members, some ⟨b, off, none⟩, mn, mcap, msgs, kind, key, val, old, RA, rn, rcap, recs⟩ (.slice Av k cv) (.slice RA rn rcap) = bx at *
      generalize wr.heap.size = q at *
      have kd : ∀ W, BxD w.heap.size q bx (.int .i64 port) (.slice D m c) W → W.cell? ⟨w.heap.size, 3, none⟩ = some (.slice Av k cv) := fun W hW => cell_at hW.1 3 hbx3
      have ka : ∀ W, BxD w.heap.size q bx (.int .i64 port) (.slice D m c) W → W.cell? ⟨q, 0, none⟩ = some (.int .i64 port) := fun W hW => cell_at hW.2 0 rfl
      have kb : ∀ W, BxD w.heap.size q bx (.int .i64 port) (.slice D m c) W → W.cell? ⟨q, 1, none⟩ = some (.slice D m c) := fun W hW => cell_at hW.2 1 rfl
      have hd0 : BxD w.heap.size q bx (.int .i64 port) (.slice D m c) w5.drew := hd5
      have HCl := Lib.hid (bclone_any D m c data Hok1.out ok3 w5.drew hby5)
      have HC5d := Lib.hid (HC5.out.drew)
      clear hby5 HC5 hd5 hbx3
      refine wp_region_L_drew (st := 11) (S := fun W => BxD w.heap.size q bx (.int .i64 port) (.slice D m c) W) (by kernel_rfl) hd0 (fun _ => ?_)
      refine tkL 0 (by simp only [tkA]; rfl) (by kernel_rfl) (by exact fun _ _ _ h => h) (by rfl) (by intro W hW; go_simp <;> with_reducible rfl) hd0 ?_
      try simp only [Act.put, tkT, tk0, tkS]
      refine tkL 1 (by simp only [tkA, tkG]; rfl) (by kernel_rfl) (by exact fun _ _ _ h => h) (by rfl) (by intro W hW; go_simp <;> with_reducible rfl) hd0 ?_
      try simp only [Act.put, tkT, tk0, tkS]
      refine tkL 2 (by simp only [tkA, tkG]; rfl) (by kernel_rfl) (by exact fun _ _ _ h => h) (by rfl) (by intro W hW; go_simp <;> with_reducible rfl) hd0 ?_
      try simp only [Act.put, tkT, tk0, tkS]
      refine tkL 3 (by simp only [tkA, tkG]; rfl) (by kernel_rfl) (by exact fun _ _ _ h => h) (by rfl) (by intro W hW; go_simp <;> with_reducible rfl) hd0 ?_
      try simp only [Act.put, tkT, tk0, tkS]
      refine tkL 4 (by simp only [tkA, tkG]; rfl) (by kernel_rfl) (by exact fun _ _ _ h => h) (by rfl) (by intro W hW; go_simp <;> with_reducible rfl) hd0 ?_
      try simp only [Act.put, tkT, tk0, tkS]
      refine tkL 5 (by simp only [tkA, tkG]; rfl) (by kernel_rfl) (by exact fun _ _ _ h => h) (by rfl) (by intro W hW; go_simp <;> with_reducible rfl) hd0 ?_
      try simp only [Act.put, tkT, tk0, tkS]
      refine wpAnyL_one (k := 6) (by kernel_rfl) (by simp only [tkA, tkG]; rfl) (fun K hK => ?_)
      go_simp
      refine HCl.out.mono ?_
      rintro e w6 ⟨A6, c6, rfl, ho6, hb6⟩
      have hd6 := hd0.keep hb6
      have HC6 := Lib.hid (HC5d.out.step hb6)
      have hs6 := HC6.out.size
      have Ho6 := Lib.hid (ilow ho6 (B' := w.heap.size + 2) (by have := HC5d.out.size; exact this))
      have hda := hd6.keep ((Below.refl _ w6).alloc (Nat.le_refl _) (.cells #[.int .i64 port, .slice A6 data.length c6] 73))
      clear ho6 hb6 HCl HC5d hd0
      go_wp2_with fail
      refine hK.out _ _ (fun _ => hd6) ?_
      clear hK K
      refine tkL 7 (by simp only [tkA, tkG]; rfl) (by kernel_rfl) (by exact fun _ _ _ h => h) (by rfl) (by intro W hW; go_simp <;> with_reducible rfl) hd6 ?_
      try simp only [Act.put, tkT, tk0, tkS]
      refine wpAnyL_one (k := 8) (by kernel_rfl) (by simp only [tkA, tkG]; rfl) (fun K hK => ?_)
      go_simp
      go_wp2_with fail
      refine hK.out _ _ (fun _ => hda) ?_
      clear hK K
      refine wpAnyL_one (k := 9) (by kernel_rfl) (by simp only [tkA, tkG]; rfl) (fun K hK => ?_)
      refine step_append_m rfl (.tmp 16) (.tmp 23) _ rfl (w.heap.size + 2) 73 _ 2 32 Try.underlying44 infoM rfl (by omega) _ k (msgVals ys) rfl (HC6.out.own.alloc _) (some ⟨w6.heap.size, 0, none⟩) 1 1 (MsgC.vals ⟨port, A6, data.length, c6, data⟩) rfl rfl (fun _ => ⟨_, rfl, laid_at w6 73 _ _ rfl⟩) (msg_one _) (by unfold maxLen; omega) (by omega) (by simp; omega) ?_
      intro v9 w9 ho9 ha9 hb9
      obtain ⟨A9, c9, rfl, -⟩ := own_slice ho9
      have ha90 : Apart (fun k' => (Value.slice Av k cv).ownBlock = some k') w6 w9 := ((Apart.refl _ w6).alloc _).trans ha9 (fun _ e => .inl e)
      have hd9 : BxD w.heap.size q bx (.int .i64 port) (.slice D m c) w9 := ⟨(ha90.block _ (lt_of_block hd6.1) (fun e => by have := (HC6.out.own.lt _ e).1; omega)).trans hd6.1, (ha90.block _ (lt_of_block hd6.2) (fun e => Hv5.out _ e rfl)).trans hd6.2⟩
      have HR := Lib.hid (HC6.out.more Hmk.out (y := ⟨port, A6, data.length, c6, data⟩) rfl ⟨Ho6.out, by rw [Hok1.out]; exact ok3, ok5⟩ (by rw [msgVals_append]; exact ho9) ha90)
      have f9 := free_at hd9.1 3
      have k9 := kd w9 hd9
      clear ho9 ha9 hb9 ha90 HC6 Ho6 hda hd6 Hv5
      go_wp2_with fail
      refine hK.out _ _ (fun _ => hd9) ?_
      clear hK K
      refine tkL 10 (by simp only [tkA, tkG]; rfl) (by kernel_rfl) (by exact fun _ _ _ h => h) (by rfl) (by intro W hW; go_simp <;> with_reducible rfl) hd9 ?_
      try simp only [Act.put, tkT, tk0, tkS]
      refine wpAnyL_last (k := 11) (by kernel_rfl) (by simp only [tkA, tkG]; rfl) (fun K hK => ?_)
      go_simp
      go_wp2_with fail
      refine hK.out _ _ ?_
      clear hK K
      refine wpAnyL_done (by kernel_rfl) ?_ _
      clear hd9 k9 f9 kd ka kb
      have e1 : IntKind.i64.wrap ((k : Int) + 1) = (k : Int) + 1 := IntWalk.i64_in _ (by omega)
      go_wp2_with fail
      go_roundw
      case rel => exact ⟨k + 1, A9, c9, _, by simp only; omega, by go_num, HR.out⟩
      case measure => simp [intOf]; omega
    · have hkn : mn = k := by omega
      subst hkn
      have kb8 : wr.cell? ⟨w.heap.size, 8, none⟩ = some (.slice RA rn rcap) := cell_at HC.out.box 8 rfl
      have q1 : decide ((mn : Int) < (mn : Int)) = false := decide_eq_false (by omega)
      have hbs : w.heap.size < wr.heap.size := by omega
      have hbs1 : w.heap.size + 1 < wr.heap.size := by omega
      clear HM kb3
      go_wp2_with (at_builtin
                   refine wpList_append_s rfl (.const (.slice none 0 0)) (.tmp 28) _ rfl (w.heap.size + 2) 85 _ 5 8 Try.underlying49 infoR rfl (by omega) _ 0 [] rfl ⟨rfl, .inl ⟨rfl, rfl⟩⟩ RA rn rcap (recsVals recs) rfl (by rw [recsVals_length, Hrl.out]) ?n2 (recsVals_one _) (by unfold maxLen; omega) (by omega) (by omega) ?_
                   case n2 => exact fun hn => (HR.out _ hcb).news (by rw [Hrl.out]; exact hn)
                   intro v3 w3 ho3 ha3 hb3
                   have hb4 : Below wr.heap.size wr w3 := ha3.below (Nat.le_refl _) (fun q e => by cases e)
                   rw [Nat.zero_add, List.nil_append] at ho3
                   obtain ⟨A3, c3, rfl, -⟩ := own_slice ho3
                   have hbx3 := (hb4.block w.heap.size hbs).trans HC.out.box
                   have hrs3 := (hb4.block (w.heap.size + 1) hbs1).trans HC.out.res
                   have b0 := cell_at hbx3 0 rfl
                   have b1 := cell_at hbx3 1 rfl
                   have b2 := cell_at hbx3 2 rfl
                   have b3 := cell_at hbx3 3 rfl
                   have b4 := cell_at hbx3 4 rfl
                   have b5 := cell_at hbx3 5 rfl
                   have b6 := cell_at hbx3 6 rfl
                   have b7 := cell_at hbx3 7 rfl
                   have b8 := cell_at hbx3 8 rfl
                   have fb := fun i => free_at hbx3 i
                   have r0 := cell_at hrs3 0 rfl
                   have r1 := cell_at hrs3 1 rfl
                   have r2 := cell_at hrs3 2 rfl
                   have r3 := cell_at hrs3 3 rfl
                   have r4 := cell_at hrs3 4 rfl
                   have r5 := cell_at hrs3 5 rfl
                   have r6 := cell_at hrs3 6 rfl
                   have r7 := cell_at hrs3 7 rfl
                   have r8 := cell_at hrs3 8 rfl
                   have fr := fun i => free_at hrs3 i
                   simp only [boxCs, zeroCs] at b0 b1 b2 b3 b4 b5 b6 b7 b8 r0 r1 r2 r3 r4 r5 r6 r7 r8
                   simp at b0 b1 b2 b3 b4 b5 b6 b7 b8 r0 r1 r2 r3 r4 r5 r6 r7 r8
                   have Ho3 := Lib.hid ho3
                   have Hrs3 := Lib.hid hrs3
                   have Hb4 := Lib.hid hb4
                   clear ho3 ha3 hb3 hb4 hbx3 hrs3)
      clear b0 b1 b2 b3 b4 b5 b6 b7 b8 r0 r1 r2 r3 r4 r5 r6 r7 r8 fb fr
      show bodyPost _ _ _ _ _ (storeAll (w3.setCell ⟨w.heap.size, 8, none⟩ (.slice A3 rn c3)) (w.heap.size + 1) [.int .u8 (sender : Nat), .int .u32 (round : Nat), .int .u8 (members : Nat), .slice Av mn cv, .int .u8 (kind : Nat), .int .u8 (key : Nat), .int .u16 (val : Nat), .int .u16 (old : Nat), .slice A3 rn c3] 0)
      have hfin := storeAll_heap (b := w.heap.size + 1) (t := 51) [.int .u8 (sender : Nat), .int .u32 (round : Nat), .int .u8 (members : Nat), .slice Av mn cv, .int .u8 (kind : Nat), .int .u8 (key : Nat), .int .u16 (val : Nat), .int .u16 (old : Nat), .slice A3 rn c3] 0 (w3.setCell ⟨w.heap.size, 8, none⟩ (.slice A3 rn c3)) [] _ ((heap_set_other 8 _ (by omega)).trans Hrs3.out) rfl rfl
      have hap : Apart (fun k => k = w.heap.size ∨ k = w.heap.size + 1) w3 _ := ((Apart.refl _ w3).setCell (p := ⟨w.heap.size, 8, none⟩) (.inl (.inl rfl)) (.slice A3 rn c3)).trans (storeAll_apart (w.heap.size + 1) [.int .u8 (sender : Nat), .int .u32 (round : Nat), .int .u8 (members : Nat), .slice Av mn cv, .int .u8 (kind : Nat), .int .u8 (key : Nat), .int .u16 (val : Nat), .int .u16 (old : Nat), .slice A3 rn c3] 0 _) (fun k e => .inl (.inr e))
      generalize storeAll (w3.setCell ⟨w.heap.size, 8, none⟩ (.slice A3 rn c3)) (w.heap.size + 1) [.int .u8 (sender : Nat), .int .u32 (round : Nat), .int .u8 (members : Nat), .slice Av mn cv, .int .u8 (kind : Nat), .int .u8 (key : Nat), .int .u16 (val : Nat), .int .u16 (old : Nat), .slice A3 rn c3] 0 = Wf at *
      rw [List.nil_append] at hfin
      have r0 := cell_at hfin 0 rfl
      have r1 := cell_at hfin 1 rfl
      have r2 := cell_at hfin 2 rfl
      have r3 := cell_at hfin 3 rfl
      have r4 := cell_at hfin 4 rfl
      have r5 := cell_at hfin 5 rfl
      have r6 := cell_at hfin 6 rfl
      have r7 := cell_at hfin 7 rfl
      have r8 := cell_at hfin 8 rfl
      have HFin : Hid (ClonedFP ⟨sender, round, members, MA, mn, mcap, msgs, kind, key, val, old, RA, rn, rcap, recs⟩ w (.returned (FrameC.value ⟨sender, round, members, Av, mn, cv, ys, kind, key, val, old, A3, rn, c3, recs⟩)) Wf) := Lib.hid (by
        have hbw : Below w.heap.size w Wf := (hcb.trans (Hb4.out.mono (by omega))).trans (hap.below (by have := Hb4.out.size; omega) (fun k e => by rcases e with e | e <;> omega))
        have hc3 := HC.out.step Hb4.out
        have ho4 := own_apart hc3.own hap (fun q e => by have := (hc3.own.lt q e).1; omega)
        have ho5 := own_apart Ho3.out hap (fun q e => by have := (Ho3.out.lt q e).1; omega)
        have hl9 := HC.out.len
        have hr9 := Hrl.out
        subst hl9
        subst hr9
        have hrows : ∀ y ∈ ys, OwnMsg Wf (w.heap.size + 2) y := fun y hy => (hc3.rows y hy).apart hap (fun q e => by have := ((hc3.rows y hy).row.lt q e).1; omega)
        have hA : 0 < ys.length → ∀ k, blockOf Av = some k → w.heap.size ≤ k := fun hn k hk => by
          have := (ho4.lt k (by rcases Av with _ | ⟨g, o, sp⟩
                                · cases hk
                                · exact hk)).1
          omega
        have hR : 0 < recs.length → ∀ k, blockOf A3 = some k → w.heap.size ≤ k := fun hn k hk => by
          have := (ho5.lt k (by rcases A3 with _ | ⟨g, o, sp⟩
                                · cases hk
                                · exact hk)).1
          omega
        obtain ⟨A6, c6, e6, hle6, hin6⟩ := MsgsIn.own ho4 (fun y hy => (hrows y hy).ok.1)
        obtain ⟨A7, c7, e7, hle7, hin7⟩ := RecsIn.own ho5
        injection e6 with e61 e62 e63
        injection e7 with e71 e72 e73
        subst e61 e63 e71 e73
        exact HF.out _ _ _ _ _ Wf (ys_get HC.out.plain Hml.out.symm) hin6 hin7 hle6 hle7 ⟨hA, fun y hy hn k hk => by have := (hrows y hy).ok.2 hn k hk; omega, hR⟩ hbw)
      refine bodyPost_ret (v := FrameC.value ⟨sender, round, members, Av, mn, cv, ys, kind, key, val, old, A3, rn, c3, recs⟩) (by simp [results, Try.results31, go_sem, FrameC.value, r0, r1, r2, r3, r4, r5, r6, r7, r8]) rfl ?_
      exact HFin.out
end Go.Proofs.Ytkahecdnmeofkaa
