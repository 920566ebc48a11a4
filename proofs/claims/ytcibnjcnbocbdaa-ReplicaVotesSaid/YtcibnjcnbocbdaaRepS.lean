/- Contracts of the document's Apply, Image of a table of values by keys. Conditions: where the table lies; the command's numbers in their ranges. -/
import Derived.Test.YtcibnjcnbocbdaaRepR
import Derived.Test.YtcibnjcnbocbdaaRepG
namespace Go.Proofs.Ytcibnjcnbocbdaa
open Go.RowKit RepP Go.Maps
set_option maxRecDepth 100000

def RAppP14 (w : World) (b : Nat) (t : T) (n : Nat) (c : Cmd) (e : Ending) (w' : World) : Prop := e = .returned (.tuple #[.bool (toldT t c), strV (txtN (badT c))]) ∧ RefGo w b (applyT t c) (n + if doneB c = true then 1 else 0) w'
theorem rcmdE (n : Nat) (hn : 1 ≤ n) (hn2 : n ≤ 199) (w : World) : Calls Try.prog 18 #[.int .i64 n] w (TxtP14 n w) := (e_any n w (by omega)).mono fun e w' h => ⟨by rw [h.1, txtN, if_neg (by omega)], h.2⟩
/-- The table, and the command's box. -/
def RefS (b : Nat) (vs : List Nat) (hs : List Bool) (n N : Nat) (c : Cmd) (W : World) : Prop := RefC W b vs hs n ∧ W.heap[N]? = some (.cells (cmdVals c).toArray 38 (0, 0)) ∧ N ≠ b
section
variable {W : World} {b n N : Nat} {vs : List Nat} {hs : List Bool} {c : Cmd}
theorem RefS.drew (h : RefS b vs hs n N c W) : RefS b vs hs n N c W.drew := ⟨h.1.drewN 1, h.2⟩
theorem RefS.drewN (h : RefS b vs hs n N c W) (q : Nat) : RefS b vs hs n N c (W.drewN q) := ⟨h.1.drewN q, h.2⟩
theorem RefS.other (h : RefS b vs hs n N c W) (i : Nat) (u : Value) : (W.setCell ⟨b, i, none⟩ u).heap[N]? = some (.cells (cmdVals c).toArray 38 (0, 0)) :=
  (((Apart.refl (fun q => q = b) W).setCell (p := ⟨b, i, none⟩) (.inl rfl) u).block N (Array.getElem?_eq_some_iff.1 h.2.1).1 h.2.2).trans h.2.1
theorem RefS.setVal (h : RefS b vs hs n N c W) {k : Nat} (hk : k < 8) (v : Nat) : RefS b (vs.set k v) hs n N c (W.setCell ⟨b, k, none⟩ (.int .u16 (v : Nat))) := ⟨h.1.setVal hk v, h.other k _, h.2.2⟩
theorem RefS.setHas (h : RefS b vs hs n N c W) {k : Nat} (hk : k < 8) (p : Bool) : RefS b vs (hs.set k p) n N c (W.setCell ⟨b, 8 + k, none⟩ (.bool p)) := ⟨h.1.setHas hk p, h.other _ _, h.2.2⟩
theorem RefS.setCnt (h : RefS b vs hs n N c W) (p : Nat) : RefS b vs hs p N c (W.setCell ⟨b, 16, none⟩ (.int .i64 (p : Nat))) := ⟨h.1.setCnt p, h.other _ _, h.2.2⟩
theorem RefS.box (h : RefS b vs hs n N c W) {i : Nat} {u : Value} (hi : (cmdVals c)[i]? = some u) : W.cell? ⟨N, i, none⟩ = some u := cell_at h.2.1 i (by rw [List.getElem?_toArray]; exact hi)
end

set_option maxHeartbeats 1000000 in
theorem refapply_no (w : World) (b : Nat) (t : T) (n : Nat) (h : RefT w b t n) (c : Cmd) (hd : doneB c = false) :
    Calls Try.prog 11 #[repV b, cmdV14 c] w (RAppP14 w b t n c) := by
  have hx := boxCmd w c
  have hbw : Below w.heap.size w (w.alloc (.cells (cmdVals c).toArray 38)) := (Below.refl _ w).alloc (Nat.le_refl _) _
  have ht : applyT t c = t := by simp [applyT, hd]
  have hto : toldT t c = false := by simp [toldT, hd]
  have HF : Hid (∀ w', Below w.heap.size w w' → RAppP14 w b t n c (.returned (.tuple #[.bool false, strV (txtN (badT c))])) w') := Lib.hid fun w' hb => by
    refine ⟨by rw [hto], ?_⟩
    rw [ht, hd]
    exact ⟨h.below hb, Apart.of_below' hb⟩
  have HB := Lib.hid hbw
  have HZ : Hid (w.heap.size ≤ (w.alloc (.cells (cmdVals c).toArray 38)).heap.size) := Lib.hid hbw.size
  have H2 := Lib.hid (fun W => rcmdE 2 (by omega) (by omega) W)
  have H7 := Lib.hid (fun W => rcmdE 7 (by omega) (by omega) W)
  clear h ht hto hbw
  have h3 : c.kind = 0 ∨ (c.kind ≠ 0 ∧ 7 < c.key) ∨ (c.kind ≠ 0 ∧ c.key ≤ 7 ∧ 3 < c.kind) := by
    have := of_decide_eq_false hd; omega
  clear hd
  obtain ⟨kind, key, val, old⟩ := c
  have c0 := cell_at hx 0 rfl
  have c1 := cell_at hx 1 rfl
  simp only [cmdVals] at *
  clear hx
  unfold repV cmdV14 at *
  rcases h3 with h3 | ⟨h0, h3⟩ | ⟨h0, h7, h3⟩
  · subst h3
    have e0 : txtN (badT ⟨0, key, val, old⟩) = [] := by simp [badT, txtN]
    rw [e0] at HF
    have HG := Lib.hid (HF.out _ HB.out)
    clear HF e0 HZ H2 H7
    go_enter Try.func11, Try.ntmps11
    go_wp2_with fail
    go_ret2
    exact HG.out

  · have q0 : ¬ ((kind : Int) = 0) := by omega
    have q1 : (7 : Int) < (key : Int) := by omega
    have e0 : badT ⟨kind, key, val, old⟩ = 2 := by simp [badT, h0, h3]
    rw [e0] at HF
    clear h0 h3 e0
    go_enter Try.func11, Try.ntmps11
    go_wp2_with fail
    refine (H2.out _).mono ?_
    rintro e w2 ⟨rfl, hb2⟩
    have HG := Lib.hid (HF.out w2 (HB.out.trans (hb2.mono HZ.out)))
    unfold strV at HG ⊢
    clear hb2 HF HB HZ c0 c1
    go_wp2_with fail
    go_ret2
    exact HG.out

  · have q0 : ¬ ((kind : Int) = 0) := by omega
    have q1 : ¬ ((7 : Int) < (key : Int)) := by omega
    have q2 : (3 : Int) < (kind : Int) := by omega
    have e0 : badT ⟨kind, key, val, old⟩ = 7 := by simp [badT, h0, show ¬ 7 < key by omega, h3]
    rw [e0] at HF
    clear h0 h3 e0
    go_enter Try.func11, Try.ntmps11
    go_wp2_with fail
    refine (H7.out _).mono ?_
    rintro e w2 ⟨rfl, hb2⟩
    have HG := Lib.hid (HF.out w2 (HB.out.trans (hb2.mono HZ.out)))
    unfold strV at HG ⊢
    clear hb2 HF HB HZ c0 c1
    go_wp2_with fail
    go_ret2
    exact HG.out

def DonP14 (w : World) (b : Nat) (t : T) (n : Nat) (tl : Bool) (e : Ending) (w' : World) : Prop := e = .returned (.tuple #[.bool tl, .string ⟨#[]⟩]) ∧ RefGo w b t (n + 1) w' 

set_option maxHeartbeats 2000000 in
theorem refapply_drop (w : World) (b : Nat) (t : T) (n : Nat) (h : RefT w b t n) (hn : n ≤ 1000000) (c : Cmd) (hc : CmdIn c) (h7 : c.key ≤ 7) (o : Option Nat) (ho : tat t c.key = o) (h1 : c.kind = 2) :
    Calls Try.prog 11 #[repV b, cmdV14 c] w (DonP14 w b (t.set c.key none) n (o.isSome)) := by
  have hbz := h.2.lt
  have hlen := h.1
  have hS0 : RefS b (valsT t) (hasT14 t) n w.heap.size c (w.alloc (.cells (cmdVals c).toArray 38)) := ⟨h.2.below ((Below.refl _ w).alloc (Nat.le_refl _) _), boxCmd w c, by omega⟩
  have hA0 : Apart (fun q => q = b) w (w.alloc (.cells (cmdVals c).toArray 38)) := (Apart.refl _ w).alloc _
  have hS1 := hS0.setCnt (n + 1)
  have hA1 := hA0.setCell (p := ⟨b, 16, none⟩) (.inl rfl) (.int .i64 ((n + 1 : Nat) : Int))
  have hv := valsT_at (t := t) (k := c.key) (by omega)
  have hh := hasT_at (t := t) (k := c.key) (by omega)
  rw [ho] at hv hh
  obtain ⟨kind, key, val, old⟩ := c
  obtain rfl : kind = 2 := h1
  simp only at hv hh h7
  have q7 : (key : Int) < 8 := by omega
  have q8 : ¬ ((7 : Int) < (key : Int)) := by omega
  have c0 : (w.alloc (.cells (cmdVals ⟨2, key, val, old⟩).toArray 38)).cell? ⟨w.heap.size, 0, none⟩ = some (.int .u8 2) := hS0.box (i := 0) rfl
  have c1 : (w.alloc (.cells (cmdVals ⟨2, key, val, old⟩).toArray 38)).cell? ⟨w.heap.size, 1, none⟩ = some (.int .u8 (key : Nat)) := hS0.box (i := 1) rfl
  have k16 := hS0.1.cnt
  have f16 := hS0.1.free 16
  have ew : IntKind.i64.wrap ((n : Int) + 1) = ((n + 1 : Nat) : Int) := by rw [IntWalk.i64_in _ (by omega)]; go_num
  have H1 := Lib.hid hS1
  have HA1 := Lib.hid hA1
  have Hl := Lib.hid hlen
  have HC := Lib.hid hc
  clear h hn hS0 hA0 hS1 hA1 hbz hlen hc ho
  generalize ((n + 1 : Nat) : Int) = n1 at *
  have ek : ((2 : Nat) : Int) = 2 := rfl
  simp only [cmdVals, ek] at *
  clear ek
  unfold repV cmdV14 at *
  go_enter Try.func11, Try.ntmps11
  go_wp2_with fail
  generalize ((w.alloc (.cells #[.int .u8 2, .int .u8 (key : Nat), .int .u16 (val : Nat), .int .u16 (old : Nat)] 38)).setCell ⟨b, 16, none⟩ (.int .i64 n1)) = w1 at *
  clear k16 f16 ew c0 c1
  have c0 : w1.cell? ⟨w.heap.size, 0, none⟩ = some (.int .u8 2) := H1.out.box (i := 0) rfl
  have c1 : w1.cell? ⟨w.heap.size, 1, none⟩ = some (.int .u8 (key : Nat)) := H1.out.box (i := 1) rfl
  have c2 : w1.cell? ⟨w.heap.size, 2, none⟩ = some (.int .u16 (val : Nat)) := H1.out.box (i := 2) rfl
  have c3 : w1.cell? ⟨w.heap.size, 3, none⟩ = some (.int .u16 (old : Nat)) := H1.out.box (i := 3) rfl
  have kv := H1.out.1.val hv
  have kh := H1.out.1.has hh
  go_quiet (fail)

  have H2 := Lib.hid (H1.out.drewN nq)
  have HA2 := Lib.hid (HA1.out.drewN nq)
  clear kv kh H1 HA1
  replace c0 : (w1.drewN nq).cell? ⟨w.heap.size, 0, none⟩ = some (.int .u8 2) := c0
  replace c1 : (w1.drewN nq).cell? ⟨w.heap.size, 1, none⟩ = some (.int .u8 (key : Nat)) := c1
  replace c2 : (w1.drewN nq).cell? ⟨w.heap.size, 2, none⟩ = some (.int .u16 (val : Nat)) := c2
  replace c3 : (w1.drewN nq).cell? ⟨w.heap.size, 3, none⟩ = some (.int .u16 (old : Nat)) := c3
  generalize w1.drewN nq = w2 at *
  go_wp2_with fail
  clear c0 c1 c2 c3
  have hd : RefS b (valsT t) (hasT14 t) (n + 1) w.heap.size ⟨2, key, val, old⟩ w2.drew := H2.out.drew
  have kd1 : ∀ W, RefS b (valsT t) (hasT14 t) (n + 1) w.heap.size ⟨2, key, val, old⟩ W → W.cell? ⟨w.heap.size, 1, none⟩ = some (.int .u8 (key : Nat)) := fun W hW => hW.box (i := 1) rfl
  have kd2 : ∀ W, RefS b (valsT t) (hasT14 t) (n + 1) w.heap.size ⟨2, key, val, old⟩ W → W.cell? ⟨w.heap.size, 2, none⟩ = some (.int .u16 (val : Nat)) := fun W hW => hW.box (i := 2) rfl
  have kb : w2.drew.cell? ⟨b, 8 + key, none⟩ = some (.bool o.isSome) := hd.1.has hh
  have fb := hd.1.free (8 + key)
  refine wp_region_L_drew (st := 6) (S := fun W => RefS b (valsT t) (hasT14 t) (n + 1) w.heap.size ⟨2, key, val, old⟩ W) (by kernel_rfl) hd (fun _ => ?_)
  refine tkL 0 (by simp only [tkA]; rfl) (by kernel_rfl) (by exact fun _ _ _ h => h) (by rfl) (by intro W hW; go_simp <;> with_reducible rfl) hd ?_
  try simp only [Act.put, tkT, tk0, tkS]
  refine tkL 1 (by simp only [tkA, tkG]; rfl) (by kernel_rfl) (by exact fun _ _ _ h => h) (by rfl) (by intro W hW; go_simp <;> with_reducible rfl) hd ?_
  try simp only [Act.put, tkT, tk0, tkS]
  refine tkL 2 (by simp only [tkA, tkG]; rfl) (by kernel_rfl) (by exact fun _ _ _ h => h) (by rfl) (by intro W hW; go_simp <;> with_reducible rfl) hd ?_
  try simp only [Act.put, tkT, tk0, tkS]
  refine tkL 3 (by simp only [tkA, tkG]; rfl) (by kernel_rfl) (by exact fun _ _ _ h => h) (by rfl) (by intro W hW; go_simp <;> with_reducible rfl) hd ?_
  try simp only [Act.put, tkT, tk0, tkS]
  refine tkL 4 (by simp only [tkA, tkG]; rfl) (by kernel_rfl) (by exact fun _ _ _ h => h) (by rfl) (by intro W hW; go_simp <;> with_reducible rfl) hd ?_
  try simp only [Act.put, tkT, tk0, tkS]
  refine tkL 5 (by simp only [tkA, tkG]; rfl) (by kernel_rfl) (by exact fun _ _ _ h => h) (by rfl) (by intro W hW; go_simp <;> with_reducible rfl) hd ?_
  try simp only [Act.put, tkT, tk0, tkS]
  refine wpAnyL_last (k := 6) (by kernel_rfl) (by simp only [tkA, tkG]; rfl) (fun K hK => ?_)
  go_simp
  go_wp2_with fail
  refine hK.out _ _ ?_
  clear hK K
  refine wpAnyL_done (by kernel_rfl) ?_ _
  have H3 := Lib.hid ((H2.out.setHas (k := key) (by omega) false).drew)
  have HA3 := Lib.hid ((HA2.out.setCell (p := ⟨b, 8 + key, none⟩) (.inl rfl) (.bool false)).drew)
  clear hd kd1 kd2 kb fb H2 HA2
  generalize (w2.setCell ⟨b, 8 + key, none⟩ (.bool false)).drew = w3 at *
  go_wp2_with fail
  have hd : RefS b (valsT t) ((hasT14 t).set key false) (n + 1) w.heap.size ⟨2, key, val, old⟩ w3.drew := H3.out.drew
  have kd1 : ∀ W, RefS b (valsT t) ((hasT14 t).set key false) (n + 1) w.heap.size ⟨2, key, val, old⟩ W → W.cell? ⟨w.heap.size, 1, none⟩ = some (.int .u8 (key : Nat)) := fun W hW => hW.box (i := 1) rfl
  have kd2 : ∀ W, RefS b (valsT t) ((hasT14 t).set key false) (n + 1) w.heap.size ⟨2, key, val, old⟩ W → W.cell? ⟨w.heap.size, 2, none⟩ = some (.int .u16 (val : Nat)) := fun W hW => hW.box (i := 2) rfl
  have kb : w3.drew.cell? ⟨b, key, none⟩ = some (.int .u16 (o.getD 0 : Nat)) := hd.1.val hv
  have fb := hd.1.free (key)
  refine wp_region_L_drew (st := 6) (S := fun W => RefS b (valsT t) ((hasT14 t).set key false) (n + 1) w.heap.size ⟨2, key, val, old⟩ W) (by kernel_rfl) hd (fun _ => ?_)
  refine tkL 0 (by simp only [tkA]; rfl) (by kernel_rfl) (by exact fun _ _ _ h => h) (by rfl) (by intro W hW; go_simp <;> with_reducible rfl) hd ?_
  try simp only [Act.put, tkT, tk0, tkS]
  refine tkL 1 (by simp only [tkA, tkG]; rfl) (by kernel_rfl) (by exact fun _ _ _ h => h) (by rfl) (by intro W hW; go_simp <;> with_reducible rfl) hd ?_
  try simp only [Act.put, tkT, tk0, tkS]
  refine tkL 2 (by simp only [tkA, tkG]; rfl) (by kernel_rfl) (by exact fun _ _ _ h => h) (by rfl) (by intro W hW; go_simp <;> with_reducible rfl) hd ?_
  try simp only [Act.put, tkT, tk0, tkS]
  refine tkL 3 (by simp only [tkA, tkG]; rfl) (by kernel_rfl) (by exact fun _ _ _ h => h) (by rfl) (by intro W hW; go_simp <;> with_reducible rfl) hd ?_
  try simp only [Act.put, tkT, tk0, tkS]
  refine tkL 4 (by simp only [tkA, tkG]; rfl) (by kernel_rfl) (by exact fun _ _ _ h => h) (by rfl) (by intro W hW; go_simp <;> with_reducible rfl) hd ?_
  try simp only [Act.put, tkT, tk0, tkS]
  refine tkL 5 (by simp only [tkA, tkG]; rfl) (by kernel_rfl) (by exact fun _ _ _ h => h) (by rfl) (by intro W hW; go_simp <;> with_reducible rfl) hd ?_
  try simp only [Act.put, tkT, tk0, tkS]
  refine wpAnyL_last (k := 6) (by kernel_rfl) (by simp only [tkA, tkG]; rfl) (fun K hK => ?_)
  go_simp
  go_wp2_with fail
  refine hK.out _ _ ?_
  clear hK K
  refine wpAnyL_done (by kernel_rfl) ?_ _
  have H4 := Lib.hid ((H3.out.setVal (k := key) (by omega) 0).drew)
  have HA4 := Lib.hid ((HA3.out.setCell (p := ⟨b, key, none⟩) (.inl rfl) (.int .u16 0)).drew)
  clear hd kd1 kd2 kb fb H3 HA3
  generalize (w3.setCell ⟨b, key, none⟩ (.int .u16 0)).drew = w4 at *
  have HG : Hid (RefGo w b (t.set key none) (n + 1) w4) := Lib.hid ⟨⟨by rw [List.length_set]; exact Hl.out, by rw [valsT_set, hasT_set]; exact H4.out.1⟩, HA4.out⟩
  clear H4 HA4 hv hh
  go_wp2_with fail
  go_ret2
  exact ⟨rfl, HG.out⟩


set_option maxHeartbeats 2000000 in
theorem refapply_stay (w : World) (b : Nat) (t : T) (n : Nat) (h : RefT w b t n) (hn : n ≤ 1000000) (c : Cmd) (hc : CmdIn c) (h7 : c.key ≤ 7) (o : Option Nat) (ho : tat t c.key = o) (h1 : c.kind = 3) (h2 : o ≠ some c.old) :
    Calls Try.prog 11 #[repV b, cmdV14 c] w (DonP14 w b (t) n (false)) := by
  have hbz := h.2.lt
  have hlen := h.1
  have hS0 : RefS b (valsT t) (hasT14 t) n w.heap.size c (w.alloc (.cells (cmdVals c).toArray 38)) := ⟨h.2.below ((Below.refl _ w).alloc (Nat.le_refl _) _), boxCmd w c, by omega⟩
  have hA0 : Apart (fun q => q = b) w (w.alloc (.cells (cmdVals c).toArray 38)) := (Apart.refl _ w).alloc _
  have hS1 := hS0.setCnt (n + 1)
  have hA1 := hA0.setCell (p := ⟨b, 16, none⟩) (.inl rfl) (.int .i64 ((n + 1 : Nat) : Int))
  have hv := valsT_at (t := t) (k := c.key) (by omega)
  have hh := hasT_at (t := t) (k := c.key) (by omega)
  rw [ho] at hv hh
  obtain ⟨kind, key, val, old⟩ := c
  obtain rfl : kind = 3 := h1
  simp only at hv hh h7
  have q7 : (key : Int) < 8 := by omega
  have q8 : ¬ ((7 : Int) < (key : Int)) := by omega
  have c0 : (w.alloc (.cells (cmdVals ⟨3, key, val, old⟩).toArray 38)).cell? ⟨w.heap.size, 0, none⟩ = some (.int .u8 3) := hS0.box (i := 0) rfl
  have c1 : (w.alloc (.cells (cmdVals ⟨3, key, val, old⟩).toArray 38)).cell? ⟨w.heap.size, 1, none⟩ = some (.int .u8 (key : Nat)) := hS0.box (i := 1) rfl
  have k16 := hS0.1.cnt
  have f16 := hS0.1.free 16
  have ew : IntKind.i64.wrap ((n : Int) + 1) = ((n + 1 : Nat) : Int) := by rw [IntWalk.i64_in _ (by omega)]; go_num
  have H1 := Lib.hid hS1
  have HA1 := Lib.hid hA1
  have Hl := Lib.hid hlen
  have HC := Lib.hid hc
  clear h hn hS0 hA0 hS1 hA1 hbz hlen hc ho
  generalize ((n + 1 : Nat) : Int) = n1 at *
  have ek : ((3 : Nat) : Int) = 3 := rfl
  simp only [cmdVals, ek] at *
  clear ek
  unfold repV cmdV14 at *
  go_enter Try.func11, Try.ntmps11
  go_wp2_with fail
  generalize ((w.alloc (.cells #[.int .u8 3, .int .u8 (key : Nat), .int .u16 (val : Nat), .int .u16 (old : Nat)] 38)).setCell ⟨b, 16, none⟩ (.int .i64 n1)) = w1 at *
  clear k16 f16 ew c0 c1
  have c0 : w1.cell? ⟨w.heap.size, 0, none⟩ = some (.int .u8 3) := H1.out.box (i := 0) rfl
  have c1 : w1.cell? ⟨w.heap.size, 1, none⟩ = some (.int .u8 (key : Nat)) := H1.out.box (i := 1) rfl
  have c2 : w1.cell? ⟨w.heap.size, 2, none⟩ = some (.int .u16 (val : Nat)) := H1.out.box (i := 2) rfl
  have c3 : w1.cell? ⟨w.heap.size, 3, none⟩ = some (.int .u16 (old : Nat)) := H1.out.box (i := 3) rfl
  have kv := H1.out.1.val hv
  have kh := H1.out.1.has hh
  go_quiet (fail)

  have H2 := Lib.hid (H1.out.drewN nq)
  have HA2 := Lib.hid (HA1.out.drewN nq)
  clear kv kh H1 HA1
  replace c0 : (w1.drewN nq).cell? ⟨w.heap.size, 0, none⟩ = some (.int .u8 3) := c0
  replace c1 : (w1.drewN nq).cell? ⟨w.heap.size, 1, none⟩ = some (.int .u8 (key : Nat)) := c1
  replace c2 : (w1.drewN nq).cell? ⟨w.heap.size, 2, none⟩ = some (.int .u16 (val : Nat)) := c2
  replace c3 : (w1.drewN nq).cell? ⟨w.heap.size, 3, none⟩ = some (.int .u16 (old : Nat)) := c3
  generalize w1.drewN nq = w2 at *
  have HG : Hid (RefGo w b t (n + 1) w2) := Lib.hid ⟨⟨Hl.out, H2.out.1⟩, HA2.out⟩
  clear H2 HA2 hv hh
  cases o with
  | none =>
    clear h2
    go_wp2_with fail
    go_ret2
    exact ⟨rfl, HG.out⟩
  | some v =>
    have hne : ¬ ((v : Int) = (old : Int)) := fun e => h2 (by rw [Int.ofNat_inj.1 e])
    clear h2
    go_wp2_with fail
    go_ret2
    exact ⟨rfl, HG.out⟩


set_option maxHeartbeats 2000000 in
theorem refapply_set (w : World) (b : Nat) (t : T) (n : Nat) (h : RefT w b t n) (hn : n ≤ 1000000) (c : Cmd) (hc : CmdIn c) (h7 : c.key ≤ 7) (o : Option Nat) (ho : tat t c.key = o) (h1 : c.kind = 1) :
    Calls Try.prog 11 #[repV b, cmdV14 c] w (DonP14 w b (t.set c.key (some c.val)) n (decide (o ≠ some c.val))) := by
  have hbz := h.2.lt
  have hlen := h.1
  have hS0 : RefS b (valsT t) (hasT14 t) n w.heap.size c (w.alloc (.cells (cmdVals c).toArray 38)) := ⟨h.2.below ((Below.refl _ w).alloc (Nat.le_refl _) _), boxCmd w c, by omega⟩
  have hA0 : Apart (fun q => q = b) w (w.alloc (.cells (cmdVals c).toArray 38)) := (Apart.refl _ w).alloc _
  have hS1 := hS0.setCnt (n + 1)
  have hA1 := hA0.setCell (p := ⟨b, 16, none⟩) (.inl rfl) (.int .i64 ((n + 1 : Nat) : Int))
  have hv := valsT_at (t := t) (k := c.key) (by omega)
  have hh := hasT_at (t := t) (k := c.key) (by omega)
  rw [ho] at hv hh
  obtain ⟨kind, key, val, old⟩ := c
  obtain rfl : kind = 1 := h1
  simp only at hv hh h7
  have q7 : (key : Int) < 8 := by omega
  have q8 : ¬ ((7 : Int) < (key : Int)) := by omega
  have c0 : (w.alloc (.cells (cmdVals ⟨1, key, val, old⟩).toArray 38)).cell? ⟨w.heap.size, 0, none⟩ = some (.int .u8 1) := hS0.box (i := 0) rfl
  have c1 : (w.alloc (.cells (cmdVals ⟨1, key, val, old⟩).toArray 38)).cell? ⟨w.heap.size, 1, none⟩ = some (.int .u8 (key : Nat)) := hS0.box (i := 1) rfl
  have k16 := hS0.1.cnt
  have f16 := hS0.1.free 16
  have ew : IntKind.i64.wrap ((n : Int) + 1) = ((n + 1 : Nat) : Int) := by rw [IntWalk.i64_in _ (by omega)]; go_num
  have H1 := Lib.hid hS1
  have HA1 := Lib.hid hA1
  have Hl := Lib.hid hlen
  have HC := Lib.hid hc
  clear h hn hS0 hA0 hS1 hA1 hbz hlen hc ho
  generalize ((n + 1 : Nat) : Int) = n1 at *
  have ek : ((1 : Nat) : Int) = 1 := rfl
  simp only [cmdVals, ek] at *
  clear ek
  unfold repV cmdV14 at *
  go_enter Try.func11, Try.ntmps11
  go_wp2_with fail
  generalize ((w.alloc (.cells #[.int .u8 1, .int .u8 (key : Nat), .int .u16 (val : Nat), .int .u16 (old : Nat)] 38)).setCell ⟨b, 16, none⟩ (.int .i64 n1)) = w1 at *
  clear k16 f16 ew c0 c1
  have c0 : w1.cell? ⟨w.heap.size, 0, none⟩ = some (.int .u8 1) := H1.out.box (i := 0) rfl
  have c1 : w1.cell? ⟨w.heap.size, 1, none⟩ = some (.int .u8 (key : Nat)) := H1.out.box (i := 1) rfl
  have c2 : w1.cell? ⟨w.heap.size, 2, none⟩ = some (.int .u16 (val : Nat)) := H1.out.box (i := 2) rfl
  have c3 : w1.cell? ⟨w.heap.size, 3, none⟩ = some (.int .u16 (old : Nat)) := H1.out.box (i := 3) rfl
  have kv := H1.out.1.val hv
  have kh := H1.out.1.has hh
  go_quiet (fail)

  have H2 := Lib.hid (H1.out.drewN nq)
  have HA2 := Lib.hid (HA1.out.drewN nq)
  clear kv kh H1 HA1
  replace c0 : (w1.drewN nq).cell? ⟨w.heap.size, 0, none⟩ = some (.int .u8 1) := c0
  replace c1 : (w1.drewN nq).cell? ⟨w.heap.size, 1, none⟩ = some (.int .u8 (key : Nat)) := c1
  replace c2 : (w1.drewN nq).cell? ⟨w.heap.size, 2, none⟩ = some (.int .u16 (val : Nat)) := c2
  replace c3 : (w1.drewN nq).cell? ⟨w.heap.size, 3, none⟩ = some (.int .u16 (old : Nat)) := c3
  generalize w1.drewN nq = w2 at *
  go_wp2_with fail
  clear c0 c1 c2 c3
  have hd : RefS b (valsT t) (hasT14 t) (n + 1) w.heap.size ⟨1, key, val, old⟩ w2.drew := H2.out.drew
  have kd1 : ∀ W, RefS b (valsT t) (hasT14 t) (n + 1) w.heap.size ⟨1, key, val, old⟩ W → W.cell? ⟨w.heap.size, 1, none⟩ = some (.int .u8 (key : Nat)) := fun W hW => hW.box (i := 1) rfl
  have kd2 : ∀ W, RefS b (valsT t) (hasT14 t) (n + 1) w.heap.size ⟨1, key, val, old⟩ W → W.cell? ⟨w.heap.size, 2, none⟩ = some (.int .u16 (val : Nat)) := fun W hW => hW.box (i := 2) rfl
  have kb : w2.drew.cell? ⟨b, 8 + key, none⟩ = some (.bool o.isSome) := hd.1.has hh
  have fb := hd.1.free (8 + key)
  refine wp_region_L_drew (st := 6) (S := fun W => RefS b (valsT t) (hasT14 t) (n + 1) w.heap.size ⟨1, key, val, old⟩ W) (by kernel_rfl) hd (fun _ => ?_)
  refine tkL 0 (by simp only [tkA]; rfl) (by kernel_rfl) (by exact fun _ _ _ h => h) (by rfl) (by intro W hW; go_simp <;> with_reducible rfl) hd ?_
  try simp only [Act.put, tkT, tk0, tkS]
  refine tkL 1 (by simp only [tkA, tkG]; rfl) (by kernel_rfl) (by exact fun _ _ _ h => h) (by rfl) (by intro W hW; go_simp <;> with_reducible rfl) hd ?_
  try simp only [Act.put, tkT, tk0, tkS]
  refine tkL 2 (by simp only [tkA, tkG]; rfl) (by kernel_rfl) (by exact fun _ _ _ h => h) (by rfl) (by intro W hW; go_simp <;> with_reducible rfl) hd ?_
  try simp only [Act.put, tkT, tk0, tkS]
  refine tkL 3 (by simp only [tkA, tkG]; rfl) (by kernel_rfl) (by exact fun _ _ _ h => h) (by rfl) (by intro W hW; go_simp <;> with_reducible rfl) hd ?_
  try simp only [Act.put, tkT, tk0, tkS]
  refine tkL 4 (by simp only [tkA, tkG]; rfl) (by kernel_rfl) (by exact fun _ _ _ h => h) (by rfl) (by intro W hW; go_simp <;> with_reducible rfl) hd ?_
  try simp only [Act.put, tkT, tk0, tkS]
  refine tkL 5 (by simp only [tkA, tkG]; rfl) (by kernel_rfl) (by exact fun _ _ _ h => h) (by rfl) (by intro W hW; go_simp <;> with_reducible rfl) hd ?_
  try simp only [Act.put, tkT, tk0, tkS]
  refine wpAnyL_last (k := 6) (by kernel_rfl) (by simp only [tkA, tkG]; rfl) (fun K hK => ?_)
  go_simp
  go_wp2_with fail
  refine hK.out _ _ ?_
  clear hK K
  refine wpAnyL_done (by kernel_rfl) ?_ _
  have H3 := Lib.hid ((H2.out.setHas (k := key) (by omega) true).drew)
  have HA3 := Lib.hid ((HA2.out.setCell (p := ⟨b, 8 + key, none⟩) (.inl rfl) (.bool true)).drew)
  clear hd kd1 kd2 kb fb H2 HA2
  generalize (w2.setCell ⟨b, 8 + key, none⟩ (.bool true)).drew = w3 at *
  go_wp2_with fail
  have hd : RefS b (valsT t) ((hasT14 t).set key true) (n + 1) w.heap.size ⟨1, key, val, old⟩ w3.drew := H3.out.drew
  have kd1 : ∀ W, RefS b (valsT t) ((hasT14 t).set key true) (n + 1) w.heap.size ⟨1, key, val, old⟩ W → W.cell? ⟨w.heap.size, 1, none⟩ = some (.int .u8 (key : Nat)) := fun W hW => hW.box (i := 1) rfl
  have kd2 : ∀ W, RefS b (valsT t) ((hasT14 t).set key true) (n + 1) w.heap.size ⟨1, key, val, old⟩ W → W.cell? ⟨w.heap.size, 2, none⟩ = some (.int .u16 (val : Nat)) := fun W hW => hW.box (i := 2) rfl
  have kb : w3.drew.cell? ⟨b, key, none⟩ = some (.int .u16 (o.getD 0 : Nat)) := hd.1.val hv
  have fb := hd.1.free (key)
  refine wp_region_L_drew (st := 8) (S := fun W => RefS b (valsT t) ((hasT14 t).set key true) (n + 1) w.heap.size ⟨1, key, val, old⟩ W) (by kernel_rfl) hd (fun _ => ?_)
  refine tkL 0 (by simp only [tkA]; rfl) (by kernel_rfl) (by exact fun _ _ _ h => h) (by rfl) (by intro W hW; go_simp <;> with_reducible rfl) hd ?_
  try simp only [Act.put, tkT, tk0, tkS]
  refine tkL 1 (by simp only [tkA, tkG]; rfl) (by kernel_rfl) (by exact fun _ _ _ h => h) (by rfl) (by intro W hW; go_simp <;> with_reducible rfl) hd ?_
  try simp only [Act.put, tkT, tk0, tkS]
  refine tkL 2 (by simp only [tkA, tkG]; rfl) (by kernel_rfl) (by exact fun _ _ _ h => h) (by rfl) (by intro W hW; go_simp <;> with_reducible rfl) hd ?_
  try simp only [Act.put, tkT, tk0, tkS]
  refine tkL 3 (by simp only [tkA, tkG]; rfl) (by kernel_rfl) (by exact fun _ _ _ h => h) (by rfl) (by intro W hW; go_simp <;> with_reducible rfl) hd ?_
  try simp only [Act.put, tkT, tk0, tkS]
  refine tkL 4 (by simp only [tkA, tkG]; rfl) (by kernel_rfl) (by exact fun _ _ _ h => h) (by rfl) (by intro W hW; go_simp <;> with_reducible rfl) hd ?_
  try simp only [Act.put, tkT, tk0, tkS]
  refine tkL 5 (by simp only [tkA, tkG]; rfl) (by kernel_rfl) (by exact fun _ _ _ h => h) (by rfl) (by intro W hW; go_simp <;> with_reducible rfl) hd ?_
  try simp only [Act.put, tkT, tk0, tkS]
  refine tkL 6 (by simp only [tkA, tkG]; rfl) (by kernel_rfl) (by exact fun _ _ _ h => h) (by rfl) (by intro W hW; go_simp <;> with_reducible rfl) hd ?_
  try simp only [Act.put, tkT, tk0, tkS]
  refine tkL 7 (by simp only [tkA, tkG]; rfl) (by kernel_rfl) (by exact fun _ _ _ h => h) (by rfl) (by intro W hW; go_simp <;> with_reducible rfl) hd ?_
  try simp only [Act.put, tkT, tk0, tkS]
  refine wpAnyL_last (k := 8) (by kernel_rfl) (by simp only [tkA, tkG]; rfl) (fun K hK => ?_)
  go_simp
  go_wp2_with fail
  refine hK.out _ _ ?_
  clear hK K
  refine wpAnyL_done (by kernel_rfl) ?_ _
  have H4 := Lib.hid ((H3.out.setVal (k := key) (by omega) val).drew)
  have HA4 := Lib.hid ((HA3.out.setCell (p := ⟨b, key, none⟩) (.inl rfl) (.int .u16 (val : Nat))).drew)
  clear hd kd1 kd2 kb fb H3 HA3
  generalize (w3.setCell ⟨b, key, none⟩ (.int .u16 (val : Nat))).drew = w4 at *
  have HG : Hid (RefGo w b (t.set key (some val)) (n + 1) w4) := Lib.hid ⟨⟨by rw [List.length_set]; exact Hl.out, by rw [valsT_set, hasT_set]; exact H4.out.1⟩, HA4.out⟩
  have c2 : w4.cell? ⟨w.heap.size, 2, none⟩ = some (.int .u16 (val : Nat)) := H4.out.box (i := 2) rfl
  clear H4 HA4 hv hh

  cases o with
  | none =>
    go_wp2_with fail
    go_ret2
    exact ⟨by simp, HG.out⟩
  | some v =>
    by_cases hv : v = val
    · subst hv
      go_wp2_with fail
      go_ret2
      exact ⟨by simp, HG.out⟩
    · have hne : ¬ ((v : Int) = (val : Int)) := by omega
      have HN := Lib.hid hv
      clear hv
      go_wp2_with fail
      go_ret2
      exact ⟨by simp [hne, HN.out], HG.out⟩


set_option maxHeartbeats 2000000 in
theorem refapply_swap (w : World) (b : Nat) (t : T) (n : Nat) (h : RefT w b t n) (hn : n ≤ 1000000) (c : Cmd) (hc : CmdIn c) (h7 : c.key ≤ 7) (o : Option Nat) (ho : tat t c.key = o) (h1 : c.kind = 3) (h2 : o = some c.old) :
    Calls Try.prog 11 #[repV b, cmdV14 c] w (DonP14 w b (t.set c.key (some c.val)) n (decide (o ≠ some c.val))) := by
  have hbz := h.2.lt
  have hlen := h.1
  have hS0 : RefS b (valsT t) (hasT14 t) n w.heap.size c (w.alloc (.cells (cmdVals c).toArray 38)) := ⟨h.2.below ((Below.refl _ w).alloc (Nat.le_refl _) _), boxCmd w c, by omega⟩
  have hA0 : Apart (fun q => q = b) w (w.alloc (.cells (cmdVals c).toArray 38)) := (Apart.refl _ w).alloc _
  have hS1 := hS0.setCnt (n + 1)
  have hA1 := hA0.setCell (p := ⟨b, 16, none⟩) (.inl rfl) (.int .i64 ((n + 1 : Nat) : Int))
  have hv := valsT_at (t := t) (k := c.key) (by omega)
  have hh := hasT_at (t := t) (k := c.key) (by omega)
  rw [ho] at hv hh
  obtain ⟨kind, key, val, old⟩ := c
  obtain rfl : kind = 3 := h1
  simp only at hv hh h7
  have q7 : (key : Int) < 8 := by omega
  have q8 : ¬ ((7 : Int) < (key : Int)) := by omega
  have c0 : (w.alloc (.cells (cmdVals ⟨3, key, val, old⟩).toArray 38)).cell? ⟨w.heap.size, 0, none⟩ = some (.int .u8 3) := hS0.box (i := 0) rfl
  have c1 : (w.alloc (.cells (cmdVals ⟨3, key, val, old⟩).toArray 38)).cell? ⟨w.heap.size, 1, none⟩ = some (.int .u8 (key : Nat)) := hS0.box (i := 1) rfl
  have k16 := hS0.1.cnt
  have f16 := hS0.1.free 16
  have ew : IntKind.i64.wrap ((n : Int) + 1) = ((n + 1 : Nat) : Int) := by rw [IntWalk.i64_in _ (by omega)]; go_num
  have H1 := Lib.hid hS1
  have HA1 := Lib.hid hA1
  have Hl := Lib.hid hlen
  have HC := Lib.hid hc
  clear h hn hS0 hA0 hS1 hA1 hbz hlen hc ho
  generalize ((n + 1 : Nat) : Int) = n1 at *
  have ek : ((3 : Nat) : Int) = 3 := rfl
  simp only [cmdVals, ek] at *
  clear ek
  unfold repV cmdV14 at *
  go_enter Try.func11, Try.ntmps11
  go_wp2_with fail
  generalize ((w.alloc (.cells #[.int .u8 3, .int .u8 (key : Nat), .int .u16 (val : Nat), .int .u16 (old : Nat)] 38)).setCell ⟨b, 16, none⟩ (.int .i64 n1)) = w1 at *
  clear k16 f16 ew c0 c1
  have c0 : w1.cell? ⟨w.heap.size, 0, none⟩ = some (.int .u8 3) := H1.out.box (i := 0) rfl
  have c1 : w1.cell? ⟨w.heap.size, 1, none⟩ = some (.int .u8 (key : Nat)) := H1.out.box (i := 1) rfl
  have c2 : w1.cell? ⟨w.heap.size, 2, none⟩ = some (.int .u16 (val : Nat)) := H1.out.box (i := 2) rfl
  have c3 : w1.cell? ⟨w.heap.size, 3, none⟩ = some (.int .u16 (old : Nat)) := H1.out.box (i := 3) rfl
  have kv := H1.out.1.val hv
  have kh := H1.out.1.has hh
  go_quiet (fail)

  have H2 := Lib.hid (H1.out.drewN nq)
  have HA2 := Lib.hid (HA1.out.drewN nq)
  clear kv kh H1 HA1
  replace c0 : (w1.drewN nq).cell? ⟨w.heap.size, 0, none⟩ = some (.int .u8 3) := c0
  replace c1 : (w1.drewN nq).cell? ⟨w.heap.size, 1, none⟩ = some (.int .u8 (key : Nat)) := c1
  replace c2 : (w1.drewN nq).cell? ⟨w.heap.size, 2, none⟩ = some (.int .u16 (val : Nat)) := c2
  replace c3 : (w1.drewN nq).cell? ⟨w.heap.size, 3, none⟩ = some (.int .u16 (old : Nat)) := c3
  generalize w1.drewN nq = w2 at *
  obtain rfl : o = some old := h2
  simp only [Option.isSome_some, Option.getD_some] at hv hh ⊢
  go_wp2_with fail
  clear c0 c1 c2 c3
  have hd : RefS b (valsT t) (hasT14 t) (n + 1) w.heap.size ⟨3, key, val, old⟩ w2.drew := H2.out.drew
  have kd1 : ∀ W, RefS b (valsT t) (hasT14 t) (n + 1) w.heap.size ⟨3, key, val, old⟩ W → W.cell? ⟨w.heap.size, 1, none⟩ = some (.int .u8 (key : Nat)) := fun W hW => hW.box (i := 1) rfl
  have kd2 : ∀ W, RefS b (valsT t) (hasT14 t) (n + 1) w.heap.size ⟨3, key, val, old⟩ W → W.cell? ⟨w.heap.size, 2, none⟩ = some (.int .u16 (val : Nat)) := fun W hW => hW.box (i := 2) rfl
  have kb : w2.drew.cell? ⟨b, 8 + key, none⟩ = some (.bool true) := hd.1.has hh
  have fb := hd.1.free (8 + key)
  refine wp_region_L_drew (st := 6) (S := fun W => RefS b (valsT t) (hasT14 t) (n + 1) w.heap.size ⟨3, key, val, old⟩ W) (by kernel_rfl) hd (fun _ => ?_)
  refine tkL 0 (by simp only [tkA]; rfl) (by kernel_rfl) (by exact fun _ _ _ h => h) (by rfl) (by intro W hW; go_simp <;> with_reducible rfl) hd ?_
  try simp only [Act.put, tkT, tk0, tkS]
  refine tkL 1 (by simp only [tkA, tkG]; rfl) (by kernel_rfl) (by exact fun _ _ _ h => h) (by rfl) (by intro W hW; go_simp <;> with_reducible rfl) hd ?_
  try simp only [Act.put, tkT, tk0, tkS]
  refine tkL 2 (by simp only [tkA, tkG]; rfl) (by kernel_rfl) (by exact fun _ _ _ h => h) (by rfl) (by intro W hW; go_simp <;> with_reducible rfl) hd ?_
  try simp only [Act.put, tkT, tk0, tkS]
  refine tkL 3 (by simp only [tkA, tkG]; rfl) (by kernel_rfl) (by exact fun _ _ _ h => h) (by rfl) (by intro W hW; go_simp <;> with_reducible rfl) hd ?_
  try simp only [Act.put, tkT, tk0, tkS]
  refine tkL 4 (by simp only [tkA, tkG]; rfl) (by kernel_rfl) (by exact fun _ _ _ h => h) (by rfl) (by intro W hW; go_simp <;> with_reducible rfl) hd ?_
  try simp only [Act.put, tkT, tk0, tkS]
  refine tkL 5 (by simp only [tkA, tkG]; rfl) (by kernel_rfl) (by exact fun _ _ _ h => h) (by rfl) (by intro W hW; go_simp <;> with_reducible rfl) hd ?_
  try simp only [Act.put, tkT, tk0, tkS]
  refine wpAnyL_last (k := 6) (by kernel_rfl) (by simp only [tkA, tkG]; rfl) (fun K hK => ?_)
  go_simp
  go_wp2_with fail
  refine hK.out _ _ ?_
  clear hK K
  refine wpAnyL_done (by kernel_rfl) ?_ _
  have H3 := Lib.hid ((H2.out.setHas (k := key) (by omega) true).drew)
  have HA3 := Lib.hid ((HA2.out.setCell (p := ⟨b, 8 + key, none⟩) (.inl rfl) (.bool true)).drew)
  clear hd kd1 kd2 kb fb H2 HA2
  generalize (w2.setCell ⟨b, 8 + key, none⟩ (.bool true)).drew = w3 at *
  go_wp2_with fail
  have hd : RefS b (valsT t) ((hasT14 t).set key true) (n + 1) w.heap.size ⟨3, key, val, old⟩ w3.drew := H3.out.drew
  have kd1 : ∀ W, RefS b (valsT t) ((hasT14 t).set key true) (n + 1) w.heap.size ⟨3, key, val, old⟩ W → W.cell? ⟨w.heap.size, 1, none⟩ = some (.int .u8 (key : Nat)) := fun W hW => hW.box (i := 1) rfl
  have kd2 : ∀ W, RefS b (valsT t) ((hasT14 t).set key true) (n + 1) w.heap.size ⟨3, key, val, old⟩ W → W.cell? ⟨w.heap.size, 2, none⟩ = some (.int .u16 (val : Nat)) := fun W hW => hW.box (i := 2) rfl
  have kb : w3.drew.cell? ⟨b, key, none⟩ = some (.int .u16 (old : Nat)) := hd.1.val hv
  have fb := hd.1.free (key)
  refine wp_region_L_drew (st := 8) (S := fun W => RefS b (valsT t) ((hasT14 t).set key true) (n + 1) w.heap.size ⟨3, key, val, old⟩ W) (by kernel_rfl) hd (fun _ => ?_)
  refine tkL 0 (by simp only [tkA]; rfl) (by kernel_rfl) (by exact fun _ _ _ h => h) (by rfl) (by intro W hW; go_simp <;> with_reducible rfl) hd ?_
  try simp only [Act.put, tkT, tk0, tkS]
  refine tkL 1 (by simp only [tkA, tkG]; rfl) (by kernel_rfl) (by exact fun _ _ _ h => h) (by rfl) (by intro W hW; go_simp <;> with_reducible rfl) hd ?_
  try simp only [Act.put, tkT, tk0, tkS]
  refine tkL 2 (by simp only [tkA, tkG]; rfl) (by kernel_rfl) (by exact fun _ _ _ h => h) (by rfl) (by intro W hW; go_simp <;> with_reducible rfl) hd ?_
  try simp only [Act.put, tkT, tk0, tkS]
  refine tkL 3 (by simp only [tkA, tkG]; rfl) (by kernel_rfl) (by exact fun _ _ _ h => h) (by rfl) (by intro W hW; go_simp <;> with_reducible rfl) hd ?_
  try simp only [Act.put, tkT, tk0, tkS]
  refine tkL 4 (by simp only [tkA, tkG]; rfl) (by kernel_rfl) (by exact fun _ _ _ h => h) (by rfl) (by intro W hW; go_simp <;> with_reducible rfl) hd ?_
  try simp only [Act.put, tkT, tk0, tkS]
  refine tkL 5 (by simp only [tkA, tkG]; rfl) (by kernel_rfl) (by exact fun _ _ _ h => h) (by rfl) (by intro W hW; go_simp <;> with_reducible rfl) hd ?_
  try simp only [Act.put, tkT, tk0, tkS]
  refine tkL 6 (by simp only [tkA, tkG]; rfl) (by kernel_rfl) (by exact fun _ _ _ h => h) (by rfl) (by intro W hW; go_simp <;> with_reducible rfl) hd ?_
  try simp only [Act.put, tkT, tk0, tkS]
  refine tkL 7 (by simp only [tkA, tkG]; rfl) (by kernel_rfl) (by exact fun _ _ _ h => h) (by rfl) (by intro W hW; go_simp <;> with_reducible rfl) hd ?_
  try simp only [Act.put, tkT, tk0, tkS]
  refine wpAnyL_last (k := 8) (by kernel_rfl) (by simp only [tkA, tkG]; rfl) (fun K hK => ?_)
  go_simp
  go_wp2_with fail
  refine hK.out _ _ ?_
  clear hK K
  refine wpAnyL_done (by kernel_rfl) ?_ _
  have H4 := Lib.hid ((H3.out.setVal (k := key) (by omega) val).drew)
  have HA4 := Lib.hid ((HA3.out.setCell (p := ⟨b, key, none⟩) (.inl rfl) (.int .u16 (val : Nat))).drew)
  clear hd kd1 kd2 kb fb H3 HA3
  generalize (w3.setCell ⟨b, key, none⟩ (.int .u16 (val : Nat))).drew = w4 at *
  have HG : Hid (RefGo w b (t.set key (some val)) (n + 1) w4) := Lib.hid ⟨⟨by rw [List.length_set]; exact Hl.out, by rw [valsT_set, hasT_set]; exact H4.out.1⟩, HA4.out⟩
  have c2 : w4.cell? ⟨w.heap.size, 2, none⟩ = some (.int .u16 (val : Nat)) := H4.out.box (i := 2) rfl
  clear H4 HA4 hv hh

  by_cases hv : old = val
  · subst hv
    go_wp2_with fail
    go_ret2
    exact ⟨by simp, HG.out⟩
  · have hne : ¬ ((old : Int) = (val : Int)) := by omega
    have HN := Lib.hid hv
    clear hv
    go_wp2_with fail
    go_ret2
    exact ⟨by simp [hne, HN.out], HG.out⟩


theorem refapply_any (w : World) (b : Nat) (t : T) (n : Nat) (h : RefT w b t n) (hn : n ≤ 1000000) (c : Cmd) (hc : CmdIn c) : Calls Try.prog 11 #[repV b, cmdV14 c] w (RAppP14 w b t n c) := by
  cases hd : doneB c with
  | false => exact refapply_no w b t n h c hd
  | true =>
    have hz : txtN (badT c) = [] := by rw [done_bad hd]; rfl
    obtain ⟨h0, h7, h3⟩ := of_decide_eq_true hd
    have fin : ∀ t' tl, applyT t c = t' → toldT t c = tl → ∀ e w', DonP14 w b t' n tl e w' → RAppP14 w b t n c e w' := fun t' tl h1 h2 e w' h3 => by
      refine ⟨by rw [h2, hz]; exact h3.1, ?_⟩
      rw [h1, hd]
      exact h3.2
    rcases (show c.kind = 1 ∨ c.kind = 2 ∨ c.kind = 3 by omega) with h1 | h1 | h1
    · obtain ⟨e1, e2⟩ := put_apply (t := t) (.inl h1) h7
      exact (refapply_set w b t n h hn c hc h7 _ rfl h1).mono (fin _ _ e1 e2)
    · obtain ⟨e1, e2⟩ := drop_apply (t := t) h1 h7
      exact (refapply_drop w b t n h hn c hc h7 _ rfl h1).mono (fin _ _ e1 e2)
    · by_cases h2 : tat t c.key = some c.old
      · obtain ⟨e1, e2⟩ := put_apply (t := t) (.inr ⟨h1, h2⟩) h7
        exact (refapply_swap w b t n h hn c hc h7 _ rfl h1 h2).mono (fin _ _ e1 e2)
      · obtain ⟨e1, e2⟩ := swap_no h.1 h1 h7 h2
        exact (refapply_stay w b t n h hn c hc h7 _ rfl h1 h2).mono (fin _ _ e1 e2)
end Go.Proofs.Ytcibnjcnbocbdaa
