/- The document's monitor in memory (RMem), and contracts of its Watch and Seal. Conditions: where it lies; at most 255 partitions. -/
import Derived.Test.YtabndibenffngaaDoorHeaE
import Derived.Test.YtabndibenffngaaDoorMidBa
import Derived.Deep.OwnRows
import Derived.Deep.CutRange
import Derived.BigQuiet
namespace Go.Proofs.YtabndibenffngaaDoor
open Go.RowKit HeaP
set_option maxRecDepth 100000

def nV (l : List Nat) : List Value := l.map fun x => .int .i64 (x : Nat)
theorem nV_len (l : List Nat) : (nV l).length = l.length := List.length_map _
theorem nV_set (l : List Nat) (p x : Nat) : nV (l.set p x) = (nV l).set p (.int .i64 (x : Nat)) := by unfold nV; rw [List.map_set]
theorem nV_get {l : List Nat} {p : Nat} (h : p < l.length) : (nV l)[p]? = some (.int .i64 (l[p]?.getD 0 : Nat)) := by
  unfold nV
  rw [List.getElem?_map, List.getElem?_eq_getElem h]
  rfl
structure RMem (w : World) (B r node : Nat) (vs vl vw vo : Value) (parts : List TableP.Part) (m : Mon) : Prop where
  hd : w.heap[r]? = some (.cells #[.int .i64 (node : Nat), vs, vl, vw, vo] 93 (0, 0))
  ps : w.ownsRow B 50 9 vs parts.length (itemsV partVals parts)
  last : w.ownsRow B 3 1 vl parts.length (nV m.last)
  row : w.ownsRow B 3 1 vw parts.length (nV m.row)
  lw : ∀ k, vl.ownBlock = some k → vw.ownBlock ≠ some k
  out : w.ownsRow B 69 5 vo m.out.length (recsVals m.out)
  base : B ≤ r
/-- The blocks that it may write. -/
def RFd (r : Nat) (vl vw vo : Value) (k : Nat) : Prop := k = r ∨ vl.ownBlock = some k ∨ vw.ownBlock = some k ∨ vo.ownBlock = some k
theorem RMem.apart {w w' : World} {B r node : Nat} {vs vl vw vo : Value} {parts : List TableP.Part} {m : Mon} {F : Nat → Prop} (h : RMem w B r node vs vl vw vo parts m) (ha : Apart F w w') (h1 : ∀ k, RFd r vl vw vo k → ¬ F k) (h2 : ∀ k, vs.ownBlock = some k → ¬ F k) : RMem w' B r node vs vl vw vo parts m :=
  ⟨(ha.block r (lt_of_block h.hd) (h1 r (.inl rfl))).trans h.hd, own_apart h.ps ha h2, own_apart h.last ha fun k hk => h1 k (.inr (.inl hk)), own_apart h.row ha fun k hk => h1 k (.inr (.inr (.inl hk))), h.lw, own_apart h.out ha fun k hk => h1 k (.inr (.inr (.inr hk))), h.base⟩
theorem RMem.keep {w w' : World} {B r node : Nat} {vs vl vw vo : Value} {parts : List TableP.Part} {m : Mon} (h : RMem w B r node vs vl vw vo parts m) (hb : Below w.heap.size w w') : RMem w' B r node vs vl vw vo parts m := h.apart (F := fun _ => False) (Apart.of_below' hb) (fun _ _ h => h) (fun _ _ h => h)
theorem RMem.lt {w : World} {B r node : Nat} {vs vl vw vo : Value} {parts : List TableP.Part} {m : Mon} (h : RMem w B r node vs vl vw vo parts m) {k : Nat} (hk : RFd r vl vw vo k) : B ≤ k ∧ k < w.heap.size := by
  rcases hk with rfl | hk | hk | hk
  · exact ⟨h.base, lt_of_block h.hd⟩
  · exact (Seg.of_own h.last).lt k hk
  · exact (Seg.of_own h.row).lt k hk
  · exact (Seg.of_own h.out).lt k hk

theorem nats_made {w : World} {B n : Nat} (hB : B ≤ w.heap.size) (hn : n ≤ maxLen) : (w.alloc (.cells (madeCells #[.int .i64 0] n) 3)).ownsRow B 3 1 (.slice (some ⟨w.heap.size, 0, none⟩) n n) n (nV (List.replicate n 0)) := by
  have h1 := World.ownsRow_lit (e := 3) (size := 1) (base := B) w (madeCells #[.int .i64 0] n) n hB hn (by have := congrArg List.length (toList_madeCells_one (.int .i64 0) n); simpa using this)
  rw [toList_madeCells_one] at h1
  have e1 : nV (List.replicate n 0) = List.replicate n (.int .i64 0) := by simp [nV]
  rw [e1]
  exact h1
def WatH (w : World) (B node : Nat) (vs : Value) (parts : List TableP.Part) (e : Ending) (w' : World) : Prop :=
  ∃ r vl vw, e = .returned (.pointer (some ⟨r, 0, none⟩)) ∧ RMem w' B r node vs vl vw (.slice none 0 0) parts (Mon.start parts.length) ∧ w.heap.size ≤ r ∧ (∀ k, RFd r vl vw (.slice none 0 0) k → w.heap.size ≤ k) ∧ Below w.heap.size w w'
theorem wat_two {w W W' : World} {B node n g1 g2 : Nat} {vs : Value} {parts : List TableP.Part} (hn : parts.length = n) (hps : w.ownsRow B 50 9 vs parts.length (itemsV partVals parts)) (hB : B ≤ w.heap.size) (hW : Below w.heap.size w W)
    (o1 : W.ownsRow w.heap.size 3 1 (.slice (some ⟨g1, 0, none⟩) n n) n (nV (List.replicate n 0))) (o2 : W.ownsRow w.heap.size 3 1 (.slice (some ⟨g2, 0, none⟩) n n) n (nV (List.replicate n 0))) (hne : g1 ≠ g2) (hW' : W' = W.alloc (.cells #[.int .i64 (node : Nat), vs, .slice (some ⟨g1, 0, none⟩) n n, .slice (some ⟨g2, 0, none⟩) n n, .slice none 0 0] 93)) :
    WatH w B node vs parts (.returned (.pointer (some ⟨W.heap.size, 0, none⟩))) W' := by
  subst hW'
  have hb : Below W.heap.size W (W.alloc (.cells #[.int .i64 (node : Nat), vs, .slice (some ⟨g1, 0, none⟩) n n, .slice (some ⟨g2, 0, none⟩) n n, .slice none 0 0] 93)) := (Below.refl _ _).alloc (Nat.le_refl _) _
  have hmono : ∀ {v : Value}, W.ownsRow w.heap.size 3 1 v n (nV (List.replicate n 0)) → W.ownsRow B 3 1 v n (nV (List.replicate n 0)) := fun {v} h => by
    refine ⟨h.1, ?_⟩
    rcases h.2 with h2 | ⟨g, c, cur, e, hg, rest⟩
    · exact .inl h2
    · exact .inr ⟨g, c, cur, e, Nat.le_trans hB hg, rest⟩
  have e0 : (Mon.start parts.length).last = List.replicate n 0 := by unfold Mon.start; rw [hn]
  have e1 : (Mon.start parts.length).row = List.replicate n 0 := by unfold Mon.start; rw [hn]
  refine ⟨_, _, _, rfl, ⟨heap_alloc_new W _, own_apart hps (Apart.of_below' (F := fun _ => False) (hW.trans (hb.mono hW.size))) (fun _ _ h => h), ?_, ?_, ?_, World.ownsRow_nil _ _ _ _, Nat.le_trans hB hW.size⟩, hW.size, ?_, hW.trans (hb.mono hW.size)⟩
  · rw [e0, hn]; exact own_apart (hmono o1) (Apart.of_below' (F := fun _ => False) hb) (fun _ _ h => h)
  · rw [e1, hn]; exact own_apart (hmono o2) (Apart.of_below' (F := fun _ => False) hb) (fun _ _ h => h)
  · intro k hk hk2
    have a : g1 = k := Option.some.inj hk
    have b : g2 = k := Option.some.inj hk2
    omega
  · intro k hk
    rcases hk with rfl | hk | hk | hk
    · exact hW.size
    · exact ((Seg.of_own o1).lt k hk).1
    · exact ((Seg.of_own o2).lt k hk).1
    · cases hk
set_option maxHeartbeats 2000000 in
theorem hwatch_any (w : World) (B node : Nat) (A : Option Addr) (n cap : Nat) (parts : List TableP.Part) (hl : parts.length = n) (hn : n ≤ 255) (hB : B ≤ w.heap.size) (hps : w.ownsRow B 50 9 (.slice A n cap) parts.length (itemsV partVals parts)) :
    Calls Tryd.prog 20 #[.int .i64 (node : Nat), .slice A n cap] w (WatH w B node (.slice A n cap) parts) := by
  have hd0 : Below w.heap.size w w.drew := (Below.refl _ _).drew
  have o1 := nats_made (w := w.drew) (B := w.heap.size) (n := n) (Nat.le_refl _) (by unfold maxLen; omega)
  have hm1 := hd0.alloc hd0.size (.cells (madeCells #[.int .i64 0] n) 3)
  have o2 := nats_made (w := w.drew.alloc (.cells (madeCells #[.int .i64 0] n) 3)) (B := w.heap.size) (n := n) hm1.size (by unfold maxLen; omega)
  have o1' := own_apart o1 (Apart.of_below' (F := fun _ => False) ((Below.refl _ (w.drew.alloc (.cells (madeCells #[.int .i64 0] n) 3))).alloc (Nat.le_refl _) (.cells (madeCells #[.int .i64 0] n) 3))) (fun _ _ h => h)
  have hm2 := hm1.alloc hm1.size (.cells (madeCells #[.int .i64 0] n) 3)
  have HA := Lib.hid (fun W' hW' => wat_two (W' := W') (node := node) hl hps hB hm2 o1' o2 (by simp) hW')
  have HB := Lib.hid (fun W' hW' => wat_two (W' := W') (node := node) hl hps hB hm2 o2 o1' (by simp) hW')
  have hmk : ∀ W, (Instr.makeSlice 66 (.int .i64 (n : Int)) (.int .i64 (n : Int))).run Tryd.prog W = .ok (.slice (some ⟨W.heap.size, 0, none⟩) n n) (W.alloc (.cells (madeCells #[.int .i64 0] n) 3)) := fun W => run_make_row' (P := Tryd.prog) 66 3 (.int .i64 0) 8 Tryd.underlying66 infoInt rfl .i64 .i64 n (by omega) (by omega) W
  clear o1 o2 o1' hps
  go_enter Tryd.func20, Tryd.ntmps20
  go_wp2_with fail
  refine wp_region_held_drew (S := fun W => Below w.heap.size w W) (by kernel_rfl) hd0 (fun _ => ?_)
  refine tkH 0 (by simp only [tkA]; rfl) (by kernel_rfl) (by exact fun _ _ _ h => h) (by rfl) (by intro W hW; go_simp <;> with_reducible rfl) hd0 ?_
  try simp only [Act.put, tkT, tk0, tkS]
  refine tkH 1 (by simp only [tkA, tkG]; rfl) (by kernel_rfl) (by exact fun _ _ _ h => h) (by rfl) (by intro W hW; go_simp <;> with_reducible rfl) hd0 ?_
  try simp only [Act.put, tkT, tk0, tkS]
  refine tkH 2 (by simp only [tkA, tkG]; rfl) (by kernel_rfl) (by exact fun _ _ _ h => h) (by rfl) (by intro W hW; go_simp <;> with_reducible rfl) hd0 ?_
  try simp only [Act.put, tkT, tk0, tkS]
  refine tkH 3 (by simp only [tkA, tkG]; rfl) (by kernel_rfl) (by exact fun _ _ _ h => h) (by rfl) (by intro W hW; go_simp <;> with_reducible rfl) hd0 ?_
  try simp only [Act.put, tkT, tk0, tkS]
  refine tkH 5 (by simp only [tkA, tkG]; rfl) (by kernel_rfl) (by exact fun _ _ _ h => h) (by rfl) (by intro W hW; go_simp <;> with_reducible rfl) hd0 ?_
  try simp only [Act.put, tkT, tk0, tkS]
  refine tkH 6 (by simp only [tkA, tkG]; rfl) (by kernel_rfl) (by exact fun _ _ _ h => h) (by rfl) (by intro W hW; go_simp <;> with_reducible rfl) hd0 ?_
  try simp only [Act.put, tkT, tk0, tkS]
  refine wpAnyH_ready (rs := [4, 7]) (by kernel_rfl) (by simp) (AllReadyH.cons (by simp only [tkA, tkG]; rfl) (fun K hK => ?_) (AllReadyH.cons (by simp only [tkA, tkG]; rfl) (fun K hK => ?_) AllReadyH.nil))
  · go_simp
    go_wp2_with fail
    refine hK.out _ _ hm1 (fun _ => ?_)
    clear hK K
    refine clH 7 (by kernel_rfl) (by simp only [tkA, tkG]; rfl) (fun K hK => ?_)
    go_simp
    go_wp2_with fail
    refine hK.out _ _ hm2 (fun _ => ?_)
    clear hK K
    refine tkH 8 (by simp only [tkA, tkG]; rfl) (by kernel_rfl) (by exact fun _ _ _ h => h) (by rfl) (by intro W hW; go_simp <;> with_reducible rfl) hm2 ?_
    try simp only [Act.put, tkT, tk0, tkS]
    refine clH 9 (by kernel_rfl) (by simp only [tkA, tkG]; rfl) (fun K hK => ?_)
    go_simp
    have hm3 := hm2.alloc hm2.size (.cells #[.int .i64 (node : Nat), .slice A n cap, .slice (some ⟨w.heap.size, 0, none⟩) n n, .slice (some ⟨w.heap.size + 1, 0, none⟩) n n, .slice none 0 0] 93)
    go_wp2_with fail
    refine hK.out _ _ hm3 (fun _ => ?_)
    clear hK K
    refine tkH 10 (by simp only [tkA, tkG]; rfl) (by kernel_rfl) (by exact fun _ _ _ h => h) (by rfl) (by intro W hW; go_simp <;> with_reducible rfl) hm3 ?_
    try simp only [Act.put, tkT, tk0, tkS]
    refine wpAnyH_done (by kernel_rfl) ?_ _
    go_wp2_with fail
    go_ret
    have h := HA.out _ rfl
    simp at h
    exact h
  · go_simp
    go_wp2_with fail
    refine hK.out _ _ hm1 (fun _ => ?_)
    clear hK K
    refine clH 4 (by kernel_rfl) (by simp only [tkA, tkG]; rfl) (fun K hK => ?_)
    go_simp
    go_wp2_with fail
    refine hK.out _ _ hm2 (fun _ => ?_)
    clear hK K
    refine tkH 8 (by simp only [tkA, tkG]; rfl) (by kernel_rfl) (by exact fun _ _ _ h => h) (by rfl) (by intro W hW; go_simp <;> with_reducible rfl) hm2 ?_
    try simp only [Act.put, tkT, tk0, tkS]
    refine clH 9 (by kernel_rfl) (by simp only [tkA, tkG]; rfl) (fun K hK => ?_)
    go_simp
    have hm3 := hm2.alloc hm2.size (.cells #[.int .i64 (node : Nat), .slice A n cap, .slice (some ⟨w.heap.size + 1, 0, none⟩) n n, .slice (some ⟨w.heap.size, 0, none⟩) n n, .slice none 0 0] 93)
    go_wp2_with fail
    refine hK.out _ _ hm3 (fun _ => ?_)
    clear hK K
    refine tkH 10 (by simp only [tkA, tkG]; rfl) (by kernel_rfl) (by exact fun _ _ _ h => h) (by rfl) (by intro W hW; go_simp <;> with_reducible rfl) hm3 ?_
    try simp only [Act.put, tkT, tk0, tkS]
    refine wpAnyH_done (by kernel_rfl) ?_ _
    go_wp2_with fail
    go_ret
    have h := HB.out _ rfl
    simp at h
    exact h

def RSealH (w : World) (B r node : Nat) (vs vl vw vo : Value) (parts : List TableP.Part) (m : Mon) (e : Ending) (w' : World) : Prop :=
  e = .returned vo ∧ w'.ownsRow B 69 5 vo m.out.length (recsVals m.out) ∧ RMem w' B r node vs vl vw (.slice none 0 0) parts (sealM m) ∧ Apart (fun k => k = r) w w'
theorem rseal15_any (w : World) (B r node : Nat) (vs vl vw vo : Value) (parts : List TableP.Part) (m : Mon) (h : RMem w B r node vs vl vw vo parts m) :
    Calls Tryd.prog 23 #[.pointer (some ⟨r, 0, none⟩)] w (RSealH w B r node vs vl vw vo parts m) := by
  obtain ⟨A, cap, hvr, -⟩ := own_slice h.out
  have a1 : Apart (fun k => k = r) w (w.setCell ⟨r, 4, none⟩ (.slice none 0 0)) := (Apart.refl (fun k => k = r) w).setCell (p := ⟨r, 4, none⟩) (.inl rfl) _
  have HF : Hid (RSealH w B r node vs vl vw vo parts m (.returned vo) (w.setCell ⟨r, 4, none⟩ (.slice none 0 0))) := Lib.hid ⟨rfl, own_apart h.out a1 (fun k hk e => own_off h.out h.hd (by decide) k hk e), ⟨heap_setCell_same w r 4 _ _ _ h.hd, own_apart h.ps a1 (fun k hk e => own_off h.ps h.hd (by decide) k hk e), own_apart h.last a1 (fun k hk e => own_off h.last h.hd (by decide) k hk e), own_apart h.row a1 (fun k hk e => own_off h.row h.hd (by decide) k hk e), h.lw, World.ownsRow_nil _ _ _ _, h.base⟩, a1⟩
  have k2 : w.cell? ⟨r, 4, none⟩ = some vo := cell_at h.hd 4 rfl
  have f2 := free_at h.hd 4
  subst hvr
  clear h a1
  go_enter Tryd.func23, Tryd.ntmps23
  go_wp2_with fail
  go_ret
  exact HF.out
end Go.Proofs.YtabndibenffngaaDoor
