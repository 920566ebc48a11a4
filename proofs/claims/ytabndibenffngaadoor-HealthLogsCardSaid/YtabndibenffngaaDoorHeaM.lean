/- A log in memory (LogIn), and contracts of Put and List. Conditions: where the log lies. -/
import Derived.Test.YtabndibenffngaaDoorHeaD
import Derived.Test.YtabndibenffngaaDoorHeaV
import Derived.Test.YtabndibenffngaaDoorCpy
import Derived.Deep.CutRange
import Derived.Lib.SliceRun
import Derived.BigQuiet
namespace Go.Proofs.YtabndibenffngaaDoor
open Go.RowKit HeaP
set_option maxRecDepth 100000

def logH (T : Nat) : Value := .pointer (some ⟨T, 0, none⟩)
/-- A log's cells. -/
def logCs (l : List FrameP.Rec) (rest : List Value) (q : Nat) : List Value := recsVals l ++ (rest ++ [.int .i64 (q : Nat)])
structure LogC (w : World) (T : Nat) (l : List FrameP.Rec) (rest : List Value) : Prop where
  hd : w.heap[T]? = some (.cells (logCs l rest l.length).toArray 72 (0, 0))
  len : rest.length + l.length * 5 = 80
  one : ∀ u ∈ rest, u.oneCell' = true
def LogIn (w : World) (T : Nat) (l : List FrameP.Rec) : Prop := ∃ rest, LogC w T l rest
theorem LogIn.apart {w w' : World} {T : Nat} {l : List FrameP.Rec} {F : Nat → Prop} (h : LogIn w T l) (ha : Apart F w w') (hF : ¬ F T) : LogIn w' T l := by
  obtain ⟨rest, h1, h2, h3⟩ := h
  exact ⟨rest, (ha.block T (lt_of_block h1) hF).trans h1, h2, h3⟩
theorem LogIn.keep {w w' : World} {T : Nat} {l : List FrameP.Rec} (h : LogIn w T l) (hb : Below w.heap.size w w') : LogIn w' T l := h.apart (F := fun _ => False) (Apart.of_below' hb) (fun h => h)
theorem LogIn.le {w : World} {T : Nat} {l : List FrameP.Rec} (h : LogIn w T l) : l.length ≤ 16 := by
  obtain ⟨rest, -, h2, -⟩ := h
  omega
theorem logCs_len {l : List FrameP.Rec} {rest : List Value} {q : Nat} (h : rest.length + l.length * 5 = 80) : (logCs l rest q).length = 81 := by
  unfold logCs
  rw [List.length_append, List.length_append, recsVals_length, List.length_singleton]
  omega
theorem logCs_count {l : List FrameP.Rec} {rest : List Value} {q : Nat} (h : rest.length + l.length * 5 = 80) : (logCs l rest q)[80]? = some (.int .i64 (q : Nat)) := by
  unfold logCs
  rw [← List.append_assoc, List.getElem?_append_right (by rw [List.length_append, recsVals_length]; omega), List.length_append, recsVals_length, show 80 - (l.length * 5 + rest.length) = 0 by omega]
  rfl
theorem logCs_set {l : List FrameP.Rec} {rest : List Value} {q q' : Nat} (h : rest.length + l.length * 5 = 80) : (logCs l rest q).set 80 (.int .i64 (q' : Nat)) = logCs l rest q' := by
  unfold logCs
  rw [← List.append_assoc, ← List.append_assoc, List.set_append_right _ _ (by rw [List.length_append, recsVals_length]; omega), List.length_append, recsVals_length, show 80 - (l.length * 5 + rest.length) = 0 by omega]
  rfl
/-- A record stored behind the others. -/
theorem logCs_put {l : List FrameP.Rec} {e0 e1 e2 e3 e4 : Value} {rest : List Value} {q : Nat} (r : FrameP.Rec) :
    (((((logCs l (e0 :: e1 :: e2 :: e3 :: e4 :: rest) q).set (l.length * 5) (.int .u32 (r.round : Nat))).set (l.length * 5 + 1) (.int .u8 (r.node : Nat))).set (l.length * 5 + 2) (.int .u8 (r.part : Nat))).set (l.length * 5 + 3) (.int .u8 (r.kind : Nat))).set (l.length * 5 + 4) (.int .u8 (r.did : Nat)) = logCs (l ++ [r]) rest q := by
  unfold logCs
  have hl := recsVals_length l
  rw [List.set_append_right _ _ (by omega), List.set_append_right _ _ (by omega), List.set_append_right _ _ (by omega), List.set_append_right _ _ (by omega), List.set_append_right _ _ (by omega), hl]
  rw [show l.length * 5 - l.length * 5 = 0 by omega, show l.length * 5 + 1 - l.length * 5 = 1 by omega, show l.length * 5 + 2 - l.length * 5 = 2 by omega, show l.length * 5 + 3 - l.length * 5 = 3 by omega, show l.length * 5 + 4 - l.length * 5 = 4 by omega]
  have e : recsVals (l ++ [r]) = recsVals l ++ recVals r := by rw [recsVals_append]; simp [recsVals]
  rw [e, List.append_assoc]
  rfl
def setRec (w : World) (T o : Nat) (r : FrameP.Rec) : World := ((((w.setCell ⟨T, o, none⟩ (.int .u32 (r.round : Nat))).setCell ⟨T, o + 1, none⟩ (.int .u8 (r.node : Nat))).setCell ⟨T, o + 2, none⟩ (.int .u8 (r.part : Nat))).setCell ⟨T, o + 3, none⟩ (.int .u8 (r.kind : Nat))).setCell ⟨T, o + 4, none⟩ (.int .u8 (r.did : Nat))
theorem setRec_apart (w : World) (T o : Nat) (r : FrameP.Rec) : Apart (fun k => k = T) w (setRec w T o r) :=
  (((((Apart.refl (fun k => k = T) w).setCell (p := ⟨T, o, none⟩) (.inl rfl) _).setCell (p := ⟨T, o + 1, none⟩) (.inl rfl) _).setCell (p := ⟨T, o + 2, none⟩) (.inl rfl) _).setCell (p := ⟨T, o + 3, none⟩) (.inl rfl) _).setCell (p := ⟨T, o + 4, none⟩) (.inl rfl) _
theorem heap_set_list {w : World} {T : Nat} {cs : List Value} {t : TypeId} (h : w.heap[T]? = some (.cells cs.toArray t (0, 0))) (j : Nat) (u : Value) : (w.setCell ⟨T, j, none⟩ u).heap[T]? = some (.cells (cs.set j u).toArray t (0, 0)) := by
  have := heap_setCell_same w T j _ _ u h
  simpa using this
theorem setRec_heap {w : World} {T : Nat} {l : List FrameP.Rec} {e0 e1 e2 e3 e4 : Value} {rest : List Value} {q : Nat} (h : w.heap[T]? = some (.cells (logCs l (e0 :: e1 :: e2 :: e3 :: e4 :: rest) q).toArray 72 (0, 0))) (r : FrameP.Rec) :
    (setRec w T (l.length * 5) r).heap[T]? = some (.cells (logCs (l ++ [r]) rest q).toArray 72 (0, 0)) := by
  have h5 := heap_set_list (heap_set_list (heap_set_list (heap_set_list (heap_set_list h (l.length * 5) (.int .u32 (r.round : Nat))) (l.length * 5 + 1) (.int .u8 (r.node : Nat))) (l.length * 5 + 2) (.int .u8 (r.part : Nat))) (l.length * 5 + 3) (.int .u8 (r.kind : Nat))) (l.length * 5 + 4) (.int .u8 (r.did : Nat))
  rw [logCs_put r] at h5
  exact h5
theorem log_old {l : List FrameP.Rec} {e0 e1 e2 e3 e4 : Value} {rest : List Value} {q : Nat} (j : Nat) (hj : j < 5) : (logCs l (e0 :: e1 :: e2 :: e3 :: e4 :: rest) q)[l.length * 5 + j]? = [e0, e1, e2, e3, e4][j]? := by
  unfold logCs
  rw [List.getElem?_append_right (by rw [recsVals_length]; omega), recsVals_length, show l.length * 5 + j - l.length * 5 = j by omega]
  match j, hj with
  | 0, _ => rfl
  | 1, _ => rfl
  | 2, _ => rfl
  | 3, _ => rfl
  | 4, _ => rfl

def recV (r : FrameP.Rec) : Value := .agg #[.int .u32 (r.round : Nat), .int .u8 (r.node : Nat), .int .u8 (r.part : Nat), .int .u8 (r.kind : Nat), .int .u8 (r.did : Nat)]
theorem hput_nil (r : FrameP.Rec) (w : World) : Calls Tryd.prog 26 #[.pointer none, recV r] w (fun e w' => e = .returned (.tuple #[]) ∧ Below w.heap.size w w') := by
  unfold recV
  go_enter Tryd.func26, Tryd.ntmps26
  go_wp2_with fail
  refine bodyPost_ret (v := .tuple #[]) (results_none rfl _ _ _) rfl ?_
  exact ⟨rfl, (Below.refl _ _).alloc (Nat.le_refl _) _⟩
theorem hlist_nil (w : World) : Calls Tryd.prog 27 #[.pointer none] w (fun e w' => e = .returned (.slice none 0 0) ∧ w' = w) := by
  go_enter Tryd.func27, Tryd.ntmps27
  go_wp2_with fail
  go_ret
  exact ⟨rfl, rfl⟩
def PutL (w : World) (T : Nat) (l : List FrameP.Rec) (r : FrameP.Rec) (e : Ending) (w' : World) : Prop := e = .returned (.tuple #[]) ∧ LogIn w' T (HeaP.logPut l r) ∧ Apart (fun k => k = T) w w'
def PutS15 (T N : Nat) (cs : List Value) (r : FrameP.Rec) (W : World) : Prop := W.heap[T]? = some (.cells cs.toArray 72 (0, 0)) ∧ W.heap[N]? = some (.cells #[.int .u32 (r.round : Nat), .int .u8 (r.node : Nat), .int .u8 (r.part : Nat), .int .u8 (r.kind : Nat), .int .u8 (r.did : Nat)] 69 (0, 0))
theorem putS_log {T N : Nat} {cs : List Value} {r : FrameP.Rec} {W : World} (h : PutS15 T N cs r W) {j : Nat} {v : Value} (hv : cs[j]? = some v) : W.cell? ⟨T, j, none⟩ = some v := cell_at h.1 j (by rw [List.getElem?_toArray]; exact hv)

set_option maxHeartbeats 4000000 in
theorem hput_small (w : World) (T : Nat) (l : List FrameP.Rec) (r : FrameP.Rec) (h : LogIn w T l) (hl : l.length < 16) : Calls Tryd.prog 26 #[logH T, recV r] w (PutL w T l r) := by
  obtain ⟨rest, h1, h2, h3⟩ := h
  obtain ⟨e0, e1, e2, e3, e4, rest, rfl⟩ : ∃ e0 e1 e2 e3 e4 rest', rest = e0 :: e1 :: e2 :: e3 :: e4 :: rest' := by
    match rest, h2 with
    | e0 :: e1 :: e2 :: e3 :: e4 :: rest', _ => exact ⟨_, _, _, _, _, _, rfl⟩
    | [], h2 => simp at h2; omega
    | [_], h2 => simp at h2; omega
    | [_, _], h2 => simp at h2; omega
    | [_, _, _], h2 => simp at h2; omega
    | [_, _, _, _], h2 => simp at h2; omega
  obtain ⟨q, hq⟩ : ∃ q, l.length = q := ⟨_, rfl⟩
  have HQ := Lib.hid hq
  have hq16 : q < 16 := by omega
  have hlt := lt_of_block h1
  have hb1 : Below w.heap.size w (w.alloc (.cells #[.int .u32 (r.round : Nat), .int .u8 (r.node : Nat), .int .u8 (r.part : Nat), .int .u8 (r.kind : Nat), .int .u8 (r.did : Nat)] 69)) := (Below.refl _ _).alloc (Nat.le_refl _) _
  have hS : PutS15 T w.heap.size (logCs l (e0 :: e1 :: e2 :: e3 :: e4 :: rest) q) r (w.alloc (.cells #[.int .u32 (r.round : Nat), .int .u8 (r.node : Nat), .int .u8 (r.part : Nat), .int .u8 (r.kind : Nat), .int .u8 (r.did : Nat)] 69)) := ⟨by rw [hq] at h1; exact (hb1.block T hlt).trans h1, heap_alloc_new w _⟩
  have HFin : Hid (∀ W, PutS15 T w.heap.size (logCs l (e0 :: e1 :: e2 :: e3 :: e4 :: rest) q) r W → Apart (fun k => k = T) w W → PutL w T l r (.returned (.tuple #[])) ((setRec W T (q * 5) r).setCell ⟨T, 80, none⟩ (.int .i64 ((q : Int) + 1)))) := Lib.hid fun W hW ha => by
    have g1 := hW.1
    rw [← hq] at g1
    have g2 := setRec_heap g1 r
    have g3 := heap_set_list g2 80 (.int .i64 ((l.length + 1 : Nat) : Int))
    have hlen : rest.length + (l ++ [r]).length * 5 = 80 := by simp at h2 ⊢; omega
    rw [logCs_set hlen] at g3
    refine ⟨rfl, ?_, (ha.trans (setRec_apart W T (q * 5) r) (fun _ e => .inl e)).setCell (p := ⟨T, 80, none⟩) (.inl rfl) _⟩
    have e : HeaP.logPut l r = l ++ [r] := by unfold HeaP.logPut; rw [if_neg (by omega)]
    rw [e]
    refine ⟨rest, ?_, hlen, fun u hu => h3 u (by simp [hu])⟩
    rw [List.length_append, List.length_singleton, ← hq]
    simpa using g3
  have HC : Hid (∀ q', (logCs l (e0 :: e1 :: e2 :: e3 :: e4 :: rest) q')[80]? = some (.int .i64 (q' : Nat))) := Lib.hid fun q' => logCs_count h2
  have HO : Hid (∀ j, j < 5 → (logCs l (e0 :: e1 :: e2 :: e3 :: e4 :: rest) q)[q * 5 + j]? = [e0, e1, e2, e3, e4][j]?) := Lib.hid fun j hj => by rw [← hq]; exact log_old j hj
  have Hlen2 := Lib.hid h2
  clear h1 h2 h3 hl hq
  have kC := putS_log hS (HC.out q)
  have Hhb := Lib.hid hb1
  clear hb1
  have q16 : ((q : Int) == 16) = false := by rw [beq_eq_false_iff_ne]; omega
  have qi : (q : Int) < 16 := by omega
  unfold logH recV
  go_enter Tryd.func26, Tryd.ntmps26
  go_wp2_with fail
  have hSd : PutS15 T w.heap.size (logCs l (e0 :: e1 :: e2 :: e3 :: e4 :: rest) q) r (w.alloc (.cells #[.int .u32 (r.round : Nat), .int .u8 (r.node : Nat), .int .u8 (r.part : Nat), .int .u8 (r.kind : Nat), .int .u8 (r.did : Nat)] 69)).drew := hS
  have hAd : Apart (fun k => k = T) w (w.alloc (.cells #[.int .u32 (r.round : Nat), .int .u8 (r.node : Nat), .int .u8 (r.part : Nat), .int .u8 (r.kind : Nat), .int .u8 (r.did : Nat)] 69)).drew := ((Apart.refl _ w).alloc _).drew
  clear kC hS
  have kQ : ∀ W, PutS15 T w.heap.size (logCs l (e0 :: e1 :: e2 :: e3 :: e4 :: rest) q) r W → W.cell? ⟨T, 80, none⟩ = some (.int .i64 (q : Nat)) := fun W hW => putS_log hW (HC.out q)
  have n0 : ∀ W, PutS15 T w.heap.size (logCs l (e0 :: e1 :: e2 :: e3 :: e4 :: rest) q) r W → W.cell? ⟨w.heap.size, 0, none⟩ = some (.int .u32 (r.round : Nat)) := fun W hW => cell_at hW.2 0 rfl
  have n1 : ∀ W, PutS15 T w.heap.size (logCs l (e0 :: e1 :: e2 :: e3 :: e4 :: rest) q) r W → W.cell? ⟨w.heap.size, 1, none⟩ = some (.int .u8 (r.node : Nat)) := fun W hW => cell_at hW.2 1 rfl
  have n2 : ∀ W, PutS15 T w.heap.size (logCs l (e0 :: e1 :: e2 :: e3 :: e4 :: rest) q) r W → W.cell? ⟨w.heap.size, 2, none⟩ = some (.int .u8 (r.part : Nat)) := fun W hW => cell_at hW.2 2 rfl
  have n3 : ∀ W, PutS15 T w.heap.size (logCs l (e0 :: e1 :: e2 :: e3 :: e4 :: rest) q) r W → W.cell? ⟨w.heap.size, 3, none⟩ = some (.int .u8 (r.kind : Nat)) := fun W hW => cell_at hW.2 3 rfl
  have n4 : ∀ W, PutS15 T w.heap.size (logCs l (e0 :: e1 :: e2 :: e3 :: e4 :: rest) q) r W → W.cell? ⟨w.heap.size, 4, none⟩ = some (.int .u8 (r.did : Nat)) := fun W hW => cell_at hW.2 4 rfl
  refine wp_region_L_drew (st := 9) (S := fun W => PutS15 T w.heap.size (logCs l (e0 :: e1 :: e2 :: e3 :: e4 :: rest) q) r W) (by kernel_rfl) hSd (fun _ => ?_)
  refine tkL 0 (by simp only [tkA]; rfl) (by kernel_rfl) (by exact fun _ _ _ h => h) (by rfl) (by intro W hW; go_simp <;> with_reducible rfl) hSd ?_
  try simp only [Act.put, tkT, tk0, tkS]
  refine tkL 1 (by simp only [tkA, tkG]; rfl) (by kernel_rfl) (by exact fun _ _ _ h => h) (by rfl) (by intro W hW; go_simp <;> with_reducible rfl) hSd ?_
  try simp only [Act.put, tkT, tk0, tkS]
  refine tkL 2 (by simp only [tkA, tkG]; rfl) (by kernel_rfl) (by exact fun _ _ _ h => h) (by rfl) (by intro W hW; go_simp <;> with_reducible rfl) hSd ?_
  try simp only [Act.put, tkT, tk0, tkS]
  refine tkL 3 (by simp only [tkA, tkG]; rfl) (by kernel_rfl) (by exact fun _ _ _ h => h) (by rfl) (by intro W hW; go_simp <;> with_reducible rfl) hSd ?_
  try simp only [Act.put, tkT, tk0, tkS]
  refine tkL 4 (by simp only [tkA, tkG]; rfl) (by kernel_rfl) (by exact fun _ _ _ h => h) (by rfl) (by intro W hW; go_simp <;> with_reducible rfl) hSd ?_
  try simp only [Act.put, tkT, tk0, tkS]
  refine tkL 5 (by simp only [tkA, tkG]; rfl) (by kernel_rfl) (by exact fun _ _ _ h => h) (by rfl) (by intro W hW; go_simp <;> with_reducible rfl) hSd ?_
  try simp only [Act.put, tkT, tk0, tkS]
  refine tkL 6 (by simp only [tkA, tkG]; rfl) (by kernel_rfl) (by exact fun _ _ _ h => h) (by rfl) (by intro W hW; go_simp <;> with_reducible rfl) hSd ?_
  try simp only [Act.put, tkT, tk0, tkS]
  refine tkL 7 (by simp only [tkA, tkG]; rfl) (by kernel_rfl) (by exact fun _ _ _ h => h) (by rfl) (by intro W hW; go_simp <;> with_reducible rfl) hSd ?_
  try simp only [Act.put, tkT, tk0, tkS]
  refine tkL 8 (by simp only [tkA, tkG]; rfl) (by kernel_rfl) (by exact fun _ _ _ h => h) (by rfl) (by intro W hW; go_simp <;> with_reducible rfl) hSd ?_
  try simp only [Act.put, tkT, tk0, tkS]
  clear kQ n0 n1 n2 n3 n4
  generalize (w.alloc (.cells #[.int .u32 (r.round : Nat), .int .u8 (r.node : Nat), .int .u8 (r.part : Nat), .int .u8 (r.kind : Nat), .int .u8 (r.did : Nat)] 69)).drew = we at *
  have o0 : we.cell? ⟨T, q * 5, none⟩ = some e0 := putS_log hSd (HO.out 0 (by omega))
  have o1 : we.cell? ⟨T, q * 5 + 1, none⟩ = some e1 := putS_log hSd (HO.out 1 (by omega))
  have o2 : we.cell? ⟨T, q * 5 + 2, none⟩ = some e2 := putS_log hSd (HO.out 2 (by omega))
  have o3 : we.cell? ⟨T, q * 5 + 3, none⟩ = some e3 := putS_log hSd (HO.out 3 (by omega))
  have o4 : we.cell? ⟨T, q * 5 + 4, none⟩ = some e4 := putS_log hSd (HO.out 4 (by omega))
  have f0 := free_at hSd.1 (q * 5)
  have f1 := free_at hSd.1 (q * 5 + 1)
  have f2 := free_at hSd.1 (q * 5 + 2)
  have f3 := free_at hSd.1 (q * 5 + 3)
  have f4 := free_at hSd.1 (q * 5 + 4)
  refine wpAnyL_last (k := 9) (by kernel_rfl) (by simp only [tkA, tkG]; rfl) (fun K hK => ?_)
  go_simp
  go_wp2_with fail
  refine hK.out _ _ ?_
  clear hK K
  refine wpAnyL_done (by kernel_rfl) ?_ _
  clear f0 f1 f2 f3 f4 o0 o1 o2 o3 o4
  have HX := Lib.hid (HFin.out we hSd hAd)
  have h6 : (setRec we T (q * 5) r).heap[T]? = some (.cells (logCs (l ++ [r]) rest q).toArray 72 (0, 0)) := by
    have g1 := hSd.1
    rw [← HQ.out] at g1 ⊢
    exact setRec_heap g1 r
  have k6 : (setRec we T (q * 5) r).cell? ⟨T, 80, none⟩ = some (.int .i64 (q : Nat)) := cell_at h6 80 (by rw [List.getElem?_toArray]; exact logCs_count (by have := Hlen2.out; simp at this ⊢; omega))
  have f6 := free_at h6 80
  change Exit.then _ _ _ _ (setRec we T (q * 5) r)
  clear hSd hAd h6 HFin
  generalize setRec we T (q * 5) r = w2 at *
  go_wp2_with fail
  refine bodyPost_end (results_none rfl _ _ _) rfl ?_
  exact HX.out

theorem recSz : (Tryd.prog.info? 69).map (·.size) = some 5 := by kernel_rfl
theorem put_fin {w W : World} {T : Nat} {l l0 : List FrameP.Rec} {r : FrameP.Rec} {e0 e1 e2 e3 e4 : Value} {rest : List Value} (hW : PutS15 T w.heap.size (logCs l0 (e0 :: e1 :: e2 :: e3 :: e4 :: rest) l0.length) r W) (hlen : (e0 :: e1 :: e2 :: e3 :: e4 :: rest).length + l0.length * 5 = 80) (h3 : ∀ u ∈ rest, u.oneCell' = true) (hlog : HeaP.logPut l r = l0 ++ [r]) (ha : Apart (fun k => k = T) w W) :
    PutL w T l r (.returned (.tuple #[])) ((setRec W T (l0.length * 5) r).setCell ⟨T, 80, none⟩ (.int .i64 ((l0.length + 1 : Nat) : Int))) := by
  have g2 := setRec_heap hW.1 r
  have g3 := heap_set_list g2 80 (.int .i64 ((l0.length + 1 : Nat) : Int))
  have hlen2 : rest.length + (l0 ++ [r]).length * 5 = 80 := by simp at hlen ⊢; omega
  rw [logCs_set hlen2] at g3
  refine ⟨rfl, ?_, (ha.trans (setRec_apart W T (l0.length * 5) r) (fun _ e => .inl e)).setCell (p := ⟨T, 80, none⟩) (.inl rfl) _⟩
  rw [hlog]
  refine ⟨rest, ?_, hlen2, h3⟩
  rw [List.length_append, List.length_singleton]
  exact g3
theorem box_apart {T N : Nat} {cs : List Value} {r : FrameP.Rec} {W W' : World} (h : PutS15 T N cs r W) (ha : Apart (fun k => k = T) W W') (cs' : List Value) (h' : W'.heap[T]? = some (.cells cs'.toArray 72 (0, 0))) : PutS15 T N cs' r W' :=
  ⟨h', (ha.block N (lt_of_block h.2) (fun e => by
    have h2 := h.2
    rw [e, h.1] at h2
    simp only [Option.some.injEq, Obj.cells.injEq] at h2
    exact absurd h2.2.1 (by decide))).trans h.2⟩

set_option maxHeartbeats 4000000 in
theorem hput_full (w : World) (T : Nat) (l : List FrameP.Rec) (r : FrameP.Rec) (h : LogIn w T l) (hl : l.length = 16) : Calls Tryd.prog 26 #[logH T, recV r] w (PutL w T l r) := by
  obtain ⟨rest, h1, h2, h3⟩ := h
  obtain rfl : rest = [] := List.eq_nil_of_length_eq_zero (by omega)
  obtain ⟨x, l0, rfl⟩ : ∃ x l0, l = x :: l0 := by
    match l, hl with
    | x :: l0, _ => exact ⟨x, l0, rfl⟩
  have hl0 : l0.length = 15 := by simpa using hl
  have hr0 : (recsVals l0).length = 75 := by rw [recsVals_length]; omega
  obtain ⟨e0, e1, e2, e3, e4, he⟩ : ∃ e0 e1 e2 e3 e4, (recsVals l0).drop 70 = [e0, e1, e2, e3, e4] := by
    have hd : ((recsVals l0).drop 70).length = 5 := by rw [List.length_drop]; omega
    match (recsVals l0).drop 70, hd with
    | [e0, e1, e2, e3, e4], _ => exact ⟨_, _, _, _, _, rfl⟩
  have hcs : logCs (x :: l0) [] 16 = recVals x ++ (recsVals l0 ++ [.int .i64 (16 : Nat)]) := by
    unfold logCs
    simp [recsVals]
  -- behind the copy
  have hcopy : (recVals x ++ (recsVals l0 ++ [Value.int .i64 (16 : Nat)])).take 0 ++ recsVals l0 ++ (recVals x ++ (recsVals l0 ++ [Value.int .i64 (16 : Nat)])).drop (0 + (recsVals l0).length) = logCs l0 [e0, e1, e2, e3, e4] 16 := by
    have hx := recVals_len x
    rw [hr0, List.take_zero, List.nil_append, List.drop_append, List.drop_eq_nil_of_le (by omega), List.nil_append, hx, List.drop_append_of_le_length (by omega), he]
    rfl
  have hlt := lt_of_block h1
  rw [hl] at h1
  rw [hcs] at h1
  have hb1 : Below w.heap.size w (w.alloc (.cells #[.int .u32 (r.round : Nat), .int .u8 (r.node : Nat), .int .u8 (r.part : Nat), .int .u8 (r.kind : Nat), .int .u8 (r.did : Nat)] 69)) := (Below.refl _ _).alloc (Nat.le_refl _) _
  have hS : PutS15 T w.heap.size (recVals x ++ (recsVals l0 ++ [.int .i64 (16 : Nat)])) r (w.alloc (.cells #[.int .u32 (r.round : Nat), .int .u8 (r.node : Nat), .int .u8 (r.part : Nat), .int .u8 (r.kind : Nat), .int .u8 (r.did : Nat)] 69)) := ⟨(hb1.block T hlt).trans h1, heap_alloc_new w _⟩
  have kC : (w.alloc (.cells #[.int .u32 (r.round : Nat), .int .u8 (r.node : Nat), .int .u8 (r.part : Nat), .int .u8 (r.kind : Nat), .int .u8 (r.did : Nat)] 69)).cell? ⟨T, 80, none⟩ = some (.int .i64 16) := putS_log hS (by rw [← hcs]; exact logCs_count (q := 16) (by simp; omega))
  have hone : ∀ u ∈ [e0, e1, e2, e3, e4], u.oneCell' = true := fun u hu => recsVals_one l0 u (List.mem_of_mem_drop (i := 70) (by rw [he]; exact hu))
  have hlog : HeaP.logPut (x :: l0) r = l0 ++ [r] := by unfold HeaP.logPut; rw [if_pos (by omega)]; rfl
  have HFin : Hid (∀ W, PutS15 T w.heap.size (logCs l0 [e0, e1, e2, e3, e4] 15) r W → Apart (fun k => k = T) w W → PutL w T (x :: l0) r (.returned (.tuple #[])) ((setRec W T 75 r).setCell ⟨T, 80, none⟩ (.int .i64 16))) := Lib.hid fun W hW ha => by
    have := put_fin (l := x :: l0) (l0 := l0) (r := r) (by rw [hl0]; exact hW) (by simp; omega) (fun u hu => absurd hu (by simp)) hlog ha
    rw [hl0] at this
    exact this
  have Hcs := Lib.hid hcs
  have Hcopy := Lib.hid hcopy
  have Hr0 := Lib.hid hr0
  have Hl0 := Lib.hid hl0
  have Hlen5 : Hid ([e0, e1, e2, e3, e4].length + l0.length * 5 = 80) := Lib.hid (by simp; omega)
  clear h1 h2 h3 hl hcs hcopy hone hlog hb1 he hl0 hr0
  unfold logH recV
  go_enter Tryd.func26, Tryd.ntmps26
  go_wp2_with fail
  have hSd : PutS15 T w.heap.size (recVals x ++ (recsVals l0 ++ [.int .i64 (16 : Nat)])) r (w.alloc (.cells #[.int .u32 (r.round : Nat), .int .u8 (r.node : Nat), .int .u8 (r.part : Nat), .int .u8 (r.kind : Nat), .int .u8 (r.did : Nat)] 69)).drew := hS
  have hAd : Apart (fun k => k = T) w (w.alloc (.cells #[.int .u32 (r.round : Nat), .int .u8 (r.node : Nat), .int .u8 (r.part : Nat), .int .u8 (r.kind : Nat), .int .u8 (r.did : Nat)] 69)).drew := ((Apart.refl _ w).alloc _).drew
  clear kC hS
  refine wp_region_L_drew (st := 8) (S := fun W => PutS15 T w.heap.size (recVals x ++ (recsVals l0 ++ [.int .i64 (16 : Nat)])) r W) (by kernel_rfl) hSd (fun _ => ?_)
  refine tkL 0 (by simp only [tkA]; rfl) (by kernel_rfl) (by exact fun _ _ _ h => h) (by rfl) (by intro W hW; go_simp <;> with_reducible rfl) hSd ?_
  try simp only [Act.put, tkT, tk0, tkS]
  refine tkL 1 (by simp only [tkA, tkG]; rfl) (by kernel_rfl) (by exact fun _ _ _ h => h) (by rfl) (by intro W hW; go_simp <;> with_reducible rfl) hSd ?_
  try simp only [Act.put, tkT, tk0, tkS]
  refine tkL 2 (by simp only [tkA, tkG]; rfl) (by kernel_rfl) (by exact fun _ _ _ h => h) (by rfl) (by intro W hW; go_simp <;> with_reducible rfl) hSd ?_
  try simp only [Act.put, tkT, tk0, tkS]
  refine tkL 3 (by simp only [tkA, tkG]; rfl) (by kernel_rfl) (by exact fun _ _ _ h => h) (by rfl) (by intro W hW; go_simp <;> with_reducible rfl) hSd ?_
  try simp only [Act.put, tkT, tk0, tkS]
  refine tkL 4 (by simp only [tkA, tkG]; rfl) (by kernel_rfl) (by exact fun _ _ _ h => h) (by rfl) (by intro W hW; go_simp <;> with_reducible rfl) hSd ?_
  try simp only [Act.put, tkT, tk0, tkS]
  refine tkL 5 (by simp only [tkA, tkG]; rfl) (by kernel_rfl) (by exact fun _ _ _ h => h) (by rfl) (by intro W hW; go_simp <;> with_reducible rfl) hSd ?_
  try simp only [Act.put, tkT, tk0, tkS]
  refine tkL 6 (by simp only [tkA, tkG]; rfl) (by kernel_rfl) (by exact fun _ _ _ h => h) (by rfl) (by intro W hW; go_simp <;> with_reducible rfl) hSd ?_
  try simp only [Act.put, tkT, tk0, tkS]
  refine tkL 7 (by simp only [tkA, tkG]; rfl) (by kernel_rfl) (by exact fun _ _ _ h => h) (by rfl) (by intro W hW; go_simp <;> with_reducible rfl) hSd ?_
  try simp only [Act.put, tkT, tk0, tkS]
  generalize (w.alloc (.cells #[.int .u32 (r.round : Nat), .int .u8 (r.node : Nat), .int .u8 (r.part : Nat), .int .u8 (r.kind : Nat), .int .u8 (r.did : Nat)] 69)).drew = we at *
  refine wpAnyL_last (k := 8) (by kernel_rfl) (by simp only [tkA, tkG]; rfl) (fun K hK => ?_)
  refine step_copy_rows rfl (.tmp 14) (.tmp 18) _ _ rfl 69 5 Tryd.underlying59 recSz T 0 16 16 ⟨T, 5, none⟩ 15 15 rfl rfl (recVals x ++ (recsVals l0 ++ [.int .i64 (16 : Nat)])) _ hSd.1 15 rfl (recsVals l0) Hr0.out (fun j v hj => ?_) (by have := Hr0.out; have := recVals_len x; simp only [List.length_append, List.length_singleton]; omega) (recsVals_one l0) ?_
  · rw [addr_addB]
    refine putS_log hSd ?_
    have hx := recVals_len x
    have hjl : j < (recsVals l0).length := (List.getElem?_eq_some_iff.1 hj).1
    rw [List.getElem?_append_right (by omega), hx, show 5 + j - 5 = j by omega, List.getElem?_append_left hjl]
    exact hj
  intro w3 hg3 ha3
  rw [Hcopy.out] at hg3
  have hS3 := box_apart hSd ha3 _ hg3
  have hA3 := hAd.trans ha3 (fun _ e => .inl e)
  refine hK.out _ _ ?_
  clear hK K hSd hAd hg3 ha3
  refine wpAnyL_done (by kernel_rfl) ?_ _
  have k80 : w3.cell? ⟨T, 80, none⟩ = some (.int .i64 16) := putS_log hS3 (logCs_count (q := 16) Hlen5.out)
  have f80 := free_at hS3.1 80
  have hS4 : PutS15 T w.heap.size (logCs l0 [e0, e1, e2, e3, e4] 15) r (w3.setCell ⟨T, 80, none⟩ (.int .i64 15)).drew := by
    have g := heap_set_list hS3.1 80 (.int .i64 ((15 : Nat) : Int))
    rw [logCs_set Hlen5.out] at g
    exact box_apart hS3 ((Apart.refl (fun k => k = T) w3).setCell (p := ⟨T, 80, none⟩) (.inl rfl) _) _ g
  have hA4 : Apart (fun k => k = T) w (w3.setCell ⟨T, 80, none⟩ (.int .i64 15)).drew := (hA3.setCell (p := ⟨T, 80, none⟩) (.inl rfl) _).drew
  have kk80 : (w3.setCell ⟨T, 80, none⟩ (.int .i64 15)).cell? ⟨T, 80, none⟩ = some (.int .i64 15) := putS_log (W := (w3.setCell ⟨T, 80, none⟩ (.int .i64 15)).drew) hS4 (logCs_count (q := 15) Hlen5.out)
  clear hS3 hA3
  go_wp2_with fail
  clear k80 f80 kk80
  have HO : Hid (∀ j, j < 5 → (logCs l0 [e0, e1, e2, e3, e4] 15)[75 + j]? = [e0, e1, e2, e3, e4][j]?) := Lib.hid fun j hj => by
    have := log_old (l := l0) (rest := []) (e0 := e0) (e1 := e1) (e2 := e2) (e3 := e3) (e4 := e4) (q := 15) j hj
    rw [Hl0.out] at this
    exact this
  have kQ : ∀ W, PutS15 T w.heap.size (logCs l0 [e0, e1, e2, e3, e4] 15) r W → W.cell? ⟨T, 80, none⟩ = some (.int .i64 15) := fun W hW => putS_log hW (logCs_count (q := 15) Hlen5.out)
  have n0 : ∀ W, PutS15 T w.heap.size (logCs l0 [e0, e1, e2, e3, e4] 15) r W → W.cell? ⟨w.heap.size, 0, none⟩ = some (.int .u32 (r.round : Nat)) := fun W hW => cell_at hW.2 0 rfl
  have n1 : ∀ W, PutS15 T w.heap.size (logCs l0 [e0, e1, e2, e3, e4] 15) r W → W.cell? ⟨w.heap.size, 1, none⟩ = some (.int .u8 (r.node : Nat)) := fun W hW => cell_at hW.2 1 rfl
  have n2 : ∀ W, PutS15 T w.heap.size (logCs l0 [e0, e1, e2, e3, e4] 15) r W → W.cell? ⟨w.heap.size, 2, none⟩ = some (.int .u8 (r.part : Nat)) := fun W hW => cell_at hW.2 2 rfl
  have n3 : ∀ W, PutS15 T w.heap.size (logCs l0 [e0, e1, e2, e3, e4] 15) r W → W.cell? ⟨w.heap.size, 3, none⟩ = some (.int .u8 (r.kind : Nat)) := fun W hW => cell_at hW.2 3 rfl
  have n4 : ∀ W, PutS15 T w.heap.size (logCs l0 [e0, e1, e2, e3, e4] 15) r W → W.cell? ⟨w.heap.size, 4, none⟩ = some (.int .u8 (r.did : Nat)) := fun W hW => cell_at hW.2 4 rfl
  refine wp_region_L_drew (st := 9) (S := fun W => PutS15 T w.heap.size (logCs l0 [e0, e1, e2, e3, e4] 15) r W) (by kernel_rfl) hS4 (fun _ => ?_)
  refine tkL 0 (by simp only [tkA]; rfl) (by kernel_rfl) (by exact fun _ _ _ h => h) (by rfl) (by intro W hW; go_simp <;> with_reducible rfl) hS4 ?_
  try simp only [Act.put, tkT, tk0, tkS]
  refine tkL 1 (by simp only [tkA, tkG]; rfl) (by kernel_rfl) (by exact fun _ _ _ h => h) (by rfl) (by intro W hW; go_simp <;> with_reducible rfl) hS4 ?_
  try simp only [Act.put, tkT, tk0, tkS]
  refine tkL 2 (by simp only [tkA, tkG]; rfl) (by kernel_rfl) (by exact fun _ _ _ h => h) (by rfl) (by intro W hW; go_simp <;> with_reducible rfl) hS4 ?_
  try simp only [Act.put, tkT, tk0, tkS]
  refine tkL 3 (by simp only [tkA, tkG]; rfl) (by kernel_rfl) (by exact fun _ _ _ h => h) (by rfl) (by intro W hW; go_simp <;> with_reducible rfl) hS4 ?_
  try simp only [Act.put, tkT, tk0, tkS]
  refine tkL 4 (by simp only [tkA, tkG]; rfl) (by kernel_rfl) (by exact fun _ _ _ h => h) (by rfl) (by intro W hW; go_simp <;> with_reducible rfl) hS4 ?_
  try simp only [Act.put, tkT, tk0, tkS]
  refine tkL 5 (by simp only [tkA, tkG]; rfl) (by kernel_rfl) (by exact fun _ _ _ h => h) (by rfl) (by intro W hW; go_simp <;> with_reducible rfl) hS4 ?_
  try simp only [Act.put, tkT, tk0, tkS]
  refine tkL 6 (by simp only [tkA, tkG]; rfl) (by kernel_rfl) (by exact fun _ _ _ h => h) (by rfl) (by intro W hW; go_simp <;> with_reducible rfl) hS4 ?_
  try simp only [Act.put, tkT, tk0, tkS]
  refine tkL 7 (by simp only [tkA, tkG]; rfl) (by kernel_rfl) (by exact fun _ _ _ h => h) (by rfl) (by intro W hW; go_simp <;> with_reducible rfl) hS4 ?_
  try simp only [Act.put, tkT, tk0, tkS]
  refine tkL 8 (by simp only [tkA, tkG]; rfl) (by kernel_rfl) (by exact fun _ _ _ h => h) (by rfl) (by intro W hW; go_simp <;> with_reducible rfl) hS4 ?_
  try simp only [Act.put, tkT, tk0, tkS]
  clear kQ n0 n1 n2 n3 n4
  generalize (w3.setCell ⟨T, 80, none⟩ (.int .i64 15)).drew = wf at *
  have o0 : wf.cell? ⟨T, 75, none⟩ = some e0 := putS_log hS4 (HO.out 0 (by omega))
  have o1 : wf.cell? ⟨T, 76, none⟩ = some e1 := putS_log hS4 (HO.out 1 (by omega))
  have o2 : wf.cell? ⟨T, 77, none⟩ = some e2 := putS_log hS4 (HO.out 2 (by omega))
  have o3 : wf.cell? ⟨T, 78, none⟩ = some e3 := putS_log hS4 (HO.out 3 (by omega))
  have o4 : wf.cell? ⟨T, 79, none⟩ = some e4 := putS_log hS4 (HO.out 4 (by omega))
  have f0 := free_at hS4.1 75
  have f1 := free_at hS4.1 76
  have f2 := free_at hS4.1 77
  have f3 := free_at hS4.1 78
  have f4 := free_at hS4.1 79
  refine wpAnyL_last (k := 9) (by kernel_rfl) (by simp only [tkA, tkG]; rfl) (fun K hK => ?_)
  go_simp
  go_wp2_with fail
  refine hK.out _ _ ?_
  clear hK K
  refine wpAnyL_done (by kernel_rfl) ?_ _
  clear f0 f1 f2 f3 f4 o0 o1 o2 o3 o4
  have HX := Lib.hid (HFin.out wf hS4 hA4)
  have h6 : (setRec wf T 75 r).heap[T]? = some (.cells (logCs (l0 ++ [r]) [] 15).toArray 72 (0, 0)) := by
    have g1 := setRec_heap hS4.1 r
    rw [Hl0.out] at g1
    exact g1
  have k6 : (setRec wf T 75 r).cell? ⟨T, 80, none⟩ = some (.int .i64 15) := cell_at h6 80 (by rw [List.getElem?_toArray]; exact logCs_count (q := 15) (by have := Hl0.out; simp; omega))
  have f6 := free_at h6 80
  change Exit.then _ _ _ _ (setRec wf T 75 r)
  clear hS4 hA4 h6 HFin
  generalize setRec wf T 75 r = w2 at *
  go_wp2_with fail
  refine bodyPost_end (results_none rfl _ _ _) rfl ?_
  exact HX.out
theorem hput_any (w : World) (T : Nat) (l : List FrameP.Rec) (r : FrameP.Rec) (h : LogIn w T l) : Calls Tryd.prog 26 #[logH T, recV r] w (PutL w T l r) := by
  have hle := h.le
  by_cases hl : l.length < 16
  · exact hput_small w T l r h hl
  · exact hput_full w T l r h (by omega)

/-- A row of records of the call's own. -/
def CloL (w : World) (l : List FrameP.Rec) (e : Ending) (w' : World) : Prop := ∃ v, e = .returned v ∧ w'.ownsRow w.heap.size 69 5 v l.length (recsVals l) ∧ Below w.heap.size w w'
theorem hclone_any (g o n cap : Nat) (l : List FrameP.Rec) (hl : l.length = n) (hn : n ≤ 1000000) (w : World) (h : RecsIn w (some ⟨g, o, none⟩) l) :
    Calls Tryd.prog 35 #[.slice (some ⟨g, o, none⟩) n cap] w (CloL w l) := by
  have Hb := Lib.hid h
  have Hl := Lib.hid hl
  have HO := Lib.hid (World.ownsRow_lit (base := w.heap.size) (e := 69) (size := 5) w #[] 0 (Nat.le_refl _) (by unfold maxLen; omega) rfl)
  have HB1 := Lib.hid (fun o => (Below.refl w.heap.size w).alloc (Nat.le_refl _) o)
  have kn := fun W => Lib.run_eql_slice_nil (P := Tryd.prog) W 59 69 (some ⟨g, o, none⟩) n cap 0 0 Tryd.underlying59
  simp only [Option.isNone_some] at kn
  clear h hl
  go_enter Tryd.func35, Tryd.ntmps35
  go_wp2_with (at_builtin
               refine wpList_append_s rfl (.tmp 5) (.tmp 6) _ rfl w.heap.size 69 _ 5 8 Tryd.underlying59 infoRec rfl (by decide) _ 0 [] rfl HO.out (some ⟨g, o, none⟩) n cap (recsVals l) rfl (by rw [recsVals_length, Hl.out]) (fun h0 => (Hb.out.below (HB1.out _)).news (by rw [Hl.out]; exact h0)) (recsVals_one l) (by unfold maxLen; omega) (by omega) (by simp) ?_
               intro v1 w1 h1 h2 h3
               have HF : Hid (CloL w l (.returned v1) w1) := Lib.hid ⟨v1, rfl, by rw [Hl.out]; simpa using h1, (HB1.out _).trans (h2.below (by simp) (fun k e => by have e : some w.heap.size = some k := e; cases e; exact Nat.le_refl _))⟩
               clear h1 h2 h3)
  go_ret
  exact HF.out

theorem LogC.recs {w : World} {T : Nat} {l : List FrameP.Rec} {rest : List Value} (h : LogC w T l rest) : RecsIn w (some ⟨T, 0, none⟩) l := fun _ => ⟨T, 0, rfl, lt_of_block h.hd, fun i x hx => by
  have hi : i < l.length := (List.getElem?_eq_some_iff.1 hx).1
  have hc : ∀ j, j < 5 → w.cell? ⟨T, i * 5 + j, none⟩ = (recVals x)[j]? := fun j hj => by
    have h1 : (logCs l rest l.length)[i * 5 + j]? = (recVals x)[j]? := by
      unfold logCs
      rw [List.getElem?_append_left (by rw [recsVals_length]; omega)]
      exact recsVals_at l i x hx j hj
    have h2 : (recVals x)[j]? = some ((recVals x)[j]'hj) := List.getElem?_eq_getElem hj
    rw [h2] at h1 ⊢
    exact cell_at h.hd _ (by rw [List.getElem?_toArray]; exact h1)
  rw [Nat.zero_add]
  exact ⟨hc 0 (by omega), hc 1 (by omega), hc 2 (by omega), hc 3 (by omega), hc 4 (by omega)⟩⟩
def ListS (T : Nat) (cs : List Value) (W : World) : Prop := W.heap[T]? = some (.cells cs.toArray 72 (0, 0))
set_option maxHeartbeats 1000000 in
theorem hlist_any (w : World) (T : Nat) (l : List FrameP.Rec) (h : LogIn w T l) : Calls Tryd.prog 27 #[logH T] w (CloL w l) := by
  obtain ⟨rest, h⟩ := h
  obtain ⟨q, hq⟩ : ∃ q, l.length = q := ⟨_, rfl⟩
  have hq16 : q ≤ 16 := by have := h.len; omega
  have hqi : (q : Int) ≤ 16 := by omega
  have hd : ListS T (logCs l rest q) w.drew := by have := h.hd; rw [hq] at this; exact this
  have kQ : ∀ W, ListS T (logCs l rest q) W → W.cell? ⟨T, 80, none⟩ = some (.int .i64 (q : Nat)) := fun W hW => cell_at hW 80 (by rw [List.getElem?_toArray]; exact logCs_count h.len)
  have HC := Lib.hid (hclone_any T 0 q 16 l hq (by omega) w.drew (h.recs.below (Below.refl _ w).drew))
  have HF : Hid (∀ e w', CloL w.drew l e w' → CloL w l e w') := Lib.hid fun e w' ⟨v, h1, h2, h3⟩ => ⟨v, h1, h2, ⟨h3.os, h3.tape, h3.output, h3.size, h3.block⟩⟩
  have HT := Lib.hid (lt_of_block h.hd)
  clear h hq
  unfold logH
  go_enter Tryd.func27, Tryd.ntmps27
  go_wp2_with fail
  refine wp_region_held_drew (S := fun W => ListS T (logCs l rest q) W) (by kernel_rfl) hd (fun _ => ?_)
  refine tkH 0 (by simp only [tkA]; rfl) (by kernel_rfl) (by exact fun _ _ _ h => h) (by rfl) (by intro W hW; go_simp <;> with_reducible rfl) hd ?_
  try simp only [Act.put, tkT, tk0, tkS]
  refine tkH 1 (by simp only [tkA, tkG]; rfl) (by kernel_rfl) (by exact fun _ _ _ h => h) (by rfl) (by intro W hW; go_simp <;> with_reducible rfl) hd ?_
  try simp only [Act.put, tkT, tk0, tkS]
  refine tkH 2 (by simp only [tkA, tkG]; rfl) (by kernel_rfl) (by exact fun _ _ _ h => h) (by rfl) (by intro W hW; go_simp <;> with_reducible rfl) hd ?_
  try simp only [Act.put, tkT, tk0, tkS]
  refine tkH 3 (by simp only [tkA, tkG]; rfl) (by kernel_rfl) (by exact fun _ _ _ h => h) (by rfl) (by intro W hW; go_simp <;> with_reducible rfl) hd ?_
  try simp only [Act.put, tkT, tk0, tkS]
  refine tkH 4 (by simp only [tkA, tkG]; rfl) (by kernel_rfl) (by exact fun _ _ _ h => h) (by rfl) (by intro W hW; go_simp <;> with_reducible rfl) hd ?_
  try simp only [Act.put, tkT, tk0, tkS]
  refine tkH 5 (by simp only [tkA, tkG]; rfl) (by kernel_rfl) (by exact fun _ _ _ h => h) (by rfl) (by intro W hW; go_simp <;> with_reducible rfl) hd ?_
  try simp only [Act.put, tkT, tk0, tkS]
  refine tkH 6 (by simp only [tkA, tkG]; rfl) (by kernel_rfl) (by exact fun _ _ _ h => h) (by rfl) (by intro W hW; go_simp <;> with_reducible rfl) hd ?_
  try simp only [Act.put, tkT, tk0, tkS]
  refine tkH 7 (by simp only [tkA, tkG]; rfl) (by kernel_rfl) (by exact fun _ _ _ h => h) (by rfl) (by intro W hW; go_simp <;> with_reducible rfl) hd ?_
  try simp only [Act.put, tkT, tk0, tkS]
  clear kQ
  refine clH 8 (by kernel_rfl) (by simp only [tkA, tkG]; rfl) (fun K hK => ?_)
  go_simp
  refine HC.out.mono ?_
  rintro e w1 hcl
  have hcl2 := HF.out _ _ hcl
  obtain ⟨v, rfl, -, hb⟩ := hcl
  have hd1 : ListS T (logCs l rest q) w1 := (hb.block T HT.out).trans hd
  have HX := Lib.hid hcl2
  clear hcl2 hb HC HF
  go_wp2_with fail
  refine hK.out _ _ hd1 (fun _ => ?_)
  clear hK K
  refine tkH 9 (by simp only [tkA, tkG]; rfl) (by kernel_rfl) (by exact fun _ _ _ h => h) (by rfl) (by intro W hW; go_simp <;> with_reducible rfl) hd1 ?_
  try simp only [Act.put, tkT, tk0, tkS]
  refine wpAnyH_done (by kernel_rfl) ?_ _
  clear hd hd1
  go_wp2_with fail
  go_ret
  exact HX.out
end Go.Proofs.YtabndibenffngaaDoor
