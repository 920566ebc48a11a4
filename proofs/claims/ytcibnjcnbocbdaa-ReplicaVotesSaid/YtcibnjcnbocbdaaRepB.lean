/- Contracts of a table's set, New, Done, Ask. Conditions: where the table lies; keys below 8 where one is set. -/
import Derived.Test.YtcibnjcnbocbdaaRepA
namespace Go.Proofs.Ytcibnjcnbocbdaa
open Go.RowKit RepP Go.Maps
set_option maxRecDepth 100000

def NewP14 (w : World) (e : Ending) (w' : World) : Prop := e = .returned (repV w.heap.size) ∧ RepIn w' w.heap.size none new 0 0 ∧ Below w.heap.size w w' ∧ w'.heap.size = w.heap.size + 1
theorem rnew_any (w : World) : Calls Try.prog 9 #[] w (NewP14 w) := by
  have HF : Hid (NewP14 w (.returned (repV w.heap.size)) (w.alloc (.cells #[.map none, .int .i64 0] 59))) := Lib.hid ⟨rfl, ⟨heap_alloc_new w _, new_len, new_at⟩, (Below.refl _ w).alloc (Nat.le_refl _) _, by simp⟩
  unfold repV at HF
  go_enter Try.func9, Try.ntmps9
  go_wp2_with fail
  go_ret
  exact HF.out

def DoneP14 (n : Nat) (w : World) (e : Ending) (w' : World) : Prop := e = .returned (.int .i64 (n : Nat)) ∧ w' = w
theorem rdone_any (w : World) (b : Nat) (m : Option Nat) (t : T) (n k : Nat) (h : RepIn w b m t n k) : Calls Try.prog 13 #[repV b] w (DoneP14 n w) := by
  have k1 := h.c1
  clear h
  unfold repV
  go_enter Try.func13, Try.ntmps13
  go_wp2_with fail
  go_ret
  exact ⟨rfl, rfl⟩

/-- What Ask tells of a key's value. -/
def askV (o : Option Nat) : Value := .tuple #[.int .u16 (o.getD 0 : Nat), errN (if o.isSome then 0 else 17)]
def AskP14 (o : Option Nat) (w : World) (e : Ending) (w' : World) : Prop := e = .returned (askV o) ∧ w' = w
theorem rask_any (w : World) (b : Nat) (m : Option Nat) (t : T) (n k : Nat) (h : RepIn w b m t n k) (key : Nat) (hk : key ≤ 255) : Calls Try.prog 17 #[repV b, .int .u8 (key : Nat)] w (AskP14 (tat t key) w) := by
  have k0 := h.c0
  have hl := h.mp.look hk
  clear h hk
  generalize tat t key = o at *
  unfold repV
  cases o with
  | none =>
    simp only [Option.getD_none, Option.isSome_none] at hl
    have HF : Hid (AskP14 none w (.returned (.tuple #[.int .u16 0, .iface 60 (.int .i64 17)])) w) := Lib.hid ⟨rfl, rfl⟩
    go_enter Try.func17, Try.ntmps17
    go_wp2_with fail
    go_ret2
    exact HF.out
  | some v =>
    simp only [Option.getD_some, Option.isSome_some] at hl
    have HF : Hid (AskP14 (some v) w (.returned (.tuple #[.int .u16 (v : Nat), .nilIface])) w) := Lib.hid ⟨rfl, rfl⟩
    go_enter Try.func17, Try.ntmps17
    go_wp2_with fail
    go_ret2
    exact HF.out

def SetP14 (w : World) (b : Nat) (m : Option Nat) (t : T) (n k : Nat) (e : Ending) (w' : World) : Prop := e = .returned (.tuple #[]) ∧ RepGo w b m t n k w'
set_option maxHeartbeats 1000000 in
theorem rset_any (w : World) (b : Nat) (m : Option Nat) (t : T) (n k : Nat) (h : RepIn w b m t n k) (hk : k ≤ 1000000) (key v : Nat) (h7 : key ≤ 7) (hv : v < 65536) :
    Calls Try.prog 23 #[repV b, .int .u8 (key : Nat), .int .u16 (v : Nat)] w (SetP14 w b m (t.set key (some v)) n (k + 1)) := by
  have hmm := @run_makeMap Try.prog
  have qT : ∀ (w : World) (r : Option Nat), (binOp .eql 57 (.map r) (.map none)).run Try.prog w = .ok (.bool r.isNone) w := fun w r => run_eql_map_nil w _ _ _ r Try.underlying57
  have k0 := h.c0
  have f0 := h.free 0
  have hl8 : key < t.length := by rw [h.len]; omega
  have hkey := keyOfU8 (k := key) (by omega)
  have hval := plainElem_int (H := Unit) Try.underlying27 (u16L_wf hv)
  have hbz := h.lt
  unfold repV
  match m, h with
  | none, h =>
    have hsz : (w.setCell ⟨b, 0, none⟩ (.map (some w.heap.size))).heap.size = w.heap.size := by simp
    have g1 := heap_setCell_same w b 0 _ _ (.map (some w.heap.size)) h.at_
    have g2 : ((w.setCell ⟨b, 0, none⟩ (.map (some w.heap.size))).alloc (.map #[] 0)).heap[b]? = _ := (heap_alloc_old (w.setCell ⟨b, 0, none⟩ (.map (some w.heap.size))) _ (by rw [hsz]; exact hbz)).trans g1
    have hown : ((w.setCell ⟨b, 0, none⟩ (.map (some w.heap.size))).alloc (.map #[] 0)).ownsMap Try.prog 5 (plainElem Try.prog 27) w.heap.size 0 (.map [] : DataW Unit) := by
      have := World.ownsMap_made (w.setCell ⟨b, 0, none⟩ (.map (some w.heap.size))) Try.prog 5 (plainElem (H := Unit) Try.prog 27)
      rwa [hsz] at this
    have ha1 : Apart (RepB b none) w ((w.setCell ⟨b, 0, none⟩ (.map (some w.heap.size))).alloc (.map #[] 0)) := ((Apart.refl _ w).setCell (p := ⟨b, 0, none⟩) (.inl (.inl rfl)) _).alloc _
    have HF : Hid (∀ w2, w2.ownsMap Try.prog 5 (plainElem Try.prog 27) w.heap.size 1 ((DataW.map [] : DataW Unit).put (u8L key) (u16D v)) → ((w.setCell ⟨b, 0, none⟩ (.map (some w.heap.size))).alloc (.map #[] 0)).grownBy w2 (some w.heap.size) → SetP14 w b none (t.set key (some v)) n (k + 1) (.returned (.tuple #[])) w2) := Lib.hid fun w2 h2 h3 => by
      refine ⟨rfl, some w.heap.size, ⟨?_, by rw [List.length_set]; exact h.len, ⟨_, h2.mono (by omega), (Tied.none_ h.mp).put ⟨_, rfl⟩ hl8 hv⟩⟩, ha1.grown h3 (fun q e => .inr (by cases e; exact Nat.le_refl _)), .inr ⟨_, rfl, Nat.le_refl _⟩⟩
      exact (h3.block b (by simp; omega) (by simp; omega)).trans g2
    clear h g1 ha1 g2
    go_enter Try.func23, Try.ntmps23
    go_wp2_with (first | (at_mapUpdate; go_loud (refine wpList_mapUpdate_own _ rfl _ _ _ 57 rfl 5 27 keyU8 Try.underlying57 _ w.heap.size 0 _ rfl hown (by unfold maxLen; omega) _ _ _ rfl rfl hkey _ [] hval ?_); intro w2 ho2 hg2) | fail)
    refine bodyPost_end (results_none rfl _ _ _) rfl ?_
    exact HF.out _ ho2 hg2
  | some M, h =>
    obtain ⟨D, hown, hT⟩ := h.mp
    have hMb := h.ne M rfl
    have HF : Hid (∀ w2, w2.ownsMap Try.prog 5 (plainElem Try.prog 27) M (k + 1) (D.put (u8L key) (u16D v)) → w.grownBy w2 (some M) → SetP14 w b (some M) (t.set key (some v)) n (k + 1) (.returned (.tuple #[])) w2) := Lib.hid fun w2 h2 h3 => by
      refine ⟨rfl, some M, ⟨?_, by rw [List.length_set]; exact h.len, ⟨_, h2, hT.put hown.isMap hl8 hv⟩⟩, (Apart.refl _ w).grown h3 (fun q e => .inl (.inr e)), .inl rfl⟩
      exact (h3.block b hbz (by simp; omega)).trans h.at_
    clear h hT
    go_enter Try.func23, Try.ntmps23
    go_wp2_with (first | (at_mapUpdate; refine wpList_mapUpdate_own _ rfl _ _ _ 57 rfl 5 27 keyU8 Try.underlying57 _ M k _ rfl hown (by unfold maxLen; omega) _ _ _ rfl rfl hkey _ [] hval ?_; intro w2 ho2 hg2) | fail)
    refine bodyPost_end (results_none rfl _ _ _) rfl ?_
    exact HF.out _ ho2 hg2
end Go.Proofs.Ytcibnjcnbocbdaa
