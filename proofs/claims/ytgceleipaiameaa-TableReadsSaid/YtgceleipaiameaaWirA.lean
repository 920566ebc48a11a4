/- A Writer in memory (WriterAt), and the contract of Put. Conditions: where the Writer lies; it holds at most 100000000 bytes. -/
import Derived.Test.YtgceleipaiameaaChecked
import Derived.Test.YtgceleipaiameaaWirP
import Derived.Test.YtgceleipaiameaaFrm
import Derived.WalkKit
import Derived.Lib.Hide
import Derived.Outline
import Derived.OwnWalk
import Derived.RegionTactic
import Derived.BigQuiet
import Derived.Tactics2
import Derived.StillTactics
import Derived.Laws.Pointers
namespace Go.Proofs.Ytgceleipaiameaa
open Go.RowKit

theorem infoB : (Try.prog.info? 5).map (fun i => (i.zero, i.size, i.bytes)) = some (some (.int .u8 0), 1, 1) := by kernel_rfl

/-- A Writer in block bw, its bytes in block g (nil: none), both of the call's own: from B on. -/
def WriterAt (w : World) (B bw : Nat) (g : Option Nat) (l : List UInt8) : Prop :=
  B ≤ bw ∧ g ≠ some bw ∧ ∃ v, w.heap[bw]? = some (.cells #[v] 52 (0, 0)) ∧ Row w B 5 g v l

theorem WriterAt.apart {w w' : World} {B bw : Nat} {g : Option Nat} {l : List UInt8} {F : Nat → Prop} (h : WriterAt w B bw g l) (ha : Apart F w w') (hb : ¬ F bw) (hF : ∀ k, g = some k → ¬ F k) : WriterAt w' B bw g l := by
  obtain ⟨h1, h2, v, h3, h4⟩ := h
  exact ⟨h1, h2, v, (ha.block bw (lt_of_block h3) hb).trans h3, h4.apart ha hF⟩
theorem WriterAt.cell {w : World} {B bw : Nat} {g : Option Nat} {l : List UInt8} (h : WriterAt w B bw g l) : ∃ v, w.cell? ⟨bw, 0, none⟩ = some v ∧ w.frozen? ⟨bw, 0, none⟩ = false ∧ Row w B 5 g v l := by
  obtain ⟨_, _, v, h3, h4⟩ := h
  exact ⟨v, cell_of_one h3, free_of_one h3, h4⟩
theorem WriterAt.lt {w : World} {B bw : Nat} {g : Option Nat} {l : List UInt8} (h : WriterAt w B bw g l) : bw < w.heap.size := by
  obtain ⟨_, _, v, h3, _⟩ := h
  exact lt_of_block h3
theorem WriterAt.glt {w : World} {B bw : Nat} {g : Option Nat} {l : List UInt8} (h : WriterAt w B bw g l) : ∀ k, g = some k → B ≤ k ∧ k < w.heap.size := by
  obtain ⟨_, _, v, _, h4⟩ := h
  exact h4.lt

/-- What a Writer's block and its bytes' block may be written. -/
def WF (bw : Nat) (g : Option Nat) (k : Nat) : Prop := k = bw ∨ g = some k

/-- Behind a store of the longer slice into the Writer. -/
theorem writer_put {w w1 : World} {B bw : Nat} {g g1 : Option Nat} {l : List UInt8} {v1 : Value} {more : List UInt8} (h : WriterAt w B bw g l) (hr : Row w1 B 5 g1 v1 (l ++ more)) (hm : Moved w g g1) (ha : Apart (fun k => g = some k) w w1) :
    WriterAt (w1.setCell ⟨bw, 0, none⟩ v1) B bw g1 (l ++ more) ∧ Apart (WF bw g) w (w1.setCell ⟨bw, 0, none⟩ v1) := by
  have hlt := h.lt
  obtain ⟨h1, h2, v, h3, h4⟩ := h
  have hne : g1 ≠ some bw := by
    rcases hm with rfl | ⟨k, rfl, hk⟩
    · exact h2
    · intro e; injection e with e; omega
  refine ⟨⟨h1, hne, v1, ?_, hr.1, ?_⟩, ?_⟩
  · exact one_setCell ((ha.block bw hlt h2).trans h3)
  · exact ownsRow_setCell_other hr.2 (by rw [hr.1]; exact hne) _
  · have h6 : Apart (WF bw g) w w1 := ha.mono fun k _ e => Or.inr e
    exact h6.setCell (.inl (.inl rfl)) _

/-- The Writer's cell behind the append, ahead of the store. -/
theorem writer_cell {w w1 : World} {B bw : Nat} {g : Option Nat} {l : List UInt8} (h : WriterAt w B bw g l) (ha : Apart (fun k => g = some k) w w1) : (∃ v, w1.cell? ⟨bw, 0, none⟩ = some v) ∧ w1.frozen? ⟨bw, 0, none⟩ = false := by
  obtain ⟨h1, h2, v, h3, h4⟩ := h
  have h5 := (ha.block bw (lt_of_block h3) h2).trans h3
  exact ⟨⟨v, cell_of_one h5⟩, free_of_one h5⟩
theorem writer_row {w w1 : World} {B bw : Nat} {g g1 : Option Nat} {l l1 : List UInt8} {v1 : Value} (h : WriterAt w B bw g l) (hr : Row w1 B 5 g1 v1 l1) (hm : Moved w g g1) : Row (w1.setCell ⟨bw, 0, none⟩ v1) B 5 g1 v1 l1 := by
  have hlt := h.lt
  refine ⟨hr.1, ownsRow_setCell_other hr.2 ?_ _⟩
  rw [hr.1]
  rcases hm with rfl | ⟨k, rfl, hk⟩
  · exact h.2.1
  · intro e; injection e with e; simp at e; omega

/-- What putting answers. -/
def PutPost (B bw : Nat) (g : Option Nat) (l more : List UInt8) (w : World) (e : Ending) (w' : World) : Prop :=
  ∃ g', e = .returned (.tuple #[]) ∧ WriterAt w' B bw g' (l ++ more) ∧ Moved w g g' ∧ Apart (WF bw g) w w'

theorem PutPost.none_ {B bw : Nat} {g : Option Nat} {l : List UInt8} {w : World} (h : WriterAt w B bw g l) : PutPost B bw g l [] w (.returned (.tuple #[])) w :=
  ⟨g, rfl, by simpa using h, Moved.refl _ _, Apart.refl _ _⟩

theorem PutPost.step {B bw : Nat} {g g1 : Option Nat} {l l1 l2 l3 : List UInt8} {w w1 w2 : World} {e : Ending} (h : WriterAt w B bw g l) (hm : Moved w g g1) (ha : Apart (WF bw g) w w1) (he : l1 ++ l2 = l3) (hp : PutPost B bw g1 (l ++ l1) l2 w1 e w2) :
    PutPost B bw g l l3 w e w2 := by
  obtain ⟨g', h1, h2, h3, h4⟩ := hp
  refine ⟨g', h1, by rw [← he, ← List.append_assoc]; exact h2, hm.trans h3 ha.size, ha.trans h4 ?_⟩
  rintro k (rfl | rfl)
  · exact .inl (.inl rfl)
  · rcases hm with e1 | ⟨k', e1, e2⟩
    · exact .inl (.inr e1.symm)
    · injection e1 with e1
      exact .inr (by omega)

theorem u8_nat (n : Nat) : ((n % 256 : Nat) : Int) = (((UInt8.ofNat (n % 256)).toNat : Nat) : Int) := by simp

set_option maxHeartbeats 1000000 in
theorem put_one (bw B : Nat) (g : Option Nat) (l : List UInt8) (n : Nat) (w : World) (hl : l.length ≤ 100000000) (hB : B ≤ w.heap.size) (h : WriterAt w B bw g l) :
    Calls Try.prog 22 #[.pointer (some ⟨bw, 0, none⟩), .int .u32 n, .int .i64 1] w (PutPost B bw g l (WireP.put n 1) w) := by
  have Hw0 := Lib.hid h
  obtain ⟨v, k0, f0, h4⟩ := h.cell
  have Hr0 := Lib.hid h4
  have Hb0 := Lib.hid hB
  clear h4 h hB
  go_enter Try.func22, Try.ntmps22
  go_wp2_with (first
  | (at_builtin
     refine wpList_append_r1 rfl (.tmp 57) (.tmp 60) _ rfl B 5 (.int .u8 0) Try.underlying30 infoB rfl _ _ _ rfl Hr0.out _ 1 _ rfl ?d1 (UInt8.ofNat (n % 256)) ?c1 (by simp; omega) Hb0.out ?_
     case d1 => simp
     case c1 => simp <;> omega
     intro v1 w1 g1 hr1 hm1 ha1
     obtain ⟨A1, n1, c1, rfl⟩ := hr1.slice
     have Hr1 := Lib.hid (writer_row Hw0.out hr1 hm1)
     have HH1 := Lib.hid (writer_put Hw0.out hr1 hm1 ha1)
     have Hw1 := Lib.hid HH1.out.1
     have Ha1 := Lib.hid HH1.out.2
     have Hm1 := Lib.hid hm1
     have Hb1 := Lib.hid (Nat.le_trans Hb0.out Ha1.out.size)
     obtain ⟨⟨x1, kc1⟩, fc1⟩ := writer_cell Hw0.out ha1
     clear hr1 hm1 ha1 HH1)
  | fail)
  go_end0
  refine PutPost.step (l1 := [UInt8.ofNat (n % 256)]) (l2 := []) Hw0.out Hm1.out Ha1.out (WireP.put_1 n).symm ?_
  exact PutPost.none_ Hw1.out

set_option maxHeartbeats 1000000 in
theorem put_two (bw B : Nat) (g : Option Nat) (l : List UInt8) (n : Nat) (w : World) (hl : l.length ≤ 100000000) (hB : B ≤ w.heap.size) (h : WriterAt w B bw g l) :
    Calls Try.prog 22 #[.pointer (some ⟨bw, 0, none⟩), .int .u32 n, .int .i64 2] w (PutPost B bw g l (WireP.put n 2) w) := by
  have Hw0 := Lib.hid h
  obtain ⟨v, k0, f0, h4⟩ := h.cell
  have Hr0 := Lib.hid h4
  have Hb0 := Lib.hid hB
  clear h4 h hB
  go_enter Try.func22, Try.ntmps22
  go_wp2_with (first
  | (at_builtin
     refine wpList_append_r1 rfl (.tmp 45) (.tmp 49) _ rfl B 5 (.int .u8 0) Try.underlying30 infoB rfl _ _ _ rfl Hr0.out _ 1 _ rfl ?d1 (UInt8.ofNat (n / 256 % 256)) ?c1 (by simp; omega) Hb0.out ?_
     case d1 => simp
     case c1 => simp <;> omega
     intro v1 w1 g1 hr1 hm1 ha1
     obtain ⟨A1, n1, c1, rfl⟩ := hr1.slice
     have Hr1 := Lib.hid (writer_row Hw0.out hr1 hm1)
     have HH1 := Lib.hid (writer_put Hw0.out hr1 hm1 ha1)
     have Hw1 := Lib.hid HH1.out.1
     have Ha1 := Lib.hid HH1.out.2
     have Hm1 := Lib.hid hm1
     have Hb1 := Lib.hid (Nat.le_trans Hb0.out Ha1.out.size)
     obtain ⟨⟨x1, kc1⟩, fc1⟩ := writer_cell Hw0.out ha1
     clear hr1 hm1 ha1 HH1)
  | (at_builtin
     refine wpList_append_r1 rfl (.tmp 57) (.tmp 60) _ rfl B 5 (.int .u8 0) Try.underlying30 infoB rfl _ _ _ rfl Hr1.out _ 1 _ rfl ?d2 (UInt8.ofNat (n % 256)) ?c2 (by simp; omega) Hb1.out ?_
     case d2 => simp
     case c2 => simp <;> omega
     intro v2 w2 g2 hr2 hm2 ha2
     obtain ⟨A2, n2, c2, rfl⟩ := hr2.slice
     have Hr2 := Lib.hid (writer_row Hw1.out hr2 hm2)
     have HH2 := Lib.hid (writer_put Hw1.out hr2 hm2 ha2)
     have Hw2 := Lib.hid HH2.out.1
     have Ha2 := Lib.hid HH2.out.2
     have Hm2 := Lib.hid hm2
     have Hb2 := Lib.hid (Nat.le_trans Hb1.out Ha2.out.size)
     obtain ⟨⟨x2, kc2⟩, fc2⟩ := writer_cell Hw1.out ha2
     clear hr2 hm2 ha2 HH2)
  | fail)
  go_end0
  refine PutPost.step (l1 := [UInt8.ofNat (n / 256 % 256)]) (l2 := WireP.put n 1) Hw0.out Hm1.out Ha1.out (WireP.put_2 n).symm ?_
  refine PutPost.step (l1 := [UInt8.ofNat (n % 256)]) (l2 := []) Hw1.out Hm2.out Ha2.out (WireP.put_1 n).symm ?_
  exact PutPost.none_ Hw2.out

set_option maxHeartbeats 1000000 in
theorem put_three (bw B : Nat) (g : Option Nat) (l : List UInt8) (n : Nat) (w : World) (hl : l.length ≤ 100000000) (hB : B ≤ w.heap.size) (h : WriterAt w B bw g l) :
    Calls Try.prog 22 #[.pointer (some ⟨bw, 0, none⟩), .int .u32 n, .int .i64 3] w (PutPost B bw g l (WireP.put n 3) w) := by
  have Hw0 := Lib.hid h
  obtain ⟨v, k0, f0, h4⟩ := h.cell
  have Hr0 := Lib.hid h4
  have Hb0 := Lib.hid hB
  clear h4 h hB
  go_enter Try.func22, Try.ntmps22
  go_wp2_with (first
  | (at_builtin
     refine wpList_append_r1 rfl (.tmp 33) (.tmp 37) _ rfl B 5 (.int .u8 0) Try.underlying30 infoB rfl _ _ _ rfl Hr0.out _ 1 _ rfl ?d1 (UInt8.ofNat (n / 65536 % 256)) ?c1 (by simp; omega) Hb0.out ?_
     case d1 => simp
     case c1 => simp <;> omega
     intro v1 w1 g1 hr1 hm1 ha1
     obtain ⟨A1, n1, c1, rfl⟩ := hr1.slice
     have Hr1 := Lib.hid (writer_row Hw0.out hr1 hm1)
     have HH1 := Lib.hid (writer_put Hw0.out hr1 hm1 ha1)
     have Hw1 := Lib.hid HH1.out.1
     have Ha1 := Lib.hid HH1.out.2
     have Hm1 := Lib.hid hm1
     have Hb1 := Lib.hid (Nat.le_trans Hb0.out Ha1.out.size)
     obtain ⟨⟨x1, kc1⟩, fc1⟩ := writer_cell Hw0.out ha1
     clear hr1 hm1 ha1 HH1)
  | (at_builtin
     refine wpList_append_r1 rfl (.tmp 45) (.tmp 49) _ rfl B 5 (.int .u8 0) Try.underlying30 infoB rfl _ _ _ rfl Hr1.out _ 1 _ rfl ?d2 (UInt8.ofNat (n / 256 % 256)) ?c2 (by simp; omega) Hb1.out ?_
     case d2 => simp
     case c2 => simp <;> omega
     intro v2 w2 g2 hr2 hm2 ha2
     obtain ⟨A2, n2, c2, rfl⟩ := hr2.slice
     have Hr2 := Lib.hid (writer_row Hw1.out hr2 hm2)
     have HH2 := Lib.hid (writer_put Hw1.out hr2 hm2 ha2)
     have Hw2 := Lib.hid HH2.out.1
     have Ha2 := Lib.hid HH2.out.2
     have Hm2 := Lib.hid hm2
     have Hb2 := Lib.hid (Nat.le_trans Hb1.out Ha2.out.size)
     obtain ⟨⟨x2, kc2⟩, fc2⟩ := writer_cell Hw1.out ha2
     clear hr2 hm2 ha2 HH2)
  | (at_builtin
     refine wpList_append_r1 rfl (.tmp 57) (.tmp 60) _ rfl B 5 (.int .u8 0) Try.underlying30 infoB rfl _ _ _ rfl Hr2.out _ 1 _ rfl ?d3 (UInt8.ofNat (n % 256)) ?c3 (by simp; omega) Hb2.out ?_
     case d3 => simp
     case c3 => simp <;> omega
     intro v3 w3 g3 hr3 hm3 ha3
     obtain ⟨A3, n3, c3, rfl⟩ := hr3.slice
     have Hr3 := Lib.hid (writer_row Hw2.out hr3 hm3)
     have HH3 := Lib.hid (writer_put Hw2.out hr3 hm3 ha3)
     have Hw3 := Lib.hid HH3.out.1
     have Ha3 := Lib.hid HH3.out.2
     have Hm3 := Lib.hid hm3
     have Hb3 := Lib.hid (Nat.le_trans Hb2.out Ha3.out.size)
     obtain ⟨⟨x3, kc3⟩, fc3⟩ := writer_cell Hw2.out ha3
     clear hr3 hm3 ha3 HH3)
  | fail)
  go_end0
  refine PutPost.step (l1 := [UInt8.ofNat (n / 65536 % 256)]) (l2 := WireP.put n 2) Hw0.out Hm1.out Ha1.out (WireP.put_3 n).symm ?_
  refine PutPost.step (l1 := [UInt8.ofNat (n / 256 % 256)]) (l2 := WireP.put n 1) Hw1.out Hm2.out Ha2.out (WireP.put_2 n).symm ?_
  refine PutPost.step (l1 := [UInt8.ofNat (n % 256)]) (l2 := []) Hw2.out Hm3.out Ha3.out (WireP.put_1 n).symm ?_
  exact PutPost.none_ Hw3.out

set_option maxHeartbeats 1000000 in
theorem put_four (bw B : Nat) (g : Option Nat) (l : List UInt8) (n : Nat) (hn : n < 4294967296) (w : World) (hl : l.length ≤ 100000000) (hB : B ≤ w.heap.size) (h : WriterAt w B bw g l) :
    Calls Try.prog 22 #[.pointer (some ⟨bw, 0, none⟩), .int .u32 n, .int .i64 4] w (PutPost B bw g l (WireP.put n 4) w) := by
  have Hw0 := Lib.hid h
  obtain ⟨v, k0, f0, h4⟩ := h.cell
  have Hr0 := Lib.hid h4
  have Hb0 := Lib.hid hB
  clear h4 h hB
  go_enter Try.func22, Try.ntmps22
  go_wp2_with (first
  | (at_builtin
     refine wpList_append_r1 rfl (.tmp 21) (.tmp 25) _ rfl B 5 (.int .u8 0) Try.underlying30 infoB rfl _ _ _ rfl Hr0.out _ 1 _ rfl ?d1 (UInt8.ofNat (n / 16777216 % 256)) ?c1 (by simp; omega) Hb0.out ?_
     case d1 => simp
     case c1 => simp <;> omega
     intro v1 w1 g1 hr1 hm1 ha1
     obtain ⟨A1, n1, c1, rfl⟩ := hr1.slice
     have Hr1 := Lib.hid (writer_row Hw0.out hr1 hm1)
     have HH1 := Lib.hid (writer_put Hw0.out hr1 hm1 ha1)
     have Hw1 := Lib.hid HH1.out.1
     have Ha1 := Lib.hid HH1.out.2
     have Hm1 := Lib.hid hm1
     have Hb1 := Lib.hid (Nat.le_trans Hb0.out Ha1.out.size)
     obtain ⟨⟨x1, kc1⟩, fc1⟩ := writer_cell Hw0.out ha1
     clear hr1 hm1 ha1 HH1)
  | (at_builtin
     refine wpList_append_r1 rfl (.tmp 33) (.tmp 37) _ rfl B 5 (.int .u8 0) Try.underlying30 infoB rfl _ _ _ rfl Hr1.out _ 1 _ rfl ?d2 (UInt8.ofNat (n / 65536 % 256)) ?c2 (by simp; omega) Hb1.out ?_
     case d2 => simp
     case c2 => simp <;> omega
     intro v2 w2 g2 hr2 hm2 ha2
     obtain ⟨A2, n2, c2, rfl⟩ := hr2.slice
     have Hr2 := Lib.hid (writer_row Hw1.out hr2 hm2)
     have HH2 := Lib.hid (writer_put Hw1.out hr2 hm2 ha2)
     have Hw2 := Lib.hid HH2.out.1
     have Ha2 := Lib.hid HH2.out.2
     have Hm2 := Lib.hid hm2
     have Hb2 := Lib.hid (Nat.le_trans Hb1.out Ha2.out.size)
     obtain ⟨⟨x2, kc2⟩, fc2⟩ := writer_cell Hw1.out ha2
     clear hr2 hm2 ha2 HH2)
  | (at_builtin
     refine wpList_append_r1 rfl (.tmp 45) (.tmp 49) _ rfl B 5 (.int .u8 0) Try.underlying30 infoB rfl _ _ _ rfl Hr2.out _ 1 _ rfl ?d3 (UInt8.ofNat (n / 256 % 256)) ?c3 (by simp; omega) Hb2.out ?_
     case d3 => simp
     case c3 => simp <;> omega
     intro v3 w3 g3 hr3 hm3 ha3
     obtain ⟨A3, n3, c3, rfl⟩ := hr3.slice
     have Hr3 := Lib.hid (writer_row Hw2.out hr3 hm3)
     have HH3 := Lib.hid (writer_put Hw2.out hr3 hm3 ha3)
     have Hw3 := Lib.hid HH3.out.1
     have Ha3 := Lib.hid HH3.out.2
     have Hm3 := Lib.hid hm3
     have Hb3 := Lib.hid (Nat.le_trans Hb2.out Ha3.out.size)
     obtain ⟨⟨x3, kc3⟩, fc3⟩ := writer_cell Hw2.out ha3
     clear hr3 hm3 ha3 HH3)
  | (at_builtin
     refine wpList_append_r1 rfl (.tmp 57) (.tmp 60) _ rfl B 5 (.int .u8 0) Try.underlying30 infoB rfl _ _ _ rfl Hr3.out _ 1 _ rfl ?d4 (UInt8.ofNat (n % 256)) ?c4 (by simp; omega) Hb3.out ?_
     case d4 => simp
     case c4 => simp <;> omega
     intro v4 w4 g4 hr4 hm4 ha4
     obtain ⟨A4, n4, c4, rfl⟩ := hr4.slice
     have Hr4 := Lib.hid (writer_row Hw3.out hr4 hm4)
     have HH4 := Lib.hid (writer_put Hw3.out hr4 hm4 ha4)
     have Hw4 := Lib.hid HH4.out.1
     have Ha4 := Lib.hid HH4.out.2
     have Hm4 := Lib.hid hm4
     have Hb4 := Lib.hid (Nat.le_trans Hb3.out Ha4.out.size)
     obtain ⟨⟨x4, kc4⟩, fc4⟩ := writer_cell Hw3.out ha4
     clear hr4 hm4 ha4 HH4)
  | fail)
  go_end0
  refine PutPost.step (l1 := [UInt8.ofNat (n / 16777216 % 256)]) (l2 := WireP.put n 3) Hw0.out Hm1.out Ha1.out (WireP.put_4 n).symm ?_
  refine PutPost.step (l1 := [UInt8.ofNat (n / 65536 % 256)]) (l2 := WireP.put n 2) Hw1.out Hm2.out Ha2.out (WireP.put_3 n).symm ?_
  refine PutPost.step (l1 := [UInt8.ofNat (n / 256 % 256)]) (l2 := WireP.put n 1) Hw2.out Hm3.out Ha3.out (WireP.put_2 n).symm ?_
  refine PutPost.step (l1 := [UInt8.ofNat (n % 256)]) (l2 := []) Hw3.out Hm4.out Ha4.out (WireP.put_1 n).symm ?_
  exact PutPost.none_ Hw4.out

end Go.Proofs.Ytgceleipaiameaa
