/- Contracts of frame's putStamp, putCommand, putMessages, putRecords. Conditions: where the Writer and the lists lie; numbers within their types. -/
import Derived.Test.YtmhpdmpihmahdaaFraD
namespace Go.Proofs.Ytmhpdmpihmahdaa
open Go.RowKit

/-- Behind puts into a Writer: what it holds then. -/
def PutIn (B bw : Nat) (g : Option Nat) (l d : List UInt8) (w w' : World) : Prop :=
  ∃ g', WriterAt w' B bw g' (l ++ d) ∧ Moved w g g' ∧ Apart (WF bw g) w w'

theorem WriterAt.alloc {w : World} {B bw : Nat} {g : Option Nat} {l : List UInt8} (h : WriterAt w B bw g l) (o : Obj) : WriterAt (w.alloc o) B bw g l :=
  h.apart (F := fun _ => False) ((Apart.refl _ _).alloc o) (fun h => h) (fun _ _ h => h)
theorem PutIn.start {B bw : Nat} {g : Option Nat} {l : List UInt8} {w : World} (h : WriterAt w B bw g l) : PutIn B bw g l [] w w :=
  ⟨g, by simpa using h, Moved.refl _ _, Apart.refl _ _⟩
theorem PutIn.join {B bw : Nat} {g g1 : Option Nat} {l d1 d2 : List UInt8} {w w1 w2 : World} (hm : Moved w g g1) (ha : Apart (WF bw g) w w1) (h : PutIn B bw g1 (l ++ d1) d2 w1 w2) : PutIn B bw g l (d1 ++ d2) w w2 := by
  obtain ⟨g', h2, h3, h4⟩ := h
  refine ⟨g', by rw [← List.append_assoc]; exact h2, hm.trans h3 ha.size, ha.trans h4 ?_⟩
  rintro k (rfl | rfl)
  · exact .inl (.inl rfl)
  · rcases hm with e1 | ⟨k', e1, e2⟩
    · exact .inl (.inr e1.symm)
    · injection e1 with e1
      exact .inr (by omega)
theorem PutIn.unalloc {B bw : Nat} {g : Option Nat} {l d : List UInt8} {w w2 : World} {o : Obj} (hi : PutIn B bw g l d (w.alloc o) w2) : PutIn B bw g l d w w2 := by
  have h := PutIn.join (l := l) (d1 := []) (w := w) (w1 := w.alloc o) (Moved.refl w g) ((Apart.refl _ _).alloc o) (by simpa using hi)
  simpa using h
theorem PutIn.done {B bw : Nat} {g : Option Nat} {l d more : List UInt8} {w w2 : World} {o : Obj} (hi : PutIn B bw g l d (w.alloc o) w2) (he : d = more) : PutPost B bw g l more w (.returned (.tuple #[])) w2 := by
  subst he
  have h := PutIn.join (l := l) (d1 := []) (w := w) (w1 := w.alloc o) (Moved.refl w g) ((Apart.refl _ _).alloc o) (by simpa using hi)
  obtain ⟨g', h1, h2, h3⟩ := h
  exact ⟨g', rfl, by simpa using h1, h2, h3⟩
theorem PutIn.post {B bw : Nat} {g : Option Nat} {l d more : List UInt8} {w w2 : World} (hi : PutIn B bw g l d w w2) (he : d = more) : PutPost B bw g l more w (.returned (.tuple #[])) w2 := by
  subst he
  obtain ⟨g', h1, h2, h3⟩ := hi
  exact ⟨g', rfl, h1, h2, h3⟩
theorem PutIn.below {B bw : Nat} {g : Option Nat} {l d : List UInt8} {w w' : World} (hi : PutIn B bw g l d w w') (h : WriterAt w B bw g l) (hB : B ≤ w.heap.size) : Below B w w' := by
  obtain ⟨g', _, _, h3⟩ := hi
  refine h3.below hB ?_
  rintro k (rfl | e)
  · exact h.1
  · exact (h.glt k e).1
theorem PutIn.size {B bw : Nat} {g : Option Nat} {l d : List UInt8} {w w' : World} (hi : PutIn B bw g l d w w') : w.heap.size ≤ w'.heap.size := by
  obtain ⟨g', _, _, h3⟩ := hi
  exact h3.size
/-- What was boxed ahead of the puts. -/
theorem box_keep {B bw : Nat} {g : Option Nat} {l d : List UInt8} {w w' : World} {cs : Array Value} {t : TypeId} (h : WriterAt w B bw g l) (hi : PutIn B bw g l d (w.alloc (.cells cs t)) w') (i : Nat) {v : Value} (hv : cs[i]? = some v) : w'.cell? ⟨w.heap.size, i, none⟩ = some v := by
  obtain ⟨g', _, _, h3⟩ := hi
  have h0 : (w.alloc (.cells cs t)).heap[w.heap.size]? = some (.cells cs t (0, 0)) := heap_alloc_new w _
  refine (h3.cell (p := ⟨w.heap.size, i, none⟩) (by simp) ?_).trans ?_
  · rintro (e | e)
    · have := h.lt
      simp at e
      omega
    · have := (h.glt _ e).2
      simp at this
  · unfold World.cell?
    simp only [h0]
    exact hv

theorem PutIn.put {B bw : Nat} {g : Option Nat} {l d : List UInt8} {W w : World} (h : PutIn B bw g l d W w) (n : Nat) (s : Int) (hn : n < 4294967296) (hlen : l.length + d.length ≤ 100000000) (hB : B ≤ W.heap.size) :
    Calls Try.prog 22 #[.pointer (some ⟨bw, 0, none⟩), .int .u32 n, .int .i64 s] w fun e w' => e = .returned (.tuple #[]) ∧ PutIn B bw g l (d ++ WireP.put n s) W w' := by
  obtain ⟨g1, h1, h2, h3⟩ := h
  refine (put_any bw B g1 (l ++ d) n s hn w (by rw [List.length_append]; omega) (Nat.le_trans hB h3.size) h1).mono ?_
  rintro e w' ⟨g2, rfl, h4, h5, h6⟩
  exact ⟨rfl, PutIn.join h2 h3 ⟨g2, h4, h5, h6⟩⟩
theorem PutIn.text {B bw : Nat} {g : Option Nat} {l d : List UInt8} {W w : World} (h : PutIn B bw g l d W w) (A : Option Addr) (n cap : Nat) (t : List UInt8) (hn : t.length = n) (hcap : n ≤ cap) (hlen : l.length + d.length ≤ 100000000) (hB : B ≤ W.heap.size) (ht : Bytes w B A t) :
    Calls Try.prog 56 #[.pointer (some ⟨bw, 0, none⟩), .slice A n cap] w fun e w' => e = .returned (.tuple #[]) ∧ PutIn B bw g l (d ++ WireP.text t) W w' := by
  obtain ⟨g1, h1, h2, h3⟩ := h
  have hBw := Nat.le_trans hB h3.size
  refine (text_any bw B g1 (l ++ d) A n cap t hn hcap w (by rw [List.length_append]; omega) hBw h1 (ht.more hBw) ?_).mono ?_
  · intro h0 k hk
    obtain ⟨b, o, e, hb, _⟩ := ht h0
    rw [e] at hk
    obtain rfl : b = k := by simpa [blockOf] using hk
    rintro (e1 | e1)
    · have := h1.1
      omega
    · have := (h1.glt b e1).1
      omega
  · rintro e w' ⟨g2, rfl, h4, h5, h6⟩
    exact ⟨rfl, PutIn.join h2 h3 ⟨g2, h4, h5, h6⟩⟩

theorem put_num1 (n : Nat) : WireP.put n 1 = WireP.num n 1 := by simp [WireP.put]
theorem put_num2 (n : Nat) : WireP.put n 2 = WireP.num n 2 := by simp [WireP.put]
theorem put_num4 (n : Nat) : WireP.put n 4 = WireP.num n 4 := by simp [WireP.put]

theorem putStamp_any (bw B : Nat) (g : Option Nat) (l : List UInt8) (round members : Nat) (hr : round < 4294967296) (hmb : members < 256) (w : World) (hl : l.length ≤ 10000000) (hB : B ≤ w.heap.size) (h : WriterAt w B bw g l) :
    Calls Try.prog 23 #[.pointer (some ⟨bw, 0, none⟩), .agg #[.int .u32 (round : Nat), .int .u8 (members : Nat)]] w (PutPost B bw g l (WireP.num round 4 ++ WireP.num members 1) w) := by
  have H := Lib.hid h
  have hB' : ∀ o, B ≤ (w.alloc o).heap.size := fun o => by simp; omega
  have HB := Lib.hid hB'
  have HI := Lib.hid (fun o => PutIn.start (h.alloc o))
  clear h hB hB'
  go_enter Try.func23, Try.ntmps23
  go_wp2_with fail
  refine ((HI.out _).put round 4 hr (by simp; omega) (HB.out _)).mono ?_
  rintro e w1 ⟨rfl, hi1⟩
  have c1 := box_keep H.out hi1 1 rfl
  have HI1 := Lib.hid hi1
  clear hi1
  go_wp2_with fail
  refine (HI1.out.put members 1 (by omega) (by simp [put_num4, WireP.num_length]; omega) (HB.out _)).mono ?_
  rintro e w2 ⟨rfl, hi2⟩
  have HI2 := Lib.hid hi2
  clear hi2
  go_wp2_with fail
  go_end0
  exact HI2.out.done (by rw [put_num4, put_num1]; rfl)

theorem putCommand_any (bw B : Nat) (g : Option Nat) (l : List UInt8) (kind key val old : Nat) (h1 : kind < 256) (h2 : key < 256) (h3 : val < 65536) (h4 : old < 65536) (w : World) (hl : l.length ≤ 10000000) (hB : B ≤ w.heap.size) (h : WriterAt w B bw g l) :
    Calls Try.prog 25 #[.pointer (some ⟨bw, 0, none⟩), .agg #[.int .u8 (kind : Nat), .int .u8 (key : Nat), .int .u16 (val : Nat), .int .u16 (old : Nat)]] w (PutPost B bw g l (WireP.num kind 1 ++ (WireP.num key 1 ++ (WireP.num val 2 ++ WireP.num old 2))) w) := by
  have H := Lib.hid h
  have hB' : ∀ o, B ≤ (w.alloc o).heap.size := fun o => by simp; omega
  have HB := Lib.hid hB'
  have HI := Lib.hid (fun o => PutIn.start (h.alloc o))
  clear h hB hB'
  go_enter Try.func25, Try.ntmps25
  go_wp2_with fail
  refine ((HI.out _).put kind 1 (by omega) (by simp; omega) (HB.out _)).mono ?_
  rintro e w1 ⟨rfl, hi1⟩
  have c1 := box_keep H.out hi1 1 rfl
  have HI1 := Lib.hid hi1
  clear hi1
  go_wp2_with fail
  refine (HI1.out.put key 1 (by omega) (by simp [put_num1, WireP.num_length]; omega) (HB.out _)).mono ?_
  rintro e w2 ⟨rfl, hi2⟩
  have c2 := box_keep H.out hi2 2 rfl
  have HI2 := Lib.hid hi2
  clear hi2 c1
  go_wp2_with fail
  refine (HI2.out.put val 2 (by omega) (by simp [put_num1, WireP.num_length]; omega) (HB.out _)).mono ?_
  rintro e w3 ⟨rfl, hi3⟩
  have c3 := box_keep H.out hi3 3 rfl
  have HI3 := Lib.hid hi3
  clear hi3 c2
  go_wp2_with fail
  refine (HI3.out.put old 2 (by omega) (by simp [put_num1, put_num2, WireP.num_length]; omega) (HB.out _)).mono ?_
  rintro e w4 ⟨rfl, hi4⟩
  have HI4 := Lib.hid hi4
  clear hi4 c3
  go_wp2_with fail
  go_end0
  exact HI4.out.done (by simp [put_num1, put_num2])
end Go.Proofs.Ytmhpdmpihmahdaa
