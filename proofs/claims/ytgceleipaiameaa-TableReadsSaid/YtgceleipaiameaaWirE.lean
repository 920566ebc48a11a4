/- A Reader in memory (ReaderAt), and contracts of enough, next, At and Read. Conditions: where the Reader lies. -/
import Derived.Test.YtgceleipaiameaaWirB
namespace Go.Proofs.Ytgceleipaiameaa
open Go.RowKit

/-- A block of three cells: what they hold, that they may be written, and what it is behind a store. -/
theorem three_cells {w : World} {b : Nat} {x y z : Value} {t : TypeId} (h : w.heap[b]? = some (.cells #[x, y, z] t (0, 0))) :
    w.cell? ⟨b, 0, none⟩ = some x ∧ w.cell? ⟨b, 1, none⟩ = some y ∧ w.cell? ⟨b, 2, none⟩ = some z ∧ w.frozen? ⟨b, 0, none⟩ = false ∧ w.frozen? ⟨b, 1, none⟩ = false ∧ w.frozen? ⟨b, 2, none⟩ = false := by
  refine ⟨?_, ?_, ?_, ?_, ?_, ?_⟩ <;> simp [World.cell?, World.frozen?, h]
theorem three_set {w : World} {b : Nat} {x y z u : Value} {t : TypeId} (h : w.heap[b]? = some (.cells #[x, y, z] t (0, 0))) :
    (w.setCell ⟨b, 1, none⟩ u).heap[b]? = some (.cells #[x, u, z] t (0, 0)) ∧ (w.setCell ⟨b, 2, none⟩ u).heap[b]? = some (.cells #[x, y, u] t (0, 0)) := by
  have hlt := lt_of_block h
  have h' : w.heap[b] = .cells #[x, y, z] t (0, 0) := by simpa [Array.getElem?_eq_getElem hlt] using h
  constructor
  · show (w.heap.modify b _)[b]? = _
    rw [Array.getElem?_eq_getElem (by simpa using hlt), Array.getElem_modify_self, h']
    rfl
  · show (w.heap.modify b _)[b]? = _
    rw [Array.getElem?_eq_getElem (by simpa using hlt), Array.getElem_modify_self, h']
    rfl

/-- Bytes within bytes. -/
theorem Bytes.drop {w : World} {B : Nat} {b o : Nat} {l : List UInt8} (h : Bytes w B (some ⟨b, o, none⟩) l) (k : Nat) : Bytes w B (some ⟨b, o + k, none⟩) (l.drop k) := fun hn => by
  have hl : 0 < l.length := by simp at hn; omega
  obtain ⟨b', o', e, hb, hc⟩ := h hl
  injection e with e
  injection e with e1 e2 e3
  subst e1 e2
  refine ⟨b, o + k, rfl, hb, fun i c hi => ?_⟩
  rw [List.getElem?_drop] at hi
  rw [Nat.add_assoc]
  exact hc (k + i) c hi

section
variable {P : Program}
/-- s[lo:hi]. -/
theorem run_slice_mid (W : World) (t e : TypeId) (ht : P.underlying t = some (.slice e)) (hz : ∀ w, (Go.sizeOf e).run P w = .ok 1 w) (b o : Nat) (len cap : Nat) (lo hi : Int) (k n : Nat) (hlo : lo = k) (hhi : hi = (k + n : Nat)) (hn : 0 < n) (h2 : k + n ≤ cap) :
    (Instr.slice t (.slice (some ⟨b, o, none⟩) len cap) (some (.int .i64 lo)) (some (.int .i64 hi)) none).run P W = .ok (.slice (some ⟨b, o + k, none⟩) n (cap - k)) W := by
  subst hlo hhi
  have ht' : P.underlying t = some (.slice (P.elem t)) := by simp [Program.elem, ht]
  have he : P.elem t = e := by simp [Program.elem, ht]
  rw [run_slice_lh W t _ _ _ ht' .i64 .i64 _ _ (by omega) (by omega) (by omega), he, hz]
  have ha : (⟨b, o, none⟩ : Addr).add (k * 1) = ⟨b, o + k, none⟩ := by rw [Nat.mul_one]; exact addr_addB b o k
  simp only [Result.andThen, sliced, Int.toNat_natCast]
  rw [if_neg (by omega)]
  simp only [Option.map_some, ha]
  congr 2
  omega
/-- s[lo:]. -/
theorem run_slice_from (W : World) (t e : TypeId) (ht : P.underlying t = some (.slice e)) (hz : ∀ w, (Go.sizeOf e).run P w = .ok 1 w) (b o : Nat) (len cap : Nat) (lo : Int) (k : Nat) (hlo : lo = k) (h1 : k ≤ len) :
    (Instr.slice t (.slice (some ⟨b, o, none⟩) len cap) (some (.int .i64 lo)) none none).run P W = .ok (.slice (some (if cap = k then ⟨b, o, none⟩ else ⟨b, o + k, none⟩)) (len - k) (cap - k)) W := by
  subst hlo
  have ht' : P.underlying t = some (.slice (P.elem t)) := by simp [Program.elem, ht]
  have he : P.elem t = e := by simp [Program.elem, ht]
  rw [run_slice_l W t _ _ _ ht' .i64 _ (by omega) (by omega), he, hz]
  have ha : (⟨b, o, none⟩ : Addr).add (k * 1) = ⟨b, o + k, none⟩ := by rw [Nat.mul_one]; exact addr_addB b o k
  simp only [Result.andThen, sliced, Int.toNat_natCast]
  by_cases h : cap = k
  · rw [if_pos h, if_pos h]
  · rw [if_neg h, if_neg h]
    simp only [Option.map_some, ha]
end

/-- A Reader in block br, over the bytes l, which lie elsewhere. -/
structure ReaderAt (w : World) (br : Nat) (A : Option Addr) (n cap : Nat) (l : List UInt8) (a : Nat) (s : Bool) : Prop where
  block : w.heap[br]? = some (.cells #[.slice A n cap, .int .i64 (a : Nat), .bool s] 98 (0, 0))
  bytes : Bytes w w.heap.size A l
  len : l.length = n
  cap_ : n ≤ cap
  most : n ≤ 140737488355328
  other : blockOf A ≠ some br
  place : a ≤ n

theorem ReaderAt.apart {w w' : World} {br : Nat} {A : Option Addr} {n cap : Nat} {l : List UInt8} {a : Nat} {s : Bool} {F : Nat → Prop} (h : ReaderAt w br A n cap l a s) (ha : Apart F w w') (hb : ¬ F br) (hA : ∀ k, blockOf A = some k → ¬ F k) : ReaderAt w' br A n cap l a s :=
  ⟨(ha.block br (lt_of_block h.block) hb).trans h.block, (h.bytes.apart ha (Nat.le_refl _) hA).more ha.size, h.len, h.cap_, h.most, h.other, h.place⟩
theorem ReaderAt.below {w w' : World} {br : Nat} {A : Option Addr} {n cap : Nat} {l : List UInt8} {a : Nat} {s : Bool} (h : ReaderAt w br A n cap l a s) (ha : Below w.heap.size w w') : ReaderAt w' br A n cap l a s :=
  h.apart (F := fun _ => False) (Apart.of_below' ha) (fun h => h) (fun _ _ h => h)
theorem ReaderAt.some_ {w : World} {br : Nat} {A : Option Addr} {n cap : Nat} {l : List UInt8} {a : Nat} {s : Bool} (h : ReaderAt w br A n cap l a s) (hn : 0 < n) : ∃ b o, A = some ⟨b, o, none⟩ := by
  obtain ⟨b, o, e, _⟩ := h.bytes (by rw [h.len]; exact hn)
  exact ⟨b, o, e⟩

/-- The Reader's own block is all that may be written. -/
def RF (br : Nat) (k : Nat) : Prop := k = br

theorem reader_short {w : World} {br : Nat} {A : Option Addr} {n cap : Nat} {l : List UInt8} {a : Nat} {s : Bool} (h : ReaderAt w br A n cap l a s) (s' : Bool) : ReaderAt (w.setCell ⟨br, 2, none⟩ (.bool s')) br A n cap l a s' ∧ Apart (RF br) w (w.setCell ⟨br, 2, none⟩ (.bool s')) := by
  have ha : Apart (RF br) w (w.setCell ⟨br, 2, none⟩ (.bool s')) := Apart.setCell (F := RF br) (p := ⟨br, 2, none⟩) (Apart.refl _ _) (.inl rfl) _
  exact ⟨⟨(three_set h.block).2, (h.bytes.apart ha (Nat.le_refl _) (fun k e f => h.other (by rw [e]; exact congrArg some f))).more ha.size, h.len, h.cap_, h.most, h.other, h.place⟩, ha⟩
theorem reader_move {w : World} {br : Nat} {A : Option Addr} {n cap : Nat} {l : List UInt8} {a : Nat} {s : Bool} (h : ReaderAt w br A n cap l a s) (a' : Nat) (ha' : a' ≤ n) : ReaderAt (w.setCell ⟨br, 1, none⟩ (.int .i64 (a' : Nat))) br A n cap l a' s ∧ Apart (RF br) w (w.setCell ⟨br, 1, none⟩ (.int .i64 (a' : Nat))) := by
  have ha : Apart (RF br) w (w.setCell ⟨br, 1, none⟩ (.int .i64 (a' : Nat))) := Apart.setCell (F := RF br) (p := ⟨br, 1, none⟩) (Apart.refl _ _) (.inl rfl) _
  exact ⟨⟨(three_set h.block).1, (h.bytes.apart ha (Nat.le_refl _) (fun k e f => h.other (by rw [e]; exact congrArg some f))).more ha.size, h.len, h.cap_, h.most, h.other, ha'⟩, ha⟩
theorem ReaderAt.drew {w : World} {br : Nat} {A : Option Addr} {n cap : Nat} {l : List UInt8} {a : Nat} {s : Bool} (h : ReaderAt w br A n cap l a s) : ReaderAt w.drew br A n cap l a s := ⟨h.block, h.bytes, h.len, h.cap_, h.most, h.other, h.place⟩
theorem ReaderAt.drewN {w : World} {br : Nat} {A : Option Addr} {n cap : Nat} {l : List UInt8} {a : Nat} {s : Bool} (h : ReaderAt w br A n cap l a s) (m : Nat) : ReaderAt (w.drewN m) br A n cap l a s := ⟨h.block, h.bytes, h.len, h.cap_, h.most, h.other, h.place⟩

/-- What enough answers: whether so many bytes are left; where not, the Reader is short from then on. -/
def EnoughPost (br : Nat) (A : Option Addr) (n cap : Nat) (l : List UInt8) (a : Nat) (ok : Bool) (w : World) (e : Ending) (w' : World) : Prop :=
  e = .returned (.bool ok) ∧ ReaderAt w' br A n cap l a (!ok) ∧ Apart (RF br) w w'

theorem enough_nil (m : Value) (w : World) :
    Calls Try.prog 61 #[.pointer none, m] w fun e w' => e = .returned (.bool false) ∧ w = w' := by
  go_enter Try.func61, Try.ntmps61
  go_wp2_with fail
  go_ret
  exact ⟨rfl, rfl⟩

theorem enough_short (br : Nat) (A : Option Addr) (n cap : Nat) (l : List UInt8) (a : Nat) (m : Value) (w : World) (h : ReaderAt w br A n cap l a true) :
    Calls Try.prog 61 #[.pointer (some ⟨br, 0, none⟩), m] w (EnoughPost br A n cap l a false w) := by
  obtain ⟨k0, k1, k2, f0, f1, f2⟩ := three_cells h.block
  have HF : Hid (EnoughPost br A n cap l a false w (.returned (.bool false)) w) := Lib.hid ⟨rfl, h, Apart.refl _ _⟩
  clear h
  go_enter Try.func61, Try.ntmps61
  go_wp2_with fail
  go_ret
  exact HF.out

theorem enough_any (br : Nat) (A : Option Addr) (n cap : Nat) (l : List UInt8) (a : Nat) (m : Int) (hm : 0 ≤ m ∧ m ≤ 1000) (w : World) (h : ReaderAt w br A n cap l a false) :
    Calls Try.prog 61 #[.pointer (some ⟨br, 0, none⟩), .int .i64 m] w (EnoughPost br A n cap l a (decide (a + m.toNat ≤ n)) w) := by
  obtain ⟨k0, k1, k2, f0, f1, f2⟩ := three_cells h.block
  have hp := h.place
  have hmo := h.most
  by_cases hok : a + m.toNat ≤ n
  · have q : decide ((n : Int) - (a : Int) < m) = false := by rw [decide_eq_false_iff_not]; omega
    have HF : Hid (EnoughPost br A n cap l a (decide (a + m.toNat ≤ n)) w (.returned (.bool true)) (w.setCell ⟨br, 2, none⟩ (.bool false)).drew) := Lib.hid (by
      rw [decide_eq_true hok]
      obtain ⟨h1, h2⟩ := reader_short h false
      exact ⟨rfl, h1.drew, h2.drew⟩)
    clear h hok
    go_enter Try.func61, Try.ntmps61
    go_wp2_with fail
    go_region
    go_wp2_with fail
    go_ret
    exact HF.out
  · have q : decide ((n : Int) - (a : Int) < m) = true := by rw [decide_eq_true_iff]; omega
    have HF : Hid (EnoughPost br A n cap l a (decide (a + m.toNat ≤ n)) w (.returned (.bool false)) (w.setCell ⟨br, 2, none⟩ (.bool true)).drew) := Lib.hid (by
      rw [decide_eq_false hok]
      obtain ⟨h1, h2⟩ := reader_short h true
      exact ⟨rfl, h1.drew, h2.drew⟩)
    clear h hok
    go_enter Try.func61, Try.ntmps61
    go_wp2_with fail
    go_region
    go_wp2_with fail
    go_ret
    exact HF.out

/-- What next answers: the bytes that stand there; the Reader stands behind them. -/
def NextPost (br : Nat) (A : Option Addr) (n cap : Nat) (l : List UInt8) (a m : Nat) (s : Bool) (w : World) (e : Ending) (w' : World) : Prop :=
  ∃ b o c, e = .returned (.slice (some ⟨b, o, none⟩) m c) ∧ m ≤ c ∧ blockOf A = some b ∧ Bytes w' w'.heap.size (some ⟨b, o, none⟩) ((l.drop a).take m) ∧ ReaderAt w' br A n cap l (a + m) s ∧ Apart (RF br) w w'

theorem next_any (br : Nat) (A : Option Addr) (n cap : Nat) (l : List UInt8) (a m : Nat) (s : Bool) (hm : 0 < m) (hm2 : a + m ≤ n) (w : World) (h : ReaderAt w br A n cap l a s) :
    Calls Try.prog 62 #[.pointer (some ⟨br, 0, none⟩), .int .i64 (m : Nat)] w (NextPost br A n cap l a m s w) := by
  obtain ⟨k0, k1, k2, f0, f1, f2⟩ := three_cells h.block
  obtain ⟨b, o, rfl⟩ := h.some_ (by omega)
  have hmo := h.most
  have hca := h.cap_
  have hs := fun W => run_slice_mid (P := Try.prog) W 30 5 Try.underlying30 (fun w => by kernel_rfl) b o n cap ((a : Nat) : Int) ((a : Int) + (m : Int)) a m rfl (by omega) hm (by omega)
  have HF : Hid (NextPost br (some ⟨b, o, none⟩) n cap l a m s w (.returned (.slice (some ⟨b, o + a, none⟩) m (cap - a))) (w.setCell ⟨br, 1, none⟩ (.int .i64 ((a : Int) + (m : Int)))).drew) := Lib.hid (by
    obtain ⟨h1, h2⟩ := reader_move h (a + m) hm2
    have e : ((a + m : Nat) : Int) = (a : Int) + (m : Int) := by omega
    rw [e] at h1 h2
    exact ⟨b, o + a, cap - a, rfl, by omega, rfl, ((h1.drew.bytes.drop a).take m), h1.drew, h2.drew⟩)
  clear h hm
  go_enter Try.func62, Try.ntmps62
  go_wp2_with fail
  go_region
  go_wp2_with fail
  go_ret
  exact HF.out

theorem at_nil (w : World) :
    Calls Try.prog 40 #[.pointer none] w fun e w' => e = .returned (.int .i64 0) ∧ w = w' := by
  go_enter Try.func40, Try.ntmps40
  go_wp2_with fail
  go_ret
  exact ⟨rfl, rfl⟩
theorem at_any' (br : Nat) (A : Option Addr) (n cap : Nat) (l : List UInt8) (a : Nat) (s : Bool) (w : World) (h : ReaderAt w br A n cap l a s) :
    Calls Try.prog 40 #[.pointer (some ⟨br, 0, none⟩)] w fun e w' => e = .returned (.int .i64 (a : Nat)) ∧ w = w' := by
  obtain ⟨k0, k1, k2, f0, f1, f2⟩ := three_cells h.block
  clear h
  go_enter Try.func40, Try.ntmps40
  go_wp2_with fail
  go_ret
  exact ⟨rfl, rfl⟩

/-- What Read answers: a new Reader over a new slice of the bytes. -/
def ReadNew (l : List UInt8) (w : World) (e : Ending) (w' : World) : Prop :=
  ∃ br A cap, e = .returned (.pointer (some ⟨br, 0, none⟩)) ∧ w.heap.size ≤ br ∧ (∀ k, blockOf A = some k → w.heap.size ≤ k ∧ k < w'.heap.size) ∧ ReaderAt w' br A l.length cap l 0 false ∧ Below w.heap.size w w'

set_option maxHeartbeats 400000 in
theorem read_new (A : Option Addr) (n cap : Nat) (l : List UInt8) (hn : l.length = n) (hmo : n ≤ 140737488355328) (w : World) (h : Bytes w w.heap.size A l) :
    Calls Try.prog 37 #[.slice A n cap] w (ReadNew l w) := by
  have H := Lib.hid h
  have Hn := Lib.hid hn
  have HN := Lib.hid (Row.nil w w.heap.size 5)
  clear h hn
  go_enter Try.func37, Try.ntmps37
  go_wp2_with (at_builtin
               refine wpList_append_r rfl (.const (.slice none 0 0)) (.tmp 3) _ rfl w.heap.size 5 (.int .u8 0) Try.underlying30 infoB rfl _ none [] rfl HN.out w.heap.size A n cap l rfl Hn.out H.out (by simp; omega) (Nat.le_refl _) ?_
               intro v1 w1 g1 hr1 hm1 ha1
               have hr2 := hr1
               obtain ⟨A1, cap1, rfl, hc1, hb1, hby1⟩ := hr2.bytes
               have HF : Hid (ReadNew l w (.returned (.pointer (some ⟨w1.heap.size, 0, none⟩))) (w1.alloc (.cells #[.slice A1 ([] ++ l).length cap1, .int .i64 0, .bool false] 98))) := Lib.hid (by
                 have hA : ∀ k, blockOf A1 = some k → w.heap.size ≤ k ∧ k < w1.heap.size := fun k hk => hr1.lt k (hb1.symm.trans hk)
                 refine ⟨w1.heap.size, A1, cap1, rfl, ha1.size, fun k hk => ⟨(hA k hk).1, by have := (hA k hk).2; simp; omega⟩, ⟨?_, ?_, rfl, hc1, by rw [Hn.out]; exact hmo, ?_, Nat.zero_le _⟩, (ha1.below (Nat.le_refl _) (by simp)).alloc ha1.size _⟩
                 · exact heap_alloc_new w1 _
                 · exact (hby1.alloc (Nat.le_refl _) _).more (by simp)
                 · intro e
                   have := (hA _ e).2
                   omega)
               clear hr1 hm1 ha1 hr2 hc1 hb1 hby1)
  go_ret
  exact HF.out
end Go.Proofs.Ytgceleipaiameaa
