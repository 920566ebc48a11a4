/- Contracts of frame's takeStamp and takeCommand. Conditions: where the Reader lies. -/
import Derived.Test.YtmhpdmpihmahdaaFraK
import Derived.Test.YtmhpdmpihmahdaaWirG
namespace Go.Proofs.Ytmhpdmpihmahdaa
open Go.RowKit
set_option maxRecDepth 100000

theorem take_lt (l : List UInt8) (a : Nat) (s : Bool) (k : Nat) : (WireP.take l a s (k : Int)).n < 256 ^ k := by
  have h0 : 0 < 256 ^ k := Nat.pow_pos (by omega)
  unfold WireP.take
  split
  · exact h0
  · split
    · exact h0
    · have h1 := WireP.val_lt ((l.drop a).take (k : Int).toNat)
      have h2 : ((l.drop a).take (k : Int).toNat).length ≤ k := by simp; omega
      exact Nat.lt_of_lt_of_le h1 (Nat.pow_le_pow_right (by omega) h2)
theorem take_lt1 (l : List UInt8) (a : Nat) (s : Bool) : (WireP.take l a s 1).n < 256 := by simpa using take_lt l a s 1
theorem take_lt2 (l : List UInt8) (a : Nat) (s : Bool) : (WireP.take l a s 2).n < 65536 := by simpa using take_lt l a s 2
theorem take_lt4 (l : List UInt8) (a : Nat) (s : Bool) : (WireP.take l a s 4).n < 4294967296 := by simpa using take_lt l a s 4

/-- Behind takes: where the Reader stands; all else is as it was. -/
def TakeIn (br : Nat) (A : Option Addr) (n cap : Nat) (l : List UInt8) (W : World) (a : Nat) (s : Bool) (w : World) : Prop := ReaderAt w br A n cap l a s ∧ Apart (RF br) W w
theorem TakeIn.start {br : Nat} {A : Option Addr} {n cap : Nat} {l : List UInt8} {W : World} {a : Nat} {s : Bool} (h : ReaderAt W br A n cap l a s) : TakeIn br A n cap l W a s W := ⟨h, Apart.refl _ _⟩
theorem ReaderAt.alloc {w : World} {br : Nat} {A : Option Addr} {n cap : Nat} {l : List UInt8} {a : Nat} {s : Bool} (h : ReaderAt w br A n cap l a s) (o : Obj) : ReaderAt (w.alloc o) br A n cap l a s :=
  h.below ((Below.refl _ _).alloc (Nat.le_refl _) _)
theorem ReaderAt.lt {w : World} {br : Nat} {A : Option Addr} {n cap : Nat} {l : List UInt8} {a : Nat} {s : Bool} (h : ReaderAt w br A n cap l a s) : br < w.heap.size := lt_of_block h.block
theorem TakeIn.take {br : Nat} {A : Option Addr} {n cap : Nat} {l : List UInt8} {W w : World} {a : Nat} {s : Bool} (h : TakeIn br A n cap l W a s w) (k : Int) :
    Calls Try.prog 42 #[.pointer (some ⟨br, 0, none⟩), .int .i64 k] w fun e w' => e = .returned (.int .u32 ((WireP.take l a s k).n : Nat)) ∧ TakeIn br A n cap l W (WireP.take l a s k).at_ (WireP.take l a s k).short w' := by
  refine (take_any br A n cap l a s k w h.1).mono ?_
  rintro e w' ⟨rfl, h2, h3⟩
  exact ⟨rfl, h2, h.2.trans h3 (fun _ e => .inl e)⟩
theorem TakeIn.box {br : Nat} {A : Option Addr} {n cap : Nat} {l : List UInt8} {w w' : World} {a a' : Nat} {s s' : Bool} {o : Obj} (h0 : ReaderAt w br A n cap l a s) (h : TakeIn br A n cap l (w.alloc o) a' s' w') : w'.heap[w.heap.size]? = some o := by
  refine (h.2.block w.heap.size (by simp) ?_).trans (heap_alloc_new w o)
  intro e
  have e : w.heap.size = br := e
  have := h0.lt
  omega
/-- Behind a store into what was made. -/
theorem TakeIn.done {br : Nat} {A : Option Addr} {n cap : Nat} {l : List UInt8} {w w' : World} {a a' : Nat} {s s' : Bool} {o : Obj} (h0 : ReaderAt w br A n cap l a s) (hA : ∀ k, blockOf A = some k → k < w.heap.size) (h : TakeIn br A n cap l (w.alloc o) a' s' w') (vs : List Value) (i : Nat) : TakeIn br A n cap l w a' s' (storeAll w' w.heap.size vs i) := by
  have hlt := h0.lt
  have h1 := storeAll_apart w.heap.size vs i w'
  refine ⟨h.1.apart h1 (fun e => by have e : br = w.heap.size := e; omega) (fun k hk e => by have := hA k hk; have e : k = w.heap.size := e; omega), ?_⟩
  exact (((Apart.refl _ w).alloc o).trans h.2 (fun _ e => .inl e)).trans h1 (fun k e => .inr (Nat.le_of_eq e.symm))

/-- What such a call answers. -/
def TookPost (br : Nat) (A : Option Addr) (n cap : Nat) (l : List UInt8) (v : Value) (a : Nat) (s : Bool) (w : World) (e : Ending) (w' : World) : Prop := e = .returned v ∧ TakeIn br A n cap l w a s w'

theorem takeStamp_any (br : Nat) (A : Option Addr) (n cap : Nat) (l : List UInt8) (a : Nat) (s : Bool) (w : World) (h : ReaderAt w br A n cap l a s) (hA : ∀ k, blockOf A = some k → k < w.heap.size) (x y : WireP.Took) (hx : WireP.take l a s 4 = x) (hy : WireP.take l x.at_ x.short 1 = y) :
    Calls Try.prog 43 #[.pointer (some ⟨br, 0, none⟩)] w (TookPost br A n cap l (.agg #[.int .u32 (x.n : Nat), .int .u8 (y.n : Nat)]) y.at_ y.short w) := by
  have H := Lib.hid h
  have HA := Lib.hid hA
  have hlx := take_lt4 l a s
  rw [hx] at hlx
  have hly := take_lt1 l x.at_ x.short
  rw [hy] at hly
  have hmod : (y.n : Int) % 256 = y.n := by omega
  have HI := Lib.hid (fun o => TakeIn.start (h.alloc o))
  have Hx := Lib.hid hx
  have Hy := Lib.hid hy
  clear h hA hx hy
  go_enter Try.func43, Try.ntmps43
  go_wp2_with fail
  refine ((HI.out _).take 4).mono ?_
  rw [Hx.out]
  rintro e w1 ⟨rfl, h1⟩
  have H1 := Lib.hid h1
  clear h1
  go_wp2_with fail
  refine (H1.out.take 1).mono ?_
  rw [Hy.out]
  rintro e w2 ⟨rfl, h2⟩
  have hb := h2.box H.out
  have k0 := cell_at hb 0 rfl
  have k1 := cell_at hb 1 rfl
  have f := fun i => free_at hb i
  have H2 := Lib.hid h2
  have Hb := Lib.hid hb
  clear h2 hb
  go_wp2_with fail
  clear k0 k1 f
  show bodyPost _ _ _ _ _ (storeAll w2 w.heap.size [.int .u32 (x.n : Nat), .int .u8 (y.n : Nat)] 0)
  have hfin := storeAll_heap (b := w.heap.size) [.int .u32 (x.n : Nat), .int .u8 (y.n : Nat)] 0 w2 [] [_, _] Hb.out rfl rfl
  have HF := Lib.hid (H2.out.done H.out HA.out [.int .u32 (x.n : Nat), .int .u8 (y.n : Nat)] 0)
  generalize storeAll w2 w.heap.size [.int .u32 (x.n : Nat), .int .u8 (y.n : Nat)] 0 = Wf at *
  rw [List.nil_append] at hfin
  have r0 := cell_at hfin 0 rfl
  have r1 := cell_at hfin 1 rfl
  refine bodyPost_ret (v := .agg #[.int .u32 (x.n : Nat), .int .u8 (y.n : Nat)]) (by simp [results, Try.results43, go_sem, r0, r1]) rfl ?_
  exact ⟨rfl, HF.out⟩

set_option maxHeartbeats 1000000 in
theorem takeCommand_any (br : Nat) (A : Option Addr) (n cap : Nat) (l : List UInt8) (a : Nat) (s : Bool) (w : World) (h : ReaderAt w br A n cap l a s) (hA : ∀ k, blockOf A = some k → k < w.heap.size) (x y z u : WireP.Took) (hx : WireP.take l a s 1 = x) (hy : WireP.take l x.at_ x.short 1 = y) (hz : WireP.take l y.at_ y.short 2 = z) (hu : WireP.take l z.at_ z.short 2 = u) :
    Calls Try.prog 45 #[.pointer (some ⟨br, 0, none⟩)] w (TookPost br A n cap l (.agg #[.int .u8 (x.n : Nat), .int .u8 (y.n : Nat), .int .u16 (z.n : Nat), .int .u16 (u.n : Nat)]) u.at_ u.short w) := by
  have H := Lib.hid h
  have HA := Lib.hid hA
  have hlx := take_lt1 l a s
  rw [hx] at hlx
  have hly := take_lt1 l x.at_ x.short
  rw [hy] at hly
  have hlz := take_lt2 l y.at_ y.short
  rw [hz] at hlz
  have hlu := take_lt2 l z.at_ z.short
  rw [hu] at hlu
  have m1 : (x.n : Int) % 256 = x.n := by omega
  have m2 : (y.n : Int) % 256 = y.n := by omega
  have m3 : (z.n : Int) % 65536 = z.n := by omega
  have m4 : (u.n : Int) % 65536 = u.n := by omega
  have HI := Lib.hid (fun o => TakeIn.start (h.alloc o))
  have Hx := Lib.hid hx
  have Hy := Lib.hid hy
  have Hz := Lib.hid hz
  have Hu := Lib.hid hu
  clear h hA hx hy hz hu
  go_enter Try.func45, Try.ntmps45
  go_wp2_with fail
  refine ((HI.out _).take 1).mono ?_
  rw [Hx.out]
  rintro e w1 ⟨rfl, h1⟩
  have H1 := Lib.hid h1
  clear h1
  go_wp2_with fail
  refine (H1.out.take 1).mono ?_
  rw [Hy.out]
  rintro e w2 ⟨rfl, h2⟩
  have H2 := Lib.hid h2
  clear h2
  go_wp2_with fail
  refine (H2.out.take 2).mono ?_
  rw [Hz.out]
  rintro e w3 ⟨rfl, h3⟩
  have H3 := Lib.hid h3
  clear h3
  go_wp2_with fail
  refine (H3.out.take 2).mono ?_
  rw [Hu.out]
  rintro e w4 ⟨rfl, h4⟩
  have hb := h4.box H.out
  have k0 := cell_at hb 0 rfl
  have k1 := cell_at hb 1 rfl
  have k2 := cell_at hb 2 rfl
  have k3 := cell_at hb 3 rfl
  have f := fun i => free_at hb i
  have H4 := Lib.hid h4
  have Hb := Lib.hid hb
  clear h4 hb
  go_wp2_with fail
  clear k0 k1 k2 k3 f
  show bodyPost _ _ _ _ _ (storeAll w4 w.heap.size [.int .u8 (x.n : Nat), .int .u8 (y.n : Nat), .int .u16 (z.n : Nat), .int .u16 (u.n : Nat)] 0)
  have hfin := storeAll_heap (b := w.heap.size) [.int .u8 (x.n : Nat), .int .u8 (y.n : Nat), .int .u16 (z.n : Nat), .int .u16 (u.n : Nat)] 0 w4 [] [_, _, _, _] Hb.out rfl rfl
  have HF := Lib.hid (H4.out.done H.out HA.out [.int .u8 (x.n : Nat), .int .u8 (y.n : Nat), .int .u16 (z.n : Nat), .int .u16 (u.n : Nat)] 0)
  generalize storeAll w4 w.heap.size [.int .u8 (x.n : Nat), .int .u8 (y.n : Nat), .int .u16 (z.n : Nat), .int .u16 (u.n : Nat)] 0 = Wf at *
  rw [List.nil_append] at hfin
  have r0 := cell_at hfin 0 rfl
  have r1 := cell_at hfin 1 rfl
  have r2 := cell_at hfin 2 rfl
  have r3 := cell_at hfin 3 rfl
  refine bodyPost_ret (v := .agg #[.int .u8 (x.n : Nat), .int .u8 (y.n : Nat), .int .u16 (z.n : Nat), .int .u16 (u.n : Nat)]) (by simp [results, Try.results45, go_sem, r0, r1, r2, r3]) rfl ?_
  exact ⟨rfl, HF.out⟩
end Go.Proofs.Ytmhpdmpihmahdaa
