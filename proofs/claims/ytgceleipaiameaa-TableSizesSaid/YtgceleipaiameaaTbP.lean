/- Takes one behind the other; contract of table's take. Conditions: where the Reader and the fields lie. -/
import Derived.Test.YtgceleipaiameaaTbA
import Derived.Test.YtgceleipaiameaaWirG
namespace Go.Proofs.Ytgceleipaiameaa
open Go.RowKit
set_option maxRecDepth 100000

theorem take_lt (l : List UInt8) (a : Nat) (s : Bool) (k : Nat) : (WireP.take l a s (k : Int)).n < 256 ^ k := by
  have h0 : 0 < 256 ^ k := Nat.pow_pos (by omega)
  unfold WireP.take
  split
  · exact h0
  · split
    · exact h0
    · have h1 := WireP.val_lt ((l.drop a).take (k : Int).toNat)
      have h2 : ((l.drop a).take (k : Int).toNat).length ≤ k := by simp; omega
      exact Nat.lt_of_lt_of_le h1 (Nat.pow_le_pow_right (by omega) h2)
theorem take_lt1 (l : List UInt8) (a : Nat) (s : Bool) : (WireP.take l a s 1).n < 256 := by simpa using take_lt l a s 1
theorem take_lt2 (l : List UInt8) (a : Nat) (s : Bool) : (WireP.take l a s 2).n < 65536 := by simpa using take_lt l a s 2
theorem take_lt4 (l : List UInt8) (a : Nat) (s : Bool) : (WireP.take l a s 4).n < 4294967296 := by simpa using take_lt l a s 4

/-- Behind takes: where the Reader stands; all else is as it was. -/
def TakeIn (br : Nat) (A : Option Addr) (n cap : Nat) (l : List UInt8) (W : World) (a : Nat) (s : Bool) (w : World) : Prop := ReaderAt w br A n cap l a s ∧ Apart (RF br) W w
theorem TakeIn.start {br : Nat} {A : Option Addr} {n cap : Nat} {l : List UInt8} {W : World} {a : Nat} {s : Bool} (h : ReaderAt W br A n cap l a s) : TakeIn br A n cap l W a s W := ⟨h, Apart.refl _ _⟩
theorem ReaderAt.alloc {w : World} {br : Nat} {A : Option Addr} {n cap : Nat} {l : List UInt8} {a : Nat} {s : Bool} (h : ReaderAt w br A n cap l a s) (o : Obj) : ReaderAt (w.alloc o) br A n cap l a s :=
  h.below ((Below.refl _ _).alloc (Nat.le_refl _) _)
theorem ReaderAt.lt {w : World} {br : Nat} {A : Option Addr} {n cap : Nat} {l : List UInt8} {a : Nat} {s : Bool} (h : ReaderAt w br A n cap l a s) : br < w.heap.size := lt_of_block h.block
theorem TakeIn.take {br : Nat} {A : Option Addr} {n cap : Nat} {l : List UInt8} {W w : World} {a : Nat} {s : Bool} (h : TakeIn br A n cap l W a s w) (k : Int) :
    Calls Try.prog 52 #[.pointer (some ⟨br, 0, none⟩), .int .i64 k] w fun e w' => e = .returned (.int .u32 ((WireP.take l a s k).n : Nat)) ∧ TakeIn br A n cap l W (WireP.take l a s k).at_ (WireP.take l a s k).short w' := by
  refine (take_any br A n cap l a s k w h.1).mono ?_
  rintro e w' ⟨rfl, h2, h3⟩
  exact ⟨rfl, h2, h.2.trans h3 (fun _ e => .inl e)⟩
theorem TakeIn.box {br : Nat} {A : Option Addr} {n cap : Nat} {l : List UInt8} {w w' : World} {a a' : Nat} {s s' : Bool} {o : Obj} (h0 : ReaderAt w br A n cap l a s) (h : TakeIn br A n cap l (w.alloc o) a' s' w') : w'.heap[w.heap.size]? = some o := by
  refine (h.2.block w.heap.size (by simp) ?_).trans (heap_alloc_new w o)
  intro e
  have e : w.heap.size = br := e
  have := h0.lt
  omega
/-- Behind a store into what was made. -/
theorem TakeIn.done {br : Nat} {A : Option Addr} {n cap : Nat} {l : List UInt8} {w w' : World} {a a' : Nat} {s s' : Bool} {o : Obj} (h0 : ReaderAt w br A n cap l a s) (hA : ∀ k, blockOf A = some k → k < w.heap.size) (h : TakeIn br A n cap l (w.alloc o) a' s' w') (vs : List Value) (i : Nat) : TakeIn br A n cap l w a' s' (storeAll w' w.heap.size vs i) := by
  have hlt := h0.lt
  have h1 := storeAll_apart w.heap.size vs i w'
  refine ⟨h.1.apart h1 (fun e => by have e : br = w.heap.size := e; omega) (fun k hk e => by have := hA k hk; have e : k = w.heap.size := e; omega), ?_⟩
  exact (((Apart.refl _ w).alloc o).trans h.2 (fun _ e => .inl e)).trans h1 (fun k e => .inr (Nat.le_of_eq e.symm))


theorem take_true' (l : List UInt8) (a : Nat) (k : Int) : WireP.take l a true k = ⟨0, a, true⟩ := by
  unfold WireP.take
  rw [if_pos (.inr (.inr rfl))]

/-- So many takes of so many bytes each. -/
def takesD (l : List UInt8) (s : Int) : Nat → Nat → Bool → List Nat × Nat × Bool
  | 0, a, sh => ([], a, sh)
  | k + 1, a, sh => ((WireP.take l a sh s).n :: (takesD l s k (WireP.take l a sh s).at_ (WireP.take l a sh s).short).1, (takesD l s k (WireP.take l a sh s).at_ (WireP.take l a sh s).short).2)

/-- A block's cells behind stores of numbers into fields here and there. -/
def setAll (b : Nat) : List (Nat × Nat) → List Nat → Array Value → Array Value
  | p :: r, v :: vs, cs => setAll b r vs (if p.1 = b then cs.setIfInBounds p.2 (.int .i64 (v : Nat)) else cs)
  | _, _, cs => cs
theorem setAll_snoc (b : Nat) : ∀ (ps : List (Nat × Nat)) (vs : List Nat) (cs : Array Value) (p : Nat × Nat) (v : Nat), ps.length = vs.length →
    setAll b (ps ++ [p]) (vs ++ [v]) cs = if p.1 = b then (setAll b ps vs cs).setIfInBounds p.2 (.int .i64 (v : Nat)) else setAll b ps vs cs
  | [], [], cs, p, v, _ => by simp [setAll]
  | [], _ :: _, _, _, _, h => by simp at h
  | _ :: _, [], _, _, _, h => by simp at h
  | q :: ps, u :: vs, cs, p, v, h => by
    simp only [List.cons_append, setAll]
    exact setAll_snoc b ps vs _ p v (by simpa using h)
theorem setAll_size (b : Nat) : ∀ (ps : List (Nat × Nat)) (vs : List Nat) (cs : Array Value), (setAll b ps vs cs).size = cs.size
  | [], vs, cs => by cases vs <;> simp [setAll]
  | p :: ps, [], cs => by simp [setAll]
  | p :: ps, v :: vs, cs => by
    simp only [setAll]
    rw [setAll_size b ps vs]
    split <;> simp

/-- What a take may write: the Reader, and the fields' blocks. -/
def FF (br : Nat) (ps : List (Nat × Nat)) (k : Nat) : Prop := k = br ∨ ∃ p ∈ ps, p.1 = k

/-- Behind the first k of the takes. -/
structure TakesIn (br : Nat) (A : Option Addr) (n cap : Nat) (l : List UInt8) (W : World) (ps : List (Nat × Nat)) (vs : List Nat) (a : Nat) (sh : Bool) (w : World) : Prop where
  rd : ReaderAt w br A n cap l a sh
  ap : Apart (FF br ps) W w
  box : ∀ b cs t, (∃ p ∈ ps, p.1 = b) → W.heap[b]? = some (.cells cs t (0, 0)) → w.heap[b]? = some (.cells (setAll b (ps.take vs.length) vs cs) t (0, 0))
  len : vs.length ≤ ps.length

/-- The fields: none of the Reader's, none of its bytes', each there. -/
structure FieldsOk (br : Nat) (A : Option Addr) (W : World) (ps : List (Nat × Nat)) : Prop where
  rd : ∀ p ∈ ps, p.1 ≠ br
  arr : ∀ p ∈ ps, blockOf A ≠ some p.1
  there : ∀ p ∈ ps, ∃ cs t, W.heap[p.1]? = some (.cells cs t (0, 0)) ∧ p.2 < cs.size

theorem TakesIn.take {br n cap : Nat} {A : Option Addr} {l : List UInt8} {W w : World} {ps : List (Nat × Nat)} {vs : List Nat} {a : Nat} {sh : Bool} (h : TakesIn br A n cap l W ps vs a sh w) (ho : FieldsOk br A W ps) (k : Int) :
    Calls Try.prog 52 #[.pointer (some ⟨br, 0, none⟩), .int .i64 k] w fun e w' => e = .returned (.int .u32 ((WireP.take l a sh k).n : Nat)) ∧ TakesIn br A n cap l W ps vs (WireP.take l a sh k).at_ (WireP.take l a sh k).short w' := by
  refine (take_any br A n cap l a sh k w h.rd).mono ?_
  rintro e w' ⟨rfl, h2, h3⟩
  refine ⟨rfl, h2, h.ap.trans h3 (fun _ e => .inl (.inl e)), fun b cs t hb hc => ?_, h.len⟩
  obtain ⟨p, hp, rfl⟩ := hb
  have h5 := h.box p.1 cs t ⟨p, hp, rfl⟩ hc
  exact (h3.block p.1 (lt_of_block h5) (fun e => ho.rd p hp e)).trans h5
theorem TakesIn.store {br n cap : Nat} {A : Option Addr} {l : List UInt8} {W w : World} {ps : List (Nat × Nat)} {vs : List Nat} {a : Nat} {sh : Bool} (h : TakesIn br A n cap l W ps vs a sh w) (ho : FieldsOk br A W ps) {p : Nat × Nat} (hp : ps[vs.length]? = some p) (v : Nat) :
    TakesIn br A n cap l W ps (vs ++ [v]) a sh (w.setCell ⟨p.1, p.2, none⟩ (.int .i64 (v : Nat))) := by
  have hm := List.mem_of_getElem? hp
  have hlt := (List.getElem?_eq_some_iff.1 hp).1
  have h1 : Apart (fun k => k = p.1) w (w.setCell ⟨p.1, p.2, none⟩ (.int .i64 (v : Nat))) := Apart.setCell (F := fun k => k = p.1) (Apart.refl _ w) (p := ⟨p.1, p.2, none⟩) (.inl rfl) _
  refine ⟨h.rd.apart h1 (fun e => ho.rd p hm e.symm) (fun k hk e => ho.arr p hm (by rw [hk, e])), h.ap.trans h1 (fun k e => .inl (.inr ⟨p, hm, e.symm⟩)), fun b cs t hb hc => ?_, by simp; omega⟩
  have h5 := h.box b cs t hb hc
  rw [List.length_append, List.length_singleton, List.take_add_one, hp, Option.toList_some, setAll_snoc b _ _ _ _ _ (by simp; omega)]
  by_cases hpb : p.1 = b
  · rw [if_pos hpb]
    subst hpb
    exact heap_setCell_same w p.1 p.2 _ t _ h5
  · rw [if_neg hpb, Below.heap_setCell _ _ _ _ (fun e => hpb e.symm)]
    exact h5
theorem TakesIn.cell {br n cap : Nat} {A : Option Addr} {l : List UInt8} {W w : World} {ps : List (Nat × Nat)} {vs : List Nat} {a : Nat} {sh : Bool} (h : TakesIn br A n cap l W ps vs a sh w) (ho : FieldsOk br A W ps) {p : Nat × Nat} (hp : p ∈ ps) : (∃ v, w.cell? ⟨p.1, p.2, none⟩ = some v) ∧ w.frozen? ⟨p.1, p.2, none⟩ = false := by
  obtain ⟨cs, t, h1, h2⟩ := ho.there p hp
  have h5 := h.box p.1 cs t ⟨p, hp, rfl⟩ h1
  have h6 : p.2 < (setAll p.1 (ps.take vs.length) vs cs).size := by rw [setAll_size]; exact h2
  exact ⟨⟨_, cell_at h5 p.2 (Array.getElem?_eq_getElem h6)⟩, free_at h5 p.2⟩

def TakesRel (br : Nat) (A : Option Addr) (n cap : Nat) (l : List UInt8) (s : Int) (N : Nat) (D : List Nat × Nat × Bool) (W : World) (ps : List (Nat × Nat)) (i : Value) (w : World) : Prop :=
  ∃ vs a sh, vs.length ≤ N ∧ i = .int .i64 (vs.length : Nat) ∧ TakesIn br A n cap l W ps vs a sh w ∧ D = (vs ++ (takesD l s (N - vs.length) a sh).1, (takesD l s (N - vs.length) a sh).2)
/-- What take answers. -/
def TakesPost (br : Nat) (A : Option Addr) (n cap : Nat) (l : List UInt8) (D : List Nat × Nat × Bool) (ps : List (Nat × Nat)) (w : World) (e : Ending) (w' : World) : Prop :=
  e = .returned (.tuple #[]) ∧ TakesIn br A n cap l w ps D.1 D.2.1 D.2.2 w'

theorem takesD_step {l : List UInt8} {s : Int} {N a : Nat} {sh : Bool} {vs : List Nat} {D : List Nat × Nat × Bool} {x : WireP.Took} (hN : vs.length < N) (hx : WireP.take l a sh s = x) (h : D = (vs ++ (takesD l s (N - vs.length) a sh).1, (takesD l s (N - vs.length) a sh).2)) :
    D = ((vs ++ [x.n]) ++ (takesD l s (N - (vs ++ [x.n]).length) x.at_ x.short).1, (takesD l s (N - (vs ++ [x.n]).length) x.at_ x.short).2) := by
  obtain ⟨j, hj⟩ : ∃ j, N - vs.length = j + 1 := ⟨N - vs.length - 1, by omega⟩
  rw [h, hj, List.length_append, List.length_singleton, show N - (vs.length + 1) = j by omega]
  subst hx
  simp [takesD]

set_option maxHeartbeats 1000000 in
theorem takes_any (br : Nat) (A : Option Addr) (n cap : Nat) (l : List UInt8) (a : Nat) (sh : Bool) (s : Nat) (hs : s = 1 ∨ s = 4) (ps : List (Nat × Nat)) (N NF fcap : Nat) (hN : ps.length = N) (w : World) (h : ReaderAt w br A n cap l a sh) (ho : FieldsOk br A w ps)
    (cs : Array Value) (t : TypeId) (hc : w.heap[NF]? = some (.cells cs t (0, 0))) (hcs : cs = (ps.map (fun p => Value.pointer (some ⟨p.1, p.2, none⟩))).toArray) (hF : ¬ FF br ps NF) (hN2 : N ≤ 1000) :
    Calls Try.prog 54 #[.pointer (some ⟨br, 0, none⟩), .int .i64 (s : Nat), .slice (some ⟨NF, 0, none⟩) N fcap] w (TakesPost br A n cap l (takesD l s N a sh) ps w) := by
  have HO := Lib.hid ho
  have HNN := Lib.hid hN
  have h0 : Hid (TakesRel br A n cap l s N (takesD l s N a sh) w ps (.int .i64 0) w) := Lib.hid ⟨[], a, sh, Nat.zero_le _, rfl, ⟨h, Apart.refl _ _, fun b cs t _ hc => by simpa [setAll] using hc, Nat.zero_le _⟩, by simp⟩
  have HCell : Hid (∀ wr, Apart (FF br ps) w wr → ∀ k p, ps[k]? = some p → wr.cell? ⟨NF, k, none⟩ = some (.pointer (some ⟨p.1, p.2, none⟩))) := Lib.hid fun wr ha k p hk => by
    refine cell_at ((ha.block NF (lt_of_block hc) hF).trans hc) k ?_
    rw [hcs]
    simp [hk]
  generalize takesD l s N a sh = D at *
  clear h ho hc hcs hF hN
  go_enter Try.func54, Try.ntmps54
  go_wp2_with fail
  go_loopw [10] (TakesRel br A n cap l s N D w ps) (fun i _ => (N + 1 - intOf i).toNat)
  case atStart => exact h0.out
  case round =>
    clear h0
    obtain ⟨vs, a2, sh2, hk, rfl, hi, hD⟩ := hrel
    have HI := Lib.hid hi
    have HD := Lib.hid hD
    clear hi hD
    by_cases hlt : vs.length < N
    · obtain ⟨⟨pb, po⟩, hpk⟩ : ∃ p, ps[vs.length]? = some p := ⟨_, List.getElem?_eq_getElem (by rw [HNN.out]; exact hlt)⟩
      have kc := HCell.out wr HI.out.ap vs.length _ hpk
      simp only at kc
      obtain ⟨x, hx⟩ : ∃ x, WireP.take l a2 sh2 s = x := ⟨_, rfl⟩
      have hx4 : x.n < 4294967296 := by
        rw [← hx]
        rcases hs with rfl | rfl
        · have := take_lt l a2 sh2 1; omega
        · have := take_lt l a2 sh2 4; omega
      have Hst := Lib.hid (takesD_step hlt hx HD.out)
      have Hpk := Lib.hid hpk
      have HTk := Lib.hid (HI.out.take HO.out s)
      rw [hx] at HTk
      have hwx : IntKind.i64.wrap (x.n : Int) = x.n := IntWalk.i64_in _ (by omega)
      have HV : Hid (vs.length = vs.length) := Lib.hid rfl
      clear hpk hx HI HD
      go_wp2_with fail
      refine HTk.out.mono ?_
      rintro e w2 ⟨rfl, hi2⟩
      obtain ⟨⟨u, kv⟩, kf⟩ := hi2.cell HO.out (List.mem_of_getElem? Hpk.out)
      simp only at kv kf
      have HI2 := Lib.hid (hi2.store HO.out Hpk.out x.n)
      simp only at HI2
      clear hi2
      go_wp2_with fail
      go_roundw
      case rel => exact ⟨vs ++ [x.n], x.at_, x.short, by simp; omega, by rw [List.length_append]; go_num, HI2.out, Hst.out⟩
      case measure => simp [intOf]; omega
    · have hkn : N = vs.length := by omega
      have HF : Hid (TakesPost br A n cap l D ps w (.returned (.tuple #[])) wr) := Lib.hid (by
        refine ⟨rfl, ?_⟩
        rw [HD.out, hkn, Nat.sub_self]
        simp only [takesD, List.append_nil]
        exact HI.out)
      clear HI HD
      go_wp2_with fail
      go_end0
      exact HF.out
end Go.Proofs.Ytgceleipaiameaa
