/- Takes one behind the other; contract of table's take. Conditions: where the Reader and the fields lie. · A Reader and a block that is read into (Bx); contracts of table's takeRoute, takePort, takePart. Conditions: where the Reader lies. · Contracts of table's takePort and takePart. Conditions: where the Reader lies. · Contract of table's takePart. Conditions: where the Reader lies. · Contract of table's takeTables. Conditions: where the Reader lies. -/
import Derived.Test.YtgceleipaiameaaTbA
import Derived.Test.YtgceleipaiameaaWirG
import Derived.Deep.QuietTactic
import Derived.Test.YtgceleipaiameaaTbD
import Derived.Deep.RegionHeld3
namespace Go.Proofs.Ytgceleipaiameaa
open Go.RowKit
set_option maxRecDepth 100000

theorem take_lt (l : List UInt8) (a : Nat) (s : Bool) (k : Nat) : (WireP.take l a s (k : Int)).n < 256 ^ k := by
  have h0 : 0 < 256 ^ k := Nat.pow_pos (by omega)
  unfold WireP.take
  split
  · exact h0
  · split
    · exact h0
    · have h1 := WireP.val_lt ((l.drop a).take (k : Int).toNat)
      have h2 : ((l.drop a).take (k : Int).toNat).length ≤ k := by simp; omega
      exact Nat.lt_of_lt_of_le h1 (Nat.pow_le_pow_right (by omega) h2)
theorem take_lt1 (l : List UInt8) (a : Nat) (s : Bool) : (WireP.take l a s 1).n < 256 := by simpa using take_lt l a s 1
theorem take_lt2 (l : List UInt8) (a : Nat) (s : Bool) : (WireP.take l a s 2).n < 65536 := by simpa using take_lt l a s 2
theorem take_lt4 (l : List UInt8) (a : Nat) (s : Bool) : (WireP.take l a s 4).n < 4294967296 := by simpa using take_lt l a s 4

/-- Behind takes: where the Reader stands; all else is as it was. -/
def TakeIn (br : Nat) (A : Option Addr) (n cap : Nat) (l : List UInt8) (W : World) (a : Nat) (s : Bool) (w : World) : Prop := ReaderAt w br A n cap l a s ∧ Apart (RF br) W w
theorem TakeIn.start {br : Nat} {A : Option Addr} {n cap : Nat} {l : List UInt8} {W : World} {a : Nat} {s : Bool} (h : ReaderAt W br A n cap l a s) : TakeIn br A n cap l W a s W := ⟨h, Apart.refl _ _⟩
theorem ReaderAt.alloc {w : World} {br : Nat} {A : Option Addr} {n cap : Nat} {l : List UInt8} {a : Nat} {s : Bool} (h : ReaderAt w br A n cap l a s) (o : Obj) : ReaderAt (w.alloc o) br A n cap l a s :=
  h.below ((Below.refl _ _).alloc (Nat.le_refl _) _)
theorem ReaderAt.lt {w : World} {br : Nat} {A : Option Addr} {n cap : Nat} {l : List UInt8} {a : Nat} {s : Bool} (h : ReaderAt w br A n cap l a s) : br < w.heap.size := lt_of_block h.block
theorem TakeIn.take {br : Nat} {A : Option Addr} {n cap : Nat} {l : List UInt8} {W w : World} {a : Nat} {s : Bool} (h : TakeIn br A n cap l W a s w) (k : Int) :
    Calls Try.prog 52 #[.pointer (some ⟨br, 0, none⟩), .int .i64 k] w fun e w' => e = .returned (.int .u32 ((WireP.take l a s k).n : Nat)) ∧ TakeIn br A n cap l W (WireP.take l a s k).at_ (WireP.take l a s k).short w' := by
  refine (take_any br A n cap l a s k w h.1).mono ?_
  rintro e w' ⟨rfl, h2, h3⟩
  exact ⟨rfl, h2, h.2.trans h3 (fun _ e => .inl e)⟩
theorem TakeIn.box {br : Nat} {A : Option Addr} {n cap : Nat} {l : List UInt8} {w w' : World} {a a' : Nat} {s s' : Bool} {o : Obj} (h0 : ReaderAt w br A n cap l a s) (h : TakeIn br A n cap l (w.alloc o) a' s' w') : w'.heap[w.heap.size]? = some o := by
  refine (h.2.block w.heap.size (by simp) ?_).trans (heap_alloc_new w o)
  intro e
  have e : w.heap.size = br := e
  have := h0.lt
  omega
/-- Behind a store into what was made. -/
theorem TakeIn.done {br : Nat} {A : Option Addr} {n cap : Nat} {l : List UInt8} {w w' : World} {a a' : Nat} {s s' : Bool} {o : Obj} (h0 : ReaderAt w br A n cap l a s) (hA : ∀ k, blockOf A = some k → k < w.heap.size) (h : TakeIn br A n cap l (w.alloc o) a' s' w') (vs : List Value) (i : Nat) : TakeIn br A n cap l w a' s' (storeAll w' w.heap.size vs i) := by
  have hlt := h0.lt
  have h1 := storeAll_apart w.heap.size vs i w'
  refine ⟨h.1.apart h1 (fun e => by have e : br = w.heap.size := e; omega) (fun k hk e => by have := hA k hk; have e : k = w.heap.size := e; omega), ?_⟩
  exact (((Apart.refl _ w).alloc o).trans h.2 (fun _ e => .inl e)).trans h1 (fun k e => .inr (Nat.le_of_eq e.symm))


theorem take_true' (l : List UInt8) (a : Nat) (k : Int) : WireP.take l a true k = ⟨0, a, true⟩ := by
  unfold WireP.take
  rw [if_pos (.inr (.inr rfl))]

/-- So many takes of so many bytes each. -/
def takesD (l : List UInt8) (s : Int) : Nat → Nat → Bool → List Nat × Nat × Bool
  | 0, a, sh => ([], a, sh)
  | k + 1, a, sh => ((WireP.take l a sh s).n :: (takesD l s k (WireP.take l a sh s).at_ (WireP.take l a sh s).short).1, (takesD l s k (WireP.take l a sh s).at_ (WireP.take l a sh s).short).2)

/-- A block's cells behind stores of numbers into fields here and there. -/
def setAll (b : Nat) : List (Nat × Nat) → List Nat → Array Value → Array Value
  | p :: r, v :: vs, cs => setAll b r vs (if p.1 = b then cs.setIfInBounds p.2 (.int .i64 (v : Nat)) else cs)
  | _, _, cs => cs
theorem setAll_snoc (b : Nat) : ∀ (ps : List (Nat × Nat)) (vs : List Nat) (cs : Array Value) (p : Nat × Nat) (v : Nat), ps.length = vs.length →
    setAll b (ps ++ [p]) (vs ++ [v]) cs = if p.1 = b then (setAll b ps vs cs).setIfInBounds p.2 (.int .i64 (v : Nat)) else setAll b ps vs cs
  | [], [], cs, p, v, _ => by simp [setAll]
  | [], _ :: _, _, _, _, h => by simp at h
  | _ :: _, [], _, _, _, h => by simp at h
  | q :: ps, u :: vs, cs, p, v, h => by
    simp only [List.cons_append, setAll]
    exact setAll_snoc b ps vs _ p v (by simpa using h)
theorem setAll_size (b : Nat) : ∀ (ps : List (Nat × Nat)) (vs : List Nat) (cs : Array Value), (setAll b ps vs cs).size = cs.size
  | [], vs, cs => by cases vs <;> simp [setAll]
  | p :: ps, [], cs => by simp [setAll]
  | p :: ps, v :: vs, cs => by
    simp only [setAll]
    rw [setAll_size b ps vs]
    split <;> simp

/-- What a take may write: the Reader, and the fields' blocks. -/
def FF (br : Nat) (ps : List (Nat × Nat)) (k : Nat) : Prop := k = br ∨ ∃ p ∈ ps, p.1 = k

/-- Behind the first k of the takes. -/
structure TakesIn (br : Nat) (A : Option Addr) (n cap : Nat) (l : List UInt8) (W : World) (ps : List (Nat × Nat)) (vs : List Nat) (a : Nat) (sh : Bool) (w : World) : Prop where
  rd : ReaderAt w br A n cap l a sh
  ap : Apart (FF br ps) W w
  box : ∀ b cs t, (∃ p ∈ ps, p.1 = b) → W.heap[b]? = some (.cells cs t (0, 0)) → w.heap[b]? = some (.cells (setAll b (ps.take vs.length) vs cs) t (0, 0))
  len : vs.length ≤ ps.length

/-- The fields: none of the Reader's, none of its bytes', each there. -/
structure FieldsOk (br : Nat) (A : Option Addr) (W : World) (ps : List (Nat × Nat)) : Prop where
  rd : ∀ p ∈ ps, p.1 ≠ br
  arr : ∀ p ∈ ps, blockOf A ≠ some p.1
  there : ∀ p ∈ ps, ∃ cs t, W.heap[p.1]? = some (.cells cs t (0, 0)) ∧ p.2 < cs.size

theorem TakesIn.take {br n cap : Nat} {A : Option Addr} {l : List UInt8} {W w : World} {ps : List (Nat × Nat)} {vs : List Nat} {a : Nat} {sh : Bool} (h : TakesIn br A n cap l W ps vs a sh w) (ho : FieldsOk br A W ps) (k : Int) :
    Calls Try.prog 52 #[.pointer (some ⟨br, 0, none⟩), .int .i64 k] w fun e w' => e = .returned (.int .u32 ((WireP.take l a sh k).n : Nat)) ∧ TakesIn br A n cap l W ps vs (WireP.take l a sh k).at_ (WireP.take l a sh k).short w' := by
  refine (take_any br A n cap l a sh k w h.rd).mono ?_
  rintro e w' ⟨rfl, h2, h3⟩
  refine ⟨rfl, h2, h.ap.trans h3 (fun _ e => .inl (.inl e)), fun b cs t hb hc => ?_, h.len⟩
  obtain ⟨p, hp, rfl⟩ := hb
  have h5 := h.box p.1 cs t ⟨p, hp, rfl⟩ hc
  exact (h3.block p.1 (lt_of_block h5) (fun e => ho.rd p hp e)).trans h5
theorem TakesIn.store {br n cap : Nat} {A : Option Addr} {l : List UInt8} {W w : World} {ps : List (Nat × Nat)} {vs : List Nat} {a : Nat} {sh : Bool} (h : TakesIn br A n cap l W ps vs a sh w) (ho : FieldsOk br A W ps) {p : Nat × Nat} (hp : ps[vs.length]? = some p) (v : Nat) :
    TakesIn br A n cap l W ps (vs ++ [v]) a sh (w.setCell ⟨p.1, p.2, none⟩ (.int .i64 (v : Nat))) := by
  have hm := List.mem_of_getElem? hp
  have hlt := (List.getElem?_eq_some_iff.1 hp).1
  have h1 : Apart (fun k => k = p.1) w (w.setCell ⟨p.1, p.2, none⟩ (.int .i64 (v : Nat))) := Apart.setCell (F := fun k => k = p.1) (Apart.refl _ w) (p := ⟨p.1, p.2, none⟩) (.inl rfl) _
  refine ⟨h.rd.apart h1 (fun e => ho.rd p hm e.symm) (fun k hk e => ho.arr p hm (by rw [hk, e])), h.ap.trans h1 (fun k e => .inl (.inr ⟨p, hm, e.symm⟩)), fun b cs t hb hc => ?_, by simp; omega⟩
  have h5 := h.box b cs t hb hc
  rw [List.length_append, List.length_singleton, List.take_add_one, hp, Option.toList_some, setAll_snoc b _ _ _ _ _ (by simp; omega)]
  by_cases hpb : p.1 = b
  · rw [if_pos hpb]
    subst hpb
    exact heap_setCell_same w p.1 p.2 _ t _ h5
  · rw [if_neg hpb, Below.heap_setCell _ _ _ _ (fun e => hpb e.symm)]
    exact h5
theorem TakesIn.cell {br n cap : Nat} {A : Option Addr} {l : List UInt8} {W w : World} {ps : List (Nat × Nat)} {vs : List Nat} {a : Nat} {sh : Bool} (h : TakesIn br A n cap l W ps vs a sh w) (ho : FieldsOk br A W ps) {p : Nat × Nat} (hp : p ∈ ps) : (∃ v, w.cell? ⟨p.1, p.2, none⟩ = some v) ∧ w.frozen? ⟨p.1, p.2, none⟩ = false := by
  obtain ⟨cs, t, h1, h2⟩ := ho.there p hp
  have h5 := h.box p.1 cs t ⟨p, hp, rfl⟩ h1
  have h6 : p.2 < (setAll p.1 (ps.take vs.length) vs cs).size := by rw [setAll_size]; exact h2
  exact ⟨⟨_, cell_at h5 p.2 (Array.getElem?_eq_getElem h6)⟩, free_at h5 p.2⟩

def TakesRel (br : Nat) (A : Option Addr) (n cap : Nat) (l : List UInt8) (s : Int) (N : Nat) (D : List Nat × Nat × Bool) (W : World) (ps : List (Nat × Nat)) (i : Value) (w : World) : Prop :=
  ∃ vs a sh, vs.length ≤ N ∧ i = .int .i64 (vs.length : Nat) ∧ TakesIn br A n cap l W ps vs a sh w ∧ D = (vs ++ (takesD l s (N - vs.length) a sh).1, (takesD l s (N - vs.length) a sh).2)
/-- What take answers. -/
def TakesPost (br : Nat) (A : Option Addr) (n cap : Nat) (l : List UInt8) (D : List Nat × Nat × Bool) (ps : List (Nat × Nat)) (w : World) (e : Ending) (w' : World) : Prop :=
  e = .returned (.tuple #[]) ∧ TakesIn br A n cap l w ps D.1 D.2.1 D.2.2 w'

theorem takesD_step {l : List UInt8} {s : Int} {N a : Nat} {sh : Bool} {vs : List Nat} {D : List Nat × Nat × Bool} {x : WireP.Took} (hN : vs.length < N) (hx : WireP.take l a sh s = x) (h : D = (vs ++ (takesD l s (N - vs.length) a sh).1, (takesD l s (N - vs.length) a sh).2)) :
    D = ((vs ++ [x.n]) ++ (takesD l s (N - (vs ++ [x.n]).length) x.at_ x.short).1, (takesD l s (N - (vs ++ [x.n]).length) x.at_ x.short).2) := by
  obtain ⟨j, hj⟩ : ∃ j, N - vs.length = j + 1 := ⟨N - vs.length - 1, by omega⟩
  rw [h, hj, List.length_append, List.length_singleton, show N - (vs.length + 1) = j by omega]
  subst hx
  simp [takesD]

set_option maxHeartbeats 1000000 in
theorem takes_any (br : Nat) (A : Option Addr) (n cap : Nat) (l : List UInt8) (a : Nat) (sh : Bool) (s : Nat) (hs : s = 1 ∨ s = 4) (ps : List (Nat × Nat)) (N NF fcap : Nat) (hN : ps.length = N) (w : World) (h : ReaderAt w br A n cap l a sh) (ho : FieldsOk br A w ps)
    (cs : Array Value) (t : TypeId) (hc : w.heap[NF]? = some (.cells cs t (0, 0))) (hcs : cs = (ps.map (fun p => Value.pointer (some ⟨p.1, p.2, none⟩))).toArray) (hF : ¬ FF br ps NF) (hN2 : N ≤ 1000) :
    Calls Try.prog 54 #[.pointer (some ⟨br, 0, none⟩), .int .i64 (s : Nat), .slice (some ⟨NF, 0, none⟩) N fcap] w (TakesPost br A n cap l (takesD l s N a sh) ps w) := by
  have HO := Lib.hid ho
  have HNN := Lib.hid hN
  have h0 : Hid (TakesRel br A n cap l s N (takesD l s N a sh) w ps (.int .i64 0) w) := Lib.hid ⟨[], a, sh, Nat.zero_le _, rfl, ⟨h, Apart.refl _ _, fun b cs t _ hc => by simpa [setAll] using hc, Nat.zero_le _⟩, by simp⟩
  have HCell : Hid (∀ wr, Apart (FF br ps) w wr → ∀ k p, ps[k]? = some p → wr.cell? ⟨NF, k, none⟩ = some (.pointer (some ⟨p.1, p.2, none⟩))) := Lib.hid fun wr ha k p hk => by
    refine cell_at ((ha.block NF (lt_of_block hc) hF).trans hc) k ?_
    rw [hcs]
    simp [hk]
  generalize takesD l s N a sh = D at *
  clear h ho hc hcs hF hN
  go_enter Try.func54, Try.ntmps54
  go_wp2_with fail
  go_loopw [10] (TakesRel br A n cap l s N D w ps) (fun i _ => (N + 1 - intOf i).toNat)
  case atStart => exact h0.out
  case round =>
    clear h0
    obtain ⟨vs, a2, sh2, hk, rfl, hi, hD⟩ := hrel
    have HI := Lib.hid hi
    have HD := Lib.hid hD
    clear hi hD
    by_cases hlt : vs.length < N
    · obtain ⟨⟨pb, po⟩, hpk⟩ : ∃ p, ps[vs.length]? = some p := ⟨_, List.getElem?_eq_getElem (by rw [HNN.out]; exact hlt)⟩
      have kc := HCell.out wr HI.out.ap vs.length _ hpk
      simp only at kc
      obtain ⟨x, hx⟩ : ∃ x, WireP.take l a2 sh2 s = x := ⟨_, rfl⟩
      have hx4 : x.n < 4294967296 := by
        rw [← hx]
        rcases hs with rfl | rfl
        · have := take_lt l a2 sh2 1; omega
        · have := take_lt l a2 sh2 4; omega
      have Hst := Lib.hid (takesD_step hlt hx HD.out)
      have Hpk := Lib.hid hpk
      have HTk := Lib.hid (HI.out.take HO.out s)
      rw [hx] at HTk
      have hwx : IntKind.i64.wrap (x.n : Int) = x.n := IntWalk.i64_in _ (by omega)
      have HV : Hid (vs.length = vs.length) := Lib.hid rfl
      clear hpk hx HI HD
      go_wp2_with fail
      refine HTk.out.mono ?_
      rintro e w2 ⟨rfl, hi2⟩
      obtain ⟨⟨u, kv⟩, kf⟩ := hi2.cell HO.out (List.mem_of_getElem? Hpk.out)
      simp only at kv kf
      have HI2 := Lib.hid (hi2.store HO.out Hpk.out x.n)
      simp only at HI2
      clear hi2
      go_wp2_with fail
      go_roundw
      case rel => exact ⟨vs ++ [x.n], x.at_, x.short, by simp; omega, by rw [List.length_append]; go_num, HI2.out, Hst.out⟩
      case measure => simp [intOf]; omega
    · have hkn : N = vs.length := by omega
      have HF : Hid (TakesPost br A n cap l D ps w (.returned (.tuple #[])) wr) := Lib.hid (by
        refine ⟨rfl, ?_⟩
        rw [HD.out, hkn, Nat.sub_self]
        simp only [takesD, List.append_nil]
        exact HI.out)
      clear HI HD
      go_wp2_with fail
      go_end0
      exact HF.out
end Go.Proofs.Ytgceleipaiameaa
namespace Go.Proofs.Ytgceleipaiameaa
open Go.RowKit
set_option maxRecDepth 100000

/-- The Reader in block br, what is read into in block bp; all else that was is as it was. -/
structure Bx (br bp : Nat) (A : Option Addr) (n cap : Nat) (l : List UInt8) (W : World) (t : TypeId) (a : Nat) (sh : Bool) (xs : Array Value) (w : World) : Prop where
  rd : ReaderAt w br A n cap l a sh
  box : w.heap[bp]? = some (.cells xs t (0, 0))
  ap : Apart (fun k => k = br ∨ k = bp) W w
structure BxOk (br bp : Nat) (A : Option Addr) : Prop where
  ne : br ≠ bp
  arr : blockOf A ≠ some bp
section
variable {br bp n cap : Nat} {A : Option Addr} {l : List UInt8} {W w w' : World} {t : TypeId} {a : Nat} {sh : Bool} {xs : Array Value}
theorem Bx.take (h : Bx br bp A n cap l W t a sh xs w) (ho : BxOk br bp A) (k : Int) :
    Calls Try.prog 52 #[.pointer (some ⟨br, 0, none⟩), .int .i64 k] w fun e w' => e = .returned (.int .u32 ((WireP.take l a sh k).n : Nat)) ∧ Bx br bp A n cap l W t (WireP.take l a sh k).at_ (WireP.take l a sh k).short xs w' ∧ Apart (RF br) w w' := by
  refine (take_any br A n cap l a sh k w h.rd).mono ?_
  rintro e w' ⟨rfl, h2, h3⟩
  exact ⟨rfl, ⟨h2, (h3.block bp (lt_of_block h.box) (fun e => ho.ne e.symm)).trans h.box, h.ap.trans h3 (fun _ e => .inl (.inl e))⟩, h3⟩
theorem Bx.store (h : Bx br bp A n cap l W t a sh xs w) (ho : BxOk br bp A) (i : Nat) (u : Value) : Bx br bp A n cap l W t a sh (xs.setIfInBounds i u) (w.setCell ⟨bp, i, none⟩ u) := by
  have h1 : Apart (fun k => k = bp) w (w.setCell ⟨bp, i, none⟩ u) := Apart.setCell (F := fun k => k = bp) (Apart.refl _ w) (p := ⟨bp, i, none⟩) (.inl rfl) u
  exact ⟨h.rd.apart h1 ho.ne (fun k hk e => ho.arr (by rw [hk, e])), heap_setCell_same w bp i _ _ u h.box, h.ap.trans h1 (fun _ e => .inl (.inr e))⟩
theorem Bx.drew (h : Bx br bp A n cap l W t a sh xs w) : Bx br bp A n cap l W t a sh xs w.drew := ⟨h.rd.drew, h.box, h.ap.drew⟩
theorem Bx.drewN (h : Bx br bp A n cap l W t a sh xs w) (m : Nat) : Bx br bp A n cap l W t a sh xs (w.drewN m) := ⟨h.rd.drewN m, h.box, h.ap.drewN m⟩
/-- take, into fields of the block; their addresses just laid. -/
theorem Bx.takes (h : Bx br bp A n cap l W t a sh xs w) (ho : BxOk br bp A) (s : Nat) (hs : s = 1 ∨ s = 4) (ps : List (Nat × Nat)) (hp : ∀ p ∈ ps, p.1 = bp ∧ p.2 < xs.size) (N NF fcap : Nat) (hN : ps.length = N) (hNF : NF = w.heap.size) (cs : Array Value) (tt : TypeId)
    (hcs : cs = (ps.map (fun p => Value.pointer (some ⟨p.1, p.2, none⟩))).toArray) (hN2 : N ≤ 1000) :
    Calls Try.prog 54 #[.pointer (some ⟨br, 0, none⟩), .int .i64 (s : Nat), .slice (some ⟨NF, 0, none⟩) N fcap] (w.alloc (.cells cs tt)) fun e w' => e = .returned (.tuple #[]) ∧ Bx br bp A n cap l W t (takesD l s N a sh).2.1 (takesD l s N a sh).2.2 (setAll bp ps (takesD l s N a sh).1 xs) w' := by
  have hbp := lt_of_block h.box
  have hbr := lt_of_block h.rd.block
  have hb2 : (w.alloc (.cells cs tt)).heap[bp]? = some (.cells xs t (0, 0)) := (Below.heap_alloc _ _ _ hbp).trans h.box
  have hFO : FieldsOk br A (w.alloc (.cells cs tt)) ps := ⟨fun p hq => by rw [(hp p hq).1]; exact fun e => ho.ne e.symm, fun p hq => by rw [(hp p hq).1]; exact ho.arr, fun p hq => by rw [(hp p hq).1]; exact ⟨xs, t, hb2, (hp p hq).2⟩⟩
  refine (takes_any br A n cap l a sh s hs ps N NF fcap hN (w.alloc (.cells cs tt)) (h.rd.below ((Below.refl _ _).alloc (Nat.le_refl _) _)) hFO cs tt (by rw [hNF]; exact heap_alloc_new w _) hcs ?_ hN2).mono ?_
  · rintro (e | ⟨p, hq, e⟩)
    · omega
    · rw [(hp p hq).1] at e; omega
  rintro e w' ⟨rfl, hT⟩
  have hvl : (takesD l s N a sh).1.length = N := by
    have key : ∀ (k a : Nat) (sh : Bool), (takesD l s k a sh).1.length = k := fun k => by
      induction k with
      | zero => intro _ _; rfl
      | succ k ih => intro a sh; simp [takesD, ih]
    exact key N a sh
  refine ⟨rfl, hT.rd, ?_, ?_⟩
  · rcases Nat.eq_zero_or_pos N with h0 | h0
    · have e0 : ps = [] := List.eq_nil_of_length_eq_zero (by omega)
      subst e0
      refine (hT.ap.block bp (by simp; omega) ?_).trans ?_
      · rintro (e | ⟨p, hq, _⟩)
        · exact ho.ne e.symm
        · cases hq
      · have : setAll bp [] (takesD l s N a sh).1 xs = xs := by cases (takesD l s N a sh).1 <;> rfl
        rw [this]
        exact hb2
    · obtain ⟨p, hq⟩ : ∃ p, p ∈ ps := by
        cases ps with
        | nil => simp at hN; omega
        | cons p r => exact ⟨p, by simp⟩
      have h9 := hT.box bp xs t ⟨p, hq, (hp p hq).1⟩ hb2
      rwa [hvl, List.take_of_length_le (by omega)] at h9
  · refine (h.ap.alloc _).trans hT.ap ?_
    rintro k (e | ⟨p, hq, e⟩)
    · exact .inl (.inl e)
    · exact .inl (.inr (by rw [← e, (hp p hq).1]))
/-- What was made for the reading is let go. -/
theorem Bx.done {W0 : World} {o : Obj} (h : Bx br bp A n cap l (W0.alloc o) t a sh xs w) (hbp : bp = W0.heap.size) : TakeIn br A n cap l W0 a sh w :=
  ⟨h.rd, ((Apart.refl _ W0).alloc o).trans h.ap (fun k e => by
    rcases e with e | e
    · exact .inl e
    · exact .inr (by omega))⟩
end
theorem Bx.start {br n cap : Nat} {A : Option Addr} {l : List UInt8} {w : World} {t : TypeId} {a : Nat} {sh : Bool} {xs : Array Value} (h : ReaderAt w br A n cap l a sh) : Bx br w.heap.size A n cap l (w.alloc (.cells xs t)) t a sh xs (w.alloc (.cells xs t)) :=
  ⟨h.below ((Below.refl _ _).alloc (Nat.le_refl _) _), heap_alloc_new w _, Apart.refl _ _⟩
theorem BxOk.start {br n cap : Nat} {A : Option Addr} {l : List UInt8} {w : World} {a : Nat} {sh : Bool} (h : ReaderAt w br A n cap l a sh) (hA : ∀ k, blockOf A = some k → k < w.heap.size) : BxOk br w.heap.size A :=
  ⟨fun e => by have := lt_of_block h.block; omega, fun e => by have := hA _ e; omega⟩

/-- Behind a result's box and a variable's. -/
theorem Bx.start2 {br n cap : Nat} {A : Option Addr} {l : List UInt8} {w : World} {t : TypeId} {a : Nat} {sh : Bool} {xs : Array Value} {o : Obj} (h : ReaderAt w br A n cap l a sh) : Bx br (w.heap.size + 1) A n cap l ((w.alloc o).alloc (.cells xs t)) t a sh xs ((w.alloc o).alloc (.cells xs t)) := by
  have := Bx.start (xs := xs) (t := t) (h.alloc o)
  simpa using this
theorem BxOk.start2 {br n cap : Nat} {A : Option Addr} {l : List UInt8} {w : World} {a : Nat} {sh : Bool} (h : ReaderAt w br A n cap l a sh) (hA : ∀ k, blockOf A = some k → k < w.heap.size) : BxOk br (w.heap.size + 1) A :=
  ⟨fun e => by have := lt_of_block h.block; omega, fun e => by have := hA _ e; omega⟩
section
variable {br n cap : Nat} {A : Option Addr} {l : List UInt8} {W0 w : World} {t : TypeId} {a : Nat} {sh : Bool} {xs : Array Value} {o1 o2 : Obj}
theorem Bx.res (h : Bx br (W0.heap.size + 1) A n cap l ((W0.alloc o1).alloc o2) t a sh xs w) (hbr : br < W0.heap.size) : w.heap[W0.heap.size]? = some o1 := by
  refine (h.ap.block W0.heap.size (by simp; omega) (fun e => by omega)).trans ?_
  exact (Below.heap_alloc _ _ _ (by simp)).trans (heap_alloc_new W0 o1)
theorem Bx.fin (h : Bx br (W0.heap.size + 1) A n cap l ((W0.alloc o1).alloc o2) t a sh xs w) (hbr : br < W0.heap.size) (hA : ∀ k, blockOf A = some k → k < W0.heap.size) (vs : List Value) (i : Nat) : TakeIn br A n cap l W0 a sh (storeAll w W0.heap.size vs i) := by
  have h1 := storeAll_apart W0.heap.size vs i w
  refine ⟨h.rd.apart h1 (fun e => by omega) (fun k hk e => by have := hA k hk; omega), ?_⟩
  refine ((((Apart.refl _ W0).alloc o1).alloc o2).trans h.ap (F := RF br) (fun k e => ?_)).trans h1 (fun k e => .inr (Nat.le_of_eq e.symm))
  rcases e with e | e
  · exact .inl e
  · exact .inr (by omega)
end

set_option maxHeartbeats 1000000 in
theorem takeRoute_any (br : Nat) (A : Option Addr) (n cap : Nat) (l : List UInt8) (a : Nat) (s : Bool) (w : World) (h : ReaderAt w br A n cap l a s) (hA : ∀ k, blockOf A = some k → k < w.heap.size) (x0 x1 : WireP.Took) (h0 : WireP.take l a s 1 = x0) (h1 : WireP.take l x0.at_ x0.short 1 = x1) :
    Calls Try.prog 57 #[.pointer (some ⟨br, 0, none⟩)] w (fun e w' => e = .returned (.agg (routeVals ⟨x0.n, x1.n⟩).toArray) ∧ TakeIn br A n cap l w x1.at_ x1.short w') := by
  have HS : Hid (∀ o xs t, Bx br (w.heap.size + 1) A n cap l ((w.alloc o).alloc (.cells xs t)) t a s xs ((w.alloc o).alloc (.cells xs t))) := Lib.hid fun o xs t => Bx.start2 h
  have HO := Lib.hid (BxOk.start2 h hA)
  have hbr := h.lt
  have HA := Lib.hid hA
  have HD : Hid (takesD l ((1 : Nat) : Int) 2 a s = ([x0.n, x1.n], x1.at_, x1.short)) := Lib.hid (by
    show takesD l 1 2 a s = _
    simp only [takesD, h0, h1])
  simp only [routeVals]
  clear h hA h0 h1
  go_enter Try.func57, Try.ntmps57
  go_wp2_with fail
  refine Calls.mono ((HS.out _ _ _).takes HO.out 1 ?hs1 [(w.heap.size + 1, 0), (w.heap.size + 1, 1)] ?hp1 2 _ _ ?hn1 ?hN1 _ _ ?hc1 ?hz1) ?hr1
  case hs1 => omega
  case hp1 => simp
  case hn1 => rfl
  case hN1 => simp
  case hc1 => rfl
  case hz1 => omega
  rintro e w1 ⟨rfl, hb1⟩
  rw [HD.out] at hb1
  simp [setAll] at hb1
  have HB1 := Lib.hid hb1
  have k0 := cell_at hb1.box 0 rfl
  have k1 := cell_at hb1.box 1 rfl
  have hres := hb1.res hbr
  have Hres := Lib.hid hres
  have r0 := cell_at hres 0 rfl
  have r1 := cell_at hres 1 rfl
  have f := fun i => free_at hres i
  clear hb1 hres
  go_wp2_with fail
  clear k0 k1 r0 r1 f
  show bodyPost _ _ _ _ _ (storeAll w1 w.heap.size (routeVals ⟨x0.n, x1.n⟩) 0)
  have hfin := storeAll_heap (b := w.heap.size) (routeVals ⟨x0.n, x1.n⟩) 0 w1 [] [_, _] Hres.out rfl rfl
  have HF := Lib.hid (HB1.out.fin hbr HA.out (routeVals ⟨x0.n, x1.n⟩) 0)
  generalize storeAll w1 w.heap.size (routeVals ⟨x0.n, x1.n⟩) 0 = Wf at *
  rw [List.nil_append] at hfin
  have r0 := cell_at hfin 0 rfl
  have r1 := cell_at hfin 1 rfl
  refine bodyPost_ret (v := .agg (routeVals ⟨x0.n, x1.n⟩).toArray) (by simp [results, Try.results57, go_sem, r0, r1, routeVals]) rfl ?_
  exact ⟨rfl, HF.out⟩
end Go.Proofs.Ytgceleipaiameaa
namespace Go.Proofs.Ytgceleipaiameaa
open Go.RowKit
set_option maxRecDepth 100000

/-- What takePort answers. -/
def PortPost (br : Nat) (A : Option Addr) (n cap : Nat) (l : List UInt8) (x0 x1 x2 x3 x4 x5 : WireP.Took) (w : World) (e : Ending) (w' : World) : Prop :=
  if 1 < x2.n then e = .returned (.tuple #[.agg #[.int .i64 (x0.n : Nat), .int .u8 (x1.n : Nat), .bool false, .int .i64 0, .int .i64 0, .int .i64 0], .bool false]) ∧ TakeIn br A n cap l w x2.at_ x2.short w'
  else e = .returned (.tuple #[.agg (portVals ⟨x0.n, x1.n, x2.n == 1, x3.n, x4.n, x5.n⟩).toArray, .bool true]) ∧ TakeIn br A n cap l w x5.at_ x5.short w'

theorem beq_one (n : Nat) : (((n : Nat) : Int) == 1) = (n == 1) := by
  by_cases h : n = 1
  · subst h; rfl
  · rw [beq_eq_false_iff_ne.2 h, beq_eq_false_iff_ne]; omega

set_option maxHeartbeats 2000000 in
theorem takePort_any (br : Nat) (A : Option Addr) (n cap : Nat) (l : List UInt8) (a : Nat) (s : Bool) (w : World) (h : ReaderAt w br A n cap l a s) (hA : ∀ k, blockOf A = some k → k < w.heap.size) (x0 x1 x2 x3 x4 x5 : WireP.Took) (h0 : WireP.take l a s 1 = x0) (h1 : WireP.take l x0.at_ x0.short 1 = x1) (h2 : WireP.take l x1.at_ x1.short 1 = x2) (h3 : WireP.take l x2.at_ x2.short 1 = x3) (h4 : WireP.take l x3.at_ x3.short 1 = x4) (h5 : WireP.take l x4.at_ x4.short 1 = x5) :
    Calls Try.prog 56 #[.pointer (some ⟨br, 0, none⟩)] w (PortPost br A n cap l x0 x1 x2 x3 x4 x5 w) := by
  have HS : Hid (∀ o xs t, Bx br (w.heap.size + 1) A n cap l ((w.alloc o).alloc (.cells xs t)) t a s xs ((w.alloc o).alloc (.cells xs t))) := Lib.hid fun o xs t => Bx.start2 h
  have HO := Lib.hid (BxOk.start2 h hA)
  have hbr := h.lt
  have HA := Lib.hid hA
  have HD : Hid (takesD l ((1 : Nat) : Int) 1 a s = ([x0.n], x0.at_, x0.short)) := Lib.hid (by
    show takesD l 1 1 a s = _
    simp only [takesD, h0])
  have HD2 : Hid (takesD l ((1 : Nat) : Int) 3 x2.at_ x2.short = ([x3.n, x4.n, x5.n], x5.at_, x5.short)) := Lib.hid (by
    show takesD l 1 3 x2.at_ x2.short = _
    simp only [takesD, h3, h4, h5])
  have l1 := take_lt1 l x0.at_ x0.short
  rw [h1] at l1
  have m1 : (x1.n : Int) % 256 = x1.n := by omega
  have K1 := Lib.hid h1
  have K2 := Lib.hid h2
  clear h hA h0 h1 h2 h3 h4 h5
  go_enter Try.func56, Try.ntmps56
  go_wp2_with fail
  refine Calls.mono ((HS.out _ _ _).takes HO.out 1 ?hs1 [(w.heap.size + 1, 0)] ?hp1 1 _ _ ?hn1 ?hN1 _ _ ?hc1 ?hz1) ?hr1
  case hs1 => omega
  case hp1 => simp
  case hn1 => rfl
  case hN1 => simp
  case hc1 => rfl
  case hz1 => omega
  rintro e w1 ⟨rfl, hb1⟩
  rw [HD.out] at hb1
  simp [setAll] at hb1
  have HB1 := Lib.hid hb1
  clear hb1
  go_wp2_with fail
  refine (HB1.out.take HO.out 1).mono ?_
  rw [K1.out]
  rintro e w2 ⟨rfl, hb2, -⟩
  have k1 := cell_at hb2.box 1 rfl
  have f1 := free_at hb2.box 1
  have HB2 := Lib.hid (hb2.store HO.out 1 (.int .u8 (x1.n : Nat)))
  clear hb2
  go_wp2_with fail
  refine (HB2.out.take HO.out 1).mono ?_
  rw [K2.out]
  rintro e w3 ⟨rfl, hb3, -⟩
  simp at hb3
  have HB3 := Lib.hid hb3
  clear hb3 k1 f1
  by_cases hlt : 1 < x2.n
  case pos =>
    have q : decide ((1 : Int) < x2.n) = true := decide_eq_true (by omega)
    have HP : Hid (∀ w', TakeIn br A n cap l w x2.at_ x2.short w' → PortPost br A n cap l x0 x1 x2 x3 x4 x5 w (.returned (.tuple #[.agg #[.int .i64 (x0.n : Nat), .int .u8 (x1.n : Nat), .bool false, .int .i64 0, .int .i64 0, .int .i64 0], .bool false])) w') := Lib.hid fun w' ht => by
      unfold PortPost
      rw [if_pos hlt]
      exact ⟨rfl, ht⟩
    have hb3 := HB3.out
    have k0 := cell_at hb3.box 0 rfl
    have k1 := cell_at hb3.box 1 rfl
    have k2 := cell_at hb3.box 2 rfl
    have k3 := cell_at hb3.box 3 rfl
    have k4 := cell_at hb3.box 4 rfl
    have k5 := cell_at hb3.box 5 rfl
    have hres := hb3.res hbr
    have Hres := Lib.hid hres
    have r0 := cell_at hres 0 rfl
    have r1 := cell_at hres 1 rfl
    have r2 := cell_at hres 2 rfl
    have r3 := cell_at hres 3 rfl
    have r4 := cell_at hres 4 rfl
    have r5 := cell_at hres 5 rfl
    have f := fun i => free_at hres i
    clear hb3 hres hlt
    go_wp2_with fail
    clear k0 k1 k2 k3 k4 k5 r0 r1 r2 r3 r4 r5 f
    show bodyPost _ _ _ _ _ (storeAll w3 w.heap.size [.int .i64 (x0.n : Nat), .int .u8 (x1.n : Nat), .bool false, .int .i64 0, .int .i64 0, .int .i64 0] 0)
    have hfin := storeAll_heap (b := w.heap.size) [.int .i64 (x0.n : Nat), .int .u8 (x1.n : Nat), .bool false, .int .i64 0, .int .i64 0, .int .i64 0] 0 w3 [] [_, _, _, _, _, _] Hres.out rfl rfl
    have HF := Lib.hid (HB3.out.fin hbr HA.out [.int .i64 (x0.n : Nat), .int .u8 (x1.n : Nat), .bool false, .int .i64 0, .int .i64 0, .int .i64 0] 0)
    generalize storeAll w3 w.heap.size [.int .i64 (x0.n : Nat), .int .u8 (x1.n : Nat), .bool false, .int .i64 0, .int .i64 0, .int .i64 0] 0 = Wf at *
    rw [List.nil_append] at hfin
    have r0 := cell_at hfin 0 rfl
    have r1 := cell_at hfin 1 rfl
    have r2 := cell_at hfin 2 rfl
    have r3 := cell_at hfin 3 rfl
    have r4 := cell_at hfin 4 rfl
    have r5 := cell_at hfin 5 rfl
    refine bodyPost_ret (v := .tuple #[.agg #[.int .i64 (x0.n : Nat), .int .u8 (x1.n : Nat), .bool false, .int .i64 0, .int .i64 0, .int .i64 0], .bool false]) (by simp [results, Try.results56, go_sem, r0, r1, r2, r3, r4, r5]) rfl ?_
    exact HP.out _ HF.out
  have q : decide ((1 : Int) < x2.n) = false := decide_eq_false (by omega)
  have HP : Hid (∀ w', TakeIn br A n cap l w x5.at_ x5.short w' → PortPost br A n cap l x0 x1 x2 x3 x4 x5 w (.returned (.tuple #[.agg (portVals ⟨x0.n, x1.n, x2.n == 1, x3.n, x4.n, x5.n⟩).toArray, .bool true])) w') := Lib.hid fun w' ht => by
    unfold PortPost
    rw [if_neg hlt]
    exact ⟨rfl, ht⟩
  have hb3 := HB3.out
  have k2 := cell_at hb3.box 2 rfl
  have f2 := free_at hb3.box 2
  have hq := beq_one x2.n
  generalize hob : (x2.n == 1) = ob at *
  have HB4 := Lib.hid (hb3.store HO.out 2 (.bool ob))
  clear hb3 hlt hob
  go_wp2_with fail
  refine Calls.mono (HB4.out.takes HO.out 1 ?hs2 [(w.heap.size + 1, 3), (w.heap.size + 1, 4), (w.heap.size + 1, 5)] ?hp2 3 _ _ ?hn2 ?hN2 _ _ ?hc2 ?hz2) ?hr2
  case hs2 => omega
  case hp2 => simp
  case hn2 => rfl
  case hN2 => simp [World.setCell]
  case hc2 => rfl
  case hz2 => omega
  rintro e w5 ⟨rfl, hb5⟩
  rw [HD2.out] at hb5
  simp [setAll] at hb5
  have HB5 := Lib.hid hb5
  have k0 := cell_at hb5.box 0 rfl
  have k1 := cell_at hb5.box 1 rfl
  clear k2
  have k2 := cell_at hb5.box 2 rfl
  have k3 := cell_at hb5.box 3 rfl
  have k4 := cell_at hb5.box 4 rfl
  have k5 := cell_at hb5.box 5 rfl
  have hres := hb5.res hbr
  have Hres := Lib.hid hres
  have r0 := cell_at hres 0 rfl
  have r1 := cell_at hres 1 rfl
  have r2 := cell_at hres 2 rfl
  have r3 := cell_at hres 3 rfl
  have r4 := cell_at hres 4 rfl
  have r5 := cell_at hres 5 rfl
  have f := fun i => free_at hres i
  clear hb5 hres
  go_wp2_with fail
  clear k0 k1 k2 k3 k4 k5 r0 r1 r2 r3 r4 r5 f
  show bodyPost _ _ _ _ _ (storeAll w5 w.heap.size (portVals ⟨x0.n, x1.n, ob, x3.n, x4.n, x5.n⟩) 0)
  have hfin := storeAll_heap (b := w.heap.size) (portVals ⟨x0.n, x1.n, ob, x3.n, x4.n, x5.n⟩) 0 w5 [] [_, _, _, _, _, _] Hres.out rfl rfl
  have HF := Lib.hid (HB5.out.fin hbr HA.out (portVals ⟨x0.n, x1.n, ob, x3.n, x4.n, x5.n⟩) 0)
  generalize storeAll w5 w.heap.size (portVals ⟨x0.n, x1.n, ob, x3.n, x4.n, x5.n⟩) 0 = Wf at *
  rw [List.nil_append] at hfin
  have r0 := cell_at hfin 0 rfl
  have r1 := cell_at hfin 1 rfl
  have r2 := cell_at hfin 2 rfl
  have r3 := cell_at hfin 3 rfl
  have r4 := cell_at hfin 4 rfl
  have r5 := cell_at hfin 5 rfl
  refine bodyPost_ret (v := .tuple #[.agg (portVals ⟨x0.n, x1.n, ob, x3.n, x4.n, x5.n⟩).toArray, .bool true]) (by simp [results, Try.results56, go_sem, r0, r1, r2, r3, r4, r5, portVals]) rfl ?_
  exact HP.out _ HF.out
end Go.Proofs.Ytgceleipaiameaa
namespace Go.Proofs.Ytgceleipaiameaa
open Go.RowKit
set_option maxRecDepth 100000

set_option maxHeartbeats 2000000 in
theorem takePart_any (br : Nat) (A : Option Addr) (n cap : Nat) (l : List UInt8) (a : Nat) (s : Bool) (w : World) (h : ReaderAt w br A n cap l a s) (hA : ∀ k, blockOf A = some k → k < w.heap.size) (x0 x1 x2 x3 x4 x5 x6 x7 x8 : WireP.Took) (h0 : WireP.take l a s 1 = x0) (h1 : WireP.take l x0.at_ x0.short 4 = x1) (h2 : WireP.take l x1.at_ x1.short 4 = x2) (h3 : WireP.take l x2.at_ x2.short 1 = x3) (h4 : WireP.take l x3.at_ x3.short 1 = x4) (h5 : WireP.take l x4.at_ x4.short 1 = x5) (h6 : WireP.take l x5.at_ x5.short 1 = x6) (h7 : WireP.take l x6.at_ x6.short 1 = x7) (h8 : WireP.take l x7.at_ x7.short 1 = x8) :
    Calls Try.prog 55 #[.pointer (some ⟨br, 0, none⟩)] w (fun e w' => e = .returned (.agg (partVals ⟨x0.n, x1.n, x2.n, x3.n, x4.n, x5.n, x6.n, x7.n, x8.n⟩).toArray) ∧ TakeIn br A n cap l w x8.at_ x8.short w') := by
  have HS : Hid (∀ o xs t, Bx br (w.heap.size + 1) A n cap l ((w.alloc o).alloc (.cells xs t)) t a s xs ((w.alloc o).alloc (.cells xs t))) := Lib.hid fun o xs t => Bx.start2 h
  have HO := Lib.hid (BxOk.start2 h hA)
  have hbr := h.lt
  have HA := Lib.hid hA
  have HD : Hid (takesD l ((1 : Nat) : Int) 1 a s = ([x0.n], x0.at_, x0.short)) := Lib.hid (by
    show takesD l 1 1 a s = _
    simp only [takesD, h0])
  have HD2 : Hid (takesD l ((4 : Nat) : Int) 2 x0.at_ x0.short = ([x1.n, x2.n], x2.at_, x2.short)) := Lib.hid (by
    show takesD l 4 2 x0.at_ x0.short = _
    simp only [takesD, h1, h2])
  have HD3 : Hid (takesD l ((1 : Nat) : Int) 2 x2.at_ x2.short = ([x3.n, x4.n], x4.at_, x4.short)) := Lib.hid (by
    show takesD l 1 2 x2.at_ x2.short = _
    simp only [takesD, h3, h4])
  have m5 : (x5.n : Int) % 256 = x5.n := by have := take_lt1 l x4.at_ x4.short; rw [h5] at this; omega
  have m6 : (x6.n : Int) % 256 = x6.n := by have := take_lt1 l x5.at_ x5.short; rw [h6] at this; omega
  have m7 : (x7.n : Int) % 256 = x7.n := by have := take_lt1 l x6.at_ x6.short; rw [h7] at this; omega
  have m8 : (x8.n : Int) % 256 = x8.n := by have := take_lt1 l x7.at_ x7.short; rw [h8] at this; omega
  have K5 := Lib.hid h5
  have K6 := Lib.hid h6
  have K7 := Lib.hid h7
  have K8 := Lib.hid h8
  clear h hA h0 h1 h2 h3 h4 h5 h6 h7 h8
  simp only [partVals]
  go_enter Try.func55, Try.ntmps55
  go_wp2_with fail
  refine Calls.mono ((HS.out _ _ _).takes HO.out 1 ?hs1 [(w.heap.size + 1, 0)] ?hp1 1 _ _ ?hn1 ?hN1 _ _ ?hc1 ?hz1) ?hr1
  case hs1 => omega
  case hp1 => simp
  case hn1 => rfl
  case hN1 => simp
  case hc1 => rfl
  case hz1 => omega
  rintro e w1 ⟨rfl, hb1⟩
  rw [HD.out] at hb1
  simp [setAll] at hb1
  have HB1 := Lib.hid hb1
  clear hb1
  go_wp2_with fail
  refine Calls.mono (HB1.out.takes HO.out 4 ?hs2 [(w.heap.size + 1, 1), (w.heap.size + 1, 2)] ?hp2 2 _ _ ?hn2 ?hN2 _ _ ?hc2 ?hz2) ?hr2
  case hs2 => omega
  case hp2 => simp
  case hn2 => rfl
  case hN2 => simp
  case hc2 => rfl
  case hz2 => omega
  rintro e w2 ⟨rfl, hb2⟩
  rw [HD2.out] at hb2
  simp [setAll] at hb2
  have HB2 := Lib.hid hb2
  clear hb2
  go_wp2_with fail
  refine Calls.mono (HB2.out.takes HO.out 1 ?hs3 [(w.heap.size + 1, 3), (w.heap.size + 1, 4)] ?hp3 2 _ _ ?hn3 ?hN3 _ _ ?hc3 ?hz3) ?hr3
  case hs3 => omega
  case hp3 => simp
  case hn3 => rfl
  case hN3 => simp
  case hc3 => rfl
  case hz3 => omega
  rintro e w3 ⟨rfl, hb3⟩
  rw [HD3.out] at hb3
  simp [setAll] at hb3
  have HB3 := Lib.hid hb3
  clear hb3
  go_wp2_with fail
  go_loopw [19] (fun i wx => (i = .int .i64 0 ∧ Bx br (w.heap.size + 1) A n cap l ((w.alloc (.cells #[.int .i64 0, .int .i64 0, .int .i64 0, .int .i64 0, .int .i64 0, .int .u8 0, .int .u8 0, .int .u8 0, .int .u8 0] 60)).alloc (.cells #[.int .i64 0, .int .i64 0, .int .i64 0, .int .i64 0, .int .i64 0, .int .u8 0, .int .u8 0, .int .u8 0, .int .u8 0] 60)) 60 x4.at_ x4.short #[.int .i64 (x0.n : Nat), .int .i64 (x1.n : Nat), .int .i64 (x2.n : Nat), .int .i64 (x3.n : Nat), .int .i64 (x4.n : Nat), .int .u8 0, .int .u8 0, .int .u8 0, .int .u8 0] wx) ∨ (i = .int .i64 1 ∧ Bx br (w.heap.size + 1) A n cap l ((w.alloc (.cells #[.int .i64 0, .int .i64 0, .int .i64 0, .int .i64 0, .int .i64 0, .int .u8 0, .int .u8 0, .int .u8 0, .int .u8 0] 60)).alloc (.cells #[.int .i64 0, .int .i64 0, .int .i64 0, .int .i64 0, .int .i64 0, .int .u8 0, .int .u8 0, .int .u8 0, .int .u8 0] 60)) 60 x5.at_ x5.short #[.int .i64 (x0.n : Nat), .int .i64 (x1.n : Nat), .int .i64 (x2.n : Nat), .int .i64 (x3.n : Nat), .int .i64 (x4.n : Nat), .int .u8 (x5.n : Nat), .int .u8 0, .int .u8 0, .int .u8 0] wx) ∨ (i = .int .i64 2 ∧ Bx br (w.heap.size + 1) A n cap l ((w.alloc (.cells #[.int .i64 0, .int .i64 0, .int .i64 0, .int .i64 0, .int .i64 0, .int .u8 0, .int .u8 0, .int .u8 0, .int .u8 0] 60)).alloc (.cells #[.int .i64 0, .int .i64 0, .int .i64 0, .int .i64 0, .int .i64 0, .int .u8 0, .int .u8 0, .int .u8 0, .int .u8 0] 60)) 60 x6.at_ x6.short #[.int .i64 (x0.n : Nat), .int .i64 (x1.n : Nat), .int .i64 (x2.n : Nat), .int .i64 (x3.n : Nat), .int .i64 (x4.n : Nat), .int .u8 (x5.n : Nat), .int .u8 (x6.n : Nat), .int .u8 0, .int .u8 0] wx) ∨ (i = .int .i64 3 ∧ Bx br (w.heap.size + 1) A n cap l ((w.alloc (.cells #[.int .i64 0, .int .i64 0, .int .i64 0, .int .i64 0, .int .i64 0, .int .u8 0, .int .u8 0, .int .u8 0, .int .u8 0] 60)).alloc (.cells #[.int .i64 0, .int .i64 0, .int .i64 0, .int .i64 0, .int .i64 0, .int .u8 0, .int .u8 0, .int .u8 0, .int .u8 0] 60)) 60 x7.at_ x7.short #[.int .i64 (x0.n : Nat), .int .i64 (x1.n : Nat), .int .i64 (x2.n : Nat), .int .i64 (x3.n : Nat), .int .i64 (x4.n : Nat), .int .u8 (x5.n : Nat), .int .u8 (x6.n : Nat), .int .u8 (x7.n : Nat), .int .u8 0] wx) ∨ (i = .int .i64 4 ∧ Bx br (w.heap.size + 1) A n cap l ((w.alloc (.cells #[.int .i64 0, .int .i64 0, .int .i64 0, .int .i64 0, .int .i64 0, .int .u8 0, .int .u8 0, .int .u8 0, .int .u8 0] 60)).alloc (.cells #[.int .i64 0, .int .i64 0, .int .i64 0, .int .i64 0, .int .i64 0, .int .u8 0, .int .u8 0, .int .u8 0, .int .u8 0] 60)) 60 x8.at_ x8.short #[.int .i64 (x0.n : Nat), .int .i64 (x1.n : Nat), .int .i64 (x2.n : Nat), .int .i64 (x3.n : Nat), .int .i64 (x4.n : Nat), .int .u8 (x5.n : Nat), .int .u8 (x6.n : Nat), .int .u8 (x7.n : Nat), .int .u8 (x8.n : Nat)] wx)) (fun i _ => (5 - intOf i).toNat)
  case atStart => exact .inl ⟨rfl, HB3.out⟩
  case round =>
    clear HB1 HB2 HB3 HS
    rcases hrel with ⟨rfl, hb⟩ | ⟨rfl, hb⟩ | ⟨rfl, hb⟩ | ⟨rfl, hb⟩ | ⟨rfl, hb⟩
    · have HB := Lib.hid hb
      clear hb
      go_wp2_with fail
      refine (HB.out.take HO.out 1).mono ?_
      rw [K5.out]
      rintro e w5 ⟨rfl, hb5, -⟩
      have k5 := cell_at hb5.box 5 rfl
      have f5 := free_at hb5.box 5
      have hb6 := hb5.store HO.out 5 (.int .u8 (x5.n : Nat))
      simp at hb6
      have HB6 := Lib.hid hb6
      clear hb5 hb6
      go_wp2_with fail
      go_roundw
      case rel => exact (.inr (.inl ⟨rfl, HB6.out⟩))
      case measure => simp [intOf]
    · have HB := Lib.hid hb
      clear hb
      go_wp2_with fail
      refine (HB.out.take HO.out 1).mono ?_
      rw [K6.out]
      rintro e w5 ⟨rfl, hb5, -⟩
      have k5 := cell_at hb5.box 6 rfl
      have f5 := free_at hb5.box 6
      have hb6 := hb5.store HO.out 6 (.int .u8 (x6.n : Nat))
      simp at hb6
      have HB6 := Lib.hid hb6
      clear hb5 hb6
      go_wp2_with fail
      go_roundw
      case rel => exact (.inr (.inr (.inl ⟨rfl, HB6.out⟩)))
      case measure => simp [intOf]
    · have HB := Lib.hid hb
      clear hb
      go_wp2_with fail
      refine (HB.out.take HO.out 1).mono ?_
      rw [K7.out]
      rintro e w5 ⟨rfl, hb5, -⟩
      have k5 := cell_at hb5.box 7 rfl
      have f5 := free_at hb5.box 7
      have hb6 := hb5.store HO.out 7 (.int .u8 (x7.n : Nat))
      simp at hb6
      have HB6 := Lib.hid hb6
      clear hb5 hb6
      go_wp2_with fail
      go_roundw
      case rel => exact (.inr (.inr (.inr (.inl ⟨rfl, HB6.out⟩))))
      case measure => simp [intOf]
    · have HB := Lib.hid hb
      clear hb
      go_wp2_with fail
      refine (HB.out.take HO.out 1).mono ?_
      rw [K8.out]
      rintro e w5 ⟨rfl, hb5, -⟩
      have k5 := cell_at hb5.box 8 rfl
      have f5 := free_at hb5.box 8
      have hb6 := hb5.store HO.out 8 (.int .u8 (x8.n : Nat))
      simp at hb6
      have HB6 := Lib.hid hb6
      clear hb5 hb6
      go_wp2_with fail
      go_roundw
      case rel => exact (.inr (.inr (.inr (.inr (⟨rfl, HB6.out⟩)))))
      case measure => simp [intOf]
    · have HB := Lib.hid hb
      have k0 := cell_at hb.box 0 rfl
      have k1 := cell_at hb.box 1 rfl
      have k2 := cell_at hb.box 2 rfl
      have k3 := cell_at hb.box 3 rfl
      have k4 := cell_at hb.box 4 rfl
      have k5 := cell_at hb.box 5 rfl
      have k6 := cell_at hb.box 6 rfl
      have k7 := cell_at hb.box 7 rfl
      have k8 := cell_at hb.box 8 rfl
      have hres := hb.res hbr
      have Hres := Lib.hid hres
      have r0 := cell_at hres 0 rfl
      have r1 := cell_at hres 1 rfl
      have r2 := cell_at hres 2 rfl
      have r3 := cell_at hres 3 rfl
      have r4 := cell_at hres 4 rfl
      have r5 := cell_at hres 5 rfl
      have r6 := cell_at hres 6 rfl
      have r7 := cell_at hres 7 rfl
      have r8 := cell_at hres 8 rfl
      have f := fun i => free_at hres i
      clear hb hres
      go_wp2_with fail
      clear k0 k1 k2 k3 k4 k5 k6 k7 k8 r0 r1 r2 r3 r4 r5 r6 r7 r8 f
      show bodyPost _ _ _ _ _ (storeAll wr w.heap.size [.int .i64 (x0.n : Nat), .int .i64 (x1.n : Nat), .int .i64 (x2.n : Nat), .int .i64 (x3.n : Nat), .int .i64 (x4.n : Nat), .int .u8 (x5.n : Nat), .int .u8 (x6.n : Nat), .int .u8 (x7.n : Nat), .int .u8 (x8.n : Nat)] 0)
      have hfin := storeAll_heap (b := w.heap.size) [.int .i64 (x0.n : Nat), .int .i64 (x1.n : Nat), .int .i64 (x2.n : Nat), .int .i64 (x3.n : Nat), .int .i64 (x4.n : Nat), .int .u8 (x5.n : Nat), .int .u8 (x6.n : Nat), .int .u8 (x7.n : Nat), .int .u8 (x8.n : Nat)] 0 wr [] [_, _, _, _, _, _, _, _, _] Hres.out rfl rfl
      have HF := Lib.hid (HB.out.fin hbr HA.out [.int .i64 (x0.n : Nat), .int .i64 (x1.n : Nat), .int .i64 (x2.n : Nat), .int .i64 (x3.n : Nat), .int .i64 (x4.n : Nat), .int .u8 (x5.n : Nat), .int .u8 (x6.n : Nat), .int .u8 (x7.n : Nat), .int .u8 (x8.n : Nat)] 0)
      generalize storeAll wr w.heap.size [.int .i64 (x0.n : Nat), .int .i64 (x1.n : Nat), .int .i64 (x2.n : Nat), .int .i64 (x3.n : Nat), .int .i64 (x4.n : Nat), .int .u8 (x5.n : Nat), .int .u8 (x6.n : Nat), .int .u8 (x7.n : Nat), .int .u8 (x8.n : Nat)] 0 = Wf at *
      rw [List.nil_append] at hfin
      have r0 := cell_at hfin 0 rfl
      have r1 := cell_at hfin 1 rfl
      have r2 := cell_at hfin 2 rfl
      have r3 := cell_at hfin 3 rfl
      have r4 := cell_at hfin 4 rfl
      have r5 := cell_at hfin 5 rfl
      have r6 := cell_at hfin 6 rfl
      have r7 := cell_at hfin 7 rfl
      have r8 := cell_at hfin 8 rfl
      refine bodyPost_ret (v := .agg #[.int .i64 (x0.n : Nat), .int .i64 (x1.n : Nat), .int .i64 (x2.n : Nat), .int .i64 (x3.n : Nat), .int .i64 (x4.n : Nat), .int .u8 (x5.n : Nat), .int .u8 (x6.n : Nat), .int .u8 (x7.n : Nat), .int .u8 (x8.n : Nat)]) (by simp [results, Try.results55, go_sem, r0, r1, r2, r3, r4, r5, r6, r7, r8]) rfl ?_
      exact ⟨rfl, HF.out⟩
end Go.Proofs.Ytgceleipaiameaa
namespace Go.Proofs.Ytgceleipaiameaa
open Go.RowKit
set_option maxRecDepth 100000

section
variable {P : Program}
/-- append of elements of several cells, as one step of a region that draws. -/
theorem step_append_s {w0 : World} {ops : Array Oper} {o : Oper} {a : Act} {K : Act → World → Prop} {Q : Exit → Act → World → Prop} {E : Prop} (hgd : o.guard = none) (s x : Operand) (t : TypeId)
    (ho : o.op = .call { callee := .builtin .append, args := #[s, x], argTypes := #[t, t] }) (B : Nat) (e : TypeId) (z : Value) (size bytes : Nat)
    (ht : P.underlying t = some (.slice e)) (hinfo : (P.info? e).map (fun i => (i.zero, i.size, i.bytes)) = some (some z, size, bytes)) (hzs : z.cells.size = size) (hsz : 0 < size)
    (v : Value) (n : Nat) (xs : List Value) (hs : a.eval s = v) (hown : w0.ownsRow B e size v n xs) (A : Option Addr) (m c : Nat) (news : List Value) (hx : a.eval x = .slice A m c) (hl : news.length = m * size)
    (hnews : 0 < m → ∃ ad, A = some ad ∧ ∀ j u, news[j]? = some u → w0.cell? (ad.add j) = some u) (h1 : ∀ u ∈ news, u.oneCell' = true)
    (h63 : n + m ≤ maxLen) (hbytes : (n + m) * bytes ≤ 140737488355328) (hB : B ≤ w0.heap.size)
    (h : ∀ v' w', w'.ownsRow B e size v' (n + m) (xs ++ news) → Apart (fun k => v.ownBlock = some k) w0 w' → (v'.ownBlock = v.ownBlock ∨ v'.ownBlock = some w0.heap.size) → K (a.put o.dst v') w') :
    if Region.wanted o (yielded ops a.tmps) = true then Oper.wp P o a w0 K Q else E := by
  have hw : Region.wanted o (yielded ops a.tmps) = true := by simp [Region.wanted, hgd]
  rw [if_pos hw]
  exact wp_append_s s x t ho B e z size bytes ht hinfo hzs hsz v n xs hs hown A m c news hx hl hnews h1 h63 hbytes hB h
end

/-- A row of the call's own, from block B on. -/
structure OwnI {α : Type} (vals : α → List Value) (size : Nat) (e : TypeId) (B : Nat) (v : Value) (l : List α) (w : World) : Prop where
  own : w.ownsRow B e size v l.length (itemsV vals l)
section
variable {α : Type} {vals : α → List Value} {size : Nat} {e : TypeId} {B : Nat} {v v' : Value} {l : List α} {w w' : World}
theorem OwnI.nil (vals : α → List Value) (size : Nat) (e : TypeId) (B : Nat) (w : World) : OwnI vals size e B (.slice none 0 0) [] w := ⟨World.ownsRow_nil _ _ _ _⟩
theorem OwnI.new {F : Nat → Prop} (h : OwnI vals size e B v l w) (ha : Apart F w w') (hv : ∀ k, v.ownBlock = some k → ¬ F k) : OwnI vals size e B v l w' := ⟨own_apart h.own ha hv⟩
theorem OwnI.apart {F : Nat → Prop} (h : OwnI vals size e B v l w) (ha : Apart F w w') (hF : ∀ k, F k → k < B) : OwnI vals size e B v l w' :=
  h.new ha (fun k hk e => by have := (h.own.lt k hk).1; have := hF k e; omega)
theorem OwnI.more {y : α} (ho : w'.ownsRow B e size v' (l.length + 1) (itemsV vals l ++ vals y)) : OwnI vals size e B v' (l ++ [y]) w' := by
  refine ⟨?_⟩
  rw [List.length_append, List.length_singleton, itemsV_append, itemsV_one']
  exact ho
theorem OwnI.hi (h : OwnI vals size e B v l w) : ∀ k, v.ownBlock = some k → B ≤ k := fun k hk => (h.own.lt k hk).1
end
theorem Bx.tk {br bp n cap : Nat} {A : Option Addr} {l : List UInt8} {W w w' : World} {t : TypeId} {a a' : Nat} {sh sh' : Bool} {xs : Array Value} (h : Bx br bp A n cap l W t a sh xs w) (ho : BxOk br bp A) (ht : TakeIn br A n cap l w a' sh' w') : Bx br bp A n cap l W t a' sh' xs w' :=
  ⟨ht.1, (ht.2.block bp (lt_of_block h.box) (fun e => ho.ne e.symm)).trans h.box, h.ap.trans ht.2 (fun _ e => .inl (.inl e))⟩
/-- What turns new blocks only. -/
theorem Bx.apart {br bp n cap : Nat} {A : Option Addr} {l : List UInt8} {W w w' : World} {t : TypeId} {a : Nat} {sh : Bool} {xs : Array Value} {F : Nat → Prop} (h : Bx br bp A n cap l W t a sh xs w) (hbr : br < W.heap.size) (hbp : bp < W.heap.size) (hA : ∀ k, blockOf A = some k → k < W.heap.size) (ha : Apart F w w') (hF : ∀ k, F k → W.heap.size ≤ k) : Bx br bp A n cap l W t a sh xs w' :=
  ⟨h.rd.apart ha (fun e => by have := hF _ e; omega) (fun k hk e => by have := hA k hk; have := hF _ e; omega), (ha.block bp (lt_of_block h.box) (fun e => by have := hF _ e; omega)).trans h.box, h.ap.trans ha (fun k e => .inr (hF k e))⟩

theorem infoP : (Try.prog.info? 60).map (fun i => (i.zero, i.size, i.bytes)) = some (some (.agg #[.int .i64 0, .int .i64 0, .int .i64 0, .int .i64 0, .int .i64 0, .int .u8 0, .int .u8 0, .int .u8 0, .int .u8 0]), 9, 48) := by kernel_rfl
theorem infoQ : (Try.prog.info? 63).map (fun i => (i.zero, i.size, i.bytes)) = some (some (.agg #[.int .i64 0, .int .u8 0, .bool false, .int .i64 0, .int .i64 0, .int .i64 0]), 6, 40) := by kernel_rfl
theorem infoR : (Try.prog.info? 66).map (fun i => (i.zero, i.size, i.bytes)) = some (some (.agg #[.int .i64 0, .int .i64 0]), 2, 16) := by kernel_rfl

/-! ### Plain: how the loops go on -/
theorem partsD_true (l : List UInt8) (j a : Nat) : TableP.partsD l j a true = ([], a, true) := by cases j <;> simp [TableP.partsD]
theorem routesD_true (l : List UInt8) (j a : Nat) : TableP.routesD l j a true = ([], a, true) := by cases j <;> simp [TableP.routesD]
theorem portsD_true (l : List UInt8) (j i a : Nat) : TableP.portsD l j i a true = .inl ([], a, true) := by cases j <;> simp [TableP.portsD]
theorem partsD_step {l : List UInt8} {j a : Nat} {s : Bool} {x0 x1 x2 x3 x4 x5 x6 x7 x8 : WireP.Took} {ps : List TableP.Part} {D : List TableP.Part × Nat × Bool} (h0 : WireP.take l a s 1 = x0) (h1 : WireP.take l x0.at_ x0.short 4 = x1) (h2 : WireP.take l x1.at_ x1.short 4 = x2) (h3 : WireP.take l x2.at_ x2.short 1 = x3) (h4 : WireP.take l x3.at_ x3.short 1 = x4) (h5 : WireP.take l x4.at_ x4.short 1 = x5) (h6 : WireP.take l x5.at_ x5.short 1 = x6) (h7 : WireP.take l x6.at_ x6.short 1 = x7) (h8 : WireP.take l x7.at_ x7.short 1 = x8)
    (g2 : (TableP.partsD l (j + 1) a s).2 = D.2) (g3 : D.2.2 = false → ps ++ (TableP.partsD l (j + 1) a s).1 = D.1) : (TableP.partsD l j x8.at_ x8.short).2 = D.2 ∧ (D.2.2 = false → (ps ++ [⟨x0.n, x1.n, x2.n, x3.n, x4.n, x5.n, x6.n, x7.n, x8.n⟩]) ++ (TableP.partsD l j x8.at_ x8.short).1 = D.1) := by
  cases s with
  | false =>
    simp only [TableP.partsD, Bool.false_eq_true, if_false, h0, h1, h2, h3, h4, h5, h6, h7, h8] at g2 g3
    exact ⟨g2, fun h => by rw [← g3 h]; simp⟩
  | true =>
    simp only [TableP.partsD, if_true] at g2
    rw [take_true'] at h0
    subst h0
    rw [take_true'] at h1
    subst h1
    rw [take_true'] at h2
    subst h2
    rw [take_true'] at h3
    subst h3
    rw [take_true'] at h4
    subst h4
    rw [take_true'] at h5
    subst h5
    rw [take_true'] at h6
    subst h6
    rw [take_true'] at h7
    subst h7
    rw [take_true'] at h8
    subst h8
    refine ⟨by rw [partsD_true, ← g2], fun h => ?_⟩
    rw [← g2] at h
    cases h
theorem routesD_step {l : List UInt8} {j a : Nat} {s : Bool} {x0 x1 : WireP.Took} {ps : List TableP.Route} {D : List TableP.Route × Nat × Bool} (h0 : WireP.take l a s 1 = x0) (h1 : WireP.take l x0.at_ x0.short 1 = x1)
    (g2 : (TableP.routesD l (j + 1) a s).2 = D.2) (g3 : D.2.2 = false → ps ++ (TableP.routesD l (j + 1) a s).1 = D.1) : (TableP.routesD l j x1.at_ x1.short).2 = D.2 ∧ (D.2.2 = false → (ps ++ [⟨x0.n, x1.n⟩]) ++ (TableP.routesD l j x1.at_ x1.short).1 = D.1) := by
  cases s with
  | false =>
    simp only [TableP.routesD, Bool.false_eq_true, if_false, h0, h1] at g2 g3
    exact ⟨g2, fun h => by rw [← g3 h]; simp⟩
  | true =>
    simp only [TableP.routesD, if_true] at g2
    rw [take_true'] at h0
    subst h0
    rw [take_true'] at h1
    subst h1
    refine ⟨by rw [routesD_true, ← g2], fun h => ?_⟩
    rw [← g2] at h
    cases h
/-- What is left of the ports to be read, against what the whole comes to. -/
def PortsTo (ps : List TableP.Port) (r : (List TableP.Port × Nat × Bool) ⊕ (Nat × Nat)) (D : (List TableP.Port × Nat × Bool) ⊕ (Nat × Nat)) : Prop :=
  match r, D with
  | .inl x, .inl y => x.2 = y.2 ∧ (y.2.2 = false → ps ++ x.1 = y.1)
  | .inr x, .inr y => x = y
  | _, _ => False
theorem PortsTo.start (D : (List TableP.Port × Nat × Bool) ⊕ (Nat × Nat)) : PortsTo [] D D := by
  cases D <;> simp [PortsTo]
theorem portsD_bad {l : List UInt8} {j i a : Nat} {s : Bool} {x0 x1 x2 : WireP.Took} {ps : List TableP.Port} {D : (List TableP.Port × Nat × Bool) ⊕ (Nat × Nat)} (h0 : WireP.take l a s 1 = x0) (h1 : WireP.take l x0.at_ x0.short 1 = x1) (h2 : WireP.take l x1.at_ x1.short 1 = x2)
    (hb : 1 < x2.n) (g : PortsTo ps (TableP.portsD l (j + 1) i a s) D) : D = .inr (x2.at_, i) ∧ x2.short = false := by
  cases s with
  | true =>
    rw [take_true'] at h0
    subst h0
    rw [take_true'] at h1
    subst h1
    rw [take_true'] at h2
    subst h2
    simp at hb
  | false =>
    have hs : x2.short = false := by
      cases hx : x2.short with
      | false => rfl
      | true =>
        have h9 : x2.n = 0 := by
          rw [← h2] at hx ⊢
          unfold WireP.take at hx ⊢
          split at hx
          · rename_i hc
            rw [if_pos hc]
          · rename_i hc
            rw [if_neg hc]
            split at hx
            · rename_i hd
              rw [if_pos hd]
            · cases hx
        omega
    simp only [TableP.portsD, Bool.false_eq_true, if_false, h0, h1, h2] at g
    rw [if_pos ⟨hs, hb⟩] at g
    cases D with
    | inl y => exact g.elim
    | inr y => exact ⟨by rw [← (show (x2.at_, i) = y from g)], hs⟩
theorem portsD_step {l : List UInt8} {j i a : Nat} {s : Bool} {x0 x1 x2 x3 x4 x5 : WireP.Took} {ps : List TableP.Port} {D : (List TableP.Port × Nat × Bool) ⊕ (Nat × Nat)} (h0 : WireP.take l a s 1 = x0) (h1 : WireP.take l x0.at_ x0.short 1 = x1) (h2 : WireP.take l x1.at_ x1.short 1 = x2) (h3 : WireP.take l x2.at_ x2.short 1 = x3) (h4 : WireP.take l x3.at_ x3.short 1 = x4) (h5 : WireP.take l x4.at_ x4.short 1 = x5)
    (hb : ¬ 1 < x2.n) (g : PortsTo ps (TableP.portsD l (j + 1) i a s) D) : PortsTo (ps ++ [⟨x0.n, x1.n, x2.n == 1, x3.n, x4.n, x5.n⟩]) (TableP.portsD l j (i + 1) x5.at_ x5.short) D := by
  cases s with
  | true =>
    rw [take_true'] at h0
    subst h0
    rw [take_true'] at h1
    subst h1
    rw [take_true'] at h2
    subst h2
    rw [take_true'] at h3
    subst h3
    rw [take_true'] at h4
    subst h4
    rw [take_true'] at h5
    subst h5
    simp only [TableP.portsD, if_true] at g
    rw [portsD_true]
    cases D with
    | inr y => exact g.elim
    | inl y =>
      obtain ⟨g1, g2⟩ := g
      refine ⟨g1, fun h => ?_⟩
      rw [← g1] at h
      cases h
  | false =>
    simp only [TableP.portsD, Bool.false_eq_true, if_false, h0, h1, h2, h3, h4, h5] at g
    rw [if_neg (fun h => hb h.2)] at g
    cases hr : TableP.portsD l j (i + 1) x5.at_ x5.short with
    | inr e =>
      rw [hr] at g
      cases D with
      | inl y => exact g.elim
      | inr y => exact g
    | inl r =>
      rw [hr] at g
      cases D with
      | inr y => exact g.elim
      | inl y =>
        obtain ⟨g1, g2⟩ := g
        exact ⟨g1, fun h => by rw [← g2 h]; simp⟩
end Go.Proofs.Ytgceleipaiameaa
