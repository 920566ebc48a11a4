/- A Reader and a block that is read into (Bx); contracts of table's takeRoute, takePort, takePart. Conditions: where the Reader lies. -/
import Derived.Test.YtgceleipaiameaaTbP
import Derived.Deep.QuietTactic
namespace Go.Proofs.Ytgceleipaiameaa
open Go.RowKit
set_option maxRecDepth 100000

/-- The Reader in block br, what is read into in block bp; all else that was is as it was. -/
structure Bx (br bp : Nat) (A : Option Addr) (n cap : Nat) (l : List UInt8) (W : World) (t : TypeId) (a : Nat) (sh : Bool) (xs : Array Value) (w : World) : Prop where
  rd : ReaderAt w br A n cap l a sh
  box : w.heap[bp]? = some (.cells xs t (0, 0))
  ap : Apart (fun k => k = br ∨ k = bp) W w
structure BxOk (br bp : Nat) (A : Option Addr) : Prop where
  ne : br ≠ bp
  arr : blockOf A ≠ some bp
section
variable {br bp n cap : Nat} {A : Option Addr} {l : List UInt8} {W w w' : World} {t : TypeId} {a : Nat} {sh : Bool} {xs : Array Value}
theorem Bx.take (h : Bx br bp A n cap l W t a sh xs w) (ho : BxOk br bp A) (k : Int) :
    Calls Try.prog 52 #[.pointer (some ⟨br, 0, none⟩), .int .i64 k] w fun e w' => e = .returned (.int .u32 ((WireP.take l a sh k).n : Nat)) ∧ Bx br bp A n cap l W t (WireP.take l a sh k).at_ (WireP.take l a sh k).short xs w' ∧ Apart (RF br) w w' := by
  refine (take_any br A n cap l a sh k w h.rd).mono ?_
  rintro e w' ⟨rfl, h2, h3⟩
  exact ⟨rfl, ⟨h2, (h3.block bp (lt_of_block h.box) (fun e => ho.ne e.symm)).trans h.box, h.ap.trans h3 (fun _ e => .inl (.inl e))⟩, h3⟩
theorem Bx.store (h : Bx br bp A n cap l W t a sh xs w) (ho : BxOk br bp A) (i : Nat) (u : Value) : Bx br bp A n cap l W t a sh (xs.setIfInBounds i u) (w.setCell ⟨bp, i, none⟩ u) := by
  have h1 : Apart (fun k => k = bp) w (w.setCell ⟨bp, i, none⟩ u) := Apart.setCell (F := fun k => k = bp) (Apart.refl _ w) (p := ⟨bp, i, none⟩) (.inl rfl) u
  exact ⟨h.rd.apart h1 ho.ne (fun k hk e => ho.arr (by rw [hk, e])), heap_setCell_same w bp i _ _ u h.box, h.ap.trans h1 (fun _ e => .inl (.inr e))⟩
theorem Bx.drew (h : Bx br bp A n cap l W t a sh xs w) : Bx br bp A n cap l W t a sh xs w.drew := ⟨h.rd.drew, h.box, h.ap.drew⟩
theorem Bx.drewN (h : Bx br bp A n cap l W t a sh xs w) (m : Nat) : Bx br bp A n cap l W t a sh xs (w.drewN m) := ⟨h.rd.drewN m, h.box, h.ap.drewN m⟩
/-- take, into fields of the block; their addresses just laid. -/
theorem Bx.takes (h : Bx br bp A n cap l W t a sh xs w) (ho : BxOk br bp A) (s : Nat) (hs : s = 1 ∨ s = 4) (ps : List (Nat × Nat)) (hp : ∀ p ∈ ps, p.1 = bp ∧ p.2 < xs.size) (N NF fcap : Nat) (hN : ps.length = N) (hNF : NF = w.heap.size) (cs : Array Value) (tt : TypeId)
    (hcs : cs = (ps.map (fun p => Value.pointer (some ⟨p.1, p.2, none⟩))).toArray) (hN2 : N ≤ 1000) :
    Calls Try.prog 54 #[.pointer (some ⟨br, 0, none⟩), .int .i64 (s : Nat), .slice (some ⟨NF, 0, none⟩) N fcap] (w.alloc (.cells cs tt)) fun e w' => e = .returned (.tuple #[]) ∧ Bx br bp A n cap l W t (takesD l s N a sh).2.1 (takesD l s N a sh).2.2 (setAll bp ps (takesD l s N a sh).1 xs) w' := by
  have hbp := lt_of_block h.box
  have hbr := lt_of_block h.rd.block
  have hb2 : (w.alloc (.cells cs tt)).heap[bp]? = some (.cells xs t (0, 0)) := (Below.heap_alloc _ _ _ hbp).trans h.box
  have hFO : FieldsOk br A (w.alloc (.cells cs tt)) ps := ⟨fun p hq => by rw [(hp p hq).1]; exact fun e => ho.ne e.symm, fun p hq => by rw [(hp p hq).1]; exact ho.arr, fun p hq => by rw [(hp p hq).1]; exact ⟨xs, t, hb2, (hp p hq).2⟩⟩
  refine (takes_any br A n cap l a sh s hs ps N NF fcap hN (w.alloc (.cells cs tt)) (h.rd.below ((Below.refl _ _).alloc (Nat.le_refl _) _)) hFO cs tt (by rw [hNF]; exact heap_alloc_new w _) hcs ?_ hN2).mono ?_
  · rintro (e | ⟨p, hq, e⟩)
    · omega
    · rw [(hp p hq).1] at e; omega
  rintro e w' ⟨rfl, hT⟩
  have hvl : (takesD l s N a sh).1.length = N := by
    have key : ∀ (k a : Nat) (sh : Bool), (takesD l s k a sh).1.length = k := fun k => by
      induction k with
      | zero => intro _ _; rfl
      | succ k ih => intro a sh; simp [takesD, ih]
    exact key N a sh
  refine ⟨rfl, hT.rd, ?_, ?_⟩
  · rcases Nat.eq_zero_or_pos N with h0 | h0
    · have e0 : ps = [] := List.eq_nil_of_length_eq_zero (by omega)
      subst e0
      refine (hT.ap.block bp (by simp; omega) ?_).trans ?_
      · rintro (e | ⟨p, hq, _⟩)
        · exact ho.ne e.symm
        · cases hq
      · have : setAll bp [] (takesD l s N a sh).1 xs = xs := by cases (takesD l s N a sh).1 <;> rfl
        rw [this]
        exact hb2
    · obtain ⟨p, hq⟩ : ∃ p, p ∈ ps := by
        cases ps with
        | nil => simp at hN; omega
        | cons p r => exact ⟨p, by simp⟩
      have h9 := hT.box bp xs t ⟨p, hq, (hp p hq).1⟩ hb2
      rwa [hvl, List.take_of_length_le (by omega)] at h9
  · refine (h.ap.alloc _).trans hT.ap ?_
    rintro k (e | ⟨p, hq, e⟩)
    · exact .inl (.inl e)
    · exact .inl (.inr (by rw [← e, (hp p hq).1]))
/-- What was made for the reading is let go. -/
theorem Bx.done {W0 : World} {o : Obj} (h : Bx br bp A n cap l (W0.alloc o) t a sh xs w) (hbp : bp = W0.heap.size) : TakeIn br A n cap l W0 a sh w :=
  ⟨h.rd, ((Apart.refl _ W0).alloc o).trans h.ap (fun k e => by
    rcases e with e | e
    · exact .inl e
    · exact .inr (by omega))⟩
end
theorem Bx.start {br n cap : Nat} {A : Option Addr} {l : List UInt8} {w : World} {t : TypeId} {a : Nat} {sh : Bool} {xs : Array Value} (h : ReaderAt w br A n cap l a sh) : Bx br w.heap.size A n cap l (w.alloc (.cells xs t)) t a sh xs (w.alloc (.cells xs t)) :=
  ⟨h.below ((Below.refl _ _).alloc (Nat.le_refl _) _), heap_alloc_new w _, Apart.refl _ _⟩
theorem BxOk.start {br n cap : Nat} {A : Option Addr} {l : List UInt8} {w : World} {a : Nat} {sh : Bool} (h : ReaderAt w br A n cap l a sh) (hA : ∀ k, blockOf A = some k → k < w.heap.size) : BxOk br w.heap.size A :=
  ⟨fun e => by have := lt_of_block h.block; omega, fun e => by have := hA _ e; omega⟩

/-- Behind a result's box and a variable's. -/
theorem Bx.start2 {br n cap : Nat} {A : Option Addr} {l : List UInt8} {w : World} {t : TypeId} {a : Nat} {sh : Bool} {xs : Array Value} {o : Obj} (h : ReaderAt w br A n cap l a sh) : Bx br (w.heap.size + 1) A n cap l ((w.alloc o).alloc (.cells xs t)) t a sh xs ((w.alloc o).alloc (.cells xs t)) := by
  have := Bx.start (xs := xs) (t := t) (h.alloc o)
  simpa using this
theorem BxOk.start2 {br n cap : Nat} {A : Option Addr} {l : List UInt8} {w : World} {a : Nat} {sh : Bool} (h : ReaderAt w br A n cap l a sh) (hA : ∀ k, blockOf A = some k → k < w.heap.size) : BxOk br (w.heap.size + 1) A :=
  ⟨fun e => by have := lt_of_block h.block; omega, fun e => by have := hA _ e; omega⟩
section
variable {br n cap : Nat} {A : Option Addr} {l : List UInt8} {W0 w : World} {t : TypeId} {a : Nat} {sh : Bool} {xs : Array Value} {o1 o2 : Obj}
theorem Bx.res (h : Bx br (W0.heap.size + 1) A n cap l ((W0.alloc o1).alloc o2) t a sh xs w) (hbr : br < W0.heap.size) : w.heap[W0.heap.size]? = some o1 := by
  refine (h.ap.block W0.heap.size (by simp; omega) (fun e => by omega)).trans ?_
  exact (Below.heap_alloc _ _ _ (by simp)).trans (heap_alloc_new W0 o1)
theorem Bx.fin (h : Bx br (W0.heap.size + 1) A n cap l ((W0.alloc o1).alloc o2) t a sh xs w) (hbr : br < W0.heap.size) (hA : ∀ k, blockOf A = some k → k < W0.heap.size) (vs : List Value) (i : Nat) : TakeIn br A n cap l W0 a sh (storeAll w W0.heap.size vs i) := by
  have h1 := storeAll_apart W0.heap.size vs i w
  refine ⟨h.rd.apart h1 (fun e => by omega) (fun k hk e => by have := hA k hk; omega), ?_⟩
  refine ((((Apart.refl _ W0).alloc o1).alloc o2).trans h.ap (F := RF br) (fun k e => ?_)).trans h1 (fun k e => .inr (Nat.le_of_eq e.symm))
  rcases e with e | e
  · exact .inl e
  · exact .inr (by omega)
end

set_option maxHeartbeats 1000000 in
theorem takeRoute_any (br : Nat) (A : Option Addr) (n cap : Nat) (l : List UInt8) (a : Nat) (s : Bool) (w : World) (h : ReaderAt w br A n cap l a s) (hA : ∀ k, blockOf A = some k → k < w.heap.size) (x0 x1 : WireP.Took) (h0 : WireP.take l a s 1 = x0) (h1 : WireP.take l x0.at_ x0.short 1 = x1) :
    Calls Try.prog 57 #[.pointer (some ⟨br, 0, none⟩)] w (fun e w' => e = .returned (.agg (routeVals ⟨x0.n, x1.n⟩).toArray) ∧ TakeIn br A n cap l w x1.at_ x1.short w') := by
  have HS : Hid (∀ o xs t, Bx br (w.heap.size + 1) A n cap l ((w.alloc o).alloc (.cells xs t)) t a s xs ((w.alloc o).alloc (.cells xs t))) := Lib.hid fun o xs t => Bx.start2 h
  have HO := Lib.hid (BxOk.start2 h hA)
  have hbr := h.lt
  have HA := Lib.hid hA
  have HD : Hid (takesD l ((1 : Nat) : Int) 2 a s = ([x0.n, x1.n], x1.at_, x1.short)) := Lib.hid (by
    show takesD l 1 2 a s = _
    simp only [takesD, h0, h1])
  simp only [routeVals]
  clear h hA h0 h1
  go_enter Try.func57, Try.ntmps57
  go_wp2_with fail
  refine Calls.mono ((HS.out _ _ _).takes HO.out 1 ?hs1 [(w.heap.size + 1, 0), (w.heap.size + 1, 1)] ?hp1 2 _ _ ?hn1 ?hN1 _ _ ?hc1 ?hz1) ?hr1
  case hs1 => omega
  case hp1 => simp
  case hn1 => rfl
  case hN1 => simp
  case hc1 => rfl
  case hz1 => omega
  rintro e w1 ⟨rfl, hb1⟩
  rw [HD.out] at hb1
  simp [setAll] at hb1
  have HB1 := Lib.hid hb1
  have k0 := cell_at hb1.box 0 rfl
  have k1 := cell_at hb1.box 1 rfl
  have hres := hb1.res hbr
  have Hres := Lib.hid hres
  have r0 := cell_at hres 0 rfl
  have r1 := cell_at hres 1 rfl
  have f := fun i => free_at hres i
  clear hb1 hres
  go_wp2_with fail
  clear k0 k1 r0 r1 f
  show bodyPost _ _ _ _ _ (storeAll w1 w.heap.size (routeVals ⟨x0.n, x1.n⟩) 0)
  have hfin := storeAll_heap (b := w.heap.size) (routeVals ⟨x0.n, x1.n⟩) 0 w1 [] [_, _] Hres.out rfl rfl
  have HF := Lib.hid (HB1.out.fin hbr HA.out (routeVals ⟨x0.n, x1.n⟩) 0)
  generalize storeAll w1 w.heap.size (routeVals ⟨x0.n, x1.n⟩) 0 = Wf at *
  rw [List.nil_append] at hfin
  have r0 := cell_at hfin 0 rfl
  have r1 := cell_at hfin 1 rfl
  refine bodyPost_ret (v := .agg (routeVals ⟨x0.n, x1.n⟩).toArray) (by simp [results, Try.results57, go_sem, r0, r1, routeVals]) rfl ?_
  exact ⟨rfl, HF.out⟩
end Go.Proofs.Ytgceleipaiameaa
