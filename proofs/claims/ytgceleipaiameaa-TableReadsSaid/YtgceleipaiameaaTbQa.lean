/- Contract of the document's some: so many numbers. Conditions: where the Reader lies; at most 100 numbers, of one or of four bytes. · The document's reading of tables, in parts: the state, some of so many, what is read at the mark. Conditions: those that each states. · The document's reading of tables at another mark. Conditions: where the Reader lies. -/
import Derived.Test.YtgceleipaiameaaTbP
import Derived.Test.YtgceleipaiameaaWirN
import Derived.Deep.OwnRows
import Derived.Test.YtgceleipaiameaaTbV
import Derived.Test.YtgceleipaiameaaTxtO
import Derived.StillTailTactics
import Derived.Deep.DeepCutAuto
namespace Go.Proofs.Ytgceleipaiameaa
open Go.RowKit
set_option maxRecDepth 100000

theorem infoI : (Try.prog.info? 3).map (fun i => (i.zero, i.size, i.bytes)) = some (some (.int .i64 0), 1, 8) := by kernel_rfl
def numV (v : Nat) : Value := .int .i64 (v : Nat)
theorem made_list (z : Value) (n : Nat) : madeCells #[z] n = (List.replicate n z).toArray := by
  apply Array.ext
  · simp [madeCells]
  · intro i h1 h2
    simp [madeCells]
    have : i % 1 = 0 := Nat.mod_one i
    simp [this]
theorem set_snoc (vs : List Nat) (j x : Nat) (z : Value) : ((vs.map numV ++ List.replicate (j + 1) z).toArray.setIfInBounds vs.length (.int .i64 (x : Nat))) = ((vs ++ [x]).map numV ++ List.replicate j z).toArray := by
  simp only [List.setIfInBounds_toArray, List.map_append, List.map_cons, List.map_nil, List.append_assoc]
  congr 1
  rw [List.set_append_right _ _ (by simp)]
  simp [List.replicate_succ, numV]
def SomeRel (rr : Nat) (A : Option Addr) (n cap : Nat) (l : List UInt8) (s : Int) (N : Nat) (D : List Nat × Nat × Bool) (W : World) (i : Value) (w : World) : Prop :=
  ∃ vs a sh, vs.length ≤ N ∧ i = .int .i64 (vs.length : Nat) ∧ RefAt w rr A n cap l a sh ∧ w.heap[W.heap.size]? = some (.cells (vs.map numV ++ List.replicate (N - vs.length) (Value.int .i64 0)).toArray 3 (0, 0)) ∧ Apart (RF rr) W w ∧ D = (vs ++ (takesD l s (N - vs.length) a sh).1, (takesD l s (N - vs.length) a sh).2)
/-- What some answers. -/
def SomePost (rr : Nat) (A : Option Addr) (n cap : Nat) (l : List UInt8) (N : Nat) (D : List Nat × Nat × Bool) (w : World) (e : Ending) (w' : World) : Prop :=
  e = .returned (.slice (some ⟨w.heap.size, 0, none⟩) N N) ∧ w'.heap[w.heap.size]? = some (.cells (D.1.map numV).toArray 3 (0, 0)) ∧ RefAt w' rr A n cap l D.2.1 D.2.2 ∧ Apart (RF rr) w w'

set_option maxHeartbeats 1000000 in
theorem some_any (rr : Nat) (A : Option Addr) (n cap : Nat) (l : List UInt8) (a : Nat) (sh : Bool) (s : Nat) (hs : s = 1 ∨ s = 4) (N : Nat) (hN : N ≤ 100) (w : World) (h : RefAt w rr A n cap l a sh) :
    Calls Try.prog 59 #[.pointer (some ⟨rr, 0, none⟩), .int .i64 (s : Nat), .int .i64 (N : Nat)] w (SomePost rr A n cap l N (takesD l s N a sh) w) := by
  have hrl : rr < w.heap.size := lt_of_block h.block
  have h0 : Hid (SomeRel rr A n cap l s N (takesD l s N a sh) w (.int .i64 0) (w.alloc (.cells (madeCells #[.int .i64 0] N) 3))) := Lib.hid ⟨[], a, sh, Nat.zero_le _, rfl, h.below ((Below.refl _ _).alloc (Nat.le_refl _) _), by rw [made_list]; simpa using heap_alloc_new w (.cells (List.replicate N (.int .i64 0)).toArray 3), (Apart.refl _ _).alloc _, by simp⟩
  have hmk := fun W => run_make_row' (P := Try.prog) 53 3 (.int .i64 0) 8 Try.underlying53 infoI rfl .i64 .i64 N (by omega) (by omega) W
  have HQ : Hid (0 < l.length → ∀ k, blockOf A = some k → k < w.heap.size) := Lib.hid fun hl k hk => by
    obtain ⟨b, o, e2, hb, _⟩ := h.bytes hl
    rw [e2] at hk
    have e3 : b = k := Option.some.inj hk
    omega
  generalize takesD l s N a sh = D at *
  clear h
  go_enter Try.func59, Try.ntmps59
  go_wp2_with fail
  clear hmk
  go_loopw [8] (SomeRel rr A n cap l s N D w) (fun i _ => (N + 1 - intOf i).toNat)
  case atStart => exact h0.out
  case round =>
    clear h0
    obtain ⟨vs, a2, sh2, hk, rfl, hr, hbx, hap, hD⟩ := hrel
    by_cases hlt : vs.length < N
    · obtain ⟨x, hx⟩ : ∃ x, WireP.take l a2 sh2 s = x := ⟨_, rfl⟩
      have hx4 : x.n < 4294967296 := by
        rw [← hx]
        rcases hs with rfl | rfl
        · have := take_lt l a2 sh2 1; omega
        · have := take_lt l a2 sh2 4; omega
      have Hst := Lib.hid (takesD_step hlt hx hD)
      have HTk := Lib.hid (reftake_any rr A n cap l a2 sh2 s wr hr)
      rw [hx] at HTk
      have hwx : IntKind.i64.wrap (x.n : Int) = x.n := IntWalk.i64_in _ (by omega)
      have Hbx := Lib.hid hbx
      have Hap := Lib.hid hap
      clear hx hr hD hbx hap
      go_wp2_with fail
      refine HTk.out.mono ?_
      rintro e w2 ⟨rfl, hr2, ha2⟩
      have hbx2 := (ha2.block w.heap.size (lt_of_block Hbx.out) (fun e => by have e : w.heap.size = rr := e; omega)).trans Hbx.out
      have kv : w2.cell? ⟨w.heap.size, vs.length, none⟩ = some (.int .i64 0) := cell_at hbx2 vs.length (by
        obtain ⟨j, hj⟩ : ∃ j, N - vs.length = j + 1 := ⟨N - vs.length - 1, by omega⟩
        rw [hj]; simp [List.replicate_succ])
      have kf := free_at hbx2 vs.length
      have hset := heap_setCell_same w2 w.heap.size vs.length _ _ (.int .i64 (x.n : Nat)) hbx2
      have hbx3 : (w2.setCell ⟨w.heap.size, vs.length, none⟩ (.int .i64 (x.n : Nat))).heap[w.heap.size]? = some (.cells ((vs ++ [x.n]).map numV ++ List.replicate (N - (vs ++ [x.n]).length) (Value.int .i64 0)).toArray 3 (0, 0)) := by
        rw [hset]
        obtain ⟨j, hj⟩ : ∃ j, N - vs.length = j + 1 := ⟨N - vs.length - 1, by omega⟩
        rw [hj, set_snoc, List.length_append, List.length_singleton, show N - (vs.length + 1) = j by omega]
      have hst : Apart (fun k => k = w.heap.size) w2 (w2.setCell ⟨w.heap.size, vs.length, none⟩ (.int .i64 (x.n : Nat))) := Apart.setCell (F := fun k => k = w.heap.size) (Apart.refl _ w2) (p := ⟨w.heap.size, vs.length, none⟩) (.inl rfl) _
      have HR3 : Hid (RefAt (w2.setCell ⟨w.heap.size, vs.length, none⟩ (.int .i64 (x.n : Nat))) rr A n cap l x.at_ x.short) := Lib.hid (hr2.apart hst (fun e => by omega) (fun hl k hk e => by
        have hb := (HQ.out hl k hk)
        omega))
      have HA3 := Lib.hid ((Hap.out.trans ha2 (fun _ e => .inl e)).trans hst (fun k e => .inr (Nat.le_of_eq e.symm)))
      have HB3 := Lib.hid hbx3
      clear hbx3 hset hst hbx2 hr2 ha2
      go_wp2_with fail
      go_roundw
      case rel => exact ⟨vs ++ [x.n], x.at_, x.short, by simp; omega, by rw [List.length_append]; go_num, HR3.out, HB3.out, HA3.out, Hst.out⟩
      case measure => simp [intOf]; omega
    · have hkn : N = vs.length := by omega
      have HF : Hid (SomePost rr A n cap l N D w (.returned (.slice (some ⟨w.heap.size, 0, none⟩) N N)) wr) := Lib.hid (by
        rw [hkn, Nat.sub_self] at hD hbx
        simp only [takesD, List.append_nil] at hD
        simp only [List.replicate_zero, List.append_nil] at hbx
        subst hD
        exact ⟨rfl, hbx, hr, hap⟩)
      clear hr hbx hap hD
      go_wp2_with fail
      go_ret
      exact HF.out
end Go.Proofs.Ytgceleipaiameaa
namespace Go.Proofs.Ytgceleipaiameaa
open Go.RowKit
set_option maxRecDepth 100000

/-- The numbers that some hands back, written out. -/
def SomeIs (rr : Nat) (A : Option Addr) (n cap : Nat) (l : List UInt8) (N : Nat) (cs : Array Value) (a : Nat) (s : Bool) (w : World) (e : Ending) (w' : World) : Prop :=
  e = .returned (.slice (some ⟨w.heap.size, 0, none⟩) N N) ∧ w'.heap[w.heap.size]? = some (.cells cs 3 (0, 0)) ∧ RefAt w' rr A n cap l a s ∧ Apart (RF rr) w w'
section
variable {rr n cap : Nat} {A : Option Addr} {l : List UInt8} {a : Nat} {sh : Bool} {w : World} {x0 x1 x2 x3 x4 x5 : WireP.Took}
theorem some2_any (s : Nat) (hs : s = 1 ∨ s = 4) (h : RefAt w rr A n cap l a sh) (h0 : WireP.take l a sh s = x0) (h1 : WireP.take l x0.at_ x0.short s = x1) :
    Calls Try.prog 59 #[.pointer (some ⟨rr, 0, none⟩), .int .i64 (s : Nat), .int .i64 2] w (SomeIs rr A n cap l 2 #[.int .i64 (x0.n : Nat), .int .i64 (x1.n : Nat)] x1.at_ x1.short w) := by
  have h9 := some_any rr A n cap l a sh s hs 2 (by omega) w h
  refine h9.mono fun e w' hp => ?_
  obtain ⟨p1, p2, p3, p4⟩ := hp
  simp only [takesD, h0, h1] at p2 p3
  exact ⟨p1, p2, p3, p4⟩
theorem some3_any (s : Nat) (hs : s = 1 ∨ s = 4) (h : RefAt w rr A n cap l a sh) (h0 : WireP.take l a sh s = x0) (h1 : WireP.take l x0.at_ x0.short s = x1) (h2 : WireP.take l x1.at_ x1.short s = x2) :
    Calls Try.prog 59 #[.pointer (some ⟨rr, 0, none⟩), .int .i64 (s : Nat), .int .i64 3] w (SomeIs rr A n cap l 3 #[.int .i64 (x0.n : Nat), .int .i64 (x1.n : Nat), .int .i64 (x2.n : Nat)] x2.at_ x2.short w) := by
  have h9 := some_any rr A n cap l a sh s hs 3 (by omega) w h
  refine h9.mono fun e w' hp => ?_
  obtain ⟨p1, p2, p3, p4⟩ := hp
  simp only [takesD, h0, h1, h2] at p2 p3
  exact ⟨p1, p2, p3, p4⟩
theorem some6_any (s : Nat) (hs : s = 1 ∨ s = 4) (h : RefAt w rr A n cap l a sh) (h0 : WireP.take l a sh s = x0) (h1 : WireP.take l x0.at_ x0.short s = x1) (h2 : WireP.take l x1.at_ x1.short s = x2) (h3 : WireP.take l x2.at_ x2.short s = x3) (h4 : WireP.take l x3.at_ x3.short s = x4) (h5 : WireP.take l x4.at_ x4.short s = x5) :
    Calls Try.prog 59 #[.pointer (some ⟨rr, 0, none⟩), .int .i64 (s : Nat), .int .i64 6] w (SomeIs rr A n cap l 6 #[.int .i64 (x0.n : Nat), .int .i64 (x1.n : Nat), .int .i64 (x2.n : Nat), .int .i64 (x3.n : Nat), .int .i64 (x4.n : Nat), .int .i64 (x5.n : Nat)] x5.at_ x5.short w) := by
  have h9 := some_any rr A n cap l a sh s hs 6 (by omega) w h
  refine h9.mono fun e w' hp => ?_
  obtain ⟨p1, p2, p3, p4⟩ := hp
  simp only [takesD, h0, h1, h2, h3, h4, h5] at p2 p3
  exact ⟨p1, p2, p3, p4⟩
end

/-- The Reader in block rr, the result's box z, the numbers' block nn, the tables' box bc; all else that was is as it was. -/
structure RB (rr z nn bc : Nat) (A : Option Addr) (n cap : Nat) (l : List UInt8) (W : World) (B a : Nat) (s : Bool) (cs fv : Array Value) (w : World) : Prop where
  rd : RefAt w rr A n cap l a s
  ap : Apart (RF rr) W w
  zb : w.heap[z]? = some (.cells #[.int .i64 0, .int .i64 0, .int .i64 0, .int .i64 0, .int .i64 0, .int .i64 0, .int .i64 0, .int .i64 0, .slice none 0 0, .slice none 0 0, .slice none 0 0] 26 (0, 0))
  nb : w.heap[nn]? = some (.cells cs 3 (0, 0))
  cb : w.heap[bc]? = some (.cells fv 26 (0, 0))
  sz : B ≤ w.heap.size
structure RBOk (rr z nn bc : Nat) (A : Option Addr) (l : List UInt8) (W : World) (B : Nat) : Prop where
  rlt : rr < W.heap.size
  zlo : W.heap.size ≤ z
  nlo : W.heap.size ≤ nn
  clo : W.heap.size ≤ bc
  zc : z ≠ bc
  nc : nn ≠ bc
  zB : z < B
  nB : nn < B
  cB : bc < B
  arr : 0 < l.length → ∀ k, blockOf A = some k → k < W.heap.size
section
variable {rr z nn bc n cap : Nat} {A : Option Addr} {l : List UInt8} {W w w' : World} {B a a' : Nat} {s s' : Bool} {cs fv : Array Value}
theorem RB.tr (h : RB rr z nn bc A n cap l W B a s cs fv w) (ho : RBOk rr z nn bc A l W B) (hr : RefAt w' rr A n cap l a' s') (ha : Apart (RF rr) w w') : RB rr z nn bc A n cap l W B a' s' cs fv w' := by
  have h1 := ho.rlt
  have h2 := ho.zlo
  have h3 := ho.nlo
  have h4 := ho.clo
  exact ⟨hr, h.ap.trans ha (fun _ e => .inl e), (ha.block z (lt_of_block h.zb) (fun e => by have e : z = rr := e; omega)).trans h.zb, (ha.block nn (lt_of_block h.nb) (fun e => by have e : nn = rr := e; omega)).trans h.nb, (ha.block bc (lt_of_block h.cb) (fun e => by have e : bc = rr := e; omega)).trans h.cb, Nat.le_trans h.sz ha.size⟩
theorem RB.new (h : RB rr z nn bc A n cap l W B a s cs fv w) (ho : RBOk rr z nn bc A l W B) {F : Nat → Prop} (ha : Apart F w w') (hF : ∀ k, F k → B ≤ k) : RB rr z nn bc A n cap l W B a s cs fv w' := by
  have h1 := ho.rlt
  have h2 := ho.zlo
  have h3 := ho.nlo
  have h4 := ho.clo
  have h5 := ho.zB
  have h6 := ho.nB
  have h7 := ho.cB
  have ne : ∀ k, k < B → ¬ F k := fun k hk e => by have := hF k e; omega
  exact ⟨h.rd.apart ha (ne rr (by omega)) (fun hl k hk => ne k (by have := ho.arr hl k hk; omega)), h.ap.trans ha (fun k e => .inr (by have := hF k e; omega)), (ha.block z (lt_of_block h.zb) (ne z h5)).trans h.zb, (ha.block nn (lt_of_block h.nb) (ne nn h6)).trans h.nb, (ha.block bc (lt_of_block h.cb) (ne bc h7)).trans h.cb, Nat.le_trans h.sz ha.size⟩
theorem RB.store (h : RB rr z nn bc A n cap l W B a s cs fv w) (ho : RBOk rr z nn bc A l W B) (i : Nat) (u : Value) : RB rr z nn bc A n cap l W B a s cs (fv.setIfInBounds i u) (w.setCell ⟨bc, i, none⟩ u) := by
  have h1 := ho.rlt
  have h4 := ho.clo
  have ha : Apart (fun k => k = bc) w (w.setCell ⟨bc, i, none⟩ u) := Apart.setCell (F := fun k => k = bc) (Apart.refl _ w) (p := ⟨bc, i, none⟩) (.inl rfl) u
  exact ⟨h.rd.apart ha (fun e => by have e : rr = bc := e; omega) (fun hl k hk e => by have e : k = bc := e; have := ho.arr hl k hk; omega), h.ap.trans ha (fun k e => .inr (by have e : k = bc := e; omega)), (ha.block z (lt_of_block h.zb) (fun e => ho.zc e)).trans h.zb, (ha.block nn (lt_of_block h.nb) (fun e => ho.nc e)).trans h.nb, heap_setCell_same w bc i _ _ u h.cb, Nat.le_trans h.sz ha.size⟩
theorem RB.drew (h : RB rr z nn bc A n cap l W B a s cs fv w) (ho : RBOk rr z nn bc A l W B) : RB rr z nn bc A n cap l W B a s cs fv w.drew :=
  h.new ho (F := fun _ => False) (Apart.refl _ w).drew (fun _ h => h.elim)
end

/-- While a partition is read: its box bp; two rows of numbers. -/
structure PB (rr z nn bc : Nat) (A : Option Addr) (n cap : Nat) (l : List UInt8) (W : World) (B a : Nat) (s : Bool) (cs fv : Array Value) (v : Value) (ps : List TableP.Part) (bp : Nat) (xs : Array Value) (bx : Nat) (us : Array Value) (bv : Nat) (vs : Array Value) (w : World) : Prop where
  rb : RB rr z nn bc A n cap l W B a s cs fv w
  ow : OwnI partVals 9 60 B v ps w
  pb : w.heap[bp]? = some (.cells xs 60 (0, 0))
  xb : w.heap[bx]? = some (.cells us 3 (0, 0))
  yb : w.heap[bv]? = some (.cells vs 3 (0, 0))
structure PBOk (B : Nat) (v : Value) (bp bx bv : Nat) : Prop where
  lo : B ≤ bp
  px : bp < bx
  pv : bp < bv
  own : ∀ k, v.ownBlock = some k → k < bp
section
variable {rr z nn bc n cap : Nat} {A : Option Addr} {l : List UInt8} {W w w' : World} {B a a' : Nat} {s s' : Bool} {cs fv : Array Value} {v : Value} {ps : List TableP.Part} {bp bx bv : Nat} {xs us vs : Array Value}
theorem PB.store (h : PB rr z nn bc A n cap l W B a s cs fv v ps bp xs bx us bv vs w) (ho : RBOk rr z nn bc A l W B) (hp : PBOk B v bp bx bv) (i : Nat) (u : Value) : PB rr z nn bc A n cap l W B a s cs fv v ps bp (xs.setIfInBounds i u) bx us bv vs (w.setCell ⟨bp, i, none⟩ u) := by
  have h1 := hp.lo
  have h2 := hp.px
  have h3 := hp.pv
  have ha : Apart (fun k => k = bp) w (w.setCell ⟨bp, i, none⟩ u) := Apart.setCell (F := fun k => k = bp) (Apart.refl _ w) (p := ⟨bp, i, none⟩) (.inl rfl) u
  exact ⟨h.rb.new ho ha (fun k e => by omega), h.ow.new ha (fun k hk e => by have := hp.own k hk; omega), heap_setCell_same w bp i _ _ u h.pb, (ha.block bx (lt_of_block h.xb) (fun e => by have e : bx = bp := e; omega)).trans h.xb, (ha.block bv (lt_of_block h.yb) (fun e => by have e : bv = bp := e; omega)).trans h.yb⟩
theorem PB.drew (h : PB rr z nn bc A n cap l W B a s cs fv v ps bp xs bx us bv vs w) (ho : RBOk rr z nn bc A l W B) : PB rr z nn bc A n cap l W B a s cs fv v ps bp xs bx us bv vs w.drew :=
  ⟨h.rb.drew ho, h.ow.new (F := fun _ => False) (Apart.refl _ w).drew (fun _ _ h => h), h.pb, h.xb, h.yb⟩
end

/-- How far the partitions are read. -/
def RefPRel (rr z nn bc : Nat) (A : Option Addr) (n cap : Nat) (l : List UInt8) (W : World) (B : Nat) (cs : Array Value) (X : Value → Array Value) (N : Nat) (D : List TableP.Part × Nat × Bool) (i : Value) (w : World) : Prop :=
  ∃ k ps v a s, k ≤ N ∧ i = .int .i64 (k : Nat) ∧ RB rr z nn bc A n cap l W B a s cs (X v) w ∧ OwnI partVals 9 60 B v ps w ∧ ps.length = k ∧ (TableP.partsD l (N - k) a s).2 = D.2 ∧ (D.2.2 = false → ps ++ (TableP.partsD l (N - k) a s).1 = D.1) ∧ ∃ Av cv, v = .slice Av k cv
def RefQRel (rr z nn bc : Nat) (A : Option Addr) (n cap : Nat) (l : List UInt8) (W : World) (B : Nat) (cs : Array Value) (X : Value → Array Value) (vP : Value) (ps : List TableP.Part) (N : Nat) (D : (List TableP.Port × Nat × Bool) ⊕ (Nat × Nat)) (i : Value) (w : World) : Prop :=
  ∃ k qs v a s, k ≤ N ∧ i = .int .i64 (k : Nat) ∧ RB rr z nn bc A n cap l W B a s cs (X v) w ∧ OwnI partVals 9 60 B vP ps w ∧ OwnI portVals 6 63 B v qs w ∧ (∀ b, vP.ownBlock = some b → v.ownBlock ≠ some b) ∧ qs.length = k ∧ PortsTo qs (TableP.portsD l (N - k) k a s) D ∧ ∃ Av cv, v = .slice Av k cv
def RefRRel (rr z nn bc : Nat) (A : Option Addr) (n cap : Nat) (l : List UInt8) (W : World) (B : Nat) (cs : Array Value) (X : Value → Array Value) (vP : Value) (ps : List TableP.Part) (vQ : Value) (qs : List TableP.Port) (N : Nat) (D : List TableP.Route × Nat × Bool) (i : Value) (w : World) : Prop :=
  ∃ k rs v a s, k ≤ N ∧ i = .int .i64 (k : Nat) ∧ RB rr z nn bc A n cap l W B a s cs (X v) w ∧ OwnI partVals 9 60 B vP ps w ∧ OwnI portVals 6 63 B vQ qs w ∧ OwnI routeVals 2 66 B v rs w ∧ (∀ b, vP.ownBlock = some b → v.ownBlock ≠ some b) ∧ (∀ b, vQ.ownBlock = some b → v.ownBlock ≠ some b) ∧ rs.length = k ∧ (TableP.routesD l (N - k) a s).2 = D.2 ∧ (D.2.2 = false → rs ++ (TableP.routesD l (N - k) a s).1 = D.1) ∧ ∃ Av cv, v = .slice Av k cv

/-- What read answers. -/
def RefStop (rr : Nat) (A : Option Addr) (n cap : Nat) (l : List UInt8) (t : List UInt8) (a : Nat) (w : World) (e : Ending) (w' : World) : Prop :=
  e = .returned (.tuple #[zeroCC.value, strV t]) ∧ RefAt w' rr A n cap l a false ∧ Apart (RF rr) w w'
def RefAll (rr : Nat) (A : Option Addr) (n cap : Nat) (l : List UInt8) (C : TableP.Cfg) (a : Nat) (s : Bool) (w : World) (e : Ending) (w' : World) : Prop :=
  ∃ x : CfgC, e = .returned (.tuple #[x.value, .string ⟨#[]⟩]) ∧ RefAt w' rr A n cap l a s ∧ Apart (RF rr) w w' ∧ CfgIn w' x ∧ CfgHi w.heap.size x ∧ (s = false → x.plain = C)
def RefRestPost (rr : Nat) (A : Option Addr) (n cap : Nat) (l : List UInt8) (x0 x1 x2 x3 x4 x5 x6 x7 n2 : Nat) (DP : List TableP.Part × Nat × Bool) (DQ : (List TableP.Port × Nat × Bool) ⊕ (Nat × Nat)) (w : World) (e : Ending) (w' : World) : Prop :=
  match DQ with
  | .inr (p, i) => RefStop rr A n cap l (atT 8 (i : Nat)) p w e w'
  | .inl (qs, a1, s1) => RefAll rr A n cap l ⟨x0, x1, x2, x3, x4, x5, x6, x7, DP.1, qs, (TableP.routesD l n2 a1 s1).1⟩ (TableP.routesD l n2 a1 s1).2.1 (TableP.routesD l n2 a1 s1).2.2 w e w'

theorem zero_same2 {w : World} {b : Nat} {cs : Array Value} (h : w.heap[b]? = some (.cells cs 26 (0, 0))) (hs : cs.size = 11) (vs : List Value) (hv : vs.length = 11) : (storeAll w b vs 0).heap[b]? = some (.cells vs.toArray 26 (0, 0)) := by
  have := storeAll_heap (t := 26) vs 0 w [] cs.toList (by simpa using h) rfl (by simp [hs, hv])
  simpa using this
end Go.Proofs.Ytgceleipaiameaa
namespace Go.Proofs.Ytgceleipaiameaa
open Go.RowKit
set_option maxRecDepth 100000

set_option maxHeartbeats 2000000 in
theorem refread_kind (rr : Nat) (A : Option Addr) (n cap : Nat) (l : List UInt8) (w : World) (h : RefAt w rr A n cap l 0 false) (m : WireP.Took) (hm : WireP.take l 0 false 4 = m) (hs : m.short = false) (hk : m.n ≠ TableP.magic) :
    Calls Try.prog 42 #[.pointer (some ⟨rr, 0, none⟩)] w (RefStop rr A n cap l (atT 7 0) m.at_ w) := by
  have hrl : rr < w.heap.size := lt_of_block h.block
  have HQ : Hid (0 < l.length → ∀ k, blockOf A = some k → k < w.heap.size) := Lib.hid fun hl k hk => by
    obtain ⟨b, o, e2, hb, _⟩ := h.bytes hl
    rw [e2] at hk
    have e3 : b = k := Option.some.inj hk
    omega
  have HT := Lib.hid (fun o => reftake_any rr A n cap l 0 false 4 (w.alloc o) (h.below ((Below.refl _ _).alloc (Nat.le_refl _) o)))
  rw [hm] at HT
  have q1 : ((m.n : Int) != 1163084593) = true := by rw [bne_iff_ne]; unfold TableP.magic at hk; omega
  have HA := Lib.hid (fun W => at_any 7 0 W (by omega) (by omega))
  unfold RefStop
  generalize atT 7 0 = T7 at *
  unfold strV at *
  have Hs := Lib.hid hs
  clear h hm hs hk
  go_enter Try.func42, Try.ntmps42
  go_wp2_with fail
  refine (HT.out _).mono ?_
  rintro e w1 ⟨rfl, hr1, ha1⟩
  rw [Hs.out] at hr1
  obtain ⟨r0, r1, r2, -, -, -⟩ := three_cells hr1.block
  have he : errText false m.at_ = [] := rfl
  rw [he] at r2
  simp only [strV] at r2
  have hbz1 := (ha1.block w.heap.size (by simp) (fun e => by have e : w.heap.size = rr := e; omega)).trans (heap_alloc_new w _)
  have hz1 : w.heap.size < w1.heap.size := lt_of_block hbz1
  have Hbz := Lib.hid hbz1
  have Hr1 := Lib.hid hr1
  have Ha1 : Hid (Apart (RF rr) w w1) := Lib.hid (((Apart.refl (RF rr) w).alloc _).trans ha1 (fun _ e => .inl e))
  clear hr1 ha1 hbz1 he HT
  go_wp2_with fail
  clear r0 r1 r2
  refine (HA.out _).mono ?_
  rintro e W ⟨rfl, hb3⟩
  have hbz := (hb3.block w.heap.size hz1).trans Hbz.out
  have Hr3 := Lib.hid (Hr1.out.below hb3)
  have Ha3 : Hid (Apart (RF rr) w W) := Lib.hid (Ha1.out.trans (F := RF rr) (G := fun _ => False) (Apart.of_below' hb3) (fun _ h => h.elim))
  clear hb3
  have k0 := cell_at hbz 0 rfl
  have k1 := cell_at hbz 1 rfl
  have k2 := cell_at hbz 2 rfl
  have k3 := cell_at hbz 3 rfl
  have k4 := cell_at hbz 4 rfl
  have k5 := cell_at hbz 5 rfl
  have k6 := cell_at hbz 6 rfl
  have k7 := cell_at hbz 7 rfl
  have k8 := cell_at hbz 8 rfl
  have k9 := cell_at hbz 9 rfl
  have k10 := cell_at hbz 10 rfl
  have f := fun i => free_at hbz i
  go_wp2_with fail
  clear k0 k1 k2 k3 k4 k5 k6 k7 k8 k9 k10 f
  show bodyPost _ _ _ _ _ (storeAll W w.heap.size [.int .i64 0, .int .i64 0, .int .i64 0, .int .i64 0, .int .i64 0, .int .i64 0, .int .i64 0, .int .i64 0, .slice none 0 0, .slice none 0 0, .slice none 0 0] 0)
  have hfin := zero_same2 hbz rfl [.int .i64 0, .int .i64 0, .int .i64 0, .int .i64 0, .int .i64 0, .int .i64 0, .int .i64 0, .int .i64 0, .slice none 0 0, .slice none 0 0, .slice none 0 0] rfl
  have h1 := storeAll_apart w.heap.size [.int .i64 0, .int .i64 0, .int .i64 0, .int .i64 0, .int .i64 0, .int .i64 0, .int .i64 0, .int .i64 0, .slice none 0 0, .slice none 0 0, .slice none 0 0] 0 W
  have HF := Lib.hid (And.intro (Hr3.out.apart h1 (fun e => by have e : rr = w.heap.size := e; omega) (fun hl k hk e => by have e : k = w.heap.size := e; have := HQ.out hl k hk; omega)) (Ha3.out.trans h1 (fun k e => .inr (Nat.le_of_eq e.symm))))
  clear h1
  generalize storeAll W w.heap.size [.int .i64 0, .int .i64 0, .int .i64 0, .int .i64 0, .int .i64 0, .int .i64 0, .int .i64 0, .int .i64 0, .slice none 0 0, .slice none 0 0, .slice none 0 0] 0 = Wf at *
  have r0 := cell_at hfin 0 rfl
  have r1 := cell_at hfin 1 rfl
  have r2 := cell_at hfin 2 rfl
  have r3 := cell_at hfin 3 rfl
  have r4 := cell_at hfin 4 rfl
  have r5 := cell_at hfin 5 rfl
  have r6 := cell_at hfin 6 rfl
  have r7 := cell_at hfin 7 rfl
  have r8 := cell_at hfin 8 rfl
  have r9 := cell_at hfin 9 rfl
  have r10 := cell_at hfin 10 rfl
  refine bodyPost_ret (v := .tuple #[.agg #[.int .i64 0, .int .i64 0, .int .i64 0, .int .i64 0, .int .i64 0, .int .i64 0, .int .i64 0, .int .i64 0, .slice none 0 0, .slice none 0 0, .slice none 0 0], .string ⟨T7.toArray⟩]) (by simp [results, Try.results42, go_sem, r0, r1, r2, r3, r4, r5, r6, r7, r8, r9, r10]) rfl ?_
  exact ⟨rfl, HF.out⟩
end Go.Proofs.Ytgceleipaiameaa
