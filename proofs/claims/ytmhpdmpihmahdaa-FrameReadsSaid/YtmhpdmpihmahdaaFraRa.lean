/- The document's Decode, in parts: a Reader and a frame in memory that turn by turns (St), messages and records in rows of the call's own. Conditions: none beyond those that each states. -/
import Derived.Test.YtmhpdmpihmahdaaFraM
import Derived.Test.YtmhpdmpihmahdaaFraN
import Derived.Test.YtmhpdmpihmahdaaWirN
namespace Go.Proofs.Ytmhpdmpihmahdaa
open Go.RowKit
set_option maxRecDepth 100000

/-- The document's Reader in block rr, a frame's cells in block bf; all else that was is as it was. -/
structure St (rr bf : Nat) (A : Option Addr) (n cap : Nat) (l : List UInt8) (W : World) (a : Nat) (s : Bool) (fv : Array Value) (w : World) : Prop where
  rd : RefAt w rr A n cap l a s
  box : w.heap[bf]? = some (.cells fv 32 (0, 0))
  ap : Apart (fun k => k = rr ∨ k = bf) W w

/-- What holds of the two blocks. -/
structure StOk (rr bf : Nat) (A : Option Addr) (l : List UInt8) (W : World) : Prop where
  ne : rr ≠ bf
  rlt : rr < W.heap.size
  blt : bf < W.heap.size
  arr : 0 < l.length → ∀ k, blockOf A = some k → k ≠ bf ∧ k < W.heap.size

section
variable {rr bf n cap : Nat} {A : Option Addr} {l : List UInt8} {W w w' : World} {a : Nat} {s : Bool} {fv : Array Value}

theorem St.take (h : St rr bf A n cap l W a s fv w) (ho : StOk rr bf A l W) (k : Int) :
    Calls Try.prog 50 #[.pointer (some ⟨rr, 0, none⟩), .int .i64 k] w fun e w' => e = .returned (.int .u32 ((WireP.take l a s k).n : Nat)) ∧ St rr bf A n cap l W (WireP.take l a s k).at_ (WireP.take l a s k).short fv w' ∧ Apart (RF rr) w w' := by
  refine (reftake_any rr A n cap l a s k w h.rd).mono ?_
  rintro e w' ⟨rfl, h2, h3⟩
  exact ⟨rfl, ⟨h2, (h3.block bf (Nat.lt_of_lt_of_le ho.blt h.ap.size) (fun e => ho.ne e.symm)).trans h.box, h.ap.trans h3 (fun _ e => .inl (.inl e))⟩, h3⟩
theorem St.tell (h : St rr bf A n cap l W a s fv w) (ho : StOk rr bf A l W) :
    Calls Try.prog 51 #[.pointer (some ⟨rr, 0, none⟩)] w.drew fun e w' => ∃ v g, e = .returned v ∧ Row w' w.heap.size 5 g v (WireP.tell l a s).l ∧ St rr bf A n cap l W (WireP.tell l a s).at_ (WireP.tell l a s).short fv w' ∧ Apart (RF rr) w w' := by
  refine (reftell_any rr A n cap l a s w.drew h.rd.drew).mono ?_
  rintro e w' ⟨v, g, rfl, h1, h2, h3⟩
  replace h3 := h3.undrew
  exact ⟨v, g, rfl, h1, ⟨h2, (h3.block bf (Nat.lt_of_lt_of_le ho.blt h.ap.size) (fun e => ho.ne e.symm)).trans h.box, h.ap.trans h3 (fun _ e => .inl (.inl e))⟩, h3⟩
theorem St.store (h : St rr bf A n cap l W a s fv w) (ho : StOk rr bf A l W) (i : Nat) (u : Value) : St rr bf A n cap l W a s (fv.setIfInBounds i u) (w.setCell ⟨bf, i, none⟩ u) ∧ Apart (fun k => k = bf) w (w.setCell ⟨bf, i, none⟩ u) := by
  have h1 : Apart (fun k => k = bf) w (w.setCell ⟨bf, i, none⟩ u) := Apart.setCell (F := fun k => k = bf) (Apart.refl _ w) (p := ⟨bf, i, none⟩) (.inl rfl) u
  exact ⟨⟨h.rd.apart h1 ho.ne (fun hl k hk e => (ho.arr hl k hk).1 e), heap_setCell_same w bf i _ _ u h.box, h.ap.trans h1 (fun _ e => .inl (.inr e))⟩, h1⟩
/-- What turns nothing below W but in new blocks. -/
theorem St.apart (h : St rr bf A n cap l W a s fv w) (ho : StOk rr bf A l W) {F : Nat → Prop} (ha : Apart F w w') (hF : ∀ k, F k → W.heap.size ≤ k) : St rr bf A n cap l W a s fv w' := by
  have h1 := ho.rlt
  have h2 := ho.blt
  exact ⟨h.rd.apart ha (fun e => by have := hF rr e; omega) (fun hl k hk e => by have := (ho.arr hl k hk).2; have := hF k e; omega), (ha.block bf (Nat.lt_of_lt_of_le h2 h.ap.size) (fun e => by have := hF bf e; omega)).trans h.box, h.ap.trans ha (fun k e => .inr (hF k e))⟩
theorem St.cell (h : St rr bf A n cap l W a s fv w) (i : Nat) {v : Value} (hv : fv[i]? = some v) : w.cell? ⟨bf, i, none⟩ = some v := cell_at h.box i hv
theorem St.free (h : St rr bf A n cap l W a s fv w) (i : Nat) : w.frozen? ⟨bf, i, none⟩ = false := free_at h.box i
end

/-- Messages in a row of the call's own, from block B on. -/
structure OwnM (B : Nat) (v : Value) (ms : List MsgC) (w : World) : Prop where
  own : w.ownsRow B 57 2 v ms.length (msgVals ms)
  ok : ∀ x ∈ ms, MsgOk w x ∧ (0 < x.data.length → ∀ k, blockOf x.A = some k → B ≤ k ∧ v.ownBlock ≠ some k)
/-- Records in a row of the call's own, from block B on. -/
structure OwnR (B : Nat) (v : Value) (rs : List FrameP.Rec) (w : World) : Prop where
  own : w.ownsRow B 74 5 v rs.length (recsVals rs)
  fits : ∀ y ∈ rs, FrameP.RecFits y

theorem OwnM.nil (B : Nat) (w : World) : OwnM B (.slice none 0 0) [] w := ⟨World.ownsRow_nil _ _ _ _, fun x hx => by cases hx⟩
theorem OwnR.nil (B : Nat) (w : World) : OwnR B (.slice none 0 0) [] w := ⟨World.ownsRow_nil _ _ _ _, fun x hx => by cases hx⟩
theorem OwnM.apart {B : Nat} {v : Value} {ms : List MsgC} {w w' : World} {F : Nat → Prop} (h : OwnM B v ms w) (ha : Apart F w w') (hF : ∀ k, F k → k < B) : OwnM B v ms w' := by
  refine ⟨own_apart h.own ha (fun k hk e => by have := (h.own.lt k hk).1; have := hF k e; omega), fun x hx => ?_⟩
  obtain ⟨h2, h3⟩ := h.ok x hx
  exact ⟨⟨h2.len, h2.cap_, h2.most, (h2.bytes.apart0 ha (Nat.le_refl _) (fun hn k hk e => by have := (h3 hn k hk).1; have := hF k e; omega)).more ha.size, h2.ports⟩, h3⟩
theorem OwnR.apart {B : Nat} {v : Value} {rs : List FrameP.Rec} {w w' : World} {F : Nat → Prop} (h : OwnR B v rs w) (ha : Apart F w w') (hF : ∀ k, F k → k < B) : OwnR B v rs w' :=
  ⟨own_apart h.own ha (fun k hk e => by have := (h.own.lt k hk).1; have := hF k e; omega), h.fits⟩
/-- What is new turns nothing of them. -/
theorem OwnM.new {B : Nat} {v : Value} {ms : List MsgC} {w w' : World} {F : Nat → Prop} (h : OwnM B v ms w) (ha : Apart F w w') (hv : ∀ k, v.ownBlock = some k → ¬ F k) (hd : ∀ x ∈ ms, 0 < x.data.length → ∀ k, blockOf x.A = some k → ¬ F k) : OwnM B v ms w' := by
  refine ⟨own_apart h.own ha hv, fun x hx => ?_⟩
  obtain ⟨h2, h3⟩ := h.ok x hx
  exact ⟨⟨h2.len, h2.cap_, h2.most, (h2.bytes.apart0 ha (Nat.le_refl _) (fun hn k hk => hd x hx hn k hk)).more ha.size, h2.ports⟩, h3⟩
theorem OwnR.new {B : Nat} {v : Value} {rs : List FrameP.Rec} {w w' : World} {F : Nat → Prop} (h : OwnR B v rs w) (ha : Apart F w w') (hv : ∀ k, v.ownBlock = some k → ¬ F k) : OwnR B v rs w' := ⟨own_apart h.own ha hv, h.fits⟩

theorem OwnM.more {B : Nat} {v v' : Value} {ms : List MsgC} {y : MsgC} {w w' : World} {o : Obj} (h : OwnM B v ms w) (hy : MsgOk w y) (hyc : 0 < y.data.length → ∀ k, blockOf y.A = some k → B ≤ k ∧ v.ownBlock ≠ some k)
    (ho : w'.ownsRow B 57 2 v' (ms.length + 1) (msgVals ms ++ y.vals)) (ha : Apart (fun k => v.ownBlock = some k) (w.alloc o) w') (hb : v'.ownBlock = v.ownBlock ∨ v'.ownBlock = some (w.alloc o).heap.size) : OwnM B v' (ms ++ [y]) w' := by
  have ha0 : Apart (fun k => v.ownBlock = some k) w w' := ((Apart.refl _ w).alloc o).trans ha (fun _ e => .inl e)
  have key : ∀ x, MsgOk w x → (0 < x.data.length → ∀ k, blockOf x.A = some k → B ≤ k ∧ v.ownBlock ≠ some k) → MsgOk w' x ∧ (0 < x.data.length → ∀ k, blockOf x.A = some k → B ≤ k ∧ v'.ownBlock ≠ some k) := fun x h2 h3 => by
    refine ⟨⟨h2.len, h2.cap_, h2.most, (h2.bytes.apart0 ha0 (Nat.le_refl _) (fun hn k hk e => (h3 hn k hk).2 e)).more ha0.size, h2.ports⟩, fun hn k hk => ⟨(h3 hn k hk).1, fun e => ?_⟩⟩
    rcases hb with e1 | e1
    · rw [e1] at e
      exact (h3 hn k hk).2 e
    · rw [e1] at e
      have e2 := Option.some.inj e
      obtain ⟨b, off, e3, hbl, _⟩ := h2.bytes hn
      rw [e3] at hk
      have e4 : b = k := Option.some.inj hk
      simp at e2
      omega
  refine ⟨?_, fun x hx => ?_⟩
  · rw [List.length_append, List.length_singleton, msgVals_append]
    have e : msgVals [y] = y.vals := by simp [msgVals]
    rw [e]
    exact ho
  · rcases List.mem_append.1 hx with hx | hx
    · exact key x (h.ok x hx).1 (h.ok x hx).2
    · rw [List.mem_singleton.1 hx]
      exact key y hy hyc
theorem OwnR.more {B : Nat} {v' : Value} {rs : List FrameP.Rec} {y : FrameP.Rec} {w' : World} (h : ∀ z ∈ rs, FrameP.RecFits z) (hy : FrameP.RecFits y)
    (ho : w'.ownsRow B 74 5 v' (rs.length + 1) (recsVals rs ++ recVals y)) : OwnR B v' (rs ++ [y]) w' := by
  refine ⟨?_, fun z hz => ?_⟩
  · rw [List.length_append, List.length_singleton, recsVals_append]
    have e : recsVals [y] = recVals y := by simp [recsVals]
    rw [e]
    exact ho
  · rcases List.mem_append.1 hz with hz | hz
    · exact h z hz
    · rw [List.mem_singleton.1 hz]; exact hy

/-- While a record is read into block bx. -/
structure RSt (rr bf : Nat) (A : Option Addr) (n cap : Nat) (l : List UInt8) (W : World) (a : Nat) (s : Bool) (fv : Array Value) (C : Nat) (vM : Value) (ms : List MsgC) (vR : Value) (rs : List FrameP.Rec) (bx : Nat) (xs : Array Value) (w : World) : Prop where
  st : St rr bf A n cap l W a s fv w
  om : OwnM W.heap.size vM ms w
  orr : OwnR C vR rs w
  x : w.heap[bx]? = some (.cells xs 74 (0, 0))
structure RStOk (rr bf : Nat) (A : Option Addr) (l : List UInt8) (W : World) (C : Nat) (vM : Value) (ms : List MsgC) (vR : Value) (bx : Nat) : Prop where
  ok : StOk rr bf A l W
  c : W.heap.size ≤ C
  x : C ≤ bx
  m : ∀ k, vM.ownBlock = some k → k < C
  d : ∀ x ∈ ms, 0 < x.data.length → ∀ k, blockOf x.A = some k → k < C
  r : ∀ k, vR.ownBlock = some k → k < bx
section
variable {rr bf n cap C bx : Nat} {A : Option Addr} {l : List UInt8} {W w : World} {a : Nat} {s : Bool} {fv xs : Array Value} {vM vR : Value} {ms : List MsgC} {rs : List FrameP.Rec}
theorem RSt.take (h : RSt rr bf A n cap l W a s fv C vM ms vR rs bx xs w) (ho : RStOk rr bf A l W C vM ms vR bx) (k : Int) :
    Calls Try.prog 50 #[.pointer (some ⟨rr, 0, none⟩), .int .i64 k] w fun e w' => e = .returned (.int .u32 ((WireP.take l a s k).n : Nat)) ∧ RSt rr bf A n cap l W (WireP.take l a s k).at_ (WireP.take l a s k).short fv C vM ms vR rs bx xs w' := by
  refine (h.st.take ho.ok k).mono ?_
  rintro e w' ⟨h1, h2, h3⟩
  have h4 := ho.ok.rlt
  have h5 := ho.c
  have h6 := ho.x
  exact ⟨h1, h2, h.om.apart h3 (fun q e => by have e : q = rr := e; omega), h.orr.apart h3 (fun q e => by have e : q = rr := e; omega), (h3.block bx (lt_of_block h.x) (fun e => by have e : bx = rr := e; omega)).trans h.x⟩
theorem RSt.store (h : RSt rr bf A n cap l W a s fv C vM ms vR rs bx xs w) (ho : RStOk rr bf A l W C vM ms vR bx) (i : Nat) (u : Value) : RSt rr bf A n cap l W a s fv C vM ms vR rs bx (xs.setIfInBounds i u) (w.setCell ⟨bx, i, none⟩ u) := by
  have h1 : Apart (fun k => k = bx) w (w.setCell ⟨bx, i, none⟩ u) := Apart.setCell (F := fun k => k = bx) (Apart.refl _ w) (p := ⟨bx, i, none⟩) (.inl rfl) u
  have h5 := ho.c
  have h6 := ho.x
  exact ⟨h.st.apart ho.ok h1 (fun k e => by omega), h.om.new h1 (fun k hk e => by have := ho.m k hk; omega) (fun x hx hd k hk e => by have := ho.d x hx hd k hk; omega), h.orr.new h1 (fun k hk e => by have := ho.r k hk; omega), heap_setCell_same w bx i _ _ u h.x⟩
/-- Behind the append of the record. -/
theorem RSt.more {w' : World} {o : Obj} {v' : Value} {y : FrameP.Rec} (h : RSt rr bf A n cap l W a s fv C vM ms vR rs bx xs w) (ho : RStOk rr bf A l W C vM ms vR bx) (hy : FrameP.RecFits y)
    (hr : w'.ownsRow C 74 5 v' (rs.length + 1) (recsVals rs ++ recVals y)) (ha : Apart (fun k => vR.ownBlock = some k) (w.alloc o) w') : St rr bf A n cap l W a s fv w' ∧ OwnM W.heap.size vM ms w' ∧ OwnR C v' (rs ++ [y]) w' := by
  have ha0 : Apart (fun k => vR.ownBlock = some k) w w' := ((Apart.refl _ w).alloc o).trans ha (fun _ e => .inl e)
  have h5 := ho.c
  have hge : ∀ k, vR.ownBlock = some k → C ≤ k := fun k hk => (h.orr.own.lt k hk).1
  exact ⟨h.st.apart ho.ok ha0 (fun k e => by have := hge k e; omega), h.om.new ha0 (fun k hk e => by have := ho.m k hk; have := hge k e; omega) (fun x hx hd k hk e => by have := ho.d x hx hd k hk; have := hge k e; omega), OwnR.more h.orr.fits hy hr⟩
end

section
variable {P : Program}
/-- append of elements of several cells, as one step of a region that draws. -/
theorem step_append_s {w0 : World} {ops : Array Oper} {o : Oper} {a : Act} {K : Act → World → Prop} {Q : Exit → Act → World → Prop} {E : Prop} (hgd : o.guard = none) (s x : Operand) (t : TypeId)
    (ho : o.op = .call { callee := .builtin .append, args := #[s, x], argTypes := #[t, t] }) (B : Nat) (e : TypeId) (z : Value) (size bytes : Nat)
    (ht : P.underlying t = some (.slice e)) (hinfo : (P.info? e).map (fun i => (i.zero, i.size, i.bytes)) = some (some z, size, bytes)) (hzs : z.cells.size = size) (hsz : 0 < size)
    (v : Value) (n : Nat) (xs : List Value) (hs : a.eval s = v) (hown : w0.ownsRow B e size v n xs) (A : Option Addr) (m c : Nat) (news : List Value) (hx : a.eval x = .slice A m c) (hl : news.length = m * size)
    (hnews : 0 < m → ∃ ad, A = some ad ∧ ∀ j u, news[j]? = some u → w0.cell? (ad.add j) = some u) (h1 : ∀ u ∈ news, u.oneCell' = true)
    (h63 : n + m ≤ maxLen) (hbytes : (n + m) * bytes ≤ 140737488355328) (hB : B ≤ w0.heap.size)
    (h : ∀ v' w', w'.ownsRow B e size v' (n + m) (xs ++ news) → Apart (fun k => v.ownBlock = some k) w0 w' → (v'.ownBlock = v.ownBlock ∨ v'.ownBlock = some w0.heap.size) → K (a.put o.dst v') w') :
    if Region.wanted o (yielded ops a.tmps) = true then Oper.wp P o a w0 K Q else E := by
  have hw : Region.wanted o (yielded ops a.tmps) = true := by simp [Region.wanted, hgd]
  rw [if_pos hw]
  exact wp_append_s s x t ho B e z size bytes ht hinfo hzs hsz v n xs hs hown A m c news hx hl hnews h1 h63 hbytes hB h
end

/-- A message's two cells, just laid. -/
theorem msg_laid (w : World) (t : TypeId) (y : MsgC) (N : Nat) (hN : N = w.heap.size) : ∀ j u, y.vals[j]? = some u → (w.alloc (.cells #[.int .i64 y.port, .slice y.A y.m y.cap] t)).cell? ((⟨N, 0, none⟩ : Addr).add j) = some u := by
  subst hN
  intro j u hj
  rw [addr_add0, Nat.zero_add]
  have hlt : j < 2 := (List.getElem?_eq_some_iff.1 hj).1
  have hc : j = 0 ∨ j = 1 := by omega
  rcases hc with rfl | rfl
  · exact cell_at (heap_alloc_new w _) 0 hj
  · exact cell_at (heap_alloc_new w _) 1 hj
theorem vals_one (y : MsgC) : ∀ u ∈ y.vals, u.oneCell' = true := by
  intro u hu
  simp only [MsgC.vals, List.mem_cons, List.not_mem_nil, or_false] at hu
  rcases hu with rfl | rfl <;> rfl
theorem rec_laid (w : World) (t : TypeId) (y : FrameP.Rec) (N : Nat) (hN : N = w.heap.size) : ∀ j u, (recVals y)[j]? = some u → (w.alloc (.cells #[.int .u32 (y.round : Nat), .int .u8 (y.node : Nat), .int .u8 (y.part : Nat), .int .u8 (y.kind : Nat), .int .u8 (y.did : Nat)] t)).cell? ((⟨N, 0, none⟩ : Addr).add j) = some u := by
  subst hN
  intro j u hj
  rw [addr_add0, Nat.zero_add]
  have hlt : j < 5 := (List.getElem?_eq_some_iff.1 hj).1
  have hc : j = 0 ∨ j = 1 ∨ j = 2 ∨ j = 3 ∨ j = 4 := by omega
  rcases hc with rfl | rfl | rfl | rfl | rfl
  · exact cell_at (heap_alloc_new w _) 0 hj
  · exact cell_at (heap_alloc_new w _) 1 hj
  · exact cell_at (heap_alloc_new w _) 2 hj
  · exact cell_at (heap_alloc_new w _) 3 hj
  · exact cell_at (heap_alloc_new w _) 4 hj
theorem recvals_one (y : FrameP.Rec) : ∀ u ∈ recVals y, u.oneCell' = true := by
  intro u hu
  simp only [recVals, List.mem_cons, List.not_mem_nil, or_false] at hu
  rcases hu with rfl | rfl | rfl | rfl | rfl <;> rfl
end Go.Proofs.Ytmhpdmpihmahdaa
