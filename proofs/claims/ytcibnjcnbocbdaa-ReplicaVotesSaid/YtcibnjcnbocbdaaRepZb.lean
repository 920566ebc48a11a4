/- What the walk of ReplicaVotes keeps in memory (VotX, VotS): tables, the document's one, two rows. Conditions: where they lie. -/
import Derived.Test.YtcibnjcnbocbdaaRepZa
import Derived.Test.YtcibnjcnbocbdaaRepY
namespace Go.Proofs.Ytcibnjcnbocbdaa
open Go.RowKit RepP Go.Maps
set_option maxRecDepth 100000

def valVals (o : Option Nat) : List Value := [.int .i64 (valI o)]
theorem ptrVals_len (b : Nat) : (ptrVals b).length = 1 := rfl
theorem valVals_len (o : Option Nat) : (valVals o).length = 1 := rfl
theorem infoPtr14 : (Try.prog.info? 24).map (fun i => (i.zero, i.size, i.bytes)) = some (some (.pointer none), 1, 8) := by kernel_rfl
theorem infoInt14 : (Try.prog.info? 3).map (fun i => (i.zero, i.size, i.bytes)) = some (some (.int .i64 0), 1, 8) := by kernel_rfl
/-- append of one value of one cell. -/
theorem wpList_val1 {w0 : World} {ops : Array Oper} {rest : List Oper} {o : Oper} {a : Act} {Q : Exit → Act → World → Prop} (hgd : o.guard = none) (s x : Operand) (t e : TypeId) (z : Value) (ht : Try.prog.underlying t = some (.slice e)) (hinfo : (Try.prog.info? e).map (fun i => (i.zero, i.size, i.bytes)) = some (some z, 1, 8)) (hzs : z.cells.size = 1)
    (ho : o.op = .call { callee := .builtin .append, args := #[s, x], argTypes := #[t, t] }) (B : Nat) (v : Value) (n : Nat) (xs : List Value) (hs : a.eval s = v) (hown : w0.ownsRow B e 1 v n xs)
    (y : Value) (hy : y.oneCell' = true) (hx : a.eval x = .slice (some ⟨w0.heap.size, 0, none⟩) 1 1) (hn : n ≤ 1000000) (hB : B ≤ w0.heap.size)
    (h : ∀ v' w', w'.ownsRow B e 1 v' (n + 1) (xs ++ [y]) → Apart (fun k => v.ownBlock = some k) w0 w' → wpList Try.prog ops Q rest (a.put o.dst v') w') :
    wpList Try.prog ops Q (o :: rest) a (w0.alloc (.cells #[y] e)) := by
  refine wpList_append_s hgd s x t ho B e z 1 8 ht hinfo hzs (by decide) v n xs hs (hown.alloc _) (some ⟨w0.heap.size, 0, none⟩) 1 1 [y] hx rfl
    (fun _ => ⟨_, rfl, laid_at w0 _ [y] w0.heap.size rfl⟩) (fun u hu => by rw [List.mem_singleton.1 hu]; exact hy) (by unfold maxLen; omega) (by omega) (by simp; omega) ?_
  intro v' w' h1 h2 _
  exact h v' w' h1 (((Apart.refl _ w0).alloc _).trans h2 (fun k e => .inl e))
/-- Between two of them. -/
structure VotS (W : World) (B : Nat) (ts : List (Nat × T × Nat)) (v7 v8 : Value) (key : Nat) : Prop where
  base : B ≤ W.heap.size
  tabs : TabsG W B ts
  all : W.ownsRow B 24 1 v7 ts.length (itemsV ptrVals (bsT ts))
  vals : W.ownsRow B 3 1 v8 ts.length (itemsV valVals (osT ts key))
/-- While one is made: the program's table (t, p), the document's (u, q). -/
structure VotX (W : World) (B r : Nat) (ts : List (Nat × T × Nat)) (b : Nat) (t : T) (p : Nat) (u : T) (q : Nat) (v7 v8 : Value) (key : Nat) : Prop where
  base : B ≤ W.heap.size
  hr : B ≤ r
  tabs : TabsG W B (ts ++ [(b, t, p)])
  ref : RefT W r u q
  all : W.ownsRow B 24 1 v7 ts.length (itemsV ptrVals (bsT ts))
  vals : W.ownsRow B 3 1 v8 ts.length (itemsV valVals (osT ts key))
theorem own_below14 {w w' : World} {B e size n : Nat} {v : Value} {xs : List Value} (h : w.ownsRow B e size v n xs) (hb : Below w.heap.size w w') : w'.ownsRow B e size v n xs := own_apart (F := fun _ => False) h (Apart.of_below' hb) (fun _ _ h => h)
section
variable {W W' : World} {B r b p q key : Nat} {ts : List (Nat × T × Nat)} {t u : T} {v7 v8 : Value}
theorem VotS.below (h : VotS W B ts v7 v8 key) (hb : Below W.heap.size W W') : VotS W' B ts v7 v8 key := ⟨Nat.le_trans h.base hb.size, h.tabs.below hb, own_below14 h.all hb, own_below14 h.vals hb⟩
theorem VotX.below (h : VotX W B r ts b t p u q v7 v8 key) (hb : Below W.heap.size W W') : VotX W' B r ts b t p u q v7 v8 key := ⟨Nat.le_trans h.base hb.size, h.hr, h.tabs.below hb, h.ref.below hb, own_below14 h.all hb, own_below14 h.vals hb⟩
theorem VotS.start (W : World) (key : Nat) : VotS W W.heap.size [] (.slice none 0 0) (.slice none 0 0) key := ⟨Nat.le_refl _, TabsG.nil _ _, ⟨rfl, .inl ⟨rfl, rfl⟩⟩, ⟨rfl, .inl ⟨rfl, rfl⟩⟩⟩
/-- A new table, and the document's. -/
theorem VotS.more {w1 : World} {e : Ending} (h : VotS W B ts v7 v8 key) (hN : NewP14 W e w1) :
    VotX (w1.alloc (.cells #[.int .u16 0, .int .u16 0, .int .u16 0, .int .u16 0, .int .u16 0, .int .u16 0, .int .u16 0, .int .u16 0, .bool false, .bool false, .bool false, .bool false, .bool false, .bool false, .bool false, .bool false, .int .i64 0] 31)) B w1.heap.size ts W.heap.size new 0 new 0 v7 v8 key := by
  obtain ⟨-, h1, h2, h3⟩ := hN
  have hb : Below W.heap.size W (w1.alloc (.cells #[.int .u16 0, .int .u16 0, .int .u16 0, .int .u16 0, .int .u16 0, .int .u16 0, .int .u16 0, .int .u16 0, .bool false, .bool false, .bool false, .bool false, .bool false, .bool false, .bool false, .bool false, .int .i64 0] 31)) := h2.alloc (by omega) _
  have h4 := (h.tabs.more h.base h1 h2).below ((Below.refl w1.heap.size w1).alloc (Nat.le_refl _) (.cells #[.int .u16 0, .int .u16 0, .int .u16 0, .int .u16 0, .int .u16 0, .int .u16 0, .int .u16 0, .int .u16 0, .bool false, .bool false, .bool false, .bool false, .bool false, .bool false, .bool false, .bool false, .int .i64 0] 31))
  exact ⟨Nat.le_trans h.base hb.size, by have := h.base; omega, h4, RefT.new w1, own_below14 h.all hb, own_below14 h.vals hb⟩
theorem VotX.len (h : VotX W B r ts b t p u q v7 v8 key) : t.length = 8 := by
  obtain ⟨m, hr⟩ := h.tabs.get (i := ts.length) (by rw [List.getElem?_append_right (Nat.le_refl _), Nat.sub_self]; rfl)
  exact hr.len
/-- A row of the call's own is written. -/
theorem row_tabs {F : Nat → Prop} {e size n B' : Nat} {v : Value} {xs : List Value} (h : TabsG W B ts) (hv : W.ownsRow B' e size v n xs) (he : e ≠ 59) (ha : Apart F W W') (hF : ∀ k, F k → v.ownBlock = some k) : TabsG W' B ts :=
  h.apart ha fun k hk hf => by
    obtain ⟨cur, hc⟩ := (Seg.of_own hv).block k (hF k hf)
    rcases hk with ⟨cs', h2⟩ | ⟨es, c, h2⟩
    · rw [hc] at h2
      simp only [Option.some.injEq, Obj.cells.injEq] at h2
      exact he h2.2.1
    · rw [hc] at h2
      simp at h2
theorem ref_tabs (h : TabsG W B ts) {n : Nat} {u : T} (hr : RefT W r u n) (ha : Apart (fun k => k = r) W W') : TabsG W' B ts := h.apart ha fun k hk hkr => by
  subst hkr
  rcases hk with ⟨cs', h2⟩ | ⟨es, c, h2⟩
  · rw [hr.2.at_] at h2
    simp only [Option.some.injEq, Obj.cells.injEq] at h2
    exact absurd h2.2.1 (by decide)
  · rw [hr.2.at_] at h2
    simp at h2
theorem ref_row {e size n m B' : Nat} {u : T} {v : Value} {xs : List Value} (hr : RefT W r u m) (hv : W.ownsRow B' e size v n xs) (he : e ≠ 31) (ha : Apart (fun k => k = r) W W') : W'.ownsRow B' e size v n xs :=
  own_apart hv ha fun k hk hkr => own_off hv hr.2.at_ he k hk hkr
/-- Apply, of the program. -/
theorem votx_one (h : VotX W B r ts b t p u q v7 v8 key) (hp : p ≤ 1000000) (c : Cmd) (hc : CmdIn c) : Calls Try.prog 10 #[repV b, cmdV14 c] W (fun e w' => (∃ v, e = .returned v) ∧ VotX w' B r ts b (applyT t c) (p + if doneB c = true then 1 else 0) u q v7 v8 key ∧ Below B W w') := by
  refine (tabs_apply W B _ h.tabs (i := ts.length) (by rw [List.getElem?_append_right (Nat.le_refl _), Nat.sub_self]; rfl) hp c hc).mono ?_
  rintro e w' ⟨h1, h2, h3⟩
  rw [List.set_append_right _ _ (Nat.le_refl _), Nat.sub_self] at h2
  exact ⟨⟨_, h1⟩, ⟨Nat.le_trans h.base h3.size, h.hr, h2, ref_tag h3 h.ref, tag_row h3 h.all (by decide), tag_row h3 h.vals (by decide)⟩, tag_below h3 h.base⟩
/-- .. of the document. -/
theorem votx_two (h : VotX W B r ts b t p u q v7 v8 key) (hq : q ≤ 1000000) (c : Cmd) (hc : CmdIn c) : Calls Try.prog 11 #[repV r, cmdV14 c] W (fun e w' => (∃ v, e = .returned v) ∧ VotX w' B r ts b t p (applyT u c) (q + if doneB c = true then 1 else 0) v7 v8 key ∧ Below B W w') := by
  refine (refapply_any W r u q h.ref hq c hc).mono ?_
  rintro e w' ⟨h1, h2, h3⟩
  exact ⟨⟨_, h1⟩, ⟨Nat.le_trans h.base h3.size, h.hr, ref_tabs h.tabs h.ref h3, h2, ref_row h.ref h.all (by decide) h3, ref_row h.ref h.vals (by decide) h3⟩, h3.below h.base fun k e => by subst e; exact h.hr⟩
/-- The pointer is appended. -/
theorem VotX.ptr (h : VotX W B r ts b t p u q v7 v8 key) {v' : Value} (hv : W'.ownsRow B 24 1 v' (ts.length + 1) (itemsV ptrVals (bsT ts) ++ [repV b])) (ha : Apart (fun k => v7.ownBlock = some k) W W') :
    TabsG W' B (ts ++ [(b, t, p)]) ∧ RefT W' r u q ∧ W'.ownsRow B 24 1 v' (ts ++ [(b, t, p)]).length (itemsV ptrVals (bsT (ts ++ [(b, t, p)]))) ∧ W'.ownsRow B 3 1 v8 ts.length (itemsV valVals (osT ts key)) ∧ Below B W W' := by
  refine ⟨row_tabs h.tabs h.all (by decide) ha (fun k hk => hk), h.ref.apart ha (fun hk => own_off h.all h.ref.2.at_ (by decide) r hk rfl), ?_, own_apart h.vals ha (fun k hk hf => own_tag6 h.all h.vals (by decide) k hf hk), ha.below h.base fun k hk => (h.all.lt k hk).1⟩
  rw [List.length_append]
  unfold bsT
  rw [List.map_append, itemsV_append]
  exact hv
/-- .. and the value. -/
theorem vots_val {n : Nat} {x : Nat × T × Nat} (hB : B ≤ W.heap.size) (ht : TabsG W B (ts ++ [x])) (ha7 : W.ownsRow B 24 1 v7 (ts ++ [x]).length (itemsV ptrVals (bsT (ts ++ [x])))) (hv8 : W.ownsRow B 3 1 v8 ts.length (itemsV valVals (osT ts key))) {v' : Value} {o : Option Nat} (ho : tat x.2.1 key = o)
    (hv : W'.ownsRow B 3 1 v' (n + 1) (itemsV valVals (osT ts key) ++ [.int .i64 (valI o)])) (hn : n = ts.length) (ha : Apart (fun k => v8.ownBlock = some k) W W') : VotS W' B (ts ++ [x]) v7 v' key ∧ Below B W W' := by
  refine ⟨⟨Nat.le_trans hB ha.size, row_tabs ht hv8 (by decide) ha (fun k hk => hk), own_apart ha7 ha (fun k hk hf => own_tag6 hv8 ha7 (by decide) k hf hk), ?_⟩, ha.below hB fun k hk => (hv8.lt k hk).1⟩
  subst hn
  rw [List.length_append]
  unfold osT
  rw [List.map_append, itemsV_append]
  subst ho
  exact hv
end
end Go.Proofs.Ytcibnjcnbocbdaa
