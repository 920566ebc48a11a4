/- Contracts of a table's do, Apply. Conditions: where the table lies; the command's numbers in their ranges. -/
import Derived.Test.YtcibnjcnbocbdaaRepB
namespace Go.Proofs.Ytcibnjcnbocbdaa
open Go.RowKit RepP Go.Maps
set_option maxRecDepth 100000

section
variable {w w1 w' : World} {b : Nat} {m : Option Nat} {t : T} {n k : Nat}
theorem RepGo.from_ (hb : Below w.heap.size w w1) (h : RepGo w1 b m t n k w') : RepGo w b m t n k w' := by
  obtain ⟨m', h1, h2, h3⟩ := h
  refine ⟨m', h1, (Apart.of_below' hb).trans h2 (fun _ e => .inl e), ?_⟩
  rcases h3 with h3 | ⟨M, h3, h4⟩
  · exact .inl h3
  · exact .inr ⟨M, h3, Nat.le_trans hb.size h4⟩
theorem RepGo.tail (h : RepGo w b m t n k w1) (hb : Below w1.heap.size w1 w') : RepGo w b m t n k w' := by
  obtain ⟨m', h1, h2, h3⟩ := h
  exact ⟨m', h1.below hb, h2.trans (Apart.of_below' (F := fun _ => False) hb) (fun _ e => e.elim), h3⟩
theorem RepGo.counted (h : RepGo w b m t n k w1) (p : Nat) : RepGo w b m t p k (w1.setCell ⟨b, 1, none⟩ (.int .i64 (p : Nat))) := by
  obtain ⟨m', h1, h2, h3⟩ := h
  exact ⟨m', h1.counted p, h2.setCell (p := ⟨b, 1, none⟩) (.inl (.inl rfl)) _, h3⟩
theorem RepGo.mono (h : RepGo w b m t n k w1) {k' : Nat} (hk : k ≤ k') : RepGo w b m t n k' w1 := by
  obtain ⟨m', h1, h2⟩ := h
  exact ⟨m', h1.mono hk, h2⟩
end
theorem boxCmd (w : World) (c : Cmd) : (w.alloc (.cells (cmdVals c).toArray 38)).heap[w.heap.size]? = some (.cells (cmdVals c).toArray 38 (0, 0)) := heap_alloc_new w _

def DoP14 (w : World) (b : Nat) (m : Option Nat) (t : T) (n k : Nat) (e : Ending) (w' : World) : Prop := e = .returned (.tuple #[]) ∧ RepGo w b m t n k w'
/-- A key's value is struck, in a region that draws. -/
theorem step_delete {w0 : World} {ops : Array Oper} {o : Oper} {a : Act} {K : Act → World → Prop} {Q : Exit → Act → World → Prop} {E : Prop} (hgd : o.guard = none) (mm x : Operand)
    (ho : o.op = .call { callee := .builtin .delete, args := #[mm, x], argTypes := #[57, 5] }) (m : Option Nat) (n : Nat) (t : T) (hm : a.eval mm = .map m) (h : MapAt w0 m n t) (k : Nat) (hk : k ≤ 255) (hl : k < t.length) (hx : a.eval x = .int .u8 (k : Nat))
    (hK : ∀ w', MapAt w' m n (t.set k none) → w0.grownBy w' m → K (a.put o.dst (.tuple #[])) w') :
    if Region.wanted o (yielded ops a.tmps) = true then Oper.wp Try.prog o a w0 K Q else E := by
  have hw : Region.wanted o (yielded ops a.tmps) = true := by simp [Region.wanted, hgd]
  rw [if_pos hw]
  obtain ⟨w', hrun, r1, r2⟩ := h.drop hk hl o.type
  unfold Oper.wp execOp
  simp only [ho, resolve, invoke, builtin, Sem.run_bind, Sem.run_pure, Result.andThen_ok, List.map_toArray, List.map_cons, List.map_nil, hm, hx, hrun]
  exact hK _ r1 r2

def DropS (b : Nat) (m : Option Nat) (t : T) (n k N : Nat) (c : Cmd) (W : World) : Prop := RepIn W b m t n k ∧ W.heap[N]? = some (.cells (cmdVals c).toArray 38 (0, 0))

set_option maxHeartbeats 1000000 in
theorem rdo_set (w : World) (b : Nat) (m : Option Nat) (t : T) (n k : Nat) (h : RepIn w b m t n k) (hk : k ≤ 1000000) (c : Cmd) (hc : CmdIn c) (h7 : c.key ≤ 7) (h1 : c.kind = 1) :
    Calls Try.prog 20 #[repV b, cmdV14 c] w (DoP14 w b m (t.set c.key (some c.val)) n (k + 1)) := by
  have hbw : Below w.heap.size w (w.alloc (.cells (cmdVals c).toArray 38)) := (Below.refl _ w).alloc (Nat.le_refl _) _
  have HS := Lib.hid (rset_any _ b m t n k (h.below hbw) hk c.key c.val h7 hc.val)
  have hx := boxCmd w c
  have HB := Lib.hid hbw
  clear h hk hc h7 hbw
  obtain ⟨kind, key, val, old⟩ := c
  obtain rfl : kind = 1 := h1
  have c0 := cell_at hx 0 rfl
  have c1 := cell_at hx 1 rfl
  have c2 := cell_at hx 2 rfl
  simp only [cmdVals] at *
  clear hx
  unfold repV cmdV14 at *
  go_enter Try.func20, Try.ntmps20
  go_wp2_with fail
  refine (HS.out).mono ?_
  rintro e w2 ⟨rfl, hG⟩
  have HG := Lib.hid (hG.from_ HB.out)
  clear hG HB HS c0 c1 c2
  go_wp2_with fail
  refine bodyPost_end (results_none rfl _ _ _) rfl ?_
  exact ⟨rfl, HG.out⟩

set_option maxHeartbeats 1000000 in
theorem rdo_drop (w : World) (b : Nat) (m : Option Nat) (t : T) (n k : Nat) (h : RepIn w b m t n k) (c : Cmd) (h7 : c.key ≤ 7) (h1 : c.kind = 2) :
    Calls Try.prog 20 #[repV b, cmdV14 c] w (DoP14 w b m (t.set c.key none) n k) := by
  have hbw : Below w.heap.size w (w.alloc (.cells (cmdVals c).toArray 38)) := (Below.refl _ w).alloc (Nat.le_refl _) _
  have hS0 : DropS b m t n k w.heap.size c (w.alloc (.cells (cmdVals c).toArray 38)).drew := ⟨(h.below hbw).drew, boxCmd w c⟩
  have kd : ∀ W, DropS b m t n k w.heap.size c W → W.cell? ⟨b, 0, none⟩ = some (.map m) := fun W hW => hW.1.c0
  have k1 : ∀ W, DropS b m t n k w.heap.size c W → W.cell? ⟨w.heap.size, 1, none⟩ = some (.int .u8 (c.key : Nat)) := fun W hW => cell_at hW.2 1 rfl
  have c0 := cell_at (boxCmd w c) 0 rfl
  have hl : c.key < t.length := by rw [h.len]; omega
  have HF : Hid (∀ W W', DropS b m t n k w.heap.size c W → Below w.heap.size w W → MapAt W' m k (t.set c.key none) → W.grownBy W' m → DoP14 w b m (t.set c.key none) n k (.returned (.tuple #[])) W') := Lib.hid fun W W' hW hb h2 h3 => by
    refine ⟨rfl, RepGo.from_ hb ⟨m, ⟨?_, by rw [List.length_set]; exact h.len, h2⟩, (Apart.refl _ W).grown h3 (fun q e => .inl (.inr e)), .inl rfl⟩⟩
    exact (h3.block b hW.1.lt (fun e => hW.1.ne b e.symm rfl)).trans hW.1.at_
  have HB := Lib.hid hbw.drew
  clear hbw h
  obtain ⟨kind, key, val, old⟩ := c
  obtain rfl : kind = 2 := h1
  unfold repV cmdV14 at *
  simp only [cmdVals] at c0 hS0 HB
  simp only at kd k1 hl h7
  go_enter Try.func20, Try.ntmps20
  go_wp2_with fail
  refine wp_region_L_drew (st := 6) (S := fun W => DropS b m t n k w.heap.size ⟨2, key, val, old⟩ W) (by kernel_rfl) hS0 (fun _ => ?_)
  refine tkL 0 (by simp only [tkA]; rfl) (by kernel_rfl) (by exact fun _ _ _ h => h) (by rfl) (by intro W hW; go_simp <;> with_reducible rfl) hS0 ?_
  try simp only [Act.put, tkT, tk0, tkS]
  refine tkL 1 (by simp only [tkA, tkG]; rfl) (by kernel_rfl) (by exact fun _ _ _ h => h) (by rfl) (by intro W hW; go_simp <;> with_reducible rfl) hS0 ?_
  try simp only [Act.put, tkT, tk0, tkS]
  refine tkL 2 (by simp only [tkA, tkG]; rfl) (by kernel_rfl) (by exact fun _ _ _ h => h) (by rfl) (by intro W hW; go_simp <;> with_reducible rfl) hS0 ?_
  try simp only [Act.put, tkT, tk0, tkS]
  refine tkL 3 (by simp only [tkA, tkG]; rfl) (by kernel_rfl) (by exact fun _ _ _ h => h) (by rfl) (by intro W hW; go_simp <;> with_reducible rfl) hS0 ?_
  try simp only [Act.put, tkT, tk0, tkS]
  refine tkL 4 (by simp only [tkA, tkG]; rfl) (by kernel_rfl) (by exact fun _ _ _ h => h) (by rfl) (by intro W hW; go_simp <;> with_reducible rfl) hS0 ?_
  try simp only [Act.put, tkT, tk0, tkS]
  refine tkL 5 (by simp only [tkA, tkG]; rfl) (by kernel_rfl) (by exact fun _ _ _ h => h) (by rfl) (by intro W hW; go_simp <;> with_reducible rfl) hS0 ?_
  try simp only [Act.put, tkT, tk0, tkS]
  refine wpAnyL_last (k := 6) (by kernel_rfl) (by simp only [tkA, tkG]; rfl) (fun K hK => ?_)
  refine step_delete rfl (.tmp 41) (.tmp 43) rfl m k t rfl hS0.1.mp key (by omega) hl rfl ?_
  intro w2 hm2 hg2
  have HR := Lib.hid (HF.out _ _ hS0 HB.out hm2 hg2)
  clear hm2 hg2 hS0 kd k1 HF HB c0
  go_wp2_with fail
  refine hK.out _ _ ?_
  clear hK K
  refine wpAnyL_done (by kernel_rfl) ?_ _
  go_wp2_with fail
  refine bodyPost_end (results_none rfl _ _ _) rfl ?_
  exact HR.out
end Go.Proofs.Ytcibnjcnbocbdaa
