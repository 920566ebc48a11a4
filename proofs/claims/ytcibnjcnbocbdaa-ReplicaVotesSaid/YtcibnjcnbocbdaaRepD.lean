/- Contracts of a table's do (swaps), Apply. Conditions: where the table lies; the command's numbers in their ranges. -/
import Derived.Test.YtcibnjcnbocbdaaRepC
namespace Go.Proofs.Ytcibnjcnbocbdaa
open Go.RowKit RepP Go.Maps
set_option maxRecDepth 100000

set_option maxHeartbeats 1000000 in
theorem rdo_swap (w : World) (b : Nat) (m : Option Nat) (t : T) (n k : Nat) (h : RepIn w b m t n k) (hk : k ≤ 1000000) (c : Cmd) (hc : CmdIn c) (h7 : c.key ≤ 7) (h1 : c.kind = 3) (h2 : tat t c.key = some c.old) :
    Calls Try.prog 20 #[repV b, cmdV14 c] w (DoP14 w b m (t.set c.key (some c.val)) n (k + 1)) := by
  have hbw : Below w.heap.size w (w.alloc (.cells (cmdVals c).toArray 38)) := (Below.refl _ w).alloc (Nat.le_refl _) _
  have HS := Lib.hid (fun q => rset_any _ b m t n k ((h.below hbw).drewN q) hk c.key c.val h7 hc.val)
  have hx := boxCmd w c
  have HB := Lib.hid (fun q => below_drewNc hbw q)
  have k0 := (h.below hbw).c0
  have hlk := fun q => ((h.below hbw).drewN q).mp.look (k := c.key) (by omega)
  simp only [h2, Option.getD_some, Option.isSome_some] at hlk
  clear h hk hc h7 hbw
  obtain ⟨kind, key, val, old⟩ := c
  obtain rfl : kind = 3 := h1
  have cx : ∀ q, ((w.alloc (.cells (cmdVals ⟨3, key, val, old⟩).toArray 38)).drewN q).heap[w.heap.size]? = some (.cells (cmdVals ⟨3, key, val, old⟩).toArray 38 (0, 0)) := fun q => hx
  have c0 := cell_at hx 0 rfl
  have c1 := cell_at hx 1 rfl
  have e1 := fun q => cell_at (cx q) 1 rfl
  have e2 := fun q => cell_at (cx q) 2 rfl
  have e3 := fun q => cell_at (cx q) 3 rfl
  simp only [cmdVals] at *
  clear hx cx h2
  unfold repV cmdV14 at *
  go_enter Try.func20, Try.ntmps20
  go_wp2_with fail
  generalize (w.alloc (.cells #[.int .u8 3, .int .u8 (key : Nat), .int .u16 (val : Nat), .int .u16 (old : Nat)] 38)) = wb at *
  go_quiet (fail)
  go_wp2_with fail
  refine (HS.out _).mono ?_
  rintro e w2 ⟨rfl, hG⟩
  have HG := Lib.hid (hG.from_ (HB.out _))
  clear hG HB HS c0 c1 e1 e2 e3 hlk
  go_wp2_with fail
  refine bodyPost_end (results_none rfl _ _ _) rfl ?_
  exact ⟨rfl, HG.out⟩

set_option maxHeartbeats 1000000 in
theorem rdo_stay (w : World) (b : Nat) (m : Option Nat) (t : T) (n k : Nat) (h : RepIn w b m t n k) (c : Cmd) (h7 : c.key ≤ 7) (h1 : c.kind = 3) (h2 : tat t c.key ≠ some c.old) :
    Calls Try.prog 20 #[repV b, cmdV14 c] w (DoP14 w b m t n k) := by
  have hbw : Below w.heap.size w (w.alloc (.cells (cmdVals c).toArray 38)) := (Below.refl _ w).alloc (Nat.le_refl _) _
  have hx := boxCmd w c
  have HF : Hid (∀ q, DoP14 w b m t n k (.returned (.tuple #[])) ((w.alloc (.cells (cmdVals c).toArray 38)).drewN q)) := Lib.hid fun q => ⟨rfl, RepGo.from_ (below_drewNc hbw q) ⟨m, (h.below hbw).drewN q, Apart.refl _ _, .inl rfl⟩⟩
  have k0 := (h.below hbw).c0
  have hlk := fun q => ((h.below hbw).drewN q).mp.look (k := c.key) (by omega)
  clear h h7 hbw
  obtain ⟨kind, key, val, old⟩ := c
  obtain rfl : kind = 3 := h1
  have cx : ∀ q, ((w.alloc (.cells (cmdVals ⟨3, key, val, old⟩).toArray 38)).drewN q).heap[w.heap.size]? = some (.cells (cmdVals ⟨3, key, val, old⟩).toArray 38 (0, 0)) := fun q => hx
  have c0 := cell_at hx 0 rfl
  have c1 := cell_at hx 1 rfl
  have e3 := fun q => cell_at (cx q) 3 rfl
  simp only [cmdVals] at *
  clear hx cx
  unfold repV cmdV14 at *
  cases ho : tat t key with
  | none =>
    simp only [ho, Option.getD_none, Option.isSome_none] at hlk
    clear h2 ho
    go_enter Try.func20, Try.ntmps20
    go_wp2_with fail
    generalize (w.alloc (.cells #[.int .u8 3, .int .u8 (key : Nat), .int .u16 (val : Nat), .int .u16 (old : Nat)] 38)) = wb at *
    go_quiet (fail)
    go_wp2_with fail
    refine bodyPost_ret (v := .tuple #[]) (by simp [results, Try.results20, go_sem]) rfl ?_
    exact HF.out _
  | some v =>
    simp only [ho, Option.getD_some, Option.isSome_some] at hlk
    have hne : ¬ ((v : Int) = (old : Int)) := fun e => h2 (by rw [ho, Int.ofNat_inj.1 e])
    clear h2 ho
    go_enter Try.func20, Try.ntmps20
    go_wp2_with fail
    generalize (w.alloc (.cells #[.int .u8 3, .int .u8 (key : Nat), .int .u16 (val : Nat), .int .u16 (old : Nat)] 38)) = wb at *
    go_quiet (fail)
    go_wp2_with fail
    refine bodyPost_ret (v := .tuple #[]) (by simp [results, Try.results20, go_sem]) rfl ?_
    exact HF.out _

/-- A command that is done. -/
theorem rdo_any (w : World) (b : Nat) (m : Option Nat) (t : T) (n k : Nat) (h : RepIn w b m t n k) (hk : k ≤ 1000000) (c : Cmd) (hc : CmdIn c) (hd : doneB c = true) :
    Calls Try.prog 20 #[repV b, cmdV14 c] w (DoP14 w b m (applyT t c) n (k + 1)) := by
  obtain ⟨h0, h7, h3⟩ := of_decide_eq_true hd
  rcases (show c.kind = 1 ∨ c.kind = 2 ∨ c.kind = 3 by omega) with h1 | h1 | h1
  · rw [(put_apply (t := t) (.inl h1) h7).1]
    exact rdo_set w b m t n k h hk c hc h7 h1
  · rw [(drop_apply (t := t) h1 h7).1]
    exact (rdo_drop w b m t n k h c h7 h1).mono fun e w' h2 => ⟨h2.1, h2.2.mono (Nat.le_succ k)⟩
  · by_cases h2 : tat t c.key = some c.old
    · rw [(put_apply (t := t) (.inr ⟨h1, h2⟩) h7).1]
      exact rdo_swap w b m t n k h hk c hc h7 h1 h2
    · rw [(swap_no h.len h1 h7 h2).1]
      exact (rdo_stay w b m t n k h c h7 h1 h2).mono fun e w' h2 => ⟨h2.1, h2.2.mono (Nat.le_succ k)⟩
end Go.Proofs.Ytcibnjcnbocbdaa
