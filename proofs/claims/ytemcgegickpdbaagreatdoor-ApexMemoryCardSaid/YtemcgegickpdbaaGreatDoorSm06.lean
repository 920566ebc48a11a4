/- ApexMemory: every input is answered with true. Conditions: where the acts lie; errors.errorType holds the type error. -/
import Derived.Test.YtemcgegickpdbaaGreatDoorSm05
import Derived.Test.YtemcgegickpdbaaGreatDoorSl29
import Derived.Test.YtemcgegickpdbaaGreatDoorSm03
namespace Go.Proofs.YtemcgegickpdbaaGreatDoor
open Go.RowKit
set_option maxRecDepth 100000

def MemP (W : World) (l : List Nat) (e : Ending) (w' : World) : Prop := ∃ g cap, e = .returned (.slice (some ⟨g, 0, none⟩) 5 cap) ∧ w'.ownsRow W.heap.size 42 1 (.slice (some ⟨g, 0, none⟩) 5 cap) 5 (wordV l) ∧ Below W.heap.size W w'
theorem mem5_any {W : World} {B pb part : Nat} {budget : Int} {wv : Value} {mem : List Nat} (h : PartIn W B pb part budget wv mem) (hl : mem.length = 5) : Calls Tryz.prog 22 #[.pointer (some ⟨pb, 0, none⟩)] W (MemP W mem) := by
  refine (memory_any h).mono ?_
  rintro e w' ⟨v, rfl, h1, h2⟩
  rw [hl] at h1
  rcases h1.2 with ⟨rfl, h0⟩ | ⟨g, cap, cur, rfl, -⟩
  · exact absurd h0 (by decide)
  · exact ⟨g, cap, rfl, h1, h2⟩
theorem row_win {W : World} {B g cap : Nat} {l : List Nat} (h : W.ownsRow B 42 1 (.slice (some ⟨g, 0, none⟩) 5 cap) 5 (wordV l)) (hl : l.length = 5) : WIn W (some ⟨g, 0, none⟩) l := by
  obtain ⟨A, c, e, h1⟩ := own_words h hl
  injection e with e1
  rw [e1]; exact h1
theorem win_made (W : World) : WIn (W.alloc (.cells #[.int .u16 0, .int .u16 0, .int .u16 0, .int .u16 0, .int .u16 0] 42)) (some ⟨W.heap.size, 0, none⟩) (List.replicate 5 0) := row_win (words_made (w := W) (B := W.heap.size) (n := 5) (Nat.le_refl _) (by decide)) rfl
theorem gw_win {w W : World} {B : Nat} {c : TableP.Cfg} {h0 h : HostC} {st : ApeP.AS} {pb : Nat} {wv : Value} {hb gw : Nat} {want : List Nat} (m : MemI w W B c h0 h st pb wv hb gw want) : WIn W (some ⟨gw, 0, none⟩) want := row_win m.want m.wlen
theorem same5_any {l : List Nat} (hl : l.length = 5) (A1 : Option Addr) (c1 : Nat) (A2 : Option Addr) (c2 : Nat) (W : World) (g1 : WIn W A1 l) (g2 : WIn W A2 l) : Calls Tryz.prog 21 #[.slice A1 5 c1, .slice A2 5 c2] W (SameP true W) := by
  have h1 := sameWords_any A1 5 c1 l hl A2 5 c2 l hl (by decide) W g1 g2
  rwa [decide_eq_true rfl] at h1
def MeR (w : World) (B : Nat) (c : TableP.Cfg) (h0 : HostC) (pb : Nat) (wv : Value) (hb gw n : Nat) (vi : Value) (W : World) : Prop := ∃ (k : Nat) (h : HostC) (st : ApeP.AS), k ≤ n ∧ k ≤ 100 ∧ vi = .int .i64 (k : Nat) ∧ MemI w W B c h0 h st pb wv hb gw st.mem
/-- The loop that writes into the copy. -/
def MlR (_wa w0 : World) (gm cm : Nat) (vi : Value) (W : World) : Prop := ∃ (j : Nat) (l : List Nat), j ≤ 5 ∧ vi = .int .i64 (j : Nat) ∧ l.length = 5 ∧ W.ownsRow w0.heap.size 42 1 (.slice (some ⟨gm, 0, none⟩) 5 cm) 5 (wordV l) ∧ Below w0.heap.size w0 W
def MiR (w9 : World) (vi : Value) (W : World) : Prop := ∃ j : Nat, j ≤ 2 ∧ vi = .int .i64 (j : Nat) ∧ Below w9.heap.size w9 W
set_option maxHeartbeats 16000000 in
theorem memory_law (A : Option Addr) (n cap : Nat) (l : List PairC) (hl : l.length = n) (hn : n * 16 ≤ 140737488355328) (w : World) (hg : HasType w) (hi : ItemsIn pairVals 2 w A l) (ho : ∀ x ∈ l, PairOk x) : Calls Tryz.prog 5 #[.slice A n cap] w (HTrue w) := by
  have HAw := Lib.hid (awake16_any w hg)
  have HG0 := Lib.hid hg
  have HI := Lib.hid hi
  have HO := Lib.hid ho
  have HNl := Lib.hid hl
  have Hn := Lib.hid hn
  clear hg hi ho hl hn
  go_enter Tryz.func5, Tryz.ntmps5
  go_wp2_with fail
  refine HAw.out.mono ?_
  rintro e w1 ⟨rfl, hb1⟩
  have Hb1 := Lib.hid hb1
  have HG1 := Lib.hid (HG0.out.keep (hb1.block 0 HG0.out.pos))
  clear hb1 HAw
  go_wp2_with fail
  refine (wired_any w1).mono ?_
  rintro e w2 ⟨rfl, hwi, hbw⟩
  obtain ⟨N, hN⟩ : ∃ N, N = w1.heap.size + 2 := ⟨_, rfl⟩
  rw [← hN] at hwi ⊢
  simp only [wC, CfgC.value]
  have hq2 := WirQ.of hwi
  have hb3 : Below w2.heap.size w2 (w2.alloc (.cells #[.int .i64 2, .int .i64 0, .int .i64 1000, .int .i64 500, .int .i64 0, .int .i64 0, .int .i64 0, .int .i64 98, .slice (some ⟨N, 0, none⟩) 2 2, .slice (some ⟨N + 1, 0, none⟩) 4 4, .slice (some ⟨N + 2, 0, none⟩) 2 2] 26)) := (Below.refl _ _).alloc (Nat.le_refl _) _
  have hq00 : WirQ (w2.alloc (.cells #[.int .i64 2, .int .i64 0, .int .i64 1000, .int .i64 500, .int .i64 0, .int .i64 0, .int .i64 0, .int .i64 98, .slice (some ⟨N, 0, none⟩) 2 2, .slice (some ⟨N + 1, 0, none⟩) 4 4, .slice (some ⟨N + 2, 0, none⟩) 2 2] 26)) N (wPs 9 2 0 0 0 0) := hq2.below hb3
  have hbox00 : (w2.alloc (.cells #[.int .i64 2, .int .i64 0, .int .i64 1000, .int .i64 500, .int .i64 0, .int .i64 0, .int .i64 0, .int .i64 98, .slice (some ⟨N, 0, none⟩) 2 2, .slice (some ⟨N + 1, 0, none⟩) 4 4, .slice (some ⟨N + 2, 0, none⟩) 2 2] 26)).heap[w2.heap.size]? = some (.cells #[.int .i64 2, .int .i64 0, .int .i64 1000, .int .i64 500, .int .i64 0, .int .i64 0, .int .i64 0, .int .i64 98, .slice (some ⟨N, 0, none⟩) 2 2, .slice (some ⟨N + 1, 0, none⟩) 4 4, .slice (some ⟨N + 2, 0, none⟩) 2 2] 26 (0, 0)) := newAt _ _
  have hNb : N < w2.heap.size := lt_of_block hq2.parts
  have hbw0 := Hb1.out.trans (hbw.mono Hb1.out.size)
  have hbw3 : Below w.heap.size w (w2.alloc (.cells #[.int .i64 2, .int .i64 0, .int .i64 1000, .int .i64 500, .int .i64 0, .int .i64 0, .int .i64 0, .int .i64 98, .slice (some ⟨N, 0, none⟩) 2 2, .slice (some ⟨N + 1, 0, none⟩) 4 4, .slice (some ⟨N + 2, 0, none⟩) 2 2] 26)) := hbw0.trans (hb3.mono hbw0.size)
  have hN1 : w1.heap.size ≤ N := by omega
  have hg3 : HasType (w2.alloc (.cells #[.int .i64 2, .int .i64 0, .int .i64 1000, .int .i64 500, .int .i64 0, .int .i64 0, .int .i64 0, .int .i64 98, .slice (some ⟨N, 0, none⟩) 2 2, .slice (some ⟨N + 1, 0, none⟩) 4 4, .slice (some ⟨N + 2, 0, none⟩) 2 2] 26)) := HG1.out.keep ((hbw.trans (hb3.mono hbw.size)).block 0 HG1.out.pos)
  have hq2l := hb3.size
  have hbl := hbw.size
  clear hN
  go_upto_region 4 with (fail)
  generalize (w2.alloc (.cells #[.int .i64 2, .int .i64 0, .int .i64 1000, .int .i64 500, .int .i64 0, .int .i64 0, .int .i64 0, .int .i64 98, .slice (some ⟨N, 0, none⟩) 2 2, .slice (some ⟨N + 1, 0, none⟩) 4 4, .slice (some ⟨N + 2, 0, none⟩) 2 2] 26)) = w3 at *
  have hq0 := hq00
  have hbox0 := hbox00
  have hfz : ∀ j, w3.frozen? ⟨N, j, none⟩ = false := fun j => free_at hq0.parts j
  have hne : w2.heap.size ≠ N := by omega
  have kb8 : ∀ W : World, W.heap[w2.heap.size]? = some (.cells #[.int .i64 2, .int .i64 0, .int .i64 1000, .int .i64 500, .int .i64 0, .int .i64 0, .int .i64 0, .int .i64 98, .slice (some ⟨N, 0, none⟩) 2 2, .slice (some ⟨N + 1, 0, none⟩) 4 4, .slice (some ⟨N + 2, 0, none⟩) 2 2] 26 (0, 0)) → W.cell? ⟨w2.heap.size, 8, none⟩ = some (.slice (some ⟨N, 0, none⟩) 2 2) := fun W hW => cell_at hW 8 rfl
  have hd0 : w3.drew.heap[w2.heap.size]? = some (.cells #[.int .i64 2, .int .i64 0, .int .i64 1000, .int .i64 500, .int .i64 0, .int .i64 0, .int .i64 0, .int .i64 98, .slice (some ⟨N, 0, none⟩) 2 2, .slice (some ⟨N + 1, 0, none⟩) 4 4, .slice (some ⟨N + 2, 0, none⟩) 2 2] 26 (0, 0)) := hbox0
  have kp3 : w3.cell? ⟨N, 3, none⟩ = some (.int .i64 9) := hq0.cell 3 rfl
  have kp4 : w3.cell? ⟨N, 4, none⟩ = some (.int .i64 2) := hq0.cell 4 rfl
  have hd1 : (w3.setCell ⟨N, 3, none⟩ (.int .i64 64)).drew.heap[w2.heap.size]? = some (.cells #[.int .i64 2, .int .i64 0, .int .i64 1000, .int .i64 500, .int .i64 0, .int .i64 0, .int .i64 0, .int .i64 98, .slice (some ⟨N, 0, none⟩) 2 2, .slice (some ⟨N + 1, 0, none⟩) 4 4, .slice (some ⟨N + 2, 0, none⟩) 2 2] 26 (0, 0)) := (Below.heap_setCell _ _ _ _ hne).trans hbox0
  refine wp_region_L_drew (st := 9) (S := fun W => W.heap[w2.heap.size]? = some (.cells #[.int .i64 2, .int .i64 0, .int .i64 1000, .int .i64 500, .int .i64 0, .int .i64 0, .int .i64 0, .int .i64 98, .slice (some ⟨N, 0, none⟩) 2 2, .slice (some ⟨N + 1, 0, none⟩) 4 4, .slice (some ⟨N + 2, 0, none⟩) 2 2] 26 (0, 0))) (by kernel_rfl) hd0 (fun _ => ?_)
  refine tkL 0 (by simp only [tkA]; rfl) (by kernel_rfl) (by exact fun _ _ _ h => h) (by rfl) (by intro W hW; go_simp <;> with_reducible rfl) hd0 ?_
  try simp only [Act.put, tkT, tk0, tkS]
  refine tkL 1 (by simp only [tkA, tkG]; rfl) (by kernel_rfl) (by exact fun _ _ _ h => h) (by rfl) (by intro W hW; go_simp <;> with_reducible rfl) hd0 ?_
  try simp only [Act.put, tkT, tk0, tkS]
  refine tkL 2 (by simp only [tkA, tkG]; rfl) (by kernel_rfl) (by exact fun _ _ _ h => h) (by rfl) (by intro W hW; go_simp <;> with_reducible rfl) hd0 ?_
  try simp only [Act.put, tkT, tk0, tkS]
  refine tkL 3 (by simp only [tkA, tkG]; rfl) (by kernel_rfl) (by exact fun _ _ _ h => h) (by rfl) (by intro W hW; go_simp <;> with_reducible rfl) hd0 ?_
  try simp only [Act.put, tkT, tk0, tkS]
  refine tkL 4 (by simp only [tkA, tkG]; rfl) (by kernel_rfl) (by exact fun _ _ _ h => h) (by rfl) (by intro W hW; go_simp <;> with_reducible rfl) hd0 ?_
  try simp only [Act.put, tkT, tk0, tkS]
  refine tkL 5 (by simp only [tkA, tkG]; rfl) (by kernel_rfl) (by exact fun _ _ _ h => h) (by rfl) (by intro W hW; go_simp <;> with_reducible rfl) hd0 ?_
  try simp only [Act.put, tkT, tk0, tkS]
  refine wpAnyL_one (k := 6) (by kernel_rfl) (by simp only [tkA, tkG]; rfl) (fun K hK => ?_)
  go_simp
  go_wp2_with fail
  refine hK.out _ _ (fun _ => hd1) ?_
  clear hK K
  refine tkL 7 (by simp only [tkA, tkG]; rfl) (by kernel_rfl) (by exact fun _ _ _ h => h) (by rfl) (by intro W hW; go_simp <;> with_reducible rfl) hd1 ?_
  try simp only [Act.put, tkT, tk0, tkS]
  refine tkL 8 (by simp only [tkA, tkG]; rfl) (by kernel_rfl) (by exact fun _ _ _ h => h) (by rfl) (by intro W hW; go_simp <;> with_reducible rfl) hd1 ?_
  try simp only [Act.put, tkT, tk0, tkS]
  refine wpAnyL_last (k := 9) (by kernel_rfl) (by simp only [tkA, tkG]; rfl) (fun K hK => ?_)
  go_simp
  go_wp2_with fail
  refine hK.out _ _ ?_
  clear hK K
  refine wpAnyL_done (by kernel_rfl) ?_ _
  clear kb8 hd0 hd1 kp3 kp4
  have hq0b : WirQ ((w3.setCell ⟨N, 3, none⟩ (.int .i64 64)).setCell ⟨N, 4, none⟩ (.int .i64 5)).drew N (wPs 64 5 0 0 0 0) := by
    have h1 : WirQ ((w3.setCell ⟨N, 3, none⟩ (.int .i64 64)).setCell ⟨N, 4, none⟩ (.int .i64 5)) N (wPs 64 5 0 0 0 0) := WirQ.set (ps := wPs 64 2 0 0 0 0) (hq0.set 3 (.int .i64 64) rfl) 4 (.int .i64 5) rfl
    exact ⟨h1.parts, h1.ports, h1.routes⟩
  have hbox0b : ((w3.setCell ⟨N, 3, none⟩ (.int .i64 64)).setCell ⟨N, 4, none⟩ (.int .i64 5)).drew.heap[w2.heap.size]? = some (.cells #[.int .i64 2, .int .i64 0, .int .i64 1000, .int .i64 500, .int .i64 0, .int .i64 0, .int .i64 0, .int .i64 98, .slice (some ⟨N, 0, none⟩) 2 2, .slice (some ⟨N + 1, 0, none⟩) 4 4, .slice (some ⟨N + 2, 0, none⟩) 2 2] 26 (0, 0)) := (Below.heap_setCell _ _ _ _ hne).trans ((Below.heap_setCell _ _ _ _ hne).trans hbox0)
  have hstb : Below w1.heap.size w3 ((w3.setCell ⟨N, 3, none⟩ (.int .i64 64)).setCell ⟨N, 4, none⟩ (.int .i64 5)).drew := ((((Apart.refl (fun k => k = N) _).setCell (p := ⟨N, _, none⟩) (.inl rfl) _).setCell (p := ⟨N, _, none⟩) (.inl rfl) _).below (Nat.le_trans hbl hq2l) fun k e => by omega).drew
  have hbw3b : Below w.heap.size w ((w3.setCell ⟨N, 3, none⟩ (.int .i64 64)).setCell ⟨N, 4, none⟩ (.int .i64 5)).drew := hbw3.trans (hstb.mono Hb1.out.size)
  have hg3b : HasType ((w3.setCell ⟨N, 3, none⟩ (.int .i64 64)).setCell ⟨N, 4, none⟩ (.int .i64 5)).drew := hg3.keep (hstb.block 0 HG1.out.pos)
  have hfzb : ∀ j, ((w3.setCell ⟨N, 3, none⟩ (.int .i64 64)).setCell ⟨N, 4, none⟩ (.int .i64 5)).drew.frozen? ⟨N, j, none⟩ = false := fun j => free_at hq0b.parts j
  have hq2lb : w2.heap.size ≤ ((w3.setCell ⟨N, 3, none⟩ (.int .i64 64)).setCell ⟨N, 4, none⟩ (.int .i64 5)).drew.heap.size := Nat.le_trans hq2l hstb.size
  clear hstb
  clear hq0 hbox0 hbw3 hg3 hfz hq2l hq00 hbox00
  generalize ((w3.setCell ⟨N, 3, none⟩ (.int .i64 64)).setCell ⟨N, 4, none⟩ (.int .i64 5)).drew = w3b at *
  have hq0 := hq0b
  have hbox0 := hbox0b
  have hbw3 := hbw3b
  have hg3 := hg3b
  have hfz := hfzb
  have hq2l := hq2lb
  have hq00 := hq0b
  have hbox00 := hbox0b
  clear hq0b hbox0b hbw3b hg3b hfzb hq2lb
  have hq : WirQ w3b N (wPs 64 5 0 0 0 0) := hq0
  have hbox4 : w3b.heap[w2.heap.size]? = some (.cells #[.int .i64 2, .int .i64 0, .int .i64 1000, .int .i64 500, .int .i64 0, .int .i64 0, .int .i64 0, .int .i64 98, .slice (some ⟨N, 0, none⟩) 2 2, .slice (some ⟨N + 1, 0, none⟩) 4 4, .slice (some ⟨N + 2, 0, none⟩) 2 2] 26 (0, 0)) := hbox0
  have hst : Below w1.heap.size w3b w3b := by
    have hA : Apart (fun k => k = N) w3b w3b := by
      first
      | exact Apart.refl _ _
      | exact (Apart.refl (fun k => k = N) _).setCell (p := ⟨N, _, none⟩) (.inl rfl) _
      | exact ((Apart.refl (fun k => k = N) _).setCell (p := ⟨N, _, none⟩) (.inl rfl) _).setCell (p := ⟨N, _, none⟩) (.inl rfl) _
      | exact ((((Apart.refl (fun k => k = N) _).setCell (p := ⟨N, _, none⟩) (.inl rfl) _).setCell (p := ⟨N, _, none⟩) (.inl rfl) _).setCell (p := ⟨N, _, none⟩) (.inl rfl) _).setCell (p := ⟨N, _, none⟩) (.inl rfl) _
      | exact (((((Apart.refl (fun k => k = N) _).setCell (p := ⟨N, _, none⟩) (.inl rfl) _).setCell (p := ⟨N, _, none⟩) (.inl rfl) _).setCell (p := ⟨N, _, none⟩) (.inl rfl) _).setCell (p := ⟨N, _, none⟩) (.inl rfl) _).setCell (p := ⟨N, _, none⟩) (.inl rfl) _
    exact hA.below (Nat.le_trans hbl hq2l) fun k e => by omega
  have hb4 : Below w.heap.size w w3b := hbw3.trans (hst.mono Hb1.out.size)
  have hg4 : HasType w3b := hg3.keep (hst.block 0 HG1.out.pos)
  have HNb := Lib.hid hNb
  have HQ := Lib.hid hq
  have HBox := Lib.hid hbox4
  have HB4 := Lib.hid hb4
  have HG4 := Lib.hid hg4
  clear hN1 hwi hq2 hb3 hq0 hq00 hbox00 hq2l hbl hbw hbw0 hbw3 hg3 hst hb4 hg4 hq hbox4 hbox0
  go_upto_region 5 with (fail)
  clear hfz
  generalize w3b = w4 at *
  have H4z := Lib.hid HG4.out.pos
  have hbox4 := HBox.out
  have bx0 := cell_at hbox4 0 rfl
  have bx1 := cell_at hbox4 1 rfl
  have bx2 := cell_at hbox4 2 rfl
  have bx3 := cell_at hbox4 3 rfl
  have bx4 := cell_at hbox4 4 rfl
  have bx5 := cell_at hbox4 5 rfl
  have bx6 := cell_at hbox4 6 rfl
  have bx7 := cell_at hbox4 7 rfl
  have bx8 := cell_at hbox4 8 rfl
  have bx9 := cell_at hbox4 9 rfl
  have bx10 := cell_at hbox4 10 rfl
  have HHost : Hid (Calls Tryz.prog 11 #[.agg #[.int .i64 2, .int .i64 0, .int .i64 1000, .int .i64 500, .int .i64 0, .int .i64 0, .int .i64 0, .int .i64 98, .slice (some ⟨N, 0, none⟩) 2 2, .slice (some ⟨N + 1, 0, none⟩) 4 4, .slice (some ⟨N + 2, 0, none⟩) 2 2], .int .i64 0] w4 (HostP w4 (cQ (wPs 64 5 0 0 0 0)) 0)) := Lib.hid (qhost_any N (wPs 64 5 0 0 0 0) rfl qok_m w4 HQ.out)
  clear hbox4
  go_wp2_with fail
  clear bx0 bx1 bx2 bx3 bx4 bx5 bx6 bx7 bx8 bx9 bx10
  refine HHost.out.mono ?_
  rintro e w5 ⟨h, rfl, hh, hb5⟩
  have hb56 : Below w5.heap.size w5 (w5.alloc (.cells #[.pointer (some ⟨h.x.a, 0, none⟩), .pointer (some ⟨h.tb, 0, none⟩), .pointer (some ⟨h.mb, 0, none⟩), .pointer (some ⟨h.cb, 0, none⟩)] 36)) := (Below.refl _ _).alloc (Nat.le_refl _) _
  have hbx5 : (w5.alloc (.cells #[.pointer (some ⟨h.x.a, 0, none⟩), .pointer (some ⟨h.tb, 0, none⟩), .pointer (some ⟨h.mb, 0, none⟩), .pointer (some ⟨h.cb, 0, none⟩)] 36)).heap[w5.heap.size]? = some (.cells #[.pointer (some ⟨h.x.a, 0, none⟩), .pointer (some ⟨h.tb, 0, none⟩), .pointer (some ⟨h.mb, 0, none⟩), .pointer (some ⟨h.cb, 0, none⟩)] 36 (0, 0)) := newAt _ _
  have HHs := Lib.hid (hh.below hb56)
  have HHb := Lib.hid hbx5
  have hb46 := hb5.trans (hb56.mono hb5.size)
  have HB46 := Lib.hid hb46
  have HB6 := Lib.hid (HB4.out.trans (hb46.mono HB4.out.size))
  have HQ6 := Lib.hid (HQ.out.below hb46)
  have HBox6 := Lib.hid ((hb46.block _ (lt_of_block HBox.out)).trans HBox.out)
  have HG6 := Lib.hid (HG4.out.keep (hb46.block 0 HG4.out.pos))
  have H45 := Lib.hid hb5.size
  clear hh hb5 hb56 hbx5 hb46 HHost HQ HBox HG4
  simp only [hostV]
  go_upto_region 6 with (fail)
  generalize (w5.alloc (.cells #[.pointer (some ⟨h.x.a, 0, none⟩), .pointer (some ⟨h.tb, 0, none⟩), .pointer (some ⟨h.mb, 0, none⟩), .pointer (some ⟨h.cb, 0, none⟩)] 36)) = w6 at *
  have hbox4 := HBox6.out
  have bx0 := cell_at hbox4 0 rfl
  have bx1 := cell_at hbox4 1 rfl
  have bx2 := cell_at hbox4 2 rfl
  have bx3 := cell_at hbox4 3 rfl
  have bx4 := cell_at hbox4 4 rfl
  have bx5 := cell_at hbox4 5 rfl
  have bx6 := cell_at hbox4 6 rfl
  have bx7 := cell_at hbox4 7 rfl
  have bx8 := cell_at hbox4 8 rfl
  have bx9 := cell_at hbox4 9 rfl
  have bx10 := cell_at hbox4 10 rfl
  have HNew : Hid (Calls Tryz.prog 14 #[.agg #[.int .i64 2, .int .i64 0, .int .i64 1000, .int .i64 500, .int .i64 0, .int .i64 0, .int .i64 0, .int .i64 98, .slice (some ⟨N, 0, none⟩) 2 2, .slice (some ⟨N + 1, 0, none⟩) 4 4, .slice (some ⟨N + 2, 0, none⟩) 2 2], .int .i64 0] w6 (QNew w6 64 5)) := Lib.hid (qnew_any N 64 5 0 0 0 0 (by decide) w6 HQ6.out)
  clear hbox4
  go_wp2_with fail
  clear bx0 bx1 bx2 bx3 bx4 bx5 bx6 bx7 bx8 bx9 bx10
  refine HNew.out.mono ?_
  rintro e w7 ⟨pb, wv, rfl, hp, hb7⟩
  have HP7 := Lib.hid (hp.low16 HB46.out.size)
  have HH7 := Lib.hid (HHs.out.below hb7)
  have HHb7 := Lib.hid ((hb7.block _ (lt_of_block HHb.out)).trans HHb.out)
  have HB7 := Lib.hid (HB6.out.trans (hb7.mono HB6.out.size))
  have HQ7 := Lib.hid (HQ6.out.below hb7)
  have HBox7 := Lib.hid ((hb7.block _ (lt_of_block HBox6.out)).trans HBox6.out)
  have HG7 := Lib.hid (HG6.out.keep (hb7.block 0 HG6.out.pos))
  have HB47 := Lib.hid (HB46.out.trans (hb7.mono HB46.out.size))
  clear hp hb7 HNew HHs HHb HB6 HQ6 HBox6 HG6
  go_upto_region 9 with (fail)
  have hmk : ∀ W : World, (Instr.makeSlice 62 (.int .i64 5) (.int .i64 5)).run Tryz.prog W = .ok (.slice (some ⟨W.heap.size, 0, none⟩) 5 5) (W.alloc (.cells #[.int .u16 0, .int .u16 0, .int .u16 0, .int .u16 0, .int .u16 0] 42)) := fun W => make_words 5 (by decide) W
  have hb8 : Below w7.heap.size w7 (w7.alloc (.cells #[.int .u16 0, .int .u16 0, .int .u16 0, .int .u16 0, .int .u16 0] 42)) := (Below.refl _ _).alloc (Nat.le_refl _) _
  have hm8 : MemI w (w7.alloc (.cells #[.int .u16 0, .int .u16 0, .int .u16 0, .int .u16 0, .int .u16 0] 42)) w4.heap.size (cQ (wPs 64 5 0 0 0 0)) h h (⟨List.replicate 5 0, PorP.start (cQ (wPs 64 5 0 0 0 0)), HeaP.Mon.start 2, ⟨0, 0, 0, 0⟩⟩ : ApeP.AS) pb wv w5.heap.size w7.heap.size (⟨List.replicate 5 0, PorP.start (cQ (wPs 64 5 0 0 0 0)), HeaP.Mon.start 2, ⟨0, 0, 0, 0⟩⟩ : ApeP.AS).mem :=
    ⟨HH7.out.below hb8, HP7.out.below hb8, rfl, rfl, rfl, words_made HB47.out.size (by decide), fun e => by have := ((Seg.of_own HP7.out.row).lt _ e).2; omega, (hb8.block _ (lt_of_block HHb7.out)).trans HHb7.out, HB7.out.trans (hb8.mono HB7.out.size), HG7.out.keep (hb8.block 0 HG7.out.pos)⟩
  have Hm8 := Lib.hid hm8
  clear hb8 hm8
  go_upto_region 10 with (fail)
  clear hmk
  generalize (w7.alloc (.cells #[.int .u16 0, .int .u16 0, .int .u16 0, .int .u16 0, .int .u16 0] 42)) = w8 at *
  have HS0 : Hid (MeR w w4.heap.size (cQ (wPs 64 5 0 0 0 0)) h pb wv w5.heap.size w7.heap.size n (.int .i64 0) w8) := Lib.hid ⟨0, h, (⟨List.replicate 5 0, PorP.start (cQ (wPs 64 5 0 0 0 0)), HeaP.Mon.start 2, ⟨0, 0, 0, 0⟩⟩ : ApeP.AS), Nat.zero_le _, Nat.zero_le _, rfl, Hm8.out⟩
  clear Hm8 HH7 HP7 HHb7
  go_wp2_with fail
  go_loopw [9] (MeR w w4.heap.size (cQ (wPs 64 5 0 0 0 0)) h pb wv w5.heap.size w7.heap.size n) (fun i _ => (n + 1 - intOf i).toNat)
  case atStart => exact HS0.out
  case round =>
    clear HS0
    obtain ⟨k, h', st, hkn, hk100, rfl, hm⟩ := hrel
    have hle : w.heap.size ≤ w4.heap.size := HB4.out.size
    have hNl := HNl.out
    have hNn := Hn.out
    by_cases hlt : k < n
    case neg =>
      have p1 : decide ((k : Int) < (n : Int)) = false := decide_eq_false (by omega)
      have p2 : decide (k < n) = false := decide_eq_false hlt
      generalize wr = wo at *
      have hle : w.heap.size ≤ w4.heap.size := HB4.out.size
      have hwin : WIn wo (some ⟨w7.heap.size, 0, none⟩) st.mem := gw_win hm
      have hB0 := H4z.out
      have HM := Lib.hid hm
      have HMem : Hid (∀ W, Below wo.heap.size wo W → Calls Tryz.prog 22 #[.pointer (some ⟨pb, 0, none⟩)] W (MemP W st.mem)) := Lib.hid fun W hW => mem5_any (hm.below' hW).part hm.len
      have HSm : Hid (∀ A1 c1 A2 c2 W, WIn W A1 st.mem → WIn W A2 st.mem → Calls Tryz.prog 21 #[.slice A1 5 c1, .slice A2 5 c2] W (SameP true W)) := Lib.hid (same5_any hm.len)
      have HWin := Lib.hid hwin
      have HClr : Hid (∀ W, Below wo.heap.size wo W → Calls Tryz.prog 16 #[.pointer (some ⟨pb, 0, none⟩)] W (ClrP W w4.heap.size pb 0 64 wv 5)) := Lib.hid fun W hW => clear_any (hm.below' hW).part hm.len
      clear hm hwin hle hB0
      go_wp2_with fail
      refine (HMem.out _ (Below.refl _ _)).mono ?_
      rintro e wa ⟨gm, cm, rfl, hrow, hba⟩
      have Hba := Lib.hid hba
      have HT0 : Hid (MlR wa wo gm cm (.int .i64 0) wa) := Lib.hid ⟨0, st.mem, Nat.zero_le _, rfl, HM.out.len, hrow, hba⟩
      clear hrow hba
      go_wp2_with fail
      go_loopw [140] (MlR wa wo gm cm) (fun i _ => (5 + 1 - intOf i).toNat)
      case atStart => exact HT0.out
      case round =>
        clear HT0
        obtain ⟨j, lm, hj, rfl, hlm, hrow, hbl⟩ := hrel
        by_cases hlt : j < 5
        case pos =>
          have p1 : decide ((j : Int) < 5) = true := decide_eq_true (by omega)
          have p2 : decide (j < 5) = true := decide_eq_true hlt
          have e8 : IntKind.i64.wrap ((j : Int) + 1) = (j : Int) + 1 := IntWalk.i64_in _ (by omega)
          have f1 := hrow.frozenAt j
          have c1 : wr.cell? ⟨gm, j, none⟩ = some (.int .u16 (lm[j]?.getD 0 : Nat)) := by rw [hrow.cellAt j (by omega), wordV_get (by omega)]
          have HN : Hid (MlR wa wo gm cm (.int .i64 ((j : Int) + 1)) (wr.setCell ⟨gm, j, none⟩ (.int .u16 999))) := Lib.hid (by
            refine ⟨j + 1, lm.set j 999, hlt, by go_num, by rw [List.length_set]; exact hlm, by rw [wordV_set]; exact (hrow.stored j (.int .u16 ((999 : Nat) : Int))).1, hbl.trans ?_⟩
            have hg := ((Seg.of_own hrow).lt gm rfl)
            exact ((Apart.refl (fun k => k = gm) _).setCell (p := ⟨gm, j, none⟩) (.inl rfl) _).below (Nat.le_trans hg.1 (Nat.le_of_lt hg.2)) fun k e => by rw [e]; exact hg.1)
          clear hrow hbl hlm
          go_wp2_with fail
          go_roundw
          case rel => exact HN.out
          case measure => simp [intOf]; omega
        case neg =>
          have p1 : decide ((j : Int) < 5) = false := decide_eq_false (by omega)
          have p2 : decide (j < 5) = false := decide_eq_false hlt
          have Hbl := Lib.hid hbl
          clear hrow hbl hlm
          go_wp2_with fail
          refine (HMem.out _ Hbl.out).mono ?_
          rintro e wb ⟨gm2, cm2, rfl, hrow2, hbb⟩
          have Hbb := Lib.hid (Hbl.out.trans (hbb.mono Hbl.out.size))
          have HS1 := Lib.hid (HSm.out (some ⟨gm2, 0, none⟩) cm2 (some ⟨w7.heap.size, 0, none⟩) 5 wb (row_win hrow2 HM.out.len) (HWin.out.below (Hbl.out.trans (hbb.mono Hbl.out.size))))
          clear hrow2 hbb
          go_wp2_with fail
          refine HS1.out.mono ?_
          rintro e wc ⟨rfl, hbc⟩
          have Hbc := Lib.hid (Hbb.out.trans (hbc.mono Hbb.out.size))
          clear hbc HS1
          go_wp2_with fail
          refine (HClr.out _ Hbc.out).mono ?_
          rintro e wd ⟨rfl, hpd, had⟩
          have hbd : Below w.heap.size w wd := by
            have h1 : Below w4.heap.size wc wd := had.below (Nat.le_trans (by have := HB47.out.size; have := HM.out.gwAt.2.1; omega) Hbc.out.size) fun k hk => ((HM.out.part.fTag hk).1)
            exact (HM.out.below.trans (Hbc.out.mono HM.out.below.size)).trans (h1.mono HB4.out.size)
          have HMem5 : Hid (∀ W, Below wd.heap.size wd W → Calls Tryz.prog 22 #[.pointer (some ⟨pb, 0, none⟩)] W (MemP W (List.replicate 5 0))) := Lib.hid fun W hW => mem5_any (hpd.below hW) rfl
          have HSm5 : Hid (∀ A1 c1 A2 c2 W, WIn W A1 (List.replicate 5 0) → WIn W A2 (List.replicate 5 0) → Calls Tryz.prog 21 #[.slice A1 5 c1, .slice A2 5 c2] W (SameP true W)) := Lib.hid (same5_any rfl)
          have HMk : Hid (∀ W : World, WIn (W.alloc (.cells #[.int .u16 0, .int .u16 0, .int .u16 0, .int .u16 0, .int .u16 0] 42)) (some ⟨W.heap.size, 0, none⟩) (List.replicate 5 0)) := Lib.hid fun W => win_made W
          have hmk : ∀ W : World, (Instr.makeSlice 62 (.int .i64 5) (.int .i64 5)).run Tryz.prog W = .ok (.slice (some ⟨W.heap.size, 0, none⟩) 5 5) (W.alloc (.cells #[.int .u16 0, .int .u16 0, .int .u16 0, .int .u16 0, .int .u16 0] 42)) := fun W => make_words 5 (by decide) W
          have Hbd := Lib.hid hbd
          clear hpd had hbd HMem HSm HClr HWin
          go_upto_region 34 with (fail)
          have hd0 : Below w.heap.size w wd.drew := Hbd.out.drew
          have hbq : Below wd.heap.size wd wd.drew := (Below.refl _ _).drew
          refine wp_region_held_drew (S := fun W => Below w.heap.size w W) (by kernel_rfl) hd0 (fun _ => ?_)
          generalize wd.drew = wq at *
          refine tkH 0 (by simp only [tkA]; rfl) (by kernel_rfl) (by exact fun _ _ _ h => h) (by rfl) (by intro W hW; go_simp <;> with_reducible rfl) hd0 ?_
          try simp only [Act.put, tkT, tk0, tkS]
          refine tkH 1 (by simp only [tkA, tkG]; rfl) (by kernel_rfl) (by exact fun _ _ _ h => h) (by rfl) (by intro W hW; go_simp <;> with_reducible rfl) hd0 ?_
          try simp only [Act.put, tkT, tk0, tkS]
          refine tkH 2 (by simp only [tkA, tkG]; rfl) (by kernel_rfl) (by exact fun _ _ _ h => h) (by rfl) (by intro W hW; go_simp <;> with_reducible rfl) hd0 ?_
          try simp only [Act.put, tkT, tk0, tkS]
          refine wpAnyH_ready (rs := [3, 4]) (by kernel_rfl) (by simp) (AllReadyH.cons (by simp only [tkA, tkG]; rfl) (fun K hK => ?_) (AllReadyH.cons (by simp only [tkA, tkG]; rfl) (fun K hK => ?_) AllReadyH.nil))
          · go_simp
            refine (HMem5.out _ hbq).mono ?_
            rintro e w8 ⟨g8, c8, rfl, hr8, hb8⟩
            have hd8 := hd0.trans (hb8.mono hd0.size)
            have hbz : Below w8.heap.size w8 (w8.alloc (.cells #[.int .u16 0, .int .u16 0, .int .u16 0, .int .u16 0, .int .u16 0] 42)) := (Below.refl _ _).alloc (Nat.le_refl _) _
            have HS := Lib.hid (HSm5.out (some ⟨g8, 0, none⟩) c8 (some ⟨w8.heap.size, 0, none⟩) 5 _ ((row_win hr8 rfl).below hbz) (HMk.out w8))
            have hd9 := hd8.trans (hbz.mono hd8.size)
            clear hr8 hb8 hbz HMem5 HSm5 HMk
            go_wp2_with fail
            refine hK.out _ _ hd8 (fun _ => ?_)
            clear hK K
            refine clH 4 (by kernel_rfl) (by simp only [tkA, tkG]; rfl) (fun K hK => ?_)
            go_simp
            go_wp2_with fail
            refine hK.out _ _ hd9 (fun _ => ?_)
            clear hK K
            refine clH 5 (by kernel_rfl) (by simp only [tkA, tkG]; rfl) (fun K hK => ?_)
            go_simp
            refine HS.out.mono ?_
            rintro e w10 ⟨rfl, hb10⟩
            have hd10 := hd9.trans (hb10.mono hd9.size)
            have HF := Lib.hid hd10
            go_wp2_with fail
            refine hK.out _ _ hd10 (fun _ => ?_)
            clear hK K
            refine tkH 6 (by simp only [tkA, tkG]; rfl) (by kernel_rfl) (by exact fun _ _ _ h => h) (by rfl) (by intro W hW; go_simp <;> with_reducible rfl) hd10 ?_
            try simp only [Act.put, tkT, tk0, tkS]
            refine tkH 7 (by simp only [tkA, tkG]; rfl) (by kernel_rfl) (by exact fun _ _ _ h => h) (by rfl) (by intro W hW; go_simp <;> with_reducible rfl) hd10 ?_
            try simp only [Act.put, tkT, tk0, tkS]
            refine wpAnyH_done (by kernel_rfl) ?_ _
            go_wp2_with fail
            go_ret
            exact ⟨rfl, HF.out⟩
          · go_simp
            have hbz : Below wq.heap.size wq (wq.alloc (.cells #[.int .u16 0, .int .u16 0, .int .u16 0, .int .u16 0, .int .u16 0] 42)) := (Below.refl _ _).alloc (Nat.le_refl _) _
            have hd8 := hd0.trans (hbz.mono hd0.size)
            go_wp2_with fail
            refine hK.out _ _ hd8 (fun _ => ?_)
            clear hK K
            refine clH 3 (by kernel_rfl) (by simp only [tkA, tkG]; rfl) (fun K hK => ?_)
            go_simp
            refine (HMem5.out _ (hbq.trans (hbz.mono hbq.size))).mono ?_
            rintro e w8 ⟨g8, c8, rfl, hr8, hb8⟩
            have hd9 := hd8.trans (hb8.mono hd8.size)
            have HS := Lib.hid (HSm5.out (some ⟨g8, 0, none⟩) c8 (some ⟨wq.heap.size, 0, none⟩) 5 _ (row_win hr8 rfl) ((HMk.out wq).below hb8))
            clear hr8 hb8 hbz HMem5 HSm5 HMk
            go_wp2_with fail
            refine hK.out _ _ hd9 (fun _ => ?_)
            clear hK K
            refine clH 5 (by kernel_rfl) (by simp only [tkA, tkG]; rfl) (fun K hK => ?_)
            go_simp
            refine HS.out.mono ?_
            rintro e w10 ⟨rfl, hb10⟩
            have hd10 := hd9.trans (hb10.mono hd9.size)
            have HF := Lib.hid hd10
            go_wp2_with fail
            refine hK.out _ _ hd10 (fun _ => ?_)
            clear hK K
            refine tkH 6 (by simp only [tkA, tkG]; rfl) (by kernel_rfl) (by exact fun _ _ _ h => h) (by rfl) (by intro W hW; go_simp <;> with_reducible rfl) hd10 ?_
            try simp only [Act.put, tkT, tk0, tkS]
            refine tkH 7 (by simp only [tkA, tkG]; rfl) (by kernel_rfl) (by exact fun _ _ _ h => h) (by rfl) (by intro W hW; go_simp <;> with_reducible rfl) hd10 ?_
            try simp only [Act.put, tkT, tk0, tkS]
            refine wpAnyH_done (by kernel_rfl) ?_ _
            go_wp2_with fail
            go_ret
            exact ⟨rfl, HF.out⟩
    case pos =>
      have hlt_ := hlt
      have p1 : decide ((k : Int) < (n : Int)) = true := decide_eq_true (by omega)
      have p2 : decide (k < n) = true := decide_eq_true hlt
      by_cases hlt2 : k < 100
      case neg =>
        have p3 : decide ((k : Int) < 100) = false := decide_eq_false (by omega)
        have p4 : decide (k < 100) = false := decide_eq_false hlt2
        generalize wr = wo at *
        have hle : w.heap.size ≤ w4.heap.size := HB4.out.size
        have hwin : WIn wo (some ⟨w7.heap.size, 0, none⟩) st.mem := gw_win hm
        have hB0 := H4z.out
        have HM := Lib.hid hm
        have HMem : Hid (∀ W, Below wo.heap.size wo W → Calls Tryz.prog 22 #[.pointer (some ⟨pb, 0, none⟩)] W (MemP W st.mem)) := Lib.hid fun W hW => mem5_any (hm.below' hW).part hm.len
        have HSm : Hid (∀ A1 c1 A2 c2 W, WIn W A1 st.mem → WIn W A2 st.mem → Calls Tryz.prog 21 #[.slice A1 5 c1, .slice A2 5 c2] W (SameP true W)) := Lib.hid (same5_any hm.len)
        have HWin := Lib.hid hwin
        have HClr : Hid (∀ W, Below wo.heap.size wo W → Calls Tryz.prog 16 #[.pointer (some ⟨pb, 0, none⟩)] W (ClrP W w4.heap.size pb 0 64 wv 5)) := Lib.hid fun W hW => clear_any (hm.below' hW).part hm.len
        clear hm hwin hle hB0
        go_wp2_with fail
        refine (HMem.out _ (Below.refl _ _)).mono ?_
        rintro e wa ⟨gm, cm, rfl, hrow, hba⟩
        have Hba := Lib.hid hba
        have HT0 : Hid (MlR wa wo gm cm (.int .i64 0) wa) := Lib.hid ⟨0, st.mem, Nat.zero_le _, rfl, HM.out.len, hrow, hba⟩
        clear hrow hba
        go_wp2_with fail
        go_loopw [140] (MlR wa wo gm cm) (fun i _ => (5 + 1 - intOf i).toNat)
        case atStart => exact HT0.out
        case round =>
          clear HT0
          obtain ⟨j, lm, hj, rfl, hlm, hrow, hbl⟩ := hrel
          by_cases hlt : j < 5
          case pos =>
            have p1 : decide ((j : Int) < 5) = true := decide_eq_true (by omega)
            have p2 : decide (j < 5) = true := decide_eq_true hlt
            have e8 : IntKind.i64.wrap ((j : Int) + 1) = (j : Int) + 1 := IntWalk.i64_in _ (by omega)
            have f1 := hrow.frozenAt j
            have c1 : wr.cell? ⟨gm, j, none⟩ = some (.int .u16 (lm[j]?.getD 0 : Nat)) := by rw [hrow.cellAt j (by omega), wordV_get (by omega)]
            have HN : Hid (MlR wa wo gm cm (.int .i64 ((j : Int) + 1)) (wr.setCell ⟨gm, j, none⟩ (.int .u16 999))) := Lib.hid (by
              refine ⟨j + 1, lm.set j 999, hlt, by go_num, by rw [List.length_set]; exact hlm, by rw [wordV_set]; exact (hrow.stored j (.int .u16 ((999 : Nat) : Int))).1, hbl.trans ?_⟩
              have hg := ((Seg.of_own hrow).lt gm rfl)
              exact ((Apart.refl (fun k => k = gm) _).setCell (p := ⟨gm, j, none⟩) (.inl rfl) _).below (Nat.le_trans hg.1 (Nat.le_of_lt hg.2)) fun k e => by rw [e]; exact hg.1)
            clear hrow hbl hlm
            go_wp2_with fail
            go_roundw
            case rel => exact HN.out
            case measure => simp [intOf]; omega
          case neg =>
            have p1 : decide ((j : Int) < 5) = false := decide_eq_false (by omega)
            have p2 : decide (j < 5) = false := decide_eq_false hlt
            have Hbl := Lib.hid hbl
            clear hrow hbl hlm
            go_wp2_with fail
            refine (HMem.out _ Hbl.out).mono ?_
            rintro e wb ⟨gm2, cm2, rfl, hrow2, hbb⟩
            have Hbb := Lib.hid (Hbl.out.trans (hbb.mono Hbl.out.size))
            have HS1 := Lib.hid (HSm.out (some ⟨gm2, 0, none⟩) cm2 (some ⟨w7.heap.size, 0, none⟩) 5 wb (row_win hrow2 HM.out.len) (HWin.out.below (Hbl.out.trans (hbb.mono Hbl.out.size))))
            clear hrow2 hbb
            go_wp2_with fail
            refine HS1.out.mono ?_
            rintro e wc ⟨rfl, hbc⟩
            have Hbc := Lib.hid (Hbb.out.trans (hbc.mono Hbb.out.size))
            clear hbc HS1
            go_wp2_with fail
            refine (HClr.out _ Hbc.out).mono ?_
            rintro e wd ⟨rfl, hpd, had⟩
            have hbd : Below w.heap.size w wd := by
              have h1 : Below w4.heap.size wc wd := had.below (Nat.le_trans (by have := HB47.out.size; have := HM.out.gwAt.2.1; omega) Hbc.out.size) fun k hk => ((HM.out.part.fTag hk).1)
              exact (HM.out.below.trans (Hbc.out.mono HM.out.below.size)).trans (h1.mono HB4.out.size)
            have HMem5 : Hid (∀ W, Below wd.heap.size wd W → Calls Tryz.prog 22 #[.pointer (some ⟨pb, 0, none⟩)] W (MemP W (List.replicate 5 0))) := Lib.hid fun W hW => mem5_any (hpd.below hW) rfl
            have HSm5 : Hid (∀ A1 c1 A2 c2 W, WIn W A1 (List.replicate 5 0) → WIn W A2 (List.replicate 5 0) → Calls Tryz.prog 21 #[.slice A1 5 c1, .slice A2 5 c2] W (SameP true W)) := Lib.hid (same5_any rfl)
            have HMk : Hid (∀ W : World, WIn (W.alloc (.cells #[.int .u16 0, .int .u16 0, .int .u16 0, .int .u16 0, .int .u16 0] 42)) (some ⟨W.heap.size, 0, none⟩) (List.replicate 5 0)) := Lib.hid fun W => win_made W
            have hmk : ∀ W : World, (Instr.makeSlice 62 (.int .i64 5) (.int .i64 5)).run Tryz.prog W = .ok (.slice (some ⟨W.heap.size, 0, none⟩) 5 5) (W.alloc (.cells #[.int .u16 0, .int .u16 0, .int .u16 0, .int .u16 0, .int .u16 0] 42)) := fun W => make_words 5 (by decide) W
            have Hbd := Lib.hid hbd
            clear hpd had hbd HMem HSm HClr HWin
            go_upto_region 34 with (fail)
            have hd0 : Below w.heap.size w wd.drew := Hbd.out.drew
            have hbq : Below wd.heap.size wd wd.drew := (Below.refl _ _).drew
            refine wp_region_held_drew (S := fun W => Below w.heap.size w W) (by kernel_rfl) hd0 (fun _ => ?_)
            generalize wd.drew = wq at *
            refine tkH 0 (by simp only [tkA]; rfl) (by kernel_rfl) (by exact fun _ _ _ h => h) (by rfl) (by intro W hW; go_simp <;> with_reducible rfl) hd0 ?_
            try simp only [Act.put, tkT, tk0, tkS]
            refine tkH 1 (by simp only [tkA, tkG]; rfl) (by kernel_rfl) (by exact fun _ _ _ h => h) (by rfl) (by intro W hW; go_simp <;> with_reducible rfl) hd0 ?_
            try simp only [Act.put, tkT, tk0, tkS]
            refine tkH 2 (by simp only [tkA, tkG]; rfl) (by kernel_rfl) (by exact fun _ _ _ h => h) (by rfl) (by intro W hW; go_simp <;> with_reducible rfl) hd0 ?_
            try simp only [Act.put, tkT, tk0, tkS]
            refine wpAnyH_ready (rs := [3, 4]) (by kernel_rfl) (by simp) (AllReadyH.cons (by simp only [tkA, tkG]; rfl) (fun K hK => ?_) (AllReadyH.cons (by simp only [tkA, tkG]; rfl) (fun K hK => ?_) AllReadyH.nil))
            · go_simp
              refine (HMem5.out _ hbq).mono ?_
              rintro e w8 ⟨g8, c8, rfl, hr8, hb8⟩
              have hd8 := hd0.trans (hb8.mono hd0.size)
              have hbz : Below w8.heap.size w8 (w8.alloc (.cells #[.int .u16 0, .int .u16 0, .int .u16 0, .int .u16 0, .int .u16 0] 42)) := (Below.refl _ _).alloc (Nat.le_refl _) _
              have HS := Lib.hid (HSm5.out (some ⟨g8, 0, none⟩) c8 (some ⟨w8.heap.size, 0, none⟩) 5 _ ((row_win hr8 rfl).below hbz) (HMk.out w8))
              have hd9 := hd8.trans (hbz.mono hd8.size)
              clear hr8 hb8 hbz HMem5 HSm5 HMk
              go_wp2_with fail
              refine hK.out _ _ hd8 (fun _ => ?_)
              clear hK K
              refine clH 4 (by kernel_rfl) (by simp only [tkA, tkG]; rfl) (fun K hK => ?_)
              go_simp
              go_wp2_with fail
              refine hK.out _ _ hd9 (fun _ => ?_)
              clear hK K
              refine clH 5 (by kernel_rfl) (by simp only [tkA, tkG]; rfl) (fun K hK => ?_)
              go_simp
              refine HS.out.mono ?_
              rintro e w10 ⟨rfl, hb10⟩
              have hd10 := hd9.trans (hb10.mono hd9.size)
              have HF := Lib.hid hd10
              go_wp2_with fail
              refine hK.out _ _ hd10 (fun _ => ?_)
              clear hK K
              refine tkH 6 (by simp only [tkA, tkG]; rfl) (by kernel_rfl) (by exact fun _ _ _ h => h) (by rfl) (by intro W hW; go_simp <;> with_reducible rfl) hd10 ?_
              try simp only [Act.put, tkT, tk0, tkS]
              refine tkH 7 (by simp only [tkA, tkG]; rfl) (by kernel_rfl) (by exact fun _ _ _ h => h) (by rfl) (by intro W hW; go_simp <;> with_reducible rfl) hd10 ?_
              try simp only [Act.put, tkT, tk0, tkS]
              refine wpAnyH_done (by kernel_rfl) ?_ _
              go_wp2_with fail
              go_ret
              exact ⟨rfl, HF.out⟩
            · go_simp
              have hbz : Below wq.heap.size wq (wq.alloc (.cells #[.int .u16 0, .int .u16 0, .int .u16 0, .int .u16 0, .int .u16 0] 42)) := (Below.refl _ _).alloc (Nat.le_refl _) _
              have hd8 := hd0.trans (hbz.mono hd0.size)
              go_wp2_with fail
              refine hK.out _ _ hd8 (fun _ => ?_)
              clear hK K
              refine clH 3 (by kernel_rfl) (by simp only [tkA, tkG]; rfl) (fun K hK => ?_)
              go_simp
              refine (HMem5.out _ (hbq.trans (hbz.mono hbq.size))).mono ?_
              rintro e w8 ⟨g8, c8, rfl, hr8, hb8⟩
              have hd9 := hd8.trans (hb8.mono hd8.size)
              have HS := Lib.hid (HSm5.out (some ⟨g8, 0, none⟩) c8 (some ⟨wq.heap.size, 0, none⟩) 5 _ (row_win hr8 rfl) ((HMk.out wq).below hb8))
              clear hr8 hb8 hbz HMem5 HSm5 HMk
              go_wp2_with fail
              refine hK.out _ _ hd9 (fun _ => ?_)
              clear hK K
              refine clH 5 (by kernel_rfl) (by simp only [tkA, tkG]; rfl) (fun K hK => ?_)
              go_simp
              refine HS.out.mono ?_
              rintro e w10 ⟨rfl, hb10⟩
              have hd10 := hd9.trans (hb10.mono hd9.size)
              have HF := Lib.hid hd10
              go_wp2_with fail
              refine hK.out _ _ hd10 (fun _ => ?_)
              clear hK K
              refine tkH 6 (by simp only [tkA, tkG]; rfl) (by kernel_rfl) (by exact fun _ _ _ h => h) (by rfl) (by intro W hW; go_simp <;> with_reducible rfl) hd10 ?_
              try simp only [Act.put, tkT, tk0, tkS]
              refine tkH 7 (by simp only [tkA, tkG]; rfl) (by kernel_rfl) (by exact fun _ _ _ h => h) (by rfl) (by intro W hW; go_simp <;> with_reducible rfl) hd10 ?_
              try simp only [Act.put, tkT, tk0, tkS]
              refine wpAnyH_done (by kernel_rfl) ?_ _
              go_wp2_with fail
              go_ret
              exact ⟨rfl, HF.out⟩
      case pos =>
        have p3 : decide ((k : Int) < 100) = true := decide_eq_true (by omega)
        have p4 : decide (k < 100) = true := decide_eq_true hlt2
        have e8 : IntKind.i64.wrap ((k : Int) + 1) = (k : Int) + 1 := IntWalk.i64_in _ (by omega)
        obtain ⟨⟨a, b⟩, hx⟩ : ∃ x, l[k]? = some x := ⟨_, List.getElem?_eq_getElem (by omega)⟩
        obtain ⟨ab, ao, rfl, habl, hit⟩ := HI.out (by omega)
        obtain ⟨hpa, hpb⟩ := HO.out _ (List.mem_of_getElem? hx)
        have a0 : wr.cell? ⟨ab, ao + k * 2, none⟩ = some (.int .i64 a) := (hm.below.cell (p := ⟨ab, _, none⟩) habl).trans (hit k _ hx 0 _ rfl)
        have a1 : wr.cell? ⟨ab, ao + k * 2 + 1, none⟩ = some (.int .i64 b) := (hm.below.cell (p := ⟨ab, _, none⟩) habl).trans (hit k _ hx 1 _ rfl)
        simp only at hpa hpb
        have hkl : k < n := hlt
        have hkl' : (k : Int) < (n : Int) := by omega
        clear hit hx
        by_cases hin : 0 ≤ a ∧ a < 5
        case pos =>
          obtain ⟨i, rfl⟩ := Int.eq_ofNat_of_zero_le hin.1
          have hi5 : i < 5 := by omega
          have p5 : decide ((i : Int) < 5) = true := decide_eq_true (by omega)
          have p6 : decide (i < 5) = true := decide_eq_true hi5
          have hcut := cut16_of b
          have eM : ApeP.actM st.mem (i : Int) b = st.mem.set i (ApeP.cut16 b) := by
            unfold ApeP.actM
            rw [if_neg (by rw [hm.len]; omega)]
            rfl
          have eR : ApeP.actR st.mem (i : Int) b = ⟨0, ((ApeP.cut16 b : Nat) : Int), [], false⟩ := by
            unfold ApeP.actR
            rw [if_neg (by rw [hm.len]; omega)]
          have f1 := hm.want.frozenAt i
          have c1 : wr.cell? ⟨w7.heap.size, i, none⟩ = some (.int .u16 (st.mem[i]?.getD 0 : Nat)) := by rw [hm.want.cellAt i (by omega), wordV_get (by rw [hm.len]; exact hi5)]
          have hm1 : MemI w (wr.setCell ⟨w7.heap.size, i, none⟩ (.int .u16 (ApeP.cut16 b : Nat))).drew w4.heap.size (cQ (wPs 64 5 0 0 0 0)) h h' st pb wv w5.heap.size w7.heap.size (ApeP.actM st.mem (i : Int) b) := by
            rw [eM]; exact (hm.put hle H4z.out i (ApeP.cut16 b)).below' ((Below.refl _ _).drew)
          have hcw : (wr.setCell ⟨w7.heap.size, i, none⟩ (.int .u16 (ApeP.cut16 b : Nat))).drew.cell? ⟨w7.heap.size, i, none⟩ = some (.int .u16 (ApeP.cut16 b : Nat)) := by
            rw [hm1.want.cellAt i (by omega), eM, wordV_get (by rw [List.length_set, hm.len]; exact hi5), List.getElem?_set_self (by rw [hm.len]; exact hi5)]
            rfl
          have hv := cut16_lt b
          generalize ApeP.cut16 b = v at *
          have ev : IntKind.i64.wrap (v : Int) = (v : Int) := IntWalk.i64_in _ (by omega)
          have Hm1 := Lib.hid hm1
          have Hcw := Lib.hid hcw
          have hd0 : wr.drew.cell? ⟨ab, ao + k * 2, none⟩ = some (.int .i64 (i : Int)) ∧ wr.drew.cell? ⟨ab, ao + k * 2 + 1, none⟩ = some (.int .i64 b) := ⟨a0, a1⟩
          have HER := Lib.hid eR
          clear hm hm1 a0 a1 eR eM hcw
          have s0 : ∀ W : World, (W.cell? ⟨ab, ao + k * 2, none⟩ = some (.int .i64 (i : Int)) ∧ W.cell? ⟨ab, ao + k * 2 + 1, none⟩ = some (.int .i64 b)) → W.cell? ⟨ab, ao + k * 2, none⟩ = some (.int .i64 (i : Int)) := fun W hW => hW.1
          have s1 : ∀ W : World, (W.cell? ⟨ab, ao + k * 2, none⟩ = some (.int .i64 (i : Int)) ∧ W.cell? ⟨ab, ao + k * 2 + 1, none⟩ = some (.int .i64 b)) → W.cell? ⟨ab, ao + k * 2 + 1, none⟩ = some (.int .i64 b) := fun W hW => hW.2
          go_upto_region 13 with (fail)
          refine wp_region_held_drew (S := fun W => W.cell? ⟨ab, ao + k * 2, none⟩ = some (.int .i64 (i : Int)) ∧ W.cell? ⟨ab, ao + k * 2 + 1, none⟩ = some (.int .i64 b)) (by kernel_rfl) hd0 (fun _ => ?_)
          refine tkH 0 (by simp only [tkA]; rfl) (by kernel_rfl) (by exact fun _ _ _ h => h) (by rfl) (by intro W hW; go_simp <;> with_reducible rfl) hd0 ?_
          try simp only [Act.put, tkT, tk0, tkS]
          refine tkH 1 (by simp only [tkA, tkG]; rfl) (by kernel_rfl) (by exact fun _ _ _ h => h) (by rfl) (by intro W hW; go_simp <;> with_reducible rfl) hd0 ?_
          try simp only [Act.put, tkT, tk0, tkS]
          refine tkH 2 (by simp only [tkA, tkG]; rfl) (by kernel_rfl) (by exact fun _ _ _ h => h) (by rfl) (by intro W hW; go_simp <;> with_reducible rfl) hd0 ?_
          try simp only [Act.put, tkT, tk0, tkS]
          refine tkH 3 (by simp only [tkA, tkG]; rfl) (by kernel_rfl) (by exact fun _ _ _ h => h) (by rfl) (by intro W hW; go_simp <;> with_reducible rfl) hd0 ?_
          try simp only [Act.put, tkT, tk0, tkS]
          refine tkH 4 (by simp only [tkA, tkG]; rfl) (by kernel_rfl) (by exact fun _ _ _ h => h) (by rfl) (by intro W hW; go_simp <;> with_reducible rfl) hd0 ?_
          try simp only [Act.put, tkT, tk0, tkS]
          refine tkH 5 (by simp only [tkA, tkG]; rfl) (by kernel_rfl) (by exact fun _ _ _ h => h) (by rfl) (by intro W hW; go_simp <;> with_reducible rfl) hd0 ?_
          try simp only [Act.put, tkT, tk0, tkS]
          refine tkH 6 (by simp only [tkA, tkG]; rfl) (by kernel_rfl) (by exact fun _ _ _ h => h) (by rfl) (by intro W hW; go_simp <;> with_reducible rfl) hd0 ?_
          try simp only [Act.put, tkT, tk0, tkS]
          refine tkH 7 (by simp only [tkA, tkG]; rfl) (by kernel_rfl) (by exact fun _ _ _ h => h) (by rfl) (by intro W hW; go_simp <;> with_reducible rfl) hd0 ?_
          try simp only [Act.put, tkT, tk0, tkS]
          refine tkH 8 (by simp only [tkA, tkG]; rfl) (by kernel_rfl) (by exact fun _ _ _ h => h) (by rfl) (by intro W hW; go_simp <;> with_reducible rfl) hd0 ?_
          try simp only [Act.put, tkT, tk0, tkS]
          refine tkH 9 (by simp only [tkA, tkG]; rfl) (by kernel_rfl) (by exact fun _ _ _ h => h) (by rfl) (by intro W hW; go_simp <;> with_reducible rfl) hd0 ?_
          try simp only [Act.put, tkT, tk0, tkS]
          refine tkH 10 (by simp only [tkA, tkG]; rfl) (by kernel_rfl) (by exact fun _ _ _ h => h) (by rfl) (by intro W hW; go_simp <;> with_reducible rfl) hd0 ?_
          try simp only [Act.put, tkT, tk0, tkS]
          refine tkH 11 (by simp only [tkA, tkG]; rfl) (by kernel_rfl) (by exact fun _ _ _ h => h) (by rfl) (by intro W hW; go_simp <;> with_reducible rfl) hd0 ?_
          try simp only [Act.put, tkT, tk0, tkS]
          refine wpAnyH_done (by kernel_rfl) ?_ _
          clear s0 s1 hd0
          go_upto_region 17 with (fail)
          generalize (wr.setCell ⟨w7.heap.size, i, none⟩ (.int .u16 (v : Nat))).drew = ws at *
          clear f1 c1 hcut
          have hb8 : Below ws.heap.size ws (ws.alloc (.cells #[.int .u8 3, .int .i64 0, .int .i64 (i : Nat), .int .i64 b, .int .i64 0, .slice none 0 0, .int .u8 4, .int .i64 0, .int .i64 (i : Nat), .int .i64 0, .int .i64 0, .slice none 0 0] 95)) := (Below.refl _ _).alloc (Nat.le_refl _) _
          have hm2 := Hm1.out.below' hb8
          have hBs : w4.heap.size ≤ (ws.alloc (.cells #[.int .u8 3, .int .i64 0, .int .i64 (i : Nat), .int .i64 b, .int .i64 0, .slice none 0 0, .int .u8 4, .int .i64 0, .int .i64 (i : Nat), .int .i64 0, .int .i64 0, .slice none 0 0] 95)).heap.size := by have := hm2.gwAt; omega
          have HRun : Hid (Calls Tryz.prog 17 #[.pointer (some ⟨pb, 0, none⟩), .agg #[.pointer (some ⟨h.x.a, 0, none⟩), .pointer (some ⟨h.tb, 0, none⟩), .pointer (some ⟨h.mb, 0, none⟩), .pointer (some ⟨h.cb, 0, none⟩)], .int .u32 0, .slice (some ⟨ws.heap.size, 0, none⟩) 2 2] (ws.alloc (.cells #[.int .u8 3, .int .i64 0, .int .i64 (i : Nat), .int .i64 b, .int .i64 0, .slice none 0 0, .int .u8 4, .int .i64 0, .int .i64 (i : Nat), .int .i64 0, .int .i64 0, .slice none 0 0] 95)) (RunP (ws.alloc (.cells #[.int .u8 3, .int .i64 0, .int .i64 (i : Nat), .int .i64 b, .int .i64 0, .slice none 0 0, .int .u8 4, .int .i64 0, .int .i64 (i : Nat), .int .i64 0, .int .i64 0, .slice none 0 0] 95)) w4.heap.size (cQ (wPs 64 5 0 0 0 0)) 0 ApeP.rec0 RepP.new h' pb 0 64 wv (ApeP.runG (ApeP.opP (cQ (wPs 64 5 0 0 0 0)) 0 0 RepP.new) ApeP.rec0 0 0 0 (ApeP.actO (i : Int) b) 64 st))) := Lib.hid (by
            have h1 := run_any (s := st) hm2.host hm2.part (SndP.works qok_m).allowed hBs H4z.out hm2.type new_tat (show (2 : Nat) ≤ 255 by decide) (by decide) (by decide) 0 (some ⟨ws.heap.size, 0, none⟩) 2 2 (actC (i : Int) b) rfl (by decide) (ops_laid ws (actC (i : Int) b) #[.int .u8 3, .int .i64 0, .int .i64 (i : Nat), .int .i64 b, .int .i64 0, .slice none 0 0, .int .u8 4, .int .i64 0, .int .i64 (i : Nat), .int .i64 0, .int .i64 0, .slice none 0 0] rfl ws.heap.size rfl (actC_ok ws ⟨by omega, by omega⟩ hpb))
            rw [hm2.val] at h1
            exact h1)
          obtain ⟨r1, r2⟩ := ApeP.act_run (c := (cQ (wPs 64 5 0 0 0 0))) (T := RepP.new) st (i : Int) b
          have hlen2 : (ApeP.runG (ApeP.opP (cQ (wPs 64 5 0 0 0 0)) 0 0 RepP.new) ApeP.rec0 0 0 0 (ApeP.actO (i : Int) b) 64 st).st.mem.length = 5 := by rw [r2, ApeP.actM_len]; exact hm2.len
          generalize (ApeP.runG (ApeP.opP (cQ (wPs 64 5 0 0 0 0)) 0 0 RepP.new) ApeP.rec0 0 0 0 (ApeP.actO (i : Int) b) 64 st) = g at *
          have x0 : ws.cell? ⟨w5.heap.size, 0, none⟩ = some (.pointer (some ⟨h.x.a, 0, none⟩)) := cell_at Hm1.out.box 0 rfl
          have x1 : ws.cell? ⟨w5.heap.size, 1, none⟩ = some (.pointer (some ⟨h.tb, 0, none⟩)) := cell_at Hm1.out.box 1 rfl
          have x2 : ws.cell? ⟨w5.heap.size, 2, none⟩ = some (.pointer (some ⟨h.mb, 0, none⟩)) := cell_at Hm1.out.box 2 rfl
          have x3 : ws.cell? ⟨w5.heap.size, 3, none⟩ = some (.pointer (some ⟨h.cb, 0, none⟩)) := cell_at Hm1.out.box 3 rfl
          have HM2 := Lib.hid hm2
          have HBs := Lib.hid hBs
          have HR1 := Lib.hid r1
          have HR2 := Lib.hid r2
          have HL2 := Lib.hid hlen2
          clear hm2 hBs r1 r2 hlen2 hb8
          go_wp2_with fail
          clear x0 x1 x2 x3
          refine HRun.out.mono ?_
          rintro e w9 ⟨vo, ys, h2, rfl, hout, hres, hh9, hp9, hwn, -, -⟩
          have hm9 := HM2.out.ran hle H4z.out HBs.out hh9 hp9 HL2.out hwn
          rw [HR1.out] at hres
          obtain ⟨y1, y2, rfl⟩ : ∃ y1 y2, ys = [y1, y2] := by
            have hl : ys.length = 2 := by simpa using congrArg List.length hres
            match ys, hl with
            | [y1, y2], _ => exact ⟨y1, y2, rfl⟩
          simp only [List.map_cons, List.map_nil, List.cons.injEq, and_true] at hres
          obtain ⟨q1, q2⟩ := hres
          obtain ⟨gr, cr, rfl, hgr, hcells⟩ := hout.cells (by show 0 < 2; decide)
          have hcode : ∀ j y, j < 2 → [y1, y2][j]? = some y → y.plain = (ApeP.actR st.mem (i : Int) b) := fun j y hj hy => by
            match j, hj with
            | 0, _ => obtain rfl := Option.some.inj hy; exact q1
            | 1, _ => obtain rfl := Option.some.inj hy; exact q2
          have kcw : w9.cell? ⟨w7.heap.size, i, none⟩ = some (.int .u16 (v : Nat)) := by rw [hm9.want.cellAt i (by omega), ← HM2.out.want.cellAt i (by omega)]; exact (HM2.out.want.cellAt i (by omega)).trans ((Hm1.out.want.cellAt i (by omega)).symm.trans Hcw.out)
          rw [← HR2.out] at hm9
          have HM9 := Lib.hid hm9
          have HCd := Lib.hid hcode
          have HCl := Lib.hid hcells
          have HKc := Lib.hid kcw
          have HI0 : Hid (MiR w9 (.int .i64 0) w9) := Lib.hid ⟨0, Nat.zero_le _, rfl, Below.refl _ _⟩
          clear hm9 hcode hcells hout hh9 hp9 hwn q1 q2 HRun HM2 HBs HR1 HR2 Hm1 kcw Hcw
          simp only [List.length_cons, List.length_nil, Nat.zero_add]
          go_wp2_with fail
          go_loopw [96] (MiR w9) (fun i _ => (2 + 1 - intOf i).toNat)
          case atStart => exact HI0.out
          case round =>
            clear HI0
            obtain ⟨j, hj, rfl, hbl⟩ := hrel
            by_cases hlt : j < 2
            case neg =>
              have m1 : decide ((j : Int) < 2) = false := decide_eq_false (by omega)
              have m2 : decide (j < 2) = false := decide_eq_false hlt
              have hm10 := HM9.out.below' hbl
              have HMem := Lib.hid (mem5_any hm10.part hm10.len)
              have HSm := Lib.hid (same5_any hm10.len)
              have HWin := Lib.hid (gw_win hm10)
              have HM10 := Lib.hid hm10
              clear hm10 hbl
              go_wp2_with fail
              refine HMem.out.mono ?_
              rintro e wb ⟨gm, cm, rfl, hrow, hbb⟩
              have HS1 := Lib.hid (HSm.out (some ⟨gm, 0, none⟩) cm (some ⟨w7.heap.size, 0, none⟩) 5 wb (row_win hrow HM10.out.len) (HWin.out.below hbb))
              have HM11 := Lib.hid (HM10.out.below' hbb)
              clear hrow hbb
              go_wp2_with fail
              refine HS1.out.mono ?_
              rintro e wc ⟨rfl, hbc⟩
              have HNx : Hid (MeR w w4.heap.size (cQ (wPs 64 5 0 0 0 0)) h pb wv w5.heap.size w7.heap.size n (.int .i64 ((k : Int) + 1)) wc) := Lib.hid ⟨k + 1, h2, g.st, hlt_, hlt2, by go_num, HM11.out.below' hbc⟩
              clear hbc
              go_wp2_with fail
              go_roundw
              case rel => exact HNx.out
              case measure => simp [intOf]; omega
            case pos =>
              have m1 : decide ((j : Int) < 2) = true := decide_eq_true (by omega)
              have m2 : decide (j < 2) = true := decide_eq_true hlt
              have e9 : IntKind.i64.wrap ((j : Int) + 1) = (j : Int) + 1 := IntWalk.i64_in _ (by omega)
              obtain ⟨y, hy⟩ : ∃ y, [y1, y2][j]? = some y := ⟨_, List.getElem?_eq_getElem (by simpa using hlt)⟩
              obtain ⟨z1, z2, z3, z4⟩ := resC_of ((HCd.out j y hlt hy).trans HER.out)
              obtain ⟨y0c, y1c, y2c, y3c⟩ := HCl.out j y hy
              have hcc : ∀ o u, w9.cell? ⟨gr, o, none⟩ = some u → wr.cell? ⟨gr, o, none⟩ = some u := fun o u hu => (hbl.cell (p := ⟨gr, o, none⟩) hgr).trans hu
              have k0 := hcc _ _ y0c
              have k1 := hcc _ _ y1c
              have k2 := hcc _ _ y2c
              have k3 := hcc _ _ y3c
              rw [z1] at k0
              rw [z2] at k1
              have k5 : wr.cell? ⟨w7.heap.size, i, none⟩ = some (.int .u16 (v : Nat)) := (hbl.cell (p := ⟨w7.heap.size, i, none⟩) (HM9.out.gwAt.2.1)).trans HKc.out
              have Hbl := Lib.hid hbl
              clear hcc y0c y1c y2c y3c hbl hy z1 z2 z3 z4
              go_upto_region 21 with (fail)
              have hba : Below wr.heap.size wr (wr.alloc (.cells #[.int .i64 0, .int .i64 (v : Nat), .slice y.A y.data.length y.cap, .bool y.fresh] 91)) := (Below.refl _ _).alloc (Nat.le_refl _) _
              have hd0 : (wr.alloc (.cells #[.int .i64 0, .int .i64 (v : Nat), .slice y.A y.data.length y.cap, .bool y.fresh] 91)).drew.heap[wr.heap.size]? = some (.cells #[.int .i64 0, .int .i64 (v : Nat), .slice y.A y.data.length y.cap, .bool y.fresh] 91 (0, 0)) ∧ (wr.alloc (.cells #[.int .i64 0, .int .i64 (v : Nat), .slice y.A y.data.length y.cap, .bool y.fresh] 91)).drew.cell? ⟨w7.heap.size, i, none⟩ = some (.int .u16 (v : Nat)) := ⟨newAt _ _, (hba.cell (p := ⟨w7.heap.size, i, none⟩) (World.block_lt_of_cell? wr _ k5)).trans k5⟩
              have HRel : Hid (MiR w9 (.int .i64 ((j : Int) + 1)) (wr.alloc (.cells #[.int .i64 0, .int .i64 (v : Nat), .slice y.A y.data.length y.cap, .bool y.fresh] 91)).drew) := Lib.hid ⟨j + 1, hlt, by go_num, (Hbl.out.trans (hba.mono Hbl.out.size)).drew⟩
              have c0 : ∀ W : World, (W.heap[wr.heap.size]? = some (.cells #[.int .i64 0, .int .i64 (v : Nat), .slice y.A y.data.length y.cap, .bool y.fresh] 91 (0, 0)) ∧ W.cell? ⟨w7.heap.size, i, none⟩ = some (.int .u16 (v : Nat))) → W.cell? ⟨wr.heap.size, 0, none⟩ = some (.int .i64 0) := fun W hW => cell_at hW.1 0 rfl
              have c1 : ∀ W : World, (W.heap[wr.heap.size]? = some (.cells #[.int .i64 0, .int .i64 (v : Nat), .slice y.A y.data.length y.cap, .bool y.fresh] 91 (0, 0)) ∧ W.cell? ⟨w7.heap.size, i, none⟩ = some (.int .u16 (v : Nat))) → W.cell? ⟨wr.heap.size, 1, none⟩ = some (.int .i64 (v : Nat)) := fun W hW => cell_at hW.1 1 rfl
              have c5 : ∀ W : World, (W.heap[wr.heap.size]? = some (.cells #[.int .i64 0, .int .i64 (v : Nat), .slice y.A y.data.length y.cap, .bool y.fresh] 91 (0, 0)) ∧ W.cell? ⟨w7.heap.size, i, none⟩ = some (.int .u16 (v : Nat))) → W.cell? ⟨w7.heap.size, i, none⟩ = some (.int .u16 (v : Nat)) := fun W hW => hW.2
              refine wp_region_held_drew (S := fun W => W.heap[wr.heap.size]? = some (.cells #[.int .i64 0, .int .i64 (v : Nat), .slice y.A y.data.length y.cap, .bool y.fresh] 91 (0, 0)) ∧ W.cell? ⟨w7.heap.size, i, none⟩ = some (.int .u16 (v : Nat))) (by kernel_rfl) hd0 (fun _ => ?_)
              refine tkH 0 (by simp only [tkA]; rfl) (by kernel_rfl) (by exact fun _ _ _ h => h) (by rfl) (by intro W hW; go_simp <;> with_reducible rfl) hd0 ?_
              try simp only [Act.put, tkT, tk0, tkS]
              refine tkH 1 (by simp only [tkA, tkG]; rfl) (by kernel_rfl) (by exact fun _ _ _ h => h) (by rfl) (by intro W hW; go_simp <;> with_reducible rfl) hd0 ?_
              try simp only [Act.put, tkT, tk0, tkS]
              refine tkH 2 (by simp only [tkA, tkG]; rfl) (by kernel_rfl) (by exact fun _ _ _ h => h) (by rfl) (by intro W hW; go_simp <;> with_reducible rfl) hd0 ?_
              try simp only [Act.put, tkT, tk0, tkS]
              refine tkH 3 (by simp only [tkA, tkG]; rfl) (by kernel_rfl) (by exact fun _ _ _ h => h) (by rfl) (by intro W hW; go_simp <;> with_reducible rfl) hd0 ?_
              try simp only [Act.put, tkT, tk0, tkS]
              refine tkH 4 (by simp only [tkA, tkG]; rfl) (by kernel_rfl) (by exact fun _ _ _ h => h) (by rfl) (by intro W hW; go_simp <;> with_reducible rfl) hd0 ?_
              try simp only [Act.put, tkT, tk0, tkS]
              refine tkH 5 (by simp only [tkA, tkG]; rfl) (by kernel_rfl) (by exact fun _ _ _ h => h) (by rfl) (by intro W hW; go_simp <;> with_reducible rfl) hd0 ?_
              try simp only [Act.put, tkT, tk0, tkS]
              refine tkH 6 (by simp only [tkA, tkG]; rfl) (by kernel_rfl) (by exact fun _ _ _ h => h) (by rfl) (by intro W hW; go_simp <;> with_reducible rfl) hd0 ?_
              try simp only [Act.put, tkT, tk0, tkS]
              refine tkH 7 (by simp only [tkA, tkG]; rfl) (by kernel_rfl) (by exact fun _ _ _ h => h) (by rfl) (by intro W hW; go_simp <;> with_reducible rfl) hd0 ?_
              try simp only [Act.put, tkT, tk0, tkS]
              refine tkH 8 (by simp only [tkA, tkG]; rfl) (by kernel_rfl) (by exact fun _ _ _ h => h) (by rfl) (by intro W hW; go_simp <;> with_reducible rfl) hd0 ?_
              try simp only [Act.put, tkT, tk0, tkS]
              refine tkH 9 (by simp only [tkA, tkG]; rfl) (by kernel_rfl) (by exact fun _ _ _ h => h) (by rfl) (by intro W hW; go_simp <;> with_reducible rfl) hd0 ?_
              try simp only [Act.put, tkT, tk0, tkS]
              refine tkH 10 (by simp only [tkA, tkG]; rfl) (by kernel_rfl) (by exact fun _ _ _ h => h) (by rfl) (by intro W hW; go_simp <;> with_reducible rfl) hd0 ?_
              try simp only [Act.put, tkT, tk0, tkS]
              refine tkH 11 (by simp only [tkA, tkG]; rfl) (by kernel_rfl) (by exact fun _ _ _ h => h) (by rfl) (by intro W hW; go_simp <;> with_reducible rfl) hd0 ?_
              try simp only [Act.put, tkT, tk0, tkS]
              refine tkH 12 (by simp only [tkA, tkG]; rfl) (by kernel_rfl) (by exact fun _ _ _ h => h) (by rfl) (by intro W hW; go_simp <;> with_reducible rfl) hd0 ?_
              try simp only [Act.put, tkT, tk0, tkS]
              refine tkH 13 (by simp only [tkA, tkG]; rfl) (by kernel_rfl) (by exact fun _ _ _ h => h) (by rfl) (by intro W hW; go_simp <;> with_reducible rfl) hd0 ?_
              try simp only [Act.put, tkT, tk0, tkS]
              refine tkH 14 (by simp only [tkA, tkG]; rfl) (by kernel_rfl) (by exact fun _ _ _ h => h) (by rfl) (by intro W hW; go_simp <;> with_reducible rfl) hd0 ?_
              try simp only [Act.put, tkT, tk0, tkS]
              refine tkH 15 (by simp only [tkA, tkG]; rfl) (by kernel_rfl) (by exact fun _ _ _ h => h) (by rfl) (by intro W hW; go_simp <;> with_reducible rfl) hd0 ?_
              try simp only [Act.put, tkT, tk0, tkS]
              refine tkH 16 (by simp only [tkA, tkG]; rfl) (by kernel_rfl) (by exact fun _ _ _ h => h) (by rfl) (by intro W hW; go_simp <;> with_reducible rfl) hd0 ?_
              try simp only [Act.put, tkT, tk0, tkS]
              refine tkH 17 (by simp only [tkA, tkG]; rfl) (by kernel_rfl) (by exact fun _ _ _ h => h) (by rfl) (by intro W hW; go_simp <;> with_reducible rfl) hd0 ?_
              try simp only [Act.put, tkT, tk0, tkS]
              refine tkH 18 (by simp only [tkA, tkG]; rfl) (by kernel_rfl) (by exact fun _ _ _ h => h) (by rfl) (by intro W hW; go_simp <;> with_reducible rfl) hd0 ?_
              try simp only [Act.put, tkT, tk0, tkS]
              refine tkH 19 (by simp only [tkA, tkG]; rfl) (by kernel_rfl) (by exact fun _ _ _ h => h) (by rfl) (by intro W hW; go_simp <;> with_reducible rfl) hd0 ?_
              try simp only [Act.put, tkT, tk0, tkS]
              refine wpAnyH_take (i := 20) (oi := ?oo57) (v := undef) ?ii57 (by kernel_rfl) ?ff57 (by kernel_rfl) ?qq57 (Or.inr ⟨?ww57, rfl⟩) hd0 ?rr57
              case ii57 => simp only [List.getElem?_toArray, List.getElem?_cons_succ, List.getElem?_cons_zero]; rfl
              case ff57 => kernel_rfl
              case qq57 => exact fun _ _ _ h => h
              case ww57 => rfl
              try simp only [Act.put, List.setIfInBounds_toArray, List.set_cons_zero, List.set_cons_succ]
              refine wpAnyH_take (i := 21) (oi := ?oo58) (v := undef) ?ii58 (by kernel_rfl) ?ff58 (by kernel_rfl) ?qq58 (Or.inr ⟨?ww58, rfl⟩) hd0 ?rr58
              case ii58 => simp only [List.getElem?_toArray, List.getElem?_cons_succ, List.getElem?_cons_zero]; rfl
              case ff58 => kernel_rfl
              case qq58 => exact fun _ _ _ h => h
              case ww58 => rfl
              try simp only [Act.put, List.setIfInBounds_toArray, List.set_cons_zero, List.set_cons_succ]
              refine wpAnyH_take (i := 22) (oi := ?oo59) (v := undef) ?ii59 (by kernel_rfl) ?ff59 (by kernel_rfl) ?qq59 (Or.inr ⟨?ww59, rfl⟩) hd0 ?rr59
              case ii59 => simp only [List.getElem?_toArray, List.getElem?_cons_succ, List.getElem?_cons_zero]; rfl
              case ff59 => kernel_rfl
              case qq59 => exact fun _ _ _ h => h
              case ww59 => rfl
              try simp only [Act.put, List.setIfInBounds_toArray, List.set_cons_zero, List.set_cons_succ]
              refine tkH 23 (by simp only [tkA, tkG]; rfl) (by kernel_rfl) (by exact fun _ _ _ h => h) (by rfl) (by intro W hW; go_simp <;> with_reducible rfl) hd0 ?_
              try simp only [Act.put, tkT, tk0, tkS]
              refine tkH 24 (by simp only [tkA, tkG]; rfl) (by kernel_rfl) (by exact fun _ _ _ h => h) (by rfl) (by intro W hW; go_simp <;> with_reducible rfl) hd0 ?_
              try simp only [Act.put, tkT, tk0, tkS]
              refine wpAnyH_done (by kernel_rfl) ?_ _
              clear c0 c1 c5 hd0 hba
              go_wp2_with fail
              go_roundw
              case rel => exact HRel.out
              case measure => simp [intOf]; omega
        case neg =>
          by_cases ha0 : 0 ≤ a
          case neg =>
            have p5 : decide (0 ≤ a) = false := decide_eq_false (by omega)
            have eM : ApeP.actM st.mem a b = st.mem := by
              unfold ApeP.actM
              rw [if_pos (by rw [hm.len]; omega)]
            have eR : ApeP.actR st.mem a b = ⟨150, 0, [], false⟩ := by
              unfold ApeP.actR
              rw [if_pos (by rw [hm.len]; omega)]
            have hm1 : MemI w wr.drew w4.heap.size (cQ (wPs 64 5 0 0 0 0)) h h' st pb wv w5.heap.size w7.heap.size (ApeP.actM st.mem a b) := by
              rw [eM]; exact hm.below' ((Below.refl _ _).drew)
            have Hm1 := Lib.hid hm1
            have hd0 : wr.drew.cell? ⟨ab, ao + k * 2, none⟩ = some (.int .i64 a) ∧ wr.drew.cell? ⟨ab, ao + k * 2 + 1, none⟩ = some (.int .i64 b) := ⟨a0, a1⟩
            have HER := Lib.hid eR
            clear hm hm1 a0 a1 eR eM
            have s0 : ∀ W : World, (W.cell? ⟨ab, ao + k * 2, none⟩ = some (.int .i64 a) ∧ W.cell? ⟨ab, ao + k * 2 + 1, none⟩ = some (.int .i64 b)) → W.cell? ⟨ab, ao + k * 2, none⟩ = some (.int .i64 a) := fun W hW => hW.1
            have s1 : ∀ W : World, (W.cell? ⟨ab, ao + k * 2, none⟩ = some (.int .i64 a) ∧ W.cell? ⟨ab, ao + k * 2 + 1, none⟩ = some (.int .i64 b)) → W.cell? ⟨ab, ao + k * 2 + 1, none⟩ = some (.int .i64 b) := fun W hW => hW.2
            go_upto_region 13 with (fail)
            refine wp_region_held_drew (S := fun W => W.cell? ⟨ab, ao + k * 2, none⟩ = some (.int .i64 a) ∧ W.cell? ⟨ab, ao + k * 2 + 1, none⟩ = some (.int .i64 b)) (by kernel_rfl) hd0 (fun _ => ?_)
            refine tkH 0 (by simp only [tkA]; rfl) (by kernel_rfl) (by exact fun _ _ _ h => h) (by rfl) (by intro W hW; go_simp <;> with_reducible rfl) hd0 ?_
            try simp only [Act.put, tkT, tk0, tkS]
            refine tkH 1 (by simp only [tkA, tkG]; rfl) (by kernel_rfl) (by exact fun _ _ _ h => h) (by rfl) (by intro W hW; go_simp <;> with_reducible rfl) hd0 ?_
            try simp only [Act.put, tkT, tk0, tkS]
            refine tkH 2 (by simp only [tkA, tkG]; rfl) (by kernel_rfl) (by exact fun _ _ _ h => h) (by rfl) (by intro W hW; go_simp <;> with_reducible rfl) hd0 ?_
            try simp only [Act.put, tkT, tk0, tkS]
            refine tkH 3 (by simp only [tkA, tkG]; rfl) (by kernel_rfl) (by exact fun _ _ _ h => h) (by rfl) (by intro W hW; go_simp <;> with_reducible rfl) hd0 ?_
            try simp only [Act.put, tkT, tk0, tkS]
            refine tkH 4 (by simp only [tkA, tkG]; rfl) (by kernel_rfl) (by exact fun _ _ _ h => h) (by rfl) (by intro W hW; go_simp <;> with_reducible rfl) hd0 ?_
            try simp only [Act.put, tkT, tk0, tkS]
            refine tkH 5 (by simp only [tkA, tkG]; rfl) (by kernel_rfl) (by exact fun _ _ _ h => h) (by rfl) (by intro W hW; go_simp <;> with_reducible rfl) hd0 ?_
            try simp only [Act.put, tkT, tk0, tkS]
            refine tkH 6 (by simp only [tkA, tkG]; rfl) (by kernel_rfl) (by exact fun _ _ _ h => h) (by rfl) (by intro W hW; go_simp <;> with_reducible rfl) hd0 ?_
            try simp only [Act.put, tkT, tk0, tkS]
            refine tkH 7 (by simp only [tkA, tkG]; rfl) (by kernel_rfl) (by exact fun _ _ _ h => h) (by rfl) (by intro W hW; go_simp <;> with_reducible rfl) hd0 ?_
            try simp only [Act.put, tkT, tk0, tkS]
            refine tkH 8 (by simp only [tkA, tkG]; rfl) (by kernel_rfl) (by exact fun _ _ _ h => h) (by rfl) (by intro W hW; go_simp <;> with_reducible rfl) hd0 ?_
            try simp only [Act.put, tkT, tk0, tkS]
            refine tkH 9 (by simp only [tkA, tkG]; rfl) (by kernel_rfl) (by exact fun _ _ _ h => h) (by rfl) (by intro W hW; go_simp <;> with_reducible rfl) hd0 ?_
            try simp only [Act.put, tkT, tk0, tkS]
            refine tkH 10 (by simp only [tkA, tkG]; rfl) (by kernel_rfl) (by exact fun _ _ _ h => h) (by rfl) (by intro W hW; go_simp <;> with_reducible rfl) hd0 ?_
            try simp only [Act.put, tkT, tk0, tkS]
            refine tkH 11 (by simp only [tkA, tkG]; rfl) (by kernel_rfl) (by exact fun _ _ _ h => h) (by rfl) (by intro W hW; go_simp <;> with_reducible rfl) hd0 ?_
            try simp only [Act.put, tkT, tk0, tkS]
            refine wpAnyH_done (by kernel_rfl) ?_ _
            clear s0 s1 hd0
            go_upto_region 17 with (fail)
            generalize wr.drew = ws at *
            have hb8 : Below ws.heap.size ws (ws.alloc (.cells #[.int .u8 3, .int .i64 0, .int .i64 a, .int .i64 b, .int .i64 0, .slice none 0 0, .int .u8 4, .int .i64 0, .int .i64 a, .int .i64 0, .int .i64 0, .slice none 0 0] 95)) := (Below.refl _ _).alloc (Nat.le_refl _) _
            have hm2 := Hm1.out.below' hb8
            have hBs : w4.heap.size ≤ (ws.alloc (.cells #[.int .u8 3, .int .i64 0, .int .i64 a, .int .i64 b, .int .i64 0, .slice none 0 0, .int .u8 4, .int .i64 0, .int .i64 a, .int .i64 0, .int .i64 0, .slice none 0 0] 95)).heap.size := by have := hm2.gwAt; omega
            have HRun : Hid (Calls Tryz.prog 17 #[.pointer (some ⟨pb, 0, none⟩), .agg #[.pointer (some ⟨h.x.a, 0, none⟩), .pointer (some ⟨h.tb, 0, none⟩), .pointer (some ⟨h.mb, 0, none⟩), .pointer (some ⟨h.cb, 0, none⟩)], .int .u32 0, .slice (some ⟨ws.heap.size, 0, none⟩) 2 2] (ws.alloc (.cells #[.int .u8 3, .int .i64 0, .int .i64 a, .int .i64 b, .int .i64 0, .slice none 0 0, .int .u8 4, .int .i64 0, .int .i64 a, .int .i64 0, .int .i64 0, .slice none 0 0] 95)) (RunP (ws.alloc (.cells #[.int .u8 3, .int .i64 0, .int .i64 a, .int .i64 b, .int .i64 0, .slice none 0 0, .int .u8 4, .int .i64 0, .int .i64 a, .int .i64 0, .int .i64 0, .slice none 0 0] 95)) w4.heap.size (cQ (wPs 64 5 0 0 0 0)) 0 ApeP.rec0 RepP.new h' pb 0 64 wv (ApeP.runG (ApeP.opP (cQ (wPs 64 5 0 0 0 0)) 0 0 RepP.new) ApeP.rec0 0 0 0 (ApeP.actO a b) 64 st))) := Lib.hid (by
              have h1 := run_any (s := st) hm2.host hm2.part (SndP.works qok_m).allowed hBs H4z.out hm2.type new_tat (show (2 : Nat) ≤ 255 by decide) (by decide) (by decide) 0 (some ⟨ws.heap.size, 0, none⟩) 2 2 (actC a b) rfl (by decide) (ops_laid ws (actC a b) #[.int .u8 3, .int .i64 0, .int .i64 a, .int .i64 b, .int .i64 0, .slice none 0 0, .int .u8 4, .int .i64 0, .int .i64 a, .int .i64 0, .int .i64 0, .slice none 0 0] rfl ws.heap.size rfl (actC_ok ws hpa hpb))
              rw [hm2.val] at h1
              exact h1)
            obtain ⟨r1, r2⟩ := ApeP.act_run (c := (cQ (wPs 64 5 0 0 0 0))) (T := RepP.new) st a b
            have hlen2 : (ApeP.runG (ApeP.opP (cQ (wPs 64 5 0 0 0 0)) 0 0 RepP.new) ApeP.rec0 0 0 0 (ApeP.actO a b) 64 st).st.mem.length = 5 := by rw [r2, ApeP.actM_len]; exact hm2.len
            generalize (ApeP.runG (ApeP.opP (cQ (wPs 64 5 0 0 0 0)) 0 0 RepP.new) ApeP.rec0 0 0 0 (ApeP.actO a b) 64 st) = g at *
            have x0 : ws.cell? ⟨w5.heap.size, 0, none⟩ = some (.pointer (some ⟨h.x.a, 0, none⟩)) := cell_at Hm1.out.box 0 rfl
            have x1 : ws.cell? ⟨w5.heap.size, 1, none⟩ = some (.pointer (some ⟨h.tb, 0, none⟩)) := cell_at Hm1.out.box 1 rfl
            have x2 : ws.cell? ⟨w5.heap.size, 2, none⟩ = some (.pointer (some ⟨h.mb, 0, none⟩)) := cell_at Hm1.out.box 2 rfl
            have x3 : ws.cell? ⟨w5.heap.size, 3, none⟩ = some (.pointer (some ⟨h.cb, 0, none⟩)) := cell_at Hm1.out.box 3 rfl
            have HM2 := Lib.hid hm2
            have HBs := Lib.hid hBs
            have HR1 := Lib.hid r1
            have HR2 := Lib.hid r2
            have HL2 := Lib.hid hlen2
            clear hm2 hBs r1 r2 hlen2 hb8
            go_wp2_with fail
            clear x0 x1 x2 x3
            refine HRun.out.mono ?_
            rintro e w9 ⟨vo, ys, h2, rfl, hout, hres, hh9, hp9, hwn, -, -⟩
            have hm9 := HM2.out.ran hle H4z.out HBs.out hh9 hp9 HL2.out hwn
            rw [HR1.out] at hres
            obtain ⟨y1, y2, rfl⟩ : ∃ y1 y2, ys = [y1, y2] := by
              have hl : ys.length = 2 := by simpa using congrArg List.length hres
              match ys, hl with
              | [y1, y2], _ => exact ⟨y1, y2, rfl⟩
            simp only [List.map_cons, List.map_nil, List.cons.injEq, and_true] at hres
            obtain ⟨q1, q2⟩ := hres
            obtain ⟨gr, cr, rfl, hgr, hcells⟩ := hout.cells (by show 0 < 2; decide)
            have hcode : ∀ j y, j < 2 → [y1, y2][j]? = some y → y.plain = (ApeP.actR st.mem a b) := fun j y hj hy => by
              match j, hj with
              | 0, _ => obtain rfl := Option.some.inj hy; exact q1
              | 1, _ => obtain rfl := Option.some.inj hy; exact q2
            rw [← HR2.out] at hm9
            have HM9 := Lib.hid hm9
            have HCd := Lib.hid hcode
            have HCl := Lib.hid hcells
            have HI0 : Hid (MiR w9 (.int .i64 0) w9) := Lib.hid ⟨0, Nat.zero_le _, rfl, Below.refl _ _⟩
            clear hm9 hcode hcells hout hh9 hp9 hwn q1 q2 HRun HM2 HBs HR1 HR2 Hm1
            simp only [List.length_cons, List.length_nil, Nat.zero_add]
            go_wp2_with fail
            go_loopw [96] (MiR w9) (fun i _ => (2 + 1 - intOf i).toNat)
            case atStart => exact HI0.out
            case round =>
              clear HI0
              obtain ⟨j, hj, rfl, hbl⟩ := hrel
              by_cases hlt : j < 2
              case neg =>
                have m1 : decide ((j : Int) < 2) = false := decide_eq_false (by omega)
                have m2 : decide (j < 2) = false := decide_eq_false hlt
                have hm10 := HM9.out.below' hbl
                have HMem := Lib.hid (mem5_any hm10.part hm10.len)
                have HSm := Lib.hid (same5_any hm10.len)
                have HWin := Lib.hid (gw_win hm10)
                have HM10 := Lib.hid hm10
                clear hm10 hbl
                go_wp2_with fail
                refine HMem.out.mono ?_
                rintro e wb ⟨gm, cm, rfl, hrow, hbb⟩
                have HS1 := Lib.hid (HSm.out (some ⟨gm, 0, none⟩) cm (some ⟨w7.heap.size, 0, none⟩) 5 wb (row_win hrow HM10.out.len) (HWin.out.below hbb))
                have HM11 := Lib.hid (HM10.out.below' hbb)
                clear hrow hbb
                go_wp2_with fail
                refine HS1.out.mono ?_
                rintro e wc ⟨rfl, hbc⟩
                have HNx : Hid (MeR w w4.heap.size (cQ (wPs 64 5 0 0 0 0)) h pb wv w5.heap.size w7.heap.size n (.int .i64 ((k : Int) + 1)) wc) := Lib.hid ⟨k + 1, h2, g.st, hlt_, hlt2, by go_num, HM11.out.below' hbc⟩
                clear hbc
                go_wp2_with fail
                go_roundw
                case rel => exact HNx.out
                case measure => simp [intOf]; omega
              case pos =>
                have m1 : decide ((j : Int) < 2) = true := decide_eq_true (by omega)
                have m2 : decide (j < 2) = true := decide_eq_true hlt
                have e9 : IntKind.i64.wrap ((j : Int) + 1) = (j : Int) + 1 := IntWalk.i64_in _ (by omega)
                obtain ⟨y, hy⟩ : ∃ y, [y1, y2][j]? = some y := ⟨_, List.getElem?_eq_getElem (by simpa using hlt)⟩
                obtain ⟨z1, z2, z3, z4⟩ := resC_of ((HCd.out j y hlt hy).trans HER.out)
                obtain ⟨y0c, y1c, y2c, y3c⟩ := HCl.out j y hy
                have hcc : ∀ o u, w9.cell? ⟨gr, o, none⟩ = some u → wr.cell? ⟨gr, o, none⟩ = some u := fun o u hu => (hbl.cell (p := ⟨gr, o, none⟩) hgr).trans hu
                have k0 := hcc _ _ y0c
                have k1 := hcc _ _ y1c
                have k2 := hcc _ _ y2c
                have k3 := hcc _ _ y3c
                rw [z1] at k0
                rw [z2] at k1
                have Hbl := Lib.hid hbl
                clear hcc y0c y1c y2c y3c hbl hy z1 z2 z3 z4
                go_upto_region 21 with (fail)
                have hba : Below wr.heap.size wr (wr.alloc (.cells #[.int .i64 150, .int .i64 0, .slice y.A y.data.length y.cap, .bool y.fresh] 91)) := (Below.refl _ _).alloc (Nat.le_refl _) _
                have hd0 : (wr.alloc (.cells #[.int .i64 150, .int .i64 0, .slice y.A y.data.length y.cap, .bool y.fresh] 91)).drew.heap[wr.heap.size]? = some (.cells #[.int .i64 150, .int .i64 0, .slice y.A y.data.length y.cap, .bool y.fresh] 91 (0, 0)) := newAt _ _
                have HRel : Hid (MiR w9 (.int .i64 ((j : Int) + 1)) (wr.alloc (.cells #[.int .i64 150, .int .i64 0, .slice y.A y.data.length y.cap, .bool y.fresh] 91)).drew) := Lib.hid ⟨j + 1, hlt, by go_num, (Hbl.out.trans (hba.mono Hbl.out.size)).drew⟩
                have c0 : ∀ W : World, (W.heap[wr.heap.size]? = some (.cells #[.int .i64 150, .int .i64 0, .slice y.A y.data.length y.cap, .bool y.fresh] 91 (0, 0))) → W.cell? ⟨wr.heap.size, 0, none⟩ = some (.int .i64 150) := fun W hW => cell_at hW 0 rfl
                have c1 : ∀ W : World, (W.heap[wr.heap.size]? = some (.cells #[.int .i64 150, .int .i64 0, .slice y.A y.data.length y.cap, .bool y.fresh] 91 (0, 0))) → W.cell? ⟨wr.heap.size, 1, none⟩ = some (.int .i64 0) := fun W hW => cell_at hW 1 rfl
                refine wp_region_held_drew (S := fun W => W.heap[wr.heap.size]? = some (.cells #[.int .i64 150, .int .i64 0, .slice y.A y.data.length y.cap, .bool y.fresh] 91 (0, 0))) (by kernel_rfl) hd0 (fun _ => ?_)
                refine tkH 0 (by simp only [tkA]; rfl) (by kernel_rfl) (by exact fun _ _ _ h => h) (by rfl) (by intro W hW; go_simp <;> with_reducible rfl) hd0 ?_
                try simp only [Act.put, tkT, tk0, tkS]
                refine tkH 1 (by simp only [tkA, tkG]; rfl) (by kernel_rfl) (by exact fun _ _ _ h => h) (by rfl) (by intro W hW; go_simp <;> with_reducible rfl) hd0 ?_
                try simp only [Act.put, tkT, tk0, tkS]
                refine wpAnyH_take (i := 2) (oi := ?oo76) (v := undef) ?ii76 (by kernel_rfl) ?ff76 (by kernel_rfl) ?qq76 (Or.inr ⟨?ww76, rfl⟩) hd0 ?rr76
                case ii76 => simp only [List.getElem?_toArray, List.getElem?_cons_succ, List.getElem?_cons_zero]; rfl
                case ff76 => kernel_rfl
                case qq76 => exact fun _ _ _ h => h
                case ww76 => rfl
                try simp only [Act.put, List.setIfInBounds_toArray, List.set_cons_zero, List.set_cons_succ]
                refine wpAnyH_take (i := 3) (oi := ?oo77) (v := undef) ?ii77 (by kernel_rfl) ?ff77 (by kernel_rfl) ?qq77 (Or.inr ⟨?ww77, rfl⟩) hd0 ?rr77
                case ii77 => simp only [List.getElem?_toArray, List.getElem?_cons_succ, List.getElem?_cons_zero]; rfl
                case ff77 => kernel_rfl
                case qq77 => exact fun _ _ _ h => h
                case ww77 => rfl
                try simp only [Act.put, List.setIfInBounds_toArray, List.set_cons_zero, List.set_cons_succ]
                refine wpAnyH_take (i := 4) (oi := ?oo78) (v := undef) ?ii78 (by kernel_rfl) ?ff78 (by kernel_rfl) ?qq78 (Or.inr ⟨?ww78, rfl⟩) hd0 ?rr78
                case ii78 => simp only [List.getElem?_toArray, List.getElem?_cons_succ, List.getElem?_cons_zero]; rfl
                case ff78 => kernel_rfl
                case qq78 => exact fun _ _ _ h => h
                case ww78 => rfl
                try simp only [Act.put, List.setIfInBounds_toArray, List.set_cons_zero, List.set_cons_succ]
                refine wpAnyH_take (i := 5) (oi := ?oo79) (v := undef) ?ii79 (by kernel_rfl) ?ff79 (by kernel_rfl) ?qq79 (Or.inr ⟨?ww79, rfl⟩) hd0 ?rr79
                case ii79 => simp only [List.getElem?_toArray, List.getElem?_cons_succ, List.getElem?_cons_zero]; rfl
                case ff79 => kernel_rfl
                case qq79 => exact fun _ _ _ h => h
                case ww79 => rfl
                try simp only [Act.put, List.setIfInBounds_toArray, List.set_cons_zero, List.set_cons_succ]
                refine wpAnyH_take (i := 6) (oi := ?oo80) (v := undef) ?ii80 (by kernel_rfl) ?ff80 (by kernel_rfl) ?qq80 (Or.inr ⟨?ww80, rfl⟩) hd0 ?rr80
                case ii80 => simp only [List.getElem?_toArray, List.getElem?_cons_succ, List.getElem?_cons_zero]; rfl
                case ff80 => kernel_rfl
                case qq80 => exact fun _ _ _ h => h
                case ww80 => rfl
                try simp only [Act.put, List.setIfInBounds_toArray, List.set_cons_zero, List.set_cons_succ]
                refine wpAnyH_take (i := 7) (oi := ?oo81) (v := undef) ?ii81 (by kernel_rfl) ?ff81 (by kernel_rfl) ?qq81 (Or.inr ⟨?ww81, rfl⟩) hd0 ?rr81
                case ii81 => simp only [List.getElem?_toArray, List.getElem?_cons_succ, List.getElem?_cons_zero]; rfl
                case ff81 => kernel_rfl
                case qq81 => exact fun _ _ _ h => h
                case ww81 => rfl
                try simp only [Act.put, List.setIfInBounds_toArray, List.set_cons_zero, List.set_cons_succ]
                refine wpAnyH_take (i := 8) (oi := ?oo82) (v := undef) ?ii82 (by kernel_rfl) ?ff82 (by kernel_rfl) ?qq82 (Or.inr ⟨?ww82, rfl⟩) hd0 ?rr82
                case ii82 => simp only [List.getElem?_toArray, List.getElem?_cons_succ, List.getElem?_cons_zero]; rfl
                case ff82 => kernel_rfl
                case qq82 => exact fun _ _ _ h => h
                case ww82 => rfl
                try simp only [Act.put, List.setIfInBounds_toArray, List.set_cons_zero, List.set_cons_succ]
                refine wpAnyH_take (i := 9) (oi := ?oo83) (v := undef) ?ii83 (by kernel_rfl) ?ff83 (by kernel_rfl) ?qq83 (Or.inr ⟨?ww83, rfl⟩) hd0 ?rr83
                case ii83 => simp only [List.getElem?_toArray, List.getElem?_cons_succ, List.getElem?_cons_zero]; rfl
                case ff83 => kernel_rfl
                case qq83 => exact fun _ _ _ h => h
                case ww83 => rfl
                try simp only [Act.put, List.setIfInBounds_toArray, List.set_cons_zero, List.set_cons_succ]
                refine wpAnyH_take (i := 10) (oi := ?oo84) (v := undef) ?ii84 (by kernel_rfl) ?ff84 (by kernel_rfl) ?qq84 (Or.inr ⟨?ww84, rfl⟩) hd0 ?rr84
                case ii84 => simp only [List.getElem?_toArray, List.getElem?_cons_succ, List.getElem?_cons_zero]; rfl
                case ff84 => kernel_rfl
                case qq84 => exact fun _ _ _ h => h
                case ww84 => rfl
                try simp only [Act.put, List.setIfInBounds_toArray, List.set_cons_zero, List.set_cons_succ]
                refine wpAnyH_take (i := 11) (oi := ?oo85) (v := undef) ?ii85 (by kernel_rfl) ?ff85 (by kernel_rfl) ?qq85 (Or.inr ⟨?ww85, rfl⟩) hd0 ?rr85
                case ii85 => simp only [List.getElem?_toArray, List.getElem?_cons_succ, List.getElem?_cons_zero]; rfl
                case ff85 => kernel_rfl
                case qq85 => exact fun _ _ _ h => h
                case ww85 => rfl
                try simp only [Act.put, List.setIfInBounds_toArray, List.set_cons_zero, List.set_cons_succ]
                refine wpAnyH_take (i := 12) (oi := ?oo86) (v := undef) ?ii86 (by kernel_rfl) ?ff86 (by kernel_rfl) ?qq86 (Or.inr ⟨?ww86, rfl⟩) hd0 ?rr86
                case ii86 => simp only [List.getElem?_toArray, List.getElem?_cons_succ, List.getElem?_cons_zero]; rfl
                case ff86 => kernel_rfl
                case qq86 => exact fun _ _ _ h => h
                case ww86 => rfl
                try simp only [Act.put, List.setIfInBounds_toArray, List.set_cons_zero, List.set_cons_succ]
                refine wpAnyH_take (i := 13) (oi := ?oo87) (v := undef) ?ii87 (by kernel_rfl) ?ff87 (by kernel_rfl) ?qq87 (Or.inr ⟨?ww87, rfl⟩) hd0 ?rr87
                case ii87 => simp only [List.getElem?_toArray, List.getElem?_cons_succ, List.getElem?_cons_zero]; rfl
                case ff87 => kernel_rfl
                case qq87 => exact fun _ _ _ h => h
                case ww87 => rfl
                try simp only [Act.put, List.setIfInBounds_toArray, List.set_cons_zero, List.set_cons_succ]
                refine wpAnyH_take (i := 14) (oi := ?oo88) (v := undef) ?ii88 (by kernel_rfl) ?ff88 (by kernel_rfl) ?qq88 (Or.inr ⟨?ww88, rfl⟩) hd0 ?rr88
                case ii88 => simp only [List.getElem?_toArray, List.getElem?_cons_succ, List.getElem?_cons_zero]; rfl
                case ff88 => kernel_rfl
                case qq88 => exact fun _ _ _ h => h
                case ww88 => rfl
                try simp only [Act.put, List.setIfInBounds_toArray, List.set_cons_zero, List.set_cons_succ]
                refine tkH 15 (by simp only [tkA, tkG]; rfl) (by kernel_rfl) (by exact fun _ _ _ h => h) (by rfl) (by intro W hW; go_simp <;> with_reducible rfl) hd0 ?_
                try simp only [Act.put, tkT, tk0, tkS]
                refine tkH 16 (by simp only [tkA, tkG]; rfl) (by kernel_rfl) (by exact fun _ _ _ h => h) (by rfl) (by intro W hW; go_simp <;> with_reducible rfl) hd0 ?_
                try simp only [Act.put, tkT, tk0, tkS]
                refine tkH 17 (by simp only [tkA, tkG]; rfl) (by kernel_rfl) (by exact fun _ _ _ h => h) (by rfl) (by intro W hW; go_simp <;> with_reducible rfl) hd0 ?_
                try simp only [Act.put, tkT, tk0, tkS]
                refine tkH 18 (by simp only [tkA, tkG]; rfl) (by kernel_rfl) (by exact fun _ _ _ h => h) (by rfl) (by intro W hW; go_simp <;> with_reducible rfl) hd0 ?_
                try simp only [Act.put, tkT, tk0, tkS]
                refine tkH 19 (by simp only [tkA, tkG]; rfl) (by kernel_rfl) (by exact fun _ _ _ h => h) (by rfl) (by intro W hW; go_simp <;> with_reducible rfl) hd0 ?_
                try simp only [Act.put, tkT, tk0, tkS]
                refine tkH 20 (by simp only [tkA, tkG]; rfl) (by kernel_rfl) (by exact fun _ _ _ h => h) (by rfl) (by intro W hW; go_simp <;> with_reducible rfl) hd0 ?_
                try simp only [Act.put, tkT, tk0, tkS]
                refine tkH 21 (by simp only [tkA, tkG]; rfl) (by kernel_rfl) (by exact fun _ _ _ h => h) (by rfl) (by intro W hW; go_simp <;> with_reducible rfl) hd0 ?_
                try simp only [Act.put, tkT, tk0, tkS]
                refine tkH 22 (by simp only [tkA, tkG]; rfl) (by kernel_rfl) (by exact fun _ _ _ h => h) (by rfl) (by intro W hW; go_simp <;> with_reducible rfl) hd0 ?_
                try simp only [Act.put, tkT, tk0, tkS]
                refine tkH 23 (by simp only [tkA, tkG]; rfl) (by kernel_rfl) (by exact fun _ _ _ h => h) (by rfl) (by intro W hW; go_simp <;> with_reducible rfl) hd0 ?_
                try simp only [Act.put, tkT, tk0, tkS]
                refine tkH 24 (by simp only [tkA, tkG]; rfl) (by kernel_rfl) (by exact fun _ _ _ h => h) (by rfl) (by intro W hW; go_simp <;> with_reducible rfl) hd0 ?_
                try simp only [Act.put, tkT, tk0, tkS]
                refine wpAnyH_done (by kernel_rfl) ?_ _
                clear c0 c1 hd0 hba
                go_wp2_with fail
                go_roundw
                case rel => exact HRel.out
                case measure => simp [intOf]; omega
          case pos =>
            have p5 : decide (0 ≤ a) = true := decide_eq_true (by omega)
            have p6 : decide (a < 5) = false := decide_eq_false (by omega)
            have eM : ApeP.actM st.mem a b = st.mem := by
              unfold ApeP.actM
              rw [if_pos (by rw [hm.len]; omega)]
            have eR : ApeP.actR st.mem a b = ⟨150, 0, [], false⟩ := by
              unfold ApeP.actR
              rw [if_pos (by rw [hm.len]; omega)]
            have hm1 : MemI w wr.drew w4.heap.size (cQ (wPs 64 5 0 0 0 0)) h h' st pb wv w5.heap.size w7.heap.size (ApeP.actM st.mem a b) := by
              rw [eM]; exact hm.below' ((Below.refl _ _).drew)
            have Hm1 := Lib.hid hm1
            have hd0 : wr.drew.cell? ⟨ab, ao + k * 2, none⟩ = some (.int .i64 a) ∧ wr.drew.cell? ⟨ab, ao + k * 2 + 1, none⟩ = some (.int .i64 b) := ⟨a0, a1⟩
            have HER := Lib.hid eR
            clear hm hm1 a0 a1 eR eM
            have s0 : ∀ W : World, (W.cell? ⟨ab, ao + k * 2, none⟩ = some (.int .i64 a) ∧ W.cell? ⟨ab, ao + k * 2 + 1, none⟩ = some (.int .i64 b)) → W.cell? ⟨ab, ao + k * 2, none⟩ = some (.int .i64 a) := fun W hW => hW.1
            have s1 : ∀ W : World, (W.cell? ⟨ab, ao + k * 2, none⟩ = some (.int .i64 a) ∧ W.cell? ⟨ab, ao + k * 2 + 1, none⟩ = some (.int .i64 b)) → W.cell? ⟨ab, ao + k * 2 + 1, none⟩ = some (.int .i64 b) := fun W hW => hW.2
            go_upto_region 13 with (fail)
            refine wp_region_held_drew (S := fun W => W.cell? ⟨ab, ao + k * 2, none⟩ = some (.int .i64 a) ∧ W.cell? ⟨ab, ao + k * 2 + 1, none⟩ = some (.int .i64 b)) (by kernel_rfl) hd0 (fun _ => ?_)
            refine tkH 0 (by simp only [tkA]; rfl) (by kernel_rfl) (by exact fun _ _ _ h => h) (by rfl) (by intro W hW; go_simp <;> with_reducible rfl) hd0 ?_
            try simp only [Act.put, tkT, tk0, tkS]
            refine tkH 1 (by simp only [tkA, tkG]; rfl) (by kernel_rfl) (by exact fun _ _ _ h => h) (by rfl) (by intro W hW; go_simp <;> with_reducible rfl) hd0 ?_
            try simp only [Act.put, tkT, tk0, tkS]
            refine tkH 2 (by simp only [tkA, tkG]; rfl) (by kernel_rfl) (by exact fun _ _ _ h => h) (by rfl) (by intro W hW; go_simp <;> with_reducible rfl) hd0 ?_
            try simp only [Act.put, tkT, tk0, tkS]
            refine tkH 3 (by simp only [tkA, tkG]; rfl) (by kernel_rfl) (by exact fun _ _ _ h => h) (by rfl) (by intro W hW; go_simp <;> with_reducible rfl) hd0 ?_
            try simp only [Act.put, tkT, tk0, tkS]
            refine tkH 4 (by simp only [tkA, tkG]; rfl) (by kernel_rfl) (by exact fun _ _ _ h => h) (by rfl) (by intro W hW; go_simp <;> with_reducible rfl) hd0 ?_
            try simp only [Act.put, tkT, tk0, tkS]
            refine tkH 5 (by simp only [tkA, tkG]; rfl) (by kernel_rfl) (by exact fun _ _ _ h => h) (by rfl) (by intro W hW; go_simp <;> with_reducible rfl) hd0 ?_
            try simp only [Act.put, tkT, tk0, tkS]
            refine tkH 6 (by simp only [tkA, tkG]; rfl) (by kernel_rfl) (by exact fun _ _ _ h => h) (by rfl) (by intro W hW; go_simp <;> with_reducible rfl) hd0 ?_
            try simp only [Act.put, tkT, tk0, tkS]
            refine tkH 7 (by simp only [tkA, tkG]; rfl) (by kernel_rfl) (by exact fun _ _ _ h => h) (by rfl) (by intro W hW; go_simp <;> with_reducible rfl) hd0 ?_
            try simp only [Act.put, tkT, tk0, tkS]
            refine tkH 8 (by simp only [tkA, tkG]; rfl) (by kernel_rfl) (by exact fun _ _ _ h => h) (by rfl) (by intro W hW; go_simp <;> with_reducible rfl) hd0 ?_
            try simp only [Act.put, tkT, tk0, tkS]
            refine tkH 9 (by simp only [tkA, tkG]; rfl) (by kernel_rfl) (by exact fun _ _ _ h => h) (by rfl) (by intro W hW; go_simp <;> with_reducible rfl) hd0 ?_
            try simp only [Act.put, tkT, tk0, tkS]
            refine tkH 10 (by simp only [tkA, tkG]; rfl) (by kernel_rfl) (by exact fun _ _ _ h => h) (by rfl) (by intro W hW; go_simp <;> with_reducible rfl) hd0 ?_
            try simp only [Act.put, tkT, tk0, tkS]
            refine tkH 11 (by simp only [tkA, tkG]; rfl) (by kernel_rfl) (by exact fun _ _ _ h => h) (by rfl) (by intro W hW; go_simp <;> with_reducible rfl) hd0 ?_
            try simp only [Act.put, tkT, tk0, tkS]
            refine wpAnyH_done (by kernel_rfl) ?_ _
            clear s0 s1 hd0
            go_upto_region 17 with (fail)
            generalize wr.drew = ws at *
            have hb8 : Below ws.heap.size ws (ws.alloc (.cells #[.int .u8 3, .int .i64 0, .int .i64 a, .int .i64 b, .int .i64 0, .slice none 0 0, .int .u8 4, .int .i64 0, .int .i64 a, .int .i64 0, .int .i64 0, .slice none 0 0] 95)) := (Below.refl _ _).alloc (Nat.le_refl _) _
            have hm2 := Hm1.out.below' hb8
            have hBs : w4.heap.size ≤ (ws.alloc (.cells #[.int .u8 3, .int .i64 0, .int .i64 a, .int .i64 b, .int .i64 0, .slice none 0 0, .int .u8 4, .int .i64 0, .int .i64 a, .int .i64 0, .int .i64 0, .slice none 0 0] 95)).heap.size := by have := hm2.gwAt; omega
            have HRun : Hid (Calls Tryz.prog 17 #[.pointer (some ⟨pb, 0, none⟩), .agg #[.pointer (some ⟨h.x.a, 0, none⟩), .pointer (some ⟨h.tb, 0, none⟩), .pointer (some ⟨h.mb, 0, none⟩), .pointer (some ⟨h.cb, 0, none⟩)], .int .u32 0, .slice (some ⟨ws.heap.size, 0, none⟩) 2 2] (ws.alloc (.cells #[.int .u8 3, .int .i64 0, .int .i64 a, .int .i64 b, .int .i64 0, .slice none 0 0, .int .u8 4, .int .i64 0, .int .i64 a, .int .i64 0, .int .i64 0, .slice none 0 0] 95)) (RunP (ws.alloc (.cells #[.int .u8 3, .int .i64 0, .int .i64 a, .int .i64 b, .int .i64 0, .slice none 0 0, .int .u8 4, .int .i64 0, .int .i64 a, .int .i64 0, .int .i64 0, .slice none 0 0] 95)) w4.heap.size (cQ (wPs 64 5 0 0 0 0)) 0 ApeP.rec0 RepP.new h' pb 0 64 wv (ApeP.runG (ApeP.opP (cQ (wPs 64 5 0 0 0 0)) 0 0 RepP.new) ApeP.rec0 0 0 0 (ApeP.actO a b) 64 st))) := Lib.hid (by
              have h1 := run_any (s := st) hm2.host hm2.part (SndP.works qok_m).allowed hBs H4z.out hm2.type new_tat (show (2 : Nat) ≤ 255 by decide) (by decide) (by decide) 0 (some ⟨ws.heap.size, 0, none⟩) 2 2 (actC a b) rfl (by decide) (ops_laid ws (actC a b) #[.int .u8 3, .int .i64 0, .int .i64 a, .int .i64 b, .int .i64 0, .slice none 0 0, .int .u8 4, .int .i64 0, .int .i64 a, .int .i64 0, .int .i64 0, .slice none 0 0] rfl ws.heap.size rfl (actC_ok ws hpa hpb))
              rw [hm2.val] at h1
              exact h1)
            obtain ⟨r1, r2⟩ := ApeP.act_run (c := (cQ (wPs 64 5 0 0 0 0))) (T := RepP.new) st a b
            have hlen2 : (ApeP.runG (ApeP.opP (cQ (wPs 64 5 0 0 0 0)) 0 0 RepP.new) ApeP.rec0 0 0 0 (ApeP.actO a b) 64 st).st.mem.length = 5 := by rw [r2, ApeP.actM_len]; exact hm2.len
            generalize (ApeP.runG (ApeP.opP (cQ (wPs 64 5 0 0 0 0)) 0 0 RepP.new) ApeP.rec0 0 0 0 (ApeP.actO a b) 64 st) = g at *
            have x0 : ws.cell? ⟨w5.heap.size, 0, none⟩ = some (.pointer (some ⟨h.x.a, 0, none⟩)) := cell_at Hm1.out.box 0 rfl
            have x1 : ws.cell? ⟨w5.heap.size, 1, none⟩ = some (.pointer (some ⟨h.tb, 0, none⟩)) := cell_at Hm1.out.box 1 rfl
            have x2 : ws.cell? ⟨w5.heap.size, 2, none⟩ = some (.pointer (some ⟨h.mb, 0, none⟩)) := cell_at Hm1.out.box 2 rfl
            have x3 : ws.cell? ⟨w5.heap.size, 3, none⟩ = some (.pointer (some ⟨h.cb, 0, none⟩)) := cell_at Hm1.out.box 3 rfl
            have HM2 := Lib.hid hm2
            have HBs := Lib.hid hBs
            have HR1 := Lib.hid r1
            have HR2 := Lib.hid r2
            have HL2 := Lib.hid hlen2
            clear hm2 hBs r1 r2 hlen2 hb8
            go_wp2_with fail
            clear x0 x1 x2 x3
            refine HRun.out.mono ?_
            rintro e w9 ⟨vo, ys, h2, rfl, hout, hres, hh9, hp9, hwn, -, -⟩
            have hm9 := HM2.out.ran hle H4z.out HBs.out hh9 hp9 HL2.out hwn
            rw [HR1.out] at hres
            obtain ⟨y1, y2, rfl⟩ : ∃ y1 y2, ys = [y1, y2] := by
              have hl : ys.length = 2 := by simpa using congrArg List.length hres
              match ys, hl with
              | [y1, y2], _ => exact ⟨y1, y2, rfl⟩
            simp only [List.map_cons, List.map_nil, List.cons.injEq, and_true] at hres
            obtain ⟨q1, q2⟩ := hres
            obtain ⟨gr, cr, rfl, hgr, hcells⟩ := hout.cells (by show 0 < 2; decide)
            have hcode : ∀ j y, j < 2 → [y1, y2][j]? = some y → y.plain = (ApeP.actR st.mem a b) := fun j y hj hy => by
              match j, hj with
              | 0, _ => obtain rfl := Option.some.inj hy; exact q1
              | 1, _ => obtain rfl := Option.some.inj hy; exact q2
            rw [← HR2.out] at hm9
            have HM9 := Lib.hid hm9
            have HCd := Lib.hid hcode
            have HCl := Lib.hid hcells
            have HI0 : Hid (MiR w9 (.int .i64 0) w9) := Lib.hid ⟨0, Nat.zero_le _, rfl, Below.refl _ _⟩
            clear hm9 hcode hcells hout hh9 hp9 hwn q1 q2 HRun HM2 HBs HR1 HR2 Hm1
            simp only [List.length_cons, List.length_nil, Nat.zero_add]
            go_wp2_with fail
            go_loopw [96] (MiR w9) (fun i _ => (2 + 1 - intOf i).toNat)
            case atStart => exact HI0.out
            case round =>
              clear HI0
              obtain ⟨j, hj, rfl, hbl⟩ := hrel
              by_cases hlt : j < 2
              case neg =>
                have m1 : decide ((j : Int) < 2) = false := decide_eq_false (by omega)
                have m2 : decide (j < 2) = false := decide_eq_false hlt
                have hm10 := HM9.out.below' hbl
                have HMem := Lib.hid (mem5_any hm10.part hm10.len)
                have HSm := Lib.hid (same5_any hm10.len)
                have HWin := Lib.hid (gw_win hm10)
                have HM10 := Lib.hid hm10
                clear hm10 hbl
                go_wp2_with fail
                refine HMem.out.mono ?_
                rintro e wb ⟨gm, cm, rfl, hrow, hbb⟩
                have HS1 := Lib.hid (HSm.out (some ⟨gm, 0, none⟩) cm (some ⟨w7.heap.size, 0, none⟩) 5 wb (row_win hrow HM10.out.len) (HWin.out.below hbb))
                have HM11 := Lib.hid (HM10.out.below' hbb)
                clear hrow hbb
                go_wp2_with fail
                refine HS1.out.mono ?_
                rintro e wc ⟨rfl, hbc⟩
                have HNx : Hid (MeR w w4.heap.size (cQ (wPs 64 5 0 0 0 0)) h pb wv w5.heap.size w7.heap.size n (.int .i64 ((k : Int) + 1)) wc) := Lib.hid ⟨k + 1, h2, g.st, hlt_, hlt2, by go_num, HM11.out.below' hbc⟩
                clear hbc
                go_wp2_with fail
                go_roundw
                case rel => exact HNx.out
                case measure => simp [intOf]; omega
              case pos =>
                have m1 : decide ((j : Int) < 2) = true := decide_eq_true (by omega)
                have m2 : decide (j < 2) = true := decide_eq_true hlt
                have e9 : IntKind.i64.wrap ((j : Int) + 1) = (j : Int) + 1 := IntWalk.i64_in _ (by omega)
                obtain ⟨y, hy⟩ : ∃ y, [y1, y2][j]? = some y := ⟨_, List.getElem?_eq_getElem (by simpa using hlt)⟩
                obtain ⟨z1, z2, z3, z4⟩ := resC_of ((HCd.out j y hlt hy).trans HER.out)
                obtain ⟨y0c, y1c, y2c, y3c⟩ := HCl.out j y hy
                have hcc : ∀ o u, w9.cell? ⟨gr, o, none⟩ = some u → wr.cell? ⟨gr, o, none⟩ = some u := fun o u hu => (hbl.cell (p := ⟨gr, o, none⟩) hgr).trans hu
                have k0 := hcc _ _ y0c
                have k1 := hcc _ _ y1c
                have k2 := hcc _ _ y2c
                have k3 := hcc _ _ y3c
                rw [z1] at k0
                rw [z2] at k1
                have Hbl := Lib.hid hbl
                clear hcc y0c y1c y2c y3c hbl hy z1 z2 z3 z4
                go_upto_region 21 with (fail)
                have hba : Below wr.heap.size wr (wr.alloc (.cells #[.int .i64 150, .int .i64 0, .slice y.A y.data.length y.cap, .bool y.fresh] 91)) := (Below.refl _ _).alloc (Nat.le_refl _) _
                have hd0 : (wr.alloc (.cells #[.int .i64 150, .int .i64 0, .slice y.A y.data.length y.cap, .bool y.fresh] 91)).drew.heap[wr.heap.size]? = some (.cells #[.int .i64 150, .int .i64 0, .slice y.A y.data.length y.cap, .bool y.fresh] 91 (0, 0)) := newAt _ _
                have HRel : Hid (MiR w9 (.int .i64 ((j : Int) + 1)) (wr.alloc (.cells #[.int .i64 150, .int .i64 0, .slice y.A y.data.length y.cap, .bool y.fresh] 91)).drew) := Lib.hid ⟨j + 1, hlt, by go_num, (Hbl.out.trans (hba.mono Hbl.out.size)).drew⟩
                have c0 : ∀ W : World, (W.heap[wr.heap.size]? = some (.cells #[.int .i64 150, .int .i64 0, .slice y.A y.data.length y.cap, .bool y.fresh] 91 (0, 0))) → W.cell? ⟨wr.heap.size, 0, none⟩ = some (.int .i64 150) := fun W hW => cell_at hW 0 rfl
                have c1 : ∀ W : World, (W.heap[wr.heap.size]? = some (.cells #[.int .i64 150, .int .i64 0, .slice y.A y.data.length y.cap, .bool y.fresh] 91 (0, 0))) → W.cell? ⟨wr.heap.size, 1, none⟩ = some (.int .i64 0) := fun W hW => cell_at hW 1 rfl
                refine wp_region_held_drew (S := fun W => W.heap[wr.heap.size]? = some (.cells #[.int .i64 150, .int .i64 0, .slice y.A y.data.length y.cap, .bool y.fresh] 91 (0, 0))) (by kernel_rfl) hd0 (fun _ => ?_)
                refine tkH 0 (by simp only [tkA]; rfl) (by kernel_rfl) (by exact fun _ _ _ h => h) (by rfl) (by intro W hW; go_simp <;> with_reducible rfl) hd0 ?_
                try simp only [Act.put, tkT, tk0, tkS]
                refine tkH 1 (by simp only [tkA, tkG]; rfl) (by kernel_rfl) (by exact fun _ _ _ h => h) (by rfl) (by intro W hW; go_simp <;> with_reducible rfl) hd0 ?_
                try simp only [Act.put, tkT, tk0, tkS]
                refine wpAnyH_take (i := 2) (oi := ?oo113) (v := undef) ?ii113 (by kernel_rfl) ?ff113 (by kernel_rfl) ?qq113 (Or.inr ⟨?ww113, rfl⟩) hd0 ?rr113
                case ii113 => simp only [List.getElem?_toArray, List.getElem?_cons_succ, List.getElem?_cons_zero]; rfl
                case ff113 => kernel_rfl
                case qq113 => exact fun _ _ _ h => h
                case ww113 => rfl
                try simp only [Act.put, List.setIfInBounds_toArray, List.set_cons_zero, List.set_cons_succ]
                refine wpAnyH_take (i := 3) (oi := ?oo114) (v := undef) ?ii114 (by kernel_rfl) ?ff114 (by kernel_rfl) ?qq114 (Or.inr ⟨?ww114, rfl⟩) hd0 ?rr114
                case ii114 => simp only [List.getElem?_toArray, List.getElem?_cons_succ, List.getElem?_cons_zero]; rfl
                case ff114 => kernel_rfl
                case qq114 => exact fun _ _ _ h => h
                case ww114 => rfl
                try simp only [Act.put, List.setIfInBounds_toArray, List.set_cons_zero, List.set_cons_succ]
                refine wpAnyH_take (i := 4) (oi := ?oo115) (v := undef) ?ii115 (by kernel_rfl) ?ff115 (by kernel_rfl) ?qq115 (Or.inr ⟨?ww115, rfl⟩) hd0 ?rr115
                case ii115 => simp only [List.getElem?_toArray, List.getElem?_cons_succ, List.getElem?_cons_zero]; rfl
                case ff115 => kernel_rfl
                case qq115 => exact fun _ _ _ h => h
                case ww115 => rfl
                try simp only [Act.put, List.setIfInBounds_toArray, List.set_cons_zero, List.set_cons_succ]
                refine wpAnyH_take (i := 5) (oi := ?oo116) (v := undef) ?ii116 (by kernel_rfl) ?ff116 (by kernel_rfl) ?qq116 (Or.inr ⟨?ww116, rfl⟩) hd0 ?rr116
                case ii116 => simp only [List.getElem?_toArray, List.getElem?_cons_succ, List.getElem?_cons_zero]; rfl
                case ff116 => kernel_rfl
                case qq116 => exact fun _ _ _ h => h
                case ww116 => rfl
                try simp only [Act.put, List.setIfInBounds_toArray, List.set_cons_zero, List.set_cons_succ]
                refine wpAnyH_take (i := 6) (oi := ?oo117) (v := undef) ?ii117 (by kernel_rfl) ?ff117 (by kernel_rfl) ?qq117 (Or.inr ⟨?ww117, rfl⟩) hd0 ?rr117
                case ii117 => simp only [List.getElem?_toArray, List.getElem?_cons_succ, List.getElem?_cons_zero]; rfl
                case ff117 => kernel_rfl
                case qq117 => exact fun _ _ _ h => h
                case ww117 => rfl
                try simp only [Act.put, List.setIfInBounds_toArray, List.set_cons_zero, List.set_cons_succ]
                refine wpAnyH_take (i := 7) (oi := ?oo118) (v := undef) ?ii118 (by kernel_rfl) ?ff118 (by kernel_rfl) ?qq118 (Or.inr ⟨?ww118, rfl⟩) hd0 ?rr118
                case ii118 => simp only [List.getElem?_toArray, List.getElem?_cons_succ, List.getElem?_cons_zero]; rfl
                case ff118 => kernel_rfl
                case qq118 => exact fun _ _ _ h => h
                case ww118 => rfl
                try simp only [Act.put, List.setIfInBounds_toArray, List.set_cons_zero, List.set_cons_succ]
                refine wpAnyH_take (i := 8) (oi := ?oo119) (v := undef) ?ii119 (by kernel_rfl) ?ff119 (by kernel_rfl) ?qq119 (Or.inr ⟨?ww119, rfl⟩) hd0 ?rr119
                case ii119 => simp only [List.getElem?_toArray, List.getElem?_cons_succ, List.getElem?_cons_zero]; rfl
                case ff119 => kernel_rfl
                case qq119 => exact fun _ _ _ h => h
                case ww119 => rfl
                try simp only [Act.put, List.setIfInBounds_toArray, List.set_cons_zero, List.set_cons_succ]
                refine wpAnyH_take (i := 9) (oi := ?oo120) (v := undef) ?ii120 (by kernel_rfl) ?ff120 (by kernel_rfl) ?qq120 (Or.inr ⟨?ww120, rfl⟩) hd0 ?rr120
                case ii120 => simp only [List.getElem?_toArray, List.getElem?_cons_succ, List.getElem?_cons_zero]; rfl
                case ff120 => kernel_rfl
                case qq120 => exact fun _ _ _ h => h
                case ww120 => rfl
                try simp only [Act.put, List.setIfInBounds_toArray, List.set_cons_zero, List.set_cons_succ]
                refine wpAnyH_take (i := 10) (oi := ?oo121) (v := undef) ?ii121 (by kernel_rfl) ?ff121 (by kernel_rfl) ?qq121 (Or.inr ⟨?ww121, rfl⟩) hd0 ?rr121
                case ii121 => simp only [List.getElem?_toArray, List.getElem?_cons_succ, List.getElem?_cons_zero]; rfl
                case ff121 => kernel_rfl
                case qq121 => exact fun _ _ _ h => h
                case ww121 => rfl
                try simp only [Act.put, List.setIfInBounds_toArray, List.set_cons_zero, List.set_cons_succ]
                refine wpAnyH_take (i := 11) (oi := ?oo122) (v := undef) ?ii122 (by kernel_rfl) ?ff122 (by kernel_rfl) ?qq122 (Or.inr ⟨?ww122, rfl⟩) hd0 ?rr122
                case ii122 => simp only [List.getElem?_toArray, List.getElem?_cons_succ, List.getElem?_cons_zero]; rfl
                case ff122 => kernel_rfl
                case qq122 => exact fun _ _ _ h => h
                case ww122 => rfl
                try simp only [Act.put, List.setIfInBounds_toArray, List.set_cons_zero, List.set_cons_succ]
                refine wpAnyH_take (i := 12) (oi := ?oo123) (v := undef) ?ii123 (by kernel_rfl) ?ff123 (by kernel_rfl) ?qq123 (Or.inr ⟨?ww123, rfl⟩) hd0 ?rr123
                case ii123 => simp only [List.getElem?_toArray, List.getElem?_cons_succ, List.getElem?_cons_zero]; rfl
                case ff123 => kernel_rfl
                case qq123 => exact fun _ _ _ h => h
                case ww123 => rfl
                try simp only [Act.put, List.setIfInBounds_toArray, List.set_cons_zero, List.set_cons_succ]
                refine wpAnyH_take (i := 13) (oi := ?oo124) (v := undef) ?ii124 (by kernel_rfl) ?ff124 (by kernel_rfl) ?qq124 (Or.inr ⟨?ww124, rfl⟩) hd0 ?rr124
                case ii124 => simp only [List.getElem?_toArray, List.getElem?_cons_succ, List.getElem?_cons_zero]; rfl
                case ff124 => kernel_rfl
                case qq124 => exact fun _ _ _ h => h
                case ww124 => rfl
                try simp only [Act.put, List.setIfInBounds_toArray, List.set_cons_zero, List.set_cons_succ]
                refine wpAnyH_take (i := 14) (oi := ?oo125) (v := undef) ?ii125 (by kernel_rfl) ?ff125 (by kernel_rfl) ?qq125 (Or.inr ⟨?ww125, rfl⟩) hd0 ?rr125
                case ii125 => simp only [List.getElem?_toArray, List.getElem?_cons_succ, List.getElem?_cons_zero]; rfl
                case ff125 => kernel_rfl
                case qq125 => exact fun _ _ _ h => h
                case ww125 => rfl
                try simp only [Act.put, List.setIfInBounds_toArray, List.set_cons_zero, List.set_cons_succ]
                refine tkH 15 (by simp only [tkA, tkG]; rfl) (by kernel_rfl) (by exact fun _ _ _ h => h) (by rfl) (by intro W hW; go_simp <;> with_reducible rfl) hd0 ?_
                try simp only [Act.put, tkT, tk0, tkS]
                refine tkH 16 (by simp only [tkA, tkG]; rfl) (by kernel_rfl) (by exact fun _ _ _ h => h) (by rfl) (by intro W hW; go_simp <;> with_reducible rfl) hd0 ?_
                try simp only [Act.put, tkT, tk0, tkS]
                refine tkH 17 (by simp only [tkA, tkG]; rfl) (by kernel_rfl) (by exact fun _ _ _ h => h) (by rfl) (by intro W hW; go_simp <;> with_reducible rfl) hd0 ?_
                try simp only [Act.put, tkT, tk0, tkS]
                refine tkH 18 (by simp only [tkA, tkG]; rfl) (by kernel_rfl) (by exact fun _ _ _ h => h) (by rfl) (by intro W hW; go_simp <;> with_reducible rfl) hd0 ?_
                try simp only [Act.put, tkT, tk0, tkS]
                refine tkH 19 (by simp only [tkA, tkG]; rfl) (by kernel_rfl) (by exact fun _ _ _ h => h) (by rfl) (by intro W hW; go_simp <;> with_reducible rfl) hd0 ?_
                try simp only [Act.put, tkT, tk0, tkS]
                refine tkH 20 (by simp only [tkA, tkG]; rfl) (by kernel_rfl) (by exact fun _ _ _ h => h) (by rfl) (by intro W hW; go_simp <;> with_reducible rfl) hd0 ?_
                try simp only [Act.put, tkT, tk0, tkS]
                refine tkH 21 (by simp only [tkA, tkG]; rfl) (by kernel_rfl) (by exact fun _ _ _ h => h) (by rfl) (by intro W hW; go_simp <;> with_reducible rfl) hd0 ?_
                try simp only [Act.put, tkT, tk0, tkS]
                refine tkH 22 (by simp only [tkA, tkG]; rfl) (by kernel_rfl) (by exact fun _ _ _ h => h) (by rfl) (by intro W hW; go_simp <;> with_reducible rfl) hd0 ?_
                try simp only [Act.put, tkT, tk0, tkS]
                refine tkH 23 (by simp only [tkA, tkG]; rfl) (by kernel_rfl) (by exact fun _ _ _ h => h) (by rfl) (by intro W hW; go_simp <;> with_reducible rfl) hd0 ?_
                try simp only [Act.put, tkT, tk0, tkS]
                refine tkH 24 (by simp only [tkA, tkG]; rfl) (by kernel_rfl) (by exact fun _ _ _ h => h) (by rfl) (by intro W hW; go_simp <;> with_reducible rfl) hd0 ?_
                try simp only [Act.put, tkT, tk0, tkS]
                refine wpAnyH_done (by kernel_rfl) ?_ _
                clear c0 c1 hd0 hba
                go_wp2_with fail
                go_roundw
                case rel => exact HRel.out
                case measure => simp [intOf]; omega
end Go.Proofs.YtemcgegickpdbaaGreatDoor
