/- Arguments of commands, of lists of commands, of numbers of two bytes. Conditions: those of the reading of the arguments. -/
import Derived.Test.YtcibnjcnbocbdaaLawM
import Derived.Test.YtcibnjcnbocbdaaRepA
namespace Go.Proofs.Ytcibnjcnbocbdaa
open Go.ChangeShapes Go.WideShapes Go.RowKit Go.Deep RepP
set_option maxRecDepth 100000

theorem cells_cmd14 : Try.prog.cellsOf 38 = 4 := by kernel_rfl
theorem bytes_cmd14 : Try.prog.bytesOf 38 = 6 := by kernel_rfl
theorem cells_kind14 : Try.prog.cellsOf 36 = 1 := by kernel_rfl
theorem cells_u16_14 : Try.prog.cellsOf 27 = 1 := by kernel_rfl
theorem bytes_u16_14 : Try.prog.bytesOf 27 = 2 := by kernel_rfl
theorem cells_cmds14 : Try.prog.cellsOf 22 = 1 := by kernel_rfl
theorem bytes_cmds14 : Try.prog.bytesOf 22 = 24 := by kernel_rfl
abbrev CmdR := { c : Cmd // CmdIn c }
def cmdRV (y : CmdR) : List Value := cmdVals y.1
abbrev U16R := { v : Nat // v < 65536 }
def u16s (v : Nat) : List Value := [.int .u16 (v : Nat)]
def u16RV (y : U16R) : List Value := u16s y.1
theorem items_val {α : Type} {Q : α → Prop} (vals : α → List Value) (size : Nat) {W : World} {A : Option Addr} {l : List {x : α // Q x}} (h : ItemsIn (fun y : {x : α // Q x} => vals y.1) size W A l) : ItemsIn vals size W A (l.map Subtype.val) ∧ ∀ x ∈ l.map Subtype.val, Q x := by
  refine ⟨fun h0 => ?_, fun x hx => ?_⟩
  · obtain ⟨b, off, e, hb, hc⟩ := h (by rw [List.length_map] at h0; exact h0)
    refine ⟨b, off, e, hb, fun i x hx j u hu => ?_⟩
    rw [List.getElem?_map] at hx
    obtain ⟨y, hy, rfl⟩ := Option.map_eq_some_iff.1 hx
    exact hc i y hy j u hu
  · obtain ⟨y, -, rfl⟩ := List.mem_map.1 hx
    exact y.2
section
variable {H : Type} {enc : TypeId × Value → H} {w : World}
theorem u8_14 {t : TypeId} (hu : Try.prog.underlying t = some (.int .u8)) {m : Nat} {c : Value} {y : DataW H × List MemPlace} (g : DataW.trod enc Try.prog w 0 (fun _ => true) true m t [c] = some y) : ∃ k : Nat, c = .int .u8 (k : Nat) ∧ k ≤ 255 := by
  obtain ⟨k, e, -, hw⟩ := DataW.trod_int hu g
  simp at e
  subst e
  have := bounds_u8 hw
  exact ⟨k.toNat, by rw [Int.toNat_of_nonneg this.1], by omega⟩
theorem u16_14 {m : Nat} {c : Value} {y : DataW H × List MemPlace} (g : DataW.trod enc Try.prog w 0 (fun _ => true) true m 27 [c] = some y) : ∃ k : Nat, c = .int .u16 (k : Nat) ∧ k < 65536 := by
  obtain ⟨k, e, -, hw⟩ := DataW.trod_int Try.underlying27 g
  simp at e
  subst e
  have := bounds_u16 hw
  exact ⟨k.toNat, by rw [Int.toNat_of_nonneg this.1], by omega⟩
theorem cmd_trod {n : Nat} {cs : List Value} {x : DataW H × List MemPlace} (hlen : cs.length = 4) (ht : DataW.trod enc Try.prog w 0 (fun _ => true) true n 38 cs = some x) : ∃ y : CmdR, cs = cmdVals y.1 := by
  match cs, hlen with
  | [c0, c1, c2, c3], _ =>
    obtain ⟨xs, m, _, _, _, hxl, hf⟩ := DataW.trod_struct Try.underlying38 ht
    match xs, hxl with
    | [y0, y1, y2, y3], _ =>
      have g0 := hf 0 _ rfl
      have g1 := hf 1 _ rfl
      have g2 := hf 2 _ rfl
      have g3 := hf 3 _ rfl
      change DataW.trod enc Try.prog w 0 (fun _ => true) true m 36 (([c0, c1, c2, c3].drop 0).take (Try.prog.cellsOf 36)) = _ at g0
      change DataW.trod enc Try.prog w 0 (fun _ => true) true m 5 (([c0, c1, c2, c3].drop 1).take (Try.prog.cellsOf 5)) = _ at g1
      change DataW.trod enc Try.prog w 0 (fun _ => true) true m 27 (([c0, c1, c2, c3].drop 2).take (Try.prog.cellsOf 27)) = _ at g2
      change DataW.trod enc Try.prog w 0 (fun _ => true) true m 27 (([c0, c1, c2, c3].drop 3).take (Try.prog.cellsOf 27)) = _ at g3
      rw [cells_kind14] at g0
      rw [cells_u8] at g1
      rw [cells_u16_14] at g2 g3
      obtain ⟨k0, rfl, l0⟩ := u8_14 Try.underlying36 (c := c0) g0
      obtain ⟨k1, rfl, l1⟩ := u8_14 Try.underlying5 (c := c1) g1
      obtain ⟨k2, rfl, l2⟩ := u16_14 (c := c2) g2
      obtain ⟨k3, rfl, l3⟩ := u16_14 (c := c3) g3
      exact ⟨⟨⟨k0, k1, k2, k3⟩, l0, l1, l2, l3⟩, rfl⟩
theorem cmd_at (n : Nat) (a : Addr) (cs : List Value) (x : DataW H × List MemPlace) (hc : w.cells? 0 a 4 = some cs) (ht : DataW.trod enc Try.prog w 0 (fun _ => true) true n 38 cs = some x) : ∃ y : CmdR, ∀ j u, (cmdRV y)[j]? = some u → w.cell? (a.add j) = some u := by
  obtain ⟨_, hlen, hcell⟩ := World.cells?_some hc
  obtain ⟨y, rfl⟩ := cmd_trod hlen ht
  exact ⟨y, fun j u hu => by rw [hcell j (List.getElem?_eq_some_iff.1 hu).1]; exact hu⟩
theorem zero_cmdR : CmdIn ⟨0, 0, 0, 0⟩ := ⟨by decide, by decide, by decide, by decide⟩
/-- Commands in memory. -/
def CmdsIn (W : World) (A : Option Addr) (l : List Cmd) : Prop := ItemsIn cmdVals 4 W A l ∧ ∀ c ∈ l, CmdIn c
theorem CmdsIn.below {W W' : World} {A : Option Addr} {l : List Cmd} (h : CmdsIn W A l) (hb : Below W.heap.size W W') : CmdsIn W' A l := ⟨h.1.below hb, h.2⟩
theorem cmds_trod {fuel : Nat} {c : Value} {x : DataW H × List MemPlace} (h : DataW.trod enc Try.prog w 0 (fun _ => true) true fuel 22 [c] = some x) (hw : ∀ k ∈ x.1.weights Try.prog 22, k ≤ reachBytes) :
    ∃ A l n cap, c = .slice A n cap ∧ l.length = n ∧ n * 6 ≤ 140737488355328 ∧ CmdsIn w A l := by
  obtain ⟨A, l, n, cap, rfl, hl, -, hn, hi⟩ := items_trod cmdRV 4 6 ⟨⟨0, 0, 0, 0⟩, zero_cmdR⟩ Try.underlying22 cells_cmd14 bytes_cmd14 (fun _ => ⟨_, rfl⟩) cmd_at h hw
  exact ⟨A, l.map Subtype.val, n, cap, rfl, by rw [List.length_map, hl], hn, items_val cmdVals 4 hi⟩
theorem cmds_open {v : Value} {d : DataW H} {p : List MemPlace} {r : Reach} {b0 : Nat} (hv : Value.okWide Try.prog w r b0 22 v) (h : DataW.Trod enc Try.prog w 0 (fun _ => true) true 22 v d p) (hw : ∀ k ∈ d.weights Try.prog 22, k ≤ reachBytes) :
    ∃ A l n cap, v = .slice A n cap ∧ l.length = n ∧ n * 6 ≤ 140737488355328 ∧ CmdsIn w A l := by
  obtain ⟨a0, len0, cap0, rfl⟩ := okWide_slice Try.underlying22 hv
  obtain ⟨fuel, hf⟩ := h
  exact cmds_trod (x := (d, p)) hf hw
theorem u16s_open {v : Value} {d : DataW H} {p : List MemPlace} {r : Reach} {b0 : Nat} (hv : Value.okWide Try.prog w r b0 55 v) (h : DataW.Trod enc Try.prog w 0 (fun _ => true) true 55 v d p) (hw : ∀ k ∈ d.weights Try.prog 55, k ≤ reachBytes) :
    ∃ A l n cap, v = .slice A n cap ∧ l.length = n ∧ n * 2 ≤ 140737488355328 ∧ ItemsIn u16s 1 w A l ∧ ∀ x ∈ l, x < 65536 := by
  obtain ⟨A, l, n, cap, rfl, hl, -, hn, hi⟩ := items_open u16RV 1 2 ⟨0, by decide⟩ Try.underlying55 cells_u16_14 bytes_u16_14 (fun _ => ⟨_, rfl⟩) (fun n a cs x hc ht => by
    obtain ⟨_, hlen, hcell⟩ := World.cells?_some hc
    match cs, hlen with
    | [c0], _ =>
      obtain ⟨k, rfl, hk⟩ := u16_14 ht
      exact ⟨⟨k, hk⟩, fun j u hu => by rw [hcell j (List.getElem?_eq_some_iff.1 hu).1]; exact hu⟩) hv h hw
  exact ⟨A, l.map Subtype.val, n, cap, rfl, by rw [List.length_map, hl], hn, items_val u16s 1 hi⟩

structure CmdL where
  A : Option Addr
  m : Nat
  cap : Nat
  l : List Cmd
/-- Lists of commands in memory. -/
def CmdLsIn (W : World) (A : Option Addr) (l : List CmdL) : Prop :=
  0 < l.length → ∃ b off, A = some ⟨b, off, none⟩ ∧ b < W.heap.size ∧ ∀ i x, l[i]? = some x → W.cell? ⟨b, off + i, none⟩ = some (.slice x.A x.m x.cap) ∧ x.l.length = x.m ∧ x.m * 6 ≤ 140737488355328 ∧ CmdsIn W x.A x.l
theorem CmdLsIn.below {W W' : World} {A : Option Addr} {l : List CmdL} (h : CmdLsIn W A l) (hw : Below W.heap.size W W') : CmdLsIn W' A l := fun hl => by
  obtain ⟨b, off, e, hb, hi⟩ := h hl
  refine ⟨b, off, e, Nat.lt_of_lt_of_le hb hw.size, fun i x hx => ?_⟩
  obtain ⟨h1, h2, h4, h3⟩ := hi i x hx
  exact ⟨(hw.cell (p := ⟨b, off + i, none⟩) hb).trans h1, h2, h4, h3.below hw⟩
theorem cmdls_open {v : Value} {d : DataW H} {p : List MemPlace} {r : Reach} {b0 : Nat} (hv : Value.okWide Try.prog w r b0 49 v) (h0 : DataW.Trod enc Try.prog w 0 (fun _ => true) true 49 v d p) (hw : ∀ k ∈ d.weights Try.prog 49, k ≤ reachBytes) :
    ∃ A l n cap, v = .slice A n cap ∧ l.length = n ∧ n ≤ 17592186044416 ∧ CmdLsIn w A l := by
  obtain ⟨a0, len0, cap0, rfl⟩ := okWide_slice Try.underlying49 hv
  obtain ⟨fuel, h⟩ := h0
  have h' : DataW.trod enc Try.prog w 0 (fun _ => true) true fuel 49 [.slice a0 len0 cap0] = some (d, p) := h
  rcases open_slice Try.underlying49 h' with ⟨hcs, hx⟩ | ⟨a, len, cap, m, n, D, Pl, hcs, hb, hl, hm, hmm, hx, hi⟩
  · injection hcs with hcs
    exact ⟨none, [], 0, 0, hcs, rfl, by omega, fun h => absurd h (by simp)⟩
  · injection hcs with hcs
    simp only [if_true] at hmm
    obtain rfl : cap = m := hmm.symm
    rw [cells_cmds14] at hi
    have hd : ∃ r, d = .slice ((List.range len).map D) r := ⟨_, congrArg Prod.fst hx⟩
    obtain ⟨r, hd⟩ := hd
    have hlen : len ≤ 17592186044416 := by
      have := hw (((List.range len).map D).length * 24 + r.length * 24) (by
        rw [hd]
        simp only [DataW.weights, Try.underlying49, List.mem_cons]
        refine .inl ?_
        rw [bytes_cmds14]
        first | rfl | (simp; done) | (simp; omega))
      simp [reachBytes] at this
      omega
    have hat : ∀ i, i < len → ∃ y : CmdL, w.cell? ((a.add (i * 1)).add 0) = some (.slice y.A y.m y.cap) ∧ y.l.length = y.m ∧ y.m * 6 ≤ 140737488355328 ∧ CmdsIn w y.A y.l := fun i hil => by
      obtain ⟨cs', h1, h2⟩ := hi i (by omega)
      obtain ⟨c0, rfl, hcell⟩ : ∃ c0, cs' = [c0] ∧ w.cell? ((a.add (i * 1)).add 0) = some c0 := by
        obtain ⟨_, hlen1, hcell⟩ := World.cells?_some h1
        match cs', hlen1 with
        | [c0], _ => exact ⟨c0, rfl, by rw [hcell 0 (by omega)]; rfl⟩
      obtain ⟨A', l', n', cap', rfl, e1, e2, e3⟩ := cmds_trod h2 (fun k hk => hw k (by
        rw [hd]
        simp only [DataW.weights, Try.underlying49, List.mem_cons, List.mem_append]
        exact .inr (.inl (weights_mem_all (List.mem_map.2 ⟨i, List.mem_range.2 hil, rfl⟩) k hk))))
      exact ⟨⟨A', n', cap', l'⟩, hcell, e1, e2, e3⟩
    obtain ⟨l, hll, hl2⟩ := items_list (⟨none, 0, 0, []⟩ : CmdL) len _ hat
    refine ⟨some a, l, len, cap, hcs, hll, hlen, fun hn => ?_⟩
    obtain ⟨b, off, spot⟩ := a
    have hpos : 0 < len := by omega
    obtain ⟨y0, c0, _⟩ := hat 0 hpos
    have hspot : spot = none := by simpa [Addr.add] using World.cell?_spot c0
    subst hspot
    refine ⟨b, off, rfl, by simpa [Addr.add] using World.block_lt_of_cell? w _ c0, fun i y hy => ?_⟩
    obtain ⟨h1, h2, h4, h3⟩ := hl2 i y hy
    simp only [addr_addB, Nat.add_zero, Nat.mul_one] at h1
    exact ⟨h1, h2, h4, h3⟩
end
end Go.Proofs.Ytcibnjcnbocbdaa
