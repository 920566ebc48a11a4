/- What an argument that is a frame is in memory. Conditions: those of the reading of the argument. -/
import Derived.Test.YtdeodoppcflgfaaLawM
import Derived.Test.YtdeodoppcflgfaaFraA
namespace Go.Proofs.Ytdeodoppcflgfaa
open Go.ChangeShapes Go.WideShapes Go.RowKit Go.Deep
set_option maxRecDepth 100000

theorem cells_msg : Try.prog.cellsOf 68 = 2 := by kernel_rfl
theorem cells_rec : Try.prog.cellsOf 150 = 5 := by kernel_rfl
theorem cells_frame : Try.prog.cellsOf 116 = 9 := by kernel_rfl
theorem cells_stamp : Try.prog.cellsOf 109 = 2 := by kernel_rfl
theorem cells_cmd : Try.prog.cellsOf 113 = 4 := by kernel_rfl
theorem cells_i644 : Try.prog.cellsOf 3 = 1 := by kernel_rfl
theorem cells_u32 : Try.prog.cellsOf 107 = 1 := by kernel_rfl
theorem cells_u16 : Try.prog.cellsOf 111 = 1 := by kernel_rfl
theorem cells_bs : Try.prog.cellsOf 44 = 1 := by kernel_rfl
theorem cells_ms : Try.prog.cellsOf 39 = 1 := by kernel_rfl
theorem cells_rs4 : Try.prog.cellsOf 114 = 1 := by kernel_rfl
theorem cells_ck : Try.prog.cellsOf 110 = 1 := by kernel_rfl
theorem cells_ek : Try.prog.cellsOf 148 = 1 := by kernel_rfl
theorem cells_ac4 : Try.prog.cellsOf 77 = 1 := by kernel_rfl
theorem bytes_msg : Try.prog.bytesOf 68 = 32 := by kernel_rfl
theorem bytes_rec : Try.prog.bytesOf 150 = 8 := by kernel_rfl

section
variable {H : Type} {enc : TypeId × Value → H} {w : World}

theorem u8_nat'4 {t : TypeId} (hu : Try.prog.underlying t = some (.int .u8)) {m : Nat} {c : Value} {y : DataW H × List MemPlace} (g : DataW.trod enc Try.prog w 0 (fun _ => true) true m t [c] = some y) : ∃ k : Nat, c = .int .u8 (k : Nat) ∧ k < 256 := by
  obtain ⟨k, e, _, hw⟩ := DataW.trod_int hu g
  have b := bounds_u8 hw
  obtain ⟨q, rfl⟩ := Int.eq_ofNat_of_zero_le b.1
  simp at e
  exact ⟨q, e, by omega⟩
theorem u16_nat' {t : TypeId} (hu : Try.prog.underlying t = some (.int .u16)) {m : Nat} {c : Value} {y : DataW H × List MemPlace} (g : DataW.trod enc Try.prog w 0 (fun _ => true) true m t [c] = some y) : ∃ k : Nat, c = .int .u16 (k : Nat) ∧ k < 65536 := by
  obtain ⟨k, e, _, hw⟩ := DataW.trod_int hu g
  have b := bounds_u16 hw
  obtain ⟨q, rfl⟩ := Int.eq_ofNat_of_zero_le b.1
  simp at e
  exact ⟨q, e, by omega⟩
theorem u32_nat' {t : TypeId} (hu : Try.prog.underlying t = some (.int .u32)) {m : Nat} {c : Value} {y : DataW H × List MemPlace} (g : DataW.trod enc Try.prog w 0 (fun _ => true) true m t [c] = some y) : ∃ k : Nat, c = .int .u32 (k : Nat) ∧ k < 4294967296 := by
  obtain ⟨k, e, _, hw⟩ := DataW.trod_int hu g
  have b := bounds_u32 hw
  obtain ⟨q, rfl⟩ := Int.eq_ofNat_of_zero_le b.1
  simp at e
  exact ⟨q, e, by omega⟩

theorem msg_at {n : Nat} {a : Addr} {cs : List Value} {x : DataW H × List MemPlace}
    (hc : w.cells? 0 a 2 = some cs) (ht : DataW.trod enc Try.prog w 0 (fun _ => true) true n 68 cs = some x) (hw : ∀ k ∈ x.1.weights Try.prog 68, k ≤ reachBytes) :
    ∃ y : MsgC, w.cell? (a.add 0) = some (.int .i64 y.port) ∧ w.cell? (a.add 1) = some (.slice y.A y.m y.cap) ∧ MsgOk w y := by
  obtain ⟨_, hlen, hcell⟩ := World.cells?_some hc
  obtain ⟨xs, m, _, hx, _, hxl, hf⟩ := DataW.trod_struct Try.underlying68 ht
  match cs, hlen with
  | [c0, c1], _ =>
    match xs, hxl with
    | [y0, y1], _ =>
      have g0 := hf 0 _ rfl
      have g1 := hf 1 _ rfl
      change DataW.trod enc Try.prog w 0 (fun _ => true) true m 3 (([c0, c1].drop 0).take (Try.prog.cellsOf 3)) = _ at g0
      change DataW.trod enc Try.prog w 0 (fun _ => true) true m 44 (([c0, c1].drop 1).take (Try.prog.cellsOf 44)) = _ at g1
      rw [cells_i644] at g0
      rw [cells_bs] at g1
      obtain ⟨k0, e0, _, hw0⟩ := DataW.trod_int Try.underlying3 g0
      have g1' : DataW.trod enc Try.prog w 0 (fun _ => true) true m 44 [c1] = some y1 := g1
      obtain ⟨A, l, q, cap, e1, h1, h2, h3, h4⟩ := bytes_trod g1' (fun k hk => hw k (by
        rw [hx]
        simp only [DataW.weights, Try.underlying68]
        exact DataW.weights_mem_each (j := 1) (t := 44) (d := y1.1) rfl rfl k hk))
      simp at e0
      have b0 := bounds_i64 hw0
      refine ⟨⟨k0, A, q, cap, l⟩, ?_, ?_, ⟨h1, h2, by simp only; omega, h4, b0⟩⟩
      · rw [hcell 0 (by omega), ← e0]; rfl
      · rw [hcell 1 (by omega), ← e1]; rfl

theorem rec_at {n : Nat} {a : Addr} {cs : List Value} {x : DataW H × List MemPlace}
    (hc : w.cells? 0 a 5 = some cs) (ht : DataW.trod enc Try.prog w 0 (fun _ => true) true n 150 cs = some x) :
    ∃ y : FrameP.Rec, w.cell? (a.add 0) = some (.int .u32 (y.round : Nat)) ∧ w.cell? (a.add 1) = some (.int .u8 (y.node : Nat)) ∧ w.cell? (a.add 2) = some (.int .u8 (y.part : Nat)) ∧ w.cell? (a.add 3) = some (.int .u8 (y.kind : Nat)) ∧ w.cell? (a.add 4) = some (.int .u8 (y.did : Nat)) ∧ FrameP.RecFits y := by
  obtain ⟨_, hlen, hcell⟩ := World.cells?_some hc
  obtain ⟨xs, m, _, hx, _, hxl, hf⟩ := DataW.trod_struct Try.underlying150 ht
  match cs, hlen with
  | [c0, c1, c2, c3, c4], _ =>
    match xs, hxl with
    | [y0, y1, y2, y3, y4], _ =>
      have g0 := hf 0 _ rfl
      have g1 := hf 1 _ rfl
      have g2 := hf 2 _ rfl
      have g3 := hf 3 _ rfl
      have g4 := hf 4 _ rfl
      change DataW.trod enc Try.prog w 0 (fun _ => true) true m 107 (([c0, c1, c2, c3, c4].drop 0).take (Try.prog.cellsOf 107)) = _ at g0
      change DataW.trod enc Try.prog w 0 (fun _ => true) true m 5 (([c0, c1, c2, c3, c4].drop 1).take (Try.prog.cellsOf 5)) = _ at g1
      change DataW.trod enc Try.prog w 0 (fun _ => true) true m 5 (([c0, c1, c2, c3, c4].drop 2).take (Try.prog.cellsOf 5)) = _ at g2
      change DataW.trod enc Try.prog w 0 (fun _ => true) true m 148 (([c0, c1, c2, c3, c4].drop 3).take (Try.prog.cellsOf 148)) = _ at g3
      change DataW.trod enc Try.prog w 0 (fun _ => true) true m 77 (([c0, c1, c2, c3, c4].drop 4).take (Try.prog.cellsOf 77)) = _ at g4
      rw [cells_u32] at g0
      rw [cells_u8] at g1 g2
      rw [cells_ek] at g3
      rw [cells_ac4] at g4
      obtain ⟨k0, e0, l0⟩ := u32_nat' Try.underlying107 g0
      obtain ⟨k1, e1, l1⟩ := u8_nat'4 Try.underlying5 g1
      obtain ⟨k2, e2, l2⟩ := u8_nat'4 Try.underlying5 g2
      obtain ⟨k3, e3, l3⟩ := u8_nat'4 Try.underlying148 g3
      obtain ⟨k4, e4, l4⟩ := u8_nat'4 Try.underlying77 g4
      refine ⟨⟨k0, k1, k2, k3, k4⟩, ?_, ?_, ?_, ?_, ?_, ⟨l0, l1, l2, l3, l4⟩⟩
      · rw [hcell 0 (by omega), ← e0]; rfl
      · rw [hcell 1 (by omega), ← e1]; rfl
      · rw [hcell 2 (by omega), ← e2]; rfl
      · rw [hcell 3 (by omega), ← e3]; rfl
      · rw [hcell 4 (by omega), ← e4]; rfl

theorem list_of4 {α : Type} (z : α) (n : Nat) (P : Nat → α → Prop) (h : ∀ i, i < n → ∃ y, P i y) : ∃ l : List α, l.length = n ∧ ∀ i x, l[i]? = some x → P i x := by
  have h2 : ∀ i, ∃ y, i < n → P i y := fun i => by
    by_cases hi : i < n
    · obtain ⟨y, hy⟩ := h i hi
      exact ⟨y, fun _ => hy⟩
    · exact ⟨z, fun h' => absurd h' hi⟩
  obtain ⟨f, hf⟩ := Classical.axiomOfChoice h2
  refine ⟨(List.range n).map f, by simp, fun i x hx => ?_⟩
  rw [List.getElem?_map] at hx
  by_cases hi : i < n
  · rw [List.getElem?_range hi] at hx
    simp at hx
    subst hx
    exact hf i hi
  · rw [List.getElem?_eq_none (by simpa using hi)] at hx
    cases hx

theorem msgs_trod {fuel : Nat} {c : Value} {x : DataW H × List MemPlace} (h : DataW.trod enc Try.prog w 0 (fun _ => true) true fuel 39 [c] = some x) (hw : ∀ k ∈ x.1.weights Try.prog 39, k ≤ reachBytes) :
    ∃ A l n cap, c = .slice A n cap ∧ l.length = n ∧ n ≤ cap ∧ n ≤ 4398046511104 ∧ MsgsIn w A l := by
  rcases open_slice Try.underlying39 h with ⟨hcs, hx⟩ | ⟨a, len, cap, m, n, D, Pl, hcs, hb, hl, hm, hmm, hx, hi⟩
  · injection hcs with hcs
    exact ⟨none, [], 0, 0, hcs, rfl, Nat.le_refl _, by omega, fun h => absurd h (by simp)⟩
  · injection hcs with hcs
    simp only [if_true] at hmm
    obtain rfl : cap = m := hmm.symm
    rw [cells_msg] at hi
    have hd : ∃ r, x.1 = .slice ((List.range len).map D) r := ⟨_, by rw [hx]⟩
    obtain ⟨r, hd⟩ := hd
    have hlen : len ≤ 4398046511104 := by
      have := hw (((List.range len).map D).length * 32 + r.length * 32) (by
        rw [hd]
        simp only [DataW.weights, Try.underlying39, List.mem_cons]
        refine .inl ?_
        rw [bytes_msg]
        first | rfl | (simp; done) | (simp; omega))
      simp [reachBytes] at this
      omega
    have hat : ∀ i, i < len → ∃ y : MsgC, w.cell? ((a.add (i * 2)).add 0) = some (.int .i64 y.port) ∧ w.cell? ((a.add (i * 2)).add 1) = some (.slice y.A y.m y.cap) ∧ MsgOk w y := fun i hil => by
      obtain ⟨cs', h1, h2⟩ := hi i (by omega)
      refine msg_at h1 h2 (fun k hk => hw k ?_)
      rw [hd]
      simp only [DataW.weights, Try.underlying39, List.mem_cons, List.mem_append]
      exact .inr (.inl (weights_mem_all (List.mem_map.2 ⟨i, List.mem_range.2 hil, rfl⟩) k hk))
    obtain ⟨l, hll, hl2⟩ := list_of4 (⟨0, none, 0, 0, []⟩ : MsgC) len _ hat
    refine ⟨some a, l, len, cap, hcs, hll, hl, hlen, fun hn => ?_⟩
    obtain ⟨b, off, spot⟩ := a
    have hpos : 0 < len := by omega
    obtain ⟨y0, c0, _⟩ := hat 0 hpos
    have hspot : spot = none := by simpa [Addr.add] using World.cell?_spot c0
    subst hspot
    refine ⟨b, off, rfl, by simpa [Addr.add] using World.block_lt_of_cell? w _ c0, fun i y hy => ?_⟩
    obtain ⟨h1, h2, h3⟩ := hl2 i y hy
    simp only [addr_addB, Nat.add_zero] at h1 h2
    exact ⟨h1, h2, h3⟩

theorem recs_trod {fuel : Nat} {c : Value} {x : DataW H × List MemPlace} (h : DataW.trod enc Try.prog w 0 (fun _ => true) true fuel 114 [c] = some x) (hw : ∀ k ∈ x.1.weights Try.prog 114, k ≤ reachBytes) :
    ∃ A l n cap, c = .slice A n cap ∧ l.length = n ∧ n ≤ cap ∧ n ≤ 17592186044416 ∧ RecsIn w A l ∧ ∀ y ∈ l, FrameP.RecFits y := by
  rcases open_slice Try.underlying114 h with ⟨hcs, hx⟩ | ⟨a, len, cap, m, n, D, Pl, hcs, hb, hl, hm, hmm, hx, hi⟩
  · injection hcs with hcs
    exact ⟨none, [], 0, 0, hcs, rfl, Nat.le_refl _, by omega, fun h => absurd h (by simp), fun y hy => by cases hy⟩
  · injection hcs with hcs
    simp only [if_true] at hmm
    obtain rfl : cap = m := hmm.symm
    rw [cells_rec] at hi
    have hd : ∃ r, x.1 = .slice ((List.range len).map D) r := ⟨_, by rw [hx]⟩
    obtain ⟨r, hd⟩ := hd
    have hlen : len ≤ 17592186044416 := by
      have := hw (((List.range len).map D).length * 8 + r.length * 8) (by
        rw [hd]
        simp only [DataW.weights, Try.underlying114, List.mem_cons]
        refine .inl ?_
        rw [bytes_rec]
        first | rfl | (simp; done) | (simp; omega))
      simp [reachBytes] at this
      omega
    have hat : ∀ i, i < len → ∃ y : FrameP.Rec, w.cell? ((a.add (i * 5)).add 0) = some (.int .u32 (y.round : Nat)) ∧ w.cell? ((a.add (i * 5)).add 1) = some (.int .u8 (y.node : Nat)) ∧ w.cell? ((a.add (i * 5)).add 2) = some (.int .u8 (y.part : Nat)) ∧ w.cell? ((a.add (i * 5)).add 3) = some (.int .u8 (y.kind : Nat)) ∧ w.cell? ((a.add (i * 5)).add 4) = some (.int .u8 (y.did : Nat)) ∧ FrameP.RecFits y := fun i hil => by
      obtain ⟨cs', h1, h2⟩ := hi i (by omega)
      exact rec_at h1 h2
    obtain ⟨l, hll, hl2⟩ := list_of4 (⟨0, 0, 0, 0, 0⟩ : FrameP.Rec) len _ hat
    refine ⟨some a, l, len, cap, hcs, hll, hl, hlen, fun hn => ?_, fun y hy => ?_⟩
    · obtain ⟨b, off, spot⟩ := a
      have hpos : 0 < len := by omega
      obtain ⟨y0, c0, _⟩ := hat 0 hpos
      have hspot : spot = none := by simpa [Addr.add] using World.cell?_spot c0
      subst hspot
      refine ⟨b, off, rfl, by simpa [Addr.add] using World.block_lt_of_cell? w _ c0, fun i y hy => ?_⟩
      obtain ⟨h1, h2, h3, h4, h5, _⟩ := hl2 i y hy
      simp only [addr_addB, Nat.add_zero] at h1 h2 h3 h4 h5
      exact ⟨h1, h2, h3, h4, h5⟩
    · obtain ⟨i, hi⟩ := List.getElem?_of_mem hy
      exact (hl2 i y hi).2.2.2.2.2

/-- A frame handed in. -/
theorem frame_open {v : Value} {d : DataW H} {p : List MemPlace} {r : Reach} {b0 : Nat}
    (hv : Value.okWide Try.prog w r b0 116 v) (h : DataW.Trod enc Try.prog w 0 (fun _ => true) true 116 v d p) (hw : ∀ k ∈ d.weights Try.prog 116, k ≤ reachBytes) :
    ∃ x : FrameC, v = x.value ∧ FrameIn w x := by
  obtain ⟨cs, rfl, hsz⟩ := okWide_struct Try.underlying116 hv
  obtain ⟨l⟩ := cs
  match l, hsz.trans cells_frame with
  | [c0, c1, c2, c3, c4, c5, c6, c7, c8], _ =>
    obtain ⟨fuel, hf⟩ := h
    obtain ⟨xs, n, _, hx, _, hlen, hg⟩ := DataW.trod_struct Try.underlying116 hf
    match xs, hlen with
    | [y0, y1, y2, y3, y4], _ =>
      have g0 := hg 0 _ rfl
      have g1 := hg 1 _ rfl
      have g2 := hg 2 _ rfl
      have g3 := hg 3 _ rfl
      have g4 := hg 4 _ rfl
      change DataW.trod enc Try.prog w 0 (fun _ => true) true n 5 (([c0, c1, c2, c3, c4, c5, c6, c7, c8].drop 0).take (Try.prog.cellsOf 5)) = _ at g0
      change DataW.trod enc Try.prog w 0 (fun _ => true) true n 109 (([c0, c1, c2, c3, c4, c5, c6, c7, c8].drop 1).take (Try.prog.cellsOf 109)) = _ at g1
      change DataW.trod enc Try.prog w 0 (fun _ => true) true n 39 (([c0, c1, c2, c3, c4, c5, c6, c7, c8].drop 3).take (Try.prog.cellsOf 39)) = _ at g2
      change DataW.trod enc Try.prog w 0 (fun _ => true) true n 113 (([c0, c1, c2, c3, c4, c5, c6, c7, c8].drop 4).take (Try.prog.cellsOf 113)) = _ at g3
      change DataW.trod enc Try.prog w 0 (fun _ => true) true n 114 (([c0, c1, c2, c3, c4, c5, c6, c7, c8].drop 8).take (Try.prog.cellsOf 114)) = _ at g4
      rw [cells_u8] at g0
      rw [cells_stamp] at g1
      rw [cells_ms] at g2
      rw [cells_cmd] at g3
      rw [cells_rs4] at g4
      obtain ⟨k0, rfl, l0⟩ := u8_nat'4 Try.underlying5 g0
      obtain ⟨zs, m1, _, _, _, hz1, hf1⟩ := DataW.trod_struct Try.underlying109 g1
      obtain ⟨us, m3, _, _, _, hz3, hf3⟩ := DataW.trod_struct Try.underlying113 g3
      match zs, hz1 with
      | [z0, z1], _ =>
        match us, hz3 with
        | [u0, u1, u2, u3], _ =>
          have s0 := hf1 0 _ rfl
          have s1 := hf1 1 _ rfl
          have t0 := hf3 0 _ rfl
          have t1 := hf3 1 _ rfl
          have t2 := hf3 2 _ rfl
          have t3 := hf3 3 _ rfl
          change DataW.trod enc Try.prog w 0 (fun _ => true) true m1 107 (([c1, c2].drop 0).take (Try.prog.cellsOf 107)) = _ at s0
          change DataW.trod enc Try.prog w 0 (fun _ => true) true m1 5 (([c1, c2].drop 1).take (Try.prog.cellsOf 5)) = _ at s1
          change DataW.trod enc Try.prog w 0 (fun _ => true) true m3 110 (([c4, c5, c6, c7].drop 0).take (Try.prog.cellsOf 110)) = _ at t0
          change DataW.trod enc Try.prog w 0 (fun _ => true) true m3 5 (([c4, c5, c6, c7].drop 1).take (Try.prog.cellsOf 5)) = _ at t1
          change DataW.trod enc Try.prog w 0 (fun _ => true) true m3 111 (([c4, c5, c6, c7].drop 2).take (Try.prog.cellsOf 111)) = _ at t2
          change DataW.trod enc Try.prog w 0 (fun _ => true) true m3 111 (([c4, c5, c6, c7].drop 3).take (Try.prog.cellsOf 111)) = _ at t3
          rw [cells_u32] at s0
          rw [cells_u8] at s1 t1
          rw [cells_ck] at t0
          rw [cells_u16] at t2 t3
          obtain ⟨k1, rfl, l1⟩ := u32_nat' Try.underlying107 s0
          obtain ⟨k2, rfl, l2⟩ := u8_nat'4 Try.underlying5 s1
          obtain ⟨k4, rfl, l4⟩ := u8_nat'4 Try.underlying110 t0
          obtain ⟨k5, rfl, l5⟩ := u8_nat'4 Try.underlying5 t1
          obtain ⟨k6, rfl, l6⟩ := u16_nat' Try.underlying111 t2
          obtain ⟨k7, rfl, l7⟩ := u16_nat' Try.underlying111 t3
          obtain ⟨MA, ms, mn, mcap, rfl, hm1, hm2, hm3, hm4⟩ := msgs_trod (c := c3) g2 (fun k hk => hw k (by
            have hx1 := congrArg Prod.fst hx
            simp only at hx1
            rw [hx1]
            simp only [DataW.weights, Try.underlying116]
            exact DataW.weights_mem_each (j := 2) (t := 39) (d := y2.1) rfl rfl k hk))
          obtain ⟨RA, rs, rn, rcap, rfl, hr1, hr2, hr3, hr4, hr5⟩ := recs_trod (c := c8) g4 (fun k hk => hw k (by
            have hx1 := congrArg Prod.fst hx
            simp only at hx1
            rw [hx1]
            simp only [DataW.weights, Try.underlying116]
            exact DataW.weights_mem_each (j := 4) (t := 114) (d := y4.1) rfl rfl k hk))
          exact ⟨⟨k0, k1, k2, MA, mn, mcap, ms, k4, k5, k6, k7, RA, rn, rcap, rs⟩, rfl, ⟨hm4, hm1, hm2, hm3, hr4, hr1, hr2, hr3, ⟨l0, l1, l2, l4, l5, l6, l7, hr5⟩⟩⟩
end
end Go.Proofs.Ytdeodoppcflgfaa
