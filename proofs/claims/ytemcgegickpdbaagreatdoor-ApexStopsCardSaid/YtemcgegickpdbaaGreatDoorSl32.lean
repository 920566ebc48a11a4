/- What ApexStops needs: its ops, appended one by one; its tables are lawful; what a wrong op does. No conditions beyond those that each states. · ApexStops, the law's kind 1: every input is answered with true. Conditions: errors.errorType holds the type error. · ApexStops, the law's kind 2: every input is answered with true. Conditions: errors.errorType holds the type error. · ApexStops, the law's kind 3: every input is answered with true. Conditions: errors.errorType holds the type error. · ApexStops: every input is answered with true. Conditions: errors.errorType holds the type error. -/
import Derived.Test.YtemcgegickpdbaaGreatDoorSl24
import Derived.Test.YtemcgegickpdbaaGreatDoorSl31
namespace Go.Proofs.YtemcgegickpdbaaGreatDoor
open Go.RowKit
set_option maxRecDepth 100000

def spinC : OpC := ⟨5, 0, 0, 0, 0, none, 0, 0, []⟩
def wrongC (k : Nat) : OpC := if k = 1 then ⟨4, 0, 99, 0, 0, none, 0, 0, []⟩ else if k = 2 then ⟨6, 0, 0, 0, 0, none, 0, 0, []⟩ else ⟨2, 99, 0, 0, 0, none, 0, 0, []⟩
def stopsC (p q k : Nat) : List OpC := List.replicate p spinC ++ wrongC k :: List.replicate q spinC
theorem stopsC_plain (p q k : Nat) : (stopsC p q k).map OpC.plain = ApeP.stopsO p q k := by
  have h : (wrongC k).plain = ApeP.wrongO k := by
    unfold wrongC ApeP.wrongO
    split
    · rfl
    · split <;> rfl
  unfold stopsC ApeP.stopsO
  rw [List.map_append, List.map_cons, List.map_replicate, List.map_replicate, h]
  rfl
theorem stopsC_len (p q k : Nat) : (stopsC p q k).length = p + 1 + q := by unfold stopsC; simp; omega
theorem stopsC_at {p q k i : Nat} (h : i < p + 1 + q) : (stopsC p q k)[i]? = some (if i = p then wrongC k else spinC) := by
  unfold stopsC
  by_cases h1 : i < p
  · rw [List.getElem?_append_left (by simpa using h1), List.getElem?_replicate, if_pos h1, if_neg (by omega)]
  · rw [List.getElem?_append_right (by simpa using Nat.le_of_not_lt h1), List.length_replicate]
    by_cases h2 : i = p
    · rw [if_pos h2, h2, Nat.sub_self]; rfl
    · rw [if_neg h2]
      obtain ⟨j, hj⟩ : ∃ j, i - p = j + 1 := ⟨i - p - 1, by omega⟩
      rw [hj, List.getElem?_cons_succ, List.getElem?_replicate, if_pos (by omega)]
theorem plainOk (W : World) (x : OpC) (h : x = spinC ∨ x = wrongC 1 ∨ x = wrongC 2 ∨ x = wrongC 3) : OpOk W x ∧ x.data = [] := by
  rcases h with rfl | rfl | rfl | rfl <;> exact ⟨⟨by decide, by decide, by decide, by decide, by decide, rfl, by decide, by decide, Bytes.none_⟩, rfl⟩
theorem stopsC_ok (W : World) {p q k : Nat} (hk : k = 1 ∨ k = 2 ∨ k = 3) : ∀ x ∈ stopsC p q k, OpOk W x ∧ x.data = [] := fun x hx => by
  refine plainOk W x ?_
  unfold stopsC at hx
  rcases List.mem_append.1 hx with h | h
  · exact .inl (List.eq_of_mem_replicate h)
  · rcases List.mem_cons.1 h with h | h
    · rcases hk with rfl | rfl | rfl
      · exact .inr (.inl h)
      · exact .inr (.inr (.inl h))
      · exact .inr (.inr (.inr h))
    · exact .inl (List.eq_of_mem_replicate h)
/-- Ops of one's own, without bytes. -/
theorem ops_own {W : World} {M : Nat} {v : Value} {l : List OpC} (h : W.ownsRow M 95 6 v l.length (itemsV opVals l)) (hok : ∀ x ∈ l, OpOk W x ∧ x.data = []) : ∃ A cap, v = .slice A l.length cap ∧ OpsIn W A l := by
  obtain ⟨A, cap, rfl, -, hit⟩ := ItemsIn.own opVals_len h
  refine ⟨A, cap, rfl, hit, fun x hx => (hok x hx).1, fun x hx hl => ?_, fun h0 k hk => ?_⟩
  · rw [(hok x hx).2] at hl; exact absurd hl (by simp)
  · obtain ⟨cur, hc⟩ := (Seg.of_own h).block k (by rw [ownBlock_slice]; exact hk)
    exact ⟨_, _, hc⟩
theorem wpList_op1 {w0 : World} {ops : Array Oper} {rest : List Oper} {o : Oper} {a : Act} {Q : Exit → Act → World → Prop} (hgd : o.guard = none) (s x : Operand)
    (ho : o.op = .call { callee := .builtin .append, args := #[s, x], argTypes := #[68, 68] }) (M : Nat) (v : Value) (ys : List OpC) (hs : a.eval s = v) (hown : w0.ownsRow M 95 6 v ys.length (itemsV opVals ys))
    (y : OpC) (cs : Array Value) (hcs : cs = (opVals y).toArray) (hx : a.eval x = .slice (some ⟨w0.heap.size, 0, none⟩) 1 1) (hn : ys.length ≤ 1000000) (hB : M ≤ w0.heap.size)
    (h : ∀ v' w', w'.ownsRow M 95 6 v' (ys ++ [y]).length (itemsV opVals (ys ++ [y])) → Below M w0 w' → Apart (fun k => v.ownBlock = some k) w0 w' → wpList Tryz.prog ops Q rest (a.put o.dst v') w') :
    wpList Tryz.prog ops Q (o :: rest) a (w0.alloc (.cells cs 95)) := by
  subst hcs
  refine wpList_append_s hgd s x 68 ho M 95 _ 6 64 Tryz.underlying68 infoOp16 rfl (by decide) v ys.length (itemsV opVals ys) hs (hown.alloc _) (some ⟨w0.heap.size, 0, none⟩) 1 1 (opVals y) hx rfl
    (fun _ => ⟨_, rfl, laid_at w0 _ (opVals y) w0.heap.size rfl⟩) (opVals_one _) (by unfold maxLen; omega) (by omega) (by simp; omega) ?_
  intro v' w' h1 h2 _
  refine h v' w' ?_ (((Below.refl M w0).alloc hB _).trans (h2.below (by simp; omega) (fun k e => ((hown.lt k e).1)))) (((Apart.refl _ w0).alloc _).trans h2 fun _ e => .inl e)
  rw [List.length_append, itemsV_append, itemsV_one']
  exact h1
/-- Behind the first k of the ops: their row, the wrong one's box. -/
def StR (w8 : World) (p q kk wb : Nat) (vo vi : Value) (W : World) : Prop := ∃ k : Nat, k ≤ p + 1 + q ∧ vi = .int .i64 (k : Nat) ∧ W.ownsRow w8.heap.size 95 6 vo k (itemsV opVals ((stopsC p q kk).take k)) ∧ W.heap[wb]? = some (.cells (opVals (wrongC kk)).toArray 95 (0, 0)) ∧ Below w8.heap.size w8 W
theorem StR.next {w8 wr w' : World} {p q kk wb k : Nat} {v v' : Value} (hk : k < p + 1 + q) (_ho : wr.ownsRow w8.heap.size 95 6 v k (itemsV opVals ((stopsC p q kk).take k))) (hb : wr.heap[wb]? = some (.cells (opVals (wrongC kk)).toArray 95 (0, 0))) (hwb : wb < w8.heap.size) (hbl : Below w8.heap.size w8 wr) (h1 : w'.ownsRow w8.heap.size 95 6 v' ((stopsC p q kk).take k ++ [if k = p then wrongC kk else spinC]).length (itemsV opVals ((stopsC p q kk).take k ++ [if k = p then wrongC kk else spinC]))) (h2 : Below w8.heap.size wr w') : StR w8 p q kk wb v' (.int .i64 ((k : Int) + 1)) w' := by
  have e : (stopsC p q kk).take (k + 1) = (stopsC p q kk).take k ++ [if k = p then wrongC kk else spinC] := by rw [List.take_add_one, stopsC_at hk]; rfl
  have hl : ((stopsC p q kk).take k ++ [if k = p then wrongC kk else spinC]).length = k + 1 := by rw [← e, List.length_take, stopsC_len]; omega
  refine ⟨k + 1, hk, by go_num, by rw [e, ← hl]; exact h1, (h2.block wb hwb).trans hb, hbl.trans h2⟩
theorem qok_s1 (r : Nat) (hr : r < 4) : SndP.chk6 (cQ (wPs 64 2 0 r 0 0)) = none := by
  have h : ∀ r : Fin 4, SndP.chk6 (cQ (wPs 64 2 0 r.val 0 0)) = none := by decide +kernel
  exact h ⟨r, hr⟩
theorem wrong_ok1 (r : Nat) (s : ApeP.AS) (hm : s.mem = List.replicate 2 0) : ApeP.WrongOk (ApeP.opP (cQ (wPs 64 2 0 r 0 0)) 0 0 RepP.new) 1 r s := by
  obtain ⟨m, ps, mo, cm⟩ := s
  simp only at hm
  subst hm
  exact ⟨rfl, rfl⟩
theorem qok_s2 (r : Nat) (hr : r < 4) : SndP.chk6 (cQ (wPs 64 2 0 0 r 0)) = none := by
  have h : ∀ r : Fin 4, SndP.chk6 (cQ (wPs 64 2 0 0 r.val 0)) = none := by decide +kernel
  exact h ⟨r, hr⟩
theorem wrong_ok2 (r : Nat) (s : ApeP.AS) (hm : s.mem = List.replicate 2 0) : ApeP.WrongOk (ApeP.opP (cQ (wPs 64 2 0 0 r 0)) 0 0 RepP.new) 2 r s := by
  obtain ⟨m, ps, mo, cm⟩ := s
  simp only at hm
  subst hm
  exact ⟨rfl, rfl⟩
theorem qok_s3 (r : Nat) (hr : r < 4) : SndP.chk6 (cQ (wPs 64 2 0 0 0 r)) = none := by
  have h : ∀ r : Fin 4, SndP.chk6 (cQ (wPs 64 2 0 0 0 r.val)) = none := by decide +kernel
  exact h ⟨r, hr⟩
theorem wrong_ok3 (r : Nat) (s : ApeP.AS) (hm : s.mem = List.replicate 2 0) : ApeP.WrongOk (ApeP.opP (cQ (wPs 64 2 0 0 0 r)) 0 0 RepP.new) 3 r s := by
  obtain ⟨m, ps, mo, cm⟩ := s
  simp only at hm
  subst hm
  exact ⟨rfl, rfl⟩
end Go.Proofs.YtemcgegickpdbaaGreatDoor
namespace Go.Proofs.YtemcgegickpdbaaGreatDoor
open Go.RowKit
set_option maxRecDepth 100000

set_option maxHeartbeats 16000000 in
theorem stops_law1 (a0 a1 a3 : Int) (n2 : Nat) (p q r : Nat) (hp10 : p < 10) (hq10 : q < 10) (hr4 : r < 4) (eA : (IntKind.u64.wrap a0).tmod 10 = (p : Int)) (eB : (IntKind.u64.wrap a1).tmod 10 = (q : Int)) (eK : (IntKind.u64.wrap a3).tmod 3 = 0) (eR : (n2 : Int).tmod 4 = (r : Int)) (w : World) (hg : HasType w) : Calls Tryz.prog 8 #[.int .i64 a0, .int .i64 a1, .int .u8 (n2 : Nat), .int .i64 a3] w (HTrue w) := by
  have HAw := Lib.hid (awake16_any w hg)
  have HG0 := Lib.hid hg
  have f1 : IntKind.i64.wrap (p : Int) = (p : Int) := IntWalk.i64_in _ (by omega)
  have f2 : IntKind.i64.wrap (q : Int) = (q : Int) := IntWalk.i64_in _ (by omega)
  have f4 : IntKind.i64.wrap ((p : Int) + 1) = ((p + 1 : Nat) : Int) := by rw [IntWalk.i64_in _ (by omega)]; omega
  have f5 : IntKind.i64.wrap (((p + 1 : Nat) : Int) + (q : Int)) = ((p + 1 + q : Nat) : Int) := by rw [IntWalk.i64_in _ (by omega)]; omega
  have HOk := Lib.hid (qok_s1 r hr4)
  have Hp := Lib.hid hp10
  have Hq := Lib.hid hq10
  have Hr := Lib.hid hr4
  clear hg hp10 hq10 hr4
  go_enter Tryz.func8, Tryz.ntmps8
  go_wp2_with fail
  refine HAw.out.mono ?_
  rintro e w1 ⟨rfl, hb1⟩
  have Hb1 := Lib.hid hb1
  have HG1 := Lib.hid (HG0.out.keep (hb1.block 0 HG0.out.pos))
  clear hb1 HAw
  go_wp2_with fail
  refine (wired_any w1).mono ?_
  rintro e w2 ⟨rfl, hwi, hbw⟩
  obtain ⟨N, hN⟩ : ∃ N, N = w1.heap.size + 2 := ⟨_, rfl⟩
  rw [← hN] at hwi ⊢
  simp only [wC, CfgC.value]
  have hq2 := WirQ.of hwi
  have hb3 : Below w2.heap.size w2 (w2.alloc (.cells #[.int .i64 2, .int .i64 0, .int .i64 1000, .int .i64 500, .int .i64 0, .int .i64 0, .int .i64 0, .int .i64 98, .slice (some ⟨N, 0, none⟩) 2 2, .slice (some ⟨N + 1, 0, none⟩) 4 4, .slice (some ⟨N + 2, 0, none⟩) 2 2] 26)) := (Below.refl _ _).alloc (Nat.le_refl _) _
  have hq00 : WirQ (w2.alloc (.cells #[.int .i64 2, .int .i64 0, .int .i64 1000, .int .i64 500, .int .i64 0, .int .i64 0, .int .i64 0, .int .i64 98, .slice (some ⟨N, 0, none⟩) 2 2, .slice (some ⟨N + 1, 0, none⟩) 4 4, .slice (some ⟨N + 2, 0, none⟩) 2 2] 26)) N (wPs 9 2 0 0 0 0) := hq2.below hb3
  have hbox00 : (w2.alloc (.cells #[.int .i64 2, .int .i64 0, .int .i64 1000, .int .i64 500, .int .i64 0, .int .i64 0, .int .i64 0, .int .i64 98, .slice (some ⟨N, 0, none⟩) 2 2, .slice (some ⟨N + 1, 0, none⟩) 4 4, .slice (some ⟨N + 2, 0, none⟩) 2 2] 26)).heap[w2.heap.size]? = some (.cells #[.int .i64 2, .int .i64 0, .int .i64 1000, .int .i64 500, .int .i64 0, .int .i64 0, .int .i64 0, .int .i64 98, .slice (some ⟨N, 0, none⟩) 2 2, .slice (some ⟨N + 1, 0, none⟩) 4 4, .slice (some ⟨N + 2, 0, none⟩) 2 2] 26 (0, 0)) := newAt _ _
  have hNb : N < w2.heap.size := lt_of_block hq2.parts
  have hbw0 := Hb1.out.trans (hbw.mono Hb1.out.size)
  have hbw3 : Below w.heap.size w (w2.alloc (.cells #[.int .i64 2, .int .i64 0, .int .i64 1000, .int .i64 500, .int .i64 0, .int .i64 0, .int .i64 0, .int .i64 98, .slice (some ⟨N, 0, none⟩) 2 2, .slice (some ⟨N + 1, 0, none⟩) 4 4, .slice (some ⟨N + 2, 0, none⟩) 2 2] 26)) := hbw0.trans (hb3.mono hbw0.size)
  have hN1 : w1.heap.size ≤ N := by omega
  have hg3 : HasType (w2.alloc (.cells #[.int .i64 2, .int .i64 0, .int .i64 1000, .int .i64 500, .int .i64 0, .int .i64 0, .int .i64 0, .int .i64 98, .slice (some ⟨N, 0, none⟩) 2 2, .slice (some ⟨N + 1, 0, none⟩) 4 4, .slice (some ⟨N + 2, 0, none⟩) 2 2] 26)) := HG1.out.keep ((hbw.trans (hb3.mono hbw.size)).block 0 HG1.out.pos)
  have hq2l := hb3.size
  have hbl := hbw.size
  clear hN
  go_upto_region 5 with (fail)
  generalize (w2.alloc (.cells #[.int .i64 2, .int .i64 0, .int .i64 1000, .int .i64 500, .int .i64 0, .int .i64 0, .int .i64 0, .int .i64 98, .slice (some ⟨N, 0, none⟩) 2 2, .slice (some ⟨N + 1, 0, none⟩) 4 4, .slice (some ⟨N + 2, 0, none⟩) 2 2] 26)) = w3 at *
  have hq0 := hq00
  have hbox0 := hbox00
  have hfz : ∀ j, w3.frozen? ⟨N, j, none⟩ = false := fun j => free_at hq0.parts j
  have hne : w2.heap.size ≠ N := by omega
  have kp3 : w3.cell? ⟨N, 3, none⟩ = some (.int .i64 9) := hq0.cell 3 rfl
  have kb8 : w3.cell? ⟨w2.heap.size, 8, none⟩ = some (.slice (some ⟨N, 0, none⟩) 2 2) := cell_at hbox0 8 rfl
  have hq0b : WirQ (w3.setCell ⟨N, 3, none⟩ (.int .i64 64)) N (wPs 64 2 0 0 0 0) := hq0.set 3 (.int .i64 64) rfl
  have hbox0b : (w3.setCell ⟨N, 3, none⟩ (.int .i64 64)).heap[w2.heap.size]? = some (.cells #[.int .i64 2, .int .i64 0, .int .i64 1000, .int .i64 500, .int .i64 0, .int .i64 0, .int .i64 0, .int .i64 98, .slice (some ⟨N, 0, none⟩) 2 2, .slice (some ⟨N + 1, 0, none⟩) 4 4, .slice (some ⟨N + 2, 0, none⟩) 2 2] 26 (0, 0)) := (Below.heap_setCell _ _ _ _ hne).trans hbox0
  have hstb : Below w1.heap.size w3 (w3.setCell ⟨N, 3, none⟩ (.int .i64 64)) := ((Apart.refl (fun k => k = N) _).setCell (p := ⟨N, _, none⟩) (.inl rfl) _).below (Nat.le_trans hbl hq2l) fun k e => by omega
  have hbw3b : Below w.heap.size w (w3.setCell ⟨N, 3, none⟩ (.int .i64 64)) := hbw3.trans (hstb.mono Hb1.out.size)
  have hg3b : HasType (w3.setCell ⟨N, 3, none⟩ (.int .i64 64)) := hg3.keep (hstb.block 0 HG1.out.pos)
  have hfzb : ∀ j, (w3.setCell ⟨N, 3, none⟩ (.int .i64 64)).frozen? ⟨N, j, none⟩ = false := fun j => free_at hq0b.parts j
  have hq2lb : w2.heap.size ≤ (w3.setCell ⟨N, 3, none⟩ (.int .i64 64)).heap.size := Nat.le_trans hq2l hstb.size
  clear hstb
  go_upto_region 6 with (fail)
  clear hq0 hbox0 hbw3 hg3 hfz hq2l hq00 hbox00 kp3 kb8
  generalize (w3.setCell ⟨N, 3, none⟩ (.int .i64 64)) = w3b at *
  have hq0 := hq0b
  have hbox0 := hbox0b
  have hbw3 := hbw3b
  have hg3 := hg3b
  have hfz := hfzb
  have hq2l := hq2lb
  have hq00 := hq0b
  have hbox00 := hbox0b
  clear hq0b hbox0b hbw3b hg3b hfzb hq2lb
  have kb81 : w3b.cell? ⟨w2.heap.size, 8, none⟩ = some (.slice (some ⟨N, 0, none⟩) 2 2) := cell_at hbox0 8 rfl
  have kq5 : w3b.cell? ⟨N, 6, none⟩ = some (.int .u8 0) := hq0.cell 6 rfl
  have hq : WirQ (w3b.setCell ⟨N, 6, none⟩ (.int .u8 (r : Nat))) N (wPs 64 2 0 r 0 0) := hq0.set 6 (.int .u8 (r : Nat)) rfl
  have hbox4 : (w3b.setCell ⟨N, 6, none⟩ (.int .u8 (r : Nat))).heap[w2.heap.size]? = some (.cells #[.int .i64 2, .int .i64 0, .int .i64 1000, .int .i64 500, .int .i64 0, .int .i64 0, .int .i64 0, .int .i64 98, .slice (some ⟨N, 0, none⟩) 2 2, .slice (some ⟨N + 1, 0, none⟩) 4 4, .slice (some ⟨N + 2, 0, none⟩) 2 2] 26 (0, 0)) := (Below.heap_setCell _ _ _ _ hne).trans hbox0
  have hst : Below w1.heap.size w3b (w3b.setCell ⟨N, 6, none⟩ (.int .u8 (r : Nat))) := by
    have hA : Apart (fun k => k = N) w3b (w3b.setCell ⟨N, 6, none⟩ (.int .u8 (r : Nat))) := by
      first
      | exact Apart.refl _ _
      | exact (Apart.refl (fun k => k = N) _).setCell (p := ⟨N, _, none⟩) (.inl rfl) _
      | exact ((Apart.refl (fun k => k = N) _).setCell (p := ⟨N, _, none⟩) (.inl rfl) _).setCell (p := ⟨N, _, none⟩) (.inl rfl) _
      | exact ((((Apart.refl (fun k => k = N) _).setCell (p := ⟨N, _, none⟩) (.inl rfl) _).setCell (p := ⟨N, _, none⟩) (.inl rfl) _).setCell (p := ⟨N, _, none⟩) (.inl rfl) _).setCell (p := ⟨N, _, none⟩) (.inl rfl) _
      | exact (((((Apart.refl (fun k => k = N) _).setCell (p := ⟨N, _, none⟩) (.inl rfl) _).setCell (p := ⟨N, _, none⟩) (.inl rfl) _).setCell (p := ⟨N, _, none⟩) (.inl rfl) _).setCell (p := ⟨N, _, none⟩) (.inl rfl) _).setCell (p := ⟨N, _, none⟩) (.inl rfl) _
    exact hA.below (Nat.le_trans hbl hq2l) fun k e => by omega
  have hb4 : Below w.heap.size w (w3b.setCell ⟨N, 6, none⟩ (.int .u8 (r : Nat))) := hbw3.trans (hst.mono Hb1.out.size)
  have hg4 : HasType (w3b.setCell ⟨N, 6, none⟩ (.int .u8 (r : Nat))) := hg3.keep (hst.block 0 HG1.out.pos)
  have HNb := Lib.hid hNb
  have HQ := Lib.hid hq
  have HBox := Lib.hid hbox4
  have HB4 := Lib.hid hb4
  have HG4 := Lib.hid hg4
  clear hN1 hwi hq2 hb3 hq0 hq00 hbox00 hq2l hbl hbw hbw0 hbw3 hg3 hst hb4 hg4 hq hbox4 hbox0
  go_upto_region 7 with (fail)
  clear kb81 kq5 hfz
  generalize (w3b.setCell ⟨N, 6, none⟩ (.int .u8 (r : Nat))) = w4 at *
  have H4z := Lib.hid HG4.out.pos
  have hbox4 := HBox.out
  have bx0 := cell_at hbox4 0 rfl
  have bx1 := cell_at hbox4 1 rfl
  have bx2 := cell_at hbox4 2 rfl
  have bx3 := cell_at hbox4 3 rfl
  have bx4 := cell_at hbox4 4 rfl
  have bx5 := cell_at hbox4 5 rfl
  have bx6 := cell_at hbox4 6 rfl
  have bx7 := cell_at hbox4 7 rfl
  have bx8 := cell_at hbox4 8 rfl
  have bx9 := cell_at hbox4 9 rfl
  have bx10 := cell_at hbox4 10 rfl
  have HHost : Hid (Calls Tryz.prog 11 #[.agg #[.int .i64 2, .int .i64 0, .int .i64 1000, .int .i64 500, .int .i64 0, .int .i64 0, .int .i64 0, .int .i64 98, .slice (some ⟨N, 0, none⟩) 2 2, .slice (some ⟨N + 1, 0, none⟩) 4 4, .slice (some ⟨N + 2, 0, none⟩) 2 2], .int .i64 0] w4 (HostP w4 (cQ (wPs 64 2 0 r 0 0)) 0)) := Lib.hid (qhost_any N (wPs 64 2 0 r 0 0) rfl HOk.out w4 HQ.out)
  clear hbox4
  go_wp2_with fail
  clear bx0 bx1 bx2 bx3 bx4 bx5 bx6 bx7 bx8 bx9 bx10
  refine HHost.out.mono ?_
  rintro e w5 ⟨h, rfl, hh, hb5⟩
  have hb56 : Below w5.heap.size w5 (w5.alloc (.cells #[.pointer (some ⟨h.x.a, 0, none⟩), .pointer (some ⟨h.tb, 0, none⟩), .pointer (some ⟨h.mb, 0, none⟩), .pointer (some ⟨h.cb, 0, none⟩)] 36)) := (Below.refl _ _).alloc (Nat.le_refl _) _
  have hbx5 : (w5.alloc (.cells #[.pointer (some ⟨h.x.a, 0, none⟩), .pointer (some ⟨h.tb, 0, none⟩), .pointer (some ⟨h.mb, 0, none⟩), .pointer (some ⟨h.cb, 0, none⟩)] 36)).heap[w5.heap.size]? = some (.cells #[.pointer (some ⟨h.x.a, 0, none⟩), .pointer (some ⟨h.tb, 0, none⟩), .pointer (some ⟨h.mb, 0, none⟩), .pointer (some ⟨h.cb, 0, none⟩)] 36 (0, 0)) := newAt _ _
  have HHs := Lib.hid (hh.below hb56)
  have HHb := Lib.hid hbx5
  have hb46 := hb5.trans (hb56.mono hb5.size)
  have HB46 := Lib.hid hb46
  have HB6 := Lib.hid (HB4.out.trans (hb46.mono HB4.out.size))
  have HQ6 := Lib.hid (HQ.out.below hb46)
  have HBox6 := Lib.hid ((hb46.block _ (lt_of_block HBox.out)).trans HBox.out)
  have HG6 := Lib.hid (HG4.out.keep (hb46.block 0 HG4.out.pos))
  have H45 := Lib.hid hb5.size
  clear hh hb5 hb56 hbx5 hb46 HHost HQ HBox HG4
  simp only [hostV]
  go_upto_region 8 with (fail)
  generalize (w5.alloc (.cells #[.pointer (some ⟨h.x.a, 0, none⟩), .pointer (some ⟨h.tb, 0, none⟩), .pointer (some ⟨h.mb, 0, none⟩), .pointer (some ⟨h.cb, 0, none⟩)] 36)) = w6 at *
  have hbox4 := HBox6.out
  have bx0 := cell_at hbox4 0 rfl
  have bx1 := cell_at hbox4 1 rfl
  have bx2 := cell_at hbox4 2 rfl
  have bx3 := cell_at hbox4 3 rfl
  have bx4 := cell_at hbox4 4 rfl
  have bx5 := cell_at hbox4 5 rfl
  have bx6 := cell_at hbox4 6 rfl
  have bx7 := cell_at hbox4 7 rfl
  have bx8 := cell_at hbox4 8 rfl
  have bx9 := cell_at hbox4 9 rfl
  have bx10 := cell_at hbox4 10 rfl
  have HNew : Hid (Calls Tryz.prog 14 #[.agg #[.int .i64 2, .int .i64 0, .int .i64 1000, .int .i64 500, .int .i64 0, .int .i64 0, .int .i64 0, .int .i64 98, .slice (some ⟨N, 0, none⟩) 2 2, .slice (some ⟨N + 1, 0, none⟩) 4 4, .slice (some ⟨N + 2, 0, none⟩) 2 2], .int .i64 0] w6 (QNew w6 64 2)) := Lib.hid (qnew_any N 64 2 0 r 0 0 (by decide) w6 HQ6.out)
  clear hbox4
  go_wp2_with fail
  clear bx0 bx1 bx2 bx3 bx4 bx5 bx6 bx7 bx8 bx9 bx10
  refine HNew.out.mono ?_
  rintro e w7 ⟨pb, wv, rfl, hp, hb7⟩
  have HP7 := Lib.hid (hp.low16 HB46.out.size)
  have HH7 := Lib.hid (HHs.out.below hb7)
  have HHb7 := Lib.hid ((hb7.block _ (lt_of_block HHb.out)).trans HHb.out)
  have HB7 := Lib.hid (HB6.out.trans (hb7.mono HB6.out.size))
  have HQ7 := Lib.hid (HQ6.out.below hb7)
  have HBox7 := Lib.hid ((hb7.block _ (lt_of_block HBox6.out)).trans HBox6.out)
  have HG7 := Lib.hid (HG6.out.keep (hb7.block 0 HG6.out.pos))
  have HB47 := Lib.hid (HB46.out.trans (hb7.mono HB46.out.size))
  clear hp hb7 HNew HHs HHb HB6 HQ6 HBox6 HG6
  go_upto_region 11 with (fail)
  go_upto_region 12 with (fail)
  have hb8 : Below w7.heap.size w7 ((w7.alloc (.cells #[.int .u8 0, .int .i64 0, .int .i64 0, .int .i64 0, .int .i64 0, .slice none 0 0, .int .u8 4, .int .i64 0, .int .i64 99, .int .i64 0, .int .i64 0, .slice none 0 0, .int .u8 6, .int .i64 0, .int .i64 0, .int .i64 0, .int .i64 0, .slice none 0 0, .int .u8 2, .int .i64 99, .int .i64 0, .int .i64 0, .int .i64 0, .slice none 0 0] 95)).alloc (.cells #[.int .u8 4, .int .i64 0, .int .i64 99, .int .i64 0, .int .i64 0, .slice none 0 0] 95)) := ((Below.refl _ _).alloc (Nat.le_refl _) _).alloc (by simp) _
  have hwx : ((w7.alloc (.cells #[.int .u8 0, .int .i64 0, .int .i64 0, .int .i64 0, .int .i64 0, .slice none 0 0, .int .u8 4, .int .i64 0, .int .i64 99, .int .i64 0, .int .i64 0, .slice none 0 0, .int .u8 6, .int .i64 0, .int .i64 0, .int .i64 0, .int .i64 0, .slice none 0 0, .int .u8 2, .int .i64 99, .int .i64 0, .int .i64 0, .int .i64 0, .slice none 0 0] 95)).alloc (.cells #[.int .u8 4, .int .i64 0, .int .i64 99, .int .i64 0, .int .i64 0, .slice none 0 0] 95)).heap[w7.heap.size + 1]? = some (.cells #[.int .u8 4, .int .i64 0, .int .i64 99, .int .i64 0, .int .i64 0, .slice none 0 0] 95 (0, 0)) := newAt1 _ _ _
  have Hb8 := Lib.hid hb8
  have Hwx := Lib.hid hwx
  clear hb8 hwx
  generalize ((w7.alloc (.cells #[.int .u8 0, .int .i64 0, .int .i64 0, .int .i64 0, .int .i64 0, .slice none 0 0, .int .u8 4, .int .i64 0, .int .i64 99, .int .i64 0, .int .i64 0, .slice none 0 0, .int .u8 6, .int .i64 0, .int .i64 0, .int .i64 0, .int .i64 0, .slice none 0 0, .int .u8 2, .int .i64 99, .int .i64 0, .int .i64 0, .int .i64 0, .slice none 0 0] 95)).alloc (.cells #[.int .u8 4, .int .i64 0, .int .i64 99, .int .i64 0, .int .i64 0, .slice none 0 0] 95)) = w8 at *
  have HS0 : Hid (StR w8 p q 1 (w7.heap.size + 1) (.slice none 0 0) (.int .i64 0) w8) := Lib.hid ⟨0, Nat.zero_le _, rfl, World.ownsRow_nil _ _ _ _, Hwx.out, Below.refl _ _⟩
  have hwb : w7.heap.size + 1 < w8.heap.size := lt_of_block Hwx.out
  have Hwb := Lib.hid hwb
  clear hwb
  go_wp2_with fail
  go_loopw [15, 16] (StR w8 p q 1 (w7.heap.size + 1)) (fun _ i _ => (p + 1 + q + 1 - intOf i).toNat)
  case atStart => exact HS0.out
  case round =>
    clear HS0
    obtain ⟨k, hk, rfl, ho, hbx, hbl⟩ := hrel
    have hp10 := Hp.out
    have hq10 := Hq.out
    have hr4 := Hr.out
    by_cases hlt : k < p + 1 + q
    case neg =>
      have hkn : k = p + 1 + q := by omega
      have p1 : decide ((k : Int) < ((p + 1 + q : Nat) : Int)) = false := decide_eq_false (by omega)
      have p2 : decide (k < p + 1 + q) = false := decide_eq_false hlt
      have hb7r : Below w7.heap.size w7 wr := Hb8.out.trans (hbl.mono Hb8.out.size)
      have hb4r : Below w4.heap.size w4 wr := HB47.out.trans (hb7r.mono HB47.out.size)
      have htk : (stopsC p q 1).take k = stopsC p q 1 := List.take_of_length_le (by rw [stopsC_len]; omega)
      rw [htk, show k = (stopsC p q 1).length by rw [stopsC_len]; exact hkn] at ho
      obtain ⟨Ao, co, rfl, hops⟩ := ops_own ho (stopsC_ok wr (by omega))
      rw [stopsC_len]
      have HRun : Hid (Calls Tryz.prog 17 #[.pointer (some ⟨pb, 0, none⟩), .agg #[.pointer (some ⟨h.x.a, 0, none⟩), .pointer (some ⟨h.tb, 0, none⟩), .pointer (some ⟨h.mb, 0, none⟩), .pointer (some ⟨h.cb, 0, none⟩)], .int .u32 5, .slice Ao (p + 1 + q) co] wr (RunP wr w4.heap.size (cQ (wPs 64 2 0 r 0 0)) 0 (ApeP.recS 1 r) RepP.new h pb 0 64 wv (ApeP.runG (ApeP.opP (cQ (wPs 64 2 0 r 0 0)) 0 0 RepP.new) (ApeP.recS 1 r) 0 0 5 (ApeP.stopsO p q 1) 64 (⟨List.replicate 2 0, PorP.start (cQ (wPs 64 2 0 r 0 0)), HeaP.Mon.start 2, ⟨0, 0, 0, 0⟩⟩ : ApeP.AS)))) := Lib.hid (by
        rw [← stopsC_plain]
        exact run_any (s := (⟨List.replicate 2 0, PorP.start (cQ (wPs 64 2 0 r 0 0)), HeaP.Mon.start 2, ⟨0, 0, 0, 0⟩⟩ : ApeP.AS)) (HH7.out.below hb7r) (HP7.out.below hb7r) (SndP.works HOk.out).allowed hb4r.size H4z.out (HG7.out.keep (hb7r.block 0 HG7.out.pos)) new_tat (show (2 : Nat) ≤ 255 by decide) (by decide) (by decide) 5 Ao (p + 1 + q) co (stopsC p q 1) (stopsC_len p q 1) (by omega) hops)
      obtain ⟨r1, r2, r3, r4⟩ := ApeP.stops_run (ApeP.opP (cQ (wPs 64 2 0 r 0 0)) 0 0 RepP.new) (fun s => rfl) 1 r (by decide) hr4 (⟨List.replicate 2 0, PorP.start (cQ (wPs 64 2 0 r 0 0)), HeaP.Mon.start 2, ⟨0, 0, 0, 0⟩⟩ : ApeP.AS) rfl (wrong_ok1 r (⟨List.replicate 2 0, PorP.start (cQ (wPs 64 2 0 r 0 0)), HeaP.Mon.start 2, ⟨0, 0, 0, 0⟩⟩ : ApeP.AS) rfl) p q hp10 hq10
      have hx7 := (hb7r.block _ (lt_of_block HHb7.out)).trans HHb7.out
      have x0 := cell_at hx7 0 rfl
      have x1 := cell_at hx7 1 rfl
      have x2 := cell_at hx7 2 rfl
      have x3 := cell_at hx7 3 rfl
      have HX7 := Lib.hid hx7
      have HT9 : Hid (∀ h2 W, Went wr h wv h2 W → TouchA w4.heap.size wr W) := Lib.hid fun h2 W hw => hw.touch (HH7.out.below hb7r) (HP7.out.below hb7r)
      have HBr := Lib.hid (HB7.out.trans (hb7r.mono HB7.out.size))
      have HB4r := Lib.hid hb4r
      generalize (ApeP.runG (ApeP.opP (cQ (wPs 64 2 0 r 0 0)) 0 0 RepP.new) (ApeP.recS 1 r) 0 0 5 (ApeP.stopsO p q 1) 64 (⟨List.replicate 2 0, PorP.start (cQ (wPs 64 2 0 r 0 0)), HeaP.Mon.start 2, ⟨0, 0, 0, 0⟩⟩ : ApeP.AS)) = g at *
      have HR1 := Lib.hid r1
      have HR4 := Lib.hid r4
      clear hops ho hbx hbl hb7r hb4r hx7 r1 r4 htk
      go_wp2_with fail
      clear x0 x1 x2 x3
      refine HRun.out.mono ?_
      rintro e w9 ⟨v, ys, h2, rfl, hout, hres, hh9, -, hwn, -, -⟩
      have ht := HT9.out h2 w9 hwn
      have hx9 := ht.off HX7.out tag_host
      have y2 := cell_at hx9 2 rfl
      have hlen : ys.length = (if r = 0 then p + 1 + q else p + 1) := by rw [← HR1.out, ← hres, List.length_map]
      obtain ⟨va, cv, rfl, -⟩ := own_slice hout.row
      rw [hlen, r2, r3]
      have hb9 : Below w.heap.size w w9 := HBr.out.trans ((ht.below HB4r.out.size).mono HB4.out.size)
      have HSeal : Hid (Calls Tryz.prog 27 #[.pointer (some ⟨h.mb, 0, none⟩)] w9 (fun e w' => ∃ A c, e = .returned (.slice A 1 c) ∧ Below w.heap.size w w')) := Lib.hid (by
        have h1 := hseal_any w9 _ h2.mb _ _ _ h2.vp h2.vr hh9.mon
        rw [hwn.mb] at h1
        refine h1.mono ?_
        rintro e w' ⟨rfl, h3, -, h5⟩
        obtain ⟨A, c, e1, -⟩ := own_slice h3
        rw [HR4.out] at e1
        refine ⟨A, c, by rw [e1], hb9.trans ((h5.below (B := w4.heap.size) (Nat.le_trans HB4r.out.size ht.size) fun k hk => ?_).mono HB4.out.size)⟩
        rw [hk, ← hwn.mb]; exact hh9.mon.base)
      have HB9 := Lib.hid hb9
      clear hb9 ht hx9 hout hres hh9 hwn hlen HRun HT9
      by_cases hr0 : r = 0
      · subst hr0
        simp only [if_true]
        go_wp2_with fail
        refine HSeal.out.mono ?_
        rintro e w10 ⟨A10, c10, rfl, hb10⟩
        have HF := Lib.hid hb10
        clear hb10
        go_wp2_with fail
        go_ret
        exact ⟨by simp, HF.out⟩
      · have z1 : ((r : Int) != 0) = true := by simp; omega
        have z2 : (r != 0) = true := by simp; omega
        rw [if_neg hr0]
        go_wp2_with fail
        refine HSeal.out.mono ?_
        rintro e w10 ⟨A10, c10, rfl, hb10⟩
        have HF := Lib.hid hb10
        clear hb10
        go_wp2_with fail
        go_ret
        exact ⟨by simp, HF.out⟩
    case pos =>
      have p1 : decide ((k : Int) < ((p + 1 + q : Nat) : Int)) = true := decide_eq_true (by omega)
      have p2 : decide (k < p + 1 + q) = true := decide_eq_true hlt
      have e8 : IntKind.i64.wrap ((k : Int) + 1) = (k : Int) + 1 := IntWalk.i64_in _ (by omega)
      have hln : ((stopsC p q 1).take k).length = k := by rw [List.length_take, stopsC_len]; omega
      have hsz := hbl.size
      by_cases hkp : k = p
      · subst hkp
        have HNx : Hid (∀ v' w', w'.ownsRow w8.heap.size 95 6 v' ((stopsC k q 1).take k ++ [wrongC 1]).length (itemsV opVals ((stopsC k q 1).take k ++ [wrongC 1])) → Below w8.heap.size wr w' → StR w8 k q 1 (w7.heap.size + 1) v' (.int .i64 ((k : Int) + 1)) w') := Lib.hid fun v' w' h1 h2 => by
          refine StR.next hlt ho hbx Hwb.out hbl ?_ h2
          rw [if_pos rfl]; exact h1
        have HO : Hid (wr.ownsRow w8.heap.size 95 6 u15 ((stopsC k q 1).take k).length (itemsV opVals ((stopsC k q 1).take k))) := Lib.hid (by rw [hln]; exact ho)
        have hbx' : wr.heap[w7.heap.size + 1]? = some (.cells #[.int .u8 4, .int .i64 0, .int .i64 99, .int .i64 0, .int .i64 0, .slice none 0 0] 95 (0, 0)) := hbx
        have b0 := cell_at hbx' 0 rfl
        have b1 := cell_at hbx' 1 rfl
        have b2 := cell_at hbx' 2 rfl
        have b3 := cell_at hbx' 3 rfl
        have b4 := cell_at hbx' 4 rfl
        have b5 := cell_at hbx' 5 rfl
        clear ho hbx hbx' hbl
        go_wp2_with (first | (at_builtin; refine wpList_op1 rfl (.tmp 84) (.tmp 86) rfl w8.heap.size _ ((stopsC k q 1).take k) rfl HO.out (wrongC 1) _ rfl rfl (by omega) hsz ?_; intro v' w' g1 g2 g3; have HR := Lib.hid (HNx.out v' w' g1 g2); clear g1 g2 g3 b0 b1 b2 b3 b4 b5) | fail)
        go_roundw
        case rel => exact HR.out
        case measure => simp [intOf]; omega
      · have HNx : Hid (∀ v' w', w'.ownsRow w8.heap.size 95 6 v' ((stopsC p q 1).take k ++ [spinC]).length (itemsV opVals ((stopsC p q 1).take k ++ [spinC])) → Below w8.heap.size wr w' → StR w8 p q 1 (w7.heap.size + 1) v' (.int .i64 ((k : Int) + 1)) w') := Lib.hid fun v' w' h1 h2 => by
          refine StR.next hlt ho hbx Hwb.out hbl ?_ h2
          rw [if_neg hkp]; exact h1
        have HO : Hid (wr.ownsRow w8.heap.size 95 6 u15 ((stopsC p q 1).take k).length (itemsV opVals ((stopsC p q 1).take k))) := Lib.hid (by rw [hln]; exact ho)
        have z1 : ((k : Int) == (p : Int)) = false := by rw [beq_eq_false_iff_ne]; omega
        have z2 : (k == p) = false := by rw [beq_eq_false_iff_ne]; exact hkp
        clear ho hbx hbl
        go_wp2_with (first | (at_builtin; refine wpList_op1 rfl (.tmp 88) (.tmp 90) rfl w8.heap.size _ ((stopsC p q 1).take k) rfl HO.out spinC _ rfl rfl (by omega) hsz ?_; intro v' w' g1 g2 g3; have HR := Lib.hid (HNx.out v' w' g1 g2); clear g1 g2 g3) | fail)
        go_roundw
        case rel => exact HR.out
        case measure => simp [intOf]; omega
end Go.Proofs.YtemcgegickpdbaaGreatDoor
namespace Go.Proofs.YtemcgegickpdbaaGreatDoor
open Go.RowKit
set_option maxRecDepth 100000

set_option maxHeartbeats 16000000 in
theorem stops_law2 (a0 a1 a3 : Int) (n2 : Nat) (p q r : Nat) (hp10 : p < 10) (hq10 : q < 10) (hr4 : r < 4) (eA : (IntKind.u64.wrap a0).tmod 10 = (p : Int)) (eB : (IntKind.u64.wrap a1).tmod 10 = (q : Int)) (eK : (IntKind.u64.wrap a3).tmod 3 = 1) (eR : (n2 : Int).tmod 4 = (r : Int)) (w : World) (hg : HasType w) : Calls Tryz.prog 8 #[.int .i64 a0, .int .i64 a1, .int .u8 (n2 : Nat), .int .i64 a3] w (HTrue w) := by
  have HAw := Lib.hid (awake16_any w hg)
  have HG0 := Lib.hid hg
  have f1 : IntKind.i64.wrap (p : Int) = (p : Int) := IntWalk.i64_in _ (by omega)
  have f2 : IntKind.i64.wrap (q : Int) = (q : Int) := IntWalk.i64_in _ (by omega)
  have f4 : IntKind.i64.wrap ((p : Int) + 1) = ((p + 1 : Nat) : Int) := by rw [IntWalk.i64_in _ (by omega)]; omega
  have f5 : IntKind.i64.wrap (((p + 1 : Nat) : Int) + (q : Int)) = ((p + 1 + q : Nat) : Int) := by rw [IntWalk.i64_in _ (by omega)]; omega
  have HOk := Lib.hid (qok_s2 r hr4)
  have Hp := Lib.hid hp10
  have Hq := Lib.hid hq10
  have Hr := Lib.hid hr4
  clear hg hp10 hq10 hr4
  go_enter Tryz.func8, Tryz.ntmps8
  go_wp2_with fail
  refine HAw.out.mono ?_
  rintro e w1 ⟨rfl, hb1⟩
  have Hb1 := Lib.hid hb1
  have HG1 := Lib.hid (HG0.out.keep (hb1.block 0 HG0.out.pos))
  clear hb1 HAw
  go_wp2_with fail
  refine (wired_any w1).mono ?_
  rintro e w2 ⟨rfl, hwi, hbw⟩
  obtain ⟨N, hN⟩ : ∃ N, N = w1.heap.size + 2 := ⟨_, rfl⟩
  rw [← hN] at hwi ⊢
  simp only [wC, CfgC.value]
  have hq2 := WirQ.of hwi
  have hb3 : Below w2.heap.size w2 (w2.alloc (.cells #[.int .i64 2, .int .i64 0, .int .i64 1000, .int .i64 500, .int .i64 0, .int .i64 0, .int .i64 0, .int .i64 98, .slice (some ⟨N, 0, none⟩) 2 2, .slice (some ⟨N + 1, 0, none⟩) 4 4, .slice (some ⟨N + 2, 0, none⟩) 2 2] 26)) := (Below.refl _ _).alloc (Nat.le_refl _) _
  have hq00 : WirQ (w2.alloc (.cells #[.int .i64 2, .int .i64 0, .int .i64 1000, .int .i64 500, .int .i64 0, .int .i64 0, .int .i64 0, .int .i64 98, .slice (some ⟨N, 0, none⟩) 2 2, .slice (some ⟨N + 1, 0, none⟩) 4 4, .slice (some ⟨N + 2, 0, none⟩) 2 2] 26)) N (wPs 9 2 0 0 0 0) := hq2.below hb3
  have hbox00 : (w2.alloc (.cells #[.int .i64 2, .int .i64 0, .int .i64 1000, .int .i64 500, .int .i64 0, .int .i64 0, .int .i64 0, .int .i64 98, .slice (some ⟨N, 0, none⟩) 2 2, .slice (some ⟨N + 1, 0, none⟩) 4 4, .slice (some ⟨N + 2, 0, none⟩) 2 2] 26)).heap[w2.heap.size]? = some (.cells #[.int .i64 2, .int .i64 0, .int .i64 1000, .int .i64 500, .int .i64 0, .int .i64 0, .int .i64 0, .int .i64 98, .slice (some ⟨N, 0, none⟩) 2 2, .slice (some ⟨N + 1, 0, none⟩) 4 4, .slice (some ⟨N + 2, 0, none⟩) 2 2] 26 (0, 0)) := newAt _ _
  have hNb : N < w2.heap.size := lt_of_block hq2.parts
  have hbw0 := Hb1.out.trans (hbw.mono Hb1.out.size)
  have hbw3 : Below w.heap.size w (w2.alloc (.cells #[.int .i64 2, .int .i64 0, .int .i64 1000, .int .i64 500, .int .i64 0, .int .i64 0, .int .i64 0, .int .i64 98, .slice (some ⟨N, 0, none⟩) 2 2, .slice (some ⟨N + 1, 0, none⟩) 4 4, .slice (some ⟨N + 2, 0, none⟩) 2 2] 26)) := hbw0.trans (hb3.mono hbw0.size)
  have hN1 : w1.heap.size ≤ N := by omega
  have hg3 : HasType (w2.alloc (.cells #[.int .i64 2, .int .i64 0, .int .i64 1000, .int .i64 500, .int .i64 0, .int .i64 0, .int .i64 0, .int .i64 98, .slice (some ⟨N, 0, none⟩) 2 2, .slice (some ⟨N + 1, 0, none⟩) 4 4, .slice (some ⟨N + 2, 0, none⟩) 2 2] 26)) := HG1.out.keep ((hbw.trans (hb3.mono hbw.size)).block 0 HG1.out.pos)
  have hq2l := hb3.size
  have hbl := hbw.size
  clear hN
  go_upto_region 5 with (fail)
  generalize (w2.alloc (.cells #[.int .i64 2, .int .i64 0, .int .i64 1000, .int .i64 500, .int .i64 0, .int .i64 0, .int .i64 0, .int .i64 98, .slice (some ⟨N, 0, none⟩) 2 2, .slice (some ⟨N + 1, 0, none⟩) 4 4, .slice (some ⟨N + 2, 0, none⟩) 2 2] 26)) = w3 at *
  have hq0 := hq00
  have hbox0 := hbox00
  have hfz : ∀ j, w3.frozen? ⟨N, j, none⟩ = false := fun j => free_at hq0.parts j
  have hne : w2.heap.size ≠ N := by omega
  have kp3 : w3.cell? ⟨N, 3, none⟩ = some (.int .i64 9) := hq0.cell 3 rfl
  have kb8 : w3.cell? ⟨w2.heap.size, 8, none⟩ = some (.slice (some ⟨N, 0, none⟩) 2 2) := cell_at hbox0 8 rfl
  have hq0b : WirQ (w3.setCell ⟨N, 3, none⟩ (.int .i64 64)) N (wPs 64 2 0 0 0 0) := hq0.set 3 (.int .i64 64) rfl
  have hbox0b : (w3.setCell ⟨N, 3, none⟩ (.int .i64 64)).heap[w2.heap.size]? = some (.cells #[.int .i64 2, .int .i64 0, .int .i64 1000, .int .i64 500, .int .i64 0, .int .i64 0, .int .i64 0, .int .i64 98, .slice (some ⟨N, 0, none⟩) 2 2, .slice (some ⟨N + 1, 0, none⟩) 4 4, .slice (some ⟨N + 2, 0, none⟩) 2 2] 26 (0, 0)) := (Below.heap_setCell _ _ _ _ hne).trans hbox0
  have hstb : Below w1.heap.size w3 (w3.setCell ⟨N, 3, none⟩ (.int .i64 64)) := ((Apart.refl (fun k => k = N) _).setCell (p := ⟨N, _, none⟩) (.inl rfl) _).below (Nat.le_trans hbl hq2l) fun k e => by omega
  have hbw3b : Below w.heap.size w (w3.setCell ⟨N, 3, none⟩ (.int .i64 64)) := hbw3.trans (hstb.mono Hb1.out.size)
  have hg3b : HasType (w3.setCell ⟨N, 3, none⟩ (.int .i64 64)) := hg3.keep (hstb.block 0 HG1.out.pos)
  have hfzb : ∀ j, (w3.setCell ⟨N, 3, none⟩ (.int .i64 64)).frozen? ⟨N, j, none⟩ = false := fun j => free_at hq0b.parts j
  have hq2lb : w2.heap.size ≤ (w3.setCell ⟨N, 3, none⟩ (.int .i64 64)).heap.size := Nat.le_trans hq2l hstb.size
  clear hstb
  go_upto_region 6 with (fail)
  clear hq0 hbox0 hbw3 hg3 hfz hq2l hq00 hbox00 kp3 kb8
  generalize (w3.setCell ⟨N, 3, none⟩ (.int .i64 64)) = w3b at *
  have hq0 := hq0b
  have hbox0 := hbox0b
  have hbw3 := hbw3b
  have hg3 := hg3b
  have hfz := hfzb
  have hq2l := hq2lb
  have hq00 := hq0b
  have hbox00 := hbox0b
  clear hq0b hbox0b hbw3b hg3b hfzb hq2lb
  have kb81 : w3b.cell? ⟨w2.heap.size, 8, none⟩ = some (.slice (some ⟨N, 0, none⟩) 2 2) := cell_at hbox0 8 rfl
  have kq5 : w3b.cell? ⟨N, 7, none⟩ = some (.int .u8 0) := hq0.cell 7 rfl
  have hq : WirQ (w3b.setCell ⟨N, 7, none⟩ (.int .u8 (r : Nat))) N (wPs 64 2 0 0 r 0) := hq0.set 7 (.int .u8 (r : Nat)) rfl
  have hbox4 : (w3b.setCell ⟨N, 7, none⟩ (.int .u8 (r : Nat))).heap[w2.heap.size]? = some (.cells #[.int .i64 2, .int .i64 0, .int .i64 1000, .int .i64 500, .int .i64 0, .int .i64 0, .int .i64 0, .int .i64 98, .slice (some ⟨N, 0, none⟩) 2 2, .slice (some ⟨N + 1, 0, none⟩) 4 4, .slice (some ⟨N + 2, 0, none⟩) 2 2] 26 (0, 0)) := (Below.heap_setCell _ _ _ _ hne).trans hbox0
  have hst : Below w1.heap.size w3b (w3b.setCell ⟨N, 7, none⟩ (.int .u8 (r : Nat))) := by
    have hA : Apart (fun k => k = N) w3b (w3b.setCell ⟨N, 7, none⟩ (.int .u8 (r : Nat))) := by
      first
      | exact Apart.refl _ _
      | exact (Apart.refl (fun k => k = N) _).setCell (p := ⟨N, _, none⟩) (.inl rfl) _
      | exact ((Apart.refl (fun k => k = N) _).setCell (p := ⟨N, _, none⟩) (.inl rfl) _).setCell (p := ⟨N, _, none⟩) (.inl rfl) _
      | exact ((((Apart.refl (fun k => k = N) _).setCell (p := ⟨N, _, none⟩) (.inl rfl) _).setCell (p := ⟨N, _, none⟩) (.inl rfl) _).setCell (p := ⟨N, _, none⟩) (.inl rfl) _).setCell (p := ⟨N, _, none⟩) (.inl rfl) _
      | exact (((((Apart.refl (fun k => k = N) _).setCell (p := ⟨N, _, none⟩) (.inl rfl) _).setCell (p := ⟨N, _, none⟩) (.inl rfl) _).setCell (p := ⟨N, _, none⟩) (.inl rfl) _).setCell (p := ⟨N, _, none⟩) (.inl rfl) _).setCell (p := ⟨N, _, none⟩) (.inl rfl) _
    exact hA.below (Nat.le_trans hbl hq2l) fun k e => by omega
  have hb4 : Below w.heap.size w (w3b.setCell ⟨N, 7, none⟩ (.int .u8 (r : Nat))) := hbw3.trans (hst.mono Hb1.out.size)
  have hg4 : HasType (w3b.setCell ⟨N, 7, none⟩ (.int .u8 (r : Nat))) := hg3.keep (hst.block 0 HG1.out.pos)
  have HNb := Lib.hid hNb
  have HQ := Lib.hid hq
  have HBox := Lib.hid hbox4
  have HB4 := Lib.hid hb4
  have HG4 := Lib.hid hg4
  clear hN1 hwi hq2 hb3 hq0 hq00 hbox00 hq2l hbl hbw hbw0 hbw3 hg3 hst hb4 hg4 hq hbox4 hbox0
  go_upto_region 7 with (fail)
  clear kb81 kq5 hfz
  generalize (w3b.setCell ⟨N, 7, none⟩ (.int .u8 (r : Nat))) = w4 at *
  have H4z := Lib.hid HG4.out.pos
  have hbox4 := HBox.out
  have bx0 := cell_at hbox4 0 rfl
  have bx1 := cell_at hbox4 1 rfl
  have bx2 := cell_at hbox4 2 rfl
  have bx3 := cell_at hbox4 3 rfl
  have bx4 := cell_at hbox4 4 rfl
  have bx5 := cell_at hbox4 5 rfl
  have bx6 := cell_at hbox4 6 rfl
  have bx7 := cell_at hbox4 7 rfl
  have bx8 := cell_at hbox4 8 rfl
  have bx9 := cell_at hbox4 9 rfl
  have bx10 := cell_at hbox4 10 rfl
  have HHost : Hid (Calls Tryz.prog 11 #[.agg #[.int .i64 2, .int .i64 0, .int .i64 1000, .int .i64 500, .int .i64 0, .int .i64 0, .int .i64 0, .int .i64 98, .slice (some ⟨N, 0, none⟩) 2 2, .slice (some ⟨N + 1, 0, none⟩) 4 4, .slice (some ⟨N + 2, 0, none⟩) 2 2], .int .i64 0] w4 (HostP w4 (cQ (wPs 64 2 0 0 r 0)) 0)) := Lib.hid (qhost_any N (wPs 64 2 0 0 r 0) rfl HOk.out w4 HQ.out)
  clear hbox4
  go_wp2_with fail
  clear bx0 bx1 bx2 bx3 bx4 bx5 bx6 bx7 bx8 bx9 bx10
  refine HHost.out.mono ?_
  rintro e w5 ⟨h, rfl, hh, hb5⟩
  have hb56 : Below w5.heap.size w5 (w5.alloc (.cells #[.pointer (some ⟨h.x.a, 0, none⟩), .pointer (some ⟨h.tb, 0, none⟩), .pointer (some ⟨h.mb, 0, none⟩), .pointer (some ⟨h.cb, 0, none⟩)] 36)) := (Below.refl _ _).alloc (Nat.le_refl _) _
  have hbx5 : (w5.alloc (.cells #[.pointer (some ⟨h.x.a, 0, none⟩), .pointer (some ⟨h.tb, 0, none⟩), .pointer (some ⟨h.mb, 0, none⟩), .pointer (some ⟨h.cb, 0, none⟩)] 36)).heap[w5.heap.size]? = some (.cells #[.pointer (some ⟨h.x.a, 0, none⟩), .pointer (some ⟨h.tb, 0, none⟩), .pointer (some ⟨h.mb, 0, none⟩), .pointer (some ⟨h.cb, 0, none⟩)] 36 (0, 0)) := newAt _ _
  have HHs := Lib.hid (hh.below hb56)
  have HHb := Lib.hid hbx5
  have hb46 := hb5.trans (hb56.mono hb5.size)
  have HB46 := Lib.hid hb46
  have HB6 := Lib.hid (HB4.out.trans (hb46.mono HB4.out.size))
  have HQ6 := Lib.hid (HQ.out.below hb46)
  have HBox6 := Lib.hid ((hb46.block _ (lt_of_block HBox.out)).trans HBox.out)
  have HG6 := Lib.hid (HG4.out.keep (hb46.block 0 HG4.out.pos))
  have H45 := Lib.hid hb5.size
  clear hh hb5 hb56 hbx5 hb46 HHost HQ HBox HG4
  simp only [hostV]
  go_upto_region 8 with (fail)
  generalize (w5.alloc (.cells #[.pointer (some ⟨h.x.a, 0, none⟩), .pointer (some ⟨h.tb, 0, none⟩), .pointer (some ⟨h.mb, 0, none⟩), .pointer (some ⟨h.cb, 0, none⟩)] 36)) = w6 at *
  have hbox4 := HBox6.out
  have bx0 := cell_at hbox4 0 rfl
  have bx1 := cell_at hbox4 1 rfl
  have bx2 := cell_at hbox4 2 rfl
  have bx3 := cell_at hbox4 3 rfl
  have bx4 := cell_at hbox4 4 rfl
  have bx5 := cell_at hbox4 5 rfl
  have bx6 := cell_at hbox4 6 rfl
  have bx7 := cell_at hbox4 7 rfl
  have bx8 := cell_at hbox4 8 rfl
  have bx9 := cell_at hbox4 9 rfl
  have bx10 := cell_at hbox4 10 rfl
  have HNew : Hid (Calls Tryz.prog 14 #[.agg #[.int .i64 2, .int .i64 0, .int .i64 1000, .int .i64 500, .int .i64 0, .int .i64 0, .int .i64 0, .int .i64 98, .slice (some ⟨N, 0, none⟩) 2 2, .slice (some ⟨N + 1, 0, none⟩) 4 4, .slice (some ⟨N + 2, 0, none⟩) 2 2], .int .i64 0] w6 (QNew w6 64 2)) := Lib.hid (qnew_any N 64 2 0 0 r 0 (by decide) w6 HQ6.out)
  clear hbox4
  go_wp2_with fail
  clear bx0 bx1 bx2 bx3 bx4 bx5 bx6 bx7 bx8 bx9 bx10
  refine HNew.out.mono ?_
  rintro e w7 ⟨pb, wv, rfl, hp, hb7⟩
  have HP7 := Lib.hid (hp.low16 HB46.out.size)
  have HH7 := Lib.hid (HHs.out.below hb7)
  have HHb7 := Lib.hid ((hb7.block _ (lt_of_block HHb.out)).trans HHb.out)
  have HB7 := Lib.hid (HB6.out.trans (hb7.mono HB6.out.size))
  have HQ7 := Lib.hid (HQ6.out.below hb7)
  have HBox7 := Lib.hid ((hb7.block _ (lt_of_block HBox6.out)).trans HBox6.out)
  have HG7 := Lib.hid (HG6.out.keep (hb7.block 0 HG6.out.pos))
  have HB47 := Lib.hid (HB46.out.trans (hb7.mono HB46.out.size))
  clear hp hb7 HNew HHs HHb HB6 HQ6 HBox6 HG6
  go_upto_region 11 with (fail)
  go_upto_region 12 with (fail)
  have hb8 : Below w7.heap.size w7 ((w7.alloc (.cells #[.int .u8 0, .int .i64 0, .int .i64 0, .int .i64 0, .int .i64 0, .slice none 0 0, .int .u8 4, .int .i64 0, .int .i64 99, .int .i64 0, .int .i64 0, .slice none 0 0, .int .u8 6, .int .i64 0, .int .i64 0, .int .i64 0, .int .i64 0, .slice none 0 0, .int .u8 2, .int .i64 99, .int .i64 0, .int .i64 0, .int .i64 0, .slice none 0 0] 95)).alloc (.cells #[.int .u8 6, .int .i64 0, .int .i64 0, .int .i64 0, .int .i64 0, .slice none 0 0] 95)) := ((Below.refl _ _).alloc (Nat.le_refl _) _).alloc (by simp) _
  have hwx : ((w7.alloc (.cells #[.int .u8 0, .int .i64 0, .int .i64 0, .int .i64 0, .int .i64 0, .slice none 0 0, .int .u8 4, .int .i64 0, .int .i64 99, .int .i64 0, .int .i64 0, .slice none 0 0, .int .u8 6, .int .i64 0, .int .i64 0, .int .i64 0, .int .i64 0, .slice none 0 0, .int .u8 2, .int .i64 99, .int .i64 0, .int .i64 0, .int .i64 0, .slice none 0 0] 95)).alloc (.cells #[.int .u8 6, .int .i64 0, .int .i64 0, .int .i64 0, .int .i64 0, .slice none 0 0] 95)).heap[w7.heap.size + 1]? = some (.cells #[.int .u8 6, .int .i64 0, .int .i64 0, .int .i64 0, .int .i64 0, .slice none 0 0] 95 (0, 0)) := newAt1 _ _ _
  have Hb8 := Lib.hid hb8
  have Hwx := Lib.hid hwx
  clear hb8 hwx
  generalize ((w7.alloc (.cells #[.int .u8 0, .int .i64 0, .int .i64 0, .int .i64 0, .int .i64 0, .slice none 0 0, .int .u8 4, .int .i64 0, .int .i64 99, .int .i64 0, .int .i64 0, .slice none 0 0, .int .u8 6, .int .i64 0, .int .i64 0, .int .i64 0, .int .i64 0, .slice none 0 0, .int .u8 2, .int .i64 99, .int .i64 0, .int .i64 0, .int .i64 0, .slice none 0 0] 95)).alloc (.cells #[.int .u8 6, .int .i64 0, .int .i64 0, .int .i64 0, .int .i64 0, .slice none 0 0] 95)) = w8 at *
  have HS0 : Hid (StR w8 p q 2 (w7.heap.size + 1) (.slice none 0 0) (.int .i64 0) w8) := Lib.hid ⟨0, Nat.zero_le _, rfl, World.ownsRow_nil _ _ _ _, Hwx.out, Below.refl _ _⟩
  have hwb : w7.heap.size + 1 < w8.heap.size := lt_of_block Hwx.out
  have Hwb := Lib.hid hwb
  clear hwb
  go_wp2_with fail
  go_loopw [15, 16] (StR w8 p q 2 (w7.heap.size + 1)) (fun _ i _ => (p + 1 + q + 1 - intOf i).toNat)
  case atStart => exact HS0.out
  case round =>
    clear HS0
    obtain ⟨k, hk, rfl, ho, hbx, hbl⟩ := hrel
    have hp10 := Hp.out
    have hq10 := Hq.out
    have hr4 := Hr.out
    by_cases hlt : k < p + 1 + q
    case neg =>
      have hkn : k = p + 1 + q := by omega
      have p1 : decide ((k : Int) < ((p + 1 + q : Nat) : Int)) = false := decide_eq_false (by omega)
      have p2 : decide (k < p + 1 + q) = false := decide_eq_false hlt
      have hb7r : Below w7.heap.size w7 wr := Hb8.out.trans (hbl.mono Hb8.out.size)
      have hb4r : Below w4.heap.size w4 wr := HB47.out.trans (hb7r.mono HB47.out.size)
      have htk : (stopsC p q 2).take k = stopsC p q 2 := List.take_of_length_le (by rw [stopsC_len]; omega)
      rw [htk, show k = (stopsC p q 2).length by rw [stopsC_len]; exact hkn] at ho
      obtain ⟨Ao, co, rfl, hops⟩ := ops_own ho (stopsC_ok wr (by omega))
      rw [stopsC_len]
      have HRun : Hid (Calls Tryz.prog 17 #[.pointer (some ⟨pb, 0, none⟩), .agg #[.pointer (some ⟨h.x.a, 0, none⟩), .pointer (some ⟨h.tb, 0, none⟩), .pointer (some ⟨h.mb, 0, none⟩), .pointer (some ⟨h.cb, 0, none⟩)], .int .u32 5, .slice Ao (p + 1 + q) co] wr (RunP wr w4.heap.size (cQ (wPs 64 2 0 0 r 0)) 0 (ApeP.recS 2 r) RepP.new h pb 0 64 wv (ApeP.runG (ApeP.opP (cQ (wPs 64 2 0 0 r 0)) 0 0 RepP.new) (ApeP.recS 2 r) 0 0 5 (ApeP.stopsO p q 2) 64 (⟨List.replicate 2 0, PorP.start (cQ (wPs 64 2 0 0 r 0)), HeaP.Mon.start 2, ⟨0, 0, 0, 0⟩⟩ : ApeP.AS)))) := Lib.hid (by
        rw [← stopsC_plain]
        exact run_any (s := (⟨List.replicate 2 0, PorP.start (cQ (wPs 64 2 0 0 r 0)), HeaP.Mon.start 2, ⟨0, 0, 0, 0⟩⟩ : ApeP.AS)) (HH7.out.below hb7r) (HP7.out.below hb7r) (SndP.works HOk.out).allowed hb4r.size H4z.out (HG7.out.keep (hb7r.block 0 HG7.out.pos)) new_tat (show (2 : Nat) ≤ 255 by decide) (by decide) (by decide) 5 Ao (p + 1 + q) co (stopsC p q 2) (stopsC_len p q 2) (by omega) hops)
      obtain ⟨r1, r2, r3, r4⟩ := ApeP.stops_run (ApeP.opP (cQ (wPs 64 2 0 0 r 0)) 0 0 RepP.new) (fun s => rfl) 2 r (by decide) hr4 (⟨List.replicate 2 0, PorP.start (cQ (wPs 64 2 0 0 r 0)), HeaP.Mon.start 2, ⟨0, 0, 0, 0⟩⟩ : ApeP.AS) rfl (wrong_ok2 r (⟨List.replicate 2 0, PorP.start (cQ (wPs 64 2 0 0 r 0)), HeaP.Mon.start 2, ⟨0, 0, 0, 0⟩⟩ : ApeP.AS) rfl) p q hp10 hq10
      have hx7 := (hb7r.block _ (lt_of_block HHb7.out)).trans HHb7.out
      have x0 := cell_at hx7 0 rfl
      have x1 := cell_at hx7 1 rfl
      have x2 := cell_at hx7 2 rfl
      have x3 := cell_at hx7 3 rfl
      have HX7 := Lib.hid hx7
      have HT9 : Hid (∀ h2 W, Went wr h wv h2 W → TouchA w4.heap.size wr W) := Lib.hid fun h2 W hw => hw.touch (HH7.out.below hb7r) (HP7.out.below hb7r)
      have HBr := Lib.hid (HB7.out.trans (hb7r.mono HB7.out.size))
      have HB4r := Lib.hid hb4r
      generalize (ApeP.runG (ApeP.opP (cQ (wPs 64 2 0 0 r 0)) 0 0 RepP.new) (ApeP.recS 2 r) 0 0 5 (ApeP.stopsO p q 2) 64 (⟨List.replicate 2 0, PorP.start (cQ (wPs 64 2 0 0 r 0)), HeaP.Mon.start 2, ⟨0, 0, 0, 0⟩⟩ : ApeP.AS)) = g at *
      have HR1 := Lib.hid r1
      have HR4 := Lib.hid r4
      clear hops ho hbx hbl hb7r hb4r hx7 r1 r4 htk
      go_wp2_with fail
      clear x0 x1 x2 x3
      refine HRun.out.mono ?_
      rintro e w9 ⟨v, ys, h2, rfl, hout, hres, hh9, -, hwn, -, -⟩
      have ht := HT9.out h2 w9 hwn
      have hx9 := ht.off HX7.out tag_host
      have y2 := cell_at hx9 2 rfl
      have hlen : ys.length = (if r = 0 then p + 1 + q else p + 1) := by rw [← HR1.out, ← hres, List.length_map]
      obtain ⟨va, cv, rfl, -⟩ := own_slice hout.row
      rw [hlen, r2, r3]
      have hb9 : Below w.heap.size w w9 := HBr.out.trans ((ht.below HB4r.out.size).mono HB4.out.size)
      have HSeal : Hid (Calls Tryz.prog 27 #[.pointer (some ⟨h.mb, 0, none⟩)] w9 (fun e w' => ∃ A c, e = .returned (.slice A 1 c) ∧ Below w.heap.size w w')) := Lib.hid (by
        have h1 := hseal_any w9 _ h2.mb _ _ _ h2.vp h2.vr hh9.mon
        rw [hwn.mb] at h1
        refine h1.mono ?_
        rintro e w' ⟨rfl, h3, -, h5⟩
        obtain ⟨A, c, e1, -⟩ := own_slice h3
        rw [HR4.out] at e1
        refine ⟨A, c, by rw [e1], hb9.trans ((h5.below (B := w4.heap.size) (Nat.le_trans HB4r.out.size ht.size) fun k hk => ?_).mono HB4.out.size)⟩
        rw [hk, ← hwn.mb]; exact hh9.mon.base)
      have HB9 := Lib.hid hb9
      clear hb9 ht hx9 hout hres hh9 hwn hlen HRun HT9
      by_cases hr0 : r = 0
      · subst hr0
        simp only [if_true]
        go_wp2_with fail
        refine HSeal.out.mono ?_
        rintro e w10 ⟨A10, c10, rfl, hb10⟩
        have HF := Lib.hid hb10
        clear hb10
        go_wp2_with fail
        go_ret
        exact ⟨by simp, HF.out⟩
      · have z1 : ((r : Int) != 0) = true := by simp; omega
        have z2 : (r != 0) = true := by simp; omega
        rw [if_neg hr0]
        go_wp2_with fail
        refine HSeal.out.mono ?_
        rintro e w10 ⟨A10, c10, rfl, hb10⟩
        have HF := Lib.hid hb10
        clear hb10
        go_wp2_with fail
        go_ret
        exact ⟨by simp, HF.out⟩
    case pos =>
      have p1 : decide ((k : Int) < ((p + 1 + q : Nat) : Int)) = true := decide_eq_true (by omega)
      have p2 : decide (k < p + 1 + q) = true := decide_eq_true hlt
      have e8 : IntKind.i64.wrap ((k : Int) + 1) = (k : Int) + 1 := IntWalk.i64_in _ (by omega)
      have hln : ((stopsC p q 2).take k).length = k := by rw [List.length_take, stopsC_len]; omega
      have hsz := hbl.size
      by_cases hkp : k = p
      · subst hkp
        have HNx : Hid (∀ v' w', w'.ownsRow w8.heap.size 95 6 v' ((stopsC k q 2).take k ++ [wrongC 2]).length (itemsV opVals ((stopsC k q 2).take k ++ [wrongC 2])) → Below w8.heap.size wr w' → StR w8 k q 2 (w7.heap.size + 1) v' (.int .i64 ((k : Int) + 1)) w') := Lib.hid fun v' w' h1 h2 => by
          refine StR.next hlt ho hbx Hwb.out hbl ?_ h2
          rw [if_pos rfl]; exact h1
        have HO : Hid (wr.ownsRow w8.heap.size 95 6 u15 ((stopsC k q 2).take k).length (itemsV opVals ((stopsC k q 2).take k))) := Lib.hid (by rw [hln]; exact ho)
        have hbx' : wr.heap[w7.heap.size + 1]? = some (.cells #[.int .u8 6, .int .i64 0, .int .i64 0, .int .i64 0, .int .i64 0, .slice none 0 0] 95 (0, 0)) := hbx
        have b0 := cell_at hbx' 0 rfl
        have b1 := cell_at hbx' 1 rfl
        have b2 := cell_at hbx' 2 rfl
        have b3 := cell_at hbx' 3 rfl
        have b4 := cell_at hbx' 4 rfl
        have b5 := cell_at hbx' 5 rfl
        clear ho hbx hbx' hbl
        go_wp2_with (first | (at_builtin; refine wpList_op1 rfl (.tmp 84) (.tmp 86) rfl w8.heap.size _ ((stopsC k q 2).take k) rfl HO.out (wrongC 2) _ rfl rfl (by omega) hsz ?_; intro v' w' g1 g2 g3; have HR := Lib.hid (HNx.out v' w' g1 g2); clear g1 g2 g3 b0 b1 b2 b3 b4 b5) | fail)
        go_roundw
        case rel => exact HR.out
        case measure => simp [intOf]; omega
      · have HNx : Hid (∀ v' w', w'.ownsRow w8.heap.size 95 6 v' ((stopsC p q 2).take k ++ [spinC]).length (itemsV opVals ((stopsC p q 2).take k ++ [spinC])) → Below w8.heap.size wr w' → StR w8 p q 2 (w7.heap.size + 1) v' (.int .i64 ((k : Int) + 1)) w') := Lib.hid fun v' w' h1 h2 => by
          refine StR.next hlt ho hbx Hwb.out hbl ?_ h2
          rw [if_neg hkp]; exact h1
        have HO : Hid (wr.ownsRow w8.heap.size 95 6 u15 ((stopsC p q 2).take k).length (itemsV opVals ((stopsC p q 2).take k))) := Lib.hid (by rw [hln]; exact ho)
        have z1 : ((k : Int) == (p : Int)) = false := by rw [beq_eq_false_iff_ne]; omega
        have z2 : (k == p) = false := by rw [beq_eq_false_iff_ne]; exact hkp
        clear ho hbx hbl
        go_wp2_with (first | (at_builtin; refine wpList_op1 rfl (.tmp 88) (.tmp 90) rfl w8.heap.size _ ((stopsC p q 2).take k) rfl HO.out spinC _ rfl rfl (by omega) hsz ?_; intro v' w' g1 g2 g3; have HR := Lib.hid (HNx.out v' w' g1 g2); clear g1 g2 g3) | fail)
        go_roundw
        case rel => exact HR.out
        case measure => simp [intOf]; omega
end Go.Proofs.YtemcgegickpdbaaGreatDoor
namespace Go.Proofs.YtemcgegickpdbaaGreatDoor
open Go.RowKit
set_option maxRecDepth 100000

set_option maxHeartbeats 16000000 in
theorem stops_law3 (a0 a1 a3 : Int) (n2 : Nat) (p q r : Nat) (hp10 : p < 10) (hq10 : q < 10) (hr4 : r < 4) (eA : (IntKind.u64.wrap a0).tmod 10 = (p : Int)) (eB : (IntKind.u64.wrap a1).tmod 10 = (q : Int)) (eK : (IntKind.u64.wrap a3).tmod 3 = 2) (eR : (n2 : Int).tmod 4 = (r : Int)) (w : World) (hg : HasType w) : Calls Tryz.prog 8 #[.int .i64 a0, .int .i64 a1, .int .u8 (n2 : Nat), .int .i64 a3] w (HTrue w) := by
  have HAw := Lib.hid (awake16_any w hg)
  have HG0 := Lib.hid hg
  have f1 : IntKind.i64.wrap (p : Int) = (p : Int) := IntWalk.i64_in _ (by omega)
  have f2 : IntKind.i64.wrap (q : Int) = (q : Int) := IntWalk.i64_in _ (by omega)
  have f4 : IntKind.i64.wrap ((p : Int) + 1) = ((p + 1 : Nat) : Int) := by rw [IntWalk.i64_in _ (by omega)]; omega
  have f5 : IntKind.i64.wrap (((p + 1 : Nat) : Int) + (q : Int)) = ((p + 1 + q : Nat) : Int) := by rw [IntWalk.i64_in _ (by omega)]; omega
  have HOk := Lib.hid (qok_s3 r hr4)
  have Hp := Lib.hid hp10
  have Hq := Lib.hid hq10
  have Hr := Lib.hid hr4
  clear hg hp10 hq10 hr4
  go_enter Tryz.func8, Tryz.ntmps8
  go_wp2_with fail
  refine HAw.out.mono ?_
  rintro e w1 ⟨rfl, hb1⟩
  have Hb1 := Lib.hid hb1
  have HG1 := Lib.hid (HG0.out.keep (hb1.block 0 HG0.out.pos))
  clear hb1 HAw
  go_wp2_with fail
  refine (wired_any w1).mono ?_
  rintro e w2 ⟨rfl, hwi, hbw⟩
  obtain ⟨N, hN⟩ : ∃ N, N = w1.heap.size + 2 := ⟨_, rfl⟩
  rw [← hN] at hwi ⊢
  simp only [wC, CfgC.value]
  have hq2 := WirQ.of hwi
  have hb3 : Below w2.heap.size w2 (w2.alloc (.cells #[.int .i64 2, .int .i64 0, .int .i64 1000, .int .i64 500, .int .i64 0, .int .i64 0, .int .i64 0, .int .i64 98, .slice (some ⟨N, 0, none⟩) 2 2, .slice (some ⟨N + 1, 0, none⟩) 4 4, .slice (some ⟨N + 2, 0, none⟩) 2 2] 26)) := (Below.refl _ _).alloc (Nat.le_refl _) _
  have hq00 : WirQ (w2.alloc (.cells #[.int .i64 2, .int .i64 0, .int .i64 1000, .int .i64 500, .int .i64 0, .int .i64 0, .int .i64 0, .int .i64 98, .slice (some ⟨N, 0, none⟩) 2 2, .slice (some ⟨N + 1, 0, none⟩) 4 4, .slice (some ⟨N + 2, 0, none⟩) 2 2] 26)) N (wPs 9 2 0 0 0 0) := hq2.below hb3
  have hbox00 : (w2.alloc (.cells #[.int .i64 2, .int .i64 0, .int .i64 1000, .int .i64 500, .int .i64 0, .int .i64 0, .int .i64 0, .int .i64 98, .slice (some ⟨N, 0, none⟩) 2 2, .slice (some ⟨N + 1, 0, none⟩) 4 4, .slice (some ⟨N + 2, 0, none⟩) 2 2] 26)).heap[w2.heap.size]? = some (.cells #[.int .i64 2, .int .i64 0, .int .i64 1000, .int .i64 500, .int .i64 0, .int .i64 0, .int .i64 0, .int .i64 98, .slice (some ⟨N, 0, none⟩) 2 2, .slice (some ⟨N + 1, 0, none⟩) 4 4, .slice (some ⟨N + 2, 0, none⟩) 2 2] 26 (0, 0)) := newAt _ _
  have hNb : N < w2.heap.size := lt_of_block hq2.parts
  have hbw0 := Hb1.out.trans (hbw.mono Hb1.out.size)
  have hbw3 : Below w.heap.size w (w2.alloc (.cells #[.int .i64 2, .int .i64 0, .int .i64 1000, .int .i64 500, .int .i64 0, .int .i64 0, .int .i64 0, .int .i64 98, .slice (some ⟨N, 0, none⟩) 2 2, .slice (some ⟨N + 1, 0, none⟩) 4 4, .slice (some ⟨N + 2, 0, none⟩) 2 2] 26)) := hbw0.trans (hb3.mono hbw0.size)
  have hN1 : w1.heap.size ≤ N := by omega
  have hg3 : HasType (w2.alloc (.cells #[.int .i64 2, .int .i64 0, .int .i64 1000, .int .i64 500, .int .i64 0, .int .i64 0, .int .i64 0, .int .i64 98, .slice (some ⟨N, 0, none⟩) 2 2, .slice (some ⟨N + 1, 0, none⟩) 4 4, .slice (some ⟨N + 2, 0, none⟩) 2 2] 26)) := HG1.out.keep ((hbw.trans (hb3.mono hbw.size)).block 0 HG1.out.pos)
  have hq2l := hb3.size
  have hbl := hbw.size
  clear hN
  go_upto_region 5 with (fail)
  generalize (w2.alloc (.cells #[.int .i64 2, .int .i64 0, .int .i64 1000, .int .i64 500, .int .i64 0, .int .i64 0, .int .i64 0, .int .i64 98, .slice (some ⟨N, 0, none⟩) 2 2, .slice (some ⟨N + 1, 0, none⟩) 4 4, .slice (some ⟨N + 2, 0, none⟩) 2 2] 26)) = w3 at *
  have hq0 := hq00
  have hbox0 := hbox00
  have hfz : ∀ j, w3.frozen? ⟨N, j, none⟩ = false := fun j => free_at hq0.parts j
  have hne : w2.heap.size ≠ N := by omega
  have kp3 : w3.cell? ⟨N, 3, none⟩ = some (.int .i64 9) := hq0.cell 3 rfl
  have kb8 : w3.cell? ⟨w2.heap.size, 8, none⟩ = some (.slice (some ⟨N, 0, none⟩) 2 2) := cell_at hbox0 8 rfl
  have hq0b : WirQ (w3.setCell ⟨N, 3, none⟩ (.int .i64 64)) N (wPs 64 2 0 0 0 0) := hq0.set 3 (.int .i64 64) rfl
  have hbox0b : (w3.setCell ⟨N, 3, none⟩ (.int .i64 64)).heap[w2.heap.size]? = some (.cells #[.int .i64 2, .int .i64 0, .int .i64 1000, .int .i64 500, .int .i64 0, .int .i64 0, .int .i64 0, .int .i64 98, .slice (some ⟨N, 0, none⟩) 2 2, .slice (some ⟨N + 1, 0, none⟩) 4 4, .slice (some ⟨N + 2, 0, none⟩) 2 2] 26 (0, 0)) := (Below.heap_setCell _ _ _ _ hne).trans hbox0
  have hstb : Below w1.heap.size w3 (w3.setCell ⟨N, 3, none⟩ (.int .i64 64)) := ((Apart.refl (fun k => k = N) _).setCell (p := ⟨N, _, none⟩) (.inl rfl) _).below (Nat.le_trans hbl hq2l) fun k e => by omega
  have hbw3b : Below w.heap.size w (w3.setCell ⟨N, 3, none⟩ (.int .i64 64)) := hbw3.trans (hstb.mono Hb1.out.size)
  have hg3b : HasType (w3.setCell ⟨N, 3, none⟩ (.int .i64 64)) := hg3.keep (hstb.block 0 HG1.out.pos)
  have hfzb : ∀ j, (w3.setCell ⟨N, 3, none⟩ (.int .i64 64)).frozen? ⟨N, j, none⟩ = false := fun j => free_at hq0b.parts j
  have hq2lb : w2.heap.size ≤ (w3.setCell ⟨N, 3, none⟩ (.int .i64 64)).heap.size := Nat.le_trans hq2l hstb.size
  clear hstb
  go_upto_region 6 with (fail)
  clear hq0 hbox0 hbw3 hg3 hfz hq2l hq00 hbox00 kp3 kb8
  generalize (w3.setCell ⟨N, 3, none⟩ (.int .i64 64)) = w3b at *
  have hq0 := hq0b
  have hbox0 := hbox0b
  have hbw3 := hbw3b
  have hg3 := hg3b
  have hfz := hfzb
  have hq2l := hq2lb
  have hq00 := hq0b
  have hbox00 := hbox0b
  clear hq0b hbox0b hbw3b hg3b hfzb hq2lb
  have kb81 : w3b.cell? ⟨w2.heap.size, 8, none⟩ = some (.slice (some ⟨N, 0, none⟩) 2 2) := cell_at hbox0 8 rfl
  have kq5 : w3b.cell? ⟨N, 8, none⟩ = some (.int .u8 0) := hq0.cell 8 rfl
  have hq : WirQ (w3b.setCell ⟨N, 8, none⟩ (.int .u8 (r : Nat))) N (wPs 64 2 0 0 0 r) := hq0.set 8 (.int .u8 (r : Nat)) rfl
  have hbox4 : (w3b.setCell ⟨N, 8, none⟩ (.int .u8 (r : Nat))).heap[w2.heap.size]? = some (.cells #[.int .i64 2, .int .i64 0, .int .i64 1000, .int .i64 500, .int .i64 0, .int .i64 0, .int .i64 0, .int .i64 98, .slice (some ⟨N, 0, none⟩) 2 2, .slice (some ⟨N + 1, 0, none⟩) 4 4, .slice (some ⟨N + 2, 0, none⟩) 2 2] 26 (0, 0)) := (Below.heap_setCell _ _ _ _ hne).trans hbox0
  have hst : Below w1.heap.size w3b (w3b.setCell ⟨N, 8, none⟩ (.int .u8 (r : Nat))) := by
    have hA : Apart (fun k => k = N) w3b (w3b.setCell ⟨N, 8, none⟩ (.int .u8 (r : Nat))) := by
      first
      | exact Apart.refl _ _
      | exact (Apart.refl (fun k => k = N) _).setCell (p := ⟨N, _, none⟩) (.inl rfl) _
      | exact ((Apart.refl (fun k => k = N) _).setCell (p := ⟨N, _, none⟩) (.inl rfl) _).setCell (p := ⟨N, _, none⟩) (.inl rfl) _
      | exact ((((Apart.refl (fun k => k = N) _).setCell (p := ⟨N, _, none⟩) (.inl rfl) _).setCell (p := ⟨N, _, none⟩) (.inl rfl) _).setCell (p := ⟨N, _, none⟩) (.inl rfl) _).setCell (p := ⟨N, _, none⟩) (.inl rfl) _
      | exact (((((Apart.refl (fun k => k = N) _).setCell (p := ⟨N, _, none⟩) (.inl rfl) _).setCell (p := ⟨N, _, none⟩) (.inl rfl) _).setCell (p := ⟨N, _, none⟩) (.inl rfl) _).setCell (p := ⟨N, _, none⟩) (.inl rfl) _).setCell (p := ⟨N, _, none⟩) (.inl rfl) _
    exact hA.below (Nat.le_trans hbl hq2l) fun k e => by omega
  have hb4 : Below w.heap.size w (w3b.setCell ⟨N, 8, none⟩ (.int .u8 (r : Nat))) := hbw3.trans (hst.mono Hb1.out.size)
  have hg4 : HasType (w3b.setCell ⟨N, 8, none⟩ (.int .u8 (r : Nat))) := hg3.keep (hst.block 0 HG1.out.pos)
  have HNb := Lib.hid hNb
  have HQ := Lib.hid hq
  have HBox := Lib.hid hbox4
  have HB4 := Lib.hid hb4
  have HG4 := Lib.hid hg4
  clear hN1 hwi hq2 hb3 hq0 hq00 hbox00 hq2l hbl hbw hbw0 hbw3 hg3 hst hb4 hg4 hq hbox4 hbox0
  go_upto_region 7 with (fail)
  clear kb81 kq5 hfz
  generalize (w3b.setCell ⟨N, 8, none⟩ (.int .u8 (r : Nat))) = w4 at *
  have H4z := Lib.hid HG4.out.pos
  have hbox4 := HBox.out
  have bx0 := cell_at hbox4 0 rfl
  have bx1 := cell_at hbox4 1 rfl
  have bx2 := cell_at hbox4 2 rfl
  have bx3 := cell_at hbox4 3 rfl
  have bx4 := cell_at hbox4 4 rfl
  have bx5 := cell_at hbox4 5 rfl
  have bx6 := cell_at hbox4 6 rfl
  have bx7 := cell_at hbox4 7 rfl
  have bx8 := cell_at hbox4 8 rfl
  have bx9 := cell_at hbox4 9 rfl
  have bx10 := cell_at hbox4 10 rfl
  have HHost : Hid (Calls Tryz.prog 11 #[.agg #[.int .i64 2, .int .i64 0, .int .i64 1000, .int .i64 500, .int .i64 0, .int .i64 0, .int .i64 0, .int .i64 98, .slice (some ⟨N, 0, none⟩) 2 2, .slice (some ⟨N + 1, 0, none⟩) 4 4, .slice (some ⟨N + 2, 0, none⟩) 2 2], .int .i64 0] w4 (HostP w4 (cQ (wPs 64 2 0 0 0 r)) 0)) := Lib.hid (qhost_any N (wPs 64 2 0 0 0 r) rfl HOk.out w4 HQ.out)
  clear hbox4
  go_wp2_with fail
  clear bx0 bx1 bx2 bx3 bx4 bx5 bx6 bx7 bx8 bx9 bx10
  refine HHost.out.mono ?_
  rintro e w5 ⟨h, rfl, hh, hb5⟩
  have hb56 : Below w5.heap.size w5 (w5.alloc (.cells #[.pointer (some ⟨h.x.a, 0, none⟩), .pointer (some ⟨h.tb, 0, none⟩), .pointer (some ⟨h.mb, 0, none⟩), .pointer (some ⟨h.cb, 0, none⟩)] 36)) := (Below.refl _ _).alloc (Nat.le_refl _) _
  have hbx5 : (w5.alloc (.cells #[.pointer (some ⟨h.x.a, 0, none⟩), .pointer (some ⟨h.tb, 0, none⟩), .pointer (some ⟨h.mb, 0, none⟩), .pointer (some ⟨h.cb, 0, none⟩)] 36)).heap[w5.heap.size]? = some (.cells #[.pointer (some ⟨h.x.a, 0, none⟩), .pointer (some ⟨h.tb, 0, none⟩), .pointer (some ⟨h.mb, 0, none⟩), .pointer (some ⟨h.cb, 0, none⟩)] 36 (0, 0)) := newAt _ _
  have HHs := Lib.hid (hh.below hb56)
  have HHb := Lib.hid hbx5
  have hb46 := hb5.trans (hb56.mono hb5.size)
  have HB46 := Lib.hid hb46
  have HB6 := Lib.hid (HB4.out.trans (hb46.mono HB4.out.size))
  have HQ6 := Lib.hid (HQ.out.below hb46)
  have HBox6 := Lib.hid ((hb46.block _ (lt_of_block HBox.out)).trans HBox.out)
  have HG6 := Lib.hid (HG4.out.keep (hb46.block 0 HG4.out.pos))
  have H45 := Lib.hid hb5.size
  clear hh hb5 hb56 hbx5 hb46 HHost HQ HBox HG4
  simp only [hostV]
  go_upto_region 8 with (fail)
  generalize (w5.alloc (.cells #[.pointer (some ⟨h.x.a, 0, none⟩), .pointer (some ⟨h.tb, 0, none⟩), .pointer (some ⟨h.mb, 0, none⟩), .pointer (some ⟨h.cb, 0, none⟩)] 36)) = w6 at *
  have hbox4 := HBox6.out
  have bx0 := cell_at hbox4 0 rfl
  have bx1 := cell_at hbox4 1 rfl
  have bx2 := cell_at hbox4 2 rfl
  have bx3 := cell_at hbox4 3 rfl
  have bx4 := cell_at hbox4 4 rfl
  have bx5 := cell_at hbox4 5 rfl
  have bx6 := cell_at hbox4 6 rfl
  have bx7 := cell_at hbox4 7 rfl
  have bx8 := cell_at hbox4 8 rfl
  have bx9 := cell_at hbox4 9 rfl
  have bx10 := cell_at hbox4 10 rfl
  have HNew : Hid (Calls Tryz.prog 14 #[.agg #[.int .i64 2, .int .i64 0, .int .i64 1000, .int .i64 500, .int .i64 0, .int .i64 0, .int .i64 0, .int .i64 98, .slice (some ⟨N, 0, none⟩) 2 2, .slice (some ⟨N + 1, 0, none⟩) 4 4, .slice (some ⟨N + 2, 0, none⟩) 2 2], .int .i64 0] w6 (QNew w6 64 2)) := Lib.hid (qnew_any N 64 2 0 0 0 r (by decide) w6 HQ6.out)
  clear hbox4
  go_wp2_with fail
  clear bx0 bx1 bx2 bx3 bx4 bx5 bx6 bx7 bx8 bx9 bx10
  refine HNew.out.mono ?_
  rintro e w7 ⟨pb, wv, rfl, hp, hb7⟩
  have HP7 := Lib.hid (hp.low16 HB46.out.size)
  have HH7 := Lib.hid (HHs.out.below hb7)
  have HHb7 := Lib.hid ((hb7.block _ (lt_of_block HHb.out)).trans HHb.out)
  have HB7 := Lib.hid (HB6.out.trans (hb7.mono HB6.out.size))
  have HQ7 := Lib.hid (HQ6.out.below hb7)
  have HBox7 := Lib.hid ((hb7.block _ (lt_of_block HBox6.out)).trans HBox6.out)
  have HG7 := Lib.hid (HG6.out.keep (hb7.block 0 HG6.out.pos))
  have HB47 := Lib.hid (HB46.out.trans (hb7.mono HB46.out.size))
  clear hp hb7 HNew HHs HHb HB6 HQ6 HBox6 HG6
  go_upto_region 11 with (fail)
  go_upto_region 12 with (fail)
  have hb8 : Below w7.heap.size w7 ((w7.alloc (.cells #[.int .u8 0, .int .i64 0, .int .i64 0, .int .i64 0, .int .i64 0, .slice none 0 0, .int .u8 4, .int .i64 0, .int .i64 99, .int .i64 0, .int .i64 0, .slice none 0 0, .int .u8 6, .int .i64 0, .int .i64 0, .int .i64 0, .int .i64 0, .slice none 0 0, .int .u8 2, .int .i64 99, .int .i64 0, .int .i64 0, .int .i64 0, .slice none 0 0] 95)).alloc (.cells #[.int .u8 2, .int .i64 99, .int .i64 0, .int .i64 0, .int .i64 0, .slice none 0 0] 95)) := ((Below.refl _ _).alloc (Nat.le_refl _) _).alloc (by simp) _
  have hwx : ((w7.alloc (.cells #[.int .u8 0, .int .i64 0, .int .i64 0, .int .i64 0, .int .i64 0, .slice none 0 0, .int .u8 4, .int .i64 0, .int .i64 99, .int .i64 0, .int .i64 0, .slice none 0 0, .int .u8 6, .int .i64 0, .int .i64 0, .int .i64 0, .int .i64 0, .slice none 0 0, .int .u8 2, .int .i64 99, .int .i64 0, .int .i64 0, .int .i64 0, .slice none 0 0] 95)).alloc (.cells #[.int .u8 2, .int .i64 99, .int .i64 0, .int .i64 0, .int .i64 0, .slice none 0 0] 95)).heap[w7.heap.size + 1]? = some (.cells #[.int .u8 2, .int .i64 99, .int .i64 0, .int .i64 0, .int .i64 0, .slice none 0 0] 95 (0, 0)) := newAt1 _ _ _
  have Hb8 := Lib.hid hb8
  have Hwx := Lib.hid hwx
  clear hb8 hwx
  generalize ((w7.alloc (.cells #[.int .u8 0, .int .i64 0, .int .i64 0, .int .i64 0, .int .i64 0, .slice none 0 0, .int .u8 4, .int .i64 0, .int .i64 99, .int .i64 0, .int .i64 0, .slice none 0 0, .int .u8 6, .int .i64 0, .int .i64 0, .int .i64 0, .int .i64 0, .slice none 0 0, .int .u8 2, .int .i64 99, .int .i64 0, .int .i64 0, .int .i64 0, .slice none 0 0] 95)).alloc (.cells #[.int .u8 2, .int .i64 99, .int .i64 0, .int .i64 0, .int .i64 0, .slice none 0 0] 95)) = w8 at *
  have HS0 : Hid (StR w8 p q 3 (w7.heap.size + 1) (.slice none 0 0) (.int .i64 0) w8) := Lib.hid ⟨0, Nat.zero_le _, rfl, World.ownsRow_nil _ _ _ _, Hwx.out, Below.refl _ _⟩
  have hwb : w7.heap.size + 1 < w8.heap.size := lt_of_block Hwx.out
  have Hwb := Lib.hid hwb
  clear hwb
  go_wp2_with fail
  go_loopw [15, 16] (StR w8 p q 3 (w7.heap.size + 1)) (fun _ i _ => (p + 1 + q + 1 - intOf i).toNat)
  case atStart => exact HS0.out
  case round =>
    clear HS0
    obtain ⟨k, hk, rfl, ho, hbx, hbl⟩ := hrel
    have hp10 := Hp.out
    have hq10 := Hq.out
    have hr4 := Hr.out
    by_cases hlt : k < p + 1 + q
    case neg =>
      have hkn : k = p + 1 + q := by omega
      have p1 : decide ((k : Int) < ((p + 1 + q : Nat) : Int)) = false := decide_eq_false (by omega)
      have p2 : decide (k < p + 1 + q) = false := decide_eq_false hlt
      have hb7r : Below w7.heap.size w7 wr := Hb8.out.trans (hbl.mono Hb8.out.size)
      have hb4r : Below w4.heap.size w4 wr := HB47.out.trans (hb7r.mono HB47.out.size)
      have htk : (stopsC p q 3).take k = stopsC p q 3 := List.take_of_length_le (by rw [stopsC_len]; omega)
      rw [htk, show k = (stopsC p q 3).length by rw [stopsC_len]; exact hkn] at ho
      obtain ⟨Ao, co, rfl, hops⟩ := ops_own ho (stopsC_ok wr (by omega))
      rw [stopsC_len]
      have HRun : Hid (Calls Tryz.prog 17 #[.pointer (some ⟨pb, 0, none⟩), .agg #[.pointer (some ⟨h.x.a, 0, none⟩), .pointer (some ⟨h.tb, 0, none⟩), .pointer (some ⟨h.mb, 0, none⟩), .pointer (some ⟨h.cb, 0, none⟩)], .int .u32 5, .slice Ao (p + 1 + q) co] wr (RunP wr w4.heap.size (cQ (wPs 64 2 0 0 0 r)) 0 (ApeP.recS 3 r) RepP.new h pb 0 64 wv (ApeP.runG (ApeP.opP (cQ (wPs 64 2 0 0 0 r)) 0 0 RepP.new) (ApeP.recS 3 r) 0 0 5 (ApeP.stopsO p q 3) 64 (⟨List.replicate 2 0, PorP.start (cQ (wPs 64 2 0 0 0 r)), HeaP.Mon.start 2, ⟨0, 0, 0, 0⟩⟩ : ApeP.AS)))) := Lib.hid (by
        rw [← stopsC_plain]
        exact run_any (s := (⟨List.replicate 2 0, PorP.start (cQ (wPs 64 2 0 0 0 r)), HeaP.Mon.start 2, ⟨0, 0, 0, 0⟩⟩ : ApeP.AS)) (HH7.out.below hb7r) (HP7.out.below hb7r) (SndP.works HOk.out).allowed hb4r.size H4z.out (HG7.out.keep (hb7r.block 0 HG7.out.pos)) new_tat (show (2 : Nat) ≤ 255 by decide) (by decide) (by decide) 5 Ao (p + 1 + q) co (stopsC p q 3) (stopsC_len p q 3) (by omega) hops)
      obtain ⟨r1, r2, r3, r4⟩ := ApeP.stops_run (ApeP.opP (cQ (wPs 64 2 0 0 0 r)) 0 0 RepP.new) (fun s => rfl) 3 r (by decide) hr4 (⟨List.replicate 2 0, PorP.start (cQ (wPs 64 2 0 0 0 r)), HeaP.Mon.start 2, ⟨0, 0, 0, 0⟩⟩ : ApeP.AS) rfl (wrong_ok3 r (⟨List.replicate 2 0, PorP.start (cQ (wPs 64 2 0 0 0 r)), HeaP.Mon.start 2, ⟨0, 0, 0, 0⟩⟩ : ApeP.AS) rfl) p q hp10 hq10
      have hx7 := (hb7r.block _ (lt_of_block HHb7.out)).trans HHb7.out
      have x0 := cell_at hx7 0 rfl
      have x1 := cell_at hx7 1 rfl
      have x2 := cell_at hx7 2 rfl
      have x3 := cell_at hx7 3 rfl
      have HX7 := Lib.hid hx7
      have HT9 : Hid (∀ h2 W, Went wr h wv h2 W → TouchA w4.heap.size wr W) := Lib.hid fun h2 W hw => hw.touch (HH7.out.below hb7r) (HP7.out.below hb7r)
      have HBr := Lib.hid (HB7.out.trans (hb7r.mono HB7.out.size))
      have HB4r := Lib.hid hb4r
      generalize (ApeP.runG (ApeP.opP (cQ (wPs 64 2 0 0 0 r)) 0 0 RepP.new) (ApeP.recS 3 r) 0 0 5 (ApeP.stopsO p q 3) 64 (⟨List.replicate 2 0, PorP.start (cQ (wPs 64 2 0 0 0 r)), HeaP.Mon.start 2, ⟨0, 0, 0, 0⟩⟩ : ApeP.AS)) = g at *
      have HR1 := Lib.hid r1
      have HR4 := Lib.hid r4
      clear hops ho hbx hbl hb7r hb4r hx7 r1 r4 htk
      go_wp2_with fail
      clear x0 x1 x2 x3
      refine HRun.out.mono ?_
      rintro e w9 ⟨v, ys, h2, rfl, hout, hres, hh9, -, hwn, -, -⟩
      have ht := HT9.out h2 w9 hwn
      have hx9 := ht.off HX7.out tag_host
      have y2 := cell_at hx9 2 rfl
      have hlen : ys.length = (if r = 0 then p + 1 + q else p + 1) := by rw [← HR1.out, ← hres, List.length_map]
      obtain ⟨va, cv, rfl, -⟩ := own_slice hout.row
      rw [hlen, r2, r3]
      have hb9 : Below w.heap.size w w9 := HBr.out.trans ((ht.below HB4r.out.size).mono HB4.out.size)
      have HSeal : Hid (Calls Tryz.prog 27 #[.pointer (some ⟨h.mb, 0, none⟩)] w9 (fun e w' => ∃ A c, e = .returned (.slice A 1 c) ∧ Below w.heap.size w w')) := Lib.hid (by
        have h1 := hseal_any w9 _ h2.mb _ _ _ h2.vp h2.vr hh9.mon
        rw [hwn.mb] at h1
        refine h1.mono ?_
        rintro e w' ⟨rfl, h3, -, h5⟩
        obtain ⟨A, c, e1, -⟩ := own_slice h3
        rw [HR4.out] at e1
        refine ⟨A, c, by rw [e1], hb9.trans ((h5.below (B := w4.heap.size) (Nat.le_trans HB4r.out.size ht.size) fun k hk => ?_).mono HB4.out.size)⟩
        rw [hk, ← hwn.mb]; exact hh9.mon.base)
      have HB9 := Lib.hid hb9
      clear hb9 ht hx9 hout hres hh9 hwn hlen HRun HT9
      by_cases hr0 : r = 0
      · subst hr0
        simp only [if_true]
        go_wp2_with fail
        refine HSeal.out.mono ?_
        rintro e w10 ⟨A10, c10, rfl, hb10⟩
        have HF := Lib.hid hb10
        clear hb10
        go_wp2_with fail
        go_ret
        exact ⟨by simp, HF.out⟩
      · have z1 : ((r : Int) != 0) = true := by simp; omega
        have z2 : (r != 0) = true := by simp; omega
        rw [if_neg hr0]
        go_wp2_with fail
        refine HSeal.out.mono ?_
        rintro e w10 ⟨A10, c10, rfl, hb10⟩
        have HF := Lib.hid hb10
        clear hb10
        go_wp2_with fail
        go_ret
        exact ⟨by simp, HF.out⟩
    case pos =>
      have p1 : decide ((k : Int) < ((p + 1 + q : Nat) : Int)) = true := decide_eq_true (by omega)
      have p2 : decide (k < p + 1 + q) = true := decide_eq_true hlt
      have e8 : IntKind.i64.wrap ((k : Int) + 1) = (k : Int) + 1 := IntWalk.i64_in _ (by omega)
      have hln : ((stopsC p q 3).take k).length = k := by rw [List.length_take, stopsC_len]; omega
      have hsz := hbl.size
      by_cases hkp : k = p
      · subst hkp
        have HNx : Hid (∀ v' w', w'.ownsRow w8.heap.size 95 6 v' ((stopsC k q 3).take k ++ [wrongC 3]).length (itemsV opVals ((stopsC k q 3).take k ++ [wrongC 3])) → Below w8.heap.size wr w' → StR w8 k q 3 (w7.heap.size + 1) v' (.int .i64 ((k : Int) + 1)) w') := Lib.hid fun v' w' h1 h2 => by
          refine StR.next hlt ho hbx Hwb.out hbl ?_ h2
          rw [if_pos rfl]; exact h1
        have HO : Hid (wr.ownsRow w8.heap.size 95 6 u15 ((stopsC k q 3).take k).length (itemsV opVals ((stopsC k q 3).take k))) := Lib.hid (by rw [hln]; exact ho)
        have hbx' : wr.heap[w7.heap.size + 1]? = some (.cells #[.int .u8 2, .int .i64 99, .int .i64 0, .int .i64 0, .int .i64 0, .slice none 0 0] 95 (0, 0)) := hbx
        have b0 := cell_at hbx' 0 rfl
        have b1 := cell_at hbx' 1 rfl
        have b2 := cell_at hbx' 2 rfl
        have b3 := cell_at hbx' 3 rfl
        have b4 := cell_at hbx' 4 rfl
        have b5 := cell_at hbx' 5 rfl
        clear ho hbx hbx' hbl
        go_wp2_with (first | (at_builtin; refine wpList_op1 rfl (.tmp 84) (.tmp 86) rfl w8.heap.size _ ((stopsC k q 3).take k) rfl HO.out (wrongC 3) _ rfl rfl (by omega) hsz ?_; intro v' w' g1 g2 g3; have HR := Lib.hid (HNx.out v' w' g1 g2); clear g1 g2 g3 b0 b1 b2 b3 b4 b5) | fail)
        go_roundw
        case rel => exact HR.out
        case measure => simp [intOf]; omega
      · have HNx : Hid (∀ v' w', w'.ownsRow w8.heap.size 95 6 v' ((stopsC p q 3).take k ++ [spinC]).length (itemsV opVals ((stopsC p q 3).take k ++ [spinC])) → Below w8.heap.size wr w' → StR w8 p q 3 (w7.heap.size + 1) v' (.int .i64 ((k : Int) + 1)) w') := Lib.hid fun v' w' h1 h2 => by
          refine StR.next hlt ho hbx Hwb.out hbl ?_ h2
          rw [if_neg hkp]; exact h1
        have HO : Hid (wr.ownsRow w8.heap.size 95 6 u15 ((stopsC p q 3).take k).length (itemsV opVals ((stopsC p q 3).take k))) := Lib.hid (by rw [hln]; exact ho)
        have z1 : ((k : Int) == (p : Int)) = false := by rw [beq_eq_false_iff_ne]; omega
        have z2 : (k == p) = false := by rw [beq_eq_false_iff_ne]; exact hkp
        clear ho hbx hbl
        go_wp2_with (first | (at_builtin; refine wpList_op1 rfl (.tmp 88) (.tmp 90) rfl w8.heap.size _ ((stopsC p q 3).take k) rfl HO.out spinC _ rfl rfl (by omega) hsz ?_; intro v' w' g1 g2 g3; have HR := Lib.hid (HNx.out v' w' g1 g2); clear g1 g2 g3) | fail)
        go_roundw
        case rel => exact HR.out
        case measure => simp [intOf]; omega
end Go.Proofs.YtemcgegickpdbaaGreatDoor
namespace Go.Proofs.YtemcgegickpdbaaGreatDoor
open Go.RowKit
theorem modN16 (a : Int) (M : Nat) (hM : 0 < M) : ∃ t : Nat, t < M ∧ (IntKind.u64.wrap a).tmod (M : Int) = (t : Int) := by
  rw [IntKind.wrap_u64]
  have h0 : 0 ≤ a % 18446744073709551616 := by omega
  have h1 := Int.emod_nonneg (a % 18446744073709551616) (show (M : Int) ≠ 0 by omega)
  have h2 := Int.emod_lt_of_pos (a % 18446744073709551616) (show (0 : Int) < M by omega)
  refine ⟨((a % 18446744073709551616).tmod (M : Int)).toNat, ?_, ?_⟩ <;> rw [Int.tmod_eq_emod_of_nonneg h0] <;> omega
theorem stops_law (a0 a1 a3 : Int) (n2 : Nat) (w : World) (hg : HasType w) : Calls Tryz.prog 8 #[.int .i64 a0, .int .i64 a1, .int .u8 (n2 : Nat), .int .i64 a3] w (HTrue w) := by
  obtain ⟨p, hp, eA⟩ := modN16 a0 10 (by decide)
  obtain ⟨q, hq, eB⟩ := modN16 a1 10 (by decide)
  obtain ⟨k, hk, eK⟩ := modN16 a3 3 (by decide)
  have hr : n2 % 4 < 4 := Nat.mod_lt _ (by decide)
  have eR : (n2 : Int).tmod 4 = ((n2 % 4 : Nat) : Int) := by rw [Int.tmod_eq_emod_of_nonneg (by omega)]; omega
  have hk3 : k = 0 ∨ k = 1 ∨ k = 2 := by omega
  rcases hk3 with rfl | rfl | rfl
  · exact stops_law1 a0 a1 a3 n2 p q (n2 % 4) hp hq hr eA eB eK eR w hg
  · exact stops_law2 a0 a1 a3 n2 p q (n2 % 4) hp hq hr eA eB eK eR w hg
  · exact stops_law3 a0 a1 a3 n2 p q (n2 % 4) hp hq hr eA eB eK eR w hg
end Go.Proofs.YtemcgegickpdbaaGreatDoor
