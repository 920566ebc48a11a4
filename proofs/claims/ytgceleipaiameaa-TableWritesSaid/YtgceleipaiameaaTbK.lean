/- Contract of the document's all: numbers' bytes behind a slice of the call's own. Conditions: where the slice lies. · []byte of a fixed text; append to bytes without room; the document's all onto them. Conditions: none beyond those that each states. -/
import Derived.Test.YtgceleipaiameaaTbJ
import Derived.Test.YtgceleipaiameaaTbG
import Derived.Test.YtgceleipaiameaaFrk
import Derived.Test.YtgceleipaiameaaWirC
import Derived.Deep.RegionHeld3
import Derived.Laws.IdiomStrings
namespace Go.Proofs.Ytgceleipaiameaa
open Go.RowKit
set_option maxRecDepth 100000

def AppRel (B : Nat) (pre : List UInt8) (s : Nat) (xs : List Nat) (n : Nat) (g0 : Option Nat) (w1 : World) (v i : Value) (wr : World) : Prop :=
  ∃ k g, k ≤ n ∧ i = .int .i64 (k : Nat) ∧ Row wr B 5 g v (pre ++ nums s (xs.take k)) ∧ Moved w1 g0 g ∧ Apart (fun k => g0 = some k) w1 wr
/-- What all answers. -/
def AppPost (B : Nat) (pre : List UInt8) (g0 : Option Nat) (w1 : World) (e : Ending) (w' : World) : Prop :=
  ∃ v g, e = .returned v ∧ Row w' B 5 g v pre ∧ Moved w1 g0 g ∧ Apart (fun k => g0 = some k) w1 w'

set_option maxHeartbeats 1000000 in
theorem refall_at (B : Nat) (v0 : Value) (g0 : Option Nat) (pre : List UInt8) (s : Nat) (hs : s = 1 ∨ s = 4) (xs : List Nat) (hx : ∀ x ∈ xs, x < 4294967296) (n cap N : Nat) (hn : xs.length = n) (w w1 : World) (hN : N = w.heap.size) (cs : Array Value) (t : TypeId) (hcs : cs = (xs.map (fun x => Value.int .i64 (x : Nat))).toArray) (hw1 : w1 = w.alloc (.cells cs t))
    (hlen : pre.length + 4 * n ≤ 100000000) (hB : B ≤ w.heap.size) (h : Row w B 5 g0 v0 pre) :
    Calls Try.prog 26 #[v0, .int .i64 (s : Nat), .slice (some ⟨N, 0, none⟩) n cap] w1 (AppPost B (pre ++ nums s xs) g0 w1) := by
  have h1 : Row w1 B 5 g0 v0 pre := by rw [hw1]; exact h.alloc _
  have hb1 : B ≤ w1.heap.size := by rw [hw1]; simp; omega
  have hc : w1.heap[N]? = some (.cells cs t (0, 0)) := by rw [hw1, hN]; exact heap_alloc_new w _
  have hnb : g0 ≠ some N := fun e => by have := (h.lt N e).2; omega
  have hNl : N < w1.heap.size := lt_of_block hc
  have HCell : Hid (∀ wr, Apart (fun k => g0 = some k) w1 wr → ∀ k x, xs[k]? = some x → wr.cell? ⟨N, k, none⟩ = some (.int .i64 (x : Nat))) := Lib.hid fun wr ha k x hk => by
    refine cell_at ((ha.block N hNl hnb).trans hc) k ?_
    rw [hcs]
    simp [hk]
  have H := Lib.hid h1
  have HB := Lib.hid hb1
  have Hx := Lib.hid hx
  have Hn := Lib.hid hn
  clear hw1 hcs h h1 hc hnb hNl hx hn hN hb1
  go_enter Try.func26, Try.ntmps26
  go_wp2_with fail
  have h0 : Hid (AppRel B pre s xs n g0 w1 v0 (.int .i64 0) w1) := Lib.hid ⟨0, g0, Nat.zero_le _, rfl, by simpa [nums] using H.out, Moved.refl _ _, Apart.refl _ _⟩
  clear H
  go_loopw [0, 7] (AppRel B pre s xs n g0 w1) (fun _ i _ => (n + 1 - intOf i).toNat)
  case atStart => exact h0.out
  case round =>
    clear h0
    obtain ⟨k, g, hk, rfl, hr, hm, ha⟩ := hrel
    have HR := Lib.hid hr
    have Hm := Lib.hid hm
    have Ha := Lib.hid ha
    clear hr hm ha
    by_cases hlt : k < n
    · obtain ⟨x, hxk⟩ : ∃ x, xs[k]? = some x := ⟨_, List.getElem?_eq_getElem (by rw [Hn.out]; exact hlt)⟩
      have kc := HCell.out wr Ha.out k x hxk
      have hx4 := Hx.out x (List.mem_of_getElem? hxk)
      have hxm : (x : Int) % 4294967296 = x := by omega
      have HT := Lib.hid (nums_take (s := s) hxk)
      have HNm := Lib.hid (refnum_any x (s : Nat) hx4 (by omega) (by omega) wr)
      rw [put_num x s hs] at HNm
      have hln : (pre ++ nums s (xs.take k)).length + s ≤ 140737488355328 := by
        rw [List.length_append, nums_length, List.length_take]
        have : min k xs.length * s ≤ n * 4 := Nat.mul_le_mul (by rw [Hn.out]; omega) (by omega)
        omega
      have Hln := Lib.hid hln
      clear hxk hx4 hln
      go_wp2_with fail
      refine HNm.out.mono ?_
      rintro e w2 ⟨v2, g2, rfl, hr2, hb2⟩
      obtain ⟨A2, c2, rfl, -, -, hby2⟩ := hr2.bytes
      have HR2 := Lib.hid (HR.out.apart (F := fun _ => False) (Apart.of_below' hb2) (fun _ _ h => h))
      have Hby2 := Lib.hid hby2
      have Hb2 := Lib.hid hb2
      rw [WireP.num_length] at *
      clear hr2 hby2 hb2
      go_wp2_with (at_builtin
                   refine wpList_append_r rfl (.tmp 14) (.tmp 21) _ rfl B 5 (.int .u8 0) Try.underlying30 infoB rfl _ g _ rfl HR2.out w2.heap.size A2 _ c2 (WireP.num x s) rfl (WireP.num_length _ _) Hby2.out Hln.out (by have h1 := Hb2.out.size; have h2 := Ha.out.size; have h3 := HB.out; omega) ?_
                   intro v3 w3 g3 hr3 hm3 ha3
                   have HRel : Hid (AppRel B pre s xs n g0 w1 v3 (.int .i64 ((k : Int) + 1)) w3) := Lib.hid (by
                     refine ⟨k + 1, g3, by omega, by go_num, by rw [HT.out, ← List.append_assoc]; exact hr3, Hm.out.trans (hm3.trans (Moved.refl _ _) ha3.size |> (fun h => ?_)) Ha.out.size, ?_⟩
                     · rcases h with h | ⟨q, h1, h2⟩
                       · exact .inl h
                       · exact .inr ⟨q, h1, Nat.le_trans Hb2.out.size h2⟩
                     · refine (Ha.out.trans (F := fun q => g0 = some q) (G := fun _ => False) (Apart.of_below' Hb2.out) (fun _ h => h.elim)).trans ha3 (fun q e => ?_)
                       rcases Hm.out with e1 | ⟨q2, e1, e2⟩
                       · exact .inl (by rw [← e1]; exact e)
                       · rw [e1] at e
                         injection e with e
                         exact .inr (by omega))
                   clear hr3 hm3 ha3)
      go_roundw
      case rel => exact HRel.out
      case measure => simp [intOf]; omega
    · have hkn : n = k := by omega
      subst hkn
      have HF : Hid (AppPost B (pre ++ nums s xs) g0 w1 (.returned u0) wr) := Lib.hid ⟨_, g, rfl, by have h9 := HR.out; rwa [List.take_of_length_le (by rw [Hn.out]; exact Nat.le_refl _)] at h9, Hm.out, Ha.out⟩
      go_wp2_with fail
      go_ret
      exact HF.out

/-- all, onto what was made; its numbers just laid. -/
theorem OutIn.all {B : Nat} {W w : World} {pre : List UInt8} {v : Value} (h : OutIn B 5 W pre v w) (hBW : B ≤ W.heap.size) (s : Nat) (hs : s = 1 ∨ s = 4) (xs : List Nat) (hx : ∀ x ∈ xs, x < 4294967296) (n cap N : Nat) (hn : xs.length = n) (hN : N = w.heap.size) (cs : Array Value) (t : TypeId) (hcs : cs = (xs.map (fun x => Value.int .i64 (x : Nat))).toArray)
    (hlen : pre.length + 4 * n ≤ 100000000) :
    Calls Try.prog 26 #[v, .int .i64 (s : Nat), .slice (some ⟨N, 0, none⟩) n cap] (w.alloc (.cells cs t)) fun e w' => ∃ v', e = .returned v' ∧ OutIn B 5 W (pre ++ nums s xs) v' w' := by
  obtain ⟨g, hr, hb⟩ := h
  refine (refall_at B v g pre s hs xs hx n cap N hn w _ hN cs t hcs rfl hlen (Nat.le_trans hBW hb.size) hr).mono ?_
  rintro e w' ⟨v', g', rfl, h1, h2, h3⟩
  refine ⟨v', rfl, g', h1, hb.trans ?_⟩
  have h4 : Apart (fun k => g = some k) w w' := ((Apart.refl _ w).alloc _).trans h3 (fun _ e => .inl e)
  exact h4.below (Nat.le_trans hBW hb.size) (fun k hk => (hr.lt k hk).1)
end Go.Proofs.Ytgceleipaiameaa
namespace Go.Proofs.Ytgceleipaiameaa
open Go.RowKit
set_option maxRecDepth 100000

/-- '[]byte' of bytes just laid: the row bears a mark behind its last cell. -/
theorem conv_mark (w : World) (C : Array Value) (n c : Nat) : (convert 30 30 (.slice (some ⟨w.heap.size, 0, none⟩) n c)).run Try.prog (w.alloc (.cells C 5)) = .ok (.slice (some ⟨w.heap.size, 0, none⟩) n c) (w.alloc (.cells C 5 (C.size, C.size + 1))) := by
  have hsh : (w.alloc (.cells C 5)).shape? w.heap.size = some (5, C.size) := by
    have : (w.alloc (.cells C 5)).heap[w.heap.size]? = some (.cells C 5) := heap_alloc_new w _
    unfold World.shape?
    rw [this]
  have hfr : (w.alloc (.cells C 5)).freeze ⟨w.heap.size, C.size, none⟩ 1 = w.alloc (.cells C 5 (C.size, C.size + 1)) := by
    have hm : ∀ (a : Array Obj) (x : Obj) (f : Obj → Obj), (a.push x).modify a.size f = a.push (f x) := by
      intro a x f
      apply Array.ext
      · simp
      · intro i h1 h2
        simp only [Array.getElem_modify, Array.getElem_push]
        by_cases h : a.size = i
        · subst h
          simp
        · have hi : i < a.size := by simp at h1; omega
          simp [h, hi]
    unfold World.freeze
    rw [if_neg (by decide)]
    show ({ w.alloc (.cells C 5) with heap := (w.heap.push (.cells C 5)).modify w.heap.size _ } : World) = _
    rw [hm]
    rfl
  simp [convert, run_underlying Try.underlying30, run_underlying Try.underlying5, markStringish, hsh]
  exact hfr

section
variable {P : Program}
/-- append to bytes that have no room: a row of the call's own. -/
theorem wp_append_full {w0 : World} {o : Oper} {a : Act} {K : Act → World → Prop} {Q : Exit → Act → World → Prop} (s x : Operand) (t : TypeId)
    (ho : o.op = .call { callee := .builtin .append, args := #[s, x], argTypes := #[t, t] }) (B : Nat) (e : TypeId) (z : Value)
    (ht : P.underlying t = some (.slice e)) (hinfo : (P.info? e).map (fun i => (i.zero, i.size, i.bytes)) = some (some z, 1, 1)) (hzs : z.cells.size = 1)
    (a0 : Addr) (n : Nat) (xs : List UInt8) (hs : a.eval s = .slice (some a0) n n) (hxs : xs.length = n) (hold : ∀ j c, xs[j]? = some c → w0.cell? (a0.add j) = some (.int .u8 (c.toNat : Nat))) (C : Nat) (A : Option Addr) (m c : Nat) (l : List UInt8) (hx : a.eval x = .slice A m c) (hm : l.length = m) (hr : Bytes w0 C A l) (h0 : 0 < m)
    (hn : n + m ≤ 140737488355328) (hB : B ≤ w0.heap.size)
    (h : ∀ v' w' g', Row w' B e g' v' (xs ++ l) → (∃ q, g' = some q ∧ w0.heap.size ≤ q) → Apart (fun _ => False) w0 w' → K (a.put o.dst v') w') :
    o.wp P a w0 K Q := by
  obtain ⟨i, hi, hz, hsize, hbytes⟩ := info_parts hinfo
  obtain ⟨gA, oA, rfl, -, hcA⟩ := hr (by omega)
  subst hxs
  have hnews : ∀ j u, (bytesV l)[j]? = some u → w0.cell? ((⟨gA, oA, none⟩ : Addr).add j) = some u := by
    intro j u hj
    obtain ⟨b, hb, rfl⟩ := bytesV_at hj
    rw [addr_addB]
    exact hcA j b hb
  have holds : ∀ j u, (bytesV xs)[j]? = some u → w0.cell? (a0.add j) = some u := by
    intro j u hj
    obtain ⟨b, hb, rfl⟩ := bytesV_at hj
    exact hold j b hb
  have hrun := run_append_grow (P := P) w0 t o.type e i z ht hi hz a0 xs.length xs.length (bytesV xs) (by rw [bytesV_length, hsize]; omega) holds ⟨gA, oA, none⟩ m c (bytesV l) (by rw [bytesV_length, hsize]; omega) hnews (by omega) (by omega) (by rw [hbytes]; exact growslice_fits (by omega) (by omega))
  unfold Oper.wp execOp
  simp only [ho, resolve, invoke, builtin, Sem.run_bind, Sem.run_pure, Result.andThen_ok, List.map_toArray, List.map_cons, List.map_nil, hs, hx, hrun]
  have hge := grownCap_ge w0 (xs.length + m) xs.length e
  have hcm : grownCap w0 (xs.length + m) xs.length e ≤ maxLen := grownCap_le_maxLen w0 (xs.length + m) xs.length e (by unfold maxLen; omega)
  have own : (w0.drew.alloc (.cells ((bytesV xs).toArray ++ (bytesV l).toArray ++ Builtin.zeroCells z.cells (grownCap w0 (xs.length + m) xs.length e - (xs.length + m))) e)).ownsRow B e 1 (.slice (some ⟨w0.heap.size, 0, none⟩) (xs.length + m) (grownCap w0 (xs.length + m) xs.length e)) (xs.length + m) (bytesV xs ++ bytesV l) := by
    refine ⟨by rw [List.length_append, bytesV_length, bytesV_length]; omega, .inr ⟨w0.heap.size, _, _, rfl, hB, heap_alloc_new w0.drew _, hge, hcm, ?_, ?_⟩⟩
    · simp only [Array.size_append, List.size_toArray, size_zeroCells, hzs, bytesV_length, hm]
      omega
    · simp only [Array.toList_append, List.append_assoc]
      rw [← List.append_assoc]
      have hlen : (bytesV xs ++ bytesV l).length = (xs.length + m) * 1 := by rw [List.length_append, bytesV_length, bytesV_length]; omega
      rw [← hlen]
      exact List.take_left
  exact h _ _ (some w0.heap.size) ⟨rfl, by rw [bytesV_append, List.length_append, hm]; exact own⟩ ⟨_, rfl, Nat.le_refl _⟩ ((Apart.refl _ w0).drew.alloc _)
theorem wpList_append_full {w0 : World} {ops : Array Oper} {rest : List Oper} {o : Oper} {a : Act} {Q : Exit → Act → World → Prop} (hgd : o.guard = none) (s x : Operand) (t : TypeId)
    (ho : o.op = .call { callee := .builtin .append, args := #[s, x], argTypes := #[t, t] }) (B : Nat) (e : TypeId) (z : Value)
    (ht : P.underlying t = some (.slice e)) (hinfo : (P.info? e).map (fun i => (i.zero, i.size, i.bytes)) = some (some z, 1, 1)) (hzs : z.cells.size = 1)
    (a0 : Addr) (n : Nat) (xs : List UInt8) (hs : a.eval s = .slice (some a0) n n) (hxs : xs.length = n) (hold : ∀ j c, xs[j]? = some c → w0.cell? (a0.add j) = some (.int .u8 (c.toNat : Nat))) (C : Nat) (A : Option Addr) (m c : Nat) (l : List UInt8) (hx : a.eval x = .slice A m c) (hm : l.length = m) (hr : Bytes w0 C A l) (h0 : 0 < m)
    (hn : n + m ≤ 140737488355328) (hB : B ≤ w0.heap.size)
    (h : ∀ v' w' g', Row w' B e g' v' (xs ++ l) → (∃ q, g' = some q ∧ w0.heap.size ≤ q) → Apart (fun _ => False) w0 w' → wpList P ops Q rest (a.put o.dst v') w') :
    wpList P ops Q (o :: rest) a w0 :=
  wpList_plain hgd fun _ hK => wp_append_full s x t ho B e z ht hinfo hzs a0 n xs hs hxs hold C A m c l hx hm hr h0 hn hB fun v' w' g' h1 h2 h3 => hK _ _ (h v' w' g' h1 h2 h3)
end

/-- all onto a full slice, of one number at least. -/
def FullRel (B : Nat) (v0 : Value) (pre : List UInt8) (xs : List Nat) (n : Nat) (w1 : World) (v i : Value) (wr : World) : Prop :=
  ∃ k, k ≤ n ∧ i = .int .i64 (k : Nat) ∧ ((k = 0 ∧ v = v0 ∧ wr = w1) ∨ (1 ≤ k ∧ ∃ g, Row wr B 5 g v (pre ++ nums 1 (xs.take k)) ∧ (∃ q, g = some q ∧ w1.heap.size ≤ q) ∧ Apart (fun _ => False) w1 wr))

set_option maxHeartbeats 1000000 in
theorem refall_full (B : Nat) (N0 n0 : Nat) (pre : List UInt8) (hpre : pre.length = n0) (xs : List Nat) (hx : ∀ x ∈ xs, x < 4294967296) (n cap N : Nat) (hn : xs.length = n) (hn1 : 1 ≤ n) (w1 : World) (cs : Array Value) (t : TypeId) (hcs : cs = (xs.map (fun x => Value.int .i64 (x : Nat))).toArray) (hc : w1.heap[N]? = some (.cells cs t (0, 0)))
    (hold : ∀ w', Apart (fun _ => False) w1 w' → ∀ j c, pre[j]? = some c → w'.cell? ((⟨N0, 0, none⟩ : Addr).add j) = some (.int .u8 (c.toNat : Nat))) (hlen : n0 + 4 * n ≤ 100000000) (hB : B ≤ w1.heap.size) :
    Calls Try.prog 26 #[.slice (some ⟨N0, 0, none⟩) n0 n0, .int .i64 1, .slice (some ⟨N, 0, none⟩) n cap] w1 (fun e w' => ∃ v g, e = .returned v ∧ Row w' B 5 g v (pre ++ nums 1 xs) ∧ Apart (fun _ => False) w1 w') := by
  have HCell : Hid (∀ wr, Apart (fun _ => False) w1 wr → ∀ k x, xs[k]? = some x → wr.cell? ⟨N, k, none⟩ = some (.int .i64 (x : Nat))) := Lib.hid fun wr ha k x hk => by
    refine cell_at ((ha.block N (lt_of_block hc) (fun h => h)).trans hc) k ?_
    rw [hcs]
    simp [hk]
  have HB := Lib.hid hB
  have Hx := Lib.hid hx
  have Hn := Lib.hid hn
  have Hpre := Lib.hid hpre
  have Hold := Lib.hid hold
  have h0 : Hid (FullRel B (.slice (some ⟨N0, 0, none⟩) n0 n0) pre xs n w1 (.slice (some ⟨N0, 0, none⟩) n0 n0) (.int .i64 0) w1) := Lib.hid ⟨0, Nat.zero_le _, rfl, .inl ⟨rfl, rfl, rfl⟩⟩
  clear hcs hc hx hn hB hpre hold
  go_enter Try.func26, Try.ntmps26
  go_wp2_with fail
  go_loopw [0, 7] (FullRel B (.slice (some ⟨N0, 0, none⟩) n0 n0) pre xs n w1) (fun _ i _ => (n + 1 - intOf i).toNat)
  case atStart => exact h0.out
  case round =>
    clear h0
    obtain ⟨k, hk, rfl, hst⟩ := hrel
    by_cases hlt : k < n
    · obtain ⟨x, hxk⟩ : ∃ x, xs[k]? = some x := ⟨_, List.getElem?_eq_getElem (by rw [Hn.out]; exact hlt)⟩
      have haw : Apart (fun _ => False) w1 wr := by
        rcases hst with ⟨_, _, rfl⟩ | ⟨_, g, _, _, ha⟩
        · exact Apart.refl _ _
        · exact ha
      have kc := HCell.out wr haw k x hxk
      have hx4 := Hx.out x (List.mem_of_getElem? hxk)
      have hxm : (x : Int) % 4294967296 = x := by omega
      have HT := Lib.hid (nums_take (s := 1) hxk)
      have HNm := Lib.hid (refnum_any x 1 hx4 (by omega) (by omega) wr)
      rw [show WireP.put x 1 = WireP.num x 1 from put_num x 1 (.inl rfl)] at HNm
      have Haw := Lib.hid haw
      rcases hst with ⟨rfl, rfl, rfl⟩ | ⟨h1k, g, hr, hq, ha⟩
      · clear hxk hx4 haw
        go_wp2_with fail
        refine HNm.out.mono ?_
        rintro e w2 ⟨v2, g2, rfl, hr2, hb2⟩
        obtain ⟨A2, c2, rfl, -, -, hby2⟩ := hr2.bytes
        have Hby2 := Lib.hid hby2
        have Hb2 := Lib.hid hb2
        have ha2 : Apart (fun _ => False) wr w2 := Apart.of_below' hb2
        have Ha2 := Lib.hid ha2
        have Hold2 := Lib.hid (Hold.out w2 ha2)
        rw [WireP.num_length] at *
        clear hr2 hby2 hb2 ha2
        go_wp2_with (at_builtin
                     refine wpList_append_full rfl (.tmp 14) (.tmp 21) _ rfl B 5 (.int .u8 0) Try.underlying30 infoB rfl ⟨N0, 0, none⟩ n0 pre rfl Hpre.out Hold2.out w2.heap.size A2 _ c2 (WireP.num x 1) rfl (WireP.num_length _ _) Hby2.out (by omega) (by omega) (by have h1 := Hb2.out.size; have h3 := HB.out; omega) ?_
                     intro v3 w3 g3 hr3 hq3 ha3
                     have HRel : Hid (FullRel B (.slice (some ⟨N0, 0, none⟩) n0 n0) pre xs n wr v3 (.int .i64 (((0 : Nat) : Int) + 1)) w3) := Lib.hid (by
                       obtain ⟨q, e1, e2⟩ := hq3
                       refine ⟨1, by omega, by go_num, .inr ⟨Nat.le_refl _, g3, by rw [HT.out]; simpa [nums] using hr3, ⟨q, e1, Nat.le_trans Hb2.out.size e2⟩, Ha2.out.trans ha3 (fun _ h => h.elim)⟩⟩)
                     clear hr3 hq3 ha3)
        go_roundw
        case rel => exact HRel.out
        case measure => simp [intOf]
      · have HR := Lib.hid hr
        have Hq := Lib.hid hq
        have Ha := Lib.hid ha
        have Hln : Hid ((pre ++ nums 1 (xs.take k)).length + 1 ≤ 140737488355328) := Lib.hid (by
          rw [List.length_append, nums_length, List.length_take]
          have := Hpre.out
          have := Hn.out
          omega)
        clear hxk hx4 haw hr hq ha
        go_wp2_with fail
        refine HNm.out.mono ?_
        rintro e w2 ⟨v2, g2, rfl, hr2, hb2⟩
        obtain ⟨A2, c2, rfl, -, -, hby2⟩ := hr2.bytes
        have HR2 := Lib.hid (HR.out.apart (F := fun _ => False) (Apart.of_below' hb2) (fun _ _ h => h))
        have Hby2 := Lib.hid hby2
        have Hb2 := Lib.hid hb2
        rw [WireP.num_length] at *
        clear hr2 hby2 hb2
        go_wp2_with (at_builtin
                     refine wpList_append_r rfl (.tmp 14) (.tmp 21) _ rfl B 5 (.int .u8 0) Try.underlying30 infoB rfl _ g _ rfl HR2.out w2.heap.size A2 _ c2 (WireP.num x 1) rfl (WireP.num_length _ _) Hby2.out Hln.out (by have h1 := Hb2.out.size; have h2 := Ha.out.size; have h3 := HB.out; omega) ?_
                     intro v3 w3 g3 hr3 hm3 ha3
                     have HRel : Hid (FullRel B (.slice (some ⟨N0, 0, none⟩) n0 n0) pre xs n w1 v3 (.int .i64 ((k : Int) + 1)) w3) := Lib.hid (by
                       obtain ⟨q, e1, e2⟩ := Hq.out
                       refine ⟨k + 1, by omega, by go_num, .inr ⟨by omega, g3, by rw [HT.out, ← List.append_assoc]; exact hr3, ?_, ?_⟩⟩
                       · rcases hm3 with h | ⟨q2, h1, h2⟩
                         · exact ⟨q, by rw [h, e1], e2⟩
                         · exact ⟨q2, h1, Nat.le_trans (Nat.le_trans Ha.out.size Hb2.out.size) h2⟩
                       · refine (Ha.out.trans (F := fun _ => False) (G := fun _ => False) (Apart.of_below' Hb2.out) (fun _ h => h.elim)).trans ha3 (fun q2 e => ?_)
                         rw [e1] at e
                         injection e with e
                         exact .inr (by omega))
                     clear hr3 hm3 ha3)
        go_roundw
        case rel => exact HRel.out
        case measure => simp [intOf]; omega
    · have hkn : n = k := by omega
      subst hkn
      rcases hst with ⟨h1, _⟩ | ⟨_, g, hr, _, ha⟩
      · omega
      · have HF : Hid (∃ v g, Ending.returned u0 = .returned v ∧ Row wr B 5 g v (pre ++ nums 1 xs) ∧ Apart (fun _ => False) w1 wr) := Lib.hid ⟨_, g, rfl, by rwa [List.take_of_length_le (by rw [Hn.out]; exact Nat.le_refl _)] at hr, ha⟩
        clear hr ha
        go_wp2_with fail
        go_ret
        exact HF.out
end Go.Proofs.Ytgceleipaiameaa
