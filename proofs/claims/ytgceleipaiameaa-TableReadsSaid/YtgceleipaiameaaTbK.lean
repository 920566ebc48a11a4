/- Contract of the document's all: numbers' bytes behind a slice of the call's own. Conditions: where the slice lies. · []byte of a fixed text; append to bytes without room; the document's all onto them. Conditions: none beyond those that each states. · Contract of the document's Encode at tables in memory. Conditions: where its lists lie. -/
import Derived.Test.YtgceleipaiameaaTbJ
import Derived.Test.YtgceleipaiameaaTbG
import Derived.Test.YtgceleipaiameaaFrk
import Derived.Test.YtgceleipaiameaaWirC
import Derived.Deep.RegionHeld3
import Derived.Laws.IdiomStrings
namespace Go.Proofs.Ytgceleipaiameaa
open Go.RowKit
set_option maxRecDepth 100000

def AppRel (B : Nat) (pre : List UInt8) (s : Nat) (xs : List Nat) (n : Nat) (g0 : Option Nat) (w1 : World) (v i : Value) (wr : World) : Prop :=
  ∃ k g, k ≤ n ∧ i = .int .i64 (k : Nat) ∧ Row wr B 5 g v (pre ++ nums s (xs.take k)) ∧ Moved w1 g0 g ∧ Apart (fun k => g0 = some k) w1 wr
/-- What all answers. -/
def AppPost (B : Nat) (pre : List UInt8) (g0 : Option Nat) (w1 : World) (e : Ending) (w' : World) : Prop :=
  ∃ v g, e = .returned v ∧ Row w' B 5 g v pre ∧ Moved w1 g0 g ∧ Apart (fun k => g0 = some k) w1 w'

set_option maxHeartbeats 1000000 in
theorem refall_at (B : Nat) (v0 : Value) (g0 : Option Nat) (pre : List UInt8) (s : Nat) (hs : s = 1 ∨ s = 4) (xs : List Nat) (hx : ∀ x ∈ xs, x < 4294967296) (n cap N : Nat) (hn : xs.length = n) (w w1 : World) (hN : N = w.heap.size) (cs : Array Value) (t : TypeId) (hcs : cs = (xs.map (fun x => Value.int .i64 (x : Nat))).toArray) (hw1 : w1 = w.alloc (.cells cs t))
    (hlen : pre.length + 4 * n ≤ 100000000) (hB : B ≤ w.heap.size) (h : Row w B 5 g0 v0 pre) :
    Calls Try.prog 26 #[v0, .int .i64 (s : Nat), .slice (some ⟨N, 0, none⟩) n cap] w1 (AppPost B (pre ++ nums s xs) g0 w1) := by
  have h1 : Row w1 B 5 g0 v0 pre := by rw [hw1]; exact h.alloc _
  have hb1 : B ≤ w1.heap.size := by rw [hw1]; simp; omega
  have hc : w1.heap[N]? = some (.cells cs t (0, 0)) := by rw [hw1, hN]; exact heap_alloc_new w _
  have hnb : g0 ≠ some N := fun e => by have := (h.lt N e).2; omega
  have hNl : N < w1.heap.size := lt_of_block hc
  have HCell : Hid (∀ wr, Apart (fun k => g0 = some k) w1 wr → ∀ k x, xs[k]? = some x → wr.cell? ⟨N, k, none⟩ = some (.int .i64 (x : Nat))) := Lib.hid fun wr ha k x hk => by
    refine cell_at ((ha.block N hNl hnb).trans hc) k ?_
    rw [hcs]
    simp [hk]
  have H := Lib.hid h1
  have HB := Lib.hid hb1
  have Hx := Lib.hid hx
  have Hn := Lib.hid hn
  clear hw1 hcs h h1 hc hnb hNl hx hn hN hb1
  go_enter Try.func26, Try.ntmps26
  go_wp2_with fail
  have h0 : Hid (AppRel B pre s xs n g0 w1 v0 (.int .i64 0) w1) := Lib.hid ⟨0, g0, Nat.zero_le _, rfl, by simpa [nums] using H.out, Moved.refl _ _, Apart.refl _ _⟩
  clear H
  go_loopw [0, 7] (AppRel B pre s xs n g0 w1) (fun _ i _ => (n + 1 - intOf i).toNat)
  case atStart => exact h0.out
  case round =>
    clear h0
    obtain ⟨k, g, hk, rfl, hr, hm, ha⟩ := hrel
    have HR := Lib.hid hr
    have Hm := Lib.hid hm
    have Ha := Lib.hid ha
    clear hr hm ha
    by_cases hlt : k < n
    · obtain ⟨x, hxk⟩ : ∃ x, xs[k]? = some x := ⟨_, List.getElem?_eq_getElem (by rw [Hn.out]; exact hlt)⟩
      have kc := HCell.out wr Ha.out k x hxk
      have hx4 := Hx.out x (List.mem_of_getElem? hxk)
      have hxm : (x : Int) % 4294967296 = x := by omega
      have HT := Lib.hid (nums_take (s := s) hxk)
      have HNm := Lib.hid (refnum_any x (s : Nat) hx4 (by omega) (by omega) wr)
      rw [put_num x s hs] at HNm
      have hln : (pre ++ nums s (xs.take k)).length + s ≤ 140737488355328 := by
        rw [List.length_append, nums_length, List.length_take]
        have : min k xs.length * s ≤ n * 4 := Nat.mul_le_mul (by rw [Hn.out]; omega) (by omega)
        omega
      have Hln := Lib.hid hln
      clear hxk hx4 hln
      go_wp2_with fail
      refine HNm.out.mono ?_
      rintro e w2 ⟨v2, g2, rfl, hr2, hb2⟩
      obtain ⟨A2, c2, rfl, -, -, hby2⟩ := hr2.bytes
      have HR2 := Lib.hid (HR.out.apart (F := fun _ => False) (Apart.of_below' hb2) (fun _ _ h => h))
      have Hby2 := Lib.hid hby2
      have Hb2 := Lib.hid hb2
      rw [WireP.num_length] at *
      clear hr2 hby2 hb2
      go_wp2_with (at_builtin
                   refine wpList_append_r rfl (.tmp 14) (.tmp 21) _ rfl B 5 (.int .u8 0) Try.underlying30 infoB rfl _ g _ rfl HR2.out w2.heap.size A2 _ c2 (WireP.num x s) rfl (WireP.num_length _ _) Hby2.out Hln.out (by have h1 := Hb2.out.size; have h2 := Ha.out.size; have h3 := HB.out; omega) ?_
                   intro v3 w3 g3 hr3 hm3 ha3
                   have HRel : Hid (AppRel B pre s xs n g0 w1 v3 (.int .i64 ((k : Int) + 1)) w3) := Lib.hid (by
                     refine ⟨k + 1, g3, by omega, by go_num, by rw [HT.out, ← List.append_assoc]; exact hr3, Hm.out.trans (hm3.trans (Moved.refl _ _) ha3.size |> (fun h => ?_)) Ha.out.size, ?_⟩
                     · rcases h with h | ⟨q, h1, h2⟩
                       · exact .inl h
                       · exact .inr ⟨q, h1, Nat.le_trans Hb2.out.size h2⟩
                     · refine (Ha.out.trans (F := fun q => g0 = some q) (G := fun _ => False) (Apart.of_below' Hb2.out) (fun _ h => h.elim)).trans ha3 (fun q e => ?_)
                       rcases Hm.out with e1 | ⟨q2, e1, e2⟩
                       · exact .inl (by rw [← e1]; exact e)
                       · rw [e1] at e
                         injection e with e
                         exact .inr (by omega))
                   clear hr3 hm3 ha3)
      go_roundw
      case rel => exact HRel.out
      case measure => simp [intOf]; omega
    · have hkn : n = k := by omega
      subst hkn
      have HF : Hid (AppPost B (pre ++ nums s xs) g0 w1 (.returned u0) wr) := Lib.hid ⟨_, g, rfl, by have h9 := HR.out; rwa [List.take_of_length_le (by rw [Hn.out]; exact Nat.le_refl _)] at h9, Hm.out, Ha.out⟩
      go_wp2_with fail
      go_ret
      exact HF.out

/-- all, onto what was made; its numbers just laid. -/
theorem OutIn.all {B : Nat} {W w : World} {pre : List UInt8} {v : Value} (h : OutIn B 5 W pre v w) (hBW : B ≤ W.heap.size) (s : Nat) (hs : s = 1 ∨ s = 4) (xs : List Nat) (hx : ∀ x ∈ xs, x < 4294967296) (n cap N : Nat) (hn : xs.length = n) (hN : N = w.heap.size) (cs : Array Value) (t : TypeId) (hcs : cs = (xs.map (fun x => Value.int .i64 (x : Nat))).toArray)
    (hlen : pre.length + 4 * n ≤ 100000000) :
    Calls Try.prog 26 #[v, .int .i64 (s : Nat), .slice (some ⟨N, 0, none⟩) n cap] (w.alloc (.cells cs t)) fun e w' => ∃ v', e = .returned v' ∧ OutIn B 5 W (pre ++ nums s xs) v' w' := by
  obtain ⟨g, hr, hb⟩ := h
  refine (refall_at B v g pre s hs xs hx n cap N hn w _ hN cs t hcs rfl hlen (Nat.le_trans hBW hb.size) hr).mono ?_
  rintro e w' ⟨v', g', rfl, h1, h2, h3⟩
  refine ⟨v', rfl, g', h1, hb.trans ?_⟩
  have h4 : Apart (fun k => g = some k) w w' := ((Apart.refl _ w).alloc _).trans h3 (fun _ e => .inl e)
  exact h4.below (Nat.le_trans hBW hb.size) (fun k hk => (hr.lt k hk).1)
end Go.Proofs.Ytgceleipaiameaa
namespace Go.Proofs.Ytgceleipaiameaa
open Go.RowKit
set_option maxRecDepth 100000

/-- '[]byte' of bytes just laid: the row bears a mark behind its last cell. -/
theorem conv_mark (w : World) (C : Array Value) (n c : Nat) : (convert 30 30 (.slice (some ⟨w.heap.size, 0, none⟩) n c)).run Try.prog (w.alloc (.cells C 5)) = .ok (.slice (some ⟨w.heap.size, 0, none⟩) n c) (w.alloc (.cells C 5 (C.size, C.size + 1))) := by
  have hsh : (w.alloc (.cells C 5)).shape? w.heap.size = some (5, C.size) := by
    have : (w.alloc (.cells C 5)).heap[w.heap.size]? = some (.cells C 5) := heap_alloc_new w _
    unfold World.shape?
    rw [this]
  have hfr : (w.alloc (.cells C 5)).freeze ⟨w.heap.size, C.size, none⟩ 1 = w.alloc (.cells C 5 (C.size, C.size + 1)) := by
    have hm : ∀ (a : Array Obj) (x : Obj) (f : Obj → Obj), (a.push x).modify a.size f = a.push (f x) := by
      intro a x f
      apply Array.ext
      · simp
      · intro i h1 h2
        simp only [Array.getElem_modify, Array.getElem_push]
        by_cases h : a.size = i
        · subst h
          simp
        · have hi : i < a.size := by simp at h1; omega
          simp [h, hi]
    unfold World.freeze
    rw [if_neg (by decide)]
    show ({ w.alloc (.cells C 5) with heap := (w.heap.push (.cells C 5)).modify w.heap.size _ } : World) = _
    rw [hm]
    rfl
  simp [convert, run_underlying Try.underlying30, run_underlying Try.underlying5, markStringish, hsh]
  exact hfr

section
variable {P : Program}
/-- append to bytes that have no room: a row of the call's own. -/
theorem wp_append_full {w0 : World} {o : Oper} {a : Act} {K : Act → World → Prop} {Q : Exit → Act → World → Prop} (s x : Operand) (t : TypeId)
    (ho : o.op = .call { callee := .builtin .append, args := #[s, x], argTypes := #[t, t] }) (B : Nat) (e : TypeId) (z : Value)
    (ht : P.underlying t = some (.slice e)) (hinfo : (P.info? e).map (fun i => (i.zero, i.size, i.bytes)) = some (some z, 1, 1)) (hzs : z.cells.size = 1)
    (a0 : Addr) (n : Nat) (xs : List UInt8) (hs : a.eval s = .slice (some a0) n n) (hxs : xs.length = n) (hold : ∀ j c, xs[j]? = some c → w0.cell? (a0.add j) = some (.int .u8 (c.toNat : Nat))) (C : Nat) (A : Option Addr) (m c : Nat) (l : List UInt8) (hx : a.eval x = .slice A m c) (hm : l.length = m) (hr : Bytes w0 C A l) (h0 : 0 < m)
    (hn : n + m ≤ 140737488355328) (hB : B ≤ w0.heap.size)
    (h : ∀ v' w' g', Row w' B e g' v' (xs ++ l) → (∃ q, g' = some q ∧ w0.heap.size ≤ q) → Apart (fun _ => False) w0 w' → K (a.put o.dst v') w') :
    o.wp P a w0 K Q := by
  obtain ⟨i, hi, hz, hsize, hbytes⟩ := info_parts hinfo
  obtain ⟨gA, oA, rfl, -, hcA⟩ := hr (by omega)
  subst hxs
  have hnews : ∀ j u, (bytesV l)[j]? = some u → w0.cell? ((⟨gA, oA, none⟩ : Addr).add j) = some u := by
    intro j u hj
    obtain ⟨b, hb, rfl⟩ := bytesV_at hj
    rw [addr_addB]
    exact hcA j b hb
  have holds : ∀ j u, (bytesV xs)[j]? = some u → w0.cell? (a0.add j) = some u := by
    intro j u hj
    obtain ⟨b, hb, rfl⟩ := bytesV_at hj
    exact hold j b hb
  have hrun := run_append_grow (P := P) w0 t o.type e i z ht hi hz a0 xs.length xs.length (bytesV xs) (by rw [bytesV_length, hsize]; omega) holds ⟨gA, oA, none⟩ m c (bytesV l) (by rw [bytesV_length, hsize]; omega) hnews (by omega) (by omega) (by rw [hbytes]; exact growslice_fits (by omega) (by omega))
  unfold Oper.wp execOp
  simp only [ho, resolve, invoke, builtin, Sem.run_bind, Sem.run_pure, Result.andThen_ok, List.map_toArray, List.map_cons, List.map_nil, hs, hx, hrun]
  have hge := grownCap_ge w0 (xs.length + m) xs.length e
  have hcm : grownCap w0 (xs.length + m) xs.length e ≤ maxLen := grownCap_le_maxLen w0 (xs.length + m) xs.length e (by unfold maxLen; omega)
  have own : (w0.drew.alloc (.cells ((bytesV xs).toArray ++ (bytesV l).toArray ++ Builtin.zeroCells z.cells (grownCap w0 (xs.length + m) xs.length e - (xs.length + m))) e)).ownsRow B e 1 (.slice (some ⟨w0.heap.size, 0, none⟩) (xs.length + m) (grownCap w0 (xs.length + m) xs.length e)) (xs.length + m) (bytesV xs ++ bytesV l) := by
    refine ⟨by rw [List.length_append, bytesV_length, bytesV_length]; omega, .inr ⟨w0.heap.size, _, _, rfl, hB, heap_alloc_new w0.drew _, hge, hcm, ?_, ?_⟩⟩
    · simp only [Array.size_append, List.size_toArray, size_zeroCells, hzs, bytesV_length, hm]
      omega
    · simp only [Array.toList_append, List.append_assoc]
      rw [← List.append_assoc]
      have hlen : (bytesV xs ++ bytesV l).length = (xs.length + m) * 1 := by rw [List.length_append, bytesV_length, bytesV_length]; omega
      rw [← hlen]
      exact List.take_left
  exact h _ _ (some w0.heap.size) ⟨rfl, by rw [bytesV_append, List.length_append, hm]; exact own⟩ ⟨_, rfl, Nat.le_refl _⟩ ((Apart.refl _ w0).drew.alloc _)
theorem wpList_append_full {w0 : World} {ops : Array Oper} {rest : List Oper} {o : Oper} {a : Act} {Q : Exit → Act → World → Prop} (hgd : o.guard = none) (s x : Operand) (t : TypeId)
    (ho : o.op = .call { callee := .builtin .append, args := #[s, x], argTypes := #[t, t] }) (B : Nat) (e : TypeId) (z : Value)
    (ht : P.underlying t = some (.slice e)) (hinfo : (P.info? e).map (fun i => (i.zero, i.size, i.bytes)) = some (some z, 1, 1)) (hzs : z.cells.size = 1)
    (a0 : Addr) (n : Nat) (xs : List UInt8) (hs : a.eval s = .slice (some a0) n n) (hxs : xs.length = n) (hold : ∀ j c, xs[j]? = some c → w0.cell? (a0.add j) = some (.int .u8 (c.toNat : Nat))) (C : Nat) (A : Option Addr) (m c : Nat) (l : List UInt8) (hx : a.eval x = .slice A m c) (hm : l.length = m) (hr : Bytes w0 C A l) (h0 : 0 < m)
    (hn : n + m ≤ 140737488355328) (hB : B ≤ w0.heap.size)
    (h : ∀ v' w' g', Row w' B e g' v' (xs ++ l) → (∃ q, g' = some q ∧ w0.heap.size ≤ q) → Apart (fun _ => False) w0 w' → wpList P ops Q rest (a.put o.dst v') w') :
    wpList P ops Q (o :: rest) a w0 :=
  wpList_plain hgd fun _ hK => wp_append_full s x t ho B e z ht hinfo hzs a0 n xs hs hxs hold C A m c l hx hm hr h0 hn hB fun v' w' g' h1 h2 h3 => hK _ _ (h v' w' g' h1 h2 h3)
end

/-- all onto a full slice, of one number at least. -/
def FullRel (B : Nat) (v0 : Value) (pre : List UInt8) (xs : List Nat) (n : Nat) (w1 : World) (v i : Value) (wr : World) : Prop :=
  ∃ k, k ≤ n ∧ i = .int .i64 (k : Nat) ∧ ((k = 0 ∧ v = v0 ∧ wr = w1) ∨ (1 ≤ k ∧ ∃ g, Row wr B 5 g v (pre ++ nums 1 (xs.take k)) ∧ (∃ q, g = some q ∧ w1.heap.size ≤ q) ∧ Apart (fun _ => False) w1 wr))

set_option maxHeartbeats 1000000 in
theorem refall_full (B : Nat) (N0 n0 : Nat) (pre : List UInt8) (hpre : pre.length = n0) (xs : List Nat) (hx : ∀ x ∈ xs, x < 4294967296) (n cap N : Nat) (hn : xs.length = n) (hn1 : 1 ≤ n) (w1 : World) (cs : Array Value) (t : TypeId) (hcs : cs = (xs.map (fun x => Value.int .i64 (x : Nat))).toArray) (hc : w1.heap[N]? = some (.cells cs t (0, 0)))
    (hold : ∀ w', Apart (fun _ => False) w1 w' → ∀ j c, pre[j]? = some c → w'.cell? ((⟨N0, 0, none⟩ : Addr).add j) = some (.int .u8 (c.toNat : Nat))) (hlen : n0 + 4 * n ≤ 100000000) (hB : B ≤ w1.heap.size) :
    Calls Try.prog 26 #[.slice (some ⟨N0, 0, none⟩) n0 n0, .int .i64 1, .slice (some ⟨N, 0, none⟩) n cap] w1 (fun e w' => ∃ v g, e = .returned v ∧ Row w' B 5 g v (pre ++ nums 1 xs) ∧ Apart (fun _ => False) w1 w') := by
  have HCell : Hid (∀ wr, Apart (fun _ => False) w1 wr → ∀ k x, xs[k]? = some x → wr.cell? ⟨N, k, none⟩ = some (.int .i64 (x : Nat))) := Lib.hid fun wr ha k x hk => by
    refine cell_at ((ha.block N (lt_of_block hc) (fun h => h)).trans hc) k ?_
    rw [hcs]
    simp [hk]
  have HB := Lib.hid hB
  have Hx := Lib.hid hx
  have Hn := Lib.hid hn
  have Hpre := Lib.hid hpre
  have Hold := Lib.hid hold
  have h0 : Hid (FullRel B (.slice (some ⟨N0, 0, none⟩) n0 n0) pre xs n w1 (.slice (some ⟨N0, 0, none⟩) n0 n0) (.int .i64 0) w1) := Lib.hid ⟨0, Nat.zero_le _, rfl, .inl ⟨rfl, rfl, rfl⟩⟩
  clear hcs hc hx hn hB hpre hold
  go_enter Try.func26, Try.ntmps26
  go_wp2_with fail
  go_loopw [0, 7] (FullRel B (.slice (some ⟨N0, 0, none⟩) n0 n0) pre xs n w1) (fun _ i _ => (n + 1 - intOf i).toNat)
  case atStart => exact h0.out
  case round =>
    clear h0
    obtain ⟨k, hk, rfl, hst⟩ := hrel
    by_cases hlt : k < n
    · obtain ⟨x, hxk⟩ : ∃ x, xs[k]? = some x := ⟨_, List.getElem?_eq_getElem (by rw [Hn.out]; exact hlt)⟩
      have haw : Apart (fun _ => False) w1 wr := by
        rcases hst with ⟨_, _, rfl⟩ | ⟨_, g, _, _, ha⟩
        · exact Apart.refl _ _
        · exact ha
      have kc := HCell.out wr haw k x hxk
      have hx4 := Hx.out x (List.mem_of_getElem? hxk)
      have hxm : (x : Int) % 4294967296 = x := by omega
      have HT := Lib.hid (nums_take (s := 1) hxk)
      have HNm := Lib.hid (refnum_any x 1 hx4 (by omega) (by omega) wr)
      rw [show WireP.put x 1 = WireP.num x 1 from put_num x 1 (.inl rfl)] at HNm
      have Haw := Lib.hid haw
      rcases hst with ⟨rfl, rfl, rfl⟩ | ⟨h1k, g, hr, hq, ha⟩
      · clear hxk hx4 haw
        go_wp2_with fail
        refine HNm.out.mono ?_
        rintro e w2 ⟨v2, g2, rfl, hr2, hb2⟩
        obtain ⟨A2, c2, rfl, -, -, hby2⟩ := hr2.bytes
        have Hby2 := Lib.hid hby2
        have Hb2 := Lib.hid hb2
        have ha2 : Apart (fun _ => False) wr w2 := Apart.of_below' hb2
        have Ha2 := Lib.hid ha2
        have Hold2 := Lib.hid (Hold.out w2 ha2)
        rw [WireP.num_length] at *
        clear hr2 hby2 hb2 ha2
        go_wp2_with (at_builtin
                     refine wpList_append_full rfl (.tmp 14) (.tmp 21) _ rfl B 5 (.int .u8 0) Try.underlying30 infoB rfl ⟨N0, 0, none⟩ n0 pre rfl Hpre.out Hold2.out w2.heap.size A2 _ c2 (WireP.num x 1) rfl (WireP.num_length _ _) Hby2.out (by omega) (by omega) (by have h1 := Hb2.out.size; have h3 := HB.out; omega) ?_
                     intro v3 w3 g3 hr3 hq3 ha3
                     have HRel : Hid (FullRel B (.slice (some ⟨N0, 0, none⟩) n0 n0) pre xs n wr v3 (.int .i64 (((0 : Nat) : Int) + 1)) w3) := Lib.hid (by
                       obtain ⟨q, e1, e2⟩ := hq3
                       refine ⟨1, by omega, by go_num, .inr ⟨Nat.le_refl _, g3, by rw [HT.out]; simpa [nums] using hr3, ⟨q, e1, Nat.le_trans Hb2.out.size e2⟩, Ha2.out.trans ha3 (fun _ h => h.elim)⟩⟩)
                     clear hr3 hq3 ha3)
        go_roundw
        case rel => exact HRel.out
        case measure => simp [intOf]
      · have HR := Lib.hid hr
        have Hq := Lib.hid hq
        have Ha := Lib.hid ha
        have Hln : Hid ((pre ++ nums 1 (xs.take k)).length + 1 ≤ 140737488355328) := Lib.hid (by
          rw [List.length_append, nums_length, List.length_take]
          have := Hpre.out
          have := Hn.out
          omega)
        clear hxk hx4 haw hr hq ha
        go_wp2_with fail
        refine HNm.out.mono ?_
        rintro e w2 ⟨v2, g2, rfl, hr2, hb2⟩
        obtain ⟨A2, c2, rfl, -, -, hby2⟩ := hr2.bytes
        have HR2 := Lib.hid (HR.out.apart (F := fun _ => False) (Apart.of_below' hb2) (fun _ _ h => h))
        have Hby2 := Lib.hid hby2
        have Hb2 := Lib.hid hb2
        rw [WireP.num_length] at *
        clear hr2 hby2 hb2
        go_wp2_with (at_builtin
                     refine wpList_append_r rfl (.tmp 14) (.tmp 21) _ rfl B 5 (.int .u8 0) Try.underlying30 infoB rfl _ g _ rfl HR2.out w2.heap.size A2 _ c2 (WireP.num x 1) rfl (WireP.num_length _ _) Hby2.out Hln.out (by have h1 := Hb2.out.size; have h2 := Ha.out.size; have h3 := HB.out; omega) ?_
                     intro v3 w3 g3 hr3 hm3 ha3
                     have HRel : Hid (FullRel B (.slice (some ⟨N0, 0, none⟩) n0 n0) pre xs n w1 v3 (.int .i64 ((k : Int) + 1)) w3) := Lib.hid (by
                       obtain ⟨q, e1, e2⟩ := Hq.out
                       refine ⟨k + 1, by omega, by go_num, .inr ⟨by omega, g3, by rw [HT.out, ← List.append_assoc]; exact hr3, ?_, ?_⟩⟩
                       · rcases hm3 with h | ⟨q2, h1, h2⟩
                         · exact ⟨q, by rw [h, e1], e2⟩
                         · exact ⟨q2, h1, Nat.le_trans (Nat.le_trans Ha.out.size Hb2.out.size) h2⟩
                       · refine (Ha.out.trans (F := fun _ => False) (G := fun _ => False) (Apart.of_below' Hb2.out) (fun _ h => h.elim)).trans ha3 (fun q2 e => ?_)
                         rw [e1] at e
                         injection e with e
                         exact .inr (by omega))
                     clear hr3 hm3 ha3)
        go_roundw
        case rel => exact HRel.out
        case measure => simp [intOf]; omega
    · have hkn : n = k := by omega
      subst hkn
      rcases hst with ⟨h1, _⟩ | ⟨_, g, hr, _, ha⟩
      · omega
      · have HF : Hid (∃ v g, Ending.returned u0 = .returned v ∧ Row wr B 5 g v (pre ++ nums 1 xs) ∧ Apart (fun _ => False) w1 wr) := Lib.hid ⟨_, g, rfl, by rwa [List.take_of_length_le (by rw [Hn.out]; exact Nat.le_refl _)] at hr, ha⟩
        clear hr ha
        go_wp2_with fail
        go_ret
        exact HF.out
end Go.Proofs.Ytgceleipaiameaa
namespace Go.Proofs.Ytgceleipaiameaa
open Go.RowKit
set_option maxRecDepth 100000

def RefEncBad (c : FrameP.Wrong) (w : World) (e : Ending) (w' : World) : Prop :=
  e = .returned (.tuple #[.slice none 0 0, strV (overT 60 (-1) (wrongT (some c)))]) ∧ Below w.heap.size w w'
def RefEncGood (f : TableP.Cfg) (w : World) (e : Ending) (w' : World) : Prop :=
  ∃ v g, e = .returned (.tuple #[v, .string ⟨#[]⟩]) ∧ Row w' w.heap.size 5 g v (CrcP.seal4 (TableP.enc f)) ∧ Below w.heap.size w w'
theorem wrongT_len (c : FrameP.Wrong) : (wrongT (some c)).length ≤ 42 := atT_len c.1 c.2
theorem wrongT_emp (c : FrameP.Wrong) : (wrongT (some c)).isEmpty = false := by have := wrongT_ne c; cases h : wrongT (some c) <;> simp_all

theorem refencode_bad (x : CfgC) (w : World) (h : CfgIn w x) (c : FrameP.Wrong) (hc : TableP.chk x.plain = some c) :
    Calls Try.prog 12 #[x.value] w (RefEncBad c w) := by
  have HB0 := Lib.hid (boxC_below w x)
  have HS0 := Lib.hid (boxC_size w x)
  have HC : Hid (∀ W, CfgIn W x → Calls Try.prog 15 #[x.value] W (RefChkPost (some c) W)) := Lib.hid fun W hW => by rw [← hc]; exact refcheck_any x W hW
  have HFr := Lib.hid (h.below (boxC_below w x))
  have HO := Lib.hid (fun W => over_any 60 (-1) (wrongT (some c)) W (by omega) (by omega) (by have := wrongT_len c; omega))
  have hne := wrongT_emp c
  clear h hc
  obtain ⟨nodes, faulty, slot, gap, rho, dmin, dmax, margin, PA, pn, pcap, parts, QA, qn, qcap, ports, RA, rn, rcap, routes⟩ := x
  simp only [CfgC.value] at HC ⊢
  simp only [boxC, cfgCells] at HB0 HS0 HFr
  unfold RefEncBad
  unfold RefChkPost at HC
  generalize overT 60 (-1) (wrongT (some c)) = t at *
  generalize wrongT (some c) = u at *
  unfold strV at *
  go_enter Try.func12, Try.ntmps12
  go_wp2_with fail
  refine (HC.out _ HFr.out).mono ?_
  rintro e w1 ⟨rfl, h3⟩
  have H3 := Lib.hid h3
  clear h3
  go_wp2_with fail
  refine (HO.out _).mono ?_
  rintro e w2 ⟨rfl, h4⟩
  have H4 := Lib.hid h4
  clear h4
  go_wp2_with fail
  go_ret2
  exact ⟨rfl, HB0.out.trans ((H3.out.trans (H4.out.mono H3.out.size)).mono (by rw [HS0.out]; omega))⟩

def ORel {α : Type} (B : Nat) (W : World) (pre : List UInt8) (en : List α → List UInt8) (l : List α) (n : Nat) (v i : Value) (wr : World) : Prop :=
  ∃ k, k ≤ n ∧ i = .int .i64 (k : Nat) ∧ OutIn B 5 W (pre ++ en (l.take k)) v wr
theorem OutIn.alloc {B : Nat} {e : TypeId} {W w : World} {l : List UInt8} {v : Value} (h : OutIn B e W l v w) (o : Obj) (hB : B ≤ W.heap.size) : OutIn B e W l v (w.alloc o) := h.below hB ((Below.refl _ _).alloc (Nat.le_refl _) _)
theorem esc1 : #[Value.int .u8 69, Value.int .u8 83, Value.int .u8 67, Value.int .u8 49] = (bytesV (nums 4 [1163084593])).toArray := by kernel_rfl

/-- What was boxed ahead of all, and what keeps it. -/
def Kept (o : Obj) (N : Nat) (v : Value) (w : World) : Prop := w.heap[N]? = some o ∧ v.ownBlock ≠ some N
theorem out_keep {B : Nat} {e : TypeId} {W w : World} {l : List UInt8} {v : Value} (h : OutIn B e W l v w) (o : Obj) : Kept o w.heap.size v (w.alloc o) := by
  obtain ⟨g, hr, hb⟩ := h
  refine ⟨heap_alloc_new w o, fun e => ?_⟩
  rw [hr.1] at e
  have := (hr.lt _ e).2
  omega
theorem out_all_keep {B : Nat} {W w : World} {pre : List UInt8} {v : Value} {o : Obj} {NB : Nat} (h : OutIn B 5 W pre v w) (hk : Kept o NB v w) (hBW : B ≤ W.heap.size) (s : Nat) (hs : s = 1 ∨ s = 4) (xs : List Nat) (hx : ∀ x ∈ xs, x < 4294967296) (n cap N : Nat) (hn : xs.length = n) (hN : N = w.heap.size) (cs : Array Value) (t : TypeId) (hcs : cs = (xs.map (fun x => Value.int .i64 (x : Nat))).toArray)
    (hlen : pre.length + 4 * n ≤ 100000000) :
    Calls Try.prog 26 #[v, .int .i64 (s : Nat), .slice (some ⟨N, 0, none⟩) n cap] (w.alloc (.cells cs t)) fun e w' => ∃ v', e = .returned v' ∧ OutIn B 5 W (pre ++ nums s xs) v' w' ∧ Kept o NB v' w' := by
  obtain ⟨g, hr, hb⟩ := h
  obtain ⟨hk1, hk2⟩ := hk
  have hNB := lt_of_block hk1
  refine (refall_at B v g pre s hs xs hx n cap N hn w _ hN cs t hcs rfl hlen (Nat.le_trans hBW hb.size) hr).mono ?_
  rintro e w' ⟨v', g', rfl, h1, h2, h3⟩
  have h4 : Apart (fun k => g = some k) w w' := ((Apart.refl _ w).alloc _).trans h3 (fun _ e => .inl e)
  have hg : g ≠ some NB := by rw [← hr.1]; exact hk2
  refine ⟨v', rfl, ⟨g', h1, hb.trans (h4.below (Nat.le_trans hBW hb.size) (fun k hk => (hr.lt k hk).1))⟩, (h4.block NB hNB hg).trans hk1, fun e => ?_⟩
  rw [h1.1] at e
  rcases h2 with h2 | ⟨q, h2, h5⟩
  · exact hg (by rw [← h2]; exact e)
  · rw [h2] at e
    injection e with e
    simp at h5
    omega

set_option maxHeartbeats 4000000 in
theorem refencode_good (x : CfgC) (w : World) (h : CfgIn w x) (hc : TableP.chk x.plain = none) :
    Calls Try.prog 12 #[x.value] w (RefEncGood x.plain w) := by
  have HB0 := Lib.hid (boxC_below w x)
  have HS0 := Lib.hid (boxC_size w x)
  have HC : Hid (∀ W, CfgIn W x → Calls Try.prog 15 #[x.value] W (fun e w' => e = .returned (.string ⟨#[]⟩) ∧ Below W.heap.size W w')) := Lib.hid fun W hW => by
    have h := refcheck_any x W hW
    rw [hc] at h
    exact h
  have HFr := Lib.hid (h.below (boxC_below w x))
  have HBOX := Lib.hid (fun wr hb => box11 (w := w) (wr := wr) (x := x) (t := 26) hb)
  obtain ⟨hfit, hp12, hq24, hr24⟩ := TableP.chk_fits hc
  have hpl := h.plen
  have hql := h.qlen
  have hrl := h.rlen
  clear h hc
  generalize hP : x.plain = P at *
  obtain ⟨nodes, faulty, slot, gap, rho, dmin, dmax, margin, PA, pn, pcap, parts, QA, qn, qcap, ports, RA, rn, rcap, routes⟩ := x
  subst hP
  simp only [CfgC.plain] at hfit hp12 hq24 hr24
  obtain ⟨f0, f1, f2, f3, f4, f5, f6, f7, -, -, -, fp, fq, fr⟩ := hfit
  simp only at f0 f1 f2 f3 f4 f5 f6 f7 fp fq fr hpl hql hrl
  obtain ⟨n0, rfl, l0⟩ := b1_nat f0
  obtain ⟨n1, rfl, l1⟩ := b1_nat f1
  obtain ⟨n2, rfl, l2⟩ := b4_nat f2
  obtain ⟨n3, rfl, l3⟩ := b4_nat f3
  obtain ⟨n4, rfl, l4⟩ := b4_nat f4
  obtain ⟨n5, rfl, l5⟩ := b4_nat f5
  obtain ⟨n6, rfl, l6⟩ := b4_nat f6
  obtain ⟨n7, rfl, l7⟩ := b4_nat f7
  have Hfp := Lib.hid fp
  have Hfq := Lib.hid fq
  have Hfr := Lib.hid fr
  clear f0 f1 f2 f3 f4 f5 f6 f7 fp fq fr
  have hp12 : pn ≤ 12 := by omega
  have hq24 : qn ≤ 24 := by omega
  have hr24 : rn ≤ 24 := by omega
  have Henc : Hid (TableP.enc (CfgC.plain ⟨n0, n1, n2, n3, n4, n5, n6, n7, PA, pn, pcap, parts, QA, qn, qcap, ports, RA, rn, rcap, routes⟩) = headB n0 n1 n2 n3 n4 n5 n6 n7 pn qn rn ++ (TableP.partsB parts ++ (TableP.portsB ports ++ TableP.routesB routes))) := Lib.hid (by
    simp only [TableP.enc, CfgC.plain, headB, nums_cons, nums_nil, inum_n _ _ l0, inum_n _ _ l1, inum_n _ _ l2, inum_n _ _ l3, inum_n _ _ l4, inum_n _ _ l5, inum_n _ _ l6, inum_n _ _ l7, hpl, hql, hrl, TableP.magic, List.append_assoc, List.append_nil])
  simp only [CfgC.value] at HC ⊢
  simp only [boxC, cfgCells] at HB0 HS0 HFr HBOX
  go_enter Try.func12, Try.ntmps12
  go_wp2_with fail
  refine (HC.out _ HFr.out).mono ?_
  rintro e w1 ⟨rfl, h3⟩
  obtain ⟨b0, b1, b2, b3, b4, b5, b6, b7, b8, b9, b10⟩ := HBOX.out w1 h3
  simp only at b0 b1 b2 b3 b4 b5 b6 b7 b8 b9 b10
  have Hb1 := Lib.hid h3
  have Hfr1 := Lib.hid (HFr.out.below h3)
  have hz : w.heap.size < w1.heap.size := by have := h3.size; rw [HS0.out] at this; omega
  have HBX : Hid (∀ l v w', OutIn w1.heap.size 5 w1 l v w' → Box11 w' w.heap.size ⟨n0, n1, n2, n3, n4, n5, n6, n7, PA, pn, pcap, parts, QA, qn, qcap, ports, RA, rn, rcap, routes⟩) := Lib.hid fun l v w' ho =>
    HBOX.out w' (Hb1.out.trans (ho.of.mono Hb1.out.size))
  have hcv : (convert 30 30 (.slice (some ⟨w1.heap.size, 0, none⟩) 4 4)).run Try.prog (w1.alloc (.cells #[.int .u8 69, .int .u8 83, .int .u8 67, .int .u8 49] 5)) = .ok (.slice (some ⟨w1.heap.size, 0, none⟩) 4 4) (w1.alloc (.cells #[.int .u8 69, .int .u8 83, .int .u8 67, .int .u8 49] 5 (4, 5))) := conv_mark w1 _ 4 4
  clear h3 HC
  go_wp2_with fail
  have hec : ∀ o w', Apart (fun _ => False) ((w1.alloc (.cells #[.int .u8 69, .int .u8 83, .int .u8 67, .int .u8 49] 5 (4, 5))).alloc o) w' → ∀ j c, (nums 4 [1163084593])[j]? = some c → w'.cell? ((⟨w1.heap.size, 0, none⟩ : Addr).add j) = some (.int .u8 (c.toNat : Nat)) := fun o w' ha j c hj => by
    have hh : w'.heap[w1.heap.size]? = some (.cells #[.int .u8 69, .int .u8 83, .int .u8 67, .int .u8 49] 5 (4, 5)) := (ha.block _ (by simp <;> omega) (fun h => h)).trans ((Below.heap_alloc _ _ _ (by simp)).trans (heap_alloc_new w1 _))
    rw [addr_add0, Nat.zero_add]
    unfold World.cell?
    simp only [hh]
    rw [esc1]
    simp [bytesV, hj]
  refine Calls.mono (refall_full w1.heap.size w1.heap.size 4 (nums 4 [1163084593]) ?hp2 [n0, n1] ?hx2 2 _ _ ?hn2 ?hq2 _ #[.int .i64 (n0 : Nat), .int .i64 (n1 : Nat)] 3 ?hcs2 ?hc2 (hec _) ?hl2 ?hb2) ?hr2
  case hp2 => simp [nums_length]
  case hx2 => simp only [List.mem_cons, List.not_mem_nil, or_false, forall_eq_or_imp, forall_eq]; omega
  case hn2 => rfl
  case hq2 => omega
  case hcs2 => rfl
  case hc2 => exact (by have h9 := heap_alloc_new (w1.alloc (.cells #[.int .u8 69, .int .u8 83, .int .u8 67, .int .u8 49] 5 (4, 5))) (.cells #[.int .i64 (n0 : Nat), .int .i64 (n1 : Nat)] 3); simpa using h9)
  case hl2 => omega
  case hb2 => simp; omega
  rintro e w2 ⟨v2, g2, rfl, hr2, ha2⟩
  have ho2 : OutIn w1.heap.size 5 w1 (nums 4 [1163084593] ++ nums 1 [n0, n1]) v2 w2 := ⟨g2, hr2, (((Apart.refl (fun _ => False) w1).alloc _).alloc _ |>.trans ha2 (fun _ h => h.elim)).below (Nat.le_refl _) (fun _ h => h.elim)⟩
  clear b0 b1 b2 b3 b4 b5 b6 b7 b8 b9 b10 hr2 ha2 hcv hec
  obtain ⟨b0, b1, b2, b3, b4, b5, b6, b7, b8, b9, b10⟩ := HBX.out _ _ _ ho2
  simp only at b0 b1 b2 b3 b4 b5 b6 b7 b8 b9 b10
  have HO2 := Lib.hid ho2
  clear ho2
  go_wp2_with fail
  refine Calls.mono (HO2.out.all (Nat.le_refl _) 4 ?hs3 [n2, n3, n4, n5, n6, n7] ?hx3 6 _ _ ?hn3 ?hN3 _ _ ?hcs3 ?hl3) ?hr3
  case hs3 => omega
  case hx3 => simp only [List.mem_cons, List.not_mem_nil, or_false, forall_eq_or_imp, forall_eq]; omega
  case hn3 => rfl
  case hN3 => simp
  case hcs3 => rfl
  case hl3 => simp [nums_length]
  rintro e w3 ⟨v3, rfl, ho3⟩
  clear b0 b1 b2 b3 b4 b5 b6 b7 b8 b9 b10
  obtain ⟨b0, b1, b2, b3, b4, b5, b6, b7, b8, b9, b10⟩ := HBX.out _ _ _ ho3
  simp only at b0 b1 b2 b3 b4 b5 b6 b7 b8 b9 b10
  have HO3 := Lib.hid ho3
  clear ho3
  go_wp2_with fail
  refine Calls.mono (HO3.out.all (Nat.le_refl _) 1 ?hs4 [pn, qn, rn] ?hx4 3 _ _ ?hn4 ?hN4 _ _ ?hcs4 ?hl4) ?hr4
  case hs4 => omega
  case hx4 => simp only [List.mem_cons, List.not_mem_nil, or_false, forall_eq_or_imp, forall_eq]; omega
  case hn4 => rfl
  case hN4 => simp
  case hcs4 => rfl
  case hl4 => simp [nums_length]
  rintro e w4 ⟨v4, rfl, ho4⟩
  clear b0 b1 b2 b3 b4 b5 b6 b7 b8 b9 b10
  obtain ⟨b0, b1, b2, b3, b4, b5, b6, b7, b8, b9, b10⟩ := HBX.out _ _ _ ho4
  simp only at b0 b1 b2 b3 b4 b5 b6 b7 b8 b9 b10
  have HO4 := Lib.hid ho4
  clear ho4
  go_wp2_with fail
  have hh : nums 4 [1163084593] ++ nums 1 [n0, n1] ++ nums 4 [n2, n3, n4, n5, n6, n7] ++ nums 1 [pn, qn, rn] = headB n0 n1 n2 n3 n4 n5 n6 n7 pn qn rn := by
    simp only [headB, List.append_assoc]
  have hst := HO4.out
  rw [hh] at hst
  have hl33 := headB_len n0 n1 n2 n3 n4 n5 n6 n7 pn qn rn
  generalize headB n0 n1 n2 n3 n4 n5 n6 n7 pn qn rn = hd at *
  have HST := Lib.hid hst
  clear hst hh HO2 HO3 HO4
  go_loopw [5, 6] (ORel w1.heap.size w1 hd TableP.partsB parts pn) (fun _ i _ => (pn + 1 - intOf i).toNat)
  case atStart => exact ⟨0, Nat.zero_le _, rfl, by simpa [TableP.partsB] using HST.out⟩
  case round =>
    clear HST b0 b1 b2 b3 b4 b5 b6 b7 b8 b9 b10
    obtain ⟨k, hk, rfl, ho⟩ := hrel
    have HI := Lib.hid ho
    have Hbw := Lib.hid ho.of
    have Hfk := Lib.hid (Hfr1.out.below ho.of)
    obtain ⟨b0, b1, b2, b3, b4, b5, b6, b7, b8, b9, b10⟩ := HBX.out _ _ _ ho
    simp only at b0 b1 b2 b3 b4 b5 b6 b7 b8 b9 b10
    clear ho
    by_cases hlt : k < pn
    · obtain ⟨y, hmk⟩ : ∃ y, parts[k]? = some y := ⟨_, List.getElem?_eq_getElem (by omega)⟩
      obtain ⟨b, off, e, hbl, c0, c1, c2, c3, c4, c5, c6, c7, c8⟩ := parts_at Hfk.out.parts hmk
      have hft := Hfp.out y (List.mem_of_getElem? hmk)
      have Hsn := Lib.hid (partsB_take hmk)
      obtain ⟨node, start, length, budget, words, r0, r1, r2, r3⟩ := y
      simp only at e c0 c1 c2 c3 c4 c5 c6 c7 c8
      obtain ⟨t0, t1, t2, t3, t4, t5, t6, t7, t8⟩ := hft
      simp only at t0 t1 t2 t3 t4 t5 t6 t7 t8
      obtain ⟨m0, rfl, z0⟩ := b1_nat t0
      obtain ⟨m1, rfl, z1⟩ := b4_nat t1
      obtain ⟨m2, rfl, z2⟩ := b4_nat t2
      obtain ⟨m3, rfl, z3⟩ := b1_nat t3
      obtain ⟨m4, rfl, z4⟩ := b1_nat t4
      clear t0 t1 t2 t3 t4
      have x5 : IntKind.i64.wrap (r0 : Int) = r0 := IntWalk.i64_in _ (by omega)
      have x6 : IntKind.i64.wrap (r1 : Int) = r1 := IntWalk.i64_in _ (by omega)
      have x7 : IntKind.i64.wrap (r2 : Int) = r2 := IntWalk.i64_in _ (by omega)
      have x8 : IntKind.i64.wrap (r3 : Int) = r3 := IntWalk.i64_in _ (by omega)
      have Hpb : Hid (TableP.partB ⟨m0, m1, m2, m3, m4, r0, r1, r2, r3⟩ = nums 1 [m0] ++ (nums 4 [m1, m2] ++ nums 1 [m3, m4, r0, r1, r2, r3])) := Lib.hid (by
        simp only [TableP.partB, nums_cons, nums_nil, inum_n _ _ z0, inum_n _ _ z1, inum_n _ _ z2, inum_n _ _ z3, inum_n _ _ z4, List.append_assoc, List.append_nil])
      have Hlen : Hid ((hd ++ TableP.partsB (parts.take k)).length ≤ 1000) := Lib.hid (by
        simp only [List.length_append, TableP.partsB_length, List.length_take]; omega)
      have Hend : Hid (∀ v w3, OutIn w1.heap.size 5 w1 (hd ++ TableP.partsB (parts.take k) ++ nums 1 [m0] ++ nums 4 [m1, m2] ++ nums 1 [m3, m4, r0, r1, r2, r3]) v w3 → ORel w1.heap.size w1 hd TableP.partsB parts pn v (.int .i64 ((k : Int) + 1)) w3) := Lib.hid fun v w3 ho => by
        refine ⟨k + 1, by omega, by go_num, ?_⟩
        rw [Hsn.out, Hpb.out]
        simpa only [List.append_assoc] using ho
      have HK := Lib.hid (fun t => out_keep HI.out (.cells #[.int .i64 (m0 : Nat), .int .i64 (m1 : Nat), .int .i64 (m2 : Nat), .int .i64 (m3 : Nat), .int .i64 (m4 : Nat), .int .u8 (r0 : Nat), .int .u8 (r1 : Nat), .int .u8 (r2 : Nat), .int .u8 (r3 : Nat)] t))
      have HIA := Lib.hid (fun o => HI.out.alloc o (Nat.le_refl _))
      clear Hsn Hpb hmk HI Hfk
      generalize hd ++ TableP.partsB (parts.take k) = lk at *
      subst e
      go_wp2_with fail
      refine Calls.mono (out_all_keep (HIA.out _) (HK.out _) (Nat.le_refl _) 1 ?hs6 [m0] ?hx6 1 _ _ ?hn6 ?hN6 _ _ ?hcs6 ?hl6) ?hr6
      case hs6 => omega
      case hx6 => simp only [List.mem_cons, List.not_mem_nil, or_false, forall_eq]; omega
      case hn6 => rfl
      case hN6 => simp
      case hcs6 => rfl
      case hl6 => have := Hlen.out; omega
      rintro e w6 ⟨v6, rfl, ho6, hk6⟩
      have d1 := cell_at hk6.1 1 rfl
      have d2 := cell_at hk6.1 2 rfl
      have HI6 := Lib.hid ho6
      have HK6 := Lib.hid hk6
      clear ho6 hk6
      go_wp2_with fail
      refine Calls.mono (out_all_keep HI6.out HK6.out (Nat.le_refl _) 4 ?hs7 [m1, m2] ?hx7 2 _ _ ?hn7 ?hN7 _ _ ?hcs7 ?hl7) ?hr7
      case hs7 => omega
      case hx7 => simp only [List.mem_cons, List.not_mem_nil, or_false, forall_eq_or_imp, forall_eq]; omega
      case hn7 => rfl
      case hN7 => simp
      case hcs7 => rfl
      case hl7 => have := Hlen.out; simp [nums_length]; omega
      rintro e w7 ⟨v7, rfl, ho7, hk7⟩
      have d3 := cell_at hk7.1 3 rfl
      have d4 := cell_at hk7.1 4 rfl
      have d5 := cell_at hk7.1 5 rfl
      have d6 := cell_at hk7.1 6 rfl
      have d7 := cell_at hk7.1 7 rfl
      have d8 := cell_at hk7.1 8 rfl
      have HI7 := Lib.hid ho7
      have HK7 := Lib.hid hk7
      clear ho7 hk7
      go_wp2_with fail
      refine Calls.mono (out_all_keep HI7.out HK7.out (Nat.le_refl _) 1 ?hs8 [m3, m4, r0, r1, r2, r3] ?hx8 6 _ _ ?hn8 ?hN8 _ _ ?hcs8 ?hl8) ?hr8
      case hs8 => omega
      case hx8 => simp only [List.mem_cons, List.not_mem_nil, or_false, forall_eq_or_imp, forall_eq]; omega
      case hn8 => rfl
      case hN8 => simp
      case hcs8 => rfl
      case hl8 => have := Hlen.out; simp [nums_length]; omega
      rintro e w8 ⟨v8, rfl, ho8, -⟩
      have HI8 := Lib.hid ho8
      clear ho8
      go_wp2_with fail
      go_roundw
      case rel => exact Hend.out _ _ HI8.out
      case measure => simp [intOf]; omega
    have hkn : pn = k := by omega
    have HST : Hid (OutIn w1.heap.size 5 w1 (hd ++ TableP.partsB parts) u5 wr) := Lib.hid (by
      have h9 := HI.out
      rwa [List.take_of_length_le (by omega)] at h9)
    clear HI Hfk
    subst hkn
    go_wp2_with fail
    go_loopw [5, 8] (ORel w1.heap.size w1 (hd ++ TableP.partsB parts) TableP.portsB ports qn) (fun _ i _ => (qn + 1 - intOf i).toNat)
    case atStart => exact ⟨0, Nat.zero_le _, rfl, by simpa [TableP.portsB] using HST.out⟩
    case round =>
      clear HST b0 b1 b2 b3 b4 b5 b6 b7 b8 b9 b10
      obtain ⟨k, hk, rfl, ho⟩ := hrel
      have HI := Lib.hid ho
      have Hbw := Lib.hid ho.of
      have Hfk := Lib.hid (Hfr1.out.below ho.of)
      obtain ⟨b0, b1, b2, b3, b4, b5, b6, b7, b8, b9, b10⟩ := HBX.out _ _ _ ho
      simp only at b0 b1 b2 b3 b4 b5 b6 b7 b8 b9 b10
      clear ho
      by_cases hlt : k < qn
      · obtain ⟨y, hmk⟩ : ∃ y, ports[k]? = some y := ⟨_, List.getElem?_eq_getElem (by omega)⟩
        obtain ⟨b, off, e, hbl, c0, c1, c2, c3, c4, c5⟩ := ports_at Hfk.out.ports hmk
        have hft := Hfq.out y (List.mem_of_getElem? hmk)
        have Hsn := Lib.hid (portsB_take hmk)
        obtain ⟨part, kind, out, size, depth, fresh⟩ := y
        simp only at e c0 c1 c2 c3 c4 c5
        obtain ⟨t0, t1, t3, t4, t5⟩ := hft
        simp only at t0 t1 t3 t4 t5
        obtain ⟨m0, rfl, z0⟩ := b1_nat t0
        obtain ⟨m3, rfl, z3⟩ := b1_nat t3
        obtain ⟨m4, rfl, z4⟩ := b1_nat t4
        obtain ⟨m5, rfl, z5⟩ := b1_nat t5
        clear t0 t3 t4 t5
        have x5 : IntKind.i64.wrap (kind : Int) = kind := IntWalk.i64_in _ (by omega)
        have Hpb : Hid (TableP.portB ⟨m0, kind, out, m3, m4, m5⟩ = nums 1 [m0, kind, TableP.bit out, m3, m4, m5]) := Lib.hid (by
          simp only [TableP.portB, nums_cons, nums_nil, inum_n _ _ z0, inum_n _ _ z3, inum_n _ _ z4, inum_n _ _ z5, List.append_nil])
        have Hlen : Hid ((hd ++ TableP.partsB parts ++ TableP.portsB (ports.take k)).length ≤ 1000) := Lib.hid (by
          simp only [List.length_append, TableP.partsB_length, TableP.portsB_length, List.length_take]; omega)
        have Hend : Hid (∀ v w3, OutIn w1.heap.size 5 w1 (hd ++ TableP.partsB parts ++ TableP.portsB (ports.take k) ++ nums 1 [m0, kind, TableP.bit out, m3, m4, m5]) v w3 → ORel w1.heap.size w1 (hd ++ TableP.partsB parts) TableP.portsB ports qn v (.int .i64 ((k : Int) + 1)) w3) := Lib.hid fun v w3 ho => by
          refine ⟨k + 1, by omega, by go_num, ?_⟩
          rw [Hsn.out, Hpb.out]
          simpa only [List.append_assoc] using ho
        have HIA := Lib.hid (fun o => HI.out.alloc o (Nat.le_refl _))
        clear Hsn Hpb hmk HI Hfk
        generalize hd ++ TableP.partsB parts ++ TableP.portsB (ports.take k) = lk at *
        subst e
        cases out with
        | true =>
          go_wp2_with fail
          refine Calls.mono ((HIA.out _).all (Nat.le_refl _) 1 ?hs11 [m0, kind, 1, m3, m4, m5] ?hx11 6 _ _ ?hn11 ?hN11 _ _ ?hcs11 ?hl11) ?hr11
          case hs11 => omega
          case hx11 => simp only [List.mem_cons, List.not_mem_nil, or_false, forall_eq_or_imp, forall_eq]; omega
          case hn11 => rfl
          case hN11 => simp
          case hcs11 => rfl
          case hl11 => have := Hlen.out; omega
          rintro e w6 ⟨v6, rfl, ho6⟩
          have HI6 := Lib.hid ho6
          clear ho6
          go_wp2_with fail
          go_roundw
          case rel => exact Hend.out _ _ HI6.out
          case measure => simp [intOf]; omega
        | false =>
          go_wp2_with fail
          refine Calls.mono ((HIA.out _).all (Nat.le_refl _) 1 ?hs12 [m0, kind, 0, m3, m4, m5] ?hx12 6 _ _ ?hn12 ?hN12 _ _ ?hcs12 ?hl12) ?hr12
          case hs12 => omega
          case hx12 => simp only [List.mem_cons, List.not_mem_nil, or_false, forall_eq_or_imp, forall_eq]; omega
          case hn12 => rfl
          case hN12 => simp
          case hcs12 => rfl
          case hl12 => have := Hlen.out; omega
          rintro e w6 ⟨v6, rfl, ho6⟩
          have HI6 := Lib.hid ho6
          clear ho6
          go_wp2_with fail
          go_roundw
          case rel => exact Hend.out _ _ HI6.out
          case measure => simp [intOf]; omega
      have hkn : qn = k := by omega
      have HST : Hid (OutIn w1.heap.size 5 w1 ((hd ++ TableP.partsB parts) ++ TableP.portsB ports) u5 wr) := Lib.hid (by
        have h9 := HI.out
        rwa [List.take_of_length_le (by omega)] at h9)
      clear HI Hfk
      subst hkn
      go_wp2_with fail
      go_loopw [5, 11] (ORel w1.heap.size w1 (hd ++ TableP.partsB parts ++ TableP.portsB ports) TableP.routesB routes rn) (fun _ i _ => (rn + 1 - intOf i).toNat)
      case atStart => exact ⟨0, Nat.zero_le _, rfl, by simpa [TableP.routesB] using HST.out⟩
      case round =>
        clear HST b0 b1 b2 b3 b4 b5 b6 b7 b8 b9 b10
        obtain ⟨k, hk, rfl, ho⟩ := hrel
        have HI := Lib.hid ho
        have Hbw := Lib.hid ho.of
        have Hfk := Lib.hid (Hfr1.out.below ho.of)
        obtain ⟨b0, b1, b2, b3, b4, b5, b6, b7, b8, b9, b10⟩ := HBX.out _ _ _ ho
        simp only at b0 b1 b2 b3 b4 b5 b6 b7 b8 b9 b10
        clear ho
        by_cases hlt : k < rn
        · obtain ⟨y, hmk⟩ : ∃ y, routes[k]? = some y := ⟨_, List.getElem?_eq_getElem (by omega)⟩
          obtain ⟨b, off, e, hbl, c0, c1⟩ := routes_at Hfk.out.routes hmk
          have hft := Hfr.out y (List.mem_of_getElem? hmk)
          have Hsn := Lib.hid (routesB_take hmk)
          obtain ⟨src, dst⟩ := y
          simp only at e c0 c1
          obtain ⟨t0, t1⟩ := hft
          simp only at t0 t1
          obtain ⟨m0, rfl, z0⟩ := b1_nat t0
          obtain ⟨m1, rfl, z1⟩ := b1_nat t1
          clear t0 t1
          have Hpb : Hid (TableP.routeB ⟨m0, m1⟩ = nums 1 [m0, m1]) := Lib.hid (by
            simp only [TableP.routeB, nums_cons, nums_nil, inum_n _ _ z0, inum_n _ _ z1, List.append_nil])
          have Hlen : Hid ((hd ++ TableP.partsB parts ++ TableP.portsB ports ++ TableP.routesB (routes.take k)).length ≤ 1000) := Lib.hid (by
            simp only [List.length_append, TableP.partsB_length, TableP.portsB_length, TableP.routesB_length, List.length_take]; omega)
          have Hend : Hid (∀ v w3, OutIn w1.heap.size 5 w1 (hd ++ TableP.partsB parts ++ TableP.portsB ports ++ TableP.routesB (routes.take k) ++ nums 1 [m0, m1]) v w3 → ORel w1.heap.size w1 (hd ++ TableP.partsB parts ++ TableP.portsB ports) TableP.routesB routes rn v (.int .i64 ((k : Int) + 1)) w3) := Lib.hid fun v w3 ho => by
            refine ⟨k + 1, by omega, by go_num, ?_⟩
            rw [Hsn.out, Hpb.out]
            simpa only [List.append_assoc] using ho
          have HIA := Lib.hid HI.out.drew
          have HCk : Hid (∀ l v w', OutIn w1.heap.size 5 w1 l v w' → w'.cell? ⟨b, off + k * 2, none⟩ = some (.int .i64 (m0 : Nat)) ∧ w'.cell? ⟨b, off + k * 2 + 1, none⟩ = some (.int .i64 (m1 : Nat))) := Lib.hid fun l v w' ho => by
            obtain ⟨b', off', e', hbl', c0', c1'⟩ := routes_at (Hfr1.out.below ho.of).routes hmk
            have e2 : some (⟨b, off, none⟩ : Addr) = some ⟨b', off', none⟩ := e.symm.trans e'
            injection e2 with e2
            injection e2 with e3 e4
            subst e3 e4
            exact ⟨c0', c1'⟩
          have hwl := Hbw.out.size
          clear Hsn Hpb hmk HI Hfk
          generalize hd ++ TableP.partsB parts ++ TableP.portsB ports ++ TableP.routesB (routes.take k) = lk at *
          subst e
          have hbx : w.heap.size < wr.heap.size := by omega
          have hS0 : wr.drew.cell? ⟨w.heap.size, 10, none⟩ = some (.slice (some ⟨b, off, none⟩) rn rcap) ∧ wr.drew.cell? ⟨b, off + k * 2, none⟩ = some (.int .i64 (m0 : Nat)) ∧ wr.drew.cell? ⟨b, off + k * 2 + 1, none⟩ = some (.int .i64 (m1 : Nat)) := ⟨b10, c0, c1⟩
          go_wp2_with fail
          have s10 := fun (W : World) (hW : W.cell? ⟨w.heap.size, 10, none⟩ = some (.slice (some ⟨b, off, none⟩) rn rcap) ∧ W.cell? ⟨b, off + k * 2, none⟩ = some (.int .i64 (m0 : Nat)) ∧ W.cell? ⟨b, off + k * 2 + 1, none⟩ = some (.int .i64 (m1 : Nat))) => hW.1
          have s0 := fun (W : World) (hW : W.cell? ⟨w.heap.size, 10, none⟩ = some (.slice (some ⟨b, off, none⟩) rn rcap) ∧ W.cell? ⟨b, off + k * 2, none⟩ = some (.int .i64 (m0 : Nat)) ∧ W.cell? ⟨b, off + k * 2 + 1, none⟩ = some (.int .i64 (m1 : Nat))) => hW.2.1
          have s1 := fun (W : World) (hW : W.cell? ⟨w.heap.size, 10, none⟩ = some (.slice (some ⟨b, off, none⟩) rn rcap) ∧ W.cell? ⟨b, off + k * 2, none⟩ = some (.int .i64 (m0 : Nat)) ∧ W.cell? ⟨b, off + k * 2 + 1, none⟩ = some (.int .i64 (m1 : Nat))) => hW.2.2
          clear b0 b1 b2 b3 b4 b5 b6 b7 b8 b9 b10 c0 c1
          refine wp_region_held_drew (S := fun W => W.cell? ⟨w.heap.size, 10, none⟩ = some (.slice (some ⟨b, off, none⟩) rn rcap) ∧ W.cell? ⟨b, off + k * 2, none⟩ = some (.int .i64 (m0 : Nat)) ∧ W.cell? ⟨b, off + k * 2 + 1, none⟩ = some (.int .i64 (m1 : Nat))) (by kernel_rfl) hS0 (fun _ => ?_)
          refine wpAnyH_take (i := 0) (oi := ?oo1) (v := ?vv1) ?ii1 (by kernel_rfl) ?ff1 (by kernel_rfl) ?qq1 (Or.inl ⟨?ww1, ?yy1⟩) hS0 ?rr1
          case ii1 => simp only [List.getElem?_toArray, List.getElem?_cons_zero]; rfl
          case ff1 => kernel_rfl
          case qq1 => exact fun _ _ _ h => h
          case ww1 => rfl
          case yy1 => intro W hW; go_simp <;> with_reducible rfl
          try simp only [Act.put, List.setIfInBounds_toArray, List.set_cons_zero, List.set_cons_succ]
          refine wpAnyH_take (i := 1) (oi := ?oo2) (v := ?vv2) ?ii2 (by kernel_rfl) ?ff2 (by kernel_rfl) ?qq2 (Or.inl ⟨?ww2, ?yy2⟩) hS0 ?rr2
          case ii2 => simp only [List.getElem?_toArray, List.getElem?_cons_succ, List.getElem?_cons_zero]; rfl
          case ff2 => kernel_rfl
          case qq2 => exact fun _ _ _ h => h
          case ww2 => rfl
          case yy2 => intro W hW; go_simp <;> with_reducible rfl
          try simp only [Act.put, List.setIfInBounds_toArray, List.set_cons_zero, List.set_cons_succ]
          refine wpAnyH_take (i := 2) (oi := ?oo3) (v := ?vv3) ?ii3 (by kernel_rfl) ?ff3 (by kernel_rfl) ?qq3 (Or.inl ⟨?ww3, ?yy3⟩) hS0 ?rr3
          case ii3 => simp only [List.getElem?_toArray, List.getElem?_cons_succ, List.getElem?_cons_zero]; rfl
          case ff3 => kernel_rfl
          case qq3 => exact fun _ _ _ h => h
          case ww3 => rfl
          case yy3 => intro W hW; go_simp <;> with_reducible rfl
          try simp only [Act.put, List.setIfInBounds_toArray, List.set_cons_zero, List.set_cons_succ]
          refine wpAnyH_take (i := 3) (oi := ?oo4) (v := ?vv4) ?ii4 (by kernel_rfl) ?ff4 (by kernel_rfl) ?qq4 (Or.inl ⟨?ww4, ?yy4⟩) hS0 ?rr4
          case ii4 => simp only [List.getElem?_toArray, List.getElem?_cons_succ, List.getElem?_cons_zero]; rfl
          case ff4 => kernel_rfl
          case qq4 => exact fun _ _ _ h => h
          case ww4 => rfl
          case yy4 => intro W hW; go_simp <;> with_reducible rfl
          try simp only [Act.put, List.setIfInBounds_toArray, List.set_cons_zero, List.set_cons_succ]
          refine wpAnyH_take (i := 4) (oi := ?oo5) (v := ?vv5) ?ii5 (by kernel_rfl) ?ff5 (by kernel_rfl) ?qq5 (Or.inl ⟨?ww5, ?yy5⟩) hS0 ?rr5
          case ii5 => simp only [List.getElem?_toArray, List.getElem?_cons_succ, List.getElem?_cons_zero]; rfl
          case ff5 => kernel_rfl
          case qq5 => exact fun _ _ _ h => h
          case ww5 => rfl
          case yy5 => intro W hW; go_simp <;> with_reducible rfl
          try simp only [Act.put, List.setIfInBounds_toArray, List.set_cons_zero, List.set_cons_succ]
          refine wpAnyH_take (i := 5) (oi := ?oo6) (v := ?vv6) ?ii6 (by kernel_rfl) ?ff6 (by kernel_rfl) ?qq6 (Or.inl ⟨?ww6, ?yy6⟩) hS0 ?rr6
          case ii6 => simp only [List.getElem?_toArray, List.getElem?_cons_succ, List.getElem?_cons_zero]; rfl
          case ff6 => kernel_rfl
          case qq6 => exact fun _ _ _ h => h
          case ww6 => rfl
          case yy6 => intro W hW; go_simp <;> with_reducible rfl
          try simp only [Act.put, List.setIfInBounds_toArray, List.set_cons_zero, List.set_cons_succ]
          refine wpAnyH_take (i := 6) (oi := ?oo7) (v := ?vv7) ?ii7 (by kernel_rfl) ?ff7 (by kernel_rfl) ?qq7 (Or.inl ⟨?ww7, ?yy7⟩) hS0 ?rr7
          case ii7 => simp only [List.getElem?_toArray, List.getElem?_cons_succ, List.getElem?_cons_zero]; rfl
          case ff7 => kernel_rfl
          case qq7 => exact fun _ _ _ h => h
          case ww7 => rfl
          case yy7 => intro W hW; go_simp <;> with_reducible rfl
          try simp only [Act.put, List.setIfInBounds_toArray, List.set_cons_zero, List.set_cons_succ]
          refine wpAnyH_take (i := 7) (oi := ?oo8) (v := ?vv8) ?ii8 (by kernel_rfl) ?ff8 (by kernel_rfl) ?qq8 (Or.inl ⟨?ww8, ?yy8⟩) hS0 ?rr8
          case ii8 => simp only [List.getElem?_toArray, List.getElem?_cons_succ, List.getElem?_cons_zero]; rfl
          case ff8 => kernel_rfl
          case qq8 => exact fun _ _ _ h => h
          case ww8 => rfl
          case yy8 => intro W hW; go_simp <;> with_reducible rfl
          try simp only [Act.put, List.setIfInBounds_toArray, List.set_cons_zero, List.set_cons_succ]
          refine wpAnyH_take (i := 8) (oi := ?oo9) (v := ?vv9) ?ii9 (by kernel_rfl) ?ff9 (by kernel_rfl) ?qq9 (Or.inl ⟨?ww9, ?yy9⟩) hS0 ?rr9
          case ii9 => simp only [List.getElem?_toArray, List.getElem?_cons_succ, List.getElem?_cons_zero]; rfl
          case ff9 => kernel_rfl
          case qq9 => exact fun _ _ _ h => h
          case ww9 => rfl
          case yy9 => intro W hW; go_simp <;> with_reducible rfl
          try simp only [Act.put, List.setIfInBounds_toArray, List.set_cons_zero, List.set_cons_succ]
          refine wpAnyH_take (i := 9) (oi := ?oo10) (v := ?vv10) ?ii10 (by kernel_rfl) ?ff10 (by kernel_rfl) ?qq10 (Or.inl ⟨?ww10, ?yy10⟩) hS0 ?rr10
          case ii10 => simp only [List.getElem?_toArray, List.getElem?_cons_succ, List.getElem?_cons_zero]; rfl
          case ff10 => kernel_rfl
          case qq10 => exact fun _ _ _ h => h
          case ww10 => rfl
          case yy10 => intro W hW; go_simp <;> with_reducible rfl
          try simp only [Act.put, List.setIfInBounds_toArray, List.set_cons_zero, List.set_cons_succ]
          refine wpAnyH_take (i := 10) (oi := ?oo11) (v := ?vv11) ?ii11 (by kernel_rfl) ?ff11 (by kernel_rfl) ?qq11 (Or.inl ⟨?ww11, ?yy11⟩) hS0 ?rr11
          case ii11 => simp only [List.getElem?_toArray, List.getElem?_cons_succ, List.getElem?_cons_zero]; rfl
          case ff11 => kernel_rfl
          case qq11 => exact fun _ _ _ h => h
          case ww11 => rfl
          case yy11 => intro W hW; go_simp <;> with_reducible rfl
          try simp only [Act.put, List.setIfInBounds_toArray, List.set_cons_zero, List.set_cons_succ]
          refine wpAnyH_take (i := 11) (oi := ?oo12) (v := ?vv12) ?ii12 (by kernel_rfl) ?ff12 (by kernel_rfl) ?qq12 (Or.inl ⟨?ww12, ?yy12⟩) hS0 ?rr12
          case ii12 => simp only [List.getElem?_toArray, List.getElem?_cons_succ, List.getElem?_cons_zero]; rfl
          case ff12 => kernel_rfl
          case qq12 => exact fun _ _ _ h => h
          case ww12 => rfl
          case yy12 => intro W hW; go_simp <;> with_reducible rfl
          try simp only [Act.put, List.setIfInBounds_toArray, List.set_cons_zero, List.set_cons_succ]
          refine wpAnyH_take (i := 12) (oi := ?oo13) (v := ?vv13) ?ii13 (by kernel_rfl) ?ff13 (by kernel_rfl) ?qq13 (Or.inl ⟨?ww13, ?yy13⟩) hS0 ?rr13
          case ii13 => simp only [List.getElem?_toArray, List.getElem?_cons_succ, List.getElem?_cons_zero]; rfl
          case ff13 => kernel_rfl
          case qq13 => exact fun _ _ _ h => h
          case ww13 => rfl
          case yy13 => intro W hW; go_simp <;> with_reducible rfl
          try simp only [Act.put, List.setIfInBounds_toArray, List.set_cons_zero, List.set_cons_succ]
          refine wpAnyH_ready (rs := [13]) (by kernel_rfl) (by simp) ?_
          refine AllReadyH.cons (o := ?oo14) ?ii14 (fun K hK => ?_) AllReadyH.nil
          case ii14 => simp only [List.getElem?_toArray, List.getElem?_cons_succ, List.getElem?_cons_zero]; rfl
          go_simp
          have hS1 : (wr.alloc (.cells #[.int .i64 (m0 : Nat), .int .i64 (m1 : Nat)] 3)).drew.cell? ⟨w.heap.size, 10, none⟩ = some (.slice (some ⟨b, off, none⟩) rn rcap) ∧ (wr.alloc (.cells #[.int .i64 (m0 : Nat), .int .i64 (m1 : Nat)] 3)).drew.cell? ⟨b, off + k * 2, none⟩ = some (.int .i64 (m0 : Nat)) ∧ (wr.alloc (.cells #[.int .i64 (m0 : Nat), .int .i64 (m1 : Nat)] 3)).drew.cell? ⟨b, off + k * 2 + 1, none⟩ = some (.int .i64 (m1 : Nat)) := ⟨(World.cell?_of_block (w := wr) (Below.heap_alloc _ _ _ hbx)).trans hS0.1, (World.cell?_of_block (w := wr) (Below.heap_alloc _ _ _ hbl)).trans hS0.2.1, (World.cell?_of_block (w := wr) (Below.heap_alloc _ _ _ hbl)).trans hS0.2.2⟩
          refine hK.out _ _ hS1 (fun _ => ?_)
          clear hK K
          refine wpAnyH_ready (rs := [14]) (by kernel_rfl) (by simp) ?_
          refine AllReadyH.cons (o := ?oo15) ?ii15 (fun K hK => ?_) AllReadyH.nil
          case ii15 => simp only [List.getElem?_toArray, List.getElem?_cons_succ, List.getElem?_cons_zero]; rfl
          go_simp
          rw [drew_alloc wr]
          refine Calls.mono (HIA.out.all (Nat.le_refl _) 1 ?hs26 [m0, m1] ?hx26 2 _ _ ?hn26 ?hN26 _ _ ?hcs26 ?hl26) ?hr26
          case hs26 => omega
          case hx26 => simp only [List.mem_cons, List.not_mem_nil, or_false, forall_eq_or_imp, forall_eq]; omega
          case hn26 => rfl
          case hN26 => simp
          case hcs26 => rfl
          case hl26 => have := Hlen.out; omega
          rintro e w6 ⟨v6, rfl, ho6⟩
          have hS6 : w6.cell? ⟨w.heap.size, 10, none⟩ = some (.slice (some ⟨b, off, none⟩) rn rcap) ∧ w6.cell? ⟨b, off + k * 2, none⟩ = some (.int .i64 (m0 : Nat)) ∧ w6.cell? ⟨b, off + k * 2 + 1, none⟩ = some (.int .i64 (m1 : Nat)) := ⟨(HBX.out _ _ _ ho6).c10, HCk.out _ _ _ ho6⟩
          have HI6 := Lib.hid ho6
          clear ho6
          go_wp2_with fail
          refine hK.out _ _ hS6 (fun _ => ?_)
          clear hK K
          refine wpAnyH_take (i := 15) (oi := ?oo16) (v := ?vv16) ?ii16 (by kernel_rfl) ?ff16 (by kernel_rfl) ?qq16 (Or.inl ⟨?ww16, ?yy16⟩) hS6 ?rr16
          case ii16 => simp only [List.getElem?_toArray, List.getElem?_cons_succ, List.getElem?_cons_zero]; rfl
          case ff16 => kernel_rfl
          case qq16 => exact fun _ _ _ h => h
          case ww16 => rfl
          case yy16 => intro W hW; go_simp <;> with_reducible rfl
          try simp only [Act.put, List.setIfInBounds_toArray, List.set_cons_zero, List.set_cons_succ]
          refine wpAnyH_done (by kernel_rfl) ?_ _
          go_wp2_with fail
          go_roundw
          case rel => exact Hend.out _ _ HI6.out
          case measure => simp [intOf]; omega
        have hkn : rn = k := by omega
        have HST : Hid (OutIn w1.heap.size 5 w1 ((hd ++ TableP.partsB parts ++ TableP.portsB ports) ++ TableP.routesB routes) u5 wr) := Lib.hid (by
          have h9 := HI.out
          rwa [List.take_of_length_le (by omega)] at h9)
        clear HI Hfk
        subst hkn
        go_wp2_with fail
        have hst := HST.out
        have he : hd ++ TableP.partsB parts ++ TableP.portsB ports ++ TableP.routesB routes = TableP.enc (CfgC.plain ⟨n0, n1, n2, n3, n4, n5, n6, n7, PA, pn, pcap, parts, QA, qn, qcap, ports, RA, rn, rcap, routes⟩) := by
          rw [Henc.out]
          simp only [List.append_assoc]
        rw [he] at hst
        have hlen : Hid ((TableP.enc (CfgC.plain ⟨n0, n1, n2, n3, n4, n5, n6, n7, PA, pn, pcap, parts, QA, qn, qcap, ports, RA, rn, rcap, routes⟩)).length ≤ 30000) := Lib.hid (by
          rw [TableP.enc_length]; simp only [CfgC.plain]; omega)
        have HFin := Lib.hid hst
        clear he Henc HST Hfp Hfq Hfr Hfr1 b0 b1 b2 b3 b4 b5 b6 b7 b8 b9 b10 hst
        generalize (CfgC.plain ⟨n0, n1, n2, n3, n4, n5, n6, n7, PA, pn, pcap, parts, QA, qn, qcap, ports, RA, rn, rcap, routes⟩) = FR at *
        obtain ⟨P, hP⟩ : ∃ P, TableP.enc FR = P := ⟨_, rfl⟩
        have HFR := Lib.hid hP
        rw [hP] at HFin hlen
        clear hP
        obtain ⟨g6, hr6, hb6⟩ := HFin.out
        obtain ⟨A6, cap6, hu, -, -, hby6⟩ := hr6.bytes
        subst hu
        have HSe := Lib.hid (refseal_any A6 P P.length cap6 rfl wr (by have := hlen.out; omega) hby6)
        have Hb6 := Lib.hid hb6
        clear hr6 hb6 hby6 HFin
        refine HSe.out.mono ?_
        rintro e w8 hs8
        obtain ⟨v8, g8, rfl, hr8, hb8⟩ := hs8.row
        have HF : Hid (RefEncGood FR w (.returned (.tuple #[v8, .string ⟨#[]⟩])) w8) := Lib.hid ⟨v8, g8, rfl, by rw [HFR.out]; exact hr8.base (fun k hk => by have := (hr8.lt k hk).1; have h2 := Hb6.out.size; omega), (HB0.out.trans (Hb1.out.mono (by rw [HS0.out]; omega))).trans (((Hb6.out.trans (hb8.mono Hb6.out.size))).mono (Nat.le_of_lt hz))⟩
        clear hs8 hr8 hb8
        go_wp2_with fail
        go_ret2
        exact HF.out
end Go.Proofs.Ytgceleipaiameaa
