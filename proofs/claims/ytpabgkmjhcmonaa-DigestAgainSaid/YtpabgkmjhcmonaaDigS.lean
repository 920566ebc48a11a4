/- DigestAgain: the walk of the law at bytes in memory. Conditions: where the bytes lie. -/
import Derived.Test.YtpabgkmjhcmonaaDigL
import Derived.Test.YtpabgkmjhcmonaaDigEq
import Derived.Deep.DeepCutAuto
namespace Go.Proofs.Ytpabgkmjhcmonaa
open Go.RowKit
set_option maxRecDepth 100000

/-- While the two digests are summed and their boxes made, in whichever order. -/
structure St18 (w0 W : World) (o6 o7 : Option Nat) : Prop where
  below : Below w0.heap.size w0 W
  six : ∀ b, o6 = some b → ArrIn W b 25 (bytesV (List.replicate 32 0)) ∧ w0.heap.size ≤ b
  seven : ∀ b, o7 = some b → ArrIn W b 25 (bytesV (List.replicate 32 0)) ∧ w0.heap.size ≤ b
  ne : ∀ a b, o6 = some a → o7 = some b → a ≠ b
theorem St18.start (w : World) : St18 w w none none := ⟨Below.refl _ _, fun _ h => (by cases h), fun _ h => (by cases h), fun _ _ h => (by cases h)⟩
theorem St18.call {w0 W W' : World} {o6 o7 : Option Nat} (h : St18 w0 W o6 o7) (hb : Below W.heap.size W W') : St18 w0 W' o6 o7 :=
  ⟨h.below.trans (hb.mono h.below.size), fun b e => ⟨(h.six b e).1.keep hb (h.six b e).1.lt, (h.six b e).2⟩, fun b e => ⟨(h.seven b e).1.keep hb (h.seven b e).1.lt, (h.seven b e).2⟩, h.ne⟩
theorem St18.a6 {w0 W : World} {o7 : Option Nat} (h : St18 w0 W none o7) : St18 w0 (W.alloc (.cells (bytesV (List.replicate 32 0)).toArray 25)) (some W.heap.size) o7 := by
  have h2 := h.call ((Below.refl W.heap.size W).alloc (Nat.le_refl _) (.cells (bytesV (List.replicate 32 0)).toArray 25))
  exact ⟨h2.below, fun b e => by cases e; exact ⟨ArrIn.new W _ _, h.below.size⟩, h2.seven, fun a b e1 e2 => by cases e1; have := (h.seven b e2).1.lt; omega⟩
theorem St18.a7 {w0 W : World} {o6 : Option Nat} (h : St18 w0 W o6 none) : St18 w0 (W.alloc (.cells (bytesV (List.replicate 32 0)).toArray 25)) o6 (some W.heap.size) := by
  have h2 := h.call ((Below.refl W.heap.size W).alloc (Nat.le_refl _) (.cells (bytesV (List.replicate 32 0)).toArray 25))
  exact ⟨h2.below, h2.six, fun b e => by cases e; exact ⟨ArrIn.new W _ _, h.below.size⟩, fun a b e1 e2 => by cases e2; have := (h.six a e1).1.lt; omega⟩
structure Bl18 (w0 W : World) (a b : Nat) : Prop where
  out : Below w0.heap.size w0 W
  le6 : w0.heap.size ≤ a
  le7 : w0.heap.size ≤ b
theorem St18.both {w0 W : World} {a b : Nat} (h : St18 w0 W (some a) (some b)) : ArrIn W a 25 (bytesV (List.replicate 32 0)) ∧ ArrIn W b 25 (bytesV (List.replicate 32 0)) ∧ a ≠ b ∧ Bl18 w0 W a b :=
  ⟨(h.six a rfl).1, (h.seven b rfl).1, h.ne a b rfl rfl, ⟨h.below, (h.six a rfl).2, (h.seven b rfl).2⟩⟩
/-- What is asked of two digests that are stored. -/
structure Oi18 (O1 O2 : List Value) : Prop where
  out1 : (Try.prog.info? 25).map (·.size) = some O1.toArray.size
  old1 : (bytesV (List.replicate 32 0)).toArray.size = O1.toArray.size
  one1 : O1.toArray.all (·.oneCell') = true
  out2 : (Try.prog.info? 25).map (·.size) = some O2.toArray.size
  old2 : (bytesV (List.replicate 32 0)).toArray.size = O2.toArray.size
  one2 : O2.toArray.all (·.oneCell') = true
theorem Oi18.of {l0 l1 : List UInt8} (h0 : l0.length = 32) (h1 : l1.length = 32) : Oi18 (bytesV l0) (bytesV l1) := by
  have e0 : (bytesV l0).toArray.size = 32 := by rw [List.size_toArray, bytesV_length, h0]
  have e1 : (bytesV l1).toArray.size = 32 := by rw [List.size_toArray, bytesV_length, h1]
  have ez : (bytesV (List.replicate 32 0)).toArray.size = 32 := rfl
  have ei : (Try.prog.info? 25).map (·.size) = some 32 := by kernel_rfl
  exact ⟨by rw [e0, ei], by rw [e0, ez], all_oneCell_toArray (bytesV_one _), by rw [e1, ei], by rw [e1, ez], all_oneCell_toArray (bytesV_one _)⟩
theorem Row.cap' {w : World} {B : Nat} {e : TypeId} {g : Option Nat} {A : Option Addr} {n c : Nat} {l : List UInt8} (h : Row w B e g (.slice A n c) l) : c ≤ 9223372036854775807 := by
  rcases h.2.2 with ⟨h1, -⟩ | ⟨g', cap, cur, h1, -, -, -, h5, -⟩
  · cases h1; omega
  · cases h1; unfold maxLen at h5; omega
section
variable {P : Program}
/-- A store of a whole array as one step of a region that draws. -/
theorem step_store_row {ops : Array Oper} {o : Oper} {a : Act} {w : World} {K : Act → World → Prop} {Q : Exit → Act → World → Prop} {E : Prop} (hgd : o.guard = none) (ty : TypeId) (x y : Operand) (ho : o.op = .store ty x y)
    (g : Nat) (cells : Array Value) (hx : a.eval x = .pointer (some ⟨g, 0, none⟩)) (hy : a.eval y = .agg cells)
    (t : TypeId) (old : Array Value) (hg : w.heap[g]? = some (.cells old t (0, 0))) (hi : (P.info? ty).map (·.size) = some cells.size)
    (hold : old.size = cells.size) (h1 : cells.all (·.oneCell') = true)
    (h : K (a.put o.dst undef) (w.setRow g cells)) : if Region.wanted o (yielded ops a.tmps) = true then Oper.wp P o a w K Q else E := by
  have hw : Region.wanted o (yielded ops a.tmps) = true := by simp [Region.wanted, hgd]
  rw [if_pos hw]
  exact wp_store_row ty x y ho g cells hx hy t old hg hi hold h1 h
theorem load_sum {ev : Operand → Value} {o : Oper} {x : Operand} {W : World} {b : Nat} {O : List Value} (ho : o.op = .load 25 x) (he : ev x = .pointer (some ⟨b, 0, none⟩)) (h : ArrIn W b 25 O) (hl : O.length = 32) : (execOp ev o).run Try.prog W = .ok (.value (.agg O.toArray)) W := by
  have h1 := load_arr (ty := 25) h Try.underlying25 (by kernel_rfl) hl
  unfold execOp
  simp only [ho, he, Sem.run_bind, h1, Result.andThen_ok]
  rfl
/-- append of bytes as one step of a region that draws, its guard met. -/
theorem step_append_w {w0 : World} {ops : Array Oper} {o : Oper} {a : Act} {K : Act → World → Prop} {Q : Exit → Act → World → Prop} {E : Prop} (hw : Region.wanted o (yielded ops a.tmps) = true) (s x : Operand) (t : TypeId)
    (ho : o.op = .call { callee := .builtin .append, args := #[s, x], argTypes := #[t, t] }) (B : Nat) (e : TypeId) (z : Value)
    (ht : P.underlying t = some (.slice e)) (hinfo : (P.info? e).map (fun i => (i.zero, i.size, i.bytes)) = some (some z, 1, 1)) (hzs : z.cells.size = 1)
    (v : Value) (g : Option Nat) (xs : List UInt8) (hs : a.eval s = v) (hown : Row w0 B e g v xs) (C : Nat) (A : Option Addr) (m c : Nat) (l : List UInt8) (hx : a.eval x = .slice A m c) (hm : l.length = m) (hr : Bytes w0 C A l)
    (hn : xs.length + m ≤ 140737488355328) (hB : B ≤ w0.heap.size)
    (h : ∀ v' w' g', Row w' B e g' v' (xs ++ l) → Moved w0 g g' → Apart (fun k => g = some k) w0 w' → K (a.put o.dst v') w') :
    if Region.wanted o (yielded ops a.tmps) = true then Oper.wp P o a w0 K Q else E := by
  rw [if_pos hw]
  exact wp_append_r s x t ho B e z ht hinfo hzs v g xs hs hown C A m c l hx hm hr hn hB h
end
/-- What the last line reads. -/
structure S7 (w0 : World) (b6 b7 : Nat) (O1 O2 : List Value) (W : World) : Prop where
  six : ArrIn W b6 25 O1
  seven : ArrIn W b7 25 O2
  below : Below w0.heap.size w0 W
theorem S7.step {w0 W W' : World} {b6 b7 : Nat} {O1 O2 : List Value} (h : S7 w0 b6 b7 O1 O2 W) (hb : Below W.heap.size W W') : S7 w0 b6 b7 O1 O2 W' := ⟨h.six.keep hb h.six.lt, h.seven.keep hb h.seven.lt, h.below.trans (hb.mono h.below.size)⟩
/-- Bytes copied into a row of their own. -/
theorem lit_row (W : World) : Row (W.alloc (.cells #[] 5)) W.heap.size 5 (some W.heap.size) (.slice (some ⟨W.heap.size, 0, none⟩) 0 0) [] := Row.lit W W.heap.size 5 (Nat.le_refl _)

set_option maxHeartbeats 8000000 in
theorem dagain_law (A : Option Addr) (l : List UInt8) (n cap : Nat) (hl : l.length = n) (_hcap : n ≤ cap) (B : Option Addr) (k : List UInt8) (m cap2 : Nat) (hk : k.length = m) (_hcap2 : m ≤ cap2) (w : World) (h : Bytes w w.heap.size A l) (h2 : Bytes w w.heap.size B k) :
    Calls Try.prog 6 #[.slice A n cap, .slice B m cap2] w (DTrue w) := by
  have HAw := Lib.hid (fun W => awake18_any W)
  have HH := Lib.hid h
  have HH2 := Lib.hid h2
  have Hl := Lib.hid hl
  have Hk := Lib.hid hk
  clear h h2 hl hk _hcap _hcap2
  by_cases hn : n ≤ 1000
  case neg =>
    have q0 : decide ((1000 : Int) < (n : Int)) = true := decide_eq_true (by omega)
    have q1 : decide (1000 < n) = true := decide_eq_true (by omega)
    clear hn
    go_enter Try.func6, Try.ntmps6
    go_wp2_with fail
    refine (HAw.out _).mono ?_
    rintro e w2 ⟨rfl, hb2⟩
    have HB2 := Lib.hid hb2
    clear hb2
    go_wp2_with fail
    go_ret
    exact ⟨rfl, HB2.out⟩
  have q0 : decide ((1000 : Int) < (n : Int)) = false := decide_eq_false (by omega)
  have q1 : decide (1000 < n) = false := decide_eq_false (by omega)
  by_cases hm : m ≤ 1000
  case neg =>
    have q2 : decide ((1000 : Int) < (m : Int)) = true := decide_eq_true (by omega)
    have q3 : decide (1000 < m) = true := decide_eq_true (by omega)
    clear hn hm
    go_enter Try.func6, Try.ntmps6
    go_wp2_with fail
    refine (HAw.out _).mono ?_
    rintro e w2 ⟨rfl, hb2⟩
    have HB2 := Lib.hid hb2
    clear hb2
    go_wp2_with fail
    go_ret
    exact ⟨rfl, HB2.out⟩
  have q2 : decide ((1000 : Int) < (m : Int)) = false := decide_eq_false (by omega)
  have q3 : decide (1000 < m) = false := decide_eq_false (by omega)
  have Hn := Lib.hid hn
  have Hm := Lib.hid hm
  clear hn hm
  go_enter Try.func6, Try.ntmps6
  go_wp2_with fail
  refine (HAw.out _).mono ?_
  rintro e w2 ⟨rfl, hb2⟩
  have HB2 := Lib.hid hb2
  clear hb2 HAw
  have HO : Hid (OutIn w2.heap.size 5 w2 [] (.slice (some ⟨w2.heap.size, 0, none⟩) 0 0) (w2.alloc (.cells #[] 5))) := Lib.hid (OutIn.first w2 #[] 5 [] 0 rfl rfl (by unfold maxLen; omega))
  have HX1 : Hid (∀ W, Below w2.heap.size w2 W → Bytes W W.heap.size A l) := Lib.hid fun W hW => (HH.out.below (HB2.out.trans (hW.mono HB2.out.size)) (Nat.le_refl _)).more (Nat.le_trans HB2.out.size hW.size)
  have HX2 : Hid (∀ W, Below w2.heap.size w2 W → Bytes W W.heap.size B k) := Lib.hid fun W hW => (HH2.out.below (HB2.out.trans (hW.mono HB2.out.size)) (Nat.le_refl _)).more (Nat.le_trans HB2.out.size hW.size)
  go_upto_region 6 with (first | (at_builtin; refine wpList_append_o rfl (.tmp 18) (.tmp 19) _ rfl w2.heap.size 5 (.int .u8 0) w2 (Nat.le_refl _) Try.underlying22 infoU8d rfl _ [] rfl HO.out _ A n cap l rfl Hl.out (HX1.out _ HO.out.of) (by have := Hn.out; simp only [List.length_nil]; omega) ?_; intro v3 w3 ho3) | (at_builtin; refine wpList_append_o rfl (.tmp 20) (.tmp 21) _ rfl w2.heap.size 5 (.int .u8 0) w2 (Nat.le_refl _) Try.underlying22 infoU8d rfl v3 _ rfl ho3 _ B m cap2 k rfl Hk.out (HX2.out _ ho3.of) (by have := Hn.out; have := Hm.out; have := Hl.out; simp only [List.nil_append]; omega) ?_; intro v4 w4 ho4; clear ho3) | fail)
  obtain ⟨g4, hr4, hbl4⟩ := ho4
  obtain ⟨A4, c4, rfl, hc4, -, hby4⟩ := hr4.bytes
  have hcm := hr4.cap'
  have hlen : (([] ++ l) ++ k).length = n + m := by simp [Hl.out, Hk.out]
  rw [hlen] at hc4 ⊢
  obtain ⟨A', hsl, hA'⟩ := slice_from A4 (n + m) c4 n (by omega) hc4
  have hs1 : ∀ W, (Instr.slice 22 (.slice A4 (n + m) c4) none (some (.int .i64 (n : Nat))) none).run Try.prog W = .ok (.slice A4 n c4) W := fun W => run_slice_front W 22 5 1 Try.underlying22 (fun w => by kernel_rfl) A4 (n + m) c4 n n rfl (by omega)
  have hb1 : Bytes w4 w4.heap.size A4 l := by
    have h := hby4.take n
    rw [List.nil_append, show (l ++ k).take n = l by rw [← Hl.out, List.take_left]] at h
    exact h
  have hb2 : Bytes w4 w4.heap.size A' k := fun hp => by
    obtain ⟨b, o, e, hlt, hc⟩ := hby4 (by rw [hlen]; have := Hk.out; omega)
    refine ⟨b, o + n, hA' b o e (by have := Hk.out; omega), hlt, fun i c hi => ?_⟩
    rw [Nat.add_assoc]
    exact hc (n + i) c (by rw [List.nil_append, List.getElem?_append_right (by have := Hl.out; omega), Hl.out, Nat.add_sub_cancel_left]; exact hi)
  have hsub : n + m - n = m := by omega
  rw [hsub] at hsl
  have HC1 : Hid (∀ W, Below w4.heap.size w4 W → Calls Try.prog 8 #[.slice A4 n c4] W fun e w' => e = .returned (.agg (bytesV (DigP.ofT l)).toArray) ∧ Below W.heap.size W w') := Lib.hid fun W hW => of_any l A4 n c4 Hl.out (by omega) hcm (by have := Hn.out; omega) W ((hb1.below hW (Nat.le_refl _)).more hW.size)
  have HC2 : Hid (∀ W, Below w4.heap.size w4 W → Calls Try.prog 8 #[.slice A' m (c4 - n)] W fun e w' => e = .returned (.agg (bytesV (DigP.ofT k)).toArray) ∧ Below W.heap.size W w') := Lib.hid fun W hW => of_any k A' m (c4 - n) Hk.out (by omega) (by omega) (by have := Hm.out; omega) W ((hb2.below hW (Nat.le_refl _)).more hW.size)
  have HOi := Oi18.of (DigP.of_len l) (DigP.of_len k)
  have HEq1 := Lib.hid (fun W => equal_32 (DigP.ofT l) (DigP.of_len l) 25 Try.underlying25 W)
  have HEq2 := Lib.hid (fun W => equal_32 (DigP.ofT k) (DigP.of_len k) 25 Try.underlying25 W)
  have HOf1 : Hid (∀ W (A : Option Addr) (c : Nat), n ≤ c → c ≤ 9223372036854775807 → Bytes W W.heap.size A l → Calls Try.prog 8 #[.slice A n c] W fun e w' => e = .returned (.agg (bytesV (DigP.ofT l)).toArray) ∧ Below W.heap.size W w') := Lib.hid fun W A c h1 h2 h3 => of_any l A n c Hl.out h1 h2 (by have := Hn.out; omega) W h3
  have HOf2 : Hid (∀ W (A : Option Addr) (c : Nat), m ≤ c → c ≤ 9223372036854775807 → Bytes W W.heap.size A k → Calls Try.prog 8 #[.slice A m c] W fun e w' => e = .returned (.agg (bytesV (DigP.ofT k)).toArray) ∧ Below W.heap.size W w') := Lib.hid fun W A c h1 h2 h3 => of_any k A m c Hk.out h1 h2 (by have := Hm.out; omega) W h3
  have HSame : Hid (l = k → bytesV (DigP.ofT l) = bytesV (DigP.ofT k)) := Lib.hid fun e => by rw [e]
  have HB4 := Lib.hid (HB2.out.trans (hbl4.mono HB2.out.size))
  have HL1 := Lib.hid (show (bytesV (DigP.ofT l)).length = 32 by rw [bytesV_length, DigP.of_len])
  have HL2 := Lib.hid (show (bytesV (DigP.ofT k)).length = 32 by rw [bytesV_length, DigP.of_len])
  generalize bytesV (DigP.ofT l) = O1 at *
  generalize bytesV (DigP.ofT k) = O2 at *
  have HX3 : Hid (∀ W, Below w4.heap.size w4 W → Bytes W W.heap.size A l ∧ Bytes W W.heap.size B k) := Lib.hid fun W hW => ⟨HX1.out W (hbl4.trans (hW.mono hbl4.size)), HX2.out W (hbl4.trans (hW.mono hbl4.size))⟩
  clear hr4 hbl4 hby4 hcm hlen hA' hb1 hb2 hc4 HX1 HX2 HO
  generalize w4 = w0 at *
  go_cut [6, 7] (fun p q wx => ∃ b6 b7, p = .pointer (some ⟨b6, 0, none⟩) ∧ q = .pointer (some ⟨b7, 0, none⟩) ∧ ArrIn wx b6 25 O1 ∧ ArrIn wx b7 25 O2 ∧ Below w0.heap.size w0 wx)
  case first =>
    have hst0 : St18 w0 w0.drew none none := ⟨(Below.refl _ _).drew, fun _ h => (by cases h), fun _ h => (by cases h), fun _ _ h => (by cases h)⟩
    refine wp_region_held_drew (S := fun _ => True) (by kernel_rfl) trivial (fun _ => ?_)
    refine tkH 0 (by simp only [tkA]; rfl) (by kernel_rfl) (by exact fun _ _ _ h => h) (by rfl) (by intro W hW; go_simp <;> with_reducible rfl) trivial ?_
    try simp only [Act.put, tkT, tk0, tkS]
    refine tkH 1 (by simp only [tkA, tkG]; rfl) (by kernel_rfl) (by exact fun _ _ _ h => h) (by rfl) (by intro W hW; go_simp <;> with_reducible rfl) trivial ?_
    try simp only [Act.put, tkT, tk0, tkS]
    refine tkH 2 (by simp only [tkA, tkG]; rfl) (by kernel_rfl) (by exact fun _ _ _ h => h) (by rfl) (by intro W hW; go_simp <;> with_reducible rfl) trivial ?_
    try simp only [Act.put, tkT, tk0, tkS]
    refine tkH 3 (by simp only [tkA, tkG]; rfl) (by kernel_rfl) (by exact fun _ _ _ h => h) (by rfl) (by intro W hW; go_simp <;> with_reducible rfl) trivial ?_
    try simp only [Act.put, tkT, tk0, tkS]
    refine tkH 5 (by simp only [tkA, tkG]; rfl) (by kernel_rfl) (by exact fun _ _ _ h => h) (by rfl) (by intro W hW; go_simp <;> with_reducible rfl) trivial ?_
    try simp only [Act.put, tkT, tk0, tkS]
    refine tkH 6 (by simp only [tkA, tkG]; rfl) (by kernel_rfl) (by exact fun _ _ _ h => h) (by rfl) (by intro W hW; go_simp <;> with_reducible rfl) trivial ?_
    try simp only [Act.put, tkT, tk0, tkS]
    refine tkH 7 (by simp only [tkA, tkG]; rfl) (by kernel_rfl) (by exact fun _ _ _ h => h) (by rfl) (by intro W hW; go_simp <;> with_reducible rfl) trivial ?_
    try simp only [Act.put, tkT, tk0, tkS]
    refine tkH 8 (by simp only [tkA, tkG]; rfl) (by kernel_rfl) (by exact fun _ _ _ h => h) (by rfl) (by intro W hW; go_simp <;> with_reducible rfl) trivial ?_
    try simp only [Act.put, tkT, tk0, tkS]
    generalize w0.drew = wd0 at *
    refine wpAnyH_ready (rs := [4, 10, 11]) (by kernel_rfl) (by simp) (AllReadyH.cons (by simp only [tkA, tkG]; rfl) (fun K hK => ?_) (AllReadyH.cons (by simp only [tkA, tkG]; rfl) (fun K hK => ?_) (AllReadyH.cons (by simp only [tkA, tkG]; rfl) (fun K hK => ?_) AllReadyH.nil)))
    · go_simp
      refine (HC1.out wd0 hst0.below).mono ?_
      rintro e wn1 ⟨rfl, hcb⟩
      have hn1 := hst0.call hcb
      go_wp2_with fail
      refine hK.out _ _ trivial (fun _ => ?_)
      clear hK K hcb
      refine wpAnyH_ready (rs := [9, 10, 11]) (by kernel_rfl) (by simp) (AllReadyH.cons (by simp only [tkA, tkG]; rfl) (fun K hK => ?_) (AllReadyH.cons (by simp only [tkA, tkG]; rfl) (fun K hK => ?_) (AllReadyH.cons (by simp only [tkA, tkG]; rfl) (fun K hK => ?_) AllReadyH.nil)))
      · go_simp
        refine (HC2.out wn1 hn1.below).mono ?_
        rintro e wn2 ⟨rfl, hcb⟩
        have hn2 := hn1.call hcb
        go_wp2_with fail
        refine hK.out _ _ trivial (fun _ => ?_)
        clear hK K hcb
        refine wpAnyH_ready (rs := [10, 11]) (by kernel_rfl) (by simp) (AllReadyH.cons (by simp only [tkA, tkG]; rfl) (fun K hK => ?_) (AllReadyH.cons (by simp only [tkA, tkG]; rfl) (fun K hK => ?_) AllReadyH.nil))
        · go_simp
          have hn3 := hn2.a6
          refine hK.out _ _ trivial (fun _ => ?_)
          clear hK K
          change St18 w0 (wn2.alloc (.cells #[.int .u8 0, .int .u8 0, .int .u8 0, .int .u8 0, .int .u8 0, .int .u8 0, .int .u8 0, .int .u8 0, .int .u8 0, .int .u8 0, .int .u8 0, .int .u8 0, .int .u8 0, .int .u8 0, .int .u8 0, .int .u8 0, .int .u8 0, .int .u8 0, .int .u8 0, .int .u8 0, .int .u8 0, .int .u8 0, .int .u8 0, .int .u8 0, .int .u8 0, .int .u8 0, .int .u8 0, .int .u8 0, .int .u8 0, .int .u8 0, .int .u8 0, .int .u8 0] 25)) _ _ at hn3
          generalize wn2.alloc (.cells #[.int .u8 0, .int .u8 0, .int .u8 0, .int .u8 0, .int .u8 0, .int .u8 0, .int .u8 0, .int .u8 0, .int .u8 0, .int .u8 0, .int .u8 0, .int .u8 0, .int .u8 0, .int .u8 0, .int .u8 0, .int .u8 0, .int .u8 0, .int .u8 0, .int .u8 0, .int .u8 0, .int .u8 0, .int .u8 0, .int .u8 0, .int .u8 0, .int .u8 0, .int .u8 0, .int .u8 0, .int .u8 0, .int .u8 0, .int .u8 0, .int .u8 0, .int .u8 0] 25) = wn3 at *
          generalize wn2.heap.size = bn3 at *
          refine wpAnyH_ready (rs := [11]) (by kernel_rfl) (by simp) (AllReadyH.cons (by simp only [tkA, tkG]; rfl) (fun K hK => ?_) AllReadyH.nil)
          · go_simp
            have hn4 := hn3.a7
            refine hK.out _ _ trivial (fun _ => ?_)
            clear hK K
            change St18 w0 (wn3.alloc (.cells #[.int .u8 0, .int .u8 0, .int .u8 0, .int .u8 0, .int .u8 0, .int .u8 0, .int .u8 0, .int .u8 0, .int .u8 0, .int .u8 0, .int .u8 0, .int .u8 0, .int .u8 0, .int .u8 0, .int .u8 0, .int .u8 0, .int .u8 0, .int .u8 0, .int .u8 0, .int .u8 0, .int .u8 0, .int .u8 0, .int .u8 0, .int .u8 0, .int .u8 0, .int .u8 0, .int .u8 0, .int .u8 0, .int .u8 0, .int .u8 0, .int .u8 0, .int .u8 0] 25)) _ _ at hn4
            generalize wn3.alloc (.cells #[.int .u8 0, .int .u8 0, .int .u8 0, .int .u8 0, .int .u8 0, .int .u8 0, .int .u8 0, .int .u8 0, .int .u8 0, .int .u8 0, .int .u8 0, .int .u8 0, .int .u8 0, .int .u8 0, .int .u8 0, .int .u8 0, .int .u8 0, .int .u8 0, .int .u8 0, .int .u8 0, .int .u8 0, .int .u8 0, .int .u8 0, .int .u8 0, .int .u8 0, .int .u8 0, .int .u8 0, .int .u8 0, .int .u8 0, .int .u8 0, .int .u8 0, .int .u8 0] 25) = wn4 at *
            generalize wn3.heap.size = bn4 at *
            obtain ⟨h6, h7, hne, hbl⟩ := hn4.both
            refine clH 12 (by kernel_rfl) (by simp only [tkA, tkG]; rfl) (fun K hK => ?_)
            refine step_store_row rfl _ (.tmp 6) (.tmp 27) rfl bn3 O1.toArray rfl rfl _ _ h6 HOi.out1 HOi.old1 HOi.one1 ?_
            have h6b := h6.setRow O1
            have h7b := h7.apart (setRow_apart (b := bn3) (cs := O1.toArray)) (fun e => hne e.symm)
            have hbl2 := hbl.out.trans (setRow_below (b := bn3) (cs := O1.toArray) hbl.le6)
            refine hK.out _ _ trivial (fun _ => ?_)
            clear hK K
            generalize wn4.setRow bn3 O1.toArray = wn4a at *
            refine clH 13 (by kernel_rfl) (by simp only [tkA, tkG]; rfl) (fun K hK => ?_)
            refine step_store_row rfl _ (.tmp 7) (.tmp 32) rfl bn4 O2.toArray rfl rfl _ _ h7b HOi.out2 HOi.old2 HOi.one2 ?_
            have h7c := h7b.setRow O2
            have h6c := h6b.apart (setRow_apart (b := bn4) (cs := O2.toArray)) hne
            have hbl3 := hbl2.trans (setRow_below (b := bn4) (cs := O2.toArray) hbl.le7)
            refine hK.out _ _ trivial (fun _ => ?_)
            clear hK K
            generalize wn4a.setRow bn4 O2.toArray = wn4b at *
            refine wpAnyH_done (by kernel_rfl) ?_ _
            go_wp2_with fail
            go_meet
            exact ⟨bn3, bn4, rfl, rfl, h6c, h7c, hbl3⟩
        · go_simp
          have hn5 := hn2.a7
          refine hK.out _ _ trivial (fun _ => ?_)
          clear hK K
          change St18 w0 (wn2.alloc (.cells #[.int .u8 0, .int .u8 0, .int .u8 0, .int .u8 0, .int .u8 0, .int .u8 0, .int .u8 0, .int .u8 0, .int .u8 0, .int .u8 0, .int .u8 0, .int .u8 0, .int .u8 0, .int .u8 0, .int .u8 0, .int .u8 0, .int .u8 0, .int .u8 0, .int .u8 0, .int .u8 0, .int .u8 0, .int .u8 0, .int .u8 0, .int .u8 0, .int .u8 0, .int .u8 0, .int .u8 0, .int .u8 0, .int .u8 0, .int .u8 0, .int .u8 0, .int .u8 0] 25)) _ _ at hn5
          generalize wn2.alloc (.cells #[.int .u8 0, .int .u8 0, .int .u8 0, .int .u8 0, .int .u8 0, .int .u8 0, .int .u8 0, .int .u8 0, .int .u8 0, .int .u8 0, .int .u8 0, .int .u8 0, .int .u8 0, .int .u8 0, .int .u8 0, .int .u8 0, .int .u8 0, .int .u8 0, .int .u8 0, .int .u8 0, .int .u8 0, .int .u8 0, .int .u8 0, .int .u8 0, .int .u8 0, .int .u8 0, .int .u8 0, .int .u8 0, .int .u8 0, .int .u8 0, .int .u8 0, .int .u8 0] 25) = wn5 at *
          generalize wn2.heap.size = bn5 at *
          refine wpAnyH_ready (rs := [10]) (by kernel_rfl) (by simp) (AllReadyH.cons (by simp only [tkA, tkG]; rfl) (fun K hK => ?_) AllReadyH.nil)
          · go_simp
            have hn6 := hn5.a6
            refine hK.out _ _ trivial (fun _ => ?_)
            clear hK K
            change St18 w0 (wn5.alloc (.cells #[.int .u8 0, .int .u8 0, .int .u8 0, .int .u8 0, .int .u8 0, .int .u8 0, .int .u8 0, .int .u8 0, .int .u8 0, .int .u8 0, .int .u8 0, .int .u8 0, .int .u8 0, .int .u8 0, .int .u8 0, .int .u8 0, .int .u8 0, .int .u8 0, .int .u8 0, .int .u8 0, .int .u8 0, .int .u8 0, .int .u8 0, .int .u8 0, .int .u8 0, .int .u8 0, .int .u8 0, .int .u8 0, .int .u8 0, .int .u8 0, .int .u8 0, .int .u8 0] 25)) _ _ at hn6
            generalize wn5.alloc (.cells #[.int .u8 0, .int .u8 0, .int .u8 0, .int .u8 0, .int .u8 0, .int .u8 0, .int .u8 0, .int .u8 0, .int .u8 0, .int .u8 0, .int .u8 0, .int .u8 0, .int .u8 0, .int .u8 0, .int .u8 0, .int .u8 0, .int .u8 0, .int .u8 0, .int .u8 0, .int .u8 0, .int .u8 0, .int .u8 0, .int .u8 0, .int .u8 0, .int .u8 0, .int .u8 0, .int .u8 0, .int .u8 0, .int .u8 0, .int .u8 0, .int .u8 0, .int .u8 0] 25) = wn6 at *
            generalize wn5.heap.size = bn6 at *
            obtain ⟨h6, h7, hne, hbl⟩ := hn6.both
            refine clH 12 (by kernel_rfl) (by simp only [tkA, tkG]; rfl) (fun K hK => ?_)
            refine step_store_row rfl _ (.tmp 6) (.tmp 27) rfl bn6 O1.toArray rfl rfl _ _ h6 HOi.out1 HOi.old1 HOi.one1 ?_
            have h6b := h6.setRow O1
            have h7b := h7.apart (setRow_apart (b := bn6) (cs := O1.toArray)) (fun e => hne e.symm)
            have hbl2 := hbl.out.trans (setRow_below (b := bn6) (cs := O1.toArray) hbl.le6)
            refine hK.out _ _ trivial (fun _ => ?_)
            clear hK K
            generalize wn6.setRow bn6 O1.toArray = wn6a at *
            refine clH 13 (by kernel_rfl) (by simp only [tkA, tkG]; rfl) (fun K hK => ?_)
            refine step_store_row rfl _ (.tmp 7) (.tmp 32) rfl bn5 O2.toArray rfl rfl _ _ h7b HOi.out2 HOi.old2 HOi.one2 ?_
            have h7c := h7b.setRow O2
            have h6c := h6b.apart (setRow_apart (b := bn5) (cs := O2.toArray)) hne
            have hbl3 := hbl2.trans (setRow_below (b := bn5) (cs := O2.toArray) hbl.le7)
            refine hK.out _ _ trivial (fun _ => ?_)
            clear hK K
            generalize wn6a.setRow bn5 O2.toArray = wn6b at *
            refine wpAnyH_done (by kernel_rfl) ?_ _
            go_wp2_with fail
            go_meet
            exact ⟨bn6, bn5, rfl, rfl, h6c, h7c, hbl3⟩
      · go_simp
        have hn7 := hn1.a6
        refine hK.out _ _ trivial (fun _ => ?_)
        clear hK K
        change St18 w0 (wn1.alloc (.cells #[.int .u8 0, .int .u8 0, .int .u8 0, .int .u8 0, .int .u8 0, .int .u8 0, .int .u8 0, .int .u8 0, .int .u8 0, .int .u8 0, .int .u8 0, .int .u8 0, .int .u8 0, .int .u8 0, .int .u8 0, .int .u8 0, .int .u8 0, .int .u8 0, .int .u8 0, .int .u8 0, .int .u8 0, .int .u8 0, .int .u8 0, .int .u8 0, .int .u8 0, .int .u8 0, .int .u8 0, .int .u8 0, .int .u8 0, .int .u8 0, .int .u8 0, .int .u8 0] 25)) _ _ at hn7
        generalize wn1.alloc (.cells #[.int .u8 0, .int .u8 0, .int .u8 0, .int .u8 0, .int .u8 0, .int .u8 0, .int .u8 0, .int .u8 0, .int .u8 0, .int .u8 0, .int .u8 0, .int .u8 0, .int .u8 0, .int .u8 0, .int .u8 0, .int .u8 0, .int .u8 0, .int .u8 0, .int .u8 0, .int .u8 0, .int .u8 0, .int .u8 0, .int .u8 0, .int .u8 0, .int .u8 0, .int .u8 0, .int .u8 0, .int .u8 0, .int .u8 0, .int .u8 0, .int .u8 0, .int .u8 0] 25) = wn7 at *
        generalize wn1.heap.size = bn7 at *
        refine wpAnyH_ready (rs := [9, 11]) (by kernel_rfl) (by simp) (AllReadyH.cons (by simp only [tkA, tkG]; rfl) (fun K hK => ?_) (AllReadyH.cons (by simp only [tkA, tkG]; rfl) (fun K hK => ?_) AllReadyH.nil))
        · go_simp
          refine (HC2.out wn7 hn7.below).mono ?_
          rintro e wn8 ⟨rfl, hcb⟩
          have hn8 := hn7.call hcb
          go_wp2_with fail
          refine hK.out _ _ trivial (fun _ => ?_)
          clear hK K hcb
          refine wpAnyH_ready (rs := [11]) (by kernel_rfl) (by simp) (AllReadyH.cons (by simp only [tkA, tkG]; rfl) (fun K hK => ?_) AllReadyH.nil)
          · go_simp
            have hn9 := hn8.a7
            refine hK.out _ _ trivial (fun _ => ?_)
            clear hK K
            change St18 w0 (wn8.alloc (.cells #[.int .u8 0, .int .u8 0, .int .u8 0, .int .u8 0, .int .u8 0, .int .u8 0, .int .u8 0, .int .u8 0, .int .u8 0, .int .u8 0, .int .u8 0, .int .u8 0, .int .u8 0, .int .u8 0, .int .u8 0, .int .u8 0, .int .u8 0, .int .u8 0, .int .u8 0, .int .u8 0, .int .u8 0, .int .u8 0, .int .u8 0, .int .u8 0, .int .u8 0, .int .u8 0, .int .u8 0, .int .u8 0, .int .u8 0, .int .u8 0, .int .u8 0, .int .u8 0] 25)) _ _ at hn9
            generalize wn8.alloc (.cells #[.int .u8 0, .int .u8 0, .int .u8 0, .int .u8 0, .int .u8 0, .int .u8 0, .int .u8 0, .int .u8 0, .int .u8 0, .int .u8 0, .int .u8 0, .int .u8 0, .int .u8 0, .int .u8 0, .int .u8 0, .int .u8 0, .int .u8 0, .int .u8 0, .int .u8 0, .int .u8 0, .int .u8 0, .int .u8 0, .int .u8 0, .int .u8 0, .int .u8 0, .int .u8 0, .int .u8 0, .int .u8 0, .int .u8 0, .int .u8 0, .int .u8 0, .int .u8 0] 25) = wn9 at *
            generalize wn8.heap.size = bn9 at *
            obtain ⟨h6, h7, hne, hbl⟩ := hn9.both
            refine clH 12 (by kernel_rfl) (by simp only [tkA, tkG]; rfl) (fun K hK => ?_)
            refine step_store_row rfl _ (.tmp 6) (.tmp 27) rfl bn7 O1.toArray rfl rfl _ _ h6 HOi.out1 HOi.old1 HOi.one1 ?_
            have h6b := h6.setRow O1
            have h7b := h7.apart (setRow_apart (b := bn7) (cs := O1.toArray)) (fun e => hne e.symm)
            have hbl2 := hbl.out.trans (setRow_below (b := bn7) (cs := O1.toArray) hbl.le6)
            refine hK.out _ _ trivial (fun _ => ?_)
            clear hK K
            generalize wn9.setRow bn7 O1.toArray = wn9a at *
            refine clH 13 (by kernel_rfl) (by simp only [tkA, tkG]; rfl) (fun K hK => ?_)
            refine step_store_row rfl _ (.tmp 7) (.tmp 32) rfl bn9 O2.toArray rfl rfl _ _ h7b HOi.out2 HOi.old2 HOi.one2 ?_
            have h7c := h7b.setRow O2
            have h6c := h6b.apart (setRow_apart (b := bn9) (cs := O2.toArray)) hne
            have hbl3 := hbl2.trans (setRow_below (b := bn9) (cs := O2.toArray) hbl.le7)
            refine hK.out _ _ trivial (fun _ => ?_)
            clear hK K
            generalize wn9a.setRow bn9 O2.toArray = wn9b at *
            refine wpAnyH_done (by kernel_rfl) ?_ _
            go_wp2_with fail
            go_meet
            exact ⟨bn7, bn9, rfl, rfl, h6c, h7c, hbl3⟩
        · go_simp
          have hn10 := hn7.a7
          refine hK.out _ _ trivial (fun _ => ?_)
          clear hK K
          change St18 w0 (wn7.alloc (.cells #[.int .u8 0, .int .u8 0, .int .u8 0, .int .u8 0, .int .u8 0, .int .u8 0, .int .u8 0, .int .u8 0, .int .u8 0, .int .u8 0, .int .u8 0, .int .u8 0, .int .u8 0, .int .u8 0, .int .u8 0, .int .u8 0, .int .u8 0, .int .u8 0, .int .u8 0, .int .u8 0, .int .u8 0, .int .u8 0, .int .u8 0, .int .u8 0, .int .u8 0, .int .u8 0, .int .u8 0, .int .u8 0, .int .u8 0, .int .u8 0, .int .u8 0, .int .u8 0] 25)) _ _ at hn10
          generalize wn7.alloc (.cells #[.int .u8 0, .int .u8 0, .int .u8 0, .int .u8 0, .int .u8 0, .int .u8 0, .int .u8 0, .int .u8 0, .int .u8 0, .int .u8 0, .int .u8 0, .int .u8 0, .int .u8 0, .int .u8 0, .int .u8 0, .int .u8 0, .int .u8 0, .int .u8 0, .int .u8 0, .int .u8 0, .int .u8 0, .int .u8 0, .int .u8 0, .int .u8 0, .int .u8 0, .int .u8 0, .int .u8 0, .int .u8 0, .int .u8 0, .int .u8 0, .int .u8 0, .int .u8 0] 25) = wn10 at *
          generalize wn7.heap.size = bn10 at *
          refine wpAnyH_ready (rs := [9]) (by kernel_rfl) (by simp) (AllReadyH.cons (by simp only [tkA, tkG]; rfl) (fun K hK => ?_) AllReadyH.nil)
          · go_simp
            refine (HC2.out wn10 hn10.below).mono ?_
            rintro e wn11 ⟨rfl, hcb⟩
            have hn11 := hn10.call hcb
            go_wp2_with fail
            refine hK.out _ _ trivial (fun _ => ?_)
            clear hK K hcb
            obtain ⟨h6, h7, hne, hbl⟩ := hn11.both
            refine clH 12 (by kernel_rfl) (by simp only [tkA, tkG]; rfl) (fun K hK => ?_)
            refine step_store_row rfl _ (.tmp 6) (.tmp 27) rfl bn7 O1.toArray rfl rfl _ _ h6 HOi.out1 HOi.old1 HOi.one1 ?_
            have h6b := h6.setRow O1
            have h7b := h7.apart (setRow_apart (b := bn7) (cs := O1.toArray)) (fun e => hne e.symm)
            have hbl2 := hbl.out.trans (setRow_below (b := bn7) (cs := O1.toArray) hbl.le6)
            refine hK.out _ _ trivial (fun _ => ?_)
            clear hK K
            generalize wn11.setRow bn7 O1.toArray = wn11a at *
            refine clH 13 (by kernel_rfl) (by simp only [tkA, tkG]; rfl) (fun K hK => ?_)
            refine step_store_row rfl _ (.tmp 7) (.tmp 32) rfl bn10 O2.toArray rfl rfl _ _ h7b HOi.out2 HOi.old2 HOi.one2 ?_
            have h7c := h7b.setRow O2
            have h6c := h6b.apart (setRow_apart (b := bn10) (cs := O2.toArray)) hne
            have hbl3 := hbl2.trans (setRow_below (b := bn10) (cs := O2.toArray) hbl.le7)
            refine hK.out _ _ trivial (fun _ => ?_)
            clear hK K
            generalize wn11a.setRow bn10 O2.toArray = wn11b at *
            refine wpAnyH_done (by kernel_rfl) ?_ _
            go_wp2_with fail
            go_meet
            exact ⟨bn7, bn10, rfl, rfl, h6c, h7c, hbl3⟩
      · go_simp
        have hn12 := hn1.a7
        refine hK.out _ _ trivial (fun _ => ?_)
        clear hK K
        change St18 w0 (wn1.alloc (.cells #[.int .u8 0, .int .u8 0, .int .u8 0, .int .u8 0, .int .u8 0, .int .u8 0, .int .u8 0, .int .u8 0, .int .u8 0, .int .u8 0, .int .u8 0, .int .u8 0, .int .u8 0, .int .u8 0, .int .u8 0, .int .u8 0, .int .u8 0, .int .u8 0, .int .u8 0, .int .u8 0, .int .u8 0, .int .u8 0, .int .u8 0, .int .u8 0, .int .u8 0, .int .u8 0, .int .u8 0, .int .u8 0, .int .u8 0, .int .u8 0, .int .u8 0, .int .u8 0] 25)) _ _ at hn12
        generalize wn1.alloc (.cells #[.int .u8 0, .int .u8 0, .int .u8 0, .int .u8 0, .int .u8 0, .int .u8 0, .int .u8 0, .int .u8 0, .int .u8 0, .int .u8 0, .int .u8 0, .int .u8 0, .int .u8 0, .int .u8 0, .int .u8 0, .int .u8 0, .int .u8 0, .int .u8 0, .int .u8 0, .int .u8 0, .int .u8 0, .int .u8 0, .int .u8 0, .int .u8 0, .int .u8 0, .int .u8 0, .int .u8 0, .int .u8 0, .int .u8 0, .int .u8 0, .int .u8 0, .int .u8 0] 25) = wn12 at *
        generalize wn1.heap.size = bn12 at *
        refine wpAnyH_ready (rs := [9, 10]) (by kernel_rfl) (by simp) (AllReadyH.cons (by simp only [tkA, tkG]; rfl) (fun K hK => ?_) (AllReadyH.cons (by simp only [tkA, tkG]; rfl) (fun K hK => ?_) AllReadyH.nil))
        · go_simp
          refine (HC2.out wn12 hn12.below).mono ?_
          rintro e wn13 ⟨rfl, hcb⟩
          have hn13 := hn12.call hcb
          go_wp2_with fail
          refine hK.out _ _ trivial (fun _ => ?_)
          clear hK K hcb
          refine wpAnyH_ready (rs := [10]) (by kernel_rfl) (by simp) (AllReadyH.cons (by simp only [tkA, tkG]; rfl) (fun K hK => ?_) AllReadyH.nil)
          · go_simp
            have hn14 := hn13.a6
            refine hK.out _ _ trivial (fun _ => ?_)
            clear hK K
            change St18 w0 (wn13.alloc (.cells #[.int .u8 0, .int .u8 0, .int .u8 0, .int .u8 0, .int .u8 0, .int .u8 0, .int .u8 0, .int .u8 0, .int .u8 0, .int .u8 0, .int .u8 0, .int .u8 0, .int .u8 0, .int .u8 0, .int .u8 0, .int .u8 0, .int .u8 0, .int .u8 0, .int .u8 0, .int .u8 0, .int .u8 0, .int .u8 0, .int .u8 0, .int .u8 0, .int .u8 0, .int .u8 0, .int .u8 0, .int .u8 0, .int .u8 0, .int .u8 0, .int .u8 0, .int .u8 0] 25)) _ _ at hn14
            generalize wn13.alloc (.cells #[.int .u8 0, .int .u8 0, .int .u8 0, .int .u8 0, .int .u8 0, .int .u8 0, .int .u8 0, .int .u8 0, .int .u8 0, .int .u8 0, .int .u8 0, .int .u8 0, .int .u8 0, .int .u8 0, .int .u8 0, .int .u8 0, .int .u8 0, .int .u8 0, .int .u8 0, .int .u8 0, .int .u8 0, .int .u8 0, .int .u8 0, .int .u8 0, .int .u8 0, .int .u8 0, .int .u8 0, .int .u8 0, .int .u8 0, .int .u8 0, .int .u8 0, .int .u8 0] 25) = wn14 at *
            generalize wn13.heap.size = bn14 at *
            obtain ⟨h6, h7, hne, hbl⟩ := hn14.both
            refine clH 12 (by kernel_rfl) (by simp only [tkA, tkG]; rfl) (fun K hK => ?_)
            refine step_store_row rfl _ (.tmp 6) (.tmp 27) rfl bn14 O1.toArray rfl rfl _ _ h6 HOi.out1 HOi.old1 HOi.one1 ?_
            have h6b := h6.setRow O1
            have h7b := h7.apart (setRow_apart (b := bn14) (cs := O1.toArray)) (fun e => hne e.symm)
            have hbl2 := hbl.out.trans (setRow_below (b := bn14) (cs := O1.toArray) hbl.le6)
            refine hK.out _ _ trivial (fun _ => ?_)
            clear hK K
            generalize wn14.setRow bn14 O1.toArray = wn14a at *
            refine clH 13 (by kernel_rfl) (by simp only [tkA, tkG]; rfl) (fun K hK => ?_)
            refine step_store_row rfl _ (.tmp 7) (.tmp 32) rfl bn12 O2.toArray rfl rfl _ _ h7b HOi.out2 HOi.old2 HOi.one2 ?_
            have h7c := h7b.setRow O2
            have h6c := h6b.apart (setRow_apart (b := bn12) (cs := O2.toArray)) hne
            have hbl3 := hbl2.trans (setRow_below (b := bn12) (cs := O2.toArray) hbl.le7)
            refine hK.out _ _ trivial (fun _ => ?_)
            clear hK K
            generalize wn14a.setRow bn12 O2.toArray = wn14b at *
            refine wpAnyH_done (by kernel_rfl) ?_ _
            go_wp2_with fail
            go_meet
            exact ⟨bn14, bn12, rfl, rfl, h6c, h7c, hbl3⟩
        · go_simp
          have hn15 := hn12.a6
          refine hK.out _ _ trivial (fun _ => ?_)
          clear hK K
          change St18 w0 (wn12.alloc (.cells #[.int .u8 0, .int .u8 0, .int .u8 0, .int .u8 0, .int .u8 0, .int .u8 0, .int .u8 0, .int .u8 0, .int .u8 0, .int .u8 0, .int .u8 0, .int .u8 0, .int .u8 0, .int .u8 0, .int .u8 0, .int .u8 0, .int .u8 0, .int .u8 0, .int .u8 0, .int .u8 0, .int .u8 0, .int .u8 0, .int .u8 0, .int .u8 0, .int .u8 0, .int .u8 0, .int .u8 0, .int .u8 0, .int .u8 0, .int .u8 0, .int .u8 0, .int .u8 0] 25)) _ _ at hn15
          generalize wn12.alloc (.cells #[.int .u8 0, .int .u8 0, .int .u8 0, .int .u8 0, .int .u8 0, .int .u8 0, .int .u8 0, .int .u8 0, .int .u8 0, .int .u8 0, .int .u8 0, .int .u8 0, .int .u8 0, .int .u8 0, .int .u8 0, .int .u8 0, .int .u8 0, .int .u8 0, .int .u8 0, .int .u8 0, .int .u8 0, .int .u8 0, .int .u8 0, .int .u8 0, .int .u8 0, .int .u8 0, .int .u8 0, .int .u8 0, .int .u8 0, .int .u8 0, .int .u8 0, .int .u8 0] 25) = wn15 at *
          generalize wn12.heap.size = bn15 at *
          refine wpAnyH_ready (rs := [9]) (by kernel_rfl) (by simp) (AllReadyH.cons (by simp only [tkA, tkG]; rfl) (fun K hK => ?_) AllReadyH.nil)
          · go_simp
            refine (HC2.out wn15 hn15.below).mono ?_
            rintro e wn16 ⟨rfl, hcb⟩
            have hn16 := hn15.call hcb
            go_wp2_with fail
            refine hK.out _ _ trivial (fun _ => ?_)
            clear hK K hcb
            obtain ⟨h6, h7, hne, hbl⟩ := hn16.both
            refine clH 12 (by kernel_rfl) (by simp only [tkA, tkG]; rfl) (fun K hK => ?_)
            refine step_store_row rfl _ (.tmp 6) (.tmp 27) rfl bn15 O1.toArray rfl rfl _ _ h6 HOi.out1 HOi.old1 HOi.one1 ?_
            have h6b := h6.setRow O1
            have h7b := h7.apart (setRow_apart (b := bn15) (cs := O1.toArray)) (fun e => hne e.symm)
            have hbl2 := hbl.out.trans (setRow_below (b := bn15) (cs := O1.toArray) hbl.le6)
            refine hK.out _ _ trivial (fun _ => ?_)
            clear hK K
            generalize wn16.setRow bn15 O1.toArray = wn16a at *
            refine clH 13 (by kernel_rfl) (by simp only [tkA, tkG]; rfl) (fun K hK => ?_)
            refine step_store_row rfl _ (.tmp 7) (.tmp 32) rfl bn12 O2.toArray rfl rfl _ _ h7b HOi.out2 HOi.old2 HOi.one2 ?_
            have h7c := h7b.setRow O2
            have h6c := h6b.apart (setRow_apart (b := bn12) (cs := O2.toArray)) hne
            have hbl3 := hbl2.trans (setRow_below (b := bn12) (cs := O2.toArray) hbl.le7)
            refine hK.out _ _ trivial (fun _ => ?_)
            clear hK K
            generalize wn16a.setRow bn12 O2.toArray = wn16b at *
            refine wpAnyH_done (by kernel_rfl) ?_ _
            go_wp2_with fail
            go_meet
            exact ⟨bn15, bn12, rfl, rfl, h6c, h7c, hbl3⟩
    · go_simp
      have hn17 := hst0.a6
      refine hK.out _ _ trivial (fun _ => ?_)
      clear hK K
      change St18 w0 (wd0.alloc (.cells #[.int .u8 0, .int .u8 0, .int .u8 0, .int .u8 0, .int .u8 0, .int .u8 0, .int .u8 0, .int .u8 0, .int .u8 0, .int .u8 0, .int .u8 0, .int .u8 0, .int .u8 0, .int .u8 0, .int .u8 0, .int .u8 0, .int .u8 0, .int .u8 0, .int .u8 0, .int .u8 0, .int .u8 0, .int .u8 0, .int .u8 0, .int .u8 0, .int .u8 0, .int .u8 0, .int .u8 0, .int .u8 0, .int .u8 0, .int .u8 0, .int .u8 0, .int .u8 0] 25)) _ _ at hn17
      generalize wd0.alloc (.cells #[.int .u8 0, .int .u8 0, .int .u8 0, .int .u8 0, .int .u8 0, .int .u8 0, .int .u8 0, .int .u8 0, .int .u8 0, .int .u8 0, .int .u8 0, .int .u8 0, .int .u8 0, .int .u8 0, .int .u8 0, .int .u8 0, .int .u8 0, .int .u8 0, .int .u8 0, .int .u8 0, .int .u8 0, .int .u8 0, .int .u8 0, .int .u8 0, .int .u8 0, .int .u8 0, .int .u8 0, .int .u8 0, .int .u8 0, .int .u8 0, .int .u8 0, .int .u8 0] 25) = wn17 at *
      generalize wd0.heap.size = bn17 at *
      refine wpAnyH_ready (rs := [4, 11]) (by kernel_rfl) (by simp) (AllReadyH.cons (by simp only [tkA, tkG]; rfl) (fun K hK => ?_) (AllReadyH.cons (by simp only [tkA, tkG]; rfl) (fun K hK => ?_) AllReadyH.nil))
      · go_simp
        refine (HC1.out wn17 hn17.below).mono ?_
        rintro e wn18 ⟨rfl, hcb⟩
        have hn18 := hn17.call hcb
        go_wp2_with fail
        refine hK.out _ _ trivial (fun _ => ?_)
        clear hK K hcb
        refine wpAnyH_ready (rs := [9, 11]) (by kernel_rfl) (by simp) (AllReadyH.cons (by simp only [tkA, tkG]; rfl) (fun K hK => ?_) (AllReadyH.cons (by simp only [tkA, tkG]; rfl) (fun K hK => ?_) AllReadyH.nil))
        · go_simp
          refine (HC2.out wn18 hn18.below).mono ?_
          rintro e wn19 ⟨rfl, hcb⟩
          have hn19 := hn18.call hcb
          go_wp2_with fail
          refine hK.out _ _ trivial (fun _ => ?_)
          clear hK K hcb
          refine wpAnyH_ready (rs := [11]) (by kernel_rfl) (by simp) (AllReadyH.cons (by simp only [tkA, tkG]; rfl) (fun K hK => ?_) AllReadyH.nil)
          · go_simp
            have hn20 := hn19.a7
            refine hK.out _ _ trivial (fun _ => ?_)
            clear hK K
            change St18 w0 (wn19.alloc (.cells #[.int .u8 0, .int .u8 0, .int .u8 0, .int .u8 0, .int .u8 0, .int .u8 0, .int .u8 0, .int .u8 0, .int .u8 0, .int .u8 0, .int .u8 0, .int .u8 0, .int .u8 0, .int .u8 0, .int .u8 0, .int .u8 0, .int .u8 0, .int .u8 0, .int .u8 0, .int .u8 0, .int .u8 0, .int .u8 0, .int .u8 0, .int .u8 0, .int .u8 0, .int .u8 0, .int .u8 0, .int .u8 0, .int .u8 0, .int .u8 0, .int .u8 0, .int .u8 0] 25)) _ _ at hn20
            generalize wn19.alloc (.cells #[.int .u8 0, .int .u8 0, .int .u8 0, .int .u8 0, .int .u8 0, .int .u8 0, .int .u8 0, .int .u8 0, .int .u8 0, .int .u8 0, .int .u8 0, .int .u8 0, .int .u8 0, .int .u8 0, .int .u8 0, .int .u8 0, .int .u8 0, .int .u8 0, .int .u8 0, .int .u8 0, .int .u8 0, .int .u8 0, .int .u8 0, .int .u8 0, .int .u8 0, .int .u8 0, .int .u8 0, .int .u8 0, .int .u8 0, .int .u8 0, .int .u8 0, .int .u8 0] 25) = wn20 at *
            generalize wn19.heap.size = bn20 at *
            obtain ⟨h6, h7, hne, hbl⟩ := hn20.both
            refine clH 12 (by kernel_rfl) (by simp only [tkA, tkG]; rfl) (fun K hK => ?_)
            refine step_store_row rfl _ (.tmp 6) (.tmp 27) rfl bn17 O1.toArray rfl rfl _ _ h6 HOi.out1 HOi.old1 HOi.one1 ?_
            have h6b := h6.setRow O1
            have h7b := h7.apart (setRow_apart (b := bn17) (cs := O1.toArray)) (fun e => hne e.symm)
            have hbl2 := hbl.out.trans (setRow_below (b := bn17) (cs := O1.toArray) hbl.le6)
            refine hK.out _ _ trivial (fun _ => ?_)
            clear hK K
            generalize wn20.setRow bn17 O1.toArray = wn20a at *
            refine clH 13 (by kernel_rfl) (by simp only [tkA, tkG]; rfl) (fun K hK => ?_)
            refine step_store_row rfl _ (.tmp 7) (.tmp 32) rfl bn20 O2.toArray rfl rfl _ _ h7b HOi.out2 HOi.old2 HOi.one2 ?_
            have h7c := h7b.setRow O2
            have h6c := h6b.apart (setRow_apart (b := bn20) (cs := O2.toArray)) hne
            have hbl3 := hbl2.trans (setRow_below (b := bn20) (cs := O2.toArray) hbl.le7)
            refine hK.out _ _ trivial (fun _ => ?_)
            clear hK K
            generalize wn20a.setRow bn20 O2.toArray = wn20b at *
            refine wpAnyH_done (by kernel_rfl) ?_ _
            go_wp2_with fail
            go_meet
            exact ⟨bn17, bn20, rfl, rfl, h6c, h7c, hbl3⟩
        · go_simp
          have hn21 := hn18.a7
          refine hK.out _ _ trivial (fun _ => ?_)
          clear hK K
          change St18 w0 (wn18.alloc (.cells #[.int .u8 0, .int .u8 0, .int .u8 0, .int .u8 0, .int .u8 0, .int .u8 0, .int .u8 0, .int .u8 0, .int .u8 0, .int .u8 0, .int .u8 0, .int .u8 0, .int .u8 0, .int .u8 0, .int .u8 0, .int .u8 0, .int .u8 0, .int .u8 0, .int .u8 0, .int .u8 0, .int .u8 0, .int .u8 0, .int .u8 0, .int .u8 0, .int .u8 0, .int .u8 0, .int .u8 0, .int .u8 0, .int .u8 0, .int .u8 0, .int .u8 0, .int .u8 0] 25)) _ _ at hn21
          generalize wn18.alloc (.cells #[.int .u8 0, .int .u8 0, .int .u8 0, .int .u8 0, .int .u8 0, .int .u8 0, .int .u8 0, .int .u8 0, .int .u8 0, .int .u8 0, .int .u8 0, .int .u8 0, .int .u8 0, .int .u8 0, .int .u8 0, .int .u8 0, .int .u8 0, .int .u8 0, .int .u8 0, .int .u8 0, .int .u8 0, .int .u8 0, .int .u8 0, .int .u8 0, .int .u8 0, .int .u8 0, .int .u8 0, .int .u8 0, .int .u8 0, .int .u8 0, .int .u8 0, .int .u8 0] 25) = wn21 at *
          generalize wn18.heap.size = bn21 at *
          refine wpAnyH_ready (rs := [9]) (by kernel_rfl) (by simp) (AllReadyH.cons (by simp only [tkA, tkG]; rfl) (fun K hK => ?_) AllReadyH.nil)
          · go_simp
            refine (HC2.out wn21 hn21.below).mono ?_
            rintro e wn22 ⟨rfl, hcb⟩
            have hn22 := hn21.call hcb
            go_wp2_with fail
            refine hK.out _ _ trivial (fun _ => ?_)
            clear hK K hcb
            obtain ⟨h6, h7, hne, hbl⟩ := hn22.both
            refine clH 12 (by kernel_rfl) (by simp only [tkA, tkG]; rfl) (fun K hK => ?_)
            refine step_store_row rfl _ (.tmp 6) (.tmp 27) rfl bn17 O1.toArray rfl rfl _ _ h6 HOi.out1 HOi.old1 HOi.one1 ?_
            have h6b := h6.setRow O1
            have h7b := h7.apart (setRow_apart (b := bn17) (cs := O1.toArray)) (fun e => hne e.symm)
            have hbl2 := hbl.out.trans (setRow_below (b := bn17) (cs := O1.toArray) hbl.le6)
            refine hK.out _ _ trivial (fun _ => ?_)
            clear hK K
            generalize wn22.setRow bn17 O1.toArray = wn22a at *
            refine clH 13 (by kernel_rfl) (by simp only [tkA, tkG]; rfl) (fun K hK => ?_)
            refine step_store_row rfl _ (.tmp 7) (.tmp 32) rfl bn21 O2.toArray rfl rfl _ _ h7b HOi.out2 HOi.old2 HOi.one2 ?_
            have h7c := h7b.setRow O2
            have h6c := h6b.apart (setRow_apart (b := bn21) (cs := O2.toArray)) hne
            have hbl3 := hbl2.trans (setRow_below (b := bn21) (cs := O2.toArray) hbl.le7)
            refine hK.out _ _ trivial (fun _ => ?_)
            clear hK K
            generalize wn22a.setRow bn21 O2.toArray = wn22b at *
            refine wpAnyH_done (by kernel_rfl) ?_ _
            go_wp2_with fail
            go_meet
            exact ⟨bn17, bn21, rfl, rfl, h6c, h7c, hbl3⟩
      · go_simp
        have hn23 := hn17.a7
        refine hK.out _ _ trivial (fun _ => ?_)
        clear hK K
        change St18 w0 (wn17.alloc (.cells #[.int .u8 0, .int .u8 0, .int .u8 0, .int .u8 0, .int .u8 0, .int .u8 0, .int .u8 0, .int .u8 0, .int .u8 0, .int .u8 0, .int .u8 0, .int .u8 0, .int .u8 0, .int .u8 0, .int .u8 0, .int .u8 0, .int .u8 0, .int .u8 0, .int .u8 0, .int .u8 0, .int .u8 0, .int .u8 0, .int .u8 0, .int .u8 0, .int .u8 0, .int .u8 0, .int .u8 0, .int .u8 0, .int .u8 0, .int .u8 0, .int .u8 0, .int .u8 0] 25)) _ _ at hn23
        generalize wn17.alloc (.cells #[.int .u8 0, .int .u8 0, .int .u8 0, .int .u8 0, .int .u8 0, .int .u8 0, .int .u8 0, .int .u8 0, .int .u8 0, .int .u8 0, .int .u8 0, .int .u8 0, .int .u8 0, .int .u8 0, .int .u8 0, .int .u8 0, .int .u8 0, .int .u8 0, .int .u8 0, .int .u8 0, .int .u8 0, .int .u8 0, .int .u8 0, .int .u8 0, .int .u8 0, .int .u8 0, .int .u8 0, .int .u8 0, .int .u8 0, .int .u8 0, .int .u8 0, .int .u8 0] 25) = wn23 at *
        generalize wn17.heap.size = bn23 at *
        refine wpAnyH_ready (rs := [4]) (by kernel_rfl) (by simp) (AllReadyH.cons (by simp only [tkA, tkG]; rfl) (fun K hK => ?_) AllReadyH.nil)
        · go_simp
          refine (HC1.out wn23 hn23.below).mono ?_
          rintro e wn24 ⟨rfl, hcb⟩
          have hn24 := hn23.call hcb
          go_wp2_with fail
          refine hK.out _ _ trivial (fun _ => ?_)
          clear hK K hcb
          refine wpAnyH_ready (rs := [9]) (by kernel_rfl) (by simp) (AllReadyH.cons (by simp only [tkA, tkG]; rfl) (fun K hK => ?_) AllReadyH.nil)
          · go_simp
            refine (HC2.out wn24 hn24.below).mono ?_
            rintro e wn25 ⟨rfl, hcb⟩
            have hn25 := hn24.call hcb
            go_wp2_with fail
            refine hK.out _ _ trivial (fun _ => ?_)
            clear hK K hcb
            obtain ⟨h6, h7, hne, hbl⟩ := hn25.both
            refine clH 12 (by kernel_rfl) (by simp only [tkA, tkG]; rfl) (fun K hK => ?_)
            refine step_store_row rfl _ (.tmp 6) (.tmp 27) rfl bn17 O1.toArray rfl rfl _ _ h6 HOi.out1 HOi.old1 HOi.one1 ?_
            have h6b := h6.setRow O1
            have h7b := h7.apart (setRow_apart (b := bn17) (cs := O1.toArray)) (fun e => hne e.symm)
            have hbl2 := hbl.out.trans (setRow_below (b := bn17) (cs := O1.toArray) hbl.le6)
            refine hK.out _ _ trivial (fun _ => ?_)
            clear hK K
            generalize wn25.setRow bn17 O1.toArray = wn25a at *
            refine clH 13 (by kernel_rfl) (by simp only [tkA, tkG]; rfl) (fun K hK => ?_)
            refine step_store_row rfl _ (.tmp 7) (.tmp 32) rfl bn23 O2.toArray rfl rfl _ _ h7b HOi.out2 HOi.old2 HOi.one2 ?_
            have h7c := h7b.setRow O2
            have h6c := h6b.apart (setRow_apart (b := bn23) (cs := O2.toArray)) hne
            have hbl3 := hbl2.trans (setRow_below (b := bn23) (cs := O2.toArray) hbl.le7)
            refine hK.out _ _ trivial (fun _ => ?_)
            clear hK K
            generalize wn25a.setRow bn23 O2.toArray = wn25b at *
            refine wpAnyH_done (by kernel_rfl) ?_ _
            go_wp2_with fail
            go_meet
            exact ⟨bn17, bn23, rfl, rfl, h6c, h7c, hbl3⟩
    · go_simp
      have hn26 := hst0.a7
      refine hK.out _ _ trivial (fun _ => ?_)
      clear hK K
      change St18 w0 (wd0.alloc (.cells #[.int .u8 0, .int .u8 0, .int .u8 0, .int .u8 0, .int .u8 0, .int .u8 0, .int .u8 0, .int .u8 0, .int .u8 0, .int .u8 0, .int .u8 0, .int .u8 0, .int .u8 0, .int .u8 0, .int .u8 0, .int .u8 0, .int .u8 0, .int .u8 0, .int .u8 0, .int .u8 0, .int .u8 0, .int .u8 0, .int .u8 0, .int .u8 0, .int .u8 0, .int .u8 0, .int .u8 0, .int .u8 0, .int .u8 0, .int .u8 0, .int .u8 0, .int .u8 0] 25)) _ _ at hn26
      generalize wd0.alloc (.cells #[.int .u8 0, .int .u8 0, .int .u8 0, .int .u8 0, .int .u8 0, .int .u8 0, .int .u8 0, .int .u8 0, .int .u8 0, .int .u8 0, .int .u8 0, .int .u8 0, .int .u8 0, .int .u8 0, .int .u8 0, .int .u8 0, .int .u8 0, .int .u8 0, .int .u8 0, .int .u8 0, .int .u8 0, .int .u8 0, .int .u8 0, .int .u8 0, .int .u8 0, .int .u8 0, .int .u8 0, .int .u8 0, .int .u8 0, .int .u8 0, .int .u8 0, .int .u8 0] 25) = wn26 at *
      generalize wd0.heap.size = bn26 at *
      refine wpAnyH_ready (rs := [4, 10]) (by kernel_rfl) (by simp) (AllReadyH.cons (by simp only [tkA, tkG]; rfl) (fun K hK => ?_) (AllReadyH.cons (by simp only [tkA, tkG]; rfl) (fun K hK => ?_) AllReadyH.nil))
      · go_simp
        refine (HC1.out wn26 hn26.below).mono ?_
        rintro e wn27 ⟨rfl, hcb⟩
        have hn27 := hn26.call hcb
        go_wp2_with fail
        refine hK.out _ _ trivial (fun _ => ?_)
        clear hK K hcb
        refine wpAnyH_ready (rs := [9, 10]) (by kernel_rfl) (by simp) (AllReadyH.cons (by simp only [tkA, tkG]; rfl) (fun K hK => ?_) (AllReadyH.cons (by simp only [tkA, tkG]; rfl) (fun K hK => ?_) AllReadyH.nil))
        · go_simp
          refine (HC2.out wn27 hn27.below).mono ?_
          rintro e wn28 ⟨rfl, hcb⟩
          have hn28 := hn27.call hcb
          go_wp2_with fail
          refine hK.out _ _ trivial (fun _ => ?_)
          clear hK K hcb
          refine wpAnyH_ready (rs := [10]) (by kernel_rfl) (by simp) (AllReadyH.cons (by simp only [tkA, tkG]; rfl) (fun K hK => ?_) AllReadyH.nil)
          · go_simp
            have hn29 := hn28.a6
            refine hK.out _ _ trivial (fun _ => ?_)
            clear hK K
            change St18 w0 (wn28.alloc (.cells #[.int .u8 0, .int .u8 0, .int .u8 0, .int .u8 0, .int .u8 0, .int .u8 0, .int .u8 0, .int .u8 0, .int .u8 0, .int .u8 0, .int .u8 0, .int .u8 0, .int .u8 0, .int .u8 0, .int .u8 0, .int .u8 0, .int .u8 0, .int .u8 0, .int .u8 0, .int .u8 0, .int .u8 0, .int .u8 0, .int .u8 0, .int .u8 0, .int .u8 0, .int .u8 0, .int .u8 0, .int .u8 0, .int .u8 0, .int .u8 0, .int .u8 0, .int .u8 0] 25)) _ _ at hn29
            generalize wn28.alloc (.cells #[.int .u8 0, .int .u8 0, .int .u8 0, .int .u8 0, .int .u8 0, .int .u8 0, .int .u8 0, .int .u8 0, .int .u8 0, .int .u8 0, .int .u8 0, .int .u8 0, .int .u8 0, .int .u8 0, .int .u8 0, .int .u8 0, .int .u8 0, .int .u8 0, .int .u8 0, .int .u8 0, .int .u8 0, .int .u8 0, .int .u8 0, .int .u8 0, .int .u8 0, .int .u8 0, .int .u8 0, .int .u8 0, .int .u8 0, .int .u8 0, .int .u8 0, .int .u8 0] 25) = wn29 at *
            generalize wn28.heap.size = bn29 at *
            obtain ⟨h6, h7, hne, hbl⟩ := hn29.both
            refine clH 12 (by kernel_rfl) (by simp only [tkA, tkG]; rfl) (fun K hK => ?_)
            refine step_store_row rfl _ (.tmp 6) (.tmp 27) rfl bn29 O1.toArray rfl rfl _ _ h6 HOi.out1 HOi.old1 HOi.one1 ?_
            have h6b := h6.setRow O1
            have h7b := h7.apart (setRow_apart (b := bn29) (cs := O1.toArray)) (fun e => hne e.symm)
            have hbl2 := hbl.out.trans (setRow_below (b := bn29) (cs := O1.toArray) hbl.le6)
            refine hK.out _ _ trivial (fun _ => ?_)
            clear hK K
            generalize wn29.setRow bn29 O1.toArray = wn29a at *
            refine clH 13 (by kernel_rfl) (by simp only [tkA, tkG]; rfl) (fun K hK => ?_)
            refine step_store_row rfl _ (.tmp 7) (.tmp 32) rfl bn26 O2.toArray rfl rfl _ _ h7b HOi.out2 HOi.old2 HOi.one2 ?_
            have h7c := h7b.setRow O2
            have h6c := h6b.apart (setRow_apart (b := bn26) (cs := O2.toArray)) hne
            have hbl3 := hbl2.trans (setRow_below (b := bn26) (cs := O2.toArray) hbl.le7)
            refine hK.out _ _ trivial (fun _ => ?_)
            clear hK K
            generalize wn29a.setRow bn26 O2.toArray = wn29b at *
            refine wpAnyH_done (by kernel_rfl) ?_ _
            go_wp2_with fail
            go_meet
            exact ⟨bn29, bn26, rfl, rfl, h6c, h7c, hbl3⟩
        · go_simp
          have hn30 := hn27.a6
          refine hK.out _ _ trivial (fun _ => ?_)
          clear hK K
          change St18 w0 (wn27.alloc (.cells #[.int .u8 0, .int .u8 0, .int .u8 0, .int .u8 0, .int .u8 0, .int .u8 0, .int .u8 0, .int .u8 0, .int .u8 0, .int .u8 0, .int .u8 0, .int .u8 0, .int .u8 0, .int .u8 0, .int .u8 0, .int .u8 0, .int .u8 0, .int .u8 0, .int .u8 0, .int .u8 0, .int .u8 0, .int .u8 0, .int .u8 0, .int .u8 0, .int .u8 0, .int .u8 0, .int .u8 0, .int .u8 0, .int .u8 0, .int .u8 0, .int .u8 0, .int .u8 0] 25)) _ _ at hn30
          generalize wn27.alloc (.cells #[.int .u8 0, .int .u8 0, .int .u8 0, .int .u8 0, .int .u8 0, .int .u8 0, .int .u8 0, .int .u8 0, .int .u8 0, .int .u8 0, .int .u8 0, .int .u8 0, .int .u8 0, .int .u8 0, .int .u8 0, .int .u8 0, .int .u8 0, .int .u8 0, .int .u8 0, .int .u8 0, .int .u8 0, .int .u8 0, .int .u8 0, .int .u8 0, .int .u8 0, .int .u8 0, .int .u8 0, .int .u8 0, .int .u8 0, .int .u8 0, .int .u8 0, .int .u8 0] 25) = wn30 at *
          generalize wn27.heap.size = bn30 at *
          refine wpAnyH_ready (rs := [9]) (by kernel_rfl) (by simp) (AllReadyH.cons (by simp only [tkA, tkG]; rfl) (fun K hK => ?_) AllReadyH.nil)
          · go_simp
            refine (HC2.out wn30 hn30.below).mono ?_
            rintro e wn31 ⟨rfl, hcb⟩
            have hn31 := hn30.call hcb
            go_wp2_with fail
            refine hK.out _ _ trivial (fun _ => ?_)
            clear hK K hcb
            obtain ⟨h6, h7, hne, hbl⟩ := hn31.both
            refine clH 12 (by kernel_rfl) (by simp only [tkA, tkG]; rfl) (fun K hK => ?_)
            refine step_store_row rfl _ (.tmp 6) (.tmp 27) rfl bn30 O1.toArray rfl rfl _ _ h6 HOi.out1 HOi.old1 HOi.one1 ?_
            have h6b := h6.setRow O1
            have h7b := h7.apart (setRow_apart (b := bn30) (cs := O1.toArray)) (fun e => hne e.symm)
            have hbl2 := hbl.out.trans (setRow_below (b := bn30) (cs := O1.toArray) hbl.le6)
            refine hK.out _ _ trivial (fun _ => ?_)
            clear hK K
            generalize wn31.setRow bn30 O1.toArray = wn31a at *
            refine clH 13 (by kernel_rfl) (by simp only [tkA, tkG]; rfl) (fun K hK => ?_)
            refine step_store_row rfl _ (.tmp 7) (.tmp 32) rfl bn26 O2.toArray rfl rfl _ _ h7b HOi.out2 HOi.old2 HOi.one2 ?_
            have h7c := h7b.setRow O2
            have h6c := h6b.apart (setRow_apart (b := bn26) (cs := O2.toArray)) hne
            have hbl3 := hbl2.trans (setRow_below (b := bn26) (cs := O2.toArray) hbl.le7)
            refine hK.out _ _ trivial (fun _ => ?_)
            clear hK K
            generalize wn31a.setRow bn26 O2.toArray = wn31b at *
            refine wpAnyH_done (by kernel_rfl) ?_ _
            go_wp2_with fail
            go_meet
            exact ⟨bn30, bn26, rfl, rfl, h6c, h7c, hbl3⟩
      · go_simp
        have hn32 := hn26.a6
        refine hK.out _ _ trivial (fun _ => ?_)
        clear hK K
        change St18 w0 (wn26.alloc (.cells #[.int .u8 0, .int .u8 0, .int .u8 0, .int .u8 0, .int .u8 0, .int .u8 0, .int .u8 0, .int .u8 0, .int .u8 0, .int .u8 0, .int .u8 0, .int .u8 0, .int .u8 0, .int .u8 0, .int .u8 0, .int .u8 0, .int .u8 0, .int .u8 0, .int .u8 0, .int .u8 0, .int .u8 0, .int .u8 0, .int .u8 0, .int .u8 0, .int .u8 0, .int .u8 0, .int .u8 0, .int .u8 0, .int .u8 0, .int .u8 0, .int .u8 0, .int .u8 0] 25)) _ _ at hn32
        generalize wn26.alloc (.cells #[.int .u8 0, .int .u8 0, .int .u8 0, .int .u8 0, .int .u8 0, .int .u8 0, .int .u8 0, .int .u8 0, .int .u8 0, .int .u8 0, .int .u8 0, .int .u8 0, .int .u8 0, .int .u8 0, .int .u8 0, .int .u8 0, .int .u8 0, .int .u8 0, .int .u8 0, .int .u8 0, .int .u8 0, .int .u8 0, .int .u8 0, .int .u8 0, .int .u8 0, .int .u8 0, .int .u8 0, .int .u8 0, .int .u8 0, .int .u8 0, .int .u8 0, .int .u8 0] 25) = wn32 at *
        generalize wn26.heap.size = bn32 at *
        refine wpAnyH_ready (rs := [4]) (by kernel_rfl) (by simp) (AllReadyH.cons (by simp only [tkA, tkG]; rfl) (fun K hK => ?_) AllReadyH.nil)
        · go_simp
          refine (HC1.out wn32 hn32.below).mono ?_
          rintro e wn33 ⟨rfl, hcb⟩
          have hn33 := hn32.call hcb
          go_wp2_with fail
          refine hK.out _ _ trivial (fun _ => ?_)
          clear hK K hcb
          refine wpAnyH_ready (rs := [9]) (by kernel_rfl) (by simp) (AllReadyH.cons (by simp only [tkA, tkG]; rfl) (fun K hK => ?_) AllReadyH.nil)
          · go_simp
            refine (HC2.out wn33 hn33.below).mono ?_
            rintro e wn34 ⟨rfl, hcb⟩
            have hn34 := hn33.call hcb
            go_wp2_with fail
            refine hK.out _ _ trivial (fun _ => ?_)
            clear hK K hcb
            obtain ⟨h6, h7, hne, hbl⟩ := hn34.both
            refine clH 12 (by kernel_rfl) (by simp only [tkA, tkG]; rfl) (fun K hK => ?_)
            refine step_store_row rfl _ (.tmp 6) (.tmp 27) rfl bn32 O1.toArray rfl rfl _ _ h6 HOi.out1 HOi.old1 HOi.one1 ?_
            have h6b := h6.setRow O1
            have h7b := h7.apart (setRow_apart (b := bn32) (cs := O1.toArray)) (fun e => hne e.symm)
            have hbl2 := hbl.out.trans (setRow_below (b := bn32) (cs := O1.toArray) hbl.le6)
            refine hK.out _ _ trivial (fun _ => ?_)
            clear hK K
            generalize wn34.setRow bn32 O1.toArray = wn34a at *
            refine clH 13 (by kernel_rfl) (by simp only [tkA, tkG]; rfl) (fun K hK => ?_)
            refine step_store_row rfl _ (.tmp 7) (.tmp 32) rfl bn26 O2.toArray rfl rfl _ _ h7b HOi.out2 HOi.old2 HOi.one2 ?_
            have h7c := h7b.setRow O2
            have h6c := h6b.apart (setRow_apart (b := bn26) (cs := O2.toArray)) hne
            have hbl3 := hbl2.trans (setRow_below (b := bn26) (cs := O2.toArray) hbl.le7)
            refine hK.out _ _ trivial (fun _ => ?_)
            clear hK K
            generalize wn34a.setRow bn26 O2.toArray = wn34b at *
            refine wpAnyH_done (by kernel_rfl) ?_ _
            go_wp2_with fail
            go_meet
            exact ⟨bn32, bn26, rfl, rfl, h6c, h7c, hbl3⟩
  case rest =>
    obtain ⟨b6, b7, rfl, rfl, h6, h7, hbl⟩ := hcut
    have hs7 : S7 w0 b6 b7 O1 O2 wc.drew := ⟨h6, h7, hbl.drew⟩
    have HX4 : Hid (∀ W, S7 w0 b6 b7 O1 O2 W → Bytes W W.heap.size A l ∧ Bytes W W.heap.size B k) := Lib.hid fun W hW => HX3.out W hW.below
    clear h6 h7 hbl HC1 HC2 HX3 HOi hsl hs1
    have he1 := HEq1.out
    have he2 := HEq2.out
    go_wp2_with fail
    refine wp_region_held_drew (S := fun W => S7 w0 b6 b7 O1 O2 W) (by kernel_rfl) hs7 (fun _ => ?_)
    refine tkH 0 (by simp only [tkA]; rfl) (by kernel_rfl) (by exact fun _ _ _ h => h) (by rfl) (fun W hW => load_sum rfl rfl hW.six HL1.out) hs7 ?_
    try simp only [Act.put, tkT, tk0, tkS]
    refine tkH 2 (by simp only [tkA, tkG]; rfl) (by kernel_rfl) (by exact fun _ _ _ h => h) (by rfl) (by intro W hW; go_simp <;> with_reducible rfl) hs7 ?_
    try simp only [Act.put, tkT, tk0, tkS]
    generalize wc.drew = wd1 at *
    have ha1 : S7 w0 b6 b7 O1 O2 (wd1.alloc (.cells #[] 5)) := hs7.step ((Below.refl _ _).alloc (Nat.le_refl _) _)
    refine clH 1 (by kernel_rfl) (by simp only [tkA, tkG]; rfl) (fun K hK => ?_)
    go_simp
    go_wp2_with fail
    refine hK.out _ _ ha1 (fun _ => ?_)
    clear hK K
    refine clH 3 (by kernel_rfl) (by simp only [tkA, tkG]; rfl) (fun K hK => ?_)
    refine step_append_r rfl (.tmp 34) (.tmp 35) _ rfl wd1.heap.size 5 (.int .u8 0) Try.underlying22 infoU8d rfl _ _ [] rfl (lit_row wd1) _ A n cap l rfl Hl.out (HX4.out _ ha1).1 (by have := Hn.out; simp only [List.length_nil]; omega) (by rw [World.size_alloc]; omega) ?_
    intro va wd2 ga hra _ hap
    have ha2 : S7 w0 b6 b7 O1 O2 wd2 := hs7.step (((Below.refl _ _).alloc (Nat.le_refl _) _).trans (hap.below (by rw [World.size_alloc]; omega) (fun q e => by have e : some wd1.heap.size = some q := e; cases e; exact Nat.le_refl _)))
    obtain ⟨Aa, ca, rfl, hca, -, hba⟩ := hra.bytes
    have hcma := hra.cap'
    rw [List.nil_append] at hba hca ⊢
    rw [Hl.out] at hca ⊢
    have HCa := Lib.hid (HOf1.out wd2 Aa ca hca hcma hba)
    refine hK.out _ _ ha2 (fun _ => ?_)
    clear hK K hra hap hcma hba ha1 hs7
    refine clH 4 (by kernel_rfl) (by simp only [tkA, tkG]; rfl) (fun K hK => ?_)
    go_simp
    refine HCa.out.mono ?_
    rintro e wd3 ⟨rfl, hb3⟩
    have ha3 := ha2.step hb3
    go_wp2_with fail
    refine hK.out _ _ ha3 (fun _ => ?_)
    clear hK K
    clear hb3 ha2 HCa
    refine tkH 5 (by simp only [tkA, tkG]; rfl) (by kernel_rfl) (by exact fun _ _ _ h => h) (by rfl) (by intro W hW; go_simp <;> with_reducible rfl) ha3 ?_
    try simp only [Act.put, tkT, tk0, tkS]
    refine tkH 6 (by simp only [tkA, tkG]; rfl) (by kernel_rfl) (by exact fun _ _ _ h => h) (by rfl) (by intro W hW; go_simp <;> with_reducible rfl) ha3 ?_
    try simp only [Act.put, tkT, tk0, tkS]
    refine tkH 7 (by simp only [tkA, tkG]; rfl) (by kernel_rfl) (by exact fun _ _ _ h => h) (by rfl) (fun W hW => load_sum rfl rfl hW.seven HL2.out) ha3 ?_
    try simp only [Act.put, tkT, tk0, tkS]
    refine tkH 9 (by simp only [tkA, tkG]; rfl) (by kernel_rfl) (by exact fun _ _ _ h => h) (by rfl) (by intro W hW; go_simp <;> with_reducible rfl) ha3 ?_
    try simp only [Act.put, tkT, tk0, tkS]
    have hd1 : S7 w0 b6 b7 O1 O2 (wd3.alloc (.cells #[] 5)) := ha3.step ((Below.refl _ _).alloc (Nat.le_refl _) _)
    refine clH 8 (by kernel_rfl) (by simp only [tkA, tkG]; rfl) (fun K hK => ?_)
    go_simp
    go_wp2_with fail
    refine hK.out _ _ hd1 (fun _ => ?_)
    clear hK K
    refine clH 10 (by kernel_rfl) (by simp only [tkA, tkG]; rfl) (fun K hK => ?_)
    refine step_append_w (by rfl) (.tmp 41) (.tmp 42) _ rfl wd3.heap.size 5 (.int .u8 0) Try.underlying22 infoU8d rfl _ _ [] rfl (lit_row wd3) _ B m cap2 k rfl Hk.out (HX4.out _ hd1).2 (by have := Hm.out; simp only [List.length_nil]; omega) (by rw [World.size_alloc]; omega) ?_
    intro vb wd4 gb hrb _ hap
    have hd2 : S7 w0 b6 b7 O1 O2 wd4 := ha3.step (((Below.refl _ _).alloc (Nat.le_refl _) _).trans (hap.below (by rw [World.size_alloc]; omega) (fun q e => by have e : some wd3.heap.size = some q := e; cases e; exact Nat.le_refl _)))
    obtain ⟨Ab, cb, rfl, hcb, -, hbb⟩ := hrb.bytes
    have hcmb := hrb.cap'
    rw [List.nil_append] at hbb hcb ⊢
    rw [Hk.out] at hcb ⊢
    have HCb := Lib.hid (HOf2.out wd4 Ab cb hcb hcmb hbb)
    refine hK.out _ _ hd2 (fun _ => ?_)
    clear hK K hrb hap hcmb hbb hd1 ha3
    refine clH 11 (by kernel_rfl) (by simp only [tkA, tkG]; rfl) (fun K hK => ?_)
    go_simp
    refine HCb.out.mono ?_
    rintro e wd5 ⟨rfl, hb5⟩
    have hd3 := hd2.step hb5
    go_wp2_with fail
    refine hK.out _ _ hd3 (fun _ => ?_)
    clear hK K
    clear hb5 hd2 HCb
    refine tkH 12 (by simp only [tkA, tkG]; rfl) (by kernel_rfl) (by exact fun _ _ _ h => h) (by rfl) (by intro W hW; go_simp <;> with_reducible rfl) hd3 ?_
    try simp only [Act.put, tkT, tk0, tkS]
    refine tkH 13 (by simp only [tkA, tkG]; rfl) (by kernel_rfl) (by exact fun _ _ _ h => h) (by rfl) (by intro W hW; go_simp <;> with_reducible rfl) hd3 ?_
    try simp only [Act.put, tkT, tk0, tkS]
    refine tkH 14 (by simp only [tkA, tkG]; rfl) (by kernel_rfl) (by exact fun _ _ _ h => h) (by rfl) (by intro W hW; go_simp <;> with_reducible rfl) hd3 ?_
    try simp only [Act.put, tkT, tk0, tkS]
    refine tkH 15 (by simp only [tkA, tkG]; rfl) (by kernel_rfl) (by exact fun _ _ _ h => h) (by rfl) (by intro W hW; go_simp <;> with_reducible rfl) hd3 ?_
    try simp only [Act.put, tkT, tk0, tkS]
    refine tkH 16 (by simp only [tkA, tkG]; rfl) (by kernel_rfl) (by exact fun _ _ _ h => h) (by rfl) (by intro W hW; have k1 := run_convert_b (P := Try.prog) W 22 5 Try.underlying22 Try.underlying5 W.heap.size A l n cap Hl.out (HX4.out W hW).1 9 Try.underlying9; go_simp <;> with_reducible rfl) hd3 ?_
    try simp only [Act.put, tkT, tk0, tkS]
    refine tkH 17 (by simp only [tkA, tkG]; rfl) (by kernel_rfl) (by exact fun _ _ _ h => h) (by rfl) (by intro W hW; go_simp <;> with_reducible rfl) hd3 ?_
    try simp only [Act.put, tkT, tk0, tkS]
    refine tkH 18 (by simp only [tkA, tkG]; rfl) (by kernel_rfl) (by exact fun _ _ _ h => h) (by rfl) (by intro W hW; have k1 := run_convert_b (P := Try.prog) W 22 5 Try.underlying22 Try.underlying5 W.heap.size B k m cap2 Hk.out (HX4.out W hW).2 9 Try.underlying9; go_simp <;> with_reducible rfl) hd3 ?_
    try simp only [Act.put, tkT, tk0, tkS]
    by_cases hlk : l = k
    case pos =>
      obtain rfl := HSame.out hlk
      refine tkH (v := .bool false) 19 (by simp only [tkA, tkG]; rfl) (by kernel_rfl) (by exact fun _ _ _ h => h) (by rfl) (by intro W hW; go_simp <;> simp [hlk]) hd3 ?_
      try simp only [Act.put, tkT, tk0, tkS]
      refine tkH 20 (by simp only [tkA, tkG]; rfl) (by kernel_rfl) (by exact fun _ _ _ h => h) (by rfl) (by intro W hW; go_simp <;> with_reducible rfl) hd3 ?_
      try simp only [Act.put, tkT, tk0, tkS]
      refine tkH 21 (by simp only [tkA, tkG]; rfl) (by kernel_rfl) (by exact fun _ _ _ h => h) (by rfl) (fun W hW => load_sum rfl rfl hW.six HL1.out) hd3 ?_
      try simp only [Act.put, tkT, tk0, tkS]
      refine tkH 22 (by simp only [tkA, tkG]; rfl) (by kernel_rfl) (by exact fun _ _ _ h => h) (by rfl) (fun W hW => load_sum rfl rfl hW.seven HL1.out) hd3 ?_
      try simp only [Act.put, tkT, tk0, tkS]
      refine tkH 23 (by simp only [tkA, tkG]; rfl) (by kernel_rfl) (by exact fun _ _ _ h => h) (by rfl) (by intro W hW; go_simp <;> with_reducible rfl) hd3 ?_
      try simp only [Act.put, tkT, tk0, tkS]
      refine tkH 24 (by simp only [tkA, tkG]; rfl) (by kernel_rfl) (by exact fun _ _ _ h => h) (by rfl) (by intro W hW; go_simp <;> with_reducible rfl) hd3 ?_
      try simp only [Act.put, tkT, tk0, tkS]
      refine tkH 25 (by simp only [tkA, tkG]; rfl) (by kernel_rfl) (by exact fun _ _ _ h => h) (by rfl) (by intro W hW; go_simp <;> with_reducible rfl) hd3 ?_
      try simp only [Act.put, tkT, tk0, tkS]
      refine tkH 26 (by simp only [tkA, tkG]; rfl) (by kernel_rfl) (by exact fun _ _ _ h => h) (by rfl) (by intro W hW; go_simp <;> with_reducible rfl) hd3 ?_
      try simp only [Act.put, tkT, tk0, tkS]
      refine wpAnyH_done (by kernel_rfl) ?_ _
      go_wp2_with fail
      go_ret
      exact ⟨rfl, HB4.out.trans (hd3.below.mono HB4.out.size)⟩
    case neg =>
      refine tkH (v := .bool true) 19 (by simp only [tkA, tkG]; rfl) (by kernel_rfl) (by exact fun _ _ _ h => h) (by rfl) (by intro W hW; go_simp <;> simp [hlk]) hd3 ?_
      try simp only [Act.put, tkT, tk0, tkS]
      refine tkH 20 (by simp only [tkA, tkG]; rfl) (by kernel_rfl) (by exact fun _ _ _ h => h) (by rfl) (by intro W hW; go_simp <;> with_reducible rfl) hd3 ?_
      try simp only [Act.put, tkT, tk0, tkS]
      refine wpAnyH_take (i := 21) (oi := ?oo54) (v := undef) ?ii54 (by kernel_rfl) ?ff54 (by kernel_rfl) ?qq54 (Or.inr ⟨?ww54, rfl⟩) hd3 ?rr54
      case ii54 => simp only [List.getElem?_toArray, List.getElem?_cons_succ, List.getElem?_cons_zero]; rfl
      case ff54 => kernel_rfl
      case qq54 => exact fun _ _ _ h => h
      case ww54 => rfl
      try simp only [Act.put, List.setIfInBounds_toArray, List.set_cons_zero, List.set_cons_succ]
      refine wpAnyH_take (i := 22) (oi := ?oo55) (v := undef) ?ii55 (by kernel_rfl) ?ff55 (by kernel_rfl) ?qq55 (Or.inr ⟨?ww55, rfl⟩) hd3 ?rr55
      case ii55 => simp only [List.getElem?_toArray, List.getElem?_cons_succ, List.getElem?_cons_zero]; rfl
      case ff55 => kernel_rfl
      case qq55 => exact fun _ _ _ h => h
      case ww55 => rfl
      try simp only [Act.put, List.setIfInBounds_toArray, List.set_cons_zero, List.set_cons_succ]
      refine wpAnyH_take (i := 23) (oi := ?oo56) (v := undef) ?ii56 (by kernel_rfl) ?ff56 (by kernel_rfl) ?qq56 (Or.inr ⟨?ww56, rfl⟩) hd3 ?rr56
      case ii56 => simp only [List.getElem?_toArray, List.getElem?_cons_succ, List.getElem?_cons_zero]; rfl
      case ff56 => kernel_rfl
      case qq56 => exact fun _ _ _ h => h
      case ww56 => rfl
      try simp only [Act.put, List.setIfInBounds_toArray, List.set_cons_zero, List.set_cons_succ]
      refine tkH 24 (by simp only [tkA, tkG]; rfl) (by kernel_rfl) (by exact fun _ _ _ h => h) (by rfl) (by intro W hW; go_simp <;> with_reducible rfl) hd3 ?_
      try simp only [Act.put, tkT, tk0, tkS]
      refine tkH 25 (by simp only [tkA, tkG]; rfl) (by kernel_rfl) (by exact fun _ _ _ h => h) (by rfl) (by intro W hW; go_simp <;> with_reducible rfl) hd3 ?_
      try simp only [Act.put, tkT, tk0, tkS]
      refine tkH 26 (by simp only [tkA, tkG]; rfl) (by kernel_rfl) (by exact fun _ _ _ h => h) (by rfl) (by intro W hW; go_simp <;> with_reducible rfl) hd3 ?_
      try simp only [Act.put, tkT, tk0, tkS]
      refine wpAnyH_done (by kernel_rfl) ?_ _
      go_wp2_with fail
      go_ret
      exact ⟨rfl, HB4.out.trans (hd3.below.mono HB4.out.size)⟩
end Go.Proofs.Ytpabgkmjhcmonaa
