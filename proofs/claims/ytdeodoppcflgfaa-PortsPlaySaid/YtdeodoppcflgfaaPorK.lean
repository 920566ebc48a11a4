/- New of a node's ports: what is wrong; the boxes as they are made (plain and in memory). Conditions: where the tables lie. -/
import Derived.Test.YtdeodoppcflgfaaPorJ
import Derived.Test.YtdeodoppcflgfaaSndBa
import Derived.Laws.MakeOwn
namespace Go.Proofs.Ytdeodoppcflgfaa
open Go.RowKit PorP
set_option maxRecDepth 100000

/-- New's errors. -/
def NoPorts (t : List UInt8) (w : World) (e : Ending) (w' : World) : Prop := ∃ b, e = .returned (.tuple #[.pointer none, .iface 89 (.pointer (some ⟨b, 0, none⟩))]) ∧ ErrText w' (.iface 89 (.pointer (some ⟨b, 0, none⟩))) t ∧ Below w.heap.size w w'
def NoPorts2 (w : World) (e : Ending) (w' : World) : Prop := e = .returned (.tuple #[.pointer none, .iface 75 (.int .i64 2)]) ∧ Below w.heap.size w w'

theorem pornew_bad (x : CfgC) (node : Int) (w : World) (h : CfgIn w x) (f : FrameP.Wrong) (hc : SndP.chk6 x.plain = some f) :
    Calls Try.prog 12 #[x.value, .int .i64 node] w (NoPorts (wrongT (some f)) w) := by
  have HC := Lib.hid (scheck_any x (boxC w x) (h.below (boxC_below w x)))
  rw [hc] at HC
  have HST := Lib.hid (BoxS.start w x)
  have HF := Lib.hid (fun W (hW : BoxS w x W) => hW.below)
  clear h hc
  obtain ⟨nodes, faulty, slot, gap, rho, dmin, dmax, margin, PA, pn, pcap, parts, QA, qn, qcap, ports, RA, rn, rcap, routes⟩ := x
  simp only [CfgC.value, boxC, cfgCells] at HC HST ⊢
  go_enter Try.func12, Try.ntmps12
  go_wp2_with fail
  refine HC.out.mono ?_
  rintro e w1 ⟨v, rfl, h1, ⟨b, rfl⟩, h3⟩
  have hd1 := HST.out.step h3
  have HE : Hid (NoPorts (wrongT (some f)) w (.returned (.tuple #[.pointer none, .iface 89 (.pointer (some ⟨b, 0, none⟩))])) w1) := Lib.hid ⟨b, rfl, h1, HF.out _ hd1⟩
  clear h3 HC HST h1 hd1 HF
  go_wp2_with fail
  go_ret2
  exact HE.out

theorem pornew_range (x : CfgC) (node : Int) (w : World) (h : CfgIn w x) (hc : SndP.chk6 x.plain = none) (hm : node < 0 ∨ x.nodes ≤ node) :
    Calls Try.prog 12 #[x.value, .int .i64 node] w (NoPorts2 w) := by
  have HC := Lib.hid (scheck_any x (boxC w x) (h.below (boxC_below w x)))
  rw [hc] at HC
  have HST := Lib.hid (BoxS.start w x)
  have HF := Lib.hid (fun W (hW : BoxS w x W) => hW.below)
  clear h hc
  obtain ⟨nodes, faulty, slot, gap, rho, dmin, dmax, margin, PA, pn, pcap, parts, QA, qn, qcap, ports, RA, rn, rcap, routes⟩ := x
  obtain ⟨d0, d1, d2, d3, d4, d5, d6, d7, d8, d9, d10⟩ := cfgFacts (fun W (hW : BoxS w ⟨nodes, faulty, slot, gap, rho, dmin, dmax, margin, PA, pn, pcap, parts, QA, qn, qcap, ports, RA, rn, rcap, routes⟩ W) => hW.cells)
  simp only at d0 d1 d2 d3 d4 d5 d6 d7 d8 d9 d10
  simp only [CfgC.value, boxC, cfgCells] at HC HST ⊢
  simp only at hm
  by_cases h1 : node < 0
  · have q1 : decide (node < 0) = true := decide_eq_true h1
    clear hm h1
    go_enter Try.func12, Try.ntmps12
    go_wp2_with fail
    refine HC.out.mono ?_
    rintro e w1 ⟨v, rfl, -, hv, h3⟩
    obtain rfl : v = .nilIface := hv
    have hd1 := HST.out.step h3
    clear h3 HC HST
    obtain ⟨k0, k1, k2, k3, k4, k5, k6, k7, k8, k9, k10⟩ := eleven hd1 d0 d1 d2 d3 d4 d5 d6 d7 d8 d9 d10
    replace HF := Lib.hid (HF.out _ hd1)
    clear hd1
    go_wp2_with fail
    go_ret2
    exact ⟨rfl, HF.out⟩
  · have q1 : decide (node < 0) = false := decide_eq_false h1
    have q2 : decide (nodes ≤ node) = true := decide_eq_true (by omega)
    clear hm h1
    go_enter Try.func12, Try.ntmps12
    go_wp2_with fail
    refine HC.out.mono ?_
    rintro e w1 ⟨v, rfl, -, hv, h3⟩
    obtain rfl : v = .nilIface := hv
    have hd1 := HST.out.step h3
    clear h3 HC HST
    obtain ⟨k0, k1, k2, k3, k4, k5, k6, k7, k8, k9, k10⟩ := eleven hd1 d0 d1 d2 d3 d4 d5 d6 d7 d8 d9 d10
    replace HF := Lib.hid (HF.out _ hd1)
    clear hd1
    go_wp2_with fail
    go_ret2
    exact ⟨rfl, HF.out⟩

/-! ### The boxes -/
def nbE (p : TableP.Port) (N : Int) (tv : Value) : El := ⟨portVals p ++ [.int .i64 N, tv], .slice none 0 0, [], 0⟩
def zPort : TableP.Port := ⟨0, 0, false, 0, 0, 0⟩
theorem made_items {α : Type} {vals : α → List Value} (x : α) (zs : Array Value) (hx : vals x = zs.toList) (hz : 0 < zs.size) (n : Nat) : (madeCells zs (n * zs.size)).toList = itemsV vals (List.replicate n x) := by
  have hl : ∀ y ∈ List.replicate n x, (vals y).length = zs.size := fun y hy => by rw [List.eq_of_mem_replicate hy, hx]; simp
  have hlen : (itemsV vals (List.replicate n x)).length = n * zs.size := by
    clear hl
    induction n with
    | zero => simp [itemsV]
    | succ n ih =>
      simp only [itemsV, List.replicate_succ, List.flatMap_cons, List.length_append] at ih ⊢
      rw [ih, hx, Nat.succ_mul]; simp; omega
  apply List.ext_getElem
  · rw [hlen]; simp [size_madeCells]
  · intro j h1 h2
    have hj : j < n * zs.size := by rw [hlen] at h2; exact h2
    have hd : j / zs.size < n := Nat.div_lt_of_lt_mul (by rw [Nat.mul_comm]; exact hj)
    have hm : j % zs.size < zs.size := Nat.mod_lt _ hz
    have h3 := items_at' (List.replicate n x) hl (j / zs.size) x (by simp [hd]) (j % zs.size) hm
    have ej : j / zs.size * zs.size + j % zs.size = j := by rw [Nat.mul_comm]; exact Nat.div_add_mod j zs.size
    rw [ej, List.getElem?_eq_getElem h2, hx] at h3
    simp only [madeCells, Array.getElem_toList, Array.getElem_map, Array.getElem_range]
    rw [getElem!_pos zs _ hm]
    have h4 : zs.toList[j % zs.size]? = some zs[j % zs.size] := by simp [hm]
    rw [h4] at h3
    exact (Option.some.inj h3).symm
def es1 (c : TableP.Cfg) (n k : Nat) : List El := (c.ports.take k).map (fun p => nbE p (nodeOf c p) (.slice none 0 0)) ++ List.replicate (n - k) (nbE zPort 0 (.slice none 0 0))
theorem es1_len (c : TableP.Cfg) {n k : Nat} (hn : c.ports.length = n) (hk : k ≤ n) : (es1 c n k).length = n := by
  unfold es1
  rw [List.length_append, List.length_map, List.length_take, List.length_replicate]; omega
theorem es1_at (c : TableP.Cfg) {n k : Nat} (hn : c.ports.length = n) (hk : k < n) : (es1 c n k)[k]? = some (nbE zPort 0 (.slice none 0 0)) := by
  unfold es1
  rw [List.getElem?_append_right (by simp; omega)]
  simp only [List.length_map, List.length_take]
  rw [Nat.min_eq_left (by omega), Nat.sub_self]
  obtain ⟨m, hm⟩ : ∃ m, n - k = m + 1 := ⟨n - k - 1, by omega⟩
  rw [hm]; rfl
theorem es1_step (c : TableP.Cfg) {n k : Nat} {p : TableP.Port} (hn : c.ports.length = n) (hp : c.ports[k]? = some p) : (es1 c n k).set k (nbE p (nodeOf c p) (.slice none 0 0)) = es1 c n (k + 1) := by
  have hk := (List.getElem?_eq_some_iff.1 hp).1
  unfold es1
  rw [List.set_append_right _ _ (by simp; omega)]
  simp only [List.length_map, List.length_take]
  rw [Nat.min_eq_left (by omega), Nat.sub_self]
  obtain ⟨m, hm⟩ : ∃ m, n - k = m + 1 := ⟨n - k - 1, by omega⟩
  rw [hm, show n - (k + 1) = m by omega, List.take_add_one, hp, List.map_append, List.append_assoc]
  rfl
def es2 (c : TableP.Cfg) (tvs : List Value) : List El := List.zipWith (fun p tv => nbE p (nodeOf c p) tv) c.ports tvs
theorem es1_es2 (c : TableP.Cfg) {n : Nat} (hn : c.ports.length = n) : es1 c n n = es2 c (List.replicate n (.slice none 0 0)) := by
  subst hn
  unfold es1 es2
  rw [Nat.sub_self, List.take_length, List.replicate_zero, List.append_nil]
  apply List.ext_getElem?
  intro i
  rw [List.getElem?_map, List.getElem?_zipWith]
  cases h : c.ports[i]? with
  | none => rfl
  | some p =>
    have := (List.getElem?_eq_some_iff.1 h).1
    rw [List.getElem?_replicate, if_pos this]; rfl
theorem es2_at {c : TableP.Cfg} {tvs : List Value} {i : Nat} {p : TableP.Port} {tv : Value} (hp : c.ports[i]? = some p) (ht : tvs[i]? = some tv) : (es2 c tvs)[i]? = some (nbE p (nodeOf c p) tv) := by
  unfold es2
  rw [List.getElem?_zipWith, hp, ht]
theorem es2_get {c : TableP.Cfg} {tvs : List Value} {i : Nat} {e : El} (h : (es2 c tvs)[i]? = some e) : ∃ p tv, c.ports[i]? = some p ∧ tvs[i]? = some tv ∧ e = nbE p (nodeOf c p) tv := by
  unfold es2 at h
  rw [List.getElem?_zipWith] at h
  cases hp : c.ports[i]? with
  | none => rw [hp] at h; cases h
  | some p =>
    cases ht : tvs[i]? with
    | none => rw [hp, ht] at h; cases h
    | some tv => rw [hp, ht] at h; exact ⟨p, tv, rfl, rfl, (Option.some.inj h).symm⟩
theorem es2_set {c : TableP.Cfg} {tvs : List Value} {i : Nat} {p : TableP.Port} (hp : c.ports[i]? = some p) (v : Value) : (es2 c tvs).set i (nbE p (nodeOf c p) v) = es2 c (tvs.set i v) := by
  unfold es2
  apply List.ext_getElem?
  intro j
  by_cases hj : i = j
  · subst hj
    have hi := (List.getElem?_eq_some_iff.1 hp).1
    by_cases ht : i < tvs.length
    · rw [List.getElem?_set_self (by rw [List.length_zipWith]; omega), List.getElem?_zipWith, hp, List.getElem?_set_self ht]
    · rw [List.getElem?_eq_none (by simp; omega), List.getElem?_eq_none (by simp; omega)]
  · rw [List.getElem?_set_ne hj, List.getElem?_zipWith, List.getElem?_zipWith, List.getElem?_set_ne hj]
theorem nb_all {es : List El} (h : ∀ e ∈ es, ∃ p N tv, e = nbE p N tv) : ∀ e ∈ es, (elVals e).length = 10 := fun e he => by
  obtain ⟨p, N, tv, rfl⟩ := h e he; rfl
theorem es1_nb (c : TableP.Cfg) (n k : Nat) : ∀ e ∈ es1 c n k, ∃ p N tv, e = nbE p N tv := fun e he => by
  unfold es1 at he
  rcases List.mem_append.1 he with he | he
  · obtain ⟨p, -, rfl⟩ := List.mem_map.1 he
    exact ⟨_, _, _, rfl⟩
  · exact ⟨_, _, _, List.eq_of_mem_replicate he⟩
theorem es2_nb (c : TableP.Cfg) (tvs : List Value) : ∀ e ∈ es2 c tvs, ∃ p N tv, e = nbE p N tv := fun e he => by
  obtain ⟨i, hi⟩ := List.getElem?_of_mem he
  obtain ⟨p, tv, -, -, rfl⟩ := es2_get hi
  exact ⟨_, _, _, rfl⟩
/-- A box's cells. -/
theorem prow_cell {g i : Nat} {es : List El} {W : World} {e : El} (hW : PRow g es W) (hs : ∀ e ∈ es, (elVals e).length = 10) (hi : es[i]? = some e) {j : Nat} {u : Value} (hu : (elVals e)[j]? = some u) : W.cell? ⟨g, i * 10 + j, none⟩ = some u := by
  have hj : j < 10 := by rw [← hs e (List.mem_of_getElem? hi)]; exact (List.getElem?_eq_some_iff.1 hu).1
  refine cell_at hW _ ?_
  rw [List.getElem?_toArray, items_at' es hs i e hi j hj]
  exact hu
theorem items_put {α : Type} {vals : α → List Value} {size : Nat} : ∀ (l : List α), (∀ x ∈ l, (vals x).length = size) → ∀ (i : Nat) (x y : α), l[i]? = some x → ∃ pre tail, itemsV vals l = pre ++ vals x ++ tail ∧ pre.length = i * size ∧ itemsV vals (l.set i y) = pre ++ vals y ++ tail
  | [], _, i, x, y, h => by simp at h
  | a :: l, hs, 0, x, y, h => by
    simp at h
    subst h
    exact ⟨[], itemsV vals l, by simp [itemsV], by simp, by simp [itemsV]⟩
  | a :: l, hs, i + 1, x, y, h => by
    obtain ⟨pre, tail, h1, h2, h3⟩ := items_put l (fun x hx => hs x (List.mem_cons_of_mem _ hx)) i x y (by simpa using h)
    refine ⟨vals a ++ pre, tail, ?_, ?_, ?_⟩
    · simp only [itemsV, List.flatMap_cons] at h1 ⊢
      rw [h1]; simp
    · rw [List.length_append, hs a (by simp), h2, Nat.succ_mul]; omega
    · simp only [itemsV, List.flatMap_cons, List.set_cons_succ] at h3 ⊢
      rw [h3]; simp
theorem storeAll_mid13 {b : Nat} {t : TypeId} : ∀ (vs : List Value) (i : Nat) (w : World) (pre rest tail : List Value), w.heap[b]? = some (.cells (pre ++ rest ++ tail).toArray t (0, 0)) → pre.length = i → rest.length = vs.length →
    (storeAll w b vs i).heap[b]? = some (.cells (pre ++ vs ++ tail).toArray t (0, 0))
  | [], i, w, pre, rest, tail, h, _, h2 => by
    obtain rfl : rest = [] := List.eq_nil_of_length_eq_zero (by simpa using h2)
    exact h
  | v :: vs, i, w, pre, [], tail, h, _, h2 => by simp at h2
  | v :: vs, i, w, pre, r :: rest, tail, h, h1, h2 => by
    have h3 := heap_setCell_same w b i _ t v h
    have h4 := storeAll_mid13 (t := t) vs (i + 1) (w.setCell ⟨b, i, none⟩ v) (pre ++ [v]) rest tail (by
      rw [h3]
      subst h1
      simp) (by simp [h1]) (by simpa using h2)
    simpa [storeAll] using h4
/-- A whole box stored. -/
theorem prow_put {g i : Nat} {es : List El} {W : World} {e : El} (hW : PRow g es W) (hs : ∀ e ∈ es, (elVals e).length = 10) (hi : es[i]? = some e) (y : El) (hy : (elVals y).length = 10) : PRow g (es.set i y) (storeAll W g (elVals y) (i * 10)) := by
  obtain ⟨pre, tail, h1, h2, h3⟩ := items_put es hs i e y hi
  unfold PRow at hW ⊢
  rw [h3]
  exact storeAll_mid13 (elVals y) (i * 10) W pre (elVals e) tail (by rw [← h1]; exact hW) h2 (by rw [hs e (List.mem_of_getElem? hi), hy])
/-- Where ways lead. -/
structure TosIn (W : World) (B : Nat) (c : TableP.Cfg) (node : Int) (k : Nat) (tvs : List Value) : Prop where
  len : tvs.length = c.ports.length
  own : ∀ (i : Nat) (v : Value), tvs[i]? = some v → W.ownsRow B 3 1 v (toK c node i k).length (intV (toK c node i k))
  apart : ∀ (i j : Nat) (v v' : Value), i ≠ j → tvs[i]? = some v → tvs[j]? = some v' → ∀ q, v.ownBlock = some q → v'.ownBlock ≠ some q
theorem TosIn.start (W : World) (B : Nat) (c : TableP.Cfg) (node : Int) : TosIn W B c node 0 (List.replicate c.ports.length (.slice none 0 0)) := by
  refine ⟨by simp, fun i v hv => ?_, fun i j v v' _ hv _ q hq => ?_⟩
  · rw [List.eq_of_mem_replicate (List.mem_of_getElem? hv)]
    exact World.ownsRow_nil _ _ _ _
  · rw [List.eq_of_mem_replicate (List.mem_of_getElem? hv)] at hq
    simp [Value.ownBlock] at hq
theorem TosIn.away {W W' : World} {B : Nat} {c : TableP.Cfg} {node : Int} {k : Nat} {tvs : List Value} {F : Nat → Prop} (h : TosIn W B c node k tvs) (ha : Apart F W W') (hF : ∀ q cs, W.heap[q]? = some (.cells cs 3 (0, 0)) → ¬ F q) : TosIn W' B c node k tvs :=
  ⟨h.len, fun i v hv => own_apart (h.own i v hv) ha fun q hq => by
    obtain ⟨cur, hc⟩ := (Seg.of_own (h.own i v hv)).block q hq
    exact hF q _ hc, h.apart⟩
theorem TosIn.below {W W' : World} {B : Nat} {c : TableP.Cfg} {node : Int} {k : Nat} {tvs : List Value} (h : TosIn W B c node k tvs) (hb : Below W.heap.size W W') : TosIn W' B c node k tvs := h.away (F := fun _ => False) (Apart.of_below' hb) (fun _ _ _ h => h)
theorem TosIn.skip {W : World} {B : Nat} {c : TableP.Cfg} {node : Int} {k : Nat} {tvs : List Value} {r : TableP.Route} (h : TosIn W B c node k tvs) (hr : c.routes[k]? = some r) (hw : ∀ i, wayB c node i r = false) : TosIn W B c node (k + 1) tvs :=
  ⟨h.len, fun i v hv => by
    have := h.own i v hv
    rw [toK_step hr, hw i, if_neg (by decide), List.append_nil]
    exact this, h.apart⟩
theorem TosIn.more {W W1 : World} {B : Nat} {c : TableP.Cfg} {node : Int} {k s : Nat} {tvs : List Value} {r : TableP.Route} {v v' : Value} (h : TosIn W B c node k tvs) (hr : c.routes[k]? = some r) (hs : r.src = (s : Int)) (hw : wayB c node s r = true) (hv : tvs[s]? = some v)
    (ho : W1.ownsRow B 3 1 v' ((toK c node s k).length + 1) (intV (toK c node s k) ++ [.int .i64 r.dst])) (ha : Apart (fun q => v.ownBlock = some q) W W1) (hm : v'.ownBlock = v.ownBlock ∨ ∃ q, v'.ownBlock = some q ∧ W.heap.size ≤ q) : TosIn W1 B c node (k + 1) (tvs.set s v') := by
  have hsl := (List.getElem?_eq_some_iff.1 hv).1
  have hlt : ∀ (i : Nat) (u : Value), tvs[i]? = some u → ∀ q, u.ownBlock = some q → q < W.heap.size := fun i u hu q hq => ((h.own i u hu).lt q hq).2
  have hsep : ∀ (j : Nat) (u : Value), j ≠ s → tvs[j]? = some u → ∀ q, u.ownBlock = some q → v'.ownBlock ≠ some q := fun j u hj hu q hq e => by
    rcases hm with e2 | ⟨q2, e2, e3⟩
    · exact h.apart j s u v hj hu hv q hq (by rw [← e2]; exact e)
    · rw [e] at e2
      have := hlt j u hu q hq
      have := Option.some.inj e2
      omega
  refine ⟨by rw [List.length_set]; exact h.len, fun i u hu => ?_, fun i j a b hij ha' hb' q hq => ?_⟩
  · by_cases hi : i = s
    · subst hi
      rw [List.getElem?_set_self hsl] at hu
      obtain rfl := Option.some.inj hu
      rw [toK_step hr, if_pos hw, List.length_append, intV_append]
      exact ho
    · rw [List.getElem?_set_ne (Ne.symm hi)] at hu
      have hw' : wayB c node i r = false := by
        unfold wayB
        rw [decide_eq_false (by rw [hs]; omega)]; rfl
      rw [toK_step hr, hw', if_neg (by decide), List.append_nil]
      exact own_apart (h.own i u hu) ha fun q hq e => h.apart i s u v hi hu hv q hq e
  · by_cases hi : i = s
    · subst hi
      rw [List.getElem?_set_self hsl] at ha'
      obtain rfl := Option.some.inj ha'
      rw [List.getElem?_set_ne hij] at hb'
      exact fun e => hsep j b (Ne.symm hij) hb' q e hq
    · rw [List.getElem?_set_ne (Ne.symm hi)] at ha'
      by_cases hj : j = s
      · subst hj
        rw [List.getElem?_set_self hsl] at hb'
        obtain rfl := Option.some.inj hb'
        exact hsep i a hi ha' q hq
      · rw [List.getElem?_set_ne (Ne.symm hj)] at hb'
        exact h.apart i j a b hij ha' hb' q hq
/-- A node's ports, made. -/
def NewP (w : World) (c : TableP.Cfg) (node : Int) (e : Ending) (w' : World) : Prop :=
  ∃ y : PC, e = .returned (.tuple #[pv y, .nilIface]) ∧ y.node = node ∧ PIn w' w.heap.size c y ∧ elSt y.es = PorP.start c ∧ Below w.heap.size w w'
theorem newP_of {w wr : World} {c : TableP.Cfg} {node : Int} {g n : Nat} {tvs : List Value} (hn : c.ports.length = n) (hb : Below w.heap.size w wr) (hg : w.heap.size ≤ g) (hr : PRow g (es2 c tvs) wr) (ht : TosIn wr w.heap.size c node c.routes.length tvs) :
    NewP w c node (.returned (.tuple #[.pointer (some ⟨wr.heap.size, 0, none⟩), .nilIface])) (wr.alloc (.cells #[.int .i64 node, .slice (some ⟨g, 0, none⟩) n n] 87)) := by
  have hl : (es2 c tvs).length = n := by unfold es2; rw [List.length_zipWith, ht.len, hn]; omega
  have hb2 : Below wr.heap.size wr (wr.alloc (.cells #[.int .i64 node, .slice (some ⟨g, 0, none⟩) n n] 87)) := (Below.refl _ _).alloc (Nat.le_refl _) _
  have hvs : ∀ e ∈ es2 c tvs, e.v = .slice none 0 0 ∧ e.msgs = [] ∧ e.age = 0 ∧ e.pre.length = 8 := fun e he => by
    obtain ⟨p, N, tv, rfl⟩ := es2_nb c tvs e he
    exact ⟨rfl, rfl, rfl, rfl⟩
  refine ⟨⟨wr.heap.size, g, node, es2 c tvs⟩, rfl, rfl, ⟨?_, ⟨(hb2.block g (lt_of_block hr)).trans hr, fun e he => (hvs e he).2.2.2, fun e he => ?_, fun i j e e' _ he _ q hq => ?_, fun _ e he => ?_, hg, fun e he => ?_⟩, hl.trans hn.symm, fun i e p he hp => ?_, hb.size⟩, ?_, hb.trans (hb2.mono hb.size)⟩
  · show _ = some (Obj.cells #[.int .i64 node, .slice (some ⟨g, 0, none⟩) (es2 c tvs).length (es2 c tvs).length] 87 (0, 0))
    rw [hl]
    exact heap_alloc_new wr _
  · rw [(hvs e he).1, (hvs e he).2.1]; exact LIn.nil _ _
  · rw [(hvs e (List.mem_of_getElem? he)).1] at hq
    simp [Value.ownBlock] at hq
  · rw [(hvs e he).1, (hvs e he).2.1]; exact World.ownsRow_nil _ _ _ _
  · rw [(hvs e he).2.1, (hvs e he).2.2.1]; simp
  · obtain ⟨p', tv, hp', htv, rfl⟩ := es2_get he
    rw [hp] at hp'
    obtain rfl := Option.some.inj hp'
    refine ⟨tv, rfl, ?_⟩
    have h1 := (ht.below hb2).own i tv htv
    rw [toK_all] at h1
    exact Seg.of_own h1
  · show elSt (es2 c tvs) = PorP.start c
    unfold elSt PorP.start
    rw [hn]
    apply List.ext_getElem?
    intro i
    rw [List.getElem?_map]
    cases he : (es2 c tvs)[i]? with
    | none =>
      rw [List.getElem?_eq_none_iff, hl] at he
      rw [List.getElem?_eq_none (by simpa using he)]; rfl
    | some e =>
      have hi := (List.getElem?_eq_some_iff.1 he).1
      rw [hl] at hi
      obtain ⟨-, -, -, -, rfl⟩ := es2_get he
      rw [List.getElem?_replicate, if_pos hi]; rfl
end Go.Proofs.Ytdeodoppcflgfaa
