/- Two copies of boxed tables, whose rows are the call's own. No conditions. -/
import Derived.Test.YtpfhkcikjenjiaaSndMp
import Derived.Test.YtpfhkcikjenjiaaSndK
import Derived.Test.YtpfhkcikjenjiaaTbY
import Derived.Test.YtpfhkcikjenjiaaSndY
namespace Go.Proofs.Ytpfhkcikjenjiaa
open Go.RowKit
set_option maxRecDepth 100000

/-- The lists of tables, rows of the call's own. -/
structure CopyI (B : Nat) (c : CfgC) (W : World) : Prop where
  plen : c.parts.length = c.pn
  qlen : c.ports.length = c.qn
  rlen : c.routes.length = c.rn
  parts : OwnI partVals 9 47 B (.slice c.PA c.pn c.pcap) c.parts W
  ports : OwnI portVals 6 53 B (.slice c.QA c.qn c.qcap) c.ports W
  routes : OwnI routeVals 2 50 B (.slice c.RA c.rn c.rcap) c.routes W
theorem CopyI.cfg {B : Nat} {c : CfgC} {W : World} (h : CopyI B c W) (h1 : c.pn ≤ 1000) (h2 : c.qn ≤ 1000) (h3 : c.rn ≤ 1000) : CfgIn W c := by
  obtain ⟨p1, p2⟩ := items_own' partVals_len h.parts h.plen
  obtain ⟨q1, q2⟩ := items_own' portVals_len h.ports h.qlen
  obtain ⟨r1, r2⟩ := items_own' routeVals_len h.routes h.rlen
  exact ⟨p2, h.plen, p1, by omega, q2, h.qlen, q1, by omega, r2, h.rlen, r1, by omega⟩
theorem OwnI.kept {α : Type} {vals : α → List Value} {size : Nat} {e : TypeId} {B : Nat} {v : Value} {l : List α} {W W' : World} (h : OwnI vals size e B v l W) (hb : Below W.heap.size W W') : OwnI vals size e B v l W' :=
  h.new (F := fun _ => False) (Apart.of_below' hb) (fun _ _ h => h)
/-- A row lies in no block of another type. -/
theorem own_off {W : World} {B e size n T : Nat} {v : Value} {xs : List Value} {cs : Array Value} {t : TypeId} (h : W.ownsRow B e size v n xs) (hT : W.heap[T]? = some (.cells cs t (0, 0))) (hne : e ≠ t) (q : Nat) (hq : v.ownBlock = some q) : q ≠ T := fun e1 => by
  subst e1
  rcases h.2 with ⟨rfl, -⟩ | ⟨g, cap, cur, rfl, -, hg, -⟩
  · simp [Value.ownBlock] at hq
  · simp [Value.ownBlock] at hq
    subst hq
    rw [hT] at hg
    simp at hg
    exact hne hg.2.symm
theorem CopyI.kept {B : Nat} {c : CfgC} {W W' : World} (h : CopyI B c W) (hb : Below W.heap.size W W') : CopyI B c W' :=
  ⟨h.plen, h.qlen, h.rlen, h.parts.kept hb, h.ports.kept hb, h.routes.kept hb⟩
theorem CopyI.box {B : Nat} {c : CfgC} {W W' : World} (h : CopyI B c W) {T : Nat} {cs : Array Value} (hT : W.heap[T]? = some (.cells cs 26 (0, 0))) (ha : Apart (fun q => q = T) W W') : CopyI B c W' :=
  ⟨h.plen, h.qlen, h.rlen, h.parts.new ha (fun q hq e => own_off h.parts.own hT (by decide) q hq e), h.ports.new ha (fun q hq e => own_off h.ports.own hT (by decide) q hq e), h.routes.new ha (fun q hq e => own_off h.routes.own hT (by decide) q hq e)⟩
/-- The two boxes and their rows. -/
structure MoreS (w : World) (x : CfgC) (B Bb : Nat) (ca cb : CfgC) (T5 T6 : Nat) (W : World) : Prop where
  box : BoxS w x W
  t5 : W.heap[T5]? = some (.cells (cfgCells ca) 26 (0, 0))
  t6 : W.heap[T6]? = some (.cells (cfgCells cb) 26 (0, 0))
  ne : T5 ≠ T6
  hi : (boxC w x).heap.size ≤ B ∧ B ≤ T5 ∧ B ≤ T6 ∧ B ≤ Bb ∧ Bb ≤ W.heap.size
  a : CopyI B ca W
  ah : ∀ q, (Value.slice ca.PA ca.pn ca.pcap).ownBlock = some q → q < Bb
  blen : cb.parts.length = cb.pn
  b : OwnI partVals 9 47 Bb (.slice cb.PA cb.pn cb.pcap) cb.parts W
def zeroC : Array Value := #[.int .i64 0, .int .i64 0, .int .i64 0, .int .i64 0, .int .i64 0, .int .i64 0, .int .i64 0, .int .i64 0, .slice none 0 0, .slice none 0 0, .slice none 0 0]
theorem box_fill {W : World} {T : Nat} {cs : Array Value} (hcs : cs.size = 11) (h : W.heap[T]? = some (.cells cs 26 (0, 0))) (c : CfgC) : (storeAll W T (cfgCells c).toList 0).heap[T]? = some (.cells (cfgCells c) 26 (0, 0)) := by
  have h1 := storeAll_heap (b := T) (t := 26) (cfgCells c).toList 0 W [] cs.toList (by simpa using h) rfl (by simp [hcs, cfgCells])
  simpa using h1
/-- Both boxes filled. -/
theorem more_fin {w : World} {x : CfgC} {B Bb : Nat} {ca cb : CfgC} {T5 T6 : Nat} {W : World} (hd : BoxS w x W) (h5 : W.heap[T5]? = some (.cells zeroC 26 (0, 0))) (h6 : W.heap[T6]? = some (.cells zeroC 26 (0, 0))) (hne : T5 ≠ T6)
    (hi : (boxC w x).heap.size ≤ B ∧ B ≤ T5 ∧ B ≤ T6 ∧ B ≤ Bb ∧ Bb ≤ W.heap.size) (ha : CopyI B ca W) (hah : ∀ q, (Value.slice ca.PA ca.pn ca.pcap).ownBlock = some q → q < Bb) (hbl : cb.parts.length = cb.pn) (hb : OwnI partVals 9 47 Bb (.slice cb.PA cb.pn cb.pcap) cb.parts W) :
    BoxS w x (storeAll W T5 (cfgCells ca).toList 0) ∧ (storeAll W T5 (cfgCells ca).toList 0).heap[T6]? = some (.cells zeroC 26 (0, 0)) ∧ MoreS w x B Bb ca cb T5 T6 (storeAll (storeAll W T5 (cfgCells ca).toList 0) T6 (cfgCells cb).toList 0) := by
  have a1 := storeAll_apart T5 (cfgCells ca).toList 0 W
  have f5 := box_fill (by rfl) h5 ca
  have g6 : (storeAll W T5 (cfgCells ca).toList 0).heap[T6]? = some (.cells zeroC 26 (0, 0)) := (a1.block T6 (lt_of_block h6) (Ne.symm hne)).trans h6
  have b1 : BoxS w x (storeAll W T5 (cfgCells ca).toList 0) := Below.trans hd (a1.below hd.size (fun q hq => by omega))
  have a2 := storeAll_apart T6 (cfgCells cb).toList 0 (storeAll W T5 (cfgCells ca).toList 0)
  refine ⟨b1, g6, Below.trans b1 (a2.below b1.size (fun q hq => by omega)), (a2.block T5 (lt_of_block f5) hne).trans f5, box_fill (by rfl) g6 cb, hne, ?_, (ha.box h5 a1).box g6 a2, hah, hbl, ?_⟩
  · have := a1.size
    have := a2.size
    omega
  · have h1 := hb.new a1 (fun q hq e => own_off hb.own h5 (by decide) q hq e)
    exact h1.new a2 (fun q hq e => own_off h1.own g6 (by decide) q hq e)
theorem wpAnyH_gen {P : Program} {md : Region.Mode} {ops : Array Oper} {Q : Exit → Act → World → Prop} {S : World → Prop} {fuel : Nat} {listed : Array Bool} {a : Act} {w : World} (h : ∀ W, W = w → wpAnyH P md ops Q S fuel listed a W) : wpAnyH P md ops Q S fuel listed a w := h w rfl
theorem own_tag6 {w : World} {B B' e e' size size' n n' : Nat} {v v' : Value} {xs xs' : List Value} (h : w.ownsRow B e size v n xs) (h' : w.ownsRow B' e' size' v' n' xs') (hne : e ≠ e') (q : Nat) (hq : v.ownBlock = some q) : v'.ownBlock ≠ some q := fun hq' => by
  rcases h'.2 with ⟨rfl, -⟩ | ⟨g, cap, cur, rfl, -, hg, -⟩
  · simp [Value.ownBlock] at hq'
  · simp [Value.ownBlock] at hq'
    subst hq'
    exact own_off h hg hne _ hq rfl
theorem own_cut {w : World} {B e size g n cap k : Nat} {xs : List Value} (h : w.ownsRow B e size (.slice (some ⟨g, 0, none⟩) n cap) n xs) (hk : k ≤ n) : w.ownsRow B e size (.slice (some ⟨g, 0, none⟩) k cap) k (xs.take (k * size)) := by
  have hm := Nat.mul_le_mul_right size hk
  refine ⟨by rw [List.length_take, h.1]; omega, ?_⟩
  rcases h.2 with ⟨h1, -⟩ | ⟨g', cap', cur, h1, h2, h3, h4, h5, h6, h7⟩
  · cases h1
  · cases h1
    exact .inr ⟨g, cap, cur, rfl, h2, h3, by omega, h5, h6, by rw [← h7, List.take_take, Nat.min_eq_left hm]⟩
theorem items_take {α : Type} {vals : α → List Value} {size : Nat} (hs : ∀ x, (vals x).length = size) : ∀ (l : List α) (k : Nat), (itemsV vals l).take (k * size) = itemsV vals (l.take k)
  | [], k => by simp [itemsV]
  | x :: r, 0 => by simp [itemsV]
  | x :: r, k + 1 => by
    have ih := items_take hs r k
    have e : (k + 1) * size = (vals x).length + k * size := by rw [hs x, Nat.add_mul, Nat.one_mul, Nat.add_comm]
    simp only [itemsV, List.flatMap_cons, List.take_succ_cons] at ih ⊢
    rw [e, List.take_length_add_append, ih]
theorem items_drop {α : Type} {vals : α → List Value} {size : Nat} (hs : ∀ x, (vals x).length = size) : ∀ (l : List α) (k : Nat), (itemsV vals l).drop (k * size) = itemsV vals (l.drop k)
  | [], k => by simp [itemsV]
  | x :: r, 0 => by simp [itemsV]
  | x :: r, k + 1 => by
    have ih := items_drop hs r k
    have e : (k + 1) * size = (vals x).length + k * size := by rw [hs x, Nat.add_mul, Nat.one_mul, Nat.add_comm]
    simp only [itemsV, List.flatMap_cons, List.drop_succ_cons] at ih ⊢
    rw [e, List.drop_length_add_append, ih]
section
variable {P : Program}
/-- s[lo:], of elements of so many cells each. -/
theorem run_slice_froms (W : World) (t e : TypeId) (sz : Nat) (ht : P.underlying t = some (.slice e)) (hz : ∀ w, (Go.sizeOf e).run P w = .ok sz w) (b o : Nat) (len cap : Nat) (lo : Int) (k : Nat) (hlo : lo = k) (h1 : k ≤ len) :
    (Instr.slice t (.slice (some ⟨b, o, none⟩) len cap) (some (.int .i64 lo)) none none).run P W = .ok (.slice (some (if cap = k then ⟨b, o, none⟩ else ⟨b, o + k * sz, none⟩)) (len - k) (cap - k)) W := by
  subst hlo
  have ht' : P.underlying t = some (.slice (P.elem t)) := by simp [Program.elem, ht]
  have he : P.elem t = e := by simp [Program.elem, ht]
  rw [run_slice_l W t _ _ _ ht' .i64 _ (by omega) (by omega), he, hz]
  have ha : (⟨b, o, none⟩ : Addr).add (k * sz) = ⟨b, o + k * sz, none⟩ := addr_addB b o (k * sz)
  simp only [Result.andThen, sliced, Int.toNat_natCast]
  by_cases h : cap = k
  · rw [if_pos h, if_pos h]
  · rw [if_neg h, if_neg h]
    simp [ha]
theorem step_append_m {w0 : World} {ops : Array Oper} {o : Oper} {a : Act} {K : Act → World → Prop} {Q : Exit → Act → World → Prop} {E : Prop} (hgd : o.guard = none) (s x : Operand) (t : TypeId)
    (ho : o.op = .call { callee := .builtin .append, args := #[s, x], argTypes := #[t, t] }) (B : Nat) (e : TypeId) (z : Value) (size bytes : Nat)
    (ht : P.underlying t = some (.slice e)) (hinfo : (P.info? e).map (fun i => (i.zero, i.size, i.bytes)) = some (some z, size, bytes)) (hzs : z.cells.size = size) (hsz : 0 < size)
    (v : Value) (n : Nat) (xs : List Value) (hs : a.eval s = v) (hown : w0.ownsRow B e size v n xs) (A : Option Addr) (m c : Nat) (news : List Value) (hx : a.eval x = .slice A m c) (hl : news.length = m * size)
    (hnews : 0 < m → ∃ ad, A = some ad ∧ ∀ j u, news[j]? = some u → w0.cell? (ad.add j) = some u) (h1 : ∀ u ∈ news, u.oneCell' = true)
    (h63 : n + m ≤ maxLen) (hbytes : (n + m) * bytes ≤ 140737488355328) (hB : B ≤ w0.heap.size)
    (h : ∀ v' w', w'.ownsRow B e size v' (n + m) (xs ++ news) → Apart (fun k => v.ownBlock = some k) w0 w' → (v'.ownBlock = v.ownBlock ∨ v'.ownBlock = some w0.heap.size) → K (a.put o.dst v') w') :
    if Region.wanted o (yielded ops a.tmps) = true then Oper.wp P o a w0 K Q else E := by
  have hw : Region.wanted o (yielded ops a.tmps) = true := by simp [Region.wanted, hgd]
  rw [if_pos hw]
  exact wp_append_s s x t ho B e z size bytes ht hinfo hzs hsz v n xs hs hown A m c news hx hl hnews h1 h63 hbytes hB h
end
/-- The cells behind the k-th element. -/
theorem tail_cells {α : Type} {vals : α → List Value} {size : Nat} (hs : ∀ x, (vals x).length = size) {w : World} {B e g n cap k : Nat} {l : List α} (h : w.ownsRow B e size (.slice (some ⟨g, 0, none⟩) n cap) n (itemsV vals l)) (hk : k < n) (hn : n ≤ cap) :
    0 < n - (k + 1) → ∃ ad : Addr, (some (if cap = k + 1 then (⟨g, 0, none⟩ : Addr) else ⟨g, (k + 1) * size, none⟩)) = some ad ∧ ∀ (j : Nat) u, (itemsV vals (l.drop (k + 1)))[j]? = some u → w.cell? (ad.add j) = some u := fun hlt => by
  rw [if_neg (by omega)]
  refine ⟨_, rfl, fun j u hj => ?_⟩
  rw [← items_drop hs, List.getElem?_drop] at hj
  have hj2 := (List.getElem?_eq_some_iff.1 hj).1
  rw [h.1] at hj2
  rw [addr_addB, h.cellAt _ hj2]
  exact hj
theorem more_mid {w : World} {x : CfgC} {B Bb : Nat} {ca cb : CfgC} {T5 T6 : Nat} {W w1 : World} (hM : MoreS w x B Bb ca cb T5 T6 W) (ha : Apart (fun q => (Value.slice ca.RA ca.rn ca.rcap).ownBlock = some q) W w1) : w1.heap[T5]? = some (.cells (cfgCells ca) 26 (0, 0)) :=
  (ha.block T5 (lt_of_block hM.t5) (fun e => own_off hM.a.routes.own hM.t5 (by decide) T5 e rfl)).trans hM.t5
/-- The routes of one copy are fewer. -/
theorem more_route {w : World} {x : CfgC} {B Bb : Nat} {ca cb : CfgC} {T5 T6 : Nat} {W w1 : World} (hM : MoreS w x B Bb ca cb T5 T6 W) (ha : Apart (fun q => (Value.slice ca.RA ca.rn ca.rcap).ownBlock = some q) W w1) {A1 : Option Addr} {n1 c1 : Nat} {l' : List TableP.Route} (hl : l'.length = n1)
    (ho : w1.ownsRow B 50 2 (.slice A1 n1 c1) n1 (itemsV routeVals l')) : MoreS w x B Bb { ca with RA := A1, rn := n1, rcap := c1, routes := l' } cb T5 T6 (w1.setCell ⟨T5, 10, none⟩ (.slice A1 n1 c1)) := by
  have h5 := more_mid hM ha
  have a2 : Apart (fun q => q = T5) w1 (w1.setCell ⟨T5, 10, none⟩ (.slice A1 n1 c1)) := Apart.setCell (F := fun q => q = T5) (Apart.refl _ w1) (p := ⟨T5, 10, none⟩) (.inl rfl) _
  obtain ⟨i1, i2, i3, i4, i5⟩ := hM.hi
  have b1 : BoxS w x w1 := Below.trans hM.box (ha.below hM.box.size (fun q hq => by have := (hM.a.routes.own.lt q hq).1; omega))
  subst hl
  refine ⟨Below.trans b1 (a2.below b1.size (fun q hq => by omega)), heap_setCell_same w1 T5 10 (cfgCells ca) 26 (.slice A1 l'.length c1) h5, ?_, hM.ne, ?_, ⟨hM.a.plen, hM.a.qlen, rfl, ?_, ?_, ?_⟩, hM.ah, hM.blen, ?_⟩
  · exact (a2.block T6 (by have := ha.size; have := lt_of_block hM.t6; omega) (Ne.symm hM.ne)).trans ((ha.block T6 (lt_of_block hM.t6) (fun e => own_off hM.a.routes.own hM.t6 (by decide) T6 e rfl)).trans hM.t6)
  · have := ha.size
    have := a2.size
    omega
  · have h1 := hM.a.parts.new ha (fun q hq e => own_tag6 hM.a.parts.own hM.a.routes.own (by decide) q hq e)
    exact h1.new a2 (fun q hq e => own_off h1.own h5 (by decide) q hq e)
  · have h1 := hM.a.ports.new ha (fun q hq e => own_tag6 hM.a.ports.own hM.a.routes.own (by decide) q hq e)
    exact h1.new a2 (fun q hq e => own_off h1.own h5 (by decide) q hq e)
  · have h1 : OwnI routeVals 2 50 B (.slice A1 l'.length c1) l' w1 := ⟨ho⟩
    exact h1.new a2 (fun q hq e => own_off h1.own h5 (by decide) q hq e)
  · have h1 := hM.b.new ha (fun q hq e => own_tag6 hM.b.own hM.a.routes.own (by decide) q hq e)
    exact h1.new a2 (fun q hq e => own_off h1.own h5 (by decide) q hq e)
theorem more_mid6 {w : World} {x : CfgC} {B Bb : Nat} {ca cb : CfgC} {T5 T6 : Nat} {W w1 : World} (hM : MoreS w x B Bb ca cb T5 T6 W) (ha : Apart (fun q => (Value.slice cb.PA cb.pn cb.pcap).ownBlock = some q) W w1) : w1.heap[T6]? = some (.cells (cfgCells cb) 26 (0, 0)) :=
  (ha.block T6 (lt_of_block hM.t6) (fun e => own_off hM.b.own hM.t6 (by decide) T6 e rfl)).trans hM.t6
/-- The partitions of the other copy are fewer. -/
theorem more_part {w : World} {x : CfgC} {B Bb : Nat} {ca cb : CfgC} {T5 T6 : Nat} {W w1 : World} (hM : MoreS w x B Bb ca cb T5 T6 W) (ha : Apart (fun q => (Value.slice cb.PA cb.pn cb.pcap).ownBlock = some q) W w1) {A1 : Option Addr} {n1 c1 : Nat} {l' : List TableP.Part} (hl : l'.length = n1)
    (ho : w1.ownsRow Bb 47 9 (.slice A1 n1 c1) n1 (itemsV partVals l')) : MoreS w x B Bb ca { cb with PA := A1, pn := n1, pcap := c1, parts := l' } T5 T6 (w1.setCell ⟨T6, 8, none⟩ (.slice A1 n1 c1)) := by
  have h6 := more_mid6 hM ha
  have a2 : Apart (fun q => q = T6) w1 (w1.setCell ⟨T6, 8, none⟩ (.slice A1 n1 c1)) := Apart.setCell (F := fun q => q = T6) (Apart.refl _ w1) (p := ⟨T6, 8, none⟩) (.inl rfl) _
  obtain ⟨i1, i2, i3, i4, i5⟩ := hM.hi
  have b1 : BoxS w x w1 := Below.trans hM.box (ha.below hM.box.size (fun q hq => by have := (hM.b.own.lt q hq).1; omega))
  subst hl
  refine ⟨Below.trans b1 (a2.below b1.size (fun q hq => by omega)), ?_, heap_setCell_same w1 T6 8 (cfgCells cb) 26 (.slice A1 l'.length c1) h6, hM.ne, ?_, ⟨hM.a.plen, hM.a.qlen, hM.a.rlen, ?_, ?_, ?_⟩, hM.ah, rfl, ?_⟩
  · exact (a2.block T5 (by have := ha.size; have := lt_of_block hM.t5; omega) hM.ne).trans ((ha.block T5 (lt_of_block hM.t5) (fun e => own_off hM.b.own hM.t5 (by decide) T5 e rfl)).trans hM.t5)
  · have := ha.size
    have := a2.size
    omega
  · have h1 := hM.a.parts.new ha (fun q hq e => by have := hM.ah q hq; have := (hM.b.own.lt q e).1; omega)
    exact h1.new a2 (fun q hq e => own_off h1.own h6 (by decide) q hq e)
  · have h1 := hM.a.ports.new ha (fun q hq e => own_tag6 hM.a.ports.own hM.b.own (by decide) q hq e)
    exact h1.new a2 (fun q hq e => own_off h1.own h6 (by decide) q hq e)
  · have h1 := hM.a.routes.new ha (fun q hq e => own_tag6 hM.a.routes.own hM.b.own (by decide) q hq e)
    exact h1.new a2 (fun q hq e => own_off h1.own h6 (by decide) q hq e)
  · have h1 : OwnI partVals 9 47 Bb (.slice A1 l'.length c1) l' w1 := ⟨ho⟩
    exact h1.new a2 (fun q hq e => own_off h1.own h6 (by decide) q hq e)
/-- The other copy has no ports and no routes. -/
theorem more_nil {w : World} {x : CfgC} {B Bb : Nat} {ca cb : CfgC} {T5 T6 : Nat} {W : World} (hM : MoreS w x B Bb ca cb T5 T6 W) : MoreS w x B Bb ca { cb with QA := none, qn := 0, qcap := 0, ports := [], RA := none, rn := 0, rcap := 0, routes := [] } T5 T6 ((W.setCell ⟨T6, 9, none⟩ (.slice none 0 0)).setCell ⟨T6, 10, none⟩ (.slice none 0 0)) := by
  have h1 := heap_setCell_same W T6 9 (cfgCells cb) 26 (.slice none 0 0) hM.t6
  have h2 := heap_setCell_same (W.setCell ⟨T6, 9, none⟩ (.slice none 0 0)) T6 10 _ 26 (.slice none 0 0) h1
  have a2 : Apart (fun q => q = T6) W ((W.setCell ⟨T6, 9, none⟩ (.slice none 0 0)).setCell ⟨T6, 10, none⟩ (.slice none 0 0)) := Apart.setCell (F := fun q => q = T6) (Apart.setCell (F := fun q => q = T6) (Apart.refl _ W) (p := ⟨T6, 9, none⟩) (.inl rfl) _) (p := ⟨T6, 10, none⟩) (.inl rfl) _
  obtain ⟨i1, i2, i3, i4, i5⟩ := hM.hi
  refine ⟨Below.trans hM.box (a2.below hM.box.size (fun q hq => by omega)), (a2.block T5 (lt_of_block hM.t5) hM.ne).trans hM.t5, h2, hM.ne, ?_, hM.a.box hM.t6 a2, hM.ah, hM.blen, hM.b.new a2 (fun q hq e => own_off hM.b.own hM.t6 (by decide) q hq e)⟩
  have := a2.size
  omega
theorem MoreS.kept {w : World} {x : CfgC} {B Bb : Nat} {ca cb : CfgC} {T5 T6 : Nat} {W W' : World} (hM : MoreS w x B Bb ca cb T5 T6 W) (hb : Below W.heap.size W W') : MoreS w x B Bb ca cb T5 T6 W' := by
  obtain ⟨i1, i2, i3, i4, i5⟩ := hM.hi
  exact ⟨hM.box.step hb, (hb.block T5 (lt_of_block hM.t5)).trans hM.t5, (hb.block T6 (lt_of_block hM.t6)).trans hM.t6, hM.ne, ⟨i1, i2, i3, i4, Nat.le_trans i5 hb.size⟩, hM.a.kept hb, hM.ah, hM.blen, hM.b.kept hb⟩
/-- The other copy's tables are in memory. -/
theorem more_cfg {w : World} {x : CfgC} {B Bb : Nat} {ca cb : CfgC} {T5 T6 : Nat} {W : World} (hM : MoreS w x B Bb ca cb T5 T6 W) (h1 : cb.pn ≤ 1000) (hq : cb.qn = 0 ∧ cb.qcap = 0 ∧ cb.ports = [] ∧ cb.QA = none) (hr : cb.rn = 0 ∧ cb.rcap = 0 ∧ cb.routes = [] ∧ cb.RA = none) : CfgIn W cb := by
  obtain ⟨p1, p2⟩ := items_own' partVals_len hM.b hM.blen
  obtain ⟨q1, q2, q3, q4⟩ := hq
  obtain ⟨r1, r2, r3, r4⟩ := hr
  exact ⟨p2, hM.blen, p1, by omega, by rw [q3, q4]; exact ItemsIn.nil _ _ _ _, by rw [q3, q1]; rfl, by omega, by omega, by rw [r3, r4]; exact ItemsIn.nil _ _ _ _, by rw [r3, r1]; rfl, by omega, by omega⟩
end Go.Proofs.Ytpfhkcikjenjiaa
