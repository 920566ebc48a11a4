/- A node's ports in memory; contracts of find and ways. Conditions: where the ports lie, tables that are allowed, numbers in their ranges. -/
import Derived.Test.YtdeodoppcflgfaaPorS
import Derived.Test.YtdeodoppcflgfaaEls
import Derived.Test.YtdeodoppcflgfaaTbM
import Derived.Test.YtdeodoppcflgfaaMidBa
import Derived.BigQuiet
namespace Go.Proofs.Ytdeodoppcflgfaa
open Go.RowKit PorP
set_option maxRecDepth 100000

structure PC where
  a : Nat
  g : Nat
  node : Int
  es : List El
def boxPre (c : TableP.Cfg) (p : TableP.Port) (tv : Value) : List Value := portVals p ++ [.int .i64 (nodeOf c p), tv]
/-- A node's ports, at block a; its boxes at block g. -/
structure PIn (W : World) (B : Nat) (c : TableP.Cfg) (x : PC) : Prop where
  hd : W.heap[x.a]? = some (.cells #[.int .i64 x.node, .slice (some ⟨x.g, 0, none⟩) x.es.length x.es.length] 87 (0, 0))
  els : Els 8 83 true W B x.g x.es
  len : x.es.length = c.ports.length
  shape : ∀ (i : Nat) (e : El) (p : TableP.Port), x.es[i]? = some e → c.ports[i]? = some p → ∃ tv, e.pre = boxPre c p tv ∧ Seg W B 3 1 tv (toT c x.node i).length (intV (toT c x.node i))
  base : B ≤ x.a
structure BoxAt (W : World) (g o : Nat) (p : TableP.Port) (node : Int) (tv v : Value) (age : Nat) : Prop where
  c0 : W.cell? ⟨g, o, none⟩ = some (.int .i64 p.part)
  c1 : W.cell? ⟨g, o + 1, none⟩ = some (.int .u8 (p.kind : Nat))
  c2 : W.cell? ⟨g, o + 2, none⟩ = some (.bool p.out)
  c3 : W.cell? ⟨g, o + 3, none⟩ = some (.int .i64 p.size)
  c4 : W.cell? ⟨g, o + 4, none⟩ = some (.int .i64 p.depth)
  c5 : W.cell? ⟨g, o + 5, none⟩ = some (.int .i64 p.fresh)
  c6 : W.cell? ⟨g, o + 6, none⟩ = some (.int .i64 node)
  c7 : W.cell? ⟨g, o + 7, none⟩ = some tv
  c8 : W.cell? ⟨g, o + 8, none⟩ = some v
  c9 : W.cell? ⟨g, o + 9, none⟩ = some (.int .i64 (age : Nat))
theorem BoxAt.below {W W' : World} {g o : Nat} {p : TableP.Port} {node : Int} {tv v : Value} {age : Nat} (h : BoxAt W g o p node tv v age) (hg : g < W.heap.size) (hb : Below W.heap.size W W') : BoxAt W' g o p node tv v age :=
  ⟨(hb.cell (p := ⟨g, _, none⟩) hg).trans h.c0, (hb.cell (p := ⟨g, _, none⟩) hg).trans h.c1, (hb.cell (p := ⟨g, _, none⟩) hg).trans h.c2, (hb.cell (p := ⟨g, _, none⟩) hg).trans h.c3, (hb.cell (p := ⟨g, _, none⟩) hg).trans h.c4, (hb.cell (p := ⟨g, _, none⟩) hg).trans h.c5, (hb.cell (p := ⟨g, _, none⟩) hg).trans h.c6, (hb.cell (p := ⟨g, _, none⟩) hg).trans h.c7, (hb.cell (p := ⟨g, _, none⟩) hg).trans h.c8, (hb.cell (p := ⟨g, _, none⟩) hg).trans h.c9⟩

section
variable {W W' : World} {B : Nat} {c : TableP.Cfg} {x : PC}
theorem PIn.port (h : PIn W B c x) {i : Nat} {e : El} (hi : x.es[i]? = some e) : ∃ p, c.ports[i]? = some p := ⟨_, List.getElem?_eq_getElem (by rw [← h.len]; exact (List.getElem?_eq_some_iff.1 hi).1)⟩
theorem PIn.el (h : PIn W B c x) {i : Nat} {p : TableP.Port} (hi : c.ports[i]? = some p) : ∃ e, x.es[i]? = some e := ⟨_, List.getElem?_eq_getElem (by rw [h.len]; exact (List.getElem?_eq_some_iff.1 hi).1)⟩
theorem PIn.box (h : PIn W B c x) {i : Nat} {e : El} {p : TableP.Port} (hi : x.es[i]? = some e) (hp : c.ports[i]? = some p) : ∃ tv, e.pre = boxPre c p tv ∧ BoxAt W x.g (i * 10) p (nodeOf c p) tv e.v e.age ∧ Seg W B 3 1 tv (toT c x.node i).length (intV (toT c x.node i)) := by
  obtain ⟨tv, h1, h2⟩ := h.shape i e p hi hp
  have hv : ∀ j u, (elVals e)[j]? = some u → W.cell? ⟨x.g, i * 10 + j, none⟩ = some u := fun j u hu => h.els.cell hi hu
  have he : elVals e = [.int .i64 p.part, .int .u8 (p.kind : Nat), .bool p.out, .int .i64 p.size, .int .i64 p.depth, .int .i64 p.fresh, .int .i64 (nodeOf c p), tv, e.v, .int .i64 (e.age : Nat)] := by
    unfold elVals
    rw [h1]; rfl
  rw [he] at hv
  exact ⟨tv, h1, ⟨hv 0 _ rfl, hv 1 _ rfl, hv 2 _ rfl, hv 3 _ rfl, hv 4 _ rfl, hv 5 _ rfl, hv 6 _ rfl, hv 7 _ rfl, hv 8 _ rfl, hv 9 _ rfl⟩, h2⟩
theorem PIn.lt (h : PIn W B c x) : x.a < W.heap.size := lt_of_block h.hd
theorem PIn.away {F : Nat → Prop} (h : PIn W B c x) (ha : Apart F W W') (hF : ∀ k, EF x.g x.es k → ¬ F k) (hD : ∀ k, ED x.es k → ¬ F k) (h1 : ¬ F x.a) (h2 : ∀ k cs, W.heap[k]? = some (.cells cs 3 (0, 0)) → ¬ F k) : PIn W' B c x :=
  ⟨(ha.block x.a h.lt h1).trans h.hd, h.els.away ha hF hD, h.len, fun i e p hi hp => by
    obtain ⟨tv, e1, e2⟩ := h.shape i e p hi hp
    exact ⟨tv, e1, e2.apart ha fun k hk => by
      obtain ⟨cur, hc⟩ := e2.block k hk
      exact h2 k _ hc⟩, h.base⟩
theorem PIn.below (h : PIn W B c x) (hb : Below W.heap.size W W') : PIn W' B c x := h.away (F := fun _ => False) (Apart.of_below' hb) (fun _ _ h => h) (fun _ _ h => h) (fun h => h) (fun _ _ _ h => h)
theorem PIn.drew (h : PIn W B c x) : PIn W.drew B c x := h.below (Below.refl _ _).drew
/-- Where other ports, or lists that are none of its own, are written. -/
theorem PIn.beside {F : Nat → Prop} (h : PIn W B c x) (ha : Apart F W W') (hF : ∀ k, EF x.g x.es k → ¬ F k) (hT : ∀ k, F k → ∃ cs t, W.heap[k]? = some (.cells cs t (0, 0)) ∧ t ≠ 5 ∧ t ≠ 3 ∧ t ≠ 87) : PIn W' B c x := by
  have hno : ∀ k cs t, W.heap[k]? = some (.cells cs t (0, 0)) → (t = 5 ∨ t = 3 ∨ t = 87) → ¬ F k := fun k cs t hk ht hf => by
    obtain ⟨cs', t', e1, e2, e3, e4⟩ := hT k hf
    rw [hk] at e1
    simp only [Option.some.injEq, Obj.cells.injEq] at e1
    obtain ⟨-, rfl, -⟩ := e1
    rcases ht with e | e | e
    · exact e2 e
    · exact e3 e
    · exact e4 e
  refine h.away ha hF (fun k hk => ?_) (hno _ _ _ h.hd (.inr (.inr rfl))) (fun k cs hk => hno k cs _ hk (.inr (.inl rfl)))
  obtain ⟨cs, hc⟩ := h.els.dTag hk
  exact hno k cs _ hc (.inl rfl)
/-- Behind a call of its own. -/
theorem PIn.goes (h : PIn W B c x) {es' : List El} (he : Els 8 83 true W' B x.g es') (hp : es'.map El.pre = x.es.map El.pre) (hg : Goes x.g W W' x.es es') : PIn W' B c { x with es := es' } := by
  have hl : es'.length = x.es.length := by have := congrArg List.length hp; simpa using this
  refine ⟨?_, he, hl.trans h.len, fun i e p hi hq => ?_, h.base⟩
  · show W'.heap[x.a]? = some (.cells #[.int .i64 x.node, .slice (some ⟨x.g, 0, none⟩) es'.length es'.length] 87 (0, 0))
    rw [hl]
    exact (hg.apart.block x.a h.lt (h.els.fOff h.hd (by decide) (by decide))).trans h.hd
  · obtain ⟨e0, h0⟩ := h.el hq
    obtain ⟨tv, e1, e2⟩ := h.shape i e0 p h0 hq
    have h3 := congrArg (fun l => l[i]?) hp
    simp only [List.getElem?_map, h0] at h3
    rw [show (es'[i]?) = some e from hi] at h3
    have h4 : e.pre = e0.pre := by simpa using h3
    refine ⟨tv, h4.trans e1, e2.apart hg.apart fun k hk => ?_⟩
    obtain ⟨cur, hc⟩ := e2.block k hk
    exact h.els.fOff hc (by decide) (by decide)
theorem set_pre {es : List El} {i : Nat} {e e' : El} (hi : es[i]? = some e) (hp : e'.pre = e.pre) : (es.set i e').map El.pre = es.map El.pre := by
  rw [List.map_set, hp]
  apply List.ext_getElem?
  intro j
  by_cases hj : i = j
  · subst hj
    have := (List.getElem?_eq_some_iff.1 hi).1
    rw [List.getElem?_set_self (by simpa using this), List.getElem?_map, hi]; rfl
  · rw [List.getElem?_set_ne hj]
theorem PIn.set (h : PIn W B c x) {i : Nat} {e e' : El} (hi : x.es[i]? = some e) (he : Els 8 83 true W' B x.g (x.es.set i e') ∧ Goes x.g W W' x.es (x.es.set i e')) (hp : e'.pre = e.pre) : PIn W' B c { x with es := x.es.set i e' } :=
  h.goes he.1 (set_pre hi hp) he.2
end

def pv (x : PC) : Value := .pointer (some ⟨x.a, 0, none⟩)
def foundV (c : TableP.Cfg) (x : PC) (part port : Int) : Value := if hasB c x.node part port = true then .pointer (some ⟨x.g, port.toNat * 10, none⟩) else .pointer none

set_option maxHeartbeats 1000000 in
theorem pfind_any (w : World) (B : Nat) (c : TableP.Cfg) (x : PC) (h : PIn w B c x) (part port : Int) (hl : c.ports.length ≤ 24) :
    Calls Try.prog 43 #[pv x, .int .i64 part, .int .i64 port] w (Quiet (foundV c x part port) w) := by
  have k1 := cell_at h.hd 1 rfl
  have k0 := cell_at h.hd 0 rfl
  have HL := Lib.hid h.len
  by_cases h0 : port < 0
  · have e1 : foundV c x part port = .pointer none := by
      unfold foundV hasB
      rw [if_neg (by simp; omega)]
    have q1 : decide (port < 0) = true := decide_eq_true h0
    rw [e1]
    unfold pv
    clear h h0 hl e1
    go_enter Try.func43, Try.ntmps43
    go_wp2_with fail
    go_ret
    exact ⟨rfl, 0, rfl⟩
  have q1 : decide (port < 0) = false := decide_eq_false h0
  obtain ⟨k, rfl⟩ := Int.eq_ofNat_of_zero_le (show 0 ≤ port by omega)
  by_cases h2 : x.es.length ≤ k
  · have e1 : foundV c x part k = .pointer none := by
      unfold foundV hasB
      rw [if_neg]
      rw [List.getElem?_eq_none (by rw [← HL.out]; simpa using h2)]
      simp
    have q2 : decide ((x.es.length : Int) ≤ (k : Int)) = true := decide_eq_true (by omega)
    have q3 : decide (x.es.length ≤ k) = true := decide_eq_true h2
    rw [e1]
    unfold pv
    clear h h0 hl e1 h2
    go_enter Try.func43, Try.ntmps43
    go_wp2_with fail
    go_ret
    exact ⟨rfl, 0, rfl⟩
  have q2 : decide ((x.es.length : Int) ≤ (k : Int)) = false := decide_eq_false (by omega)
  have q3 : decide (x.es.length ≤ k) = false := decide_eq_false h2
  obtain ⟨e, he⟩ : ∃ e, x.es[k]? = some e := ⟨_, List.getElem?_eq_getElem (by omega)⟩
  obtain ⟨p, hp⟩ := h.port he
  obtain ⟨tv, -, hbx, -⟩ := h.box he hp
  have b0 := hbx.c0
  have b6 := hbx.c6
  have ef : foundV c x part k = if p.part = part ∧ nodeOf c p = x.node then .pointer (some ⟨x.g, k * 10, none⟩) else .pointer none := by
    unfold foundV hasB mineB
    rw [Int.toNat_natCast, hp]
    simp
  rw [ef]
  have hlt : k < x.es.length := by omega
  generalize hN : nodeOf c p = N at *
  generalize hP : p.part = P at *
  unfold pv
  generalize x.es.length = n at *
  have hn24 : n ≤ 24 := by have := HL.out; omega
  clear h hp he hbx hN hP ef h0 h2 hl
  by_cases h3 : P = part
  · have t1 : (P != part) = false := by simp [h3]
    by_cases h4 : N = x.node
    · have t2 : (N != x.node) = false := by simp [h4]
      rw [if_pos ⟨h3, h4⟩]
      clear h3 h4
      go_enter Try.func43, Try.ntmps43
      go_wp2_with fail
      go_quiet (fail)
      go_wp2_with fail
      go_ret
      exact ⟨rfl, _, rfl⟩
    · have t2 : (N != x.node) = true := by simp [h4]
      rw [if_neg (fun e => h4 e.2)]
      clear h3 h4
      go_enter Try.func43, Try.ntmps43
      go_wp2_with fail
      go_quiet (fail)
      go_wp2_with fail
      go_ret
      exact ⟨rfl, _, rfl⟩
  · have t1 : (P != part) = true := by simp [h3]
    rw [if_neg (fun e => h3 e.1)]
    clear h3
    go_enter Try.func43, Try.ntmps43
    go_wp2_with fail
    go_quiet (fail)
    go_wp2_with fail
    go_ret
    exact ⟨rfl, _, rfl⟩
end Go.Proofs.Ytdeodoppcflgfaa
