/- Tables in memory: partitions, ports, routes, tables as a value (CfgIn); rows of elements that lie in memory. Over whatever program. No conditions. · Contracts of table's within, place, mostFresh, way and the document's up. No conditions. · Contracts of table's inRange, partInRange, lawful. Conditions: numbers within their types. · Contract of table's partInRange. Conditions: numbers within their types. · Contract of table's lawful. Conditions: numbers within their types. · Contract of table's Check at tables in memory. Conditions: where its lists lie. · Contract of table's Check at tables in memory: the lists. Conditions: where its lists lie. -/
import Derived.Test.YtfgpfmhjnccccaaPlA
import Derived.Test.YtfgpfmhjnccccaaMem
import Derived.Test.YtfgpfmhjnccccaaWirM
import Derived.Deep.QuietTactic
import Derived.BigQuiet
namespace Go.Proofs.Ytfgpfmhjnccccaa
open Go.RowKit

def partVals (p : TableP.Part) : List Value := [.int .i64 p.node, .int .i64 p.start, .int .i64 p.length, .int .i64 p.budget, .int .i64 p.words, .int .u8 (p.r0 : Nat), .int .u8 (p.r1 : Nat), .int .u8 (p.r2 : Nat), .int .u8 (p.r3 : Nat)]
def portVals (p : TableP.Port) : List Value := [.int .i64 p.part, .int .u8 (p.kind : Nat), .bool p.out, .int .i64 p.size, .int .i64 p.depth, .int .i64 p.fresh]
def routeVals (p : TableP.Route) : List Value := [.int .i64 p.src, .int .i64 p.dst]

/-- Where the k-th partition's cells lie, and so on. -/
structure PartAt (W : World) (b o : Nat) (p : TableP.Part) : Prop where
  c0 : W.cell? ⟨b, o, none⟩ = some (.int .i64 p.node)
  c1 : W.cell? ⟨b, o + 1, none⟩ = some (.int .i64 p.start)
  c2 : W.cell? ⟨b, o + 2, none⟩ = some (.int .i64 p.length)
  c3 : W.cell? ⟨b, o + 3, none⟩ = some (.int .i64 p.budget)
  c4 : W.cell? ⟨b, o + 4, none⟩ = some (.int .i64 p.words)
  c5 : W.cell? ⟨b, o + 5, none⟩ = some (.int .u8 (p.r0 : Nat))
  c6 : W.cell? ⟨b, o + 6, none⟩ = some (.int .u8 (p.r1 : Nat))
  c7 : W.cell? ⟨b, o + 7, none⟩ = some (.int .u8 (p.r2 : Nat))
  c8 : W.cell? ⟨b, o + 8, none⟩ = some (.int .u8 (p.r3 : Nat))
structure PortAt (W : World) (b o : Nat) (p : TableP.Port) : Prop where
  c0 : W.cell? ⟨b, o, none⟩ = some (.int .i64 p.part)
  c1 : W.cell? ⟨b, o + 1, none⟩ = some (.int .u8 (p.kind : Nat))
  c2 : W.cell? ⟨b, o + 2, none⟩ = some (.bool p.out)
  c3 : W.cell? ⟨b, o + 3, none⟩ = some (.int .i64 p.size)
  c4 : W.cell? ⟨b, o + 4, none⟩ = some (.int .i64 p.depth)
  c5 : W.cell? ⟨b, o + 5, none⟩ = some (.int .i64 p.fresh)
structure RouteAt (W : World) (b o : Nat) (p : TableP.Route) : Prop where
  c0 : W.cell? ⟨b, o, none⟩ = some (.int .i64 p.src)
  c1 : W.cell? ⟨b, o + 1, none⟩ = some (.int .i64 p.dst)

theorem parts_at {W : World} {A : Option Addr} {l : List TableP.Part} (h : ItemsIn partVals 9 W A l) {k : Nat} {p : TableP.Part} (hk : l[k]? = some p) : ∃ b off, A = some ⟨b, off, none⟩ ∧ b < W.heap.size ∧ PartAt W b (off + k * 9) p := by
  obtain ⟨b, off, e, hb, hi⟩ := h (by have := (List.getElem?_eq_some_iff.1 hk).1; omega)
  have := hi k p hk
  exact ⟨b, off, e, hb, ⟨this 0 _ rfl, this 1 _ rfl, this 2 _ rfl, this 3 _ rfl, this 4 _ rfl, this 5 _ rfl, this 6 _ rfl, this 7 _ rfl, this 8 _ rfl⟩⟩
theorem ports_at {W : World} {A : Option Addr} {l : List TableP.Port} (h : ItemsIn portVals 6 W A l) {k : Nat} {p : TableP.Port} (hk : l[k]? = some p) : ∃ b off, A = some ⟨b, off, none⟩ ∧ b < W.heap.size ∧ PortAt W b (off + k * 6) p := by
  obtain ⟨b, off, e, hb, hi⟩ := h (by have := (List.getElem?_eq_some_iff.1 hk).1; omega)
  have := hi k p hk
  exact ⟨b, off, e, hb, ⟨this 0 _ rfl, this 1 _ rfl, this 2 _ rfl, this 3 _ rfl, this 4 _ rfl, this 5 _ rfl⟩⟩
theorem routes_at {W : World} {A : Option Addr} {l : List TableP.Route} (h : ItemsIn routeVals 2 W A l) {k : Nat} {p : TableP.Route} (hk : l[k]? = some p) : ∃ b off, A = some ⟨b, off, none⟩ ∧ b < W.heap.size ∧ RouteAt W b (off + k * 2) p := by
  obtain ⟨b, off, e, hb, hi⟩ := h (by have := (List.getElem?_eq_some_iff.1 hk).1; omega)
  have := hi k p hk
  exact ⟨b, off, e, hb, ⟨this 0 _ rfl, this 1 _ rfl⟩⟩

theorem partVals_len (p : TableP.Part) : (partVals p).length = 9 := rfl
theorem portVals_len (p : TableP.Port) : (portVals p).length = 6 := rfl
theorem routeVals_len (p : TableP.Route) : (routeVals p).length = 2 := rfl
theorem partVals_one (p : TableP.Part) : ∀ u ∈ partVals p, u.oneCell' = true := by
  intro u hu
  simp only [partVals, List.mem_cons, List.not_mem_nil, or_false] at hu
  rcases hu with rfl | rfl | rfl | rfl | rfl | rfl | rfl | rfl | rfl <;> rfl
theorem portVals_one (p : TableP.Port) : ∀ u ∈ portVals p, u.oneCell' = true := by
  intro u hu
  simp only [portVals, List.mem_cons, List.not_mem_nil, or_false] at hu
  rcases hu with rfl | rfl | rfl | rfl | rfl | rfl <;> rfl
theorem routeVals_one (p : TableP.Route) : ∀ u ∈ routeVals p, u.oneCell' = true := by
  intro u hu
  simp only [routeVals, List.mem_cons, List.not_mem_nil, or_false] at hu
  rcases hu with rfl | rfl <;> rfl
/-- Tables as a value. -/
structure CfgC where
  nodes : Int
  faulty : Int
  slot : Int
  gap : Int
  rho : Int
  dmin : Int
  dmax : Int
  margin : Int
  PA : Option Addr
  pn : Nat
  pcap : Nat
  parts : List TableP.Part
  QA : Option Addr
  qn : Nat
  qcap : Nat
  ports : List TableP.Port
  RA : Option Addr
  rn : Nat
  rcap : Nat
  routes : List TableP.Route
def CfgC.value (x : CfgC) : Value := .agg #[.int .i64 x.nodes, .int .i64 x.faulty, .int .i64 x.slot, .int .i64 x.gap, .int .i64 x.rho, .int .i64 x.dmin, .int .i64 x.dmax, .int .i64 x.margin, .slice x.PA x.pn x.pcap, .slice x.QA x.qn x.qcap, .slice x.RA x.rn x.rcap]
def CfgC.plain (x : CfgC) : TableP.Cfg := ⟨x.nodes, x.faulty, x.slot, x.gap, x.rho, x.dmin, x.dmax, x.margin, x.parts, x.ports, x.routes⟩

structure CfgIn (W : World) (x : CfgC) : Prop where
  parts : ItemsIn partVals 9 W x.PA x.parts
  plen : x.parts.length = x.pn
  pcap_ : x.pn ≤ x.pcap
  pmost : x.pn ≤ 140737488355328
  ports : ItemsIn portVals 6 W x.QA x.ports
  qlen : x.ports.length = x.qn
  qcap_ : x.qn ≤ x.qcap
  qmost : x.qn ≤ 140737488355328
  routes : ItemsIn routeVals 2 W x.RA x.routes
  rlen : x.routes.length = x.rn
  rcap_ : x.rn ≤ x.rcap
  rmost : x.rn ≤ 140737488355328
theorem CfgIn.below {W W' : World} {x : CfgC} (h : CfgIn W x) (hw : Below W.heap.size W W') : CfgIn W' x :=
  ⟨h.parts.below hw, h.plen, h.pcap_, h.pmost, h.ports.below hw, h.qlen, h.qcap_, h.qmost, h.routes.below hw, h.rlen, h.rcap_, h.rmost⟩

/-- All that tables refer to lies from block B on. -/
structure CfgHi (B : Nat) (x : CfgC) : Prop where
  parts : 0 < x.parts.length → ∀ k, blockOf x.PA = some k → B ≤ k
  ports : 0 < x.ports.length → ∀ k, blockOf x.QA = some k → B ≤ k
  routes : 0 < x.routes.length → ∀ k, blockOf x.RA = some k → B ≤ k
theorem CfgIn.apart {W W' : World} {x : CfgC} {B : Nat} {F : Nat → Prop} (h : CfgIn W x) (hi : CfgHi B x) (ha : Apart F W W') (hF : ∀ k, F k → k < B) : CfgIn W' x :=
  ⟨h.parts.apart ha (fun hl k hk e => by have h1 := hF k e; have h2 := hi.parts hl k hk; omega), h.plen, h.pcap_, h.pmost,
    h.ports.apart ha (fun hl k hk e => by have h1 := hF k e; have h2 := hi.ports hl k hk; omega), h.qlen, h.qcap_, h.qmost,
    h.routes.apart ha (fun hl k hk e => by have h1 := hF k e; have h2 := hi.routes hl k hk; omega), h.rlen, h.rcap_, h.rmost⟩

/-- A value that reads as tables. -/
def CfgAt (W : World) (v : Value) (f : TableP.Cfg) : Prop := ∃ x : CfgC, v = x.value ∧ CfgIn W x ∧ x.plain = f
theorem CfgAt.below {W W' : World} {v : Value} {f : TableP.Cfg} (h : CfgAt W v f) (hw : Below W.heap.size W W') : CfgAt W' v f := by
  obtain ⟨x, h1, h2, h3⟩ := h
  exact ⟨x, h1, h2.below hw, h3⟩

/-- The tables that are none. -/
def zeroCfg : TableP.Cfg := ⟨0, 0, 0, 0, 0, 0, 0, 0, [], [], []⟩
def zeroCC : CfgC := ⟨0, 0, 0, 0, 0, 0, 0, 0, none, 0, 0, [], none, 0, 0, [], none, 0, 0, []⟩
theorem ItemsIn.nil {α : Type} (vals : α → List Value) (size : Nat) (W : World) (A : Option Addr) : ItemsIn vals size W A [] := fun h => absurd h (by simp)
theorem CfgAt.zero (W : World) : CfgAt W zeroCC.value zeroCfg :=
  ⟨zeroCC, rfl, ⟨ItemsIn.nil _ _ _ _, rfl, Nat.le_refl _, by simp [zeroCC], ItemsIn.nil _ _ _ _, rfl, Nat.le_refl _, by simp [zeroCC], ItemsIn.nil _ _ _ _, rfl, Nat.le_refl _, by simp [zeroCC]⟩, rfl⟩

/-- Tables that were boxed. -/
def cfgCells (x : CfgC) : Array Value := #[.int .i64 x.nodes, .int .i64 x.faulty, .int .i64 x.slot, .int .i64 x.gap, .int .i64 x.rho, .int .i64 x.dmin, .int .i64 x.dmax, .int .i64 x.margin, .slice x.PA x.pn x.pcap, .slice x.QA x.qn x.qcap, .slice x.RA x.rn x.rcap]
structure Box11 (w : World) (b : Nat) (x : CfgC) : Prop where
  c0 : w.cell? ⟨b, 0, none⟩ = some (.int .i64 x.nodes)
  c1 : w.cell? ⟨b, 1, none⟩ = some (.int .i64 x.faulty)
  c2 : w.cell? ⟨b, 2, none⟩ = some (.int .i64 x.slot)
  c3 : w.cell? ⟨b, 3, none⟩ = some (.int .i64 x.gap)
  c4 : w.cell? ⟨b, 4, none⟩ = some (.int .i64 x.rho)
  c5 : w.cell? ⟨b, 5, none⟩ = some (.int .i64 x.dmin)
  c6 : w.cell? ⟨b, 6, none⟩ = some (.int .i64 x.dmax)
  c7 : w.cell? ⟨b, 7, none⟩ = some (.int .i64 x.margin)
  c8 : w.cell? ⟨b, 8, none⟩ = some (.slice x.PA x.pn x.pcap)
  c9 : w.cell? ⟨b, 9, none⟩ = some (.slice x.QA x.qn x.qcap)
  c10 : w.cell? ⟨b, 10, none⟩ = some (.slice x.RA x.rn x.rcap)
/-- What each of some worlds says of the tables in a box, one fact a cell. -/
theorem cfgFacts {S : World → Prop} {b : Nat} {x : CfgC} (h : ∀ W, S W → Box11 W b x) :
    (∀ W, S W → W.cell? ⟨b, 0, none⟩ = some (.int .i64 x.nodes)) ∧ (∀ W, S W → W.cell? ⟨b, 1, none⟩ = some (.int .i64 x.faulty)) ∧ (∀ W, S W → W.cell? ⟨b, 2, none⟩ = some (.int .i64 x.slot)) ∧
    (∀ W, S W → W.cell? ⟨b, 3, none⟩ = some (.int .i64 x.gap)) ∧ (∀ W, S W → W.cell? ⟨b, 4, none⟩ = some (.int .i64 x.rho)) ∧ (∀ W, S W → W.cell? ⟨b, 5, none⟩ = some (.int .i64 x.dmin)) ∧
    (∀ W, S W → W.cell? ⟨b, 6, none⟩ = some (.int .i64 x.dmax)) ∧ (∀ W, S W → W.cell? ⟨b, 7, none⟩ = some (.int .i64 x.margin)) ∧ (∀ W, S W → W.cell? ⟨b, 8, none⟩ = some (.slice x.PA x.pn x.pcap)) ∧
    (∀ W, S W → W.cell? ⟨b, 9, none⟩ = some (.slice x.QA x.qn x.qcap)) ∧ (∀ W, S W → W.cell? ⟨b, 10, none⟩ = some (.slice x.RA x.rn x.rcap)) :=
  ⟨fun W h0 => (h W h0).c0, fun W h0 => (h W h0).c1, fun W h0 => (h W h0).c2, fun W h0 => (h W h0).c3, fun W h0 => (h W h0).c4, fun W h0 => (h W h0).c5, fun W h0 => (h W h0).c6, fun W h0 => (h W h0).c7, fun W h0 => (h W h0).c8, fun W h0 => (h W h0).c9, fun W h0 => (h W h0).c10⟩
theorem box11 {w wr : World} {x : CfgC} {t : TypeId} (h : Below (w.alloc (.cells (cfgCells x) t)).heap.size (w.alloc (.cells (cfgCells x) t)) wr) : Box11 wr w.heap.size x := by
  have h0 : wr.heap[w.heap.size]? = some (.cells (cfgCells x) t (0, 0)) := (h.block _ (by simp)).trans (heap_alloc_new w _)
  exact ⟨cell_at h0 0 rfl, cell_at h0 1 rfl, cell_at h0 2 rfl, cell_at h0 3 rfl, cell_at h0 4 rfl, cell_at h0 5 rfl, cell_at h0 6 rfl, cell_at h0 7 rfl, cell_at h0 8 rfl, cell_at h0 9 rfl, cell_at h0 10 rfl⟩
end Go.Proofs.Ytfgpfmhjnccccaa
namespace Go.Proofs.Ytfgpfmhjnccccaa
open Go.RowKit

/-- What a call that only computes answers. -/
def Pure (v : Value) (w : World) (e : Ending) (w' : World) : Prop := e = .returned v ∧ w = w'

theorem quiet_pure {P : Program} {f : FuncId} {args : Array Value} {w : World} {n : Nat} {v : Value}
    (h : Calls P f args (w.drewN n) (Pure v (w.drewN n))) : Calls P f args (w.drewN n) fun e w'' => e = .returned v ∧ ∃ m, w'' = w.drewN m :=
  h.mono fun _ _ ⟨he, hm⟩ => ⟨he, n, hm.symm⟩

theorem up_any (n a b : Int) (w : World) :
    Calls Try.prog 32 #[.int .i64 n, .int .i64 a, .int .i64 b] w (Pure (.bool (decide (TableP.up n a b))) w) := by
  by_cases h1 : a ≤ n
  · have e : decide (TableP.up n a b) = decide (n ≤ b) := by unfold TableP.up; simp [h1]
    have q1 : decide (a ≤ n) = true := decide_eq_true h1
    rw [e]; clear e h1
    go_enter Try.func32, Try.ntmps32
    go_wp2_with fail
    go_ret
    exact ⟨rfl, rfl⟩
  · have e : decide (TableP.up n a b) = false := by unfold TableP.up; simp [h1]
    have q1 : decide (a ≤ n) = false := decide_eq_false h1
    rw [e]; clear e h1
    go_enter Try.func32, Try.ntmps32
    go_wp2_with fail
    go_ret
    exact ⟨rfl, rfl⟩
end Go.Proofs.Ytfgpfmhjnccccaa
namespace Go.Proofs.Ytfgpfmhjnccccaa
open Go.RowKit
set_option maxRecDepth 100000

def BoolPost (b : Bool) (w : World) (e : Ending) (w' : World) : Prop := e = .returned (.bool b) ∧ Below w.heap.size w w'

end Go.Proofs.Ytfgpfmhjnccccaa
namespace Go.Proofs.Ytfgpfmhjnccccaa
open Go.RowKit
set_option maxRecDepth 100000

theorem below_drewN' {B : Nat} {a w : World} (h : Below B a w) (m : Nat) : Below B a (w.drewN m) := ⟨h.os, h.tape, h.output, h.size, h.block⟩

end Go.Proofs.Ytfgpfmhjnccccaa
namespace Go.Proofs.Ytfgpfmhjnccccaa
open Go.RowKit
set_option maxRecDepth 100000

end Go.Proofs.Ytfgpfmhjnccccaa
namespace Go.Proofs.Ytfgpfmhjnccccaa
open Go.RowKit
set_option maxRecDepth 100000

/-- The text of what is wrong. -/
def wrongT : Option FrameP.Wrong → List UInt8
  | none => []
  | some (c, p) => atT c p
/-- Tables that were boxed. -/
def boxC (w : World) (x : CfgC) : World := w.alloc (.cells (cfgCells x) 26)
theorem boxC_size (w : World) (x : CfgC) : (boxC w x).heap.size = w.heap.size + 1 := by simp [boxC]
theorem boxC_below (w : World) (x : CfgC) : Below w.heap.size w (boxC w x) := (Below.refl _ _).alloc (Nat.le_refl _) _

theorem first_step {α : Type} {ok : α → Prop} [DecidablePred ok] {code : Nat} {l : List α} {k : Nat} {x : α} (h : l[k]? = some x) :
    TableP.first ok code k (l.drop k) = if ok x then TableP.first ok code (k + 1) (l.drop (k + 1)) else some (code, (k : Int)) := by
  obtain ⟨hk, rfl⟩ := List.getElem?_eq_some_iff.1 h
  rw [List.drop_eq_getElem_cons hk]
  rfl
theorem first_end {α : Type} {ok : α → Prop} [DecidablePred ok] {code : Nat} {l : List α} {k : Nat} (h : l.length ≤ k) : TableP.first ok code k (l.drop k) = none := by
  rw [List.drop_of_length_le h]; rfl

/-- What the rest of the check comes to. -/
theorem chk_parts {x : CfgC} (h1 : TableP.headOk x.plain) (h2 : ¬ (12 < x.pn ∨ 24 < x.qn ∨ 24 < x.rn)) (hp : x.parts.length = x.pn) (hq : x.ports.length = x.qn) (hr : x.routes.length = x.rn) :
    (∀ e, TableP.first (TableP.partOk x.nodes) 2 0 x.parts = some e → TableP.chk x.plain = some e) ∧
    (TableP.first (TableP.partOk x.nodes) 2 0 x.parts = none → (∀ e, TableP.first (TableP.portOk x.pn) 8 0 x.ports = some e → TableP.chk x.plain = some e) ∧
      (TableP.first (TableP.portOk x.pn) 8 0 x.ports = none → TableP.chk x.plain = TableP.first (TableP.routeOk x.qn) 72 0 x.routes)) := by
  have hchk : TableP.chk x.plain = match TableP.first (TableP.partOk x.nodes) 2 0 x.parts with
      | some e => some e
      | none => match TableP.first (TableP.portOk x.pn) 8 0 x.ports with
        | some e => some e
        | none => TableP.first (TableP.routeOk x.qn) 72 0 x.routes := by
    unfold TableP.chk
    rw [if_pos h1, if_neg (show ¬ (12 < x.plain.parts.length ∨ 24 < x.plain.ports.length ∨ 24 < x.plain.routes.length) by simp only [CfgC.plain]; omega)]
    simp only [CfgC.plain, hp, hq]
    rfl
  refine ⟨fun e he => by rw [hchk, he], fun hn => ⟨fun e he => by rw [hchk, hn]; simp only [he], fun he => by rw [hchk, hn]; simp only [he]⟩⟩
def ChkRel {α : Type} (ok : α → Prop) [DecidablePred ok] (code : Nat) (l : List α) (n : Nat) (W : World) (i : Value) (wr : World) : Prop :=
  ∃ k, k ≤ n ∧ i = .int .i64 (k : Nat) ∧ TableP.first ok code k (l.drop k) = TableP.first ok code 0 l ∧ Below W.heap.size W wr
end Go.Proofs.Ytfgpfmhjnccccaa
namespace Go.Proofs.Ytfgpfmhjnccccaa
open Go.RowKit
set_option maxRecDepth 100000

end Go.Proofs.Ytfgpfmhjnccccaa
