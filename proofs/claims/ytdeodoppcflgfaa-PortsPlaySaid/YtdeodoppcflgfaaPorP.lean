/- Plain: a node's ports (chapter 13): what each call answers and leaves. No conditions beyond those that each states. -/
import Derived.KernelRfl
import Derived.Test.YtdeodoppcflgfaaPlA
namespace Go.Proofs.Ytdeodoppcflgfaa
namespace PorP
open TableP

/-- What a port holds, the eldest first, and its age. -/
structure PS where
  msgs : List (List UInt8)
  age : Nat
def PS.empty : PS := ⟨[], 0⟩
abbrev St := List PS
def start (c : Cfg) : St := List.replicate c.ports.length PS.empty

/-- The node of a port's partition. -/
def nodeOf (c : Cfg) (p : Port) : Int := ((c.parts[p.part.toNat]?).map Part.node).getD (-1)
def mineB (c : Cfg) (node : Int) (p : Port) : Bool := decide (nodeOf c p = node)
/-- What is wrong with a partition's asking for a port: its number (17: none, 13: the wrong way). -/
def findT (c : Cfg) (node part port : Int) (out : Bool) : Option Nat :=
  if port < 0 then some 17 else
  match c.ports[port.toNat]? with
  | none => some 17
  | some p => if p.part = part ∧ mineB c node p = true then (if p.out = out then none else some 13) else some 17
/-- A message comes to a port: a sampling one holds just it, with the age 0; a queuing one holds it behind the others, if there is room. -/
def room (p : Port) (s : PS) : Bool := p.kind == 1 || decide ((s.msgs.length : Int) < p.depth)
def putT (p : Port) (s : PS) (d : List UInt8) : PS := if p.kind = 1 then ⟨[d], 0⟩ else ⟨s.msgs ++ [d], s.age⟩
/-- Write's: the age stays. -/
def laidT (p : Port) (s : PS) (d : List UInt8) : PS := if p.kind = 1 then ⟨[d], s.age⟩ else ⟨s.msgs ++ [d], s.age⟩
def writeT (c : Cfg) (node : Int) (st : St) (part port : Int) (d : List UInt8) : Option Nat × St :=
  match findT c node part port true with
  | some e => (some e, st)
  | none => match c.ports[port.toNat]?, st[port.toNat]? with
    | some p, some s => if p.size < (d.length : Int) then (some 12, st) else if room p s = true then (none, st.set port.toNat (laidT p s d)) else (some 11, st)
    | _, _ => (some 17, st)
/-- Read's: the bytes, whether they are fresh; or an error's number. -/
def readT (c : Cfg) (node : Int) (st : St) (part port : Int) : (List UInt8 × Bool × Option Nat) × St :=
  match findT c node part port false with
  | some e => (([], false, some e), st)
  | none => match c.ports[port.toNat]?, st[port.toNat]? with
    | some p, some s => match s.msgs with
      | [] => (([], false, some 10), st)
      | d :: r => if p.kind = 1 then ((d, decide ((s.age : Int) ≤ p.fresh), none), st) else ((d, true, none), st.set port.toNat ⟨r, s.age⟩)
    | _, _ => (([], false, some 17), st)
def shown (c : Cfg) (node : Int) (out : Bool) (p : Port) : Bool := mineB c node p && (!out || p.out)
/-- The messages of the ports from number i on. -/
def imageFrom (c : Cfg) (node : Int) (out : Bool) : Nat → List Port → St → List (Nat × List UInt8)
  | i, p :: ps, s :: ss => (if shown c node out p = true then s.msgs.map (fun d => (i, d)) else []) ++ imageFrom c node out (i + 1) ps ss
  | _, _, _ => []
def imageT (c : Cfg) (node : Int) (out : Bool) (st : St) : List (Nat × List UInt8) := imageFrom c node out 0 c.ports st
def sealS (c : Cfg) (node : Int) (st : St) : St := List.zipWith (fun p s => if shown c node true p = true then ⟨[], s.age⟩ else s) c.ports st
/-- A message over one route. -/
def overT (c : Cfg) (node : Int) (port : Nat) (d : List UInt8) (st : St) (r : Route) : Nat × St :=
  if r.src = (port : Int) then
    match c.ports[r.dst.toNat]?, st[r.dst.toNat]? with
    | some p, some s => if mineB c node p = true ∧ room p s = true then (1, st.set r.dst.toNat (putT p s d)) else (0, st)
    | _, _ => (0, st)
  else (0, st)
def routesT (c : Cfg) (node : Int) (port : Nat) (d : List UInt8) : List Route → St → Nat × St
  | [], st => (0, st)
  | r :: rs, st => let x := overT c node port d st r; let y := routesT c node port d rs x.2; (x.1 + y.1, y.2)
/-- Does a message of that node's come in at all? -/
def comesB (c : Cfg) (src_ : Int) (port : Int) (d : List UInt8) : Bool :=
  decide (0 ≤ port) && match c.ports[port.toNat]? with
    | some p => p.out && decide (nodeOf c p = src_) && decide ((d.length : Int) ≤ p.size)
    | none => false
def oneT (c : Cfg) (node src_ : Int) (st : St) (m : Int × List UInt8) : Nat × St := if comesB c src_ m.1 m.2 = true then routesT c node m.1.toNat m.2 c.routes st else (0, st)
def deliverT (c : Cfg) (node src_ : Int) : List (Int × List UInt8) → St → Nat × St
  | [], st => (0, st)
  | m :: ms, st => let x := oneT c node src_ st m; let y := deliverT c node src_ ms x.2; (x.1 + y.1, y.2)
def growT (st : St) : St := st.map fun s => ⟨s.msgs, if s.age < 9 then s.age + 1 else s.age⟩
def clearT (c : Cfg) (part : Int) (st : St) : St := List.zipWith (fun p s => if p.part = part then PS.empty else s) c.ports st

/-! ### Lengths -/
theorem start_length (c : Cfg) : (start c).length = c.ports.length := List.length_replicate
theorem write_length (c : Cfg) (node : Int) (st : St) (part port : Int) (d : List UInt8) : (writeT c node st part port d).2.length = st.length := by
  unfold writeT
  split
  · rfl
  · split
    · split
      · rfl
      · split <;> simp
    · rfl
theorem read_length (c : Cfg) (node : Int) (st : St) (part port : Int) : (readT c node st part port).2.length = st.length := by
  unfold readT
  split
  · rfl
  · split
    · split
      · rfl
      · split <;> simp
    · rfl
theorem seal_length (c : Cfg) (node : Int) (st : St) (h : st.length = c.ports.length) : (sealS c node st).length = c.ports.length := by unfold sealS; simp [h]
theorem over_length (c : Cfg) (node : Int) (port : Nat) (d : List UInt8) (st : St) (r : Route) : (overT c node port d st r).2.length = st.length := by
  unfold overT
  split
  · split
    · split <;> simp
    · rfl
  · rfl
theorem routes_length (c : Cfg) (node : Int) (port : Nat) (d : List UInt8) : ∀ (rs : List Route) (st : St), (routesT c node port d rs st).2.length = st.length
  | [], _ => rfl
  | r :: rs, st => by
    unfold routesT
    simp only
    rw [routes_length c node port d rs, over_length]
theorem one_length (c : Cfg) (node src_ : Int) (st : St) (m : Int × List UInt8) : (oneT c node src_ st m).2.length = st.length := by
  unfold oneT
  split
  · exact routes_length _ _ _ _ _ _
  · rfl
theorem deliver_length (c : Cfg) (node src_ : Int) : ∀ (ms : List (Int × List UInt8)) (st : St), (deliverT c node src_ ms st).2.length = st.length
  | [], _ => rfl
  | m :: ms, st => by
    unfold deliverT
    simp only
    rw [deliver_length c node src_ ms, one_length]
theorem grow_length (st : St) : (growT st).length = st.length := by unfold growT; simp
theorem clear_length (c : Cfg) (part : Int) (st : St) (h : st.length = c.ports.length) : (clearT c part st).length = c.ports.length := by unfold clearT; simp [h]

/-! ### Step by step -/
theorem routes_snoc (c : Cfg) (node : Int) (port : Nat) (d : List UInt8) (r : Route) : ∀ (rs : List Route) (st : St), routesT c node port d (rs ++ [r]) st = ((routesT c node port d rs st).1 + (overT c node port d (routesT c node port d rs st).2 r).1, (overT c node port d (routesT c node port d rs st).2 r).2)
  | [], st => by simp [routesT]
  | a :: rs, st => by
    have ih := routes_snoc c node port d r rs (overT c node port d st a).2
    simp only [List.cons_append, routesT, ih]
    rw [Nat.add_assoc]
theorem deliver_snoc (c : Cfg) (node src_ : Int) (m : Int × List UInt8) : ∀ (ms : List (Int × List UInt8)) (st : St), deliverT c node src_ (ms ++ [m]) st = ((deliverT c node src_ ms st).1 + (oneT c node src_ (deliverT c node src_ ms st).2 m).1, (oneT c node src_ (deliverT c node src_ ms st).2 m).2)
  | [], st => by simp [deliverT]
  | a :: ms, st => by
    have ih := deliver_snoc c node src_ m ms (oneT c node src_ st a).2
    simp only [List.cons_append, deliverT, ih]
    rw [Nat.add_assoc]
theorem routes_take {c : Cfg} {node : Int} {port : Nat} {d : List UInt8} {st : St} {rs : List Route} {k : Nat} {r : Route} (h : rs[k]? = some r) : routesT c node port d (rs.take (k + 1)) st = ((routesT c node port d (rs.take k) st).1 + (overT c node port d (routesT c node port d (rs.take k) st).2 r).1, (overT c node port d (routesT c node port d (rs.take k) st).2 r).2) := by
  rw [List.take_add_one, h]; exact routes_snoc _ _ _ _ _ _ _
theorem deliver_take {c : Cfg} {node src_ : Int} {st : St} {ms : List (Int × List UInt8)} {k : Nat} {m : Int × List UInt8} (h : ms[k]? = some m) : deliverT c node src_ (ms.take (k + 1)) st = ((deliverT c node src_ (ms.take k) st).1 + (oneT c node src_ (deliverT c node src_ (ms.take k) st).2 m).1, (oneT c node src_ (deliverT c node src_ (ms.take k) st).2 m).2) := by
  rw [List.take_add_one, h]; exact deliver_snoc _ _ _ _ _ _
theorem imageFrom_snoc (c : Cfg) (node : Int) (out : Bool) (p : Port) (s : PS) : ∀ (ps : List Port) (ss : St) (i : Nat), ps.length = ss.length → imageFrom c node out i (ps ++ [p]) (ss ++ [s]) = imageFrom c node out i ps ss ++ (if shown c node out p = true then s.msgs.map (fun d => (i + ps.length, d)) else [])
  | [], [], i, _ => by simp [imageFrom]
  | [], _ :: _, _, h => by simp at h
  | _ :: _, [], _, h => by simp at h
  | a :: ps, b :: ss, i, h => by
    have ih := imageFrom_snoc c node out p s ps ss (i + 1) (by simpa using h)
    simp only [List.cons_append, imageFrom, ih, List.length_cons]
    rw [show i + (ps.length + 1) = i + 1 + ps.length by omega, List.append_assoc]
/-- Behind the first k ports. -/
def imageK (c : Cfg) (node : Int) (out : Bool) (st : St) (k : Nat) : List (Nat × List UInt8) := imageFrom c node out 0 (c.ports.take k) (st.take k)
theorem image_step {c : Cfg} {node : Int} {out : Bool} {st : St} {k : Nat} {p : Port} {s : PS} (hp : c.ports[k]? = some p) (hs : st[k]? = some s) : imageK c node out st (k + 1) = imageK c node out st k ++ (if shown c node out p = true then s.msgs.map (fun d => (k, d)) else []) := by
  unfold imageK
  have h1 := (List.getElem?_eq_some_iff.1 hp).1
  have h2 := (List.getElem?_eq_some_iff.1 hs).1
  rw [List.take_add_one, List.take_add_one, hp, hs]
  have h3 := imageFrom_snoc c node out p s (c.ports.take k) (st.take k) 0 (by rw [List.length_take, List.length_take]; omega)
  rw [List.length_take, Nat.min_eq_left (by omega), Nat.zero_add] at h3
  exact h3
theorem image_all {c : Cfg} {node : Int} {out : Bool} {st : St} (h : st.length = c.ports.length) : imageK c node out st c.ports.length = imageT c node out st := by
  unfold imageK imageT
  rw [List.take_length, ← h, List.take_length]
end PorP
end Go.Proofs.Ytdeodoppcflgfaa
