/- Plain: what the program's ports keep beside the document's: the ages of out ports differ, nothing else; deliveries over a port's own list of ways. No conditions beyond those that each states. -/
import Derived.Test.YtdeodoppcflgfaaPorP
namespace Go.Proofs.Ytdeodoppcflgfaa
namespace PorP
open TableP

def hasB (c : Cfg) (node part port : Int) : Bool := decide (0 ≤ port) && match c.ports[port.toNat]? with | some p => decide (p.part = part) && mineB c node p | none => false
theorem find_has (c : Cfg) (node part port : Int) (out : Bool) : findT c node part port out = if hasB c node part port = true then (match c.ports[port.toNat]? with | some p => if p.out = out then none else some 13 | none => some 17) else some 17 := by
  unfold findT hasB
  by_cases h0 : port < 0
  · rw [if_pos h0, if_neg (by simp; omega)]
  · rw [if_neg h0]
    have h1 : decide (0 ≤ port) = true := decide_eq_true (by omega)
    cases c.ports[port.toNat]? with
    | none => simp
    | some p =>
      simp only [h1, Bool.true_and, Bool.and_eq_true, decide_eq_true_eq]
/-- To which of the node's ports a port's messages go. -/
def wayB (c : Cfg) (node : Int) (port : Nat) (r : Route) : Bool := decide (r.src = (port : Int)) && match c.ports[r.dst.toNat]? with | some p => mineB c node p | none => false
def toT (c : Cfg) (node : Int) (port : Nat) : List Int := (c.routes.filter (wayB c node port)).map Route.dst
def toK (c : Cfg) (node : Int) (port k : Nat) : List Int := ((c.routes.take k).filter (wayB c node port)).map Route.dst
theorem toK_all (c : Cfg) (node : Int) (port : Nat) : toK c node port c.routes.length = toT c node port := by unfold toK toT; rw [List.take_length]
theorem toK_step {c : Cfg} {node : Int} {port k : Nat} {r : Route} (h : c.routes[k]? = some r) : toK c node port (k + 1) = toK c node port k ++ if wayB c node port r = true then [r.dst] else [] := by
  unfold toK
  rw [List.take_add_one, h, List.filter_append, List.map_append]
  simp only [Option.toList_some, List.filter_cons, List.filter_nil]
  split <;> rfl
theorem toK_len (c : Cfg) (node : Int) (port k : Nat) : (toK c node port k).length ≤ k := by
  unfold toK
  rw [List.length_map]
  exact Nat.le_trans (List.length_filter_le _ _) (by rw [List.length_take]; omega)
theorem toT_len (c : Cfg) (node : Int) (port : Nat) : (toT c node port).length ≤ c.routes.length := by
  rw [← toK_all]; exact toK_len _ _ _ _
theorem toT_mem {c : Cfg} {node : Int} {port : Nat} {d : Int} (h : d ∈ toT c node port) : ∃ r ∈ c.routes, r.dst = d ∧ wayB c node port r = true := by
  unfold toT at h
  obtain ⟨r, hr, rfl⟩ := List.mem_map.1 h
  exact ⟨r, (List.mem_filter.1 hr).1, rfl, (List.mem_filter.1 hr).2⟩
/-- A message to a port. -/
def putOne (c : Cfg) (d : List UInt8) (st : St) (tv : Int) : Nat × St :=
  match c.ports[tv.toNat]?, st[tv.toNat]? with
  | some p, some s => if room p s = true then (1, st.set tv.toNat (putT p s d)) else (0, st)
  | _, _ => (0, st)
def putsT (c : Cfg) (d : List UInt8) : List Int → St → Nat × St
  | [], st => (0, st)
  | t :: ts, st => let x := putOne c d st t; let y := putsT c d ts x.2; (x.1 + y.1, y.2)
theorem puts_snoc (c : Cfg) (d : List UInt8) (t : Int) : ∀ (ts : List Int) (st : St), putsT c d (ts ++ [t]) st = ((putsT c d ts st).1 + (putOne c d (putsT c d ts st).2 t).1, (putOne c d (putsT c d ts st).2 t).2)
  | [], st => by simp [putsT]
  | a :: ts, st => by
    have ih := puts_snoc c d t ts (putOne c d st a).2
    simp only [List.cons_append, putsT, ih]
    rw [Nat.add_assoc]
theorem puts_take {c : Cfg} {d : List UInt8} {st : St} {ts : List Int} {k : Nat} {t : Int} (h : ts[k]? = some t) : putsT c d (ts.take (k + 1)) st = ((putsT c d (ts.take k) st).1 + (putOne c d (putsT c d (ts.take k) st).2 t).1, (putOne c d (putsT c d (ts.take k) st).2 t).2) := by
  rw [List.take_add_one, h]; exact puts_snoc _ _ _ _ _
theorem routes_puts (c : Cfg) (node : Int) (port : Nat) (d : List UInt8) : ∀ (rs : List Route) (st : St), routesT c node port d rs st = putsT c d ((rs.filter (wayB c node port)).map Route.dst) st
  | [], st => rfl
  | r :: rs, st => by
    have ih := routes_puts c node port d rs
    unfold routesT
    simp only [ih, List.filter_cons]
    have hone : overT c node port d st r = if wayB c node port r = true then putOne c d st r.dst else (0, st) := by
      unfold overT wayB putOne
      by_cases h1 : r.src = (port : Int)
      · rw [if_pos h1]
        simp only [h1, decide_true, Bool.true_and]
        cases c.ports[r.dst.toNat]? with
        | none => simp
        | some p =>
          cases st[r.dst.toNat]? with
          | none => simp
          | some s =>
            simp only
            by_cases h2 : mineB c node p = true
            · simp [h2]
            · simp [h2]
      · rw [if_neg h1, if_neg (by simp [h1])]
    rw [hone]
    by_cases hw : wayB c node port r = true
    · rw [if_pos hw, if_pos hw]; rfl
    · rw [if_neg hw, if_neg hw]; simp
theorem one_puts (c : Cfg) (node src_ : Int) (st : St) (m : Int × List UInt8) : oneT c node src_ st m = if comesB c src_ m.1 m.2 = true then putsT c m.2 (toT c node m.1.toNat) st else (0, st) := by
  unfold oneT
  rw [routes_puts]; rfl
theorem putOne_length (c : Cfg) (d : List UInt8) (st : St) (t : Int) : (putOne c d st t).2.length = st.length := by
  unfold putOne
  split
  · split <;> simp
  · rfl
theorem puts_length (c : Cfg) (d : List UInt8) : ∀ (ts : List Int) (st : St), (putsT c d ts st).2.length = st.length
  | [], _ => rfl
  | t :: ts, st => by
    unfold putsT
    simp only
    rw [puts_length c d ts, putOne_length]

/-- Write, as the program does it: the age begins anew. -/
def writeP (c : Cfg) (node : Int) (st : St) (part port : Int) (d : List UInt8) : Option Nat × St :=
  match findT c node part port true with
  | some e => (some e, st)
  | none => match c.ports[port.toNat]?, st[port.toNat]? with
    | some p, some s => if p.size < (d.length : Int) then (some 12, st) else if room p s = true then (none, st.set port.toNat (putT p s d)) else (some 11, st)
    | _, _ => (some 17, st)

/-- The same but for the ages of out ports. -/
structure Like (c : Cfg) (a b : St) : Prop where
  la : a.length = c.ports.length
  lb : b.length = c.ports.length
  each : ∀ (i : Nat) (p : Port) (x y : PS), c.ports[i]? = some p → a[i]? = some x → b[i]? = some y → x.msgs = y.msgs ∧ (p.out = false → x.age = y.age)
theorem Like.start (c : Cfg) : Like c (start c) (start c) := ⟨start_length c, start_length c, fun i p x y _ hx hy => by
  rw [hx] at hy
  obtain rfl := Option.some.inj hy
  exact ⟨rfl, fun _ => rfl⟩⟩
theorem get_of {c : Cfg} {a : St} {i : Nat} {p : Port} (hl : a.length = c.ports.length) (hp : c.ports[i]? = some p) : ∃ x, a[i]? = some x := ⟨_, List.getElem?_eq_getElem (by rw [hl]; exact (List.getElem?_eq_some_iff.1 hp).1)⟩
theorem Like.set {c : Cfg} {a b : St} (h : Like c a b) {i : Nat} {p : Port} (hp : c.ports[i]? = some p) {x y : PS} (hxy : x.msgs = y.msgs ∧ (p.out = false → x.age = y.age)) : Like c (a.set i x) (b.set i y) := by
  refine ⟨by rw [List.length_set]; exact h.la, by rw [List.length_set]; exact h.lb, fun j q u v hq hu hv => ?_⟩
  have hi := (List.getElem?_eq_some_iff.1 hp).1
  by_cases hj : j = i
  · subst hj
    rw [List.getElem?_set_self (by rw [h.la]; exact hi)] at hu
    rw [List.getElem?_set_self (by rw [h.lb]; exact hi)] at hv
    obtain rfl := Option.some.inj hu
    obtain rfl := Option.some.inj hv
    rw [hp] at hq
    obtain rfl := Option.some.inj hq
    exact hxy
  · rw [List.getElem?_set_ne (Ne.symm hj)] at hu hv
    exact h.each j q u v hq hu hv
theorem room_like {p : Port} {x y : PS} (h : x.msgs = y.msgs) : room p x = room p y := by unfold room; rw [h]
theorem Like.write {c : Cfg} {a b : St} (h : Like c a b) (node part port : Int) (d : List UInt8) : (writeP c node a part port d).1 = (writeT c node b part port d).1 ∧ Like c (writeP c node a part port d).2 (writeT c node b part port d).2 := by
  unfold writeP writeT
  cases hf : findT c node part port true with
  | some e => exact ⟨rfl, h⟩
  | none =>
    simp only
    cases hp : c.ports[port.toNat]? with
    | none => exact ⟨rfl, h⟩
    | some p =>
      obtain ⟨x, hx⟩ := get_of h.la hp
      obtain ⟨y, hy⟩ := get_of h.lb hp
      have hxy := h.each _ p x y hp hx hy
      simp only [hx, hy]
      by_cases hs : p.size < (d.length : Int)
      · rw [if_pos hs, if_pos hs]; exact ⟨rfl, h⟩
      · rw [if_neg hs, if_neg hs, room_like hxy.1]
        by_cases hr : room p y = true
        · rw [if_pos hr, if_pos hr]
          refine ⟨rfl, h.set hp ?_⟩
          have hout : p.out = true := by
            unfold findT at hf
            split at hf
            · cases hf
            · rw [hp] at hf
              simp only at hf
              split at hf
              · split at hf
                · assumption
                · cases hf
              · cases hf
          unfold putT laidT
          split
          · exact ⟨rfl, fun e => by rw [hout] at e; cases e⟩
          · exact ⟨by simp [hxy.1], hxy.2⟩
        · rw [if_neg hr, if_neg hr]; exact ⟨rfl, h⟩
theorem Like.read {c : Cfg} {a b : St} (h : Like c a b) (node part port : Int) : (readT c node a part port).1 = (readT c node b part port).1 ∧ Like c (readT c node a part port).2 (readT c node b part port).2 := by
  unfold readT
  cases hf : findT c node part port false with
  | some e => exact ⟨rfl, h⟩
  | none =>
    simp only
    cases hp : c.ports[port.toNat]? with
    | none => exact ⟨rfl, h⟩
    | some p =>
      obtain ⟨x, hx⟩ := get_of h.la hp
      obtain ⟨y, hy⟩ := get_of h.lb hp
      have hxy := h.each _ p x y hp hx hy
      have hout : p.out = false := by
        unfold findT at hf
        split at hf
        · cases hf
        · rw [hp] at hf
          simp only at hf
          split at hf
          · split at hf
            · assumption
            · cases hf
          · cases hf
      simp only [hx, hy, hxy.1]
      cases hm : y.msgs with
      | nil => exact ⟨rfl, h⟩
      | cons d r =>
        simp only
        by_cases hk : p.kind = 1
        · rw [if_pos hk, if_pos hk, hxy.2 hout]; exact ⟨rfl, h⟩
        · rw [if_neg hk, if_neg hk]
          exact ⟨rfl, h.set hp ⟨rfl, fun _ => hxy.2 hout⟩⟩
theorem Like.putOne {c : Cfg} {a b : St} (h : Like c a b) (d : List UInt8) (t : Int) : (putOne c d a t).1 = (PorP.putOne c d b t).1 ∧ Like c (PorP.putOne c d a t).2 (PorP.putOne c d b t).2 := by
  unfold PorP.putOne
  cases hp : c.ports[t.toNat]? with
  | none => exact ⟨rfl, h⟩
  | some p =>
    obtain ⟨x, hx⟩ := get_of h.la hp
    obtain ⟨y, hy⟩ := get_of h.lb hp
    have hxy := h.each _ p x y hp hx hy
    simp only [hx, hy, room_like hxy.1]
    by_cases hr : room p y = true
    · rw [if_pos hr, if_pos hr]
      refine ⟨rfl, h.set hp ?_⟩
      unfold putT
      split
      · exact ⟨rfl, fun _ => rfl⟩
      · exact ⟨by simp [hxy.1], hxy.2⟩
    · rw [if_neg hr, if_neg hr]; exact ⟨rfl, h⟩
theorem Like.puts {c : Cfg} (d : List UInt8) : ∀ (ts : List Int) {a b : St}, Like c a b → (putsT c d ts a).1 = (putsT c d ts b).1 ∧ Like c (putsT c d ts a).2 (putsT c d ts b).2
  | [], _, _, h => ⟨rfl, h⟩
  | t :: ts, a, b, h => by
    have h1 := h.putOne d t
    have h2 := Like.puts d ts h1.2
    unfold putsT
    simp only
    exact ⟨by rw [h1.1, h2.1], h2.2⟩
theorem Like.one {c : Cfg} {a b : St} (h : Like c a b) (node src_ : Int) (m : Int × List UInt8) : (oneT c node src_ a m).1 = (oneT c node src_ b m).1 ∧ Like c (oneT c node src_ a m).2 (oneT c node src_ b m).2 := by
  rw [one_puts, one_puts]
  split
  · exact Like.puts _ _ h
  · exact ⟨rfl, h⟩
theorem Like.deliver {c : Cfg} (node src_ : Int) : ∀ (ms : List (Int × List UInt8)) {a b : St}, Like c a b → (deliverT c node src_ ms a).1 = (deliverT c node src_ ms b).1 ∧ Like c (deliverT c node src_ ms a).2 (deliverT c node src_ ms b).2
  | [], _, _, h => ⟨rfl, h⟩
  | m :: ms, a, b, h => by
    have h1 := h.one node src_ m
    have h2 := Like.deliver node src_ ms h1.2
    unfold deliverT
    simp only
    exact ⟨by rw [h1.1, h2.1], h2.2⟩
theorem Like.grow {c : Cfg} {a b : St} (h : Like c a b) : Like c (growT a) (growT b) := by
  refine ⟨by rw [grow_length]; exact h.la, by rw [grow_length]; exact h.lb, fun i p x y hp hx hy => ?_⟩
  unfold growT at hx hy
  rw [List.getElem?_map] at hx hy
  obtain ⟨u, hu⟩ := get_of h.la hp
  obtain ⟨v, hv⟩ := get_of h.lb hp
  rw [hu] at hx
  rw [hv] at hy
  obtain rfl := Option.some.inj hx
  obtain rfl := Option.some.inj hy
  have := h.each i p u v hp hu hv
  exact ⟨this.1, fun e => by simp only [this.2 e]⟩
theorem zip_get {c : Cfg} {a : St} {f : Port → PS → PS} {i : Nat} {p : Port} {x : PS} (hp : c.ports[i]? = some p) (hx : (List.zipWith f c.ports a)[i]? = some x) : ∃ u, a[i]? = some u ∧ x = f p u := by
  rw [List.getElem?_zipWith, hp] at hx
  cases hu : a[i]? with
  | none => rw [hu] at hx; cases hx
  | some u => rw [hu] at hx; exact ⟨u, rfl, (Option.some.inj hx).symm⟩
theorem Like.zip {c : Cfg} {a b : St} (h : Like c a b) (f : Port → PS → PS) (hf : ∀ p u v, u.msgs = v.msgs ∧ (p.out = false → u.age = v.age) → (f p u).msgs = (f p v).msgs ∧ (p.out = false → (f p u).age = (f p v).age)) : Like c (List.zipWith f c.ports a) (List.zipWith f c.ports b) := by
  refine ⟨by simp [h.la], by simp [h.lb], fun i p x y hp hx hy => ?_⟩
  obtain ⟨u, hu, rfl⟩ := zip_get hp hx
  obtain ⟨v, hv, rfl⟩ := zip_get hp hy
  exact hf p u v (h.each i p u v hp hu hv)
theorem Like.clear {c : Cfg} {a b : St} (h : Like c a b) (part : Int) : Like c (clearT c part a) (clearT c part b) := h.zip _ fun p u v e => by
  split
  · exact ⟨rfl, fun _ => rfl⟩
  · exact e
theorem Like.sealS {c : Cfg} {a b : St} (h : Like c a b) (node : Int) : Like c (sealS c node a) (PorP.sealS c node b) := h.zip _ fun p u v e => by
  split
  · exact ⟨rfl, e.2⟩
  · exact e
theorem imageFrom_like (c : Cfg) (node : Int) (out : Bool) : ∀ (ps : List Port) (a b : St) (i : Nat), (∀ (k : Nat) (x y : PS), a[k]? = some x → b[k]? = some y → x.msgs = y.msgs) → a.length = b.length → imageFrom c node out i ps a = imageFrom c node out i ps b
  | [], [], [], _, _, _ => rfl
  | [], [], _ :: _, _, _, hl => by simp at hl
  | [], _ :: _, [], _, _, hl => by simp at hl
  | [], _ :: _, _ :: _, _, _, _ => rfl
  | _ :: _, [], [], _, _, _ => rfl
  | _ :: _, [], _ :: _, _, _, hl => by simp at hl
  | _ :: _, _ :: _, [], _, _, hl => by simp at hl
  | p :: ps, x :: a, y :: b, i, h, hl => by
    unfold imageFrom
    rw [imageFrom_like c node out ps a b (i + 1) (fun k u v hu hv => h (k + 1) u v (by simpa using hu) (by simpa using hv)) (by simpa using hl), h 0 x y rfl rfl]
theorem Like.image {c : Cfg} {a b : St} (h : Like c a b) (node : Int) (out : Bool) : imageT c node out a = imageT c node out b :=
  imageFrom_like c node out c.ports a b 0 (fun k x y hx hy => by
    have hk := (List.getElem?_eq_some_iff.1 hx).1
    rw [h.la] at hk
    exact (h.each k _ x y (List.getElem?_eq_getElem hk) hx hy).1) (h.la.trans h.lb.symm)
end PorP
end Go.Proofs.Ytdeodoppcflgfaa
