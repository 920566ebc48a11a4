/- Plain: all ports, port by port (mapK, imgP); boxes of other nodes hold nothing (Bare). No conditions beyond those that each states. -/
import Derived.Test.YtdeodoppcflgfaaPorS
namespace Go.Proofs.Ytdeodoppcflgfaa
namespace PorP
open TableP

def mapK (c : Cfg) (f : Port → PS → PS) (st : St) : Nat → St
  | 0 => st
  | k + 1 => match c.ports[k]?, st[k]? with
    | some p, some s => (mapK c f st k).set k (f p s)
    | _, _ => mapK c f st k
section
variable {c : Cfg} {f : Port → PS → PS} {st : St}
theorem mapK_step {k : Nat} {p : Port} {s : PS} (hp : c.ports[k]? = some p) (hs : st[k]? = some s) : mapK c f st (k + 1) = (mapK c f st k).set k (f p s) := by
  show (match c.ports[k]?, st[k]? with | some p, some s => (mapK c f st k).set k (f p s) | _, _ => mapK c f st k) = _
  rw [hp, hs]
theorem mapK_length : ∀ k, (mapK c f st k).length = st.length
  | 0 => rfl
  | k + 1 => by
    unfold mapK
    split
    · rw [List.length_set]; exact mapK_length k
    · exact mapK_length k
theorem mapK_get (hl : st.length = c.ports.length) : ∀ (k j : Nat), (mapK c f st k)[j]? = if j < k then (List.zipWith f c.ports st)[j]? else st[j]?
  | 0, j => by rw [if_neg (by omega)]; rfl
  | k + 1, j => by
    by_cases hk : k < c.ports.length
    · have hp : c.ports[k]? = some c.ports[k] := List.getElem?_eq_getElem hk
      have hs : st[k]? = some st[k] := List.getElem?_eq_getElem (by omega)
      rw [mapK_step hp hs]
      by_cases hj : j = k
      · subst hj
        rw [List.getElem?_set_self (by rw [mapK_length]; omega), if_pos (by omega), List.getElem?_zipWith, hp, hs]
      · rw [List.getElem?_set_ne (Ne.symm hj), mapK_get hl k j]
        by_cases h1 : j < k
        · rw [if_pos h1, if_pos (by omega)]
        · rw [if_neg h1, if_neg (by omega)]
    · have e1 : mapK c f st (k + 1) = mapK c f st k := by
        show (match c.ports[k]?, st[k]? with | some p, some s => (mapK c f st k).set k (f p s) | _, _ => mapK c f st k) = _
        rw [List.getElem?_eq_none (by omega)]
      rw [e1, mapK_get hl k j]
      by_cases h1 : j < k
      · rw [if_pos h1, if_pos (by omega)]
      · rw [if_neg h1]
        by_cases h2 : j < k + 1
        · rw [if_pos h2, List.getElem?_eq_none (by omega), List.getElem?_eq_none (by simp; omega)]
        · rw [if_neg h2]
theorem mapK_all (hl : st.length = c.ports.length) : mapK c f st c.ports.length = List.zipWith f c.ports st := by
  apply List.ext_getElem?
  intro j
  rw [mapK_get hl]
  by_cases h : j < c.ports.length
  · rw [if_pos h]
  · rw [if_neg h, List.getElem?_eq_none (by omega), List.getElem?_eq_none (by simp; omega)]
theorem mapK_at (hl : st.length = c.ports.length) {k : Nat} {s : PS} (hs : (mapK c f st k)[k]? = some s) : st[k]? = some s := by rwa [mapK_get hl, if_neg (by omega)] at hs
end
def msgOf (i : Nat) (d : List UInt8) : FrameP.Msg := ⟨(i : Int), d⟩
def imgP (c : Cfg) (sel : Port → Bool) (st : St) : Nat → List FrameP.Msg
  | 0 => []
  | k + 1 => imgP c sel st k ++ (match c.ports[k]?, st[k]? with
    | some p, some s => if sel p = true then s.msgs.map (msgOf k) else []
    | _, _ => [])
theorem imgP_step {c : Cfg} {sel : Port → Bool} {st : St} {k : Nat} {p : Port} {s : PS} (hp : c.ports[k]? = some p) (hs : st[k]? = some s) : imgP c sel st (k + 1) = imgP c sel st k ++ if sel p = true then s.msgs.map (msgOf k) else [] := by
  show imgP c sel st k ++ (match c.ports[k]?, st[k]? with | some p, some s => if sel p = true then s.msgs.map (msgOf k) else [] | _, _ => []) = _
  rw [hp, hs]
theorem imgP_len {c : Cfg} {sel : Port → Bool} {st : St} (h : ∀ s ∈ st, s.msgs.length ≤ 4) : ∀ k, (imgP c sel st k).length ≤ 4 * k
  | 0 => by simp [imgP]
  | k + 1 => by
    have ih := imgP_len (c := c) (sel := sel) h k
    unfold imgP
    rw [List.length_append]
    split
    · rename_i p s hp hs
      have := h s (List.mem_of_getElem? hs)
      split
      · rw [List.length_map]; omega
      · simp; omega
    · simp; omega
theorem img_image {c : Cfg} {node : Int} {out : Bool} {st : St} (hl : st.length = c.ports.length) : ∀ k, k ≤ c.ports.length → (imageK c node out st k).map (fun m => msgOf m.1 m.2) = imgP c (shown c node out) st k
  | 0, _ => by simp [imageK, imageFrom, imgP]
  | k + 1, hk => by
    have hp : c.ports[k]? = some c.ports[k] := List.getElem?_eq_getElem (by omega)
    have hs : st[k]? = some st[k] := List.getElem?_eq_getElem (by omega)
    rw [image_step hp hs, imgP_step hp hs, List.map_append, img_image hl k (by omega)]
    congr 1
    split
    · rw [List.map_map]; rfl
    · rfl
def msgsT (c : Cfg) (node : Int) (out : Bool) (st : St) : List FrameP.Msg := (imageT c node out st).map (fun m => msgOf m.1 m.2)
theorem img_all {c : Cfg} {node : Int} {out : Bool} {st : St} (hl : st.length = c.ports.length) : imgP c (shown c node out) st c.ports.length = msgsT c node out st := by
  unfold msgsT
  rw [← image_all hl, img_image hl _ (Nat.le_refl _)]
/-- Ports of other nodes hold nothing. -/
structure Bare (c : Cfg) (node : Int) (st : St) : Prop where
  len : st.length = c.ports.length
  none_ : ∀ (i : Nat) (p : Port) (s : PS), c.ports[i]? = some p → st[i]? = some s → mineB c node p = false → s.msgs = []
theorem Bare.start (c : Cfg) (node : Int) : Bare c node (start c) := ⟨start_length c, fun i p s _ hs _ => by
  rw [List.eq_of_mem_replicate (List.mem_of_getElem? hs)]; rfl⟩
theorem Bare.set {c : Cfg} {node : Int} {st : St} (h : Bare c node st) {i : Nat} {p : Port} (hp : c.ports[i]? = some p) {x : PS} (hx : mineB c node p = false → x.msgs = []) : Bare c node (st.set i x) := by
  refine ⟨by rw [List.length_set]; exact h.len, fun j q s hq hs hm => ?_⟩
  have hi := (List.getElem?_eq_some_iff.1 hp).1
  by_cases hj : j = i
  · subst hj
    rw [List.getElem?_set_self (by rw [h.len]; exact hi)] at hs
    obtain rfl := Option.some.inj hs
    rw [hp] at hq
    obtain rfl := Option.some.inj hq
    exact hx hm
  · rw [List.getElem?_set_ne (Ne.symm hj)] at hs
    exact h.none_ j q s hq hs hm
theorem find_mine {c : Cfg} {node part port : Int} {out : Bool} {p : Port} (h : findT c node part port out = none) (hp : c.ports[port.toNat]? = some p) : mineB c node p = true := by
  unfold findT at h
  split at h
  · cases h
  · rw [hp] at h
    simp only at h
    split at h
    · rename_i h1; exact h1.2
    · cases h
theorem Bare.write {c : Cfg} {node : Int} {st : St} (h : Bare c node st) (part port : Int) (d : List UInt8) : Bare c node (writeP c node st part port d).2 := by
  unfold writeP
  cases hf : findT c node part port true with
  | some e => exact h
  | none =>
    simp only
    cases hp : c.ports[port.toNat]? with
    | none => exact h
    | some p =>
      obtain ⟨s, hs⟩ := get_of h.len hp
      simp only [hs]
      split
      · exact h
      · split
        · exact h.set hp fun e => by rw [find_mine hf hp] at e; cases e
        · exact h
theorem Bare.read {c : Cfg} {node : Int} {st : St} (h : Bare c node st) (part port : Int) : Bare c node (readT c node st part port).2 := by
  unfold readT
  cases hf : findT c node part port false with
  | some e => exact h
  | none =>
    simp only
    cases hp : c.ports[port.toNat]? with
    | none => exact h
    | some p =>
      obtain ⟨s, hs⟩ := get_of h.len hp
      simp only [hs]
      split
      · exact h
      · split
        · exact h
        · exact h.set hp fun e => by rw [find_mine hf hp] at e; cases e
theorem Bare.puts {c : Cfg} {node : Int} {d : List UInt8} : ∀ (ts : List Int) {st : St}, Bare c node st → (∀ t ∈ ts, ∀ p, c.ports[t.toNat]? = some p → mineB c node p = true) → Bare c node (putsT c d ts st).2
  | [], st, h, _ => h
  | t :: ts, st, h, ht => by
    unfold putsT
    refine Bare.puts ts (?_ : Bare c node (putOne c d st t).2) (fun u hu => ht u (List.mem_cons_of_mem _ hu))
    unfold putOne
    cases hp : c.ports[t.toNat]? with
    | none => exact h
    | some p =>
      obtain ⟨s, hs⟩ := get_of h.len hp
      simp only [hs]
      split
      · exact h.set hp fun e => by rw [ht t (by simp) p hp] at e; cases e
      · exact h
theorem toT_mine {c : Cfg} {node : Int} {port : Nat} {t : Int} (h : t ∈ toT c node port) {p : Port} (hp : c.ports[t.toNat]? = some p) : mineB c node p = true := by
  obtain ⟨r, -, rfl, hw⟩ := toT_mem h
  unfold wayB at hw
  rw [hp] at hw
  simp only [Bool.and_eq_true] at hw
  exact hw.2
theorem Bare.one {c : Cfg} {node src_ : Int} {st : St} (h : Bare c node st) (m : Int × List UInt8) : Bare c node (oneT c node src_ st m).2 := by
  rw [one_puts]
  split
  · exact Bare.puts _ h fun t ht p hp => toT_mine ht hp
  · exact h
theorem Bare.deliver {c : Cfg} {node src_ : Int} : ∀ (ms : List (Int × List UInt8)) {st : St}, Bare c node st → Bare c node (deliverT c node src_ ms st).2
  | [], _, h => h
  | m :: ms, st, h => by
    unfold deliverT
    exact Bare.deliver ms (h.one m)
theorem Bare.zip {c : Cfg} {node : Int} {st : St} (h : Bare c node st) (f : Port → PS → PS) (hf : ∀ p u, u.msgs = [] → (f p u).msgs = []) : Bare c node (List.zipWith f c.ports st) := by
  refine ⟨by simp [h.len], fun i p s hp hs hm => ?_⟩
  obtain ⟨u, hu, rfl⟩ := zip_get hp hs
  exact hf p u (h.none_ i p u hp hu hm)
theorem Bare.clear {c : Cfg} {node : Int} {st : St} (h : Bare c node st) (part : Int) : Bare c node (clearT c part st) := h.zip _ fun p u e => by
  split
  · rfl
  · exact e
theorem Bare.sealS {c : Cfg} {node : Int} {st : St} (h : Bare c node st) : Bare c node (sealS c node st) := h.zip _ fun p u e => by
  split
  · rfl
  · exact e
theorem Bare.grow {c : Cfg} {node : Int} {st : St} (h : Bare c node st) : Bare c node (growT st) := by
  refine ⟨by rw [grow_length]; exact h.len, fun i p s hp hs hm => ?_⟩
  unfold growT at hs
  rw [List.getElem?_map] at hs
  obtain ⟨u, hu⟩ := get_of h.len hp
  rw [hu] at hs
  obtain rfl := Option.some.inj hs
  exact h.none_ i p u hp hu hm
/-- As the program seals: all out ports. -/
def outF (p : Port) (s : PS) : PS := if p.out = true then ⟨[], s.age⟩ else s
theorem Bare.outs {c : Cfg} {node : Int} {st : St} (h : Bare c node st) : List.zipWith outF c.ports st = PorP.sealS c node st := by
  unfold PorP.sealS
  apply List.ext_getElem?
  intro i
  rw [List.getElem?_zipWith, List.getElem?_zipWith]
  cases hp : c.ports[i]? with
  | none => rfl
  | some p =>
    obtain ⟨s, hs⟩ := get_of h.len hp
    rw [hs]
    simp only [Option.some.injEq, outF, shown]
    by_cases hm : mineB c node p = true
    · simp [hm]
    · have hm' : mineB c node p = false := by simpa using hm
      have := h.none_ i p s hp hs hm'
      simp only [hm', Bool.false_and]
      cases s with
      | mk ms a =>
        simp only at this
        subst this
        split <;> simp
theorem Bare.img {c : Cfg} {node : Int} {st : St} (h : Bare c node st) (out : Bool) : ∀ k, imgP c (fun p => !out || p.out) st k = imgP c (shown c node out) st k
  | 0 => rfl
  | k + 1 => by
    unfold imgP
    rw [h.img out k]
    congr 1
    cases hp : c.ports[k]? with
    | none => rfl
    | some p =>
      obtain ⟨s, hs⟩ := get_of h.len hp
      simp only [hs, shown]
      by_cases hm : mineB c node p = true
      · simp [hm]
      · have hm' : mineB c node p = false := by simpa using hm
        simp [hm', h.none_ k p s hp hs hm']
theorem Like.bare {c : Cfg} {node : Int} {a b : St} (h : Like c a b) (hb : Bare c node a) : Bare c node b := ⟨h.lb, fun i p s hp hs hm => by
  obtain ⟨u, hu⟩ := get_of h.la hp
  rw [← (h.each i p u s hp hu hs).1]
  exact hb.none_ i p u hp hu hm⟩
end PorP
end Go.Proofs.Ytdeodoppcflgfaa
