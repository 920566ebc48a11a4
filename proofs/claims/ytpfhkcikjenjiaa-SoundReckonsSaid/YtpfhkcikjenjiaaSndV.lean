/- Contracts of sound's owner and neighbours. Conditions: the tables are allowed. -/
import Derived.Test.YtpfhkcikjenjiaaSndU
import Derived.Test.YtpfhkcikjenjiaaSndN
import Derived.Test.YtpfhkcikjenjiaaSndF
import Derived.Deep.OwnRows
namespace Go.Proofs.Ytpfhkcikjenjiaa
open Go.RowKit
set_option maxRecDepth 100000

set_option maxHeartbeats 1000000 in
theorem owner_any (x : CfgC) (w : World) (h : CfgIn w x) (i : Nat) (p : TableP.Port) (hi : x.ports[i]? = some p) (hq : x.qn ≤ 24) (hp : 0 ≤ p.part ∧ p.part < x.pn) (hpn : x.pn ≤ 12) :
    Calls Try.prog 58 #[x.value, .int .i64 (i : Nat)] w (IntPost p.part w) := by
  have hiq : i < x.qn := by have := (List.getElem?_eq_some_iff.1 hi).1; have := h.qlen; omega
  obtain ⟨bq, oq, e, hbl, c0, -⟩ := ports_at (h.ports.below (boxC_below w x)) hi
  have HF := Lib.hid (boxC_below w x)
  clear h hi
  obtain ⟨nodes, faulty, slot, gap, rho, dmin, dmax, margin, PA, pn, pcap, parts, QA, qn, qcap, ports, RA, rn, rcap, routes⟩ := x
  simp only [boxC, cfgCells] at e c0 HF
  simp only [CfgC.value] at hiq hq hp hpn ⊢
  subst e
  generalize p.part = pp at *
  have z1 : decide ((i : Int) < 0) = false := decide_eq_false (by omega)
  have z2 : decide ((qn : Int) ≤ (i : Int)) = false := decide_eq_false (by omega)
  have z2n : decide (qn ≤ i) = false := decide_eq_false (by omega)
  have z3 : decide (pp < 0) = false := decide_eq_false (by omega)
  have z4 : decide ((pn : Int) ≤ pp) = false := decide_eq_false (by omega)
  go_enter Try.func58, Try.ntmps58
  go_wp2_with fail
  go_ret
  exact ⟨rfl, HF.out⟩

/-- What tables that are allowed say of a route's ends. -/
theorem ends_of {c : TableP.Cfg} (h : SndP.Allowed c) {r : TableP.Route} (hr : r ∈ c.routes) :
    ∃ s d : Nat, r = ⟨(s : Int), (d : Int)⟩ ∧ ∃ pa pb, c.ports[s]? = some pa ∧ c.ports[d]? = some pb ∧ ∃ a b : Nat, pa.part = (a : Int) ∧ pb.part = (b : Int) ∧ a < c.parts.length ∧ b < c.parts.length ∧ RchP.edge c.ports r = (a, b) := by
  obtain ⟨h1, h2⟩ := h.route r hr
  unfold TableP.up at h1 h2
  obtain ⟨src, dst⟩ := r
  simp only at h1 h2
  obtain ⟨s, rfl⟩ := Int.eq_ofNat_of_zero_le h1.1
  obtain ⟨d, rfl⟩ := Int.eq_ofNat_of_zero_le h2.1
  have hs : s < c.ports.length := by omega
  have hd : d < c.ports.length := by omega
  have ea := List.getElem?_eq_getElem hs
  have eb := List.getElem?_eq_getElem hd
  have pa := (h.port _ (List.getElem_mem hs)).1
  have pb := (h.port _ (List.getElem_mem hd)).1
  unfold TableP.up at pa pb
  obtain ⟨a, ha⟩ := Int.eq_ofNat_of_zero_le pa.1
  obtain ⟨b, hb⟩ := Int.eq_ofNat_of_zero_le pb.1
  refine ⟨s, d, rfl, _, _, ea, eb, a, b, ha, hb, by omega, by omega, ?_⟩
  simp only [RchP.edge, RchP.partN, Int.toNat_natCast, ea, eb, ha, hb]

theorem infoL : (Try.prog.info? 41).map (fun i => (i.zero, i.size, i.bytes)) = some (some (.slice none 0 0), 1, 24) := by kernel_rfl
theorem own_tag {w : World} {B B' e e' size size' n n' : Nat} {v v' : Value} {xs xs' : List Value} (h : w.ownsRow B e size v n xs) (h' : w.ownsRow B' e' size' v' n' xs') (hne : e ≠ e') (q : Nat) (hq : v.ownBlock = some q) : v'.ownBlock ≠ some q := fun hq' => by
  rcases h.2 with ⟨rfl, -⟩ | ⟨g, cap, cur, rfl, -, hg, -⟩
  · simp [Value.ownBlock] at hq
  · rcases h'.2 with ⟨rfl, -⟩ | ⟨g', cap', cur', rfl, -, hg', -⟩
    · simp [Value.ownBlock] at hq'
    · simp [Value.ownBlock] at hq hq'
      subst hq hq'
      rw [hg] at hg'
      simp at hg'
      exact hne hg'.2
/-- A slice of slices of indices, each with rows of its own. -/
def NbrIn (B g n : Nat) (E : List (Nat × Nat)) (W : World) : Prop :=
  ∃ vs : List Value, vs.length = n ∧ W.ownsRow B 41 1 (.slice (some ⟨g, 0, none⟩) n n) n vs ∧
    (∀ (f : Nat) u, vs[f]? = some u → W.ownsRow B 3 1 u (RchP.nbr E f).length (idxV (RchP.nbr E f))) ∧
    (∀ (f f' : Nat) u u' q, f ≠ f' → vs[f]? = some u → vs[f']? = some u' → u.ownBlock = some q → u'.ownBlock ≠ some q)
theorem NbrIn.keep {B g n : Nat} {E : List (Nat × Nat)} {W W' : World} (h : NbrIn B g n E W) (hb : Below W.heap.size W W') : NbrIn B g n E W' := by
  obtain ⟨vs, h1, h2, h3, h4⟩ := h
  exact ⟨vs, h1, own_keep h2 hb, fun f u hu => own_keep (h3 f u hu) hb, h4⟩
theorem NbrIn.start {B n : Nat} {W : World} (hB : B ≤ W.heap.size) (hn : n ≤ 12) : NbrIn B W.heap.size n [] (W.alloc (.cells (madeCells #[.slice none 0 0] n) 41)) := by
  refine ⟨List.replicate n (.slice none 0 0), by simp, ?_, fun f u hu => ?_, fun f f' u u' q _ hu _ hq => ?_⟩
  · have h1 := World.ownsRow_lit (e := 41) (size := 1) (base := B) W (madeCells #[.slice none 0 0] n) n hB (by unfold maxLen; omega) (by have := congrArg List.length (toList_madeCells_one (.slice none 0 0) n); simpa using this)
    rw [toList_madeCells_one] at h1
    exact h1
  · rw [List.getElem?_replicate] at hu
    split at hu
    · cases hu; exact World.ownsRow_nil _ _ _ _
    · cases hu
  · rw [List.getElem?_replicate] at hu
    split at hu
    · cases hu; simp [Value.ownBlock] at hq
    · cases hu
/-- One edge more: the row that grew, and its slice laid back. -/
theorem NbrIn.more {B g n : Nat} {E : List (Nat × Nat)} {W W1 : World} (h : NbrIn B g n E W) {a b : Nat} {u v : Value} (hu : W.cell? ⟨g, a, none⟩ = some u) (han : a < n)
    (ho : W1.ownsRow B 3 1 v ((RchP.nbr E a).length + 1) (idxV (RchP.nbr E a) ++ [.int .i64 (b : Nat)])) (ha : Apart (fun q => u.ownBlock = some q) W W1) (hw : v.ownBlock = u.ownBlock ∨ ∃ N, v.ownBlock = some N ∧ W.heap.size ≤ N) :
    NbrIn B g n (E ++ [(a, b)]) (W1.setCell ⟨g, a, none⟩ v) := by
  obtain ⟨vs, h1, h2, h3, h4⟩ := h
  have hvs : vs[a]? = some u := by rw [← h2.cellAt a (by omega)]; exact hu
  have hua := h3 a u hvs
  have hgu : ∀ q, u.ownBlock = some q → q ≠ g := fun q hq e => own_tag hua h2 (by decide) q hq (by rw [e]; rfl)
  have h2b := own_apart h2 ha (fun q hq e => by
    simp only [Value.ownBlock, Option.some.injEq] at hq
    exact hgu q e hq.symm)
  have hs := h2b.stored a v
  have hset : Apart (fun q => q = g) W1 (W1.setCell ⟨g, a, none⟩ v) := Apart.setCell (F := fun q => q = g) (Apart.refl _ W1) (p := ⟨g, a, none⟩) (.inl rfl) v
  refine ⟨vs.set a v, by simp [h1], hs.1, fun f z hz => ?_, fun f f' z z' q hff hz hz' hq => ?_⟩
  · by_cases hfa : a = f
    · subst hfa
      rw [List.getElem?_set_self (by omega)] at hz
      cases hz
      rw [RchP.nbr_snoc, if_pos rfl]
      have e1 : (RchP.nbr E a ++ [b]).length = (RchP.nbr E a).length + 1 := by simp
      have e2 : idxV (RchP.nbr E a ++ [b]) = idxV (RchP.nbr E a) ++ [.int .i64 (b : Nat)] := by simp [idxV]
      rw [e1, e2]
      exact own_apart ho hset (fun q hq e => own_tag ho h2b (by decide) q hq (by rw [e]; rfl))
    · rw [List.getElem?_set_ne hfa] at hz
      rw [RchP.nbr_snoc, if_neg hfa]
      have h5 := h3 f z hz
      have h6 := own_apart h5 ha (fun q hq e => h4 f a z u q (Ne.symm hfa) hz hvs hq e)
      exact own_apart h6 hset (fun q hq e => own_tag h6 h2b (by decide) q hq (by rw [e]; rfl))
  · have key : ∀ (k : Nat) y r, a ≠ k → vs[k]? = some y → y.ownBlock = some r → v.ownBlock ≠ some r := fun k y r hk hy hr hv => by
      rcases hw with hw | ⟨N, hN, hle⟩
      · rw [hw] at hv
        exact h4 a k u y r hk hvs hy hv hr
      · rw [hN] at hv
        cases hv
        have := ((h3 k y hy).lt r hr).2
        omega
    by_cases hfa : a = f
    · subst hfa
      rw [List.getElem?_set_self (by omega)] at hz
      cases hz
      rw [List.getElem?_set_ne hff] at hz'
      intro hq'
      exact key f' z' q hff hz' hq' hq
    · rw [List.getElem?_set_ne hfa] at hz
      by_cases hfa' : a = f'
      · subst hfa'
        rw [List.getElem?_set_self (by omega)] at hz'
        cases hz'
        exact key f z q hfa hz hq
      · rw [List.getElem?_set_ne hfa'] at hz'
        exact h4 f f' z z' q hff hz hz' hq
theorem NbrIn.cell {B g n : Nat} {E : List (Nat × Nat)} {W : World} (h : NbrIn B g n E W) {f : Nat} (hf : f < n) :
    ∃ A c, W.cell? ⟨g, f, none⟩ = some (.slice A (RchP.nbr E f).length c) ∧ W.ownsRow B 3 1 (.slice A (RchP.nbr E f).length c) (RchP.nbr E f).length (idxV (RchP.nbr E f)) := by
  obtain ⟨vs, h1, h2, h3, -⟩ := h
  obtain ⟨u, hu⟩ : ∃ u, vs[f]? = some u := ⟨_, List.getElem?_eq_getElem (by omega)⟩
  have ho := h3 f u hu
  obtain ⟨A, c, rfl, -⟩ := own_slice ho
  exact ⟨A, c, by rw [h2.cellAt f (by omega)]; exact hu, ho⟩
theorem NbrIn.free {B g n : Nat} {E : List (Nat × Nat)} {W : World} (h : NbrIn B g n E W) (f : Nat) : W.frozen? ⟨g, f, none⟩ = false := by
  obtain ⟨vs, h1, h2, -⟩ := h
  exact h2.frozenAt f
theorem NbrIn.lt {B g n : Nat} {E : List (Nat × Nat)} {W : World} (h : NbrIn B g n E W) : B ≤ g ∧ g < W.heap.size := by
  obtain ⟨vs, h1, h2, -⟩ := h
  exact h2.lt g (by simp [Value.ownBlock])

theorem NbrIn.apart_cell {B g n : Nat} {E : List (Nat × Nat)} {W W1 : World} (h : NbrIn B g n E W) {a : Nat} {u : Value} (hu : W.cell? ⟨g, a, none⟩ = some u) (han : a < n) (ha : Apart (fun q => u.ownBlock = some q) W W1) :
    W1.cell? ⟨g, a, none⟩ = some u ∧ W1.frozen? ⟨g, a, none⟩ = false := by
  obtain ⟨vs, h1, h2, h3, -⟩ := h
  have hvs : vs[a]? = some u := by rw [← h2.cellAt a (by omega)]; exact hu
  have h2b := own_apart h2 ha (fun q hq e => by
    simp only [Value.ownBlock, Option.some.injEq] at hq
    exact own_tag (h3 a u hvs) h2 (by decide) q e (by rw [← hq]; rfl))
  exact ⟨by rw [h2b.cellAt a (by omega)]; exact hvs, h2b.frozenAt a⟩
/-- What neighbours answers. -/
def NbrPost (n : Nat) (E : List (Nat × Nat)) (w : World) (e : Ending) (w' : World) : Prop := ∃ g, e = .returned (.slice (some ⟨g, 0, none⟩) n n) ∧ NbrIn (w.heap.size + 1) g n E w' ∧ Below w.heap.size w w'
def NbR (w : World) (x : CfgC) (g : Nat) (i : Value) (W : World) : Prop :=
  ∃ k, k ≤ x.rn ∧ i = .int .i64 (k : Nat) ∧ BoxS w x W ∧ NbrIn (boxC w x).heap.size g x.pn ((x.routes.take k).map (RchP.edge x.ports)) W

theorem nbr_round {w : World} {x : CfgC} {g n : Nat} {E : List (Nat × Nat)} {W W1 : World} {a b : Nat} {u v : Value} {m : Nat} {xs : List Value} (hB : BoxS w x W) (h : NbrIn (boxC w x).heap.size g n E W) (hu : W.cell? ⟨g, a, none⟩ = some u) (hou : W.ownsRow (boxC w x).heap.size 3 1 u m xs) (han : a < n)
    (ho : W1.ownsRow (boxC w x).heap.size 3 1 v ((RchP.nbr E a).length + 1) (idxV (RchP.nbr E a) ++ [.int .i64 (b : Nat)])) (ha : Apart (fun q => u.ownBlock = some q) W W1) (hw : v.ownBlock = u.ownBlock ∨ v.ownBlock = some W.heap.size) :
    BoxS w x (W1.setCell ⟨g, a, none⟩ v) ∧ NbrIn (boxC w x).heap.size g n (E ++ [(a, b)]) (W1.setCell ⟨g, a, none⟩ v) := by
  have hN := h.more hu han ho ha (hw.imp id fun h => ⟨_, h, Nat.le_refl _⟩)
  have h1 : BoxS w x W1 := Below.trans hB (ha.below hB.size (fun q hq => (hou.lt q hq).1))
  refine ⟨Below.trans h1 ((Apart.setCell (F := fun q => q = g) (Apart.refl _ W1) (p := ⟨g, a, none⟩) (.inl rfl) v).below h1.size (fun q hq => by rw [hq]; exact h.lt.1)), hN⟩

set_option maxHeartbeats 4000000 in
theorem nbr_any (x : CfgC) (w : World) (h : CfgIn w x) (ha : SndP.Allowed x.plain) : Calls Try.prog 43 #[x.value] w (NbrPost x.pn (RchP.edges x.plain) w) := by
  have hpl := h.plen
  have hql := h.qlen
  have hrl := h.rlen
  have hp12 : x.pn ≤ 12 := by have h1 : x.parts.length ≤ 12 := ha.parts; omega
  have hq24 : x.qn ≤ 24 := by have h1 : x.ports.length ≤ 24 := ha.ports; omega
  have hr24 : x.rn ≤ 24 := by have h1 : x.routes.length ≤ 24 := ha.routes; omega
  have HO := Lib.hid (fun W (hW : BoxS w x W) i p hi hp => owner_any x W (h.below hW.below) i p hi hq24 hp hp12)
  have HRA := Lib.hid (fun W (hW : BoxS w x W) k p (hk : x.routes[k]? = some p) => routes_at (h.routes.below hW.below) hk)
  have HEn := Lib.hid (fun r (hr : r ∈ x.routes) => ends_of ha hr)
  have HStep : Hid (∀ k r a b, x.routes[k]? = some r → RchP.edge x.ports r = (a, b) → (x.routes.take (k + 1)).map (RchP.edge x.ports) = (x.routes.take k).map (RchP.edge x.ports) ++ [(a, b)]) := Lib.hid fun k r a b hk he => by
    rw [List.take_add_one, hk, List.map_append]
    simp [he]
  have HFin : Hid (∀ g W, BoxS w x W → NbrIn (boxC w x).heap.size g x.pn ((x.routes.take x.rn).map (RchP.edge x.ports)) W → NbrPost x.pn (RchP.edges x.plain) w (.returned (.slice (some ⟨g, 0, none⟩) x.pn x.pn)) W) := Lib.hid fun g W h1 h2 => by
    rw [boxC_size, List.take_of_length_le (by omega)] at h2
    exact ⟨g, rfl, h2, h1.below⟩
  have hst := BoxS.start w x
  have HR0 : Hid (NbR w x (boxC w x).heap.size (.int .i64 0) ((boxC w x).alloc (.cells (madeCells #[.slice none 0 0] x.pn) 41))) := Lib.hid ⟨0, Nat.zero_le _, rfl, hst.alloc _, NbrIn.start (Nat.le_refl _) hp12⟩
  generalize RchP.edges x.plain = EE at *
  clear h ha
  obtain ⟨nodes, faulty, slot, gap, rho, dmin, dmax, margin, PA, pn, pcap, parts, QA, qn, qcap, ports, RA, rn, rcap, routes⟩ := x
  have d0 := fun W (hW : BoxS w ⟨nodes, faulty, slot, gap, rho, dmin, dmax, margin, PA, pn, pcap, parts, QA, qn, qcap, ports, RA, rn, rcap, routes⟩ W) => hW.cells.c0
  have d1 := fun W (hW : BoxS w ⟨nodes, faulty, slot, gap, rho, dmin, dmax, margin, PA, pn, pcap, parts, QA, qn, qcap, ports, RA, rn, rcap, routes⟩ W) => hW.cells.c1
  have d2 := fun W (hW : BoxS w ⟨nodes, faulty, slot, gap, rho, dmin, dmax, margin, PA, pn, pcap, parts, QA, qn, qcap, ports, RA, rn, rcap, routes⟩ W) => hW.cells.c2
  have d3 := fun W (hW : BoxS w ⟨nodes, faulty, slot, gap, rho, dmin, dmax, margin, PA, pn, pcap, parts, QA, qn, qcap, ports, RA, rn, rcap, routes⟩ W) => hW.cells.c3
  have d4 := fun W (hW : BoxS w ⟨nodes, faulty, slot, gap, rho, dmin, dmax, margin, PA, pn, pcap, parts, QA, qn, qcap, ports, RA, rn, rcap, routes⟩ W) => hW.cells.c4
  have d5 := fun W (hW : BoxS w ⟨nodes, faulty, slot, gap, rho, dmin, dmax, margin, PA, pn, pcap, parts, QA, qn, qcap, ports, RA, rn, rcap, routes⟩ W) => hW.cells.c5
  have d6 := fun W (hW : BoxS w ⟨nodes, faulty, slot, gap, rho, dmin, dmax, margin, PA, pn, pcap, parts, QA, qn, qcap, ports, RA, rn, rcap, routes⟩ W) => hW.cells.c6
  have d7 := fun W (hW : BoxS w ⟨nodes, faulty, slot, gap, rho, dmin, dmax, margin, PA, pn, pcap, parts, QA, qn, qcap, ports, RA, rn, rcap, routes⟩ W) => hW.cells.c7
  have d8 := fun W (hW : BoxS w ⟨nodes, faulty, slot, gap, rho, dmin, dmax, margin, PA, pn, pcap, parts, QA, qn, qcap, ports, RA, rn, rcap, routes⟩ W) => hW.cells.c8
  have d9 := fun W (hW : BoxS w ⟨nodes, faulty, slot, gap, rho, dmin, dmax, margin, PA, pn, pcap, parts, QA, qn, qcap, ports, RA, rn, rcap, routes⟩ W) => hW.cells.c9
  have d10 := fun W (hW : BoxS w ⟨nodes, faulty, slot, gap, rho, dmin, dmax, margin, PA, pn, pcap, parts, QA, qn, qcap, ports, RA, rn, rcap, routes⟩ W) => hW.cells.c10
  have kb := fun o => hst.alloc o
  have k0 := d0 _ hst
  have k1 := d1 _ hst
  have k2 := d2 _ hst
  have k3 := d3 _ hst
  have k4 := d4 _ hst
  have k5 := d5 _ hst
  have k6 := d6 _ hst
  have k7 := d7 _ hst
  have k8 := d8 _ hst
  have k9 := d9 _ hst
  have k10 := d10 _ hst
  have kb10 := fun o => d10 _ (kb o)
  simp only at d0 d1 d2 d3 d4 d5 d6 d7 d8 d9 d10 k0 k1 k2 k3 k4 k5 k6 k7 k8 k9 k10 kb10 hpl hql hrl hp12 hq24 hr24 HRA
  simp only [CfgC.plain] at HEn
  simp only [boxC, cfgCells] at HR0 k0 k1 k2 k3 k4 k5 k6 k7 k8 k9 k10 kb10
  simp only [CfgC.value] at HO ⊢
  have hmk := fun W => run_make_row' (P := Try.prog) 64 41 (.slice none 0 0) 24 Try.underlying64 infoL rfl .i64 .i64 pn (by omega) (by omega) W
  clear hst kb
  go_enter Try.func43, Try.ntmps43
  go_wp2_with fail
  clear k0 k1 k2 k3 k4 k5 k6 k7 k8 k9 k10 kb10
  go_loopw [15] (NbR w ⟨nodes, faulty, slot, gap, rho, dmin, dmax, margin, PA, pn, pcap, parts, QA, qn, qcap, ports, RA, rn, rcap, routes⟩ (w.heap.size + 1)) (fun i _ => (rn + 1 - intOf i).toNat)
  case atStart =>
    have h := HR0.out
    rw [show (w.alloc (.cells #[.int .i64 nodes, .int .i64 faulty, .int .i64 slot, .int .i64 gap, .int .i64 rho, .int .i64 dmin, .int .i64 dmax, .int .i64 margin, .slice PA pn pcap, .slice QA qn qcap, .slice RA rn rcap] 26)).heap.size = w.heap.size + 1 from Array.size_push _] at h
    exact h
  case round =>
    clear HR0
    obtain ⟨k, hk, rfl, hB, hN⟩ := hrel
    have HB := Lib.hid hB
    have HN := Lib.hid hN
    clear hB hN
    simp only at hk HN
    by_cases hlt : k < rn
    case pos =>
      obtain ⟨r, hmk⟩ : ∃ y, routes[k]? = some y := ⟨_, List.getElem?_eq_getElem (by omega)⟩
      obtain ⟨br, or, er, -, c0, c1⟩ := HRA.out wr HB.out k r hmk
      obtain ⟨s, d, hr, pa, pb, ea, eb, a, b, pea, peb, hal, hbl, hedge⟩ := HEn.out r (List.mem_of_getElem? hmk)
      have HStp := Lib.hid (HStep.out k r a b hmk hedge)
      try simp only at HStp
      have hlE : ((routes.take k).map (RchP.edge ports)).length ≤ 24 := by rw [List.length_map, List.length_take]; omega
      generalize (routes.take k).map (RchP.edge ports) = E at *
      subst hr
      have hpa : (0 : Int) ≤ pa.part ∧ pa.part < pn := by omega
      have hpb : (0 : Int) ≤ pb.part ∧ pb.part < pn := by omega
      have HO1 := Lib.hid (fun W hW => HO.out W hW s pa ea hpa)
      have HO2 := Lib.hid (fun W hW => HO.out W hW d pb eb hpb)
      rw [pea] at HO1
      rw [peb] at HO2
      have han : a < pn := by omega
      have hbn : b < pn := by omega
      clear hmk ea eb pea peb hpa hpb hedge HEn HRA HStep HO
      simp only at c0 c1
      subst er
      have H5 := Lib.hid (fun o => (HB.out.alloc o : BoxS w ⟨nodes, faulty, slot, gap, rho, dmin, dmax, margin, PA, pn, pcap, parts, QA, qn, qcap, ports, some ⟨br, or, none⟩, rn, rcap, routes⟩ (wr.alloc o)))
      have HN5 := Lib.hid (fun o => HN.out.keep ((Below.refl wr.heap.size wr).alloc (Nat.le_refl _) o))
      have HT5 := Lib.hid (heap_alloc_new wr (.cells #[.int .i64 (s : Nat), .int .i64 (d : Nat)] 50 (0, 0)))
      go_upto_region 5 with (fail)
      have H5a := Lib.hid (H5.out (.cells #[.int .i64 (s : Nat), .int .i64 (d : Nat)] 50))
      have HN5a := Lib.hid (HN5.out (.cells #[.int .i64 (s : Nat), .int .i64 (d : Nat)] 50))
      clear c0 c1 H5 HN5 HB HN
      generalize wr.alloc (.cells #[.int .i64 (s : Nat), .int .i64 (d : Nat)] 50) = w5 at *
      generalize wr.heap.size = N at *
      have hd0 : Below w5.heap.size w5 w5.drew := (Below.refl _ _).drew
      have g0 := fun W (hW : Below w5.heap.size w5 W) => d0 W (H5a.out.step hW)
      have g1 := fun W (hW : Below w5.heap.size w5 W) => d1 W (H5a.out.step hW)
      have g2 := fun W (hW : Below w5.heap.size w5 W) => d2 W (H5a.out.step hW)
      have g3 := fun W (hW : Below w5.heap.size w5 W) => d3 W (H5a.out.step hW)
      have g4 := fun W (hW : Below w5.heap.size w5 W) => d4 W (H5a.out.step hW)
      have g5 := fun W (hW : Below w5.heap.size w5 W) => d5 W (H5a.out.step hW)
      have g6 := fun W (hW : Below w5.heap.size w5 W) => d6 W (H5a.out.step hW)
      have g7 := fun W (hW : Below w5.heap.size w5 W) => d7 W (H5a.out.step hW)
      have g8 := fun W (hW : Below w5.heap.size w5 W) => d8 W (H5a.out.step hW)
      have g9 := fun W (hW : Below w5.heap.size w5 W) => d9 W (H5a.out.step hW)
      have g10 := fun W (hW : Below w5.heap.size w5 W) => d10 W (H5a.out.step hW)
      have r0 := fun W (hW : Below w5.heap.size w5 W) => cell_at ((hW.block N (lt_of_block HT5.out)).trans HT5.out) 0 rfl
      have r1 := fun W (hW : Below w5.heap.size w5 W) => cell_at ((hW.block N (lt_of_block HT5.out)).trans HT5.out) 1 rfl
      clear d0 d1 d2 d3 d4 d5 d6 d7 d8 d9 d10
      go_wp2_with fail
      refine wp_region_held_drew (S := fun W => Below w5.heap.size w5 W) (by kernel_rfl) hd0 (fun _ => ?_)
      refine wpAnyH_take (i := 0) (oi := ?oo1) (v := ?vv1) ?ii1 (by kernel_rfl) ?ff1 (by kernel_rfl) ?qq1 (Or.inl ⟨?ww1, ?yy1⟩) hd0 ?rr1
      case ii1 => simp only [List.getElem?_toArray, List.getElem?_cons_zero]; rfl
      case ff1 => kernel_rfl
      case qq1 => exact fun _ _ _ h => h
      case ww1 => rfl
      case yy1 => intro W hW; go_simp <;> with_reducible rfl
      try simp only [Act.put, List.setIfInBounds_toArray, List.set_cons_zero, List.set_cons_succ]
      refine wpAnyH_take (i := 1) (oi := ?oo2) (v := ?vv2) ?ii2 (by kernel_rfl) ?ff2 (by kernel_rfl) ?qq2 (Or.inl ⟨?ww2, ?yy2⟩) hd0 ?rr2
      case ii2 => simp only [List.getElem?_toArray, List.getElem?_cons_succ, List.getElem?_cons_zero]; rfl
      case ff2 => kernel_rfl
      case qq2 => exact fun _ _ _ h => h
      case ww2 => rfl
      case yy2 => intro W hW; go_simp <;> with_reducible rfl
      try simp only [Act.put, List.setIfInBounds_toArray, List.set_cons_zero, List.set_cons_succ]
      refine wpAnyH_take (i := 2) (oi := ?oo3) (v := ?vv3) ?ii3 (by kernel_rfl) ?ff3 (by kernel_rfl) ?qq3 (Or.inl ⟨?ww3, ?yy3⟩) hd0 ?rr3
      case ii3 => simp only [List.getElem?_toArray, List.getElem?_cons_succ, List.getElem?_cons_zero]; rfl
      case ff3 => kernel_rfl
      case qq3 => exact fun _ _ _ h => h
      case ww3 => rfl
      case yy3 => intro W hW; go_simp <;> with_reducible rfl
      try simp only [Act.put, List.setIfInBounds_toArray, List.set_cons_zero, List.set_cons_succ]
      refine wpAnyH_take (i := 4) (oi := ?oo4) (v := ?vv4) ?ii4 (by kernel_rfl) ?ff4 (by kernel_rfl) ?qq4 (Or.inl ⟨?ww4, ?yy4⟩) hd0 ?rr4
      case ii4 => simp only [List.getElem?_toArray, List.getElem?_cons_succ, List.getElem?_cons_zero]; rfl
      case ff4 => kernel_rfl
      case qq4 => exact fun _ _ _ h => h
      case ww4 => rfl
      case yy4 => intro W hW; go_simp <;> with_reducible rfl
      try simp only [Act.put, List.setIfInBounds_toArray, List.set_cons_zero, List.set_cons_succ]
      refine wpAnyH_take (i := 5) (oi := ?oo5) (v := ?vv5) ?ii5 (by kernel_rfl) ?ff5 (by kernel_rfl) ?qq5 (Or.inl ⟨?ww5, ?yy5⟩) hd0 ?rr5
      case ii5 => simp only [List.getElem?_toArray, List.getElem?_cons_succ, List.getElem?_cons_zero]; rfl
      case ff5 => kernel_rfl
      case qq5 => exact fun _ _ _ h => h
      case ww5 => rfl
      case yy5 => intro W hW; go_simp <;> with_reducible rfl
      try simp only [Act.put, List.setIfInBounds_toArray, List.set_cons_zero, List.set_cons_succ]
      refine wpAnyH_take (i := 6) (oi := ?oo6) (v := ?vv6) ?ii6 (by kernel_rfl) ?ff6 (by kernel_rfl) ?qq6 (Or.inl ⟨?ww6, ?yy6⟩) hd0 ?rr6
      case ii6 => simp only [List.getElem?_toArray, List.getElem?_cons_succ, List.getElem?_cons_zero]; rfl
      case ff6 => kernel_rfl
      case qq6 => exact fun _ _ _ h => h
      case ww6 => rfl
      case yy6 => intro W hW; go_simp <;> with_reducible rfl
      try simp only [Act.put, List.setIfInBounds_toArray, List.set_cons_zero, List.set_cons_succ]
      refine wpAnyH_ready (rs := [3]) (by kernel_rfl) (by simp) ?_
      refine AllReadyH.cons (o := ?oo7) ?ii7 (fun K hK => ?_) AllReadyH.nil
      case ii7 => simp only [List.getElem?_toArray, List.getElem?_cons_succ, List.getElem?_cons_zero]; rfl
      go_simp
      refine (HO1.out _ (H5a.out.step hd0)).mono ?_
      rintro e w6 ⟨rfl, hb6⟩
      have hd6 := hd0.trans (hb6.mono hd0.size)
      clear hb6
      go_wp2_with fail
      refine hK.out _ _ hd6 (fun _ => ?_)
      clear hK K
      refine wpAnyH_ready (rs := [7]) (by kernel_rfl) (by simp) ?_
      refine AllReadyH.cons (o := ?oo8) ?ii8 (fun K hK => ?_) AllReadyH.nil
      case ii8 => simp only [List.getElem?_toArray, List.getElem?_cons_succ, List.getElem?_cons_zero]; rfl
      go_simp
      refine (HO2.out _ (H5a.out.step hd6)).mono ?_
      rintro e w7 ⟨rfl, hb7⟩
      have hd7 := hd6.trans (hb7.mono hd6.size)
      clear hb7
      go_wp2_with fail
      refine hK.out _ _ hd7 (fun _ => ?_)
      clear hK K
      refine wpAnyH_take (i := 8) (oi := ?oo9) (v := ?vv9) ?ii9 (by kernel_rfl) ?ff9 (by kernel_rfl) ?qq9 (Or.inl ⟨?ww9, ?yy9⟩) hd7 ?rr9
      case ii9 => simp only [List.getElem?_toArray, List.getElem?_cons_succ, List.getElem?_cons_zero]; rfl
      case ff9 => kernel_rfl
      case qq9 => exact fun _ _ _ h => h
      case ww9 => rfl
      case yy9 => intro W hW; go_simp <;> with_reducible rfl
      try simp only [Act.put, List.setIfInBounds_toArray, List.set_cons_zero, List.set_cons_succ]
      refine wpAnyH_take (i := 9) (oi := ?oo10) (v := ?vv10) ?ii10 (by kernel_rfl) ?ff10 (by kernel_rfl) ?qq10 (Or.inl ⟨?ww10, ?yy10⟩) hd7 ?rr10
      case ii10 => simp only [List.getElem?_toArray, List.getElem?_cons_succ, List.getElem?_cons_zero]; rfl
      case ff10 => kernel_rfl
      case qq10 => exact fun _ _ _ h => h
      case ww10 => rfl
      case yy10 => intro W hW; go_simp <;> with_reducible rfl
      try simp only [Act.put, List.setIfInBounds_toArray, List.set_cons_zero, List.set_cons_succ]
      refine wpAnyH_done (by kernel_rfl) ?_ _
      have HB7 := Lib.hid (H5a.out.step hd7)
      have HN7 := Lib.hid (HN5a.out.keep hd7)
      clear hd0 hd6 hd7 g0 g1 g2 g3 g4 g5 g6 g7 g8 g9 g10 r0 r1 HO1 HO2 H5a HN5a HT5
      obtain ⟨Au, cu, kc, hou⟩ := HN7.out.cell han
      have Hou := Lib.hid hou
      have hlen := RchP.nbr_length E a
      have HN8 := Lib.hid (fun o => HN7.out.keep ((Below.refl w7.heap.size w7).alloc (Nat.le_refl _) o))
      have HB8 := Lib.hid (fun o => HB7.out.alloc o)
      have Hou8 := Lib.hid (fun o => own_keep Hou.out ((Below.refl w7.heap.size w7).alloc (Nat.le_refl _) o))
      have Hkc := Lib.hid (fun o => (World.cell?_of_block (w := w7) (a := ⟨w.heap.size + 1, a, none⟩) (Below.heap_alloc w7 o _ HN7.out.lt.2)).trans kc)
      have z1 : (a : Int) < (pn : Int) := by omega
      have hnew := Lib.hid (heap_alloc_new w7 (.cells #[.int .i64 (b : Nat)] 3 (0, 0)))
      have HAp : Hid (∀ v1 w1, w1.ownsRow (boxC w ⟨nodes, faulty, slot, gap, rho, dmin, dmax, margin, PA, pn, pcap, parts, QA, qn, qcap, ports, some ⟨br, or, none⟩, rn, rcap, routes⟩).heap.size 3 1 v1 ((RchP.nbr E a).length + 1) (idxV (RchP.nbr E a) ++ [.int .i64 (b : Nat)]) →
          Apart (fun q => (Value.slice Au (RchP.nbr E a).length cu).ownBlock = some q) (w7.alloc (.cells #[.int .i64 (b : Nat)] 3)) w1 → (v1.ownBlock = (Value.slice Au (RchP.nbr E a).length cu).ownBlock ∨ v1.ownBlock = some (w7.alloc (.cells #[.int .i64 (b : Nat)] 3)).heap.size) →
          w1.cell? ⟨w.heap.size + 1, a, none⟩ = some (.slice Au (RchP.nbr E a).length cu) ∧ w1.frozen? ⟨w.heap.size + 1, a, none⟩ = false ∧ NbR w ⟨nodes, faulty, slot, gap, rho, dmin, dmax, margin, PA, pn, pcap, parts, QA, qn, qcap, ports, some ⟨br, or, none⟩, rn, rcap, routes⟩ (w.heap.size + 1) (.int .i64 ((k : Int) + 1)) (w1.setCell ⟨w.heap.size + 1, a, none⟩ v1)) := Lib.hid fun v1 w1 ho1 ha1 hb1 => by
        have h1 := (HN8.out _).apart_cell (Hkc.out _) han ha1
        have h2 := nbr_round (HB8.out _) (HN8.out _) (Hkc.out _) (Hou8.out _) han ho1 ha1 hb1
        exact ⟨h1.1, h1.2, k + 1, by simp only; omega, by go_num, h2.1, by simp only; rw [HStp.out]; exact h2.2⟩
      clear hou
      go_wp2_with (first
      | (at_builtin
         refine wpList_append_s rfl (.tmp 38) (.tmp 40) _ rfl (boxC w ⟨nodes, faulty, slot, gap, rho, dmin, dmax, margin, PA, pn, pcap, parts, QA, qn, qcap, ports, some ⟨br, or, none⟩, rn, rcap, routes⟩).heap.size 3 _ 1 8 Try.underlying41 infoI rfl (by omega) _ _ _ rfl (Hou8.out _) (some ⟨w7.heap.size, 0, none⟩) 1 1 [.int .i64 (b : Nat)] rfl rfl ?n1 ?n2 (by unfold maxLen; omega) (by omega) (HB8.out _).size ?_
         case n1 => exact fun _ => ⟨_, rfl, fun j u hj => by
           match j, hj with
           | 0, hj =>
             cases hj
             exact cell_at hnew.out 0 rfl⟩
         case n2 => intro u hu; rw [List.mem_singleton.1 hu]; rfl
         intro v1 w1 ho1 ha1 hb1
         obtain ⟨kc1, kf1, hr1⟩ := HAp.out v1 w1 ho1 ha1 hb1
         have HR2 := Lib.hid hr1
         obtain ⟨A1, c1, hv1, -⟩ := own_slice ho1
         clear ho1 ha1 hb1 hr1
         subst hv1)
      | fail)
      clear HN7 HB7 Hou HN8 HB8 Hou8 Hkc hnew kc1 kf1 kc HAp
      go_roundw
      case rel => exact HR2.out
      case measure => simp [intOf]; omega
    have hkn : rn = k := by omega
    subst hkn
    have HF := Lib.hid (HFin.out _ _ HB.out HN.out)
    clear HB HN HFin
    go_wp2_with fail
    go_ret
    exact HF.out
end Go.Proofs.Ytpfhkcikjenjiaa
