/- Contracts of the document's walk and Reach. Conditions: the tables are allowed. -/
import Derived.Test.YtpfhkcikjenjiaaSndX
import Derived.Test.YtpfhkcikjenjiaaSndRe
namespace Go.Proofs.Ytpfhkcikjenjiaa
open Go.RowKit
set_option maxRecDepth 100000

def WalkPost (w0 : World) (g n : Nat) (E : List (Nat × Nat)) (a : Nat) (bl : List Bool) (W : World) (e : Ending) (w' : World) : Prop :=
  e = .returned (.tuple #[]) ∧ Apart (fun q => q = g) W w' ∧ ∃ bl2, w'.ownsRow w0.heap.size 4 1 (.slice (some ⟨g, 0, none⟩) n n) n (bitV bl2) ∧ RchP.Dfs E a bl bl2
theorem bits_cell {w : World} {B g n : Nat} {bl : List Bool} (h : w.ownsRow B 4 1 (.slice (some ⟨g, 0, none⟩) n n) n (bitV bl)) {k : Nat} {b : Bool} (hk : bl[k]? = some b) (hkn : k < n) : w.cell? ⟨g, k, none⟩ = some (.bool b) := by
  rw [h.cellAt k (by omega)]; exact bitV_get hk
theorem bits_lt {w : World} {B g n : Nat} {xs : List Value} (h : w.ownsRow B 4 1 (.slice (some ⟨g, 0, none⟩) n n) n xs) : B ≤ g ∧ g < w.heap.size := h.lt g (by simp [Value.ownBlock])

set_option maxHeartbeats 1000000 in
theorem walk_seen (x : CfgC) (w0 : World) (g : Nat) (E : List (Nat × Nat)) (a : Nat) (bl : List Bool) (W : World) (hap : a < x.pn) (hown : W.ownsRow w0.heap.size 4 1 (.slice (some ⟨g, 0, none⟩) x.pn x.pn) x.pn (bitV bl)) (hbit : bl[a]? = some true) :
    Calls Try.prog 44 #[x.value, .int .i64 (a : Nat), .slice (some ⟨g, 0, none⟩) x.pn x.pn] W (WalkPost w0 g x.pn E a bl W) := by
  have kc := fun o => bits_cell (own_keep hown ((Below.refl W.heap.size W).alloc (Nat.le_refl _) o)) hbit hap
  have HF : Hid (∀ o, WalkPost w0 g x.pn E a bl W (.returned (.tuple #[])) (W.alloc o)) := Lib.hid fun o =>
    ⟨rfl, Apart.of_below' ((Below.refl W.heap.size W).alloc (Nat.le_refl _) o), bl, own_keep hown ((Below.refl W.heap.size W).alloc (Nat.le_refl _) o), RchP.Dfs.stop hbit⟩
  clear hown hbit
  obtain ⟨nodes, faulty, slot, gap, rho, dmin, dmax, margin, PA, pn, pcap, parts, QA, qn, qcap, ports, RA, rn, rcap, routes⟩ := x
  simp only at kc hap HF
  simp only [CfgC.value]
  have z3 : (a : Int) < (pn : Int) := by omega
  go_enter Try.func44, Try.ntmps44
  go_wp2_with fail
  refine bodyPost_ret (v := .tuple #[]) (by simp [results, Try.results44, go_sem]) rfl ?_
  exact HF.out _

/-- The loop's state. -/
def WkR (w0 W : World) (x : CfgC) (g : Nat) (E : List (Nat × Nat)) (a : Nat) (bl : List Bool) (i : Value) (wr : World) : Prop :=
  ∃ (k : Nat) (T : List Bool), k ≤ x.rn ∧ i = .int .i64 (k : Nat) ∧ Apart (fun q => q = g) (boxC W x) wr ∧ wr.ownsRow w0.heap.size 4 1 (.slice (some ⟨g, 0, none⟩) x.pn x.pn) x.pn (bitV T) ∧ RchP.DfsI E ((x.routes.take k).map (RchP.edge x.ports)) a bl T

set_option maxHeartbeats 4000000 in
theorem walk_step (x : CfgC) (w0 : World) (h : CfgIn w0 x) (ha : SndP.Allowed x.plain) (g a : Nat) (bl : List Bool) (W : World) (hap : a < x.pn) (hbl : bl.length = x.pn) (hW : Below w0.heap.size w0 W)
    (hown : W.ownsRow w0.heap.size 4 1 (.slice (some ⟨g, 0, none⟩) x.pn x.pn) x.pn (bitV bl)) (hbit : bl[a]? = some false)
    (IH : ∀ (c : Nat) (bl2 : List Bool) (W2 : World), c < x.pn → bl2.length = x.pn → RchP.bare bl2 + 1 ≤ RchP.bare bl → Below w0.heap.size w0 W2 → W2.ownsRow w0.heap.size 4 1 (.slice (some ⟨g, 0, none⟩) x.pn x.pn) x.pn (bitV bl2) →
      Calls Try.prog 44 #[x.value, .int .i64 (c : Nat), .slice (some ⟨g, 0, none⟩) x.pn x.pn] W2 (WalkPost w0 g x.pn (RchP.edges x.plain) c bl2 W2)) :
    Calls Try.prog 44 #[x.value, .int .i64 (a : Nat), .slice (some ⟨g, 0, none⟩) x.pn x.pn] W (WalkPost w0 g x.pn (RchP.edges x.plain) a bl W) := by
  have hpl := h.plen
  have hql := h.qlen
  have hrl := h.rlen
  have hr24 : x.rn ≤ 24 := by have h1 : x.routes.length ≤ 24 := ha.routes; omega
  have hq24 : x.qn ≤ 24 := by have h1 : x.ports.length ≤ 24 := ha.ports; omega
  have hg := bits_lt hown
  have Hbw : Hid (∀ W', Apart (fun q => q = g) (boxC W x) W' → Below w0.heap.size w0 W') := Lib.hid fun W' hA =>
    hW.trans (((boxC_below W x).mono hW.size).trans (hA.below (by rw [boxC_size]; have := hW.size; omega) (fun q hq => by rw [hq]; exact hg.1)))
  have hbox : (boxC W x).heap[W.heap.size]? = some (.cells (cfgCells x) 26 (0, 0)) := heap_alloc_new W _
  have HBX : Hid (∀ W', Apart (fun q => q = g) (boxC W x) W' → W'.heap[W.heap.size]? = some (.cells (cfgCells x) 26 (0, 0))) := Lib.hid fun W' hA => (hA.block _ (by rw [boxC_size]; omega) (by omega)).trans hbox
  have HRA := Lib.hid (fun W' hA k p (hk : x.routes[k]? = some p) => routes_at (h.routes.below (Hbw.out W' hA)) hk)
  have HQA := Lib.hid (fun W' hA k p (hk : x.ports[k]? = some p) => ports_at (h.ports.below (Hbw.out W' hA)) hk)
  have HEn := Lib.hid (fun r (hr : r ∈ x.routes) => ends_of ha hr)
  have HIH : Hid (∀ (c : Nat) (bl2 : List Bool) (W2 : World), c < x.pn → bl2.length = x.pn → RchP.bare bl2 + 1 ≤ RchP.bare bl → Apart (fun q => q = g) (boxC W x) W2 → W2.ownsRow w0.heap.size 4 1 (.slice (some ⟨g, 0, none⟩) x.pn x.pn) x.pn (bitV bl2) →
      Calls Try.prog 44 #[x.value, .int .i64 (c : Nat), .slice (some ⟨g, 0, none⟩) x.pn x.pn] W2 (WalkPost w0 g x.pn (RchP.edges x.plain) c bl2 W2)) := Lib.hid fun c bl2 W2 h1 h2 h3 h4 h5 => IH c bl2 W2 h1 h2 h3 (Hbw.out W2 h4) h5
  have HEE : Hid (RchP.edges x.plain = x.routes.map (RchP.edge x.ports)) := Lib.hid rfl
  generalize RchP.edges x.plain = E at *
  have HStep : Hid (∀ k r a b, x.routes[k]? = some r → RchP.edge x.ports r = (a, b) → (x.routes.take (k + 1)).map (RchP.edge x.ports) = (x.routes.take k).map (RchP.edge x.ports) ++ [(a, b)] ∧ (a, b) ∈ E) := Lib.hid fun k r a b hk he => by
    refine ⟨by rw [List.take_add_one, hk, List.map_append]; simp [he], ?_⟩
    rw [HEE.out, ← he]
    exact List.mem_map_of_mem (List.mem_of_getElem? hk)
  have hown1 := own_keep hown (boxC_below W x)
  have hst1 := hown1.stored a (.bool true)
  rw [← bitV_set] at hst1
  have HR0 : Hid (WkR w0 W x g E a bl (.int .i64 0) ((boxC W x).setCell ⟨g, a, none⟩ (.bool true))) := Lib.hid
    ⟨0, bl.set a true, Nat.zero_le _, rfl, Apart.setCell (F := fun q => q = g) (Apart.refl _ _) (p := ⟨g, a, none⟩) (.inl rfl) (.bool true), hst1.1, by
      rw [List.take_zero]; exact RchP.DfsI.start (by omega)⟩
  have HFin : Hid (∀ T wr, Apart (fun q => q = g) (boxC W x) wr → wr.ownsRow w0.heap.size 4 1 (.slice (some ⟨g, 0, none⟩) x.pn x.pn) x.pn (bitV T) → RchP.DfsI E ((x.routes.take x.rn).map (RchP.edge x.ports)) a bl T → WalkPost w0 g x.pn E a bl W (.returned (.tuple #[])) wr) := Lib.hid fun T wr h1 h2 h3 => by
    rw [List.take_of_length_le (by omega), ← HEE.out] at h3
    exact ⟨rfl, (Apart.of_below' (F := fun q => q = g) (boxC_below W x)).trans h1 (fun _ e => .inl e), T, h2, h3.done (by omega)⟩
  have kc := bits_cell hown1 hbit hap
  have kf := hown1.frozenAt a
  have hbare := RchP.bare_set hbit
  clear h ha hW hown hbit IH hbox hown1 hst1 HEE
  obtain ⟨nodes, faulty, slot, gap, rho, dmin, dmax, margin, PA, pn, pcap, parts, QA, qn, qcap, ports, RA, rn, rcap, routes⟩ := x
  simp only [cfgCells] at HBX
  have d0 := fun W' hA => cell_at (HBX.out W' hA) 0 rfl
  have d1 := fun W' hA => cell_at (HBX.out W' hA) 1 rfl
  have d2 := fun W' hA => cell_at (HBX.out W' hA) 2 rfl
  have d3 := fun W' hA => cell_at (HBX.out W' hA) 3 rfl
  have d4 := fun W' hA => cell_at (HBX.out W' hA) 4 rfl
  have d5 := fun W' hA => cell_at (HBX.out W' hA) 5 rfl
  have d6 := fun W' hA => cell_at (HBX.out W' hA) 6 rfl
  have d7 := fun W' hA => cell_at (HBX.out W' hA) 7 rfl
  have d8 := fun W' hA => cell_at (HBX.out W' hA) 8 rfl
  have d9 := fun W' hA => cell_at (HBX.out W' hA) 9 rfl
  have d10 := fun W' hA => cell_at (HBX.out W' hA) 10 rfl
  simp only at d0 d1 d2 d3 d4 d5 d6 d7 d8 d9 d10 kc kf hap hbl hpl hql hrl hr24 hq24 HRA HQA HIH
  simp only [CfgC.plain] at HEn
  simp only [boxC, cfgCells] at kc kf HR0
  rw [World.setCell_alloc_past _ _ _ _ hg.2] at HR0
  simp only [CfgC.value] at HIH ⊢
  have z3 : (a : Int) < (pn : Int) := by omega
  go_enter Try.func44, Try.ntmps44
  go_wp2_with fail
  clear kc kf z3
  go_loopw [6] (WkR w0 W ⟨nodes, faulty, slot, gap, rho, dmin, dmax, margin, PA, pn, pcap, parts, QA, qn, qcap, ports, RA, rn, rcap, routes⟩ g E a bl) (fun i _ => (rn + 1 - intOf i).toNat)
  case atStart => exact HR0.out
  case round =>
    clear HR0
    obtain ⟨k, T, hk, rfl, hA, hO, hI⟩ := hrel
    simp only at hk hO hI
    have HAw := Lib.hid hA
    have HO := Lib.hid hO
    have HI := Lib.hid hI
    have k0 := d0 _ hA
    have k1 := d1 _ hA
    have k2 := d2 _ hA
    have k3 := d3 _ hA
    have k4 := d4 _ hA
    have k5 := d5 _ hA
    have k6 := d6 _ hA
    have k7 := d7 _ hA
    have k8 := d8 _ hA
    have k9 := d9 _ hA
    have k10 := d10 _ hA
    clear hA hO hI
    by_cases hlt : k < rn
    case pos =>
      obtain ⟨r, hmk⟩ : ∃ y, routes[k]? = some y := ⟨_, List.getElem?_eq_getElem (by omega)⟩
      obtain ⟨br, or, er, -, -⟩ := HRA.out wr HAw.out k r hmk
      obtain ⟨s, d, hr, pa, pb, ea, eb, a1, b1, pea, peb, hal, hbl1, hedge⟩ := HEn.out r (List.mem_of_getElem? hmk)
      obtain ⟨hstep, hin⟩ := HStep.out k r a1 b1 hmk hedge
      obtain ⟨bq, oq, eq, -, -⟩ := HQA.out wr HAw.out s pa ea
      try simp only at hstep
      have HNx : Hid (∀ T wr, Apart (fun q => q = g) (boxC W ⟨nodes, faulty, slot, gap, rho, dmin, dmax, margin, PA, pn, pcap, parts, QA, qn, qcap, ports, RA, rn, rcap, routes⟩) wr → wr.ownsRow w0.heap.size 4 1 (.slice (some ⟨g, 0, none⟩) pn pn) pn (bitV T) → RchP.DfsI E ((routes.take k).map (RchP.edge ports) ++ [(a1, b1)]) a bl T → WkR w0 W ⟨nodes, faulty, slot, gap, rho, dmin, dmax, margin, PA, pn, pcap, parts, QA, qn, qcap, ports, RA, rn, rcap, routes⟩ g E a bl (.int .i64 ((k : Int) + 1)) wr) := Lib.hid fun T wr h1 h2 h3 =>
        ⟨k + 1, T, by simp only; omega, by go_num, h1, h2, by simp only; rw [hstep]; exact h3⟩
      subst hr
      have hs : s < qn := by have := (List.getElem?_eq_some_iff.1 ea).1; omega
      have hd : d < qn := by have := (List.getElem?_eq_some_iff.1 eb).1; omega
      subst er eq
      have R2 : ∀ W', Apart (fun q => q = g) (boxC W ⟨nodes, faulty, slot, gap, rho, dmin, dmax, margin, PA, pn, pcap, parts, some ⟨bq, oq, none⟩, qn, qcap, ports, some ⟨br, or, none⟩, rn, rcap, routes⟩) W' → RouteAt W' br (or + k * 2) ⟨(s : Int), (d : Int)⟩ := fun W' hA => by
        obtain ⟨b', o', e1, -, h2⟩ := HRA.out W' hA k _ hmk
        cases e1
        exact h2
      have PA2 : ∀ W', Apart (fun q => q = g) (boxC W ⟨nodes, faulty, slot, gap, rho, dmin, dmax, margin, PA, pn, pcap, parts, some ⟨bq, oq, none⟩, qn, qcap, ports, some ⟨br, or, none⟩, rn, rcap, routes⟩) W' → W'.cell? ⟨bq, oq + s * 6, none⟩ = some (.int .i64 (a1 : Int)) := fun W' hA => by
        obtain ⟨b', o', e1, -, h2⟩ := HQA.out W' hA s pa ea
        cases e1
        rw [← pea]; exact h2.c0
      have PB2 : ∀ W', Apart (fun q => q = g) (boxC W ⟨nodes, faulty, slot, gap, rho, dmin, dmax, margin, PA, pn, pcap, parts, some ⟨bq, oq, none⟩, qn, qcap, ports, some ⟨br, or, none⟩, rn, rcap, routes⟩) W' → W'.cell? ⟨bq, oq + d * 6, none⟩ = some (.int .i64 (b1 : Int)) := fun W' hA => by
        obtain ⟨b', o', e1, -, h2⟩ := HQA.out W' hA d pb eb
        cases e1
        rw [← peb]; exact h2.c0
      have r0 := fun W' hA => (R2 W' hA).c0
      have r1 := fun W' hA => (R2 W' hA).c1
      simp only at r0 r1
      have hsz : (s : Int) < (qn : Int) := by omega
      have hdz : (d : Int) < (qn : Int) := by omega
      have hkz : (k : Int) < (rn : Int) := by omega
      have hb1 : b1 < pn := by omega
      clear hmk ea eb pea peb hedge HEn HStep HRA HQA R2 hstep
      have hd0 : Apart (fun q => q = g) (boxC W ⟨nodes, faulty, slot, gap, rho, dmin, dmax, margin, PA, pn, pcap, parts, some ⟨bq, oq, none⟩, qn, qcap, ports, some ⟨br, or, none⟩, rn, rcap, routes⟩) wr.drew := HAw.out.trans (Apart.of_below' (F := fun q => q = g) (Below.refl wr.heap.size wr).drew) (fun _ e => .inl e)
      have HO1 := Lib.hid (own_keep HO.out (Below.refl wr.heap.size wr).drew)
      by_cases h1 : a1 = a
      case neg =>
        have q1 : (((a1 : Nat) : Int) == ((a : Nat) : Int)) = false := by rw [beq_eq_false_iff_ne]; omega
        have HR := Lib.hid (HNx.out T _ hd0 HO1.out (HI.out.pass h1))
        clear HNx HI HO HO1 h1 HIH
        go_wp2_with fail
        refine wp_region_held_drew (S := fun W' => Apart (fun q => q = g) (boxC W ⟨nodes, faulty, slot, gap, rho, dmin, dmax, margin, PA, pn, pcap, parts, some ⟨bq, oq, none⟩, qn, qcap, ports, some ⟨br, or, none⟩, rn, rcap, routes⟩) W') (by kernel_rfl) hd0 (fun _ => ?_)
        refine wpAnyH_take (i := 0) (oi := ?oo1) (v := ?vv1) ?ii1 (by kernel_rfl) ?ff1 (by kernel_rfl) ?qq1 (Or.inl ⟨?ww1, ?yy1⟩) hd0 ?rr1
        case ii1 => simp only [List.getElem?_toArray, List.getElem?_cons_zero]; rfl
        case ff1 => kernel_rfl
        case qq1 => exact fun _ _ _ h => h
        case ww1 => rfl
        case yy1 => intro W hW; go_simp <;> with_reducible rfl
        try simp only [Act.put, List.setIfInBounds_toArray, List.set_cons_zero, List.set_cons_succ]
        refine wpAnyH_take (i := 1) (oi := ?oo2) (v := ?vv2) ?ii2 (by kernel_rfl) ?ff2 (by kernel_rfl) ?qq2 (Or.inl ⟨?ww2, ?yy2⟩) hd0 ?rr2
        case ii2 => simp only [List.getElem?_toArray, List.getElem?_cons_succ, List.getElem?_cons_zero]; rfl
        case ff2 => kernel_rfl
        case qq2 => exact fun _ _ _ h => h
        case ww2 => rfl
        case yy2 => intro W hW; go_simp <;> with_reducible rfl
        try simp only [Act.put, List.setIfInBounds_toArray, List.set_cons_zero, List.set_cons_succ]
        refine wpAnyH_take (i := 2) (oi := ?oo3) (v := ?vv3) ?ii3 (by kernel_rfl) ?ff3 (by kernel_rfl) ?qq3 (Or.inl ⟨?ww3, ?yy3⟩) hd0 ?rr3
        case ii3 => simp only [List.getElem?_toArray, List.getElem?_cons_succ, List.getElem?_cons_zero]; rfl
        case ff3 => kernel_rfl
        case qq3 => exact fun _ _ _ h => h
        case ww3 => rfl
        case yy3 => intro W hW; go_simp <;> with_reducible rfl
        try simp only [Act.put, List.setIfInBounds_toArray, List.set_cons_zero, List.set_cons_succ]
        refine wpAnyH_take (i := 3) (oi := ?oo4) (v := ?vv4) ?ii4 (by kernel_rfl) ?ff4 (by kernel_rfl) ?qq4 (Or.inl ⟨?ww4, ?yy4⟩) hd0 ?rr4
        case ii4 => simp only [List.getElem?_toArray, List.getElem?_cons_succ, List.getElem?_cons_zero]; rfl
        case ff4 => kernel_rfl
        case qq4 => exact fun _ _ _ h => h
        case ww4 => rfl
        case yy4 => intro W hW; go_simp <;> with_reducible rfl
        try simp only [Act.put, List.setIfInBounds_toArray, List.set_cons_zero, List.set_cons_succ]
        refine wpAnyH_take (i := 4) (oi := ?oo5) (v := ?vv5) ?ii5 (by kernel_rfl) ?ff5 (by kernel_rfl) ?qq5 (Or.inl ⟨?ww5, ?yy5⟩) hd0 ?rr5
        case ii5 => simp only [List.getElem?_toArray, List.getElem?_cons_succ, List.getElem?_cons_zero]; rfl
        case ff5 => kernel_rfl
        case qq5 => exact fun _ _ _ h => h
        case ww5 => rfl
        case yy5 => intro W hW; go_simp <;> with_reducible rfl
        try simp only [Act.put, List.setIfInBounds_toArray, List.set_cons_zero, List.set_cons_succ]
        refine wpAnyH_take (i := 5) (oi := ?oo6) (v := ?vv6) ?ii6 (by kernel_rfl) ?ff6 (by kernel_rfl) ?qq6 (Or.inl ⟨?ww6, ?yy6⟩) hd0 ?rr6
        case ii6 => simp only [List.getElem?_toArray, List.getElem?_cons_succ, List.getElem?_cons_zero]; rfl
        case ff6 => kernel_rfl
        case qq6 => exact fun _ _ _ h => h
        case ww6 => rfl
        case yy6 => intro W hW; go_simp <;> with_reducible rfl
        try simp only [Act.put, List.setIfInBounds_toArray, List.set_cons_zero, List.set_cons_succ]
        refine wpAnyH_take (i := 6) (oi := ?oo7) (v := ?vv7) ?ii7 (by kernel_rfl) ?ff7 (by kernel_rfl) ?qq7 (Or.inl ⟨?ww7, ?yy7⟩) hd0 ?rr7
        case ii7 => simp only [List.getElem?_toArray, List.getElem?_cons_succ, List.getElem?_cons_zero]; rfl
        case ff7 => kernel_rfl
        case qq7 => exact fun _ _ _ h => h
        case ww7 => rfl
        case yy7 => intro W hW; go_simp <;> with_reducible rfl
        try simp only [Act.put, List.setIfInBounds_toArray, List.set_cons_zero, List.set_cons_succ]
        refine wpAnyH_take (i := 7) (oi := ?oo8) (v := ?vv8) ?ii8 (by kernel_rfl) ?ff8 (by kernel_rfl) ?qq8 (Or.inl ⟨?ww8, ?yy8⟩) hd0 ?rr8
        case ii8 => simp only [List.getElem?_toArray, List.getElem?_cons_succ, List.getElem?_cons_zero]; rfl
        case ff8 => kernel_rfl
        case qq8 => exact fun _ _ _ h => h
        case ww8 => rfl
        case yy8 => intro W hW; go_simp <;> with_reducible rfl
        try simp only [Act.put, List.setIfInBounds_toArray, List.set_cons_zero, List.set_cons_succ]
        refine wpAnyH_take (i := 8) (oi := ?oo9) (v := ?vv9) ?ii9 (by kernel_rfl) ?ff9 (by kernel_rfl) ?qq9 (Or.inl ⟨?ww9, ?yy9⟩) hd0 ?rr9
        case ii9 => simp only [List.getElem?_toArray, List.getElem?_cons_succ, List.getElem?_cons_zero]; rfl
        case ff9 => kernel_rfl
        case qq9 => exact fun _ _ _ h => h
        case ww9 => rfl
        case yy9 => intro W hW; go_simp <;> with_reducible rfl
        try simp only [Act.put, List.setIfInBounds_toArray, List.set_cons_zero, List.set_cons_succ]
        refine wpAnyH_take (i := 9) (oi := ?oo10) (v := ?vv10) ?ii10 (by kernel_rfl) ?ff10 (by kernel_rfl) ?qq10 (Or.inl ⟨?ww10, ?yy10⟩) hd0 ?rr10
        case ii10 => simp only [List.getElem?_toArray, List.getElem?_cons_succ, List.getElem?_cons_zero]; rfl
        case ff10 => kernel_rfl
        case qq10 => exact fun _ _ _ h => h
        case ww10 => rfl
        case yy10 => intro W hW; go_simp <;> with_reducible rfl
        try simp only [Act.put, List.setIfInBounds_toArray, List.set_cons_zero, List.set_cons_succ]
        refine wpAnyH_take (i := 10) (oi := ?oo11) (v := ?vv11) ?ii11 (by kernel_rfl) ?ff11 (by kernel_rfl) ?qq11 (Or.inl ⟨?ww11, ?yy11⟩) hd0 ?rr11
        case ii11 => simp only [List.getElem?_toArray, List.getElem?_cons_succ, List.getElem?_cons_zero]; rfl
        case ff11 => kernel_rfl
        case qq11 => exact fun _ _ _ h => h
        case ww11 => rfl
        case yy11 => intro W hW; go_simp <;> with_reducible rfl
        try simp only [Act.put, List.setIfInBounds_toArray, List.set_cons_zero, List.set_cons_succ]
        refine wpAnyH_take (i := 11) (oi := ?oo12) (v := ?vv12) ?ii12 (by kernel_rfl) ?ff12 (by kernel_rfl) ?qq12 (Or.inl ⟨?ww12, ?yy12⟩) hd0 ?rr12
        case ii12 => simp only [List.getElem?_toArray, List.getElem?_cons_succ, List.getElem?_cons_zero]; rfl
        case ff12 => kernel_rfl
        case qq12 => exact fun _ _ _ h => h
        case ww12 => rfl
        case yy12 => intro W hW; go_simp <;> with_reducible rfl
        try simp only [Act.put, List.setIfInBounds_toArray, List.set_cons_zero, List.set_cons_succ]
        refine wpAnyH_take (i := 12) (oi := ?oo13) (v := ?vv13) ?ii13 (by kernel_rfl) ?ff13 (by kernel_rfl) ?qq13 (Or.inl ⟨?ww13, ?yy13⟩) hd0 ?rr13
        case ii13 => simp only [List.getElem?_toArray, List.getElem?_cons_succ, List.getElem?_cons_zero]; rfl
        case ff13 => kernel_rfl
        case qq13 => exact fun _ _ _ h => h
        case ww13 => rfl
        case yy13 => intro W hW; go_simp <;> with_reducible rfl
        try simp only [Act.put, List.setIfInBounds_toArray, List.set_cons_zero, List.set_cons_succ]
        refine wpAnyH_done (by kernel_rfl) ?_ _
        clear hd0
        go_wp2_with fail
        go_roundw
        case rel => exact HR.out
        case measure => simp [intOf]; omega
      subst h1
      have hlenT : T.length = pn := by rw [HI.out.len]; exact hbl
      have hbT : RchP.bare T + 1 ≤ RchP.bare bl := by
        have := RchP.bare_mono (bl := bl.set a1 true) (T := T) (by rw [HI.out.len, List.length_set]) HI.out.mono
        omega
      have HCall := Lib.hid (fun W2 hA2 hO2 => HIH.out b1 T W2 hb1 hlenT hbT hA2 hO2)
      have HR : Hid (∀ T2 wr2, Apart (fun q => q = g) (boxC W ⟨nodes, faulty, slot, gap, rho, dmin, dmax, margin, PA, pn, pcap, parts, some ⟨bq, oq, none⟩, qn, qcap, ports, some ⟨br, or, none⟩, rn, rcap, routes⟩) wr2 → wr2.ownsRow w0.heap.size 4 1 (.slice (some ⟨g, 0, none⟩) pn pn) pn (bitV T2) → RchP.Dfs E b1 T T2 → WkR w0 W ⟨nodes, faulty, slot, gap, rho, dmin, dmax, margin, PA, pn, pcap, parts, some ⟨bq, oq, none⟩, qn, qcap, ports, some ⟨br, or, none⟩, rn, rcap, routes⟩ g E a1 bl (.int .i64 ((k : Int) + 1)) wr2) := Lib.hid fun T2 wr2 h1 h2 h3 => HNx.out T2 wr2 h1 h2 (HI.out.go hin h3)
      have q1 : (((a1 : Nat) : Int) == ((a1 : Nat) : Int)) = true := by simp
      clear HNx HI HO HIH
      go_wp2_with fail
      refine wp_region_held_drew (S := fun W' => Apart (fun q => q = g) (boxC W ⟨nodes, faulty, slot, gap, rho, dmin, dmax, margin, PA, pn, pcap, parts, some ⟨bq, oq, none⟩, qn, qcap, ports, some ⟨br, or, none⟩, rn, rcap, routes⟩) W') (by kernel_rfl) hd0 (fun _ => ?_)
      refine wpAnyH_take (i := 0) (oi := ?oo14) (v := ?vv14) ?ii14 (by kernel_rfl) ?ff14 (by kernel_rfl) ?qq14 (Or.inl ⟨?ww14, ?yy14⟩) hd0 ?rr14
      case ii14 => simp only [List.getElem?_toArray, List.getElem?_cons_zero]; rfl
      case ff14 => kernel_rfl
      case qq14 => exact fun _ _ _ h => h
      case ww14 => rfl
      case yy14 => intro W hW; go_simp <;> with_reducible rfl
      try simp only [Act.put, List.setIfInBounds_toArray, List.set_cons_zero, List.set_cons_succ]
      refine wpAnyH_take (i := 1) (oi := ?oo15) (v := ?vv15) ?ii15 (by kernel_rfl) ?ff15 (by kernel_rfl) ?qq15 (Or.inl ⟨?ww15, ?yy15⟩) hd0 ?rr15
      case ii15 => simp only [List.getElem?_toArray, List.getElem?_cons_succ, List.getElem?_cons_zero]; rfl
      case ff15 => kernel_rfl
      case qq15 => exact fun _ _ _ h => h
      case ww15 => rfl
      case yy15 => intro W hW; go_simp <;> with_reducible rfl
      try simp only [Act.put, List.setIfInBounds_toArray, List.set_cons_zero, List.set_cons_succ]
      refine wpAnyH_take (i := 2) (oi := ?oo16) (v := ?vv16) ?ii16 (by kernel_rfl) ?ff16 (by kernel_rfl) ?qq16 (Or.inl ⟨?ww16, ?yy16⟩) hd0 ?rr16
      case ii16 => simp only [List.getElem?_toArray, List.getElem?_cons_succ, List.getElem?_cons_zero]; rfl
      case ff16 => kernel_rfl
      case qq16 => exact fun _ _ _ h => h
      case ww16 => rfl
      case yy16 => intro W hW; go_simp <;> with_reducible rfl
      try simp only [Act.put, List.setIfInBounds_toArray, List.set_cons_zero, List.set_cons_succ]
      refine wpAnyH_take (i := 3) (oi := ?oo17) (v := ?vv17) ?ii17 (by kernel_rfl) ?ff17 (by kernel_rfl) ?qq17 (Or.inl ⟨?ww17, ?yy17⟩) hd0 ?rr17
      case ii17 => simp only [List.getElem?_toArray, List.getElem?_cons_succ, List.getElem?_cons_zero]; rfl
      case ff17 => kernel_rfl
      case qq17 => exact fun _ _ _ h => h
      case ww17 => rfl
      case yy17 => intro W hW; go_simp <;> with_reducible rfl
      try simp only [Act.put, List.setIfInBounds_toArray, List.set_cons_zero, List.set_cons_succ]
      refine wpAnyH_take (i := 4) (oi := ?oo18) (v := ?vv18) ?ii18 (by kernel_rfl) ?ff18 (by kernel_rfl) ?qq18 (Or.inl ⟨?ww18, ?yy18⟩) hd0 ?rr18
      case ii18 => simp only [List.getElem?_toArray, List.getElem?_cons_succ, List.getElem?_cons_zero]; rfl
      case ff18 => kernel_rfl
      case qq18 => exact fun _ _ _ h => h
      case ww18 => rfl
      case yy18 => intro W hW; go_simp <;> with_reducible rfl
      try simp only [Act.put, List.setIfInBounds_toArray, List.set_cons_zero, List.set_cons_succ]
      refine wpAnyH_take (i := 5) (oi := ?oo19) (v := ?vv19) ?ii19 (by kernel_rfl) ?ff19 (by kernel_rfl) ?qq19 (Or.inl ⟨?ww19, ?yy19⟩) hd0 ?rr19
      case ii19 => simp only [List.getElem?_toArray, List.getElem?_cons_succ, List.getElem?_cons_zero]; rfl
      case ff19 => kernel_rfl
      case qq19 => exact fun _ _ _ h => h
      case ww19 => rfl
      case yy19 => intro W hW; go_simp <;> with_reducible rfl
      try simp only [Act.put, List.setIfInBounds_toArray, List.set_cons_zero, List.set_cons_succ]
      refine wpAnyH_take (i := 6) (oi := ?oo20) (v := ?vv20) ?ii20 (by kernel_rfl) ?ff20 (by kernel_rfl) ?qq20 (Or.inl ⟨?ww20, ?yy20⟩) hd0 ?rr20
      case ii20 => simp only [List.getElem?_toArray, List.getElem?_cons_succ, List.getElem?_cons_zero]; rfl
      case ff20 => kernel_rfl
      case qq20 => exact fun _ _ _ h => h
      case ww20 => rfl
      case yy20 => intro W hW; go_simp <;> with_reducible rfl
      try simp only [Act.put, List.setIfInBounds_toArray, List.set_cons_zero, List.set_cons_succ]
      refine wpAnyH_take (i := 7) (oi := ?oo21) (v := ?vv21) ?ii21 (by kernel_rfl) ?ff21 (by kernel_rfl) ?qq21 (Or.inl ⟨?ww21, ?yy21⟩) hd0 ?rr21
      case ii21 => simp only [List.getElem?_toArray, List.getElem?_cons_succ, List.getElem?_cons_zero]; rfl
      case ff21 => kernel_rfl
      case qq21 => exact fun _ _ _ h => h
      case ww21 => rfl
      case yy21 => intro W hW; go_simp <;> with_reducible rfl
      try simp only [Act.put, List.setIfInBounds_toArray, List.set_cons_zero, List.set_cons_succ]
      refine wpAnyH_take (i := 8) (oi := ?oo22) (v := ?vv22) ?ii22 (by kernel_rfl) ?ff22 (by kernel_rfl) ?qq22 (Or.inl ⟨?ww22, ?yy22⟩) hd0 ?rr22
      case ii22 => simp only [List.getElem?_toArray, List.getElem?_cons_succ, List.getElem?_cons_zero]; rfl
      case ff22 => kernel_rfl
      case qq22 => exact fun _ _ _ h => h
      case ww22 => rfl
      case yy22 => intro W hW; go_simp <;> with_reducible rfl
      try simp only [Act.put, List.setIfInBounds_toArray, List.set_cons_zero, List.set_cons_succ]
      refine wpAnyH_take (i := 9) (oi := ?oo23) (v := ?vv23) ?ii23 (by kernel_rfl) ?ff23 (by kernel_rfl) ?qq23 (Or.inl ⟨?ww23, ?yy23⟩) hd0 ?rr23
      case ii23 => simp only [List.getElem?_toArray, List.getElem?_cons_succ, List.getElem?_cons_zero]; rfl
      case ff23 => kernel_rfl
      case qq23 => exact fun _ _ _ h => h
      case ww23 => rfl
      case yy23 => intro W hW; go_simp <;> with_reducible rfl
      try simp only [Act.put, List.setIfInBounds_toArray, List.set_cons_zero, List.set_cons_succ]
      refine wpAnyH_take (i := 10) (oi := ?oo24) (v := ?vv24) ?ii24 (by kernel_rfl) ?ff24 (by kernel_rfl) ?qq24 (Or.inl ⟨?ww24, ?yy24⟩) hd0 ?rr24
      case ii24 => simp only [List.getElem?_toArray, List.getElem?_cons_succ, List.getElem?_cons_zero]; rfl
      case ff24 => kernel_rfl
      case qq24 => exact fun _ _ _ h => h
      case ww24 => rfl
      case yy24 => intro W hW; go_simp <;> with_reducible rfl
      try simp only [Act.put, List.setIfInBounds_toArray, List.set_cons_zero, List.set_cons_succ]
      refine wpAnyH_take (i := 11) (oi := ?oo25) (v := ?vv25) ?ii25 (by kernel_rfl) ?ff25 (by kernel_rfl) ?qq25 (Or.inl ⟨?ww25, ?yy25⟩) hd0 ?rr25
      case ii25 => simp only [List.getElem?_toArray, List.getElem?_cons_succ, List.getElem?_cons_zero]; rfl
      case ff25 => kernel_rfl
      case qq25 => exact fun _ _ _ h => h
      case ww25 => rfl
      case yy25 => intro W hW; go_simp <;> with_reducible rfl
      try simp only [Act.put, List.setIfInBounds_toArray, List.set_cons_zero, List.set_cons_succ]
      refine wpAnyH_take (i := 12) (oi := ?oo26) (v := ?vv26) ?ii26 (by kernel_rfl) ?ff26 (by kernel_rfl) ?qq26 (Or.inl ⟨?ww26, ?yy26⟩) hd0 ?rr26
      case ii26 => simp only [List.getElem?_toArray, List.getElem?_cons_succ, List.getElem?_cons_zero]; rfl
      case ff26 => kernel_rfl
      case qq26 => exact fun _ _ _ h => h
      case ww26 => rfl
      case yy26 => intro W hW; go_simp <;> with_reducible rfl
      try simp only [Act.put, List.setIfInBounds_toArray, List.set_cons_zero, List.set_cons_succ]
      refine wpAnyH_done (by kernel_rfl) ?_ _
      have HO2 := Lib.hid (own_keep HO1.out (Below.refl wr.drew.heap.size wr.drew).drew)
      have hd1 : Apart (fun q => q = g) (boxC W ⟨nodes, faulty, slot, gap, rho, dmin, dmax, margin, PA, pn, pcap, parts, some ⟨bq, oq, none⟩, qn, qcap, ports, some ⟨br, or, none⟩, rn, rcap, routes⟩) wr.drew.drew := hd0.trans (Apart.of_below' (F := fun q => q = g) (Below.refl wr.drew.heap.size wr.drew).drew) (fun _ e => .inl e)
      clear k0 k1 k2 k3 k4 k5 k6 k7 k8 k9 k10 HO1 hd0
      go_wp2_with fail
      refine wp_region_held_drew (S := fun W' => Apart (fun q => q = g) (boxC W ⟨nodes, faulty, slot, gap, rho, dmin, dmax, margin, PA, pn, pcap, parts, some ⟨bq, oq, none⟩, qn, qcap, ports, some ⟨br, or, none⟩, rn, rcap, routes⟩) W') (by kernel_rfl) hd1 (fun _ => ?_)
      refine wpAnyH_take (i := 0) (oi := ?oo27) (v := ?vv27) ?ii27 (by kernel_rfl) ?ff27 (by kernel_rfl) ?qq27 (Or.inl ⟨?ww27, ?yy27⟩) hd1 ?rr27
      case ii27 => simp only [List.getElem?_toArray, List.getElem?_cons_zero]; rfl
      case ff27 => kernel_rfl
      case qq27 => exact fun _ _ _ h => h
      case ww27 => rfl
      case yy27 => intro W hW; go_simp <;> with_reducible rfl
      try simp only [Act.put, List.setIfInBounds_toArray, List.set_cons_zero, List.set_cons_succ]
      refine wpAnyH_take (i := 1) (oi := ?oo28) (v := ?vv28) ?ii28 (by kernel_rfl) ?ff28 (by kernel_rfl) ?qq28 (Or.inl ⟨?ww28, ?yy28⟩) hd1 ?rr28
      case ii28 => simp only [List.getElem?_toArray, List.getElem?_cons_succ, List.getElem?_cons_zero]; rfl
      case ff28 => kernel_rfl
      case qq28 => exact fun _ _ _ h => h
      case ww28 => rfl
      case yy28 => intro W hW; go_simp <;> with_reducible rfl
      try simp only [Act.put, List.setIfInBounds_toArray, List.set_cons_zero, List.set_cons_succ]
      refine wpAnyH_take (i := 2) (oi := ?oo29) (v := ?vv29) ?ii29 (by kernel_rfl) ?ff29 (by kernel_rfl) ?qq29 (Or.inl ⟨?ww29, ?yy29⟩) hd1 ?rr29
      case ii29 => simp only [List.getElem?_toArray, List.getElem?_cons_succ, List.getElem?_cons_zero]; rfl
      case ff29 => kernel_rfl
      case qq29 => exact fun _ _ _ h => h
      case ww29 => rfl
      case yy29 => intro W hW; go_simp <;> with_reducible rfl
      try simp only [Act.put, List.setIfInBounds_toArray, List.set_cons_zero, List.set_cons_succ]
      refine wpAnyH_take (i := 3) (oi := ?oo30) (v := ?vv30) ?ii30 (by kernel_rfl) ?ff30 (by kernel_rfl) ?qq30 (Or.inl ⟨?ww30, ?yy30⟩) hd1 ?rr30
      case ii30 => simp only [List.getElem?_toArray, List.getElem?_cons_succ, List.getElem?_cons_zero]; rfl
      case ff30 => kernel_rfl
      case qq30 => exact fun _ _ _ h => h
      case ww30 => rfl
      case yy30 => intro W hW; go_simp <;> with_reducible rfl
      try simp only [Act.put, List.setIfInBounds_toArray, List.set_cons_zero, List.set_cons_succ]
      refine wpAnyH_take (i := 4) (oi := ?oo31) (v := ?vv31) ?ii31 (by kernel_rfl) ?ff31 (by kernel_rfl) ?qq31 (Or.inl ⟨?ww31, ?yy31⟩) hd1 ?rr31
      case ii31 => simp only [List.getElem?_toArray, List.getElem?_cons_succ, List.getElem?_cons_zero]; rfl
      case ff31 => kernel_rfl
      case qq31 => exact fun _ _ _ h => h
      case ww31 => rfl
      case yy31 => intro W hW; go_simp <;> with_reducible rfl
      try simp only [Act.put, List.setIfInBounds_toArray, List.set_cons_zero, List.set_cons_succ]
      refine wpAnyH_take (i := 5) (oi := ?oo32) (v := ?vv32) ?ii32 (by kernel_rfl) ?ff32 (by kernel_rfl) ?qq32 (Or.inl ⟨?ww32, ?yy32⟩) hd1 ?rr32
      case ii32 => simp only [List.getElem?_toArray, List.getElem?_cons_succ, List.getElem?_cons_zero]; rfl
      case ff32 => kernel_rfl
      case qq32 => exact fun _ _ _ h => h
      case ww32 => rfl
      case yy32 => intro W hW; go_simp <;> with_reducible rfl
      try simp only [Act.put, List.setIfInBounds_toArray, List.set_cons_zero, List.set_cons_succ]
      refine wpAnyH_take (i := 6) (oi := ?oo33) (v := ?vv33) ?ii33 (by kernel_rfl) ?ff33 (by kernel_rfl) ?qq33 (Or.inl ⟨?ww33, ?yy33⟩) hd1 ?rr33
      case ii33 => simp only [List.getElem?_toArray, List.getElem?_cons_succ, List.getElem?_cons_zero]; rfl
      case ff33 => kernel_rfl
      case qq33 => exact fun _ _ _ h => h
      case ww33 => rfl
      case yy33 => intro W hW; go_simp <;> with_reducible rfl
      try simp only [Act.put, List.setIfInBounds_toArray, List.set_cons_zero, List.set_cons_succ]
      refine wpAnyH_take (i := 7) (oi := ?oo34) (v := ?vv34) ?ii34 (by kernel_rfl) ?ff34 (by kernel_rfl) ?qq34 (Or.inl ⟨?ww34, ?yy34⟩) hd1 ?rr34
      case ii34 => simp only [List.getElem?_toArray, List.getElem?_cons_succ, List.getElem?_cons_zero]; rfl
      case ff34 => kernel_rfl
      case qq34 => exact fun _ _ _ h => h
      case ww34 => rfl
      case yy34 => intro W hW; go_simp <;> with_reducible rfl
      try simp only [Act.put, List.setIfInBounds_toArray, List.set_cons_zero, List.set_cons_succ]
      refine wpAnyH_take (i := 8) (oi := ?oo35) (v := ?vv35) ?ii35 (by kernel_rfl) ?ff35 (by kernel_rfl) ?qq35 (Or.inl ⟨?ww35, ?yy35⟩) hd1 ?rr35
      case ii35 => simp only [List.getElem?_toArray, List.getElem?_cons_succ, List.getElem?_cons_zero]; rfl
      case ff35 => kernel_rfl
      case qq35 => exact fun _ _ _ h => h
      case ww35 => rfl
      case yy35 => intro W hW; go_simp <;> with_reducible rfl
      try simp only [Act.put, List.setIfInBounds_toArray, List.set_cons_zero, List.set_cons_succ]
      refine wpAnyH_take (i := 9) (oi := ?oo36) (v := ?vv36) ?ii36 (by kernel_rfl) ?ff36 (by kernel_rfl) ?qq36 (Or.inl ⟨?ww36, ?yy36⟩) hd1 ?rr36
      case ii36 => simp only [List.getElem?_toArray, List.getElem?_cons_succ, List.getElem?_cons_zero]; rfl
      case ff36 => kernel_rfl
      case qq36 => exact fun _ _ _ h => h
      case ww36 => rfl
      case yy36 => intro W hW; go_simp <;> with_reducible rfl
      try simp only [Act.put, List.setIfInBounds_toArray, List.set_cons_zero, List.set_cons_succ]
      refine wpAnyH_take (i := 10) (oi := ?oo37) (v := ?vv37) ?ii37 (by kernel_rfl) ?ff37 (by kernel_rfl) ?qq37 (Or.inl ⟨?ww37, ?yy37⟩) hd1 ?rr37
      case ii37 => simp only [List.getElem?_toArray, List.getElem?_cons_succ, List.getElem?_cons_zero]; rfl
      case ff37 => kernel_rfl
      case qq37 => exact fun _ _ _ h => h
      case ww37 => rfl
      case yy37 => intro W hW; go_simp <;> with_reducible rfl
      try simp only [Act.put, List.setIfInBounds_toArray, List.set_cons_zero, List.set_cons_succ]
      refine wpAnyH_take (i := 11) (oi := ?oo38) (v := ?vv38) ?ii38 (by kernel_rfl) ?ff38 (by kernel_rfl) ?qq38 (Or.inl ⟨?ww38, ?yy38⟩) hd1 ?rr38
      case ii38 => simp only [List.getElem?_toArray, List.getElem?_cons_succ, List.getElem?_cons_zero]; rfl
      case ff38 => kernel_rfl
      case qq38 => exact fun _ _ _ h => h
      case ww38 => rfl
      case yy38 => intro W hW; go_simp <;> with_reducible rfl
      try simp only [Act.put, List.setIfInBounds_toArray, List.set_cons_zero, List.set_cons_succ]
      refine wpAnyH_take (i := 12) (oi := ?oo39) (v := ?vv39) ?ii39 (by kernel_rfl) ?ff39 (by kernel_rfl) ?qq39 (Or.inl ⟨?ww39, ?yy39⟩) hd1 ?rr39
      case ii39 => simp only [List.getElem?_toArray, List.getElem?_cons_succ, List.getElem?_cons_zero]; rfl
      case ff39 => kernel_rfl
      case qq39 => exact fun _ _ _ h => h
      case ww39 => rfl
      case yy39 => intro W hW; go_simp <;> with_reducible rfl
      try simp only [Act.put, List.setIfInBounds_toArray, List.set_cons_zero, List.set_cons_succ]
      refine wpAnyH_ready (rs := [13]) (by kernel_rfl) (by simp) ?_
      refine AllReadyH.cons (o := ?oo40) ?ii40 (fun K hK => ?_) AllReadyH.nil
      case ii40 => simp only [List.getElem?_toArray, List.getElem?_cons_succ, List.getElem?_cons_zero]; rfl
      go_simp
      refine (HCall.out _ hd1 HO2.out).mono ?_
      rintro e w7 ⟨rfl, hA7, T2, hO7, hD7⟩
      have hd7 : Apart (fun q => q = g) (boxC W ⟨nodes, faulty, slot, gap, rho, dmin, dmax, margin, PA, pn, pcap, parts, some ⟨bq, oq, none⟩, qn, qcap, ports, some ⟨br, or, none⟩, rn, rcap, routes⟩) w7 := hd1.trans hA7 (fun _ e => .inl e)
      have HR7 := Lib.hid (HR.out T2 w7 hd7 hO7 hD7)
      clear hA7 hO7 hD7
      go_wp2_with fail
      refine hK.out _ _ hd7 (fun _ => ?_)
      clear hK K
      refine wpAnyH_done (by kernel_rfl) ?_ _
      clear hd1 hd7
      go_wp2_with fail
      go_roundw
      case rel => exact HR7.out
      case measure => simp [intOf]; omega
    have hkn : rn = k := by omega
    subst hkn
    have HF := Lib.hid (HFin.out T wr HAw.out HO.out HI.out)
    clear HFin HAw HO HI HIH
    go_wp2_with fail
    refine bodyPost_ret (v := .tuple #[]) (by simp [results, Try.results44, go_sem]) rfl ?_
    exact HF.out

theorem walk_any (x : CfgC) (w0 : World) (h : CfgIn w0 x) (ha : SndP.Allowed x.plain) (g : Nat) : ∀ (fuel a : Nat) (bl : List Bool) (W : World), a < x.pn → bl.length = x.pn → RchP.bare bl ≤ fuel → Below w0.heap.size w0 W →
    W.ownsRow w0.heap.size 4 1 (.slice (some ⟨g, 0, none⟩) x.pn x.pn) x.pn (bitV bl) → Calls Try.prog 44 #[x.value, .int .i64 (a : Nat), .slice (some ⟨g, 0, none⟩) x.pn x.pn] W (WalkPost w0 g x.pn (RchP.edges x.plain) a bl W) := by
  intro fuel
  induction fuel with
  | zero =>
    intro a bl W hap hbl hf _ hown
    obtain ⟨b, hb⟩ : ∃ b, bl[a]? = some b := ⟨_, List.getElem?_eq_getElem (by omega)⟩
    cases b with
    | true => exact walk_seen x w0 g _ a bl W hap hown hb
    | false => have := RchP.bare_set hb; omega
  | succ fuel ih =>
    intro a bl W hap hbl hf hW hown
    obtain ⟨b, hb⟩ : ∃ b, bl[a]? = some b := ⟨_, List.getElem?_eq_getElem (by omega)⟩
    cases b with
    | true => exact walk_seen x w0 g _ a bl W hap hown hb
    | false => exact walk_step x w0 h ha g a bl W hap hbl hW hown hb fun c bl2 W2 h1 h2 h3 h4 h5 => ih c bl2 W2 h1 h2 (by omega) h4 h5
end Go.Proofs.Ytpfhkcikjenjiaa
