/- The document's pace in memory: Paced, Hear. Conditions: where it lies, numbers in their ranges. -/
import Derived.Test.YthhbdnjihhpalaaPacD
import Derived.Test.YthhbdnjihhpalaaMidBa
import Derived.Deep.OwnRows
namespace Go.Proofs.Ythhbdnjihhpalaa
open Go.RowKit
set_option maxRecDepth 100000

def refpCells (x : CfgC) (me since rate : Int) (cold : Bool) (gd gh N : Nat) : Array Value :=
  ⟨(cfgCells x).toList ++ [.int .i64 me, .int .i64 since, .int .i64 rate, .bool cold, .slice (some ⟨gd, 0, none⟩) N N, .slice (some ⟨gh, 0, none⟩) N N]⟩
/-- The document's pace at a block, its deviations and whom it heard at two others; all of them from B on. -/
structure RefIn (W : World) (B b : Nat) (x : CfgC) (me since rate : Int) (cold : Bool) (gd gh N : Nat) (hs : List Bool) (ds : List Int) : Prop where
  at_ : W.heap[b]? = some (.cells (refpCells x me since rate cold gd gh N) 88 (0, 0))
  lo : B ≤ b
  devs : W.ownsRow B 3 1 (.slice (some ⟨gd, 0, none⟩) N N) N (intV (ds.take N))
  has : W.ownsRow B 4 1 (.slice (some ⟨gh, 0, none⟩) N N) N (bitV (hs.take N))
  hlen : hs.length = 7
  dlen : ds.length = 7
section
variable {W W' : World} {B b : Nat} {x : CfgC} {me since rate : Int} {cold : Bool} {gd gh N : Nat} {hs : List Bool} {ds : List Int}
theorem RefIn.lt (h : RefIn W B b x me since rate cold gd gh N hs ds) : b < W.heap.size := (Array.getElem?_eq_some_iff.1 h.at_).1
theorem RefIn.apart {F : Nat → Prop} (h : RefIn W B b x me since rate cold gd gh N hs ds) (ha : Apart F W W') (hF : ∀ q, q = b ∨ q = gd ∨ q = gh → ¬ F q) : RefIn W' B b x me since rate cold gd gh N hs ds :=
  ⟨(ha.block b h.lt (hF b (.inl rfl))).trans h.at_, h.lo, own_apart h.devs ha (fun q e => hF q (.inr (.inl (by cases e; rfl)))), own_apart h.has ha (fun q e => hF q (.inr (.inr (by cases e; rfl)))), h.hlen, h.dlen⟩
theorem RefIn.below (h : RefIn W B b x me since rate cold gd gh N hs ds) (hb : Below W.heap.size W W') : RefIn W' B b x me since rate cold gd gh N hs ds := h.apart (F := fun _ => False) (Apart.of_below' hb) (fun _ _ h => h)
theorem RefIn.drew (h : RefIn W B b x me since rate cold gd gh N hs ds) : RefIn W.drew B b x me since rate cold gd gh N hs ds := h.below (Below.refl _ _).drew
theorem RefIn.cfg (h : RefIn W B b x me since rate cold gd gh N hs ds) : Box11 W b x :=
  ⟨cell_at h.at_ 0 rfl, cell_at h.at_ 1 rfl, cell_at h.at_ 2 rfl, cell_at h.at_ 3 rfl, cell_at h.at_ 4 rfl, cell_at h.at_ 5 rfl, cell_at h.at_ 6 rfl, cell_at h.at_ 7 rfl, cell_at h.at_ 8 rfl, cell_at h.at_ 9 rfl, cell_at h.at_ 10 rfl⟩
theorem RefIn.c11 (h : RefIn W B b x me since rate cold gd gh N hs ds) : W.cell? ⟨b, 11, none⟩ = some (.int .i64 me) := cell_at h.at_ 11 rfl
theorem RefIn.c12 (h : RefIn W B b x me since rate cold gd gh N hs ds) : W.cell? ⟨b, 12, none⟩ = some (.int .i64 since) := cell_at h.at_ 12 rfl
theorem RefIn.c13 (h : RefIn W B b x me since rate cold gd gh N hs ds) : W.cell? ⟨b, 13, none⟩ = some (.int .i64 rate) := cell_at h.at_ 13 rfl
theorem RefIn.c14 (h : RefIn W B b x me since rate cold gd gh N hs ds) : W.cell? ⟨b, 14, none⟩ = some (.bool cold) := cell_at h.at_ 14 rfl
theorem RefIn.c15 (h : RefIn W B b x me since rate cold gd gh N hs ds) : W.cell? ⟨b, 15, none⟩ = some (.slice (some ⟨gd, 0, none⟩) N N) := cell_at h.at_ 15 rfl
theorem RefIn.c16 (h : RefIn W B b x me since rate cold gd gh N hs ds) : W.cell? ⟨b, 16, none⟩ = some (.slice (some ⟨gh, 0, none⟩) N N) := cell_at h.at_ 16 rfl
theorem RefIn.bit (h : RefIn W B b x me since rate cold gd gh N hs ds) {k : Nat} {p : Bool} (hk : hs[k]? = some p) (hkN : k < N) : W.cell? ⟨gh, k, none⟩ = some (.bool p) := by
  rw [h.has.cellAt k (by omega)]
  exact bitV_get (by rw [List.getElem?_take, if_pos hkN]; exact hk)
theorem RefIn.dev (h : RefIn W B b x me since rate cold gd gh N hs ds) {k : Nat} {d : Int} (hk : ds[k]? = some d) (hkN : k < N) : W.cell? ⟨gd, k, none⟩ = some (.int .i64 d) := by
  rw [h.devs.cellAt k (by omega)]
  exact intV_get (by rw [List.getElem?_take, if_pos hkN]; exact hk)
theorem RefIn.bfree (h : RefIn W B b x me since rate cold gd gh N hs ds) (k : Nat) : W.frozen? ⟨gh, k, none⟩ = false := h.has.frozenAt k
theorem RefIn.dfree (h : RefIn W B b x me since rate cold gd gh N hs ds) (k : Nat) : W.frozen? ⟨gd, k, none⟩ = false := h.devs.frozenAt k
theorem RefIn.nd (h : RefIn W B b x me since rate cold gd gh N hs ds) : gd ≠ b := own_off h.devs h.at_ (by decide) gd rfl
theorem RefIn.nh (h : RefIn W B b x me since rate cold gd gh N hs ds) : gh ≠ b := own_off h.has h.at_ (by decide) gh rfl
theorem RefIn.ndh (h : RefIn W B b x me since rate cold gd gh N hs ds) : gd ≠ gh := fun e => own_tag6 h.devs h.has (by decide) gd rfl (by rw [e]; rfl)
theorem RefIn.storedBit (h : RefIn W B b x me since rate cold gd gh N hs ds) (k : Nat) (p : Bool) : RefIn (W.setCell ⟨gh, k, none⟩ (.bool p)) B b x me since rate cold gd gh N (hs.set k p) ds := by
  have ha := (Apart.refl (fun q => q = gh) W).setCell (p := ⟨gh, k, none⟩) (.inl rfl) (.bool p)
  refine ⟨(ha.block b h.lt (fun e => h.nh e.symm)).trans h.at_, h.lo, own_apart h.devs ha (fun q e => by cases e; exact h.ndh), ?_, by rw [List.length_set]; exact h.hlen, h.dlen⟩
  rw [List.take_set, bitV_set]
  exact (h.has.stored k (.bool p)).1
theorem RefIn.storedDev (h : RefIn W B b x me since rate cold gd gh N hs ds) (k : Nat) (d : Int) : RefIn (W.setCell ⟨gd, k, none⟩ (.int .i64 d)) B b x me since rate cold gd gh N hs (ds.set k d) := by
  have ha := (Apart.refl (fun q => q = gd) W).setCell (p := ⟨gd, k, none⟩) (.inl rfl) (.int .i64 d)
  refine ⟨(ha.block b h.lt (fun e => h.nd e.symm)).trans h.at_, h.lo, ?_, own_apart h.has ha (fun q e => by cases e; exact fun e => h.ndh e.symm), h.hlen, by rw [List.length_set]; exact h.dlen⟩
  rw [List.take_set]
  exact istored h.devs k d
end
/-- What holds of every world behind one in which it lies. -/
def RefS (B b : Nat) (x : CfgC) (me since rate : Int) (cold : Bool) (gd gh N : Nat) (hs : List Bool) (ds : List Int) (W : World) : Prop := RefIn W B b x me since rate cold gd gh N hs ds
theorem RefS.cfg {B b : Nat} {x : CfgC} {me since rate : Int} {cold : Bool} {gd gh N : Nat} {hs : List Bool} {ds : List Int} {W : World} (h : RefS B b x me since rate cold gd gh N hs ds W) : Box11 W b x := RefIn.cfg h
def qv (b : Nat) : Value := .pointer (some ⟨b, 0, none⟩)

theorem infoInt11 : (Try.prog.info? 3).map (fun i => (i.zero, i.size, i.bytes)) = some (some (.int .i64 0), 1, 8) := by kernel_rfl
theorem infoBool11 : (Try.prog.info? 4).map (fun i => (i.zero, i.size, i.bytes)) = some (some (.bool false), 1, 1) := by kernel_rfl
theorem zints_made {w : World} {B n : Nat} (hB : B ≤ w.heap.size) (hn : n ≤ maxLen) : (w.alloc (.cells (madeCells #[.int .i64 0] n) 3)).ownsRow B 3 1 (.slice (some ⟨w.heap.size, 0, none⟩) n n) n (intV (List.replicate n 0)) := by
  have h1 := World.ownsRow_lit (e := 3) (size := 1) (base := B) w (madeCells #[.int .i64 0] n) n hB hn (by have := congrArg List.length (toList_madeCells_one (.int .i64 0) n); simpa using this)
  rw [toList_madeCells_one] at h1
  have e1 : intV (List.replicate n 0) = List.replicate n (.int .i64 0) := by simp [intV]
  rw [e1]
  exact h1
/-- What Paced answers. -/
def PacedP (x : CfgC) (me since rate : Int) (cold : Bool) (N : Nat) (w : World) (e : Ending) (w' : World) : Prop :=
  ∃ b gd gh, e = .returned (qv b) ∧ RefIn w' w.heap.size b x me since rate cold gd gh N h0 z0 ∧ Below w.heap.size w w'
theorem paced_new (x : CfgC) (me since rate : Int) (cold : Bool) (gd gh N : Nat) (hN : N ≤ 7) (w W : World) (hb : Below w.heap.size w W) (h1 : W.ownsRow w.heap.size 3 1 (.slice (some ⟨gd, 0, none⟩) N N) N (intV (List.replicate N 0))) (h2 : W.ownsRow w.heap.size 4 1 (.slice (some ⟨gh, 0, none⟩) N N) N (bitV (List.replicate N false))) :
    PacedP x me since rate cold N w (.returned (qv W.heap.size)) (W.alloc (.cells (refpCells x me since rate cold gd gh N) 88)) := by
  refine ⟨_, gd, gh, rfl, ⟨heap_alloc_new W _, hb.size, ?_, ?_, rfl, rfl⟩, hb.alloc hb.size _⟩
  · have e : z0.take N = List.replicate N 0 := by unfold z0; rw [List.take_replicate, Nat.min_eq_left hN]
    rw [e]; exact h1.alloc _
  · have e : h0.take N = List.replicate N false := by unfold h0; rw [List.take_replicate, Nat.min_eq_left hN]
    rw [e]; exact h2.alloc _
theorem paced_two (x : CfgC) (me since rate : Int) (cold : Bool) (N : Nat) (hN : N ≤ 7) (w W : World) (hb : Below w.heap.size w W) :
    PacedP x me since rate cold N w (.returned (qv (W.heap.size + 1 + 1))) (((W.alloc (.cells (madeCells #[.int .i64 0] N) 3)).alloc (.cells (madeCells #[.bool false] N) 4)).alloc (.cells (refpCells x me since rate cold W.heap.size (W.heap.size + 1) N) 88)) ∧
    PacedP x me since rate cold N w (.returned (qv (W.heap.size + 1 + 1))) (((W.alloc (.cells (madeCells #[.bool false] N) 4)).alloc (.cells (madeCells #[.int .i64 0] N) 3)).alloc (.cells (refpCells x me since rate cold (W.heap.size + 1) W.heap.size N) 88)) := by
  have hM : N ≤ maxLen := by unfold maxLen; omega
  refine ⟨?_, ?_⟩
  · have h1 := zints_made (w := W) (B := w.heap.size) (n := N) hb.size hM
    have hb1 := hb.alloc hb.size (.cells (madeCells #[.int .i64 0] N) 3)
    have h2 := bits_made (w := W.alloc (.cells (madeCells #[.int .i64 0] N) 3)) (B := w.heap.size) (n := N) (e := 4) hb1.size hM
    have h3 := paced_new x me since rate cold _ _ N hN w _ (hb1.alloc hb1.size (.cells (madeCells #[.bool false] N) 4)) (h1.alloc _) h2
    rwa [World.size_alloc, World.size_alloc] at h3
  · have h1 := bits_made (w := W) (B := w.heap.size) (n := N) (e := 4) hb.size hM
    have hb1 := hb.alloc hb.size (.cells (madeCells #[.bool false] N) 4)
    have h2 := zints_made (w := W.alloc (.cells (madeCells #[.bool false] N) 4)) (B := w.heap.size) (n := N) hb1.size hM
    have h3 := paced_new x me since rate cold _ _ N hN w _ (hb1.alloc hb1.size (.cells (madeCells #[.int .i64 0] N) 3)) h2 (h1.alloc _)
    rwa [World.size_alloc, World.size_alloc] at h3

set_option maxHeartbeats 4000000 in
theorem paced_any (x : CfgC) (me since rate : Int) (cold : Bool) (N : Nat) (hN : x.nodes = (N : Int)) (hN7 : N ≤ 7) (w : World) :
    Calls Try.prog 17 #[x.value, .int .i64 me, .int .i64 since, .int .i64 rate, .bool cold] w (PacedP x me since rate cold N w) := by
  have HST := Lib.hid (BoxS.start w x)
  have H2 := Lib.hid (fun W (hW : BoxS w x W) => paced_two x me since rate cold N hN7 w W hW.below)
  have hi : ∀ W, (Instr.makeSlice 53 (.int .i64 N) (.int .i64 N)).run Try.prog W = .ok (.slice (some ⟨W.heap.size, 0, none⟩) N N) (W.alloc (.cells (madeCells #[.int .i64 0] N) 3)) := fun W => run_make_row' (P := Try.prog) 53 3 (.int .i64 0) 8 Try.underlying53 infoInt11 rfl .i64 .i64 N (by omega) (by omega) W
  have hb : ∀ W, (Instr.makeSlice 86 (.int .i64 N) (.int .i64 N)).run Try.prog W = .ok (.slice (some ⟨W.heap.size, 0, none⟩) N N) (W.alloc (.cells (madeCells #[.bool false] N) 4)) := fun W => run_make_row' (P := Try.prog) 86 4 (.bool false) 1 Try.underlying86 infoBool11 rfl .i64 .i64 N (by omega) (by omega) W
  obtain ⟨nodes, faulty, slot, gap, rho, dmin, dmax, margin, PA, pn, pcap, parts, QA, qn, qcap, ports, RA, rn, rcap, routes⟩ := x
  have d0 := fun W (hW : BoxS w ⟨nodes, faulty, slot, gap, rho, dmin, dmax, margin, PA, pn, pcap, parts, QA, qn, qcap, ports, RA, rn, rcap, routes⟩ W) => hW.cells.c0
  have d1 := fun W (hW : BoxS w ⟨nodes, faulty, slot, gap, rho, dmin, dmax, margin, PA, pn, pcap, parts, QA, qn, qcap, ports, RA, rn, rcap, routes⟩ W) => hW.cells.c1
  have d2 := fun W (hW : BoxS w ⟨nodes, faulty, slot, gap, rho, dmin, dmax, margin, PA, pn, pcap, parts, QA, qn, qcap, ports, RA, rn, rcap, routes⟩ W) => hW.cells.c2
  have d3 := fun W (hW : BoxS w ⟨nodes, faulty, slot, gap, rho, dmin, dmax, margin, PA, pn, pcap, parts, QA, qn, qcap, ports, RA, rn, rcap, routes⟩ W) => hW.cells.c3
  have d4 := fun W (hW : BoxS w ⟨nodes, faulty, slot, gap, rho, dmin, dmax, margin, PA, pn, pcap, parts, QA, qn, qcap, ports, RA, rn, rcap, routes⟩ W) => hW.cells.c4
  have d5 := fun W (hW : BoxS w ⟨nodes, faulty, slot, gap, rho, dmin, dmax, margin, PA, pn, pcap, parts, QA, qn, qcap, ports, RA, rn, rcap, routes⟩ W) => hW.cells.c5
  have d6 := fun W (hW : BoxS w ⟨nodes, faulty, slot, gap, rho, dmin, dmax, margin, PA, pn, pcap, parts, QA, qn, qcap, ports, RA, rn, rcap, routes⟩ W) => hW.cells.c6
  have d7 := fun W (hW : BoxS w ⟨nodes, faulty, slot, gap, rho, dmin, dmax, margin, PA, pn, pcap, parts, QA, qn, qcap, ports, RA, rn, rcap, routes⟩ W) => hW.cells.c7
  have d8 := fun W (hW : BoxS w ⟨nodes, faulty, slot, gap, rho, dmin, dmax, margin, PA, pn, pcap, parts, QA, qn, qcap, ports, RA, rn, rcap, routes⟩ W) => hW.cells.c8
  have d9 := fun W (hW : BoxS w ⟨nodes, faulty, slot, gap, rho, dmin, dmax, margin, PA, pn, pcap, parts, QA, qn, qcap, ports, RA, rn, rcap, routes⟩ W) => hW.cells.c9
  have d10 := fun W (hW : BoxS w ⟨nodes, faulty, slot, gap, rho, dmin, dmax, margin, PA, pn, pcap, parts, QA, qn, qcap, ports, RA, rn, rcap, routes⟩ W) => hW.cells.c10
  simp only at d0 d1 d2 d3 d4 d5 d6 d7 d8 d9 d10 hN
  subst hN
  simp only [boxC, cfgCells] at HST
  simp only [CfgC.value]
  go_enter Try.func17, Try.ntmps17
  go_wp2_with fail
  generalize w.alloc _ = w1 at HST ⊢
  have hs0 := HST.out.drew
  have HF := Lib.hid (H2.out _ hs0)
  clear H2 HST
  unfold refpCells cfgCells qv at HF
  simp only [List.cons_append, List.nil_append] at HF
  refine wp_region_held_drew (S := fun W => BoxS w ⟨(N : Int), faulty, slot, gap, rho, dmin, dmax, margin, PA, pn, pcap, parts, QA, qn, qcap, ports, RA, rn, rcap, routes⟩ W) (by kernel_rfl) hs0 (fun _ => ?_)
  generalize w1.drew = w2 at *
  have hs1 := fun o => hs0.step ((Below.refl _ _).alloc (Nat.le_refl _) o)
  have hs2 := fun o p => (hs1 o).step ((Below.refl _ _).alloc (Nat.le_refl _) p)
  refine wpAnyH_take (i := 0) (oi := ?oo1) (v := ?vv1) ?ii1 (by kernel_rfl) ?ff1 (by kernel_rfl) ?qq1 (Or.inl ⟨?ww1, ?yy1⟩) hs0 ?rr1
  case ii1 => simp only [List.getElem?_toArray, List.getElem?_cons_zero]; rfl
  case ff1 => kernel_rfl
  case qq1 => exact fun _ _ _ h => h
  case ww1 => rfl
  case yy1 => intro W hW; go_simp <;> with_reducible rfl
  try simp only [Act.put, List.setIfInBounds_toArray, List.set_cons_zero, List.set_cons_succ]
  refine wpAnyH_take (i := 1) (oi := ?oo2) (v := ?vv2) ?ii2 (by kernel_rfl) ?ff2 (by kernel_rfl) ?qq2 (Or.inl ⟨?ww2, ?yy2⟩) hs0 ?rr2
  case ii2 => simp only [List.getElem?_toArray, List.getElem?_cons_succ, List.getElem?_cons_zero]; rfl
  case ff2 => kernel_rfl
  case qq2 => exact fun _ _ _ h => h
  case ww2 => rfl
  case yy2 => intro W hW; go_simp <;> with_reducible rfl
  try simp only [Act.put, List.setIfInBounds_toArray, List.set_cons_zero, List.set_cons_succ]
  refine wpAnyH_take (i := 2) (oi := ?oo3) (v := ?vv3) ?ii3 (by kernel_rfl) ?ff3 (by kernel_rfl) ?qq3 (Or.inl ⟨?ww3, ?yy3⟩) hs0 ?rr3
  case ii3 => simp only [List.getElem?_toArray, List.getElem?_cons_succ, List.getElem?_cons_zero]; rfl
  case ff3 => kernel_rfl
  case qq3 => exact fun _ _ _ h => h
  case ww3 => rfl
  case yy3 => intro W hW; go_simp <;> with_reducible rfl
  try simp only [Act.put, List.setIfInBounds_toArray, List.set_cons_zero, List.set_cons_succ]
  refine wpAnyH_take (i := 3) (oi := ?oo4) (v := ?vv4) ?ii4 (by kernel_rfl) ?ff4 (by kernel_rfl) ?qq4 (Or.inl ⟨?ww4, ?yy4⟩) hs0 ?rr4
  case ii4 => simp only [List.getElem?_toArray, List.getElem?_cons_succ, List.getElem?_cons_zero]; rfl
  case ff4 => kernel_rfl
  case qq4 => exact fun _ _ _ h => h
  case ww4 => rfl
  case yy4 => intro W hW; go_simp <;> with_reducible rfl
  try simp only [Act.put, List.setIfInBounds_toArray, List.set_cons_zero, List.set_cons_succ]
  refine wpAnyH_take (i := 4) (oi := ?oo5) (v := ?vv5) ?ii5 (by kernel_rfl) ?ff5 (by kernel_rfl) ?qq5 (Or.inl ⟨?ww5, ?yy5⟩) hs0 ?rr5
  case ii5 => simp only [List.getElem?_toArray, List.getElem?_cons_succ, List.getElem?_cons_zero]; rfl
  case ff5 => kernel_rfl
  case qq5 => exact fun _ _ _ h => h
  case ww5 => rfl
  case yy5 => intro W hW; go_simp <;> with_reducible rfl
  try simp only [Act.put, List.setIfInBounds_toArray, List.set_cons_zero, List.set_cons_succ]
  refine wpAnyH_take (i := 5) (oi := ?oo6) (v := ?vv6) ?ii6 (by kernel_rfl) ?ff6 (by kernel_rfl) ?qq6 (Or.inl ⟨?ww6, ?yy6⟩) hs0 ?rr6
  case ii6 => simp only [List.getElem?_toArray, List.getElem?_cons_succ, List.getElem?_cons_zero]; rfl
  case ff6 => kernel_rfl
  case qq6 => exact fun _ _ _ h => h
  case ww6 => rfl
  case yy6 => intro W hW; go_simp <;> with_reducible rfl
  try simp only [Act.put, List.setIfInBounds_toArray, List.set_cons_zero, List.set_cons_succ]
  refine wpAnyH_take (i := 6) (oi := ?oo7) (v := ?vv7) ?ii7 (by kernel_rfl) ?ff7 (by kernel_rfl) ?qq7 (Or.inl ⟨?ww7, ?yy7⟩) hs0 ?rr7
  case ii7 => simp only [List.getElem?_toArray, List.getElem?_cons_succ, List.getElem?_cons_zero]; rfl
  case ff7 => kernel_rfl
  case qq7 => exact fun _ _ _ h => h
  case ww7 => rfl
  case yy7 => intro W hW; go_simp <;> with_reducible rfl
  try simp only [Act.put, List.setIfInBounds_toArray, List.set_cons_zero, List.set_cons_succ]
  refine wpAnyH_take (i := 8) (oi := ?oo8) (v := ?vv8) ?ii8 (by kernel_rfl) ?ff8 (by kernel_rfl) ?qq8 (Or.inl ⟨?ww8, ?yy8⟩) hs0 ?rr8
  case ii8 => simp only [List.getElem?_toArray, List.getElem?_cons_succ, List.getElem?_cons_zero]; rfl
  case ff8 => kernel_rfl
  case qq8 => exact fun _ _ _ h => h
  case ww8 => rfl
  case yy8 => intro W hW; go_simp <;> with_reducible rfl
  try simp only [Act.put, List.setIfInBounds_toArray, List.set_cons_zero, List.set_cons_succ]
  refine wpAnyH_take (i := 9) (oi := ?oo9) (v := ?vv9) ?ii9 (by kernel_rfl) ?ff9 (by kernel_rfl) ?qq9 (Or.inl ⟨?ww9, ?yy9⟩) hs0 ?rr9
  case ii9 => simp only [List.getElem?_toArray, List.getElem?_cons_succ, List.getElem?_cons_zero]; rfl
  case ff9 => kernel_rfl
  case qq9 => exact fun _ _ _ h => h
  case ww9 => rfl
  case yy9 => intro W hW; go_simp <;> with_reducible rfl
  try simp only [Act.put, List.setIfInBounds_toArray, List.set_cons_zero, List.set_cons_succ]
  refine wpAnyH_ready (rs := [7, 10]) (by kernel_rfl) (by simp) ?_
  refine AllReadyH.cons (o := ?oa1) ?ia1 (fun K hK => ?_) (AllReadyH.cons (o := ?ob1) ?ib1 (fun K hK => ?_) AllReadyH.nil)
  case ia1 => simp only [List.getElem?_toArray, List.getElem?_cons_succ, List.getElem?_cons_zero]; rfl
  case ib1 => simp only [List.getElem?_toArray, List.getElem?_cons_succ, List.getElem?_cons_zero]; rfl
  · go_simp
    go_wp2_with fail
    refine hK.out _ _ ?h1 (fun _ => ?_)
    case h1 => exact hs1 _
    clear hK K
    refine wpAnyH_ready (rs := [10]) (by kernel_rfl) (by simp) ?_
    refine AllReadyH.cons (o := ?oo10) ?ii10 (fun K hK => ?_) AllReadyH.nil
    case ii10 => simp only [List.getElem?_toArray, List.getElem?_cons_succ, List.getElem?_cons_zero]; rfl
    go_simp
    go_wp2_with fail
    refine hK.out _ _ (hs2 _ _) (fun _ => ?_)
    clear hK K
    refine wpAnyH_take (i := 11) (oi := ?oo11) (v := ?vv11) ?ii11 (by kernel_rfl) ?ff11 (by kernel_rfl) ?qq11 (Or.inl ⟨?ww11, ?yy11⟩) (hs2 _ _) ?rr11
    case ii11 => simp only [List.getElem?_toArray, List.getElem?_cons_succ, List.getElem?_cons_zero]; rfl
    case ff11 => kernel_rfl
    case qq11 => exact fun _ _ _ h => h
    case ww11 => rfl
    case yy11 => intro W hW; go_simp <;> with_reducible rfl
    try simp only [Act.put, List.setIfInBounds_toArray, List.set_cons_zero, List.set_cons_succ]
    have HF9 := Lib.hid HF.out.1
    clear HF
    refine wpAnyH_ready (rs := [12]) (by kernel_rfl) (by simp) ?_
    refine AllReadyH.cons (o := ?oo12) ?ii12 (fun K hK => ?_) AllReadyH.nil
    case ii12 => simp only [List.getElem?_toArray, List.getElem?_cons_succ, List.getElem?_cons_zero]; rfl
    go_simp
    go_wp2_with fail
    refine hK.out _ _ ((hs2 _ _).step ((Below.refl _ _).alloc (Nat.le_refl _) _)) (fun _ => ?_)
    clear hK K
    refine wpAnyH_take (i := 13) (oi := ?oo13) (v := ?vv13) ?ii13 (by kernel_rfl) ?ff13 (by kernel_rfl) ?qq13 (Or.inl ⟨?ww13, ?yy13⟩) ((hs2 _ _).step ((Below.refl _ _).alloc (Nat.le_refl _) _)) ?rr13
    case ii13 => simp only [List.getElem?_toArray, List.getElem?_cons_succ, List.getElem?_cons_zero]; rfl
    case ff13 => kernel_rfl
    case qq13 => exact fun _ _ _ h => h
    case ww13 => rfl
    case yy13 => intro W hW; go_simp <;> with_reducible rfl
    try simp only [Act.put, List.setIfInBounds_toArray, List.set_cons_zero, List.set_cons_succ]
    refine wpAnyH_done (by kernel_rfl) ?_ _
    go_wp2_with fail
    go_ret
    exact HF9.out
  · go_simp
    go_wp2_with fail
    refine hK.out _ _ ?h2 (fun _ => ?_)
    case h2 => exact hs1 _
    clear hK K
    refine wpAnyH_ready (rs := [7]) (by kernel_rfl) (by simp) ?_
    refine AllReadyH.cons (o := ?oo14) ?ii14 (fun K hK => ?_) AllReadyH.nil
    case ii14 => simp only [List.getElem?_toArray, List.getElem?_cons_succ, List.getElem?_cons_zero]; rfl
    go_simp
    go_wp2_with fail
    refine hK.out _ _ (hs2 _ _) (fun _ => ?_)
    clear hK K
    refine wpAnyH_take (i := 11) (oi := ?oo15) (v := ?vv15) ?ii15 (by kernel_rfl) ?ff15 (by kernel_rfl) ?qq15 (Or.inl ⟨?ww15, ?yy15⟩) (hs2 _ _) ?rr15
    case ii15 => simp only [List.getElem?_toArray, List.getElem?_cons_succ, List.getElem?_cons_zero]; rfl
    case ff15 => kernel_rfl
    case qq15 => exact fun _ _ _ h => h
    case ww15 => rfl
    case yy15 => intro W hW; go_simp <;> with_reducible rfl
    try simp only [Act.put, List.setIfInBounds_toArray, List.set_cons_zero, List.set_cons_succ]
    have HF9 := Lib.hid HF.out.2
    clear HF
    refine wpAnyH_ready (rs := [12]) (by kernel_rfl) (by simp) ?_
    refine AllReadyH.cons (o := ?oo16) ?ii16 (fun K hK => ?_) AllReadyH.nil
    case ii16 => simp only [List.getElem?_toArray, List.getElem?_cons_succ, List.getElem?_cons_zero]; rfl
    go_simp
    go_wp2_with fail
    refine hK.out _ _ ((hs2 _ _).step ((Below.refl _ _).alloc (Nat.le_refl _) _)) (fun _ => ?_)
    clear hK K
    refine wpAnyH_take (i := 13) (oi := ?oo17) (v := ?vv17) ?ii17 (by kernel_rfl) ?ff17 (by kernel_rfl) ?qq17 (Or.inl ⟨?ww17, ?yy17⟩) ((hs2 _ _).step ((Below.refl _ _).alloc (Nat.le_refl _) _)) ?rr17
    case ii17 => simp only [List.getElem?_toArray, List.getElem?_cons_succ, List.getElem?_cons_zero]; rfl
    case ff17 => kernel_rfl
    case qq17 => exact fun _ _ _ h => h
    case ww17 => rfl
    case yy17 => intro W hW; go_simp <;> with_reducible rfl
    try simp only [Act.put, List.setIfInBounds_toArray, List.set_cons_zero, List.set_cons_succ]
    refine wpAnyH_done (by kernel_rfl) ?_ _
    go_wp2_with fail
    go_ret
    exact HF9.out
end Go.Proofs.Ythhbdnjihhpalaa
