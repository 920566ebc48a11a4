/- Contracts of apex's Clear and New. Conditions: where things lie. · The laws' tables with other partitions, a host and a partition of them; the fixed fact. Conditions: errors.errorType holds the type error. -/
import Derived.Deep.OwnRows
import Derived.Test.YtemcgegickpdbaaGreatDoorSl23
import Derived.Test.YtemcgegickpdbaaGreatDoorSl07
import Derived.Test.YtemcgegickpdbaaGreatDoorSl18
namespace Go.Proofs.YtemcgegickpdbaaGreatDoor
open Go.RowKit
set_option maxRecDepth 100000

def NewA16 (w : World) (ps : List TableP.Part) (part : Int) (e : Ending) (w' : World) : Prop := match (if part < 0 then none else ps[part.toNat]?) with
  | none => e = .returned (.tuple #[.pointer none, .iface 88 (.int .i64 2)]) ∧ Below w.heap.size w w'
  | some p => if p.words < 0 ∨ 16 < p.words then e = .returned (.tuple #[.pointer none, .iface 88 (.int .i64 2)]) ∧ Below w.heap.size w w'
    else ∃ pb wv, e = .returned (.tuple #[.pointer (some ⟨pb, 0, none⟩), .nilIface]) ∧ PartIn w' w.heap.size pb part.toNat p.budget wv (List.replicate p.words.toNat 0) ∧ Below w.heap.size w w'
def NewS16 (b : Nat) (p : TableP.Part) (W : World) : Prop := W.heap[b]? = some (.cells (partVals p).toArray 66 (0, 0))
theorem make_words (n : Nat) (hn : n ≤ 1000) (W : World) : (Instr.makeSlice 62 (.int .i64 (n : Nat)) (.int .i64 (n : Nat))).run Tryz.prog W = .ok (.slice (some ⟨W.heap.size, 0, none⟩) n n) (W.alloc (.cells (wordV (List.replicate n 0)).toArray 42)) := by
  have h := run_make_row' (P := Tryz.prog) 62 42 (.int .u16 0) 2 Tryz.underlying62 infoU16w rfl .i64 .i64 n (by omega) (by omega) W
  rw [h]
  have e : madeCells #[.int .u16 0] n = (wordV (List.replicate n 0)).toArray := by
    apply Array.ext'
    rw [toList_madeCells_one]
    simp [wordV]
  rw [e]
theorem words_made {w : World} {B n : Nat} (hB : B ≤ w.heap.size) (hn : n ≤ maxLen) : (w.alloc (.cells (wordV (List.replicate n 0)).toArray 42)).ownsRow B 42 1 (.slice (some ⟨w.heap.size, 0, none⟩) n n) n (wordV (List.replicate n 0)) := by
  have h1 := World.ownsRow_lit (e := 42) (size := 1) (base := B) w (wordV (List.replicate n 0)).toArray n hB hn (by simp [wordV])
  simpa using h1
set_option maxHeartbeats 4000000 in
theorem new_any16 (x : CfgC) (w : World) (hx : CfgIn w x) (part : Int) (hlo : -9223372036854775808 ≤ part) (hhi : part ≤ 9223372036854775807) (hpn : x.pn ≤ 1000000) (hbud : ∀ p ∈ x.parts, -9223372036854775808 ≤ p.words ∧ p.words ≤ 9223372036854775807) :
    Calls Tryz.prog 14 #[x.value, .int .i64 part] w (NewA16 w x.parts part) := by
  have hb0 : ∀ o, Below w.heap.size w (w.alloc o) := fun o => (Below.refl _ _).alloc (Nat.le_refl _) _
  have hits := hx.parts
  have hlen := hx.plen
  have hx0 := hx
  obtain ⟨nodes, faulty, slot, gap, rho, dmin, dmax, margin, PA, pn, pcap, parts, QA, qn, qcap, ports, RA, rn, rcap, routes⟩ := x
  simp only at hits hlen hpn hbud
  simp only [CfgC.value]
  by_cases h0 : part < 0
  · have HF : Hid (∀ W, Below w.heap.size w W → NewA16 w parts part (.returned (.tuple #[.pointer none, .iface 88 (.int .i64 2)])) W) := Lib.hid fun W hW => by
      unfold NewA16
      rw [if_pos h0]
      exact ⟨rfl, hW⟩
    have d1 : decide (part < 0) = true := decide_eq_true h0
    have HB := Lib.hid hb0
    clear hits hlen hx hx0 hb0 h0
    go_enter Tryz.func14, Tryz.ntmps14
    go_wp2_with fail
    go_ret2
    exact HF.out _ (HB.out _)
  obtain ⟨k, rfl⟩ := Int.eq_ofNat_of_zero_le (show 0 ≤ part by omega)
  have d1 : decide ((k : Int) < 0) = false := decide_eq_false h0
  by_cases h1 : pn ≤ k
  · have HF : Hid (∀ W, Below w.heap.size w W → NewA16 w parts k (.returned (.tuple #[.pointer none, .iface 88 (.int .i64 2)])) W) := Lib.hid fun W hW => by
      unfold NewA16
      rw [if_neg h0, Int.toNat_natCast, List.getElem?_eq_none (by omega)]
      exact ⟨rfl, hW⟩
    have d2 : decide ((pn : Int) ≤ (k : Int)) = true := decide_eq_true (by omega)
    have d3 : decide (pn ≤ k) = true := decide_eq_true h1
    have HB := Lib.hid hb0
    clear hits hlen hx hx0 hb0 h0 h1
    go_enter Tryz.func14, Tryz.ntmps14
    go_wp2_with fail
    go_ret2
    exact HF.out _ (HB.out _)
  have d2 : decide ((pn : Int) ≤ (k : Int)) = false := decide_eq_false (by omega)
  have d3 : decide (pn ≤ k) = false := decide_eq_false h1
  have hlt : k < pn := by omega
  obtain ⟨p, hp⟩ : ∃ p, parts[k]? = some p := ⟨_, List.getElem?_eq_getElem (by omega)⟩
  obtain ⟨b, off, rfl, hbl, hcell⟩ := hits (by omega)
  have hw := hbud p (List.mem_of_getElem? hp)
  have hc := hcell k p hp
  obtain ⟨pnd, pst, ple, pbu, pwo, pr0, pr1, pr2, pr3⟩ := p
  have a0 : w.cell? ⟨b, off + k * 9, none⟩ = some (.int .i64 pnd) := hc 0 _ rfl
  have a1 : w.cell? ⟨b, off + k * 9 + 1, none⟩ = some (.int .i64 pst) := hc 1 _ rfl
  have a2 : w.cell? ⟨b, off + k * 9 + 2, none⟩ = some (.int .i64 ple) := hc 2 _ rfl
  have a3 : w.cell? ⟨b, off + k * 9 + 3, none⟩ = some (.int .i64 pbu) := hc 3 _ rfl
  have a4 : w.cell? ⟨b, off + k * 9 + 4, none⟩ = some (.int .i64 pwo) := hc 4 _ rfl
  have a5 : w.cell? ⟨b, off + k * 9 + 5, none⟩ = some (.int .u8 (pr0 : Nat)) := hc 5 _ rfl
  have a6 : w.cell? ⟨b, off + k * 9 + 6, none⟩ = some (.int .u8 (pr1 : Nat)) := hc 6 _ rfl
  have a7 : w.cell? ⟨b, off + k * 9 + 7, none⟩ = some (.int .u8 (pr2 : Nat)) := hc 7 _ rfl
  have a8 : w.cell? ⟨b, off + k * 9 + 8, none⟩ = some (.int .u8 (pr3 : Nat)) := hc 8 _ rfl
  have hne : b ≠ w.heap.size := by omega
  have HB2 : Hid (∀ o o', Below w.heap.size w ((w.alloc o).alloc o')) := Lib.hid fun o o' => (hb0 o).alloc (by simp) _
  simp only at hw
  by_cases h2 : pwo < 0 ∨ 16 < pwo
  · have HF : Hid (∀ W, Below w.heap.size w W → NewA16 w parts k (.returned (.tuple #[.pointer none, .iface 88 (.int .i64 2)])) W) := Lib.hid fun W hW => by
      unfold NewA16
      rw [if_neg h0, Int.toNat_natCast, hp]
      simp only
      rw [if_pos h2]
      exact ⟨by first | rfl | trivial, hW⟩
    clear hits hlen hx hx0 hb0 h0 h1 hcell hc hp hbud
    rcases Int.lt_or_le pwo 0 with h3 | h3
    · have d4 : decide (pwo < 0) = true := decide_eq_true h3
      clear h2 h3
      go_enter Tryz.func14, Tryz.ntmps14
      go_wp2_with fail
      go_ret2
      exact HF.out _ (HB2.out _ _)
    · have d4 : decide (pwo < 0) = false := decide_eq_false (by omega)
      have d5 : decide ((16 : Int) < pwo) = true := decide_eq_true (by omega)
      clear h2 h3
      go_enter Tryz.func14, Tryz.ntmps14
      go_wp2_with fail
      go_ret2
      exact HF.out _ (HB2.out _ _)
  obtain ⟨n, rfl⟩ := Int.eq_ofNat_of_zero_le (show 0 ≤ pwo by omega)
  have d4 : decide ((n : Int) < 0) = false := decide_eq_false (by omega)
  have d5 : decide ((16 : Int) < (n : Int)) = false := decide_eq_false (by omega)
  have hn16 : n ≤ 16 := by omega
  have hmk := make_words n (by omega)
  have HF : Hid (∀ W, Below w.heap.size w W → NewA16 w parts k (.returned (.tuple #[.pointer (some ⟨W.heap.size + 1, 0, none⟩), .nilIface])) ((W.alloc (.cells (wordV (List.replicate n 0)).toArray 42)).alloc (.cells #[.int .i64 (k : Nat), .int .i64 pbu, .slice (some ⟨W.heap.size, 0, none⟩) n n] 117))) := Lib.hid fun W hW => by
    unfold NewA16
    rw [if_neg h0, Int.toNat_natCast, hp]
    simp only
    rw [if_neg h2]
    have hb1 : Below W.heap.size W (W.alloc (.cells (wordV (List.replicate n 0)).toArray 42)) := (Below.refl _ _).alloc (Nat.le_refl _) _
    have hrow := words_made (w := W) (B := w.heap.size) (n := n) hW.size (by unfold maxLen; omega)
    have hb2 : Below (W.alloc (.cells (wordV (List.replicate n 0)).toArray 42)).heap.size (W.alloc (.cells (wordV (List.replicate n 0)).toArray 42)) ((W.alloc (.cells (wordV (List.replicate n 0)).toArray 42)).alloc (.cells #[.int .i64 (k : Nat), .int .i64 pbu, .slice (some ⟨W.heap.size, 0, none⟩) n n] 117)) := (Below.refl _ _).alloc (Nat.le_refl _) _
    refine ⟨W.heap.size + 1, .slice (some ⟨W.heap.size, 0, none⟩) n n, rfl, ⟨newAt1 _ _ _, ?_, fun v hv => ?_, by simp; omega, by have := hW.size; omega⟩, hW.trans ((hb1.trans (hb2.mono hb1.size)).mono hW.size)⟩
    · rw [Int.toNat_natCast, List.length_replicate]
      exact own_apart (F := fun _ => False) hrow (Apart.of_below' hb2) (fun _ _ h => h)
    · rw [List.eq_of_mem_replicate hv]; decide
  have hd0 : NewS16 (w.heap.size + 1) ⟨pnd, pst, ple, pbu, (n : Nat), pr0, pr1, pr2, pr3⟩ ((w.alloc (.cells #[.int .i64 nodes, .int .i64 faulty, .int .i64 slot, .int .i64 gap, .int .i64 rho, .int .i64 dmin, .int .i64 dmax, .int .i64 margin, .slice (some ⟨b, off, none⟩) pn pcap, .slice QA qn qcap, .slice RA rn rcap] 26)).alloc (.cells #[.int .i64 pnd, .int .i64 pst, .int .i64 ple, .int .i64 pbu, .int .i64 (n : Nat), .int .u8 (pr0 : Nat), .int .u8 (pr1 : Nat), .int .u8 (pr2 : Nat), .int .u8 (pr3 : Nat)] 66)).drew := newAt1 _ _ _
  have c3 : ∀ W, NewS16 (w.heap.size + 1) ⟨pnd, pst, ple, pbu, (n : Nat), pr0, pr1, pr2, pr3⟩ W → W.cell? ⟨w.heap.size + 1, 3, none⟩ = some (.int .i64 pbu) := fun W hW => cell_at hW 3 rfl
  have c4 : ∀ W, NewS16 (w.heap.size + 1) ⟨pnd, pst, ple, pbu, (n : Nat), pr0, pr1, pr2, pr3⟩ W → W.cell? ⟨w.heap.size + 1, 4, none⟩ = some (.int .i64 (n : Nat)) := fun W hW => cell_at hW 4 rfl
  have HBd : Hid (Below w.heap.size w ((w.alloc (.cells #[.int .i64 nodes, .int .i64 faulty, .int .i64 slot, .int .i64 gap, .int .i64 rho, .int .i64 dmin, .int .i64 dmax, .int .i64 margin, .slice (some ⟨b, off, none⟩) pn pcap, .slice QA qn qcap, .slice RA rn rcap] 26)).alloc (.cells #[.int .i64 pnd, .int .i64 pst, .int .i64 ple, .int .i64 pbu, .int .i64 (n : Nat), .int .u8 (pr0 : Nat), .int .u8 (pr1 : Nat), .int .u8 (pr2 : Nat), .int .u8 (pr3 : Nat)] 66)).drew) := Lib.hid (HB2.out _ _).drew
  clear hits hlen hx hx0 hb0 h0 h1 h2 hcell hc hp hbud
  go_enter Tryz.func14, Tryz.ntmps14
  go_wp2_with fail
  refine wp_region_held_drew (S := fun W => NewS16 (w.heap.size + 1) ⟨pnd, pst, ple, pbu, (n : Nat), pr0, pr1, pr2, pr3⟩ W) (by kernel_rfl) hd0 (fun _ => ?_)
  refine tkH 0 (by simp only [tkA]; rfl) (by kernel_rfl) (by exact fun _ _ _ h => h) (by rfl) (by intro W hW; go_simp <;> with_reducible rfl) hd0 ?_
  try simp only [Act.put, tkT, tk0, tkS]
  refine tkH 1 (by simp only [tkA, tkG]; rfl) (by kernel_rfl) (by exact fun _ _ _ h => h) (by rfl) (by intro W hW; go_simp <;> with_reducible rfl) hd0 ?_
  try simp only [Act.put, tkT, tk0, tkS]
  refine tkH 2 (by simp only [tkA, tkG]; rfl) (by kernel_rfl) (by exact fun _ _ _ h => h) (by rfl) (by intro W hW; go_simp <;> with_reducible rfl) hd0 ?_
  try simp only [Act.put, tkT, tk0, tkS]
  refine tkH 3 (by simp only [tkA, tkG]; rfl) (by kernel_rfl) (by exact fun _ _ _ h => h) (by rfl) (by intro W hW; go_simp <;> with_reducible rfl) hd0 ?_
  try simp only [Act.put, tkT, tk0, tkS]
  refine tkH 4 (by simp only [tkA, tkG]; rfl) (by kernel_rfl) (by exact fun _ _ _ h => h) (by rfl) (by intro W hW; go_simp <;> with_reducible rfl) hd0 ?_
  try simp only [Act.put, tkT, tk0, tkS]
  generalize ((w.alloc (.cells #[.int .i64 nodes, .int .i64 faulty, .int .i64 slot, .int .i64 gap, .int .i64 rho, .int .i64 dmin, .int .i64 dmax, .int .i64 margin, .slice (some ⟨b, off, none⟩) pn pcap, .slice QA qn qcap, .slice RA rn rcap] 26)).alloc (.cells #[.int .i64 pnd, .int .i64 pst, .int .i64 ple, .int .i64 pbu, .int .i64 (n : Nat), .int .u8 (pr0 : Nat), .int .u8 (pr1 : Nat), .int .u8 (pr2 : Nat), .int .u8 (pr3 : Nat)] 66)).drew = w1 at *
  refine clH 5 (by kernel_rfl) (by simp only [tkA, tkG]; rfl) (fun K hK => ?_)
  go_simp
  have hd1 : NewS16 (w.heap.size + 1) ⟨pnd, pst, ple, pbu, (n : Nat), pr0, pr1, pr2, pr3⟩ (w1.alloc (.cells (wordV (List.replicate n 0)).toArray 42)) := (Below.heap_alloc _ _ _ (lt_of_block hd0)).trans hd0
  go_wp2_with fail
  refine hK.out _ _ hd1 (fun _ => ?_)
  clear hK K
  refine tkH 6 (by simp only [tkA, tkG]; rfl) (by kernel_rfl) (by exact fun _ _ _ h => h) (by rfl) (by intro W hW; go_simp <;> with_reducible rfl) hd1 ?_
  try simp only [Act.put, tkT, tk0, tkS]
  refine clH 7 (by kernel_rfl) (by simp only [tkA, tkG]; rfl) (fun K hK => ?_)
  go_simp
  have hd2 : NewS16 (w.heap.size + 1) ⟨pnd, pst, ple, pbu, (n : Nat), pr0, pr1, pr2, pr3⟩ ((w1.alloc (.cells (wordV (List.replicate n 0)).toArray 42)).alloc (.cells #[.int .i64 (k : Nat), .int .i64 pbu, .slice (some ⟨w1.heap.size, 0, none⟩) n n] 117)) := (Below.heap_alloc _ _ _ (lt_of_block hd1)).trans hd1
  go_wp2_with fail
  refine hK.out _ _ hd2 (fun _ => ?_)
  clear hK K
  refine tkH 8 (by simp only [tkA, tkG]; rfl) (by kernel_rfl) (by exact fun _ _ _ h => h) (by rfl) (by intro W hW; go_simp <;> with_reducible rfl) hd2 ?_
  try simp only [Act.put, tkT, tk0, tkS]
  refine tkH 9 (by simp only [tkA, tkG]; rfl) (by kernel_rfl) (by exact fun _ _ _ h => h) (by rfl) (by intro W hW; go_simp <;> with_reducible rfl) hd2 ?_
  try simp only [Act.put, tkT, tk0, tkS]
  refine wpAnyH_done (by kernel_rfl) ?_ _
  go_wp2_with fail
  refine bodyPost_ret (v := .tuple #[.pointer (some ⟨w1.heap.size + 1, 0, none⟩), .nilIface]) (by simp [results, Tryz.results14, go_sem]) rfl ?_
  exact HF.out _ HBd.out
end Go.Proofs.YtemcgegickpdbaaGreatDoor
namespace Go.Proofs.YtemcgegickpdbaaGreatDoor
open Go.RowKit
set_option maxRecDepth 100000

/-- The laws' tables, their partitions as they may be. -/
def wQ (N : Nat) (ps : List TableP.Part) : CfgC := ⟨2, 0, 1000, 500, 0, 0, 0, 98, some ⟨N, 0, none⟩, 2, 2, ps, some ⟨N + 1, 0, none⟩, 4, 4, wPorts 1 1 2 1 1, some ⟨N + 2, 0, none⟩, 2, 2, wRoutes⟩
def cQ (ps : List TableP.Part) : TableP.Cfg := ⟨2, 0, 1000, 500, 0, 0, 0, 98, ps, wPorts 1 1 2 1 1, wRoutes⟩
def wPs (b wd : Int) (r0 r1 r2 r3 : Nat) : List TableP.Part := [⟨0, 0, 10, b, wd, r0, r1, r2, r3⟩, ⟨1, 0, 10, 9, 2, 0, 0, 0, 0⟩]
structure WirQ (W : World) (N : Nat) (ps : List TableP.Part) : Prop where
  parts : W.heap[N]? = some (.cells (itemsV partVals ps).toArray 66 (0, 0))
  ports : W.heap[N + 1]? = some (.cells (itemsV portVals (wPorts 1 1 2 1 1)).toArray 136 (0, 0))
  routes : W.heap[N + 2]? = some (.cells (itemsV routeVals wRoutes).toArray 151 (0, 0))
theorem WirQ.of {W : World} {N : Nat} (h : WirIn W N 1 1 2 1 1) : WirQ W N (wPs 9 2 0 0 0 0) := ⟨h.parts, h.ports, h.routes⟩
theorem WirQ.cfg {W : World} {N : Nat} {ps : List TableP.Part} (h : WirQ W N ps) (hl : ps.length = 2) : CfgIn W (wQ N ps) :=
  ⟨row_items partVals_len h.parts, hl, Nat.le_refl _, by simp only [wQ]; omega, row_items portVals_len h.ports, rfl, Nat.le_refl _, by simp only [wQ]; omega, row_items routeVals_len h.routes, rfl, Nat.le_refl _, by simp only [wQ]; omega⟩
theorem WirQ.below {W W' : World} {N : Nat} {ps : List TableP.Part} (h : WirQ W N ps) (hb : Below W.heap.size W W') : WirQ W' N ps :=
  ⟨(hb.block _ (lt_of_block h.parts)).trans h.parts, (hb.block _ (lt_of_block h.ports)).trans h.ports, (hb.block _ (lt_of_block h.routes)).trans h.routes⟩
/-- A cell of the partitions' tables is written. -/
theorem WirQ.set {W : World} {N : Nat} {ps ps' : List TableP.Part} (h : WirQ W N ps) (i : Nat) (v : Value) (hv : (itemsV partVals ps).set i v = itemsV partVals ps') : WirQ (W.setCell ⟨N, i, none⟩ v) N ps' := by
  refine ⟨?_, (Below.heap_setCell _ _ _ _ (by simp)).trans h.ports, (Below.heap_setCell _ _ _ _ (by simp)).trans h.routes⟩
  have h1 := heap_setCell_same W N i _ _ v h.parts
  rw [h1, ← hv]
  simp
theorem WirQ.cell {W : World} {N : Nat} {ps : List TableP.Part} (h : WirQ W N ps) (i : Nat) {v : Value} (hv : (itemsV partVals ps)[i]? = some v) : W.cell? ⟨N, i, none⟩ = some v := cell_at h.parts i (by rw [List.getElem?_toArray]; exact hv)
theorem PartIn.low16 {w : World} {B B' pb part : Nat} {budget : Int} {wv : Value} {mem : List Nat} (h : PartIn w B pb part budget wv mem) (hB : B' ≤ B) : PartIn w B' pb part budget wv mem := ⟨h.hd, low_own h.row hB, h.ok, h.most, Nat.le_trans hB h.base⟩
theorem qhost_any (N : Nat) (ps : List TableP.Part) (hl : ps.length = 2) (hc : SndP.chk6 (cQ ps) = none) (W : World) (h : WirQ W N ps) : Calls Tryz.prog 11 #[(wQ N ps).value, .int .i64 0] W (HostP W (cQ ps) 0) :=
  host_any (wQ N ps) 0 W (h.cfg hl) hc (show ((0 : Nat) : Int) < 2 by decide) (by decide)
def QNew (W : World) (b : Int) (n : Nat) (e : Ending) (w' : World) : Prop := ∃ pb wv, e = .returned (.tuple #[.pointer (some ⟨pb, 0, none⟩), .nilIface]) ∧ PartIn w' W.heap.size pb 0 b wv (List.replicate n 0) ∧ Below W.heap.size W w'
theorem qnew_any (N : Nat) (b : Int) (n r0 r1 r2 r3 : Nat) (hn : n ≤ 16) (W : World) (h : WirQ W N (wPs b n r0 r1 r2 r3)) : Calls Tryz.prog 14 #[(wQ N (wPs b n r0 r1 r2 r3)).value, .int .i64 0] W (QNew W b n) := by
  refine (new_any16 (wQ N (wPs b n r0 r1 r2 r3)) W (h.cfg rfl) 0 (by decide) (by decide) (by simp only [wQ]; omega) (fun p hp => ?_)).mono ?_
  · have hp' : p ∈ wPs b n r0 r1 r2 r3 := hp
    simp only [wPs, List.mem_cons, List.not_mem_nil, or_false] at hp'
    rcases hp' with rfl | rfl
    · simp only; omega
    · simp only; omega
  · intro e w' hq
    unfold NewA16 at hq
    rw [if_neg (by decide)] at hq
    have e1 : (wQ N (wPs b n r0 r1 r2 r3)).parts[(0 : Int).toNat]? = some ⟨0, 0, 10, b, n, r0, r1, r2, r3⟩ := rfl
    rw [e1] at hq
    simp only at hq
    rw [if_neg (by omega)] at hq
    obtain ⟨pb, wv, g1, g2, g3⟩ := hq
    exact ⟨pb, wv, g1, g2, g3⟩
theorem new_tat (i v : Nat) (h : RepP.tat RepP.new i = some v) : v < 65536 := by rw [RepP.new_at] at h; cases h

/-- Ops that were just laid. -/
theorem ops_laid (w : World) (l : List OpC) (vs : Array Value) (hvs : vs = (itemsV opVals l).toArray) (M : Nat) (hM : M = w.heap.size) (hok : ∀ x ∈ l, OpOk w x ∧ x.data = []) : OpsIn (w.alloc (.cells vs 95)) (some ⟨M, 0, none⟩) l := by
  subst hvs hM
  have hb : Below w.heap.size w (w.alloc (.cells (itemsV opVals l).toArray 95)) := (Below.refl _ _).alloc (Nat.le_refl _) _
  refine ⟨row_items opVals_len (newAt _ _), fun x hx => (hok x hx).1.below hb, fun x hx hl => ?_, fun _ k hk => ?_⟩
  · rw [(hok x hx).2] at hl; exact absurd hl (by simp)
  · have e : some w.heap.size = some k := hk
    obtain rfl := Option.some.inj e
    exact ⟨_, _, newAt _ _⟩
theorem three_of {α : Type} (l : List α) (h : l.length = 3) : ∃ a b c, l = [a, b, c] := by
  match l, h with
  | [a, b, c], _ => exact ⟨a, b, c, rfl⟩
theorem qok3 : SndP.chk6 (cQ (wPs 3 2 0 0 0 0)) = none := by kernel_rfl
theorem awake_run : (ApeP.runG (ApeP.opP (cQ (wPs 3 2 0 0 0 0)) 0 0 RepP.new) ((wPs 3 2 0 0 0 0).map sayOf) 0 0 0 (([⟨5, 0, 2, 0, 0, none, 0, 0, []⟩, ⟨3, 0, 0, 7, 0, none, 0, 0, []⟩, ⟨4, 0, 0, 0, 0, none, 0, 0, []⟩] : List OpC).map OpC.plain) 3 ⟨List.replicate 2 0, PorP.start (cQ (wPs 3 2 0 0 0 0)), HeaP.Mon.start 2, ⟨0, 0, 0, 0⟩⟩).res = [⟨0, 0, [], false⟩, ⟨0, 7, [], false⟩, ⟨151, 0, [], false⟩] ∧ (ApeP.runG (ApeP.opP (cQ (wPs 3 2 0 0 0 0)) 0 0 RepP.new) ((wPs 3 2 0 0 0 0).map sayOf) 0 0 0 (([⟨5, 0, 2, 0, 0, none, 0, 0, []⟩, ⟨3, 0, 0, 7, 0, none, 0, 0, []⟩, ⟨4, 0, 0, 0, 0, none, 0, 0, []⟩] : List OpC).map OpC.plain) 3 ⟨List.replicate 2 0, PorP.start (cQ (wPs 3 2 0 0 0 0)), HeaP.Mon.start 2, ⟨0, 0, 0, 0⟩⟩).did = 0 ∧ (ApeP.runG (ApeP.opP (cQ (wPs 3 2 0 0 0 0)) 0 0 RepP.new) ((wPs 3 2 0 0 0 0).map sayOf) 0 0 0 (([⟨5, 0, 2, 0, 0, none, 0, 0, []⟩, ⟨3, 0, 0, 7, 0, none, 0, 0, []⟩, ⟨4, 0, 0, 0, 0, none, 0, 0, []⟩] : List OpC).map OpC.plain) 3 ⟨List.replicate 2 0, PorP.start (cQ (wPs 3 2 0 0 0 0)), HeaP.Mon.start 2, ⟨0, 0, 0, 0⟩⟩).left = 0 := ⟨by kernel_rfl, by kernel_rfl, by kernel_rfl⟩
theorem resC_of {y : ResC} {r : ApeP.Res} (h : y.plain = r) : y.code = r.code ∧ y.value = r.value ∧ y.data = r.data ∧ y.fresh = r.fresh := by subst h; exact ⟨rfl, rfl, rfl, rfl⟩
/-- A run's results, cell by cell. -/
theorem OutA.cells {W : World} {M B : Nat} {v : Value} {ys : List ResC} (h : OutA W M B v ys) (hn : 0 < ys.length) : ∃ g cap, v = .slice (some ⟨g, 0, none⟩) ys.length cap ∧ g < W.heap.size ∧ ∀ i y, ys[i]? = some y → W.cell? ⟨g, i * 4, none⟩ = some (.int .i64 (y.code : Nat)) ∧ W.cell? ⟨g, i * 4 + 1, none⟩ = some (.int .i64 y.value) ∧ W.cell? ⟨g, i * 4 + 2, none⟩ = some (.slice y.A y.data.length y.cap) ∧ W.cell? ⟨g, i * 4 + 3, none⟩ = some (.bool y.fresh) := by
  obtain ⟨g, cap, rfl, -⟩ := row_some16 h.row hn
  refine ⟨g, cap, rfl, ((Seg.of_own h.row).lt g rfl).2, fun i y hy => ?_⟩
  have hi := (List.getElem?_eq_some_iff.1 hy).1
  have hc : ∀ j u, j < 4 → (resVals y)[j]? = some u → W.cell? ⟨g, i * 4 + j, none⟩ = some u := fun j u hj hu => by
    rw [h.row.cellAt (i * 4 + j) (by omega)]
    rw [itemsV_at resVals_len ys i y hy j hj]
    exact hu
  exact ⟨hc 0 _ (by decide) rfl, hc 1 _ (by decide) rfl, hc 2 _ (by decide) rfl, hc 3 _ (by decide) rfl⟩
set_option maxHeartbeats 8000000 in
theorem awake16_any (w : World) (hg : HasType w) : Calls Tryz.prog 9 #[] w (HTrue w) := by
  have HG := Lib.hid hg
  have Hb0 := Lib.hid (Below.refl w.heap.size w)
  clear hg
  have Hb1 := Hb0
  have HG1 := HG
  go_enter Tryz.func9, Tryz.ntmps9
  go_wp2_with fail
  refine (wired_any w).mono ?_
  rintro e w2 ⟨rfl, hwi, hbw⟩
  obtain ⟨N, hN⟩ : ∃ N, N = w.heap.size + 2 := ⟨_, rfl⟩
  rw [← hN] at hwi ⊢
  simp only [wC, CfgC.value]
  have hq2 := WirQ.of hwi
  have hb3 : Below w2.heap.size w2 (w2.alloc (.cells #[.int .i64 2, .int .i64 0, .int .i64 1000, .int .i64 500, .int .i64 0, .int .i64 0, .int .i64 0, .int .i64 98, .slice (some ⟨N, 0, none⟩) 2 2, .slice (some ⟨N + 1, 0, none⟩) 4 4, .slice (some ⟨N + 2, 0, none⟩) 2 2] 26)) := (Below.refl _ _).alloc (Nat.le_refl _) _
  have hq00 : WirQ (w2.alloc (.cells #[.int .i64 2, .int .i64 0, .int .i64 1000, .int .i64 500, .int .i64 0, .int .i64 0, .int .i64 0, .int .i64 98, .slice (some ⟨N, 0, none⟩) 2 2, .slice (some ⟨N + 1, 0, none⟩) 4 4, .slice (some ⟨N + 2, 0, none⟩) 2 2] 26)) N (wPs 9 2 0 0 0 0) := hq2.below hb3
  have hbox00 : (w2.alloc (.cells #[.int .i64 2, .int .i64 0, .int .i64 1000, .int .i64 500, .int .i64 0, .int .i64 0, .int .i64 0, .int .i64 98, .slice (some ⟨N, 0, none⟩) 2 2, .slice (some ⟨N + 1, 0, none⟩) 4 4, .slice (some ⟨N + 2, 0, none⟩) 2 2] 26)).heap[w2.heap.size]? = some (.cells #[.int .i64 2, .int .i64 0, .int .i64 1000, .int .i64 500, .int .i64 0, .int .i64 0, .int .i64 0, .int .i64 98, .slice (some ⟨N, 0, none⟩) 2 2, .slice (some ⟨N + 1, 0, none⟩) 4 4, .slice (some ⟨N + 2, 0, none⟩) 2 2] 26 (0, 0)) := newAt _ _
  have hNb : N < w2.heap.size := lt_of_block hq2.parts
  have hbw0 := Hb1.out.trans (hbw.mono Hb1.out.size)
  have hbw3 : Below w.heap.size w (w2.alloc (.cells #[.int .i64 2, .int .i64 0, .int .i64 1000, .int .i64 500, .int .i64 0, .int .i64 0, .int .i64 0, .int .i64 98, .slice (some ⟨N, 0, none⟩) 2 2, .slice (some ⟨N + 1, 0, none⟩) 4 4, .slice (some ⟨N + 2, 0, none⟩) 2 2] 26)) := hbw0.trans (hb3.mono hbw0.size)
  have hN1 : w.heap.size ≤ N := by omega
  have hg3 : HasType (w2.alloc (.cells #[.int .i64 2, .int .i64 0, .int .i64 1000, .int .i64 500, .int .i64 0, .int .i64 0, .int .i64 0, .int .i64 98, .slice (some ⟨N, 0, none⟩) 2 2, .slice (some ⟨N + 1, 0, none⟩) 4 4, .slice (some ⟨N + 2, 0, none⟩) 2 2] 26)) := HG1.out.keep ((hbw.trans (hb3.mono hbw.size)).block 0 HG1.out.pos)
  have hq2l := hb3.size
  have hbl := hbw.size
  clear hN
  go_upto_region 2 with (fail)
  generalize (w2.alloc (.cells #[.int .i64 2, .int .i64 0, .int .i64 1000, .int .i64 500, .int .i64 0, .int .i64 0, .int .i64 0, .int .i64 98, .slice (some ⟨N, 0, none⟩) 2 2, .slice (some ⟨N + 1, 0, none⟩) 4 4, .slice (some ⟨N + 2, 0, none⟩) 2 2] 26)) = w3 at *
  have hq0 := hq00
  have hbox0 := hbox00
  have hfz : ∀ j, w3.frozen? ⟨N, j, none⟩ = false := fun j => free_at hq0.parts j
  have hne : w2.heap.size ≠ N := by omega
  have kp3 : w3.cell? ⟨N, 3, none⟩ = some (.int .i64 9) := hq0.cell 3 rfl
  have kb8 : w3.cell? ⟨w2.heap.size, 8, none⟩ = some (.slice (some ⟨N, 0, none⟩) 2 2) := cell_at hbox0 8 rfl
  have hq : WirQ (w3.setCell ⟨N, 3, none⟩ (.int .i64 3)) N (wPs 3 2 0 0 0 0) := hq0.set 3 (.int .i64 3) rfl
  have hbox4 : (w3.setCell ⟨N, 3, none⟩ (.int .i64 3)).heap[w2.heap.size]? = some (.cells #[.int .i64 2, .int .i64 0, .int .i64 1000, .int .i64 500, .int .i64 0, .int .i64 0, .int .i64 0, .int .i64 98, .slice (some ⟨N, 0, none⟩) 2 2, .slice (some ⟨N + 1, 0, none⟩) 4 4, .slice (some ⟨N + 2, 0, none⟩) 2 2] 26 (0, 0)) := (Below.heap_setCell _ _ _ _ hne).trans hbox0
  have hst : Below w.heap.size w3 (w3.setCell ⟨N, 3, none⟩ (.int .i64 3)) := by
    have hA : Apart (fun k => k = N) w3 (w3.setCell ⟨N, 3, none⟩ (.int .i64 3)) := by
      first
      | exact Apart.refl _ _
      | exact (Apart.refl (fun k => k = N) _).setCell (p := ⟨N, _, none⟩) (.inl rfl) _
      | exact ((Apart.refl (fun k => k = N) _).setCell (p := ⟨N, _, none⟩) (.inl rfl) _).setCell (p := ⟨N, _, none⟩) (.inl rfl) _
      | exact ((((Apart.refl (fun k => k = N) _).setCell (p := ⟨N, _, none⟩) (.inl rfl) _).setCell (p := ⟨N, _, none⟩) (.inl rfl) _).setCell (p := ⟨N, _, none⟩) (.inl rfl) _).setCell (p := ⟨N, _, none⟩) (.inl rfl) _
      | exact (((((Apart.refl (fun k => k = N) _).setCell (p := ⟨N, _, none⟩) (.inl rfl) _).setCell (p := ⟨N, _, none⟩) (.inl rfl) _).setCell (p := ⟨N, _, none⟩) (.inl rfl) _).setCell (p := ⟨N, _, none⟩) (.inl rfl) _).setCell (p := ⟨N, _, none⟩) (.inl rfl) _
    exact hA.below (Nat.le_trans hbl hq2l) fun k e => by omega
  have hb4 : Below w.heap.size w (w3.setCell ⟨N, 3, none⟩ (.int .i64 3)) := hbw3.trans (hst.mono Hb1.out.size)
  have hg4 : HasType (w3.setCell ⟨N, 3, none⟩ (.int .i64 3)) := hg3.keep (hst.block 0 HG1.out.pos)
  have HNb := Lib.hid hNb
  have HQ := Lib.hid hq
  have HBox := Lib.hid hbox4
  have HB4 := Lib.hid hb4
  have HG4 := Lib.hid hg4
  clear hN1 hwi hq2 hb3 hq0 hq00 hbox00 hq2l hbl hbw hbw0 hbw3 hg3 hst hb4 hg4 hq hbox4 hbox0
  go_upto_region 3 with (fail)
  clear kp3 kb8 hfz
  generalize (w3.setCell ⟨N, 3, none⟩ (.int .i64 3)) = w4 at *
  have H4z := Lib.hid HG4.out.pos
  have hbox4 := HBox.out
  have bx0 := cell_at hbox4 0 rfl
  have bx1 := cell_at hbox4 1 rfl
  have bx2 := cell_at hbox4 2 rfl
  have bx3 := cell_at hbox4 3 rfl
  have bx4 := cell_at hbox4 4 rfl
  have bx5 := cell_at hbox4 5 rfl
  have bx6 := cell_at hbox4 6 rfl
  have bx7 := cell_at hbox4 7 rfl
  have bx8 := cell_at hbox4 8 rfl
  have bx9 := cell_at hbox4 9 rfl
  have bx10 := cell_at hbox4 10 rfl
  have HHost : Hid (Calls Tryz.prog 11 #[.agg #[.int .i64 2, .int .i64 0, .int .i64 1000, .int .i64 500, .int .i64 0, .int .i64 0, .int .i64 0, .int .i64 98, .slice (some ⟨N, 0, none⟩) 2 2, .slice (some ⟨N + 1, 0, none⟩) 4 4, .slice (some ⟨N + 2, 0, none⟩) 2 2], .int .i64 0] w4 (HostP w4 (cQ (wPs 3 2 0 0 0 0)) 0)) := Lib.hid (qhost_any N (wPs 3 2 0 0 0 0) rfl qok3 w4 HQ.out)
  clear hbox4
  go_wp2_with fail
  clear bx0 bx1 bx2 bx3 bx4 bx5 bx6 bx7 bx8 bx9 bx10
  refine HHost.out.mono ?_
  rintro e w5 ⟨h, rfl, hh, hb5⟩
  have hb56 : Below w5.heap.size w5 (w5.alloc (.cells #[.pointer (some ⟨h.x.a, 0, none⟩), .pointer (some ⟨h.tb, 0, none⟩), .pointer (some ⟨h.mb, 0, none⟩), .pointer (some ⟨h.cb, 0, none⟩)] 36)) := (Below.refl _ _).alloc (Nat.le_refl _) _
  have hbx5 : (w5.alloc (.cells #[.pointer (some ⟨h.x.a, 0, none⟩), .pointer (some ⟨h.tb, 0, none⟩), .pointer (some ⟨h.mb, 0, none⟩), .pointer (some ⟨h.cb, 0, none⟩)] 36)).heap[w5.heap.size]? = some (.cells #[.pointer (some ⟨h.x.a, 0, none⟩), .pointer (some ⟨h.tb, 0, none⟩), .pointer (some ⟨h.mb, 0, none⟩), .pointer (some ⟨h.cb, 0, none⟩)] 36 (0, 0)) := newAt _ _
  have HHs := Lib.hid (hh.below hb56)
  have HHb := Lib.hid hbx5
  have hb46 := hb5.trans (hb56.mono hb5.size)
  have HB46 := Lib.hid hb46
  have HB6 := Lib.hid (HB4.out.trans (hb46.mono HB4.out.size))
  have HQ6 := Lib.hid (HQ.out.below hb46)
  have HBox6 := Lib.hid ((hb46.block _ (lt_of_block HBox.out)).trans HBox.out)
  have HG6 := Lib.hid (HG4.out.keep (hb46.block 0 HG4.out.pos))
  have H45 := Lib.hid hb5.size
  clear hh hb5 hb56 hbx5 hb46 HHost HQ HBox HG4
  simp only [hostV]
  go_upto_region 4 with (fail)
  generalize (w5.alloc (.cells #[.pointer (some ⟨h.x.a, 0, none⟩), .pointer (some ⟨h.tb, 0, none⟩), .pointer (some ⟨h.mb, 0, none⟩), .pointer (some ⟨h.cb, 0, none⟩)] 36)) = w6 at *
  have hbox4 := HBox6.out
  have bx0 := cell_at hbox4 0 rfl
  have bx1 := cell_at hbox4 1 rfl
  have bx2 := cell_at hbox4 2 rfl
  have bx3 := cell_at hbox4 3 rfl
  have bx4 := cell_at hbox4 4 rfl
  have bx5 := cell_at hbox4 5 rfl
  have bx6 := cell_at hbox4 6 rfl
  have bx7 := cell_at hbox4 7 rfl
  have bx8 := cell_at hbox4 8 rfl
  have bx9 := cell_at hbox4 9 rfl
  have bx10 := cell_at hbox4 10 rfl
  have HNew : Hid (Calls Tryz.prog 14 #[.agg #[.int .i64 2, .int .i64 0, .int .i64 1000, .int .i64 500, .int .i64 0, .int .i64 0, .int .i64 0, .int .i64 98, .slice (some ⟨N, 0, none⟩) 2 2, .slice (some ⟨N + 1, 0, none⟩) 4 4, .slice (some ⟨N + 2, 0, none⟩) 2 2], .int .i64 0] w6 (QNew w6 3 2)) := Lib.hid (qnew_any N 3 2 0 0 0 0 (by decide) w6 HQ6.out)
  clear hbox4
  go_wp2_with fail
  clear bx0 bx1 bx2 bx3 bx4 bx5 bx6 bx7 bx8 bx9 bx10
  refine HNew.out.mono ?_
  rintro e w7 ⟨pb, wv, rfl, hp, hb7⟩
  have HP7 := Lib.hid (hp.low16 HB46.out.size)
  have HH7 := Lib.hid (HHs.out.below hb7)
  have HHb7 := Lib.hid ((hb7.block _ (lt_of_block HHb.out)).trans HHb.out)
  have HB7 := Lib.hid (HB6.out.trans (hb7.mono HB6.out.size))
  have HQ7 := Lib.hid (HQ6.out.below hb7)
  have HBox7 := Lib.hid ((hb7.block _ (lt_of_block HBox6.out)).trans HBox6.out)
  have HG7 := Lib.hid (HG6.out.keep (hb7.block 0 HG6.out.pos))
  have HB47 := Lib.hid (HB46.out.trans (hb7.mono HB46.out.size))
  clear hp hb7 HNew HHs HHb HB6 HQ6 HBox6 HG6
  go_upto_region 7 with (fail)
  have hb8 : Below w7.heap.size w7 (w7.alloc (.cells #[.int .u8 5, .int .i64 0, .int .i64 2, .int .i64 0, .int .i64 0, .slice none 0 0, .int .u8 3, .int .i64 0, .int .i64 0, .int .i64 7, .int .i64 0, .slice none 0 0, .int .u8 4, .int .i64 0, .int .i64 0, .int .i64 0, .int .i64 0, .slice none 0 0] 95)) := (Below.refl _ _).alloc (Nat.le_refl _) _
  have hops := ops_laid w7 [⟨5, 0, 2, 0, 0, none, 0, 0, []⟩, ⟨3, 0, 0, 7, 0, none, 0, 0, []⟩, ⟨4, 0, 0, 0, 0, none, 0, 0, []⟩] #[.int .u8 5, .int .i64 0, .int .i64 2, .int .i64 0, .int .i64 0, .slice none 0 0, .int .u8 3, .int .i64 0, .int .i64 0, .int .i64 7, .int .i64 0, .slice none 0 0, .int .u8 4, .int .i64 0, .int .i64 0, .int .i64 0, .int .i64 0, .slice none 0 0] rfl w7.heap.size rfl (fun x hx => by
    simp only [List.mem_cons, List.not_mem_nil, or_false] at hx
    rcases hx with rfl | rfl | rfl <;> exact ⟨⟨by decide, by decide, by decide, by decide, by decide, rfl, by decide, by decide, Bytes.none_⟩, rfl⟩)
  have HRun : Hid (Calls Tryz.prog 17 #[.pointer (some ⟨pb, 0, none⟩), .agg #[.pointer (some ⟨h.x.a, 0, none⟩), .pointer (some ⟨h.tb, 0, none⟩), .pointer (some ⟨h.mb, 0, none⟩), .pointer (some ⟨h.cb, 0, none⟩)], .int .u32 0, .slice (some ⟨w7.heap.size, 0, none⟩) 3 3] (w7.alloc (.cells #[.int .u8 5, .int .i64 0, .int .i64 2, .int .i64 0, .int .i64 0, .slice none 0 0, .int .u8 3, .int .i64 0, .int .i64 0, .int .i64 7, .int .i64 0, .slice none 0 0, .int .u8 4, .int .i64 0, .int .i64 0, .int .i64 0, .int .i64 0, .slice none 0 0] 95)) (RunP (w7.alloc (.cells #[.int .u8 5, .int .i64 0, .int .i64 2, .int .i64 0, .int .i64 0, .slice none 0 0, .int .u8 3, .int .i64 0, .int .i64 0, .int .i64 7, .int .i64 0, .slice none 0 0, .int .u8 4, .int .i64 0, .int .i64 0, .int .i64 0, .int .i64 0, .slice none 0 0] 95)) w4.heap.size (cQ (wPs 3 2 0 0 0 0)) 0 ((wPs 3 2 0 0 0 0).map sayOf) RepP.new h pb 0 3 wv (ApeP.runG (ApeP.opP (cQ (wPs 3 2 0 0 0 0)) 0 0 RepP.new) ((wPs 3 2 0 0 0 0).map sayOf) 0 0 0 (([⟨5, 0, 2, 0, 0, none, 0, 0, []⟩, ⟨3, 0, 0, 7, 0, none, 0, 0, []⟩, ⟨4, 0, 0, 0, 0, none, 0, 0, []⟩] : List OpC).map OpC.plain) 3 ⟨List.replicate 2 0, PorP.start (cQ (wPs 3 2 0 0 0 0)), HeaP.Mon.start 2, ⟨0, 0, 0, 0⟩⟩))) :=
    Lib.hid (run_any (s := ⟨List.replicate 2 0, PorP.start (cQ (wPs 3 2 0 0 0 0)), HeaP.Mon.start 2, ⟨0, 0, 0, 0⟩⟩) (HH7.out.below hb8) (HP7.out.below hb8) (SndP.works qok3).allowed (Nat.le_trans HB47.out.size hb8.size) H4z.out (HG7.out.keep (hb8.block 0 HG7.out.pos)) new_tat (by decide) (by decide) (by decide) 0 (some ⟨w7.heap.size, 0, none⟩) 3 3 [⟨5, 0, 2, 0, 0, none, 0, 0, []⟩, ⟨3, 0, 0, 7, 0, none, 0, 0, []⟩, ⟨4, 0, 0, 0, 0, none, 0, 0, []⟩] rfl (by decide) hops)
  have hx7 := HHb7.out
  have x0 := cell_at hx7 0 rfl
  have x1 := cell_at hx7 1 rfl
  have x2 := cell_at hx7 2 rfl
  have x3 := cell_at hx7 3 rfl
  have HB8 := Lib.hid (HB7.out.trans (hb8.mono HB7.out.size))
  clear hx7 hops hb8
  go_wp2_with fail
  clear x0 x1 x2 x3
  refine HRun.out.mono ?_
  rintro e w8 ⟨v, ys, h2, rfl, ho, hres, hh2, hp2, hwn, -, -⟩
  have hb9 : Below w.heap.size w w8 := HB8.out.trans (((hwn.touch (HH7.out.below ((Below.refl _ _).alloc (Nat.le_refl _) _)) (HP7.out.below ((Below.refl _ _).alloc (Nat.le_refl _) _))).below (by have := HB47.out.size; simp; omega)).mono HB4.out.size)
  have HB9 := Lib.hid hb9
  obtain ⟨q1, q2, q3⟩ := awake_run
  rw [q1] at hres
  rw [q2, q3]
  obtain ⟨y0, y1, y2, rfl⟩ := three_of ys (by have := congrArg List.length hres; rwa [List.length_map] at this)
  simp only [List.map_cons, List.map_nil, List.cons.injEq, and_true] at hres
  obtain ⟨g, cap, rfl, -, hc⟩ := ho.cells (by simp)
  obtain ⟨-, e1, -, -⟩ := hc 1 y1 rfl
  obtain ⟨e2, -, -, -⟩ := hc 2 y2 rfl
  have v1 := (resC_of hres.2.1).2.1
  have v2 := (resC_of hres.2.2).1
  rw [v1] at e1
  rw [v2] at e2
  simp only [List.length_cons, List.length_nil] at *
  clear hc ho hres hh2 hp2 hwn hb9 v1 v2 q1 q2 q3
  go_wp2_with fail
  go_ret
  exact ⟨rfl, HB9.out⟩
end Go.Proofs.YtemcgegickpdbaaGreatDoor
