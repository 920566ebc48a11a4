/- Contracts of apex's Clear and New. Conditions: where things lie. · The laws' tables with other partitions, a host and a partition of them; the fixed fact. Conditions: errors.errorType holds the type error. · What ApexStops needs: its ops, appended one by one; its tables are lawful; what a wrong op does. No conditions beyond those that each states. · What ApexCommands needs: its ops, appended one by one; its tables are lawful. No conditions beyond those that each states. · ApexCommands: every input is answered with true. Conditions: where the ops lie; errors.errorType holds the type error. -/
import Derived.Deep.OwnRows
import Derived.Test.YtemcgegickpdbaaGreatDoorSn22
import Derived.Test.YtemcgegickpdbaaGreatDoorSn07
import Derived.Test.YtemcgegickpdbaaGreatDoorSn17
import Derived.Test.YtemcgegickpdbaaGreatDoorSn01
namespace Go.Proofs.YtemcgegickpdbaaGreatDoor
open Go.RowKit
set_option maxRecDepth 100000

def NewA16 (w : World) (ps : List TableP.Part) (part : Int) (e : Ending) (w' : World) : Prop := match (if part < 0 then none else ps[part.toNat]?) with
  | none => e = .returned (.tuple #[.pointer none, .iface 88 (.int .i64 2)]) ∧ Below w.heap.size w w'
  | some p => if p.words < 0 ∨ 16 < p.words then e = .returned (.tuple #[.pointer none, .iface 88 (.int .i64 2)]) ∧ Below w.heap.size w w'
    else ∃ pb wv, e = .returned (.tuple #[.pointer (some ⟨pb, 0, none⟩), .nilIface]) ∧ PartIn w' w.heap.size pb part.toNat p.budget wv (List.replicate p.words.toNat 0) ∧ Below w.heap.size w w'
def NewS16 (b : Nat) (p : TableP.Part) (W : World) : Prop := W.heap[b]? = some (.cells (partVals p).toArray 66 (0, 0))
theorem make_words (n : Nat) (hn : n ≤ 1000) (W : World) : (Instr.makeSlice 62 (.int .i64 (n : Nat)) (.int .i64 (n : Nat))).run Tryz.prog W = .ok (.slice (some ⟨W.heap.size, 0, none⟩) n n) (W.alloc (.cells (wordV (List.replicate n 0)).toArray 42)) := by
  have h := run_make_row' (P := Tryz.prog) 62 42 (.int .u16 0) 2 Tryz.underlying62 infoU16w rfl .i64 .i64 n (by omega) (by omega) W
  rw [h]
  have e : madeCells #[.int .u16 0] n = (wordV (List.replicate n 0)).toArray := by
    apply Array.ext'
    rw [toList_madeCells_one]
    simp [wordV]
  rw [e]
theorem words_made {w : World} {B n : Nat} (hB : B ≤ w.heap.size) (hn : n ≤ maxLen) : (w.alloc (.cells (wordV (List.replicate n 0)).toArray 42)).ownsRow B 42 1 (.slice (some ⟨w.heap.size, 0, none⟩) n n) n (wordV (List.replicate n 0)) := by
  have h1 := World.ownsRow_lit (e := 42) (size := 1) (base := B) w (wordV (List.replicate n 0)).toArray n hB hn (by simp [wordV])
  simpa using h1
set_option maxHeartbeats 4000000 in
theorem new_any16 (x : CfgC) (w : World) (hx : CfgIn w x) (part : Int) (hlo : -9223372036854775808 ≤ part) (hhi : part ≤ 9223372036854775807) (hpn : x.pn ≤ 1000000) (hbud : ∀ p ∈ x.parts, -9223372036854775808 ≤ p.words ∧ p.words ≤ 9223372036854775807) :
    Calls Tryz.prog 14 #[x.value, .int .i64 part] w (NewA16 w x.parts part) := by
  have hb0 : ∀ o, Below w.heap.size w (w.alloc o) := fun o => (Below.refl _ _).alloc (Nat.le_refl _) _
  have hits := hx.parts
  have hlen := hx.plen
  have hx0 := hx
  obtain ⟨nodes, faulty, slot, gap, rho, dmin, dmax, margin, PA, pn, pcap, parts, QA, qn, qcap, ports, RA, rn, rcap, routes⟩ := x
  simp only at hits hlen hpn hbud
  simp only [CfgC.value]
  by_cases h0 : part < 0
  · have HF : Hid (∀ W, Below w.heap.size w W → NewA16 w parts part (.returned (.tuple #[.pointer none, .iface 88 (.int .i64 2)])) W) := Lib.hid fun W hW => by
      unfold NewA16
      rw [if_pos h0]
      exact ⟨rfl, hW⟩
    have d1 : decide (part < 0) = true := decide_eq_true h0
    have HB := Lib.hid hb0
    clear hits hlen hx hx0 hb0 h0
    go_enter Tryz.func14, Tryz.ntmps14
    go_wp2_with fail
    go_ret2
    exact HF.out _ (HB.out _)
  obtain ⟨k, rfl⟩ := Int.eq_ofNat_of_zero_le (show 0 ≤ part by omega)
  have d1 : decide ((k : Int) < 0) = false := decide_eq_false h0
  by_cases h1 : pn ≤ k
  · have HF : Hid (∀ W, Below w.heap.size w W → NewA16 w parts k (.returned (.tuple #[.pointer none, .iface 88 (.int .i64 2)])) W) := Lib.hid fun W hW => by
      unfold NewA16
      rw [if_neg h0, Int.toNat_natCast, List.getElem?_eq_none (by omega)]
      exact ⟨rfl, hW⟩
    have d2 : decide ((pn : Int) ≤ (k : Int)) = true := decide_eq_true (by omega)
    have d3 : decide (pn ≤ k) = true := decide_eq_true h1
    have HB := Lib.hid hb0
    clear hits hlen hx hx0 hb0 h0 h1
    go_enter Tryz.func14, Tryz.ntmps14
    go_wp2_with fail
    go_ret2
    exact HF.out _ (HB.out _)
  have d2 : decide ((pn : Int) ≤ (k : Int)) = false := decide_eq_false (by omega)
  have d3 : decide (pn ≤ k) = false := decide_eq_false h1
  have hlt : k < pn := by omega
  obtain ⟨p, hp⟩ : ∃ p, parts[k]? = some p := ⟨_, List.getElem?_eq_getElem (by omega)⟩
  obtain ⟨b, off, rfl, hbl, hcell⟩ := hits (by omega)
  have hw := hbud p (List.mem_of_getElem? hp)
  have hc := hcell k p hp
  obtain ⟨pnd, pst, ple, pbu, pwo, pr0, pr1, pr2, pr3⟩ := p
  have a0 : w.cell? ⟨b, off + k * 9, none⟩ = some (.int .i64 pnd) := hc 0 _ rfl
  have a1 : w.cell? ⟨b, off + k * 9 + 1, none⟩ = some (.int .i64 pst) := hc 1 _ rfl
  have a2 : w.cell? ⟨b, off + k * 9 + 2, none⟩ = some (.int .i64 ple) := hc 2 _ rfl
  have a3 : w.cell? ⟨b, off + k * 9 + 3, none⟩ = some (.int .i64 pbu) := hc 3 _ rfl
  have a4 : w.cell? ⟨b, off + k * 9 + 4, none⟩ = some (.int .i64 pwo) := hc 4 _ rfl
  have a5 : w.cell? ⟨b, off + k * 9 + 5, none⟩ = some (.int .u8 (pr0 : Nat)) := hc 5 _ rfl
  have a6 : w.cell? ⟨b, off + k * 9 + 6, none⟩ = some (.int .u8 (pr1 : Nat)) := hc 6 _ rfl
  have a7 : w.cell? ⟨b, off + k * 9 + 7, none⟩ = some (.int .u8 (pr2 : Nat)) := hc 7 _ rfl
  have a8 : w.cell? ⟨b, off + k * 9 + 8, none⟩ = some (.int .u8 (pr3 : Nat)) := hc 8 _ rfl
  have hne : b ≠ w.heap.size := by omega
  have HB2 : Hid (∀ o o', Below w.heap.size w ((w.alloc o).alloc o')) := Lib.hid fun o o' => (hb0 o).alloc (by simp) _
  simp only at hw
  by_cases h2 : pwo < 0 ∨ 16 < pwo
  · have HF : Hid (∀ W, Below w.heap.size w W → NewA16 w parts k (.returned (.tuple #[.pointer none, .iface 88 (.int .i64 2)])) W) := Lib.hid fun W hW => by
      unfold NewA16
      rw [if_neg h0, Int.toNat_natCast, hp]
      simp only
      rw [if_pos h2]
      exact ⟨by first | rfl | trivial, hW⟩
    clear hits hlen hx hx0 hb0 h0 h1 hcell hc hp hbud
    rcases Int.lt_or_le pwo 0 with h3 | h3
    · have d4 : decide (pwo < 0) = true := decide_eq_true h3
      clear h2 h3
      go_enter Tryz.func14, Tryz.ntmps14
      go_wp2_with fail
      go_ret2
      exact HF.out _ (HB2.out _ _)
    · have d4 : decide (pwo < 0) = false := decide_eq_false (by omega)
      have d5 : decide ((16 : Int) < pwo) = true := decide_eq_true (by omega)
      clear h2 h3
      go_enter Tryz.func14, Tryz.ntmps14
      go_wp2_with fail
      go_ret2
      exact HF.out _ (HB2.out _ _)
  obtain ⟨n, rfl⟩ := Int.eq_ofNat_of_zero_le (show 0 ≤ pwo by omega)
  have d4 : decide ((n : Int) < 0) = false := decide_eq_false (by omega)
  have d5 : decide ((16 : Int) < (n : Int)) = false := decide_eq_false (by omega)
  have hn16 : n ≤ 16 := by omega
  have hmk := make_words n (by omega)
  have HF : Hid (∀ W, Below w.heap.size w W → NewA16 w parts k (.returned (.tuple #[.pointer (some ⟨W.heap.size + 1, 0, none⟩), .nilIface])) ((W.alloc (.cells (wordV (List.replicate n 0)).toArray 42)).alloc (.cells #[.int .i64 (k : Nat), .int .i64 pbu, .slice (some ⟨W.heap.size, 0, none⟩) n n] 117))) := Lib.hid fun W hW => by
    unfold NewA16
    rw [if_neg h0, Int.toNat_natCast, hp]
    simp only
    rw [if_neg h2]
    have hb1 : Below W.heap.size W (W.alloc (.cells (wordV (List.replicate n 0)).toArray 42)) := (Below.refl _ _).alloc (Nat.le_refl _) _
    have hrow := words_made (w := W) (B := w.heap.size) (n := n) hW.size (by unfold maxLen; omega)
    have hb2 : Below (W.alloc (.cells (wordV (List.replicate n 0)).toArray 42)).heap.size (W.alloc (.cells (wordV (List.replicate n 0)).toArray 42)) ((W.alloc (.cells (wordV (List.replicate n 0)).toArray 42)).alloc (.cells #[.int .i64 (k : Nat), .int .i64 pbu, .slice (some ⟨W.heap.size, 0, none⟩) n n] 117)) := (Below.refl _ _).alloc (Nat.le_refl _) _
    refine ⟨W.heap.size + 1, .slice (some ⟨W.heap.size, 0, none⟩) n n, rfl, ⟨newAt1 _ _ _, ?_, fun v hv => ?_, by simp; omega, by have := hW.size; omega⟩, hW.trans ((hb1.trans (hb2.mono hb1.size)).mono hW.size)⟩
    · rw [Int.toNat_natCast, List.length_replicate]
      exact own_apart (F := fun _ => False) hrow (Apart.of_below' hb2) (fun _ _ h => h)
    · rw [List.eq_of_mem_replicate hv]; decide
  have hd0 : NewS16 (w.heap.size + 1) ⟨pnd, pst, ple, pbu, (n : Nat), pr0, pr1, pr2, pr3⟩ ((w.alloc (.cells #[.int .i64 nodes, .int .i64 faulty, .int .i64 slot, .int .i64 gap, .int .i64 rho, .int .i64 dmin, .int .i64 dmax, .int .i64 margin, .slice (some ⟨b, off, none⟩) pn pcap, .slice QA qn qcap, .slice RA rn rcap] 26)).alloc (.cells #[.int .i64 pnd, .int .i64 pst, .int .i64 ple, .int .i64 pbu, .int .i64 (n : Nat), .int .u8 (pr0 : Nat), .int .u8 (pr1 : Nat), .int .u8 (pr2 : Nat), .int .u8 (pr3 : Nat)] 66)).drew := newAt1 _ _ _
  have c3 : ∀ W, NewS16 (w.heap.size + 1) ⟨pnd, pst, ple, pbu, (n : Nat), pr0, pr1, pr2, pr3⟩ W → W.cell? ⟨w.heap.size + 1, 3, none⟩ = some (.int .i64 pbu) := fun W hW => cell_at hW 3 rfl
  have c4 : ∀ W, NewS16 (w.heap.size + 1) ⟨pnd, pst, ple, pbu, (n : Nat), pr0, pr1, pr2, pr3⟩ W → W.cell? ⟨w.heap.size + 1, 4, none⟩ = some (.int .i64 (n : Nat)) := fun W hW => cell_at hW 4 rfl
  have HBd : Hid (Below w.heap.size w ((w.alloc (.cells #[.int .i64 nodes, .int .i64 faulty, .int .i64 slot, .int .i64 gap, .int .i64 rho, .int .i64 dmin, .int .i64 dmax, .int .i64 margin, .slice (some ⟨b, off, none⟩) pn pcap, .slice QA qn qcap, .slice RA rn rcap] 26)).alloc (.cells #[.int .i64 pnd, .int .i64 pst, .int .i64 ple, .int .i64 pbu, .int .i64 (n : Nat), .int .u8 (pr0 : Nat), .int .u8 (pr1 : Nat), .int .u8 (pr2 : Nat), .int .u8 (pr3 : Nat)] 66)).drew) := Lib.hid (HB2.out _ _).drew
  clear hits hlen hx hx0 hb0 h0 h1 h2 hcell hc hp hbud
  go_enter Tryz.func14, Tryz.ntmps14
  go_wp2_with fail
  refine wp_region_held_drew (S := fun W => NewS16 (w.heap.size + 1) ⟨pnd, pst, ple, pbu, (n : Nat), pr0, pr1, pr2, pr3⟩ W) (by kernel_rfl) hd0 (fun _ => ?_)
  refine tkH 0 (by simp only [tkA]; rfl) (by kernel_rfl) (by exact fun _ _ _ h => h) (by rfl) (by intro W hW; go_simp <;> with_reducible rfl) hd0 ?_
  try simp only [Act.put, tkT, tk0, tkS]
  refine tkH 1 (by simp only [tkA, tkG]; rfl) (by kernel_rfl) (by exact fun _ _ _ h => h) (by rfl) (by intro W hW; go_simp <;> with_reducible rfl) hd0 ?_
  try simp only [Act.put, tkT, tk0, tkS]
  refine tkH 2 (by simp only [tkA, tkG]; rfl) (by kernel_rfl) (by exact fun _ _ _ h => h) (by rfl) (by intro W hW; go_simp <;> with_reducible rfl) hd0 ?_
  try simp only [Act.put, tkT, tk0, tkS]
  refine tkH 3 (by simp only [tkA, tkG]; rfl) (by kernel_rfl) (by exact fun _ _ _ h => h) (by rfl) (by intro W hW; go_simp <;> with_reducible rfl) hd0 ?_
  try simp only [Act.put, tkT, tk0, tkS]
  refine tkH 4 (by simp only [tkA, tkG]; rfl) (by kernel_rfl) (by exact fun _ _ _ h => h) (by rfl) (by intro W hW; go_simp <;> with_reducible rfl) hd0 ?_
  try simp only [Act.put, tkT, tk0, tkS]
  generalize ((w.alloc (.cells #[.int .i64 nodes, .int .i64 faulty, .int .i64 slot, .int .i64 gap, .int .i64 rho, .int .i64 dmin, .int .i64 dmax, .int .i64 margin, .slice (some ⟨b, off, none⟩) pn pcap, .slice QA qn qcap, .slice RA rn rcap] 26)).alloc (.cells #[.int .i64 pnd, .int .i64 pst, .int .i64 ple, .int .i64 pbu, .int .i64 (n : Nat), .int .u8 (pr0 : Nat), .int .u8 (pr1 : Nat), .int .u8 (pr2 : Nat), .int .u8 (pr3 : Nat)] 66)).drew = w1 at *
  refine clH 5 (by kernel_rfl) (by simp only [tkA, tkG]; rfl) (fun K hK => ?_)
  go_simp
  have hd1 : NewS16 (w.heap.size + 1) ⟨pnd, pst, ple, pbu, (n : Nat), pr0, pr1, pr2, pr3⟩ (w1.alloc (.cells (wordV (List.replicate n 0)).toArray 42)) := (Below.heap_alloc _ _ _ (lt_of_block hd0)).trans hd0
  go_wp2_with fail
  refine hK.out _ _ hd1 (fun _ => ?_)
  clear hK K
  refine tkH 6 (by simp only [tkA, tkG]; rfl) (by kernel_rfl) (by exact fun _ _ _ h => h) (by rfl) (by intro W hW; go_simp <;> with_reducible rfl) hd1 ?_
  try simp only [Act.put, tkT, tk0, tkS]
  refine clH 7 (by kernel_rfl) (by simp only [tkA, tkG]; rfl) (fun K hK => ?_)
  go_simp
  have hd2 : NewS16 (w.heap.size + 1) ⟨pnd, pst, ple, pbu, (n : Nat), pr0, pr1, pr2, pr3⟩ ((w1.alloc (.cells (wordV (List.replicate n 0)).toArray 42)).alloc (.cells #[.int .i64 (k : Nat), .int .i64 pbu, .slice (some ⟨w1.heap.size, 0, none⟩) n n] 117)) := (Below.heap_alloc _ _ _ (lt_of_block hd1)).trans hd1
  go_wp2_with fail
  refine hK.out _ _ hd2 (fun _ => ?_)
  clear hK K
  refine tkH 8 (by simp only [tkA, tkG]; rfl) (by kernel_rfl) (by exact fun _ _ _ h => h) (by rfl) (by intro W hW; go_simp <;> with_reducible rfl) hd2 ?_
  try simp only [Act.put, tkT, tk0, tkS]
  refine tkH 9 (by simp only [tkA, tkG]; rfl) (by kernel_rfl) (by exact fun _ _ _ h => h) (by rfl) (by intro W hW; go_simp <;> with_reducible rfl) hd2 ?_
  try simp only [Act.put, tkT, tk0, tkS]
  refine wpAnyH_done (by kernel_rfl) ?_ _
  go_wp2_with fail
  refine bodyPost_ret (v := .tuple #[.pointer (some ⟨w1.heap.size + 1, 0, none⟩), .nilIface]) (by simp [results, Tryz.results14, go_sem]) rfl ?_
  exact HF.out _ HBd.out
end Go.Proofs.YtemcgegickpdbaaGreatDoor
namespace Go.Proofs.YtemcgegickpdbaaGreatDoor
open Go.RowKit
set_option maxRecDepth 100000

/-- The laws' tables, their partitions as they may be. -/
def wQ (N : Nat) (ps : List TableP.Part) : CfgC := ⟨2, 0, 1000, 500, 0, 0, 0, 98, some ⟨N, 0, none⟩, 2, 2, ps, some ⟨N + 1, 0, none⟩, 4, 4, wPorts 1 1 2 1 1, some ⟨N + 2, 0, none⟩, 2, 2, wRoutes⟩
def cQ (ps : List TableP.Part) : TableP.Cfg := ⟨2, 0, 1000, 500, 0, 0, 0, 98, ps, wPorts 1 1 2 1 1, wRoutes⟩
def wPs (b wd : Int) (r0 r1 r2 r3 : Nat) : List TableP.Part := [⟨0, 0, 10, b, wd, r0, r1, r2, r3⟩, ⟨1, 0, 10, 9, 2, 0, 0, 0, 0⟩]
structure WirQ (W : World) (N : Nat) (ps : List TableP.Part) : Prop where
  parts : W.heap[N]? = some (.cells (itemsV partVals ps).toArray 66 (0, 0))
  ports : W.heap[N + 1]? = some (.cells (itemsV portVals (wPorts 1 1 2 1 1)).toArray 136 (0, 0))
  routes : W.heap[N + 2]? = some (.cells (itemsV routeVals wRoutes).toArray 151 (0, 0))
theorem WirQ.of {W : World} {N : Nat} (h : WirIn W N 1 1 2 1 1) : WirQ W N (wPs 9 2 0 0 0 0) := ⟨h.parts, h.ports, h.routes⟩
theorem WirQ.cfg {W : World} {N : Nat} {ps : List TableP.Part} (h : WirQ W N ps) (hl : ps.length = 2) : CfgIn W (wQ N ps) :=
  ⟨row_items partVals_len h.parts, hl, Nat.le_refl _, by simp only [wQ]; omega, row_items portVals_len h.ports, rfl, Nat.le_refl _, by simp only [wQ]; omega, row_items routeVals_len h.routes, rfl, Nat.le_refl _, by simp only [wQ]; omega⟩
theorem WirQ.below {W W' : World} {N : Nat} {ps : List TableP.Part} (h : WirQ W N ps) (hb : Below W.heap.size W W') : WirQ W' N ps :=
  ⟨(hb.block _ (lt_of_block h.parts)).trans h.parts, (hb.block _ (lt_of_block h.ports)).trans h.ports, (hb.block _ (lt_of_block h.routes)).trans h.routes⟩
/-- A cell of the partitions' tables is written. -/
theorem WirQ.set {W : World} {N : Nat} {ps ps' : List TableP.Part} (h : WirQ W N ps) (i : Nat) (v : Value) (hv : (itemsV partVals ps).set i v = itemsV partVals ps') : WirQ (W.setCell ⟨N, i, none⟩ v) N ps' := by
  refine ⟨?_, (Below.heap_setCell _ _ _ _ (by simp)).trans h.ports, (Below.heap_setCell _ _ _ _ (by simp)).trans h.routes⟩
  have h1 := heap_setCell_same W N i _ _ v h.parts
  rw [h1, ← hv]
  simp
theorem WirQ.cell {W : World} {N : Nat} {ps : List TableP.Part} (h : WirQ W N ps) (i : Nat) {v : Value} (hv : (itemsV partVals ps)[i]? = some v) : W.cell? ⟨N, i, none⟩ = some v := cell_at h.parts i (by rw [List.getElem?_toArray]; exact hv)
theorem PartIn.low16 {w : World} {B B' pb part : Nat} {budget : Int} {wv : Value} {mem : List Nat} (h : PartIn w B pb part budget wv mem) (hB : B' ≤ B) : PartIn w B' pb part budget wv mem := ⟨h.hd, low_own h.row hB, h.ok, h.most, Nat.le_trans hB h.base⟩
theorem qhost_any (N : Nat) (ps : List TableP.Part) (hl : ps.length = 2) (hc : SndP.chk6 (cQ ps) = none) (W : World) (h : WirQ W N ps) : Calls Tryz.prog 11 #[(wQ N ps).value, .int .i64 0] W (HostP W (cQ ps) 0) :=
  host_any (wQ N ps) 0 W (h.cfg hl) hc (show ((0 : Nat) : Int) < 2 by decide) (by decide)
def QNew (W : World) (b : Int) (n : Nat) (e : Ending) (w' : World) : Prop := ∃ pb wv, e = .returned (.tuple #[.pointer (some ⟨pb, 0, none⟩), .nilIface]) ∧ PartIn w' W.heap.size pb 0 b wv (List.replicate n 0) ∧ Below W.heap.size W w'
theorem qnew_any (N : Nat) (b : Int) (n r0 r1 r2 r3 : Nat) (hn : n ≤ 16) (W : World) (h : WirQ W N (wPs b n r0 r1 r2 r3)) : Calls Tryz.prog 14 #[(wQ N (wPs b n r0 r1 r2 r3)).value, .int .i64 0] W (QNew W b n) := by
  refine (new_any16 (wQ N (wPs b n r0 r1 r2 r3)) W (h.cfg rfl) 0 (by decide) (by decide) (by simp only [wQ]; omega) (fun p hp => ?_)).mono ?_
  · have hp' : p ∈ wPs b n r0 r1 r2 r3 := hp
    simp only [wPs, List.mem_cons, List.not_mem_nil, or_false] at hp'
    rcases hp' with rfl | rfl
    · simp only; omega
    · simp only; omega
  · intro e w' hq
    unfold NewA16 at hq
    rw [if_neg (by decide)] at hq
    have e1 : (wQ N (wPs b n r0 r1 r2 r3)).parts[(0 : Int).toNat]? = some ⟨0, 0, 10, b, n, r0, r1, r2, r3⟩ := rfl
    rw [e1] at hq
    simp only at hq
    rw [if_neg (by omega)] at hq
    obtain ⟨pb, wv, g1, g2, g3⟩ := hq
    exact ⟨pb, wv, g1, g2, g3⟩
theorem new_tat (i v : Nat) (h : RepP.tat RepP.new i = some v) : v < 65536 := by rw [RepP.new_at] at h; cases h

/-- Ops that were just laid. -/
theorem ops_laid {B : Nat} (w : World) (l : List OpC) (vs : Array Value) (hvs : vs = (itemsV opVals l).toArray) (M : Nat) (hM : M = w.heap.size) (hok : ∀ x ∈ l, OpOk w x ∧ x.data = []) : OpsIn (w.alloc (.cells vs 95)) B (some ⟨M, 0, none⟩) l := by
  subst hvs hM
  have hb : Below w.heap.size w (w.alloc (.cells (itemsV opVals l).toArray 95)) := (Below.refl _ _).alloc (Nat.le_refl _) _
  refine ⟨row_items opVals_len (newAt _ _), fun x hx => (hok x hx).1.below hb, fun x hx hl => ?_, fun _ k hk => ?_⟩
  · rw [(hok x hx).2] at hl; exact absurd hl (by simp)
  · have e : some w.heap.size = some k := hk
    obtain rfl := Option.some.inj e
    exact ⟨_, _, newAt _ _⟩
theorem three_of {α : Type} (l : List α) (h : l.length = 3) : ∃ a b c, l = [a, b, c] := by
  match l, h with
  | [a, b, c], _ => exact ⟨a, b, c, rfl⟩
theorem qok3 : SndP.chk6 (cQ (wPs 3 2 0 0 0 0)) = none := by kernel_rfl
theorem awake_run : (ApeP.runG (ApeP.opP (cQ (wPs 3 2 0 0 0 0)) 0 0 RepP.new) ((wPs 3 2 0 0 0 0).map sayOf) 0 0 0 (([⟨5, 0, 2, 0, 0, none, 0, 0, []⟩, ⟨3, 0, 0, 7, 0, none, 0, 0, []⟩, ⟨4, 0, 0, 0, 0, none, 0, 0, []⟩] : List OpC).map OpC.plain) 3 ⟨List.replicate 2 0, PorP.start (cQ (wPs 3 2 0 0 0 0)), HeaP.Mon.start 2, ⟨0, 0, 0, 0⟩⟩).res = [⟨0, 0, [], false⟩, ⟨0, 7, [], false⟩, ⟨151, 0, [], false⟩] ∧ (ApeP.runG (ApeP.opP (cQ (wPs 3 2 0 0 0 0)) 0 0 RepP.new) ((wPs 3 2 0 0 0 0).map sayOf) 0 0 0 (([⟨5, 0, 2, 0, 0, none, 0, 0, []⟩, ⟨3, 0, 0, 7, 0, none, 0, 0, []⟩, ⟨4, 0, 0, 0, 0, none, 0, 0, []⟩] : List OpC).map OpC.plain) 3 ⟨List.replicate 2 0, PorP.start (cQ (wPs 3 2 0 0 0 0)), HeaP.Mon.start 2, ⟨0, 0, 0, 0⟩⟩).did = 0 ∧ (ApeP.runG (ApeP.opP (cQ (wPs 3 2 0 0 0 0)) 0 0 RepP.new) ((wPs 3 2 0 0 0 0).map sayOf) 0 0 0 (([⟨5, 0, 2, 0, 0, none, 0, 0, []⟩, ⟨3, 0, 0, 7, 0, none, 0, 0, []⟩, ⟨4, 0, 0, 0, 0, none, 0, 0, []⟩] : List OpC).map OpC.plain) 3 ⟨List.replicate 2 0, PorP.start (cQ (wPs 3 2 0 0 0 0)), HeaP.Mon.start 2, ⟨0, 0, 0, 0⟩⟩).left = 0 := ⟨by kernel_rfl, by kernel_rfl, by kernel_rfl⟩
theorem resC_of {y : ResC} {r : ApeP.Res} (h : y.plain = r) : y.code = r.code ∧ y.value = r.value ∧ y.data = r.data ∧ y.fresh = r.fresh := by subst h; exact ⟨rfl, rfl, rfl, rfl⟩
/-- A run's results, cell by cell. -/
theorem OutA.cells {W : World} {M B : Nat} {v : Value} {ys : List ResC} (h : OutA W M B v ys) (hn : 0 < ys.length) : ∃ g cap, v = .slice (some ⟨g, 0, none⟩) ys.length cap ∧ g < W.heap.size ∧ ∀ i y, ys[i]? = some y → W.cell? ⟨g, i * 4, none⟩ = some (.int .i64 (y.code : Nat)) ∧ W.cell? ⟨g, i * 4 + 1, none⟩ = some (.int .i64 y.value) ∧ W.cell? ⟨g, i * 4 + 2, none⟩ = some (.slice y.A y.data.length y.cap) ∧ W.cell? ⟨g, i * 4 + 3, none⟩ = some (.bool y.fresh) := by
  obtain ⟨g, cap, rfl, -⟩ := row_some16 h.row hn
  refine ⟨g, cap, rfl, ((Seg.of_own h.row).lt g rfl).2, fun i y hy => ?_⟩
  have hi := (List.getElem?_eq_some_iff.1 hy).1
  have hc : ∀ j u, j < 4 → (resVals y)[j]? = some u → W.cell? ⟨g, i * 4 + j, none⟩ = some u := fun j u hj hu => by
    rw [h.row.cellAt (i * 4 + j) (by omega)]
    rw [itemsV_at resVals_len ys i y hy j hj]
    exact hu
  exact ⟨hc 0 _ (by decide) rfl, hc 1 _ (by decide) rfl, hc 2 _ (by decide) rfl, hc 3 _ (by decide) rfl⟩
set_option maxHeartbeats 8000000 in
theorem awake16_any (w : World) (hg : HasType w) : Calls Tryz.prog 9 #[] w (HTrue w) := by
  have HG := Lib.hid hg
  have Hb0 := Lib.hid (Below.refl w.heap.size w)
  clear hg
  have Hb1 := Hb0
  have HG1 := HG
  go_enter Tryz.func9, Tryz.ntmps9
  go_wp2_with fail
  refine (wired_any w).mono ?_
  rintro e w2 ⟨rfl, hwi, hbw⟩
  obtain ⟨N, hN⟩ : ∃ N, N = w.heap.size + 2 := ⟨_, rfl⟩
  rw [← hN] at hwi ⊢
  simp only [wC, CfgC.value]
  have hq2 := WirQ.of hwi
  have hb3 : Below w2.heap.size w2 (w2.alloc (.cells #[.int .i64 2, .int .i64 0, .int .i64 1000, .int .i64 500, .int .i64 0, .int .i64 0, .int .i64 0, .int .i64 98, .slice (some ⟨N, 0, none⟩) 2 2, .slice (some ⟨N + 1, 0, none⟩) 4 4, .slice (some ⟨N + 2, 0, none⟩) 2 2] 26)) := (Below.refl _ _).alloc (Nat.le_refl _) _
  have hq00 : WirQ (w2.alloc (.cells #[.int .i64 2, .int .i64 0, .int .i64 1000, .int .i64 500, .int .i64 0, .int .i64 0, .int .i64 0, .int .i64 98, .slice (some ⟨N, 0, none⟩) 2 2, .slice (some ⟨N + 1, 0, none⟩) 4 4, .slice (some ⟨N + 2, 0, none⟩) 2 2] 26)) N (wPs 9 2 0 0 0 0) := hq2.below hb3
  have hbox00 : (w2.alloc (.cells #[.int .i64 2, .int .i64 0, .int .i64 1000, .int .i64 500, .int .i64 0, .int .i64 0, .int .i64 0, .int .i64 98, .slice (some ⟨N, 0, none⟩) 2 2, .slice (some ⟨N + 1, 0, none⟩) 4 4, .slice (some ⟨N + 2, 0, none⟩) 2 2] 26)).heap[w2.heap.size]? = some (.cells #[.int .i64 2, .int .i64 0, .int .i64 1000, .int .i64 500, .int .i64 0, .int .i64 0, .int .i64 0, .int .i64 98, .slice (some ⟨N, 0, none⟩) 2 2, .slice (some ⟨N + 1, 0, none⟩) 4 4, .slice (some ⟨N + 2, 0, none⟩) 2 2] 26 (0, 0)) := newAt _ _
  have hNb : N < w2.heap.size := lt_of_block hq2.parts
  have hbw0 := Hb1.out.trans (hbw.mono Hb1.out.size)
  have hbw3 : Below w.heap.size w (w2.alloc (.cells #[.int .i64 2, .int .i64 0, .int .i64 1000, .int .i64 500, .int .i64 0, .int .i64 0, .int .i64 0, .int .i64 98, .slice (some ⟨N, 0, none⟩) 2 2, .slice (some ⟨N + 1, 0, none⟩) 4 4, .slice (some ⟨N + 2, 0, none⟩) 2 2] 26)) := hbw0.trans (hb3.mono hbw0.size)
  have hN1 : w.heap.size ≤ N := by omega
  have hg3 : HasType (w2.alloc (.cells #[.int .i64 2, .int .i64 0, .int .i64 1000, .int .i64 500, .int .i64 0, .int .i64 0, .int .i64 0, .int .i64 98, .slice (some ⟨N, 0, none⟩) 2 2, .slice (some ⟨N + 1, 0, none⟩) 4 4, .slice (some ⟨N + 2, 0, none⟩) 2 2] 26)) := HG1.out.keep ((hbw.trans (hb3.mono hbw.size)).block 0 HG1.out.pos)
  have hq2l := hb3.size
  have hbl := hbw.size
  clear hN
  go_upto_region 2 with (fail)
  generalize (w2.alloc (.cells #[.int .i64 2, .int .i64 0, .int .i64 1000, .int .i64 500, .int .i64 0, .int .i64 0, .int .i64 0, .int .i64 98, .slice (some ⟨N, 0, none⟩) 2 2, .slice (some ⟨N + 1, 0, none⟩) 4 4, .slice (some ⟨N + 2, 0, none⟩) 2 2] 26)) = w3 at *
  have hq0 := hq00
  have hbox0 := hbox00
  have hfz : ∀ j, w3.frozen? ⟨N, j, none⟩ = false := fun j => free_at hq0.parts j
  have hne : w2.heap.size ≠ N := by omega
  have kp3 : w3.cell? ⟨N, 3, none⟩ = some (.int .i64 9) := hq0.cell 3 rfl
  have kb8 : w3.cell? ⟨w2.heap.size, 8, none⟩ = some (.slice (some ⟨N, 0, none⟩) 2 2) := cell_at hbox0 8 rfl
  have hq : WirQ (w3.setCell ⟨N, 3, none⟩ (.int .i64 3)) N (wPs 3 2 0 0 0 0) := hq0.set 3 (.int .i64 3) rfl
  have hbox4 : (w3.setCell ⟨N, 3, none⟩ (.int .i64 3)).heap[w2.heap.size]? = some (.cells #[.int .i64 2, .int .i64 0, .int .i64 1000, .int .i64 500, .int .i64 0, .int .i64 0, .int .i64 0, .int .i64 98, .slice (some ⟨N, 0, none⟩) 2 2, .slice (some ⟨N + 1, 0, none⟩) 4 4, .slice (some ⟨N + 2, 0, none⟩) 2 2] 26 (0, 0)) := (Below.heap_setCell _ _ _ _ hne).trans hbox0
  have hst : Below w.heap.size w3 (w3.setCell ⟨N, 3, none⟩ (.int .i64 3)) := by
    have hA : Apart (fun k => k = N) w3 (w3.setCell ⟨N, 3, none⟩ (.int .i64 3)) := by
      first
      | exact Apart.refl _ _
      | exact (Apart.refl (fun k => k = N) _).setCell (p := ⟨N, _, none⟩) (.inl rfl) _
      | exact ((Apart.refl (fun k => k = N) _).setCell (p := ⟨N, _, none⟩) (.inl rfl) _).setCell (p := ⟨N, _, none⟩) (.inl rfl) _
      | exact ((((Apart.refl (fun k => k = N) _).setCell (p := ⟨N, _, none⟩) (.inl rfl) _).setCell (p := ⟨N, _, none⟩) (.inl rfl) _).setCell (p := ⟨N, _, none⟩) (.inl rfl) _).setCell (p := ⟨N, _, none⟩) (.inl rfl) _
      | exact (((((Apart.refl (fun k => k = N) _).setCell (p := ⟨N, _, none⟩) (.inl rfl) _).setCell (p := ⟨N, _, none⟩) (.inl rfl) _).setCell (p := ⟨N, _, none⟩) (.inl rfl) _).setCell (p := ⟨N, _, none⟩) (.inl rfl) _).setCell (p := ⟨N, _, none⟩) (.inl rfl) _
    exact hA.below (Nat.le_trans hbl hq2l) fun k e => by omega
  have hb4 : Below w.heap.size w (w3.setCell ⟨N, 3, none⟩ (.int .i64 3)) := hbw3.trans (hst.mono Hb1.out.size)
  have hg4 : HasType (w3.setCell ⟨N, 3, none⟩ (.int .i64 3)) := hg3.keep (hst.block 0 HG1.out.pos)
  have HNb := Lib.hid hNb
  have HQ := Lib.hid hq
  have HBox := Lib.hid hbox4
  have HB4 := Lib.hid hb4
  have HG4 := Lib.hid hg4
  clear hN1 hwi hq2 hb3 hq0 hq00 hbox00 hq2l hbl hbw hbw0 hbw3 hg3 hst hb4 hg4 hq hbox4 hbox0
  go_upto_region 3 with (fail)
  clear kp3 kb8 hfz
  generalize (w3.setCell ⟨N, 3, none⟩ (.int .i64 3)) = w4 at *
  have H4z := Lib.hid HG4.out.pos
  have hbox4 := HBox.out
  have bx0 := cell_at hbox4 0 rfl
  have bx1 := cell_at hbox4 1 rfl
  have bx2 := cell_at hbox4 2 rfl
  have bx3 := cell_at hbox4 3 rfl
  have bx4 := cell_at hbox4 4 rfl
  have bx5 := cell_at hbox4 5 rfl
  have bx6 := cell_at hbox4 6 rfl
  have bx7 := cell_at hbox4 7 rfl
  have bx8 := cell_at hbox4 8 rfl
  have bx9 := cell_at hbox4 9 rfl
  have bx10 := cell_at hbox4 10 rfl
  have HHost : Hid (Calls Tryz.prog 11 #[.agg #[.int .i64 2, .int .i64 0, .int .i64 1000, .int .i64 500, .int .i64 0, .int .i64 0, .int .i64 0, .int .i64 98, .slice (some ⟨N, 0, none⟩) 2 2, .slice (some ⟨N + 1, 0, none⟩) 4 4, .slice (some ⟨N + 2, 0, none⟩) 2 2], .int .i64 0] w4 (HostP w4 (cQ (wPs 3 2 0 0 0 0)) 0)) := Lib.hid (qhost_any N (wPs 3 2 0 0 0 0) rfl qok3 w4 HQ.out)
  clear hbox4
  go_wp2_with fail
  clear bx0 bx1 bx2 bx3 bx4 bx5 bx6 bx7 bx8 bx9 bx10
  refine HHost.out.mono ?_
  rintro e w5 ⟨h, rfl, hh, hb5⟩
  have hb56 : Below w5.heap.size w5 (w5.alloc (.cells #[.pointer (some ⟨h.x.a, 0, none⟩), .pointer (some ⟨h.tb, 0, none⟩), .pointer (some ⟨h.mb, 0, none⟩), .pointer (some ⟨h.cb, 0, none⟩)] 36)) := (Below.refl _ _).alloc (Nat.le_refl _) _
  have hbx5 : (w5.alloc (.cells #[.pointer (some ⟨h.x.a, 0, none⟩), .pointer (some ⟨h.tb, 0, none⟩), .pointer (some ⟨h.mb, 0, none⟩), .pointer (some ⟨h.cb, 0, none⟩)] 36)).heap[w5.heap.size]? = some (.cells #[.pointer (some ⟨h.x.a, 0, none⟩), .pointer (some ⟨h.tb, 0, none⟩), .pointer (some ⟨h.mb, 0, none⟩), .pointer (some ⟨h.cb, 0, none⟩)] 36 (0, 0)) := newAt _ _
  have HHs := Lib.hid (hh.below hb56)
  have HHb := Lib.hid hbx5
  have hb46 := hb5.trans (hb56.mono hb5.size)
  have HB46 := Lib.hid hb46
  have HB6 := Lib.hid (HB4.out.trans (hb46.mono HB4.out.size))
  have HQ6 := Lib.hid (HQ.out.below hb46)
  have HBox6 := Lib.hid ((hb46.block _ (lt_of_block HBox.out)).trans HBox.out)
  have HG6 := Lib.hid (HG4.out.keep (hb46.block 0 HG4.out.pos))
  have H45 := Lib.hid hb5.size
  clear hh hb5 hb56 hbx5 hb46 HHost HQ HBox HG4
  simp only [hostV]
  go_upto_region 4 with (fail)
  generalize (w5.alloc (.cells #[.pointer (some ⟨h.x.a, 0, none⟩), .pointer (some ⟨h.tb, 0, none⟩), .pointer (some ⟨h.mb, 0, none⟩), .pointer (some ⟨h.cb, 0, none⟩)] 36)) = w6 at *
  have hbox4 := HBox6.out
  have bx0 := cell_at hbox4 0 rfl
  have bx1 := cell_at hbox4 1 rfl
  have bx2 := cell_at hbox4 2 rfl
  have bx3 := cell_at hbox4 3 rfl
  have bx4 := cell_at hbox4 4 rfl
  have bx5 := cell_at hbox4 5 rfl
  have bx6 := cell_at hbox4 6 rfl
  have bx7 := cell_at hbox4 7 rfl
  have bx8 := cell_at hbox4 8 rfl
  have bx9 := cell_at hbox4 9 rfl
  have bx10 := cell_at hbox4 10 rfl
  have HNew : Hid (Calls Tryz.prog 14 #[.agg #[.int .i64 2, .int .i64 0, .int .i64 1000, .int .i64 500, .int .i64 0, .int .i64 0, .int .i64 0, .int .i64 98, .slice (some ⟨N, 0, none⟩) 2 2, .slice (some ⟨N + 1, 0, none⟩) 4 4, .slice (some ⟨N + 2, 0, none⟩) 2 2], .int .i64 0] w6 (QNew w6 3 2)) := Lib.hid (qnew_any N 3 2 0 0 0 0 (by decide) w6 HQ6.out)
  clear hbox4
  go_wp2_with fail
  clear bx0 bx1 bx2 bx3 bx4 bx5 bx6 bx7 bx8 bx9 bx10
  refine HNew.out.mono ?_
  rintro e w7 ⟨pb, wv, rfl, hp, hb7⟩
  have HP7 := Lib.hid (hp.low16 HB46.out.size)
  have HH7 := Lib.hid (HHs.out.below hb7)
  have HHb7 := Lib.hid ((hb7.block _ (lt_of_block HHb.out)).trans HHb.out)
  have HB7 := Lib.hid (HB6.out.trans (hb7.mono HB6.out.size))
  have HQ7 := Lib.hid (HQ6.out.below hb7)
  have HBox7 := Lib.hid ((hb7.block _ (lt_of_block HBox6.out)).trans HBox6.out)
  have HG7 := Lib.hid (HG6.out.keep (hb7.block 0 HG6.out.pos))
  have HB47 := Lib.hid (HB46.out.trans (hb7.mono HB46.out.size))
  clear hp hb7 HNew HHs HHb HB6 HQ6 HBox6 HG6
  go_upto_region 7 with (fail)
  have hb8 : Below w7.heap.size w7 (w7.alloc (.cells #[.int .u8 5, .int .i64 0, .int .i64 2, .int .i64 0, .int .i64 0, .slice none 0 0, .int .u8 3, .int .i64 0, .int .i64 0, .int .i64 7, .int .i64 0, .slice none 0 0, .int .u8 4, .int .i64 0, .int .i64 0, .int .i64 0, .int .i64 0, .slice none 0 0] 95)) := (Below.refl _ _).alloc (Nat.le_refl _) _
  have hops := ops_laid (B := w4.heap.size) w7 [⟨5, 0, 2, 0, 0, none, 0, 0, []⟩, ⟨3, 0, 0, 7, 0, none, 0, 0, []⟩, ⟨4, 0, 0, 0, 0, none, 0, 0, []⟩] #[.int .u8 5, .int .i64 0, .int .i64 2, .int .i64 0, .int .i64 0, .slice none 0 0, .int .u8 3, .int .i64 0, .int .i64 0, .int .i64 7, .int .i64 0, .slice none 0 0, .int .u8 4, .int .i64 0, .int .i64 0, .int .i64 0, .int .i64 0, .slice none 0 0] rfl w7.heap.size rfl (fun x hx => by
    simp only [List.mem_cons, List.not_mem_nil, or_false] at hx
    rcases hx with rfl | rfl | rfl <;> exact ⟨⟨by decide, by decide, by decide, by decide, by decide, rfl, by decide, by decide, Bytes.none_⟩, rfl⟩)
  have HRun : Hid (Calls Tryz.prog 17 #[.pointer (some ⟨pb, 0, none⟩), .agg #[.pointer (some ⟨h.x.a, 0, none⟩), .pointer (some ⟨h.tb, 0, none⟩), .pointer (some ⟨h.mb, 0, none⟩), .pointer (some ⟨h.cb, 0, none⟩)], .int .u32 0, .slice (some ⟨w7.heap.size, 0, none⟩) 3 3] (w7.alloc (.cells #[.int .u8 5, .int .i64 0, .int .i64 2, .int .i64 0, .int .i64 0, .slice none 0 0, .int .u8 3, .int .i64 0, .int .i64 0, .int .i64 7, .int .i64 0, .slice none 0 0, .int .u8 4, .int .i64 0, .int .i64 0, .int .i64 0, .int .i64 0, .slice none 0 0] 95)) (RunP (w7.alloc (.cells #[.int .u8 5, .int .i64 0, .int .i64 2, .int .i64 0, .int .i64 0, .slice none 0 0, .int .u8 3, .int .i64 0, .int .i64 0, .int .i64 7, .int .i64 0, .slice none 0 0, .int .u8 4, .int .i64 0, .int .i64 0, .int .i64 0, .int .i64 0, .slice none 0 0] 95)) w4.heap.size (cQ (wPs 3 2 0 0 0 0)) 0 ((wPs 3 2 0 0 0 0).map sayOf) RepP.new h pb 0 3 wv (ApeP.runG (ApeP.opP (cQ (wPs 3 2 0 0 0 0)) 0 0 RepP.new) ((wPs 3 2 0 0 0 0).map sayOf) 0 0 0 (([⟨5, 0, 2, 0, 0, none, 0, 0, []⟩, ⟨3, 0, 0, 7, 0, none, 0, 0, []⟩, ⟨4, 0, 0, 0, 0, none, 0, 0, []⟩] : List OpC).map OpC.plain) 3 ⟨List.replicate 2 0, PorP.start (cQ (wPs 3 2 0 0 0 0)), HeaP.Mon.start 2, ⟨0, 0, 0, 0⟩⟩))) :=
    Lib.hid (run_any (s := ⟨List.replicate 2 0, PorP.start (cQ (wPs 3 2 0 0 0 0)), HeaP.Mon.start 2, ⟨0, 0, 0, 0⟩⟩) (HH7.out.below hb8) (HP7.out.below hb8) (SndP.works qok3).allowed (Nat.le_trans HB47.out.size hb8.size) H4z.out (HG7.out.keep (hb8.block 0 HG7.out.pos)) new_tat (by decide) (by decide) (by decide) 0 (some ⟨w7.heap.size, 0, none⟩) 3 3 [⟨5, 0, 2, 0, 0, none, 0, 0, []⟩, ⟨3, 0, 0, 7, 0, none, 0, 0, []⟩, ⟨4, 0, 0, 0, 0, none, 0, 0, []⟩] rfl (by decide) hops)
  have hx7 := HHb7.out
  have x0 := cell_at hx7 0 rfl
  have x1 := cell_at hx7 1 rfl
  have x2 := cell_at hx7 2 rfl
  have x3 := cell_at hx7 3 rfl
  have HB8 := Lib.hid (HB7.out.trans (hb8.mono HB7.out.size))
  clear hx7 hops hb8
  go_wp2_with fail
  clear x0 x1 x2 x3
  refine HRun.out.mono ?_
  rintro e w8 ⟨v, ys, h2, rfl, ho, hres, hh2, hp2, hwn, -, -⟩
  have hb9 : Below w.heap.size w w8 := HB8.out.trans (((hwn.touch (HH7.out.below ((Below.refl _ _).alloc (Nat.le_refl _) _)) (HP7.out.below ((Below.refl _ _).alloc (Nat.le_refl _) _))).below (by have := HB47.out.size; simp; omega)).mono HB4.out.size)
  have HB9 := Lib.hid hb9
  obtain ⟨q1, q2, q3⟩ := awake_run
  rw [q1] at hres
  rw [q2, q3]
  obtain ⟨y0, y1, y2, rfl⟩ := three_of ys (by have := congrArg List.length hres; rwa [List.length_map] at this)
  simp only [List.map_cons, List.map_nil, List.cons.injEq, and_true] at hres
  obtain ⟨g, cap, rfl, -, hc⟩ := ho.cells (by simp)
  obtain ⟨-, e1, -, -⟩ := hc 1 y1 rfl
  obtain ⟨e2, -, -, -⟩ := hc 2 y2 rfl
  have v1 := (resC_of hres.2.1).2.1
  have v2 := (resC_of hres.2.2).1
  rw [v1] at e1
  rw [v2] at e2
  simp only [List.length_cons, List.length_nil] at *
  clear hc ho hres hh2 hp2 hwn hb9 v1 v2 q1 q2 q3
  go_wp2_with fail
  go_ret
  exact ⟨rfl, HB9.out⟩
end Go.Proofs.YtemcgegickpdbaaGreatDoor
namespace Go.Proofs.YtemcgegickpdbaaGreatDoor
open Go.RowKit
set_option maxRecDepth 100000

theorem wpList_op1 {w0 : World} {ops : Array Oper} {rest : List Oper} {o : Oper} {a : Act} {Q : Exit → Act → World → Prop} (hgd : o.guard = none) (s x : Operand)
    (ho : o.op = .call { callee := .builtin .append, args := #[s, x], argTypes := #[68, 68] }) (M : Nat) (v : Value) (ys : List OpC) (hs : a.eval s = v) (hown : w0.ownsRow M 95 6 v ys.length (itemsV opVals ys))
    (y : OpC) (cs : Array Value) (hcs : cs = (opVals y).toArray) (hx : a.eval x = .slice (some ⟨w0.heap.size, 0, none⟩) 1 1) (hn : ys.length ≤ 1000000) (hB : M ≤ w0.heap.size)
    (h : ∀ v' w', w'.ownsRow M 95 6 v' (ys ++ [y]).length (itemsV opVals (ys ++ [y])) → Below M w0 w' → Apart (fun k => v.ownBlock = some k) w0 w' → wpList Tryz.prog ops Q rest (a.put o.dst v') w') :
    wpList Tryz.prog ops Q (o :: rest) a (w0.alloc (.cells cs 95)) := by
  subst hcs
  refine wpList_append_s hgd s x 68 ho M 95 _ 6 64 Tryz.underlying68 infoOp16 rfl (by decide) v ys.length (itemsV opVals ys) hs (hown.alloc _) (some ⟨w0.heap.size, 0, none⟩) 1 1 (opVals y) hx rfl
    (fun _ => ⟨_, rfl, laid_at w0 _ (opVals y) w0.heap.size rfl⟩) (opVals_one _) (by unfold maxLen; omega) (by omega) (by simp; omega) ?_
  intro v' w' h1 h2 _
  refine h v' w' ?_ (((Below.refl M w0).alloc hB _).trans (h2.below (by simp; omega) (fun k e => ((hown.lt k e).1)))) (((Apart.refl _ w0).alloc _).trans h2 fun _ e => .inl e)
  rw [List.length_append, itemsV_append, itemsV_one']
  exact h1
end Go.Proofs.YtemcgegickpdbaaGreatDoor
namespace Go.Proofs.YtemcgegickpdbaaGreatDoor
open Go.RowKit
set_option maxRecDepth 100000

theorem qok_c : SndP.chk6 (cQ (wPs 64 2 0 0 0 0)) = none := by kernel_rfl
def cmdsC (l : List OpC) : List OpC := l.filter fun x => decide (7 ≤ x.kind ∧ x.kind ≤ 9)
theorem cmdsC_len (l : List OpC) : (cmdsC l).length ≤ l.length := List.length_filter_le _ _
theorem cmdsC_mem {l : List OpC} {x : OpC} (h : x ∈ cmdsC l) : x ∈ l ∧ 7 ≤ x.kind ∧ x.kind ≤ 9 := by
  obtain ⟨h1, h2⟩ := List.mem_filter.1 h
  exact ⟨h1, of_decide_eq_true h2⟩
theorem cmdsC_kind (l : List OpC) : ∀ o ∈ (cmdsC l).map OpC.plain, 7 ≤ o.kind ∧ o.kind ≤ 9 := fun o ho => by
  obtain ⟨x, hx, rfl⟩ := List.mem_map.1 ho
  exact (cmdsC_mem hx).2
theorem cmdsC_yes {l : List OpC} {k : Nat} {x : OpC} (h : l[k]? = some x) (hx : 7 ≤ x.kind ∧ x.kind ≤ 9) : cmdsC (l.take (k + 1)) = cmdsC (l.take k) ++ [x] := by
  unfold cmdsC
  rw [List.take_add_one, h, List.filter_append]
  simp [hx]
theorem cmdsC_no {l : List OpC} {k : Nat} {x : OpC} (h : l[k]? = some x) (hx : ¬ (7 ≤ x.kind ∧ x.kind ≤ 9)) : cmdsC (l.take (k + 1)) = cmdsC (l.take k) := by
  unfold cmdsC
  rw [List.take_add_one, h, List.filter_append]
  simp
  omega
/-- Ops of one's own, their bytes below. -/
theorem ops_low {W : World} {B C M : Nat} {v : Value} {l : List OpC} (h : W.ownsRow M 95 6 v l.length (itemsV opVals l)) (hok : ∀ x ∈ l, OpOk W x) (hlo : ∀ x ∈ l, Bytes W C x.D x.data) (hC : C ≤ B) : ∃ A cap, v = .slice A l.length cap ∧ OpsIn W B A l := by
  obtain ⟨A, cap, rfl, -, hit⟩ := ItemsIn.own opVals_len h
  refine ⟨A, cap, rfl, hit, hok, fun x hx hl k hk => .inl ?_, fun h0 k hk => ?_⟩
  · obtain ⟨b, o, e, hb, -⟩ := hlo x hx hl
    rw [e] at hk
    have e2 : some b = some k := hk
    obtain rfl := Option.some.inj e2
    omega
  · obtain ⟨cur, hc⟩ := (Seg.of_own h).block k (by rw [ownBlock_slice]; exact hk)
    exact ⟨_, _, hc⟩
/-- Behind the first k of the ops: those that are commands, in a row. -/
def CmR (w7 : World) (n : Nat) (l : List OpC) (vo vi : Value) (W : World) : Prop := ∃ k : Nat, k ≤ n ∧ vi = .int .i64 (k : Nat) ∧ W.ownsRow w7.heap.size 95 6 vo (cmdsC (l.take k)).length (itemsV opVals (cmdsC (l.take k))) ∧ Below w7.heap.size w7 W
/-- Behind the first k of the results: which was the first lawful one. -/
def CnR (w9 : World) (m : Nat) (lc : List OpC) (vf vi : Value) (W : World) : Prop := ∃ k : Nat, k ≤ m ∧ vi = .int .i64 (k : Nat) ∧ vf = .int .i64 (ApeP.firstI ((lc.map OpC.plain).take k)) ∧ Below w9.heap.size w9 W
end Go.Proofs.YtemcgegickpdbaaGreatDoor
namespace Go.Proofs.YtemcgegickpdbaaGreatDoor
open Go.RowKit
set_option maxRecDepth 100000

set_option maxHeartbeats 16000000 in
theorem commands_law (A : Option Addr) (n cap : Nat) (l : List OpC) (hl : l.length = n) (w : World) (hg : HasType w) (hops : OpsAt w A l) : Calls Tryz.prog 7 #[.slice A n cap] w (HTrue w) := by
  have HAw := Lib.hid (awake16_any w hg)
  have HG0 := Lib.hid hg
  by_cases h60 : 60 < n
  · have q1 : decide ((60 : Int) < (n : Int)) = true := decide_eq_true (by omega)
    have q2 : decide (60 < n) = true := decide_eq_true h60
    clear hops hl hg h60
    go_enter Tryz.func7, Tryz.ntmps7
    go_wp2_with fail
    refine HAw.out.mono ?_
    rintro e w1 ⟨rfl, hb1⟩
    have HF := Lib.hid hb1
    clear hb1
    go_wp2_with fail
    go_ret
    exact ⟨rfl, HF.out⟩
  have q1 : decide ((60 : Int) < (n : Int)) = false := decide_eq_false (by omega)
  have q2 : decide (60 < n) = false := decide_eq_false h60
  have HOps := Lib.hid hops
  have HL := Lib.hid hl
  have Hn60 : Hid (n ≤ 60) := Lib.hid (by omega)
  clear hops hl hg h60
  go_enter Tryz.func7, Tryz.ntmps7
  go_wp2_with fail
  refine HAw.out.mono ?_
  rintro e w1 ⟨rfl, hb1⟩
  have Hb1 := Lib.hid hb1
  have HG1 := Lib.hid (HG0.out.keep (hb1.block 0 HG0.out.pos))
  clear hb1 HAw
  go_wp2_with fail
  refine (wired_any w1).mono ?_
  rintro e w2 ⟨rfl, hwi, hbw⟩
  obtain ⟨N, hN⟩ : ∃ N, N = w1.heap.size + 2 := ⟨_, rfl⟩
  rw [← hN] at hwi ⊢
  simp only [wC, CfgC.value]
  have hq2 := WirQ.of hwi
  have hb3 : Below w2.heap.size w2 (w2.alloc (.cells #[.int .i64 2, .int .i64 0, .int .i64 1000, .int .i64 500, .int .i64 0, .int .i64 0, .int .i64 0, .int .i64 98, .slice (some ⟨N, 0, none⟩) 2 2, .slice (some ⟨N + 1, 0, none⟩) 4 4, .slice (some ⟨N + 2, 0, none⟩) 2 2] 26)) := (Below.refl _ _).alloc (Nat.le_refl _) _
  have hq00 : WirQ (w2.alloc (.cells #[.int .i64 2, .int .i64 0, .int .i64 1000, .int .i64 500, .int .i64 0, .int .i64 0, .int .i64 0, .int .i64 98, .slice (some ⟨N, 0, none⟩) 2 2, .slice (some ⟨N + 1, 0, none⟩) 4 4, .slice (some ⟨N + 2, 0, none⟩) 2 2] 26)) N (wPs 9 2 0 0 0 0) := hq2.below hb3
  have hbox00 : (w2.alloc (.cells #[.int .i64 2, .int .i64 0, .int .i64 1000, .int .i64 500, .int .i64 0, .int .i64 0, .int .i64 0, .int .i64 98, .slice (some ⟨N, 0, none⟩) 2 2, .slice (some ⟨N + 1, 0, none⟩) 4 4, .slice (some ⟨N + 2, 0, none⟩) 2 2] 26)).heap[w2.heap.size]? = some (.cells #[.int .i64 2, .int .i64 0, .int .i64 1000, .int .i64 500, .int .i64 0, .int .i64 0, .int .i64 0, .int .i64 98, .slice (some ⟨N, 0, none⟩) 2 2, .slice (some ⟨N + 1, 0, none⟩) 4 4, .slice (some ⟨N + 2, 0, none⟩) 2 2] 26 (0, 0)) := newAt _ _
  have hNb : N < w2.heap.size := lt_of_block hq2.parts
  have hbw0 := Hb1.out.trans (hbw.mono Hb1.out.size)
  have hbw3 : Below w.heap.size w (w2.alloc (.cells #[.int .i64 2, .int .i64 0, .int .i64 1000, .int .i64 500, .int .i64 0, .int .i64 0, .int .i64 0, .int .i64 98, .slice (some ⟨N, 0, none⟩) 2 2, .slice (some ⟨N + 1, 0, none⟩) 4 4, .slice (some ⟨N + 2, 0, none⟩) 2 2] 26)) := hbw0.trans (hb3.mono hbw0.size)
  have hN1 : w1.heap.size ≤ N := by omega
  have hg3 : HasType (w2.alloc (.cells #[.int .i64 2, .int .i64 0, .int .i64 1000, .int .i64 500, .int .i64 0, .int .i64 0, .int .i64 0, .int .i64 98, .slice (some ⟨N, 0, none⟩) 2 2, .slice (some ⟨N + 1, 0, none⟩) 4 4, .slice (some ⟨N + 2, 0, none⟩) 2 2] 26)) := HG1.out.keep ((hbw.trans (hb3.mono hbw.size)).block 0 HG1.out.pos)
  have hq2l := hb3.size
  have hbl := hbw.size
  clear hN
  go_upto_region 6 with (fail)
  generalize (w2.alloc (.cells #[.int .i64 2, .int .i64 0, .int .i64 1000, .int .i64 500, .int .i64 0, .int .i64 0, .int .i64 0, .int .i64 98, .slice (some ⟨N, 0, none⟩) 2 2, .slice (some ⟨N + 1, 0, none⟩) 4 4, .slice (some ⟨N + 2, 0, none⟩) 2 2] 26)) = w3 at *
  have hq0 := hq00
  have hbox0 := hbox00
  have hfz : ∀ j, w3.frozen? ⟨N, j, none⟩ = false := fun j => free_at hq0.parts j
  have hne : w2.heap.size ≠ N := by omega
  have kp3 : w3.cell? ⟨N, 3, none⟩ = some (.int .i64 9) := hq0.cell 3 rfl
  have kb8 : w3.cell? ⟨w2.heap.size, 8, none⟩ = some (.slice (some ⟨N, 0, none⟩) 2 2) := cell_at hbox0 8 rfl
  have hq : WirQ (w3.setCell ⟨N, 3, none⟩ (.int .i64 64)) N (wPs 64 2 0 0 0 0) := hq0.set 3 (.int .i64 64) rfl
  have hbox4 : (w3.setCell ⟨N, 3, none⟩ (.int .i64 64)).heap[w2.heap.size]? = some (.cells #[.int .i64 2, .int .i64 0, .int .i64 1000, .int .i64 500, .int .i64 0, .int .i64 0, .int .i64 0, .int .i64 98, .slice (some ⟨N, 0, none⟩) 2 2, .slice (some ⟨N + 1, 0, none⟩) 4 4, .slice (some ⟨N + 2, 0, none⟩) 2 2] 26 (0, 0)) := (Below.heap_setCell _ _ _ _ hne).trans hbox0
  have hst : Below w1.heap.size w3 (w3.setCell ⟨N, 3, none⟩ (.int .i64 64)) := by
    have hA : Apart (fun k => k = N) w3 (w3.setCell ⟨N, 3, none⟩ (.int .i64 64)) := by
      first
      | exact Apart.refl _ _
      | exact (Apart.refl (fun k => k = N) _).setCell (p := ⟨N, _, none⟩) (.inl rfl) _
      | exact ((Apart.refl (fun k => k = N) _).setCell (p := ⟨N, _, none⟩) (.inl rfl) _).setCell (p := ⟨N, _, none⟩) (.inl rfl) _
      | exact ((((Apart.refl (fun k => k = N) _).setCell (p := ⟨N, _, none⟩) (.inl rfl) _).setCell (p := ⟨N, _, none⟩) (.inl rfl) _).setCell (p := ⟨N, _, none⟩) (.inl rfl) _).setCell (p := ⟨N, _, none⟩) (.inl rfl) _
      | exact (((((Apart.refl (fun k => k = N) _).setCell (p := ⟨N, _, none⟩) (.inl rfl) _).setCell (p := ⟨N, _, none⟩) (.inl rfl) _).setCell (p := ⟨N, _, none⟩) (.inl rfl) _).setCell (p := ⟨N, _, none⟩) (.inl rfl) _).setCell (p := ⟨N, _, none⟩) (.inl rfl) _
    exact hA.below (Nat.le_trans hbl hq2l) fun k e => by omega
  have hb4 : Below w.heap.size w (w3.setCell ⟨N, 3, none⟩ (.int .i64 64)) := hbw3.trans (hst.mono Hb1.out.size)
  have hg4 : HasType (w3.setCell ⟨N, 3, none⟩ (.int .i64 64)) := hg3.keep (hst.block 0 HG1.out.pos)
  have HNb := Lib.hid hNb
  have HQ := Lib.hid hq
  have HBox := Lib.hid hbox4
  have HB4 := Lib.hid hb4
  have HG4 := Lib.hid hg4
  clear hN1 hwi hq2 hb3 hq0 hq00 hbox00 hq2l hbl hbw hbw0 hbw3 hg3 hst hb4 hg4 hq hbox4 hbox0
  go_upto_region 7 with (fail)
  clear kp3 kb8 hfz
  generalize (w3.setCell ⟨N, 3, none⟩ (.int .i64 64)) = w4 at *
  have H4z := Lib.hid HG4.out.pos
  have hbox4 := HBox.out
  have bx0 := cell_at hbox4 0 rfl
  have bx1 := cell_at hbox4 1 rfl
  have bx2 := cell_at hbox4 2 rfl
  have bx3 := cell_at hbox4 3 rfl
  have bx4 := cell_at hbox4 4 rfl
  have bx5 := cell_at hbox4 5 rfl
  have bx6 := cell_at hbox4 6 rfl
  have bx7 := cell_at hbox4 7 rfl
  have bx8 := cell_at hbox4 8 rfl
  have bx9 := cell_at hbox4 9 rfl
  have bx10 := cell_at hbox4 10 rfl
  have HHost : Hid (Calls Tryz.prog 11 #[.agg #[.int .i64 2, .int .i64 0, .int .i64 1000, .int .i64 500, .int .i64 0, .int .i64 0, .int .i64 0, .int .i64 98, .slice (some ⟨N, 0, none⟩) 2 2, .slice (some ⟨N + 1, 0, none⟩) 4 4, .slice (some ⟨N + 2, 0, none⟩) 2 2], .int .i64 0] w4 (HostP w4 (cQ (wPs 64 2 0 0 0 0)) 0)) := Lib.hid (qhost_any N (wPs 64 2 0 0 0 0) rfl qok_c w4 HQ.out)
  clear hbox4
  go_wp2_with fail
  clear bx0 bx1 bx2 bx3 bx4 bx5 bx6 bx7 bx8 bx9 bx10
  refine HHost.out.mono ?_
  rintro e w5 ⟨h, rfl, hh, hb5⟩
  have hb56 : Below w5.heap.size w5 (w5.alloc (.cells #[.pointer (some ⟨h.x.a, 0, none⟩), .pointer (some ⟨h.tb, 0, none⟩), .pointer (some ⟨h.mb, 0, none⟩), .pointer (some ⟨h.cb, 0, none⟩)] 36)) := (Below.refl _ _).alloc (Nat.le_refl _) _
  have hbx5 : (w5.alloc (.cells #[.pointer (some ⟨h.x.a, 0, none⟩), .pointer (some ⟨h.tb, 0, none⟩), .pointer (some ⟨h.mb, 0, none⟩), .pointer (some ⟨h.cb, 0, none⟩)] 36)).heap[w5.heap.size]? = some (.cells #[.pointer (some ⟨h.x.a, 0, none⟩), .pointer (some ⟨h.tb, 0, none⟩), .pointer (some ⟨h.mb, 0, none⟩), .pointer (some ⟨h.cb, 0, none⟩)] 36 (0, 0)) := newAt _ _
  have HHs := Lib.hid (hh.below hb56)
  have HHb := Lib.hid hbx5
  have hb46 := hb5.trans (hb56.mono hb5.size)
  have HB46 := Lib.hid hb46
  have HB6 := Lib.hid (HB4.out.trans (hb46.mono HB4.out.size))
  have HQ6 := Lib.hid (HQ.out.below hb46)
  have HBox6 := Lib.hid ((hb46.block _ (lt_of_block HBox.out)).trans HBox.out)
  have HG6 := Lib.hid (HG4.out.keep (hb46.block 0 HG4.out.pos))
  have H45 := Lib.hid hb5.size
  clear hh hb5 hb56 hbx5 hb46 HHost HQ HBox HG4
  simp only [hostV]
  go_upto_region 8 with (fail)
  generalize (w5.alloc (.cells #[.pointer (some ⟨h.x.a, 0, none⟩), .pointer (some ⟨h.tb, 0, none⟩), .pointer (some ⟨h.mb, 0, none⟩), .pointer (some ⟨h.cb, 0, none⟩)] 36)) = w6 at *
  have hbox4 := HBox6.out
  have bx0 := cell_at hbox4 0 rfl
  have bx1 := cell_at hbox4 1 rfl
  have bx2 := cell_at hbox4 2 rfl
  have bx3 := cell_at hbox4 3 rfl
  have bx4 := cell_at hbox4 4 rfl
  have bx5 := cell_at hbox4 5 rfl
  have bx6 := cell_at hbox4 6 rfl
  have bx7 := cell_at hbox4 7 rfl
  have bx8 := cell_at hbox4 8 rfl
  have bx9 := cell_at hbox4 9 rfl
  have bx10 := cell_at hbox4 10 rfl
  have HNew : Hid (Calls Tryz.prog 14 #[.agg #[.int .i64 2, .int .i64 0, .int .i64 1000, .int .i64 500, .int .i64 0, .int .i64 0, .int .i64 0, .int .i64 98, .slice (some ⟨N, 0, none⟩) 2 2, .slice (some ⟨N + 1, 0, none⟩) 4 4, .slice (some ⟨N + 2, 0, none⟩) 2 2], .int .i64 0] w6 (QNew w6 64 2)) := Lib.hid (qnew_any N 64 2 0 0 0 0 (by decide) w6 HQ6.out)
  clear hbox4
  go_wp2_with fail
  clear bx0 bx1 bx2 bx3 bx4 bx5 bx6 bx7 bx8 bx9 bx10
  refine HNew.out.mono ?_
  rintro e w7 ⟨pb, wv, rfl, hp, hb7⟩
  have HP7 := Lib.hid (hp.low16 HB46.out.size)
  have HH7 := Lib.hid (HHs.out.below hb7)
  have HHb7 := Lib.hid ((hb7.block _ (lt_of_block HHb.out)).trans HHb.out)
  have HB7 := Lib.hid (HB6.out.trans (hb7.mono HB6.out.size))
  have HQ7 := Lib.hid (HQ6.out.below hb7)
  have HBox7 := Lib.hid ((hb7.block _ (lt_of_block HBox6.out)).trans HBox6.out)
  have HG7 := Lib.hid (HG6.out.keep (hb7.block 0 HG6.out.pos))
  have HB47 := Lib.hid (HB46.out.trans (hb7.mono HB46.out.size))
  clear hp hb7 HNew HHs HHb HB6 HQ6 HBox6 HG6
  go_upto_region 11 with (fail)
  have HS0 : Hid (CmR w7 n l (.slice none 0 0) (.int .i64 0) w7) := Lib.hid ⟨0, Nat.zero_le _, rfl, by rw [List.take_zero]; exact World.ownsRow_nil _ _ _ _, Below.refl _ _⟩
  go_wp2_with fail
  go_loopw [8, 46] (CmR w7 n l) (fun _ i _ => (n + 1 - intOf i).toNat)
  case atStart => exact HS0.out
  case round =>
    clear HS0
    obtain ⟨k, hk, rfl, ho, hbl⟩ := hrel
    have hL := HL.out
    have h60 := Hn60.out
    by_cases hlt : k < n
    case neg =>
      have hkn : k = n := by omega
      have p1 : decide ((k : Int) < (n : Int)) = false := decide_eq_false (by omega)
      have p2 : decide (k < n) = false := decide_eq_false hlt
      have hb4r : Below w4.heap.size w4 wr := HB47.out.trans (hbl.mono HB47.out.size)
      have hbr : Below w.heap.size w wr := HB7.out.trans (hbl.mono HB7.out.size)
      rw [show l.take k = l by rw [hkn]; exact List.take_of_length_le (by omega)] at ho
      have hlc60 : (cmdsC l).length ≤ 60 := Nat.le_trans (cmdsC_len l) (by omega)
      have hlk := cmdsC_kind l
      have hlok : ∀ x ∈ cmdsC l, OpOk w x := fun x hx => HOps.out.ok x (cmdsC_mem hx).1
      have hbw4 : w.heap.size ≤ w4.heap.size := HB4.out.size
      generalize cmdsC l = lc at *
      obtain ⟨Ao, co, rfl, hops⟩ := ops_low (B := w4.heap.size) (C := w.heap.size) ho (fun x hx => (hlok x hx).below hbr) (fun x hx => (hlok x hx).bytes.below hbr (Nat.le_refl _)) hbw4
      obtain ⟨m, hm⟩ : ∃ m, lc.length = m := ⟨_, rfl⟩
      rw [hm] at ho hlc60 ⊢
      have HRun : Hid (Calls Tryz.prog 17 #[.pointer (some ⟨pb, 0, none⟩), .agg #[.pointer (some ⟨h.x.a, 0, none⟩), .pointer (some ⟨h.tb, 0, none⟩), .pointer (some ⟨h.mb, 0, none⟩), .pointer (some ⟨h.cb, 0, none⟩)], .int .u32 0, .slice Ao m co] wr (RunP wr w4.heap.size (cQ (wPs 64 2 0 0 0 0)) 0 ApeP.recZ RepP.new h pb 0 64 wv (ApeP.runG (ApeP.opP (cQ (wPs 64 2 0 0 0 0)) 0 0 RepP.new) ApeP.recZ 0 0 0 (lc.map OpC.plain) 64 (⟨List.replicate 2 0, PorP.start (cQ (wPs 64 2 0 0 0 0)), HeaP.Mon.start 2, ⟨0, 0, 0, 0⟩⟩ : ApeP.AS)))) := Lib.hid (
        run_any (s := (⟨List.replicate 2 0, PorP.start (cQ (wPs 64 2 0 0 0 0)), HeaP.Mon.start 2, ⟨0, 0, 0, 0⟩⟩ : ApeP.AS)) (HH7.out.below hbl) (HP7.out.below hbl) (SndP.works qok_c).allowed hb4r.size H4z.out (HG7.out.keep (hbl.block 0 HG7.out.pos)) new_tat (show (2 : Nat) ≤ 255 by decide) (by decide) (by decide) 0 Ao m co lc hm (by omega) hops)
      obtain ⟨r1, r2⟩ := ApeP.commands_run (cQ (wPs 64 2 0 0 0 0)) RepP.new (lc.map OpC.plain) hlk (by rw [List.length_map]; omega) (⟨List.replicate 2 0, PorP.start (cQ (wPs 64 2 0 0 0 0)), HeaP.Mon.start 2, ⟨0, 0, 0, 0⟩⟩ : ApeP.AS) (PorP.start_length _) rfl
      have hx7 := (hbl.block _ (lt_of_block HHb7.out)).trans HHb7.out
      have x0 := cell_at hx7 0 rfl
      have x1 := cell_at hx7 1 rfl
      have x2 := cell_at hx7 2 rfl
      have x3 := cell_at hx7 3 rfl
      have HX7 := Lib.hid hx7
      have HT9 : Hid (∀ h2 W, Went wr h wv h2 W → TouchA w4.heap.size wr W) := Lib.hid fun h2 W hw => hw.touch (HH7.out.below hbl) (HP7.out.below hbl)
      have HBr := Lib.hid hbr
      have HB4r := Lib.hid hb4r
      have HO := Lib.hid ho
      have HM := Lib.hid hm
      have HM60 := Lib.hid hlc60
      have HLk := Lib.hid hlk
      generalize (ApeP.runG (ApeP.opP (cQ (wPs 64 2 0 0 0 0)) 0 0 RepP.new) ApeP.recZ 0 0 0 (lc.map OpC.plain) 64 (⟨List.replicate 2 0, PorP.start (cQ (wPs 64 2 0 0 0 0)), HeaP.Mon.start 2, ⟨0, 0, 0, 0⟩⟩ : ApeP.AS)) = g at *
      have HR1 := Lib.hid r1
      have HR2 := Lib.hid r2
      clear hops ho hbl hbr hb4r hx7 r1 r2 hlc60 hlk hlok hm hkn hk
      go_wp2_with fail
      clear x0 x1 x2 x3
      refine HRun.out.mono ?_
      rintro e w9 ⟨v, ys, h2, rfl, hout, hres, hh9, -, hwn, -, -⟩
      have ht := HT9.out h2 w9 hwn
      have hx9 := ht.off HX7.out tag_host
      have ho9 := ht.own HO.out tag_op
      have hcmd := hh9.cmd
      rw [hwn.cb, HR2.out] at hcmd
      have hcodes : ys.map ResC.code = ApeP.codesT false (lc.map OpC.plain) := by
        rw [← HR1.out, ← hres, List.map_map]; rfl
      have hlen : ys.length = m := by
        have := congrArg List.length hcodes
        rw [List.length_map, ApeP.codes_len, List.length_map, HM.out] at this
        exact this
      obtain ⟨va, cv, rfl, -⟩ := own_slice hout.row
      have hb9 : Below w.heap.size w w9 := HBr.out.trans ((ht.below HB4r.out.size).mono HB4.out.size)
      obtain ⟨gb, hgb, hcells⟩ : ∃ gb, (0 < ys.length → va = some ⟨gb, 0, none⟩) ∧ ∀ i y, ys[i]? = some y → w9.cell? ⟨gb, i * 4, none⟩ = some (.int .i64 (y.code : Nat)) ∧ w9.cell? ⟨gb, i * 4 + 1, none⟩ = some (.int .i64 y.value) ∧ w9.cell? ⟨gb, i * 4 + 2, none⟩ = some (.slice y.A y.data.length y.cap) ∧ w9.cell? ⟨gb, i * 4 + 3, none⟩ = some (.bool y.fresh) := by
        rcases Nat.eq_zero_or_pos ys.length with h0 | h0
        · exact ⟨0, fun h => by omega, fun i y hy => by rw [List.eq_nil_of_length_eq_zero h0] at hy; simp at hy⟩
        · obtain ⟨g1, c, e, -, hc⟩ := hout.cells h0
          injection e with e1
          exact ⟨g1, fun _ => e1, hc⟩
      obtain ⟨go, hgo, hocl⟩ : ∃ go, (0 < m → Ao = some ⟨go, 0, none⟩) ∧ ∀ i x, lc[i]? = some x → w9.cell? ⟨go, i * 6 + 2, none⟩ = some (.int .i64 x.a) ∧ w9.cell? ⟨go, i * 6, none⟩ = some (.int .u8 (x.kind : Nat)) := by
        have hM := HM.out
        rcases Nat.eq_zero_or_pos m with h0 | h0
        · exact ⟨0, fun h => by omega, fun i y hy => by rw [List.eq_nil_of_length_eq_zero (show lc.length = 0 by omega)] at hy; simp at hy⟩
        · obtain ⟨g1, c, e, -⟩ := row_some16 ho9 h0
          injection e with e1 _ e3
          subst e1 e3
          refine ⟨g1, fun _ => rfl, fun i x hx => ?_⟩
          have hi := (List.getElem?_eq_some_iff.1 hx).1
          have hc : ∀ j u, j < 6 → (opVals x)[j]? = some u → w9.cell? ⟨g1, i * 6 + j, none⟩ = some u := fun j u hj hu => by
            rw [ho9.cellAt (i * 6 + j) (by omega), itemsV_at opVals_len lc i x hx j hj]
            exact hu
          exact ⟨hc 2 _ (by decide) rfl, hc 0 _ (by decide) rfl⟩
      have HX9 := Lib.hid hx9
      have HCmd := Lib.hid hcmd
      have HCodes := Lib.hid hcodes
      have HLen := Lib.hid hlen
      have HB9 := Lib.hid hb9
      have HGb := Lib.hid hgb
      have HCl := Lib.hid hcells
      have HGo := Lib.hid hgo
      have HOc := Lib.hid hocl
      rw [hlen]
      have HS1 : Hid (CnR w9 m lc (.int .i64 (-1)) (.int .i64 0) w9) := Lib.hid ⟨0, Nat.zero_le _, rfl, rfl, Below.refl _ _⟩
      clear hb9 ht hx9 ho9 hcmd hcodes hlen hcells hgb hgo hocl hout hres hh9 hwn HRun HT9
      go_wp2_with fail
      generalize wr = wo at *
      go_loopw [14, 73] (CnR w9 m lc) (fun _ i _ => (m + 1 - intOf i).toNat)
      case atStart => exact HS1.out
      case round =>
        clear HS1
        obtain ⟨j, hj, rfl, rfl, hbj⟩ := hrel
        have hm60 := HM60.out
        have hM := HM.out
        have hlen := HLen.out
        have hfl := ApeP.firstI_low ((lc.map OpC.plain).take j)
        have hfh := ApeP.firstI_lt ((lc.map OpC.plain).take j)
        rw [List.length_take, List.length_map, hM] at hfh
        have hb9r : Below w.heap.size w wr := HB9.out.trans (hbj.mono HB9.out.size)
        by_cases hjm : j < m
        case neg =>
          have hjn : j = m := by omega
          have p3 : decide ((j : Int) < (m : Int)) = false := decide_eq_false (by omega)
          have p4 : decide (j < m) = false := decide_eq_false hjm
          rw [show (lc.map OpC.plain).take j = lc.map OpC.plain by rw [hjn]; exact List.take_of_length_le (by rw [List.length_map]; omega)] at *
          have hx9 := (hbj.block _ (lt_of_block HX9.out)).trans HX9.out
          have hc9 := (hbj.block _ (lt_of_block HCmd.out)).trans HCmd.out
          have y3 := cell_at hx9 3 rfl
          by_cases hf : ApeP.firstI (lc.map OpC.plain) < 0
          · have hw0 := ApeP.wait_none (lc.map OpC.plain) hf
            rw [hw0] at hc9
            have d0 : wr.cell? ⟨h.cb, 0, none⟩ = some (.int .u8 0) := cell_at hc9 0 rfl
            have d1 : wr.cell? ⟨h.cb, 1, none⟩ = some (.int .u8 0) := cell_at hc9 1 rfl
            have d2 : wr.cell? ⟨h.cb, 2, none⟩ = some (.int .u16 0) := cell_at hc9 2 rfl
            have d3 : wr.cell? ⟨h.cb, 3, none⟩ = some (.int .u16 0) := cell_at hc9 3 rfl
            have p5 : decide (ApeP.firstI (lc.map OpC.plain) < 0) = true := decide_eq_true hf
            generalize ApeP.firstI (lc.map OpC.plain) = fi at *
            have HF := Lib.hid hb9r
            clear hx9 hc9 hw0 hb9r hbj
            go_wp2_with fail
            go_ret
            exact ⟨by simp, HF.out⟩
          · obtain ⟨o, o1, o2, o3, o4, o5, o6, o7⟩ := ApeP.wait_some (lc.map OpC.plain) HLk.out (by omega)
            rw [List.getElem?_map] at o1
            obtain ⟨x, hx, rfl⟩ := Option.map_eq_some_iff.1 o1
            obtain ⟨fi, hfi⟩ : ∃ fi : Nat, ApeP.firstI (lc.map OpC.plain) = (fi : Int) := ⟨(ApeP.firstI (lc.map OpC.plain)).toNat, by omega⟩
            rw [hfi] at hx hfh ⊢
            have hfm : fi < m := by omega
            have hfm' : (fi : Int) < (m : Int) := by omega
            obtain ⟨c2, c0⟩ := HOc.out fi x hx
            have c2' := (hbj.cell (World.block_lt_of_cell? w9 _ c2)).trans c2
            have c0' := (hbj.cell (World.block_lt_of_cell? w9 _ c0)).trans c0
            obtain rfl := HGo.out (by omega)
            have d0 : wr.cell? ⟨h.cb, 0, none⟩ = some (.int .u8 ((ApeP.waitT ⟨0, 0, 0, 0⟩ (lc.map OpC.plain)).kind : Nat)) := cell_at hc9 0 rfl
            have d1 : wr.cell? ⟨h.cb, 1, none⟩ = some (.int .u8 ((ApeP.waitT ⟨0, 0, 0, 0⟩ (lc.map OpC.plain)).key : Nat)) := cell_at hc9 1 rfl
            rw [o6] at d0
            rw [o7] at d1
            have p5 : decide ((fi : Int) < 0) = false := decide_eq_false (by omega)
            have p6 : decide ((fi : Int) < (m : Int)) = true := decide_eq_true hfm'
            have p7 : decide (fi < m) = true := decide_eq_true hfm
            have p8 : (0 : Int) ≤ (fi : Int) := by omega
            have a1 : x.plain.a = x.a := rfl
            have a2 : x.plain.kind = x.kind := rfl
            rw [a1] at o2 o3 d1
            rw [a2] at o4 o5 d0
            generalize x.kind = xk at *
            generalize x.a = xa at *
            obtain ⟨an, rfl⟩ := Int.eq_ofNat_of_zero_le o2
            obtain ⟨kn, rfl⟩ : ∃ kn, xk = kn + 6 := ⟨xk - 6, by omega⟩
            rw [Int.toNat_natCast] at d1
            rw [Nat.add_sub_cancel] at d0
            have e2 : IntKind.i64.wrap (((kn + 6 : Nat) : Int) - 6) = (kn : Int) := by rw [IntWalk.i64_in _ (by omega)]; omega
            have e3 : IntKind.i64.wrap ((kn : Int) + 6 - 6) = (kn : Int) := by rw [IntWalk.i64_in _ (by omega)]; omega
            have HF : Hid (∀ q, Below w.heap.size w (wr.drewN q)) := Lib.hid fun q => below_drewNc hb9r q
            clear hx9 hc9 hb9r hbj c2 c0 o6 o7 hfi hx o1 hf hfl hfh
            go_wp2_with fail
            go_quiet (fail)
            go_wp2_with fail
            go_ret
            exact ⟨by simp, HF.out _⟩
        case pos =>
          obtain ⟨x, hx⟩ : ∃ x, lc[j]? = some x := ⟨_, List.getElem?_eq_getElem (by omega)⟩
          obtain ⟨y, hy⟩ : ∃ y, ys[j]? = some y := ⟨_, List.getElem?_eq_getElem (by omega)⟩
          have hpx : (lc.map OpC.plain)[j]? = some x.plain := by rw [List.getElem?_map, hx]; rfl
          have hcd := ApeP.codes_at (lc.map OpC.plain) false j x.plain hpx
          rw [← HCodes.out, List.getElem?_map, hy, ApeP.isSome_first] at hcd
          have hcode := Option.some.inj hcd
          clear hcd
          have hbad := ApeP.firstI_bad hpx
          have hold := ApeP.firstI_old hpx
          have hnew := ApeP.firstI_new hpx
          have a1 : x.plain.a = x.a := rfl
          rw [a1] at hcode hbad hnew
          obtain ⟨c2, -⟩ := HOc.out j x hx
          obtain ⟨u0, u1, u2, u3⟩ := HCl.out j y hy
          have c2 := (hbj.cell (World.block_lt_of_cell? w9 _ c2)).trans c2
          have u0 := (hbj.cell (World.block_lt_of_cell? w9 _ u0)).trans u0
          have u1 := (hbj.cell (World.block_lt_of_cell? w9 _ u1)).trans u1
          have u2 := (hbj.cell (World.block_lt_of_cell? w9 _ u2)).trans u2
          have u3 := (hbj.cell (World.block_lt_of_cell? w9 _ u3)).trans u3
          obtain rfl := HGo.out (by omega)
          obtain rfl := HGb.out (by omega)
          have p3 : decide ((j : Int) < (m : Int)) = true := decide_eq_true (by omega)
          have p4 : decide (j < m) = true := decide_eq_true hjm
          have hjm' : (j : Int) < (m : Int) := by omega
          have e8 : IntKind.i64.wrap ((j : Int) + 1) = (j : Int) + 1 := IntWalk.i64_in _ (by omega)
          obtain ⟨yc, yv, yA, ycap, yd, yf⟩ := y
          simp only at u0 u1 u2 u3
          have HCode : Hid (yc = (if x.a < 0 ∨ 7 < x.a then 2 else if (false || decide (0 ≤ ApeP.firstI ((lc.map OpC.plain).take j))) = true then 14 else 0)) := Lib.hid hcode
          have HBad := Lib.hid hbad
          have HOld := Lib.hid hold
          have HNew := Lib.hid hnew
          clear hcode hbad hold hnew
          have hlow9 : Below w9.heap.size w9 (wr.alloc (.cells #[.int .i64 (yc : Nat), .int .i64 yv, .slice yA yd.length ycap, .bool yf] 91)) := hbj.alloc hbj.size _
          have HRel : Hid (∀ f : Int, f = ApeP.firstI ((lc.map OpC.plain).take (j + 1)) → CnR w9 m lc (.int .i64 f) (.int .i64 ((j : Int) + 1)) (wr.alloc (.cells #[.int .i64 (yc : Nat), .int .i64 yv, .slice yA yd.length ycap, .bool yf] 91))) := Lib.hid fun f hf => ⟨j + 1, hjm, by go_num, by rw [hf], hlow9⟩
          have hbq : Below wr.heap.size wr (wr.alloc (.cells #[.int .i64 (yc : Nat), .int .i64 yv, .slice yA yd.length ycap, .bool yf] 91)) := (Below.refl _ _).alloc (Nat.le_refl _) _
          have c2q := (hbq.cell (World.block_lt_of_cell? wr _ c2)).trans c2
          have hbx : (wr.alloc (.cells #[.int .i64 (yc : Nat), .int .i64 yv, .slice yA yd.length ycap, .bool yf] 91)).heap[wr.heap.size]? = some (.cells #[.int .i64 (yc : Nat), .int .i64 yv, .slice yA yd.length ycap, .bool yf] 91 (0, 0)) := newAt _ _
          generalize ApeP.firstI ((lc.map OpC.plain).take j) = fi at *
          generalize ApeP.firstI ((lc.map OpC.plain).take (j + 1)) = fi1 at *
          generalize x.a = xa at *
          clear hx hy hpx a1 hlow9 hb9r hbj hbq c2
          go_upto_region 25 with (fail)
          generalize (wr.alloc (.cells #[.int .i64 (yc : Nat), .int .i64 yv, .slice yA yd.length ycap, .bool yf] 91)) = wq at *
          have v0 := cell_at hbx 0 rfl
          have hcode := HCode.out
          have hbad := HBad.out
          have hold := HOld.out
          have hnew := HNew.out
          clear u0 u1 u2 u3 hbx HCode HBad HOld HNew
          by_cases h1 : xa < 0
          · have p5 : decide (xa < 0) = true := decide_eq_true h1
            rw [if_pos (.inl h1)] at hcode
            subst hcode
            have HR := Lib.hid (HRel.out fi (hbad (.inl h1)).symm)
            clear HRel hbad hold hnew hfl hfh
            go_wp2_with fail
            go_roundw
            case rel => exact HR.out
            case measure => simp [intOf]; omega
          have p5 : decide (xa < 0) = false := decide_eq_false h1
          by_cases h2 : 7 < xa
          · have p6 : decide (7 < xa) = true := decide_eq_true h2
            rw [if_pos (.inr h2)] at hcode
            subst hcode
            have HR := Lib.hid (HRel.out fi (hbad (.inr h2)).symm)
            clear HRel hbad hold hnew hfl hfh
            go_wp2_with fail
            go_roundw
            case rel => exact HR.out
            case measure => simp [intOf]; omega
          have p6 : decide (7 < xa) = false := decide_eq_false h2
          rw [if_neg (by omega)] at hcode
          by_cases h3 : 0 ≤ fi
          · have p7 : decide (0 ≤ fi) = true := decide_eq_true h3
            rw [if_pos (by rw [p7]; rfl)] at hcode
            subst hcode
            have HR := Lib.hid (HRel.out fi (hold h3).symm)
            clear HRel hbad hold hnew hfl hfh
            go_wp2_with fail
            go_roundw
            case rel => exact HR.out
            case measure => simp [intOf]; omega
          · have p7 : decide (0 ≤ fi) = false := decide_eq_false h3
            rw [if_neg (by rw [p7]; decide)] at hcode
            subst hcode
            have HR := Lib.hid (HRel.out (j : Nat) (hnew (by omega) (by omega)).symm)
            clear HRel hbad hold hnew hfl hfh
            go_wp2_with fail
            go_roundw
            case rel => exact HR.out
            case measure => simp [intOf]; omega
    case pos =>
      obtain ⟨x, hx⟩ : ∃ x, l[k]? = some x := ⟨_, List.getElem?_eq_getElem (by omega)⟩
      have hbr : Below w.heap.size w wr := HB7.out.trans (hbl.mono HB7.out.size)
      obtain ⟨ab, ao, rfl, habl, hit⟩ := HOps.out.items (by omega)
      have hcell : ∀ j u, (opVals x)[j]? = some u → wr.cell? ⟨ab, ao + k * 6 + j, none⟩ = some u := fun j u hu => (hbr.cell (p := ⟨ab, _, none⟩) habl).trans (hit k x hx j u hu)
      have hkind := (HOps.out.ok x (List.mem_of_getElem? hx)).kind
      have p1 : decide ((k : Int) < (n : Int)) = true := decide_eq_true (by omega)
      have p2 : decide (k < n) = true := decide_eq_true hlt
      have e8 : IntKind.i64.wrap ((k : Int) + 1) = (k : Int) + 1 := IntWalk.i64_in _ (by omega)
      have hyes := cmdsC_yes hx
      have hno := cmdsC_no hx
      have hcl60 : (cmdsC (l.take k)).length ≤ 60 := Nat.le_trans (cmdsC_len _) (by rw [List.length_take]; omega)
      obtain ⟨xk, xp, xa, xb, xc, xD, xm, xcap, xd⟩ := x
      have a0 : wr.cell? ⟨ab, ao + k * 6, none⟩ = some (.int .u8 (xk : Nat)) := hcell 0 _ rfl
      have a1 : wr.cell? ⟨ab, ao + k * 6 + 1, none⟩ = some (.int .i64 xp) := hcell 1 _ rfl
      have a2 : wr.cell? ⟨ab, ao + k * 6 + 2, none⟩ = some (.int .i64 xa) := hcell 2 _ rfl
      have a3 : wr.cell? ⟨ab, ao + k * 6 + 3, none⟩ = some (.int .i64 xb) := hcell 3 _ rfl
      have a4 : wr.cell? ⟨ab, ao + k * 6 + 4, none⟩ = some (.int .i64 xc) := hcell 4 _ rfl
      have a5 : wr.cell? ⟨ab, ao + k * 6 + 5, none⟩ = some (.slice xD xm xcap) := hcell 5 _ rfl
      have hbx : Below wr.heap.size wr (wr.alloc (.cells #[.int .u8 (xk : Nat), .int .i64 xp, .int .i64 xa, .int .i64 xb, .int .i64 xc, .slice xD xm xcap] 95)) := (Below.refl _ _).alloc (Nat.le_refl _) _
      have hnx : (wr.alloc (.cells #[.int .u8 (xk : Nat), .int .i64 xp, .int .i64 xa, .int .i64 xb, .int .i64 xc, .slice xD xm xcap] 95)).heap[wr.heap.size]? = some (.cells #[.int .u8 (xk : Nat), .int .i64 xp, .int .i64 xa, .int .i64 xb, .int .i64 xc, .slice xD xm xcap] 95 (0, 0)) := newAt _ _
      have hox := own_apart (F := fun _ => False) ho (Apart.of_below' hbx) (fun _ _ h => h)
      have hbl1 := hbl.trans (hbx.mono hbl.size)
      clear ho hbl hbr hcell hit habl hbx
      go_upto_region 15 with (fail)
      clear a0 a1 a2 a3 a4 a5
      generalize (wr.alloc (.cells #[.int .u8 (xk : Nat), .int .i64 xp, .int .i64 xa, .int .i64 xb, .int .i64 xc, .slice xD xm xcap] 95)) = wb at *
      have b0 := cell_at hnx 0 rfl
      have b1 := cell_at hnx 1 rfl
      have b2 := cell_at hnx 2 rfl
      have b3 := cell_at hnx 3 rfl
      have b4 := cell_at hnx 4 rfl
      have b5 := cell_at hnx 5 rfl
      have HBl1 := Lib.hid hbl1
      have HO := Lib.hid hox
      have hsz := hbl1.size
      simp only at hyes hno hkind
      by_cases hk1 : 7 ≤ xk
      · have p5 : decide ((7 : Int) ≤ (xk : Int)) = true := decide_eq_true (by omega)
        have p5' : decide (7 ≤ xk) = true := decide_eq_true hk1
        by_cases hk2 : xk ≤ 9
        · have p6 : decide ((xk : Int) ≤ 9) = true := decide_eq_true (by omega)
          have p6' : decide (xk ≤ 9) = true := decide_eq_true hk2
          have HNx : Hid (∀ v' w', w'.ownsRow w7.heap.size 95 6 v' (cmdsC (l.take k) ++ [(⟨xk, xp, xa, xb, xc, xD, xm, xcap, xd⟩ : OpC)]).length (itemsV opVals (cmdsC (l.take k) ++ [(⟨xk, xp, xa, xb, xc, xD, xm, xcap, xd⟩ : OpC)])) → Below w7.heap.size wb w' → CmR w7 n l v' (.int .i64 ((k : Int) + 1)) w') := Lib.hid fun v' w' g1 g2 => by
            refine ⟨k + 1, hlt, by go_num, by rw [hyes ⟨hk1, hk2⟩]; exact g1, HBl1.out.trans g2⟩
          clear hyes hno hnx hox hbl1
          go_wp2_with (first | (at_builtin; refine wpList_op1 rfl (.tmp 58) (.tmp 60) rfl w7.heap.size _ (cmdsC (l.take k)) rfl HO.out ⟨xk, xp, xa, xb, xc, xD, xm, xcap, xd⟩ _ rfl rfl (by omega) hsz ?_; intro v' w' g1 g2 g3; have HR := Lib.hid (HNx.out v' w' g1 g2); clear g1 g2 g3 b0 b1 b2 b3 b4 b5) | fail)
          go_roundw
          case rel => exact HR.out
          case measure => simp [intOf]; omega
        · have p6 : decide ((xk : Int) ≤ 9) = false := decide_eq_false (by omega)
          have p6' : decide (xk ≤ 9) = false := decide_eq_false hk2
          have HR : Hid (CmR w7 n l u8 (.int .i64 ((k : Int) + 1)) wb) := Lib.hid ⟨k + 1, hlt, by go_num, by rw [hno (by omega)]; exact hox, hbl1⟩
          clear hyes hno hnx hox hbl1
          go_wp2_with fail
          go_roundw
          case rel => exact HR.out
          case measure => simp [intOf]; omega
      · have p5 : decide ((7 : Int) ≤ (xk : Int)) = false := decide_eq_false (by omega)
        have p5' : decide (7 ≤ xk) = false := decide_eq_false hk1
        have HR : Hid (CmR w7 n l u8 (.int .i64 ((k : Int) + 1)) wb) := Lib.hid ⟨k + 1, hlt, by go_num, by rw [hno (by omega)]; exact hox, hbl1⟩
        clear hyes hno hnx hox hbl1
        go_wp2_with fail
        go_roundw
        case rel => exact HR.out
        case measure => simp [intOf]; omega
end Go.Proofs.YtemcgegickpdbaaGreatDoor
