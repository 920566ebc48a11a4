/- Contracts of apex's Clear and New. Conditions: where things lie. · What ApexMemory keeps in its loops: a host, a partition, the words that are wanted. No conditions beyond those that each states. -/
import Derived.Deep.OwnRows
import Derived.Test.YtemcgegickpdbaaGreatDoorSl24
import Derived.Test.YtemcgegickpdbaaGreatDoorSl23
import Derived.Test.YtemcgegickpdbaaGreatDoorSm04
import Derived.Test.YtemcgegickpdbaaGreatDoorSl07
import Derived.Test.YtemcgegickpdbaaGreatDoorSm01
namespace Go.Proofs.YtemcgegickpdbaaGreatDoor
open Go.RowKit
set_option maxRecDepth 100000

set_option maxHeartbeats 1000000 in
theorem clear_any {W : World} {B pb part n : Nat} {budget : Int} {wv : Value} {mem : List Nat} (h : PartIn W B pb part budget wv mem) (hn : mem.length = n) : Calls Tryz.prog 16 #[.pointer (some ⟨pb, 0, none⟩)] W (ClrP W B pb part budget wv n) := by
  have hd := h.hd
  have hrow := h.row
  by_cases h0 : n = 0
  · subst h0
    obtain rfl := List.eq_nil_of_length_eq_zero hn
    obtain ⟨A, cap, rfl, -⟩ := own_slice hrow
    have k2 : W.cell? ⟨pb, 2, none⟩ = some (.slice A 0 cap) := cell_at hd 2 rfl
    have hcl : ∀ ty, (Builtin.clear_ #[62] ty #[.slice A 0 cap]).run Tryz.prog W = .ok (.tuple #[]) W := fun ty => by
      cases A <;> simp [Builtin.clear_, run_underlying Tryz.underlying62, Result.andThen] <;> rfl
    have HF : Hid (ClrP W B pb part budget (.slice A 0 cap) 0 (.returned (.tuple #[])) W) := Lib.hid ⟨rfl, h, Apart.refl _ _⟩
    clear h hd hrow hn
    go_enter Tryz.func16, Tryz.ntmps16
    go_wp2_with fail
    refine bodyPost_ret (v := .tuple #[]) (results_none rfl _ _ _) rfl ?_
    exact HF.out
  · rcases hrow.2 with ⟨-, h1⟩ | ⟨g, cap, cur, rfl, hB, hg, hnc, hmax, hcap, htk⟩
    · omega
    rw [hn] at hnc htk
    have hsz : n ≤ cur.size := by rw [hcap]; omega
    obtain ⟨cur', e1, e2, e3, e4⟩ := setCells_row (List.replicate n (.int .u16 0)) 0 W cur hg (by rw [List.length_replicate]; omega)
    have hcl : ∀ ty, (Builtin.clear_ #[62] ty #[.slice (some ⟨g, 0, none⟩) n cap]).run Tryz.prog W = .ok (.tuple #[]) (W.setCells g 0 (List.replicate n (.int .u16 0))) := fun ty =>
      Lib.run_clear_slice W 62 42 ty (.int .u16 0) Tryz.underlying62 (fun w => by kernel_rfl) rfl rfl g 0 n cap (by omega)
        (fun j hj => by rw [cell_of_row W g _ cur _ (0, 0) hg, Array.getElem?_eq_getElem (by omega)]; rfl) (fun j hj => frozen_of_row W g _ cur _ hg)
    have ha := setCells_apart g (List.replicate n (.int .u16 0)) 0 W
    have hpg : pb ≠ g := fun e => by
      subst e
      rw [hd] at hg
      simp only [Option.some.injEq, Obj.cells.injEq] at hg
      exact absurd hg.2.1 (by decide)
    have k2 : W.cell? ⟨pb, 2, none⟩ = some (.slice (some ⟨g, 0, none⟩) n cap) := by rw [← hn]; exact cell_at hd 2 rfl
    have HF : Hid (ClrP W B pb part budget (.slice (some ⟨g, 0, none⟩) mem.length cap) n (.returned (.tuple #[])) (W.setCells g 0 (List.replicate n (.int .u16 0)))) := Lib.hid (by
      refine ⟨rfl, ⟨(ha.block pb (lt_of_block hd) hpg).trans hd, ?_, fun v hv => ?_, by rw [List.length_replicate, ← hn]; exact h.most, h.base⟩, ha.mono fun k _ e => by rw [e]; rfl⟩
      · rw [List.length_replicate, hn]
        refine ⟨by simp [wordV_len], .inr ⟨g, cap, cur', rfl, hB, e1, hnc, hmax, by omega, ?_⟩⟩
        apply List.ext_getElem?
        intro j
        rw [Nat.mul_one, List.getElem?_take]
        by_cases hj : j < n
        · rw [if_pos hj]
          have q := e3 j (.int .u16 0) (by rw [List.getElem?_replicate, if_pos hj])
          rw [Nat.zero_add] at q
          rw [wordV_get (by rw [List.length_replicate]; exact hj), List.getElem?_replicate, if_pos hj]
          simpa using q
        · rw [if_neg hj, List.getElem?_eq_none (by rw [wordV_len, List.length_replicate]; omega)]
      · rw [List.eq_of_mem_replicate hv]; decide)
    rw [hn] at HF ⊢
    clear h hd hrow hg hnc hcap htk hsz e1 e2 e3 e4 ha hpg hmax hB hn
    go_enter Tryz.func16, Tryz.ntmps16
    go_wp2_with fail
    refine bodyPost_ret (v := .tuple #[]) (results_none rfl _ _ _) rfl ?_
    exact HF.out

end Go.Proofs.YtemcgegickpdbaaGreatDoor
namespace Go.Proofs.YtemcgegickpdbaaGreatDoor
open Go.RowKit
set_option maxRecDepth 100000

structure MemI (w W : World) (B : Nat) (c : TableP.Cfg) (h0 h : HostC) (st : ApeP.AS) (pb : Nat) (wv : Value) (hb gw : Nat) (want : List Nat) : Prop where
  host : HostIn W B c 0 ApeP.rec0 RepP.new h st.ports st.mon st.cmd
  part : PartIn W B pb 0 64 wv st.mem
  val : hostV h = hostV h0
  len : st.mem.length = 5
  wlen : want.length = 5
  want : W.ownsRow B 42 1 (.slice (some ⟨gw, 0, none⟩) 5 5) 5 (wordV want)
  off : wv.ownBlock ≠ some gw
  box : W.heap[hb]? = some (.cells (hostCells h0) 36 (0, 0))
  below : Below w.heap.size w W
  type : HasType W
section
variable {w W W' : World} {B : Nat} {c : TableP.Cfg} {h0 h h' : HostC} {st st' : ApeP.AS} {pb : Nat} {wv : Value} {hb gw : Nat} {want : List Nat}
theorem MemI.below' (m : MemI w W B c h0 h st pb wv hb gw want) (hbl : Below W.heap.size W W') : MemI w W' B c h0 h st pb wv hb gw want :=
  ⟨m.host.below hbl, m.part.below hbl, m.val, m.len, m.wlen, own_below m.want hbl, m.off, (hbl.block _ (lt_of_block m.box)).trans m.box, m.below.trans (hbl.mono m.below.size), m.type.keep (hbl.block 0 m.type.pos)⟩
theorem MemI.gwAt (m : MemI w W B c h0 h st pb wv hb gw want) : B ≤ gw ∧ gw < W.heap.size ∧ ∃ cs, W.heap[gw]? = some (.cells cs 42 (0, 0)) := ⟨((Seg.of_own m.want).lt gw rfl).1, ((Seg.of_own m.want).lt gw rfl).2, (Seg.of_own m.want).block gw rfl⟩
theorem MemI.hostOff (m : MemI w W B c h0 h st pb wv hb gw want) : ∀ k, HF h k → k ≠ gw := fun k hk e => by
  obtain ⟨-, cs, t, e1, -, e2⟩ := m.host.fTag hk
  obtain ⟨-, -, cs', e3⟩ := m.gwAt
  rw [e, e3] at e1
  simp only [Option.some.injEq, Obj.cells.injEq] at e1
  exact e2 e1.2.1.symm
/-- A word that is wanted is written. -/
theorem MemI.put (m : MemI w W B c h0 h st pb wv hb gw want) (hB : w.heap.size ≤ B) (hB0 : 0 < B) (i v : Nat) : MemI w (W.setCell ⟨gw, i, none⟩ (.int .u16 (v : Nat))) B c h0 h st pb wv hb gw (want.set i v) := by
  have ha : Apart (fun k => k = gw) W (W.setCell ⟨gw, i, none⟩ (.int .u16 (v : Nat))) := (Apart.refl (fun k => k = gw) W).setCell (p := ⟨gw, i, none⟩) (.inl rfl) _
  obtain ⟨g1, g2, cs, g3⟩ := m.gwAt
  have hbl : Below B W (W.setCell ⟨gw, i, none⟩ (.int .u16 (v : Nat))) := ha.below (Nat.le_trans g1 (Nat.le_of_lt g2)) fun k e => by rw [e]; exact g1
  refine ⟨m.host.away ha m.hostOff fun k e => ?_, m.part.apart ha (fun e => ?_) (fun k hk e => m.off (by rw [hk, e])), m.val, m.len, by rw [List.length_set]; exact m.wlen, ?_, m.off, (ha.block _ (lt_of_block m.box) fun e => ?_).trans m.box, m.below.trans (hbl.mono hB), m.type.kept hB0 hbl⟩
  · subst e; exact ⟨cs, _, g3, by decide, by decide, by decide, by decide⟩
  · have := m.part.hd
    rw [e, g3] at this
    simp only [Option.some.injEq, Obj.cells.injEq] at this
    exact absurd this.2.1 (by decide)
  · rw [wordV_set]
    exact (m.want.stored i (.int .u16 (v : Nat))).1
  · have := m.box
    rw [e, g3] at this
    simp only [Option.some.injEq, Obj.cells.injEq] at this
    exact absurd this.2.1 (by decide)
/-- Behind a run. -/
theorem MemI.ran (m : MemI w W B c h0 h st pb wv hb gw want) (hB : w.heap.size ≤ B) (hB0 : 0 < B) (hBW : B ≤ W.heap.size) (hh : HostIn W' B c 0 ApeP.rec0 RepP.new h' st'.ports st'.mon st'.cmd) (hp : PartIn W' B pb 0 64 wv st'.mem) (hl : st'.mem.length = 5) (hw : Went W h wv h' W') : MemI w W' B c h0 h' st' pb wv hb gw want := by
  have ht := hw.touch m.host m.part
  have hbl := ht.below hBW
  refine ⟨hh, hp, hw.value.trans m.val, hl, m.wlen, own_apart m.want hw.apart fun k hk hf => ?_, m.off, ht.off m.box tag_host, m.below.trans (hbl.mono hB), m.type.kept hB0 hbl⟩
  have e : gw = k := by simpa [Value.ownBlock] using hk
  subst e
  rcases hf with hf | hf
  · exact m.hostOff _ hf rfl
  · exact m.off hf
end
theorem cut16_of (b : Int) : IntKind.u16.wrap b = ((ApeP.cut16 b : Nat) : Int) := by
  unfold ApeP.cut16
  rw [show IntKind.u16.wrap b = b % 65536 from rfl]
  omega

/-- The two ops of an act. -/
def actC (a b : Int) : List OpC := [⟨3, 0, a, b, 0, none, 0, 0, []⟩, ⟨4, 0, a, 0, 0, none, 0, 0, []⟩]
theorem opC_ok (W : World) (k : Nat) {a b : Int} (hk : k ≤ 255) (ha : -9223372036854775808 ≤ a ∧ a ≤ 9223372036854775807) (hb : -9223372036854775808 ≤ b ∧ b ≤ 9223372036854775807) : OpOk W ⟨k, 0, a, b, 0, none, 0, 0, []⟩ :=
  ⟨hk, ⟨by show (-9223372036854775808 : Int) ≤ 0; decide, by show (0 : Int) ≤ 9223372036854775807; decide⟩, ha, hb, ⟨by show (-9223372036854775808 : Int) ≤ 0; decide, by show (0 : Int) ≤ 9223372036854775807; decide⟩, rfl, Nat.le_refl _, Nat.zero_le _, Bytes.none_⟩
theorem actC_ok (W : World) {a b : Int} (ha : -9223372036854775808 ≤ a ∧ a ≤ 9223372036854775807) (hb : -9223372036854775808 ≤ b ∧ b ≤ 9223372036854775807) : ∀ x ∈ actC a b, OpOk W x ∧ x.data = [] := fun x hx => by
  unfold actC at hx
  simp only [List.mem_cons, List.not_mem_nil, or_false] at hx
  rcases hx with rfl | rfl
  · exact ⟨opC_ok W 3 (by decide) ha hb, rfl⟩
  · exact ⟨opC_ok W 4 (by decide) ha (by decide), rfl⟩
theorem qok_m : SndP.chk6 (cQ (wPs 64 5 0 0 0 0)) = none := by decide +kernel
end Go.Proofs.YtemcgegickpdbaaGreatDoor
