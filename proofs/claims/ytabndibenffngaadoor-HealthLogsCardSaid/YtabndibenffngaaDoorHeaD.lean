/- A health monitor in memory (MonIn), and the contract of Report. Conditions: where it lies; at most 255 partitions; numbers of their kinds. -/
import Derived.Test.YtabndibenffngaaDoorHeaC
import Derived.Test.YtabndibenffngaaDoorErrM
import Derived.BigQuiet
namespace Go.Proofs.YtabndibenffngaaDoor
open Go.RowKit HeaP
set_option maxRecDepth 100000

def monH (b : Nat) : Value := .pointer (some ⟨b, 0, none⟩)
structure MonIn (w : World) (B b node : Nat) (rec : List (List Nat)) (m : Mon) (vp vr : Value) : Prop where
  hd : w.heap[b]? = some (.cells #[.int .u8 (node : Nat), vp, vr] 89 (0, 0))
  wat : w.ownsRow B 91 6 vp rec.length (itemsV wchVals (wchs rec m))
  recs : w.ownsRow B 69 5 vr m.out.length (recsVals m.out)
  base : B ≤ b
  v : MonV rec m
/-- The blocks that Report may write. -/
def MonF (b : Nat) (vp vr : Value) (k : Nat) : Prop := k = b ∨ vp.ownBlock = some k ∨ vr.ownBlock = some k
theorem MonIn.apart {w w' : World} {B b node : Nat} {rec : List (List Nat)} {m : Mon} {vp vr : Value} {F : Nat → Prop} (h : MonIn w B b node rec m vp vr) (ha : Apart F w w') (h1 : ∀ k, MonF b vp vr k → ¬ F k) : MonIn w' B b node rec m vp vr :=
  ⟨(ha.block b (lt_of_block h.hd) (h1 b (.inl rfl))).trans h.hd, own_apart h.wat ha fun k hk => h1 k (.inr (.inl hk)), own_apart h.recs ha fun k hk => h1 k (.inr (.inr hk)), h.base, h.v⟩
theorem MonIn.keep {w w' : World} {B b node : Nat} {rec : List (List Nat)} {m : Mon} {vp vr : Value} (h : MonIn w B b node rec m vp vr) (hb : Below w.heap.size w w') : MonIn w' B b node rec m vp vr := h.apart (F := fun _ => False) (Apart.of_below' hb) (fun _ _ h => h)
theorem MonIn.lt {w : World} {B b node : Nat} {rec : List (List Nat)} {m : Mon} {vp vr : Value} (h : MonIn w B b node rec m vp vr) {k : Nat} (hk : MonF b vp vr k) : B ≤ k ∧ k < w.heap.size := by
  rcases hk with rfl | hk | hk
  · exact ⟨h.base, lt_of_block h.hd⟩
  · exact (Seg.of_own h.wat).lt k hk
  · exact (Seg.of_own h.recs).lt k hk
theorem MonIn.np {w : World} {B b node : Nat} {rec : List (List Nat)} {m : Mon} {vp vr : Value} (h : MonIn w B b node rec m vp vr) (k : Nat) (hk : vp.ownBlock = some k) : k ≠ b := own_off h.wat h.hd (by decide) k hk
theorem MonIn.nr {w : World} {B b node : Nat} {rec : List (List Nat)} {m : Mon} {vp vr : Value} (h : MonIn w B b node rec m vp vr) (k : Nat) (hk : vr.ownBlock = some k) : k ≠ b := own_off h.recs h.hd (by decide) k hk
theorem MonIn.pr {w : World} {B b node : Nat} {rec : List (List Nat)} {m : Mon} {vp vr : Value} (h : MonIn w B b node rec m vp vr) (k : Nat) (hk : vp.ownBlock = some k) : vr.ownBlock ≠ some k := own_tag6 h.wat h.recs (by decide) k hk

/-- The error that Report tells. -/
def errH (c : Nat) : Value := errV [] (if c = 0 then none else some (c : Int))
/-- What Report leaves. -/
def RepH (w : World) (B b node : Nat) (rec : List (List Nat)) (m : Mon) (vp vr : Value) (r : Nat) (part : Int) (k : Nat) (e : Ending) (w' : World) : Prop :=
  e = .returned (.tuple #[.int .u8 ((reportT rec node m r part k).1.1 : Nat), errH (reportT rec node m r part k).1.2]) ∧
  ∃ vr', MonIn w' B b node rec (reportT rec node m r part k).2 vp vr' ∧ Apart (MonF b vp vr) w w' ∧ (vr'.ownBlock = vr.ownBlock ∨ ∃ q, vr'.ownBlock = some q ∧ w.heap.size ≤ q)

theorem hreport_bad (w : World) (B b node : Nat) (rec : List (List Nat)) (m : Mon) (vp vr : Value) (h : MonIn w B b node rec m vp vr) (r : Nat) (part : Int) (k : Nat) (hb : part < 0 ∨ (rec.length : Int) ≤ part ∨ 3 < k ∨ 1048576 ≤ r) :
    Calls Tryd.prog 24 #[monH b, .int .u32 (r : Nat), .int .i64 part, .int .u8 (k : Nat)] w (RepH w B b node rec m vp vr r part k) := by
  have hrep := report_bad (recover := rec) (node := node) (m := m) hb
  have HF : Hid (RepH w B b node rec m vp vr r part k (.returned (.tuple #[.int .u8 0, .iface 30 (.int .i64 2)])) w) := Lib.hid (by
    unfold RepH
    rw [hrep]
    exact ⟨rfl, vr, h, Apart.refl _ _, .inl rfl⟩)
  obtain ⟨A, cap, rfl, -⟩ := own_slice h.wat
  have k1 : w.cell? ⟨b, 1, none⟩ = some (.slice A rec.length cap) := cell_at h.hd 1 rfl
  have hc : part < 0 ∨ 0 ≤ part ∧ (rec.length : Int) ≤ part ∨ 0 ≤ part ∧ part < (rec.length : Int) ∧ 3 < k ∨ 0 ≤ part ∧ part < (rec.length : Int) ∧ k ≤ 3 ∧ 1048576 ≤ r := by omega
  clear h hrep hb
  generalize rec.length = n at *
  unfold monH
  rcases hc with h1 | ⟨h1, h2⟩ | ⟨h1, h2, h3⟩ | ⟨h1, h2, h3, h4⟩
  · have d1 : decide (part < 0) = true := decide_eq_true h1
    clear h1
    go_enter Tryd.func24, Tryd.ntmps24
    go_wp2_with fail
    go_ret2
    exact HF.out
  · have d1 : decide (part < 0) = false := decide_eq_false (by omega)
    have d2 : decide ((n : Int) ≤ part) = true := decide_eq_true h2
    clear h1 h2
    go_enter Tryd.func24, Tryd.ntmps24
    go_wp2_with fail
    go_ret2
    exact HF.out
  · have d1 : decide (part < 0) = false := decide_eq_false (by omega)
    have d2 : decide ((n : Int) ≤ part) = false := decide_eq_false (by omega)
    have d3 : decide ((3 : Int) < (k : Int)) = true := decide_eq_true (by omega)
    clear h1 h2 h3
    go_enter Tryd.func24, Tryd.ntmps24
    go_wp2_with fail
    go_ret2
    exact HF.out
  · have d1 : decide (part < 0) = false := decide_eq_false (by omega)
    have d2 : decide ((n : Int) ≤ part) = false := decide_eq_false (by omega)
    have d3 : decide ((3 : Int) < (k : Int)) = false := decide_eq_false (by omega)
    have d4 : decide ((1048576 : Int) ≤ (r : Int)) = true := decide_eq_true (by omega)
    clear h1 h2 h3 h4
    go_enter Tryd.func24, Tryd.ntmps24
    go_wp2_with fail
    go_ret2
    exact HF.out
theorem hreport_nil (r : Nat) (part : Int) (k : Nat) (w : World) : Calls Tryd.prog 24 #[.pointer none, .int .u32 (r : Nat), .int .i64 part, .int .u8 (k : Nat)] w (fun e w' => e = .returned (.tuple #[.int .u8 0, .iface 30 (.int .i64 1)]) ∧ w' = w) := by
  go_enter Tryd.func24, Tryd.ntmps24
  go_wp2_with fail
  go_ret2
  exact ⟨rfl, rfl⟩
theorem infoRec : (Tryd.prog.info? 69).map (fun i => (i.zero, i.size, i.bytes)) = some (some (.agg #[.int .u32 0, .int .u8 0, .int .u8 0, .int .u8 0, .int .u8 0]), 5, 8) := by kernel_rfl
theorem recVals_len (x : FrameP.Rec) : (recVals x).length = 5 := rfl
theorem recVals_oneH (y : FrameP.Rec) : ∀ u ∈ recVals y, u.oneCell' = true := by
  intro u hu
  simp only [recVals, List.mem_cons, List.not_mem_nil, or_false] at hu
  rcases hu with rfl | rfl | rfl | rfl | rfl <;> rfl

/-- Behind the store of the longer row. -/
theorem rec_stored {w w2 : World} {B b node : Nat} {rec : List (List Nat)} {m m' : Mon} {vp vr v' : Value} (h : MonIn w B b node rec m vp vr) (y : FrameP.Rec) (hm : m'.last = m.last) (hm2 : m'.row = m.row) (ho : m'.out = m.out ++ [y]) (hv : MonV rec m')
    (hown : w2.ownsRow B 69 5 v' (m.out.length + 1) (recsVals m.out ++ recVals y)) (ha : Apart (fun k => vr.ownBlock = some k) w w2) :
    MonIn (w2.setCell ⟨b, 2, none⟩ v') B b node rec m' vp v' ∧ Apart (MonF b vp vr) w (w2.setCell ⟨b, 2, none⟩ v') := by
  have hd2 : w2.heap[b]? = some (.cells #[.int .u8 (node : Nat), vp, vr] 89 (0, 0)) := (ha.block b (lt_of_block h.hd) (fun e => h.nr b e rfl)).trans h.hd
  have g1 := heap_setCell_same w2 b 2 _ _ v' hd2
  have a1 : Apart (fun k => k = b) w2 (w2.setCell ⟨b, 2, none⟩ v') := (Apart.refl (fun k => k = b) w2).setCell (p := ⟨b, 2, none⟩) (.inl rfl) _
  have hw2 := own_apart h.wat ha (fun k hk e => h.pr k hk e)
  refine ⟨⟨g1, ?_, ?_, h.base, hv⟩, (ha.mono fun _ _ e => .inr (.inr e)).trans a1 fun _ e => .inl (.inl e)⟩
  · rw [wchs_rest hm hm2]
    exact own_apart hw2 a1 (fun k hk e => own_off hw2 hd2 (by decide) k hk e)
  · have ho2 := own_apart hown a1 (fun k hk e => own_off hown hd2 (by decide) k hk e)
    rw [ho, List.length_append, List.length_singleton, recsVals_append]
    have e : recsVals [y] = recVals y := by simp [recsVals]
    rw [e]
    exact ho2

def RepS (b node : Nat) (vp vr : Value) (W : World) : Prop := W.heap[b]? = some (.cells #[.int .u8 (node : Nat), vp, vr] 89 (0, 0))

/-- The monitor behind act, its records as they were. -/
def midM (rec : List (List Nat)) (node : Nat) (m : Mon) (r p k : Nat) : Mon := ⟨(nextM rec node m r p k).last, (nextM rec node m r p k).row, m.out⟩
theorem next_out (rec : List (List Nat)) (node : Nat) (m : Mon) (r p k : Nat) : (nextM rec node m r p k).out = noteT node r p k (didT rec m r p k) m.out := by unfold nextM; split <;> rfl
theorem mid_v {rec : List (List Nat)} {m : Mon} (h : MonV rec m) (node : Nat) {r p k : Nat} (hr : r < 1048576) : MonV rec (midM rec node m r p k) :=
  ⟨⟨(h.next node hr).ok.last, (h.next node hr).ok.row, h.ok.out⟩, (h.next node hr).low, (h.next node hr).zero⟩
theorem act_mid {w w1 : World} {B b g n cap node : Nat} {rec : List (List Nat)} {m : Mon} {vr : Value} {r p k : Nat} {e : Ending} (hn : rec.length = n) (h : MonIn w B b node rec m (.slice (some ⟨g, 0, none⟩) n cap) vr) (hr : r < 1048576) (ha : ActH w B g n cap rec node m r p k e w1) :
    MonIn w1 B b node rec (midM rec node m r p k) (.slice (some ⟨g, 0, none⟩) n cap) vr ∧ Apart (MonF b (.slice (some ⟨g, 0, none⟩) n cap) vr) w w1 := by
  obtain ⟨-, h1, h2⟩ := ha
  refine ⟨⟨(h2.block b (lt_of_block h.hd) (fun x => h.np g rfl x.symm)).trans h.hd, ?_, own_apart h.recs h2 (fun k hk e => h.pr g rfl (by rw [← e]; exact hk)), h.base, mid_v h.v node hr⟩, h2.mono fun q _ e => .inr (.inl (by rw [e]; rfl))⟩
  rw [wchs_rest (m := nextM rec node m r p k) (m' := midM rec node m r p k) rfl rfl, hn]
  exact h1

set_option maxHeartbeats 4000000 in
theorem hreport_good (w : World) (B b node : Nat) (rec : List (List Nat)) (m : Mon) (vp vr : Value) (h : MonIn w B b node rec m vp vr) (r p k : Nat) (hp : p < rec.length) (hn : rec.length ≤ 255) (hk : k ≤ 3) (hr : r < 1048576) :
    Calls Tryd.prog 24 #[monH b, .int .u32 (r : Nat), .int .i64 (p : Nat), .int .u8 (k : Nat)] w (RepH w B b node rec m vp vr r (p : Int) k) := by
  have hrep := report_ok (recover := rec) (node := node) (m := m) hp hk hr
  obtain ⟨n, hnn⟩ : ∃ n, rec.length = n := ⟨_, rfl⟩
  obtain ⟨A, cap, hvp, hcap⟩ := own_slice h.wat
  rw [hnn] at hvp hcap
  obtain ⟨g, hA⟩ : ∃ g, A = some ⟨g, 0, none⟩ := by
    rcases h.wat.2 with ⟨-, h0⟩ | ⟨g, c, cur, e, -⟩
    · omega
    · rw [hvp] at e
      simp only [Value.slice.injEq] at e
      exact ⟨g, e.1⟩
  subst hA hvp
  obtain ⟨A2, cap2, hvr, hcap2⟩ := own_slice h.recs
  have hwat := h.wat
  rw [hnn] at hwat
  have HA := Lib.hid (hact_any w B g n cap rec node m h.v hnn hwat r p k (by omega) hk)
  have HM : Hid (∀ e w1, ActH w B g n cap rec node m r p k e w1 → MonIn w1 B b node rec (midM rec node m r p k) (.slice (some ⟨g, 0, none⟩) n cap) vr ∧ Apart (MonF b (.slice (some ⟨g, 0, none⟩) n cap) vr) w w1) := Lib.hid fun e w1 ha => act_mid hnn h hr ha
  have k1 : w.cell? ⟨b, 1, none⟩ = some (.slice (some ⟨g, 0, none⟩) n cap) := cell_at h.hd 1 rfl
  have d1 : decide ((p : Int) < 0) = false := decide_eq_false (by omega)
  have d2 : decide ((n : Int) ≤ (p : Int)) = false := decide_eq_false (by omega)
  have d2' : decide (n ≤ p) = false := decide_eq_false (by omega)
  have d3 : decide ((3 : Int) < (k : Int)) = false := decide_eq_false (by omega)
  have d3' : decide (3 < k) = false := decide_eq_false (by omega)
  have d4 : decide ((1048576 : Int) ≤ (r : Int)) = false := decide_eq_false (by omega)
  have d4' : decide (1048576 ≤ r) = false := decide_eq_false (by omega)
  have hlt : p < n := by omega
  have hwp : IntKind.u8.wrap (p : Int) = (p : Int) := by rw [IntKind.wrap_u8]; omega
  have hout := h.v.ok.out
  have Hnx := Lib.hid (next_out rec node m r p k)
  have HV := Lib.hid (h.v.next node (p := p) (k := k) hr)
  have HRep := Lib.hid hrep
  obtain ⟨q, hq⟩ : ∃ q, m.out.length = q := ⟨_, rfl⟩
  rw [hq] at hvr hout
  have HQ := Lib.hid hq
  have HL0 : Hid (∀ w1, Apart (MonF b (.slice (some ⟨g, 0, none⟩) n cap) vr) w w1 → w.heap.size ≤ w1.heap.size) := Lib.hid fun _ h => h.size
  clear h hwat hrep hnn hq hp hn hr hcap hcap2
  by_cases hfull : q < 4
  case neg =>
    have hfin : Hid (∀ w1, MonIn w1 B b node rec (midM rec node m r p k) (.slice (some ⟨g, 0, none⟩) n cap) vr → Apart (MonF b (.slice (some ⟨g, 0, none⟩) n cap) vr) w w1 → RepH w B b node rec m (.slice (some ⟨g, 0, none⟩) n cap) vr r (p : Int) k (.returned (.tuple #[.int .u8 (didT rec m r p k : Nat), .nilIface])) w1) := Lib.hid fun w1 h1 h2 => by
      unfold RepH
      rw [HRep.out]
      have e : nextM rec node m r p k = midM rec node m r p k := by
        have e1 : (nextM rec node m r p k).out = m.out := by rw [Hnx.out]; unfold noteT; rw [if_neg (by rw [HQ.out]; exact hfull)]
        show nextM rec node m r p k = ⟨_, _, m.out⟩
        rw [← e1]
      exact ⟨rfl, vr, by rw [e]; exact h1, h2, .inl rfl⟩
    have dq : decide ((q : Int) < 4) = false := decide_eq_false (by omega)
    have dq' : decide (q < 4) = false := decide_eq_false (by omega)
    clear HL0 HV Hnx HRep HQ hfull hout
    subst hvr
    generalize hD : didT rec m r p k = did at *
    unfold monH
    go_enter Tryd.func24, Tryd.ntmps24
    go_wp2_with fail
    refine HA.out.mono ?_
    rintro e w1 hS
    have he := hS.1
    obtain ⟨hM, hAp⟩ := HM.out _ _ hS
    rw [hD] at he
    subst he
    have k2 : w1.cell? ⟨b, 2, none⟩ = some (.slice A2 q cap2) := cell_at hM.hd 2 rfl
    have HX := Lib.hid (hfin.out w1 hM hAp)
    clear hS hM hAp hfin HM HA hD
    go_wp2_with fail
    go_ret2
    exact HX.out
  have dq : decide ((q : Int) < 4) = true := decide_eq_true (by omega)
  have dq' : decide (q < 4) = true := decide_eq_true (by omega)
  have hfin : Hid (∀ w1 w2 v', MonIn w1 B b node rec (midM rec node m r p k) (.slice (some ⟨g, 0, none⟩) n cap) vr → Apart (MonF b (.slice (some ⟨g, 0, none⟩) n cap) vr) w w1 → w2.ownsRow B 69 5 v' (q + 1) (recsVals m.out ++ recVals ⟨r, node, p, k, didT rec m r p k⟩) → Apart (fun x => vr.ownBlock = some x) w1 w2 → (v'.ownBlock = vr.ownBlock ∨ ∃ y, v'.ownBlock = some y ∧ w1.heap.size ≤ y) →
      RepH w B b node rec m (.slice (some ⟨g, 0, none⟩) n cap) vr r (p : Int) k (.returned (.tuple #[.int .u8 (didT rec m r p k : Nat), .nilIface])) (w2.setCell ⟨b, 2, none⟩ v')) := Lib.hid fun w1 w2 v' h1 h2 h3 h4 h5 => by
    unfold RepH
    rw [HRep.out]
    rw [← HQ.out] at h3
    have h6 := rec_stored (m' := nextM rec node m r p k) h1 ⟨r, node, p, k, didT rec m r p k⟩ rfl rfl (by
      rw [Hnx.out]; unfold noteT; rw [if_pos (by rw [HQ.out]; exact hfull)]; rfl) HV.out h3 h4
    refine ⟨rfl, v', h6.1, h2.trans h6.2 (fun _ e => .inl e), ?_⟩
    rcases h5 with h5 | ⟨y, h5, h7⟩
    · exact .inl h5
    · exact .inr ⟨y, h5, Nat.le_trans (HL0.out _ h2) h7⟩
  have HQ2 : Hid (∀ w1, MonIn w1 B b node rec (midM rec node m r p k) (.slice (some ⟨g, 0, none⟩) n cap) vr → w1.ownsRow B 69 5 vr q (recsVals m.out)) := Lib.hid fun w1 h => by
    have := h.recs
    change w1.ownsRow B 69 5 vr m.out.length (recsVals m.out) at this
    rw [HQ.out] at this
    exact this
  clear HL0 HV Hnx HRep hfull
  subst hvr
  generalize hD : didT rec m r p k = did at *
  unfold monH
  go_enter Tryd.func24, Tryd.ntmps24
  go_wp2_with fail
  refine HA.out.mono ?_
  rintro e w1 hS
  have he := hS.1
  obtain ⟨hM, hAp⟩ := HM.out _ _ hS
  rw [hD] at he
  subst he
  have k2 : w1.cell? ⟨b, 2, none⟩ = some (.slice A2 q cap2) := cell_at hM.hd 2 rfl
  have HX := Lib.hid (hfin.out w1)
  have HMI := Lib.hid hM
  have HAP := Lib.hid hAp
  have hdr : RepS b node (.slice (some ⟨g, 0, none⟩) n cap) (.slice A2 q cap2) w1.drew := hM.hd
  have c0 : ∀ W, RepS b node (.slice (some ⟨g, 0, none⟩) n cap) (.slice A2 q cap2) W → W.cell? ⟨b, 0, none⟩ = some (.int .u8 (node : Nat)) := fun W hW => cell_at hW 0 rfl
  have c2 : ∀ W, RepS b node (.slice (some ⟨g, 0, none⟩) n cap) (.slice A2 q cap2) W → W.cell? ⟨b, 2, none⟩ = some (.slice A2 q cap2) := fun W hW => cell_at hW 2 rfl
  clear hS hM hAp hfin HM HA hD
  go_wp2_with fail
  clear k2 k1
  refine wp_region_L_drew (st := 19) (S := fun W => RepS b node (.slice (some ⟨g, 0, none⟩) n cap) (.slice A2 q cap2) W) (by kernel_rfl) hdr (fun _ => ?_)
  refine tkL 0 (by simp only [tkA]; rfl) (by kernel_rfl) (by exact fun _ _ _ h => h) (by rfl) (by intro W hW; go_simp <;> with_reducible rfl) hdr ?_
  try simp only [Act.put, tkT, tk0, tkS]
  refine tkL 1 (by simp only [tkA, tkG]; rfl) (by kernel_rfl) (by exact fun _ _ _ h => h) (by rfl) (by intro W hW; go_simp <;> with_reducible rfl) hdr ?_
  try simp only [Act.put, tkT, tk0, tkS]
  refine tkL 2 (by simp only [tkA, tkG]; rfl) (by kernel_rfl) (by exact fun _ _ _ h => h) (by rfl) (by intro W hW; go_simp <;> with_reducible rfl) hdr ?_
  try simp only [Act.put, tkT, tk0, tkS]
  refine tkL 3 (by simp only [tkA, tkG]; rfl) (by kernel_rfl) (by exact fun _ _ _ h => h) (by rfl) (by intro W hW; go_simp <;> with_reducible rfl) hdr ?_
  try simp only [Act.put, tkT, tk0, tkS]
  refine tkL 4 (by simp only [tkA, tkG]; rfl) (by kernel_rfl) (by exact fun _ _ _ h => h) (by rfl) (by intro W hW; go_simp <;> with_reducible rfl) hdr ?_
  try simp only [Act.put, tkT, tk0, tkS]
  refine tkL 5 (by simp only [tkA, tkG]; rfl) (by kernel_rfl) (by exact fun _ _ _ h => h) (by rfl) (by intro W hW; go_simp <;> with_reducible rfl) hdr ?_
  try simp only [Act.put, tkT, tk0, tkS]
  refine tkL 6 (by simp only [tkA, tkG]; rfl) (by kernel_rfl) (by exact fun _ _ _ h => h) (by rfl) (by intro W hW; go_simp <;> with_reducible rfl) hdr ?_
  try simp only [Act.put, tkT, tk0, tkS]
  refine tkL 7 (by simp only [tkA, tkG]; rfl) (by kernel_rfl) (by exact fun _ _ _ h => h) (by rfl) (by intro W hW; go_simp <;> with_reducible rfl) hdr ?_
  try simp only [Act.put, tkT, tk0, tkS]
  refine tkL 8 (by simp only [tkA, tkG]; rfl) (by kernel_rfl) (by exact fun _ _ _ h => h) (by rfl) (by intro W hW; go_simp <;> with_reducible rfl) hdr ?_
  try simp only [Act.put, tkT, tk0, tkS]
  refine tkL 9 (by simp only [tkA, tkG]; rfl) (by kernel_rfl) (by exact fun _ _ _ h => h) (by rfl) (by intro W hW; go_simp <;> with_reducible rfl) hdr ?_
  try simp only [Act.put, tkT, tk0, tkS]
  refine tkL 10 (by simp only [tkA, tkG]; rfl) (by kernel_rfl) (by exact fun _ _ _ h => h) (by rfl) (by intro W hW; go_simp <;> with_reducible rfl) hdr ?_
  try simp only [Act.put, tkT, tk0, tkS]
  refine tkL 11 (by simp only [tkA, tkG]; rfl) (by kernel_rfl) (by exact fun _ _ _ h => h) (by rfl) (by intro W hW; go_simp <;> with_reducible rfl) hdr ?_
  try simp only [Act.put, tkT, tk0, tkS]
  refine tkL 12 (by simp only [tkA, tkG]; rfl) (by kernel_rfl) (by exact fun _ _ _ h => h) (by rfl) (by intro W hW; go_simp <;> with_reducible rfl) hdr ?_
  try simp only [Act.put, tkT, tk0, tkS]
  refine tkL 13 (by simp only [tkA, tkG]; rfl) (by kernel_rfl) (by exact fun _ _ _ h => h) (by rfl) (by intro W hW; go_simp <;> with_reducible rfl) hdr ?_
  try simp only [Act.put, tkT, tk0, tkS]
  refine tkL 14 (by simp only [tkA, tkG]; rfl) (by kernel_rfl) (by exact fun _ _ _ h => h) (by rfl) (by intro W hW; go_simp <;> with_reducible rfl) hdr ?_
  try simp only [Act.put, tkT, tk0, tkS]
  clear c0 c2
  have Hsz := Lib.hid (lt_of_block hdr)
  have hda : RepS b node (.slice (some ⟨g, 0, none⟩) n cap) (.slice A2 q cap2) (w1.drew.alloc (.cells (recVals ⟨r, node, p, k, did⟩).toArray 69)) := (Below.heap_alloc _ _ _ Hsz.out).trans hdr
  have Hd := Lib.hid hdr
  clear hdr
  refine wpAnyL_one (k := 15) (by kernel_rfl) (by simp only [tkA, tkG]; rfl) (fun K hK => ?_)
  go_simp
  go_wp2_with fail
  refine hK.out _ _ (fun _ => hda) ?_
  clear hK K
  refine wpAnyL_one (k := 16) (by kernel_rfl) (by simp only [tkA, tkG]; rfl) (fun K hK => ?_)
  refine step_append_m rfl (.tmp 53) (.tmp 64) _ rfl B 69 _ 5 8 Tryd.underlying59 infoRec rfl (by omega) _ q (recsVals m.out) rfl ((HQ2.out _ HMI.out).drew.alloc _) (some ⟨w1.drew.heap.size, 0, none⟩) 1 1 (recVals ⟨r, node, p, k, did⟩) rfl rfl (fun _ => ⟨_, rfl, laid_at w1.drew _ (recVals ⟨r, node, p, k, did⟩) w1.drew.heap.size rfl⟩) (recVals_oneH _) (by unfold maxLen; omega) (by omega) (by have := HMI.out.base; have := lt_of_block HMI.out.hd; simp; omega) ?_
  intro v8 w8 ho8 ha8 hb8
  have ha80 : Apart (fun x => (Value.slice A2 q cap2).ownBlock = some x) w1 w8 := ((Apart.refl _ w1).drew.alloc _).trans ha8 (fun _ e => .inl e)
  have hd8 : RepS b node (.slice (some ⟨g, 0, none⟩) n cap) (.slice A2 q cap2) w8 := (ha80.block b Hsz.out (fun e => HMI.out.nr b e rfl)).trans HMI.out.hd
  obtain ⟨g8, c8, rfl, -, -⟩ := ho8.form (by omega)
  have HF8 := Lib.hid (HX.out w8 _ HMI.out HAP.out ho8 ha80 (by
    rcases hb8 with e | e
    · exact .inl e
    · simp only [Value.ownBlock, Option.some.injEq] at e
      exact .inr ⟨g8, rfl, by rw [e]; simp⟩))
  have kb8 : w8.cell? ⟨b, 2, none⟩ = some (.slice A2 q cap2) := cell_at hd8 2 rfl
  have fb8 := free_at hd8 2
  clear ho8 ha8 hb8 ha80 HX
  go_wp2_with fail
  refine hK.out _ _ (fun _ => hd8) ?_
  clear hK K
  refine tkL 17 (by simp only [tkA, tkG]; rfl) (by kernel_rfl) (by exact fun _ _ _ h => h) (by rfl) (by intro W hW; go_simp <;> with_reducible rfl) hd8 ?_
  try simp only [Act.put, tkT, tk0, tkS]
  refine tkL 18 (by simp only [tkA, tkG]; rfl) (by kernel_rfl) (by exact fun _ _ _ h => h) (by rfl) (by intro W hW; go_simp <;> with_reducible rfl) hd8 ?_
  try simp only [Act.put, tkT, tk0, tkS]
  refine wpAnyL_last (k := 19) (by kernel_rfl) (by simp only [tkA, tkG]; rfl) (fun K hK => ?_)
  go_simp
  go_wp2_with fail
  refine hK.out _ _ ?_
  clear hK K
  refine wpAnyL_done (by kernel_rfl) ?_ _
  clear hd8 hda
  go_wp2_with fail
  go_ret2
  exact HF8.out

theorem hreport_any (w : World) (B b node : Nat) (rec : List (List Nat)) (m : Mon) (vp vr : Value) (h : MonIn w B b node rec m vp vr) (r : Nat) (part : Int) (k : Nat) (hn : rec.length ≤ 255) :
    Calls Tryd.prog 24 #[monH b, .int .u32 (r : Nat), .int .i64 part, .int .u8 (k : Nat)] w (RepH w B b node rec m vp vr r part k) := by
  by_cases hb : part < 0 ∨ (rec.length : Int) ≤ part ∨ 3 < k ∨ 1048576 ≤ r
  · exact hreport_bad w B b node rec m vp vr h r part k hb
  · obtain ⟨p, rfl⟩ := Int.eq_ofNat_of_zero_le (show 0 ≤ part by omega)
    exact hreport_good w B b node rec m vp vr h r p k (by omega) hn (by omega) (by omega)
end Go.Proofs.YtabndibenffngaaDoor
