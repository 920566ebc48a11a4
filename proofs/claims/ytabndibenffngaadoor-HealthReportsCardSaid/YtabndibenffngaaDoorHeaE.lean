/- Contracts of health's New and of a monitor's Seal. Conditions: where the partitions lie; at most 255 of them; a node's number of at most 255. -/
import Derived.Test.YtabndibenffngaaDoorHeaD
import Derived.Test.YtabndibenffngaaDoorTbM
namespace Go.Proofs.YtabndibenffngaaDoor
open Go.RowKit HeaP
set_option maxRecDepth 100000

/-- What partitions' tables say of errors. -/
def sayOf (p : TableP.Part) : List Nat := [p.r0, p.r1, p.r2, p.r3]
def wchP (p : TableP.Part) : Wch := ⟨fun k => ((sayOf p)[k]?).getD 0, 0, 0⟩
theorem wchs_start (l : List TableP.Part) : wchs (l.map sayOf) (Mon.start (l.map sayOf).length) = l.map wchP := by
  apply List.ext_getElem?
  intro q
  rw [wchs_get, List.getElem?_map, List.length_map]
  by_cases hq : q < l.length
  · rw [if_pos hq, List.getElem?_eq_getElem hq]
    unfold wchOf
    rw [start_last, start_row]
    have e : recOf (l.map sayOf) q = fun k => ((sayOf l[q])[k]?).getD 0 := by
      funext k
      unfold recOf
      rw [List.getElem?_map, List.getElem?_eq_getElem hq]
      rfl
    rw [e]
    rfl
  · rw [if_neg hq, List.getElem?_eq_none (by omega)]
    rfl
theorem infoWch : (Tryd.prog.info? 91).map (fun i => (i.zero, i.size, i.bytes)) = some (some (.agg #[.int .u8 0, .int .u8 0, .int .u8 0, .int .u8 0, .int .i64 0, .int .u32 0]), 6, 24) := by kernel_rfl

def NewH (w : World) (node : Nat) (l : List TableP.Part) (e : Ending) (w' : World) : Prop :=
  e = .returned (monH w.heap.size) ∧ ∃ vp, MonIn w' w.heap.size w.heap.size node (l.map sayOf) (Mon.start (l.map sayOf).length) vp (.slice none 0 0) ∧ Below w.heap.size w w'
def NewI (w : World) (node : Nat) (l : List TableP.Part) (k : Nat) (vp : Value) (W : World) : Prop :=
  W.heap[w.heap.size]? = some (.cells #[.int .u8 (node : Nat), vp, .slice none 0 0] 89 (0, 0)) ∧ W.ownsRow w.heap.size 91 6 vp k (itemsV wchVals ((l.take k).map wchP)) ∧ Below w.heap.size w W
def NewR (w : World) (node n : Nat) (l : List TableP.Part) (i : Value) (W : World) : Prop := ∃ k vp, k ≤ n ∧ i = .int .i64 (k : Nat) ∧ NewI w node l k vp W
theorem NewI.fin {w W : World} {node : Nat} {l : List TableP.Part} {vp : Value} (h : NewI w node l l.length vp W) : NewH w node l (.returned (monH w.heap.size)) W := by
  obtain ⟨h1, h2, h3⟩ := h
  refine ⟨rfl, vp, ⟨h1, ?_, ?_, Nat.le_refl _, MonV.start _⟩, h3⟩
  · rw [wchs_start, List.length_map]
    rw [List.take_length] at h2
    exact h2
  · exact World.ownsRow_nil _ _ _ _
def NewS (N M node : Nat) (vp : Value) (p : TableP.Part) (W : World) : Prop := W.heap[N]? = some (.cells #[.int .u8 (node : Nat), vp, .slice none 0 0] 89 (0, 0)) ∧ W.heap[M]? = some (.cells (partVals p).toArray 50 (0, 0))

set_option maxHeartbeats 4000000 in
theorem hnew_any (w : World) (A : Option Addr) (n cap : Nat) (l : List TableP.Part) (hl : l.length = n) (hn : n ≤ 255) (node : Nat) (hnode : node ≤ 255) (h : ItemsIn partVals 9 w A l) :
    Calls Tryd.prog 19 #[.int .i64 (node : Nat), .slice A n cap] w (NewH w node l) := by
  have HI := Lib.hid h
  have Hl := Lib.hid hl
  have hwn : IntKind.u8.wrap (node : Int) = (node : Int) := by rw [IntKind.wrap_u8]; omega
  have HS0 : Hid (NewR w node n l (.int .i64 0) (w.alloc (.cells #[.int .u8 (node : Nat), .slice none 0 0, .slice none 0 0] 89))) := Lib.hid ⟨0, _, Nat.zero_le _, rfl, heap_alloc_new w _, World.ownsRow_nil _ _ _ _, (Below.refl _ _).alloc (Nat.le_refl _) _⟩
  clear h hl
  go_enter Tryd.func19, Tryd.ntmps19
  go_wp2_with fail
  go_loopw [14] (NewR w node n l) (fun i _ => (n + 1 - intOf i).toNat)
  case atStart => exact HS0.out
  case round =>
    clear HS0
    obtain ⟨k, vp, hk, rfl, hI⟩ := hrel
    have HN := Lib.hid hI
    by_cases hlt : k < n
    case neg =>
      have hkn : n = k := by omega
      have HF : Hid (NewH w node l (.returned (monH w.heap.size)) wr) := Lib.hid (NewI.fin (vp := vp) (by rw [Hl.out, hkn]; exact hI))
      subst hkn
      unfold monH at HF
      clear hI
      go_wp2_with fail
      go_ret
      exact HF.out
    obtain ⟨p, hp⟩ : ∃ p, l[k]? = some p := ⟨_, List.getElem?_eq_getElem (by rw [Hl.out]; exact hlt)⟩
    obtain ⟨b, off, rfl, hb, ⟨c0, c1, c2, c3, c4, c5, c6, c7, c8⟩⟩ := parts_at (HI.out.below hI.2.2) hp
    obtain ⟨A2, cap2, hvp, -⟩ := own_slice hI.2.1
    have HR : Hid (∀ v8 w8, w8.ownsRow w.heap.size 91 6 v8 (k + 1) (itemsV wchVals ((l.take k).map wchP) ++ wchVals (wchP p)) → w8.heap[w.heap.size]? = some (.cells #[.int .u8 (node : Nat), vp, .slice none 0 0] 89 (0, 0)) → Below w.heap.size w w8 → NewR w node n l (.int .i64 ((k : Int) + 1)) (w8.setCell ⟨w.heap.size, 1, none⟩ v8)) := Lib.hid fun v8 w8 h1 h2 h3 => by
      refine ⟨k + 1, v8, by omega, by go_num, heap_setCell_same w8 w.heap.size 1 _ _ v8 h2, ?_, h3.setCell (p := ⟨w.heap.size, 1, none⟩) (Nat.le_refl _) v8⟩
      · have a1 : Apart (fun q => q = w.heap.size) w8 (w8.setCell ⟨w.heap.size, 1, none⟩ v8) := (Apart.refl (fun q => q = w.heap.size) w8).setCell (p := ⟨w.heap.size, 1, none⟩) (.inl rfl) _
        have := own_apart h1 a1 (fun q hq e => own_off h1 h2 (by decide) q hq e)
        rw [List.take_add_one, hp]
        simp only [Option.toList_some, List.map_append, List.map_cons, List.map_nil, itemsV_append, itemsV_one']
        exact this
    have hall : Apart (fun _ => False) wr (wr.alloc (.cells (partVals p).toArray 50)) := (Apart.refl _ wr).alloc _
    have hzN : w.heap.size < wr.heap.size := lt_of_block hI.1
    have hdr : NewS w.heap.size wr.heap.size node vp p (wr.alloc (.cells (partVals p).toArray 50)).drew := ⟨(Below.heap_alloc wr _ _ hzN).trans hI.1, heap_alloc_new wr _⟩
    have kv : ∀ W, NewS w.heap.size wr.heap.size node vp p W → W.cell? ⟨w.heap.size, 1, none⟩ = some vp := fun W hW => cell_at hW.1 1 rfl
    have k5 : ∀ W, NewS w.heap.size wr.heap.size node vp p W → W.cell? ⟨wr.heap.size, 5, none⟩ = some (.int .u8 (p.r0 : Nat)) := fun W hW => cell_at hW.2 5 rfl
    have k6 : ∀ W, NewS w.heap.size wr.heap.size node vp p W → W.cell? ⟨wr.heap.size, 6, none⟩ = some (.int .u8 (p.r1 : Nat)) := fun W hW => cell_at hW.2 6 rfl
    have k7 : ∀ W, NewS w.heap.size wr.heap.size node vp p W → W.cell? ⟨wr.heap.size, 7, none⟩ = some (.int .u8 (p.r2 : Nat)) := fun W hW => cell_at hW.2 7 rfl
    have k8 : ∀ W, NewS w.heap.size wr.heap.size node vp p W → W.cell? ⟨wr.heap.size, 8, none⟩ = some (.int .u8 (p.r3 : Nat)) := fun W hW => cell_at hW.2 8 rfl
    have HW : Hid (wchVals (wchP p) = [.int .u8 (p.r0 : Nat), .int .u8 (p.r1 : Nat), .int .u8 (p.r2 : Nat), .int .u8 (p.r3 : Nat), .int .i64 0, .int .u32 0]) := Lib.hid rfl
    have HP : Hid ((partVals p).toArray = #[.int .i64 p.node, .int .i64 p.start, .int .i64 p.length, .int .i64 p.budget, .int .i64 p.words, .int .u8 (p.r0 : Nat), .int .u8 (p.r1 : Nat), .int .u8 (p.r2 : Nat), .int .u8 (p.r3 : Nat)]) := Lib.hid rfl
    have HZ := Lib.hid hzN
    rw [HP.out] at hdr
    clear hp hI hb hall hzN
    subst hvp
    have hbe : Below w.heap.size w (wr.alloc (.cells #[.int .i64 p.node, .int .i64 p.start, .int .i64 p.length, .int .i64 p.budget, .int .i64 p.words, .int .u8 (p.r0 : Nat), .int .u8 (p.r1 : Nat), .int .u8 (p.r2 : Nat), .int .u8 (p.r3 : Nat)] 50)).drew := (HN.out.2.2.alloc HN.out.2.2.size _).drew
    have hoe : (wr.alloc (.cells #[.int .i64 p.node, .int .i64 p.start, .int .i64 p.length, .int .i64 p.budget, .int .i64 p.words, .int .u8 (p.r0 : Nat), .int .u8 (p.r1 : Nat), .int .u8 (p.r2 : Nat), .int .u8 (p.r3 : Nat)] 50)).drew.ownsRow w.heap.size 91 6 (.slice A2 k cap2) k (itemsV wchVals ((l.take k).map wchP)) := (HN.out.2.1.alloc _).drew
    have Hbe := Lib.hid hbe
    have Hoe := Lib.hid hoe
    clear hbe hoe
    go_wp2_with fail
    clear c0 c1 c2 c3 c4 c5 c6 c7 c8
    refine wp_region_L_drew (st := 12) (S := fun W => NewS w.heap.size wr.heap.size node (.slice A2 k cap2) p W) (by kernel_rfl) hdr (fun _ => ?_)
    refine tkL 0 (by simp only [tkA]; rfl) (by kernel_rfl) (by exact fun _ _ _ h => h) (by rfl) (by intro W hW; go_simp <;> with_reducible rfl) hdr ?_
    try simp only [Act.put, tkT, tk0, tkS]
    refine tkL 1 (by simp only [tkA, tkG]; rfl) (by kernel_rfl) (by exact fun _ _ _ h => h) (by rfl) (by intro W hW; go_simp <;> with_reducible rfl) hdr ?_
    try simp only [Act.put, tkT, tk0, tkS]
    refine tkL 2 (by simp only [tkA, tkG]; rfl) (by kernel_rfl) (by exact fun _ _ _ h => h) (by rfl) (by intro W hW; go_simp <;> with_reducible rfl) hdr ?_
    try simp only [Act.put, tkT, tk0, tkS]
    refine tkL 3 (by simp only [tkA, tkG]; rfl) (by kernel_rfl) (by exact fun _ _ _ h => h) (by rfl) (by intro W hW; go_simp <;> with_reducible rfl) hdr ?_
    try simp only [Act.put, tkT, tk0, tkS]
    refine tkL 4 (by simp only [tkA, tkG]; rfl) (by kernel_rfl) (by exact fun _ _ _ h => h) (by rfl) (by intro W hW; go_simp <;> with_reducible rfl) hdr ?_
    try simp only [Act.put, tkT, tk0, tkS]
    refine tkL 5 (by simp only [tkA, tkG]; rfl) (by kernel_rfl) (by exact fun _ _ _ h => h) (by rfl) (by intro W hW; go_simp <;> with_reducible rfl) hdr ?_
    try simp only [Act.put, tkT, tk0, tkS]
    refine tkL 6 (by simp only [tkA, tkG]; rfl) (by kernel_rfl) (by exact fun _ _ _ h => h) (by rfl) (by intro W hW; go_simp <;> with_reducible rfl) hdr ?_
    try simp only [Act.put, tkT, tk0, tkS]
    refine tkL 7 (by simp only [tkA, tkG]; rfl) (by kernel_rfl) (by exact fun _ _ _ h => h) (by rfl) (by intro W hW; go_simp <;> with_reducible rfl) hdr ?_
    try simp only [Act.put, tkT, tk0, tkS]
    generalize (wr.alloc (.cells #[.int .i64 p.node, .int .i64 p.start, .int .i64 p.length, .int .i64 p.budget, .int .i64 p.words, .int .u8 (p.r0 : Nat), .int .u8 (p.r1 : Nat), .int .u8 (p.r2 : Nat), .int .u8 (p.r3 : Nat)] 50)).drew = we at *
    clear kv k5 k6 k7 k8
    have hsz : wr.heap.size < we.heap.size := lt_of_block hdr.2
    have hzn : w.heap.size < we.heap.size := lt_of_block hdr.1
    have hda : NewS w.heap.size wr.heap.size node (.slice A2 k cap2) p (we.alloc (.cells (wchVals (wchP p)).toArray 91)) := ⟨(Below.heap_alloc _ _ _ hzn).trans hdr.1, (Below.heap_alloc _ _ _ hsz).trans hdr.2⟩
    have Hd := Lib.hid hdr
    clear hdr
    refine wpAnyL_one (k := 8) (by kernel_rfl) (by simp only [tkA, tkG]; rfl) (fun K hK => ?_)
    go_simp
    go_wp2_with fail
    refine hK.out _ _ (fun _ => hda) ?_
    clear hK K
    refine wpAnyL_one (k := 9) (by kernel_rfl) (by simp only [tkA, tkG]; rfl) (fun K hK => ?_)
    refine step_append_m rfl (.tmp 22) (.tmp 26) _ rfl w.heap.size 91 _ 6 24 Tryd.underlying87 infoWch rfl (by omega) _ k (itemsV wchVals ((l.take k).map wchP)) rfl (Hoe.out.alloc _) (some ⟨we.heap.size, 0, none⟩) 1 1 (wchVals (wchP p)) rfl rfl (fun _ => ⟨_, rfl, laid_at we _ (wchVals (wchP p)) we.heap.size rfl⟩) (wchVals_one _) (by unfold maxLen; omega) (by omega) (by simp; omega) ?_
    intro v8 w8 ho8 ha8 hb8
    have ha80 : Apart (fun x => (Value.slice A2 k cap2).ownBlock = some x) we w8 := ((Apart.refl _ we).alloc _).trans ha8 (fun _ e => .inl e)
    have hd8 : NewS w.heap.size wr.heap.size node (.slice A2 k cap2) p w8 := ⟨(ha80.block _ hzn (fun e => own_off Hoe.out Hd.out.1 (by decide) _ e rfl)).trans Hd.out.1, (ha80.block _ hsz (fun e => own_off Hoe.out Hd.out.2 (by decide) _ e rfl)).trans Hd.out.2⟩
    obtain ⟨g8, c8, rfl, -, -⟩ := ho8.form (by omega)
    have hb80 : Below w.heap.size w w8 := Hbe.out.trans (ha80.below (Nat.le_of_lt hzn) fun x e => ((Seg.of_own Hoe.out).lt x e).1)
    have HF8 := Lib.hid (HR.out _ w8 ho8 hd8.1 hb80)
    have kb8 : w8.cell? ⟨w.heap.size, 1, none⟩ = some (.slice A2 k cap2) := cell_at hd8.1 1 rfl
    have fb8 := free_at hd8.1 1
    clear ho8 ha8 hb8 ha80 HR hb80
    go_wp2_with fail
    refine hK.out _ _ (fun _ => hd8) ?_
    clear hK K
    refine tkL 10 (by simp only [tkA, tkG]; rfl) (by kernel_rfl) (by exact fun _ _ _ h => h) (by rfl) (by intro W hW; go_simp <;> with_reducible rfl) hd8 ?_
    try simp only [Act.put, tkT, tk0, tkS]
    refine tkL 11 (by simp only [tkA, tkG]; rfl) (by kernel_rfl) (by exact fun _ _ _ h => h) (by rfl) (by intro W hW; go_simp <;> with_reducible rfl) hd8 ?_
    try simp only [Act.put, tkT, tk0, tkS]
    refine wpAnyL_last (k := 12) (by kernel_rfl) (by simp only [tkA, tkG]; rfl) (fun K hK => ?_)
    go_simp
    go_wp2_with fail
    refine hK.out _ _ ?_
    clear hK K
    refine wpAnyL_done (by kernel_rfl) ?_ _
    clear hd8 hda
    go_wp2_with fail
    go_roundw
    case rel => exact HF8.out
    case measure => simp [intOf]; omega

/-- What Seal leaves. -/
def SealH (w : World) (B b node : Nat) (rec : List (List Nat)) (m : Mon) (vp vr : Value) (e : Ending) (w' : World) : Prop :=
  e = .returned vr ∧ w'.ownsRow B 69 5 vr m.out.length (recsVals m.out) ∧ MonIn w' B b node rec (sealM m) vp (.slice none 0 0) ∧ Apart (fun k => k = b) w w'
theorem hseal_any (w : World) (B b node : Nat) (rec : List (List Nat)) (m : Mon) (vp vr : Value) (h : MonIn w B b node rec m vp vr) :
    Calls Tryd.prog 22 #[monH b] w (SealH w B b node rec m vp vr) := by
  obtain ⟨A, cap, hvr, -⟩ := own_slice h.recs
  have a1 : Apart (fun k => k = b) w (w.setCell ⟨b, 2, none⟩ (.slice none 0 0)) := (Apart.refl (fun k => k = b) w).setCell (p := ⟨b, 2, none⟩) (.inl rfl) _
  have HF : Hid (SealH w B b node rec m vp vr (.returned vr) (w.setCell ⟨b, 2, none⟩ (.slice none 0 0))) := Lib.hid ⟨rfl, own_apart h.recs a1 (fun k hk e => h.nr k hk e), ⟨heap_setCell_same w b 2 _ _ _ h.hd, own_apart h.wat a1 (fun k hk e => h.np k hk e), World.ownsRow_nil _ _ _ _, h.base, h.v.sealed⟩, a1⟩
  have k2 : w.cell? ⟨b, 2, none⟩ = some vr := cell_at h.hd 2 rfl
  have f2 := free_at h.hd 2
  subst hvr
  clear h a1
  unfold monH
  go_enter Tryd.func22, Tryd.ntmps22
  go_wp2_with fail
  go_ret
  exact HF.out
end Go.Proofs.YtabndibenffngaaDoor
