/- What a node heard, in memory (HeardIn); Listen. Conditions: none beyond those that each states. -/
import Derived.Test.YtkahecdnmeofkaaMbrB
import Derived.Test.YtkahecdnmeofkaaMbrD
namespace Go.Proofs.Ytkahecdnmeofkaa
open Go.RowKit
set_option maxRecDepth 100000

theorem storeAll_mid {b : Nat} {t : TypeId} : ∀ (vs : List Value) (i : Nat) (w : World) (pre rest tail : List Value), w.heap[b]? = some (.cells (pre ++ rest ++ tail).toArray t (0, 0)) → pre.length = i → rest.length = vs.length →
    (storeAll w b vs i).heap[b]? = some (.cells (pre ++ vs ++ tail).toArray t (0, 0))
  | [], i, w, pre, rest, tail, h, _, h2 => by
    obtain rfl : rest = [] := List.eq_nil_of_length_eq_zero (by simpa using h2)
    exact h
  | v :: vs, i, w, pre, [], tail, h, _, h2 => by simp at h2
  | v :: vs, i, w, pre, r :: rest, tail, h, h1, h2 => by
    have h3 := heap_setCell_same w b i _ t v h
    have h4 := storeAll_mid (t := t) vs (i + 1) (w.setCell ⟨b, i, none⟩ v) (pre ++ [v]) rest tail (by
      rw [h3]
      subst h1
      simp) (by simp [h1]) (by simpa using h2)
    simpa [storeAll] using h4

def FrameC.cells (x : FrameC) : List Value := [.int .u8 (x.sender : Nat), .int .u32 (x.round : Nat), .int .u8 (x.members : Nat), .slice x.MA x.mn x.mcap, .int .u8 (x.kind : Nat), .int .u8 (x.key : Nat), .int .u16 (x.val : Nat), .int .u16 (x.old : Nat), .slice x.RA x.rn x.rcap]
theorem FrameC.cells_length (x : FrameC) : x.cells.length = 9 := rfl
def hv (b : Nat) : Value := .pointer (some ⟨b, 0, none⟩)
def heardCs (mr mm : Nat) (known : Bool) (s : Nat) (fs : List FrameC) : Array Value := ([.int .u32 (mr : Nat), .int .u8 (mm : Nat), .bool known, setV s] ++ itemsV FrameC.cells fs).toArray
/-- What a node heard, at a block: its own stamp, whether it holds it for right, whom it heard (bits), their frames. -/
structure HeardIn (W : World) (b mr mm : Nat) (known : Bool) (s : Nat) (fs : List FrameC) : Prop where
  at_ : W.heap[b]? = some (.cells (heardCs mr mm known s fs) 70 (0, 0))
  len : fs.length = 7
  small : s < 128
  frames : ∀ x ∈ fs, FrameIn W x
  hi : ∀ x ∈ fs, FrameHi (b + 1) x
section
variable {W W' : World} {b mr mm s : Nat} {known : Bool} {fs : List FrameC}
theorem HeardIn.below (h : HeardIn W b mr mm known s fs) (hb : Below W.heap.size W W') : HeardIn W' b mr mm known s fs :=
  ⟨(hb.block _ (lt_of_block h.at_)).trans h.at_, h.len, h.small, fun x hx => (h.frames x hx).below hb, h.hi⟩
theorem HeardIn.drew (h : HeardIn W b mr mm known s fs) : HeardIn W.drew b mr mm known s fs := h.below (Below.refl _ _).drew
theorem HeardIn.drewN (h : HeardIn W b mr mm known s fs) (m : Nat) : HeardIn (W.drewN m) b mr mm known s fs := h.below (below_drewNc (Below.refl _ _) m)
theorem HeardIn.c0 (h : HeardIn W b mr mm known s fs) : W.cell? ⟨b, 0, none⟩ = some (.int .u32 (mr : Nat)) := cell_at h.at_ 0 rfl
theorem HeardIn.c1 (h : HeardIn W b mr mm known s fs) : W.cell? ⟨b, 1, none⟩ = some (.int .u8 (mm : Nat)) := cell_at h.at_ 1 rfl
theorem HeardIn.c2 (h : HeardIn W b mr mm known s fs) : W.cell? ⟨b, 2, none⟩ = some (.bool known) := cell_at h.at_ 2 rfl
theorem HeardIn.c3 (h : HeardIn W b mr mm known s fs) : W.cell? ⟨b, 3, none⟩ = some (.int .u8 (s : Nat)) := cell_at h.at_ 3 rfl
theorem heardCs_at {k : Nat} {x : FrameC} (hx : fs[k]? = some x) {j : Nat} (hj : j < 9) : (heardCs mr mm known s fs)[4 + k * 9 + j]? = x.cells[j]? := by
  unfold heardCs
  rw [List.getElem?_toArray, List.getElem?_append_right (by simp; omega), ← itemsV_at FrameC.cells_length fs k x hx j hj]
  congr 1
  simp; omega
theorem HeardIn.fc (h : HeardIn W b mr mm known s fs) {k : Nat} {x : FrameC} (hx : fs[k]? = some x) {j : Nat} {u : Value} (hu : x.cells[j]? = some u) : W.cell? ⟨b, 4 + k * 9 + j, none⟩ = some u := by
  have hj : j < 9 := by have := (List.getElem?_eq_some_iff.1 hu).1; rwa [FrameC.cells_length] at this
  exact cell_at h.at_ _ ((heardCs_at hx hj).trans hu)
theorem HeardIn.size (h : HeardIn W b mr mm known s fs) : b < W.heap.size := lt_of_block h.at_
theorem HeardIn.putS (h : HeardIn W b mr mm known s fs) {s' : Nat} (hs : s' < 128) : HeardIn (W.setCell ⟨b, 3, none⟩ (setV s')) b mr mm known s' fs := by
  have ha : Apart (fun q => q = b) W (W.setCell ⟨b, 3, none⟩ (setV s')) := Apart.setCell (F := fun q => q = b) (Apart.refl _ W) (p := ⟨b, 3, none⟩) (.inl rfl) _
  refine ⟨by rw [heap_set_at h.at_]; rfl, h.len, hs, fun x hx => (h.frames x hx).offs ((h.hi x hx).off (fun k e => by omega)) ha, h.hi⟩
theorem HeardIn.putF (h : HeardIn W b mr mm known s fs) {k : Nat} (hk : k < 7) {y : FrameC} (hy : FrameIn W y) (hh : FrameHi (b + 1) y) : HeardIn (storeAll W b y.cells (4 + k * 9)) b mr mm known s (fs.set k y) := by
  have ha := storeAll_apart b y.cells (4 + k * 9) W
  have hl := h.len
  obtain ⟨x, hx⟩ : ∃ x, fs[k]? = some x := ⟨_, List.getElem?_eq_getElem (by omega)⟩
  have e : fs = fs.take k ++ [x] ++ fs.drop (k + 1) := by
    have h1 := List.take_append_drop (k + 1) fs
    rw [List.take_add_one, hx] at h1
    exact h1.symm
  have e2 : fs.set k y = fs.take k ++ [y] ++ fs.drop (k + 1) := by
    rw [List.set_eq_take_append_cons_drop, if_pos (by omega)]; simp
  have hall : ∀ z ∈ fs.set k y, FrameIn W z ∧ FrameHi (b + 1) z := fun z hz => by
    rcases List.mem_or_eq_of_mem_set hz with hz | rfl
    · exact ⟨h.frames z hz, h.hi z hz⟩
    · exact ⟨hy, hh⟩
  refine ⟨?_, by rw [List.length_set]; exact hl, h.small, fun z hz => (hall z hz).1.offs ((hall z hz).2.off (fun k e => by omega)) ha, fun z hz => (hall z hz).2⟩
  have h2 := storeAll_mid (t := 70) y.cells (4 + k * 9) W ([.int .u32 (mr : Nat), .int .u8 (mm : Nat), .bool known, setV s] ++ itemsV FrameC.cells (fs.take k)) x.cells (itemsV FrameC.cells (fs.drop (k + 1))) (by
    rw [h.at_]
    unfold heardCs
    conv => lhs; rw [e]
    simp [itemsV]) (by
    rw [List.length_append, itemsV_length FrameC.cells_length, List.length_take, Nat.min_eq_left (by omega)]; rfl) rfl
  rw [h2, e2]
  unfold heardCs
  simp [itemsV]
end

def zeros7 : List FrameC := List.replicate 7 zeroC
theorem zeroC_hi (B : Nat) : FrameHi B zeroC := ⟨fun h => absurd h (by simp [zeroC]), fun y hy => absurd hy (by simp [zeroC]), fun h => absurd h (by simp [zeroC])⟩
theorem zeroC_in (W : World) : FrameIn W zeroC := by
  obtain ⟨x, h1, h2, -⟩ := FrameAt.zero W
  exact ⟨fun h => absurd h (by simp [zeroC]), rfl, Nat.le_refl _, by simp [zeroC], fun h => absurd h (by simp [zeroC]), rfl, Nat.le_refl _, by simp [zeroC], by constructor <;> simp [zeroC, FrameC.plain]⟩
def stampV (r m : Nat) : Value := .agg #[.int .u32 (r : Nat), .int .u8 (m : Nat)]
def ListenP (mr mm : Nat) (known : Bool) (w : World) (e : Ending) (w' : World) : Prop := ∃ b, e = .returned (hv b) ∧ HeardIn w' b mr mm known 0 zeros7 ∧ w.heap.size ≤ b ∧ Below w.heap.size w w'
/-- The zero value, which is too long for a goal. -/
theorem zero_heard (W : World) : (zeroValue 70).run Try.prog W = .ok (.agg (heardCs 0 0 false 0 zeros7)) W := by
  have h : (Try.prog.info? 70).map (fun i => i.zero) = some (some (.agg (heardCs 0 0 false 0 zeros7))) := by kernel_rfl
  cases hi : Try.prog.info? 70 with
  | none => rw [hi] at h; cases h
  | some i =>
    rw [hi] at h
    have hz : i.zero = some (.agg (heardCs 0 0 false 0 zeros7)) := by simpa using h
    simp [zeroValue, typeInfo, hi, hz]
theorem heard_built (mr mm : Nat) (known : Bool) : (((heardCs 0 0 false 0 zeros7).setIfInBounds 0 (.int .u32 (mr : Nat))).setIfInBounds 1 (.int .u8 (mm : Nat))).setIfInBounds 2 (.bool known) = heardCs mr mm known 0 zeros7 := rfl
theorem listen_any (mr mm : Nat) (known : Bool) (w : World) : Calls Try.prog 19 #[stampV mr mm, .bool known] w (ListenP mr mm known w) := by
  have HF : Hid (∀ o1 o2 : Obj, o2 = .cells (heardCs mr mm known 0 zeros7) 70 → ListenP mr mm known w (.returned (hv (w.heap.size + 1))) ((w.alloc o1).alloc o2)) := Lib.hid fun o1 o2 e => by
    subst e
    have hb : Below w.heap.size w ((w.alloc o1).alloc (.cells (heardCs mr mm known 0 zeros7) 70)) := ((Below.refl w.heap.size w).alloc (Nat.le_refl _) _).alloc (by simp) _
    exact ⟨_, rfl, ⟨heap_new_at _ _ _ (by simp), rfl, by decide, fun x hx => (by rw [List.eq_of_mem_replicate hx]; exact zeroC_in _), fun x hx => (by rw [List.eq_of_mem_replicate hx]; exact zeroC_hi _)⟩, by omega, hb⟩
  unfold hv at HF
  unfold stampV
  obtain ⟨zs, hz, hsz, hne, hdef⟩ : ∃ zs : Array Value, (∀ W, (zeroValue 70).run Try.prog W = .ok (.agg zs) W) ∧ zs.size = 67 ∧ ¬ zs = #[] ∧ zs = heardCs 0 0 false 0 zeros7 := ⟨_, zero_heard, rfl, by decide, rfl⟩
  have HB : Hid ((((zs.setIfInBounds 0 (.int .u32 (mr : Nat))).setIfInBounds 1 (.int .u8 (mm : Nat))).setIfInBounds 2 (.bool known)) = heardCs mr mm known 0 zeros7) := Lib.hid (by rw [hdef]; exact heard_built mr mm known)
  clear hdef
  go_enter Try.func19, Try.ntmps19
  go_wp2_with fail
  go_ret
  exact HF.out _ _ (by rw [HB.out])
end Go.Proofs.Ytkahecdnmeofkaa
