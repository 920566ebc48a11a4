/- What a node heard, by its stamps alone: Hear, Right, Members; Awake of stage 12: true. Conditions: where it lies. -/
import Derived.Test.YtkahecdnmeofkaaMbrH
namespace Go.Proofs.Ytkahecdnmeofkaa
open Go.RowKit
set_option maxRecDepth 100000

def upd (st : Nat → Nat × Nat) (k : Nat) (x : Nat × Nat) : Nat → Nat × Nat := fun n => if n = k then x else st n
/-- At a block: whom one heard, with which stamps. -/
def Hrd (W : World) (b mr mm : Nat) (known : Bool) (s : Nat) (st : Nat → Nat × Nat) : Prop := ∃ fs, HeardIn W b mr mm known s fs ∧ ∀ n, n < 7 → stOf fs n = st n
section
variable {W W' : World} {b mr mm s : Nat} {known : Bool} {st : Nat → Nat × Nat}
theorem Hrd.below (h : Hrd W b mr mm known s st) (hb : Below W.heap.size W W') : Hrd W' b mr mm known s st := by
  obtain ⟨fs, h1, h2⟩ := h
  exact ⟨fs, h1.below hb, h2⟩
theorem Hrd.size (h : Hrd W b mr mm known s st) : b < W.heap.size := by
  obtain ⟨fs, h1, h2⟩ := h
  exact h1.size
theorem Hrd.small (h : Hrd W b mr mm known s st) : s < 128 := by
  obtain ⟨fs, h1, h2⟩ := h
  exact h1.small
theorem HeardIn.offs {fs : List FrameC} (h : HeardIn W b mr mm known s fs) {F : Nat → Prop} (ha : Apart F W W') (hF : ¬ F b) (ho : ∀ x ∈ fs, FrameOff F x) : HeardIn W' b mr mm known s fs :=
  ⟨(ha.block b h.size hF).trans h.at_, h.len, h.small, fun x hx => (h.frames x hx).offs (ho x hx) ha, h.hi⟩
end
theorem stamps_st {s : Nat} {fs : List FrameC} {st : Nat → Nat × Nat} (h : ∀ n, n < 7 → stOf fs n = st n) : stamps s fs = (MbrP.lst s).map st := List.map_congr_left fun n hn => h n (MbrP.lst_lt hn)
theorem bear_st {s : Nat} {fs : List FrameC} {st : Nat → Nat × Nat} (h : ∀ n, n < 7 → stOf fs n = st n) (x : Nat × Nat) : MbrP.bear s (stOf fs) x = MbrP.bear s st x := by
  unfold MbrP.bear MbrP.sub
  rw [List.filter_congr (fun n hn => by rw [h n (MbrP.lst_lt hn)])]
def rightS (known : Bool) (mr mm s : Nat) (st : Nat → Nat × Nat) : Option (Nat × Nat) := MbrP.rightT known (mr, mm) ((MbrP.lst s).map st)
def memS (s : Nat) (st : Nat → Nat × Nat) : Option (Nat × Nat) → Nat
  | some x => MbrP.bear s st x
  | none => 0
theorem memT_st {s : Nat} {fs : List FrameC} {st : Nat → Nat × Nat} (h : ∀ n, n < 7 → stOf fs n = st n) (o : Option (Nat × Nat)) : memT s fs o = memS s st o := by
  cases o with
  | none => rfl
  | some x => exact bear_st h x
theorem hlisten_any (mr mm : Nat) (known : Bool) (w : World) : Calls Try.prog 19 #[stampV mr mm, .bool known] w (fun e w' => ∃ b, e = .returned (hv b) ∧ Hrd w' b mr mm known 0 (fun _ => (0, 0)) ∧ w.heap.size ≤ b ∧ Below w.heap.size w w') :=
  (listen_any mr mm known w).mono fun _ _ ⟨b, h1, h2, h3, h4⟩ => ⟨b, h1, ⟨_, h2, fun _ hn => stOf_at (List.getElem?_replicate_of_lt hn)⟩, h3, h4⟩
theorem hhear_any (mr mm s : Nat) (known : Bool) (st : Nat → Nat × Nat) (k : Nat) (hk : k < 7) (x : FrameC) (hx : x.sender = k) (b : Nat) (w : World) (hf : FrameIn w x) (hoff : FrameOff (fun q => q = b) x) (h : Hrd w b mr mm known s st) (hb : s.testBit k = false) :
    Calls Try.prog 21 #[hv b, .int .i64 (k : Nat), x.value] w (fun e w' => e = .returned (.bool true) ∧ Hrd w' b mr mm known (MbrP.withT s (k : Int)) (upd st k (x.round, x.members)) ∧ Apart (fun q => q = b) w w') := by
  obtain ⟨fs, h1, h2⟩ := h
  refine (hear_yes mr mm s known fs k hk x hx b w hf hoff h1 hb).mono fun _ _ ⟨he, y, hy, _, _, hh, ha⟩ => ⟨he, ⟨_, hh, fun n hn => ?_⟩, ha⟩
  have e1 : y.round = x.round := congrArg FrameP.Fr.round hy
  have e2 : y.members = x.members := congrArg FrameP.Fr.members hy
  unfold upd
  by_cases hnk : n = k
  · subst hnk
    have h7 : (fs.set n y)[n]? = some y := List.getElem?_set_self (by have := h1.len; omega)
    rw [stOf_at h7, if_pos rfl, e1, e2]
  · rw [if_neg hnk, ← h2 n hn]
    unfold stOf
    rw [List.getElem?_set_ne (Ne.symm hnk)]
theorem hright_any (mr mm s : Nat) (known : Bool) (st : Nat → Nat × Nat) (b : Nat) (w : World) (h : Hrd w b mr mm known s st) : Calls Try.prog 23 #[hv b] w (RightP (rightS known mr mm s st) w) := by
  obtain ⟨fs, h1, h2⟩ := h
  have h3 := right_any mr mm s known fs b w h1
  rw [stamps_st h2] at h3
  exact h3
theorem hmembers_any (mr mm s : Nat) (known : Bool) (st : Nat → Nat × Nat) (b : Nat) (w : World) (h : Hrd w b mr mm known s st) : Calls Try.prog 27 #[hv b] w (MemP (memS s st (rightS known mr mm s st)) w) := by
  obtain ⟨fs, h1, h2⟩ := h
  have h3 := members_any mr mm s known fs b w h1
  rw [stamps_st h2, memT_st h2] at h3
  exact h3
/-- A frame without lists. -/
def bareC (sender round members : Nat) : FrameC := ⟨sender, round, members, none, 0, 0, [], 0, 0, 0, 0, none, 0, 0, []⟩
theorem bareC_in {sender round members : Nat} (h1 : sender < 256) (h2 : round < 4294967296) (h3 : members < 256) (W : World) : FrameIn W (bareC sender round members) :=
  ⟨fun h => absurd h (by simp [bareC]), rfl, Nat.le_refl _, by simp [bareC], fun h => absurd h (by simp [bareC]), rfl, Nat.le_refl _, by simp [bareC], ⟨h1, h2, h3, by simp [bareC, FrameC.plain], by simp [bareC, FrameC.plain], by simp [bareC, FrameC.plain], by simp [bareC, FrameC.plain], fun r hr => by cases hr⟩⟩
theorem bareC_off (F : Nat → Prop) (sender round members : Nat) : FrameOff F (bareC sender round members) := ⟨fun h => absurd h (by simp [bareC]), fun y hy => absurd hy (by simp [bareC]), fun h => absurd h (by simp [bareC])⟩

theorem ilits_in (w : World) (N : Nat) (hN : N = w.heap.size) (l : List Int) : IntsIn (w.alloc (.cells (intV l).toArray 3)) (some ⟨N, 0, none⟩) l := fun _ =>
  ⟨N, 0, rfl, by simp; omega, fun i x hx => by subst hN; rw [Nat.zero_add]; exact cell_at (heap_alloc_new w _) i (by simpa using intV_get hx)⟩
def MTrue12 (w : World) (e : Ending) (w' : World) : Prop := e = .returned (.bool true) ∧ Below w.heap.size w w'
def awSt : Nat → Nat × Nat := upd (upd (upd (fun _ => (0, 0)) 0 (3, 0)) 1 (3, 0)) 2 (9, 0)
theorem aw_right : rightS false 0 0 7 awSt = some (3, 0) := by decide +kernel
theorem aw_mem : memS 7 awSt (some (3, 0)) = 3 := by decide +kernel
theorem aw_of : MbrP.ofT [0, 2, 9] = 5 := by decide +kernel
set_option maxHeartbeats 1000000 in
theorem awake12_any (w : World) : Calls Try.prog 9 #[] w (MTrue12 w) := by
  have H0 := Lib.hid (fun W => hlisten_any 0 0 false W)
  have H1 := Lib.hid (fun b W hW => hhear_any 0 0 0 false (fun _ => (0, 0)) 0 (by decide) (bareC 0 3 0) rfl b W (bareC_in (by decide) (by decide) (by decide) W) (bareC_off _ _ _ _) hW (by decide))
  have H2 := Lib.hid (fun b W hW => hhear_any 0 0 1 false (upd (fun _ => (0, 0)) 0 (3, 0)) 1 (by decide) (bareC 1 3 0) rfl b W (bareC_in (by decide) (by decide) (by decide) W) (bareC_off _ _ _ _) hW (by decide))
  have H3 := Lib.hid (fun b W hW => hhear_any 0 0 3 false (upd (upd (fun _ => (0, 0)) 0 (3, 0)) 1 (3, 0)) 2 (by decide) (bareC 2 9 0) rfl b W (bareC_in (by decide) (by decide) (by decide) W) (bareC_off _ _ _ _) hW (by decide))
  have H4 := Lib.hid (fun b W hW => hright_any 0 0 7 false awSt b W hW)
  have H5 := Lib.hid (fun b W hW => hmembers_any 0 0 7 false awSt b W hW)
  rw [aw_right] at H4 H5
  rw [aw_mem] at H5
  have H6 := Lib.hid (fun A c W hW => of_any A 3 c [0, 2, 9] rfl (by decide) W hW)
  rw [aw_of] at H6
  unfold RightP rightV at H4
  unfold MemP at H5
  unfold Quiet at H6
  unfold MTrue12
  unfold stampV hv setV at *
  go_enter Try.func9, Try.ntmps9
  go_wp2_with fail
  refine (H0.out _).mono ?_
  rintro e w1 ⟨b, rfl, h1, hlo, hb1⟩
  have Hb1 := Lib.hid hb1
  have HC := Lib.hid (H1.out b w1 h1)
  clear h1 hb1 H0 H1
  simp only [bareC, FrameC.value] at HC H2 H3
  go_wp2_with fail
  refine HC.out.mono ?_
  rintro e w2 ⟨rfl, h2, ha2⟩
  have Hb2 := Lib.hid (Hb1.out.trans (ha2.below (Nat.le_trans hlo (Nat.le_of_lt h2.size) |> fun _ => Hb1.out.size) (fun q e => by omega)))
  have HC2 := Lib.hid (H2.out b w2 h2)
  clear h2 ha2 HC H2 Hb1
  go_wp2_with fail
  refine HC2.out.mono ?_
  rintro e w3 ⟨rfl, h3, ha3⟩
  have Hb3 := Lib.hid (Hb2.out.trans (ha3.below Hb2.out.size (fun q e => by omega)))
  have HC3 := Lib.hid (H3.out b w3 h3)
  clear h3 ha3 HC2 H3 Hb2
  go_wp2_with fail
  refine HC3.out.mono ?_
  rintro e w4 ⟨rfl, h4, ha4⟩
  have Hb4 := Lib.hid (Hb3.out.trans (ha4.below Hb3.out.size (fun q e => by omega)))
  have HC4 := Lib.hid (H4.out b w4 h4)
  have HM := Lib.hid (fun W (hW : Below w4.heap.size w4 W) => H5.out b W (Hrd.below h4 hW))
  clear h4 ha4 HC3 H4 H5 Hb3
  go_wp2_with fail
  refine HC4.out.mono ?_
  rintro e w5 ⟨rfl, hb5⟩
  have Hb5 := Lib.hid hb5
  have HA := Lib.hid (fun o1 o2 => (hb5.alloc hb5.size o1).alloc (by have := hb5.size; simp; omega) o2)
  have HIn := Lib.hid (fun o : Obj => ilits_in (w5.alloc o) (w5.heap.size + 1) (by simp) [0, 2, 9])
  have HB := Lib.hid (fun o : Obj => fun m => (below_drewNc ((HA.out o (.cells (intV [0, 2, 9]).toArray 3)).trans (Below.refl _ _)) m))
  clear hb5
  go_wp2_with fail
  refine (H6.out _ _ _ (HIn.out _)).mono ?_
  rintro e w6 ⟨rfl, m, rfl⟩
  have hB6 := HB.out (.cells #[.int .u32 3, .int .u8 0] 36) m
  have HC6 := Lib.hid (HM.out _ ((Below.refl _ _).trans hB6))
  have Hb6 := Lib.hid (Hb4.out.trans (hB6.mono Hb4.out.size))
  clear hB6 HM HIn HA HB H6 HC4
  go_wp2_with fail
  refine HC6.out.mono ?_
  rintro e w7 ⟨rfl, hb7⟩
  have Hb7 := Lib.hid (Hb6.out.trans (hb7.mono Hb6.out.size))
  clear hb7
  go_wp2_with fail
  go_ret
  exact ⟨rfl, Hb7.out⟩
end Go.Proofs.Ytkahecdnmeofkaa
