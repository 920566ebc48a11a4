/- Awake of stage 8: true; QueueNil's walk. Conditions: none. -/
import Derived.Test.YtlijcfojokbdpaaQueH
namespace Go.Proofs.Ytlijcfojokbdpaa
open Go.RowKit
set_option maxRecDepth 100000

def evL : List QueP.Ev := [⟨5, 1, 7⟩, ⟨5, 0, 8⟩, ⟨3, 9, 9⟩, ⟨5, 0, 6⟩]
def AwkR (w : World) (A : Nat) (i : Value) (W : World) : Prop := ∃ k : Nat, k ≤ 4 ∧ i = .int .i64 (k : Nat) ∧ QueS W w.heap.size w.heap.size (evL.take k) (k : Nat) ∧ W.heap[A]? = some (.cells (itemsV evVals evL).toArray 28 (0, 0)) ∧ Below w.heap.size w W

def TookP (w : World) (B Q : Nat) (x : QueP.Ev) (rest : List QueP.Ev) (next : Int) (e : Ending) (w' : World) : Prop := e = .returned (.tuple #[evV x, .nilIface]) ∧ QueS w' B Q rest next ∧ QOnly B w w'
theorem take_is {w : World} {B Q : Nat} {want rest : List QueP.Ev} {next : Int} {x : QueP.Ev} (h : QueS w B Q want next) (hl : 0 < want.length) (hl2 : want.length ≤ 4096) (e1 : want[QueP.bestTo want want.length]? = some x) (e2 : want.eraseIdx (QueP.bestTo want want.length) = rest) :
    Calls Try.prog 10 #[queV Q] w (TookP w B Q x rest next) := by
  refine (take_any w B Q want next h hl hl2).mono ?_
  rintro e w' ⟨y, h1, h2, h3, h4⟩
  rw [e1] at h1
  cases h1
  rw [e2] at h3
  exact ⟨h2, h3, h4⟩

set_option maxHeartbeats 2000000 in
theorem awake_any (w : World) : Calls Try.prog 7 #[] w (QBool true w) := by
  have HNw := Lib.hid (new_any w)
  have HP := Lib.hid (fun W want next h hl h0 h1 ev => put_any W w.heap.size w.heap.size want next h hl h0 h1 ev)
  have HT := Lib.hid (fun W want next h hl h1 => take_any W w.heap.size w.heap.size want next h hl h1)
  have HL := Lib.hid (fun W want next h => len_any W w.heap.size w.heap.size want next h)
  unfold queV at *
  go_enter Try.func7, Try.ntmps7
  go_wp2_with fail
  refine HNw.out.mono ?_
  rintro e w1 ⟨rfl, rfl⟩
  have hq := new_holds w
  have hb : Below w.heap.size w (w.alloc (.cells #[.slice none 0 0, .int .i64 0] 46)) := (Below.refl _ _).alloc (Nat.le_refl _) _
  generalize w.alloc (.cells #[.slice none 0 0, .int .i64 0] 46) = w1 at *
  have HS : Hid (AwkR w w1.heap.size (.int .i64 0) (w1.alloc (.cells (itemsV evVals evL).toArray 28))) := Lib.hid
    ⟨0, by omega, rfl, hq.keep ((Below.refl _ _).alloc (Nat.le_refl _) _), heap_alloc_new w1 _, hb.alloc (by have := hb.size; omega) _⟩
  clear hq hb HNw
  go_wp2_with fail
  go_loopw [19] (AwkR w w1.heap.size) (fun i _ => (4 - intOf i).toNat)
  case atStart => exact HS.out
  case round =>
    clear HS
    obtain ⟨k, hk, rfl, hq, hA, hb⟩ := hrel
    by_cases hlt : k < 4
    · obtain ⟨⟨x0, x1, x2⟩, hx⟩ : ∃ x, evL[k]? = some x := ⟨_, List.getElem?_eq_getElem hlt⟩
      have hlen : (itemsV evVals evL)[k * 3 + 0]? = some (.int .i64 x0) ∧ (itemsV evVals evL)[k * 3 + 1]? = some (.int .i64 x1) ∧ (itemsV evVals evL)[k * 3 + 2]? = some (.int .i64 x2) :=
        ⟨by rw [itemsV_at evVals_len evL k _ hx 0 (by omega)]; rfl, by rw [itemsV_at evVals_len evL k _ hx 1 (by omega)]; rfl, by rw [itemsV_at evVals_len evL k _ hx 2 (by omega)]; rfl⟩
      have k0 : wr.cell? ⟨w1.heap.size, k * 3, none⟩ = some (.int .i64 x0) := cell_at hA (k * 3) (by simpa using hlen.1)
      have k1 : wr.cell? ⟨w1.heap.size, k * 3 + 1, none⟩ = some (.int .i64 x1) := cell_at hA (k * 3 + 1) (by simpa using hlen.2.1)
      have k2 : wr.cell? ⟨w1.heap.size, k * 3 + 2, none⟩ = some (.int .i64 x2) := cell_at hA (k * 3 + 2) (by simpa using hlen.2.2)
      have hbx : Below wr.heap.size wr (wr.alloc (.cells #[.int .i64 x0, .int .i64 x1, .int .i64 x2] 28)) := (Below.refl _ _).alloc (Nat.le_refl _) _
      have HPk := Lib.hid (HP.out _ _ _ (hq.keep hbx) (by rw [List.length_take]; omega) (by omega) (by omega) ⟨x0, x1, x2⟩)
      have HR : Hid (∀ W, QueS W w.heap.size w.heap.size (evL.take k ++ [⟨x0, x1, x2⟩]) ((k : Int) + 1) → QOnly w.heap.size (wr.alloc (.cells #[.int .i64 x0, .int .i64 x1, .int .i64 x2] 28)) W → AwkR w w1.heap.size (.int .i64 ((k : Int) + 1)) W) := Lib.hid fun W h1 h2 => by
        refine ⟨k + 1, by omega, by go_num, ?_, h2.block ((hbx.block _ (lt_of_block hA)).trans hA) (by decide) (by decide), (hb.trans (hbx.mono hb.size)).trans (h2.below (by have := hb.size; simp; omega))⟩
        have e : evL.take (k + 1) = evL.take k ++ [⟨x0, x1, x2⟩] := by rw [List.take_add_one, hx]; rfl
        rw [e]
        exact h1
      clear hx hlen hq hA hb hbx
      simp only [evV] at HPk
      go_wp2_with fail
      refine HPk.out.mono ?_
      rintro e w2 ⟨rfl, hq2, ho2⟩
      have HR2 := Lib.hid (HR.out _ hq2 ho2)
      clear hq2 ho2 HR
      go_wp2_with fail
      go_roundw
      case rel => exact HR2.out
      case measure => simp [intOf]; omega
    · obtain rfl : k = 4 := by omega
      have HF := Lib.hid (fun W (h : Below wr.heap.size wr W) => hb.trans (h.mono hb.size))
      have HT1 := Lib.hid (take_is (x := ⟨3, 9, 9⟩) (rest := [⟨5, 1, 7⟩, ⟨5, 0, 8⟩, ⟨5, 0, 6⟩]) hq (by decide) (by decide) rfl rfl)
      clear hq hA hb hlt HP HT
      unfold queV at HT1
      go_wp2_with fail
      refine HT1.out.mono ?_
      rintro e w2 ⟨rfl, hq2, ho2⟩
      have hb2 := ho2.below (B := w.heap.size) (by have := (HF.out _ (Below.refl _ _)).size; omega)
      have HF2 := Lib.hid ((HF.out _ (Below.refl _ _)).trans hb2)
      have hbx : ∀ o, Below w2.heap.size w2 (w2.alloc o) := fun o => (Below.refl _ _).alloc (Nat.le_refl _) o
      have HT2 := Lib.hid (fun o => take_is (x := ⟨5, 0, 8⟩) (rest := [⟨5, 1, 7⟩, ⟨5, 0, 6⟩]) (hq2.keep (hbx o)) (by decide) (by decide) rfl rfl)
      clear hq2 ho2 hb2 hbx HF
      unfold queV at HT2
      simp only [evV]
      go_wp2_with fail
      refine (HT2.out _).mono ?_
      rintro e w3 ⟨rfl, hq3, ho3⟩
      have ha3 := ho3.block (heap_alloc_new w2 _) (by decide) (by decide)
      have hb3 := ho3.below (B := w.heap.size) (by have := HF2.out.size; simp; omega)
      have HF3 := Lib.hid ((HF2.out.alloc (by have := HF2.out.size; omega) _).trans hb3)
      have hz3 : w2.heap.size < w3.heap.size := lt_of_block ha3
      have Ha3 := Lib.hid ha3
      have hbx : ∀ o, Below w3.heap.size w3 (w3.alloc o) := fun o => (Below.refl _ _).alloc (Nat.le_refl _) o
      have HT3 := Lib.hid (fun o => take_is (x := ⟨5, 0, 6⟩) (rest := [⟨5, 1, 7⟩]) (hq3.keep (hbx o)) (by decide) (by decide) rfl rfl)
      clear hq3 ho3 hb3 hbx HF2 ha3
      unfold queV at HT3
      simp only [evV]
      go_wp2_with fail
      refine (HT3.out _).mono ?_
      rintro e w4 ⟨rfl, hq4, ho4⟩
      have ha4 := ho4.block (heap_alloc_new w3 _) (by decide) (by decide)
      have hz4 : w3.heap.size < w4.heap.size := lt_of_block ha4
      have ha34 := ho4.block ((Below.heap_alloc _ _ _ (lt_of_block Ha3.out)).trans Ha3.out) (by decide) (by decide)
      have hb4 := ho4.below (B := w.heap.size) (by have := HF3.out.size; simp; omega)
      have HF4 := Lib.hid ((HF3.out.alloc (by have := HF3.out.size; omega) _).trans hb4)
      have k3 : w4.cell? ⟨w2.heap.size, 2, none⟩ = some (.int .i64 9) := cell_at ha34 2 rfl
      have k4 : w4.cell? ⟨w3.heap.size, 2, none⟩ = some (.int .i64 8) := cell_at ha4 2 rfl
      have hz24 : w2.heap.size < w4.heap.size := by omega
      have HL4 := Lib.hid (fun o => HL.out (w4.alloc o) _ _ (hq4.keep ((Below.refl _ _).alloc (Nat.le_refl _) o)))
      clear hq4 ho4 hb4 HF3 ha4 ha34 Ha3 HL
      simp only [evV]
      go_wp2_with fail
      refine (HL4.out _).mono ?_
      rintro e w5 ⟨rfl, hb5⟩
      have HF5 := Lib.hid ((HF4.out.alloc (by have := HF4.out.size; omega) _).trans (hb5.mono (by have := HF4.out.size; simp; omega)))
      clear hb5
      go_wp2_with fail
      go_ret
      exact ⟨rfl, HF5.out⟩

set_option maxHeartbeats 2000000 in
theorem nil_law (x : QueP.Ev) (w : World) : Calls Try.prog 5 #[evV x] w (QBool true w) := by
  obtain ⟨x0, x1, x2⟩ := x
  have HA := Lib.hid (fun W => awake_any W)
  have HT := Lib.hid (fun W => take_nil W)
  have HL := Lib.hid (fun W => len_nil W)
  have HP := Lib.hid (fun W => put_nil ⟨x0, x1, x2⟩ W)
  have HE : Hid (∀ W, Calls Try.prog 12 #[.int .i64 1] W fun e w' => e = .returned (strV (numN 1)) ∧ Below W.heap.size W w') := Lib.hid (fun W => e_any 1 W (by omega))
  have HR : Hid (∀ W, Calls Try.prog 11 #[.iface 47 (.int .i64 1)] W fun e w' => e = .returned (strV (numN 1)) ∧ Below W.heap.size W w') := Lib.hid (fun W => read_any 0 [] (some 1) W (by simp) (Nat.zero_le _) trivial ⟨by simp, by simp⟩)
  simp only [evV] at HP HT ⊢
  generalize numN 1 = y at *
  unfold strV at *
  go_enter Try.func5, Try.ntmps5
  go_wp2_with fail
  refine (HA.out _).mono ?_
  rintro e w1 ⟨rfl, hb1⟩
  have hbx : Below w.heap.size w (w.alloc (.cells #[.int .i64 x0, .int .i64 x1, .int .i64 x2] 28)) := (Below.refl _ _).alloc (Nat.le_refl _) _
  have Hb1 := Lib.hid (hbx.trans (hb1.mono hbx.size))
  have Hx := Lib.hid ((hb1.block _ (by simp)).trans (heap_alloc_new w _))
  clear hb1 HA hbx
  go_wp2_with fail
  refine (HT.out _).mono ?_
  rintro e w2 ⟨rfl, hb2⟩
  have Hb2 := Lib.hid (Hb1.out.trans (hb2.mono Hb1.out.size))
  have Hx2 := Lib.hid ((hb2.block _ (lt_of_block Hx.out)).trans Hx.out)
  clear hb2 Hb1 Hx
  go_wp2_with fail
  refine (HE.out _).mono ?_
  rintro e w3 ⟨rfl, hb3⟩
  have hb3' := ((Below.refl w2.heap.size w2).alloc (Nat.le_refl _) (.cells #[.int .i64 0, .int .i64 0, .int .i64 0] 28)).trans (hb3.mono (by simp))
  have Hb3 := Lib.hid (Hb2.out.trans (hb3'.mono Hb2.out.size))
  have Hx3 := Lib.hid ((hb3'.block _ (lt_of_block Hx2.out)).trans Hx2.out)
  have Hy3 := Lib.hid ((hb3.block _ (by simp)).trans (heap_alloc_new w2 _))
  clear hb3 hb3' Hb2 Hx2
  go_wp2_with fail
  refine (HL.out _).mono ?_
  rintro e w4 ⟨rfl, hb4⟩
  have Hb4 := Lib.hid (Hb3.out.trans (hb4.mono Hb3.out.size))
  have hx4 := (hb4.block _ (lt_of_block Hx3.out)).trans Hx3.out
  have Hy4 := Lib.hid ((hb4.block _ (lt_of_block Hy3.out)).trans Hy3.out)
  have k0 := cell_at hx4 0 rfl
  have k1 := cell_at hx4 1 rfl
  have k2 := cell_at hx4 2 rfl
  clear hb4 Hb3 Hx3 Hy3 hx4
  go_wp2_with fail
  refine (HP.out _).mono ?_
  rintro e w5 ⟨rfl, hb5⟩
  have Hb5 := Lib.hid (Hb4.out.trans (hb5.mono Hb4.out.size))
  have Hy5 := Lib.hid ((hb5.block _ (lt_of_block Hy4.out)).trans Hy4.out)
  clear hb5 Hb4 Hy4 k0 k1 k2
  go_wp2_with fail
  refine (HR.out _).mono ?_
  rintro e w6 ⟨rfl, hb6⟩
  have Hb6 := Lib.hid (Hb5.out.trans (hb6.mono Hb5.out.size))
  have hy6 := (hb6.block _ (lt_of_block Hy5.out)).trans Hy5.out
  have k0 := cell_at hy6 0 rfl
  have k1 := cell_at hy6 1 rfl
  have k2 := cell_at hy6 2 rfl
  clear hb6 Hb5 Hy5 hy6
  go_wp2_with fail
  refine (HR.out _).mono ?_
  rintro e w7 ⟨rfl, hb7⟩
  have Hb7 := Lib.hid (Hb6.out.trans (hb7.mono Hb6.out.size))
  clear hb7 Hb6 k0 k1 k2
  go_wp2_with fail
  go_ret
  exact ⟨rfl, Hb7.out⟩
end Go.Proofs.Ytlijcfojokbdpaa
