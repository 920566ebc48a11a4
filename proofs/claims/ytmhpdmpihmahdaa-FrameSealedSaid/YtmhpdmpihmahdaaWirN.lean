/- Contracts of the document's Reader: Text and End. Conditions: where it lies. -/
import Derived.Test.YtmhpdmpihmahdaaWirI
namespace Go.Proofs.Ytmhpdmpihmahdaa
open Go.RowKit Go.Extern.Stop Go.Stop Go.Extern

section
variable {P : Program}
/-- s[lo:hi], empty or not. -/
theorem run_slice_mid0 (W : World) (t e : TypeId) (ht : P.underlying t = some (.slice e)) (hz : ∀ w, (Go.sizeOf e).run P w = .ok 1 w) (b o : Nat) (len cap : Nat) (lo hi : Int) (k n : Nat) (hlo : lo = k) (hhi : hi = (k + n : Nat)) (h2 : k + n ≤ cap) :
    (Instr.slice t (.slice (some ⟨b, o, none⟩) len cap) (some (.int .i64 lo)) (some (.int .i64 hi)) none).run P W = .ok (.slice (some (if cap = k then ⟨b, o, none⟩ else ⟨b, o + k, none⟩)) n (cap - k)) W := by
  subst hlo hhi
  have ht' : P.underlying t = some (.slice (P.elem t)) := by simp [Program.elem, ht]
  have he : P.elem t = e := by simp [Program.elem, ht]
  rw [run_slice_lh W t _ _ _ ht' .i64 .i64 _ _ (by omega) (by omega) (by omega), he, hz]
  have ha : (⟨b, o, none⟩ : Addr).add (k * 1) = ⟨b, o + k, none⟩ := by rw [Nat.mul_one]; exact addr_addB b o k
  simp only [Result.andThen, sliced, Int.toNat_natCast]
  by_cases h : cap = k
  · rw [if_pos h, if_pos h]
    congr 2
    omega
  · rw [if_neg h, if_neg h]
    simp only [Option.map_some, ha]
    congr 2
    omega
end

/-- What the document's Text answers: a new slice of the bytes. -/
def RefTellPost (rr : Nat) (A : Option Addr) (n cap : Nat) (l : List UInt8) (t : WireP.Told) (w : World) (e : Ending) (w' : World) : Prop :=
  ∃ v g, e = .returned v ∧ Row w' w.heap.size 5 g v t.l ∧ RefAt w' rr A n cap l t.at_ t.short ∧ Apart (RF rr) w w'

theorem reftell_short (rr : Nat) (A : Option Addr) (n cap : Nat) (l : List UInt8) (a : Nat) (w : World) (h : RefAt w rr A n cap l a true) :
    Calls Try.prog 51 #[.pointer (some ⟨rr, 0, none⟩)] w (RefTellPost rr A n cap l ⟨[], a, true⟩ w) := by
  have HF : Hid (RefTellPost rr A n cap l ⟨[], a, true⟩ w (.returned (.slice none 0 0)) w) := Lib.hid ⟨_, none, rfl, Row.nil _ _ _, h, Apart.refl _ _⟩
  obtain ⟨k0, k1, k2, f0, f1, f2⟩ := three_cells h.block
  have he : errText true a = atT 4 (a : Nat) := rfl
  have hne := atT_ne' 4 (a : Nat)
  rw [he] at k2
  generalize atT 4 ((a : Nat) : Int) = x at *
  simp only [strV] at k2
  clear h he
  go_enter Try.func51, Try.ntmps51
  go_wp2_with fail
  go_ret
  exact HF.out

set_option maxHeartbeats 400000 in
theorem reftell_end (rr : Nat) (A : Option Addr) (n cap : Nat) (l : List UInt8) (a : Nat) (hout : n ≤ a) (w : World) (h : RefAt w rr A n cap l a false) :
    Calls Try.prog 51 #[.pointer (some ⟨rr, 0, none⟩)] w (RefTellPost rr A n cap l ⟨[], a, true⟩ w) := by
  have H := Lib.hid h
  obtain ⟨k0, k1, k2, f0, f1, f2⟩ := three_cells h.block
  have q3 : decide (n ≤ a) = true := by rw [decide_eq_true_iff]; omega
  have hp := h.place
  have hmo := h.most
  have he : errText false a = [] := rfl
  rw [he] at k2
  simp only [strV] at k2
  have HA := Lib.hid (fun W => at_any 4 (a : Nat) W (by omega) (by omega))
  have HS := Lib.hid (fun (W : World) (hW : RefAt W rr A n cap l a false) => ref_short hW)
  generalize atT 4 ((a : Nat) : Int) = x at *
  simp only [strV] at HA HS
  clear h he hout
  go_enter Try.func51, Try.ntmps51
  go_wp2_with fail
  go_quiet (fail)
  go_wp2_with fail
  refine (HA.out _).mono ?_
  rintro e w1 ⟨rfl, hb1⟩
  replace hb1 : Below w.heap.size w w1 := ⟨hb1.os, hb1.tape, hb1.output, hb1.size, hb1.block⟩
  have h1 := H.out.below hb1
  obtain ⟨g0, g1, g2, g3, g4, g5⟩ := three_cells h1.block
  have HF : Hid (RefTellPost rr A n cap l ⟨[], a, true⟩ w (.returned (.slice none 0 0)) (w1.setCell ⟨rr, 2, none⟩ (.string ⟨x.toArray⟩))) := Lib.hid (by
    obtain ⟨h2, h3⟩ := HS.out w1 h1
    exact ⟨_, none, rfl, Row.nil _ _ _, h2, (Apart.of_below' hb1).trans h3 (fun _ e => .inl e)⟩)
  clear h1 hb1 H HS HA
  go_wp2_with fail
  go_ret
  exact HF.out

theorem ref_byte {w : World} {rr : Nat} {A : Option Addr} {n cap : Nat} {l : List UInt8} {a c : Nat} (h : RefAt w rr A n cap l a false) (ha : a < n) (hc : (l.getD a 0).toNat = c) : ∃ b o, A = some ⟨b, o, none⟩ ∧ w.cell? ⟨b, o + a, none⟩ = some (.int .u8 (c : Nat)) := by
  have hl := h.len
  obtain ⟨b, o, e, _, h2⟩ := h.bytes.at_ (k := a) (by omega)
  refine ⟨b, o, e, ?_⟩
  rw [h2]
  have e9 : l[a].toNat = c := Eq.trans (by simp [List.getD, List.getElem?_eq_getElem (show a < l.length by omega)]) hc
  rw [e9]

set_option maxHeartbeats 400000 in
theorem reftell_out (rr : Nat) (A : Option Addr) (n cap : Nat) (l : List UInt8) (a c : Nat) (hc : (l.getD a 0).toNat = c) (ha : a < n) (hout : n < a + 1 + c) (w : World) (h : RefAt w rr A n cap l a false) :
    Calls Try.prog 51 #[.pointer (some ⟨rr, 0, none⟩)] w (RefTellPost rr A n cap l ⟨[], a, true⟩ w) := by
  have H := Lib.hid h
  obtain ⟨k0, k1, k2, f0, f1, f2⟩ := three_cells h.block
  obtain ⟨b, o, rfl, kb⟩ := ref_byte h ha hc
  have q3 : decide (n ≤ a) = false := by rw [decide_eq_false_iff_not]; omega
  have q4 : decide ((n : Int) < (a : Int) + 1 + (c : Int)) = true := by rw [decide_eq_true_iff]; omega
  have hc2 : c < 256 := by rw [← hc]; exact UInt8.toNat_lt _
  have hp := h.place
  have hmo := h.most
  have he : errText false a = [] := rfl
  rw [he] at k2
  simp only [strV] at k2
  have HA := Lib.hid (fun W => at_any 4 (a : Nat) W (by omega) (by omega))
  have HS := Lib.hid (fun (W : World) (hW : RefAt W rr (some ⟨b, o, none⟩) n cap l a false) => ref_short hW)
  generalize atT 4 ((a : Nat) : Int) = x at *
  simp only [strV] at HA HS
  clear h he hout hc
  go_enter Try.func51, Try.ntmps51
  go_wp2_with fail
  go_quiet (fail)
  go_wp2_with fail
  refine (HA.out _).mono ?_
  rintro e w1 ⟨rfl, hb1⟩
  replace hb1 : Below w.heap.size w w1 := ⟨hb1.os, hb1.tape, hb1.output, hb1.size, hb1.block⟩
  have h1 := H.out.below hb1
  obtain ⟨g0, g1, g2, g3, g4, g5⟩ := three_cells h1.block
  have HF : Hid (RefTellPost rr (some ⟨b, o, none⟩) n cap l ⟨[], a, true⟩ w (.returned (.slice none 0 0)) (w1.setCell ⟨rr, 2, none⟩ (.string ⟨x.toArray⟩))) := Lib.hid (by
    obtain ⟨h2, h3⟩ := HS.out w1 h1
    exact ⟨_, none, rfl, Row.nil _ _ _, h2, (Apart.of_below' hb1).trans h3 (fun _ e => .inl e)⟩)
  clear h1 hb1 H HS HA
  go_wp2_with fail
  go_ret
  exact HF.out

theorem alloc_cells {w : World} {rr : Nat} {x y z : Value} {t : TypeId} (h : w.heap[rr]? = some (.cells #[x, y, z] t (0, 0))) {w1 : World} (hb : Below w.heap.size w w1) : w1.cell? ⟨rr, 0, none⟩ = some x ∧ w1.cell? ⟨rr, 1, none⟩ = some y := by
  have := three_cells ((hb.block rr (lt_of_block h)).trans h)
  exact ⟨this.1, this.2.1⟩

set_option maxHeartbeats 1000000 in
theorem reftell_in (rr : Nat) (A : Option Addr) (n cap : Nat) (l : List UInt8) (a c : Nat) (hc : (l.getD a 0).toNat = c) (ha : a < n) (hin : a + 1 + c ≤ n) (w : World) (h : RefAt w rr A n cap l a false) :
    Calls Try.prog 51 #[.pointer (some ⟨rr, 0, none⟩)] w (RefTellPost rr A n cap l ⟨(l.drop (a + 1)).take c, a + 1 + c, false⟩ w) := by
  have H := Lib.hid h
  obtain ⟨k0, k1, k2, f0, f1, f2⟩ := three_cells h.block
  obtain ⟨b, o, rfl, kb⟩ := ref_byte h ha hc
  have q3 : decide (n ≤ a) = false := by rw [decide_eq_false_iff_not]; omega
  have q4 : decide ((n : Int) < (a : Int) + 1 + (c : Int)) = false := by rw [decide_eq_false_iff_not]; omega
  have hc2 : c < 256 := by rw [← hc]; exact UInt8.toNat_lt _
  have hp := h.place
  have hmo := h.most
  have hl := h.len
  have hca := h.cap_
  have he : errText false a = [] := rfl
  rw [he] at k2
  simp only [strV] at k2
  have hsl := fun W => run_slice_mid0 (P := Try.prog) W 35 5 Try.underlying35 (fun w => by kernel_rfl) b o n cap ((a : Int) + 1) ((a : Int) + 1 + (c : Int)) (a + 1) c (by omega) (by omega) (by omega)
  have Hl : Hid (((l.drop (a + 1)).take c).length = c) := Lib.hid (by rw [List.length_take, List.length_drop]; omega)
  have Hby : Hid (∀ W, Below w.heap.size w W → Bytes W W.heap.size (some (if cap = a + 1 then ⟨b, o, none⟩ else ⟨b, o + (a + 1), none⟩)) ((l.drop (a + 1)).take c)) := Lib.hid fun W hW => by
    by_cases e1 : cap = a + 1
    · have e2 : (l.drop (a + 1)).take c = [] := List.eq_nil_of_length_eq_zero (by rw [List.length_take, List.length_drop]; omega)
      rw [e2]
      exact fun hn => absurd hn (by simp)
    · rw [if_neg e1]
      exact (((h.below hW).bytes).drop (a + 1)).take c
  have HF : Hid (∀ v1 w1 g1 m, Row w1 w.heap.size 5 g1 v1 ((l.drop (a + 1)).take c) → Below w.heap.size w w1 → RefTellPost rr (some ⟨b, o, none⟩) n cap l ⟨(l.drop (a + 1)).take c, a + 1 + c, false⟩ w (.returned v1) ((w1.setCell ⟨rr, 1, none⟩ (.int .i64 ((a : Int) + 1 + (c : Int)))).drewN m)) := Lib.hid fun v1 w1 g1 m hr hb1 => by
    have h1 := H.out.below hb1
    obtain ⟨h2, h3⟩ := ref_move h1 (a + 1 + c) hin
    have e : ((a + 1 + c : Nat) : Int) = (a : Int) + 1 + (c : Int) := by omega
    rw [e] at h2 h3
    have hlt := lt_of_block h.block
    exact ⟨v1, g1, rfl, (hr.apart h3 (fun k hk e => by have e : k = rr := e; have := (hr.lt k hk).1; omega)).drewN m, h2.drewN m, ((Apart.of_below' hb1).trans h3 (fun _ e => .inl e)).drewN m⟩
  have hrr := lt_of_block h.block
  have hS : ∀ W, Below w.heap.size w W → W.cell? ⟨rr, 0, none⟩ = some (.slice (some ⟨b, o, none⟩) n cap) ∧ W.cell? ⟨rr, 1, none⟩ = some (.int .i64 (a : Nat)) := fun W hW => alloc_cells h.block hW
  have HS := Lib.hid hS
  clear h he hc hl hca hin hS
  generalize (l.drop (a + 1)).take c = t at *
  generalize (if cap = a + 1 then (⟨b, o, none⟩ : Addr) else ⟨b, o + (a + 1), none⟩) = A3 at *
  go_enter Try.func51, Try.ntmps51
  go_wp2_with fail
  go_quiet (fail)
  go_wp2_with fail
  go_quiet (fail)
  go_wp2_with fail
  rename_i m1 K1 a1
  rw [World.drewN_drewN]
  generalize m1 + nq = m2 at *
  have hd : Below w.heap.size w (w.drewN m2).drew := (below_drewN (Below.refl _ _) m2).drew
  have ks0 := fun W (hW : Below w.heap.size w W) => (HS.out W hW).1
  have ks1 := fun W (hW : Below w.heap.size w W) => (HS.out W hW).2
  have hw1 : IntKind.i64.wrap ((a : Int) + 1) = (a : Int) + 1 := IntWalk.i64_in _ (by omega)
  have hw2 : IntKind.i64.wrap ((a : Int) + 1 + (c : Int)) = (a : Int) + 1 + (c : Int) := IntWalk.i64_in _ (by omega)
  clear k0 k1 k2 f0 f2 kb q3 q4
  refine wp_region_held_drew (S := fun W => Below w.heap.size w W) (by kernel_rfl) hd (fun _ => ?_)
  refine wpAnyH_take (i := 1) (oi := ?oo1) (v := ?vv1) ?ii1 (by kernel_rfl) ?ff1 (by kernel_rfl) ?qq1 (Or.inl ⟨?ww1, ?yy1⟩) hd ?rr1
  case ii1 => simp only [List.getElem?_toArray, List.getElem?_cons_succ, List.getElem?_cons_zero]; rfl
  case ff1 => kernel_rfl
  case qq1 => exact fun _ _ _ h => h
  case ww1 => rfl
  case yy1 => intro W hW; go_simp <;> with_reducible rfl
  simp only [Act.put, List.setIfInBounds_toArray, List.set_cons_zero, List.set_cons_succ]
  refine wpAnyH_take (i := 2) (oi := ?oo2) (v := ?vv2) ?ii2 (by kernel_rfl) ?ff2 (by kernel_rfl) ?qq2 (Or.inl ⟨?ww2, ?yy2⟩) hd ?rr2
  case ii2 => simp only [List.getElem?_toArray, List.getElem?_cons_succ, List.getElem?_cons_zero]; rfl
  case ff2 => kernel_rfl
  case qq2 => exact fun _ _ _ h => h
  case ww2 => rfl
  case yy2 => intro W hW; go_simp <;> with_reducible rfl
  simp only [Act.put, List.setIfInBounds_toArray, List.set_cons_zero, List.set_cons_succ]
  refine wpAnyH_take (i := 3) (oi := ?oo3) (v := ?vv3) ?ii3 (by kernel_rfl) ?ff3 (by kernel_rfl) ?qq3 (Or.inl ⟨?ww3, ?yy3⟩) hd ?rr3
  case ii3 => simp only [List.getElem?_toArray, List.getElem?_cons_succ, List.getElem?_cons_zero]; rfl
  case ff3 => kernel_rfl
  case qq3 => exact fun _ _ _ h => h
  case ww3 => rfl
  case yy3 => intro W hW; go_simp <;> with_reducible rfl
  simp only [Act.put, List.setIfInBounds_toArray, List.set_cons_zero, List.set_cons_succ]
  refine wpAnyH_take (i := 4) (oi := ?oo4) (v := ?vv4) ?ii4 (by kernel_rfl) ?ff4 (by kernel_rfl) ?qq4 (Or.inl ⟨?ww4, ?yy4⟩) hd ?rr4
  case ii4 => simp only [List.getElem?_toArray, List.getElem?_cons_succ, List.getElem?_cons_zero]; rfl
  case ff4 => kernel_rfl
  case qq4 => exact fun _ _ _ h => h
  case ww4 => rfl
  case yy4 => intro W hW; go_simp <;> with_reducible rfl
  simp only [Act.put, List.setIfInBounds_toArray, List.set_cons_zero, List.set_cons_succ]
  refine wpAnyH_take (i := 5) (oi := ?oo5) (v := ?vv5) ?ii5 (by kernel_rfl) ?ff5 (by kernel_rfl) ?qq5 (Or.inl ⟨?ww5, ?yy5⟩) hd ?rr5
  case ii5 => simp only [List.getElem?_toArray, List.getElem?_cons_succ, List.getElem?_cons_zero]; rfl
  case ff5 => kernel_rfl
  case qq5 => exact fun _ _ _ h => h
  case ww5 => rfl
  case yy5 => intro W hW; go_simp <;> with_reducible rfl
  simp only [Act.put, List.setIfInBounds_toArray, List.set_cons_zero, List.set_cons_succ]
  refine wpAnyH_take (i := 6) (oi := ?oo6) (v := ?vv6) ?ii6 (by kernel_rfl) ?ff6 (by kernel_rfl) ?qq6 (Or.inl ⟨?ww6, ?yy6⟩) hd ?rr6
  case ii6 => simp only [List.getElem?_toArray, List.getElem?_cons_succ, List.getElem?_cons_zero]; rfl
  case ff6 => kernel_rfl
  case qq6 => exact fun _ _ _ h => h
  case ww6 => rfl
  case yy6 => intro W hW; go_simp <;> with_reducible rfl
  simp only [Act.put, List.setIfInBounds_toArray, List.set_cons_zero, List.set_cons_succ]
  refine wpAnyH_take (i := 7) (oi := ?oo7) (v := ?vv7) ?ii7 (by kernel_rfl) ?ff7 (by kernel_rfl) ?qq7 (Or.inl ⟨?ww7, ?yy7⟩) hd ?rr7
  case ii7 => simp only [List.getElem?_toArray, List.getElem?_cons_succ, List.getElem?_cons_zero]; rfl
  case ff7 => kernel_rfl
  case qq7 => exact fun _ _ _ h => h
  case ww7 => rfl
  case yy7 => intro W hW; go_simp <;> with_reducible rfl
  simp only [Act.put, List.setIfInBounds_toArray, List.set_cons_zero, List.set_cons_succ]
  refine wpAnyH_take (i := 8) (oi := ?oo8) (v := ?vv8) ?ii8 (by kernel_rfl) ?ff8 (by kernel_rfl) ?qq8 (Or.inl ⟨?ww8, ?yy8⟩) hd ?rr8
  case ii8 => simp only [List.getElem?_toArray, List.getElem?_cons_succ, List.getElem?_cons_zero]; rfl
  case ff8 => kernel_rfl
  case qq8 => exact fun _ _ _ h => h
  case ww8 => rfl
  case yy8 => intro W hW; go_simp <;> with_reducible rfl
  simp only [Act.put, List.setIfInBounds_toArray, List.set_cons_zero, List.set_cons_succ]
  refine wpAnyH_take (i := 9) (oi := ?oo9) (v := ?vv9) ?ii9 (by kernel_rfl) ?ff9 (by kernel_rfl) ?qq9 (Or.inl ⟨?ww9, ?yy9⟩) hd ?rr9
  case ii9 => simp only [List.getElem?_toArray, List.getElem?_cons_succ, List.getElem?_cons_zero]; rfl
  case ff9 => kernel_rfl
  case qq9 => exact fun _ _ _ h => h
  case ww9 => rfl
  case yy9 => intro W hW; go_simp <;> with_reducible rfl
  simp only [Act.put, List.setIfInBounds_toArray, List.set_cons_zero, List.set_cons_succ]
  refine wpAnyH_take (i := 10) (oi := ?oo10) (v := ?vv10) ?ii10 (by kernel_rfl) ?ff10 (by kernel_rfl) ?qq10 (Or.inl ⟨?ww10, ?yy10⟩) hd ?rr10
  case ii10 => simp only [List.getElem?_toArray, List.getElem?_cons_succ, List.getElem?_cons_zero]; rfl
  case ff10 => kernel_rfl
  case qq10 => exact fun _ _ _ h => h
  case ww10 => rfl
  case yy10 => intro W hW; go_simp <;> with_reducible rfl
  simp only [Act.put, List.setIfInBounds_toArray, List.set_cons_zero, List.set_cons_succ]
  refine wpAnyH_take (i := 11) (oi := ?oo11) (v := ?vv11) ?ii11 (by kernel_rfl) ?ff11 (by kernel_rfl) ?qq11 (Or.inl ⟨?ww11, ?yy11⟩) hd ?rr11
  case ii11 => simp only [List.getElem?_toArray, List.getElem?_cons_succ, List.getElem?_cons_zero]; rfl
  case ff11 => kernel_rfl
  case qq11 => exact fun _ _ _ h => h
  case ww11 => rfl
  case yy11 => intro W hW; go_simp <;> with_reducible rfl
  simp only [Act.put, List.setIfInBounds_toArray, List.set_cons_zero, List.set_cons_succ]
  refine wpAnyH_take (i := 12) (oi := ?oo12) (v := ?vv12) ?ii12 (by kernel_rfl) ?ff12 (by kernel_rfl) ?qq12 (Or.inl ⟨?ww12, ?yy12⟩) hd ?rr12
  case ii12 => simp only [List.getElem?_toArray, List.getElem?_cons_succ, List.getElem?_cons_zero]; rfl
  case ff12 => kernel_rfl
  case qq12 => exact fun _ _ _ h => h
  case ww12 => rfl
  case yy12 => intro W hW; go_simp <;> with_reducible rfl
  simp only [Act.put, List.setIfInBounds_toArray, List.set_cons_zero, List.set_cons_succ]
  refine wpAnyH_take (i := 13) (oi := ?oo13) (v := ?vv13) ?ii13 (by kernel_rfl) ?ff13 (by kernel_rfl) ?qq13 (Or.inl ⟨?ww13, ?yy13⟩) hd ?rr13
  case ii13 => simp only [List.getElem?_toArray, List.getElem?_cons_succ, List.getElem?_cons_zero]; rfl
  case ff13 => kernel_rfl
  case qq13 => exact fun _ _ _ h => h
  case ww13 => rfl
  case yy13 => intro W hW; go_simp <;> with_reducible rfl
  simp only [Act.put, List.setIfInBounds_toArray, List.set_cons_zero, List.set_cons_succ]
  refine wpAnyH_take (i := 14) (oi := ?oo14) (v := ?vv14) ?ii14 (by kernel_rfl) ?ff14 (by kernel_rfl) ?qq14 (Or.inl ⟨?ww14, ?yy14⟩) hd ?rr14
  case ii14 => simp only [List.getElem?_toArray, List.getElem?_cons_succ, List.getElem?_cons_zero]; rfl
  case ff14 => kernel_rfl
  case qq14 => exact fun _ _ _ h => h
  case ww14 => rfl
  case yy14 => intro W hW; go_simp <;> with_reducible rfl
  simp only [Act.put, List.setIfInBounds_toArray, List.set_cons_zero, List.set_cons_succ]
  refine wpAnyH_take (i := 15) (oi := ?oo15) (v := ?vv15) ?ii15 (by kernel_rfl) ?ff15 (by kernel_rfl) ?qq15 (Or.inl ⟨?ww15, ?yy15⟩) hd ?rr15
  case ii15 => simp only [List.getElem?_toArray, List.getElem?_cons_succ, List.getElem?_cons_zero]; rfl
  case ff15 => kernel_rfl
  case qq15 => exact fun _ _ _ h => h
  case ww15 => rfl
  case yy15 => intro W hW; go_simp <;> with_reducible rfl
  simp only [Act.put, List.setIfInBounds_toArray, List.set_cons_zero, List.set_cons_succ]
  refine wpAnyH_take (i := 16) (oi := ?oo16) (v := ?vv16) ?ii16 (by kernel_rfl) ?ff16 (by kernel_rfl) ?qq16 (Or.inl ⟨?ww16, ?yy16⟩) hd ?rr16
  case ii16 => simp only [List.getElem?_toArray, List.getElem?_cons_succ, List.getElem?_cons_zero]; rfl
  case ff16 => kernel_rfl
  case qq16 => exact fun _ _ _ h => h
  case ww16 => rfl
  case yy16 => intro W hW; go_simp <;> with_reducible rfl
  simp only [Act.put, List.setIfInBounds_toArray, List.set_cons_zero, List.set_cons_succ]
  refine wpAnyH_take (i := 17) (oi := ?oo17) (v := ?vv17) ?ii17 (by kernel_rfl) ?ff17 (by kernel_rfl) ?qq17 (Or.inl ⟨?ww17, ?yy17⟩) hd ?rr17
  case ii17 => simp only [List.getElem?_toArray, List.getElem?_cons_succ, List.getElem?_cons_zero]; rfl
  case ff17 => kernel_rfl
  case qq17 => exact fun _ _ _ h => h
  case ww17 => rfl
  case yy17 => intro W hW; go_simp <;> with_reducible rfl
  simp only [Act.put, List.setIfInBounds_toArray, List.set_cons_zero, List.set_cons_succ]
  refine wpAnyH_ready (rs := [0]) (by kernel_rfl) (by simp) ?_
  refine AllReadyH.cons (o := ?oo18) ?ii18 (fun K hK => ?_) AllReadyH.nil
  case ii18 => simp only [List.getElem?_toArray, List.getElem?_cons_zero]; rfl
  go_simp
  have hd1 : Below w.heap.size w ((w.drewN m2).drew.alloc (.cells #[] 5)) := hd.alloc hd.size _
  refine hK.out _ _ hd1 (fun _ => ?_)
  clear hK K
  have HL := Lib.hid (Row.lit (w.drewN m2).drew w.heap.size 5 (Nat.le_refl _))
  refine wpAnyH_ready (rs := [18]) (by kernel_rfl) (by simp) ?_
  refine AllReadyH.cons (o := ?oo19) ?ii19 (fun K hK => ?_) AllReadyH.nil
  case ii19 => simp only [List.getElem?_toArray, List.getElem?_cons_succ, List.getElem?_cons_zero]; rfl
  refine step_append_r rfl (.tmp 64) (.tmp 81) _ rfl w.heap.size 5 (.int .u8 0) Try.underlying35 infoB rfl _ _ [] rfl HL.out _ (some A3) c _ t rfl Hl.out (Hby.out _ hd1) (by simp; omega) hd1.size ?_
  intro v5 w5 g5 hr5 hm5 ha5
  have hb5 : Below w.heap.size w w5 := hd1.trans (ha5.below hd1.size (fun k e => by injection e with e; show w.heap.size ≤ k; have : (w.drewN m2).drew.heap.size = w.heap.size := rfl; omega))
  have HFF := Lib.hid (HF.out v5 w5 g5 0 (by simpa using hr5) hb5)
  obtain ⟨A5, n5, c5, rfl⟩ := hr5.slice
  have k51 := (HS.out w5 hb5).2
  have Hb5 := Lib.hid hb5
  have f51 : w5.frozen? ⟨rr, 1, none⟩ = false := by rw [← f1]; exact hb5.frozen (p := ⟨rr, 1, none⟩) hrr
  clear hr5 hm5 ha5 hb5
  go_wp2_with fail
  refine hK.out _ _ Hb5.out (fun _ => ?_)
  clear hK K
  refine wpAnyH_take (i := 19) (oi := ?oo20) (v := ?vv20) ?ii20 (by kernel_rfl) ?ff20 (by kernel_rfl) ?qq20 (Or.inl ⟨?ww20, ?yy20⟩) Hb5.out ?rr20
  case ii20 => simp only [List.getElem?_toArray, List.getElem?_cons_succ, List.getElem?_cons_zero]; rfl
  case ff20 => kernel_rfl
  case qq20 => exact fun _ _ _ h => h
  case ww20 => rfl
  case yy20 => intro W hW; go_simp <;> with_reducible rfl
  simp only [Act.put, List.setIfInBounds_toArray, List.set_cons_zero, List.set_cons_succ]
  refine wpAnyH_done (by kernel_rfl) ?_ _
  clear ks0 ks1
  go_wp2_with fail
  go_ret
  exact HFF.out

/-- The document's Text. -/
theorem reftell_any (rr : Nat) (A : Option Addr) (n cap : Nat) (l : List UInt8) (a : Nat) (sh : Bool) (w : World) (h : RefAt w rr A n cap l a sh) :
    Calls Try.prog 51 #[.pointer (some ⟨rr, 0, none⟩)] w (RefTellPost rr A n cap l (WireP.tell l a sh) w) := by
  have hl := h.len
  cases sh with
  | true =>
    have e : WireP.tell l a true = ⟨[], a, true⟩ := by
      unfold WireP.tell
      rw [if_pos (.inl rfl)]
    rw [e]
    exact reftell_short rr A n cap l a w h
  | false =>
    by_cases ha : a < n
    · by_cases hin : a + 1 + (l.getD a 0).toNat ≤ n
      · have e : WireP.tell l a false = ⟨(l.drop (a + 1)).take (l.getD a 0).toNat, a + 1 + (l.getD a 0).toNat, false⟩ := by
          unfold WireP.tell
          rw [if_neg (by simp; omega), if_neg (by omega)]
        rw [e]
        exact reftell_in rr A n cap l a _ rfl ha hin w h
      · have e : WireP.tell l a false = ⟨[], a, true⟩ := by
          unfold WireP.tell
          rw [if_neg (by simp; omega), if_pos (by omega)]
        rw [e]
        exact reftell_out rr A n cap l a _ rfl ha (by omega) w h
    · have e : WireP.tell l a false = ⟨[], a, true⟩ := by
        unfold WireP.tell
        rw [if_pos (.inr (by omega))]
      rw [e]
      exact reftell_end rr A n cap l a (by omega) w h

/-- What the document's End answers. -/
def RefEndPost (x : List UInt8) (w : World) (e : Ending) (w' : World) : Prop := e = .returned (strV x) ∧ Below w.heap.size w w'

theorem refend_any (rr : Nat) (A : Option Addr) (n cap : Nat) (l : List UInt8) (a : Nat) (sh : Bool) (w : World) (h : RefAt w rr A n cap l a sh) :
    Calls Try.prog 52 #[.pointer (some ⟨rr, 0, none⟩)] w (RefEndPost (endText sh a n) w) := by
  obtain ⟨k0, k1, k2, f0, f1, f2⟩ := three_cells h.block
  have hp := h.place
  have hmo := h.most
  cases sh with
  | true =>
    have e1 : endText true a n = errText true a := rfl
    have hne : (errText true a).isEmpty = false := atT_ne' 4 (a : Nat)
    rw [e1]
    generalize errText true a = x at *
    have HF : Hid (∀ m, RefEndPost x w (.returned (strV x)) (w.drewN m)) := Lib.hid fun m => ⟨rfl, below_drewN (Below.refl _ _) m⟩
    simp only [strV] at k2 HF
    clear h e1
    go_enter Try.func52, Try.ntmps52
    go_wp2_with fail
    go_quiet (fail)
    go_wp2_with fail
    go_ret
    exact HF.out _
  | false =>
    have he : errText false a = [] := rfl
    rw [he] at k2
    simp only [strV] at k2
    by_cases hlt : a < n
    · have q : decide (a < n) = true := decide_eq_true hlt
      have e1 : endText false a n = atT 5 (a : Nat) := by simp [endText, hlt]
      have HA := Lib.hid (fun W => at_any 5 (a : Nat) W (by omega) (by omega))
      rw [e1]
      generalize atT 5 ((a : Nat) : Int) = x at *
      have HF : Hid (∀ m w1, Below (w.drewN m).heap.size (w.drewN m) w1 → RefEndPost x w (.returned (strV x)) w1) := Lib.hid fun m w1 hb => ⟨rfl, hb.os, hb.tape, hb.output, hb.size, hb.block⟩
      simp only [strV] at HA HF
      clear h e1 he
      go_enter Try.func52, Try.ntmps52
      go_wp2_with fail
      go_quiet (fail)
      go_wp2_with fail
      refine (HA.out _).mono ?_
      rintro e w1 ⟨rfl, hb1⟩
      have HFF := Lib.hid (HF.out _ w1 hb1)
      clear hb1
      go_wp2_with fail
      go_ret
      exact HFF.out
    · have q : decide (a < n) = false := decide_eq_false hlt
      have e1 : endText false a n = [] := by simp [endText, hlt]
      rw [e1]
      have HF : Hid (∀ m, RefEndPost [] w (.returned (.string ⟨#[]⟩)) (w.drewN m)) := Lib.hid fun m => ⟨rfl, below_drewN (Below.refl _ _) m⟩
      clear h e1 he
      go_enter Try.func52, Try.ntmps52
      go_wp2_with fail
      go_quiet (fail)
      go_wp2_with fail
      go_ret
      exact HF.out _
end Go.Proofs.Ytmhpdmpihmahdaa
