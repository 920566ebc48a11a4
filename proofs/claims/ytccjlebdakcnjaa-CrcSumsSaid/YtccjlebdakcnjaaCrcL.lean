/- CrcSums: the walk of the law at bytes in memory. Conditions: where the bytes lie. -/
import Derived.Test.YtccjlebdakcnjaaCrcK
import Derived.Lib.AppendStr
import Derived.Deep.RegionHeld3
namespace Go.Proofs.Ytccjlebdakcnjaa
open Go.RowKit

def spare : List UInt8 := [115, 112, 97, 114, 101]
theorem strCells_b (l : List UInt8) : Lib.strCells ⟨l.toArray⟩ = bytesV l := by simp [Lib.strCells, bytesV]

/-- What both Opens answer of the bytes l: the same. -/
def openV (l : List UInt8) (p : List UInt8) (b : Bool) : Prop := (b = true ∧ l = CrcP.seal4 p) ∨ (b = false ∧ p = [] ∧ ¬ isSealed l)
theorem openV_ex (l : List UInt8) : ∃ p b, openV l p b := by
  by_cases h : isSealed l
  · obtain ⟨p, h⟩ := h
    exact ⟨p, true, .inl ⟨rfl, h⟩⟩
  · exact ⟨[], false, .inr ⟨rfl, rfl, h⟩⟩

/-- Open's answer, whichever it is: a slice that reads as p, and b. -/
def OpenedPost (p : List UInt8) (b : Bool) (W : World) (e : Ending) (w' : World) : Prop :=
  ∃ A cap, e = .returned (.tuple #[.slice A p.length cap, .bool b]) ∧ Bytes w' w'.heap.size A p ∧ Below W.heap.size W w'
theorem opened_post {l p : List UInt8} {b : Bool} {W w' : World} {e : Ending} (h : openV l p b) (ho : OpenPost l W e w') : OpenedPost p b W e w' := by
  rcases ho with ⟨p', v, h1, h2, h3, h4⟩ | ⟨h1, h2, h4⟩
  · rcases h with ⟨rfl, h⟩ | ⟨_, _, h⟩
    · obtain rfl := seal4_inj (h1.symm.trans h)
      obtain ⟨A, cap, rfl, -, -, hby, -⟩ := own_bytes h3
      exact ⟨A, cap, h2, hby, h4⟩
    · exact absurd ⟨p', h1⟩ h
  · rcases h with ⟨_, h⟩ | ⟨rfl, rfl, _⟩
    · exact absurd ⟨p, h⟩ h1
    · exact ⟨none, 0, h2, Bytes.none_, h4⟩

theorem sum_n (A : Option Addr) (l : List UInt8) (n cap : Nat) (hn : l.length = n) (w : World) (hl : n ≤ 1000000) (h : Bytes w w.heap.size A l) :
    Calls Try.prog 12 #[.slice A n cap] w fun e w' => e = .returned (.int .u32 (CrcP.sum l : Nat)) ∧ w = w' := by
  subst hn
  exact sum_any A l cap w (by omega) h
theorem refsum_n (A : Option Addr) (l : List UInt8) (n cap : Nat) (hn : l.length = n) (w : World) (hl : n ≤ 1000000) (h : Bytes w w.heap.size A l) :
    Calls Try.prog 13 #[.slice A n cap] w fun e w' => e = .returned (.int .u32 (CrcP.sum l : Nat)) ∧ w = w' := by
  subst hn
  exact refsum_any A l cap w (by omega) h

theorem str_spare (l : List UInt8) : ((strB (l ++ spare)).toList == (strB l ++ { data := #[115, 112, 97, 114, 101] }).toList) = true := by
  have e : (strB l ++ ({ data := #[115, 112, 97, 114, 101] } : ByteArray)).toList = l ++ spare := by
    rw [ByteArray.toList_eq, ByteArray.data_append]
    simp [strB, spare]
  rw [e, strB_toList]
  simp

/-- A narrower condition on the worlds serves from here on. -/
theorem wpAnyH_mono {P : Program} {md : Region.Mode} {ops : Array Oper} {Q : Exit → Act → World → Prop} {S S' : World → Prop} (hi : ∀ w, S' w → S w) :
    ∀ (fuel : Nat) (listed : Array Bool) (a : Act) (w : World), wpAnyH P md ops Q S' fuel listed a w → wpAnyH P md ops Q S fuel listed a w
  | 0, _, _, _, h => h
  | fuel + 1, _, _, _, h => ⟨h.1, fun i hr => wpOp_mono (fun a' w' h' => ⟨hi _ h'.1, wpAnyH_mono hi fuel _ a' w' h'.2⟩) (h.2 i hr)⟩

set_option maxRecDepth 100000 in
set_option maxHeartbeats 2000000 in
theorem sums_few (A : Option Addr) (l : List UInt8) (n cap : Nat) (hn : l.length = n) (hcap : n ≤ cap) (w : World) (h : Bytes w w.heap.size A l) (hn2 : n ≤ 5000) :
    Calls Try.prog 3 #[.slice A n cap] w (AwakePost w) := by
  have HA := Lib.hid (awake_any w)
  have Hn := Lib.hid hn
  have H := Lib.hid h
  obtain ⟨i0, hi, hz0, hz1, hz2⟩ := info_parts infoB
  obtain ⟨p, b, hpb⟩ := openV_ex l
  have Hpb := Lib.hid hpb
  clear hn h hpb
  go_enter Try.func3, Try.ntmps3
  go_wp2_with fail
  refine HA.out.mono ?_
  rintro e w1 ⟨rfl, hb1⟩
  have Hb1 := Lib.hid hb1
  clear hb1
  go_wp2_with (first
    | (at_make
       refine wpList_make_own _ rfl _ _ _ rfl w1.heap.size 5 i0 (.int .u8 0) 1 Try.underlying22 hi hz0 hz1 .i64 .i64 _ (n + 9) rfl rfl ?c1 ?c2 ?c3 ?c4 ?_
       case c1 => go_num
       case c2 => rw [hz2]; omega
       case c3 => unfold maxLen; omega
       case c4 => exact Nat.le_refl _
       intro w2 hown2 hg2
       have Ho2 := Lib.hid hown2
       have Hb2 := Lib.hid ((Below.refl w1.heap.size w1).grown hg2 (Nat.le_refl _) (by simp))
       clear hown2 hg2)
    | (at_builtin
       refine wpList_append_b rfl (.tmp 16) (.tmp 17) _ rfl w1.heap.size 5 (.int .u8 0) Try.underlying22 infoB rfl _ 0 [] rfl Ho2.out w.heap.size A n cap l rfl Hn.out ((H.out.below Hb1.out (Nat.le_refl _)).below Hb2.out Hb1.out.size) (by omega) Hb2.out.size ?_
       intro v3 w3 hown3 hgx hb3
       clear hgx
       have Ho3 : Hid (w3.ownsRow w1.heap.size 5 1 v3 n (bytesV l)) := Lib.hid (by simpa using hown3)
       have Hb3 := Lib.hid (Hb2.out.trans hb3)
       clear hown3 hb3)
    | (at_builtin
       refine Lib.wpList_append_own_string _ rfl (.tmp 18) (.const (.string ⟨#[115, 112, 97, 114, 101]⟩)) _ _ rfl w1.heap.size 5 i0 Try.underlying22 Try.underlying9 hi hz0 hz1 hz2 _ n (bytesV l) rfl Ho3.out ⟨spare.toArray⟩ rfl ?d1 ?d2 ?d3 ?_
       case d1 => show n + 5 ≤ maxLen; unfold maxLen; omega
       case d2 => show n + 5 ≤ _; omega
       case d3 => exact Hb3.out.size
       intro v4 w4 hown4 hg4 hiff
       clear hiff
       rw [strCells_b, ← bytesV_append] at hown4
       have hb4 := Hb3.out.grown hg4 Hb3.out.size (fun k hk => (Ho3.out.lt k hk).1)
       obtain ⟨A4, cap4, rfl, hl4, hc4, hby4, -⟩ := own_bytes hown4
       have Hb4 := Lib.hid (Hb1.out.trans (hb4.mono Hb1.out.size))
       have Hby4 := Lib.hid hby4
       clear hown4 hg4 hb4 hl4 hby4)
    | fail)
  have hc4' : n ≤ cap4 := Nat.le_trans (Nat.le_add_right _ _) hc4
  have hsl := fun W => run_slice_to (P := Try.prog) W 22 5 Try.underlying22 (fun w => by kernel_rfl) A4 (n + spare.length) cap4 (n : Int) (by omega) (by omega)
  simp only [Int.toNat_natCast] at hsl
  have Hin : Hid (Bytes w4 w4.heap.size A4 l) := Lib.hid (by simpa using Hby4.out.take l.length)
  clear hc4 hi hz0 hz1 hz2 Ho2 Hb2 Ho3 Hb3
  refine ((open_any A4 l n cap4 Hn.out w4 (by omega) hc4' Hin.out).mono fun _ _ => opened_post Hpb.out).mono ?_
  rintro e w5 ⟨A5, cap5, rfl, hby5, hb5⟩
  have Hby5 := Lib.hid hby5
  have Hb5 := Lib.hid hb5
  have Hw5 := Lib.hid (Hb4.out.trans (hb5.mono Hb4.out.size))
  clear hby5 hb5
  go_wp2_with fail
  refine ((refopen_any A l n cap Hn.out w5 (by omega) hcap ((H.out.below Hw5.out (Nat.le_refl _)).more Hw5.out.size)).mono fun _ _ => opened_post Hpb.out).mono ?_
  rintro e w6 ⟨A6, cap6, rfl, hby6, hb6⟩
  have Hby6 := Lib.hid hby6
  have Hb56 := Lib.hid hb6
  have Hw6 := Lib.hid (Hw5.out.trans (hb6.mono Hw5.out.size))
  clear hby6 hb6
  go_wp2_with fail
  /- what the last statement needs, in whatever world behind w6 -/
  have hl46 : Hid (Below w4.heap.size w4 w6) := Lib.hid (Hb5.out.trans (Hb56.out.mono Hb5.out.size))
  have Hb : Hid (∀ W, Below w6.heap.size w6 W → Bytes W W.heap.size A l) := Lib.hid fun W hW => ((H.out.below Hw6.out (Nat.le_refl _)).below hW Hw6.out.size).more (Nat.le_trans Hw6.out.size hW.size)
  have Hi : Hid (∀ W, Below w6.heap.size w6 W → Bytes W W.heap.size A4 (l ++ spare)) := Lib.hid fun W hW => ((Hby4.out.below hl46.out (Nat.le_refl _)).below hW hl46.out.size).more (Nat.le_trans hl46.out.size hW.size)
  have Hi2 : Hid (∀ W, Below w6.heap.size w6 W → Bytes W W.heap.size A4 l) := Lib.hid fun W hW => by simpa using (Hi.out W hW).take l.length
  have Ha : Hid (∀ W, Below w6.heap.size w6 W → Bytes W W.heap.size A5 p) := Lib.hid fun W hW => ((Hby5.out.below Hb56.out (Nat.le_refl _)).below hW Hb56.out.size).more (Nat.le_trans Hb56.out.size hW.size)
  have Hc : Hid (∀ W, Below w6.heap.size w6 W → Bytes W W.heap.size A6 p) := Lib.hid fun W hW => (Hby6.out.below hW (Nat.le_refl _)).more hW.size
  clear H Hby4 Hin Hby5 Hby6 Hpb
  have hno : ¬ (9223372036854775807 < (strB l).size + 5) := by
    have e : (strB l).size = l.length := by simp [strB, ByteArray.size]
    rw [e, Hn.out]; omega
  have heq : ((strB (l ++ spare)).toList == (strB l ++ { data := #[115, 112, 97, 114, 101] }).toList) = true := str_spare l
  have hd : Below w6.heap.size w6 w6.drew := (Below.refl w6.heap.size w6).drew
  refine wp_region_held_drew (S := fun W => Below w6.heap.size w6 W) (by kernel_rfl) hd (fun _ => ?_)
  refine wpAnyH_take (i := 0) (oi := ?o0) (v := ?v0) ?i0 (by kernel_rfl) ?f0 (by kernel_rfl) ?q0 (Or.inl ⟨?w0, ?y0⟩) hd ?r0
  case i0 => simp only [List.getElem?_toArray, List.getElem?_cons_zero]; rfl
  case f0 => kernel_rfl
  case q0 => exact fun _ _ _ h => h
  case w0 => rfl
  case y0 => intro W hW; go_simp <;> with_reducible rfl
  simp only [Act.put, List.setIfInBounds_toArray, List.set_cons_zero, List.set_cons_succ]
  refine wpAnyH_take (i := 1) (oi := ?o1) (v := ?v1) ?i1 (by kernel_rfl) ?f1 (by kernel_rfl) ?q1 (Or.inl ⟨?w1, ?y1⟩) hd ?r1
  case i1 => simp only [List.getElem?_toArray, List.getElem?_cons_succ, List.getElem?_cons_zero]; rfl
  case f1 => kernel_rfl
  case q1 => exact fun _ _ _ h => h
  case w1 => rfl
  case y1 => intro W hW; go_simp <;> with_reducible rfl
  simp only [Act.put, List.setIfInBounds_toArray, List.set_cons_zero, List.set_cons_succ]
  refine wpAnyH_take (i := 2) (oi := ?o2) (v := ?v2) ?i2 (by kernel_rfl) ?f2 (by kernel_rfl) ?q2 (Or.inl ⟨?w2, ?y2⟩) hd ?r2
  case i2 => simp only [List.getElem?_toArray, List.getElem?_cons_succ, List.getElem?_cons_zero]; rfl
  case f2 => kernel_rfl
  case q2 => exact fun _ _ _ h => h
  case w2 => rfl
  case y2 => intro W hW; go_simp <;> with_reducible rfl
  simp only [Act.put, List.setIfInBounds_toArray, List.set_cons_zero, List.set_cons_succ]
  refine wpAnyH_take (i := 3) (oi := ?o3) (v := ?v3) ?i3 (by kernel_rfl) ?f3 (by kernel_rfl) ?q3 (Or.inl ⟨?w3, ?y3⟩) hd ?r3
  case i3 => simp only [List.getElem?_toArray, List.getElem?_cons_succ, List.getElem?_cons_zero]; rfl
  case f3 => kernel_rfl
  case q3 => exact fun _ _ _ h => h
  case w3 => rfl
  case y3 => intro W hW; go_simp <;> with_reducible rfl
  simp only [Act.put, List.setIfInBounds_toArray, List.set_cons_zero, List.set_cons_succ]
  refine wpAnyH_take (i := 5) (oi := ?o5) (v := ?v5) ?i5 (by kernel_rfl) ?f5 (by kernel_rfl) ?q5 (Or.inl ⟨?w5, ?y5⟩) hd ?r5
  case i5 => simp only [List.getElem?_toArray, List.getElem?_cons_succ, List.getElem?_cons_zero]; rfl
  case f5 => kernel_rfl
  case q5 => exact fun _ _ _ h => h
  case w5 => rfl
  case y5 => intro W hW; go_simp <;> with_reducible rfl
  simp only [Act.put, List.setIfInBounds_toArray, List.set_cons_zero, List.set_cons_succ]
  refine wpAnyH_ready (rs := [4]) (by kernel_rfl) (by simp) ?_
  refine AllReadyH.cons (o := ?o4) ?i4 (fun K hK => ?_) AllReadyH.nil
  case i4 => simp only [List.getElem?_toArray, List.getElem?_cons_succ, List.getElem?_cons_zero]; rfl
  go_simp
  refine (sum_n A4 l n cap4 Hn.out _ (by omega) (Hi2.out _ hd)).mono ?_
  rintro e w' ⟨rfl, rfl⟩
  go_wp2_with fail
  refine hK.out _ _ hd (fun _ => ?_)
  clear hK K
  refine wpAnyH_ready (rs := [6]) (by kernel_rfl) (by simp) ?_
  refine AllReadyH.cons (o := ?o6) ?i6 (fun K hK => ?_) AllReadyH.nil
  case i6 => simp only [List.getElem?_toArray, List.getElem?_cons_succ, List.getElem?_cons_zero]; rfl
  go_simp
  refine (refsum_n A l n cap Hn.out _ (by omega) (Hb.out _ hd)).mono ?_
  rintro e w' ⟨rfl, rfl⟩
  go_wp2_with fail
  refine hK.out _ _ hd (fun _ => ?_)
  clear hK K
  refine wpAnyH_take (i := 7) (oi := ?o7) (v := ?v7) ?i7 (by kernel_rfl) ?f7 (by kernel_rfl) ?q7 (Or.inl ⟨?w7, ?y7⟩) hd ?r7
  case i7 => simp only [List.getElem?_toArray, List.getElem?_cons_succ, List.getElem?_cons_zero]; rfl
  case f7 => kernel_rfl
  case q7 => exact fun _ _ _ h => h
  case w7 => rfl
  case y7 => intro W hW; go_simp <;> with_reducible rfl
  simp only [Act.put, List.setIfInBounds_toArray, List.set_cons_zero, List.set_cons_succ]
  refine wpAnyH_take (i := 8) (oi := ?o8) (v := ?v8) ?i8 (by kernel_rfl) ?f8 (by kernel_rfl) ?q8 (Or.inl ⟨?w8, ?y8⟩) hd ?r8
  case i8 => simp only [List.getElem?_toArray, List.getElem?_cons_succ, List.getElem?_cons_zero]; rfl
  case f8 => kernel_rfl
  case q8 => exact fun _ _ _ h => h
  case w8 => rfl
  case y8 => intro W hW; go_simp <;> with_reducible rfl
  simp only [Act.put, List.setIfInBounds_toArray, List.set_cons_zero, List.set_cons_succ]
  refine wpAnyH_take (i := 9) (oi := ?o9) (v := ?v9) ?i9 (by kernel_rfl) ?f9 (by kernel_rfl) ?q9 (Or.inl ⟨?w9, ?y9⟩) hd ?r9
  case i9 => simp only [List.getElem?_toArray, List.getElem?_cons_succ, List.getElem?_cons_zero]; rfl
  case f9 => kernel_rfl
  case q9 => exact fun _ _ _ h => h
  case w9 => rfl
  case y9 => intro W hW; go_simp <;> with_reducible rfl
  simp only [Act.put, List.setIfInBounds_toArray, List.set_cons_zero, List.set_cons_succ]
  refine wpAnyH_take (i := 10) (oi := ?o10) (v := ?v10) ?i10 (by kernel_rfl) ?f10 (by kernel_rfl) ?q10 (Or.inl ⟨?w10, ?y10⟩) hd ?r10
  case i10 => simp only [List.getElem?_toArray, List.getElem?_cons_succ, List.getElem?_cons_zero]; rfl
  case f10 => kernel_rfl
  case q10 => exact fun _ _ _ h => h
  case w10 => rfl
  case y10 => intro W hW; go_simp <;> with_reducible rfl
  simp only [Act.put, List.setIfInBounds_toArray, List.set_cons_zero, List.set_cons_succ]
  refine wpAnyH_take (i := 11) (oi := ?o11) (v := ?v11) ?i11 (by kernel_rfl) ?f11 (by kernel_rfl) ?q11 (Or.inl ⟨?w11, ?y11⟩) hd ?r11
  case i11 => simp only [List.getElem?_toArray, List.getElem?_cons_succ, List.getElem?_cons_zero]; rfl
  case f11 => kernel_rfl
  case q11 => exact fun _ _ _ h => h
  case w11 => rfl
  case y11 => intro W hW; go_simp <;> with_reducible rfl
  simp only [Act.put, List.setIfInBounds_toArray, List.set_cons_zero, List.set_cons_succ]
  refine wpAnyH_take (i := 12) (oi := ?o12) (v := ?v12) ?i12 (by kernel_rfl) ?f12 (by kernel_rfl) ?q12 (Or.inl ⟨?w12, ?y12⟩) hd ?r12
  case i12 => simp only [List.getElem?_toArray, List.getElem?_cons_succ, List.getElem?_cons_zero]; rfl
  case f12 => kernel_rfl
  case q12 => exact fun _ _ _ h => h
  case w12 => rfl
  case y12 => intro W hW; go_simp <;> with_reducible rfl
  simp only [Act.put, List.setIfInBounds_toArray, List.set_cons_zero, List.set_cons_succ]
  refine wpAnyH_take (i := 15) (oi := ?o15) (v := ?v15) ?i15 (by kernel_rfl) ?f15 (by kernel_rfl) ?q15 (Or.inl ⟨?w15, ?y15⟩) hd ?r15
  case i15 => simp only [List.getElem?_toArray, List.getElem?_cons_succ, List.getElem?_cons_zero]; rfl
  case f15 => kernel_rfl
  case q15 => exact fun _ _ _ h => h
  case w15 => rfl
  case y15 => intro W hW; go_simp <;> with_reducible rfl
  simp only [Act.put, List.setIfInBounds_toArray, List.set_cons_zero, List.set_cons_succ]
  refine wpAnyH_ready (rs := [13]) (by kernel_rfl) (by simp) ?_
  refine AllReadyH.cons (o := ?o13) ?i13 (fun K hK => ?_) AllReadyH.nil
  case i13 => simp only [List.getElem?_toArray, List.getElem?_cons_succ, List.getElem?_cons_zero]; rfl
  go_simp
  refine (seal_any A4 l n cap4 Hn.out _ (by omega) (Hi2.out _ hd)).mono ?_
  rintro e w7 ⟨v7, rfl, ho7, hb7⟩
  obtain ⟨A7, cap7, rfl, hl7, hc7, hby7, -⟩ := own_bytes ho7
  have h67 := hd.trans (hb7.mono (Nat.le_refl _))
  have h77 := Below.refl w7.heap.size w7
  have Hl7 := Lib.hid hl7
  have Hby7 := Lib.hid hby7
  have k1 : ∀ W, Below w7.heap.size w7 W → (convert 22 9 (.slice A7 (l.length + 4) cap7)).run Try.prog W = .ok (.string (strB (CrcP.seal4 l))) W := fun W hW => run_conv Hl7.out (Hby7.out.below hW (Nat.le_refl _))
  clear ho7 hb7 hl7 hc7 hby7
  go_wp2_with fail
  refine hK.out _ _ h67 (fun _ => ?_)
  clear hK K
  refine wpAnyH_mono (S' := fun W => Below w7.heap.size w7 W) (fun W hW => h67.trans (hW.mono h67.size)) _ _ _ _ ?_
  refine wpAnyH_take (i := 14) (oi := ?o14) (v := ?v14) ?i14 (by kernel_rfl) ?f14 (by kernel_rfl) ?q14 (Or.inl ⟨?w14, ?y14⟩) h77 ?r14
  case i14 => simp only [List.getElem?_toArray, List.getElem?_cons_succ, List.getElem?_cons_zero]; rfl
  case f14 => kernel_rfl
  case q14 => exact fun _ _ _ h => h
  case w14 => rfl
  case y14 => intro W hW; go_simp <;> with_reducible rfl
  simp only [Act.put, List.setIfInBounds_toArray, List.set_cons_zero, List.set_cons_succ]
  refine wpAnyH_ready (rs := [16]) (by kernel_rfl) (by simp) ?_
  refine AllReadyH.cons (o := ?o16) ?i16 (fun K hK => ?_) AllReadyH.nil
  case i16 => simp only [List.getElem?_toArray, List.getElem?_cons_succ, List.getElem?_cons_zero]; rfl
  go_simp
  refine (refseal_any A l n cap Hn.out _ (by omega) (Hb.out _ h67)).mono ?_
  rintro e w8 ⟨v8, rfl, ho8, hb8⟩
  obtain ⟨A8, cap8, rfl, hl8, hc8, hby8, -⟩ := own_bytes ho8
  have h68 := h67.trans (hb8.mono h67.size)
  have h88 := Below.refl w8.heap.size w8
  have Hl8 := Lib.hid hl8
  have Hby8 := Lib.hid hby8
  have k2 : ∀ W, Below w8.heap.size w8 W → (convert 22 9 (.slice A8 (l.length + 4) cap8)).run Try.prog W = .ok (.string (strB (CrcP.seal4 l))) W := fun W hW => run_conv Hl8.out (Hby8.out.below hW (Nat.le_refl _))
  have k4 : ∀ W, Below w8.heap.size w8 W → (convert 22 9 (.slice A5 p.length cap5)).run Try.prog W = .ok (.string (strB p)) W := fun W hW => run_conv rfl (Ha.out _ (h68.trans (hW.mono h68.size)))
  have k5 : ∀ W, Below w8.heap.size w8 W → (convert 22 9 (.slice A6 p.length cap6)).run Try.prog W = .ok (.string (strB p)) W := fun W hW => run_conv rfl (Hc.out _ (h68.trans (hW.mono h68.size)))
  have k6 : ∀ W, Below w8.heap.size w8 W → (convert 22 9 (.slice A4 (n + spare.length) cap4)).run Try.prog W = .ok (.string (strB (l ++ spare))) W := fun W hW => run_conv (by rw [List.length_append, Hn.out]) (Hi.out _ (h68.trans (hW.mono h68.size)))
  have k7 : ∀ W, Below w8.heap.size w8 W → (convert 22 9 (.slice A n cap)).run Try.prog W = .ok (.string (strB l)) W := fun W hW => run_conv Hn.out (Hb.out _ (h68.trans (hW.mono h68.size)))
  clear hl8 hc8 hby8 k1
  go_wp2_with fail
  refine hK.out _ _ hb8 (fun _ => ?_)
  clear hK K
  refine wpAnyH_mono (S' := fun W => Below w8.heap.size w8 W) (fun W hW => hb8.trans (hW.mono hb8.size)) _ _ _ _ ?_
  refine wpAnyH_take (i := 17) (oi := ?o17) (v := ?v17) ?i17 (by kernel_rfl) ?f17 (by kernel_rfl) ?q17 (Or.inl ⟨?w17, ?y17⟩) h88 ?r17
  case i17 => simp only [List.getElem?_toArray, List.getElem?_cons_succ, List.getElem?_cons_zero]; rfl
  case f17 => kernel_rfl
  case q17 => exact fun _ _ _ h => h
  case w17 => rfl
  case y17 => intro W hW; go_simp <;> with_reducible rfl
  simp only [Act.put, List.setIfInBounds_toArray, List.set_cons_zero, List.set_cons_succ]
  refine wpAnyH_take (i := 18) (oi := ?o18) (v := ?v18) ?i18 (by kernel_rfl) ?f18 (by kernel_rfl) ?q18 (Or.inl ⟨?w18, ?y18⟩) h88 ?r18
  case i18 => simp only [List.getElem?_toArray, List.getElem?_cons_succ, List.getElem?_cons_zero]; rfl
  case f18 => kernel_rfl
  case q18 => exact fun _ _ _ h => h
  case w18 => rfl
  case y18 => intro W hW; go_simp <;> with_reducible rfl
  simp only [Act.put, List.setIfInBounds_toArray, List.set_cons_zero, List.set_cons_succ]
  refine wpAnyH_take (i := 19) (oi := ?o19) (v := ?v19) ?i19 (by kernel_rfl) ?f19 (by kernel_rfl) ?q19 (Or.inl ⟨?w19, ?y19⟩) h88 ?r19
  case i19 => simp only [List.getElem?_toArray, List.getElem?_cons_succ, List.getElem?_cons_zero]; rfl
  case f19 => kernel_rfl
  case q19 => exact fun _ _ _ h => h
  case w19 => rfl
  case y19 => intro W hW; go_simp <;> with_reducible rfl
  simp only [Act.put, List.setIfInBounds_toArray, List.set_cons_zero, List.set_cons_succ]
  refine wpAnyH_take (i := 20) (oi := ?o20) (v := ?v20) ?i20 (by kernel_rfl) ?f20 (by kernel_rfl) ?q20 (Or.inl ⟨?w20, ?y20⟩) h88 ?r20
  case i20 => simp only [List.getElem?_toArray, List.getElem?_cons_succ, List.getElem?_cons_zero]; rfl
  case f20 => kernel_rfl
  case q20 => exact fun _ _ _ h => h
  case w20 => rfl
  case y20 => intro W hW; go_simp <;> with_reducible rfl
  simp only [Act.put, List.setIfInBounds_toArray, List.set_cons_zero, List.set_cons_succ]
  refine wpAnyH_take (i := 21) (oi := ?o21) (v := ?v21) ?i21 (by kernel_rfl) ?f21 (by kernel_rfl) ?q21 (Or.inl ⟨?w21, ?y21⟩) h88 ?r21
  case i21 => simp only [List.getElem?_toArray, List.getElem?_cons_succ, List.getElem?_cons_zero]; rfl
  case f21 => kernel_rfl
  case q21 => exact fun _ _ _ h => h
  case w21 => rfl
  case y21 => intro W hW; go_simp <;> with_reducible rfl
  simp only [Act.put, List.setIfInBounds_toArray, List.set_cons_zero, List.set_cons_succ]
  refine wpAnyH_take (i := 22) (oi := ?o22) (v := ?v22) ?i22 (by kernel_rfl) ?f22 (by kernel_rfl) ?q22 (Or.inl ⟨?w22, ?y22⟩) h88 ?r22
  case i22 => simp only [List.getElem?_toArray, List.getElem?_cons_succ, List.getElem?_cons_zero]; rfl
  case f22 => kernel_rfl
  case q22 => exact fun _ _ _ h => h
  case w22 => rfl
  case y22 => intro W hW; go_simp <;> with_reducible rfl
  simp only [Act.put, List.setIfInBounds_toArray, List.set_cons_zero, List.set_cons_succ]
  refine wpAnyH_take (i := 23) (oi := ?o23) (v := ?v23) ?i23 (by kernel_rfl) ?f23 (by kernel_rfl) ?q23 (Or.inl ⟨?w23, ?y23⟩) h88 ?r23
  case i23 => simp only [List.getElem?_toArray, List.getElem?_cons_succ, List.getElem?_cons_zero]; rfl
  case f23 => kernel_rfl
  case q23 => exact fun _ _ _ h => h
  case w23 => rfl
  case y23 => intro W hW; go_simp <;> with_reducible rfl
  simp only [Act.put, List.setIfInBounds_toArray, List.set_cons_zero, List.set_cons_succ]
  refine wpAnyH_take (i := 24) (oi := ?o24) (v := ?v24) ?i24 (by kernel_rfl) ?f24 (by kernel_rfl) ?q24 (Or.inl ⟨?w24, ?y24⟩) h88 ?r24
  case i24 => simp only [List.getElem?_toArray, List.getElem?_cons_succ, List.getElem?_cons_zero]; rfl
  case f24 => kernel_rfl
  case q24 => exact fun _ _ _ h => h
  case w24 => rfl
  case y24 => intro W hW; go_simp <;> with_reducible rfl
  simp only [Act.put, List.setIfInBounds_toArray, List.set_cons_zero, List.set_cons_succ]
  refine wpAnyH_take (i := 25) (oi := ?o25) (v := ?v25) ?i25 (by kernel_rfl) ?f25 (by kernel_rfl) ?q25 (Or.inl ⟨?w25, ?y25⟩) h88 ?r25
  case i25 => simp only [List.getElem?_toArray, List.getElem?_cons_succ, List.getElem?_cons_zero]; rfl
  case f25 => kernel_rfl
  case q25 => exact fun _ _ _ h => h
  case w25 => rfl
  case y25 => intro W hW; go_simp <;> with_reducible rfl
  simp only [Act.put, List.setIfInBounds_toArray, List.set_cons_zero, List.set_cons_succ]
  refine wpAnyH_take (i := 26) (oi := ?o26) (v := ?v26) ?i26 (by kernel_rfl) ?f26 (by kernel_rfl) ?q26 (Or.inl ⟨?w26, ?y26⟩) h88 ?r26
  case i26 => simp only [List.getElem?_toArray, List.getElem?_cons_succ, List.getElem?_cons_zero]; rfl
  case f26 => kernel_rfl
  case q26 => exact fun _ _ _ h => h
  case w26 => rfl
  case y26 => intro W hW; go_simp <;> with_reducible rfl
  simp only [Act.put, List.setIfInBounds_toArray, List.set_cons_zero, List.set_cons_succ]
  refine wpAnyH_take (i := 27) (oi := ?o27) (v := ?v27) ?i27 (by kernel_rfl) ?f27 (by kernel_rfl) ?q27 (Or.inl ⟨?w27, ?y27⟩) h88 ?r27
  case i27 => simp only [List.getElem?_toArray, List.getElem?_cons_succ, List.getElem?_cons_zero]; rfl
  case f27 => kernel_rfl
  case q27 => exact fun _ _ _ h => h
  case w27 => rfl
  case y27 => intro W hW; go_simp <;> with_reducible rfl
  simp only [Act.put, List.setIfInBounds_toArray, List.set_cons_zero, List.set_cons_succ]
  refine wpAnyH_take (i := 28) (oi := ?o28) (v := ?v28) ?i28 (by kernel_rfl) ?f28 (by kernel_rfl) ?q28 (Or.inl ⟨?w28, ?y28⟩) h88 ?r28
  case i28 => simp only [List.getElem?_toArray, List.getElem?_cons_succ, List.getElem?_cons_zero]; rfl
  case f28 => kernel_rfl
  case q28 => exact fun _ _ _ h => h
  case w28 => rfl
  case y28 => intro W hW; go_simp <;> with_reducible rfl
  simp only [Act.put, List.setIfInBounds_toArray, List.set_cons_zero, List.set_cons_succ]
  refine wpAnyH_take (i := 29) (oi := ?o29) (v := ?v29) ?i29 (by kernel_rfl) ?f29 (by kernel_rfl) ?q29 (Or.inl ⟨?w29, ?y29⟩) h88 ?r29
  case i29 => simp only [List.getElem?_toArray, List.getElem?_cons_succ, List.getElem?_cons_zero]; rfl
  case f29 => kernel_rfl
  case q29 => exact fun _ _ _ h => h
  case w29 => rfl
  case y29 => intro W hW; go_simp <;> with_reducible rfl
  simp only [Act.put, List.setIfInBounds_toArray, List.set_cons_zero, List.set_cons_succ]
  refine wpAnyH_take (i := 30) (oi := ?o30) (v := ?v30) ?i30 (by kernel_rfl) ?f30 (by kernel_rfl) ?q30 (Or.inl ⟨?w30, ?y30⟩) h88 ?r30
  case i30 => simp only [List.getElem?_toArray, List.getElem?_cons_succ, List.getElem?_cons_zero]; rfl
  case f30 => kernel_rfl
  case q30 => exact fun _ _ _ h => h
  case w30 => rfl
  case y30 => intro W hW; go_simp <;> with_reducible rfl
  simp only [Act.put, List.setIfInBounds_toArray, List.set_cons_zero, List.set_cons_succ]
  refine wpAnyH_take (i := 31) (oi := ?o31) (v := ?v31) ?i31 (by kernel_rfl) ?f31 (by kernel_rfl) ?q31 (Or.inl ⟨?w31, ?y31⟩) h88 ?r31
  case i31 => simp only [List.getElem?_toArray, List.getElem?_cons_succ, List.getElem?_cons_zero]; rfl
  case f31 => kernel_rfl
  case q31 => exact fun _ _ _ h => h
  case w31 => rfl
  case y31 => intro W hW; go_simp <;> with_reducible rfl
  simp only [Act.put, List.setIfInBounds_toArray, List.set_cons_zero, List.set_cons_succ]
  refine wpAnyH_take (i := 32) (oi := ?o32) (v := ?v32) ?i32 (by kernel_rfl) ?f32 (by kernel_rfl) ?q32 (Or.inl ⟨?w32, ?y32⟩) h88 ?r32
  case i32 => simp only [List.getElem?_toArray, List.getElem?_cons_succ, List.getElem?_cons_zero]; rfl
  case f32 => kernel_rfl
  case q32 => exact fun _ _ _ h => h
  case w32 => rfl
  case y32 => intro W hW; go_simp <;> with_reducible rfl
  simp only [Act.put, List.setIfInBounds_toArray, List.set_cons_zero, List.set_cons_succ]
  refine wpAnyH_take (i := 33) (oi := ?o33) (v := ?v33) ?i33 (by kernel_rfl) ?f33 (by kernel_rfl) ?q33 (Or.inl ⟨?w33, ?y33⟩) h88 ?r33
  case i33 => simp only [List.getElem?_toArray, List.getElem?_cons_succ, List.getElem?_cons_zero]; rfl
  case f33 => kernel_rfl
  case q33 => exact fun _ _ _ h => h
  case w33 => rfl
  case y33 => intro W hW; go_simp <;> with_reducible rfl
  simp only [Act.put, List.setIfInBounds_toArray, List.set_cons_zero, List.set_cons_succ]
  refine wpAnyH_take (i := 34) (oi := ?o34) (v := ?v34) ?i34 (by kernel_rfl) ?f34 (by kernel_rfl) ?q34 (Or.inl ⟨?w34, ?y34⟩) h88 ?r34
  case i34 => simp only [List.getElem?_toArray, List.getElem?_cons_succ, List.getElem?_cons_zero]; rfl
  case f34 => kernel_rfl
  case q34 => exact fun _ _ _ h => h
  case w34 => rfl
  case y34 => intro W hW; go_simp <;> with_reducible rfl
  simp only [Act.put, List.setIfInBounds_toArray, List.set_cons_zero, List.set_cons_succ]
  refine wpAnyH_take (i := 35) (oi := ?o35) (v := ?v35) ?i35 (by kernel_rfl) ?f35 (by kernel_rfl) ?q35 (Or.inl ⟨?w35, ?y35⟩) h88 ?r35
  case i35 => simp only [List.getElem?_toArray, List.getElem?_cons_succ, List.getElem?_cons_zero]; rfl
  case f35 => kernel_rfl
  case q35 => exact fun _ _ _ h => h
  case w35 => rfl
  case y35 => intro W hW; go_simp <;> with_reducible rfl
  simp only [Act.put, List.setIfInBounds_toArray, List.set_cons_zero, List.set_cons_succ]
  refine wpAnyH_take (i := 36) (oi := ?o36) (v := ?v36) ?i36 (by kernel_rfl) ?f36 (by kernel_rfl) ?q36 (Or.inl ⟨?w36, ?y36⟩) h88 ?r36
  case i36 => simp only [List.getElem?_toArray, List.getElem?_cons_succ, List.getElem?_cons_zero]; rfl
  case f36 => kernel_rfl
  case q36 => exact fun _ _ _ h => h
  case w36 => rfl
  case y36 => intro W hW; go_simp <;> with_reducible rfl
  simp only [Act.put, List.setIfInBounds_toArray, List.set_cons_zero, List.set_cons_succ]
  refine wpAnyH_take (i := 37) (oi := ?o37) (v := ?v37) ?i37 (by kernel_rfl) ?f37 (by kernel_rfl) ?q37 (Or.inl ⟨?w37, ?y37⟩) h88 ?r37
  case i37 => simp only [List.getElem?_toArray, List.getElem?_cons_succ, List.getElem?_cons_zero]; rfl
  case f37 => kernel_rfl
  case q37 => exact fun _ _ _ h => h
  case w37 => rfl
  case y37 => intro W hW; go_simp <;> with_reducible rfl
  simp only [Act.put, List.setIfInBounds_toArray, List.set_cons_zero, List.set_cons_succ]
  refine wpAnyH_take (i := 38) (oi := ?o38) (v := ?v38) ?i38 (by kernel_rfl) ?f38 (by kernel_rfl) ?q38 (Or.inl ⟨?w38, ?y38⟩) h88 ?r38
  case i38 => simp only [List.getElem?_toArray, List.getElem?_cons_succ, List.getElem?_cons_zero]; rfl
  case f38 => kernel_rfl
  case q38 => exact fun _ _ _ h => h
  case w38 => rfl
  case y38 => intro W hW; go_simp <;> with_reducible rfl
  simp only [Act.put, List.setIfInBounds_toArray, List.set_cons_zero, List.set_cons_succ]
  refine wpAnyH_take (i := 39) (oi := ?o39) (v := ?v39) ?i39 (by kernel_rfl) ?f39 (by kernel_rfl) ?q39 (Or.inl ⟨?w39, ?y39⟩) h88 ?r39
  case i39 => simp only [List.getElem?_toArray, List.getElem?_cons_succ, List.getElem?_cons_zero]; rfl
  case f39 => kernel_rfl
  case q39 => exact fun _ _ _ h => h
  case w39 => rfl
  case y39 => intro W hW; go_simp <;> with_reducible rfl
  simp only [Act.put, List.setIfInBounds_toArray, List.set_cons_zero, List.set_cons_succ]
  refine wpAnyH_take (i := 40) (oi := ?o40) (v := ?v40) ?i40 (by kernel_rfl) ?f40 (by kernel_rfl) ?q40 (Or.inl ⟨?w40, ?y40⟩) h88 ?r40
  case i40 => simp only [List.getElem?_toArray, List.getElem?_cons_succ, List.getElem?_cons_zero]; rfl
  case f40 => kernel_rfl
  case q40 => exact fun _ _ _ h => h
  case w40 => rfl
  case y40 => intro W hW; go_simp <;> with_reducible rfl
  simp only [Act.put, List.setIfInBounds_toArray, List.set_cons_zero, List.set_cons_succ]
  refine wpAnyH_done (by kernel_rfl) ?_ _
  go_wp2_with fail
  go_ret
  exact ⟨rfl, Hw6.out.trans (h68.mono Hw6.out.size)⟩

theorem sums_law (A : Option Addr) (l : List UInt8) (n cap : Nat) (hn : l.length = n) (hcap : n ≤ cap) (w : World) (h : Bytes w w.heap.size A l) :
    Calls Try.prog 3 #[.slice A n cap] w (AwakePost w) := by
  by_cases h5 : n ≤ 5000
  · exact sums_few A l n cap hn hcap w h h5
  · have HA := Lib.hid (awake_any w)
    clear hn h
    go_enter Try.func3, Try.ntmps3
    go_wp2_with fail
    refine HA.out.mono ?_
    rintro e w1 ⟨rfl, hb1⟩
    have Hb1 := Lib.hid hb1
    clear hb1
    go_wp2_with fail
    go_ret
    exact ⟨rfl, Hb1.out⟩
end Go.Proofs.Ytccjlebdakcnjaa
