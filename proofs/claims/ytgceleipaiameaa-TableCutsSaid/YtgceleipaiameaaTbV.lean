/- Contract of table's takeTables. Conditions: where the Reader lies. -/
import Derived.Test.YtgceleipaiameaaTbP
import Derived.StillTailTactics
import Derived.Deep.DeepCutAuto
namespace Go.Proofs.Ytgceleipaiameaa
open Go.RowKit
set_option maxRecDepth 100000

theorem TakeIn.box0 {br : Nat} {A : Option Addr} {n cap : Nat} {l : List UInt8} {w w' : World} {a a' : Nat} {s s' : Bool} {o : Obj} (h0 : ReaderAt w br A n cap l a s) (h : TakeIn br A n cap l (w.alloc o) a' s' w') : w'.heap[w.heap.size]? = some o := TakeIn.box h0 h

theorem ErrTextK.storeAll {k b i : Nat} {w : World} {v : Value} {x : List UInt8} {t : TypeId} {cs : Array Value} (h : ErrTextK k w v x) (hb : w.heap[b]? = some (.cells cs t (0, 0))) (ht : t ≠ 73) (vs : List Value) : ErrTextK k (storeAll w b vs i) v x := by
  obtain ⟨l, tt, h1, h2, h3, h4, h5⟩ := h
  have ha := storeAll_apart b vs i w
  refine ⟨l, tt, h1, h2, ?_, h4, h5⟩
  have key : ∀ (l : List (Nat × Int × Int)) (B : Nat), B ≤ w.heap.size → ErrIn w tt B l → ErrIn (Go.Proofs.Ytgceleipaiameaa.storeAll w b vs i) tt B l := by
    intro l
    induction l with
    | nil => intro _ _ _; trivial
    | cons x r ih =>
      obtain ⟨b1, c1, a1⟩ := x
      intro B hB h
      obtain ⟨g1, g2, g3⟩ := h
      refine ⟨g1, ?_, ih b1 (by omega) g3⟩
      rw [ha.block b1 (by omega) (fun e => ?_)]
      · exact g2
      · have e : b1 = b := e
        subst e
        rw [g2] at hb
        injection hb with hb
        injection hb with _ hb _
        exact ht hb.symm
  exact (key l _ (Nat.le_refl _) h3).mono ha.size


/-- What stands at the beginning is not what an image begins with. -/
def KindPost (br : Nat) (A : Option Addr) (n cap : Nat) (l : List UInt8) (a : Nat) (w : World) (e : Ending) (w' : World) : Prop :=
  ∃ (x : CfgC) (b : Nat), e = .returned (.tuple #[x.value, .iface 71 (.pointer (some ⟨b, 0, none⟩))]) ∧ ErrText w' (.iface 71 (.pointer (some ⟨b, 0, none⟩))) (atT 7 0) ∧ TakeIn br A n cap l w a false w'

set_option maxHeartbeats 4000000 in
theorem takeTables_kind (br : Nat) (A : Option Addr) (n cap : Nat) (l : List UInt8) (w : World) (h : ReaderAt w br A n cap l 0 false) (hA : ∀ k, blockOf A = some k → k < w.heap.size) (m : WireP.Took) (hm : WireP.take l 0 false 4 = m) (hs : m.short = false) (hk : m.n ≠ TableP.magic) :
    Calls Try.prog 38 #[.pointer (some ⟨br, 0, none⟩)] w (KindPost br A n cap l m.at_ w) := by
  have H := Lib.hid h
  have HA := Lib.hid hA
  have hbr := h.lt
  have HI := Lib.hid (fun o => TakeIn.start (h.alloc o))
  have Hm := Lib.hid hm
  have q1 : ((m.n : Int) != 1163084593) = true := by rw [bne_iff_ne]; unfold TableP.magic at hk; omega
  have HN := Lib.hid (fun W => new_some 7 0 W rfl)
  rw [place_of 0 (by omega)] at HN
  have Hs := Lib.hid hs
  clear h hA hm hk hs
  go_enter Try.func38, Try.ntmps38
  go_wp2_with fail
  refine ((HI.out _).take 4).mono ?_
  rw [Hm.out]
  rintro e w1 ⟨rfl, h1⟩
  have hE := err_any br A n cap l m.at_ m.short w1 h1.1
  rw [Hs.out] at hE
  have HE := Lib.hid hE
  have H1 := Lib.hid h1
  clear h1 hE
  go_wp2_with fail
  refine HE.out.mono ?_
  rintro e w2 ⟨v2, rfl, hx2, hok2, hb2⟩
  simp only [Bool.not_false, if_true] at hok2
  subst hok2
  have hbox1 := H1.out.box H.out
  have hz1 : w.heap.size < w1.heap.size := lt_of_block hbox1
  have hbox2 := (hb2.block _ hz1).trans hbox1
  have Hb2 := Lib.hid hb2
  have Hbox2 := Lib.hid hbox2
  have Hrd2 := Lib.hid (H1.out.1.below hb2)
  clear hx2 hb2 hbox1 hbox2
  go_wp2_with fail
  have ks0 := fun (W : World) (hW : W.heap[w.heap.size]? = some (.cells #[.int .i64 0, .int .i64 0, .int .i64 0, .int .i64 0, .int .i64 0, .int .i64 0, .int .i64 0, .int .i64 0, .slice none 0 0, .slice none 0 0, .slice none 0 0] 26 (0, 0))) => cell_at hW 0 rfl
  have ks1 := fun (W : World) (hW : W.heap[w.heap.size]? = some (.cells #[.int .i64 0, .int .i64 0, .int .i64 0, .int .i64 0, .int .i64 0, .int .i64 0, .int .i64 0, .int .i64 0, .slice none 0 0, .slice none 0 0, .slice none 0 0] 26 (0, 0))) => cell_at hW 1 rfl
  have ks2 := fun (W : World) (hW : W.heap[w.heap.size]? = some (.cells #[.int .i64 0, .int .i64 0, .int .i64 0, .int .i64 0, .int .i64 0, .int .i64 0, .int .i64 0, .int .i64 0, .slice none 0 0, .slice none 0 0, .slice none 0 0] 26 (0, 0))) => cell_at hW 2 rfl
  have ks3 := fun (W : World) (hW : W.heap[w.heap.size]? = some (.cells #[.int .i64 0, .int .i64 0, .int .i64 0, .int .i64 0, .int .i64 0, .int .i64 0, .int .i64 0, .int .i64 0, .slice none 0 0, .slice none 0 0, .slice none 0 0] 26 (0, 0))) => cell_at hW 3 rfl
  have ks4 := fun (W : World) (hW : W.heap[w.heap.size]? = some (.cells #[.int .i64 0, .int .i64 0, .int .i64 0, .int .i64 0, .int .i64 0, .int .i64 0, .int .i64 0, .int .i64 0, .slice none 0 0, .slice none 0 0, .slice none 0 0] 26 (0, 0))) => cell_at hW 4 rfl
  have ks5 := fun (W : World) (hW : W.heap[w.heap.size]? = some (.cells #[.int .i64 0, .int .i64 0, .int .i64 0, .int .i64 0, .int .i64 0, .int .i64 0, .int .i64 0, .int .i64 0, .slice none 0 0, .slice none 0 0, .slice none 0 0] 26 (0, 0))) => cell_at hW 5 rfl
  have ks6 := fun (W : World) (hW : W.heap[w.heap.size]? = some (.cells #[.int .i64 0, .int .i64 0, .int .i64 0, .int .i64 0, .int .i64 0, .int .i64 0, .int .i64 0, .int .i64 0, .slice none 0 0, .slice none 0 0, .slice none 0 0] 26 (0, 0))) => cell_at hW 6 rfl
  have ks7 := fun (W : World) (hW : W.heap[w.heap.size]? = some (.cells #[.int .i64 0, .int .i64 0, .int .i64 0, .int .i64 0, .int .i64 0, .int .i64 0, .int .i64 0, .int .i64 0, .slice none 0 0, .slice none 0 0, .slice none 0 0] 26 (0, 0))) => cell_at hW 7 rfl
  have ks8 := fun (W : World) (hW : W.heap[w.heap.size]? = some (.cells #[.int .i64 0, .int .i64 0, .int .i64 0, .int .i64 0, .int .i64 0, .int .i64 0, .int .i64 0, .int .i64 0, .slice none 0 0, .slice none 0 0, .slice none 0 0] 26 (0, 0))) => cell_at hW 8 rfl
  have ks9 := fun (W : World) (hW : W.heap[w.heap.size]? = some (.cells #[.int .i64 0, .int .i64 0, .int .i64 0, .int .i64 0, .int .i64 0, .int .i64 0, .int .i64 0, .int .i64 0, .slice none 0 0, .slice none 0 0, .slice none 0 0] 26 (0, 0))) => cell_at hW 9 rfl
  have ks10 := fun (W : World) (hW : W.heap[w.heap.size]? = some (.cells #[.int .i64 0, .int .i64 0, .int .i64 0, .int .i64 0, .int .i64 0, .int .i64 0, .int .i64 0, .int .i64 0, .slice none 0 0, .slice none 0 0, .slice none 0 0] 26 (0, 0))) => cell_at hW 10 rfl
  have kf := fun (W : World) (hW : W.heap[w.heap.size]? = some (.cells #[.int .i64 0, .int .i64 0, .int .i64 0, .int .i64 0, .int .i64 0, .int .i64 0, .int .i64 0, .int .i64 0, .slice none 0 0, .slice none 0 0, .slice none 0 0] 26 (0, 0))) (i : Nat) => free_at hW i
  have hd : w2.drew.heap[w.heap.size]? = some (.cells #[.int .i64 0, .int .i64 0, .int .i64 0, .int .i64 0, .int .i64 0, .int .i64 0, .int .i64 0, .int .i64 0, .slice none 0 0, .slice none 0 0, .slice none 0 0] 26 (0, 0)) := Hbox2.out
  have hz2 : w.heap.size < w2.drew.heap.size := lt_of_block hd
  refine wp_region_held_drew (S := fun W => W.heap[w.heap.size]? = some (.cells #[.int .i64 0, .int .i64 0, .int .i64 0, .int .i64 0, .int .i64 0, .int .i64 0, .int .i64 0, .int .i64 0, .slice none 0 0, .slice none 0 0, .slice none 0 0] 26 (0, 0))) (by kernel_rfl) hd (fun _ => ?_)
  refine wpAnyH_take (i := 0) (oi := ?oo1) (v := ?vv1) ?ii1 (by kernel_rfl) ?ff1 (by kernel_rfl) ?qq1 (Or.inl ⟨?ww1, ?yy1⟩) hd ?rr1
  case ii1 => simp only [List.getElem?_toArray, List.getElem?_cons_zero]; rfl
  case ff1 => kernel_rfl
  case qq1 => exact fun _ _ _ h => h
  case ww1 => rfl
  case yy1 => intro W hW; go_simp <;> with_reducible rfl
  try simp only [Act.put, List.setIfInBounds_toArray, List.set_cons_zero, List.set_cons_succ]
  refine wpAnyH_ready (rs := [1]) (by kernel_rfl) (by simp) ?_
  refine AllReadyH.cons (o := ?oo2) ?ii2 (fun K hK => ?_) AllReadyH.nil
  case ii2 => simp only [List.getElem?_toArray, List.getElem?_cons_succ, List.getElem?_cons_zero]; rfl
  go_simp
  refine (HN.out _).mono ?_
  rintro e w3 ⟨rfl, hw3⟩
  have hd3 : w3.heap[w.heap.size]? = some (.cells #[.int .i64 0, .int .i64 0, .int .i64 0, .int .i64 0, .int .i64 0, .int .i64 0, .int .i64 0, .int .i64 0, .slice none 0 0, .slice none 0 0, .slice none 0 0] 26 (0, 0)) := by rw [hw3]; exact (Below.heap_alloc w2.drew (.cells #[.int .i64 7, .int .i64 0, .nilIface] 73) _ hz2).trans hd
  have HE3 : Hid (ErrText w3 (.iface 71 (.pointer (some ⟨w2.drew.heap.size, 0, none⟩))) (atT 7 0)) := Lib.hid (by rw [hw3]; exact ErrText.new w2.drew 7 0 (by omega) (by omega))
  have HT3 : Hid (TakeIn br A n cap l w m.at_ false w3) := Lib.hid (by
    have h9 := H1.out
    have h8 := Hrd2.out.drew.alloc (.cells #[.int .i64 7, .int .i64 0, .nilIface] 73)
    rw [Hs.out] at h8
    rw [hw3]
    exact ⟨h8, ((((Apart.refl (RF br) w).alloc _).trans h9.2 (fun _ e => .inl e)).trans (F := RF br) (G := fun _ => False) (Apart.of_below' Hb2.out) (fun _ h => h.elim)).drew.alloc _⟩)
  clear hw3
  generalize w2.drew.heap.size = NE at *
  go_wp2_with fail
  refine hK.out _ _ hd3 (fun _ => ?_)
  clear hK K
  clear ks0 ks1 ks2 ks3 ks4 ks5 ks6 ks7 ks8 ks9 ks10 kf
  have k0 := cell_at hd3 0 rfl
  have k1 := cell_at hd3 1 rfl
  have k2 := cell_at hd3 2 rfl
  have k3 := cell_at hd3 3 rfl
  have k4 := cell_at hd3 4 rfl
  have k5 := cell_at hd3 5 rfl
  have k6 := cell_at hd3 6 rfl
  have k7 := cell_at hd3 7 rfl
  have k8 := cell_at hd3 8 rfl
  have k9 := cell_at hd3 9 rfl
  have k10 := cell_at hd3 10 rfl
  have f := fun i => free_at hd3 i
  have hfin := storeAll_heap (b := w.heap.size) [.int .i64 0, .int .i64 0, .int .i64 0, .int .i64 0, .int .i64 0, .int .i64 0, .int .i64 0, .int .i64 0, .slice none 0 0, .slice none 0 0, .slice none 0 0] 0 w3 [] [_, _, _, _, _, _, _, _, _, _, _] hd3 rfl rfl
  rw [List.nil_append] at hfin
  refine wpAnyH_ready (rs := [2]) (by kernel_rfl) (by simp) ?_
  refine AllReadyH.cons (o := ?oo3) ?ii3 (fun K hK => ?_) AllReadyH.nil
  case ii3 => simp only [List.getElem?_toArray, List.getElem?_cons_succ, List.getElem?_cons_zero]; rfl
  go_simp
  refine hK.out _ (storeAll w3 w.heap.size [.int .i64 0, .int .i64 0, .int .i64 0, .int .i64 0, .int .i64 0, .int .i64 0, .int .i64 0, .int .i64 0, .slice none 0 0, .slice none 0 0, .slice none 0 0] 0) hfin (fun _ => ?_)
  clear hK K
  have HF : Hid (KindPost br A n cap l m.at_ w (.returned (.tuple #[zeroCC.value, .iface 71 (.pointer (some ⟨NE, 0, none⟩))])) (storeAll w3 w.heap.size [.int .i64 0, .int .i64 0, .int .i64 0, .int .i64 0, .int .i64 0, .int .i64 0, .int .i64 0, .int .i64 0, .slice none 0 0, .slice none 0 0, .slice none 0 0] 0)) := Lib.hid (by
    have h1 := storeAll_apart w.heap.size [.int .i64 0, .int .i64 0, .int .i64 0, .int .i64 0, .int .i64 0, .int .i64 0, .int .i64 0, .int .i64 0, .slice none 0 0, .slice none 0 0, .slice none 0 0] 0 w3
    refine ⟨zeroCC, NE, rfl, ErrTextK.storeAll HE3.out hd3 (by decide) _, HT3.out.1.apart h1 (fun e => by omega) (fun k hk e => by have := HA.out k hk; omega), HT3.out.2.trans h1 (fun k e => .inr (Nat.le_of_eq e.symm))⟩)
  generalize storeAll w3 w.heap.size [.int .i64 0, .int .i64 0, .int .i64 0, .int .i64 0, .int .i64 0, .int .i64 0, .int .i64 0, .int .i64 0, .slice none 0 0, .slice none 0 0, .slice none 0 0] 0 = Wf at *
  clear k0 k1 k2 k3 k4 k5 k6 k7 k8 k9 k10 f
  refine wpAnyH_take (i := 3) (oi := ?oo4) (v := ?vv4) ?ii4 (by kernel_rfl) ?ff4 (by kernel_rfl) ?qq4 (Or.inl ⟨?ww4, ?yy4⟩) hfin ?rr4
  case ii4 => simp only [List.getElem?_toArray, List.getElem?_cons_succ, List.getElem?_cons_zero]; rfl
  case ff4 => kernel_rfl
  case qq4 => exact fun _ _ _ h => h
  case ww4 => rfl
  case yy4 => intro W hW; go_simp <;> with_reducible rfl
  try simp only [Act.put, List.setIfInBounds_toArray, List.set_cons_zero, List.set_cons_succ]
  refine wpAnyH_done (by kernel_rfl) ?_ _
  have r0 := cell_at hfin 0 rfl
  have r1 := cell_at hfin 1 rfl
  have r2 := cell_at hfin 2 rfl
  have r3 := cell_at hfin 3 rfl
  have r4 := cell_at hfin 4 rfl
  have r5 := cell_at hfin 5 rfl
  have r6 := cell_at hfin 6 rfl
  have r7 := cell_at hfin 7 rfl
  have r8 := cell_at hfin 8 rfl
  have r9 := cell_at hfin 9 rfl
  have r10 := cell_at hfin 10 rfl
  go_wp2_with fail
  refine bodyPost_ret (v := .tuple #[.agg #[.int .i64 0, .int .i64 0, .int .i64 0, .int .i64 0, .int .i64 0, .int .i64 0, .int .i64 0, .int .i64 0, .slice none 0 0, .slice none 0 0, .slice none 0 0], .iface 71 (.pointer (some ⟨NE, 0, none⟩))]) (by simp [results, Try.results38, go_sem, r0, r1, r2, r3, r4, r5, r6, r7, r8, r9, r10]) rfl ?_
  exact HF.out
end Go.Proofs.Ytgceleipaiameaa
