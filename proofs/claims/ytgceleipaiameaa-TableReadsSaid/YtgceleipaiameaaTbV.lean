/- Contract of table's takeTables. Conditions: where the Reader lies. · Contract of table's takeTables: the numbers and the lists. Conditions: where the Reader lies. -/
import Derived.Test.YtgceleipaiameaaTbP
import Derived.StillTailTactics
import Derived.Deep.DeepCutAuto
namespace Go.Proofs.Ytgceleipaiameaa
open Go.RowKit
set_option maxRecDepth 100000

theorem TakeIn.box0 {br : Nat} {A : Option Addr} {n cap : Nat} {l : List UInt8} {w w' : World} {a a' : Nat} {s s' : Bool} {o : Obj} (h0 : ReaderAt w br A n cap l a s) (h : TakeIn br A n cap l (w.alloc o) a' s' w') : w'.heap[w.heap.size]? = some o := TakeIn.box h0 h

theorem ErrTextK.storeAll {k b i : Nat} {w : World} {v : Value} {x : List UInt8} {t : TypeId} {cs : Array Value} (h : ErrTextK k w v x) (hb : w.heap[b]? = some (.cells cs t (0, 0))) (ht : t ≠ 73) (vs : List Value) : ErrTextK k (storeAll w b vs i) v x := by
  obtain ⟨l, tt, h1, h2, h3, h4, h5⟩ := h
  have ha := storeAll_apart b vs i w
  refine ⟨l, tt, h1, h2, ?_, h4, h5⟩
  have key : ∀ (l : List (Nat × Int × Int)) (B : Nat), B ≤ w.heap.size → ErrIn w tt B l → ErrIn (Go.Proofs.Ytgceleipaiameaa.storeAll w b vs i) tt B l := by
    intro l
    induction l with
    | nil => intro _ _ _; trivial
    | cons x r ih =>
      obtain ⟨b1, c1, a1⟩ := x
      intro B hB h
      obtain ⟨g1, g2, g3⟩ := h
      refine ⟨g1, ?_, ih b1 (by omega) g3⟩
      rw [ha.block b1 (by omega) (fun e => ?_)]
      · exact g2
      · have e : b1 = b := e
        subst e
        rw [g2] at hb
        injection hb with hb
        injection hb with _ hb _
        exact ht hb.symm
  exact (key l _ (Nat.le_refl _) h3).mono ha.size


/-- What stands at the beginning is not what an image begins with. -/
def KindPost (br : Nat) (A : Option Addr) (n cap : Nat) (l : List UInt8) (a : Nat) (w : World) (e : Ending) (w' : World) : Prop :=
  ∃ (x : CfgC) (b : Nat), e = .returned (.tuple #[x.value, .iface 71 (.pointer (some ⟨b, 0, none⟩))]) ∧ ErrText w' (.iface 71 (.pointer (some ⟨b, 0, none⟩))) (atT 7 0) ∧ TakeIn br A n cap l w a false w'

set_option maxHeartbeats 4000000 in
theorem takeTables_kind (br : Nat) (A : Option Addr) (n cap : Nat) (l : List UInt8) (w : World) (h : ReaderAt w br A n cap l 0 false) (hA : ∀ k, blockOf A = some k → k < w.heap.size) (m : WireP.Took) (hm : WireP.take l 0 false 4 = m) (hs : m.short = false) (hk : m.n ≠ TableP.magic) :
    Calls Try.prog 38 #[.pointer (some ⟨br, 0, none⟩)] w (KindPost br A n cap l m.at_ w) := by
  have H := Lib.hid h
  have HA := Lib.hid hA
  have hbr := h.lt
  have HI := Lib.hid (fun o => TakeIn.start (h.alloc o))
  have Hm := Lib.hid hm
  have q1 : ((m.n : Int) != 1163084593) = true := by rw [bne_iff_ne]; unfold TableP.magic at hk; omega
  have HN := Lib.hid (fun W => new_some 7 0 W rfl)
  rw [place_of 0 (by omega)] at HN
  have Hs := Lib.hid hs
  clear h hA hm hk hs
  go_enter Try.func38, Try.ntmps38
  go_wp2_with fail
  refine ((HI.out _).take 4).mono ?_
  rw [Hm.out]
  rintro e w1 ⟨rfl, h1⟩
  have hE := err_any br A n cap l m.at_ m.short w1 h1.1
  rw [Hs.out] at hE
  have HE := Lib.hid hE
  have H1 := Lib.hid h1
  clear h1 hE
  go_wp2_with fail
  refine HE.out.mono ?_
  rintro e w2 ⟨v2, rfl, hx2, hok2, hb2⟩
  simp only [Bool.not_false, if_true] at hok2
  subst hok2
  have hbox1 := H1.out.box H.out
  have hz1 : w.heap.size < w1.heap.size := lt_of_block hbox1
  have hbox2 := (hb2.block _ hz1).trans hbox1
  have Hb2 := Lib.hid hb2
  have Hbox2 := Lib.hid hbox2
  have Hrd2 := Lib.hid (H1.out.1.below hb2)
  clear hx2 hb2 hbox1 hbox2
  go_wp2_with fail
  have ks0 := fun (W : World) (hW : W.heap[w.heap.size]? = some (.cells #[.int .i64 0, .int .i64 0, .int .i64 0, .int .i64 0, .int .i64 0, .int .i64 0, .int .i64 0, .int .i64 0, .slice none 0 0, .slice none 0 0, .slice none 0 0] 26 (0, 0))) => cell_at hW 0 rfl
  have ks1 := fun (W : World) (hW : W.heap[w.heap.size]? = some (.cells #[.int .i64 0, .int .i64 0, .int .i64 0, .int .i64 0, .int .i64 0, .int .i64 0, .int .i64 0, .int .i64 0, .slice none 0 0, .slice none 0 0, .slice none 0 0] 26 (0, 0))) => cell_at hW 1 rfl
  have ks2 := fun (W : World) (hW : W.heap[w.heap.size]? = some (.cells #[.int .i64 0, .int .i64 0, .int .i64 0, .int .i64 0, .int .i64 0, .int .i64 0, .int .i64 0, .int .i64 0, .slice none 0 0, .slice none 0 0, .slice none 0 0] 26 (0, 0))) => cell_at hW 2 rfl
  have ks3 := fun (W : World) (hW : W.heap[w.heap.size]? = some (.cells #[.int .i64 0, .int .i64 0, .int .i64 0, .int .i64 0, .int .i64 0, .int .i64 0, .int .i64 0, .int .i64 0, .slice none 0 0, .slice none 0 0, .slice none 0 0] 26 (0, 0))) => cell_at hW 3 rfl
  have ks4 := fun (W : World) (hW : W.heap[w.heap.size]? = some (.cells #[.int .i64 0, .int .i64 0, .int .i64 0, .int .i64 0, .int .i64 0, .int .i64 0, .int .i64 0, .int .i64 0, .slice none 0 0, .slice none 0 0, .slice none 0 0] 26 (0, 0))) => cell_at hW 4 rfl
  have ks5 := fun (W : World) (hW : W.heap[w.heap.size]? = some (.cells #[.int .i64 0, .int .i64 0, .int .i64 0, .int .i64 0, .int .i64 0, .int .i64 0, .int .i64 0, .int .i64 0, .slice none 0 0, .slice none 0 0, .slice none 0 0] 26 (0, 0))) => cell_at hW 5 rfl
  have ks6 := fun (W : World) (hW : W.heap[w.heap.size]? = some (.cells #[.int .i64 0, .int .i64 0, .int .i64 0, .int .i64 0, .int .i64 0, .int .i64 0, .int .i64 0, .int .i64 0, .slice none 0 0, .slice none 0 0, .slice none 0 0] 26 (0, 0))) => cell_at hW 6 rfl
  have ks7 := fun (W : World) (hW : W.heap[w.heap.size]? = some (.cells #[.int .i64 0, .int .i64 0, .int .i64 0, .int .i64 0, .int .i64 0, .int .i64 0, .int .i64 0, .int .i64 0, .slice none 0 0, .slice none 0 0, .slice none 0 0] 26 (0, 0))) => cell_at hW 7 rfl
  have ks8 := fun (W : World) (hW : W.heap[w.heap.size]? = some (.cells #[.int .i64 0, .int .i64 0, .int .i64 0, .int .i64 0, .int .i64 0, .int .i64 0, .int .i64 0, .int .i64 0, .slice none 0 0, .slice none 0 0, .slice none 0 0] 26 (0, 0))) => cell_at hW 8 rfl
  have ks9 := fun (W : World) (hW : W.heap[w.heap.size]? = some (.cells #[.int .i64 0, .int .i64 0, .int .i64 0, .int .i64 0, .int .i64 0, .int .i64 0, .int .i64 0, .int .i64 0, .slice none 0 0, .slice none 0 0, .slice none 0 0] 26 (0, 0))) => cell_at hW 9 rfl
  have ks10 := fun (W : World) (hW : W.heap[w.heap.size]? = some (.cells #[.int .i64 0, .int .i64 0, .int .i64 0, .int .i64 0, .int .i64 0, .int .i64 0, .int .i64 0, .int .i64 0, .slice none 0 0, .slice none 0 0, .slice none 0 0] 26 (0, 0))) => cell_at hW 10 rfl
  have kf := fun (W : World) (hW : W.heap[w.heap.size]? = some (.cells #[.int .i64 0, .int .i64 0, .int .i64 0, .int .i64 0, .int .i64 0, .int .i64 0, .int .i64 0, .int .i64 0, .slice none 0 0, .slice none 0 0, .slice none 0 0] 26 (0, 0))) (i : Nat) => free_at hW i
  have hd : w2.drew.heap[w.heap.size]? = some (.cells #[.int .i64 0, .int .i64 0, .int .i64 0, .int .i64 0, .int .i64 0, .int .i64 0, .int .i64 0, .int .i64 0, .slice none 0 0, .slice none 0 0, .slice none 0 0] 26 (0, 0)) := Hbox2.out
  have hz2 : w.heap.size < w2.drew.heap.size := lt_of_block hd
  refine wp_region_held_drew (S := fun W => W.heap[w.heap.size]? = some (.cells #[.int .i64 0, .int .i64 0, .int .i64 0, .int .i64 0, .int .i64 0, .int .i64 0, .int .i64 0, .int .i64 0, .slice none 0 0, .slice none 0 0, .slice none 0 0] 26 (0, 0))) (by kernel_rfl) hd (fun _ => ?_)
  refine wpAnyH_take (i := 0) (oi := ?oo1) (v := ?vv1) ?ii1 (by kernel_rfl) ?ff1 (by kernel_rfl) ?qq1 (Or.inl ⟨?ww1, ?yy1⟩) hd ?rr1
  case ii1 => simp only [List.getElem?_toArray, List.getElem?_cons_zero]; rfl
  case ff1 => kernel_rfl
  case qq1 => exact fun _ _ _ h => h
  case ww1 => rfl
  case yy1 => intro W hW; go_simp <;> with_reducible rfl
  try simp only [Act.put, List.setIfInBounds_toArray, List.set_cons_zero, List.set_cons_succ]
  refine wpAnyH_ready (rs := [1]) (by kernel_rfl) (by simp) ?_
  refine AllReadyH.cons (o := ?oo2) ?ii2 (fun K hK => ?_) AllReadyH.nil
  case ii2 => simp only [List.getElem?_toArray, List.getElem?_cons_succ, List.getElem?_cons_zero]; rfl
  go_simp
  refine (HN.out _).mono ?_
  rintro e w3 ⟨rfl, hw3⟩
  have hd3 : w3.heap[w.heap.size]? = some (.cells #[.int .i64 0, .int .i64 0, .int .i64 0, .int .i64 0, .int .i64 0, .int .i64 0, .int .i64 0, .int .i64 0, .slice none 0 0, .slice none 0 0, .slice none 0 0] 26 (0, 0)) := by rw [hw3]; exact (Below.heap_alloc w2.drew (.cells #[.int .i64 7, .int .i64 0, .nilIface] 73) _ hz2).trans hd
  have HE3 : Hid (ErrText w3 (.iface 71 (.pointer (some ⟨w2.drew.heap.size, 0, none⟩))) (atT 7 0)) := Lib.hid (by rw [hw3]; exact ErrText.new w2.drew 7 0 (by omega) (by omega))
  have HT3 : Hid (TakeIn br A n cap l w m.at_ false w3) := Lib.hid (by
    have h9 := H1.out
    have h8 := Hrd2.out.drew.alloc (.cells #[.int .i64 7, .int .i64 0, .nilIface] 73)
    rw [Hs.out] at h8
    rw [hw3]
    exact ⟨h8, ((((Apart.refl (RF br) w).alloc _).trans h9.2 (fun _ e => .inl e)).trans (F := RF br) (G := fun _ => False) (Apart.of_below' Hb2.out) (fun _ h => h.elim)).drew.alloc _⟩)
  clear hw3
  generalize w2.drew.heap.size = NE at *
  go_wp2_with fail
  refine hK.out _ _ hd3 (fun _ => ?_)
  clear hK K
  clear ks0 ks1 ks2 ks3 ks4 ks5 ks6 ks7 ks8 ks9 ks10 kf
  have k0 := cell_at hd3 0 rfl
  have k1 := cell_at hd3 1 rfl
  have k2 := cell_at hd3 2 rfl
  have k3 := cell_at hd3 3 rfl
  have k4 := cell_at hd3 4 rfl
  have k5 := cell_at hd3 5 rfl
  have k6 := cell_at hd3 6 rfl
  have k7 := cell_at hd3 7 rfl
  have k8 := cell_at hd3 8 rfl
  have k9 := cell_at hd3 9 rfl
  have k10 := cell_at hd3 10 rfl
  have f := fun i => free_at hd3 i
  have hfin := storeAll_heap (b := w.heap.size) [.int .i64 0, .int .i64 0, .int .i64 0, .int .i64 0, .int .i64 0, .int .i64 0, .int .i64 0, .int .i64 0, .slice none 0 0, .slice none 0 0, .slice none 0 0] 0 w3 [] [_, _, _, _, _, _, _, _, _, _, _] hd3 rfl rfl
  rw [List.nil_append] at hfin
  refine wpAnyH_ready (rs := [2]) (by kernel_rfl) (by simp) ?_
  refine AllReadyH.cons (o := ?oo3) ?ii3 (fun K hK => ?_) AllReadyH.nil
  case ii3 => simp only [List.getElem?_toArray, List.getElem?_cons_succ, List.getElem?_cons_zero]; rfl
  go_simp
  refine hK.out _ (storeAll w3 w.heap.size [.int .i64 0, .int .i64 0, .int .i64 0, .int .i64 0, .int .i64 0, .int .i64 0, .int .i64 0, .int .i64 0, .slice none 0 0, .slice none 0 0, .slice none 0 0] 0) hfin (fun _ => ?_)
  clear hK K
  have HF : Hid (KindPost br A n cap l m.at_ w (.returned (.tuple #[zeroCC.value, .iface 71 (.pointer (some ⟨NE, 0, none⟩))])) (storeAll w3 w.heap.size [.int .i64 0, .int .i64 0, .int .i64 0, .int .i64 0, .int .i64 0, .int .i64 0, .int .i64 0, .int .i64 0, .slice none 0 0, .slice none 0 0, .slice none 0 0] 0)) := Lib.hid (by
    have h1 := storeAll_apart w.heap.size [.int .i64 0, .int .i64 0, .int .i64 0, .int .i64 0, .int .i64 0, .int .i64 0, .int .i64 0, .int .i64 0, .slice none 0 0, .slice none 0 0, .slice none 0 0] 0 w3
    refine ⟨zeroCC, NE, rfl, ErrTextK.storeAll HE3.out hd3 (by decide) _, HT3.out.1.apart h1 (fun e => by omega) (fun k hk e => by have := HA.out k hk; omega), HT3.out.2.trans h1 (fun k e => .inr (Nat.le_of_eq e.symm))⟩)
  generalize storeAll w3 w.heap.size [.int .i64 0, .int .i64 0, .int .i64 0, .int .i64 0, .int .i64 0, .int .i64 0, .int .i64 0, .int .i64 0, .slice none 0 0, .slice none 0 0, .slice none 0 0] 0 = Wf at *
  clear k0 k1 k2 k3 k4 k5 k6 k7 k8 k9 k10 f
  refine wpAnyH_take (i := 3) (oi := ?oo4) (v := ?vv4) ?ii4 (by kernel_rfl) ?ff4 (by kernel_rfl) ?qq4 (Or.inl ⟨?ww4, ?yy4⟩) hfin ?rr4
  case ii4 => simp only [List.getElem?_toArray, List.getElem?_cons_succ, List.getElem?_cons_zero]; rfl
  case ff4 => kernel_rfl
  case qq4 => exact fun _ _ _ h => h
  case ww4 => rfl
  case yy4 => intro W hW; go_simp <;> with_reducible rfl
  try simp only [Act.put, List.setIfInBounds_toArray, List.set_cons_zero, List.set_cons_succ]
  refine wpAnyH_done (by kernel_rfl) ?_ _
  have r0 := cell_at hfin 0 rfl
  have r1 := cell_at hfin 1 rfl
  have r2 := cell_at hfin 2 rfl
  have r3 := cell_at hfin 3 rfl
  have r4 := cell_at hfin 4 rfl
  have r5 := cell_at hfin 5 rfl
  have r6 := cell_at hfin 6 rfl
  have r7 := cell_at hfin 7 rfl
  have r8 := cell_at hfin 8 rfl
  have r9 := cell_at hfin 9 rfl
  have r10 := cell_at hfin 10 rfl
  go_wp2_with fail
  refine bodyPost_ret (v := .tuple #[.agg #[.int .i64 0, .int .i64 0, .int .i64 0, .int .i64 0, .int .i64 0, .int .i64 0, .int .i64 0, .int .i64 0, .slice none 0 0, .slice none 0 0, .slice none 0 0], .iface 71 (.pointer (some ⟨NE, 0, none⟩))]) (by simp [results, Try.results38, go_sem, r0, r1, r2, r3, r4, r5, r6, r7, r8, r9, r10]) rfl ?_
  exact HF.out
end Go.Proofs.Ytgceleipaiameaa
namespace Go.Proofs.Ytgceleipaiameaa
open Go.RowKit
set_option maxRecDepth 100000

/-- The cells of tables that are being read. -/
def rdCells (x0 x1 x2 x3 x4 x5 x6 x7 : Nat) (vP vQ vR : Value) : Array Value := #[.int .i64 (x0 : Nat), .int .i64 (x1 : Nat), .int .i64 (x2 : Nat), .int .i64 (x3 : Nat), .int .i64 (x4 : Nat), .int .i64 (x5 : Nat), .int .i64 (x6 : Nat), .int .i64 (x7 : Nat), vP, vQ, vR]

/-- What takeTables answers behind the mark. -/
def RestPost (br : Nat) (A : Option Addr) (n cap : Nat) (l : List UInt8) (x0 x1 x2 x3 x4 x5 x6 x7 n2 : Nat) (DP : List TableP.Part × Nat × Bool) (DQ : (List TableP.Port × Nat × Bool) ⊕ (Nat × Nat)) (w : World) (e : Ending) (w' : World) : Prop :=
  match DQ with
  | .inr (p, i) => ∃ (x : CfgC) (b : Nat), e = .returned (.tuple #[x.value, .iface 71 (.pointer (some ⟨b, 0, none⟩))]) ∧ ErrText w' (.iface 71 (.pointer (some ⟨b, 0, none⟩))) (atT 8 (i : Nat)) ∧ TakeIn br A n cap l w p false w'
  | .inl (qs, a1, s1) => ∃ x : CfgC, e = .returned (.tuple #[x.value, .nilIface]) ∧ TakeIn br A n cap l w (TableP.routesD l n2 a1 s1).2.1 (TableP.routesD l n2 a1 s1).2.2 w' ∧ CfgIn w' x ∧ CfgHi w.heap.size x ∧
      ((TableP.routesD l n2 a1 s1).2.2 = false → x.plain = ⟨x0, x1, x2, x3, x4, x5, x6, x7, DP.1, qs, (TableP.routesD l n2 a1 s1).1⟩)

def PRel (br bc : Nat) (A : Option Addr) (n cap : Nat) (l : List UInt8) (W : World) (X : Value → Array Value) (N : Nat) (D : List TableP.Part × Nat × Bool) (i : Value) (w : World) : Prop :=
  ∃ k ps v a s, k ≤ N ∧ i = .int .i64 (k : Nat) ∧ Bx br bc A n cap l W 26 a s (X v) w ∧ OwnI partVals 9 60 W.heap.size v ps w ∧ ps.length = k ∧ (TableP.partsD l (N - k) a s).2 = D.2 ∧ (D.2.2 = false → ps ++ (TableP.partsD l (N - k) a s).1 = D.1) ∧ ∃ Av cv, v = .slice Av k cv
def QRel (br bc : Nat) (A : Option Addr) (n cap : Nat) (l : List UInt8) (W : World) (X : Value → Array Value) (vP : Value) (ps : List TableP.Part) (N : Nat) (D : (List TableP.Port × Nat × Bool) ⊕ (Nat × Nat)) (i : Value) (w : World) : Prop :=
  ∃ k qs v a s, k ≤ N ∧ i = .int .i64 (k : Nat) ∧ Bx br bc A n cap l W 26 a s (X v) w ∧ OwnI partVals 9 60 W.heap.size vP ps w ∧ OwnI portVals 6 63 W.heap.size v qs w ∧ (∀ b, vP.ownBlock = some b → v.ownBlock ≠ some b) ∧ qs.length = k ∧ PortsTo qs (TableP.portsD l (N - k) k a s) D ∧ ∃ Av cv, v = .slice Av k cv
def RRel (br bc : Nat) (A : Option Addr) (n cap : Nat) (l : List UInt8) (W : World) (X : Value → Array Value) (vP : Value) (ps : List TableP.Part) (vQ : Value) (qs : List TableP.Port) (N : Nat) (D : List TableP.Route × Nat × Bool) (i : Value) (w : World) : Prop :=
  ∃ k rs v a s, k ≤ N ∧ i = .int .i64 (k : Nat) ∧ Bx br bc A n cap l W 26 a s (X v) w ∧ OwnI partVals 9 60 W.heap.size vP ps w ∧ OwnI portVals 6 63 W.heap.size vQ qs w ∧ OwnI routeVals 2 66 W.heap.size v rs w ∧ (∀ b, vP.ownBlock = some b → v.ownBlock ≠ some b) ∧ (∀ b, vQ.ownBlock = some b → v.ownBlock ≠ some b) ∧ rs.length = k ∧ (TableP.routesD l (N - k) a s).2 = D.2 ∧ (D.2.2 = false → rs ++ (TableP.routesD l (N - k) a s).1 = D.1) ∧ ∃ Av cv, v = .slice Av k cv

/-- What stays while another row grows. -/
theorem grow_ne {v v' vO : Value} {N : Nat} (hb : v'.ownBlock = v.ownBlock ∨ v'.ownBlock = some N) (h : ∀ b, vO.ownBlock = some b → v.ownBlock ≠ some b) (hN : ∀ b, vO.ownBlock = some b → b < N) : ∀ b, vO.ownBlock = some b → v'.ownBlock ≠ some b := by
  intro b hvb e
  rcases hb with e1 | e1
  · exact h b hvb (e1 ▸ e)
  · rw [e1] at e
    have := hN b hvb
    injection e with e
    omega

theorem items_own {α : Type} {vals : α → List Value} {size : Nat} (hs : ∀ x, (vals x).length = size) {e : TypeId} {B : Nat} {A : Option Addr} {n cap : Nat} {l : List α} {W : World} (h : OwnI vals size e B (.slice A n cap) l W) (hl : l.length = n) : n ≤ cap ∧ ItemsIn vals size W A l := by
  obtain ⟨A', cap', e1, h1, h2⟩ := ItemsIn.own hs h.own
  injection e1 with e1 _ e3
  subst e1 e3
  exact ⟨by omega, h2⟩
theorem three_boxes {wc w3 : World} {br bc : Nat} {o1 o2 o3 : Obj} (ha : Apart (fun k => k = br ∨ k = bc) (((wc.alloc o1).alloc o2).alloc o3) w3) (hbr : br < wc.heap.size) (hbc : bc < wc.heap.size) :
    w3.heap[wc.heap.size]? = some o1 ∧ w3.heap[wc.heap.size + 1]? = some o2 ∧ w3.heap[wc.heap.size + 1 + 1]? = some o3 := by
  refine ⟨(ha.block _ (by simp <;> omega) (by omega)).trans ?_, (ha.block _ (by simp <;> omega) (by omega)).trans ?_, (ha.block _ (by simp) (by omega)).trans ?_⟩
  · exact (Below.heap_alloc _ _ _ (by simp <;> omega)).trans ((Below.heap_alloc _ _ _ (by simp)).trans (heap_alloc_new wc o1))
  · have h := heap_alloc_new (wc.alloc o1) o2
    refine (Below.heap_alloc _ _ _ (by simp)).trans ?_
    simpa using h
  · have h := heap_alloc_new ((wc.alloc o1).alloc o2) o3
    simpa using h

set_option maxHeartbeats 8000000 in
theorem takeTables_rest (br : Nat) (A : Option Addr) (n cap : Nat) (l : List UInt8) (w : World) (h : ReaderAt w br A n cap l 0 false) (hA : ∀ k, blockOf A = some k → k < w.heap.size) (m x0 x1 x2 x3 x4 x5 x6 x7 x8 x9 x10 : WireP.Took) (hm : WireP.take l 0 false 4 = m) (hk : ¬ (m.short = false ∧ m.n ≠ TableP.magic))
    (h0 : WireP.take l m.at_ m.short 1 = x0) (h1 : WireP.take l x0.at_ x0.short 1 = x1) (h2 : WireP.take l x1.at_ x1.short 4 = x2) (h3 : WireP.take l x2.at_ x2.short 4 = x3) (h4 : WireP.take l x3.at_ x3.short 4 = x4) (h5 : WireP.take l x4.at_ x4.short 4 = x5) (h6 : WireP.take l x5.at_ x5.short 4 = x6) (h7 : WireP.take l x6.at_ x6.short 4 = x7) (h8 : WireP.take l x7.at_ x7.short 1 = x8) (h9 : WireP.take l x8.at_ x8.short 1 = x9) (h10 : WireP.take l x9.at_ x9.short 1 = x10)
    (DP : List TableP.Part × Nat × Bool) (hDP : TableP.partsD l x8.n x10.at_ x10.short = DP) (DQ : (List TableP.Port × Nat × Bool) ⊕ (Nat × Nat)) (hDQ : TableP.portsD l x9.n 0 DP.2.1 DP.2.2 = DQ) :
    Calls Try.prog 38 #[.pointer (some ⟨br, 0, none⟩)] w (RestPost br A n cap l x0.n x1.n x2.n x3.n x4.n x5.n x6.n x7.n x10.n DP DQ w) := by
  have H := Lib.hid h
  have HA := Lib.hid hA
  have hbr := h.lt
  have HI := Lib.hid (fun o => TakeIn.start (h.alloc o))
  have Hm := Lib.hid hm
  have Hk := Lib.hid hk
  have HD1 : Hid (takesD l ((1 : Nat) : Int) 2 m.at_ m.short = ([x0.n, x1.n], x1.at_, x1.short)) := Lib.hid (by
    show takesD l 1 2 m.at_ m.short = _
    simp only [takesD, h0, h1])
  have HD2 : Hid (takesD l ((4 : Nat) : Int) 6 x1.at_ x1.short = ([x2.n, x3.n, x4.n, x5.n, x6.n, x7.n], x7.at_, x7.short)) := Lib.hid (by
    show takesD l 4 6 x1.at_ x1.short = _
    simp only [takesD, h2, h3, h4, h5, h6, h7])
  have HD3 : Hid (takesD l ((1 : Nat) : Int) 3 x7.at_ x7.short = ([x8.n, x9.n, x10.n], x10.at_, x10.short)) := Lib.hid (by
    show takesD l 1 3 x7.at_ x7.short = _
    simp only [takesD, h8, h9, h10])
  have l8 : x8.n < 256 := by rw [← h8]; exact take_lt1 _ _ _
  have l9 : x9.n < 256 := by rw [← h9]; exact take_lt1 _ _ _
  have l10 : x10.n < 256 := by rw [← h10]; exact take_lt1 _ _ _
  have HDP := Lib.hid hDP
  have HDQ := Lib.hid hDQ
  clear h hA hm hk h0 h1 h2 h3 h4 h5 h6 h7 h8 h9 h10 hDP hDQ
  go_enter Try.func38, Try.ntmps38
  go_wp2_with fail
  refine ((HI.out _).take 4).mono ?_
  rw [Hm.out]
  rintro e w1 ⟨rfl, h1⟩
  have H1 := Lib.hid h1
  clear h1
  go_upto_region 2 with (fail)
  go_cut [19] (fun s wx => s = .bool false ∧ TakeIn br A n cap l (w.alloc (.cells #[.int .i64 0, .int .i64 0, .int .i64 0, .int .i64 0, .int .i64 0, .int .i64 0, .int .i64 0, .int .i64 0, .slice none 0 0, .slice none 0 0, .slice none 0 0] 26)) m.at_ m.short wx)
  case first =>
    have hE := err_any br A n cap l m.at_ m.short w1 H1.out.1
    have HTB : Hid (∀ wx, Below w1.heap.size w1 wx → TakeIn br A n cap l (w.alloc (.cells #[.int .i64 0, .int .i64 0, .int .i64 0, .int .i64 0, .int .i64 0, .int .i64 0, .int .i64 0, .int .i64 0, .slice none 0 0, .slice none 0 0, .slice none 0 0] 26)) m.at_ m.short wx) := Lib.hid fun wx hb => ⟨H1.out.1.below hb, H1.out.2.trans (F := RF br) (G := fun _ => False) (Apart.of_below' hb) (fun _ h => h.elim)⟩
    by_cases hs : m.short = false
    · have hmn : m.n = TableP.magic := Classical.byContradiction fun hn => Hk.out ⟨hs, hn⟩
      have q1 : ((m.n : Int) != 1163084593) = false := by rw [hmn]; rfl
      rw [hs] at hE
      have HE := Lib.hid hE
      clear hE hs hmn
      go_wp2_with fail
      refine HE.out.mono ?_
      rintro e w2 ⟨v2, rfl, hx2, hok2, hb2⟩
      simp only [Bool.not_false, if_true] at hok2
      subst hok2
      have HTB2 := Lib.hid (HTB.out _ hb2)
      clear hx2 hb2
      go_wp2_with fail
      go_meet
      exact ⟨rfl, HTB2.out⟩
    · have hs2 : m.short = true := by exact (Bool.eq_false_or_eq_true m.short).resolve_right hs
      rw [hs2] at hE
      have HE := Lib.hid hE
      clear hE hs hs2
      go_wp2_with fail
      refine HE.out.mono ?_
      rintro e w2 ⟨v2, rfl, hx2, hok2, hb2⟩
      simp only [Bool.not_true, Bool.false_eq_true, if_false] at hok2
      obtain ⟨b2, rfl⟩ := hok2
      have HTB2 := Lib.hid (HTB.out _ hb2)
      clear hx2 hb2
      go_wp2_with fail
      go_meet
      exact ⟨rfl, HTB2.out⟩
  case rest =>
    obtain ⟨rfl, ht⟩ := hcut
    have hbox := ht.box H.out
    have hzc : w.heap.size < wc.heap.size := lt_of_block hbox
    have hrc : br < wc.heap.size := by omega
    have HT := Lib.hid ht
    have HAc : Hid (∀ k, blockOf A = some k → k < wc.heap.size) := Lib.hid fun k hk => by have := HA.out k hk; omega
    have HO : Hid (BxOk br w.heap.size A) := Lib.hid (BxOk.start H.out HA.out)
    have HB0 : Hid (∀ o1 o2 o3, Bx br w.heap.size A n cap l (((wc.alloc o1).alloc o2).alloc o3) 26 m.at_ m.short #[.int .i64 0, .int .i64 0, .int .i64 0, .int .i64 0, .int .i64 0, .int .i64 0, .int .i64 0, .int .i64 0, .slice none 0 0, .slice none 0 0, .slice none 0 0] (((wc.alloc o1).alloc o2).alloc o3)) := Lib.hid fun o1 o2 o3 =>
      ⟨((ht.1.alloc o1).alloc o2).alloc o3, (Below.heap_alloc _ _ _ (by simp; omega)).trans ((Below.heap_alloc _ _ _ (by simp; omega)).trans ((Below.heap_alloc _ _ _ hzc).trans hbox)), Apart.refl _ _⟩
    clear H1 ht hbox
    go_wp2_with fail
    refine Calls.mono ((HB0.out _ _ _).takes HO.out 1 ?hs1 [(w.heap.size, 0), (w.heap.size, 1)] ?hp1 2 _ _ ?hn1 ?hN1 _ _ ?hc1 ?hz1) ?hr1
    case hs1 => omega
    case hp1 => simp
    case hn1 => rfl
    case hN1 => simp
    case hc1 => rfl
    case hz1 => omega
    rintro e w2 ⟨rfl, hb2⟩
    rw [HD1.out] at hb2
    simp [setAll] at hb2
    have HB2 := Lib.hid hb2
    clear hb2
    go_wp2_with fail
    refine Calls.mono (HB2.out.takes HO.out 4 ?hs2 [(w.heap.size, 2), (w.heap.size, 3), (w.heap.size, 4), (w.heap.size, 5), (w.heap.size, 6), (w.heap.size, 7)] ?hp2 6 _ _ ?hn2 ?hN2 _ _ ?hc2 ?hz2) ?hr2
    case hs2 => omega
    case hp2 => simp
    case hn2 => rfl
    case hN2 => simp
    case hc2 => rfl
    case hz2 => omega
    rintro e w3 ⟨rfl, hb3⟩
    rw [HD2.out] at hb3
    simp [setAll] at hb3
    have HB3 := Lib.hid hb3
    clear hb3
    go_wp2_with fail
    obtain ⟨z1, z2, z3⟩ := three_boxes HB3.out.ap hrc hzc
    have hw3 := HB3.out.ap.size
    simp at hw3
    have hFO : FieldsOk br A (w3.alloc (.cells #[.pointer (some ⟨wc.heap.size, 0, none⟩), .pointer (some ⟨wc.heap.size + 1, 0, none⟩), .pointer (some ⟨wc.heap.size + 1 + 1, 0, none⟩)] 101)) [(wc.heap.size, 0), (wc.heap.size + 1, 0), (wc.heap.size + 1 + 1, 0)] := by
      refine ⟨fun p hp => ?_, fun p hp => ?_, fun p hp => ?_⟩
      · simp only [List.mem_cons, List.not_mem_nil, or_false] at hp
        intro e
        rcases hp with rfl | rfl | rfl <;> simp only at e <;> omega
      · simp only [List.mem_cons, List.not_mem_nil, or_false] at hp
        intro e
        rcases hp with rfl | rfl | rfl <;> simp only at e <;> have := HAc.out _ e <;> omega
      · simp only [List.mem_cons, List.not_mem_nil, or_false] at hp
        rcases hp with rfl | rfl | rfl
        · exact ⟨_, _, (Below.heap_alloc _ _ _ (by omega)).trans z1, by simp⟩
        · exact ⟨_, _, (Below.heap_alloc _ _ _ (by omega)).trans z2, by simp⟩
        · exact ⟨_, _, (Below.heap_alloc _ _ _ (by omega)).trans z3, by simp⟩
    have HTk := Lib.hid (takes_any br A n cap l x7.at_ x7.short 1 (.inl rfl) [(wc.heap.size, 0), (wc.heap.size + 1, 0), (wc.heap.size + 1 + 1, 0)] 3 w3.heap.size 3 rfl _ (HB3.out.rd.alloc _) hFO _ _ (heap_alloc_new w3 _) rfl (by
      rintro (e | ⟨p, hp, e⟩)
      · omega
      · simp only [List.mem_cons, List.not_mem_nil, or_false] at hp
        rcases hp with rfl | rfl | rfl <;> simp only at e <;> omega) (by omega))
    rw [HD3.out] at HTk
    have Hz := Lib.hid (And.intro z1 (And.intro z2 z3))
    clear hFO z1 z2 z3
    refine HTk.out.mono ?_
    rintro e w4 ⟨rfl, ht4⟩
    have y1 := ht4.box wc.heap.size _ _ ⟨(wc.heap.size, 0), by simp, rfl⟩ ((Below.heap_alloc _ _ _ (by omega)).trans Hz.out.1)
    have y2 := ht4.box (wc.heap.size + 1) _ _ ⟨(wc.heap.size + 1, 0), by simp, rfl⟩ ((Below.heap_alloc _ _ _ (by omega)).trans Hz.out.2.1)
    have y3 := ht4.box (wc.heap.size + 1 + 1) _ _ ⟨(wc.heap.size + 1 + 1, 0), by simp, rfl⟩ ((Below.heap_alloc _ _ _ (by omega)).trans Hz.out.2.2)
    have n1 : ¬ (wc.heap.size = wc.heap.size + 1 + 1) := by omega
    have n2 : ¬ (wc.heap.size + 1 + 1 = wc.heap.size) := by omega
    simp [setAll, n1, n2] at y1 y2 y3
    clear n1 n2
    have hcb : w4.heap[w.heap.size]? = some (.cells (rdCells x0.n x1.n x2.n x3.n x4.n x5.n x6.n x7.n (.slice none 0 0) (.slice none 0 0) (.slice none 0 0)) 26 (0, 0)) := by
      refine (ht4.ap.block w.heap.size (by simp; omega) ?_).trans ((Below.heap_alloc _ _ _ (by omega)).trans HB3.out.box)
      rintro (e | ⟨p, hp, e⟩)
      · omega
      · simp only [List.mem_cons, List.not_mem_nil, or_false] at hp
        rcases hp with rfl | rfl | rfl <;> simp only at e <;> omega
    have HBX : Hid (Bx br w.heap.size A n cap l w4 26 x10.at_ x10.short (rdCells x0.n x1.n x2.n x3.n x4.n x5.n x6.n x7.n (.slice none 0 0) (.slice none 0 0) (.slice none 0 0)) w4) := Lib.hid ⟨ht4.rd, hcb, Apart.refl _ _⟩
    have h44 := ht4.ap.size
    simp at h44
    have HTW : Hid (Apart (RF br) w w4) := Lib.hid (by
      have a1 := ((Apart.refl (RF br) w).alloc _).trans HT.out.2 (fun _ e => .inl e)
      have a2 : Apart (RF br) w w3 := (((a1.alloc _).alloc _).alloc _).trans HB3.out.ap (fun k e => by
        rcases e with e | e
        · exact .inl e
        · exact .inr (by omega))
      exact (a2.alloc _).trans ht4.ap (fun k e => by
        rcases e with e | ⟨p, hp, e⟩
        · exact .inl e
        · simp only [List.mem_cons, List.not_mem_nil, or_false] at hp
          rcases hp with rfl | rfl | rfl <;> simp only at e <;> exact .inr (by omega)))
    have hz4 : w.heap.size < w4.heap.size := lt_of_block hcb
    have hr4 : br < w4.heap.size := by omega
    have HA4 : Hid (∀ k, blockOf A = some k → k < w4.heap.size) := Lib.hid fun k hk => by have := HAc.out k hk; omega
    have HC : Hid (∀ wr, Apart (fun k => k = br ∨ k = w.heap.size) w4 wr → wr.cell? ⟨wc.heap.size + 1, 0, none⟩ = some (.int .i64 (x9.n : Nat)) ∧ wr.cell? ⟨wc.heap.size + 1 + 1, 0, none⟩ = some (.int .i64 (x10.n : Nat))) := Lib.hid fun wr ha =>
      ⟨cell_at ((ha.block _ (lt_of_block y2) (by omega)).trans y2) 0 rfl, cell_at ((ha.block _ (lt_of_block y3) (by omega)).trans y3) 0 rfl⟩
    have yc := cell_at y1 0 rfl
    clear HTk Hz ht4 y1 y2 y3 hcb h44 HB0 HB2 HB3 HT HAc hw3 HD1 HD2 HD3 H HI
    go_wp2_with fail
    have h0 : Hid (PRel br w.heap.size A n cap l w4 (fun v => rdCells x0.n x1.n x2.n x3.n x4.n x5.n x6.n x7.n v (.slice none 0 0) (.slice none 0 0)) x8.n DP (.int .i64 0) w4) := Lib.hid ⟨0, [], .slice none 0 0, x10.at_, x10.short, Nat.zero_le _, rfl, HBX.out, OwnI.nil _ _ _ _ _, rfl, by rw [Nat.sub_zero, HDP.out], fun _ => by rw [Nat.sub_zero, HDP.out]; rfl, _, _, rfl⟩
    clear HBX yc
    go_loopw [40] (PRel br w.heap.size A n cap l w4 (fun v => rdCells x0.n x1.n x2.n x3.n x4.n x5.n x6.n x7.n v (.slice none 0 0) (.slice none 0 0)) x8.n DP) (fun i _ => (x8.n + 1 - intOf i).toNat)
    case atStart => exact h0.out
    case round =>
      clear h0
      obtain ⟨k, ps, v, a2, s2, hk, rfl, hb, ho, hpl, g2, g3, Av, cv, rfl⟩ := hrel
      have HB := Lib.hid hb
      have HOw := Lib.hid ho
      have Hpl := Lib.hid hpl
      have G2 := Lib.hid g2
      have G3 := Lib.hid g3
      clear hb ho hpl g2 g3
      by_cases hlt : k < x8.n
      · obtain ⟨t0, e0⟩ : ∃ x, WireP.take l a2 s2 1 = x := ⟨_, rfl⟩
        obtain ⟨t1, e1⟩ : ∃ x, WireP.take l t0.at_ t0.short 4 = x := ⟨_, rfl⟩
        obtain ⟨t2, e2⟩ : ∃ x, WireP.take l t1.at_ t1.short 4 = x := ⟨_, rfl⟩
        obtain ⟨t3, e3⟩ : ∃ x, WireP.take l t2.at_ t2.short 1 = x := ⟨_, rfl⟩
        obtain ⟨t4, e4⟩ : ∃ x, WireP.take l t3.at_ t3.short 1 = x := ⟨_, rfl⟩
        obtain ⟨t5, e5⟩ : ∃ x, WireP.take l t4.at_ t4.short 1 = x := ⟨_, rfl⟩
        obtain ⟨t6, e6⟩ : ∃ x, WireP.take l t5.at_ t5.short 1 = x := ⟨_, rfl⟩
        obtain ⟨t7, e7⟩ : ∃ x, WireP.take l t6.at_ t6.short 1 = x := ⟨_, rfl⟩
        obtain ⟨t8, e8⟩ : ∃ x, WireP.take l t7.at_ t7.short 1 = x := ⟨_, rfl⟩
        have Hst := Lib.hid (partsD_step (D := DP) (ps := ps) (j := x8.n - (k + 1)) e0 e1 e2 e3 e4 e5 e6 e7 e8 (by rw [show x8.n - (k + 1) + 1 = x8.n - k by omega]; exact G2.out) (by rw [show x8.n - (k + 1) + 1 = x8.n - k by omega]; exact G3.out))
        have HTp := Lib.hid (takePart_any br A n cap l a2 s2 wr.drew HB.out.rd.drew (fun q hq => by have := HA4.out q hq; have := HB.out.ap.size; simp; omega) t0 t1 t2 t3 t4 t5 t6 t7 t8 e0 e1 e2 e3 e4 e5 e6 e7 e8)
        have kb : wr.cell? ⟨w.heap.size, 8, none⟩ = some (.slice Av k cv) := cell_at HB.out.box 8 rfl
        have fb := free_at HB.out.box 8
        have hl255 : ps.length ≤ 255 := by rw [Hpl.out]; omega
        clear e0 e1 e2 e3 e4 e5 e6 e7 e8 G2 G3
        simp only [partVals] at HTp
        go_wp2_with fail
        go_region_law (first
          | (refine step_append_s rfl (.tmp 43) (.tmp 46) _ rfl w4.heap.size 60 _ 9 48 Try.underlying22 infoP rfl (by omega) _ k (itemsV partVals ps) rfl (Hl8.out.alloc _) (some ⟨w8.heap.size, 0, none⟩) 1 1 (partVals ⟨t0.n, t1.n, t2.n, t3.n, t4.n, t5.n, t6.n, t7.n, t8.n⟩) rfl rfl (fun _ => ⟨_, rfl, laid_at w8 _ (partVals ⟨t0.n, t1.n, t2.n, t3.n, t4.n, t5.n, t6.n, t7.n, t8.n⟩) w8.heap.size rfl⟩) (partVals_one _) (by unfold maxLen; omega) (by omega) (by have := HB8.out.ap.size; simp; omega) ?_
             intro v9 w9 ho9 ha9 hb9
             have ha90 : Apart (fun q => (Value.slice Av k cv).ownBlock = some q) w8 w9 := ((Apart.refl _ w8).alloc _).trans ha9 (fun _ e => .inl e)
             have hs9 := HB8.out.apart hr4 hz4 HA4.out ha90 (fun q e => HO8.out.hi q e)
             have hn9 : OwnI partVals 9 60 w4.heap.size v9 (ps ++ [⟨t0.n, t1.n, t2.n, t3.n, t4.n, t5.n, t6.n, t7.n, t8.n⟩]) w9 := OwnI.more (by rw [Hpl.out]; exact ho9)
             obtain ⟨A9, c9, rfl, -⟩ := own_slice ho9
             have kb9 : w9.cell? ⟨w.heap.size, 8, none⟩ = some (.slice Av k cv) := cell_at hs9.box 8 rfl
             have fb9 := free_at hs9.box 8
             have HS10 := Lib.hid (hs9.store HO.out 8 (.slice A9 (k + 1) c9))
             have HO10 := Lib.hid (hn9.apart (Apart.setCell (F := fun q => q = w.heap.size) (Apart.refl _ w9) (p := ⟨w.heap.size, 8, none⟩) (.inl rfl) (.slice A9 (k + 1) c9)) (fun q e => by omega))
             clear ho9 ha9 hb9 hn9 hs9 ha90)
          | (go_simp
             refine HTp.out.mono ?_
             rintro e w8 ⟨rfl, ht8⟩
             have hb8 := HB.out.drew.tk HO.out ht8
             have HO8 := Lib.hid ((HOw.out.new (Apart.refl (fun _ => False) wr).drew (fun _ _ h => h)).apart ht8.2 (fun q e => by have e : q = br := e; omega))
             have hown8 : w8.ownsRow w4.heap.size 60 9 (.slice Av k cv) k (itemsV partVals ps) := by have h9 := HO8.out.own; rw [Hpl.out] at h9; exact h9
             have Hl8 := Lib.hid hown8
             have HB8 := Lib.hid hb8
             have kb8 : w8.cell? ⟨w.heap.size, 8, none⟩ = some (.slice Av k cv) := cell_at hb8.box 8 rfl
             have fb8 := free_at hb8.box 8
             have hz8 : w.heap.size < w8.heap.size := Nat.lt_of_lt_of_le hz4 hb8.ap.size
             clear ht8 hb8 hown8
             go_wp2_with fail))
        all_goals
          go_wp2_with fail
          go_roundw
          case rel => exact ⟨k + 1, _, .slice A9 (k + 1) c9, _, _, by omega, by go_num, HS10.out, HO10.out, by rw [List.length_append, Hpl.out]; rfl, Hst.out.1, Hst.out.2, A9, c9, rfl⟩
          case measure => simp [intOf]; omega
      have hkn : x8.n = k := by omega
      have hPD : DP.2.1 = a2 ∧ DP.2.2 = s2 ∧ (s2 = false → ps = DP.1) := by
        have g2 := G2.out
        have g3 := G3.out
        rw [← hkn, Nat.sub_self] at g2 g3
        have e2 : DP.2 = (a2, s2) := by rw [← g2]; rfl
        rw [e2]
        exact ⟨rfl, rfl, fun hs => by have := g3 (by rw [e2]; exact hs); simpa [TableP.partsD] using this⟩
      obtain ⟨hP1, hP2, hP3⟩ := hPD
      have HP3 := Lib.hid hP3
      have hdq := HDQ.out
      rw [hP1, hP2] at hdq
      have HDQ2 := Lib.hid hdq
      obtain ⟨kc1, kc2⟩ := HC.out wr HB.out.ap
      clear G2 G3 hP3 hdq HDQ
      subst hkn
      go_wp2_with fail
      clear kc1 kc2
      have h0 : Hid (QRel br w.heap.size A n cap l w4 (fun v => rdCells x0.n x1.n x2.n x3.n x4.n x5.n x6.n x7.n (.slice Av x8.n cv) v (.slice none 0 0)) (.slice Av x8.n cv) ps x9.n DQ (.int .i64 0) wr) := Lib.hid ⟨0, [], .slice none 0 0, a2, s2, Nat.zero_le _, rfl, HB.out, HOw.out, OwnI.nil _ _ _ _ _, fun _ _ => by simp [Value.ownBlock], rfl, by rw [Nat.sub_zero, HDQ2.out]; exact PortsTo.start _, _, _, rfl⟩
      clear HB HOw
      have HS2 : Hid (∀ q a3, DQ = .inl (q, a3, false) → s2 = false) := Lib.hid fun q a3 e => by
        rw [← HDQ2.out] at e
        exact (TableP.portsD_inv _ _ _ _ _ _ e).1
      clear HDQ2
      go_loopw [51] (QRel br w.heap.size A n cap l w4 (fun v => rdCells x0.n x1.n x2.n x3.n x4.n x5.n x6.n x7.n (.slice Av x8.n cv) v (.slice none 0 0)) (.slice Av x8.n cv) ps x9.n DQ) (fun i _ => (x9.n + 1 - intOf i).toNat)
      case atStart => exact h0.out
      case round =>
        clear h0
        obtain ⟨k, qs, v, a3, s3, hk2, rfl, hb, hoP, hoQ, hdis, hql, hto, Bv, cq, rfl⟩ := hrel
        have HB := Lib.hid hb
        have HOP := Lib.hid hoP
        have HOQ := Lib.hid hoQ
        have Hdis := Lib.hid hdis
        have Hql := Lib.hid hql
        have Hto := Lib.hid hto
        clear hb hoP hoQ hdis hql hto
        by_cases hlt2 : k < x9.n
        · obtain ⟨t0, e0⟩ : ∃ x, WireP.take l a3 s3 1 = x := ⟨_, rfl⟩
          obtain ⟨t1, e1⟩ : ∃ x, WireP.take l t0.at_ t0.short 1 = x := ⟨_, rfl⟩
          obtain ⟨t2, e2⟩ : ∃ x, WireP.take l t1.at_ t1.short 1 = x := ⟨_, rfl⟩
          obtain ⟨t3, e3⟩ : ∃ x, WireP.take l t2.at_ t2.short 1 = x := ⟨_, rfl⟩
          obtain ⟨t4, e4⟩ : ∃ x, WireP.take l t3.at_ t3.short 1 = x := ⟨_, rfl⟩
          obtain ⟨t5, e5⟩ : ∃ x, WireP.take l t4.at_ t4.short 1 = x := ⟨_, rfl⟩
          have Hbad := Lib.hid (fun hb => portsD_bad (D := DQ) (ps := qs) (i := k) (j := x9.n - (k + 1)) e0 e1 e2 hb (by rw [show x9.n - (k + 1) + 1 = x9.n - k by omega]; exact Hto.out))
          have Hst := Lib.hid (fun hb => portsD_step (D := DQ) (ps := qs) (i := k) (j := x9.n - (k + 1)) e0 e1 e2 e3 e4 e5 hb (by rw [show x9.n - (k + 1) + 1 = x9.n - k by omega]; exact Hto.out))
          have HTq := Lib.hid (takePort_any br A n cap l a3 s3 wr HB.out.rd (fun q hq => by have := HA4.out q hq; have := HB.out.ap.size; omega) t0 t1 t2 t3 t4 t5 e0 e1 e2 e3 e4 e5)
          have hl255 : qs.length ≤ 255 := by rw [Hql.out]; omega
          clear e0 e1 e2 e3 e4 e5 Hto
          unfold PortPost at HTq
          by_cases hbad : 1 < t2.n
          case pos =>
            simp only [hbad, if_true] at HTq
            obtain ⟨hDQ, hsh⟩ := Hbad.out hbad
            rw [hsh] at HTq
            have HN := Lib.hid (fun W => new_some 8 (k : Int) W rfl)
            rw [place_of (k : Int) (by omega)] at HN
            clear Hbad Hst hbad HS2 HP3
            go_wp2_with fail
            refine HTq.out.mono ?_
            rintro e w8 ⟨rfl, ht8⟩
            have HB8 := Lib.hid (HB.out.tk HO.out ht8)
            clear ht8 HTq HB
            go_wp2_with fail
            have hz8 : w.heap.size < w8.heap.size := Nat.lt_of_lt_of_le hz4 HB8.out.ap.size
            have ks0 := fun (W : World) (hW : W.heap[w.heap.size]? = some (.cells #[.int .i64 (x0.n : Nat), .int .i64 (x1.n : Nat), .int .i64 (x2.n : Nat), .int .i64 (x3.n : Nat), .int .i64 (x4.n : Nat), .int .i64 (x5.n : Nat), .int .i64 (x6.n : Nat), .int .i64 (x7.n : Nat), .slice Av x8.n cv, .slice Bv k cq, .slice none 0 0] 26 (0, 0))) => cell_at hW 0 rfl
            have ks1 := fun (W : World) (hW : W.heap[w.heap.size]? = some (.cells #[.int .i64 (x0.n : Nat), .int .i64 (x1.n : Nat), .int .i64 (x2.n : Nat), .int .i64 (x3.n : Nat), .int .i64 (x4.n : Nat), .int .i64 (x5.n : Nat), .int .i64 (x6.n : Nat), .int .i64 (x7.n : Nat), .slice Av x8.n cv, .slice Bv k cq, .slice none 0 0] 26 (0, 0))) => cell_at hW 1 rfl
            have ks2 := fun (W : World) (hW : W.heap[w.heap.size]? = some (.cells #[.int .i64 (x0.n : Nat), .int .i64 (x1.n : Nat), .int .i64 (x2.n : Nat), .int .i64 (x3.n : Nat), .int .i64 (x4.n : Nat), .int .i64 (x5.n : Nat), .int .i64 (x6.n : Nat), .int .i64 (x7.n : Nat), .slice Av x8.n cv, .slice Bv k cq, .slice none 0 0] 26 (0, 0))) => cell_at hW 2 rfl
            have ks3 := fun (W : World) (hW : W.heap[w.heap.size]? = some (.cells #[.int .i64 (x0.n : Nat), .int .i64 (x1.n : Nat), .int .i64 (x2.n : Nat), .int .i64 (x3.n : Nat), .int .i64 (x4.n : Nat), .int .i64 (x5.n : Nat), .int .i64 (x6.n : Nat), .int .i64 (x7.n : Nat), .slice Av x8.n cv, .slice Bv k cq, .slice none 0 0] 26 (0, 0))) => cell_at hW 3 rfl
            have ks4 := fun (W : World) (hW : W.heap[w.heap.size]? = some (.cells #[.int .i64 (x0.n : Nat), .int .i64 (x1.n : Nat), .int .i64 (x2.n : Nat), .int .i64 (x3.n : Nat), .int .i64 (x4.n : Nat), .int .i64 (x5.n : Nat), .int .i64 (x6.n : Nat), .int .i64 (x7.n : Nat), .slice Av x8.n cv, .slice Bv k cq, .slice none 0 0] 26 (0, 0))) => cell_at hW 4 rfl
            have ks5 := fun (W : World) (hW : W.heap[w.heap.size]? = some (.cells #[.int .i64 (x0.n : Nat), .int .i64 (x1.n : Nat), .int .i64 (x2.n : Nat), .int .i64 (x3.n : Nat), .int .i64 (x4.n : Nat), .int .i64 (x5.n : Nat), .int .i64 (x6.n : Nat), .int .i64 (x7.n : Nat), .slice Av x8.n cv, .slice Bv k cq, .slice none 0 0] 26 (0, 0))) => cell_at hW 5 rfl
            have ks6 := fun (W : World) (hW : W.heap[w.heap.size]? = some (.cells #[.int .i64 (x0.n : Nat), .int .i64 (x1.n : Nat), .int .i64 (x2.n : Nat), .int .i64 (x3.n : Nat), .int .i64 (x4.n : Nat), .int .i64 (x5.n : Nat), .int .i64 (x6.n : Nat), .int .i64 (x7.n : Nat), .slice Av x8.n cv, .slice Bv k cq, .slice none 0 0] 26 (0, 0))) => cell_at hW 6 rfl
            have ks7 := fun (W : World) (hW : W.heap[w.heap.size]? = some (.cells #[.int .i64 (x0.n : Nat), .int .i64 (x1.n : Nat), .int .i64 (x2.n : Nat), .int .i64 (x3.n : Nat), .int .i64 (x4.n : Nat), .int .i64 (x5.n : Nat), .int .i64 (x6.n : Nat), .int .i64 (x7.n : Nat), .slice Av x8.n cv, .slice Bv k cq, .slice none 0 0] 26 (0, 0))) => cell_at hW 7 rfl
            have ks8 := fun (W : World) (hW : W.heap[w.heap.size]? = some (.cells #[.int .i64 (x0.n : Nat), .int .i64 (x1.n : Nat), .int .i64 (x2.n : Nat), .int .i64 (x3.n : Nat), .int .i64 (x4.n : Nat), .int .i64 (x5.n : Nat), .int .i64 (x6.n : Nat), .int .i64 (x7.n : Nat), .slice Av x8.n cv, .slice Bv k cq, .slice none 0 0] 26 (0, 0))) => cell_at hW 8 rfl
            have ks9 := fun (W : World) (hW : W.heap[w.heap.size]? = some (.cells #[.int .i64 (x0.n : Nat), .int .i64 (x1.n : Nat), .int .i64 (x2.n : Nat), .int .i64 (x3.n : Nat), .int .i64 (x4.n : Nat), .int .i64 (x5.n : Nat), .int .i64 (x6.n : Nat), .int .i64 (x7.n : Nat), .slice Av x8.n cv, .slice Bv k cq, .slice none 0 0] 26 (0, 0))) => cell_at hW 9 rfl
            have ks10 := fun (W : World) (hW : W.heap[w.heap.size]? = some (.cells #[.int .i64 (x0.n : Nat), .int .i64 (x1.n : Nat), .int .i64 (x2.n : Nat), .int .i64 (x3.n : Nat), .int .i64 (x4.n : Nat), .int .i64 (x5.n : Nat), .int .i64 (x6.n : Nat), .int .i64 (x7.n : Nat), .slice Av x8.n cv, .slice Bv k cq, .slice none 0 0] 26 (0, 0))) => cell_at hW 10 rfl
            have kf := fun (W : World) (hW : W.heap[w.heap.size]? = some (.cells #[.int .i64 (x0.n : Nat), .int .i64 (x1.n : Nat), .int .i64 (x2.n : Nat), .int .i64 (x3.n : Nat), .int .i64 (x4.n : Nat), .int .i64 (x5.n : Nat), .int .i64 (x6.n : Nat), .int .i64 (x7.n : Nat), .slice Av x8.n cv, .slice Bv k cq, .slice none 0 0] 26 (0, 0))) (i : Nat) => free_at hW i
            have HOB := Lib.hid (fun o => (Below.heap_alloc w8 o w.heap.size hz8).trans HB8.out.box)
            generalize hWp : (w8.alloc (.cells #[.int .i64 (t0.n : Nat), .int .u8 (t1.n : Nat), .bool false, .int .i64 0, .int .i64 0, .int .i64 0] 63)) = wp at *
            have hbp : Bx br w.heap.size A n cap l w4 26 t2.at_ false (rdCells x0.n x1.n x2.n x3.n x4.n x5.n x6.n x7.n (.slice Av x8.n cv) (.slice Bv k cq) (.slice none 0 0)) wp := by
              rw [← hWp]
              exact HB8.out.apart hr4 hz4 HA4.out ((Apart.refl (fun _ => False) w8).alloc _) (fun _ h => h.elim)
            have HBP := Lib.hid hbp
            clear hWp hbp HB8 HOB hz8
            have hd : wp.drew.heap[w.heap.size]? = some (.cells #[.int .i64 (x0.n : Nat), .int .i64 (x1.n : Nat), .int .i64 (x2.n : Nat), .int .i64 (x3.n : Nat), .int .i64 (x4.n : Nat), .int .i64 (x5.n : Nat), .int .i64 (x6.n : Nat), .int .i64 (x7.n : Nat), .slice Av x8.n cv, .slice Bv k cq, .slice none 0 0] 26 (0, 0)) := HBP.out.box
            have hzp : w.heap.size < wp.drew.heap.size := lt_of_block hd
            refine wp_region_held_drew (S := fun W => W.heap[w.heap.size]? = some (.cells #[.int .i64 (x0.n : Nat), .int .i64 (x1.n : Nat), .int .i64 (x2.n : Nat), .int .i64 (x3.n : Nat), .int .i64 (x4.n : Nat), .int .i64 (x5.n : Nat), .int .i64 (x6.n : Nat), .int .i64 (x7.n : Nat), .slice Av x8.n cv, .slice Bv k cq, .slice none 0 0] 26 (0, 0))) (by kernel_rfl) hd (fun _ => ?_)
            refine wpAnyH_take (i := 0) (oi := ?oo5) (v := ?vv5) ?ii5 (by kernel_rfl) ?ff5 (by kernel_rfl) ?qq5 (Or.inl ⟨?ww5, ?yy5⟩) hd ?rr5
            case ii5 => simp only [List.getElem?_toArray, List.getElem?_cons_zero]; rfl
            case ff5 => kernel_rfl
            case qq5 => exact fun _ _ _ h => h
            case ww5 => rfl
            case yy5 => intro W hW; go_simp <;> with_reducible rfl
            try simp only [Act.put, List.setIfInBounds_toArray, List.set_cons_zero, List.set_cons_succ]
            refine wpAnyH_take (i := 1) (oi := ?oo6) (v := ?vv6) ?ii6 (by kernel_rfl) ?ff6 (by kernel_rfl) ?qq6 (Or.inl ⟨?ww6, ?yy6⟩) hd ?rr6
            case ii6 => simp only [List.getElem?_toArray, List.getElem?_cons_succ, List.getElem?_cons_zero]; rfl
            case ff6 => kernel_rfl
            case qq6 => exact fun _ _ _ h => h
            case ww6 => rfl
            case yy6 => intro W hW; go_simp <;> with_reducible rfl
            try simp only [Act.put, List.setIfInBounds_toArray, List.set_cons_zero, List.set_cons_succ]
            refine wpAnyH_ready (rs := [2]) (by kernel_rfl) (by simp) ?_
            refine AllReadyH.cons (o := ?oo7) ?ii7 (fun K hK => ?_) AllReadyH.nil
            case ii7 => simp only [List.getElem?_toArray, List.getElem?_cons_succ, List.getElem?_cons_zero]; rfl
            go_simp
            refine (HN.out _).mono ?_
            rintro e w9 ⟨rfl, hw9⟩
            have hd9 : w9.heap[w.heap.size]? = some (.cells #[.int .i64 (x0.n : Nat), .int .i64 (x1.n : Nat), .int .i64 (x2.n : Nat), .int .i64 (x3.n : Nat), .int .i64 (x4.n : Nat), .int .i64 (x5.n : Nat), .int .i64 (x6.n : Nat), .int .i64 (x7.n : Nat), .slice Av x8.n cv, .slice Bv k cq, .slice none 0 0] 26 (0, 0)) := by rw [hw9]; exact (Below.heap_alloc wp.drew _ _ hzp).trans hd
            have HE9 : Hid (ErrText w9 (.iface 71 (.pointer (some ⟨wp.drew.heap.size, 0, none⟩))) (atT 8 (k : Nat))) := Lib.hid (by rw [hw9]; exact ErrText.new wp.drew 8 (k : Int) (by omega) (by omega))
            have HT9 : Hid (TakeIn br A n cap l w t2.at_ false w9) := Lib.hid (by
              rw [hw9]
              refine ⟨HBP.out.rd.drew.alloc _, ((HTW.out.trans HBP.out.ap (fun q e => ?_)).drew.alloc _)⟩
              rcases e with e | e
              · exact .inl e
              · exact .inr (by omega))
            clear hw9
            generalize wp.drew.heap.size = NE at *
            go_wp2_with fail
            refine hK.out _ _ hd9 (fun _ => ?_)
            clear hK K
            clear ks0 ks1 ks2 ks3 ks4 ks5 ks6 ks7 ks8 ks9 ks10 kf
            have k0 := cell_at hd9 0 rfl
            have k1 := cell_at hd9 1 rfl
            have k2 := cell_at hd9 2 rfl
            have k3 := cell_at hd9 3 rfl
            have k4 := cell_at hd9 4 rfl
            have k5 := cell_at hd9 5 rfl
            have k6 := cell_at hd9 6 rfl
            have k7 := cell_at hd9 7 rfl
            have k8 := cell_at hd9 8 rfl
            have k9 := cell_at hd9 9 rfl
            have k10 := cell_at hd9 10 rfl
            have f := fun i => free_at hd9 i
            have hfin := storeAll_heap (b := w.heap.size) [.int .i64 (x0.n : Nat), .int .i64 (x1.n : Nat), .int .i64 (x2.n : Nat), .int .i64 (x3.n : Nat), .int .i64 (x4.n : Nat), .int .i64 (x5.n : Nat), .int .i64 (x6.n : Nat), .int .i64 (x7.n : Nat), .slice Av x8.n cv, .slice Bv k cq, .slice none 0 0] 0 w9 [] [_, _, _, _, _, _, _, _, _, _, _] hd9 rfl rfl
            rw [List.nil_append] at hfin
            refine wpAnyH_ready (rs := [3]) (by kernel_rfl) (by simp) ?_
            refine AllReadyH.cons (o := ?oo8) ?ii8 (fun K hK => ?_) AllReadyH.nil
            case ii8 => simp only [List.getElem?_toArray, List.getElem?_cons_succ, List.getElem?_cons_zero]; rfl
            go_simp
            refine hK.out _ (storeAll w9 w.heap.size [.int .i64 (x0.n : Nat), .int .i64 (x1.n : Nat), .int .i64 (x2.n : Nat), .int .i64 (x3.n : Nat), .int .i64 (x4.n : Nat), .int .i64 (x5.n : Nat), .int .i64 (x6.n : Nat), .int .i64 (x7.n : Nat), .slice Av x8.n cv, .slice Bv k cq, .slice none 0 0] 0) hfin (fun _ => ?_)
            clear hK K
            have HF : Hid (RestPost br A n cap l x0.n x1.n x2.n x3.n x4.n x5.n x6.n x7.n x10.n DP DQ w (.returned (.tuple #[.agg #[.int .i64 (x0.n : Nat), .int .i64 (x1.n : Nat), .int .i64 (x2.n : Nat), .int .i64 (x3.n : Nat), .int .i64 (x4.n : Nat), .int .i64 (x5.n : Nat), .int .i64 (x6.n : Nat), .int .i64 (x7.n : Nat), .slice Av x8.n cv, .slice Bv k cq, .slice none 0 0], .iface 71 (.pointer (some ⟨NE, 0, none⟩))])) (storeAll w9 w.heap.size [.int .i64 (x0.n : Nat), .int .i64 (x1.n : Nat), .int .i64 (x2.n : Nat), .int .i64 (x3.n : Nat), .int .i64 (x4.n : Nat), .int .i64 (x5.n : Nat), .int .i64 (x6.n : Nat), .int .i64 (x7.n : Nat), .slice Av x8.n cv, .slice Bv k cq, .slice none 0 0] 0)) := Lib.hid (by
              have h1 := storeAll_apart w.heap.size [.int .i64 (x0.n : Nat), .int .i64 (x1.n : Nat), .int .i64 (x2.n : Nat), .int .i64 (x3.n : Nat), .int .i64 (x4.n : Nat), .int .i64 (x5.n : Nat), .int .i64 (x6.n : Nat), .int .i64 (x7.n : Nat), .slice Av x8.n cv, .slice Bv k cq, .slice none 0 0] 0 w9
              rw [hDQ]
              refine ⟨⟨x0.n, x1.n, x2.n, x3.n, x4.n, x5.n, x6.n, x7.n, Av, x8.n, cv, ps, Bv, k, cq, qs, none, 0, 0, []⟩, NE, rfl, ErrTextK.storeAll HE9.out hd9 (by decide) _, HT9.out.1.apart h1 (fun e => by omega) (fun q hq e => by have := HA.out q hq; omega), HT9.out.2.trans h1 (fun q e => .inr (Nat.le_of_eq e.symm))⟩)
            generalize storeAll w9 w.heap.size [.int .i64 (x0.n : Nat), .int .i64 (x1.n : Nat), .int .i64 (x2.n : Nat), .int .i64 (x3.n : Nat), .int .i64 (x4.n : Nat), .int .i64 (x5.n : Nat), .int .i64 (x6.n : Nat), .int .i64 (x7.n : Nat), .slice Av x8.n cv, .slice Bv k cq, .slice none 0 0] 0 = Wf at *
            clear k0 k1 k2 k3 k4 k5 k6 k7 k8 k9 k10 f
            refine wpAnyH_take (i := 4) (oi := ?oo9) (v := ?vv9) ?ii9 (by kernel_rfl) ?ff9 (by kernel_rfl) ?qq9 (Or.inl ⟨?ww9, ?yy9⟩) hfin ?rr9
            case ii9 => simp only [List.getElem?_toArray, List.getElem?_cons_succ, List.getElem?_cons_zero]; rfl
            case ff9 => kernel_rfl
            case qq9 => exact fun _ _ _ h => h
            case ww9 => rfl
            case yy9 => intro W hW; go_simp <;> with_reducible rfl
            try simp only [Act.put, List.setIfInBounds_toArray, List.set_cons_zero, List.set_cons_succ]
            refine wpAnyH_done (by kernel_rfl) ?_ _
            have r0 := cell_at hfin 0 rfl
            have r1 := cell_at hfin 1 rfl
            have r2 := cell_at hfin 2 rfl
            have r3 := cell_at hfin 3 rfl
            have r4 := cell_at hfin 4 rfl
            have r5 := cell_at hfin 5 rfl
            have r6 := cell_at hfin 6 rfl
            have r7 := cell_at hfin 7 rfl
            have r8 := cell_at hfin 8 rfl
            have r9 := cell_at hfin 9 rfl
            have r10 := cell_at hfin 10 rfl
            go_wp2_with fail
            refine bodyPost_ret (v := .tuple #[.agg #[.int .i64 (x0.n : Nat), .int .i64 (x1.n : Nat), .int .i64 (x2.n : Nat), .int .i64 (x3.n : Nat), .int .i64 (x4.n : Nat), .int .i64 (x5.n : Nat), .int .i64 (x6.n : Nat), .int .i64 (x7.n : Nat), .slice Av x8.n cv, .slice Bv k cq, .slice none 0 0], .iface 71 (.pointer (some ⟨NE, 0, none⟩))]) (by simp [results, Try.results38, go_sem, r0, r1, r2, r3, r4, r5, r6, r7, r8, r9, r10]) rfl ?_
            exact HF.out
          simp only [hbad, if_false] at HTq
          have Hst2 := Lib.hid (Hst.out hbad)
          generalize hob : (t2.n == 1) = ob at *
          simp only [portVals] at HTq
          have kb : wr.cell? ⟨w.heap.size, 9, none⟩ = some (.slice Bv k cq) := cell_at HB.out.box 9 rfl
          clear Hst Hbad hbad hob
          go_wp2_with fail
          refine HTq.out.mono ?_
          rintro e w8 ⟨rfl, ht8⟩
          have hb8 := HB.out.tk HO.out ht8
          have hz8 : w.heap.size < w8.heap.size := Nat.lt_of_lt_of_le hz4 hb8.ap.size
          have HOP8 := Lib.hid (HOP.out.apart ht8.2 (fun q e => by have e : q = br := e; omega))
          have hoq8 := HOQ.out.apart ht8.2 (fun q e => by have e : q = br := e; omega)
          have hown8 : w8.ownsRow w4.heap.size 63 6 (.slice Bv k cq) k (itemsV portVals qs) := by have h9 := hoq8.own; rw [Hql.out] at h9; exact h9
          have Hl8 := Lib.hid hown8
          have HOQ8 := Lib.hid hoq8
          have HB8 := Lib.hid hb8
          have kb8 : w8.cell? ⟨w.heap.size, 9, none⟩ = some (.slice Bv k cq) := cell_at hb8.box 9 rfl
          have fb8 := free_at hb8.box 9
          clear ht8 hb8 hown8 hoq8 kb HTq
          go_wp2_with (at_builtin
                       refine wpList_append_s rfl (.tmp 65) (.tmp 67) _ rfl w4.heap.size 63 _ 6 40 Try.underlying23 infoQ rfl (by omega) _ k (itemsV portVals qs) rfl ((Hl8.out.alloc _).alloc _) (some ⟨w8.heap.size + 1, 0, none⟩) 1 1 (portVals ⟨t0.n, t1.n, ob, t3.n, t4.n, t5.n⟩) rfl rfl (fun _ => ⟨_, rfl, laid_at (w8.alloc _) _ (portVals ⟨t0.n, t1.n, ob, t3.n, t4.n, t5.n⟩) (w8.heap.size + 1) (by simp)⟩) (portVals_one _) (by unfold maxLen; omega) (by omega) (by have := HB8.out.ap.size; simp; omega) ?_
                       intro v9 w9 ho9 ha9 hb9
                       have ha90 : Apart (fun q => (Value.slice Bv k cq).ownBlock = some q) w8 w9 := (((Apart.refl _ w8).alloc _).alloc _).trans ha9 (fun _ e => .inl e)
                       have hs9 := HB8.out.apart hr4 hz4 HA4.out ha90 (fun q e => HOQ8.out.hi q e)
                       have hn9 : OwnI portVals 6 63 w4.heap.size v9 (qs ++ [⟨t0.n, t1.n, ob, t3.n, t4.n, t5.n⟩]) w9 := OwnI.more (by rw [Hql.out]; exact ho9)
                       have hp9 := HOP8.out.new ha90 (fun q hq e => Hdis.out q hq e)
                       have Hdis9 := Lib.hid (grow_ne hb9 Hdis.out (fun q hq => by have := (HOP8.out.own.lt q hq).2; simp; omega))
                       obtain ⟨A9, c9, rfl, -⟩ := own_slice ho9
                       have kb9 : w9.cell? ⟨w.heap.size, 9, none⟩ = some (.slice Bv k cq) := cell_at hs9.box 9 rfl
                       have fb9 := free_at hs9.box 9
                       have HS10 := Lib.hid (hs9.store HO.out 9 (.slice A9 (k + 1) c9))
                       have HO10 := Lib.hid (hn9.apart (Apart.setCell (F := fun q => q = w.heap.size) (Apart.refl _ w9) (p := ⟨w.heap.size, 9, none⟩) (.inl rfl) (.slice A9 (k + 1) c9)) (fun q e => by omega))
                       have HP10 := Lib.hid (hp9.apart (Apart.setCell (F := fun q => q = w.heap.size) (Apart.refl _ w9) (p := ⟨w.heap.size, 9, none⟩) (.inl rfl) (.slice A9 (k + 1) c9)) (fun q e => by omega))
                       clear ho9 ha9 hb9 hn9 hs9 ha90 hp9)
          go_roundw
          case rel => exact ⟨k + 1, _, .slice A9 (k + 1) c9, _, _, by omega, by go_num, HS10.out, HP10.out, HO10.out, Hdis9.out, by rw [List.length_append, Hql.out]; rfl, Hst2.out, A9, c9, rfl⟩
          case measure => simp [intOf]; omega
        have hkn2 : x9.n = k := by omega
        subst hkn2
        have hto := Hto.out
        rw [Nat.sub_self] at hto
        cases DQ with
        | inr y => exact hto.elim
        | inl y =>
          obtain ⟨q0, a30, s30⟩ := y
          obtain ⟨g1, g2⟩ := hto
          have e1 : a3 = a30 ∧ s3 = s30 := by
            have := Prod.mk.inj g1
            exact ⟨this.1, this.2⟩
          obtain ⟨rfl, rfl⟩ := e1
          have HQ3 : Hid (s3 = false → qs = q0) := Lib.hid fun hs => by have := g2 hs; simpa using this
          have HS3 : Hid (s3 = false → s2 = false) := Lib.hid fun hs => HS2.out q0 a3 (by rw [hs])
          obtain ⟨D3, hD3⟩ : ∃ D, TableP.routesD l x10.n a3 s3 = D := ⟨_, rfl⟩
          have HD3 := Lib.hid hD3
          obtain ⟨kc1, kc2⟩ := HC.out wr HB.out.ap
          clear g1 g2 Hto HS2 hD3
          go_wp2_with fail
          clear kc1 kc2
          have h0 : Hid (RRel br w.heap.size A n cap l w4 (fun v => rdCells x0.n x1.n x2.n x3.n x4.n x5.n x6.n x7.n (.slice Av x8.n cv) (.slice Bv x9.n cq) v) (.slice Av x8.n cv) ps (.slice Bv x9.n cq) qs x10.n D3 (.int .i64 0) wr) := Lib.hid ⟨0, [], .slice none 0 0, a3, s3, Nat.zero_le _, rfl, HB.out, HOP.out, HOQ.out, OwnI.nil _ _ _ _ _, fun _ _ => by simp [Value.ownBlock], fun _ _ => by simp [Value.ownBlock], rfl, by rw [Nat.sub_zero, HD3.out], fun _ => by rw [Nat.sub_zero, HD3.out]; rfl, _, _, rfl⟩
          clear HB HOP HOQ
          go_loopw [72] (RRel br w.heap.size A n cap l w4 (fun v => rdCells x0.n x1.n x2.n x3.n x4.n x5.n x6.n x7.n (.slice Av x8.n cv) (.slice Bv x9.n cq) v) (.slice Av x8.n cv) ps (.slice Bv x9.n cq) qs x10.n D3) (fun i _ => (x10.n + 1 - intOf i).toNat)
          case atStart => exact h0.out
          case round =>
            clear h0
            obtain ⟨k, rs, v, a4, s4, hk3, rfl, hb, hoP, hoQ, hoR, hdP, hdQ, hrl, g2, g3, Cv, cr, rfl⟩ := hrel
            have HB := Lib.hid hb
            have HOP := Lib.hid hoP
            have HOQ := Lib.hid hoQ
            have HOw := Lib.hid hoR
            have HdP := Lib.hid hdP
            have HdQ := Lib.hid hdQ
            have Hrl := Lib.hid hrl
            have G2 := Lib.hid g2
            have G3 := Lib.hid g3
            clear hb hoP hoQ hoR hdP hdQ hrl g2 g3
            by_cases hlt3 : k < x10.n
            · obtain ⟨t0, e0⟩ : ∃ x, WireP.take l a4 s4 1 = x := ⟨_, rfl⟩
              obtain ⟨t1, e1⟩ : ∃ x, WireP.take l t0.at_ t0.short 1 = x := ⟨_, rfl⟩
              have Hst := Lib.hid (routesD_step (D := D3) (ps := rs) (j := x10.n - (k + 1)) e0 e1 (by rw [show x10.n - (k + 1) + 1 = x10.n - k by omega]; exact G2.out) (by rw [show x10.n - (k + 1) + 1 = x10.n - k by omega]; exact G3.out))
              have HTp := Lib.hid (takeRoute_any br A n cap l a4 s4 wr.drew HB.out.rd.drew (fun q hq => by have := HA4.out q hq; have := HB.out.ap.size; simp; omega) t0 t1 e0 e1)
              have kb : wr.cell? ⟨w.heap.size, 10, none⟩ = some (.slice Cv k cr) := cell_at HB.out.box 10 rfl
              have fb := free_at HB.out.box 10
              have hl255 : rs.length ≤ 255 := by rw [Hrl.out]; omega
              clear e0 e1 G2 G3
              simp only [routeVals] at HTp
              go_wp2_with fail
              go_region_law (first
                | (refine step_append_s rfl (.tmp 75) (.tmp 78) _ rfl w4.heap.size 66 _ 2 16 Try.underlying24 infoR rfl (by omega) _ k (itemsV routeVals rs) rfl (Hl8.out.alloc _) (some ⟨w8.heap.size, 0, none⟩) 1 1 (routeVals ⟨t0.n, t1.n⟩) rfl rfl (fun _ => ⟨_, rfl, laid_at w8 _ (routeVals ⟨t0.n, t1.n⟩) w8.heap.size rfl⟩) (routeVals_one _) (by unfold maxLen; omega) (by omega) (by have := HB8.out.ap.size; simp; omega) ?_
                   intro v9 w9 ho9 ha9 hb9
                   have ha90 : Apart (fun q => (Value.slice Cv k cr).ownBlock = some q) w8 w9 := ((Apart.refl _ w8).alloc _).trans ha9 (fun _ e => .inl e)
                   have hs9 := HB8.out.apart hr4 hz4 HA4.out ha90 (fun q e => HO8.out.hi q e)
                   have hn9 : OwnI routeVals 2 66 w4.heap.size v9 (rs ++ [⟨t0.n, t1.n⟩]) w9 := OwnI.more (by rw [Hrl.out]; exact ho9)
                   have hp9 := HOP8.out.new ha90 (fun q hq e => HdP.out q hq e)
                   have hq9 := HOQ8.out.new ha90 (fun q hq e => HdQ.out q hq e)
                   have HdP9 := Lib.hid (grow_ne hb9 HdP.out (fun q hq => by have := (HOP8.out.own.lt q hq).2; simp; omega))
                   have HdQ9 := Lib.hid (grow_ne hb9 HdQ.out (fun q hq => by have := (HOQ8.out.own.lt q hq).2; simp; omega))
                   obtain ⟨A9, c9, rfl, -⟩ := own_slice ho9
                   have kb9 : w9.cell? ⟨w.heap.size, 10, none⟩ = some (.slice Cv k cr) := cell_at hs9.box 10 rfl
                   have fb9 := free_at hs9.box 10
                   have HS10 := Lib.hid (hs9.store HO.out 10 (.slice A9 (k + 1) c9))
                   have HO10 := Lib.hid (hn9.apart (Apart.setCell (F := fun q => q = w.heap.size) (Apart.refl _ w9) (p := ⟨w.heap.size, 10, none⟩) (.inl rfl) (.slice A9 (k + 1) c9)) (fun q e => by omega))
                   have HP10 := Lib.hid (hp9.apart (Apart.setCell (F := fun q => q = w.heap.size) (Apart.refl _ w9) (p := ⟨w.heap.size, 10, none⟩) (.inl rfl) (.slice A9 (k + 1) c9)) (fun q e => by omega))
                   have HQ10 := Lib.hid (hq9.apart (Apart.setCell (F := fun q => q = w.heap.size) (Apart.refl _ w9) (p := ⟨w.heap.size, 10, none⟩) (.inl rfl) (.slice A9 (k + 1) c9)) (fun q e => by omega))
                   clear ho9 ha9 hb9 hn9 hs9 ha90 hp9 hq9)
                | (go_simp
                   refine HTp.out.mono ?_
                   rintro e w8 ⟨rfl, ht8⟩
                   have hb8 := HB.out.drew.tk HO.out ht8
                   have ha8 : Apart (RF br) wr w8 := ht8.2.undrew
                   have HO8 := Lib.hid (HOw.out.apart ha8 (fun q e => by have e : q = br := e; omega))
                   have HOP8 := Lib.hid (HOP.out.apart ha8 (fun q e => by have e : q = br := e; omega))
                   have HOQ8 := Lib.hid (HOQ.out.apart ha8 (fun q e => by have e : q = br := e; omega))
                   have hown8 : w8.ownsRow w4.heap.size 66 2 (.slice Cv k cr) k (itemsV routeVals rs) := by have h9 := HO8.out.own; rw [Hrl.out] at h9; exact h9
                   have Hl8 := Lib.hid hown8
                   have HB8 := Lib.hid hb8
                   have kb8 : w8.cell? ⟨w.heap.size, 10, none⟩ = some (.slice Cv k cr) := cell_at hb8.box 10 rfl
                   have fb8 := free_at hb8.box 10
                   have hz8 : w.heap.size < w8.heap.size := Nat.lt_of_lt_of_le hz4 hb8.ap.size
                   clear ht8 hb8 hown8 ha8
                   go_wp2_with fail))
              all_goals
                go_wp2_with fail
                go_roundw
                case rel => exact ⟨k + 1, _, .slice A9 (k + 1) c9, _, _, by omega, by go_num, HS10.out, HP10.out, HQ10.out, HO10.out, HdP9.out, HdQ9.out, by rw [List.length_append, Hrl.out]; rfl, Hst.out.1, Hst.out.2, A9, c9, rfl⟩
                case measure => simp [intOf]; omega
            have hkn3 : x10.n = k := by omega
            subst hkn3
            have hRD : D3.2.1 = a4 ∧ D3.2.2 = s4 ∧ (s4 = false → rs = D3.1) := by
              have g2 := G2.out
              have g3 := G3.out
              rw [Nat.sub_self] at g2 g3
              have e2 : D3.2 = (a4, s4) := by rw [← g2]; rfl
              rw [e2]
              exact ⟨rfl, rfl, fun hs => by have := g3 (by rw [e2]; exact hs); simpa [TableP.routesD] using this⟩
            obtain ⟨hR1, hR2, hR3⟩ := hRD
            have hS4 : s4 = false → s3 = false := fun hs => (TableP.routesD_inv _ _ _ _ _ (show TableP.routesD l x10.n a3 s3 = (D3.1, D3.2.1, false) by rw [HD3.out, ← hs, ← hR2])).1
            have hbx : wr.heap[w.heap.size]? = some (.cells #[.int .i64 (x0.n : Nat), .int .i64 (x1.n : Nat), .int .i64 (x2.n : Nat), .int .i64 (x3.n : Nat), .int .i64 (x4.n : Nat), .int .i64 (x5.n : Nat), .int .i64 (x6.n : Nat), .int .i64 (x7.n : Nat), .slice Av x8.n cv, .slice Bv x9.n cq, .slice Cv x10.n cr] 26 (0, 0)) := HB.out.box
            have k0 := cell_at hbx 0 rfl
            have k1 := cell_at hbx 1 rfl
            have k2 := cell_at hbx 2 rfl
            have k3 := cell_at hbx 3 rfl
            have k4 := cell_at hbx 4 rfl
            have k5 := cell_at hbx 5 rfl
            have k6 := cell_at hbx 6 rfl
            have k7 := cell_at hbx 7 rfl
            have k8 := cell_at hbx 8 rfl
            have k9 := cell_at hbx 9 rfl
            have k10 := cell_at hbx 10 rfl
            have f := fun i => free_at hbx i
            have hfin := storeAll_heap (b := w.heap.size) [.int .i64 (x0.n : Nat), .int .i64 (x1.n : Nat), .int .i64 (x2.n : Nat), .int .i64 (x3.n : Nat), .int .i64 (x4.n : Nat), .int .i64 (x5.n : Nat), .int .i64 (x6.n : Nat), .int .i64 (x7.n : Nat), .slice Av x8.n cv, .slice Bv x9.n cq, .slice Cv x10.n cr] 0 wr [] [_, _, _, _, _, _, _, _, _, _, _] hbx rfl rfl
            rw [List.nil_append] at hfin
            have HF : Hid (RestPost br A n cap l x0.n x1.n x2.n x3.n x4.n x5.n x6.n x7.n x10.n DP (.inl (q0, a3, s3)) w (.returned (.tuple #[.agg #[.int .i64 (x0.n : Nat), .int .i64 (x1.n : Nat), .int .i64 (x2.n : Nat), .int .i64 (x3.n : Nat), .int .i64 (x4.n : Nat), .int .i64 (x5.n : Nat), .int .i64 (x6.n : Nat), .int .i64 (x7.n : Nat), .slice Av x8.n cv, .slice Bv x9.n cq, .slice Cv x10.n cr], .nilIface])) (storeAll wr w.heap.size [.int .i64 (x0.n : Nat), .int .i64 (x1.n : Nat), .int .i64 (x2.n : Nat), .int .i64 (x3.n : Nat), .int .i64 (x4.n : Nat), .int .i64 (x5.n : Nat), .int .i64 (x6.n : Nat), .int .i64 (x7.n : Nat), .slice Av x8.n cv, .slice Bv x9.n cq, .slice Cv x10.n cr] 0)) := Lib.hid (by
              have h1 := storeAll_apart w.heap.size [.int .i64 (x0.n : Nat), .int .i64 (x1.n : Nat), .int .i64 (x2.n : Nat), .int .i64 (x3.n : Nat), .int .i64 (x4.n : Nat), .int .i64 (x5.n : Nat), .int .i64 (x6.n : Nat), .int .i64 (x7.n : Nat), .slice Av x8.n cv, .slice Bv x9.n cq, .slice Cv x10.n cr] 0 wr
              have oP := HOP.out.apart h1 (fun q e => by omega)
              have oQ := HOQ.out.apart h1 (fun q e => by omega)
              have oR := HOw.out.apart h1 (fun q e => by omega)
              unfold RestPost
              simp only
              rw [HD3.out, hR1, hR2]
              obtain ⟨p1, p2⟩ := items_own partVals_len oP Hpl.out
              obtain ⟨q1, q2⟩ := items_own portVals_len oQ Hql.out
              obtain ⟨r1, r2⟩ := items_own routeVals_len oR Hrl.out
              refine ⟨⟨x0.n, x1.n, x2.n, x3.n, x4.n, x5.n, x6.n, x7.n, Av, x8.n, cv, ps, Bv, x9.n, cq, qs, Cv, x10.n, cr, rs⟩, rfl, ⟨HB.out.rd.apart h1 (fun e => by omega) (fun q hq e => by have := HA.out q hq; omega), (HTW.out.trans HB.out.ap (fun q e => ?_)).trans h1 (fun q e => .inr (Nat.le_of_eq e.symm))⟩, ⟨p2, Hpl.out, p1, by simp only; omega, q2, Hql.out, q1, by simp only; omega, r2, Hrl.out, r1, by simp only; omega⟩, ⟨fun _ q hq => ?_, fun _ q hq => ?_, fun _ q hq => ?_⟩, fun hs => ?_⟩
              · rcases e with e | e
                · exact .inl e
                · exact .inr (by omega)
              · have := oP.hi q (by rw [ownBlock_slice]; exact hq); omega
              · have := oQ.hi q (by rw [ownBlock_slice]; exact hq); omega
              · have := oR.hi q (by rw [ownBlock_slice]; exact hq); omega
              · simp only [CfgC.plain]
                rw [HP3.out (HS3.out (hS4 hs)), HQ3.out (hS4 hs), hR3 hs])
            clear G2 G3 hbx HB HOP HOQ HOw hR1 hR2 hR3 hS4
            go_wp2_with fail
            clear k0 k1 k2 k3 k4 k5 k6 k7 k8 k9 k10 f
            show bodyPost _ _ _ _ _ (storeAll wr w.heap.size [.int .i64 (x0.n : Nat), .int .i64 (x1.n : Nat), .int .i64 (x2.n : Nat), .int .i64 (x3.n : Nat), .int .i64 (x4.n : Nat), .int .i64 (x5.n : Nat), .int .i64 (x6.n : Nat), .int .i64 (x7.n : Nat), .slice Av x8.n cv, .slice Bv x9.n cq, .slice Cv x10.n cr] 0)
            generalize storeAll wr w.heap.size [.int .i64 (x0.n : Nat), .int .i64 (x1.n : Nat), .int .i64 (x2.n : Nat), .int .i64 (x3.n : Nat), .int .i64 (x4.n : Nat), .int .i64 (x5.n : Nat), .int .i64 (x6.n : Nat), .int .i64 (x7.n : Nat), .slice Av x8.n cv, .slice Bv x9.n cq, .slice Cv x10.n cr] 0 = Wf at *
            have r0 := cell_at hfin 0 rfl
            have r1 := cell_at hfin 1 rfl
            have r2 := cell_at hfin 2 rfl
            have r3 := cell_at hfin 3 rfl
            have r4 := cell_at hfin 4 rfl
            have r5 := cell_at hfin 5 rfl
            have r6 := cell_at hfin 6 rfl
            have r7 := cell_at hfin 7 rfl
            have r8 := cell_at hfin 8 rfl
            have r9 := cell_at hfin 9 rfl
            have r10 := cell_at hfin 10 rfl
            refine bodyPost_ret (v := .tuple #[.agg #[.int .i64 (x0.n : Nat), .int .i64 (x1.n : Nat), .int .i64 (x2.n : Nat), .int .i64 (x3.n : Nat), .int .i64 (x4.n : Nat), .int .i64 (x5.n : Nat), .int .i64 (x6.n : Nat), .int .i64 (x7.n : Nat), .slice Av x8.n cv, .slice Bv x9.n cq, .slice Cv x10.n cr], .nilIface]) (by simp [results, Try.results38, go_sem, r0, r1, r2, r3, r4, r5, r6, r7, r8, r9, r10]) rfl ?_
            exact HF.out
end Go.Proofs.Ytgceleipaiameaa
