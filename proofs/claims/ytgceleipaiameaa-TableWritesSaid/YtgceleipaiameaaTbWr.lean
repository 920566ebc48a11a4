/- TableWrites: the walk of the law at tables in memory. Conditions: where its lists lie. -/
import Derived.Test.YtgceleipaiameaaTbAw
import Derived.Test.YtgceleipaiameaaTbY
import Derived.Test.YtgceleipaiameaaTbL
import Derived.Test.YtgceleipaiameaaHeld
namespace Go.Proofs.Ytgceleipaiameaa
open Go.RowKit
set_option maxRecDepth 100000

theorem str_same (l : List UInt8) : (ByteArray.mk l.toArray).toList == (ByteArray.mk l.toArray).toList := by simp

set_option maxHeartbeats 2000000 in
theorem writes_law (x : CfgC) (w : World) (h : CfgIn w x) : Calls Try.prog 3 #[x.value] w (AwakePost w) := by
  have HA := Lib.hid (fun W => awake_any W)
  have HB0 := Lib.hid (boxC_below w x)
  have HFr0 := Lib.hid h
  have HFr := Lib.hid (h.below (boxC_below w x))
  have HBOX := Lib.hid (fun wr hb => box11 (w := w) (wr := wr) (x := x) (t := 26) hb)
  have HLg := Lib.hid (fun W => long_any x W)
  cases hlg : longB x with
  | true =>
    have HLg' : Hid (∀ W, Calls Try.prog 9 #[x.value] W (fun e w' => e = .returned (.bool true) ∧ Below W.heap.size W w')) := Lib.hid fun W => by have := HLg.out W; rwa [hlg] at this
    clear HLg hlg h
    have HLg := HLg'
    clear HLg'
    obtain ⟨nodes, faulty, slot, gap, rho, dmin, dmax, margin, PA, pn, pcap, parts, QA, qn, qcap, ports, RA, rn, rcap, routes⟩ := x
    simp only [boxC, cfgCells] at HB0 HFr HBOX
    simp only [CfgC.value] at HLg ⊢
    clear HFr0
    go_enter Try.func3, Try.ntmps3
    go_wp2_with fail
    refine (HA.out _).mono ?_
    rintro e w1 ⟨rfl, hb1⟩
    obtain ⟨b0, b1, b2, b3, b4, b5, b6, b7, b8, b9, b10⟩ := HBOX.out w1 hb1
    simp only at b0 b1 b2 b3 b4 b5 b6 b7 b8 b9 b10
    have Hb1 := Lib.hid hb1
    clear hb1 HA
    go_wp2_with fail
    refine (HLg.out _).mono ?_
    rintro e w2 ⟨rfl, hb2⟩
    have Hb2 := Lib.hid (Hb1.out.trans (hb2.mono Hb1.out.size))
    clear hb2 HLg b0 b1 b2 b3 b4 b5 b6 b7 b8 b9 b10
    go_wp2_with fail
    go_ret
    exact ⟨rfl, HB0.out.trans (Hb2.out.mono (by simp))⟩
  | false =>
    have HLg' : Hid (∀ W, Calls Try.prog 9 #[x.value] W (fun e w' => e = .returned (.bool false) ∧ Below W.heap.size W w')) := Lib.hid fun W => by have := HLg.out W; rwa [hlg] at this
    obtain ⟨hl1, hl2, hl3⟩ := longB_no hlg
    clear HLg hlg
    have HLg := HLg'
    clear HLg'
    have HCp : Hid (∀ W, CfgIn W x → Calls Try.prog 10 #[x.value] W (CopiedPost x.plain W)) := Lib.hid fun W hW => copied_any x W hW (by omega) (by omega) (by omega)
    have HSm0 : Hid (∀ y W, CfgIn W y → CfgIn W x → y.plain = x.plain → Calls Try.prog 16 #[y.value, x.value] W (fun e w' => e = .returned (.bool true) ∧ Below W.heap.size W w')) := Lib.hid fun y W h1 h2 h3 => same_any y x W h1 h2 h3
    obtain ⟨R, hR⟩ : ∃ R, TableP.chk x.plain = R := ⟨_, rfl⟩
    have HR := Lib.hid hR
    have HRc : Hid (∀ W, Below (boxC w x).heap.size (boxC w x) W → Calls Try.prog 15 #[x.value] W (RefChkPost R W)) := Lib.hid fun W hW => by rw [← hR]; exact refcheck_any x W (HFr.out.below hW)
    cases R with
    | some c =>
      have HE : Hid (∀ y W, CfgIn W y → y.plain = x.plain → Calls Try.prog 11 #[y.value] W (EncBad c W)) := Lib.hid fun y W hW hy => encode_bad y W hW c (by rw [hy]; exact hR)
      have HE2 : Hid (∀ W, Below (boxC w x).heap.size (boxC w x) W → Calls Try.prog 12 #[x.value] W (RefEncBad c W)) := Lib.hid fun W hW => refencode_bad x W (HFr.out.below hW) c hR
      clear h hR
      clear hl1 hl2 hl3
      obtain ⟨nodes, faulty, slot, gap, rho, dmin, dmax, margin, PA, pn, pcap, parts, QA, qn, qcap, ports, RA, rn, rcap, routes⟩ := x
      simp only [boxC, cfgCells] at HB0 HFr HBOX HRc HE2
      simp only [CfgC.value] at HLg HCp HSm0 HRc HE2 ⊢
      clear HFr0
      go_enter Try.func3, Try.ntmps3
      go_wp2_with fail
      refine (HA.out _).mono ?_
      rintro e w1 ⟨rfl, hb1⟩
      obtain ⟨b0, b1, b2, b3, b4, b5, b6, b7, b8, b9, b10⟩ := HBOX.out w1 hb1
      simp only at b0 b1 b2 b3 b4 b5 b6 b7 b8 b9 b10
      have Hb1 := Lib.hid hb1
      clear hb1 HA
      go_wp2_with fail
      refine (HLg.out _).mono ?_
      rintro e w2 ⟨rfl, hb2⟩
      have Hb2 := Lib.hid (Hb1.out.trans (hb2.mono Hb1.out.size))
      clear hb2 HLg b0 b1 b2 b3 b4 b5 b6 b7 b8 b9 b10
      obtain ⟨b0, b1, b2, b3, b4, b5, b6, b7, b8, b9, b10⟩ := HBOX.out w2 Hb2.out
      simp only at b0 b1 b2 b3 b4 b5 b6 b7 b8 b9 b10
      go_wp2_with fail
      refine (HCp.out _ (HFr.out.below Hb2.out)).mono ?_
      rintro e w3 ⟨v3, rfl, ⟨x3, rfl, hx3, hp3⟩, hb3⟩
      have Hx3 := Lib.hid hx3
      have Hp3 := Lib.hid hp3
      have Hb3 := Lib.hid (Hb2.out.trans (hb3.mono Hb2.out.size))
      clear hx3 hp3 hb3 HCp
      have HE1 : Hid (∀ o, Calls Try.prog 11 #[x3.value] (w3.alloc o) _) := Lib.hid fun o => HE.out x3 (w3.alloc o) (Hx3.out.below ((Below.refl _ _).alloc (Nat.le_refl _) o)) Hp3.out
      have HCk : Hid (∀ W, Below w3.heap.size w3 W → Calls Try.prog 14 #[x3.value] W (CheckPost (some c) W)) := Lib.hid fun W hW => by
        have h9 := check_any x3 W (Hx3.out.below hW)
        rw [Hp3.out, HR.out] at h9
        exact h9
      have HSm : Hid (∀ W, Below w3.heap.size w3 W → Calls Try.prog 16 #[x3.value, .agg #[.int .i64 nodes, .int .i64 faulty, .int .i64 slot, .int .i64 gap, .int .i64 rho, .int .i64 dmin, .int .i64 dmax, .int .i64 margin, .slice PA pn pcap, .slice QA qn qcap, .slice RA rn rcap]] W (fun e w' => e = .returned (.bool true) ∧ Below W.heap.size W w')) := Lib.hid fun W hW => HSm0.out x3 W (Hx3.out.below hW) (HFr.out.below (Hb3.out.trans (hW.mono Hb3.out.size))) Hp3.out
      clear b0 b1 b2 b3 b4 b5 b6 b7 b8 b9 b10
      obtain ⟨b0, b1, b2, b3, b4, b5, b6, b7, b8, b9, b10⟩ := HBOX.out w3 Hb3.out
      simp only at b0 b1 b2 b3 b4 b5 b6 b7 b8 b9 b10
      clear HE HSm0 Hx3 Hp3
      obtain ⟨nodes3, faulty3, slot3, gap3, rho3, dmin3, dmax3, margin3, PA3, pn3, pcap3, parts3, QA3, qn3, qcap3, ports3, RA3, rn3, rcap3, routes3⟩ := x3
      simp only [CfgC.value] at HE1 HCk HSm ⊢
      go_wp2_with fail
      refine (HE1.out _).mono ?_
      rintro e w4 ⟨b, rfl, hx4, hb4⟩
      have Hb4 : Hid (Below w3.heap.size w3 w4) := Lib.hid (((Below.refl _ _).alloc (Nat.le_refl _) _).trans (hb4.mono (by simp)))
      clear b0 b1 b2 b3 b4 b5 b6 b7 b8 b9 b10
      obtain ⟨b0, b1, b2, b3, b4, b5, b6, b7, b8, b9, b10⟩ := HBOX.out w4 (Hb3.out.trans (Hb4.out.mono Hb3.out.size))
      simp only at b0 b1 b2 b3 b4 b5 b6 b7 b8 b9 b10
      have Hin : Hid (∀ W, Below w4.heap.size w4 W → W.heap[w3.heap.size]? = some (.cells #[.int .i64 nodes3, .int .i64 faulty3, .int .i64 slot3, .int .i64 gap3, .int .i64 rho3, .int .i64 dmin3, .int .i64 dmax3, .int .i64 margin3, .slice PA3 pn3 pcap3, .slice QA3 qn3 qcap3, .slice RA3 rn3 rcap3] 26 (0, 0))) := Lib.hid fun W hW => (hW.block w3.heap.size (by have := hb4.size; simp at this; omega)).trans ((hb4.block w3.heap.size (by simp)).trans (heap_alloc_new w3 _))
      have HX4 := Lib.hid hx4
      clear hx4 hb4 HE1
      go_wp2_with fail
      refine (HE2.out _ (Hb3.out.trans (Hb4.out.mono Hb3.out.size))).mono ?_
      rintro e w5 ⟨rfl, hb5⟩
      have HRe : Hid (∀ W, Below w5.heap.size w5 W → Calls Try.prog 13 #[.iface 71 (.pointer (some ⟨b, 0, none⟩))] W (fun e w' => e = .returned (strV (overT 60 (-1) (wrongT (some c)))) ∧ Below W.heap.size W w')) := Lib.hid fun W hW => ErrTextK.read (by omega) ((HX4.out.below hb5).below hW)
      have cv := fun W => conv_w (w := W) (A := none) (cap := 0) (l := []) rfl Bytes.none_
      simp only [List.length_nil] at cv
      unfold RefChkPost at HRc
      unfold strV at *
      clear HE2
      go_wp2_with fail
      have Hb5 := Lib.hid (Hb4.out.trans (hb5.mono Hb4.out.size))
      have hd : Below w5.heap.size w5 w5.drew := (Below.refl _ _).drew
      have HF5 : Hid (∀ W, Below w5.heap.size w5 W → Below (w.alloc (.cells #[.int .i64 nodes, .int .i64 faulty, .int .i64 slot, .int .i64 gap, .int .i64 rho, .int .i64 dmin, .int .i64 dmax, .int .i64 margin, .slice PA pn pcap, .slice QA qn qcap, .slice RA rn rcap] 26)).heap.size (w.alloc (.cells #[.int .i64 nodes, .int .i64 faulty, .int .i64 slot, .int .i64 gap, .int .i64 rho, .int .i64 dmin, .int .i64 dmax, .int .i64 margin, .slice PA pn pcap, .slice QA qn qcap, .slice RA rn rcap] 26)) W ∧ Below w3.heap.size w3 W ∧ Below w4.heap.size w4 W) := Lib.hid fun W hW =>
        ⟨(Hb3.out.trans (Hb5.out.mono Hb3.out.size)).trans (hW.mono (Nat.le_trans Hb3.out.size Hb5.out.size)), Hb5.out.trans (hW.mono Hb5.out.size), hb5.trans (hW.mono hb5.size)⟩
      clear b0 b1 b2 b3 b4 b5 b6 b7 b8 b9 b10 hb5
      have b0 := fun W (hW : Below w5.heap.size w5 W) => (HBOX.out W (HF5.out W hW).1).c0
      have b1 := fun W (hW : Below w5.heap.size w5 W) => (HBOX.out W (HF5.out W hW).1).c1
      have b2 := fun W (hW : Below w5.heap.size w5 W) => (HBOX.out W (HF5.out W hW).1).c2
      have b3 := fun W (hW : Below w5.heap.size w5 W) => (HBOX.out W (HF5.out W hW).1).c3
      have b4 := fun W (hW : Below w5.heap.size w5 W) => (HBOX.out W (HF5.out W hW).1).c4
      have b5 := fun W (hW : Below w5.heap.size w5 W) => (HBOX.out W (HF5.out W hW).1).c5
      have b6 := fun W (hW : Below w5.heap.size w5 W) => (HBOX.out W (HF5.out W hW).1).c6
      have b7 := fun W (hW : Below w5.heap.size w5 W) => (HBOX.out W (HF5.out W hW).1).c7
      have b8 := fun W (hW : Below w5.heap.size w5 W) => (HBOX.out W (HF5.out W hW).1).c8
      have b9 := fun W (hW : Below w5.heap.size w5 W) => (HBOX.out W (HF5.out W hW).1).c9
      have b10 := fun W (hW : Below w5.heap.size w5 W) => (HBOX.out W (HF5.out W hW).1).c10
      simp only at b0 b1 b2 b3 b4 b5 b6 b7 b8 b9 b10
      have i0 := fun W (hW : Below w5.heap.size w5 W) => cell_at (Hin.out W (HF5.out W hW).2.2) 0 rfl
      have i1 := fun W (hW : Below w5.heap.size w5 W) => cell_at (Hin.out W (HF5.out W hW).2.2) 1 rfl
      have i2 := fun W (hW : Below w5.heap.size w5 W) => cell_at (Hin.out W (HF5.out W hW).2.2) 2 rfl
      have i3 := fun W (hW : Below w5.heap.size w5 W) => cell_at (Hin.out W (HF5.out W hW).2.2) 3 rfl
      have i4 := fun W (hW : Below w5.heap.size w5 W) => cell_at (Hin.out W (HF5.out W hW).2.2) 4 rfl
      have i5 := fun W (hW : Below w5.heap.size w5 W) => cell_at (Hin.out W (HF5.out W hW).2.2) 5 rfl
      have i6 := fun W (hW : Below w5.heap.size w5 W) => cell_at (Hin.out W (HF5.out W hW).2.2) 6 rfl
      have i7 := fun W (hW : Below w5.heap.size w5 W) => cell_at (Hin.out W (HF5.out W hW).2.2) 7 rfl
      have i8 := fun W (hW : Below w5.heap.size w5 W) => cell_at (Hin.out W (HF5.out W hW).2.2) 8 rfl
      have i9 := fun W (hW : Below w5.heap.size w5 W) => cell_at (Hin.out W (HF5.out W hW).2.2) 9 rfl
      have i10 := fun W (hW : Below w5.heap.size w5 W) => cell_at (Hin.out W (HF5.out W hW).2.2) 10 rfl
      refine wp_region_held_drew (S := fun W => Below w5.heap.size w5 W) (by kernel_rfl) hd (fun _ => ?_)
      refine wpAnyH_take (i := 0) (oi := ?oo1) (v := ?vv1) ?ii1 (by kernel_rfl) ?ff1 (by kernel_rfl) ?qq1 (Or.inl ⟨?ww1, ?yy1⟩) hd ?rr1
      case ii1 => simp only [List.getElem?_toArray, List.getElem?_cons_zero]; rfl
      case ff1 => kernel_rfl
      case qq1 => exact fun _ _ _ h => h
      case ww1 => rfl
      case yy1 => intro W hW; go_simp <;> with_reducible rfl
      try simp only [Act.put, List.setIfInBounds_toArray, List.set_cons_zero, List.set_cons_succ]
      refine wpAnyH_take (i := 3) (oi := ?oo2) (v := ?vv2) ?ii2 (by kernel_rfl) ?ff2 (by kernel_rfl) ?qq2 (Or.inl ⟨?ww2, ?yy2⟩) hd ?rr2
      case ii2 => simp only [List.getElem?_toArray, List.getElem?_cons_succ, List.getElem?_cons_zero]; rfl
      case ff2 => kernel_rfl
      case qq2 => exact fun _ _ _ h => h
      case ww2 => rfl
      case yy2 => intro W hW; go_simp <;> with_reducible rfl
      try simp only [Act.put, List.setIfInBounds_toArray, List.set_cons_zero, List.set_cons_succ]
      refine wpAnyH_ready (rs := [1]) (by kernel_rfl) (by simp) ?_
      refine AllReadyH.cons (o := ?oo3) ?ii3 (fun K hK => ?_) AllReadyH.nil
      case ii3 => simp only [List.getElem?_toArray, List.getElem?_cons_succ, List.getElem?_cons_zero]; rfl
      go_simp
      refine (HCk.out _ (HF5.out _ hd).2.1).mono ?_
      rintro e w6 ⟨v6, rfl, hx6, -, hb6⟩
      have h6 : Below w5.heap.size w5 w6 := hd.trans (hb6.mono (Nat.le_refl _))
      have HR6 := Lib.hid (ErrText.read hx6)
      unfold strV at HR6
      clear hx6 hb6
      go_wp2_with fail
      refine hK.out _ _ h6 (fun _ => ?_)
      clear hK K
      refine wpAnyH_ready (rs := [2]) (by kernel_rfl) (by simp) ?_
      refine AllReadyH.cons (o := ?oo4) ?ii4 (fun K hK => ?_) AllReadyH.nil
      case ii4 => simp only [List.getElem?_toArray, List.getElem?_cons_succ, List.getElem?_cons_zero]; rfl
      go_simp
      refine HR6.out.mono ?_
      rintro e w7 ⟨rfl, hb7⟩
      have h7 : Below w5.heap.size w5 w7 := h6.trans (hb7.mono h6.size)
      clear hb7 HR6
      go_wp2_with fail
      refine hK.out _ _ h7 (fun _ => ?_)
      clear hK K
      refine wpAnyH_ready (rs := [4]) (by kernel_rfl) (by simp) ?_
      refine AllReadyH.cons (o := ?oo5) ?ii5 (fun K hK => ?_) AllReadyH.nil
      case ii5 => simp only [List.getElem?_toArray, List.getElem?_cons_succ, List.getElem?_cons_zero]; rfl
      go_simp
      refine (HRc.out _ ((HF5.out _ h7).1)).mono ?_
      rintro e w8 ⟨rfl, hb8⟩
      have h8 : Below w5.heap.size w5 w8 := h7.trans (hb8.mono h7.size)
      clear hb8
      go_wp2_with fail
      refine hK.out _ _ h8 (fun _ => ?_)
      clear hK K
      refine wpAnyH_take (i := 5) (oi := ?oo6) (v := ?vv6) ?ii6 (by kernel_rfl) ?ff6 (by kernel_rfl) ?qq6 (Or.inl ⟨?ww6, ?yy6⟩) h8 ?rr6
      case ii6 => simp only [List.getElem?_toArray, List.getElem?_cons_succ, List.getElem?_cons_zero]; rfl
      case ff6 => kernel_rfl
      case qq6 => exact fun _ _ _ h => h
      case ww6 => rfl
      case yy6 => intro W hW; go_simp <;> with_reducible rfl
      try simp only [Act.put, List.setIfInBounds_toArray, List.set_cons_zero, List.set_cons_succ]
      refine wpAnyH_take (i := 6) (oi := ?oo7) (v := ?vv7) ?ii7 (by kernel_rfl) ?ff7 (by kernel_rfl) ?qq7 (Or.inl ⟨?ww7, ?yy7⟩) h8 ?rr7
      case ii7 => simp only [List.getElem?_toArray, List.getElem?_cons_succ, List.getElem?_cons_zero]; rfl
      case ff7 => kernel_rfl
      case qq7 => exact fun _ _ _ h => h
      case ww7 => rfl
      case yy7 => intro W hW; go_simp <;> with_reducible rfl
      try simp only [Act.put, List.setIfInBounds_toArray, List.set_cons_zero, List.set_cons_succ]
      refine wpAnyH_take (i := 7) (oi := ?oo8) (v := ?vv8) ?ii8 (by kernel_rfl) ?ff8 (by kernel_rfl) ?qq8 (Or.inl ⟨?ww8, ?yy8⟩) h8 ?rr8
      case ii8 => simp only [List.getElem?_toArray, List.getElem?_cons_succ, List.getElem?_cons_zero]; rfl
      case ff8 => kernel_rfl
      case qq8 => exact fun _ _ _ h => h
      case ww8 => rfl
      case yy8 => intro W hW; go_simp <;> with_reducible rfl
      try simp only [Act.put, List.setIfInBounds_toArray, List.set_cons_zero, List.set_cons_succ]
      refine wpAnyH_take (i := 8) (oi := ?oo9) (v := ?vv9) ?ii9 (by kernel_rfl) ?ff9 (by kernel_rfl) ?qq9 (Or.inl ⟨?ww9, ?yy9⟩) h8 ?rr9
      case ii9 => simp only [List.getElem?_toArray, List.getElem?_cons_succ, List.getElem?_cons_zero]; rfl
      case ff9 => kernel_rfl
      case qq9 => exact fun _ _ _ h => h
      case ww9 => rfl
      case yy9 => intro W hW; go_simp <;> with_reducible rfl
      try simp only [Act.put, List.setIfInBounds_toArray, List.set_cons_zero, List.set_cons_succ]
      refine wpAnyH_take (i := 9) (oi := ?oo10) (v := ?vv10) ?ii10 (by kernel_rfl) ?ff10 (by kernel_rfl) ?qq10 (Or.inl ⟨?ww10, ?yy10⟩) h8 ?rr10
      case ii10 => simp only [List.getElem?_toArray, List.getElem?_cons_succ, List.getElem?_cons_zero]; rfl
      case ff10 => kernel_rfl
      case qq10 => exact fun _ _ _ h => h
      case ww10 => rfl
      case yy10 => intro W hW; go_simp <;> with_reducible rfl
      try simp only [Act.put, List.setIfInBounds_toArray, List.set_cons_zero, List.set_cons_succ]
      refine wpAnyH_take (i := 10) (oi := ?oo11) (v := ?vv11) ?ii11 (by kernel_rfl) ?ff11 (by kernel_rfl) ?qq11 (Or.inl ⟨?ww11, ?yy11⟩) h8 ?rr11
      case ii11 => simp only [List.getElem?_toArray, List.getElem?_cons_succ, List.getElem?_cons_zero]; rfl
      case ff11 => kernel_rfl
      case qq11 => exact fun _ _ _ h => h
      case ww11 => rfl
      case yy11 => intro W hW; go_simp <;> with_reducible rfl
      try simp only [Act.put, List.setIfInBounds_toArray, List.set_cons_zero, List.set_cons_succ]
      refine wpAnyH_take (i := 11) (oi := ?oo12) (v := ?vv12) ?ii12 (by kernel_rfl) ?ff12 (by kernel_rfl) ?qq12 (Or.inl ⟨?ww12, ?yy12⟩) h8 ?rr12
      case ii12 => simp only [List.getElem?_toArray, List.getElem?_cons_succ, List.getElem?_cons_zero]; rfl
      case ff12 => kernel_rfl
      case qq12 => exact fun _ _ _ h => h
      case ww12 => rfl
      case yy12 => intro W hW; go_simp <;> with_reducible rfl
      try simp only [Act.put, List.setIfInBounds_toArray, List.set_cons_zero, List.set_cons_succ]
      refine wpAnyH_take (i := 12) (oi := ?oo13) (v := ?vv13) ?ii13 (by kernel_rfl) ?ff13 (by kernel_rfl) ?qq13 (Or.inl ⟨?ww13, ?yy13⟩) h8 ?rr13
      case ii13 => simp only [List.getElem?_toArray, List.getElem?_cons_succ, List.getElem?_cons_zero]; rfl
      case ff13 => kernel_rfl
      case qq13 => exact fun _ _ _ h => h
      case ww13 => rfl
      case yy13 => intro W hW; go_simp <;> with_reducible rfl
      try simp only [Act.put, List.setIfInBounds_toArray, List.set_cons_zero, List.set_cons_succ]
      refine wpAnyH_take (i := 13) (oi := ?oo14) (v := ?vv14) ?ii14 (by kernel_rfl) ?ff14 (by kernel_rfl) ?qq14 (Or.inl ⟨?ww14, ?yy14⟩) h8 ?rr14
      case ii14 => simp only [List.getElem?_toArray, List.getElem?_cons_succ, List.getElem?_cons_zero]; rfl
      case ff14 => kernel_rfl
      case qq14 => exact fun _ _ _ h => h
      case ww14 => rfl
      case yy14 => intro W hW; go_simp <;> with_reducible rfl
      try simp only [Act.put, List.setIfInBounds_toArray, List.set_cons_zero, List.set_cons_succ]
      refine wpAnyH_take (i := 14) (oi := ?oo15) (v := ?vv15) ?ii15 (by kernel_rfl) ?ff15 (by kernel_rfl) ?qq15 (Or.inl ⟨?ww15, ?yy15⟩) h8 ?rr15
      case ii15 => simp only [List.getElem?_toArray, List.getElem?_cons_succ, List.getElem?_cons_zero]; rfl
      case ff15 => kernel_rfl
      case qq15 => exact fun _ _ _ h => h
      case ww15 => rfl
      case yy15 => intro W hW; go_simp <;> with_reducible rfl
      try simp only [Act.put, List.setIfInBounds_toArray, List.set_cons_zero, List.set_cons_succ]
      refine wpAnyH_take (i := 16) (oi := ?oo16) (v := ?vv16) ?ii16 (by kernel_rfl) ?ff16 (by kernel_rfl) ?qq16 (Or.inl ⟨?ww16, ?yy16⟩) h8 ?rr16
      case ii16 => simp only [List.getElem?_toArray, List.getElem?_cons_succ, List.getElem?_cons_zero]; rfl
      case ff16 => kernel_rfl
      case qq16 => exact fun _ _ _ h => h
      case ww16 => rfl
      case yy16 => intro W hW; go_simp <;> with_reducible rfl
      try simp only [Act.put, List.setIfInBounds_toArray, List.set_cons_zero, List.set_cons_succ]
      refine wpAnyH_ready (rs := [15]) (by kernel_rfl) (by simp) ?_
      refine AllReadyH.cons (o := ?oo17) ?ii17 (fun K hK => ?_) AllReadyH.nil
      case ii17 => simp only [List.getElem?_toArray, List.getElem?_cons_succ, List.getElem?_cons_zero]; rfl
      go_simp
      refine (HRe.out _ h8).mono ?_
      rintro e w9 ⟨rfl, hb9⟩
      have h9 : Below w5.heap.size w5 w9 := h8.trans (hb9.mono h8.size)
      clear hb9
      go_wp2_with fail
      refine hK.out _ _ h9 (fun _ => ?_)
      clear hK K
      refine wpAnyH_take (i := 17) (oi := ?oo18) (v := ?vv18) ?ii18 (by kernel_rfl) ?ff18 (by kernel_rfl) ?qq18 (Or.inl ⟨?ww18, ?yy18⟩) h9 ?rr18
      case ii18 => simp only [List.getElem?_toArray, List.getElem?_cons_succ, List.getElem?_cons_zero]; rfl
      case ff18 => kernel_rfl
      case qq18 => exact fun _ _ _ h => h
      case ww18 => rfl
      case yy18 => intro W hW; go_simp <;> with_reducible rfl
      try simp only [Act.put, List.setIfInBounds_toArray, List.set_cons_zero, List.set_cons_succ]
      refine wpAnyH_take (i := 18) (oi := ?oo19) (v := ?vv19) ?ii19 (by kernel_rfl) ?ff19 (by kernel_rfl) ?qq19 (Or.inl ⟨?ww19, ?yy19⟩) h9 ?rr19
      case ii19 => simp only [List.getElem?_toArray, List.getElem?_cons_succ, List.getElem?_cons_zero]; rfl
      case ff19 => kernel_rfl
      case qq19 => exact fun _ _ _ h => h
      case ww19 => rfl
      case yy19 => intro W hW; go_simp <;> with_reducible rfl
      try simp only [Act.put, List.setIfInBounds_toArray, List.set_cons_zero, List.set_cons_succ]
      refine wpAnyH_take (i := 19) (oi := ?oo20) (v := ?vv20) ?ii20 (by kernel_rfl) ?ff20 (by kernel_rfl) ?qq20 (Or.inl ⟨?ww20, ?yy20⟩) h9 ?rr20
      case ii20 => simp only [List.getElem?_toArray, List.getElem?_cons_succ, List.getElem?_cons_zero]; rfl
      case ff20 => kernel_rfl
      case qq20 => exact fun _ _ _ h => h
      case ww20 => rfl
      case yy20 => intro W hW; go_simp <;> with_reducible rfl
      try simp only [Act.put, List.setIfInBounds_toArray, List.set_cons_zero, List.set_cons_succ]
      refine wpAnyH_take (i := 20) (oi := ?oo21) (v := ?vv21) ?ii21 (by kernel_rfl) ?ff21 (by kernel_rfl) ?qq21 (Or.inl ⟨?ww21, ?yy21⟩) h9 ?rr21
      case ii21 => simp only [List.getElem?_toArray, List.getElem?_cons_succ, List.getElem?_cons_zero]; rfl
      case ff21 => kernel_rfl
      case qq21 => exact fun _ _ _ h => h
      case ww21 => rfl
      case yy21 => intro W hW; go_simp <;> with_reducible rfl
      try simp only [Act.put, List.setIfInBounds_toArray, List.set_cons_zero, List.set_cons_succ]
      refine wpAnyH_take (i := 21) (oi := ?oo22) (v := ?vv22) ?ii22 (by kernel_rfl) ?ff22 (by kernel_rfl) ?qq22 (Or.inl ⟨?ww22, ?yy22⟩) h9 ?rr22
      case ii22 => simp only [List.getElem?_toArray, List.getElem?_cons_succ, List.getElem?_cons_zero]; rfl
      case ff22 => kernel_rfl
      case qq22 => exact fun _ _ _ h => h
      case ww22 => rfl
      case yy22 => intro W hW; go_simp <;> with_reducible rfl
      try simp only [Act.put, List.setIfInBounds_toArray, List.set_cons_zero, List.set_cons_succ]
      refine wpAnyH_ready (rs := [22]) (by kernel_rfl) (by simp) ?_
      refine AllReadyH.cons (o := ?oo23) ?ii23 (fun K hK => ?_) AllReadyH.nil
      case ii23 => simp only [List.getElem?_toArray, List.getElem?_cons_succ, List.getElem?_cons_zero]; rfl
      go_simp
      refine (HSm.out _ (HF5.out _ h9).2.1).mono ?_
      rintro e w10 ⟨rfl, hb10⟩
      have h10 : Below w5.heap.size w5 w10 := h9.trans (hb10.mono h9.size)
      clear hb10
      go_wp2_with fail
      refine hK.out _ _ h10 (fun _ => ?_)
      clear hK K
      refine wpAnyH_take (i := 23) (oi := ?oo24) (v := ?vv24) ?ii24 (by kernel_rfl) ?ff24 (by kernel_rfl) ?qq24 (Or.inl ⟨?ww24, ?yy24⟩) h10 ?rr24
      case ii24 => simp only [List.getElem?_toArray, List.getElem?_cons_succ, List.getElem?_cons_zero]; rfl
      case ff24 => kernel_rfl
      case qq24 => exact fun _ _ _ h => h
      case ww24 => rfl
      case yy24 => intro W hW; go_simp <;> with_reducible rfl
      try simp only [Act.put, List.setIfInBounds_toArray, List.set_cons_zero, List.set_cons_succ]
      refine wpAnyH_take (i := 24) (oi := ?oo25) (v := ?vv25) ?ii25 (by kernel_rfl) ?ff25 (by kernel_rfl) ?qq25 (Or.inl ⟨?ww25, ?yy25⟩) h10 ?rr25
      case ii25 => simp only [List.getElem?_toArray, List.getElem?_cons_succ, List.getElem?_cons_zero]; rfl
      case ff25 => kernel_rfl
      case qq25 => exact fun _ _ _ h => h
      case ww25 => rfl
      case yy25 => intro W hW; go_simp <;> with_reducible rfl
      try simp only [Act.put, List.setIfInBounds_toArray, List.set_cons_zero, List.set_cons_succ]
      refine wpAnyH_done (by kernel_rfl) ?_ _
      have Hb10 := Lib.hid (HF5.out _ h10).1
      go_wp2_with fail
      go_ret
      exact ⟨rfl, HB0.out.trans (Hb10.out.mono (by simp))⟩
    | none =>
      have HE : Hid (∀ y W, CfgIn W y → y.plain = x.plain → Calls Try.prog 11 #[y.value] W (EncGood x.plain W)) := Lib.hid fun y W hW hy => by rw [← hy]; exact encode_good y W hW (by rw [hy]; exact hR)
      have HE2 : Hid (∀ W, Below (boxC w x).heap.size (boxC w x) W → Calls Try.prog 12 #[x.value] W (RefEncGood x.plain W)) := Lib.hid fun W hW => refencode_good x W (HFr.out.below hW) hR
      clear h hR
      clear hl1 hl2 hl3
      obtain ⟨nodes, faulty, slot, gap, rho, dmin, dmax, margin, PA, pn, pcap, parts, QA, qn, qcap, ports, RA, rn, rcap, routes⟩ := x
      simp only [boxC, cfgCells] at HB0 HFr HBOX HRc HE2
      simp only [CfgC.value] at HLg HCp HSm0 HRc HE2 ⊢
      clear HFr0
      go_enter Try.func3, Try.ntmps3
      go_wp2_with fail
      refine (HA.out _).mono ?_
      rintro e w1 ⟨rfl, hb1⟩
      obtain ⟨b0, b1, b2, b3, b4, b5, b6, b7, b8, b9, b10⟩ := HBOX.out w1 hb1
      simp only at b0 b1 b2 b3 b4 b5 b6 b7 b8 b9 b10
      have Hb1 := Lib.hid hb1
      clear hb1 HA
      go_wp2_with fail
      refine (HLg.out _).mono ?_
      rintro e w2 ⟨rfl, hb2⟩
      have Hb2 := Lib.hid (Hb1.out.trans (hb2.mono Hb1.out.size))
      clear hb2 HLg b0 b1 b2 b3 b4 b5 b6 b7 b8 b9 b10
      obtain ⟨b0, b1, b2, b3, b4, b5, b6, b7, b8, b9, b10⟩ := HBOX.out w2 Hb2.out
      simp only at b0 b1 b2 b3 b4 b5 b6 b7 b8 b9 b10
      go_wp2_with fail
      refine (HCp.out _ (HFr.out.below Hb2.out)).mono ?_
      rintro e w3 ⟨v3, rfl, ⟨x3, rfl, hx3, hp3⟩, hb3⟩
      have Hx3 := Lib.hid hx3
      have Hp3 := Lib.hid hp3
      have Hb3 := Lib.hid (Hb2.out.trans (hb3.mono Hb2.out.size))
      clear hx3 hp3 hb3 HCp
      have HE1 : Hid (∀ o, Calls Try.prog 11 #[x3.value] (w3.alloc o) _) := Lib.hid fun o => HE.out x3 (w3.alloc o) (Hx3.out.below ((Below.refl _ _).alloc (Nat.le_refl _) o)) Hp3.out
      have HCk : Hid (∀ W, Below w3.heap.size w3 W → Calls Try.prog 14 #[x3.value] W (CheckPost none W)) := Lib.hid fun W hW => by
        have h9 := check_any x3 W (Hx3.out.below hW)
        rw [Hp3.out, HR.out] at h9
        exact h9
      have HSm : Hid (∀ W, Below w3.heap.size w3 W → Calls Try.prog 16 #[x3.value, .agg #[.int .i64 nodes, .int .i64 faulty, .int .i64 slot, .int .i64 gap, .int .i64 rho, .int .i64 dmin, .int .i64 dmax, .int .i64 margin, .slice PA pn pcap, .slice QA qn qcap, .slice RA rn rcap]] W (fun e w' => e = .returned (.bool true) ∧ Below W.heap.size W w')) := Lib.hid fun W hW => HSm0.out x3 W (Hx3.out.below hW) (HFr.out.below (Hb3.out.trans (hW.mono Hb3.out.size))) Hp3.out
      clear b0 b1 b2 b3 b4 b5 b6 b7 b8 b9 b10
      obtain ⟨b0, b1, b2, b3, b4, b5, b6, b7, b8, b9, b10⟩ := HBOX.out w3 Hb3.out
      simp only at b0 b1 b2 b3 b4 b5 b6 b7 b8 b9 b10
      clear HE HSm0 Hx3 Hp3
      obtain ⟨nodes3, faulty3, slot3, gap3, rho3, dmin3, dmax3, margin3, PA3, pn3, pcap3, parts3, QA3, qn3, qcap3, ports3, RA3, rn3, rcap3, routes3⟩ := x3
      simp only [CfgC.value] at HE1 HCk HSm ⊢
      go_wp2_with fail
      refine (HE1.out _).mono ?_
      rintro e w4 ⟨v4, g4, rfl, hr4, hb4⟩
      have Hb4 : Hid (Below w3.heap.size w3 w4) := Lib.hid (((Below.refl _ _).alloc (Nat.le_refl _) _).trans (hb4.mono (by simp)))
      clear b0 b1 b2 b3 b4 b5 b6 b7 b8 b9 b10
      obtain ⟨b0, b1, b2, b3, b4, b5, b6, b7, b8, b9, b10⟩ := HBOX.out w4 (Hb3.out.trans (Hb4.out.mono Hb3.out.size))
      simp only at b0 b1 b2 b3 b4 b5 b6 b7 b8 b9 b10
      have Hin : Hid (∀ W, Below w4.heap.size w4 W → W.heap[w3.heap.size]? = some (.cells #[.int .i64 nodes3, .int .i64 faulty3, .int .i64 slot3, .int .i64 gap3, .int .i64 rho3, .int .i64 dmin3, .int .i64 dmax3, .int .i64 margin3, .slice PA3 pn3 pcap3, .slice QA3 qn3 qcap3, .slice RA3 rn3 rcap3] 26 (0, 0))) := Lib.hid fun W hW => (hW.block w3.heap.size (by have := hb4.size; simp at this; omega)).trans ((hb4.block w3.heap.size (by simp)).trans (heap_alloc_new w3 _))
      obtain ⟨A4, c4, rfl, -, -, hby4⟩ := hr4.bytes
      have Hby4 := Lib.hid hby4
      clear hr4 hby4 hb4 HE1
      go_wp2_with fail
      refine (HE2.out _ (Hb3.out.trans (Hb4.out.mono Hb3.out.size))).mono ?_
      rintro e w5 ⟨v5, g5, rfl, hr5, hb5⟩
      obtain ⟨A5, c5, rfl, -, -, hby5⟩ := hr5.bytes
      have HRe : Hid (∀ W, Below w5.heap.size w5 W → Calls Try.prog 13 #[.nilIface] W (fun e w' => e = .returned (strV []) ∧ Below W.heap.size W w')) := Lib.hid fun W _ => ErrText.read (ErrText.none_ W)
      have cv := fun W (hW : Below w5.heap.size w5 W) => conv_w (w := W) (cap := c4) rfl ((Hby4.out.below (hb5.trans (hW.mono hb5.size)) (Nat.le_refl _)).more (Nat.le_trans hb5.size hW.size))
      have cv2 := fun W (hW : Below w5.heap.size w5 W) => conv_w (w := W) (cap := c5) rfl ((hby5.below hW (Nat.le_refl _)).more hW.size)
      have Hcv := Lib.hid cv
      have Hcv2 := Lib.hid cv2
      clear cv cv2 hr5 hby5
      unfold RefChkPost at HRc
      unfold strV at *
      generalize CrcP.seal4 (TableP.enc (CfgC.plain ⟨nodes, faulty, slot, gap, rho, dmin, dmax, margin, PA, pn, pcap, parts, QA, qn, qcap, ports, RA, rn, rcap, routes⟩)) = S5 at *
      generalize S5.length = sl5 at *
      have cv := Hcv.out
      have cv2 := Hcv2.out
      clear HE2
      go_wp2_with fail
      have Hb5 := Lib.hid (Hb4.out.trans (hb5.mono Hb4.out.size))
      have hd : Below w5.heap.size w5 w5.drew := (Below.refl _ _).drew
      have HF5 : Hid (∀ W, Below w5.heap.size w5 W → Below (w.alloc (.cells #[.int .i64 nodes, .int .i64 faulty, .int .i64 slot, .int .i64 gap, .int .i64 rho, .int .i64 dmin, .int .i64 dmax, .int .i64 margin, .slice PA pn pcap, .slice QA qn qcap, .slice RA rn rcap] 26)).heap.size (w.alloc (.cells #[.int .i64 nodes, .int .i64 faulty, .int .i64 slot, .int .i64 gap, .int .i64 rho, .int .i64 dmin, .int .i64 dmax, .int .i64 margin, .slice PA pn pcap, .slice QA qn qcap, .slice RA rn rcap] 26)) W ∧ Below w3.heap.size w3 W ∧ Below w4.heap.size w4 W) := Lib.hid fun W hW =>
        ⟨(Hb3.out.trans (Hb5.out.mono Hb3.out.size)).trans (hW.mono (Nat.le_trans Hb3.out.size Hb5.out.size)), Hb5.out.trans (hW.mono Hb5.out.size), hb5.trans (hW.mono hb5.size)⟩
      clear b0 b1 b2 b3 b4 b5 b6 b7 b8 b9 b10 hb5
      have b0 := fun W (hW : Below w5.heap.size w5 W) => (HBOX.out W (HF5.out W hW).1).c0
      have b1 := fun W (hW : Below w5.heap.size w5 W) => (HBOX.out W (HF5.out W hW).1).c1
      have b2 := fun W (hW : Below w5.heap.size w5 W) => (HBOX.out W (HF5.out W hW).1).c2
      have b3 := fun W (hW : Below w5.heap.size w5 W) => (HBOX.out W (HF5.out W hW).1).c3
      have b4 := fun W (hW : Below w5.heap.size w5 W) => (HBOX.out W (HF5.out W hW).1).c4
      have b5 := fun W (hW : Below w5.heap.size w5 W) => (HBOX.out W (HF5.out W hW).1).c5
      have b6 := fun W (hW : Below w5.heap.size w5 W) => (HBOX.out W (HF5.out W hW).1).c6
      have b7 := fun W (hW : Below w5.heap.size w5 W) => (HBOX.out W (HF5.out W hW).1).c7
      have b8 := fun W (hW : Below w5.heap.size w5 W) => (HBOX.out W (HF5.out W hW).1).c8
      have b9 := fun W (hW : Below w5.heap.size w5 W) => (HBOX.out W (HF5.out W hW).1).c9
      have b10 := fun W (hW : Below w5.heap.size w5 W) => (HBOX.out W (HF5.out W hW).1).c10
      simp only at b0 b1 b2 b3 b4 b5 b6 b7 b8 b9 b10
      have i0 := fun W (hW : Below w5.heap.size w5 W) => cell_at (Hin.out W (HF5.out W hW).2.2) 0 rfl
      have i1 := fun W (hW : Below w5.heap.size w5 W) => cell_at (Hin.out W (HF5.out W hW).2.2) 1 rfl
      have i2 := fun W (hW : Below w5.heap.size w5 W) => cell_at (Hin.out W (HF5.out W hW).2.2) 2 rfl
      have i3 := fun W (hW : Below w5.heap.size w5 W) => cell_at (Hin.out W (HF5.out W hW).2.2) 3 rfl
      have i4 := fun W (hW : Below w5.heap.size w5 W) => cell_at (Hin.out W (HF5.out W hW).2.2) 4 rfl
      have i5 := fun W (hW : Below w5.heap.size w5 W) => cell_at (Hin.out W (HF5.out W hW).2.2) 5 rfl
      have i6 := fun W (hW : Below w5.heap.size w5 W) => cell_at (Hin.out W (HF5.out W hW).2.2) 6 rfl
      have i7 := fun W (hW : Below w5.heap.size w5 W) => cell_at (Hin.out W (HF5.out W hW).2.2) 7 rfl
      have i8 := fun W (hW : Below w5.heap.size w5 W) => cell_at (Hin.out W (HF5.out W hW).2.2) 8 rfl
      have i9 := fun W (hW : Below w5.heap.size w5 W) => cell_at (Hin.out W (HF5.out W hW).2.2) 9 rfl
      have i10 := fun W (hW : Below w5.heap.size w5 W) => cell_at (Hin.out W (HF5.out W hW).2.2) 10 rfl
      refine wp_region_held_drew (S := fun W => Below w5.heap.size w5 W) (by kernel_rfl) hd (fun _ => ?_)
      refine wpAnyH_take (i := 0) (oi := ?oo26) (v := ?vv26) ?ii26 (by kernel_rfl) ?ff26 (by kernel_rfl) ?qq26 (Or.inl ⟨?ww26, ?yy26⟩) hd ?rr26
      case ii26 => simp only [List.getElem?_toArray, List.getElem?_cons_zero]; rfl
      case ff26 => kernel_rfl
      case qq26 => exact fun _ _ _ h => h
      case ww26 => rfl
      case yy26 => intro W hW; go_simp <;> with_reducible rfl
      try simp only [Act.put, List.setIfInBounds_toArray, List.set_cons_zero, List.set_cons_succ]
      refine wpAnyH_take (i := 3) (oi := ?oo27) (v := ?vv27) ?ii27 (by kernel_rfl) ?ff27 (by kernel_rfl) ?qq27 (Or.inl ⟨?ww27, ?yy27⟩) hd ?rr27
      case ii27 => simp only [List.getElem?_toArray, List.getElem?_cons_succ, List.getElem?_cons_zero]; rfl
      case ff27 => kernel_rfl
      case qq27 => exact fun _ _ _ h => h
      case ww27 => rfl
      case yy27 => intro W hW; go_simp <;> with_reducible rfl
      try simp only [Act.put, List.setIfInBounds_toArray, List.set_cons_zero, List.set_cons_succ]
      refine wpAnyH_ready (rs := [1]) (by kernel_rfl) (by simp) ?_
      refine AllReadyH.cons (o := ?oo28) ?ii28 (fun K hK => ?_) AllReadyH.nil
      case ii28 => simp only [List.getElem?_toArray, List.getElem?_cons_succ, List.getElem?_cons_zero]; rfl
      go_simp
      refine (HCk.out _ (HF5.out _ hd).2.1).mono ?_
      rintro e w6 ⟨v6, rfl, hx6, -, hb6⟩
      have h6 : Below w5.heap.size w5 w6 := hd.trans (hb6.mono (Nat.le_refl _))
      have HR6 := Lib.hid (ErrText.read hx6)
      unfold strV at HR6
      clear hx6 hb6
      go_wp2_with fail
      refine hK.out _ _ h6 (fun _ => ?_)
      clear hK K
      refine wpAnyH_ready (rs := [2]) (by kernel_rfl) (by simp) ?_
      refine AllReadyH.cons (o := ?oo29) ?ii29 (fun K hK => ?_) AllReadyH.nil
      case ii29 => simp only [List.getElem?_toArray, List.getElem?_cons_succ, List.getElem?_cons_zero]; rfl
      go_simp
      refine HR6.out.mono ?_
      rintro e w7 ⟨rfl, hb7⟩
      have h7 : Below w5.heap.size w5 w7 := h6.trans (hb7.mono h6.size)
      clear hb7 HR6
      go_wp2_with fail
      refine hK.out _ _ h7 (fun _ => ?_)
      clear hK K
      refine wpAnyH_ready (rs := [4]) (by kernel_rfl) (by simp) ?_
      refine AllReadyH.cons (o := ?oo30) ?ii30 (fun K hK => ?_) AllReadyH.nil
      case ii30 => simp only [List.getElem?_toArray, List.getElem?_cons_succ, List.getElem?_cons_zero]; rfl
      go_simp
      refine (HRc.out _ ((HF5.out _ h7).1)).mono ?_
      rintro e w8 ⟨rfl, hb8⟩
      have h8 : Below w5.heap.size w5 w8 := h7.trans (hb8.mono h7.size)
      clear hb8
      go_wp2_with fail
      refine hK.out _ _ h8 (fun _ => ?_)
      clear hK K
      refine wpAnyH_take (i := 5) (oi := ?oo31) (v := ?vv31) ?ii31 (by kernel_rfl) ?ff31 (by kernel_rfl) ?qq31 (Or.inl ⟨?ww31, ?yy31⟩) h8 ?rr31
      case ii31 => simp only [List.getElem?_toArray, List.getElem?_cons_succ, List.getElem?_cons_zero]; rfl
      case ff31 => kernel_rfl
      case qq31 => exact fun _ _ _ h => h
      case ww31 => rfl
      case yy31 => intro W hW; go_simp <;> with_reducible rfl
      try simp only [Act.put, List.setIfInBounds_toArray, List.set_cons_zero, List.set_cons_succ]
      refine wpAnyH_take (i := 6) (oi := ?oo32) (v := ?vv32) ?ii32 (by kernel_rfl) ?ff32 (by kernel_rfl) ?qq32 (Or.inl ⟨?ww32, ?yy32⟩) h8 ?rr32
      case ii32 => simp only [List.getElem?_toArray, List.getElem?_cons_succ, List.getElem?_cons_zero]; rfl
      case ff32 => kernel_rfl
      case qq32 => exact fun _ _ _ h => h
      case ww32 => rfl
      case yy32 => intro W hW; go_simp <;> with_reducible rfl
      try simp only [Act.put, List.setIfInBounds_toArray, List.set_cons_zero, List.set_cons_succ]
      refine wpAnyH_take (i := 7) (oi := ?oo33) (v := ?vv33) ?ii33 (by kernel_rfl) ?ff33 (by kernel_rfl) ?qq33 (Or.inl ⟨?ww33, ?yy33⟩) h8 ?rr33
      case ii33 => simp only [List.getElem?_toArray, List.getElem?_cons_succ, List.getElem?_cons_zero]; rfl
      case ff33 => kernel_rfl
      case qq33 => exact fun _ _ _ h => h
      case ww33 => rfl
      case yy33 => intro W hW; go_simp <;> with_reducible rfl
      try simp only [Act.put, List.setIfInBounds_toArray, List.set_cons_zero, List.set_cons_succ]
      refine wpAnyH_take (i := 8) (oi := ?oo34) (v := ?vv34) ?ii34 (by kernel_rfl) ?ff34 (by kernel_rfl) ?qq34 (Or.inl ⟨?ww34, ?yy34⟩) h8 ?rr34
      case ii34 => simp only [List.getElem?_toArray, List.getElem?_cons_succ, List.getElem?_cons_zero]; rfl
      case ff34 => kernel_rfl
      case qq34 => exact fun _ _ _ h => h
      case ww34 => rfl
      case yy34 => intro W hW; go_simp <;> with_reducible rfl
      try simp only [Act.put, List.setIfInBounds_toArray, List.set_cons_zero, List.set_cons_succ]
      refine wpAnyH_take (i := 9) (oi := ?oo35) (v := ?vv35) ?ii35 (by kernel_rfl) ?ff35 (by kernel_rfl) ?qq35 (Or.inl ⟨?ww35, ?yy35⟩) h8 ?rr35
      case ii35 => simp only [List.getElem?_toArray, List.getElem?_cons_succ, List.getElem?_cons_zero]; rfl
      case ff35 => kernel_rfl
      case qq35 => exact fun _ _ _ h => h
      case ww35 => rfl
      case yy35 => intro W hW; go_simp <;> with_reducible rfl
      try simp only [Act.put, List.setIfInBounds_toArray, List.set_cons_zero, List.set_cons_succ]
      refine wpAnyH_take (i := 10) (oi := ?oo36) (v := ?vv36) ?ii36 (by kernel_rfl) ?ff36 (by kernel_rfl) ?qq36 (Or.inl ⟨?ww36, ?yy36⟩) h8 ?rr36
      case ii36 => simp only [List.getElem?_toArray, List.getElem?_cons_succ, List.getElem?_cons_zero]; rfl
      case ff36 => kernel_rfl
      case qq36 => exact fun _ _ _ h => h
      case ww36 => rfl
      case yy36 => intro W hW; go_simp <;> with_reducible rfl
      try simp only [Act.put, List.setIfInBounds_toArray, List.set_cons_zero, List.set_cons_succ]
      refine wpAnyH_take (i := 11) (oi := ?oo37) (v := ?vv37) ?ii37 (by kernel_rfl) ?ff37 (by kernel_rfl) ?qq37 (Or.inl ⟨?ww37, ?yy37⟩) h8 ?rr37
      case ii37 => simp only [List.getElem?_toArray, List.getElem?_cons_succ, List.getElem?_cons_zero]; rfl
      case ff37 => kernel_rfl
      case qq37 => exact fun _ _ _ h => h
      case ww37 => rfl
      case yy37 => intro W hW; go_simp <;> with_reducible rfl
      try simp only [Act.put, List.setIfInBounds_toArray, List.set_cons_zero, List.set_cons_succ]
      refine wpAnyH_take (i := 12) (oi := ?oo38) (v := ?vv38) ?ii38 (by kernel_rfl) ?ff38 (by kernel_rfl) ?qq38 (Or.inl ⟨?ww38, ?yy38⟩) h8 ?rr38
      case ii38 => simp only [List.getElem?_toArray, List.getElem?_cons_succ, List.getElem?_cons_zero]; rfl
      case ff38 => kernel_rfl
      case qq38 => exact fun _ _ _ h => h
      case ww38 => rfl
      case yy38 => intro W hW; go_simp <;> with_reducible rfl
      try simp only [Act.put, List.setIfInBounds_toArray, List.set_cons_zero, List.set_cons_succ]
      refine wpAnyH_take (i := 13) (oi := ?oo39) (v := ?vv39) ?ii39 (by kernel_rfl) ?ff39 (by kernel_rfl) ?qq39 (Or.inl ⟨?ww39, ?yy39⟩) h8 ?rr39
      case ii39 => simp only [List.getElem?_toArray, List.getElem?_cons_succ, List.getElem?_cons_zero]; rfl
      case ff39 => kernel_rfl
      case qq39 => exact fun _ _ _ h => h
      case ww39 => rfl
      case yy39 => intro W hW; go_simp <;> with_reducible rfl
      try simp only [Act.put, List.setIfInBounds_toArray, List.set_cons_zero, List.set_cons_succ]
      refine wpAnyH_take (i := 14) (oi := ?oo40) (v := ?vv40) ?ii40 (by kernel_rfl) ?ff40 (by kernel_rfl) ?qq40 (Or.inl ⟨?ww40, ?yy40⟩) h8 ?rr40
      case ii40 => simp only [List.getElem?_toArray, List.getElem?_cons_succ, List.getElem?_cons_zero]; rfl
      case ff40 => kernel_rfl
      case qq40 => exact fun _ _ _ h => h
      case ww40 => rfl
      case yy40 => intro W hW; go_simp <;> with_reducible rfl
      try simp only [Act.put, List.setIfInBounds_toArray, List.set_cons_zero, List.set_cons_succ]
      refine wpAnyH_take (i := 16) (oi := ?oo41) (v := ?vv41) ?ii41 (by kernel_rfl) ?ff41 (by kernel_rfl) ?qq41 (Or.inl ⟨?ww41, ?yy41⟩) h8 ?rr41
      case ii41 => simp only [List.getElem?_toArray, List.getElem?_cons_succ, List.getElem?_cons_zero]; rfl
      case ff41 => kernel_rfl
      case qq41 => exact fun _ _ _ h => h
      case ww41 => rfl
      case yy41 => intro W hW; go_simp <;> with_reducible rfl
      try simp only [Act.put, List.setIfInBounds_toArray, List.set_cons_zero, List.set_cons_succ]
      refine wpAnyH_ready (rs := [15]) (by kernel_rfl) (by simp) ?_
      refine AllReadyH.cons (o := ?oo42) ?ii42 (fun K hK => ?_) AllReadyH.nil
      case ii42 => simp only [List.getElem?_toArray, List.getElem?_cons_succ, List.getElem?_cons_zero]; rfl
      go_simp
      refine (HRe.out _ h8).mono ?_
      rintro e w9 ⟨rfl, hb9⟩
      have h9 : Below w5.heap.size w5 w9 := h8.trans (hb9.mono h8.size)
      clear hb9
      go_wp2_with fail
      refine hK.out _ _ h9 (fun _ => ?_)
      clear hK K
      refine wpAnyH_take (i := 17) (oi := ?oo43) (v := ?vv43) ?ii43 (by kernel_rfl) ?ff43 (by kernel_rfl) ?qq43 (Or.inl ⟨?ww43, ?yy43⟩) h9 ?rr43
      case ii43 => simp only [List.getElem?_toArray, List.getElem?_cons_succ, List.getElem?_cons_zero]; rfl
      case ff43 => kernel_rfl
      case qq43 => exact fun _ _ _ h => h
      case ww43 => rfl
      case yy43 => intro W hW; go_simp <;> with_reducible rfl
      try simp only [Act.put, List.setIfInBounds_toArray, List.set_cons_zero, List.set_cons_succ]
      refine wpAnyH_take (i := 18) (oi := ?oo44) (v := ?vv44) ?ii44 (by kernel_rfl) ?ff44 (by kernel_rfl) ?qq44 (Or.inl ⟨?ww44, ?yy44⟩) h9 ?rr44
      case ii44 => simp only [List.getElem?_toArray, List.getElem?_cons_succ, List.getElem?_cons_zero]; rfl
      case ff44 => kernel_rfl
      case qq44 => exact fun _ _ _ h => h
      case ww44 => rfl
      case yy44 => intro W hW; go_simp <;> with_reducible rfl
      try simp only [Act.put, List.setIfInBounds_toArray, List.set_cons_zero, List.set_cons_succ]
      refine wpAnyH_take (i := 19) (oi := ?oo45) (v := ?vv45) ?ii45 (by kernel_rfl) ?ff45 (by kernel_rfl) ?qq45 (Or.inl ⟨?ww45, ?yy45⟩) h9 ?rr45
      case ii45 => simp only [List.getElem?_toArray, List.getElem?_cons_succ, List.getElem?_cons_zero]; rfl
      case ff45 => kernel_rfl
      case qq45 => exact fun _ _ _ h => h
      case ww45 => rfl
      case yy45 => intro W hW; go_simp <;> with_reducible rfl
      try simp only [Act.put, List.setIfInBounds_toArray, List.set_cons_zero, List.set_cons_succ]
      refine wpAnyH_take (i := 20) (oi := ?oo46) (v := ?vv46) ?ii46 (by kernel_rfl) ?ff46 (by kernel_rfl) ?qq46 (Or.inl ⟨?ww46, ?yy46⟩) h9 ?rr46
      case ii46 => simp only [List.getElem?_toArray, List.getElem?_cons_succ, List.getElem?_cons_zero]; rfl
      case ff46 => kernel_rfl
      case qq46 => exact fun _ _ _ h => h
      case ww46 => rfl
      case yy46 => intro W hW; go_simp <;> with_reducible rfl
      try simp only [Act.put, List.setIfInBounds_toArray, List.set_cons_zero, List.set_cons_succ]
      refine wpAnyH_take (i := 21) (oi := ?oo47) (v := ?vv47) ?ii47 (by kernel_rfl) ?ff47 (by kernel_rfl) ?qq47 (Or.inl ⟨?ww47, ?yy47⟩) h9 ?rr47
      case ii47 => simp only [List.getElem?_toArray, List.getElem?_cons_succ, List.getElem?_cons_zero]; rfl
      case ff47 => kernel_rfl
      case qq47 => exact fun _ _ _ h => h
      case ww47 => rfl
      case yy47 => intro W hW; go_simp <;> with_reducible rfl
      try simp only [Act.put, List.setIfInBounds_toArray, List.set_cons_zero, List.set_cons_succ]
      refine wpAnyH_ready (rs := [22]) (by kernel_rfl) (by simp) ?_
      refine AllReadyH.cons (o := ?oo48) ?ii48 (fun K hK => ?_) AllReadyH.nil
      case ii48 => simp only [List.getElem?_toArray, List.getElem?_cons_succ, List.getElem?_cons_zero]; rfl
      go_simp
      refine (HSm.out _ (HF5.out _ h9).2.1).mono ?_
      rintro e w10 ⟨rfl, hb10⟩
      have h10 : Below w5.heap.size w5 w10 := h9.trans (hb10.mono h9.size)
      clear hb10
      go_wp2_with fail
      refine hK.out _ _ h10 (fun _ => ?_)
      clear hK K
      refine wpAnyH_take (i := 23) (oi := ?oo49) (v := ?vv49) ?ii49 (by kernel_rfl) ?ff49 (by kernel_rfl) ?qq49 (Or.inl ⟨?ww49, ?yy49⟩) h10 ?rr49
      case ii49 => simp only [List.getElem?_toArray, List.getElem?_cons_succ, List.getElem?_cons_zero]; rfl
      case ff49 => kernel_rfl
      case qq49 => exact fun _ _ _ h => h
      case ww49 => rfl
      case yy49 => intro W hW; go_simp <;> with_reducible rfl
      try simp only [Act.put, List.setIfInBounds_toArray, List.set_cons_zero, List.set_cons_succ]
      refine wpAnyH_take (i := 24) (oi := ?oo50) (v := ?vv50) ?ii50 (by kernel_rfl) ?ff50 (by kernel_rfl) ?qq50 (Or.inl ⟨?ww50, ?yy50⟩) h10 ?rr50
      case ii50 => simp only [List.getElem?_toArray, List.getElem?_cons_succ, List.getElem?_cons_zero]; rfl
      case ff50 => kernel_rfl
      case qq50 => exact fun _ _ _ h => h
      case ww50 => rfl
      case yy50 => intro W hW; go_simp <;> with_reducible rfl
      try simp only [Act.put, List.setIfInBounds_toArray, List.set_cons_zero, List.set_cons_succ]
      refine wpAnyH_done (by kernel_rfl) ?_ _
      have Hb10 := Lib.hid (HF5.out _ h10).1
      go_wp2_with fail
      go_ret
      exact ⟨rfl, HB0.out.trans (Hb10.out.mono (by simp))⟩
end Go.Proofs.Ytgceleipaiameaa
