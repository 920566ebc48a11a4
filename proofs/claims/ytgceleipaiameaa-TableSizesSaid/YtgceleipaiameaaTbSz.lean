/- TableSizes: the walk of the law at tables in memory. Conditions: where its lists lie. -/
import Derived.Test.YtgceleipaiameaaTbAw
import Derived.Test.YtgceleipaiameaaTbY
namespace Go.Proofs.Ytgceleipaiameaa
open Go.RowKit
set_option maxRecDepth 100000

set_option maxHeartbeats 1000000 in
theorem sizes_law (x : CfgC) (w : World) (h : CfgIn w x) : Calls Try.prog 6 #[x.value] w (AwakePost w) := by
  have HA := Lib.hid (fun W => awake_any W)
  have HB0 := Lib.hid (boxC_below w x)
  have HFr0 := Lib.hid h
  have HFr := Lib.hid (h.below (boxC_below w x))
  have HBOX := Lib.hid (fun wr hb => box11 (w := w) (wr := wr) (x := x) (t := 26) hb)
  have HLg := Lib.hid (fun W => long_any x W)
  cases hlg : longB x with
  | true =>
    have HLg' : Hid (∀ W, Calls Try.prog 9 #[x.value] W (fun e w' => e = .returned (.bool true) ∧ Below W.heap.size W w')) := Lib.hid fun W => by have := HLg.out W; rwa [hlg] at this
    clear HLg hlg h
    have HLg := HLg'
    clear HLg'
    obtain ⟨nodes, faulty, slot, gap, rho, dmin, dmax, margin, PA, pn, pcap, parts, QA, qn, qcap, ports, RA, rn, rcap, routes⟩ := x
    simp only [boxC, cfgCells] at HB0 HFr HBOX
    simp only [CfgC.value] at HLg ⊢
    clear HFr0
    go_enter Try.func6, Try.ntmps6
    go_wp2_with fail
    refine (HA.out _).mono ?_
    rintro e w1 ⟨rfl, hb1⟩
    obtain ⟨b0, b1, b2, b3, b4, b5, b6, b7, b8, b9, b10⟩ := HBOX.out w1 hb1
    simp only at b0 b1 b2 b3 b4 b5 b6 b7 b8 b9 b10
    have Hb1 := Lib.hid hb1
    clear hb1 HA
    go_wp2_with fail
    refine (HLg.out _).mono ?_
    rintro e w2 ⟨rfl, hb2⟩
    have Hb2 := Lib.hid (Hb1.out.trans (hb2.mono Hb1.out.size))
    clear hb2 HLg b0 b1 b2 b3 b4 b5 b6 b7 b8 b9 b10
    go_wp2_with fail
    go_ret
    exact ⟨rfl, HB0.out.trans (Hb2.out.mono (by simp))⟩
  | false =>
    have HLg' : Hid (∀ W, Calls Try.prog 9 #[x.value] W (fun e w' => e = .returned (.bool false) ∧ Below W.heap.size W w')) := Lib.hid fun W => by have := HLg.out W; rwa [hlg] at this
    obtain ⟨hl1, hl2, hl3⟩ := longB_no hlg
    clear HLg hlg
    have HLg := HLg'
    clear HLg'
    have HCp : Hid (∀ W, CfgIn W x → Calls Try.prog 10 #[x.value] W (CopiedPost x.plain W)) := Lib.hid fun W hW => copied_any x W hW (by omega) (by omega) (by omega)
    cases hc : TableP.chk x.plain with
    | some c =>
      have HE : Hid (∀ y W, CfgIn W y → y.plain = x.plain → Calls Try.prog 11 #[y.value] W (EncBad c W)) := Lib.hid fun y W hW hy => encode_bad y W hW c (by rw [hy]; exact hc)
      clear h hc hl1 hl2 hl3
      obtain ⟨nodes, faulty, slot, gap, rho, dmin, dmax, margin, PA, pn, pcap, parts, QA, qn, qcap, ports, RA, rn, rcap, routes⟩ := x
      simp only [boxC, cfgCells] at HB0 HFr HBOX
      simp only [CfgC.value] at HLg HCp ⊢
      clear HFr0
      go_enter Try.func6, Try.ntmps6
      go_wp2_with fail
      refine (HA.out _).mono ?_
      rintro e w1 ⟨rfl, hb1⟩
      obtain ⟨b0, b1, b2, b3, b4, b5, b6, b7, b8, b9, b10⟩ := HBOX.out w1 hb1
      simp only at b0 b1 b2 b3 b4 b5 b6 b7 b8 b9 b10
      have Hb1 := Lib.hid hb1
      clear hb1 HA
      go_wp2_with fail
      refine (HLg.out _).mono ?_
      rintro e w2 ⟨rfl, hb2⟩
      have Hb2 := Lib.hid (Hb1.out.trans (hb2.mono Hb1.out.size))
      clear hb2 HLg b0 b1 b2 b3 b4 b5 b6 b7 b8 b9 b10
      obtain ⟨b0, b1, b2, b3, b4, b5, b6, b7, b8, b9, b10⟩ := HBOX.out w2 Hb2.out
      simp only at b0 b1 b2 b3 b4 b5 b6 b7 b8 b9 b10
      go_wp2_with fail
      refine (HCp.out _ (HFr.out.below Hb2.out)).mono ?_
      rintro e w3 ⟨v3, rfl, ⟨x3, rfl, hx3, hp3⟩, hb3⟩
      have Hx3 := Lib.hid hx3
      have Hp3 := Lib.hid hp3
      have Hb3 := Lib.hid (Hb2.out.trans (hb3.mono Hb2.out.size))
      clear hx3 hp3 hb3 HCp
      go_wp2_with fail
      refine (HE.out x3 _ Hx3.out Hp3.out).mono ?_
      rintro e w4 ⟨b, rfl, -, hb4⟩
      have Hb4 := Lib.hid (Hb3.out.trans (hb4.mono Hb3.out.size))
      clear hb4
      go_wp2_with fail
      go_ret
      exact ⟨rfl, HB0.out.trans (Hb4.out.mono (by simp))⟩
    | none =>
      have HE : Hid (∀ y W, CfgIn W y → y.plain = x.plain → Calls Try.prog 11 #[y.value] W (EncGood x.plain W)) := Lib.hid fun y W hW hy => by rw [← hy]; exact encode_good y W hW (by rw [hy]; exact hc)
      have hpl := h.plen
      have hql := h.qlen
      have hrl := h.rlen
      have Hlen : Hid ((CrcP.seal4 (TableP.enc x.plain)).length = 37 + 15 * x.pn + 6 * x.qn + 2 * x.rn) := Lib.hid (by
        rw [seal4_len, TableP.enc_length]
        simp only [CfgC.plain, hpl, hql, hrl]
        omega)
      clear h hc hpl hql hrl
      generalize hP : x.plain = P at *
      clear hP
      obtain ⟨nodes, faulty, slot, gap, rho, dmin, dmax, margin, PA, pn, pcap, parts, QA, qn, qcap, ports, RA, rn, rcap, routes⟩ := x
      simp only [boxC, cfgCells] at HB0 HFr HBOX
      simp only [CfgC.value] at HLg HCp ⊢
      clear HFr0
      simp only at Hlen hl1 hl2 hl3
      go_enter Try.func6, Try.ntmps6
      go_wp2_with fail
      refine (HA.out _).mono ?_
      rintro e w1 ⟨rfl, hb1⟩
      obtain ⟨b0, b1, b2, b3, b4, b5, b6, b7, b8, b9, b10⟩ := HBOX.out w1 hb1
      simp only at b0 b1 b2 b3 b4 b5 b6 b7 b8 b9 b10
      have Hb1 := Lib.hid hb1
      clear hb1 HA
      go_wp2_with fail
      refine (HLg.out _).mono ?_
      rintro e w2 ⟨rfl, hb2⟩
      have Hb2 := Lib.hid (Hb1.out.trans (hb2.mono Hb1.out.size))
      clear hb2 HLg b0 b1 b2 b3 b4 b5 b6 b7 b8 b9 b10
      obtain ⟨b0, b1, b2, b3, b4, b5, b6, b7, b8, b9, b10⟩ := HBOX.out w2 Hb2.out
      simp only at b0 b1 b2 b3 b4 b5 b6 b7 b8 b9 b10
      go_wp2_with fail
      refine (HCp.out _ (HFr.out.below Hb2.out)).mono ?_
      rintro e w3 ⟨v3, rfl, ⟨x3, rfl, hx3, hp3⟩, hb3⟩
      have Hx3 := Lib.hid hx3
      have Hp3 := Lib.hid hp3
      have Hb3 := Lib.hid (Hb2.out.trans (hb3.mono Hb2.out.size))
      clear hx3 hp3 hb3 HCp
      go_wp2_with fail
      refine (HE.out x3 _ Hx3.out Hp3.out).mono ?_
      rintro e w4 ⟨v, g, rfl, hr4, hb4⟩
      obtain ⟨A, c, rfl, -, -, -⟩ := hr4.bytes
      have Hb4 := Lib.hid (Hb3.out.trans (hb4.mono Hb3.out.size))
      rw [Hlen.out]
      clear b0 b1 b2 b3 b4 b5 b6 b7 b8 b9 b10
      obtain ⟨b0, b1, b2, b3, b4, b5, b6, b7, b8, b9, b10⟩ := HBOX.out w4 Hb4.out
      simp only at b0 b1 b2 b3 b4 b5 b6 b7 b8 b9 b10
      clear hr4 hb4 HE Hx3 Hp3
      go_wp2_with fail
      go_ret
      exact ⟨rfl, HB0.out.trans (Hb4.out.mono (by simp))⟩
end Go.Proofs.Ytgceleipaiameaa
