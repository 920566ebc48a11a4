/- TableBack: the walk of the law at tables in memory. Conditions: where its lists lie. -/
import Derived.Test.YtgceleipaiameaaTbAw
import Derived.Test.YtgceleipaiameaaTbY
import Derived.Test.YtgceleipaiameaaTbO
namespace Go.Proofs.Ytgceleipaiameaa
open Go.RowKit
set_option maxRecDepth 100000

theorem enc_most {f : TableP.Cfg} (hc : TableP.chk f = none) : (CrcP.seal4 (TableP.enc f)).length ≤ 409 := by
  obtain ⟨_, h1, h2, h3⟩ := TableP.chk_fits hc
  rw [seal4_len, TableP.enc_length]
  omega

set_option maxHeartbeats 1000000 in
theorem back_law (x : CfgC) (w : World) (h : CfgIn w x) : Calls Try.prog 5 #[x.value] w (AwakePost w) := by
  have HA := Lib.hid (fun W => awake_any W)
  have HB0 := Lib.hid (boxC_below w x)
  have HFr0 := Lib.hid h
  have HFr := Lib.hid (h.below (boxC_below w x))
  have HBOX := Lib.hid (fun wr hb => box11 (w := w) (wr := wr) (x := x) (t := 26) hb)
  have HLg := Lib.hid (fun W => long_any x W)
  cases hlg : longB x with
  | true =>
    have HLg' : Hid (∀ W, Calls Try.prog 9 #[x.value] W (fun e w' => e = .returned (.bool true) ∧ Below W.heap.size W w')) := Lib.hid fun W => by have := HLg.out W; rwa [hlg] at this
    clear HLg hlg h
    have HLg := HLg'
    clear HLg'
    obtain ⟨nodes, faulty, slot, gap, rho, dmin, dmax, margin, PA, pn, pcap, parts, QA, qn, qcap, ports, RA, rn, rcap, routes⟩ := x
    simp only [boxC, cfgCells] at HB0 HFr HBOX
    simp only [CfgC.value] at HLg ⊢
    clear HFr0
    go_enter Try.func5, Try.ntmps5
    go_wp2_with fail
    refine (HA.out _).mono ?_
    rintro e w1 ⟨rfl, hb1⟩
    obtain ⟨b0, b1, b2, b3, b4, b5, b6, b7, b8, b9, b10⟩ := HBOX.out w1 hb1
    simp only at b0 b1 b2 b3 b4 b5 b6 b7 b8 b9 b10
    have Hb1 := Lib.hid hb1
    clear hb1 HA
    go_wp2_with fail
    refine (HLg.out _).mono ?_
    rintro e w2 ⟨rfl, hb2⟩
    have Hb2 := Lib.hid (Hb1.out.trans (hb2.mono Hb1.out.size))
    clear hb2 HLg b0 b1 b2 b3 b4 b5 b6 b7 b8 b9 b10
    go_wp2_with fail
    go_ret
    exact ⟨rfl, HB0.out.trans (Hb2.out.mono (by simp))⟩
  | false =>
    have HLg' : Hid (∀ W, Calls Try.prog 9 #[x.value] W (fun e w' => e = .returned (.bool false) ∧ Below W.heap.size W w')) := Lib.hid fun W => by have := HLg.out W; rwa [hlg] at this
    obtain ⟨hl1, hl2, hl3⟩ := longB_no hlg
    clear HLg hlg
    have HLg := HLg'
    clear HLg'
    have HCp : Hid (∀ W, CfgIn W x → Calls Try.prog 10 #[x.value] W (CopiedPost x.plain W)) := Lib.hid fun W hW => copied_any x W hW (by omega) (by omega) (by omega)
    cases hc : TableP.chk x.plain with
    | some c =>
      have HE : Hid (∀ y W, CfgIn W y → y.plain = x.plain → Calls Try.prog 11 #[y.value] W (EncBad c W)) := Lib.hid fun y W hW hy => encode_bad y W hW c (by rw [hy]; exact hc)
      clear h hc hl1 hl2 hl3
      obtain ⟨nodes, faulty, slot, gap, rho, dmin, dmax, margin, PA, pn, pcap, parts, QA, qn, qcap, ports, RA, rn, rcap, routes⟩ := x
      simp only [boxC, cfgCells] at HB0 HFr HBOX
      simp only [CfgC.value] at HLg HCp ⊢
      clear HFr0
      go_enter Try.func5, Try.ntmps5
      go_wp2_with fail
      refine (HA.out _).mono ?_
      rintro e w1 ⟨rfl, hb1⟩
      obtain ⟨b0, b1, b2, b3, b4, b5, b6, b7, b8, b9, b10⟩ := HBOX.out w1 hb1
      simp only at b0 b1 b2 b3 b4 b5 b6 b7 b8 b9 b10
      have Hb1 := Lib.hid hb1
      clear hb1 HA
      go_wp2_with fail
      refine (HLg.out _).mono ?_
      rintro e w2 ⟨rfl, hb2⟩
      have Hb2 := Lib.hid (Hb1.out.trans (hb2.mono Hb1.out.size))
      clear hb2 HLg b0 b1 b2 b3 b4 b5 b6 b7 b8 b9 b10
      obtain ⟨b0, b1, b2, b3, b4, b5, b6, b7, b8, b9, b10⟩ := HBOX.out w2 Hb2.out
      simp only at b0 b1 b2 b3 b4 b5 b6 b7 b8 b9 b10
      go_wp2_with fail
      refine (HCp.out _ (HFr.out.below Hb2.out)).mono ?_
      rintro e w3 ⟨v3, rfl, ⟨x3, rfl, hx3, hp3⟩, hb3⟩
      have Hx3 := Lib.hid hx3
      have Hp3 := Lib.hid hp3
      have Hb3 := Lib.hid (Hb2.out.trans (hb3.mono Hb2.out.size))
      clear hx3 hp3 hb3 HCp
      go_wp2_with fail
      refine (HE.out x3 _ Hx3.out Hp3.out).mono ?_
      rintro e w4 ⟨b, rfl, -, hb4⟩
      have Hb4 := Lib.hid (Hb3.out.trans (hb4.mono Hb3.out.size))
      clear hb4
      go_wp2_with fail
      go_ret
      exact ⟨rfl, HB0.out.trans (Hb4.out.mono (by simp))⟩
    | none =>
      have HE : Hid (∀ y W, CfgIn W y → y.plain = x.plain → Calls Try.prog 11 #[y.value] W (EncGood x.plain W)) := Lib.hid fun y W hW hy => by rw [← hy]; exact encode_good y W hW (by rw [hy]; exact hc)
      have HD : Hid (∀ A c W, (CrcP.seal4 (TableP.enc x.plain)).length ≤ c → Bytes W W.heap.size A (CrcP.seal4 (TableP.enc x.plain)) → Calls Try.prog 17 #[.slice A (CrcP.seal4 (TableP.enc x.plain)).length c] W (DecGood x.plain W)) := Lib.hid fun A c W hc2 hby => by
        have h9 := decode_sealed A _ _ c rfl W (by have := enc_most hc; omega) hc2 hby _ rfl
        rw [TableP.dec_enc hc] at h9
        exact h9
      have HSm : Hid (∀ y W, CfgIn W x → CfgIn W y → x.plain = y.plain → Calls Try.prog 16 #[x.value, y.value] W (fun e w' => e = .returned (.bool true) ∧ Below W.heap.size W w')) := Lib.hid fun y W h1 h2 h3 => same_any x y W h1 h2 h3
      clear h hc hl1 hl2 hl3
      generalize hP : x.plain = P at *
      clear hP
      obtain ⟨nodes, faulty, slot, gap, rho, dmin, dmax, margin, PA, pn, pcap, parts, QA, qn, qcap, ports, RA, rn, rcap, routes⟩ := x
      simp only [boxC, cfgCells] at HB0 HFr HBOX
      simp only [CfgC.value] at HLg HCp HSm ⊢
      clear HFr0
      go_enter Try.func5, Try.ntmps5
      go_wp2_with fail
      refine (HA.out _).mono ?_
      rintro e w1 ⟨rfl, hb1⟩
      obtain ⟨b0, b1, b2, b3, b4, b5, b6, b7, b8, b9, b10⟩ := HBOX.out w1 hb1
      simp only at b0 b1 b2 b3 b4 b5 b6 b7 b8 b9 b10
      have Hb1 := Lib.hid hb1
      clear hb1 HA
      go_wp2_with fail
      refine (HLg.out _).mono ?_
      rintro e w2 ⟨rfl, hb2⟩
      have Hb2 := Lib.hid (Hb1.out.trans (hb2.mono Hb1.out.size))
      clear hb2 HLg b0 b1 b2 b3 b4 b5 b6 b7 b8 b9 b10
      obtain ⟨b0, b1, b2, b3, b4, b5, b6, b7, b8, b9, b10⟩ := HBOX.out w2 Hb2.out
      simp only at b0 b1 b2 b3 b4 b5 b6 b7 b8 b9 b10
      go_wp2_with fail
      refine (HCp.out _ (HFr.out.below Hb2.out)).mono ?_
      rintro e w3 ⟨v3, rfl, ⟨x3, rfl, hx3, hp3⟩, hb3⟩
      have Hx3 := Lib.hid hx3
      have Hp3 := Lib.hid hp3
      have Hb3 := Lib.hid (Hb2.out.trans (hb3.mono Hb2.out.size))
      clear hx3 hp3 hb3 HCp
      go_wp2_with fail
      refine (HE.out x3 _ Hx3.out Hp3.out).mono ?_
      rintro e w4 ⟨v, g, rfl, hr4, hb4⟩
      have Hb4 := Lib.hid (Hb3.out.trans (hb4.mono Hb3.out.size))
      obtain ⟨A4, c4, rfl, hle4, -, hby4⟩ := hr4.bytes
      have HD4 := Lib.hid (HD.out A4 c4 w4 hle4 hby4)
      clear hr4 hb4 hle4 hby4 HD HE Hx3 Hp3 b0 b1 b2 b3 b4 b5 b6 b7 b8 b9 b10
      generalize (CrcP.seal4 (TableP.enc P)).length = sl at *
      go_wp2_with fail
      refine HD4.out.mono ?_
      rintro e w5 ⟨v5, rfl, ⟨x5, rfl, hx5, hp5⟩, hb5⟩
      have Hb5 := Lib.hid (Hb4.out.trans (hb5.mono Hb4.out.size))
      have Hx5 := Lib.hid hx5
      have Hp5 := Lib.hid hp5
      obtain ⟨b0, b1, b2, b3, b4, b5, b6, b7, b8, b9, b10⟩ := HBOX.out w5 Hb5.out
      simp only at b0 b1 b2 b3 b4 b5 b6 b7 b8 b9 b10
      have hz5 : w.heap.size < w5.heap.size := by have := Hb5.out.size; simp at this; omega
      clear hx5 hp5 hb5 HD4
      have HS5 : Hid (∀ o, Calls Try.prog 16 _ (w5.alloc o) _) := Lib.hid fun o => HSm.out x5 (w5.alloc o) (HFr.out.below (Hb5.out.alloc Hb5.out.size o)) (Hx5.out.below ((Below.refl _ _).alloc (Nat.le_refl _) o)) Hp5.out.symm
      obtain ⟨nodes5, faulty5, slot5, gap5, rho5, dmin5, dmax5, margin5, PA5, pn5, pcap5, parts5, QA5, qn5, qcap5, ports5, RA5, rn5, rcap5, routes5⟩ := x5
      simp only [CfgC.value] at HS5 ⊢
      clear HSm
      go_wp2_with fail
      refine (HS5.out _).mono ?_
      rintro e w6 ⟨rfl, hb6⟩
      have Hb6 := Lib.hid ((Hb5.out.alloc Hb5.out.size _).trans (hb6.mono (by have := Hb5.out.size; simp at this ⊢; omega)))
      clear hb6
      go_wp2_with fail
      go_ret
      exact ⟨rfl, HB0.out.trans (Hb6.out.mono (by simp))⟩
end Go.Proofs.Ytgceleipaiameaa
