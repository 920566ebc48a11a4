/- FrameSpoils: the walk of the law at a frame in memory. Conditions: where its lists lie. -/
import Derived.Test.YtmhpdmpihmahdaaFraBk
import Derived.Test.YtmhpdmpihmahdaaSpo
namespace Go.Proofs.Ytmhpdmpihmahdaa
open Go.RowKit
set_option maxRecDepth 100000

theorem at_in (a : Int) (n : Nat) (h1 : 0 < n) (hn : n ≤ 100000) : ∃ t : Nat, t < n ∧ wrap64 ((IntKind.u64.wrap a).tmod ((n : Nat) : Int)) = (t : Int) := by
  have e : IntKind.u64.wrap a = a % 18446744073709551616 := by simp [IntKind.wrap, IntKind.bits, IntKind.signed]
  rw [e]
  have h0 : 0 ≤ a % 18446744073709551616 := Int.emod_nonneg _ (by decide)
  generalize a % 18446744073709551616 = b at *
  rw [Int.tmod_eq_emod_of_nonneg h0]
  have h1 : 0 ≤ b % (n : Int) := Int.emod_nonneg _ (by omega)
  have h2 : b % (n : Int) < n := Int.emod_lt_of_pos _ (by omega)
  generalize b % (n : Int) = d at *
  refine ⟨d.toNat, by omega, ?_⟩
  rw [IntWalk.wrap64_in d ⟨by omega, by omega⟩]
  omega
theorem spoil_text : overT 40 (-1) (wrongT (some (6, -1))) = [52, 48, 64, 45, 49, 62, 54, 64, 45, 49] := by kernel_rfl
theorem xor_other {x y : Nat} (hy : y ≠ 0) : x ^^^ y ≠ x := fun h => by
  have : x ^^^ (x ^^^ y) = x ^^^ x := by rw [h]
  rw [← Nat.xor_assoc, Nat.xor_self, Nat.zero_xor] at this
  exact hy this
theorem not_sealed {S p : List UInt8} {t y : Nat} (hS : S = CrcP.seal4 p) (ht : t < S.length) (hy : y ≠ 0) (hy2 : y < 256) : ¬ isSealed (S.set t (UInt8.ofNat (S[t].toNat ^^^ y))) := by
  rintro ⟨q, hq⟩
  have h1 := CrcP.seal_spoil_at ht hS hq
  have hx : S[t].toNat < 256 := S[t].toNat_lt
  have hxy : S[t].toNat ^^^ y < 256 := Nat.xor_lt_two_pow (n := 8) hx hy2
  have h2 := congrArg UInt8.toNat h1
  rw [UInt8.toNat_ofNat', Nat.mod_eq_of_lt hxy] at h2
  exact xor_other hy h2.symm

/-- Behind the store of another byte. -/
theorem spoilt {w : World} {B g n cap t y : Nat} {S : List UInt8} (h : Row w B 5 (some g) (.slice (some ⟨g, 0, none⟩) n cap) S) (hn : S.length = n) (ht : t < S.length) (hy : y < 256) :
    w.cell? ⟨g, t, none⟩ = some (.int .u8 (S[t].toNat : Nat)) ∧ w.frozen? ⟨g, t, none⟩ = false ∧ Bytes (w.setCell ⟨g, t, none⟩ (.int .u8 ((S[t].toNat ^^^ y : Nat) : Int))) (w.setCell ⟨g, t, none⟩ (.int .u8 ((S[t].toNat ^^^ y : Nat) : Int))).heap.size (some ⟨g, 0, none⟩) (S.set t (UInt8.ofNat (S[t].toNat ^^^ y))) := by
  subst hn
  have ho := h.2
  have hcell := ho.cellAt t (by omega)
  rw [show (bytesV S)[t]? = some (.int .u8 (S[t].toNat : Nat)) from by simp [bytesV, ht]] at hcell
  refine ⟨hcell, ho.frozenAt t, ?_⟩
  have hs := (ho.stored t (.int .u8 ((S[t].toNat ^^^ y : Nat) : Int))).1
  have hx : S[t].toNat < 256 := S[t].toNat_lt
  have hxy : S[t].toNat ^^^ y < 256 := Nat.xor_lt_two_pow (n := 8) hx hy
  have e : (bytesV S).set t (.int .u8 ((S[t].toNat ^^^ y : Nat) : Int)) = bytesV (S.set t (UInt8.ofNat (S[t].toNat ^^^ y))) := by
    unfold bytesV
    rw [List.map_set, UInt8.toNat_ofNat', Nat.mod_eq_of_lt hxy]
  rw [e] at hs
  obtain ⟨A, c, e2, _, _, h4, _⟩ := own_bytes hs
  injection e2 with e3 _ _
  rw [e3]
  exact h4

set_option maxHeartbeats 1000000 in
theorem spoils_law (x : FrameC) (at_ : Int) (y : Nat) (hy : y < 256) (w : World) (h : FrameIn w x) : Calls Try.prog 8 #[x.value, .int .i64 at_, .int .u8 (y : Nat)] w (AwakePost w) := by
  have HA := Lib.hid (fun W => awake_any W)
  have HB0 := Lib.hid (boxF_below w x)
  have HFr0 := Lib.hid h
  have HFr := Lib.hid (h.below (boxF_below w x))
  have hW : Hid (boxF w x = w.alloc _) := Lib.hid rfl
  have HBOX := Lib.hid (fun wr hb => box9 (w := w) (wr := wr) (x := x) hb)
  have hty := h.typed
  by_cases h1 : 300 < x.mn
  · clear h hty
    obtain ⟨sender, round, members, MA, mn, mcap, msgs, kind, key, val, old, RA, rn, rcap, recs⟩ := x
    rw [show (boxF w ⟨sender, round, members, MA, mn, mcap, msgs, kind, key, val, old, RA, rn, rcap, recs⟩) = _ from hW.out] at HB0 HFr HBOX
    simp only at h1
    have q1 : decide ((300 : Int) < mn) = true := decide_eq_true (by omega)
    clear h1
    simp only [FrameC.value]
    clear hW HFr HFr0
    go_enter Try.func8, Try.ntmps8
    go_wp2_with fail
    refine (HA.out _).mono ?_
    rintro e w1 ⟨rfl, hb1⟩
    obtain ⟨b0, b1, b2, b3, b4, b5, b6, b7, b8⟩ := HBOX.out w1 hb1
    simp only at b0 b1 b2 b3 b4 b5 b6 b7 b8
    have Hb1 := Lib.hid hb1
    clear hb1 HA
    go_wp2_with fail
    go_ret
    exact ⟨rfl, HB0.out.trans (Hb1.out.mono (by simp))⟩
  · by_cases h2 : 300 < x.rn
    · clear h hty
      obtain ⟨sender, round, members, MA, mn, mcap, msgs, kind, key, val, old, RA, rn, rcap, recs⟩ := x
      rw [show (boxF w ⟨sender, round, members, MA, mn, mcap, msgs, kind, key, val, old, RA, rn, rcap, recs⟩) = _ from hW.out] at HB0 HFr HBOX
      simp only at h1 h2
      have q1 : decide ((300 : Int) < mn) = false := decide_eq_false (by omega)
      have q2 : decide ((300 : Int) < rn) = true := decide_eq_true (by omega)
      clear h1 h2
      simp only [FrameC.value]
      clear hW HFr HFr0
      go_enter Try.func8, Try.ntmps8
      go_wp2_with fail
      refine (HA.out _).mono ?_
      rintro e w1 ⟨rfl, hb1⟩
      obtain ⟨b0, b1, b2, b3, b4, b5, b6, b7, b8⟩ := HBOX.out w1 hb1
      simp only at b0 b1 b2 b3 b4 b5 b6 b7 b8
      have Hb1 := Lib.hid hb1
      clear hb1 HA
      go_wp2_with fail
      go_ret
      exact ⟨rfl, HB0.out.trans (Hb1.out.mono (by simp))⟩
    · by_cases h3 : y = 0
      · clear h hty
        obtain ⟨sender, round, members, MA, mn, mcap, msgs, kind, key, val, old, RA, rn, rcap, recs⟩ := x
        rw [show (boxF w ⟨sender, round, members, MA, mn, mcap, msgs, kind, key, val, old, RA, rn, rcap, recs⟩) = _ from hW.out] at HB0 HFr HBOX
        simp only at h1 h2
        have q1 : decide ((300 : Int) < mn) = false := decide_eq_false (by omega)
        have q2 : decide ((300 : Int) < rn) = false := decide_eq_false (by omega)
        have q3 : ((y : Int) == 0) = true := by rw [h3]; rfl
        clear h1 h2 h3
        simp only [FrameC.value]
        clear hW HFr HFr0
        go_enter Try.func8, Try.ntmps8
        go_wp2_with fail
        refine (HA.out _).mono ?_
        rintro e w1 ⟨rfl, hb1⟩
        obtain ⟨b0, b1, b2, b3, b4, b5, b6, b7, b8⟩ := HBOX.out w1 hb1
        simp only at b0 b1 b2 b3 b4 b5 b6 b7 b8
        have Hb1 := Lib.hid hb1
        clear hb1 HA
        go_wp2_with fail
        go_ret
        exact ⟨rfl, HB0.out.trans (Hb1.out.mono (by simp))⟩
      · have q3 : ((y : Int) == 0) = false := by rw [beq_eq_false_iff_ne]; omega
        have HCp : Hid (∀ W, FrameIn W x → Calls Try.prog 11 #[x.value] W (CopiedPost x.plain W)) := Lib.hid fun W hW => copied_any x W hW (by omega) (by omega)
        cases hc : FrameP.chk x.plain with
        | some c =>
          have HE : Hid (∀ y W, FrameIn W y → y.plain = x.plain → Calls Try.prog 12 #[y.value] W (EncBad c W)) := Lib.hid fun y W hW hy => encode_bad y W hW c (by rw [hy]; exact hc)
          clear h hc hty
          obtain ⟨sender, round, members, MA, mn, mcap, msgs, kind, key, val, old, RA, rn, rcap, recs⟩ := x
          rw [show (boxF w ⟨sender, round, members, MA, mn, mcap, msgs, kind, key, val, old, RA, rn, rcap, recs⟩) = _ from hW.out] at HB0 HFr HBOX
          simp only at h1 h2
          have q1 : decide ((300 : Int) < mn) = false := decide_eq_false (by omega)
          have q2 : decide ((300 : Int) < rn) = false := decide_eq_false (by omega)
          clear h1 h2 h3
          simp only [FrameC.value] at HCp ⊢
          clear hW HFr0
          go_enter Try.func8, Try.ntmps8
          go_wp2_with fail
          refine (HA.out _).mono ?_
          rintro e w1 ⟨rfl, hb1⟩
          obtain ⟨b0, b1, b2, b3, b4, b5, b6, b7, b8⟩ := HBOX.out w1 hb1
          simp only at b0 b1 b2 b3 b4 b5 b6 b7 b8
          have Hb1 := Lib.hid hb1
          clear hb1 HA
          go_wp2_with fail
          refine (HCp.out _ (HFr.out.below Hb1.out)).mono ?_
          rintro e w2 ⟨v2, rfl, ⟨x2, rfl, hx2, hp2⟩, hb2⟩
          have Hx2 := Lib.hid hx2
          have Hp2 := Lib.hid hp2
          have Hb2 := Lib.hid (Hb1.out.trans (hb2.mono Hb1.out.size))
          clear hx2 hp2 hb2 HCp
          go_wp2_with fail
          refine (HE.out x2 _ Hx2.out Hp2.out).mono ?_
          rintro e w3 ⟨b, rfl, -, hb3⟩
          have Hb3 := Lib.hid (Hb2.out.trans (hb3.mono Hb2.out.size))
          clear hb3
          go_wp2_with fail
          go_ret
          exact ⟨rfl, HB0.out.trans (Hb3.out.mono (by simp))⟩
        | none =>
          have HE : Hid (∀ y W, FrameIn W y → y.plain = x.plain → Calls Try.prog 12 #[y.value] W (EncGood x.plain W)) := Lib.hid fun y W hW hy => by rw [← hy]; exact encode_good y W hW (by rw [hy]; exact hc)
          obtain ⟨S, hS⟩ : ∃ S, S = CrcP.seal4 (FrameP.enc x.plain) := ⟨_, rfl⟩
          have hSl : 0 < S.length ∧ S.length ≤ 100000 := by rw [hS, seal4_len]; have := fit_len hty hc; omega
          have HS := Lib.hid hS
          obtain ⟨t, ht, hat⟩ := at_in at_ S.length hSl.1 hSl.2
          have hx2 : S[t].toNat < 256 := S[t].toNat_lt
          have hxor : bits .xor .u8 ((S[t].toNat : Nat) : Int) (y : Int) = ((S[t].toNat ^^^ y : Nat) : Int) := u8_xor_nat _ _ hx2 hy
          have HD : Hid (∀ c W, S.length ≤ c → ∀ g, Bytes W W.heap.size (some ⟨g, 0, none⟩) (S.set t (UInt8.ofNat (S[t].toNat ^^^ y))) → Calls Try.prog 18 #[.slice (some ⟨g, 0, none⟩) S.length c] W (DecBad [52, 48, 64, 45, 49, 62, 54, 64, 45, 49] W)) := Lib.hid fun c W hc2 g hby => by
            rw [← spoil_text]
            exact decode_unsealed _ _ S.length c (by simp) W (by omega) hc2 hby (not_sealed hS ht h3 hy)
          have HRow : Hid (∀ W B g n cap, Row W B 5 (some g) (.slice (some ⟨g, 0, none⟩) n cap) S → S.length = n → _) := Lib.hid fun W B g n cap hr hn => spoilt (w := W) (B := B) (g := g) (n := n) (cap := cap) (t := t) (y := y) hr hn ht hy
          have HSm := Lib.hid (fun W => same_any zeroC zeroC W (zero_in W) (zero_in W) rfl)
          unfold zeroC FrameC.value at HSm
          have Hat := Lib.hid hat
          have Hxor := Lib.hid hxor
          have hsl := hSl.2
          clear h hc hty hS hSl hat hxor
          generalize hP : x.plain = P at *
          clear hP
          obtain ⟨sender, round, members, MA, mn, mcap, msgs, kind, key, val, old, RA, rn, rcap, recs⟩ := x
          rw [show (boxF w ⟨sender, round, members, MA, mn, mcap, msgs, kind, key, val, old, RA, rn, rcap, recs⟩) = _ from hW.out] at HB0 HFr HBOX
          simp only at h1 h2
          have q1 : decide ((300 : Int) < mn) = false := decide_eq_false (by omega)
          have q2 : decide ((300 : Int) < rn) = false := decide_eq_false (by omega)
          clear h1 h2 h3
          simp only [FrameC.value] at HCp ⊢
          clear hW HFr0
          go_enter Try.func8, Try.ntmps8
          go_wp2_with fail
          refine (HA.out _).mono ?_
          rintro e w1 ⟨rfl, hb1⟩
          obtain ⟨b0, b1, b2, b3, b4, b5, b6, b7, b8⟩ := HBOX.out w1 hb1
          simp only at b0 b1 b2 b3 b4 b5 b6 b7 b8
          have Hb1 := Lib.hid hb1
          clear hb1 HA
          go_wp2_with fail
          refine (HCp.out _ (HFr.out.below Hb1.out)).mono ?_
          rintro e w2 ⟨v2, rfl, ⟨x2, rfl, hx2, hp2⟩, hb2⟩
          have Hx2 := Lib.hid hx2
          have Hp2 := Lib.hid hp2
          have Hb2 := Lib.hid (Hb1.out.trans (hb2.mono Hb1.out.size))
          clear hx2 hp2 hb2 HCp
          go_wp2_with fail
          refine (HE.out x2 _ Hx2.out Hp2.out).mono ?_
          rintro e w3 ⟨v, g, rfl, hr3, hb3⟩
          rw [← HS.out] at hr3
          have Hb3 := Lib.hid (Hb2.out.trans (hb3.mono Hb2.out.size))
          have hg : ∃ g0, g = some g0 := by
            obtain ⟨A3, c3, rfl, h4, h5, h6⟩ := hr3.bytes
            obtain ⟨b, o, e, _⟩ := h6 (by omega)
            exact ⟨b, by rw [← h5, e]; rfl⟩
          obtain ⟨g0, rfl⟩ := hg
          obtain ⟨c3, rfl, hc3, hgB, hgl⟩ := own_form hr3.2 hr3.1
          obtain ⟨kd, fd, hby3⟩ := HRow.out w3 _ g0 _ c3 hr3 rfl
          have HD3 := Lib.hid (HD.out c3 _ hc3 g0 hby3)
          have hat := Hat.out
          have hxor := Hxor.out
          generalize S[t].toNat = xv at *
          generalize S.length = sl at *
          have Hbs := Lib.hid (Hb3.out.setCell (p := ⟨g0, t, none⟩) (by have := Hb2.out.size; show _ ≤ g0; omega) (.int .u8 ((xv ^^^ y : Nat) : Int)))
          clear hr3 hb3 hby3 HD HE Hx2 Hp2 HRow HS hgB b0 b1 b2 b3 b4 b5 b6 b7 b8
          go_wp2_with fail
          clear hat hxor kd fd
          refine HD3.out.mono ?_
          rintro e w4 ⟨b4, rfl, hx4, hb4⟩
          have Hb4 := Lib.hid (Hbs.out.trans (hb4.mono Hbs.out.size))
          have HR4 : Hid (∀ o, Calls Try.prog 14 _ (w4.alloc o) _) := Lib.hid fun o => ErrTextK.read (by omega) (hx4.below ((Below.refl _ _).alloc (Nat.le_refl _) o))
          clear hx4 hb4 HD3
          unfold zeroC FrameC.value
          unfold strV at HR4
          go_wp2_with fail
          refine (HR4.out _).mono ?_
          rintro e w5 ⟨rfl, hb5⟩
          have kz := fun i => (hb5.cell (p := ⟨w4.heap.size, i, none⟩) (by simp))
          have Hb5 := Lib.hid ((Hb4.out.alloc Hb4.out.size _).trans (hb5.mono (by have := Hb4.out.size; simp at this ⊢; omega)))
          have k0 := (kz 0).trans (cell_at (heap_alloc_new w4 _) 0 rfl)
          have k1 := (kz 1).trans (cell_at (heap_alloc_new w4 _) 1 rfl)
          have k2 := (kz 2).trans (cell_at (heap_alloc_new w4 _) 2 rfl)
          have k3 := (kz 3).trans (cell_at (heap_alloc_new w4 _) 3 rfl)
          have k4 := (kz 4).trans (cell_at (heap_alloc_new w4 _) 4 rfl)
          have k5 := (kz 5).trans (cell_at (heap_alloc_new w4 _) 5 rfl)
          have k6 := (kz 6).trans (cell_at (heap_alloc_new w4 _) 6 rfl)
          have k7 := (kz 7).trans (cell_at (heap_alloc_new w4 _) 7 rfl)
          have k8 := (kz 8).trans (cell_at (heap_alloc_new w4 _) 8 rfl)
          clear hb5 kz
          go_wp2_with fail
          refine (HSm.out _).mono ?_
          rintro e w6 ⟨rfl, hb6⟩
          have Hb6 := Lib.hid (Hb5.out.trans (hb6.mono Hb5.out.size))
          clear hb6 k0 k1 k2 k3 k4 k5 k6 k7 k8
          go_wp2_with fail
          go_ret
          exact ⟨rfl, HB0.out.trans (Hb6.out.mono (by simp))⟩
end Go.Proofs.Ytmhpdmpihmahdaa
