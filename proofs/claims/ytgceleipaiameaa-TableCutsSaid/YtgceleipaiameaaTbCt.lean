/- TableCuts: the walk of the law at tables in memory. Conditions: where its lists lie. -/
import Derived.Test.YtgceleipaiameaaTbBk
import Derived.Test.YtgceleipaiameaaSpo
import Derived.Test.YtgceleipaiameaaFrk
import Derived.Test.YtgceleipaiameaaFrs
namespace Go.Proofs.Ytgceleipaiameaa
open Go.RowKit
set_option maxRecDepth 100000

theorem OutIn.empty (W : World) (N : Nat) (e : TypeId) (hN : N = W.heap.size) : OutIn W.heap.size e W [] (.slice (some ⟨N, 0, none⟩) 0 0) (W.alloc (.cells #[] e)) := by
  subst hN
  exact OutIn.first W #[] e [] 0 rfl rfl (by unfold maxLen; omega)
theorem at_in (a : Int) (n : Nat) (h1 : 0 < n) (hn : n ≤ 100000) : ∃ t : Nat, t < n ∧ wrap64 ((IntKind.u64.wrap a).tmod ((n : Nat) : Int)) = (t : Int) := by
  have e : IntKind.u64.wrap a = a % 18446744073709551616 := by simp [IntKind.wrap, IntKind.bits, IntKind.signed]
  rw [e]
  have h0 : 0 ≤ a % 18446744073709551616 := Int.emod_nonneg _ (by decide)
  generalize a % 18446744073709551616 = b at *
  rw [Int.tmod_eq_emod_of_nonneg h0]
  have h1 : 0 ≤ b % (n : Int) := Int.emod_nonneg _ (by omega)
  have h2 : b % (n : Int) < n := Int.emod_lt_of_pos _ (by omega)
  generalize b % (n : Int) = d at *
  refine ⟨d.toNat, by omega, ?_⟩
  rw [IntWalk.wrap64_in d ⟨by omega, by omega⟩]
  omega
theorem xor_other {x y : Nat} (hy : y ≠ 0) : x ^^^ y ≠ x := fun h => by
  have : x ^^^ (x ^^^ y) = x ^^^ x := by rw [h]
  rw [← Nat.xor_assoc, Nat.xor_self, Nat.zero_xor] at this
  exact hy this
theorem not_sealed {S p : List UInt8} {t y : Nat} (hS : S = CrcP.seal4 p) (ht : t < S.length) (hy : y ≠ 0) (hy2 : y < 256) : ¬ isSealed (S.set t (UInt8.ofNat (S[t].toNat ^^^ y))) := by
  rintro ⟨q, hq⟩
  have h1 := CrcP.seal_spoil_at ht hS hq
  have hx : S[t].toNat < 256 := S[t].toNat_lt
  have hxy : S[t].toNat ^^^ y < 256 := Nat.xor_lt_two_pow (n := 8) hx hy2
  have h2 := congrArg UInt8.toNat h1
  rw [UInt8.toNat_ofNat', Nat.mod_eq_of_lt hxy] at h2
  exact xor_other hy h2.symm

/-- Behind the store of another byte. -/
theorem spoilt {w : World} {B g n cap t y : Nat} {S : List UInt8} (h : Row w B 5 (some g) (.slice (some ⟨g, 0, none⟩) n cap) S) (hn : S.length = n) (ht : t < S.length) (hy : y < 256) :
    w.cell? ⟨g, t, none⟩ = some (.int .u8 (S[t].toNat : Nat)) ∧ w.frozen? ⟨g, t, none⟩ = false ∧ Bytes (w.setCell ⟨g, t, none⟩ (.int .u8 ((S[t].toNat ^^^ y : Nat) : Int))) (w.setCell ⟨g, t, none⟩ (.int .u8 ((S[t].toNat ^^^ y : Nat) : Int))).heap.size (some ⟨g, 0, none⟩) (S.set t (UInt8.ofNat (S[t].toNat ^^^ y))) := by
  subst hn
  have ho := h.2
  have hcell := ho.cellAt t (by omega)
  rw [show (bytesV S)[t]? = some (.int .u8 (S[t].toNat : Nat)) from by simp [bytesV, ht]] at hcell
  refine ⟨hcell, ho.frozenAt t, ?_⟩
  have hs := (ho.stored t (.int .u8 ((S[t].toNat ^^^ y : Nat) : Int))).1
  have hx : S[t].toNat < 256 := S[t].toNat_lt
  have hxy : S[t].toNat ^^^ y < 256 := Nat.xor_lt_two_pow (n := 8) hx hy
  have e : (bytesV S).set t (.int .u8 ((S[t].toNat ^^^ y : Nat) : Int)) = bytesV (S.set t (UInt8.ofNat (S[t].toNat ^^^ y))) := by
    unfold bytesV
    rw [List.map_set, UInt8.toNat_ofNat', Nat.mod_eq_of_lt hxy]
  rw [e] at hs
  obtain ⟨A, c, e2, _, _, h4, _⟩ := own_bytes hs
  injection e2 with e3 _ _
  rw [e3]
  exact h4


/-- What Decode answers, as far as the law asks: an error or none. -/
def DecAny (g : Bool) (w : World) (e : Ending) (w' : World) : Prop := ∃ (x : CfgC) (ev : Value), e = .returned (.tuple #[x.value, ev]) ∧ (g = true → ev = .nilIface) ∧ (g = false → ∃ b, ev = .iface 71 (.pointer (some ⟨b, 0, none⟩))) ∧ Below w.heap.size w w'
theorem DecGood.any {f : TableP.Cfg} {w w' : World} {e : Ending} (h : DecGood f w e w') : DecAny true w e w' := by
  obtain ⟨v, h1, ⟨x, rfl, _, _⟩, h3⟩ := h
  exact ⟨x, _, h1, fun _ => rfl, fun h => (Bool.noConfusion h), h3⟩
theorem DecBad.any {t : List UInt8} {w w' : World} {e : Ending} (h : DecBad t w e w') : DecAny false w e w' := by
  obtain ⟨b, h1, _, h3⟩ := h
  exact ⟨zeroCC, _, h1, fun h => (Bool.noConfusion h), fun _ => ⟨b, rfl⟩, h3⟩
theorem set_zero {S : List UInt8} {t : Nat} (ht : t < S.length) : S.set t (UInt8.ofNat (S[t].toNat ^^^ 0)) = S := by
  rw [Nat.xor_zero, UInt8.ofNat_toNat, List.set_getElem_self]

set_option maxHeartbeats 4000000 in
theorem cuts_law (x : CfgC) (at_ : Int) (Am : Option Addr) (lm : List UInt8) (m2 cm : Nat) (hlm : lm.length = m2) (y : Nat) (hy : y < 256) (w : World) (h : CfgIn w x) (hbm : Bytes w w.heap.size Am lm) : Calls Try.prog 7 #[x.value, .int .i64 at_, .slice Am m2 cm, .int .u8 (y : Nat)] w (AwakePost w) := by
  have HA := Lib.hid (fun W => awake_any W)
  have HB0 := Lib.hid (boxC_below w x)
  have HFr0 := Lib.hid h
  have HFr := Lib.hid (h.below (boxC_below w x))
  have HBOX := Lib.hid (fun wr hb => box11 (w := w) (wr := wr) (x := x) (t := 26) hb)
  have HLg := Lib.hid (fun W => long_any x W)
  cases hlg : longB x with
  | true =>
    have HLg' : Hid (∀ W, Calls Try.prog 9 #[x.value] W (fun e w' => e = .returned (.bool true) ∧ Below W.heap.size W w')) := Lib.hid fun W => by have := HLg.out W; rwa [hlg] at this
    clear HLg hlg h
    have HLg := HLg'
    clear HLg'
    obtain ⟨nodes, faulty, slot, gap, rho, dmin, dmax, margin, PA, pn, pcap, parts, QA, qn, qcap, ports, RA, rn, rcap, routes⟩ := x
    simp only [boxC, cfgCells] at HB0 HFr HBOX
    simp only [CfgC.value] at HLg ⊢
    clear HFr0
    go_enter Try.func7, Try.ntmps7
    go_wp2_with fail
    refine (HA.out _).mono ?_
    rintro e w1 ⟨rfl, hb1⟩
    obtain ⟨b0, b1, b2, b3, b4, b5, b6, b7, b8, b9, b10⟩ := HBOX.out w1 hb1
    simp only at b0 b1 b2 b3 b4 b5 b6 b7 b8 b9 b10
    have Hb1 := Lib.hid hb1
    clear hb1 HA
    go_wp2_with fail
    refine (HLg.out _).mono ?_
    rintro e w2 ⟨rfl, hb2⟩
    have Hb2 := Lib.hid (Hb1.out.trans (hb2.mono Hb1.out.size))
    clear hb2 HLg b0 b1 b2 b3 b4 b5 b6 b7 b8 b9 b10
    go_wp2_with fail
    go_ret
    exact ⟨rfl, HB0.out.trans (Hb2.out.mono (by simp))⟩
  | false =>
    have HLg' : Hid (∀ W, Calls Try.prog 9 #[x.value] W (fun e w' => e = .returned (.bool false) ∧ Below W.heap.size W w')) := Lib.hid fun W => by have := HLg.out W; rwa [hlg] at this
    obtain ⟨hl1, hl2, hl3⟩ := longB_no hlg
    clear HLg hlg
    have HLg := HLg'
    clear HLg'
    have HCp : Hid (∀ W, CfgIn W x → Calls Try.prog 10 #[x.value] W (CopiedPost x.plain W)) := Lib.hid fun W hW => copied_any x W hW (by omega) (by omega) (by omega)
    by_cases h3 : 1000 < m2
    · have q3 : decide ((1000 : Int) < m2) = true := decide_eq_true (by omega)
      clear h h3 hl1 hl2 hl3 HCp
      obtain ⟨nodes, faulty, slot, gap, rho, dmin, dmax, margin, PA, pn, pcap, parts, QA, qn, qcap, ports, RA, rn, rcap, routes⟩ := x
      simp only [boxC, cfgCells] at HB0 HFr HBOX
      simp only [CfgC.value] at HLg ⊢
      clear HFr0
      go_enter Try.func7, Try.ntmps7
      go_wp2_with fail
      refine (HA.out _).mono ?_
      rintro e w1 ⟨rfl, hb1⟩
      obtain ⟨b0, b1, b2, b3, b4, b5, b6, b7, b8, b9, b10⟩ := HBOX.out w1 hb1
      simp only at b0 b1 b2 b3 b4 b5 b6 b7 b8 b9 b10
      have Hb1 := Lib.hid hb1
      clear hb1 HA
      go_wp2_with fail
      refine (HLg.out _).mono ?_
      rintro e w2 ⟨rfl, hb2⟩
      have Hb2 := Lib.hid (Hb1.out.trans (hb2.mono Hb1.out.size))
      clear hb2 HLg b0 b1 b2 b3 b4 b5 b6 b7 b8 b9 b10
      go_wp2_with fail
      go_ret
      exact ⟨rfl, HB0.out.trans (Hb2.out.mono (by simp))⟩
    have q3 : decide ((1000 : Int) < m2) = false := decide_eq_false (by omega)
    cases hc : TableP.chk x.plain with
    | some c =>
      have HE : Hid (∀ y W, CfgIn W y → y.plain = x.plain → Calls Try.prog 11 #[y.value] W (EncBad c W)) := Lib.hid fun y W hW hy => encode_bad y W hW c (by rw [hy]; exact hc)
      clear h hc hl1 hl2 hl3 h3
      obtain ⟨nodes, faulty, slot, gap, rho, dmin, dmax, margin, PA, pn, pcap, parts, QA, qn, qcap, ports, RA, rn, rcap, routes⟩ := x
      simp only [boxC, cfgCells] at HB0 HFr HBOX
      simp only [CfgC.value] at HLg HCp ⊢
      clear HFr0
      go_enter Try.func7, Try.ntmps7
      go_wp2_with fail
      refine (HA.out _).mono ?_
      rintro e w1 ⟨rfl, hb1⟩
      obtain ⟨b0, b1, b2, b3, b4, b5, b6, b7, b8, b9, b10⟩ := HBOX.out w1 hb1
      simp only at b0 b1 b2 b3 b4 b5 b6 b7 b8 b9 b10
      have Hb1 := Lib.hid hb1
      clear hb1 HA
      go_wp2_with fail
      refine (HLg.out _).mono ?_
      rintro e w2 ⟨rfl, hb2⟩
      have Hb2 := Lib.hid (Hb1.out.trans (hb2.mono Hb1.out.size))
      clear hb2 HLg b0 b1 b2 b3 b4 b5 b6 b7 b8 b9 b10
      obtain ⟨b0, b1, b2, b3, b4, b5, b6, b7, b8, b9, b10⟩ := HBOX.out w2 Hb2.out
      simp only at b0 b1 b2 b3 b4 b5 b6 b7 b8 b9 b10
      go_wp2_with fail
      refine (HCp.out _ (HFr.out.below Hb2.out)).mono ?_
      rintro e w3 ⟨v3, rfl, ⟨x3, rfl, hx3, hp3⟩, hb3⟩
      have Hx3 := Lib.hid hx3
      have Hp3 := Lib.hid hp3
      have Hb3 := Lib.hid (Hb2.out.trans (hb3.mono Hb2.out.size))
      clear hx3 hp3 hb3 HCp
      go_wp2_with fail
      refine (HE.out x3 _ Hx3.out Hp3.out).mono ?_
      rintro e w4 ⟨b, rfl, -, hb4⟩
      have Hb4 := Lib.hid (Hb3.out.trans (hb4.mono Hb3.out.size))
      clear hb4
      go_wp2_with fail
      go_ret
      exact ⟨rfl, HB0.out.trans (Hb4.out.mono (by simp))⟩
    | none =>
      have HE : Hid (∀ y W, CfgIn W y → y.plain = x.plain → Calls Try.prog 11 #[y.value] W (EncGood x.plain W)) := Lib.hid fun y W hW hy => by rw [← hy]; exact encode_good y W hW (by rw [hy]; exact hc)
      obtain ⟨E, hE⟩ : ∃ E, E = TableP.enc x.plain := ⟨_, rfl⟩
      obtain ⟨el, hel⟩ : ∃ el, el = E.length := ⟨_, rfl⟩
      have hfit := (TableP.chk_fits hc).1
      have hEl : 33 ≤ el ∧ el ≤ 405 := by
        have h8 := enc_most hc
        have h9 := TableP.enc_length x.plain
        rw [seal4_len] at h8
        rw [hel, hE]
        omega
      obtain ⟨t, ht, hat⟩ := at_in at_ el (by omega) (by omega)
      have HE2 := Lib.hid hE
      have Hel := Lib.hid hel
      have HDs : Hid (∀ A c W, (CrcP.seal4 (E.take t)).length ≤ c → Bytes W W.heap.size A (CrcP.seal4 (E.take t)) → Calls Try.prog 17 #[.slice A (CrcP.seal4 (E.take t)).length c] W (DecAny false W)) := Lib.hid fun A c W hc2 hby => by
        have h9 := decode_sealed A _ _ c rfl W (by rw [seal4_len, List.length_take]; omega) hc2 hby _ rfl
        obtain ⟨e9, he9⟩ := TableP.dec_cut hfit (n := t) (by rw [← hE, ← hel]; exact ht)
        rw [← hE] at he9
        rw [he9] at h9
        exact h9.mono fun e w' h => DecBad.any h
      have HDl : Hid (∀ A c W, (CrcP.seal4 (E ++ lm)).length ≤ c → Bytes W W.heap.size A (CrcP.seal4 (E ++ lm)) → Calls Try.prog 17 #[.slice A (CrcP.seal4 (E ++ lm)).length c] W (DecAny (decide (m2 = 0)) W)) := Lib.hid fun A c W hc2 hby => by
        have h9 := decode_sealed A _ _ c rfl W (by rw [seal4_len, List.length_append]; omega) hc2 hby _ rfl
        by_cases hm0 : m2 = 0
        · obtain rfl := List.eq_nil_of_length_eq_zero (hlm.trans hm0)
          rw [decide_eq_true hm0]
          rw [List.append_nil] at h9 ⊢
          rw [hE, TableP.dec_enc hc] at h9
          rw [hE]
          exact h9.mono fun e w' h => DecGood.any h
        · obtain ⟨e9, he9⟩ := TableP.dec_more hfit lm (fun e => hm0 (by rw [← hlm, e]; rfl))
          rw [← hE] at he9
          rw [he9] at h9
          rw [decide_eq_false hm0]
          exact h9.mono fun e w' h => DecBad.any h
      obtain ⟨S, hS⟩ : ∃ S, S = CrcP.seal4 E := ⟨_, rfl⟩
      have hSl : S.length = el + 4 := by rw [hS, seal4_len, hel]
      have htS : t < S.length := by omega
      have hx2 : S[t].toNat < 256 := S[t].toNat_lt
      have hxor : bits .xor .u8 ((S[t].toNat : Nat) : Int) (y : Int) = ((S[t].toNat ^^^ y : Nat) : Int) := u8_xor_nat _ _ hx2 hy
      have HDo : Hid (∀ c W, el + 4 ≤ c → ∀ g, Bytes W W.heap.size (some ⟨g, 0, none⟩) (S.set t (UInt8.ofNat (S[t].toNat ^^^ y))) → Calls Try.prog 17 #[.slice (some ⟨g, 0, none⟩) (el + 4) c] W (DecAny (decide (y = 0)) W)) := Lib.hid fun c W hc2 g hby => by
        by_cases hy0 : y = 0
        · rw [decide_eq_true hy0]
          subst hy0
          rw [set_zero htS] at hby
          have h9 := decode_sealed _ S (el + 4) c hSl W (by omega) hc2 hby _ hS
          rw [hE, TableP.dec_enc hc] at h9
          exact h9.mono fun e w' h => DecGood.any h
        · rw [decide_eq_false hy0]
          exact (decode_unsealed _ _ (el + 4) c (by simpa using hSl) W (by omega) hc2 hby (not_sealed hS htS hy0 hy)).mono fun e w' h => DecBad.any h
      have HRow : Hid (∀ W B g n cap, Row W B 5 (some g) (.slice (some ⟨g, 0, none⟩) n cap) S → S.length = n → _) := Lib.hid fun W B g n cap hr hn => spoilt (w := W) (B := B) (g := g) (n := n) (cap := cap) (t := t) (y := y) hr hn htS hy
      have HSE := Lib.hid hS
      have HSl := Lib.hid hSl
      have Hxor := Lib.hid hxor
      have Hat := Lib.hid hat
      have Hlm := Lib.hid hlm
      have Hbm := Lib.hid hbm
      clear h hc hE hel hat hfit hlm hbm hl1 hl2 hl3 hS hSl hxor
      generalize hP : x.plain = P at *
      clear hP
      obtain ⟨nodes, faulty, slot, gap, rho, dmin, dmax, margin, PA, pn, pcap, parts, QA, qn, qcap, ports, RA, rn, rcap, routes⟩ := x
      simp only [boxC, cfgCells] at HB0 HFr HBOX
      simp only [CfgC.value] at HLg HCp ⊢
      clear HFr0
      go_enter Try.func7, Try.ntmps7
      go_wp2_with fail
      refine (HA.out _).mono ?_
      rintro e w1 ⟨rfl, hb1⟩
      obtain ⟨b0, b1, b2, b3, b4, b5, b6, b7, b8, b9, b10⟩ := HBOX.out w1 hb1
      simp only at b0 b1 b2 b3 b4 b5 b6 b7 b8 b9 b10
      have Hb1 := Lib.hid hb1
      clear hb1 HA
      go_wp2_with fail
      refine (HLg.out _).mono ?_
      rintro e w2 ⟨rfl, hb2⟩
      have Hb2 := Lib.hid (Hb1.out.trans (hb2.mono Hb1.out.size))
      clear hb2 HLg b0 b1 b2 b3 b4 b5 b6 b7 b8 b9 b10
      obtain ⟨b0, b1, b2, b3, b4, b5, b6, b7, b8, b9, b10⟩ := HBOX.out w2 Hb2.out
      simp only at b0 b1 b2 b3 b4 b5 b6 b7 b8 b9 b10
      go_wp2_with fail
      refine (HCp.out _ (HFr.out.below Hb2.out)).mono ?_
      rintro e w3 ⟨v3, rfl, ⟨x3, rfl, hx3, hp3⟩, hb3⟩
      have Hx3 := Lib.hid hx3
      have Hp3 := Lib.hid hp3
      have Hb3 := Lib.hid (Hb2.out.trans (hb3.mono Hb2.out.size))
      clear hx3 hp3 hb3 HCp
      go_wp2_with fail
      refine (HE.out x3 _ Hx3.out Hp3.out).mono ?_
      rintro e w4 ⟨v, g, rfl, hr4, hb4⟩
      rw [← HE2.out, ← HSE.out] at hr4
      have Hb4 := Lib.hid (Hb3.out.trans (hb4.mono Hb3.out.size))
      obtain ⟨A4, c4, rfl, hle4, -, hby4⟩ := hr4.bytes
      rw [HSl.out] at hle4 ⊢
      have HbS := Lib.hid hby4
      have HbE : Hid (Bytes w4 w4.heap.size A4 E) := Lib.hid (by
        have h9 := hby4.take el
        rw [HSE.out, CrcP.seal4, List.take_left' Hel.out.symm] at h9
        exact h9)
      have hs1 := fun W => run_slice_to (P := Try.prog) W 30 5 Try.underlying30 (fun w => by kernel_rfl) A4 (el + 4) c4 (el : Int) (by omega) (by omega)
      have hs2 := fun W => run_slice_to (P := Try.prog) W 30 5 Try.underlying30 (fun w => by kernel_rfl) A4 el c4 (t : Int) (by omega) (by omega)
      simp only [Int.toNat_natCast] at hs1 hs2
      have HSt := Lib.hid (seal_any A4 (E.take t) t c4 (by rw [List.length_take, ← Hel.out]; omega) w4 (by omega) (HbE.out.take t))
      have hat := Hat.out
      clear hr4 hb4 hby4 HE Hx3 Hp3 HBOX HFr b0 b1 b2 b3 b4 b5 b6 b7 b8 b9 b10
      go_wp2_with fail
      clear hat hs1 hs2
      refine HSt.out.mono ?_
      rintro e w5 hs5
      obtain ⟨v5, g5, rfl, hr5, hb5⟩ := hs5.row
      obtain ⟨A5, c5, rfl, hle5, -, hby5⟩ := hr5.bytes
      have HD5 := Lib.hid (HDs.out A5 c5 w5 hle5 hby5)
      have Hb5 := Lib.hid hb5
      clear hs5 hr5 hb5 hle5 hby5 HDs HSt
      go_wp2_with fail
      refine HD5.out.mono ?_
      rintro e w6 ⟨x6, ev6, rfl, -, hev6, hb6⟩
      obtain ⟨b6, rfl⟩ := hev6 rfl
      have Hb6 := Lib.hid (Hb5.out.trans (hb6.mono Hb5.out.size))
      obtain ⟨nodes6, faulty6, slot6, gap6, rho6, dmin6, dmax6, margin6, PA6, pn6, pcap6, parts6, QA6, qn6, qcap6, ports6, RA6, rn6, rcap6, routes6⟩ := x6
      simp only [CfgC.value]
      have HbE6 : Hid (∀ W, Below w6.heap.size w6 W → Bytes W W.heap.size A4 E) := Lib.hid fun W hW => by
        have h9 := Hb6.out.trans (hW.mono Hb6.out.size)
        exact (HbE.out.below h9 (Nat.le_refl _)).more h9.size
      have HbS6 : Hid (∀ W, Below w6.heap.size w6 W → Bytes W W.heap.size A4 S) := Lib.hid fun W hW => by
        have h9 := Hb6.out.trans (hW.mono Hb6.out.size)
        exact (HbS.out.below h9 (Nat.le_refl _)).more h9.size
      have Hbm6 : Hid (∀ W, Below w6.heap.size w6 W → Bytes W W.heap.size Am lm) := Lib.hid fun W hW => by
        have h9 : Below w.heap.size w W := (HB0.out.trans (Hb4.out.mono (by simp))).trans ((Hb6.out.trans (hW.mono Hb6.out.size)).mono (by have := Hb4.out.size; simp at this; omega))
        exact (Hbm.out.below h9 (Nat.le_refl _)).more h9.size
      have HO0 : Hid (∀ o, OutIn (w6.heap.size + 1) 5 (w6.alloc o) [] (.slice (some ⟨w6.heap.size + 1, 0, none⟩) 0 0) ((w6.alloc o).alloc (.cells #[] 5))) := Lib.hid fun o => by
        have h9 := OutIn.empty (w6.alloc o) (w6.heap.size + 1) 5 (by simp)
        simpa using h9
      have HZ : Hid (∀ o l v W, OutIn (w6.heap.size + 1) 5 (w6.alloc o) l v W → Below w6.heap.size w6 W) := Lib.hid fun o l v W ho => ((Below.refl _ _).alloc (Nat.le_refl _) _).trans (ho.of.mono (by omega))
      have Hz0 := Lib.hid (show ∀ o, w6.heap.size + 1 ≤ (w6.alloc o).heap.size from fun o => by simp)
      clear hb6 hev6 HD5 HbE HbS Hbm
      go_wp2_with (first
      | (at_builtin
         refine wpList_append_o rfl (.tmp 58) (.tmp 59) _ rfl (w6.heap.size + 1) 5 (.int .u8 0) _ (Hz0.out _) Try.underlying30 infoB rfl _ [] rfl (HO0.out _) _ A4 el c4 E rfl Hel.out.symm (HbE6.out _ (((Below.refl w6.heap.size w6).alloc (Nat.le_refl _) _).alloc (by simp) _)) (by simp; omega) ?_
         intro v7 w7 ho7
         have HO7 := Lib.hid ho7
         clear ho7)
      | (at_builtin
         refine wpList_append_o rfl (.tmp 60) (.tmp 61) _ rfl (w6.heap.size + 1) 5 (.int .u8 0) _ (Hz0.out _) Try.underlying30 infoB rfl _ _ rfl HO7.out _ Am m2 cm lm rfl Hlm.out (Hbm6.out _ (HZ.out _ _ _ _ HO7.out)) (by rw [List.nil_append, ← Hel.out]; omega) ?_
         intro v8 w8 ho8
         have Hb8 := Lib.hid (HZ.out _ _ _ _ ho8)
         obtain ⟨g8, hr8, -⟩ := ho8
         rw [List.nil_append] at hr8
         obtain ⟨A8, c8, rfl, hle8, -, hby8⟩ := hr8.bytes
         have HS8 := Lib.hid (seal_any A8 (E ++ lm) _ c8 rfl w8 (by rw [List.length_append, ← Hel.out, Hlm.out]; omega) hby8)
         clear hr8 hle8 hby8
         generalize (E ++ lm).length = L8 at HS8 ⊢)
      | fail)
      refine HS8.out.mono ?_
      rintro e w9 hs9
      obtain ⟨v9, g9, rfl, hr9, hb9⟩ := hs9.row
      obtain ⟨A9, c9, rfl, hle9, -, hby9⟩ := hr9.bytes
      have HD9 := Lib.hid (HDl.out A9 c9 w9 hle9 hby9)
      have Hb69 := Lib.hid (Hb8.out.trans (hb9.mono Hb8.out.size))
      clear hs9 hr9 hb9 hle9 hby9 HDl HS8 HO0 HO7 HZ Hz0 Hb8 HbE6 Hbm6 Hlm
      generalize (CrcP.seal4 (E ++ lm)).length = sl9 at *
      go_wp2_with fail
      refine HD9.out.mono ?_
      rintro e w10 ⟨x10, ev10, rfl, hev1, hev2, hb10⟩
      have Hb610 := Lib.hid (Hb69.out.trans (hb10.mono Hb69.out.size))
      have Hev1 := Lib.hid hev1
      have Hev2 := Lib.hid hev2
      obtain ⟨nodes10, faulty10, slot10, gap10, rho10, dmin10, dmax10, margin10, PA10, pn10, pcap10, parts10, QA10, qn10, qcap10, ports10, RA10, rn10, rcap10, routes10⟩ := x10
      simp only [CfgC.value]
      have HbSa : Hid (∀ W, Below w10.heap.size w10 W → Bytes W W.heap.size A4 S) := Lib.hid fun W hW => HbS6.out W (Hb610.out.trans (hW.mono Hb610.out.size))
      have HO0 : Hid (∀ o, OutIn (w10.heap.size + 1) 5 (w10.alloc o) [] (.slice (some ⟨w10.heap.size + 1, 0, none⟩) 0 0) ((w10.alloc o).alloc (.cells #[] 5))) := Lib.hid fun o => by
        have h9 := OutIn.empty (w10.alloc o) (w10.heap.size + 1) 5 (by simp)
        simpa using h9
      have HZ : Hid (∀ o l v W, OutIn (w10.heap.size + 1) 5 (w10.alloc o) l v W → Below w10.heap.size w10 W) := Lib.hid fun o l v W ho => ((Below.refl _ _).alloc (Nat.le_refl _) _).trans (ho.of.mono (by omega))
      have Hz0 := Lib.hid (show ∀ o, w10.heap.size + 1 ≤ (w10.alloc o).heap.size from fun o => by simp)
      clear hb10 hev1 hev2 HD9 HbS6
      go_wp2_with (first
      | (at_builtin
         refine wpList_append_o rfl (.tmp 67) (.tmp 68) _ rfl (w10.heap.size + 1) 5 (.int .u8 0) _ (Hz0.out _) Try.underlying30 infoB rfl _ [] rfl (HO0.out _) _ A4 (el + 4) c4 S rfl HSl.out (HbSa.out _ (((Below.refl w10.heap.size w10).alloc (Nat.le_refl _) _).alloc (by simp) _)) (by simp; omega) ?_
         intro v11 w11 ho11
         rw [List.nil_append] at ho11
         have Hb11 := Lib.hid (HZ.out _ _ _ _ ho11)
         obtain ⟨g11, hr11, -⟩ := ho11
         have hg : ∃ g0, g11 = some g0 := by
           obtain ⟨A3, c3, rfl, h4, h5, h6⟩ := hr11.bytes
           obtain ⟨b, o, e, _⟩ := h6 (by rw [HSl.out]; omega)
           exact ⟨b, by rw [← h5, e]; rfl⟩
         obtain ⟨g0, rfl⟩ := hg
         obtain ⟨c11, rfl, hc11, hgB, hgl⟩ := own_form hr11.2 hr11.1
         obtain ⟨kd, fd, hby11⟩ := HRow.out w11 _ g0 _ c11 hr11 rfl
         have HD11 := Lib.hid (HDo.out c11 _ (by rw [← HSl.out]; exact hc11) g0 hby11)
         have hxor := Hxor.out
         have hat := Hat.out
         have Hbs := Lib.hid (Hb11.out.setCell (p := ⟨g0, t, none⟩) (by show _ ≤ g0; omega) (.int .u8 ((S[t].toNat ^^^ y : Nat) : Int)))
         rw [HSl.out]
         clear hr11 hby11 HDo HRow Hb11
         generalize S[t].toNat = xv at *)
      | fail)
      clear hxor kd fd hat
      refine HD11.out.mono ?_
      rintro e w12 ⟨x12, ev12, rfl, hev3, hev4, hb12⟩
      obtain ⟨nodes12, faulty12, slot12, gap12, rho12, dmin12, dmax12, margin12, PA12, pn12, pcap12, parts12, QA12, qn12, qcap12, ports12, RA12, rn12, rcap12, routes12⟩ := x12
      simp only [CfgC.value]
      have Hb12 : Hid (Below w.heap.size w w12) := Lib.hid ((HB0.out.trans (Hb4.out.mono (by simp))).trans (((Hb6.out.trans (Hb610.out.mono Hb6.out.size)).trans ((Hbs.out.trans (hb12.mono Hbs.out.size)).mono (Nat.le_trans Hb6.out.size Hb610.out.size))).mono (by have := Hb4.out.size; simp at this; omega)))
      have hz12 := Hb12.out.size
      clear hb12 HD11 Hbs Hb610 Hb69 Hb6 Hb5 Hb4 HO0 HZ Hz0 HbSa
      by_cases hm0 : m2 = 0
      · have q4 : ((m2 : Int) == 0) = true := by rw [hm0]; rfl
        obtain rfl := Hev1.out (decide_eq_true hm0)
        clear Hev1 Hev2 hm0
        by_cases hy0 : y = 0
        · have q5 : ((y : Int) == 0) = true := by rw [hy0]; rfl
          obtain rfl := hev3 (decide_eq_true hy0)
          clear hev3 hev4 hy0
          go_wp2_with fail
          go_ret
          exact ⟨rfl, Hb12.out.alloc hz12 _⟩
        · have q5 : ((y : Int) == 0) = false := by rw [beq_eq_false_iff_ne]; omega
          obtain ⟨b12, rfl⟩ := hev4 (decide_eq_false hy0)
          clear hev3 hev4 hy0
          go_wp2_with fail
          go_ret
          exact ⟨rfl, Hb12.out.alloc hz12 _⟩
      · have q4 : ((m2 : Int) == 0) = false := by rw [beq_eq_false_iff_ne]; omega
        obtain ⟨b10, rfl⟩ := Hev2.out (decide_eq_false hm0)
        clear Hev1 Hev2 hm0
        by_cases hy0 : y = 0
        · have q5 : ((y : Int) == 0) = true := by rw [hy0]; rfl
          obtain rfl := hev3 (decide_eq_true hy0)
          clear hev3 hev4 hy0
          go_wp2_with fail
          go_ret
          exact ⟨rfl, Hb12.out.alloc hz12 _⟩
        · have q5 : ((y : Int) == 0) = false := by rw [beq_eq_false_iff_ne]; omega
          obtain ⟨b12, rfl⟩ := hev4 (decide_eq_false hy0)
          clear hev3 hev4 hy0
          go_wp2_with fail
          go_ret
          exact ⟨rfl, Hb12.out.alloc hz12 _⟩
end Go.Proofs.Ytgceleipaiameaa
