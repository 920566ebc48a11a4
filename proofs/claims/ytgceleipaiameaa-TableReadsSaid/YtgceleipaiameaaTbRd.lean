/- Contract of the document's Decode at sealed bytes. Conditions: where the bytes lie; at most 4096 of them. · Both Decodes at one text of bytes; TableReads: the walk of the law. Conditions: where the bytes lie. -/
import Derived.Test.YtgceleipaiameaaTbQa
import Derived.Test.YtgceleipaiameaaTbQr
import Derived.Test.YtgceleipaiameaaTbQd
import Derived.Test.YtgceleipaiameaaTbAw
import Derived.Test.YtgceleipaiameaaTbX
import Derived.Test.YtgceleipaiameaaFrk
import Derived.Test.YtgceleipaiameaaBytLaw
namespace Go.Proofs.Ytgceleipaiameaa
open Go.RowKit
set_option maxRecDepth 100000
theorem refdecode_sealed (A : Option Addr) (l : List UInt8) (n cap : Nat) (hn : l.length = n) (w : World) (hl : n ≤ 4096) (hcap : n ≤ cap) (h : Bytes w w.heap.size A l) (p : List UInt8) (hs : l = CrcP.seal4 p) :
    Calls Try.prog 18 #[.slice A n cap] w (RefDecPost (TableP.dec p) w) := by
  obtain ⟨m, hm⟩ : ∃ x, WireP.take p 0 false 4 = x := ⟨_, rfl⟩
  by_cases hk : m.short = false ∧ m.n ≠ TableP.magic
  · have e : TableP.dec p = .inr (m.at_, (7, 0)) := by unfold TableP.dec; rw [if_pos (by rw [hm]; exact hk), hm]
    rw [e]
    exact refdecode_stop A l n cap hn w hl hcap h p hs m.at_ (7, 0) fun rr A n cap W hr => refread_kind rr A n cap p W hr m hm hk.1 hk.2
  · obtain ⟨x0, h0⟩ : ∃ x, WireP.take p m.at_ m.short 1 = x := ⟨_, rfl⟩
    obtain ⟨x1, h1⟩ : ∃ x, WireP.take p x0.at_ x0.short 1 = x := ⟨_, rfl⟩
    obtain ⟨x2, h2⟩ : ∃ x, WireP.take p x1.at_ x1.short 4 = x := ⟨_, rfl⟩
    obtain ⟨x3, h3⟩ : ∃ x, WireP.take p x2.at_ x2.short 4 = x := ⟨_, rfl⟩
    obtain ⟨x4, h4⟩ : ∃ x, WireP.take p x3.at_ x3.short 4 = x := ⟨_, rfl⟩
    obtain ⟨x5, h5⟩ : ∃ x, WireP.take p x4.at_ x4.short 4 = x := ⟨_, rfl⟩
    obtain ⟨x6, h6⟩ : ∃ x, WireP.take p x5.at_ x5.short 4 = x := ⟨_, rfl⟩
    obtain ⟨x7, h7⟩ : ∃ x, WireP.take p x6.at_ x6.short 4 = x := ⟨_, rfl⟩
    obtain ⟨x8, h8⟩ : ∃ x, WireP.take p x7.at_ x7.short 1 = x := ⟨_, rfl⟩
    obtain ⟨x9, h9⟩ : ∃ x, WireP.take p x8.at_ x8.short 1 = x := ⟨_, rfl⟩
    obtain ⟨x10, h10⟩ : ∃ x, WireP.take p x9.at_ x9.short 1 = x := ⟨_, rfl⟩
    obtain ⟨DP, hDP⟩ : ∃ D, TableP.partsD p x8.n x10.at_ x10.short = D := ⟨_, rfl⟩
    obtain ⟨DQ, hDQ⟩ : ∃ D, TableP.portsD p x9.n 0 DP.2.1 DP.2.2 = D := ⟨_, rfl⟩
    have hT := fun rr A n cap W hr => refread_rest rr A n cap p W hr m x0 x1 x2 x3 x4 x5 x6 x7 x8 x9 x10 hm hk h0 h1 h2 h3 h4 h5 h6 h7 h8 h9 h10 DP hDP DQ hDQ
    have hraw : TableP.rawT p m.at_ m.short = TableP.listsD p x8.n x9.n x10.n x10.at_ x10.short fun ps qs rs => ⟨x0.n, x1.n, x2.n, x3.n, x4.n, x5.n, x6.n, x7.n, ps, qs, rs⟩ := by
      subst h0 h1 h2 h3 h4 h5 h6 h7 h8 h9 h10
      rfl
    have hdec : TableP.dec p = match TableP.rawT p m.at_ m.short with
        | .inr (b, i) => .inr (b, (8, (i : Int)))
        | .inl (c, b, s) => restD p c b s := by
      unfold TableP.dec restD
      rw [hm, if_neg hk]
      generalize TableP.rawT p m.at_ m.short = R
      rcases R with ⟨c, b, s⟩ | ⟨b, i⟩ <;> rfl
    rw [hdec, hraw]
    unfold TableP.listsD
    rw [hDP, hDQ]
    match DQ, hT with
    | .inr (q, i), hT => exact refdecode_stop A l n cap hn w hl hcap h p hs q (8, (i : Nat)) hT
    | .inl (qs, a1, s1), hT => exact refdecode_full A l n cap hn w hl hcap h p hs _ _ _ hT

end Go.Proofs.Ytgceleipaiameaa
namespace Go.Proofs.Ytgceleipaiameaa
open Go.RowKit
set_option maxRecDepth 100000

/-- What Decode answers: a tables, an error that reads t; none where ok. -/
def DecAny (F : TableP.Cfg) (t : List UInt8) (ok : Bool) (w : World) (e : Ending) (w' : World) : Prop :=
  ∃ x ev, e = .returned (.tuple #[x.value, ev]) ∧ CfgIn w' x ∧ x.plain = F ∧ ErrTextK 5 w' ev t ∧ (if ok then ev = .nilIface else ∃ b, ev = .iface 71 (.pointer (some ⟨b, 0, none⟩))) ∧ Below w.heap.size w w'
def RefDecAny (F : TableP.Cfg) (t : List UInt8) (w : World) (e : Ending) (w' : World) : Prop :=
  ∃ x : CfgC, e = .returned (.tuple #[x.value, strV t]) ∧ CfgIn w' x ∧ x.plain = F ∧ Below w.heap.size w w'
theorem DecBad.any {t : List UInt8} {w w' : World} {e : Ending} (h : DecBad t w e w') : DecAny zeroCC.plain t false w e w' := by
  obtain ⟨b, h1, h2, h3⟩ := h
  exact ⟨zeroCC, _, h1, zero_in w', rfl, h2, ⟨b, rfl⟩, h3⟩
theorem DecGood.any {f : TableP.Cfg} {w w' : World} {e : Ending} (h : DecGood f w e w') : DecAny f [] true w e w' := by
  obtain ⟨v, h1, ⟨x, rfl, h2, h3⟩, h4⟩ := h
  exact ⟨x, _, h1, h2, h3, ErrTextK.none_ 5 w', rfl, h4⟩
theorem RefDecBad.any {t : List UInt8} {w w' : World} {e : Ending} (h : RefDecBad t w e w') : RefDecAny zeroCC.plain t w e w' :=
  ⟨zeroCC, h.1, zero_in w', rfl, h.2⟩
theorem RefDecGood.any {f : TableP.Cfg} {w w' : World} {e : Ending} (h : RefDecGood f w e w') : RefDecAny f [] w e w' := by
  obtain ⟨v, h1, ⟨x, rfl, h2, h3⟩, h4⟩ := h
  exact ⟨x, h1, h2, h3, h4⟩

theorem out_empty (W : World) (N : Nat) (e : TypeId) (hN : N = W.heap.size) : OutIn W.heap.size e W [] (.slice (some ⟨N, 0, none⟩) 0 0) (W.alloc (.cells #[] e)) := by
  subst hN
  exact OutIn.first W #[] e [] 0 rfl rfl (by unfold maxLen; omega)

/-- Both at one payload, sealed. -/
theorem dec_both_sealed (p : List UInt8) (n : Nat) (hn : (CrcP.seal4 p).length = n) (hl : n ≤ 4096) : ∃ F t ok,
    (∀ A cap w, n ≤ cap → Bytes w w.heap.size A (CrcP.seal4 p) → Calls Try.prog 17 #[.slice A n cap] w (DecAny F t ok w)) ∧
    (∀ A cap w, n ≤ cap → Bytes w w.heap.size A (CrcP.seal4 p) → Calls Try.prog 18 #[.slice A n cap] w (RefDecAny F t w)) ∧
    (ok = true → TableP.dec p = .inl F) := by
  cases h : TableP.dec p with
  | inl f =>
    refine ⟨f, [], true, fun A cap w hc hb => ?_, fun A cap w hc hb => ?_, fun _ => rfl⟩
    · have h9 := decode_sealed A _ n cap hn w hl hc hb p rfl
      rw [h] at h9
      exact h9.mono fun e w' h => DecGood.any h
    · have h9 := refdecode_sealed A _ n cap hn w hl hc hb p rfl
      rw [h] at h9
      exact h9.mono fun e w' h => RefDecGood.any h
  | inr r =>
    obtain ⟨a, c⟩ := r
    refine ⟨zeroCC.plain, overT 60 a (wrongT (some c)), false, fun A cap w hc hb => ?_, fun A cap w hc hb => ?_, fun h => by cases h⟩
    · have h9 := decode_sealed A _ n cap hn w hl hc hb p rfl
      rw [h] at h9
      exact h9.mono fun e w' h => DecBad.any h
    · have h9 := refdecode_sealed A _ n cap hn w hl hc hb p rfl
      rw [h] at h9
      exact h9.mono fun e w' h => RefDecBad.any h
theorem dec_both (l : List UInt8) (n : Nat) (hn : l.length = n) (hl : n ≤ 9000) : ∃ F t ok,
    (∀ A cap w, n ≤ cap → Bytes w w.heap.size A l → Calls Try.prog 17 #[.slice A n cap] w (DecAny F t ok w)) ∧
    (∀ A cap w, n ≤ cap → Bytes w w.heap.size A l → Calls Try.prog 18 #[.slice A n cap] w (RefDecAny F t w)) := by
  by_cases hm : 4096 < n
  · exact ⟨_, overT 60 (-1) (wrongT (some (3, -1))), false, fun A cap w _ _ => (decode_many A n cap w hm (by omega)).mono fun e w' h => DecBad.any h,
      fun A cap w _ _ => (refdecode_many A n cap w hm (by omega)).mono fun e w' h => RefDecBad.any h⟩
  · by_cases hs : isSealed l
    · obtain ⟨p, rfl⟩ := hs
      obtain ⟨F, t, ok, h1, h2, -⟩ := dec_both_sealed p n hn (by omega)
      exact ⟨F, t, ok, h1, h2⟩
    · exact ⟨_, overT 60 (-1) (wrongT (some (6, -1))), false, fun A cap w hc hb => (decode_unsealed A l n cap hn w (by omega) hc hb hs).mono fun e w' h => DecBad.any h,
        fun A cap w hc hb => (refdecode_unsealed A l n cap hn w (by omega) hc hb hs).mono fun e w' h => RefDecBad.any h⟩

set_option maxHeartbeats 2000000 in
theorem reads_law (A : Option Addr) (l : List UInt8) (n cap : Nat) (hn : l.length = n) (hcap : n ≤ cap) (w : World) (h : Bytes w w.heap.size A l) : Calls Try.prog 4 #[.slice A n cap] w (AwakePost w) := by
  have HA := Lib.hid (fun W => awake_any W)
  by_cases h1 : 9000 < n
  · have q1 : decide ((9000 : Int) < n) = true := decide_eq_true (by omega)
    clear h1 h hn hcap
    go_enter Try.func4, Try.ntmps4
    go_wp2_with fail
    refine (HA.out _).mono ?_
    rintro e w1 ⟨rfl, hb1⟩
    have Hb1 := Lib.hid hb1
    clear hb1 HA
    go_wp2_with fail
    go_ret
    exact ⟨rfl, Hb1.out⟩
  · have q1 : decide ((9000 : Int) < n) = false := decide_eq_false (by omega)
    obtain ⟨F, t, ok, hD, hR⟩ := dec_both l n hn (by omega)
    have HD := Lib.hid hD
    have HR := Lib.hid hR
    have H := Lib.hid h
    clear h hD hR
    go_enter Try.func4, Try.ntmps4
    go_wp2_with fail
    refine (HA.out _).mono ?_
    rintro e w1 ⟨rfl, hb1⟩
    have Hb1 := Lib.hid hb1
    have HB1 : Hid (∀ W, Below w1.heap.size w1 W → Bytes W W.heap.size A l) := Lib.hid fun W hW => by
      have h9 := hb1.trans (hW.mono hb1.size)
      exact (H.out.below h9 (Nat.le_refl _)).more h9.size
    have Hn := Lib.hid hn
    clear hb1 HA hn
    go_wp2_with (at_builtin
                 refine wpList_append_o rfl (.tmp 13) (.tmp 14) _ rfl w1.heap.size 5 (.int .u8 0) w1 (Nat.le_refl _) Try.underlying30 infoB rfl _ [] rfl (out_empty w1 w1.heap.size 5 rfl) _ A n cap l rfl Hn.out (HB1.out _ ((Below.refl _ _).alloc (Nat.le_refl _) _)) (by simp; omega) ?_
                 intro v2 w2 ho2
                 obtain ⟨g2, hr2, hb2⟩ := ho2
                 rw [List.nil_append] at hr2
                 obtain ⟨A2, c2, rfl, hle2, -, hby2⟩ := hr2.bytes
                 have Hb2 := Lib.hid (Hb1.out.trans (hb2.mono Hb1.out.size))
                 rw [Hn.out] at hle2 ⊢
                 have HD2 := Lib.hid (HD.out A2 c2 w2 hle2 hby2)
                 clear hr2 hle2 hby2 hb2)
    refine HD2.out.mono ?_
    rintro e w3 ⟨x, ev, rfl, hx, hpx, he, hok, hb3⟩
    have Hx := Lib.hid hx
    have He := Lib.hid he
    have Hb3 := Lib.hid (Hb2.out.trans (hb3.mono Hb2.out.size))
    have HR3 : Hid (∀ o, Calls Try.prog 18 #[.slice A n cap] (w3.alloc o) (RefDecAny F t (w3.alloc o))) := Lib.hid fun o => HR.out A cap (w3.alloc o) hcap ((H.out.below (Hb3.out.alloc Hb3.out.size o) (Nat.le_refl _)).more (Hb3.out.alloc Hb3.out.size o).size)
    have HSm : Hid (∀ y W, Below w3.heap.size w3 W → CfgIn W y → y.plain = F → Calls Try.prog 16 #[x.value, y.value] W (fun e w' => e = .returned (.bool true) ∧ Below W.heap.size W w')) := Lib.hid fun y W hW hy hp => same_any x y W (hx.below hW) hy (hpx.trans hp.symm)
    skip
    clear hx hpx he hok hb3 HD HR Hx
    obtain ⟨nodes, faulty, slot, gap, rho, dmin, dmax, margin, PA, pn, pcap, parts, QA, qn, qcap, ports, RA, rn, rcap, routes⟩ := x
    simp only [CfgC.value] at HSm ⊢
    go_wp2_with fail
    refine (HR3.out _).mono ?_
    rintro e w4 ⟨y, rfl, hy, hpy, hb4⟩
    have h34 : Below w3.heap.size w3 w4 := ((Below.refl _ _).alloc (Nat.le_refl _) _).trans (hb4.mono (by simp))
    have hbox : w4.heap[w3.heap.size]? = some (.cells #[.int .i64 nodes, .int .i64 faulty, .int .i64 slot, .int .i64 gap, .int .i64 rho, .int .i64 dmin, .int .i64 dmax, .int .i64 margin, .slice PA pn pcap, .slice QA qn qcap, .slice RA rn rcap] 26 (0, 0)) := (hb4.block w3.heap.size (by simp)).trans (heap_alloc_new w3 _)
    have hz4 : w3.heap.size < w4.heap.size := lt_of_block hbox
    have H34 := Lib.hid h34
    have Hbox := Lib.hid hbox
    have HS4 : Hid (∀ o, Calls Try.prog 16 #[.agg #[.int .i64 nodes, .int .i64 faulty, .int .i64 slot, .int .i64 gap, .int .i64 rho, .int .i64 dmin, .int .i64 dmax, .int .i64 margin, .slice PA pn pcap, .slice QA qn qcap, .slice RA rn rcap], y.value] (w4.alloc o) _) := Lib.hid fun o => HSm.out y (w4.alloc o) (h34.alloc h34.size o) (hy.below ((Below.refl _ _).alloc (Nat.le_refl _) o)) hpy
    have i0 := cell_at hbox 0 rfl
    have i1 := cell_at hbox 1 rfl
    have i2 := cell_at hbox 2 rfl
    have i3 := cell_at hbox 3 rfl
    have i4 := cell_at hbox 4 rfl
    have i5 := cell_at hbox 5 rfl
    have i6 := cell_at hbox 6 rfl
    have i7 := cell_at hbox 7 rfl
    have i8 := cell_at hbox 8 rfl
    have i9 := cell_at hbox 9 rfl
    have i10 := cell_at hbox 10 rfl
    clear hy hpy hb4 h34 hbox HSm HR3
    obtain ⟨nodes2, faulty2, slot2, gap2, rho2, dmin2, dmax2, margin2, PA2, pn2, pcap2, parts2, QA2, qn2, qcap2, ports2, RA2, rn2, rcap2, routes2⟩ := y
    simp only [CfgC.value] at HS4 ⊢
    go_wp2_with fail
    refine (HS4.out _).mono ?_
    rintro e w5 ⟨rfl, hb5⟩
    have h45 : Below w4.heap.size w4 w5 := ((Below.refl _ _).alloc (Nat.le_refl _) _).trans (hb5.mono (by simp))
    have H35 := Lib.hid (H34.out.trans (h45.mono H34.out.size))
    have H45 := Lib.hid h45
    have HRe := Lib.hid (ErrTextK.read (by omega) (He.out.below H35.out))
    unfold strV at *
    clear hb5 h45 i0 i1 i2 i3 i4 i5 i6 i7 i8 i9 i10 HS4 He
    go_wp2_with fail
    refine HRe.out.mono ?_
    rintro e w6 ⟨rfl, hb6⟩
    have H36 := Lib.hid (H35.out.trans (hb6.mono H35.out.size))
    clear hb6
    go_wp2_with fail
    go_ret
    exact ⟨rfl, Hb3.out.trans (H36.out.mono Hb3.out.size)⟩
end Go.Proofs.Ytgceleipaiameaa
