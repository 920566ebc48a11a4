/- FrameSealed: the walk of the law. Conditions: where the bytes lie. -/
import Derived.Test.YtmhpdmpihmahdaaFraRd
namespace Go.Proofs.Ytmhpdmpihmahdaa
open Go.RowKit
set_option maxRecDepth 100000

set_option maxHeartbeats 2000000 in
theorem sealed_law (A : Option Addr) (l : List UInt8) (n cap : Nat) (hn : l.length = n) (_ : n ≤ cap) (w : World) (h : Bytes w w.heap.size A l) : Calls Try.prog 5 #[.slice A n cap] w (AwakePost w) := by
  have HA := Lib.hid (fun W => awake_any W)
  by_cases h1 : 5000 < n
  · have q1 : decide ((5000 : Int) < n) = true := decide_eq_true (by omega)
    clear h1 h hn
    go_enter Try.func5, Try.ntmps5
    go_wp2_with fail
    refine (HA.out _).mono ?_
    rintro e w1 ⟨rfl, hb1⟩
    have Hb1 := Lib.hid hb1
    clear hb1 HA
    go_wp2_with fail
    go_ret
    exact ⟨rfl, Hb1.out⟩
  · have q1 : decide ((5000 : Int) < n) = false := decide_eq_false (by omega)
    obtain ⟨F, t, ok, hD, hR, hF⟩ := dec_both_sealed l (n + 4) (by rw [seal4_len, hn]) (by omega)
    have HD := Lib.hid hD
    have HR := Lib.hid hR
    have HF := Lib.hid hF
    have H := Lib.hid h
    clear h hD hR hF
    go_enter Try.func5, Try.ntmps5
    go_wp2_with fail
    refine (HA.out _).mono ?_
    rintro e w1 ⟨rfl, hb1⟩
    have Hb1 := Lib.hid hb1
    have HS1 := Lib.hid (seal_any A l n cap hn w1 (by omega) ((H.out.below hb1 (Nat.le_refl _)).more hb1.size))
    clear hb1 HA
    go_wp2_with fail
    refine HS1.out.mono ?_
    rintro e w2 hs2
    obtain ⟨v2, g2, rfl, hr2, hb2⟩ := hs2.row
    obtain ⟨A2, c2, rfl, hle2, -, hby2⟩ := hr2.bytes
    rw [seal4_len, hn] at hle2 ⊢
    have Hb2 := Lib.hid (Hb1.out.trans (hb2.mono Hb1.out.size))
    have HD2 := Lib.hid (HD.out A2 c2 w2 hle2 hby2)
    have HB2 : Hid (∀ W, Below w2.heap.size w2 W → Bytes W W.heap.size A2 (CrcP.seal4 l)) := Lib.hid fun W hW => (hby2.below hW (Nat.le_refl _)).more hW.size
    have hsl : (CrcP.seal4 l).length = n + 4 := by rw [seal4_len, hn]
    have Hsl := Lib.hid hsl
    clear hs2 hr2 hb2 hby2 HS1 hsl hn
    have Hle2 := Lib.hid hle2
    clear hle2
    generalize hm : n + 4 = m at *
    clear hm
    go_wp2_with fail
    refine HD2.out.mono ?_
    rintro e w3 ⟨x, ev, rfl, hx, hpx, he, hok, hb3⟩
    have Hx := Lib.hid hx
    have He := Lib.hid he
    have Hb3 := Lib.hid (Hb2.out.trans (hb3.mono Hb2.out.size))
    have H23 := Lib.hid hb3
    have HR3 : Hid (∀ o, Calls Try.prog 19 #[.slice A2 m c2] (w3.alloc o) (RefDecAny F t (w3.alloc o))) := Lib.hid fun o => HR.out A2 c2 (w3.alloc o) Hle2.out (HB2.out _ (H23.out.alloc H23.out.size o))
    have HSm : Hid (∀ y W, Below w3.heap.size w3 W → FrameIn W y → y.plain = F → Calls Try.prog 17 #[x.value, y.value] W (fun e w' => e = .returned (.bool true) ∧ Below W.heap.size W w')) := Lib.hid fun y W hW hy hp => same_any x y W (hx.below hW) hy (hpx.trans hp.symm)
    have HFx : Hid (ok = true → ∀ W, Below w3.heap.size w3 W → Calls Try.prog 12 #[x.value] W (fun e w' => ∃ v g, e = .returned (.tuple #[v, .nilIface]) ∧ Row w' W.heap.size 5 g v (CrcP.seal4 l) ∧ Below W.heap.size W w')) := Lib.hid fun hk W hW => by
      obtain ⟨e1, e2, _⟩ := FrameP.dec_ok (HF.out hk)
      have h9 := encode_good x W (hx.below hW) (by rw [hpx]; exact e2)
      rw [hpx] at h9
      unfold EncGood at h9
      rw [← e1] at h9
      exact h9
    have Hok := Lib.hid hok
    clear hx hpx he hok hb3 HD HR Hx
    obtain ⟨sender, round, members, MA, mn, mcap, msgs, kind, key, val, old, RA, rn, rcap, recs⟩ := x
    simp only [FrameC.value] at HSm HFx ⊢
    go_wp2_with fail
    refine (HR3.out _).mono ?_
    rintro e w4 ⟨y, rfl, hy, hpy, hb4⟩
    have h34 : Below w3.heap.size w3 w4 := ((Below.refl _ _).alloc (Nat.le_refl _) _).trans (hb4.mono (by simp))
    have hbox : w4.heap[w3.heap.size]? = some (.cells #[.int .u8 (sender : Nat), .int .u32 (round : Nat), .int .u8 (members : Nat), .slice MA mn mcap, .int .u8 (kind : Nat), .int .u8 (key : Nat), .int .u16 (val : Nat), .int .u16 (old : Nat), .slice RA rn rcap] 32 (0, 0)) := (hb4.block w3.heap.size (by simp)).trans (heap_alloc_new w3 _)
    have hz4 : w3.heap.size < w4.heap.size := lt_of_block hbox
    have H34 := Lib.hid h34
    have Hbox := Lib.hid hbox
    have HS4 : Hid (∀ o, Calls Try.prog 17 #[.agg #[.int .u8 (sender : Nat), .int .u32 (round : Nat), .int .u8 (members : Nat), .slice MA mn mcap, .int .u8 (kind : Nat), .int .u8 (key : Nat), .int .u16 (val : Nat), .int .u16 (old : Nat), .slice RA rn rcap], y.value] (w4.alloc o) _) := Lib.hid fun o => HSm.out y (w4.alloc o) (h34.alloc h34.size o) (hy.below ((Below.refl _ _).alloc (Nat.le_refl _) o)) hpy
    have i0 := cell_at hbox 0 rfl
    have i1 := cell_at hbox 1 rfl
    have i2 := cell_at hbox 2 rfl
    have i3 := cell_at hbox 3 rfl
    have i4 := cell_at hbox 4 rfl
    have i5 := cell_at hbox 5 rfl
    have i6 := cell_at hbox 6 rfl
    have i7 := cell_at hbox 7 rfl
    have i8 := cell_at hbox 8 rfl
    clear hy hpy hb4 h34 hbox HSm HR3
    obtain ⟨sender2, round2, members2, MA2, mn2, mcap2, msgs2, kind2, key2, val2, old2, RA2, rn2, rcap2, recs2⟩ := y
    simp only [FrameC.value] at HS4 ⊢
    go_wp2_with fail
    refine (HS4.out _).mono ?_
    rintro e w5 ⟨rfl, hb5⟩
    have h45 : Below w4.heap.size w4 w5 := ((Below.refl _ _).alloc (Nat.le_refl _) _).trans (hb5.mono (by simp))
    have H35 := Lib.hid (H34.out.trans (h45.mono H34.out.size))
    have H45 := Lib.hid h45
    have HRe := Lib.hid (ErrTextK.read (by omega) (He.out.below H35.out))
    unfold strV at *
    have hok := Hok.out
    clear hb5 h45 i0 i1 i2 i3 i4 i5 i6 i7 i8 HS4 He
    go_wp2_with fail
    refine HRe.out.mono ?_
    rintro e w6 ⟨rfl, hb6⟩
    have H36 := Lib.hid (H35.out.trans (hb6.mono H35.out.size))
    have hboxW : w6.heap[w3.heap.size]? = _ := (hb6.block w3.heap.size (Nat.lt_of_lt_of_le hz4 H45.out.size)).trans ((H45.out.block w3.heap.size hz4).trans Hbox.out)
    cases ok with
    | false =>
      simp only [Bool.false_eq_true, if_false] at hok
      obtain ⟨b, rfl⟩ := hok
      clear hboxW hb6 HFx
      go_wp2_with fail
      go_ret
      exact ⟨rfl, Hb3.out.trans (H36.out.mono Hb3.out.size)⟩
    | true =>
      simp only [if_true] at hok
      subst hok
      have HE6 := Lib.hid (HFx.out rfl w6 H36.out)
      have i0 := cell_at hboxW 0 rfl
      have i1 := cell_at hboxW 1 rfl
      have i2 := cell_at hboxW 2 rfl
      have i3 := cell_at hboxW 3 rfl
      have i4 := cell_at hboxW 4 rfl
      have i5 := cell_at hboxW 5 rfl
      have i6 := cell_at hboxW 6 rfl
      have i7 := cell_at hboxW 7 rfl
      have i8 := cell_at hboxW 8 rfl
      clear hboxW hb6 HFx
      go_wp2_with fail
      refine HE6.out.mono ?_
      rintro e w7 ⟨v7, g7, rfl, hr7, hb7⟩
      obtain ⟨A7, c7, rfl, -, -, hby7⟩ := hr7.bytes
      have H37 := Lib.hid (H36.out.trans (hb7.mono H36.out.size))
      rw [Hsl.out]
      have cv := conv_w (cap := c7) Hsl.out hby7
      have cv2 := conv_w (cap := c2) Hsl.out (HB2.out w7 (H23.out.trans (H37.out.mono H23.out.size)))
      clear hr7 hb7 hby7 i0 i1 i2 i3 i4 i5 i6 i7 i8
      generalize CrcP.seal4 l = S at *
      go_wp2_with fail
      go_ret
      exact ⟨rfl, Hb3.out.trans (H37.out.mono Hb3.out.size)⟩
end Go.Proofs.Ytmhpdmpihmahdaa
