/- CrcRests: the walk of the law at bytes in memory. Conditions: where the bytes lie. -/
import Derived.Test.YtccjlebdakcnjaaCrcF
import Derived.Test.YtccjlebdakcnjaaBytLaw
namespace Go.Proofs.Ytccjlebdakcnjaa
open Go.RowKit

set_option maxHeartbeats 400000 in
theorem rests_law (A : Option Addr) (l : List UInt8) (n cap : Nat) (hn : l.length = n) (w : World) (h : Bytes w w.heap.size A l) :
    Calls Try.prog 7 #[.slice A n cap] w (AwakePost w) := by
  have HA := Lib.hid (awake_any w)
  have Hn := Lib.hid hn
  have H := Lib.hid h
  clear hn h
  by_cases h5 : n ≤ 5000
  · go_enter Try.func7, Try.ntmps7
    go_wp2_with fail
    refine HA.out.mono ?_
    rintro e w1 ⟨rfl, hb1⟩
    have Hb1 := Lib.hid hb1
    clear hb1
    go_wp2_with fail
    refine (seal_any A l n cap Hn.out w1 (by omega) ((H.out.below Hb1.out (Nat.le_refl _)).more Hb1.out.size)).mono ?_
    rintro e w2 ⟨v, rfl, ho, hb2⟩
    obtain ⟨A2, cap2, rfl, hl2, hc3, hby2, -⟩ := own_bytes ho
    have HS : Hid (Calls Try.prog 12 #[.slice A2 (l.length + 4) cap2] w2 fun e w' => e = .returned (.int .u32 558161692) ∧ w2 = w') := Lib.hid (by
      have h := sum_any A2 (CrcP.seal4 l) cap2 w2 (by rw [hl2, Hn.out]; omega) hby2
      rw [hl2, CrcP.sum_seal] at h
      exact h)
    have Hb2 := Lib.hid (Hb1.out.trans (hb2.mono Hb1.out.size))
    clear ho hb2 hl2 hc3 hby2
    go_wp2_with fail
    refine HS.out.mono ?_
    rintro e w' ⟨rfl, rfl⟩
    go_wp2_with fail
    go_ret
    exact ⟨rfl, Hb2.out⟩
  · go_enter Try.func7, Try.ntmps7
    go_wp2_with fail
    refine HA.out.mono ?_
    rintro e w1 ⟨rfl, hb1⟩
    have Hb1 := Lib.hid hb1
    clear hb1
    go_wp2_with fail
    go_ret
    exact ⟨rfl, Hb1.out⟩
end Go.Proofs.Ytccjlebdakcnjaa
