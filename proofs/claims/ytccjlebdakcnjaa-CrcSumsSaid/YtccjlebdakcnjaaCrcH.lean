/- CrcParts: the walk of the law at bytes in memory. Conditions: where the bytes lie. -/
import Derived.Test.YtccjlebdakcnjaaCrcG
namespace Go.Proofs.Ytccjlebdakcnjaa
open Go.RowKit

theorem sum_parts (a b m : List UInt8) : CrcP.sum (CrcP.seal4 a ++ m) = CrcP.sum (CrcP.seal4 b ++ m) := by
  unfold CrcP.sum
  rw [CrcP.reg_append, CrcP.reg_append, CrcP.reg_seal, CrcP.reg_seal]

theorem parts_few (A B C : Option Addr) (x y z : List UInt8) (n m k c1 c2 c3 : Nat) (hn : x.length = n) (hm : y.length = m) (hk : z.length = k) (w : World) (hx : Bytes w w.heap.size A x) (hy : Bytes w w.heap.size B y) (hz : Bytes w w.heap.size C z)
    (hn2 : n ≤ 2000) (hm2 : m ≤ 2000) (hk2 : k ≤ 2000) :
    Calls Try.prog 8 #[.slice A n c1, .slice B m c2, .slice C k c3] w (AwakePost w) := by
  have HA := Lib.hid (awake_any w)
  have Hn := Lib.hid hn
  have Hm := Lib.hid hm
  have Hk := Lib.hid hk
  have Hx := Lib.hid hx
  have Hy := Lib.hid hy
  have Hz := Lib.hid hz
  clear hn hm hk hx hy hz
  go_enter Try.func8, Try.ntmps8
  go_wp2_with fail
  refine HA.out.mono ?_
  rintro e w1 ⟨rfl, hb1⟩
  have Hb1 := Lib.hid hb1
  clear hb1
  go_wp2_with fail
  refine (seal_any A x n c1 Hn.out w1 (by omega) ((Hx.out.below Hb1.out (Nat.le_refl _)).more Hb1.out.size)).mono ?_
  rintro e w2 ⟨v, rfl, ho, hb2⟩
  have Hb2 := Lib.hid (Hb1.out.trans (hb2.mono Hb1.out.size))
  have Ho := Lib.hid ho
  have Hb12 := Lib.hid hb2
  clear ho hb2
  go_wp2_with fail
  refine (seal_any B y m c2 Hm.out w2 (by omega) ((Hy.out.below Hb2.out (Nat.le_refl _)).more Hb2.out.size)).mono ?_
  rintro e w3 ⟨u, rfl, hu, hb3⟩
  have Hb3 := Lib.hid (Hb2.out.trans (hb3.mono Hb2.out.size))
  have Hu := Lib.hid hu
  have Ho3 := Lib.hid (own_below Ho.out hb3)
  have Hb23 := Lib.hid hb3
  clear hu hb3
  have HS : Hid (∀ (W : World) (l0 : List UInt8) (D : Option Addr) (n' cap' : Nat), n' ≤ 1000000 → l0.length = n' → Bytes W W.heap.size D l0 → Calls Try.prog 12 #[.slice D n' cap'] W fun e w' => e = .returned (.int .u32 (CrcP.sum l0 : Nat)) ∧ W = w') := Lib.hid fun W l0 D n' cap' h1 h2 h3 => by
    subst h2
    exact sum_any D l0 cap' W (by omega) h3
  have Hsame := Lib.hid (sum_parts x y z)
  go_wp2_with (at_builtin
               refine wpList_append_b rfl (.tmp 28) (.tmp 29) _ rfl w1.heap.size 5 (.int .u8 0) Try.underlying22 infoB rfl _ (x.length + 4) _ rfl Ho3.out w.heap.size C k c3 z rfl Hk.out (Hz.out.below Hb3.out (Nat.le_refl _)) (by rw [Hn.out]; omega) (Nat.le_trans Hb12.out.size Hb23.out.size) ?_
               intro v4 w4 ho4 hg4' hb4
               have hg4 : w3.grownBy w4 v.ownBlock := hg4'
               clear hg4'
               have ho4' := ho4
               rw [← bytesV_append] at ho4'
               obtain ⟨A4, cap4, rfl, hl4, hc4, hby4, -⟩ := own_bytes ho4'
               have Hl4 := Lib.hid hl4
               have Hby4 := Lib.hid hby4
               have Hu4 := Lib.hid (Hu.out.kept hg4 (.inr (fun he => by
                 obtain ⟨g, hg⟩ : ∃ g, u.ownBlock = some g := by
                   obtain ⟨g, cap, hv, -, -⟩ := World.ownsRow.form Hu.out (by omega)
                   exact ⟨g, by rw [hv]; rfl⟩
                 have h1 := (Hu.out.lt g hg).1
                 have h2 := (Ho.out.lt g (by rw [← he]; exact hg)).2
                 omega)))
               have Hb4 := Lib.hid (Hb3.out.trans (hb4.mono Hb1.out.size))
               have Hw4 := Lib.hid hb4
               clear ho4 ho4' hg4 hb4 hl4 hc4 hby4)
  refine (HS.out w4 _ A4 _ cap4 (by rw [Hn.out]; omega) Hl4.out Hby4.out).mono ?_
  rintro e w' ⟨rfl, rfl⟩
  go_wp2_with (at_builtin
               refine wpList_append_b rfl (.tmp 32) (.tmp 33) _ rfl w2.heap.size 5 (.int .u8 0) Try.underlying22 infoB rfl _ (y.length + 4) _ rfl Hu4.out w.heap.size C k c3 z rfl Hk.out (Hz.out.below Hb4.out (Nat.le_refl _)) (by rw [Hm.out]; omega) (Nat.le_trans Hb23.out.size Hw4.out.size) ?_
               intro v5 w5 ho5 hg5 hb5
               rw [← bytesV_append] at ho5
               obtain ⟨A5, cap5, rfl, hl5, hc5, hby5, -⟩ := own_bytes ho5
               have Hl5 := Lib.hid hl5
               have Hby5 := Lib.hid hby5
               have Hb5 := Lib.hid (Hb4.out.trans (hb5.mono Hb2.out.size))
               clear ho5 hg5 hb5 hl5 hc5 hby5)
  refine (HS.out w5 _ A5 _ cap5 (by rw [Hm.out]; omega) Hl5.out Hby5.out).mono ?_
  rintro e w' ⟨rfl, rfl⟩
  rw [← Hsame.out]
  go_wp2_with fail
  go_ret
  exact ⟨rfl, Hb5.out⟩

theorem parts_many (A B C : Option Addr) (n m k c1 c2 c3 : Nat) (w : World) (h : 2000 < n ∨ 2000 < m ∨ 2000 < k) :
    Calls Try.prog 8 #[.slice A n c1, .slice B m c2, .slice C k c3] w (AwakePost w) := by
  have HA := Lib.hid (awake_any w)
  have hc : 2000 < n ∨ (n ≤ 2000 ∧ 2000 < m) ∨ (n ≤ 2000 ∧ m ≤ 2000 ∧ 2000 < k) := by omega
  clear h
  rcases hc with h1 | ⟨h1, h2⟩ | ⟨h1, h2, h3⟩
  all_goals
    go_enter Try.func8, Try.ntmps8
    go_wp2_with fail
    refine HA.out.mono ?_
    rintro e w1 ⟨rfl, hb1⟩
    have Hb1 := Lib.hid hb1
    clear hb1
    go_wp2_with fail
    go_ret
    exact ⟨rfl, Hb1.out⟩

theorem parts_law (A B C : Option Addr) (x y z : List UInt8) (n m k c1 c2 c3 : Nat) (hn : x.length = n) (hm : y.length = m) (hk : z.length = k) (w : World) (hx : Bytes w w.heap.size A x) (hy : Bytes w w.heap.size B y) (hz : Bytes w w.heap.size C z) :
    Calls Try.prog 8 #[.slice A n c1, .slice B m c2, .slice C k c3] w (AwakePost w) := by
  by_cases h : 2000 < n ∨ 2000 < m ∨ 2000 < k
  · exact parts_many A B C n m k c1 c2 c3 w h
  · exact parts_few A B C x y z n m k c1 c2 c3 hn hm hk w hx hy hz (by omega) (by omega) (by omega)
end Go.Proofs.Ytccjlebdakcnjaa
