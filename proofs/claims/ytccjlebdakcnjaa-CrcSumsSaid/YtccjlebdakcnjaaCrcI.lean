/- CrcBack: the walk of the law at bytes in memory. Conditions: where the bytes lie. -/
import Derived.Test.YtccjlebdakcnjaaCrcH
namespace Go.Proofs.Ytccjlebdakcnjaa
open Go.RowKit

theorem seal4_inj {p q : List UInt8} (h : CrcP.seal4 p = CrcP.seal4 q) : p = q := by
  have hl : p.length = q.length := by
    have := congrArg List.length h
    rw [seal4_len, seal4_len] at this
    omega
  exact (List.append_inj h hl).1

def BackRel (B n : Nat) (v : Value) (w3 : World) (i : Value) (wr : World) : Prop :=
  ∃ k, k ≤ n ∧ i = .int .i64 (k : Nat) ∧ ∃ zs : List Int, wr.ownsRow B 5 1 v n (zs.map (Value.int .u8)) ∧ Below B w3 wr

theorem opened (A : Option Addr) (l : List UInt8) (n cap : Nat) (hn : (CrcP.seal4 l).length = n) (w : World) (hl : n ≤ 100000000) (hcap : n ≤ cap) (h : Bytes w w.heap.size A (CrcP.seal4 l)) :
    Calls Try.prog 10 #[.slice A n cap] w fun e w' => ∃ v, e = .returned (.tuple #[v, .bool true]) ∧ w'.ownsRow w.heap.size 5 1 v l.length (bytesV l) ∧ Below w.heap.size w w' := by
  refine (open_any A _ n cap hn w hl hcap h).mono ?_
  rintro e w' (⟨p, v, h1, h2, h3, h4⟩ | ⟨h1, -, -⟩)
  · obtain rfl := seal4_inj h1
    exact ⟨v, h2, h3, h4⟩
  · exact absurd ⟨l, rfl⟩ h1

set_option maxHeartbeats 400000 in
theorem back_law (A : Option Addr) (l : List UInt8) (n cap : Nat) (hn : l.length = n) (w : World) (h : Bytes w w.heap.size A l) :
    Calls Try.prog 4 #[.slice A n cap] w (AwakePost w) := by
  have HA := Lib.hid (awake_any w)
  by_cases h5 : n ≤ 5000
  · have Hn := Lib.hid hn
    have H := Lib.hid h
    clear hn h
    go_enter Try.func4, Try.ntmps4
    go_wp2_with fail
    refine HA.out.mono ?_
    rintro e w1 ⟨rfl, hb1⟩
    have Hb1 := Lib.hid hb1
    clear hb1
    go_wp2_with fail
    refine (seal_any A l n cap Hn.out w1 (by omega) ((H.out.below Hb1.out (Nat.le_refl _)).more Hb1.out.size)).mono ?_
    rintro e w2 ⟨v, rfl, ho, hb2⟩
    obtain ⟨A2, cap2, rfl, hl2, hc3, hby2, -⟩ := own_bytes ho
    rw [Hn.out] at hl2 hc3
    rw [Hn.out]
    have Hb2 := Lib.hid (Hb1.out.trans (hb2.mono Hb1.out.size))
    have Hl2 := Lib.hid hl2
    have Hby2 := Lib.hid hby2
    clear ho hb2 hl2 hby2
    go_wp2_with fail
    refine (opened A2 l (n + 4) cap2 Hl2.out w2 (by omega) hc3 Hby2.out).mono ?_
    rintro e w3 ⟨v3, rfl, ho3, hb3⟩
    rw [Hn.out] at ho3
    obtain ⟨A3, cap3, rfl, -, hc4, -, -⟩ := own_bytes ho3
    have Ho3 := Lib.hid ho3
    have Hb3 := Lib.hid hb3
    have HR : Hid (BackRel w2.heap.size n (.slice A3 n cap3) w3 (.int .i64 0) w3) := Lib.hid ⟨0, by omega, rfl, l.map fun c => (c.toNat : Int), by simpa [bytesV, List.map_map, Function.comp_def] using ho3, Below.refl _ _⟩
    clear ho3 hb3
    go_wp2_with fail
    go_loopw [23] (fun i wr => BackRel w2.heap.size n (.slice A3 n cap3) w3 i wr) (fun i _ => (n - intOf i).toNat)
    case atStart => exact HR.out
    case round =>
      clear HR
      obtain ⟨k, hk, rfl, zs, ho, hb⟩ := hrel
      by_cases hlt : k < n
      · obtain ⟨g, cp, hv, hg1, hg2⟩ := ho.form (by omega)
        injection hv with e1 _ e2
        subst e1
        subst e2
        have hzl : zs.length = n := by have := ho.1; simp at this; omega
        have hc := ho.cellAt k (by omega)
        rw [List.getElem?_map, List.getElem?_eq_getElem (by omega)] at hc
        simp only [Option.map_some] at hc
        have hf := ho.frozenAt k
        have HS : Hid (∀ z, BackRel w2.heap.size n (.slice (some ⟨g, 0, none⟩) n cap3) w3 (.int .i64 ((k : Int) + 1)) (wr.setCell ⟨g, k, none⟩ (.int .u8 z))) := Lib.hid fun z =>
          ⟨k + 1, by omega, by go_num, zs.set k z, by rw [List.map_set]; exact (ho.stored k (.int .u8 z)).1, hb.setCell hg1 _⟩
        generalize zs[k] = z at *
        clear ho hb hzl hg1
        go_wp2_with fail
        go_roundw
        case rel => exact HS.out _
        case measure => simp [intOf]; omega
      · have hbs := hb.size
        have HO := Lib.hid (opened A2 l (n + 4) cap2 Hl2.out wr (by omega) hc3 (((Hby2.out.below Hb3.out (Nat.le_refl _)).below hb (Nat.le_refl _)).more (Nat.le_trans Hb3.out.size hbs)))
        have Hw := Lib.hid ((Hb2.out.trans (Hb3.out.mono Hb2.out.size)).trans (hb.mono Hb2.out.size))
        clear ho hb
        go_wp2_with fail
        refine HO.out.mono ?_
        rintro e w5 ⟨v5, rfl, ho5, hb5⟩
        obtain ⟨A5, cap5, rfl, -, -, hby5, -⟩ := own_bytes ho5
        have Hw5 := Lib.hid (Hw.out.trans (hb5.mono Hw.out.size))
        have c1 := run_conv (cap := cap5) rfl hby5
        have c2 := run_conv (cap := cap) Hn.out (H.out.below Hw5.out (Nat.le_refl _))
        clear ho5 hb5 hby5
        go_wp2_with fail
        go_ret
        exact ⟨rfl, Hw5.out⟩
  · clear hn h
    go_enter Try.func4, Try.ntmps4
    go_wp2_with fail
    refine HA.out.mono ?_
    rintro e w1 ⟨rfl, hb1⟩
    have Hb1 := Lib.hid hb1
    clear hb1
    go_wp2_with fail
    go_ret
    exact ⟨rfl, Hb1.out⟩
end Go.Proofs.Ytccjlebdakcnjaa
