/- MemberSame: true. Conditions: where the stamps lie. -/
import Derived.Test.YtkahecdnmeofkaaMbrU
import Derived.Test.YtkahecdnmeofkaaMbrArg
import Derived.Test.YtkahecdnmeofkaaMbrK
namespace Go.Proofs.Ytkahecdnmeofkaa
open Go.RowKit
set_option maxRecDepth 100000

def stAt (l : List StG) (j : Nat) : Nat × Nat := ((l[j]?).map Subtype.val).getD (0, 0)
theorem stAt_is {l : List StG} {j : Nat} {x : StG} (h : l[j]? = some x) : stAt l j = x.1 := by unfold stAt; rw [h]; rfl
/-- Two that listen: how far they heard. -/
def TwoH (l : List StG) (N f ba bb : Nat) (w : World) (i : Nat) (W : World) : Prop :=
  ∃ sa ua sb ub, HrdF (fun q => q = ba ∨ q = bb) W ba 0 0 false sa ua ∧ HrdF (fun q => q = ba ∨ q = bb) W bb 0 0 false sb ub ∧ Front (stAt l) i sa ua ∧ Turned (stAt l) N f i sb ub ∧ Below w.heap.size w W
def SamR (l : List StG) (N f ba bb : Nat) (w : World) (iv : Value) (W : World) : Prop := ∃ i, i ≤ N ∧ iv = .int .i64 (i : Nat) ∧ TwoH l N f ba bb w i W
/-- The third, who knows the stamp. -/
def SamC (l : List StG) (N ba bc xr xm sa : Nat) (ua : Nat → Nat × Nat) (w : World) (iv : Value) (W : World) : Prop :=
  ∃ j, j ≤ N ∧ iv = .int .i64 (j : Nat) ∧ ∃ sc uc, HrdF (fun _ => False) W bc xr xm true sc uc ∧ HrdF (fun q => q = bc) W ba 0 0 false sa ua ∧ Front (stAt l) j sc uc ∧ Below w.heap.size w W
set_option maxHeartbeats 4000000 in
theorem msame_law (A : Option Addr) (n cap : Nat) (l : List StG) (hl : l.length = n) (hn8 : n * 8 ≤ 140737488355328) (from_ : Int) (w : World) (h : ItemsIn stVals 2 w A l) : Calls Try.prog 5 #[.slice A n cap, .int .i64 from_] w (MTrue12 w) := by
  have HA := Lib.hid (fun W => awake12_any W)
  unfold MTrue12 at *
  have Hl := Lib.hid hl
  have HI := Lib.hid (fun W (hW : Below w.heap.size w W) => h.below hW)
  clear h hl
  by_cases hn0 : n < 1
  · obtain rfl : n = 0 := by omega
    clear HI hn0 hn8
    go_enter Try.func5, Try.ntmps5
    go_wp2_with fail
    refine (HA.out _).mono ?_
    rintro e w1 ⟨rfl, hb1⟩
    go_wp2_with fail
    go_ret
    exact ⟨rfl, hb1⟩
  obtain ⟨N, hN⟩ : ∃ N, N = min n 7 := ⟨_, rfl⟩
  have hN1 : 1 ≤ N := by omega
  have hN7 : N ≤ 7 := by omega
  have hNn : N ≤ n := by omega
  have hmin : min (n : Int) 7 = (N : Int) := by omega
  obtain ⟨f, hf, hmod⟩ := mod_of from_ (N : Int) (by omega) (by omega)
  have hwN : IntKind.u64.wrap (N : Int) = (N : Int) := u64_in _ (by omega) (by omega)
  have q1 : decide ((N : Int) < 1) = false := decide_eq_false (by omega)
  go_enter Try.func5, Try.ntmps5
  go_wp2_with fail
  refine (HA.out _).mono ?_
  rintro e w1 ⟨rfl, hb1⟩
  have Hb1 := Lib.hid hb1
  clear hb1 HA
  go_wp2_with fail
  rw [← hN, hmod]
  clear hN
  have C1 := Lib.hid (fun W => flisten_any 0 0 false W)
  have C9 := Lib.hid (fun r m W => flisten_any r m true W)
  unfold stampV hv at C1 C9
  refine (C1.out _).mono ?_
  rintro e w2 ⟨ba, rfl, ha2, hba, hb2⟩
  have hs2 := (ha2 (fun _ => False)).hrd.size
  have Ha2 := Lib.hid ha2
  have Hb2 := Lib.hid hb2
  clear ha2 hb2
  go_wp2_with fail
  refine (C1.out _).mono ?_
  rintro e w3 ⟨bb, rfl, hb3, hbb, hbl3⟩
  have hs3 := (hb3 (fun _ => False)).hrd.size
  have Hb3 := Lib.hid ((Hb1.out.trans (Hb2.out.mono Hb1.out.size)).trans (hbl3.mono (by have := Hb1.out.size; have := Hb2.out.size; omega)))
  have hsw : w.heap.size ≤ ba := Nat.le_trans Hb1.out.size hba
  have HS0 : Hid (SamR l N f ba bb w (.int .i64 0) w3) := Lib.hid ⟨0, Nat.zero_le _, rfl, 0, _, 0, _, (Ha2.out _).below hbl3, hb3 _, Front.start _ _, Turned.start _ _ _ _, Hb3.out⟩
  have hfN : f < N := by omega
  have hdec : decide (1 ≤ N) = true := decide_eq_true hN1
  clear hb3 hbl3 Hb2 Ha2 Hb1 Hb3 C1 hmod hwN hmin q1
  go_wp2_with fail
  go_loopw [8] (SamR l N f ba bb w) (fun i _ => (N + 1 - intOf i).toNat)
  case atStart => exact HS0.out
  case round =>
    clear HS0
    obtain ⟨i, hi, rfl, sa, ua, sb, ub, hA, hB, hFr, hTu, hbw⟩ := hrel
    by_cases hiN : i < N
    case pos =>
      clear C9
      have hK : (i + f) % N < N := Nat.mod_lt _ (by omega)
      have hrem2 : ((i : Int) + (f : Int)) % (N : Int) = (((i + f) % N : Nat) : Int) := by rw [Int.natCast_emod, Int.natCast_add]
      have hrem : ((i : Int) + (f : Int)).tmod (N : Int) = (((i + f) % N : Nat) : Int) := by
        rw [Int.tmod_eq_emod_of_nonneg (by omega)]; exact hrem2
      obtain ⟨x, hx⟩ : ∃ x, l[i]? = some x := ⟨_, List.getElem?_eq_getElem (by rw [Hl.out]; omega)⟩
      obtain ⟨y, hy⟩ : ∃ y, l[(i + f) % N]? = some y := ⟨_, List.getElem?_eq_getElem (by rw [Hl.out]; omega)⟩
      have hsx := stAt_is hx
      have hsy := stAt_is hy
      have hbitA : sa.testBit i = false := by rw [hFr.bits i (by omega)]; simp
      have hbitB := hTu.fresh hN7 hiN hfN
      have hFr2 := hFr.step (by omega)
      have hTu2 := hTu.step hN7 hiN
      rw [hsx] at hFr2
      rw [hsy] at hTu2
      have hsA := hA.hrd.size
      have hsB := hB.hrd.size
      obtain ⟨b0, o0, rfl, -, hc⟩ := HI.out wr hbw (by rw [Hl.out]; omega)
      have c0 : wr.cell? ⟨b0, o0 + i * 2, none⟩ = some (.int .u32 (x.1.1 : Nat)) := hc i x hx 0 _ rfl
      have c1 : wr.cell? ⟨b0, o0 + i * 2 + 1, none⟩ = some (.int .u8 (x.1.2 : Nat)) := hc i x hx 1 _ rfl
      have HArg := Lib.hid (fun W (hW : Below w.heap.size w W) => HI.out W hW (by rw [Hl.out]; omega))
      have Hy := Lib.hid hy
      have HA1 := Lib.hid (fhear_any (fun q => q = ba ∨ q = bb) 0 0 sa false ua i (by omega) x.1.1 x.1.2 x.2.1 x.2.2 ba wr hA (fun q hq => by rcases hq with rfl | rfl <;> assumption) hbitA)
      have HB1 := Lib.hid (fun W (hB' : HrdF (fun q => q = ba ∨ q = bb) W bb 0 0 false sb ub) (hs : ∀ q, (q = ba ∨ q = bb) → q < W.heap.size) => fhear_any (fun q => q = ba ∨ q = bb) 0 0 sb false ub ((i + f) % N) (by omega) y.1.1 y.1.2 y.2.1 y.2.2 bb W hB' hs hbitB)
      have HRst := Lib.hid (fun W hA2 hB2 hb => (⟨i + 1, hiN, by go_num, _, _, _, _, hA2, hB2, hFr2, hTu2, hb⟩ : SamR l N f ba bb w (.int .i64 ((i : Int) + 1)) W))
      have HBx := Lib.hid hB
      have Hbw := Lib.hid hbw
      have hrem3 : ((i : Int) + (f : Int)) = ((i + f : Nat) : Int) := by omega
      generalize hKe : (i + f) % N = K at *
      clear hKe
      have e1 : IntKind.i64.wrap ((i : Int) + 1) = (i : Int) + 1 := IntWalk.i64_in _ (by omega)
      have e2 : IntKind.i64.wrap ((i : Int) + (f : Int)) = (i : Int) + (f : Int) := IntWalk.i64_in _ (by omega)
      have e3 : IntKind.u8.wrap (i : Int) = (i : Int) := MbrP.wrap8 (by omega)
      have e4 : IntKind.u8.wrap (K : Int) = (K : Int) := MbrP.wrap8 (by omega)
      have hiz : (i : Int) < (n : Int) := by omega
      have hKz : (K : Int) < (n : Int) := by omega
      have q2 : decide ((i : Int) < (N : Int)) = true := decide_eq_true (by omega)
      clear hA hB hFr hTu hbw hc hx hy hsx hsy hbitA hbitB hFr2 hTu2 hrem3 HI
      simp only [bareC, FrameC.value] at HA1 HB1
      unfold hv at HA1 HB1
      go_wp2_with fail
      refine HA1.out.mono ?_
      rintro e w4 ⟨rfl, hA4, ha4⟩
      have hb4 := Hbw.out.trans (ha4.below Hbw.out.size (fun q e => by omega))
      obtain ⟨b1, o1, e1', -, hc4⟩ := HArg.out w4 hb4
      cases e1'
      have d0 : w4.cell? ⟨b0, o0 + K * 2, none⟩ = some (.int .u32 (y.1.1 : Nat)) := hc4 K y Hy.out 0 _ rfl
      have d1 : w4.cell? ⟨b0, o0 + K * 2 + 1, none⟩ = some (.int .u8 (y.1.2 : Nat)) := hc4 K y Hy.out 1 _ rfl
      have hB4 := HBx.out.apart ha4 (fun q e => .inl e) (by omega)
      have HB2 := Lib.hid (HB1.out w4 hB4 (fun q hq => by have h1 := hA4.hrd.size; have h2 := hB4.hrd.size; rcases hq with rfl | rfl <;> assumption))
      have Hb4 := Lib.hid hb4
      have HA4 := Lib.hid hA4
      clear hA4 ha4 hb4 hc4 hB4 HBx HB1 HA1 c0 c1 HArg Hbw
      go_wp2_with fail
      refine HB2.out.mono ?_
      rintro e w5 ⟨rfl, hB5, ha5⟩
      have HR := Lib.hid (HRst.out w5 (HA4.out.apart ha5 (fun q e => .inr e) (by omega)) hB5 (Hb4.out.trans (ha5.below Hb4.out.size (fun q e => by omega))))
      clear hB5 ha5 d0 d1 HA4 Hb4 HB2 HRst
      go_wp2_with fail
      go_roundw
      case rel => exact HR.out
      case measure => simp [intOf]; omega
    --GEN
    obtain rfl : i = N := by omega
    have hFb := hTu.front hN7 hfN
    have hsa := hA.hrd.small
    have hsb := hB.hrd.small
    obtain ⟨a1, a2, a3⟩ := hFr.right hsa hN7 false 0 0
    obtain ⟨b1, b2, b3⟩ := hFb.right hsb hN7 false 0 0
    have hfl := (full_fin ⟨i, by omega⟩).2.1
    simp only at hfl
    have HRa := Lib.hid (fun W (hW : Below wr.heap.size wr W) => hright_any 0 0 sa false ua ba W (hA.hrd.below hW))
    have HRb := Lib.hid (fun W (hW : Below wr.heap.size wr W) => hright_any 0 0 sb false ub bb W (hB.hrd.below hW))
    have HMa := Lib.hid (fun W (hW : Hrd W ba 0 0 false sa ua) => hmembers_any 0 0 sa false ua ba W hW)
    have HMb := Lib.hid (fun W (hW : Below wr.heap.size wr W) => hmembers_any 0 0 sb false ub bb W (hB.hrd.below hW))
    rw [a2] at HRa
    rw [b2] at HRb
    rw [a2, a3] at HMa
    rw [b2, b3] at HMb
    have HAc := Lib.hid (fun W (hW : Below wr.heap.size wr W) => hA.below hW)
    have Hbw := Lib.hid hbw
    have HF2 := Lib.hid (fun (s' : Nat) (u' : Nat → Nat × Nat) (hs' : s' < 128) (h' : Front (stAt l) i s' u') known mr mm => h'.right hs' hN7 known mr mm)
    have hmo : ∀ x, rightS false 0 0 (full i) (stAt l) = some x → i < 2 * MbrP.len8 (memS (full i) (stAt l) (some x)) := fun x hx => by have := most_half hx; rw [hfl, List.length_range] at this; exact this
    have hm8 : ∀ o, memS (full i) (stAt l) o < 256 := fun o => by
      cases o with
      | none => exact (by decide : (0 : Nat) < 256)
      | some x => exact Nat.lt_trans (MbrP.sub_in _ _) (by decide)
    have HLen := Lib.hid (fun o W => len_any (memS (full i) (stAt l) o) (hm8 o) W)
    have q1n : decide ((i : Int) < 1) = false := decide_eq_false (by omega)
    have q2 : decide ((i : Int) < (i : Int)) = false := decide_eq_false (by omega)
    unfold RightP at HRa HRb
    unfold MemP at HMa HMb
    unfold PureM at HLen
    clear hA hB hFr hTu hFb hbw hsa hsb a1 a2 a3 b1 b2 b3 hfl hm8 hi hiN
    cases hR : rightS false 0 0 (full i) (stAt l) with
    | none =>
      rw [hR] at HRa HRb HMa HMb
      unfold rightV stampV at HRa HRb
      simp only [memS] at HMa HMb
      have C9r := Lib.hid (C9.out 0 0)
      clear hR HLen hmo C9
      unfold hv at HRa HRb HMa HMb
      unfold setV at HMa HMb
      go_wp2_with fail
      refine (HRa.out _ (Below.refl _ _)).mono ?_
      rintro e w4 ⟨rfl, hb4⟩
      have HBa := Lib.hid (fun o => hb4.alloc hb4.size o)
      have hs4 := hb4.size
      clear hb4
      go_wp2_with fail
      refine (HRb.out _ (HBa.out _)).mono ?_
      rintro e w5 ⟨rfl, hb5⟩
      have hn5 := (hb5.block w4.heap.size (by simp)).trans (heap_alloc_new w4 (.cells #[.int .u32 0, .int .u8 0] 36))
      have HBb := Lib.hid (fun o => ((HBa.out (.cells #[.int .u32 0, .int .u8 0] 36)).trans (hb5.mono (by simp; omega))).alloc (by have := hb5.size; simp at this; omega) o)
      have hs5 : w4.heap.size < w5.heap.size := lt_of_block hn5
      have Hn5 := Lib.hid hn5
      have x0 : w5.cell? ⟨w4.heap.size, 0, none⟩ = some (.int .u32 0) := cell_at hn5 0 rfl
      have x1 : w5.cell? ⟨w4.heap.size, 1, none⟩ = some (.int .u8 0) := cell_at hn5 1 rfl
      clear hb5 hn5 HBa HRa HRb
      go_wp2_with fail
      refine (HMa.out _ (HAc.out _ (HBb.out _)).hrd).mono ?_
      rintro e w6 ⟨rfl, hb6⟩
      have HB6 := Lib.hid ((HBb.out (.cells #[.int .u32 0, .int .u8 0] 36)).trans (hb6.mono (HBb.out _).size))
      have hn6 := (hb6.block w4.heap.size (by simp; omega)).trans ((Below.heap_alloc _ _ _ hs5).trans Hn5.out)
      have Hn6 := Lib.hid hn6
      clear hb6 hn6 Hn5 HBb x0 x1
      go_wp2_with fail
      refine (HMb.out _ HB6.out).mono ?_
      rintro e w7 ⟨rfl, hb7⟩
      have HB7 := Lib.hid (HB6.out.trans (hb7.mono HB6.out.size))
      have Hn7 := Lib.hid ((hb7.block w4.heap.size (lt_of_block Hn6.out)).trans Hn6.out)
      clear hb7 HB6 HMb Hn6
      go_wp2_with fail
      refine (HMa.out _ (HAc.out _ HB7.out).hrd).mono ?_
      rintro e w8 ⟨rfl, hb8⟩
      have HB8 := Lib.hid (HB7.out.trans (hb8.mono HB7.out.size))
      have hn8' := (hb8.block w4.heap.size (lt_of_block Hn7.out)).trans Hn7.out
      clear hb8 HB7 Hn7
      have x0 : w8.cell? ⟨w4.heap.size, 0, none⟩ = some (.int .u32 0) := cell_at hn8' 0 rfl
      have x1 : w8.cell? ⟨w4.heap.size, 1, none⟩ = some (.int .u8 0) := cell_at hn8' 1 rfl
      clear hn8'
      go_wp2_with fail
      refine (C9r.out _).mono ?_
      rintro e w10 ⟨bc, rfl, hc10, hbc, hb10⟩
      have hAw := HAc.out _ HB8.out
      have HB10 := Lib.hid (HB8.out.trans (hb10.mono HB8.out.size))
      have hsw2 : w.heap.size ≤ bc := Nat.le_trans Hbw.out.size (Nat.le_trans HB8.out.size hbc)
      have hsab := hAw.hrd.size
      have HS1 : Hid (SamC l i ba bc (0) (0) sa ua w (.int .i64 0) w10) := Lib.hid ⟨0, Nat.zero_le _, rfl, 0, _, hc10 _, ((hAw.new (G := fun q => q = bc) (fun q e => by omega)).below hb10).mono (fun q e => .inr e), Front.start _ _, Hbw.out.trans (HB10.out.mono Hbw.out.size)⟩
      have hba2 : ba < bc := by omega
      clear hc10 hb10 hAw HB10 HB8 HAc C9r x0 x1 Hbw
      go_wp2_with fail
      go_loopw [15] (SamC l i ba bc (0) (0) sa ua w) (fun j _ => (i + 1 - intOf j).toNat)
      case atStart => exact HS1.out
      case round =>
        clear HS1
        obtain ⟨j, hj, rfl, sc, uc, hC, hA2, hFr, hbw⟩ := hrel
        by_cases hjN : j < i
        case pos =>
          clear HMa HF2
          obtain ⟨z, hz⟩ : ∃ z, l[j]? = some z := ⟨_, List.getElem?_eq_getElem (by rw [Hl.out]; omega)⟩
          have hsz := stAt_is hz
          have hbit : sc.testBit j = false := by rw [hFr.bits j (by omega)]; simp
          have hFr2 := hFr.step (by omega)
          rw [hsz] at hFr2
          obtain ⟨b0, o0, rfl, -, hc⟩ := HI.out wr hbw (by rw [Hl.out]; omega)
          have c0 : wr.cell? ⟨b0, o0 + j * 2, none⟩ = some (.int .u32 (z.1.1 : Nat)) := hc j z hz 0 _ rfl
          have c1 : wr.cell? ⟨b0, o0 + j * 2 + 1, none⟩ = some (.int .u8 (z.1.2 : Nat)) := hc j z hz 1 _ rfl
          have HC1 := Lib.hid (fhear_any (fun _ => False) (0) (0) sc true uc j (by omega) z.1.1 z.1.2 z.2.1 z.2.2 bc wr hC (fun q hq => hq.elim) hbit)
          have HRst := Lib.hid (fun W hC2 ha => (⟨j + 1, hjN, by go_num, _, _, hC2, hA2.apart ha (fun q e => e) (by omega), hFr2, hbw.trans (ha.below hbw.size (fun q e => by omega))⟩ : SamC l i ba bc (0) (0) sa ua w (.int .i64 ((j : Int) + 1)) W))
          have e1 : IntKind.i64.wrap ((j : Int) + 1) = (j : Int) + 1 := IntWalk.i64_in _ (by omega)
          have e3 : IntKind.u8.wrap (j : Int) = (j : Int) := MbrP.wrap8 (by omega)
          have hjz : (j : Int) < (n : Int) := by omega
          have q3 : decide ((j : Int) < (i : Int)) = true := decide_eq_true (by omega)
          clear hC hA2 hFr hbw hc hz hsz hbit hFr2 HI
          simp only [bareC, FrameC.value] at HC1
          unfold hv at HC1
          go_wp2_with fail
          refine HC1.out.mono ?_
          rintro e w11 ⟨rfl, hC11, ha11⟩
          have HR := Lib.hid (HRst.out w11 hC11 ha11)
          clear hC11 ha11 c0 c1 HC1 HRst
          go_wp2_with fail
          go_roundw
          case rel => exact HR.out
          case measure => simp [intOf]; omega
        obtain rfl : j = i := by omega
        have Hf := Lib.hid hbw
        clear hC hA2 hFr hbw HI HMa HF2
        go_wp2_with fail
        go_ret
        exact ⟨rfl, Hf.out⟩
    | some x =>
      obtain ⟨xr, xm⟩ := x
      have hm2 := hmo _ hR
      have hl8 := len8_le (memS (full i) (stAt l) (some (xr, xm)))
      have HLx := Lib.hid (HLen.out (some (xr, xm)))
      rw [hR] at HRa HRb HMa HMb
      unfold rightV stampV at HRa HRb
      simp only at HRa HRb
      generalize hme : memS (full i) (stAt l) (some (xr, xm)) = me at *
      unfold setV at HLx
      generalize MbrP.len8 me = le at *
      have e5 : IntKind.i64.wrap (2 * (le : Int)) = 2 * (le : Int) := IntWalk.i64_in _ (by omega)
      have e6 : decide (2 * (le : Int) ≤ (i : Int)) = false := decide_eq_false (by omega)
      have C9r := Lib.hid (C9.out xr xm)
      clear hR HLen hmo C9
      unfold hv at HRa HRb HMa HMb
      unfold setV at HMa HMb
      go_wp2_with fail
      refine (HRa.out _ (Below.refl _ _)).mono ?_
      rintro e w4 ⟨rfl, hb4⟩
      have HBa := Lib.hid (fun o => hb4.alloc hb4.size o)
      have hs4 := hb4.size
      clear hb4
      go_wp2_with fail
      refine (HRb.out _ (HBa.out _)).mono ?_
      rintro e w5 ⟨rfl, hb5⟩
      have hn5 := (hb5.block w4.heap.size (by simp)).trans (heap_alloc_new w4 (.cells #[.int .u32 (xr : Nat), .int .u8 (xm : Nat)] 36))
      have HBb := Lib.hid (fun o => ((HBa.out (.cells #[.int .u32 (xr : Nat), .int .u8 (xm : Nat)] 36)).trans (hb5.mono (by simp; omega))).alloc (by have := hb5.size; simp at this; omega) o)
      have hs5 : w4.heap.size < w5.heap.size := lt_of_block hn5
      have Hn5 := Lib.hid hn5
      have x0 : w5.cell? ⟨w4.heap.size, 0, none⟩ = some (.int .u32 (xr : Nat)) := cell_at hn5 0 rfl
      have x1 : w5.cell? ⟨w4.heap.size, 1, none⟩ = some (.int .u8 (xm : Nat)) := cell_at hn5 1 rfl
      clear hb5 hn5 HBa HRa HRb
      go_wp2_with fail
      refine (HMa.out _ (HAc.out _ (HBb.out _)).hrd).mono ?_
      rintro e w6 ⟨rfl, hb6⟩
      have HB6 := Lib.hid ((HBb.out (.cells #[.int .u32 (xr : Nat), .int .u8 (xm : Nat)] 36)).trans (hb6.mono (HBb.out _).size))
      have hn6 := (hb6.block w4.heap.size (by simp; omega)).trans ((Below.heap_alloc _ _ _ hs5).trans Hn5.out)
      have Hn6 := Lib.hid hn6
      clear hb6 hn6 Hn5 HBb x0 x1
      go_wp2_with fail
      refine (HMb.out _ HB6.out).mono ?_
      rintro e w7 ⟨rfl, hb7⟩
      have HB7 := Lib.hid (HB6.out.trans (hb7.mono HB6.out.size))
      have Hn7 := Lib.hid ((hb7.block w4.heap.size (lt_of_block Hn6.out)).trans Hn6.out)
      clear hb7 HB6 HMb Hn6
      go_wp2_with fail
      refine (HMa.out _ (HAc.out _ HB7.out).hrd).mono ?_
      rintro e w8 ⟨rfl, hb8⟩
      have HB8 := Lib.hid (HB7.out.trans (hb8.mono HB7.out.size))
      have hn8' := (hb8.block w4.heap.size (lt_of_block Hn7.out)).trans Hn7.out
      clear hb8 HB7 Hn7
      have x0 : w8.cell? ⟨w4.heap.size, 0, none⟩ = some (.int .u32 (xr : Nat)) := cell_at hn8' 0 rfl
      have x1 : w8.cell? ⟨w4.heap.size, 1, none⟩ = some (.int .u8 (xm : Nat)) := cell_at hn8' 1 rfl
      clear hn8'
      go_wp2_with fail
      refine (HLx.out _).mono ?_
      rintro e w9 ⟨rfl, rfl⟩
      go_wp2_with fail
      refine (C9r.out _).mono ?_
      rintro e w10 ⟨bc, rfl, hc10, hbc, hb10⟩
      have hAw := HAc.out _ HB8.out
      have HB10 := Lib.hid (HB8.out.trans (hb10.mono HB8.out.size))
      have hsw2 : w.heap.size ≤ bc := Nat.le_trans Hbw.out.size (Nat.le_trans HB8.out.size hbc)
      have hsab := hAw.hrd.size
      have HS1 : Hid (SamC l i ba bc (xr) (xm) sa ua w (.int .i64 0) w10) := Lib.hid ⟨0, Nat.zero_le _, rfl, 0, _, hc10 _, ((hAw.new (G := fun q => q = bc) (fun q e => by omega)).below hb10).mono (fun q e => .inr e), Front.start _ _, Hbw.out.trans (HB10.out.mono Hbw.out.size)⟩
      have hba2 : ba < bc := by omega
      clear hc10 hb10 hAw HB10 HB8 HAc C9r x0 x1 Hbw
      go_wp2_with fail
      go_loopw [15] (SamC l i ba bc (xr) (xm) sa ua w) (fun j _ => (i + 1 - intOf j).toNat)
      case atStart => exact HS1.out
      case round =>
        clear HS1
        obtain ⟨j, hj, rfl, sc, uc, hC, hA2, hFr, hbw⟩ := hrel
        by_cases hjN : j < i
        case pos =>
          clear HMa HF2 HLx hme
          obtain ⟨z, hz⟩ : ∃ z, l[j]? = some z := ⟨_, List.getElem?_eq_getElem (by rw [Hl.out]; omega)⟩
          have hsz := stAt_is hz
          have hbit : sc.testBit j = false := by rw [hFr.bits j (by omega)]; simp
          have hFr2 := hFr.step (by omega)
          rw [hsz] at hFr2
          obtain ⟨b0, o0, rfl, -, hc⟩ := HI.out wr hbw (by rw [Hl.out]; omega)
          have c0 : wr.cell? ⟨b0, o0 + j * 2, none⟩ = some (.int .u32 (z.1.1 : Nat)) := hc j z hz 0 _ rfl
          have c1 : wr.cell? ⟨b0, o0 + j * 2 + 1, none⟩ = some (.int .u8 (z.1.2 : Nat)) := hc j z hz 1 _ rfl
          have HC1 := Lib.hid (fhear_any (fun _ => False) (xr) (xm) sc true uc j (by omega) z.1.1 z.1.2 z.2.1 z.2.2 bc wr hC (fun q hq => hq.elim) hbit)
          have HRst := Lib.hid (fun W hC2 ha => (⟨j + 1, hjN, by go_num, _, _, hC2, hA2.apart ha (fun q e => e) (by omega), hFr2, hbw.trans (ha.below hbw.size (fun q e => by omega))⟩ : SamC l i ba bc (xr) (xm) sa ua w (.int .i64 ((j : Int) + 1)) W))
          have e1 : IntKind.i64.wrap ((j : Int) + 1) = (j : Int) + 1 := IntWalk.i64_in _ (by omega)
          have e3 : IntKind.u8.wrap (j : Int) = (j : Int) := MbrP.wrap8 (by omega)
          have hjz : (j : Int) < (n : Int) := by omega
          have q3 : decide ((j : Int) < (i : Int)) = true := decide_eq_true (by omega)
          clear hC hA2 hFr hbw hc hz hsz hbit hFr2 HI
          simp only [bareC, FrameC.value] at HC1
          unfold hv at HC1
          go_wp2_with fail
          refine HC1.out.mono ?_
          rintro e w11 ⟨rfl, hC11, ha11⟩
          have HR := Lib.hid (HRst.out w11 hC11 ha11)
          clear hC11 ha11 c0 c1 HC1 HRst
          go_wp2_with fail
          go_roundw
          case rel => exact HR.out
          case measure => simp [intOf]; omega
        obtain rfl : j = i := by omega
        obtain ⟨g1, g2, g3⟩ := HF2.out sc uc hC.hrd.small hFr true xr xm
        have HMc := Lib.hid (hmembers_any xr xm sc true uc bc wr hC.hrd)
        rw [g2, g3, show rightS true xr xm (full j) (stAt l) = some (xr, xm) from rfl, hme] at HMc
        unfold MemP hv setV at HMc
        have Hf := Lib.hid hbw
        have HA3 := Lib.hid (fun W (hW : Below wr.heap.size wr W) => hA2.hrd.below hW)
        clear hC hA2 hFr hbw HI HF2 g1 g2 g3 hme
        go_wp2_with fail
        refine HMc.out.mono ?_
        rintro e w12 ⟨rfl, hb12⟩
        have HMd := Lib.hid (HMa.out w12 (HA3.out w12 hb12))
        have Hf12 := Lib.hid (Hf.out.trans (hb12.mono Hf.out.size))
        clear hb12 HMa HA3 HMc
        go_wp2_with fail
        refine HMd.out.mono ?_
        rintro e w13 ⟨rfl, hb13⟩
        have Hf13 := Lib.hid (Hf12.out.trans (hb13.mono Hf12.out.size))
        clear hb13
        go_wp2_with fail
        go_ret
        exact ⟨rfl, Hf13.out⟩
end Go.Proofs.Ytkahecdnmeofkaa
