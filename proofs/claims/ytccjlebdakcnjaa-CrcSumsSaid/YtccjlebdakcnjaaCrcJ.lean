/- CrcLinear: the walk of the law at bytes in memory. Conditions: where the bytes lie. -/
import Derived.Test.YtccjlebdakcnjaaCrcI
import Derived.WalkLawsBesides
import Derived.StillTailTactics
namespace Go.Proofs.Ytccjlebdakcnjaa
open Go.RowKit

def lin3 (x y z : List UInt8) (q : Nat) : List UInt8 := (List.range q).map fun i => UInt8.ofNat ((x.getD i 0).toNat ^^^ (y.getD i 0).toNat ^^^ (z.getD i 0).toNat)

def LinRel (x y z : List UInt8) (q : Nat) (v : Value) (W : World) (i : Value) (wr : World) : Prop :=
  ∃ k, k ≤ q ∧ i = .int .i64 (k : Nat) ∧ wr.ownsRow W.heap.size 5 1 v q (bytesV (lin3 x y z k) ++ List.replicate (q - k) (.int .u8 0)) ∧ Below W.heap.size W wr

theorem lin_len (x y z : List UInt8) (k : Nat) : (lin3 x y z k).length = k := by simp [lin3]
theorem lin_start {x y z : List UInt8} {q g : Nat} {w : World} {B : Nat} (h : w.ownsRow B 5 1 (.slice (some ⟨g, 0, none⟩) q q) q (madeCells (Value.int .u8 0).cells (q * 1)).toList) :
    w.ownsRow B 5 1 (.slice (some ⟨g, 0, none⟩) q q) q (bytesV (lin3 x y z 0) ++ List.replicate (q - 0) (.int .u8 0)) := by
  have e : (madeCells (Value.int .u8 0).cells (q * 1)).toList = List.replicate q (.int .u8 0) := by
    rw [Nat.mul_one]; exact toList_madeCells_one _ _
  rw [e] at h
  simpa [lin3, bytesV] using h
theorem lin_cell {x y z : List UInt8} {q g k : Nat} {w : World} {B : Nat} (h : w.ownsRow B 5 1 (.slice (some ⟨g, 0, none⟩) q q) q (bytesV (lin3 x y z k) ++ List.replicate (q - k) (.int .u8 0))) (hk : k < q) :
    w.cell? ⟨g, k, none⟩ = some (.int .u8 0) := by
  rw [h.cellAt k (by omega), List.getElem?_append_right (by rw [bytesV_length, lin_len]; omega), bytesV_length, lin_len, Nat.sub_self]
  rw [List.getElem?_replicate, if_pos (by omega)]
theorem lin_step {x y z : List UInt8} {q g k : Nat} {w W : World} (h : w.ownsRow W.heap.size 5 1 (.slice (some ⟨g, 0, none⟩) q q) q (bytesV (lin3 x y z k) ++ List.replicate (q - k) (.int .u8 0))) (hk : k < q)
    (hx : k < x.length) (hy : k < y.length) (hz : k < z.length) (hb : Below W.heap.size W w) :
    ∀ w', w' = w.drew.setCell ⟨g, k, none⟩ (.int .u8 (bits .xor .u8 (bits .xor .u8 (x[k].toNat : Nat) (y[k].toNat : Nat)) (z[k].toNat : Nat))) → LinRel x y z q (.slice (some ⟨g, 0, none⟩) q q) W (.int .i64 ((k : Int) + 1)) w' := by
  rintro w' rfl
  have hlt := h.lt g rfl
  have hx2 := x[k].toNat_lt
  have hy2 := y[k].toNat_lt
  have hz2 := z[k].toNat_lt
  have e1 : bits .xor .u8 (bits .xor .u8 (x[k].toNat : Nat) (y[k].toNat : Nat)) (z[k].toNat : Nat) = ((x[k].toNat ^^^ y[k].toNat ^^^ z[k].toNat : Nat) : Int) := by
    rw [u8_xor_nat _ _ hx2 hy2, u8_xor_nat _ _ (Nat.xor_lt_two_pow (n := 8) hx2 hy2) hz2]
  have e2 : x[k].toNat ^^^ y[k].toNat ^^^ z[k].toNat < 256 := Nat.xor_lt_two_pow (n := 8) (Nat.xor_lt_two_pow (n := 8) hx2 hy2) hz2
  refine ⟨k + 1, by omega, by go_num, ?_, hb.drew.setCell hlt.1 _⟩
  have hs := (h.drew.stored k (.int .u8 (bits .xor .u8 (bits .xor .u8 (x[k].toNat : Nat) (y[k].toNat : Nat)) (z[k].toNat : Nat)))).1
  have e3 : (bytesV (lin3 x y z k) ++ List.replicate (q - k) (Value.int .u8 0)).set k (.int .u8 (bits .xor .u8 (bits .xor .u8 (x[k].toNat : Nat) (y[k].toNat : Nat)) (z[k].toNat : Nat))) = bytesV (lin3 x y z (k + 1)) ++ List.replicate (q - (k + 1)) (.int .u8 0) := by
    rw [List.set_append_right _ _ (by rw [bytesV_length, lin_len]; omega), bytesV_length, lin_len, Nat.sub_self, show q - k = (q - (k + 1)) + 1 from by omega, List.replicate_succ, List.set_cons_zero, e1]
    have e4 : lin3 x y z (k + 1) = lin3 x y z k ++ [UInt8.ofNat (x[k].toNat ^^^ y[k].toNat ^^^ z[k].toNat)] := by
      simp [lin3, List.range_succ, List.getD, hx, hy, hz]
    rw [e4, bytesV_append, List.append_assoc]
    congr 1
    simp [bytesV]
  rw [e3] at hs
  exact hs

/-- What Sum answers at these bytes, however often the world has drawn. -/
def SumIs (w : World) (D : Option Addr) (n s : Nat) : Prop := ∀ k cap, Calls Try.prog 12 #[.slice D n cap] (w.drewN k) fun e w' => e = .returned (.int .u32 s) ∧ w.drewN k = w'
theorem sum_is_of {w : World} {B : Nat} {D : Option Addr} {l : List UInt8} {n : Nat} (h : Bytes w B D l) (hn : l.length = n) (hB : B ≤ w.heap.size) (hl : n ≤ 1000000) : SumIs w D n (CrcP.sum l) := fun k cap => by
  subst hn
  exact sum_any D l cap (w.drewN k) (by omega) (h.more hB)
theorem sum_is {w : World} {D : Option Addr} {n s : Nat} (h : Hid (SumIs w D n s)) (k cap : Nat) : Calls Try.prog 12 #[.slice D n cap] (w.drewN k) fun e w' => e = .returned (.int .u32 s) ∧ w.drewN k = w' := h.out k cap

theorem xor_shift (a b : Nat) : 256 * (a ^^^ b) = 256 * a ^^^ 256 * b := by
  apply Nat.eq_of_testBit_eq
  intro i
  rw [show (256 : Nat) = 2 ^ 8 from rfl]
  simp only [Nat.testBit_two_pow_mul, Nat.testBit_xor]
  by_cases h : 8 ≤ i <;> simp [h]

theorem num_lin : ∀ (q : Nat) (x y z : List UInt8), q ≤ x.length → q ≤ y.length → q ≤ z.length → CrcP.num (lin3 x y z q) = CrcP.num (x.take q) ^^^ CrcP.num (y.take q) ^^^ CrcP.num (z.take q)
  | 0, _, _, _, _, _, _ => by simp [lin3, CrcP.num]
  | q + 1, [], _, _, h, _, _ => absurd h (by simp)
  | q + 1, _ :: _, [], _, _, h, _ => absurd h (by simp)
  | q + 1, _ :: _, _ :: _, [], _, _, h => absurd h (by simp)
  | q + 1, a :: x, b :: y, c :: z, h1, h2, h3 => by
    have ih := num_lin q x y z (by simpa using h1) (by simpa using h2) (by simpa using h3)
    have ha := a.toNat_lt
    have hb := b.toNat_lt
    have hc := c.toNat_lt
    have hx : a.toNat ^^^ b.toNat ^^^ c.toNat < 256 := Nat.xor_lt_two_pow (n := 8) (Nat.xor_lt_two_pow (n := 8) ha hb) hc
    have e : lin3 (a :: x) (b :: y) (c :: z) (q + 1) = UInt8.ofNat (a.toNat ^^^ b.toNat ^^^ c.toNat) :: lin3 x y z q := by
      simp [lin3, List.range_succ_eq_map, Function.comp_def]
    have e2 : (UInt8.ofNat (a.toNat ^^^ b.toNat ^^^ c.toNat)).toNat = a.toNat ^^^ b.toNat ^^^ c.toNat := by
      rw [UInt8.toNat_ofNat']
      exact Nat.mod_eq_of_lt hx
    rw [e]
    simp only [List.take_succ_cons, CrcP.num]
    rw [e2, CrcP.add_xor _ _ hx, CrcP.add_xor _ _ ha, CrcP.add_xor _ _ hb, CrcP.add_xor _ _ hc, ih, xor_shift, xor_shift]
    generalize 256 * CrcP.num (x.take q) = X
    generalize 256 * CrcP.num (y.take q) = Y
    generalize 256 * CrcP.num (z.take q) = Z
    apply Nat.eq_of_testBit_eq
    intro i
    simp only [Nat.testBit_xor]
    cases a.toNat.testBit i <;> cases b.toNat.testBit i <;> cases c.toNat.testBit i <;> cases X.testBit i <;> cases Y.testBit i <;> cases Z.testBit i <;> rfl

theorem lin_sum (x y z : List UInt8) (q : Nat) (h1 : q ≤ x.length) (h2 : q ≤ y.length) (h3 : q ≤ z.length) :
    (((CrcP.sum (lin3 x y z q) : Nat) : Int) == bits .xor .u32 (bits .xor .u32 (CrcP.sum (x.take q) : Nat) (CrcP.sum (y.take q) : Nat)) (CrcP.sum (z.take q) : Nat)) = true := by
  have h := CrcP.sum_three (x := lin3 x y z q) (a := x.take q) (b := y.take q) (c := z.take q) (by simp [lin_len]; omega) (by simp [lin_len]; omega) (by simp [lin_len]; omega) (num_lin q x y z h1 h2 h3)
  have l1 := CrcP.sum_lt (x.take q)
  have l2 := CrcP.sum_lt (y.take q)
  have l3 := CrcP.sum_lt (z.take q)
  rw [u32_xor_nat _ _ l1 l2, u32_xor_nat _ _ (Nat.xor_lt_two_pow (n := 32) l1 l2) l3, h]
  simp

set_option maxHeartbeats 800000 in
theorem linear_few (A B C : Option Addr) (x y z : List UInt8) (n m k q c1 c2 c3 : Nat) (hn : x.length = n) (hm : y.length = m) (hk : z.length = k) (hc1 : n ≤ c1) (hc2 : m ≤ c2) (hc3 : k ≤ c3) (w : World) (hx : Bytes w w.heap.size A x) (hy : Bytes w w.heap.size B y) (hz : Bytes w w.heap.size C z)
    (hmin : (if (k : Int) < (if m < n then (m : Int) else (n : Int)) then (k : Int) else (if m < n then (m : Int) else (n : Int))) = (q : Int)) (hq : q ≤ 3000) (h1 : q ≤ n) (h2 : q ≤ m) (h3 : q ≤ k) :
    Calls Try.prog 6 #[.slice A n c1, .slice B m c2, .slice C k c3] w (AwakePost w) := by
  have HA := Lib.hid (awake_any w)
  have Hn := Lib.hid hn
  have Hm := Lib.hid hm
  have Hk := Lib.hid hk
  have Hx := Lib.hid hx
  have Hy := Lib.hid hy
  have Hz := Lib.hid hz
  have G1 := Lib.hid h1
  have G2 := Lib.hid h2
  have G3 := Lib.hid h3
  obtain ⟨i0, hi, hz0, hz1, hz2⟩ := info_parts infoB
  clear hn hm hk hx hy hz h1 h2 h3
  go_enter Try.func6, Try.ntmps6
  go_wp2_with fail
  refine HA.out.mono ?_
  rintro e w1 ⟨rfl, hb1⟩
  have Hb1 := Lib.hid hb1
  clear hb1
  go_wp2_with (at_make
               refine wpList_make_full _ rfl _ _ _ rfl w1.heap.size 5 i0 (.int .u8 0) 1 Try.underlying22 hi hz0 hz1 .i64 .i64 _ _ q rfl rfl rfl rfl ?c2 ?c3 ?c4 ?_
               case c2 => rw [hz2]; omega
               case c3 => unfold maxLen; omega
               case c4 => exact Nat.le_refl _
               intro w2 hown1 hg1
               have Ho1 := Lib.hid hown1
               have Hb2 := Lib.hid ((Below.refl w1.heap.size w1).grown hg1 (Nat.le_refl _) (by simp))
               clear hown1 hg1)
  have HR : Hid (LinRel x y z q (.slice (some ⟨w1.heap.size, 0, none⟩) q q) w1 (.int .i64 0) w2) := Lib.hid ⟨0, by omega, rfl, lin_start Ho1.out, Hb2.out⟩
  go_loopw [25] (fun i wr => LinRel x y z q (.slice (some ⟨w1.heap.size, 0, none⟩) q q) w1 i wr) (fun i _ => (q - intOf i).toNat)
  case atStart => exact HR.out
  case round =>
    clear HR Ho1 Hb2 hi hz0 hz1 hz2 hmin
    obtain ⟨j, hj, rfl, ho, hb⟩ := hrel
    have Hw := Lib.hid (Hb1.out.trans (hb.mono Hb1.out.size))
    by_cases hlt : j < q
    · obtain ⟨bx, ox, rfl, -, hcx⟩ := (Hx.out.below Hw.out (Nat.le_refl _)).at_ (k := j) (by rw [Hn.out]; have := G1.out; omega)
      obtain ⟨by_, oy, rfl, -, hcy⟩ := (Hy.out.below Hw.out (Nat.le_refl _)).at_ (k := j) (by rw [Hm.out]; have := G2.out; omega)
      obtain ⟨bz, oz, rfl, -, hcz⟩ := (Hz.out.below Hw.out (Nat.le_refl _)).at_ (k := j) (by rw [Hk.out]; have := G3.out; omega)
      have g1 := Hn.out; have g2 := Hm.out; have g3 := Hk.out
      have f1 := G1.out; have f2 := G2.out; have f3 := G3.out
      have hs := lin_step (x := x) (y := y) (z := z) (W := w1) ho hlt (by omega) (by omega) (by omega) hb
      have HS := Lib.hid hs
      have hcell := lin_cell ho hlt
      have hfr := ho.frozenAt j
      have e1 : j < n := by omega
      have e2 : j < m := by omega
      have e3 : j < k := by omega
      generalize x[j].toNat = a at *
      generalize y[j].toNat = b at *
      generalize z[j].toNat = c at *
      clear ho hb hs g1 g2 g3
      go_wp2_with fail
      go_region
      go_wp2_with fail
      go_roundw
      case rel => exact HS.out _ rfl
      case measure => simp [intOf]; omega
    · obtain rfl : j = q := by omega
      have hxt : Hid (SumIs wr A j (CrcP.sum (x.take j))) := Lib.hid (sum_is_of ((Hx.out.below Hw.out (Nat.le_refl _)).take j) (by simp; have := Hn.out; have := G1.out; omega) Hw.out.size (by omega))
      have hyt : Hid (SumIs wr B j (CrcP.sum (y.take j))) := Lib.hid (sum_is_of ((Hy.out.below Hw.out (Nat.le_refl _)).take j) (by simp; have := Hm.out; have := G2.out; omega) Hw.out.size (by omega))
      have hzt : Hid (SumIs wr C j (CrcP.sum (z.take j))) := Lib.hid (sum_is_of ((Hz.out.below Hw.out (Nat.le_refl _)).take j) (by simp; have := Hk.out; have := G3.out; omega) Hw.out.size (by omega))
      have hvt : Hid (SumIs wr (some ⟨w1.heap.size, 0, none⟩) j (CrcP.sum (lin3 x y z j))) := Lib.hid (by
        rw [Nat.sub_self, List.replicate_zero, List.append_nil] at ho
        obtain ⟨A', cap', hv, hl, -, hby, -⟩ := own_bytes ho
        injection hv with e1
        subst e1
        exact sum_is_of hby hl (Nat.le_refl _) (by omega))
      have heq := Lib.hid (lin_sum x y z j (by rw [Hn.out]; exact G1.out) (by rw [Hm.out]; exact G2.out) (by rw [Hk.out]; exact G3.out))
      have f1 := G1.out; have f2 := G2.out; have f3 := G3.out
      have e1 : j ≤ c1 := by omega
      have e2 : j ≤ c2 := by omega
      have e3 : j ≤ c3 := by omega
      have hs1 := fun W => run_slice_to (P := Try.prog) W 22 5 Try.underlying22 (fun w => by kernel_rfl) A n c1 (j : Int) (by omega) (by omega)
      have hs2 := fun W => run_slice_to (P := Try.prog) W 22 5 Try.underlying22 (fun w => by kernel_rfl) B m c2 (j : Int) (by omega) (by omega)
      have hs3 := fun W => run_slice_to (P := Try.prog) W 22 5 Try.underlying22 (fun w => by kernel_rfl) C k c3 (j : Int) (by omega) (by omega)
      simp only [Int.toNat_natCast] at hs1 hs2 hs3
      generalize CrcP.sum (x.take j) = sx at *
      generalize CrcP.sum (y.take j) = sy at *
      generalize CrcP.sum (z.take j) = sz at *
      generalize CrcP.sum (lin3 x y z j) = sv at *
      have heq' := heq.out
      clear ho hb heq
      go_wp2_with fail
      go_quiet ((first
        | (go_at_call_of 12 A; exact quiet_left (sum_is hxt _ _))
        | (go_at_call_of 12 B; exact quiet_left (sum_is hyt _ _))
        | (go_at_call_of 12 C; exact quiet_left (sum_is hzt _ _))
        | (go_at_call 12; exact quiet_left (sum_is hvt _ _))))
      go_wp2_with fail
      go_ret
      exact ⟨rfl, below_drewN Hw.out _⟩

theorem linear_many (A B C : Option Addr) (n m k q c1 c2 c3 : Nat) (w : World)
    (hmin : (if (k : Int) < (if m < n then (m : Int) else (n : Int)) then (k : Int) else (if m < n then (m : Int) else (n : Int))) = (q : Int)) (hq : 3000 < q) :
    Calls Try.prog 6 #[.slice A n c1, .slice B m c2, .slice C k c3] w (AwakePost w) := by
  have HA := Lib.hid (awake_any w)
  go_enter Try.func6, Try.ntmps6
  go_wp2_with fail
  refine HA.out.mono ?_
  rintro e w1 ⟨rfl, hb1⟩
  have Hb1 := Lib.hid hb1
  clear hb1
  go_wp2_with fail
  go_ret
  exact ⟨rfl, Hb1.out⟩

theorem linear_law (A B C : Option Addr) (x y z : List UInt8) (n m k c1 c2 c3 : Nat) (hn : x.length = n) (hm : y.length = m) (hk : z.length = k) (hc1 : n ≤ c1) (hc2 : m ≤ c2) (hc3 : k ≤ c3) (w : World) (hx : Bytes w w.heap.size A x) (hy : Bytes w w.heap.size B y) (hz : Bytes w w.heap.size C z) :
    Calls Try.prog 6 #[.slice A n c1, .slice B m c2, .slice C k c3] w (AwakePost w) := by
  have hmin : ∃ q : Nat, (if (k : Int) < (if m < n then (m : Int) else (n : Int)) then (k : Int) else (if m < n then (m : Int) else (n : Int))) = (q : Int) ∧ q ≤ n ∧ q ≤ m ∧ q ≤ k := by
    by_cases h1 : m < n
    · by_cases h2 : k < m
      · exact ⟨k, by simp [h1, h2], by omega, by omega, by omega⟩
      · exact ⟨m, by simp [h1, h2], by omega, by omega, by omega⟩
    · by_cases h2 : k < n
      · exact ⟨k, by simp [h1, h2], by omega, by omega, by omega⟩
      · exact ⟨n, by simp [h1, h2], by omega, by omega, by omega⟩
  obtain ⟨q, hmin, h1, h2, h3⟩ := hmin
  by_cases hq : q ≤ 3000
  · exact linear_few A B C x y z n m k q c1 c2 c3 hn hm hk hc1 hc2 hc3 w hx hy hz hmin hq h1 h2 h3
  · exact linear_many A B C n m k q c1 c2 c3 w hmin (by omega)
end Go.Proofs.Ytccjlebdakcnjaa
