/- CrcBursts: the walk of the law at bytes in memory. Conditions: where the bytes lie. -/
import Derived.Test.YtccjlebdakcnjaaCrcJ
namespace Go.Proofs.Ytccjlebdakcnjaa
open Go.RowKit

theorem num_flip : ∀ (l : List UInt8) (p : Nat) (h : p / 8 < l.length), CrcP.num (l.set (p / 8) (UInt8.ofNat (l[p / 8].toNat ^^^ 2 ^ (p % 8)))) = CrcP.num l ^^^ 2 ^ p
  | [], _, h => absurd h (by simp)
  | c :: l, p, h => by
    have hc : c.toNat < 256 := c.toNat_lt
    have hp : 2 ^ (p % 8) < 256 := by
      have : 2 ^ (p % 8) < 2 ^ 8 := Nat.pow_lt_pow_right (by decide) (by omega)
      simpa using this
    rcases Nat.lt_or_ge p 8 with h8 | h8
    · have e1 : p / 8 = 0 := by omega
      have e2 : p % 8 = p := by omega
      have hx : c.toNat ^^^ 2 ^ p < 256 := by rw [e2] at hp; exact Nat.xor_lt_two_pow (n := 8) hc hp
      simp only [e1, e2, List.getElem_cons_zero, List.set_cons_zero, CrcP.num]
      rw [UInt8.toNat_ofNat', Nat.mod_eq_of_lt hx, CrcP.add_xor _ _ hx, CrcP.add_xor _ _ hc, Nat.xor_assoc, Nat.xor_comm (2 ^ p), ← Nat.xor_assoc]
    · obtain ⟨j, rfl⟩ : ∃ j, p = j + 8 := ⟨p - 8, by omega⟩
      have e1 : (j + 8) / 8 = j / 8 + 1 := by omega
      have e2 : (j + 8) % 8 = j % 8 := by omega
      have h' : j / 8 < l.length := by simp at h; omega
      have ih := num_flip l j h'
      simp only [e1, e2, List.getElem_cons_succ, List.set_cons_succ, CrcP.num, ih]
      rw [CrcP.add_xor _ _ hc, CrcP.add_xor _ _ hc, xor_shift, Nat.xor_assoc]
      congr 2
      rw [Nat.pow_add, Nat.mul_comm]

/-- What has been turned so far: m's bits, from bit t on; c of them. -/
def Turned (l0 : List UInt8) (t i : Nat) (c : Nat) (l : List UInt8) : Prop :=
  l.length = l0.length ∧ ∃ m, CrcP.num l = CrcP.num l0 ^^^ 2 ^ t * m ∧ m < 2 ^ i ∧ m < 2 ^ (8 * l0.length - t) ∧ (c = 0 ↔ m = 0)

theorem turned_start (l0 : List UInt8) (t : Nat) : Turned l0 t 0 0 l0 := ⟨rfl, 0, by simp, by simp, Nat.two_pow_pos _, by simp⟩
theorem turned_stay {l0 l : List UInt8} {t i c : Nat} (h : Turned l0 t i c l) : Turned l0 t (i + 1) c l := by
  obtain ⟨h1, m, h2, h3, h4, h5⟩ := h
  exact ⟨h1, m, h2, Nat.lt_of_lt_of_le h3 (Nat.pow_le_pow_right (by decide) (by omega)), h4, h5⟩
theorem turned_flip {l0 l : List UInt8} {t i c : Nat} (h : Turned l0 t i c l) (hk : t + i < 8 * l0.length) (hb : (t + i) / 8 < l.length) :
    Turned l0 t (i + 1) (c + 1) (l.set ((t + i) / 8) (UInt8.ofNat (l[(t + i) / 8].toNat ^^^ 2 ^ ((t + i) % 8)))) := by
  obtain ⟨h1, m, h2, h3, h4, h5⟩ := h
  have hx : m + 2 ^ i * 1 = m ^^^ 2 ^ i * 1 := CrcP.add_xor_pow i m 1 h3
  rw [Nat.mul_one] at hx
  have hp := Nat.two_pow_pos i
  refine ⟨by simpa using h1, m ^^^ 2 ^ i, ?_, ?_, ?_, ?_⟩
  · rw [num_flip l (t + i) hb, h2, Nat.xor_assoc]
    congr 1
    apply Nat.eq_of_testBit_eq
    intro j
    simp only [Nat.testBit_xor, Nat.testBit_two_pow_mul, Nat.testBit_two_pow]
    by_cases hj : t ≤ j
    · have e : (t + i = j) ↔ (i = j - t) := by omega
      simp [hj, e]
    · have e : ¬ (t + i = j) := by omega
      simp [hj, e]
  · rw [Nat.pow_succ]; rw [← hx]; omega
  · refine Nat.xor_lt_two_pow h4 (Nat.pow_lt_pow_right (by decide) (by omega))
  · rw [← hx]
    constructor
    · intro h; omega
    · intro h; omega
theorem turned_end {l0 l : List UInt8} {t c : Nat} (h : Turned l0 t 32 c l) (ht : t ≤ 8 * l0.length) (hs : CrcP.reg CrcP.ones l0 = CrcP.rest) : CrcP.reg CrcP.ones l = CrcP.rest ↔ c = 0 := by
  obtain ⟨h1, m, h2, h3, h4, h5⟩ := h
  rw [CrcP.burst h1 hs ht h3 h2 h4, h5]

theorem sealed_reg {l : List UInt8} (h : 4 ≤ l.length) : isSealed l ↔ CrcP.reg CrcP.ones l = CrcP.rest := by
  obtain ⟨m, hm⟩ : ∃ m, l.length = m + 4 := ⟨l.length - 4, by omega⟩
  have e : l = l.take m ++ l.drop m := (List.take_append_drop m l).symm
  have hq : (l.drop m).length = 4 := by simp; omega
  rw [e, sealed_iff hq, CrcP.reg_rest _ hq]
  unfold CrcP.seal4
  constructor
  · intro h; exact (List.append_cancel_left h).symm
  · intro h; rw [h]

theorem at_spot (a : Int) (n : Nat) (hn : n ≤ 3000) : ∃ t : Nat, t < 8 * (n + 4) ∧ wrap64 ((IntKind.u64.wrap a).tmod (8 * ((n : Int) + 4))) = (t : Int) := by
  have e : IntKind.u64.wrap a = a % 18446744073709551616 := by simp [IntKind.wrap, IntKind.bits, IntKind.signed]
  rw [e]
  have h0 : 0 ≤ a % 18446744073709551616 := Int.emod_nonneg _ (by decide)
  generalize a % 18446744073709551616 = b at *
  rw [Int.tmod_eq_emod_of_nonneg h0]
  have h1 : 0 ≤ b % (8 * ((n : Int) + 4)) := Int.emod_nonneg _ (by omega)
  have h2 : b % (8 * ((n : Int) + 4)) < 8 * ((n : Int) + 4) := Int.emod_lt_of_pos _ (by omega)
  generalize b % (8 * ((n : Int) + 4)) = d at *
  refine ⟨d.toNat, by omega, ?_⟩
  rw [IntWalk.wrap64_in d ⟨by omega, by omega⟩]
  omega

def BurstRel (l0 : List UInt8) (t g n cap : Nat) (W : World) (v8 v9 : Value) (wr : World) : Prop :=
  ∃ i c l', i ≤ 32 ∧ c ≤ i ∧ v9 = .int .i64 (i : Nat) ∧ v8 = .int .i64 (c : Nat) ∧ Turned l0 t i c l' ∧ wr.ownsRow W.heap.size 5 1 (.slice (some ⟨g, 0, none⟩) (n + 4) cap) (n + 4) (bytesV l') ∧ Below W.heap.size W wr

theorem burst_step {l0 l' : List UInt8} {t g n cap i c : Nat} {W wr : World} (hT : Turned l0 t i c l') (ho : wr.ownsRow W.heap.size 5 1 (.slice (some ⟨g, 0, none⟩) (n + 4) cap) (n + 4) (bytesV l')) (hb : Below W.heap.size W wr) (hi : i < 32) (hci : c ≤ i)
    (hk : t + i < 8 * (l0.length)) (hk8 : (t + i) / 8 < l'.length) :
    ∀ w', w' = wr.drew.setCell ⟨g, (t + i) / 8, none⟩ (.int .u8 ((l'[(t + i) / 8].toNat ^^^ 2 ^ ((t + i) % 8) : Nat) : Int)) → BurstRel l0 t g n cap W (.int .i64 ((c : Int) + 1)) (.int .i64 ((i : Int) + 1)) w' := by
  rintro w' rfl
  have hlt := ho.lt g rfl
  have hs := (ho.drew.stored ((t + i) / 8) (.int .u8 ((l'[(t + i) / 8].toNat ^^^ 2 ^ ((t + i) % 8) : Nat) : Int))).1
  refine ⟨i + 1, c + 1, _, by omega, by omega, by go_num, by go_num, turned_flip hT hk hk8, ?_, hb.drew.setCell hlt.1 _⟩
  have hx2 : l'[(t + i) / 8].toNat < 256 := l'[(t + i) / 8].toNat_lt
  have hp : 2 ^ ((t + i) % 8) < 256 := by
    have : 2 ^ ((t + i) % 8) < 2 ^ 8 := Nat.pow_lt_pow_right (by decide) (by omega)
    simpa using this
  have hx : l'[(t + i) / 8].toNat ^^^ 2 ^ ((t + i) % 8) < 256 := Nat.xor_lt_two_pow (n := 8) hx2 hp
  have e : bytesV (l'.set ((t + i) / 8) (UInt8.ofNat (l'[(t + i) / 8].toNat ^^^ 2 ^ ((t + i) % 8)))) = (bytesV l').set ((t + i) / 8) (.int .u8 ((l'[(t + i) / 8].toNat ^^^ 2 ^ ((t + i) % 8) : Nat) : Int)) := by
    unfold bytesV
    rw [List.map_set, UInt8.toNat_ofNat', Nat.mod_eq_of_lt hx]
  rw [e]
  exact hs

theorem flip_bits (x e : Nat) (hx : x < 256) (he : e < 8) : bits .xor .u8 (x : Int) (2 ^ e % 256) = ((x ^^^ 2 ^ e : Nat) : Int) := by
  have hp : 2 ^ e < 256 := by
    have : 2 ^ e < 2 ^ 8 := Nat.pow_lt_pow_right (by decide) he
    simpa using this
  have h2 : ((2 : Int) ^ e % 256) = ((2 ^ e : Nat) : Int) := by
    have : ((2 : Int) ^ e) = ((2 ^ e : Nat) : Int) := by simp
    rw [this]
    generalize 2 ^ e = y at *
    omega
  rw [h2, u8_xor_nat x _ hx hp]
theorem ret_bool {a b : Bool} (h : a = b) : Ending.returned (.bool a) = .returned (.bool b) := by rw [h]
theorem both_zero (c : Nat) : (decide (c = 0) == ((c : Int) == 0)) = true := by
  rcases Nat.eq_zero_or_pos c with rfl | h
  · rfl
  · have h1 : decide (c = 0) = false := by simp; omega
    have h2 : ((c : Int) == 0) = false := by rw [beq_eq_false_iff_ne]; omega
    rw [h1, h2]; rfl

/-- What opening the turned bytes answers. -/
def BurstEnd (c : Nat) (W wr : World) (e : Ending) (w' : World) : Prop := ∃ v, e = .returned (.tuple #[v, .bool (decide (c = 0))]) ∧ Below W.heap.size wr w'
theorem burst_open {A : Option Addr} {l' : List UInt8} {n cap c : Nat} {W wr : World} (hn : l'.length = n + 4) (hl : n + 4 ≤ 100000000) (hcap : n + 4 ≤ cap) (h : Bytes wr wr.heap.size A l') (hs : W.heap.size ≤ wr.heap.size) (hsl : isSealed l' ↔ c = 0) :
    Calls Try.prog 10 #[.slice A (n + 4) cap] wr (BurstEnd c W wr) := by
  refine (open_any A l' (n + 4) cap hn wr hl hcap h).mono ?_
  rintro e w' (⟨p, v, h1, h2, -, h4⟩ | ⟨h1, h2, h4⟩)
  · have hc : c = 0 := hsl.1 ⟨p, h1⟩
    exact ⟨v, by rw [h2, decide_eq_true hc], h4.mono hs⟩
  · have hc : ¬ c = 0 := fun hc => h1 (hsl.2 hc)
    exact ⟨_, by rw [h2, decide_eq_false hc], h4.mono hs⟩

set_option maxHeartbeats 800000 in
theorem bursts_few (A : Option Addr) (l : List UInt8) (n cap : Nat) (at_ : Int) (wd : Nat) (hn : l.length = n) (w : World) (h : Bytes w w.heap.size A l) (hn2 : n ≤ 3000) (hw0 : ((wd : Int) == 0) = false) :
    Calls Try.prog 5 #[.slice A n cap, .int .i64 at_, .int .u32 wd] w (AwakePost w) := by
  have HA := Lib.hid (awake_any w)
  have Hn := Lib.hid hn
  have H := Lib.hid h
  obtain ⟨t, ht, hat'⟩ := at_spot at_ n hn2
  have Hat := Lib.hid hat'
  clear hn h hat'
  go_enter Try.func5, Try.ntmps5
  go_wp2_with fail
  refine HA.out.mono ?_
  rintro e w1 ⟨rfl, hb1⟩
  have Hb1 := Lib.hid hb1
  clear hb1
  go_wp2_with fail
  refine (seal_any A l n cap Hn.out w1 (by omega) ((H.out.below Hb1.out (Nat.le_refl _)).more Hb1.out.size)).mono ?_
  rintro e w2 ⟨v, rfl, ho, hb2⟩
  obtain ⟨g, cap2, rfl, hg1, hg2⟩ := ho.form (by omega)
  rw [Hn.out] at ho
  rw [Hn.out]
  have Hb2 := Lib.hid (Hb1.out.trans (hb2.mono Hb1.out.size))
  have Hb12 := Lib.hid hb2
  have Ho := Lib.hid ho
  clear ho hb2
  have HR : Hid (BurstRel (CrcP.seal4 l) t g n cap2 w1 (.int .i64 0) (.int .i64 0) w2) := Lib.hid ⟨0, 0, _, by omega, by omega, rfl, rfl, turned_start _ t, Ho.out, Hb12.out⟩
  go_wp2_with fail
  rw [Hat.out]
  go_loopw [8, 9] (BurstRel (CrcP.seal4 l) t g n cap2 w1) (fun _ i _ => (32 - intOf i).toNat)
  case atStart => exact HR.out
  case round =>
    clear HR Hat
    obtain ⟨i, c, l', hi, hci, rfl, rfl, hT, ho, hb⟩ := hrel
    by_cases hlt : i < 32
    · have hll : l'.length = n + 4 := by have := ho.1; rw [bytesV_length] at this; omega
      cases hbit : (bits BinOp.and IntKind.u32 ((wd : Int) / 2 ^ i) 1 == 1) with
      | false =>
        have HS : Hid (BurstRel (CrcP.seal4 l) t g n cap2 w1 (.int .i64 (c : Nat)) (.int .i64 ((i : Int) + 1)) wr) := Lib.hid ⟨i + 1, c, l', by omega, by omega, by go_num, rfl, turned_stay hT, ho, hb⟩
        clear hT ho hb hll
        go_wp2_with fail
        go_roundw
        case rel => exact HS.out
        case measure => simp [intOf]; omega
      | true =>
        by_cases hk : t + i < 8 * (n + 4)
        · have hk8 : (t + i) / 8 < l'.length := by omega
          have hcell := ho.cellAt ((t + i) / 8) (by omega)
          rw [show (bytesV l')[(t + i) / 8]? = some (.int .u8 (l'[(t + i) / 8].toNat : Nat)) from by simp [bytesV, hk8]] at hcell
          have hfr := ho.frozenAt ((t + i) / 8)
          have HS : Hid (∀ w', w' = wr.drew.setCell ⟨g, (t + i) / 8, none⟩ (.int .u8 ((l'[(t + i) / 8].toNat ^^^ 2 ^ ((t + i) % 8) : Nat) : Int)) → BurstRel (CrcP.seal4 l) t g n cap2 w1 (.int .i64 ((c : Int) + 1)) (.int .i64 ((i : Int) + 1)) w') := Lib.hid (burst_step hT ho hb hlt hci (by rw [seal4_len, Hn.out]; exact hk) hk8)
          clear hT ho hb hll
          have hx2 : l'[(t + i) / 8].toNat < 256 := l'[(t + i) / 8].toNat_lt
          generalize l'[(t + i) / 8].toNat = x at *
          go_wp2_with fail
          go_region
          go_wp2_with fail
          go_roundw
          case rel => exact HS.out _ (by rw [flip_bits x ((t + i) % 8) hx2 (by omega)]; rfl)
          case measure => simp [intOf]; omega
        · have HS : Hid (BurstRel (CrcP.seal4 l) t g n cap2 w1 (.int .i64 (c : Nat)) (.int .i64 ((i : Int) + 1)) wr) := Lib.hid ⟨i + 1, c, l', by omega, by omega, by go_num, rfl, turned_stay hT, ho, hb⟩
          clear hT ho hb hll
          go_wp2_with fail
          go_roundw
          case rel => exact HS.out
          case measure => simp [intOf]; omega
    · obtain rfl : i = 32 := by omega
      have hll : l'.length = n + 4 := by have := ho.1; rw [bytesV_length] at this; omega
      have hend : CrcP.reg CrcP.ones l' = CrcP.rest ↔ c = 0 := turned_end hT (by rw [seal4_len, Hn.out]; omega) (CrcP.reg_seal l)
      have hsl : isSealed l' ↔ c = 0 := (sealed_reg (by omega)).trans hend
      obtain ⟨A', cap', hv, hl', hcl, hby, -⟩ := own_bytes ho
      injection hv with e1 _ e2
      subst e1
      subst e2
      have HO : Hid (Calls Try.prog 10 #[.slice (some ⟨g, 0, none⟩) (n + 4) cap2] wr (BurstEnd c w1 wr)) := Lib.hid (burst_open hll (by omega) hcl hby hb.size hsl)
      have Hb := Lib.hid hb
      clear hT ho hb hll hend hsl hl' hcl hby
      go_wp2_with fail
      refine HO.out.mono ?_
      rintro e w4 ⟨v4, rfl, hb4⟩
      have Hb4 := Lib.hid (Hb1.out.trans ((Hb.out.trans hb4).mono Hb1.out.size))
      clear hb4
      go_wp2_with fail
      go_ret
      exact ⟨ret_bool (both_zero c), Hb4.out⟩

theorem bursts_none (A : Option Addr) (n cap : Nat) (at_ : Int) (wd : Int) (w : World) (h : 3000 < n ∨ (n ≤ 3000 ∧ (wd == 0) = true)) :
    Calls Try.prog 5 #[.slice A n cap, .int .i64 at_, .int .u32 wd] w (AwakePost w) := by
  have HA := Lib.hid (awake_any w)
  rcases h with h1 | ⟨h1, h2⟩
  all_goals
    go_enter Try.func5, Try.ntmps5
    go_wp2_with fail
    refine HA.out.mono ?_
    rintro e w1 ⟨rfl, hb1⟩
    have Hb1 := Lib.hid hb1
    clear hb1
    go_wp2_with fail
    go_ret
    exact ⟨rfl, Hb1.out⟩

theorem bursts_law (A : Option Addr) (l : List UInt8) (n cap : Nat) (at_ wd : Int) (hn : l.length = n) (w : World) (h : Bytes w w.heap.size A l) (hw1 : 0 ≤ wd) :
    Calls Try.prog 5 #[.slice A n cap, .int .i64 at_, .int .u32 wd] w (AwakePost w) := by
  obtain ⟨u, rfl⟩ := Int.eq_ofNat_of_zero_le hw1
  by_cases h1 : n ≤ 3000
  · by_cases h2 : u = 0
    · exact bursts_none A n cap at_ u w (.inr ⟨h1, by simp [h2]⟩)
    · exact bursts_few A l n cap at_ u hn w h h1 (by rw [beq_eq_false_iff_ne]; omega)
  · exact bursts_none A n cap at_ u w (.inl (by omega))
end Go.Proofs.Ytccjlebdakcnjaa
