/- Plain: acts, one behind the other, as bytes, and how they are read back. No conditions. -/
import Derived.Test.YtnjkfkfanjkajaaWirP
import Derived.Test.YtnjkfkfanjkajaaActArg
namespace Go.Proofs.Ytnjkfkfanjkajaa

def size4 (s : Int) : Nat := 1 + (s % 4).toNat
theorem size4_in (s : Int) : 1 ≤ size4 s ∧ size4 s ≤ 4 := by unfold size4; omega
def actB (x : ActC) : List UInt8 := if x.kind = 1 then WireP.text x.data else WireP.num x.n (size4 x.size)
def enc (f : Nat → ActC) : Nat → List UInt8
  | 0 => []
  | k + 1 => enc f k ++ actB (f k)

theorem size_rem (s : Int) : (IntKind.u64.wrap s).tmod 4 = (((s % 4).toNat : Nat) : Int) := by
  have h : IntKind.u64.wrap s = s % 18446744073709551616 := by simp [IntKind.wrap, IntKind.signed, IntKind.bits]
  rw [h, Int.tmod_eq_emod_of_nonneg (by omega)]
  omega

theorem actB_length (x : ActC) : (actB x).length ≤ 256 := by
  unfold actB
  split
  · exact WireP.text_length _
  · rw [WireP.num_length]; have := size4_in x.size; omega
theorem enc_length (f : Nat → ActC) : ∀ k, (enc f k).length ≤ 256 * k
  | 0 => by simp [enc]
  | k + 1 => by
    have := enc_length f k
    have := actB_length (f k)
    simp only [enc, List.length_append]
    omega
theorem enc_split (f : Nat → ActC) : ∀ m k, k < m → ∃ r, enc f m = enc f k ++ (actB (f k) ++ r)
  | 0, k, h => absurd h (by omega)
  | m + 1, k, h => by
    rcases Nat.lt_or_ge k m with h1 | h1
    · obtain ⟨r, hr⟩ := enc_split f m k h1
      exact ⟨r ++ actB (f m), by simp only [enc]; rw [hr]; simp⟩
    · obtain rfl : k = m := by omega
      exact ⟨[], by simp [enc]⟩
theorem put_num (n s : Nat) (hs : 1 ≤ s ∧ s ≤ 4) : WireP.put n (s : Int) = WireP.num n s := by
  unfold WireP.put
  rw [if_pos (by omega), Int.toNat_natCast]

theorem take_at (p r : List UInt8) (n s : Nat) (hs : 1 ≤ s ∧ s ≤ 4) : WireP.take (p ++ (WireP.num n s ++ r)) p.length false (s : Int) = ⟨n % 256 ^ s, p.length + s, false⟩ := by
  have hl := WireP.num_length n s
  unfold WireP.take
  rw [if_neg (by simp; omega), Int.toNat_natCast, if_neg (by simp [hl])]
  have e : ((p ++ (WireP.num n s ++ r)).drop p.length).take s = WireP.num n s := by
    rw [List.drop_left, List.take_append_of_le_length (by omega), List.take_of_length_le (by omega)]
  rw [e, WireP.val_num]

theorem tell_at (p r d : List UInt8) : WireP.tell (p ++ (WireP.text d ++ r)) p.length false = ⟨d.take 255, p.length + (WireP.text d).length, false⟩ := by
  have hg : (p ++ (WireP.text d ++ r)).getD p.length 0 = UInt8.ofNat (min d.length 255) := by
    simp [List.getD, WireP.text]
  have hn : (UInt8.ofNat (min d.length 255)).toNat = min d.length 255 := by
    simp
    omega
  have ht : (WireP.text d).length = 1 + min d.length 255 := by simp [WireP.text]; omega
  unfold WireP.tell
  rw [hg, hn]
  rw [if_neg (by simp [ht]), if_neg (by simp [ht]; omega)]
  have e1 : (p ++ (WireP.text d ++ r)).drop (p.length + 1) = d.take 255 ++ r := by
    rw [List.drop_append]
    simp [WireP.text]
  have e2 : (d.take 255 ++ r).take (min d.length 255) = d.take 255 := by
    rw [List.take_append_of_le_length (by simp; omega), List.take_of_length_le (by simp; omega)]
  rw [e1, e2, ht]
  congr 1
  omega

theorem enc_next (f : Nat → ActC) (k : Nat) : (enc f (k + 1)).length = (enc f k).length + (actB (f k)).length := by simp [enc]
end Go.Proofs.Ytnjkfkfanjkajaa
