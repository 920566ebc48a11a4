/- Plain: numbers and texts as bytes. No conditions. -/
import Derived.KernelRfl
namespace Go.Proofs.Ytodkcenoljpgoaa.WireP

/-- The lowest bytes of a number, the highest first. -/
def num (n : Nat) : Nat → List UInt8
  | 0 => []
  | s + 1 => UInt8.ofNat (n / 256 ^ s % 256) :: num n s
/-- What Put puts. -/
def put (n : Nat) (s : Int) : List UInt8 := if 1 ≤ s ∧ s ≤ 4 then num n s.toNat else []
/-- What Text puts. -/
def text (l : List UInt8) : List UInt8 := UInt8.ofNat (min l.length 255) :: l.take 255

theorem num_length (n : Nat) : ∀ s, (num n s).length = s
  | 0 => rfl
  | s + 1 => by simp [num, num_length n s]
theorem put_length (n : Nat) (s : Int) : (put n s).length ≤ 4 := by
  unfold put
  split
  · rw [num_length]; omega
  · simp
theorem text_length (l : List UInt8) : (text l).length ≤ 256 := by simp [text]; omega
theorem put_1 (n : Nat) : put n 1 = [UInt8.ofNat (n % 256)] := by simp [put, num]
theorem put_2 (n : Nat) : put n 2 = UInt8.ofNat (n / 256 % 256) :: put n 1 := by simp [put, num]
theorem put_3 (n : Nat) : put n 3 = UInt8.ofNat (n / 65536 % 256) :: put n 2 := by simp [put, num]
theorem put_4 (n : Nat) : put n 4 = UInt8.ofNat (n / 16777216 % 256) :: put n 3 := by simp [put, num]
theorem put_other (n : Nat) (s : Int) (h : ¬ (1 ≤ s ∧ s ≤ 4)) : put n s = [] := if_neg h

/-- The number that bytes say, the highest first. -/
def val (l : List UInt8) : Nat := l.foldl (fun a c => a * 256 + c.toNat) 0
theorem val_append1 (l : List UInt8) (c : UInt8) : val (l ++ [c]) = val l * 256 + c.toNat := by simp [val]
theorem val_lt (l : List UInt8) : val l < 256 ^ l.length := by
  have key : ∀ (l : List UInt8) (a : Nat), l.foldl (fun a c => a * 256 + c.toNat) a < (a + 1) * 256 ^ l.length := by
    intro l
    induction l with
    | nil => intro a; simp
    | cons c l ih =>
      intro a
      have h1 := ih (a * 256 + c.toNat)
      have h2 := c.toNat_lt
      have h3 : (a * 256 + c.toNat + 1) * 256 ^ l.length ≤ ((a + 1) * 256) * 256 ^ l.length := Nat.mul_le_mul_right _ (by omega)
      simp only [List.foldl_cons, List.length_cons]
      rw [Nat.pow_succ, Nat.mul_comm (256 ^ l.length) 256, ← Nat.mul_assoc]
      omega
  simpa [val] using key l 0
theorem val_num (n : Nat) : ∀ s, val (num n s) = n % 256 ^ s := by
  have key : ∀ s a, (num n s).foldl (fun a c => a * 256 + c.toNat) a = a * 256 ^ s + n % 256 ^ s := by
    intro s
    induction s with
    | zero => intro a; simp [num]; omega
    | succ s ih =>
      intro a
      simp only [num, List.foldl_cons]
      rw [ih, Nat.pow_succ]
      have h1 : (UInt8.ofNat (n / 256 ^ s % 256)).toNat = n / 256 ^ s % 256 := by simp
      rw [h1]
      have h2 : n % (256 ^ s * 256) = 256 ^ s * (n / 256 ^ s % 256) + n % 256 ^ s := by
        rw [Nat.mod_mul]; omega
      rw [h2, Nat.add_mul, Nat.mul_assoc, Nat.mul_comm 256 (256 ^ s), Nat.mul_comm (n / 256 ^ s % 256) (256 ^ s)]
      omega
  intro s
  have := key s 0
  simpa [val] using this

/-- What a reader's Take answers, and where it stands then; 'short' stays. -/
structure Took where
  n : Nat
  at_ : Nat
  short : Bool
def take (l : List UInt8) (at_ : Nat) (short : Bool) (s : Int) : Took :=
  if s < 1 ∨ 4 < s ∨ short then ⟨0, at_, short⟩
  else if l.length < at_ + s.toNat then ⟨0, at_, true⟩
  else ⟨val ((l.drop at_).take s.toNat), at_ + s.toNat, false⟩
structure Told where
  l : List UInt8
  at_ : Nat
  short : Bool
/-- What a reader's Text answers. -/
def tell (l : List UInt8) (at_ : Nat) (short : Bool) : Told :=
  if short ∨ l.length < at_ + 1 then ⟨[], at_, true⟩
  else if l.length < at_ + 1 + (l.getD at_ 0).toNat then ⟨[], at_, true⟩
  else ⟨(l.drop (at_ + 1)).take (l.getD at_ 0).toNat, at_ + 1 + (l.getD at_ 0).toNat, false⟩

theorem take_at {l : List UInt8} {a : Nat} {short : Bool} {s : Int} (h : a ≤ l.length) : (take l a short s).at_ ≤ l.length := by
  unfold take
  split
  · exact h
  · split
    · exact h
    · show a + s.toNat ≤ l.length
      omega
theorem tell_at {l : List UInt8} {a : Nat} {short : Bool} (h : a ≤ l.length) : (tell l a short).at_ ≤ l.length := by
  unfold tell
  split
  · exact h
  · split
    · exact h
    · show a + 1 + (l.getD a 0).toNat ≤ l.length
      omega
end Go.Proofs.Ytodkcenoljpgoaa.WireP
