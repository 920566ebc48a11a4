/- Plain: numbers and texts as bytes. No conditions. · Plain: frames as bytes and back. No conditions. · Plain: tables as an image of bytes and back. No conditions. · Plain: an image read back; what is wrong with tables; reading an image, with its errors. No conditions. · Plain: what is wrong with a frame; reading a frame, with its errors. No conditions. · Plain: what is wrong with tables; reading an image, with its errors. No conditions. · Plain: what tables promise, and what doesn't work in them (chapter 6). No conditions. -/
import Derived.KernelRfl
namespace Go.Proofs.Ytfgpfmhjnccccaa.WireP

/-- The lowest bytes of a number, the highest first. -/
def num (n : Nat) : Nat → List UInt8
  | 0 => []
  | s + 1 => UInt8.ofNat (n / 256 ^ s % 256) :: num n s
/-- What Put puts. -/
def put (n : Nat) (s : Int) : List UInt8 := if 1 ≤ s ∧ s ≤ 4 then num n s.toNat else []
/-- What Text puts. -/
def text (l : List UInt8) : List UInt8 := UInt8.ofNat (min l.length 255) :: l.take 255

theorem num_length (n : Nat) : ∀ s, (num n s).length = s
  | 0 => rfl
  | s + 1 => by simp [num, num_length n s]
theorem put_length (n : Nat) (s : Int) : (put n s).length ≤ 4 := by
  unfold put
  split
  · rw [num_length]; omega
  · simp
theorem text_length (l : List UInt8) : (text l).length ≤ 256 := by simp [text]; omega
theorem put_1 (n : Nat) : put n 1 = [UInt8.ofNat (n % 256)] := by simp [put, num]
theorem put_2 (n : Nat) : put n 2 = UInt8.ofNat (n / 256 % 256) :: put n 1 := by simp [put, num]
theorem put_3 (n : Nat) : put n 3 = UInt8.ofNat (n / 65536 % 256) :: put n 2 := by simp [put, num]
theorem put_4 (n : Nat) : put n 4 = UInt8.ofNat (n / 16777216 % 256) :: put n 3 := by simp [put, num]
theorem put_other (n : Nat) (s : Int) (h : ¬ (1 ≤ s ∧ s ≤ 4)) : put n s = [] := if_neg h

/-- The number that bytes say, the highest first. -/
def val (l : List UInt8) : Nat := l.foldl (fun a c => a * 256 + c.toNat) 0
theorem val_append1 (l : List UInt8) (c : UInt8) : val (l ++ [c]) = val l * 256 + c.toNat := by simp [val]
theorem val_lt (l : List UInt8) : val l < 256 ^ l.length := by
  have key : ∀ (l : List UInt8) (a : Nat), l.foldl (fun a c => a * 256 + c.toNat) a < (a + 1) * 256 ^ l.length := by
    intro l
    induction l with
    | nil => intro a; simp
    | cons c l ih =>
      intro a
      have h1 := ih (a * 256 + c.toNat)
      have h2 := c.toNat_lt
      have h3 : (a * 256 + c.toNat + 1) * 256 ^ l.length ≤ ((a + 1) * 256) * 256 ^ l.length := Nat.mul_le_mul_right _ (by omega)
      simp only [List.foldl_cons, List.length_cons]
      rw [Nat.pow_succ, Nat.mul_comm (256 ^ l.length) 256, ← Nat.mul_assoc]
      omega
  simpa [val] using key l 0
theorem val_num (n : Nat) : ∀ s, val (num n s) = n % 256 ^ s := by
  have key : ∀ s a, (num n s).foldl (fun a c => a * 256 + c.toNat) a = a * 256 ^ s + n % 256 ^ s := by
    intro s
    induction s with
    | zero => intro a; simp [num]; omega
    | succ s ih =>
      intro a
      simp only [num, List.foldl_cons]
      rw [ih, Nat.pow_succ]
      have h1 : (UInt8.ofNat (n / 256 ^ s % 256)).toNat = n / 256 ^ s % 256 := by simp
      rw [h1]
      have h2 : n % (256 ^ s * 256) = 256 ^ s * (n / 256 ^ s % 256) + n % 256 ^ s := by
        rw [Nat.mod_mul]; omega
      rw [h2, Nat.add_mul, Nat.mul_assoc, Nat.mul_comm 256 (256 ^ s), Nat.mul_comm (n / 256 ^ s % 256) (256 ^ s)]
      omega
  intro s
  have := key s 0
  simpa [val] using this

/-- What a reader's Take answers, and where it stands then; 'short' stays. -/
structure Took where
  n : Nat
  at_ : Nat
  short : Bool
def take (l : List UInt8) (at_ : Nat) (short : Bool) (s : Int) : Took :=
  if s < 1 ∨ 4 < s ∨ short then ⟨0, at_, short⟩
  else if l.length < at_ + s.toNat then ⟨0, at_, true⟩
  else ⟨val ((l.drop at_).take s.toNat), at_ + s.toNat, false⟩
structure Told where
  l : List UInt8
  at_ : Nat
  short : Bool
/-- What a reader's Text answers. -/
def tell (l : List UInt8) (at_ : Nat) (short : Bool) : Told :=
  if short ∨ l.length < at_ + 1 then ⟨[], at_, true⟩
  else if l.length < at_ + 1 + (l.getD at_ 0).toNat then ⟨[], at_, true⟩
  else ⟨(l.drop (at_ + 1)).take (l.getD at_ 0).toNat, at_ + 1 + (l.getD at_ 0).toNat, false⟩

theorem take_at {l : List UInt8} {a : Nat} {short : Bool} {s : Int} (h : a ≤ l.length) : (take l a short s).at_ ≤ l.length := by
  unfold take
  split
  · exact h
  · split
    · exact h
    · show a + s.toNat ≤ l.length
      omega
theorem tell_at {l : List UInt8} {a : Nat} {short : Bool} (h : a ≤ l.length) : (tell l a short).at_ ≤ l.length := by
  unfold tell
  split
  · exact h
  · split
    · exact h
    · show a + 1 + (l.getD a 0).toNat ≤ l.length
      omega
end Go.Proofs.Ytfgpfmhjnccccaa.WireP
namespace Go.Proofs.Ytfgpfmhjnccccaa.FrameP
open WireP

structure Msg where
  port : Int
  data : List UInt8
structure Rec where
  round : Nat
  node : Nat
  part : Nat
  kind : Nat
  did : Nat
structure Fr where
  sender : Nat
  round : Nat
  members : Nat
  msgs : List Msg
  kind : Nat
  key : Nat
  val : Nat
  old : Nat
  recs : List Rec

def msgB (m : Msg) : List UInt8 := num (m.port % 256).toNat 1 ++ text m.data
def recB (r : Rec) : List UInt8 := num r.round 4 ++ (num r.node 1 ++ (num r.part 1 ++ (num r.kind 1 ++ num r.did 1)))
def msgsB : List Msg → List UInt8
  | [] => []
  | m :: r => msgB m ++ msgsB r
def recsB : List Rec → List UInt8
  | [] => []
  | m :: r => recB m ++ recsB r
def tailB (f : Fr) : List UInt8 := num f.kind 1 ++ (num f.key 1 ++ (num f.val 2 ++ (num f.old 2 ++ (num f.recs.length 1 ++ recsB f.recs))))
/-- A frame's bytes, ahead of the sum. -/
def enc (f : Fr) : List UInt8 := num f.sender 1 ++ (num f.round 4 ++ (num f.members 1 ++ (num f.msgs.length 1 ++ (msgsB f.msgs ++ tailB f))))

/-- Reading messages; what was read, and where the reader stands then. -/
def msgsD (l : List UInt8) : Nat → Nat → Bool → List Msg × Nat × Bool
  | 0, a, s => ([], a, s)
  | k + 1, a, s =>
    if s then ([], a, s) else
      let p := take l a s 1
      let d := tell l p.at_ p.short
      let r := msgsD l k d.at_ d.short
      (⟨p.n, d.l⟩ :: r.1, r.2)
def recsD (l : List UInt8) : Nat → Nat → Bool → List Rec × Nat × Bool
  | 0, a, s => ([], a, s)
  | k + 1, a, s =>
    if s then ([], a, s) else
      let x0 := take l a s 4
      let x1 := take l x0.at_ x0.short 1
      let x2 := take l x1.at_ x1.short 1
      let x3 := take l x2.at_ x2.short 1
      let x4 := take l x3.at_ x3.short 1
      let r := recsD l k x4.at_ x4.short
      (⟨x0.n, x1.n, x2.n, x3.n, x4.n⟩ :: r.1, r.2)
/-- What is read of a frame's bytes, and where the reader stands then. -/
def raw (l : List UInt8) : Fr × Nat × Bool :=
  let x0 := take l 0 false 1
  let x1 := take l x0.at_ x0.short 4
  let x2 := take l x1.at_ x1.short 1
  let x3 := take l x2.at_ x2.short 1
  let ms := msgsD l x3.n x3.at_ x3.short
  let y0 := take l ms.2.1 ms.2.2 1
  let y1 := take l y0.at_ y0.short 1
  let y2 := take l y1.at_ y1.short 2
  let y3 := take l y2.at_ y2.short 2
  let y4 := take l y3.at_ y3.short 1
  let rs := recsD l y4.n y4.at_ y4.short
  (⟨x0.n, x1.n, x2.n, ms.1, y0.n, y1.n, y2.n, y3.n, rs.1⟩, rs.2)

/-! ### Forward -/
theorem take_drop {l r : List UInt8} {n s a : Nat} (h : l.drop a = num n s ++ r) (hs : 1 ≤ s ∧ s ≤ 4) (hn : n < 256 ^ s) : take l a false (s : Int) = ⟨n, a + s, false⟩ ∧ l.drop (a + s) = r := by
  have hl := num_length n s
  have hlen := congrArg List.length h
  rw [List.length_drop, List.length_append, hl] at hlen
  constructor
  · unfold take
    rw [if_neg (by simp; omega), Int.toNat_natCast, if_neg (by omega), h]
    rw [List.take_append_of_le_length (by omega), List.take_of_length_le (by omega), val_num, Nat.mod_eq_of_lt hn]
  · rw [← List.drop_drop, h, List.drop_append_of_le_length (by omega), List.drop_of_length_le (by omega), List.nil_append]
theorem take_drop1 {l r : List UInt8} {n a : Nat} (h : l.drop a = num n 1 ++ r) (hn : n < 256) : take l a false 1 = ⟨n, a + 1, false⟩ ∧ l.drop (a + 1) = r := take_drop (s := 1) h (by omega) (by simpa using hn)
theorem take_drop2 {l r : List UInt8} {n a : Nat} (h : l.drop a = num n 2 ++ r) (hn : n < 65536) : take l a false 2 = ⟨n, a + 2, false⟩ ∧ l.drop (a + 2) = r := take_drop (s := 2) h (by omega) (by simpa using hn)
theorem take_drop4 {l r : List UInt8} {n a : Nat} (h : l.drop a = num n 4 ++ r) (hn : n < 4294967296) : take l a false 4 = ⟨n, a + 4, false⟩ ∧ l.drop (a + 4) = r := take_drop (s := 4) h (by omega) (by simpa using hn)

theorem text_length' (d : List UInt8) : (text d).length = 1 + min d.length 255 := by simp [text]; omega
theorem text_short {d : List UInt8} (h : d.length ≤ 255) : text d = UInt8.ofNat d.length :: d := by
  unfold text
  rw [Nat.min_eq_left h, List.take_of_length_le h]
theorem tell_drop {l r d : List UInt8} {a : Nat} (h : l.drop a = text d ++ r) (hd : d.length ≤ 255) : tell l a false = ⟨d, a + (1 + d.length), false⟩ ∧ l.drop (a + (1 + d.length)) = r := by
  rw [text_short hd] at h
  have hlen := congrArg List.length h
  rw [List.length_drop, List.length_append, List.length_cons] at hlen
  have hg : l.getD a 0 = UInt8.ofNat d.length := by
    have := congrArg (fun x : List UInt8 => x.getD 0 0) h
    simpa [List.getD] using this
  have hn : (UInt8.ofNat d.length).toNat = d.length := by simp; omega
  have e1 : l.drop (a + 1) = d ++ r := by
    rw [← List.drop_drop, h]
    rfl
  constructor
  · unfold tell
    rw [hg, hn, if_neg (by simp; omega), if_neg (by omega), e1]
    rw [List.take_append_of_le_length (by omega), List.take_of_length_le (by omega), Nat.add_assoc]
  · rw [← Nat.add_assoc, ← List.drop_drop, e1, List.drop_left]

/-- What fits into a frame's bytes. -/
def MsgFits (m : Msg) : Prop := 0 ≤ m.port ∧ m.port < 256 ∧ m.data.length ≤ 255
def RecFits (r : Rec) : Prop := r.round < 4294967296 ∧ r.node < 256 ∧ r.part < 256 ∧ r.kind < 256 ∧ r.did < 256
structure Fits (f : Fr) : Prop where
  sender : f.sender < 256
  round : f.round < 4294967296
  members : f.members < 256
  nm : f.msgs.length < 256
  msgs : ∀ m ∈ f.msgs, MsgFits m
  kind : f.kind < 256
  key : f.key < 256
  val : f.val < 65536
  old : f.old < 65536
  nr : f.recs.length < 256
  recs : ∀ r ∈ f.recs, RecFits r

theorem msgsD_enc {l r : List UInt8} : ∀ (ms : List Msg) (a : Nat), l.drop a = msgsB ms ++ r → (∀ m ∈ ms, MsgFits m) → msgsD l ms.length a false = (ms, a + (msgsB ms).length, false) ∧ l.drop (a + (msgsB ms).length) = r
  | [], a, h, _ => by simpa [msgsD, msgsB] using h
  | m :: ms, a, h, hf => by
    obtain ⟨h1, h2, h3⟩ := hf m (by simp)
    simp only [msgsB, msgB, List.append_assoc] at h
    obtain ⟨t1, h⟩ := take_drop1 h (by omega)
    obtain ⟨t2, h⟩ := tell_drop h h3
    obtain ⟨t3, h⟩ := msgsD_enc ms _ h (fun x hx => hf x (by simp [hx]))
    have e4 : (msgsB (m :: ms)).length = 1 + ((1 + m.data.length) + (msgsB ms).length) := by simp [msgsB, msgB, num_length, text_short h3]; omega
    have e5 : (((m.port % 256).toNat : Nat) : Int) = m.port := by omega
    constructor
    · rw [e4]
      simp only [List.length_cons, msgsD, Bool.false_eq_true, if_false, t1, t2, t3, e5]
      simp only [Nat.add_assoc]
    · rw [e4]
      simpa only [Nat.add_assoc] using h

theorem recsD_enc {l r : List UInt8} : ∀ (rs : List Rec) (a : Nat), l.drop a = recsB rs ++ r → (∀ m ∈ rs, RecFits m) → recsD l rs.length a false = (rs, a + (recsB rs).length, false) ∧ l.drop (a + (recsB rs).length) = r
  | [], a, h, _ => by simpa [recsD, recsB] using h
  | m :: rs, a, h, hf => by
    obtain ⟨h1, h2, h3, h4, h5⟩ := hf m (by simp)
    simp only [recsB, recB, List.append_assoc] at h
    obtain ⟨t1, h⟩ := take_drop4 h h1
    obtain ⟨t2, h⟩ := take_drop1 h h2
    obtain ⟨t3, h⟩ := take_drop1 h h3
    obtain ⟨t4, h⟩ := take_drop1 h h4
    obtain ⟨t5, h⟩ := take_drop1 h h5
    obtain ⟨t6, h⟩ := recsD_enc rs _ h (fun x hx => hf x (by simp [hx]))
    have e4 : (recsB (m :: rs)).length = 4 + (1 + (1 + (1 + (1 + (recsB rs).length)))) := by simp [recsB, recB, num_length]
    constructor
    · rw [e4]
      simp only [List.length_cons, recsD, Bool.false_eq_true, if_false, t1, t2, t3, t4, t5, t6]
      simp only [Nat.add_assoc]
    · rw [e4]
      simpa only [Nat.add_assoc] using h

/-- What was written is read, whatever stands behind it. -/
theorem raw_enc (f : Fr) (r : List UInt8) (hf : Fits f) : raw (enc f ++ r) = (f, (enc f).length, false) := by
  have h : (enc f ++ r).drop 0 = enc f ++ r := rfl
  conv at h => rhs; unfold enc tailB
  simp only [List.append_assoc] at h
  generalize hl : enc f ++ r = l at h
  obtain ⟨t0, h⟩ := take_drop1 h hf.sender
  obtain ⟨t1, h⟩ := take_drop4 h hf.round
  obtain ⟨t2, h⟩ := take_drop1 h hf.members
  obtain ⟨t3, h⟩ := take_drop1 h hf.nm
  obtain ⟨t4, h⟩ := msgsD_enc _ _ h hf.msgs
  obtain ⟨t5, h⟩ := take_drop1 h hf.kind
  obtain ⟨t6, h⟩ := take_drop1 h hf.key
  obtain ⟨t7, h⟩ := take_drop2 h hf.val
  obtain ⟨t8, h⟩ := take_drop2 h hf.old
  obtain ⟨t9, h⟩ := take_drop1 h hf.nr
  obtain ⟨t10, -⟩ := recsD_enc _ _ h hf.recs
  have e : (enc f).length = 0 + 1 + 4 + 1 + 1 + (msgsB f.msgs).length + 1 + 1 + 2 + 2 + 1 + (recsB f.recs).length := by
    simp [enc, tailB, num_length]
    omega
  simp only [raw, t0, t1, t2, t3, t4, t5, t6, t7, t8, t9, t10, e]

/-! ### Backward -/
theorem num_foldl : ∀ (x : List UInt8) (a : Nat), num (x.foldl (fun a c => a * 256 + c.toNat) a) x.length = x
  | [], _ => rfl
  | c :: x, a => by
    have key : ∀ (x : List UInt8) (a : Nat), x.foldl (fun a c => a * 256 + c.toNat) a = a * 256 ^ x.length + val x := by
      intro x
      induction x with
      | nil => intro a; simp [val]
      | cons c x ih =>
        intro a
        have h1 := ih (a * 256 + c.toNat)
        have h2 := ih (0 * 256 + c.toNat)
        simp only [val, List.foldl_cons, List.length_cons] at h1 h2 ⊢
        rw [h1, h2, Nat.pow_succ, Nat.add_mul, Nat.zero_mul, Nat.zero_add, Nat.mul_assoc, Nat.mul_comm 256]
        omega
    have hv := val_lt x
    have hc := c.toNat_lt
    simp only [List.foldl_cons, List.length_cons, num, num_foldl x]
    rw [key x]
    have e1 : ((a * 256 + c.toNat) * 256 ^ x.length + val x) / 256 ^ x.length = a * 256 + c.toNat := by
      rw [Nat.mul_comm, Nat.mul_add_div (Nat.pow_pos (by omega)), Nat.div_eq_of_lt hv, Nat.add_zero]
    rw [e1]
    congr 1
    have e2 : (a * 256 + c.toNat) % 256 = c.toNat := by omega
    rw [e2]
    simp
theorem num_val (x : List UInt8) : num (val x) x.length = x := num_foldl x 0

theorem take_inv {l : List UInt8} {a : Nat} {sh : Bool} {s : Nat} (hs : 1 ≤ s ∧ s ≤ 4) (h : (take l a sh (s : Int)).short = false) :
    sh = false ∧ l.drop a = num (take l a sh (s : Int)).n s ++ l.drop (take l a sh (s : Int)).at_ ∧ (take l a sh (s : Int)).at_ = a + s ∧ (take l a sh (s : Int)).n < 256 ^ s := by
  unfold take at h ⊢
  by_cases h1 : (s : Int) < 1 ∨ 4 < (s : Int) ∨ sh = true
  · rw [if_pos h1] at h ⊢
    have h' : sh = false := h
    rcases h1 with h2 | h2 | h2
    · omega
    · omega
    · rw [h'] at h2; cases h2
  · rw [if_neg h1] at h ⊢
    rw [Int.toNat_natCast] at h ⊢
    by_cases h2 : l.length < a + s
    · rw [if_pos h2] at h; cases h
    · rw [if_neg h2]
      have hl : ((l.drop a).take s).length = s := by rw [List.length_take, List.length_drop]; omega
      refine ⟨?_, ?_, rfl, ?_⟩
      · cases sh with
        | false => rfl
        | true => exact absurd (.inr (.inr rfl)) h1
      · show l.drop a = num (val ((l.drop a).take s)) s ++ l.drop (a + s)
        have := num_val ((l.drop a).take s)
        rw [hl] at this
        rw [this, ← List.drop_drop, List.take_append_drop]
      · have := val_lt ((l.drop a).take s)
        rw [hl] at this
        exact this

theorem tell_inv {l : List UInt8} {a : Nat} {sh : Bool} (h : (tell l a sh).short = false) :
    sh = false ∧ l.drop a = text (tell l a sh).l ++ l.drop (tell l a sh).at_ ∧ (tell l a sh).l.length ≤ 255 := by
  unfold tell at h ⊢
  by_cases h1 : sh = true ∨ l.length < a + 1
  · rw [if_pos h1] at h; cases h
  · rw [if_neg h1] at h ⊢
    by_cases h2 : l.length < a + 1 + (l.getD a 0).toNat
    · rw [if_pos h2] at h; cases h
    · rw [if_neg h2]
      have hc : (l.getD a 0).toNat < 256 := UInt8.toNat_lt _
      have hl : ((l.drop (a + 1)).take (l.getD a 0).toNat).length = (l.getD a 0).toNat := by rw [List.length_take, List.length_drop]; omega
      have h3 : a < l.length := by omega
      refine ⟨?_, ?_, ?_⟩
      · cases sh with
        | false => rfl
        | true => exact absurd (.inl rfl) h1
      · show l.drop a = text ((l.drop (a + 1)).take (l.getD a 0).toNat) ++ l.drop (a + 1 + (l.getD a 0).toNat)
        have e9 : l.drop (a + 1 + (l.getD a 0).toNat) = (l.drop (a + 1)).drop (l.getD a 0).toNat := by rw [List.drop_drop]
        rw [text_short (by omega), hl, List.drop_eq_getElem_cons h3, e9, List.cons_append, List.take_append_drop]
        congr 1
        simp [List.getD, List.getElem?_eq_getElem h3]
      · show ((l.drop (a + 1)).take (l.getD a 0).toNat).length ≤ 255
        omega

theorem take_inv1 {l : List UInt8} {a : Nat} {sh : Bool} (h : (take l a sh 1).short = false) : sh = false ∧ l.drop a = num (take l a sh 1).n 1 ++ l.drop (take l a sh 1).at_ ∧ (take l a sh 1).n < 256 := by
  obtain ⟨h1, h2, _, h4⟩ := take_inv (s := 1) (by omega) h
  exact ⟨h1, h2, by simpa using h4⟩
theorem take_inv2 {l : List UInt8} {a : Nat} {sh : Bool} (h : (take l a sh 2).short = false) : sh = false ∧ l.drop a = num (take l a sh 2).n 2 ++ l.drop (take l a sh 2).at_ ∧ (take l a sh 2).n < 65536 := by
  obtain ⟨h1, h2, _, h4⟩ := take_inv (s := 2) (by omega) h
  exact ⟨h1, h2, by simpa using h4⟩
theorem take_inv4 {l : List UInt8} {a : Nat} {sh : Bool} (h : (take l a sh 4).short = false) : sh = false ∧ l.drop a = num (take l a sh 4).n 4 ++ l.drop (take l a sh 4).at_ ∧ (take l a sh 4).n < 4294967296 := by
  obtain ⟨h1, h2, _, h4⟩ := take_inv (s := 4) (by omega) h
  exact ⟨h1, h2, by simpa using h4⟩

theorem msgsD_inv {l : List UInt8} : ∀ (k a : Nat) (s : Bool), (msgsD l k a s).2.2 = false →
    s = false ∧ l.drop a = msgsB (msgsD l k a s).1 ++ l.drop (msgsD l k a s).2.1 ∧ (msgsD l k a s).1.length = k ∧ ∀ m ∈ (msgsD l k a s).1, MsgFits m
  | 0, a, s, h => ⟨h, by simp [msgsD, msgsB], by simp [msgsD], by simp [msgsD]⟩
  | k + 1, a, s, h => by
    cases s with
    | true => simp [msgsD] at h
    | false =>
      simp only [msgsD, Bool.false_eq_true, if_false] at h ⊢
      obtain ⟨h1, h2, h3, h4⟩ := msgsD_inv k _ _ h
      obtain ⟨h5, h6, h7⟩ := tell_inv h1
      obtain ⟨_, h9, h10⟩ := take_inv1 h5
      refine ⟨trivial, ?_, ?_, ?_⟩
      · have e : (((take l a false 1).n : Int) % 256).toNat = (take l a false 1).n := by omega
        simp only [msgsB, msgB, e, List.append_assoc]
        rw [← h2, ← h6]
        exact h9
      · simp [h3]
      · intro m hm
        rcases List.mem_cons.1 hm with rfl | hm
        · exact ⟨by show (0 : Int) ≤ ((take l a false 1).n : Int); omega, by show ((take l a false 1).n : Int) < 256; omega, h7⟩
        · exact h4 m hm

theorem recsD_inv {l : List UInt8} : ∀ (k a : Nat) (s : Bool), (recsD l k a s).2.2 = false →
    s = false ∧ l.drop a = recsB (recsD l k a s).1 ++ l.drop (recsD l k a s).2.1 ∧ (recsD l k a s).1.length = k ∧ ∀ m ∈ (recsD l k a s).1, RecFits m
  | 0, a, s, h => ⟨h, by simp [recsD, recsB], by simp [recsD], by simp [recsD]⟩
  | k + 1, a, s, h => by
    cases s with
    | true => simp [recsD] at h
    | false =>
      simp only [recsD, Bool.false_eq_true, if_false] at h ⊢
      obtain ⟨h1, h2, h3, h4⟩ := recsD_inv k _ _ h
      obtain ⟨g4, d4, b4⟩ := take_inv1 h1
      obtain ⟨g3, d3, b3⟩ := take_inv1 g4
      obtain ⟨g2, d2, b2⟩ := take_inv1 g3
      obtain ⟨g1, d1, b1⟩ := take_inv1 g2
      obtain ⟨_, d0, b0⟩ := take_inv4 g1
      refine ⟨trivial, ?_, ?_, ?_⟩
      · simp only [recsB, recB, List.append_assoc]
        rw [← h2, ← d4, ← d3, ← d2, ← d1]
        exact d0
      · simp [h3]
      · intro m hm
        rcases List.mem_cons.1 hm with rfl | hm
        · exact ⟨b0, b1, b2, b3, b4⟩
        · exact h4 m hm

/-- What was read without falling short is what is written so. -/
theorem raw_inv {l : List UInt8} (h : (raw l).2.2 = false) : l = enc (raw l).1 ++ l.drop (raw l).2.1 ∧ Fits (raw l).1 := by
  simp only [raw] at h ⊢
  obtain ⟨g10, d10, n10, f10⟩ := recsD_inv _ _ _ h
  obtain ⟨g9, d9, b9⟩ := take_inv1 g10
  obtain ⟨g8, d8, b8⟩ := take_inv2 g9
  obtain ⟨g7, d7, b7⟩ := take_inv2 g8
  obtain ⟨g6, d6, b6⟩ := take_inv1 g7
  obtain ⟨g5, d5, b5⟩ := take_inv1 g6
  obtain ⟨g4, d4, n4, f4⟩ := msgsD_inv _ _ _ g5
  obtain ⟨g3, d3, b3⟩ := take_inv1 g4
  obtain ⟨g2, d2, b2⟩ := take_inv1 g3
  obtain ⟨g1, d1, b1⟩ := take_inv4 g2
  obtain ⟨_, d0, b0⟩ := take_inv1 g1
  refine ⟨?_, ⟨b0, b1, b2, by rw [n4]; exact b3, f4, b5, b6, b7, b8, by rw [n10]; exact b9, f10⟩⟩
  simp only [enc, tailB, List.append_assoc, n4, n10]
  rw [← d10, ← d9, ← d8, ← d7, ← d6, ← d5, ← d4, ← d3, ← d2, ← d1]
  exact d0

/-- No frame's bytes are the beginning of another one's. -/
theorem enc_prefix {f g : Fr} {r : List UInt8} (hf : Fits f) (hg : Fits g) (h : enc f = enc g ++ r) : r = [] := by
  have h1 := raw_enc f [] hf
  have h2 := raw_enc g r hg
  rw [List.append_nil, h, h2] at h1
  have h3 := congrArg (fun x : Fr × Nat × Bool => x.2.1) h1
  simp at h3
  exact h3
end Go.Proofs.Ytfgpfmhjnccccaa.FrameP
namespace Go.Proofs.Ytfgpfmhjnccccaa.TableP
open WireP FrameP

structure Part where
  node : Int
  start : Int
  length : Int
  budget : Int
  words : Int
  r0 : Nat
  r1 : Nat
  r2 : Nat
  r3 : Nat
structure Port where
  part : Int
  kind : Nat
  out : Bool
  size : Int
  depth : Int
  fresh : Int
structure Route where
  src : Int
  dst : Int
structure Cfg where
  nodes : Int
  faulty : Int
  slot : Int
  gap : Int
  rho : Int
  dmin : Int
  dmax : Int
  margin : Int
  parts : List Part
  ports : List Port
  routes : List Route

/-- A number's lowest bytes; of one below zero the like. -/
def inum (x : Int) (s : Nat) : List UInt8 := num (x % 4294967296).toNat s
def magic : Nat := 1163084593
def bit (b : Bool) : Nat := if b then 1 else 0
def partB (p : Part) : List UInt8 := inum p.node 1 ++ (inum p.start 4 ++ (inum p.length 4 ++ (inum p.budget 1 ++ (inum p.words 1 ++ (num p.r0 1 ++ (num p.r1 1 ++ (num p.r2 1 ++ num p.r3 1)))))))
def portB (p : Port) : List UInt8 := inum p.part 1 ++ (num p.kind 1 ++ (num (bit p.out) 1 ++ (inum p.size 1 ++ (inum p.depth 1 ++ inum p.fresh 1))))
def routeB (p : Route) : List UInt8 := inum p.src 1 ++ inum p.dst 1
def partsB : List Part → List UInt8
  | [] => []
  | p :: r => partB p ++ partsB r
def portsB : List Port → List UInt8
  | [] => []
  | p :: r => portB p ++ portsB r
def routesB : List Route → List UInt8
  | [] => []
  | p :: r => routeB p ++ routesB r
/-- The image, ahead of the sum. -/
def enc (c : Cfg) : List UInt8 :=
  num magic 4 ++ (inum c.nodes 1 ++ (inum c.faulty 1 ++ (inum c.slot 4 ++ (inum c.gap 4 ++ (inum c.rho 4 ++ (inum c.dmin 4 ++ (inum c.dmax 4 ++ (inum c.margin 4 ++
    (num c.parts.length 1 ++ (num c.ports.length 1 ++ (num c.routes.length 1 ++ (partsB c.parts ++ (portsB c.ports ++ routesB c.routes)))))))))))))

def partsD (l : List UInt8) : Nat → Nat → Bool → List Part × Nat × Bool
  | 0, a, s => ([], a, s)
  | k + 1, a, s =>
    if s then ([], a, s) else
      let x0 := take l a s 1
      let x1 := take l x0.at_ x0.short 4
      let x2 := take l x1.at_ x1.short 4
      let x3 := take l x2.at_ x2.short 1
      let x4 := take l x3.at_ x3.short 1
      let x5 := take l x4.at_ x4.short 1
      let x6 := take l x5.at_ x5.short 1
      let x7 := take l x6.at_ x6.short 1
      let x8 := take l x7.at_ x7.short 1
      let r := partsD l k x8.at_ x8.short
      (⟨x0.n, x1.n, x2.n, x3.n, x4.n, x5.n, x6.n, x7.n, x8.n⟩ :: r.1, r.2)
/-- Ports; or where the reading stopped, and at which of them: it leads neither in nor out. -/
def portsD (l : List UInt8) : Nat → Nat → Nat → Bool → (List Port × Nat × Bool) ⊕ (Nat × Nat)
  | 0, _, a, s => .inl ([], a, s)
  | k + 1, i, a, s =>
    if s then .inl ([], a, s) else
      let x0 := take l a s 1
      let x1 := take l x0.at_ x0.short 1
      let x2 := take l x1.at_ x1.short 1
      if x2.short = false ∧ 1 < x2.n then .inr (x2.at_, i) else
        let x3 := take l x2.at_ x2.short 1
        let x4 := take l x3.at_ x3.short 1
        let x5 := take l x4.at_ x4.short 1
        match portsD l k (i + 1) x5.at_ x5.short with
        | .inr e => .inr e
        | .inl r => .inl (⟨x0.n, x1.n, x2.n == 1, x3.n, x4.n, x5.n⟩ :: r.1, r.2)
def routesD (l : List UInt8) : Nat → Nat → Bool → List Route × Nat × Bool
  | 0, a, s => ([], a, s)
  | k + 1, a, s =>
    if s then ([], a, s) else
      let x0 := take l a s 1
      let x1 := take l x0.at_ x0.short 1
      let r := routesD l k x1.at_ x1.short
      (⟨x0.n, x1.n⟩ :: r.1, r.2)

/-- One reading behind another. -/
def then_ {β : Type} (t : Took) (f : Nat → Nat → Bool → β) : β := f t.n t.at_ t.short
/-- The lists, by their numbers. -/
def listsD (l : List UInt8) (n0 n1 n2 a : Nat) (s : Bool) (f : List Part → List Port → List Route → Cfg) : (Cfg × Nat × Bool) ⊕ (Nat × Nat) :=
  match portsD l n1 0 (partsD l n0 a s).2.1 (partsD l n0 a s).2.2 with
  | .inr e => .inr e
  | .inl qs => .inl (f (partsD l n0 a s).1 qs.1 (routesD l n2 qs.2.1 qs.2.2).1, (routesD l n2 qs.2.1 qs.2.2).2)
/-- What is read of an image behind its first four bytes. -/
def rawT (l : List UInt8) (a : Nat) (s : Bool) : (Cfg × Nat × Bool) ⊕ (Nat × Nat) :=
  then_ (take l a s 1) fun x0 a s => then_ (take l a s 1) fun x1 a s =>
  then_ (take l a s 4) fun x2 a s => then_ (take l a s 4) fun x3 a s => then_ (take l a s 4) fun x4 a s => then_ (take l a s 4) fun x5 a s => then_ (take l a s 4) fun x6 a s => then_ (take l a s 4) fun x7 a s =>
  then_ (take l a s 1) fun n0 a s => then_ (take l a s 1) fun n1 a s => then_ (take l a s 1) fun n2 a s =>
  listsD l n0 n1 n2 a s fun ps qs rs => ⟨x0, x1, x2, x3, x4, x5, x6, x7, ps, qs, rs⟩

/-- What fits. -/
def B1 (x : Int) : Prop := 0 ≤ x ∧ x < 256
def B4 (x : Int) : Prop := 0 ≤ x ∧ x < 4294967296
def PartFits (p : Part) : Prop := B1 p.node ∧ B4 p.start ∧ B4 p.length ∧ B1 p.budget ∧ B1 p.words ∧ p.r0 < 256 ∧ p.r1 < 256 ∧ p.r2 < 256 ∧ p.r3 < 256
def PortFits (p : Port) : Prop := B1 p.part ∧ p.kind < 256 ∧ B1 p.size ∧ B1 p.depth ∧ B1 p.fresh
def RouteFits (p : Route) : Prop := B1 p.src ∧ B1 p.dst
structure Fits (c : Cfg) : Prop where
  nodes : B1 c.nodes
  faulty : B1 c.faulty
  slot : B4 c.slot
  gap : B4 c.gap
  rho : B4 c.rho
  dmin : B4 c.dmin
  dmax : B4 c.dmax
  margin : B4 c.margin
  np : c.parts.length < 256
  nq : c.ports.length < 256
  nr : c.routes.length < 256
  parts : ∀ p ∈ c.parts, PartFits p
  ports : ∀ p ∈ c.ports, PortFits p
  routes : ∀ p ∈ c.routes, RouteFits p

/-! ### Forward -/
theorem itake1 {l r : List UInt8} {x : Int} {a : Nat} (h : l.drop a = inum x 1 ++ r) (hx : B1 x) : ∃ n : Nat, take l a false 1 = ⟨n, a + 1, false⟩ ∧ (n : Int) = x ∧ l.drop (a + 1) = r := by
  obtain ⟨h0, h1⟩ := hx
  obtain ⟨t, h2⟩ := take_drop1 h (by omega)
  exact ⟨_, t, by omega, h2⟩
theorem itake4 {l r : List UInt8} {x : Int} {a : Nat} (h : l.drop a = inum x 4 ++ r) (hx : B4 x) : ∃ n : Nat, take l a false 4 = ⟨n, a + 4, false⟩ ∧ (n : Int) = x ∧ l.drop (a + 4) = r := by
  obtain ⟨h0, h1⟩ := hx
  obtain ⟨t, h2⟩ := take_drop4 h (by omega)
  exact ⟨_, t, by omega, h2⟩
theorem inum_length (x : Int) (s : Nat) : (inum x s).length = s := num_length _ s

theorem partsD_enc {l r : List UInt8} : ∀ (ps : List Part) (a : Nat), l.drop a = partsB ps ++ r → (∀ p ∈ ps, PartFits p) → partsD l ps.length a false = (ps, a + (partsB ps).length, false) ∧ l.drop (a + (partsB ps).length) = r
  | [], a, h, _ => by simpa [partsD, partsB] using h
  | p :: ps, a, h, hf => by
    obtain ⟨f0, f1, f2, f3, f4, f5, f6, f7, f8⟩ := hf p (by simp)
    simp only [partsB, partB, List.append_assoc] at h
    obtain ⟨m0, t0, i0, h⟩ := itake1 h f0
    obtain ⟨m1, t1, i1, h⟩ := itake4 h f1
    obtain ⟨m2, t2, i2, h⟩ := itake4 h f2
    obtain ⟨m3, t3, i3, h⟩ := itake1 h f3
    obtain ⟨m4, t4, i4, h⟩ := itake1 h f4
    obtain ⟨t5, h⟩ := take_drop1 h f5
    obtain ⟨t6, h⟩ := take_drop1 h f6
    obtain ⟨t7, h⟩ := take_drop1 h f7
    obtain ⟨t8, h⟩ := take_drop1 h f8
    obtain ⟨t9, h⟩ := partsD_enc ps _ h (fun x hx => hf x (by simp [hx]))
    have e : (partsB (p :: ps)).length = 1 + (4 + (4 + (1 + (1 + (1 + (1 + (1 + (1 + (partsB ps).length)))))))) := by simp [partsB, partB, num_length, inum_length]
    constructor
    · rw [e]
      simp only [List.length_cons, partsD, Bool.false_eq_true, if_false, t0, t1, t2, t3, t4, t5, t6, t7, t8, t9, i0, i1, i2, i3, i4]
      simp only [Nat.add_assoc]
    · rw [e]
      simpa only [Nat.add_assoc] using h

theorem bit_lt (b : Bool) : bit b ≤ 1 := by cases b <;> simp [bit]
theorem bit_one (b : Bool) : (bit b == 1) = b := by cases b <;> rfl
theorem portsD_enc {l r : List UInt8} : ∀ (ps : List Port) (i a : Nat), l.drop a = portsB ps ++ r → (∀ p ∈ ps, PortFits p) → portsD l ps.length i a false = .inl (ps, a + (portsB ps).length, false) ∧ l.drop (a + (portsB ps).length) = r
  | [], i, a, h, _ => by simpa [portsD, portsB] using h
  | p :: ps, i, a, h, hf => by
    obtain ⟨f0, f1, f3, f4, f5⟩ := hf p (by simp)
    simp only [portsB, portB, List.append_assoc] at h
    have hb := bit_lt p.out
    obtain ⟨m0, t0, i0, h⟩ := itake1 h f0
    obtain ⟨t1, h⟩ := take_drop1 h f1
    obtain ⟨t2, h⟩ := take_drop1 h (by omega)
    obtain ⟨m3, t3, i3, h⟩ := itake1 h f3
    obtain ⟨m4, t4, i4, h⟩ := itake1 h f4
    obtain ⟨m5, t5, i5, h⟩ := itake1 h f5
    obtain ⟨t9, h⟩ := portsD_enc ps (i + 1) _ h (fun x hx => hf x (by simp [hx]))
    have e : (portsB (p :: ps)).length = 1 + (1 + (1 + (1 + (1 + (1 + (portsB ps).length))))) := by simp [portsB, portB, num_length, inum_length]
    have hnb : ¬ (True ∧ 1 < bit p.out) := by omega
    constructor
    · rw [e]
      simp only [List.length_cons, portsD, Bool.false_eq_true, if_false, t0, t1, t2, t3, t4, t5, t9, i0, i3, i4, i5, bit_one]
      rw [if_neg hnb]
      simp only [Nat.add_assoc]
    · rw [e]
      simpa only [Nat.add_assoc] using h

theorem routesD_enc {l r : List UInt8} : ∀ (ps : List Route) (a : Nat), l.drop a = routesB ps ++ r → (∀ p ∈ ps, RouteFits p) → routesD l ps.length a false = (ps, a + (routesB ps).length, false) ∧ l.drop (a + (routesB ps).length) = r
  | [], a, h, _ => by simpa [routesD, routesB] using h
  | p :: ps, a, h, hf => by
    obtain ⟨f0, f1⟩ := hf p (by simp)
    simp only [routesB, routeB, List.append_assoc] at h
    obtain ⟨m0, t0, i0, h⟩ := itake1 h f0
    obtain ⟨m1, t1, i1, h⟩ := itake1 h f1
    obtain ⟨t9, h⟩ := routesD_enc ps _ h (fun x hx => hf x (by simp [hx]))
    have e : (routesB (p :: ps)).length = 1 + (1 + (routesB ps).length) := by simp [routesB, routeB, inum_length]
    constructor
    · rw [e]
      simp only [List.length_cons, routesD, Bool.false_eq_true, if_false, t0, t1, t9, i0, i1]
      simp only [Nat.add_assoc]
    · rw [e]
      simpa only [Nat.add_assoc] using h

theorem magic_lt : magic < 4294967296 := by decide
theorem enc_head (c : Cfg) (r : List UInt8) : take (enc c ++ r) 0 false 4 = ⟨magic, 4, false⟩ := by
  have h : (enc c ++ r).drop 0 = enc c ++ r := rfl
  conv at h => rhs; unfold enc
  simp only [List.append_assoc] at h
  exact (take_drop4 h magic_lt).1

/-- What stands behind the first four bytes. -/
def body (c : Cfg) : List UInt8 :=
  inum c.nodes 1 ++ (inum c.faulty 1 ++ (inum c.slot 4 ++ (inum c.gap 4 ++ (inum c.rho 4 ++ (inum c.dmin 4 ++ (inum c.dmax 4 ++ (inum c.margin 4 ++
    (num c.parts.length 1 ++ (num c.ports.length 1 ++ (num c.routes.length 1 ++ (partsB c.parts ++ (portsB c.ports ++ routesB c.routes))))))))))))
theorem enc_body (c : Cfg) : enc c = num magic 4 ++ body c := rfl
theorem body_len (c : Cfg) : (body c).length = 1 + (1 + (4 + (4 + (4 + (4 + (4 + (4 + (1 + (1 + (1 + ((partsB c.parts).length + ((portsB c.ports).length + (routesB c.routes).length)))))))))))) := by
  simp only [body, List.length_append, num_length, inum_length]
theorem enc_len (c : Cfg) : (enc c).length = 4 + (body c).length := by
  rw [enc_body, List.length_append, num_length]

theorem rawT_body {l r : List UInt8} (c : Cfg) (a : Nat) (h : l.drop a = body c ++ r) (hf : Fits c) : rawT l a false = .inl (c, a + (body c).length, false) := by
  rw [body_len]
  unfold body at h
  simp only [List.append_assoc] at h
  obtain ⟨m0, t0, i0, h⟩ := itake1 h hf.nodes
  obtain ⟨m1, t1, i1, h⟩ := itake1 h hf.faulty
  obtain ⟨m2, t2, i2, h⟩ := itake4 h hf.slot
  obtain ⟨m3, t3, i3, h⟩ := itake4 h hf.gap
  obtain ⟨m4, t4, i4, h⟩ := itake4 h hf.rho
  obtain ⟨m5, t5, i5, h⟩ := itake4 h hf.dmin
  obtain ⟨m6, t6, i6, h⟩ := itake4 h hf.dmax
  obtain ⟨m7, t7, i7, h⟩ := itake4 h hf.margin
  obtain ⟨u0, h⟩ := take_drop1 h hf.np
  obtain ⟨u1, h⟩ := take_drop1 h hf.nq
  obtain ⟨u2, h⟩ := take_drop1 h hf.nr
  obtain ⟨v0, h⟩ := partsD_enc _ _ h hf.parts
  obtain ⟨v1, h⟩ := portsD_enc _ 0 _ h hf.ports
  obtain ⟨v2, -⟩ := routesD_enc _ _ h hf.routes
  simp only [rawT, then_, t0, t1, t2, t3, t4, t5, t6, t7, u0, u1, u2]
  simp only [listsD, v0, v1, v2, i0, i1, i2, i3, i4, i5, i6, i7]
  simp only [Nat.add_assoc]

/-- What was written is read, whatever stands behind it. -/
theorem rawT_enc (c : Cfg) (r : List UInt8) (hf : Fits c) : rawT (enc c ++ r) 4 false = .inl (c, (enc c).length, false) := by
  have h : (enc c ++ r).drop 4 = body c ++ r := by
    rw [enc_body, List.append_assoc, List.drop_append_of_le_length (by rw [num_length]; exact Nat.le_refl _), List.drop_of_length_le (by rw [num_length]; exact Nat.le_refl _), List.nil_append]
  rw [rawT_body c 4 h hf, enc_len]
end Go.Proofs.Ytfgpfmhjnccccaa.TableP
namespace Go.Proofs.Ytfgpfmhjnccccaa.TableP
open WireP FrameP

theorem inv1 {l : List UInt8} {a : Nat} {sh : Bool} {x : Took} (e : take l a sh 1 = x) (h : x.short = false) : sh = false ∧ l.drop a = num x.n 1 ++ l.drop x.at_ ∧ x.n < 256 := by
  subst e; exact take_inv1 h
theorem inv4 {l : List UInt8} {a : Nat} {sh : Bool} {x : Took} (e : take l a sh 4 = x) (h : x.short = false) : sh = false ∧ l.drop a = num x.n 4 ++ l.drop x.at_ ∧ x.n < 4294967296 := by
  subst e; exact take_inv4 h
theorem inum_nat (n s : Nat) (h : n < 4294967296) : inum (n : Int) s = num n s := by
  unfold inum
  congr 1
  omega
theorem B1_nat {n : Nat} (h : n < 256) : B1 (n : Int) := ⟨by omega, by omega⟩
theorem B4_nat {n : Nat} (h : n < 4294967296) : B4 (n : Int) := ⟨by omega, by omega⟩

theorem partsD_inv {l : List UInt8} : ∀ (k a : Nat) (s : Bool) (ps : List Part) (b : Nat), partsD l k a s = (ps, b, false) →
    s = false ∧ l.drop a = partsB ps ++ l.drop b ∧ ps.length = k ∧ ∀ p ∈ ps, PartFits p
  | 0, a, s, ps, b, h => by
    injection h with h1 h2
    injection h2 with h2 h3
    subst h1 h2 h3
    exact ⟨rfl, by simp [partsB], rfl, by simp⟩
  | k + 1, a, s, ps, b, h => by
    cases s with
    | true => simp [partsD] at h
    | false =>
      simp only [partsD, Bool.false_eq_true, if_false] at h
      generalize e0 : take l a false 1 = x0 at h
      generalize e1 : take l x0.at_ x0.short 4 = x1 at h
      generalize e2 : take l x1.at_ x1.short 4 = x2 at h
      generalize e3 : take l x2.at_ x2.short 1 = x3 at h
      generalize e4 : take l x3.at_ x3.short 1 = x4 at h
      generalize e5 : take l x4.at_ x4.short 1 = x5 at h
      generalize e6 : take l x5.at_ x5.short 1 = x6 at h
      generalize e7 : take l x6.at_ x6.short 1 = x7 at h
      generalize e8 : take l x7.at_ x7.short 1 = x8 at h
      injection h with h1 h2
      have h3 : partsD l k x8.at_ x8.short = ((partsD l k x8.at_ x8.short).1, b, false) := by rw [← h2]
      obtain ⟨g8, d9, n9, f9⟩ := partsD_inv k _ _ _ _ h3
      obtain ⟨g7, d8, b8⟩ := inv1 e8 g8
      obtain ⟨g6, d7, b7⟩ := inv1 e7 g7
      obtain ⟨g5, d6, b6⟩ := inv1 e6 g6
      obtain ⟨g4, d5, b5⟩ := inv1 e5 g5
      obtain ⟨g3, d4, b4⟩ := inv1 e4 g4
      obtain ⟨g2, d3, b3⟩ := inv1 e3 g3
      obtain ⟨g1, d2, b2⟩ := inv4 e2 g2
      obtain ⟨g0, d1, b1⟩ := inv4 e1 g1
      obtain ⟨_, d0, b0⟩ := inv1 e0 g0
      subst h1
      refine ⟨rfl, ?_, by simp [n9], ?_⟩
      · simp only [partsB, partB, List.append_assoc]
        rw [inum_nat _ _ (by omega), inum_nat _ _ b1, inum_nat _ _ b2, inum_nat _ _ (by omega), inum_nat _ _ (by omega)]
        rw [← d9, ← d8, ← d7, ← d6, ← d5, ← d4, ← d3, ← d2, ← d1]
        exact d0
      · intro p hp
        rcases List.mem_cons.1 hp with rfl | hp
        · exact ⟨B1_nat b0, B4_nat b1, B4_nat b2, B1_nat b3, B1_nat b4, b5, b6, b7, b8⟩
        · exact f9 p hp

theorem bit_of {n : Nat} (h : n ≤ 1) : bit (n == 1) = n := by
  have : n = 0 ∨ n = 1 := by omega
  rcases this with rfl | rfl <;> rfl

theorem portsD_inv {l : List UInt8} : ∀ (k i a : Nat) (s : Bool) (ps : List Port) (b : Nat), portsD l k i a s = .inl (ps, b, false) →
    s = false ∧ l.drop a = portsB ps ++ l.drop b ∧ ps.length = k ∧ ∀ p ∈ ps, PortFits p
  | 0, i, a, s, ps, b, h => by
    injection h with h
    injection h with h1 h2
    injection h2 with h2 h3
    subst h1 h2 h3
    exact ⟨rfl, by simp [portsB], rfl, by simp⟩
  | k + 1, i, a, s, ps, b, h => by
    cases s with
    | true => simp [portsD] at h
    | false =>
      simp only [portsD, Bool.false_eq_true, if_false] at h
      generalize e0 : take l a false 1 = x0 at h
      generalize e1 : take l x0.at_ x0.short 1 = x1 at h
      generalize e2 : take l x1.at_ x1.short 1 = x2 at h
      by_cases hb : x2.short = false ∧ 1 < x2.n
      · rw [if_pos hb] at h; cases h
      · rw [if_neg hb] at h
        generalize e3 : take l x2.at_ x2.short 1 = x3 at h
        generalize e4 : take l x3.at_ x3.short 1 = x4 at h
        generalize e5 : take l x4.at_ x4.short 1 = x5 at h
        cases h3 : portsD l k (i + 1) x5.at_ x5.short with
        | inr e => rw [h3] at h; cases h
        | inl r =>
          rw [h3] at h
          injection h with h
          injection h with h1 h2
          obtain ⟨r1, r2⟩ := r
          subst h2
          obtain ⟨g5, d6, n6, f6⟩ := portsD_inv k _ _ _ _ _ h3
          obtain ⟨g4, d5, b5⟩ := inv1 e5 g5
          obtain ⟨g3, d4, b4⟩ := inv1 e4 g4
          obtain ⟨g2, d3, b3⟩ := inv1 e3 g3
          obtain ⟨g1, d2, b2⟩ := inv1 e2 g2
          obtain ⟨g0, d1, b1⟩ := inv1 e1 g1
          obtain ⟨_, d0, b0⟩ := inv1 e0 g0
          have hx2 : x2.n ≤ 1 := by
            rcases Nat.lt_or_ge 1 x2.n with h | h
            · exact absurd ⟨g2, h⟩ hb
            · exact h
          subst h1
          refine ⟨rfl, ?_, by simp [n6], ?_⟩
          · simp only [portsB, portB, List.append_assoc, bit_of hx2]
            rw [inum_nat _ _ (by omega), inum_nat _ _ (by omega), inum_nat _ _ (by omega), inum_nat _ _ (by omega)]
            rw [← d6, ← d5, ← d4, ← d3, ← d2, ← d1]
            exact d0
          · intro p hp
            rcases List.mem_cons.1 hp with rfl | hp
            · exact ⟨B1_nat b0, b1, B1_nat b3, B1_nat b4, B1_nat b5⟩
            · exact f6 p hp

theorem routesD_inv {l : List UInt8} : ∀ (k a : Nat) (s : Bool) (ps : List Route) (b : Nat), routesD l k a s = (ps, b, false) →
    s = false ∧ l.drop a = routesB ps ++ l.drop b ∧ ps.length = k ∧ ∀ p ∈ ps, RouteFits p
  | 0, a, s, ps, b, h => by
    injection h with h1 h2
    injection h2 with h2 h3
    subst h1 h2 h3
    exact ⟨rfl, by simp [routesB], rfl, by simp⟩
  | k + 1, a, s, ps, b, h => by
    cases s with
    | true => simp [routesD] at h
    | false =>
      simp only [routesD, Bool.false_eq_true, if_false] at h
      generalize e0 : take l a false 1 = x0 at h
      generalize e1 : take l x0.at_ x0.short 1 = x1 at h
      injection h with h1 h2
      have h3 : routesD l k x1.at_ x1.short = ((routesD l k x1.at_ x1.short).1, b, false) := by rw [← h2]
      obtain ⟨g1, d2, n2, f2⟩ := routesD_inv k _ _ _ _ h3
      obtain ⟨g0, d1, b1⟩ := inv1 e1 g1
      obtain ⟨_, d0, b0⟩ := inv1 e0 g0
      subst h1
      refine ⟨rfl, ?_, by simp [n2], ?_⟩
      · simp only [routesB, routeB, List.append_assoc]
        rw [inum_nat _ _ (by omega), inum_nat _ _ (by omega), ← d2, ← d1]
        exact d0
      · intro p hp
        rcases List.mem_cons.1 hp with rfl | hp
        · exact ⟨B1_nat b0, B1_nat b1⟩
        · exact f2 p hp

/-- What was read without falling short is what is written so. -/
theorem rawT_inv {l : List UInt8} {a b : Nat} {s : Bool} {c : Cfg} (h : rawT l a s = .inl (c, b, false)) : s = false ∧ l.drop a = body c ++ l.drop b ∧ Fits c := by
  unfold rawT at h
  rw [then_] at h
  generalize e0 : take l a s 1 = x0 at h
  rw [then_] at h
  generalize e1 : take l x0.at_ x0.short 1 = x1 at h
  rw [then_] at h
  generalize e2 : take l x1.at_ x1.short 4 = x2 at h
  rw [then_] at h
  generalize e3 : take l x2.at_ x2.short 4 = x3 at h
  rw [then_] at h
  generalize e4 : take l x3.at_ x3.short 4 = x4 at h
  rw [then_] at h
  generalize e5 : take l x4.at_ x4.short 4 = x5 at h
  rw [then_] at h
  generalize e6 : take l x5.at_ x5.short 4 = x6 at h
  rw [then_] at h
  generalize e7 : take l x6.at_ x6.short 4 = x7 at h
  rw [then_] at h
  generalize e8 : take l x7.at_ x7.short 1 = x8 at h
  rw [then_] at h
  generalize e9 : take l x8.at_ x8.short 1 = x9 at h
  rw [then_] at h
  generalize e10 : take l x9.at_ x9.short 1 = x10 at h
  unfold listsD at h
  cases hq : portsD l x9.n 0 (partsD l x8.n x10.at_ x10.short).2.1 (partsD l x8.n x10.at_ x10.short).2.2 with
  | inr e => rw [hq] at h; cases h
  | inl qs =>
    rw [hq] at h
    obtain ⟨q1, q2, q3⟩ := qs
    injection h with h
    injection h with h1 h2
    have h3 : routesD l x10.n q2 q3 = ((routesD l x10.n q2 q3).1, b, false) := by rw [← h2]
    obtain ⟨rfl, d13, n13, f13⟩ := routesD_inv _ _ _ _ _ h3
    obtain ⟨g12, d12, n12, f12⟩ := portsD_inv _ _ _ _ _ _ hq
    have h4 : partsD l x8.n x10.at_ x10.short = ((partsD l x8.n x10.at_ x10.short).1, (partsD l x8.n x10.at_ x10.short).2.1, false) := by rw [← g12]
    obtain ⟨g10, d11, n11, f11⟩ := partsD_inv _ _ _ _ _ h4
    obtain ⟨g9, d10, b10⟩ := inv1 e10 g10
    obtain ⟨g8, d9, b9⟩ := inv1 e9 g9
    obtain ⟨g7, d8, b8⟩ := inv1 e8 g8
    obtain ⟨g6, d7, b7⟩ := inv4 e7 g7
    obtain ⟨g5, d6, b6⟩ := inv4 e6 g6
    obtain ⟨g4, d5, b5⟩ := inv4 e5 g5
    obtain ⟨g3, d4, b4⟩ := inv4 e4 g4
    obtain ⟨g2, d3, b3⟩ := inv4 e3 g3
    obtain ⟨g1, d2, b2⟩ := inv4 e2 g2
    obtain ⟨g0, d1, b1⟩ := inv1 e1 g1
    obtain ⟨gs, d0, b0⟩ := inv1 e0 g0
    subst h1
    refine ⟨gs, ?_, ⟨B1_nat b0, B1_nat b1, B4_nat b2, B4_nat b3, B4_nat b4, B4_nat b5, B4_nat b6, B4_nat b7, ?_, ?_, ?_, f11, f12, f13⟩⟩
    · simp only [body, List.append_assoc, n11, n12, n13]
      rw [inum_nat _ _ (by omega), inum_nat _ _ (by omega), inum_nat _ _ b2, inum_nat _ _ b3, inum_nat _ _ b4, inum_nat _ _ b5, inum_nat _ _ b6, inum_nat _ _ b7]
      rw [← d13, ← d12, ← d11, ← d10, ← d9, ← d8, ← d7, ← d6, ← d5, ← d4, ← d3, ← d2, ← d1]
      exact d0
    · show (partsD l x8.n x10.at_ x10.short).1.length < 256
      rw [n11]; exact b8
    · show q1.length < 256
      rw [n12]; exact b9
    · show (routesD l x10.n q2 false).1.length < 256
      rw [n13]; exact b10

/-- No image is the beginning of another one. -/
theorem enc_prefix {f g : Cfg} {r : List UInt8} (hf : Fits f) (hg : Fits g) (h : enc f = enc g ++ r) : r = [] := by
  have h1 := rawT_enc f [] hf
  have h2 := rawT_enc g r hg
  rw [List.append_nil, h, h2] at h1
  have h3 : (enc g).length = (enc g ++ r).length := (Prod.mk.inj (Prod.mk.inj (Sum.inl.inj h1)).2).1
  rw [List.length_append] at h3
  generalize (enc g).length = n at h3
  exact List.eq_nil_of_length_eq_zero (by omega)
end Go.Proofs.Ytfgpfmhjnccccaa.TableP
namespace Go.Proofs.Ytfgpfmhjnccccaa.FrameP
open WireP

/-- An error: its number and its place. -/
abbrev Wrong := Nat × Int
def chkMsgs : Nat → List Msg → Option Wrong
  | _, [] => none
  | i, m :: r => if m.port < 0 ∨ 23 < m.port then some (2, (i : Int)) else if 16 < m.data.length then some (12, (i : Int)) else chkMsgs (i + 1) r
def chkRecs : Nat → List Rec → Option Wrong
  | _, [] => none
  | i, x :: r => if 6 < x.node ∨ 11 < x.part ∨ 3 < x.kind ∨ 3 < x.did then some (50, (i : Int)) else chkRecs (i + 1) r
/-- Not lawful. -/
def unlawful (kind key val old : Nat) : Prop := (kind = 0 ∧ ¬ (key = 0 ∧ val = 0 ∧ old = 0)) ∨ 7 < key ∨ (kind ≠ 3 ∧ old ≠ 0) ∨ (kind = 2 ∧ val ≠ 0)
instance (kind key val old : Nat) : Decidable (unlawful kind key val old) := by unfold unlawful; exact inferInstance
def chk (f : Fr) : Option Wrong :=
  if 6 < f.sender then some (2, -1)
  else if 96 < f.msgs.length ∨ 4 < f.recs.length then some (3, -1)
  else match chkMsgs 0 f.msgs with
    | some e => some e
    | none => if 3 < f.kind then some (7, -1) else if unlawful f.kind f.key f.val f.old then some (8, -1) else chkRecs 0 f.recs

theorem chkMsgs_none : ∀ (ms : List Msg) (i : Nat), chkMsgs i ms = none → ∀ m ∈ ms, 0 ≤ m.port ∧ m.port ≤ 23 ∧ m.data.length ≤ 16
  | [], _, _ => by simp
  | m :: r, i, h => by
    unfold chkMsgs at h
    by_cases h1 : m.port < 0 ∨ 23 < m.port
    · rw [if_pos h1] at h; cases h
    · rw [if_neg h1] at h
      by_cases h2 : 16 < m.data.length
      · rw [if_pos h2] at h; cases h
      · rw [if_neg h2] at h
        intro x hx
        rcases List.mem_cons.1 hx with rfl | hx
        · exact ⟨by omega, by omega, by omega⟩
        · exact chkMsgs_none r _ h x hx
theorem chkMsgs_len : ∀ (ms : List Msg) (i c : Nat) (p : Int), chkMsgs i ms = some (c, p) → 1 ≤ c ∧ c ≤ 199 ∧ -1 ≤ p ∧ p < i + ms.length
  | [], _, _, _, h => by cases h
  | m :: r, i, c, p, h => by
    unfold chkMsgs at h
    by_cases h1 : m.port < 0 ∨ 23 < m.port
    · rw [if_pos h1] at h
      injection h with h; injection h with h3 h4
      subst h3 h4
      simp; omega
    · rw [if_neg h1] at h
      by_cases h2 : 16 < m.data.length
      · rw [if_pos h2] at h
        injection h with h; injection h with h3 h4
        subst h3 h4
        simp; omega
      · rw [if_neg h2] at h
        have := chkMsgs_len r _ c p h
        simp; omega
theorem chkRecs_len : ∀ (ms : List Rec) (i c : Nat) (p : Int), chkRecs i ms = some (c, p) → 1 ≤ c ∧ c ≤ 199 ∧ -1 ≤ p ∧ p < i + ms.length
  | [], _, _, _, h => by cases h
  | m :: r, i, c, p, h => by
    unfold chkRecs at h
    by_cases h1 : 6 < m.node ∨ 11 < m.part ∨ 3 < m.kind ∨ 3 < m.did
    · rw [if_pos h1] at h
      injection h with h; injection h with h3 h4
      subst h3 h4
      simp; omega
    · rw [if_neg h1] at h
      have := chkRecs_len r _ c p h
      simp; omega
theorem chkRecs_none : ∀ (ms : List Rec) (i : Nat), chkRecs i ms = none → ∀ m ∈ ms, m.node ≤ 6 ∧ m.part ≤ 11 ∧ m.kind ≤ 3 ∧ m.did ≤ 3
  | [], _, _ => by simp
  | m :: r, i, h => by
    unfold chkRecs at h
    by_cases h1 : 6 < m.node ∨ 11 < m.part ∨ 3 < m.kind ∨ 3 < m.did
    · rw [if_pos h1] at h; cases h
    · rw [if_neg h1] at h
      intro x hx
      rcases List.mem_cons.1 hx with rfl | hx
      · omega
      · exact chkRecs_none r _ h x hx

/-- What the types of a frame's fields say. -/
structure Typed (f : Fr) : Prop where
  sender : f.sender < 256
  round : f.round < 4294967296
  members : f.members < 256
  kind : f.kind < 256
  key : f.key < 256
  val : f.val < 65536
  old : f.old < 65536
  recs : ∀ r ∈ f.recs, RecFits r

theorem chk_fits {f : Fr} (ht : Typed f) (h : chk f = none) : Fits f ∧ f.msgs.length ≤ 96 ∧ f.recs.length ≤ 4 := by
  unfold chk at h
  by_cases h1 : 6 < f.sender
  · rw [if_pos h1] at h; cases h
  · rw [if_neg h1] at h
    by_cases h2 : 96 < f.msgs.length ∨ 4 < f.recs.length
    · rw [if_pos h2] at h; cases h
    · rw [if_neg h2] at h
      cases h3 : chkMsgs 0 f.msgs with
      | some e => rw [h3] at h; cases h
      | none =>
        refine ⟨⟨ht.sender, ht.round, ht.members, by omega, fun m hm => ?_, ht.kind, ht.key, ht.val, ht.old, by omega, ht.recs⟩, by omega, by omega⟩
        have := chkMsgs_none _ _ h3 m hm
        exact ⟨this.1, by omega, by omega⟩

theorem Fits.typed {f : Fr} (h : Fits f) : Typed f := ⟨h.sender, h.round, h.members, h.kind, h.key, h.val, h.old, h.recs⟩

/-- What is told of bytes: a frame; or where its reading ended, and what was wrong. -/
def dec (l : List UInt8) : Fr ⊕ (Nat × Wrong) :=
  if (raw l).2.2 then .inr ((raw l).2.1, (4, ((raw l).2.1 : Int)))
  else if (raw l).2.1 < l.length then .inr ((raw l).2.1, (5, ((raw l).2.1 : Int)))
  else match chk (raw l).1 with
    | some e => .inr ((raw l).2.1, e)
    | none => .inl (raw l).1

theorem dec_enc {f : Fr} (hf : Fits f) (hc : chk f = none) : dec (enc f) = .inl f := by
  have h := raw_enc f [] hf
  rw [List.append_nil] at h
  unfold dec
  rw [h]
  simp [hc]
theorem dec_ok {l : List UInt8} {f : Fr} (h : dec l = .inl f) : l = enc f ∧ chk f = none ∧ Fits f := by
  unfold dec at h
  cases hs : (raw l).2.2 with
  | true => rw [hs] at h; simp at h
  | false =>
    rw [hs] at h
    simp only [Bool.false_eq_true, if_false] at h
    obtain ⟨h1, h2⟩ := raw_inv hs
    by_cases h3 : (raw l).2.1 < l.length
    · rw [if_pos h3] at h; simp at h
    · rw [if_neg h3] at h
      cases h4 : chk (raw l).1 with
      | some e => rw [h4] at h; simp at h
      | none =>
        rw [h4] at h
        injection h with h
        subst h
        refine ⟨?_, h4, h2⟩
        have e : l.drop (raw l).2.1 = [] := List.drop_of_length_le (by omega)
        rw [e, List.append_nil] at h1
        exact h1
theorem dec_cut {f : Fr} (hf : Fits f) {n : Nat} (hn : n < (enc f).length) : ∃ e, dec ((enc f).take n) = .inr e := by
  cases h : dec ((enc f).take n) with
  | inr e => exact ⟨e, rfl⟩
  | inl g =>
    obtain ⟨h1, _, h3⟩ := dec_ok h
    have h4 : enc f = enc g ++ (enc f).drop n := by rw [← h1, List.take_append_drop]
    have h5 := enc_prefix hf h3 h4
    have h6 := congrArg List.length h5
    rw [List.length_drop] at h6
    simp at h6
    omega
theorem dec_more {f : Fr} (hf : Fits f) (r : List UInt8) (hr : r ≠ []) : ∃ e, dec (enc f ++ r) = .inr e := by
  cases h : dec (enc f ++ r) with
  | inr e => exact ⟨e, rfl⟩
  | inl g =>
    obtain ⟨h1, _, h3⟩ := dec_ok h
    exact absurd (enc_prefix h3 hf h1.symm) hr

theorem msgsD_at {l : List UInt8} : ∀ (k a : Nat) (s : Bool), a ≤ l.length → (msgsD l k a s).2.1 ≤ l.length
  | 0, a, s, h => h
  | k + 1, a, s, h => by
    cases s with
    | true => simpa [msgsD] using h
    | false =>
      simp only [msgsD, Bool.false_eq_true, if_false]
      exact msgsD_at k _ _ (tell_at (take_at h))
theorem recsD_at {l : List UInt8} : ∀ (k a : Nat) (s : Bool), a ≤ l.length → (recsD l k a s).2.1 ≤ l.length
  | 0, a, s, h => h
  | k + 1, a, s, h => by
    cases s with
    | true => simpa [recsD] using h
    | false =>
      simp only [recsD, Bool.false_eq_true, if_false]
      exact recsD_at k _ _ (take_at (take_at (take_at (take_at (take_at h)))))
theorem raw_at (l : List UInt8) : (raw l).2.1 ≤ l.length := by
  simp only [raw]
  exact recsD_at _ _ _ (take_at (take_at (take_at (take_at (take_at (msgsD_at _ _ _ (take_at (take_at (take_at (take_at (Nat.zero_le _)))))))))))

def dataLen : List Msg → Nat
  | [] => 0
  | m :: r => m.data.length + dataLen r
theorem msgsB_length : ∀ (ms : List Msg), (∀ m ∈ ms, MsgFits m) → (msgsB ms).length = 2 * ms.length + dataLen ms
  | [], _ => rfl
  | m :: r, h => by
    have h1 := msgsB_length r (fun x hx => h x (by simp [hx]))
    have h2 := (h m (by simp)).2.2
    simp [msgsB, msgB, num_length, text_short h2, dataLen, h1]
    omega
theorem recsB_length : ∀ (rs : List Rec), (recsB rs).length = 8 * rs.length
  | [] => rfl
  | m :: r => by
    have h1 := recsB_length r
    simp [recsB, recB, num_length, h1]
    omega
theorem enc_length {f : Fr} (h : Fits f) : (enc f).length = 14 + 2 * f.msgs.length + dataLen f.msgs + 8 * f.recs.length := by
  have h1 := msgsB_length f.msgs h.msgs
  have h2 := recsB_length f.recs
  simp [enc, tailB, num_length, h1, h2]
  omega
theorem dataLen_le : ∀ (ms : List Msg) (k : Nat), (∀ m ∈ ms, m.data.length ≤ k) → dataLen ms ≤ k * ms.length
  | [], _, _ => by simp [dataLen]
  | m :: r, k, h => by
    have h1 := dataLen_le r k (fun x hx => h x (by simp [hx]))
    have h2 := h m (by simp)
    simp only [dataLen, List.length_cons, Nat.mul_add, Nat.mul_one]
    omega
end Go.Proofs.Ytfgpfmhjnccccaa.FrameP
namespace Go.Proofs.Ytfgpfmhjnccccaa.TableP
open WireP FrameP

def up (x lo hi : Int) : Prop := lo ≤ x ∧ x ≤ hi
instance (x lo hi : Int) : Decidable (up x lo hi) := by unfold up; exact inferInstance

def headOk (c : Cfg) : Prop := up c.nodes 1 7 ∧ up c.faulty 0 2 ∧ up c.slot 1 16777216 ∧ up c.gap 0 16777216 ∧ up c.rho 0 200 ∧ up c.dmax 0 1048576 ∧ up c.dmin 0 c.dmax ∧ up c.margin 0 16777216
instance (c : Cfg) : Decidable (headOk c) := by unfold headOk; exact inferInstance
def partOk (nodes : Int) (p : Part) : Prop := up p.node 0 (nodes - 1) ∧ up p.start 0 268435456 ∧ up p.length 1 268435456 ∧ up p.budget 0 64 ∧ up p.words 0 16 ∧ p.r0 ≤ 3 ∧ p.r1 ≤ 3 ∧ p.r2 ≤ 3 ∧ p.r3 ≤ 3
instance (n : Int) (p : Part) : Decidable (partOk n p) := by unfold partOk; exact inferInstance
def portOk (np : Nat) (p : Port) : Prop :=
  up p.part 0 ((np : Int) - 1) ∧ up p.size 0 16 ∧ ((p.kind = 1 ∧ p.depth = 0 ∧ up p.fresh 0 8 ∧ ¬ (p.out = true ∧ p.fresh ≠ 0)) ∨ (p.kind = 2 ∧ up p.depth 1 4 ∧ p.fresh = 0))
instance (n : Nat) (p : Port) : Decidable (portOk n p) := by unfold portOk; exact inferInstance
def routeOk (nq : Nat) (p : Route) : Prop := up p.src 0 ((nq : Int) - 1) ∧ up p.dst 0 ((nq : Int) - 1)
instance (n : Nat) (p : Route) : Decidable (routeOk n p) := by unfold routeOk; exact inferInstance

/-- The first of a list with which something is wrong. -/
def first {α : Type} (ok : α → Prop) [DecidablePred ok] (code : Nat) : Nat → List α → Option Wrong
  | _, [] => none
  | i, x :: r => if ok x then first ok code (i + 1) r else some (code, (i : Int))
theorem first_none {α : Type} {ok : α → Prop} [DecidablePred ok] {code : Nat} : ∀ {l : List α} {i : Nat}, first ok code i l = none → ∀ x ∈ l, ok x
  | [], _, _ => by simp
  | x :: r, i, h => by
    unfold first at h
    by_cases h1 : ok x
    · rw [if_pos h1] at h
      intro y hy
      rcases List.mem_cons.1 hy with rfl | hy
      · exact h1
      · exact first_none h y hy
    · rw [if_neg h1] at h; cases h
theorem first_some {α : Type} {ok : α → Prop} [DecidablePred ok] {code : Nat} : ∀ {l : List α} {i c : Nat} {p : Int}, first ok code i l = some (c, p) → c = code ∧ (i : Int) ≤ p ∧ p < i + l.length
  | [], _, _, _, h => by cases h
  | x :: r, i, c, p, h => by
    unfold first at h
    by_cases h1 : ok x
    · rw [if_pos h1] at h
      obtain ⟨h2, h3, h4⟩ := first_some h
      simp at h3 h4 ⊢
      exact ⟨h2, by omega, by omega⟩
    · rw [if_neg h1] at h
      injection h with h; injection h with h3 h4
      subst h3 h4
      simp; omega

def chk (c : Cfg) : Option Wrong :=
  if headOk c then
    if 12 < c.parts.length ∨ 24 < c.ports.length ∨ 24 < c.routes.length then some (3, -1)
    else match first (partOk c.nodes) 2 0 c.parts with
      | some e => some e
      | none => match first (portOk c.parts.length) 8 0 c.ports with
        | some e => some e
        | none => first (routeOk c.ports.length) 72 0 c.routes
  else some (2, -1)

/-- What the types of the fields say. -/
def Typed (c : Cfg) : Prop := (∀ p ∈ c.parts, p.r0 < 256 ∧ p.r1 < 256 ∧ p.r2 < 256 ∧ p.r3 < 256) ∧ ∀ p ∈ c.ports, p.kind < 256

theorem chk_fits {c : Cfg} (h : chk c = none) : Fits c ∧ c.parts.length ≤ 12 ∧ c.ports.length ≤ 24 ∧ c.routes.length ≤ 24 := by
  unfold chk at h
  by_cases h1 : headOk c
  · rw [if_pos h1] at h
    by_cases h2 : 12 < c.parts.length ∨ 24 < c.ports.length ∨ 24 < c.routes.length
    · rw [if_pos h2] at h; cases h
    · rw [if_neg h2] at h
      cases h3 : first (partOk c.nodes) 2 0 c.parts with
      | some e => rw [h3] at h; cases h
      | none =>
        rw [h3] at h
        cases h4 : first (portOk c.parts.length) 8 0 c.ports with
        | some e => simp only [h4] at h; cases h
        | none =>
          simp only [h4] at h
          obtain ⟨⟨a1, a2⟩, ⟨b1, b2⟩, ⟨c1, c2⟩, ⟨d1, d2⟩, ⟨e1, e2⟩, ⟨f1, f2⟩, ⟨g1, g2⟩, ⟨i1, i2⟩⟩ := h1
          refine ⟨⟨⟨by omega, by omega⟩, ⟨by omega, by omega⟩, ⟨by omega, by omega⟩, ⟨by omega, by omega⟩, ⟨by omega, by omega⟩, ⟨by omega, by omega⟩, ⟨by omega, by omega⟩, ⟨by omega, by omega⟩, by omega, by omega, by omega, ?_, ?_, ?_⟩, by omega, by omega, by omega⟩
          · intro p hp
            obtain ⟨⟨p1, p2⟩, ⟨q1, q2⟩, ⟨r1, r2⟩, ⟨s1, s2⟩, ⟨t1, t2⟩, u0, u1, u2, u3⟩ := first_none h3 p hp
            exact ⟨⟨by omega, by omega⟩, ⟨by omega, by omega⟩, ⟨by omega, by omega⟩, ⟨by omega, by omega⟩, ⟨by omega, by omega⟩, by omega, by omega, by omega, by omega⟩
          · intro p hp
            obtain ⟨⟨p1, p2⟩, ⟨q1, q2⟩, hk⟩ := first_none h4 p hp
            rcases hk with ⟨k1, k2, ⟨k3, k4⟩, -⟩ | ⟨k1, ⟨k2, k3⟩, k4⟩
            · exact ⟨⟨by omega, by omega⟩, by omega, ⟨by omega, by omega⟩, ⟨by omega, by omega⟩, ⟨by omega, by omega⟩⟩
            · exact ⟨⟨by omega, by omega⟩, by omega, ⟨by omega, by omega⟩, ⟨by omega, by omega⟩, ⟨by omega, by omega⟩⟩
          · intro p hp
            obtain ⟨⟨p1, p2⟩, ⟨q1, q2⟩⟩ := first_none h p hp
            exact ⟨⟨by omega, by omega⟩, ⟨by omega, by omega⟩⟩
  · rw [if_neg h1] at h; cases h

/-- What is told of an image: tables; or where its reading ended, and what was wrong. -/
def dec (l : List UInt8) : Cfg ⊕ (Nat × Wrong) :=
  if (take l 0 false 4).short = false ∧ (take l 0 false 4).n ≠ magic then .inr ((take l 0 false 4).at_, (7, 0))
  else match rawT l (take l 0 false 4).at_ (take l 0 false 4).short with
    | .inr (b, i) => .inr (b, (8, (i : Int)))
    | .inl (c, b, s) =>
      if s then .inr (b, (4, (b : Int)))
      else if b < l.length then .inr (b, (5, (b : Int)))
      else match chk c with
        | some e => .inr (b, e)
        | none => .inl c

theorem dec_enc {c : Cfg} (hc : chk c = none) : dec (enc c) = .inl c := by
  have hf := (chk_fits hc).1
  have h1 := enc_head c []
  have h2 := rawT_enc c [] hf
  rw [List.append_nil] at h1 h2
  unfold dec
  rw [h1]
  rw [if_neg (fun h => h.2 rfl)]
  simp only [h2, Bool.false_eq_true, if_false]
  rw [if_neg (Nat.lt_irrefl _)]
  simp only [hc]

theorem dec_ok {l : List UInt8} {c : Cfg} (h : dec l = .inl c) : l = enc c ∧ chk c = none ∧ Fits c := by
  unfold dec at h
  generalize e0 : take l 0 false 4 = m at h
  by_cases h1 : m.short = false ∧ m.n ≠ magic
  · rw [if_pos h1] at h; cases h
  · rw [if_neg h1] at h
    cases h2 : rawT l m.at_ m.short with
    | inr e => obtain ⟨e1, e2⟩ := e; simp only [h2] at h; cases h
    | inl q =>
      obtain ⟨c', b, s⟩ := q
      simp only [h2] at h
      cases s with
      | true => simp at h
      | false =>
        simp only [Bool.false_eq_true, if_false] at h
        by_cases h3 : b < l.length
        · rw [if_pos h3] at h; cases h
        · rw [if_neg h3] at h
          cases h4 : chk c' with
          | some e => simp only [h4] at h; cases h
          | none =>
            simp only [h4] at h
            have h5 := Sum.inl.inj h
            subst h5
            obtain ⟨g0, d1, hf⟩ := rawT_inv h2
            obtain ⟨_, d0, _⟩ := inv4 e0 g0
            have hm : m.n = magic := Classical.byContradiction fun hn => h1 ⟨g0, hn⟩
            have e : l.drop b = [] := List.drop_of_length_le (by omega)
            rw [e, List.append_nil] at d1
            rw [d1, hm] at d0
            exact ⟨d0, h4, hf⟩
theorem dec_cut {c : Cfg} (hf : Fits c) {n : Nat} (hn : n < (enc c).length) : ∃ e, dec ((enc c).take n) = .inr e := by
  cases h : dec ((enc c).take n) with
  | inr e => exact ⟨e, rfl⟩
  | inl g =>
    obtain ⟨h1, _, h3⟩ := dec_ok h
    have h4 : enc c = enc g ++ (enc c).drop n := by rw [← h1, List.take_append_drop]
    have h5 := enc_prefix hf h3 h4
    have h6 := congrArg List.length h5
    rw [List.length_drop, List.length_nil] at h6
    exact absurd h6 (by omega)
theorem dec_more {c : Cfg} (hf : Fits c) (r : List UInt8) (hr : r ≠ []) : ∃ e, dec (enc c ++ r) = .inr e := by
  cases h : dec (enc c ++ r) with
  | inr e => exact ⟨e, rfl⟩
  | inl g =>
    obtain ⟨h1, _, h3⟩ := dec_ok h
    exact absurd (enc_prefix h3 hf h1.symm) hr

theorem partsB_length : ∀ (ps : List Part), (partsB ps).length = 15 * ps.length
  | [] => rfl
  | p :: r => by
    have h1 := partsB_length r
    simp [partsB, partB, num_length, inum_length, h1]
    omega
theorem portsB_length : ∀ (ps : List Port), (portsB ps).length = 6 * ps.length
  | [] => rfl
  | p :: r => by
    have h1 := portsB_length r
    simp [portsB, portB, num_length, inum_length, h1]
    omega
theorem routesB_length : ∀ (ps : List Route), (routesB ps).length = 2 * ps.length
  | [] => rfl
  | p :: r => by
    have h1 := routesB_length r
    simp [routesB, routeB, inum_length, h1]
    omega
theorem enc_length (c : Cfg) : (enc c).length = 33 + 15 * c.parts.length + 6 * c.ports.length + 2 * c.routes.length := by
  rw [enc_len, body_len, partsB_length, portsB_length, routesB_length]
  omega
end Go.Proofs.Ytfgpfmhjnccccaa.TableP
namespace Go.Proofs.Ytfgpfmhjnccccaa.SndP
open TableP
open FrameP (Wrong)

def slotsT (c : Cfg) : Int := c.nodes * c.slot
def roundT (c : Cfg) : Int := c.nodes * c.slot + c.gap
def driftT (c : Cfg) : Int := (2 * c.rho * (c.nodes * c.slot + c.gap) + 999999) / 1000000 + 2
def spreadT (c : Cfg) : Int := c.dmax - c.dmin
def precT (c : Cfg) : Int := 4 * (c.dmax - c.dmin) + 16 * driftT c + 64
def meanT (c : Cfg) : Int := c.dmin + (c.dmax - c.dmin) / 2
def sendT (c : Cfg) (n : Int) : Int := n * c.slot + c.margin

structure Nums (c : Cfg) : Prop where
  nodes : 1 ≤ c.nodes ∧ c.nodes ≤ 7
  faulty : 0 ≤ c.faulty ∧ c.faulty ≤ 2
  slot : 1 ≤ c.slot ∧ c.slot ≤ 16777216
  gap : 0 ≤ c.gap ∧ c.gap ≤ 16777216
  rho : 0 ≤ c.rho ∧ c.rho ≤ 200
  dmax : 0 ≤ c.dmax ∧ c.dmax ≤ 1048576
  dmin : 0 ≤ c.dmin ∧ c.dmin ≤ c.dmax
  margin : 0 ≤ c.margin ∧ c.margin ≤ 16777216
  slots : 0 ≤ c.nodes * c.slot ∧ c.nodes * c.slot ≤ 117440512
  drift0 : 0 ≤ 2 * c.rho * (c.nodes * c.slot + c.gap) ∧ 2 * c.rho * (c.nodes * c.slot + c.gap) ≤ 53687091200
theorem mul_in {a b m n : Int} (ha : 0 ≤ a ∧ a ≤ m) (hb : 0 ≤ b ∧ b ≤ n) : 0 ≤ a * b ∧ a * b ≤ m * n :=
  ⟨Int.mul_nonneg ha.1 hb.1, Int.mul_le_mul ha.2 hb.2 hb.1 (Int.le_trans ha.1 ha.2)⟩
theorem nums_in {c : Cfg} (h : headOk c) : Nums c := by
  obtain ⟨h1, h2, h3, h4, h5, h6, h7, h8⟩ := h
  unfold up at h1 h2 h3 h4 h5 h6 h7 h8
  have s := mul_in (a := c.nodes) (b := c.slot) (m := 7) (n := 16777216) ⟨by omega, h1.2⟩ ⟨by omega, h3.2⟩
  have d := mul_in (a := 2 * c.rho) (b := c.nodes * c.slot + c.gap) (m := 400) (n := 134217728) ⟨by omega, by omega⟩ ⟨by omega, by omega⟩
  exact ⟨h1, h2, h3, h4, h5, h6, h7, h8, ⟨s.1, by omega⟩, ⟨d.1, by omega⟩⟩
theorem drift_in {c : Cfg} (h : Nums c) : 2 ≤ driftT c ∧ driftT c ≤ 53691 := by
  have := h.drift0
  unfold driftT
  omega
theorem prec_in {c : Cfg} (h : Nums c) : 0 ≤ precT c ∧ precT c ≤ 6000000 := by
  have h1 := drift_in h
  have h2 := h.dmin
  have h3 := h.dmax
  unfold precT
  omega

/-- Have two windows a time in common? -/
def meetB (a b : Part) : Bool := decide (a.start < b.start + b.length) && decide (b.start < a.start + a.length)
/-- Does the i-th window end ahead of the gap, and meet none of an earlier partition of its node? -/
def clash (p q : Part) : Bool := decide (q.node = p.node) && meetB q p
def fitB (c : Cfg) (i : Nat) (p : Part) : Bool := decide (p.start + p.length ≤ c.nodes * c.slot) && !(c.parts.take i).any (clash p)
def leads (p q : Route) : Bool := decide (q.dst = p.dst)
def joinB (c : Cfg) (i : Nat) (r : Route) : Bool :=
  match c.ports[r.src.toNat]?, c.ports[r.dst.toNat]? with
  | some a, some b => a.out && !b.out && decide (a.kind = b.kind) && decide (a.size ≤ b.size) && !(c.routes.take i).any (leads r)
  | _, _ => false

/-- The first of a list with which something is wrong, by its place. -/
def firstI {α : Type} (ok : Nat → α → Bool) (code : Nat) : Nat → List α → Option Wrong
  | _, [] => none
  | i, x :: r => if ok i x = true then firstI ok code (i + 1) r else some (code, (i : Int))
theorem firstI_step {α : Type} {ok : Nat → α → Bool} {code : Nat} {l : List α} {k : Nat} {x : α} (h : l[k]? = some x) :
    firstI ok code k (l.drop k) = if ok k x = true then firstI ok code (k + 1) (l.drop (k + 1)) else some (code, (k : Int)) := by
  obtain ⟨hk, rfl⟩ := List.getElem?_eq_some_iff.1 h
  rw [List.drop_eq_getElem_cons hk]
  rfl
theorem firstI_end {α : Type} {ok : Nat → α → Bool} {code : Nat} {l : List α} {k : Nat} (h : l.length ≤ k) : firstI ok code k (l.drop k) = none := by
  rw [List.drop_of_length_le h]; rfl
theorem firstI_none {α : Type} {ok : Nat → α → Bool} {code : Nat} : ∀ {l : List α} {i : Nat}, firstI ok code i l = none → ∀ k x, l[k]? = some x → ok (i + k) x = true
  | [], _, _, _, _, h => by simp at h
  | y :: r, i, h, k, x, hk => by
    unfold firstI at h
    by_cases h1 : ok i y = true
    · rw [if_pos h1] at h
      match k, hk with
      | 0, hk =>
        simp at hk
        subst hk
        exact h1
      | k + 1, hk =>
        have := firstI_none h k x (by simpa using hk)
        rwa [show i + (k + 1) = i + 1 + k by omega]
    · rw [if_neg h1] at h; cases h
theorem firstI_all {α : Type} {ok : Nat → α → Bool} {code : Nat} : ∀ {l : List α} {i : Nat}, (∀ k x, l[k]? = some x → ok (i + k) x = true) → firstI ok code i l = none
  | [], _, _ => rfl
  | y :: r, i, h => by
    unfold firstI
    rw [if_pos (by have := h 0 y rfl; simpa using this)]
    exact firstI_all fun k x hk => by
      have := h (k + 1) x (by simpa using hk)
      rwa [show i + (k + 1) = i + 1 + k by omega] at this

/-- What is wrong behind table's check. -/
def late (c : Cfg) : Option Wrong :=
  if c.nodes < 3 * c.faulty + 1 then some (70, -1)
  else if c.margin < precT c + (c.dmax - c.dmin) + driftT c then some (74, -1)
  else if c.slot < 2 * c.margin + c.dmax + precT c then some (73, -1)
  else if c.gap < 2 * (c.margin + precT c) then some (75, -1)
  else match firstI (fitB c) 71 0 c.parts with
    | some e => some e
    | none => firstI (joinB c) 72 0 c.routes
def chk6 (c : Cfg) : Option Wrong :=
  match chk c with
  | some e => some e
  | none => late c

/-- What table's check has let through. -/
structure Allowed (c : Cfg) : Prop where
  head : headOk c
  parts : c.parts.length ≤ 12
  ports : c.ports.length ≤ 24
  routes : c.routes.length ≤ 24
  part : ∀ p ∈ c.parts, partOk c.nodes p
  port : ∀ p ∈ c.ports, portOk c.parts.length p
  route : ∀ p ∈ c.routes, routeOk c.ports.length p
theorem allowed {c : Cfg} (h : chk c = none) : Allowed c := by
  unfold chk at h
  by_cases h1 : headOk c
  · rw [if_pos h1] at h
    by_cases h2 : 12 < c.parts.length ∨ 24 < c.ports.length ∨ 24 < c.routes.length
    · rw [if_pos h2] at h; cases h
    · rw [if_neg h2] at h
      cases h3 : first (partOk c.nodes) 2 0 c.parts with
      | some e => rw [h3] at h; cases h
      | none =>
        rw [h3] at h
        cases h4 : first (portOk c.parts.length) 8 0 c.ports with
        | some e => simp only [h4] at h; cases h
        | none =>
          simp only [h4] at h
          exact ⟨h1, by omega, by omega, by omega, first_none h3, first_none h4, first_none h⟩
  · rw [if_neg h1] at h; cases h
theorem first_all {α : Type} {ok : α → Prop} [DecidablePred ok] {code : Nat} : ∀ {l : List α} {i : Nat}, (∀ x ∈ l, ok x) → first ok code i l = none
  | [], _, _ => rfl
  | y :: r, i, h => by
    unfold first
    rw [if_pos (h y (by simp))]
    exact first_all fun x hx => h x (by simp [hx])
theorem allowed_chk {c : Cfg} (h : Allowed c) : chk c = none := by
  unfold chk
  rw [if_pos h.head, if_neg (by have := h.parts; have := h.ports; have := h.routes; omega), first_all h.part, first_all h.port]
  exact first_all h.route

/-- Tables that work. -/
structure Works (c : Cfg) : Prop where
  allowed : Allowed c
  nodes : 3 * c.faulty + 1 ≤ c.nodes
  margin : precT c + (c.dmax - c.dmin) + driftT c ≤ c.margin
  slot : 2 * c.margin + c.dmax + precT c ≤ c.slot
  gap : 2 * (c.margin + precT c) ≤ c.gap
  fit : ∀ k p, c.parts[k]? = some p → fitB c k p = true
  join : ∀ k r, c.routes[k]? = some r → joinB c k r = true
theorem works {c : Cfg} (h : chk6 c = none) : Works c := by
  unfold chk6 at h
  cases h0 : chk c with
  | some e => rw [h0] at h; cases h
  | none =>
    rw [h0] at h
    simp only [late] at h
    by_cases h1 : c.nodes < 3 * c.faulty + 1
    · rw [if_pos h1] at h; cases h
    rw [if_neg h1] at h
    by_cases h2 : c.margin < precT c + (c.dmax - c.dmin) + driftT c
    · rw [if_pos h2] at h; cases h
    rw [if_neg h2] at h
    by_cases h3 : c.slot < 2 * c.margin + c.dmax + precT c
    · rw [if_pos h3] at h; cases h
    rw [if_neg h3] at h
    by_cases h4 : c.gap < 2 * (c.margin + precT c)
    · rw [if_pos h4] at h; cases h
    rw [if_neg h4] at h
    cases h5 : firstI (fitB c) 71 0 c.parts with
    | some e => rw [h5] at h; cases h
    | none =>
      rw [h5] at h
      refine ⟨SndP.allowed h0, by omega, by omega, by omega, by omega, fun k p hk => ?_, fun k p hk => ?_⟩
      · simpa using firstI_none h5 k p hk
      · simpa using firstI_none h k p hk
theorem works_chk {c : Cfg} (h : Works c) : chk6 c = none := by
  have h1 := h.nodes
  have h2 := h.margin
  have h3 := h.slot
  have h4 := h.gap
  unfold chk6
  rw [allowed_chk h.allowed]
  simp only [late]
  rw [if_neg (by omega), if_neg (by omega), if_neg (by omega), if_neg (by omega), firstI_all (fun k p hk => by simpa using h.fit k p hk)]
  exact firstI_all (fun k p hk => by simpa using h.join k p hk)
end Go.Proofs.Ytfgpfmhjnccccaa.SndP
