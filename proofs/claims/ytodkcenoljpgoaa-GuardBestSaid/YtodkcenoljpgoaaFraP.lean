/- Plain: frames as bytes and back. No conditions. -/
import Derived.Test.YtodkcenoljpgoaaWirP
namespace Go.Proofs.Ytodkcenoljpgoaa.FrameP
open WireP

structure Msg where
  port : Int
  data : List UInt8
structure Rec where
  round : Nat
  node : Nat
  part : Nat
  kind : Nat
  did : Nat
structure Fr where
  sender : Nat
  round : Nat
  members : Nat
  msgs : List Msg
  kind : Nat
  key : Nat
  val : Nat
  old : Nat
  recs : List Rec

def msgB (m : Msg) : List UInt8 := num (m.port % 256).toNat 1 ++ text m.data
def recB (r : Rec) : List UInt8 := num r.round 4 ++ (num r.node 1 ++ (num r.part 1 ++ (num r.kind 1 ++ num r.did 1)))
def msgsB : List Msg → List UInt8
  | [] => []
  | m :: r => msgB m ++ msgsB r
def recsB : List Rec → List UInt8
  | [] => []
  | m :: r => recB m ++ recsB r
def tailB (f : Fr) : List UInt8 := num f.kind 1 ++ (num f.key 1 ++ (num f.val 2 ++ (num f.old 2 ++ (num f.recs.length 1 ++ recsB f.recs))))
/-- A frame's bytes, ahead of the sum. -/
def enc (f : Fr) : List UInt8 := num f.sender 1 ++ (num f.round 4 ++ (num f.members 1 ++ (num f.msgs.length 1 ++ (msgsB f.msgs ++ tailB f))))

/-- Reading messages; what was read, and where the reader stands then. -/
def msgsD (l : List UInt8) : Nat → Nat → Bool → List Msg × Nat × Bool
  | 0, a, s => ([], a, s)
  | k + 1, a, s =>
    if s then ([], a, s) else
      let p := take l a s 1
      let d := tell l p.at_ p.short
      let r := msgsD l k d.at_ d.short
      (⟨p.n, d.l⟩ :: r.1, r.2)
def recsD (l : List UInt8) : Nat → Nat → Bool → List Rec × Nat × Bool
  | 0, a, s => ([], a, s)
  | k + 1, a, s =>
    if s then ([], a, s) else
      let x0 := take l a s 4
      let x1 := take l x0.at_ x0.short 1
      let x2 := take l x1.at_ x1.short 1
      let x3 := take l x2.at_ x2.short 1
      let x4 := take l x3.at_ x3.short 1
      let r := recsD l k x4.at_ x4.short
      (⟨x0.n, x1.n, x2.n, x3.n, x4.n⟩ :: r.1, r.2)
/-- What is read of a frame's bytes, and where the reader stands then. -/
def raw (l : List UInt8) : Fr × Nat × Bool :=
  let x0 := take l 0 false 1
  let x1 := take l x0.at_ x0.short 4
  let x2 := take l x1.at_ x1.short 1
  let x3 := take l x2.at_ x2.short 1
  let ms := msgsD l x3.n x3.at_ x3.short
  let y0 := take l ms.2.1 ms.2.2 1
  let y1 := take l y0.at_ y0.short 1
  let y2 := take l y1.at_ y1.short 2
  let y3 := take l y2.at_ y2.short 2
  let y4 := take l y3.at_ y3.short 1
  let rs := recsD l y4.n y4.at_ y4.short
  (⟨x0.n, x1.n, x2.n, ms.1, y0.n, y1.n, y2.n, y3.n, rs.1⟩, rs.2)

/-! ### Forward -/
theorem take_drop {l r : List UInt8} {n s a : Nat} (h : l.drop a = num n s ++ r) (hs : 1 ≤ s ∧ s ≤ 4) (hn : n < 256 ^ s) : take l a false (s : Int) = ⟨n, a + s, false⟩ ∧ l.drop (a + s) = r := by
  have hl := num_length n s
  have hlen := congrArg List.length h
  rw [List.length_drop, List.length_append, hl] at hlen
  constructor
  · unfold take
    rw [if_neg (by simp; omega), Int.toNat_natCast, if_neg (by omega), h]
    rw [List.take_append_of_le_length (by omega), List.take_of_length_le (by omega), val_num, Nat.mod_eq_of_lt hn]
  · rw [← List.drop_drop, h, List.drop_append_of_le_length (by omega), List.drop_of_length_le (by omega), List.nil_append]
theorem take_drop1 {l r : List UInt8} {n a : Nat} (h : l.drop a = num n 1 ++ r) (hn : n < 256) : take l a false 1 = ⟨n, a + 1, false⟩ ∧ l.drop (a + 1) = r := take_drop (s := 1) h (by omega) (by simpa using hn)
theorem take_drop2 {l r : List UInt8} {n a : Nat} (h : l.drop a = num n 2 ++ r) (hn : n < 65536) : take l a false 2 = ⟨n, a + 2, false⟩ ∧ l.drop (a + 2) = r := take_drop (s := 2) h (by omega) (by simpa using hn)
theorem take_drop4 {l r : List UInt8} {n a : Nat} (h : l.drop a = num n 4 ++ r) (hn : n < 4294967296) : take l a false 4 = ⟨n, a + 4, false⟩ ∧ l.drop (a + 4) = r := take_drop (s := 4) h (by omega) (by simpa using hn)

theorem text_length' (d : List UInt8) : (text d).length = 1 + min d.length 255 := by simp [text]; omega
theorem text_short {d : List UInt8} (h : d.length ≤ 255) : text d = UInt8.ofNat d.length :: d := by
  unfold text
  rw [Nat.min_eq_left h, List.take_of_length_le h]
theorem tell_drop {l r d : List UInt8} {a : Nat} (h : l.drop a = text d ++ r) (hd : d.length ≤ 255) : tell l a false = ⟨d, a + (1 + d.length), false⟩ ∧ l.drop (a + (1 + d.length)) = r := by
  rw [text_short hd] at h
  have hlen := congrArg List.length h
  rw [List.length_drop, List.length_append, List.length_cons] at hlen
  have hg : l.getD a 0 = UInt8.ofNat d.length := by
    have := congrArg (fun x : List UInt8 => x.getD 0 0) h
    simpa [List.getD] using this
  have hn : (UInt8.ofNat d.length).toNat = d.length := by simp; omega
  have e1 : l.drop (a + 1) = d ++ r := by
    rw [← List.drop_drop, h]
    rfl
  constructor
  · unfold tell
    rw [hg, hn, if_neg (by simp; omega), if_neg (by omega), e1]
    rw [List.take_append_of_le_length (by omega), List.take_of_length_le (by omega), Nat.add_assoc]
  · rw [← Nat.add_assoc, ← List.drop_drop, e1, List.drop_left]

/-- What fits into a frame's bytes. -/
def MsgFits (m : Msg) : Prop := 0 ≤ m.port ∧ m.port < 256 ∧ m.data.length ≤ 255
def RecFits (r : Rec) : Prop := r.round < 4294967296 ∧ r.node < 256 ∧ r.part < 256 ∧ r.kind < 256 ∧ r.did < 256
structure Fits (f : Fr) : Prop where
  sender : f.sender < 256
  round : f.round < 4294967296
  members : f.members < 256
  nm : f.msgs.length < 256
  msgs : ∀ m ∈ f.msgs, MsgFits m
  kind : f.kind < 256
  key : f.key < 256
  val : f.val < 65536
  old : f.old < 65536
  nr : f.recs.length < 256
  recs : ∀ r ∈ f.recs, RecFits r

theorem msgsD_enc {l r : List UInt8} : ∀ (ms : List Msg) (a : Nat), l.drop a = msgsB ms ++ r → (∀ m ∈ ms, MsgFits m) → msgsD l ms.length a false = (ms, a + (msgsB ms).length, false) ∧ l.drop (a + (msgsB ms).length) = r
  | [], a, h, _ => by simpa [msgsD, msgsB] using h
  | m :: ms, a, h, hf => by
    obtain ⟨h1, h2, h3⟩ := hf m (by simp)
    simp only [msgsB, msgB, List.append_assoc] at h
    obtain ⟨t1, h⟩ := take_drop1 h (by omega)
    obtain ⟨t2, h⟩ := tell_drop h h3
    obtain ⟨t3, h⟩ := msgsD_enc ms _ h (fun x hx => hf x (by simp [hx]))
    have e4 : (msgsB (m :: ms)).length = 1 + ((1 + m.data.length) + (msgsB ms).length) := by simp [msgsB, msgB, num_length, text_short h3]; omega
    have e5 : (((m.port % 256).toNat : Nat) : Int) = m.port := by omega
    constructor
    · rw [e4]
      simp only [List.length_cons, msgsD, Bool.false_eq_true, if_false, t1, t2, t3, e5]
      simp only [Nat.add_assoc]
    · rw [e4]
      simpa only [Nat.add_assoc] using h

theorem recsD_enc {l r : List UInt8} : ∀ (rs : List Rec) (a : Nat), l.drop a = recsB rs ++ r → (∀ m ∈ rs, RecFits m) → recsD l rs.length a false = (rs, a + (recsB rs).length, false) ∧ l.drop (a + (recsB rs).length) = r
  | [], a, h, _ => by simpa [recsD, recsB] using h
  | m :: rs, a, h, hf => by
    obtain ⟨h1, h2, h3, h4, h5⟩ := hf m (by simp)
    simp only [recsB, recB, List.append_assoc] at h
    obtain ⟨t1, h⟩ := take_drop4 h h1
    obtain ⟨t2, h⟩ := take_drop1 h h2
    obtain ⟨t3, h⟩ := take_drop1 h h3
    obtain ⟨t4, h⟩ := take_drop1 h h4
    obtain ⟨t5, h⟩ := take_drop1 h h5
    obtain ⟨t6, h⟩ := recsD_enc rs _ h (fun x hx => hf x (by simp [hx]))
    have e4 : (recsB (m :: rs)).length = 4 + (1 + (1 + (1 + (1 + (recsB rs).length)))) := by simp [recsB, recB, num_length]
    constructor
    · rw [e4]
      simp only [List.length_cons, recsD, Bool.false_eq_true, if_false, t1, t2, t3, t4, t5, t6]
      simp only [Nat.add_assoc]
    · rw [e4]
      simpa only [Nat.add_assoc] using h

/-- What was written is read, whatever stands behind it. -/
theorem raw_enc (f : Fr) (r : List UInt8) (hf : Fits f) : raw (enc f ++ r) = (f, (enc f).length, false) := by
  have h : (enc f ++ r).drop 0 = enc f ++ r := rfl
  conv at h => rhs; unfold enc tailB
  simp only [List.append_assoc] at h
  generalize hl : enc f ++ r = l at h
  obtain ⟨t0, h⟩ := take_drop1 h hf.sender
  obtain ⟨t1, h⟩ := take_drop4 h hf.round
  obtain ⟨t2, h⟩ := take_drop1 h hf.members
  obtain ⟨t3, h⟩ := take_drop1 h hf.nm
  obtain ⟨t4, h⟩ := msgsD_enc _ _ h hf.msgs
  obtain ⟨t5, h⟩ := take_drop1 h hf.kind
  obtain ⟨t6, h⟩ := take_drop1 h hf.key
  obtain ⟨t7, h⟩ := take_drop2 h hf.val
  obtain ⟨t8, h⟩ := take_drop2 h hf.old
  obtain ⟨t9, h⟩ := take_drop1 h hf.nr
  obtain ⟨t10, -⟩ := recsD_enc _ _ h hf.recs
  have e : (enc f).length = 0 + 1 + 4 + 1 + 1 + (msgsB f.msgs).length + 1 + 1 + 2 + 2 + 1 + (recsB f.recs).length := by
    simp [enc, tailB, num_length]
    omega
  simp only [raw, t0, t1, t2, t3, t4, t5, t6, t7, t8, t9, t10, e]

/-! ### Backward -/
theorem num_foldl : ∀ (x : List UInt8) (a : Nat), num (x.foldl (fun a c => a * 256 + c.toNat) a) x.length = x
  | [], _ => rfl
  | c :: x, a => by
    have key : ∀ (x : List UInt8) (a : Nat), x.foldl (fun a c => a * 256 + c.toNat) a = a * 256 ^ x.length + val x := by
      intro x
      induction x with
      | nil => intro a; simp [val]
      | cons c x ih =>
        intro a
        have h1 := ih (a * 256 + c.toNat)
        have h2 := ih (0 * 256 + c.toNat)
        simp only [val, List.foldl_cons, List.length_cons] at h1 h2 ⊢
        rw [h1, h2, Nat.pow_succ, Nat.add_mul, Nat.zero_mul, Nat.zero_add, Nat.mul_assoc, Nat.mul_comm 256]
        omega
    have hv := val_lt x
    have hc := c.toNat_lt
    simp only [List.foldl_cons, List.length_cons, num, num_foldl x]
    rw [key x]
    have e1 : ((a * 256 + c.toNat) * 256 ^ x.length + val x) / 256 ^ x.length = a * 256 + c.toNat := by
      rw [Nat.mul_comm, Nat.mul_add_div (Nat.pow_pos (by omega)), Nat.div_eq_of_lt hv, Nat.add_zero]
    rw [e1]
    congr 1
    have e2 : (a * 256 + c.toNat) % 256 = c.toNat := by omega
    rw [e2]
    simp
theorem num_val (x : List UInt8) : num (val x) x.length = x := num_foldl x 0

theorem take_inv {l : List UInt8} {a : Nat} {sh : Bool} {s : Nat} (hs : 1 ≤ s ∧ s ≤ 4) (h : (take l a sh (s : Int)).short = false) :
    sh = false ∧ l.drop a = num (take l a sh (s : Int)).n s ++ l.drop (take l a sh (s : Int)).at_ ∧ (take l a sh (s : Int)).at_ = a + s ∧ (take l a sh (s : Int)).n < 256 ^ s := by
  unfold take at h ⊢
  by_cases h1 : (s : Int) < 1 ∨ 4 < (s : Int) ∨ sh = true
  · rw [if_pos h1] at h ⊢
    have h' : sh = false := h
    rcases h1 with h2 | h2 | h2
    · omega
    · omega
    · rw [h'] at h2; cases h2
  · rw [if_neg h1] at h ⊢
    rw [Int.toNat_natCast] at h ⊢
    by_cases h2 : l.length < a + s
    · rw [if_pos h2] at h; cases h
    · rw [if_neg h2]
      have hl : ((l.drop a).take s).length = s := by rw [List.length_take, List.length_drop]; omega
      refine ⟨?_, ?_, rfl, ?_⟩
      · cases sh with
        | false => rfl
        | true => exact absurd (.inr (.inr rfl)) h1
      · show l.drop a = num (val ((l.drop a).take s)) s ++ l.drop (a + s)
        have := num_val ((l.drop a).take s)
        rw [hl] at this
        rw [this, ← List.drop_drop, List.take_append_drop]
      · have := val_lt ((l.drop a).take s)
        rw [hl] at this
        exact this

theorem tell_inv {l : List UInt8} {a : Nat} {sh : Bool} (h : (tell l a sh).short = false) :
    sh = false ∧ l.drop a = text (tell l a sh).l ++ l.drop (tell l a sh).at_ ∧ (tell l a sh).l.length ≤ 255 := by
  unfold tell at h ⊢
  by_cases h1 : sh = true ∨ l.length < a + 1
  · rw [if_pos h1] at h; cases h
  · rw [if_neg h1] at h ⊢
    by_cases h2 : l.length < a + 1 + (l.getD a 0).toNat
    · rw [if_pos h2] at h; cases h
    · rw [if_neg h2]
      have hc : (l.getD a 0).toNat < 256 := UInt8.toNat_lt _
      have hl : ((l.drop (a + 1)).take (l.getD a 0).toNat).length = (l.getD a 0).toNat := by rw [List.length_take, List.length_drop]; omega
      have h3 : a < l.length := by omega
      refine ⟨?_, ?_, ?_⟩
      · cases sh with
        | false => rfl
        | true => exact absurd (.inl rfl) h1
      · show l.drop a = text ((l.drop (a + 1)).take (l.getD a 0).toNat) ++ l.drop (a + 1 + (l.getD a 0).toNat)
        have e9 : l.drop (a + 1 + (l.getD a 0).toNat) = (l.drop (a + 1)).drop (l.getD a 0).toNat := by rw [List.drop_drop]
        rw [text_short (by omega), hl, List.drop_eq_getElem_cons h3, e9, List.cons_append, List.take_append_drop]
        congr 1
        simp [List.getD, List.getElem?_eq_getElem h3]
      · show ((l.drop (a + 1)).take (l.getD a 0).toNat).length ≤ 255
        omega

theorem take_inv1 {l : List UInt8} {a : Nat} {sh : Bool} (h : (take l a sh 1).short = false) : sh = false ∧ l.drop a = num (take l a sh 1).n 1 ++ l.drop (take l a sh 1).at_ ∧ (take l a sh 1).n < 256 := by
  obtain ⟨h1, h2, _, h4⟩ := take_inv (s := 1) (by omega) h
  exact ⟨h1, h2, by simpa using h4⟩
theorem take_inv2 {l : List UInt8} {a : Nat} {sh : Bool} (h : (take l a sh 2).short = false) : sh = false ∧ l.drop a = num (take l a sh 2).n 2 ++ l.drop (take l a sh 2).at_ ∧ (take l a sh 2).n < 65536 := by
  obtain ⟨h1, h2, _, h4⟩ := take_inv (s := 2) (by omega) h
  exact ⟨h1, h2, by simpa using h4⟩
theorem take_inv4 {l : List UInt8} {a : Nat} {sh : Bool} (h : (take l a sh 4).short = false) : sh = false ∧ l.drop a = num (take l a sh 4).n 4 ++ l.drop (take l a sh 4).at_ ∧ (take l a sh 4).n < 4294967296 := by
  obtain ⟨h1, h2, _, h4⟩ := take_inv (s := 4) (by omega) h
  exact ⟨h1, h2, by simpa using h4⟩

theorem msgsD_inv {l : List UInt8} : ∀ (k a : Nat) (s : Bool), (msgsD l k a s).2.2 = false →
    s = false ∧ l.drop a = msgsB (msgsD l k a s).1 ++ l.drop (msgsD l k a s).2.1 ∧ (msgsD l k a s).1.length = k ∧ ∀ m ∈ (msgsD l k a s).1, MsgFits m
  | 0, a, s, h => ⟨h, by simp [msgsD, msgsB], by simp [msgsD], by simp [msgsD]⟩
  | k + 1, a, s, h => by
    cases s with
    | true => simp [msgsD] at h
    | false =>
      simp only [msgsD, Bool.false_eq_true, if_false] at h ⊢
      obtain ⟨h1, h2, h3, h4⟩ := msgsD_inv k _ _ h
      obtain ⟨h5, h6, h7⟩ := tell_inv h1
      obtain ⟨_, h9, h10⟩ := take_inv1 h5
      refine ⟨trivial, ?_, ?_, ?_⟩
      · have e : (((take l a false 1).n : Int) % 256).toNat = (take l a false 1).n := by omega
        simp only [msgsB, msgB, e, List.append_assoc]
        rw [← h2, ← h6]
        exact h9
      · simp [h3]
      · intro m hm
        rcases List.mem_cons.1 hm with rfl | hm
        · exact ⟨by show (0 : Int) ≤ ((take l a false 1).n : Int); omega, by show ((take l a false 1).n : Int) < 256; omega, h7⟩
        · exact h4 m hm

theorem recsD_inv {l : List UInt8} : ∀ (k a : Nat) (s : Bool), (recsD l k a s).2.2 = false →
    s = false ∧ l.drop a = recsB (recsD l k a s).1 ++ l.drop (recsD l k a s).2.1 ∧ (recsD l k a s).1.length = k ∧ ∀ m ∈ (recsD l k a s).1, RecFits m
  | 0, a, s, h => ⟨h, by simp [recsD, recsB], by simp [recsD], by simp [recsD]⟩
  | k + 1, a, s, h => by
    cases s with
    | true => simp [recsD] at h
    | false =>
      simp only [recsD, Bool.false_eq_true, if_false] at h ⊢
      obtain ⟨h1, h2, h3, h4⟩ := recsD_inv k _ _ h
      obtain ⟨g4, d4, b4⟩ := take_inv1 h1
      obtain ⟨g3, d3, b3⟩ := take_inv1 g4
      obtain ⟨g2, d2, b2⟩ := take_inv1 g3
      obtain ⟨g1, d1, b1⟩ := take_inv1 g2
      obtain ⟨_, d0, b0⟩ := take_inv4 g1
      refine ⟨trivial, ?_, ?_, ?_⟩
      · simp only [recsB, recB, List.append_assoc]
        rw [← h2, ← d4, ← d3, ← d2, ← d1]
        exact d0
      · simp [h3]
      · intro m hm
        rcases List.mem_cons.1 hm with rfl | hm
        · exact ⟨b0, b1, b2, b3, b4⟩
        · exact h4 m hm

/-- What was read without falling short is what is written so. -/
theorem raw_inv {l : List UInt8} (h : (raw l).2.2 = false) : l = enc (raw l).1 ++ l.drop (raw l).2.1 ∧ Fits (raw l).1 := by
  simp only [raw] at h ⊢
  obtain ⟨g10, d10, n10, f10⟩ := recsD_inv _ _ _ h
  obtain ⟨g9, d9, b9⟩ := take_inv1 g10
  obtain ⟨g8, d8, b8⟩ := take_inv2 g9
  obtain ⟨g7, d7, b7⟩ := take_inv2 g8
  obtain ⟨g6, d6, b6⟩ := take_inv1 g7
  obtain ⟨g5, d5, b5⟩ := take_inv1 g6
  obtain ⟨g4, d4, n4, f4⟩ := msgsD_inv _ _ _ g5
  obtain ⟨g3, d3, b3⟩ := take_inv1 g4
  obtain ⟨g2, d2, b2⟩ := take_inv1 g3
  obtain ⟨g1, d1, b1⟩ := take_inv4 g2
  obtain ⟨_, d0, b0⟩ := take_inv1 g1
  refine ⟨?_, ⟨b0, b1, b2, by rw [n4]; exact b3, f4, b5, b6, b7, b8, by rw [n10]; exact b9, f10⟩⟩
  simp only [enc, tailB, List.append_assoc, n4, n10]
  rw [← d10, ← d9, ← d8, ← d7, ← d6, ← d5, ← d4, ← d3, ← d2, ← d1]
  exact d0

/-- No frame's bytes are the beginning of another one's. -/
theorem enc_prefix {f g : Fr} {r : List UInt8} (hf : Fits f) (hg : Fits g) (h : enc f = enc g ++ r) : r = [] := by
  have h1 := raw_enc f [] hf
  have h2 := raw_enc g r hg
  rw [List.append_nil, h, h2] at h1
  have h3 := congrArg (fun x : Fr × Nat × Bool => x.2.1) h1
  simp at h3
  exact h3
end Go.Proofs.Ytodkcenoljpgoaa.FrameP
