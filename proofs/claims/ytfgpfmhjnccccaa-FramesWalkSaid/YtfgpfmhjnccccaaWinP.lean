/- Plain: windows in the round (chapter 17). No conditions beyond those that each states. -/
import Derived.Test.YtfgpfmhjnccccaaPlA
import Derived.Test.YtfgpfmhjnccccaaSndQ
namespace Go.Proofs.Ytfgpfmhjnccccaa
namespace WinP
open TableP SndP OrdP

/-- A partition's window, by its number. -/
structure Win where
  part : Nat
  open_ : Int
  close : Int
def winOf (l : List Part) (i : Nat) : Win := match l[i]? with | some p => ⟨i, p.start, p.start + p.length⟩ | none => ⟨i, 0, 0⟩
def winsT (c : Cfg) (node : Int) : List Win := (ord c.parts node).map (winOf c.parts)
def inB (node local_ : Int) (p : Part) : Bool := decide (p.node = node ∧ p.start ≤ local_ ∧ local_ < p.start + p.length)
def atFrom (node local_ : Int) : Nat → List Part → Int
  | _, [] => -1
  | i, p :: r => if inB node local_ p = true then (i : Int) else atFrom node local_ (i + 1) r
def atT (c : Cfg) (node local_ : Int) : Int := atFrom node local_ 0 c.parts
/-- All openings and closings of a node. -/
def chg (l : List Part) (node : Int) : List Int := l.flatMap (fun p => if p.node = node then [p.start, p.start + p.length] else [])
def lessB (e : Int) (b : Option Int) : Bool := match b with | none => true | some v => decide (e < v)
def better (local_ : Int) (b : Option Int) (e : Int) : Option Int := if local_ < e ∧ lessB e b = true then some e else b
def leastT (local_ : Int) (l : List Int) : Option Int := l.foldl (better local_) none
def nextT (c : Cfg) (node local_ : Int) : Option Int := leastT local_ (chg c.parts node)
def sumT (l : List Part) (node : Int) : Int := (l.map (fun p => if p.node = node then p.length else 0)).sum
def idleT (c : Cfg) (node : Int) : Int := roundT c - sumT c.parts node

/-! ### What tables that work say of windows -/
structure Fit (c : Cfg) : Prop where
  start : ∀ (k : Nat) (p : Part), c.parts[k]? = some p → 0 ≤ p.start ∧ 1 ≤ p.length ∧ p.start + p.length ≤ slotsT c
  apart : ∀ (i k : Nat) (p q : Part), c.parts[i]? = some p → c.parts[k]? = some q → i ≠ k → p.node = q.node → p.start + p.length ≤ q.start ∨ q.start + q.length ≤ p.start
theorem clash_no {c : Cfg} (h : Works c) {i k : Nat} {p q : Part} (hp : c.parts[i]? = some p) (hq : c.parts[k]? = some q) (hik : i < k) (hn : p.node = q.node) : p.start + p.length ≤ q.start ∨ q.start + q.length ≤ p.start := by
  have h1 := h.fit k q hq
  unfold fitB at h1
  rw [Bool.and_eq_true, Bool.not_eq_true'] at h1
  have h2 := List.any_eq_false.1 h1.2 p (List.mem_of_getElem? (i := i) (by rw [List.getElem?_take_of_lt hik]; exact hp))
  unfold clash meetB at h2
  simp only [Bool.and_eq_true, decide_eq_true_eq] at h2
  by_cases h3 : p.start + p.length ≤ q.start
  · exact .inl h3
  · by_cases h4 : q.start + q.length ≤ p.start
    · exact .inr h4
    · exact absurd ⟨hn, by omega, by omega⟩ h2
theorem works_fit {c : Cfg} (h : Works c) : Fit c := by
  refine ⟨fun k p hp => ?_, fun i k p q hp hq hik hn => ?_⟩
  · have h1 := h.fit k p hp
    unfold fitB at h1
    rw [Bool.and_eq_true, decide_eq_true_eq] at h1
    have h2 := h.allowed.part p (List.mem_of_getElem? hp)
    unfold partOk up at h2
    have h3 := h1.1
    unfold slotsT
    refine ⟨by omega, by omega, h3⟩
  · rcases Nat.lt_or_gt_of_ne hik with h1 | h1
    · exact clash_no h hp hq h1 hn
    · exact (clash_no h hq hp h1 hn.symm).symm

/-! ### Whose window a time is in -/
theorem inB_true {node t : Int} {p : Part} : inB node t p = true ↔ p.node = node ∧ p.start ≤ t ∧ t < p.start + p.length := decide_eq_true_iff
theorem at_none {node t : Int} : ∀ {l : List Part} {i : Nat}, (∀ p ∈ l, inB node t p ≠ true) → atFrom node t i l = -1
  | [], _, _ => rfl
  | p :: r, i, h => by
    unfold atFrom
    rw [if_neg (h p (by simp))]
    exact at_none fun q hq => h q (by simp [hq])
theorem at_first {node t : Int} : ∀ {l : List Part} {i k : Nat} {p : Part}, l[k]? = some p → inB node t p = true → (∀ (j : Nat) (q : Part), l[j]? = some q → j < k → inB node t q ≠ true) → atFrom node t i l = ((i + k : Nat) : Int)
  | [], _, _, _, h, _, _ => by simp at h
  | x :: r, i, 0, p, h, hb, _ => by
    simp at h
    subst h
    unfold atFrom
    rw [if_pos hb]; simp
  | x :: r, i, k + 1, p, h, hb, hj => by
    unfold atFrom
    rw [if_neg (hj 0 x rfl (Nat.succ_pos k)), at_first (i := i + 1) (k := k) (by simpa using h) hb (fun j q hq hl => hj (j + 1) q (by simpa using hq) (by omega))]
    congr 1; omega
theorem at_step {node t : Int} {l : List Part} {k : Nat} {p : Part} (h : l[k]? = some p) : atFrom node t k (l.drop k) = if inB node t p = true then (k : Int) else atFrom node t (k + 1) (l.drop (k + 1)) := by
  obtain ⟨hk, rfl⟩ := List.getElem?_eq_some_iff.1 h
  rw [List.drop_eq_getElem_cons hk]; rfl
theorem at_end {node t : Int} {l : List Part} {k : Nat} (h : l.length ≤ k) : atFrom node t k (l.drop k) = -1 := by
  rw [List.drop_of_length_le h]; rfl
theorem at_in {c : Cfg} (hf : Fit c) {node t : Int} {k : Nat} {p : Part} (h : c.parts[k]? = some p) (hb : inB node t p = true) : atT c node t = (k : Int) := by
  unfold atT
  rw [at_first h hb (fun j q hq hj hb' => ?_), Nat.zero_add]
  rw [inB_true] at hb hb'
  rcases hf.apart j k q p hq h (by omega) (by rw [hb.1, hb'.1]) with h1 | h1 <;> omega
theorem at_out {c : Cfg} {node t : Int} (h : ∀ (k : Nat) (p : Part), c.parts[k]? = some p → inB node t p ≠ true) : atT c node t = -1 :=
  at_none fun p hp => by
    obtain ⟨k, hk⟩ := List.getElem?_of_mem hp
    exact h k p hk
/-- A partition's time is over at its closing. -/
theorem at_close {c : Cfg} (hf : Fit c) {node : Int} {k : Nat} {p : Part} (h : c.parts[k]? = some p) : atT c node (p.start + p.length) ≠ (k : Int) := fun e => by
  by_cases hx : ∃ (j : Nat) (q : Part), c.parts[j]? = some q ∧ inB node (p.start + p.length) q = true
  · obtain ⟨j, q, hq, hb⟩ := hx
    rw [at_in hf hq hb] at e
    obtain rfl : j = k := by omega
    rw [h] at hq
    obtain rfl := Option.some.inj hq
    rw [inB_true] at hb
    omega
  · rw [at_out (fun j q hq hb => hx ⟨j, q, hq, hb⟩)] at e
    omega

/-! ### The next change -/
structure Least (local_ : Int) (l : List Int) (b : Option Int) : Prop where
  some_ : ∀ v, b = some v → v ∈ l ∧ local_ < v ∧ ∀ u ∈ l, local_ < u → v ≤ u
  none_ : b = none → ∀ u ∈ l, u ≤ local_
theorem Least.better {t : Int} {l : List Int} {b : Option Int} (h : Least t l b) (e : Int) : Least t (l ++ [e]) (better t b e) := by
  unfold WinP.better
  by_cases h1 : t < e ∧ lessB e b = true
  · rw [if_pos h1]
    refine ⟨fun v hv => ?_, fun hv => (by cases hv)⟩
    obtain rfl := Option.some.inj hv
    refine ⟨by simp, h1.1, fun u hu htu => ?_⟩
    rcases List.mem_append.1 hu with hu | hu
    · cases b with
      | none => have := h.none_ rfl u hu; omega
      | some v => have h2 := (h.some_ v rfl).2.2 u hu htu; have h3 : e < v := of_decide_eq_true h1.2; omega
    · rw [List.mem_singleton.1 hu]; exact Int.le_refl _
  · rw [if_neg h1]
    refine ⟨fun v hv => ?_, fun hv u hu => ?_⟩
    · subst hv
      obtain ⟨h2, h3, h4⟩ := h.some_ v rfl
      refine ⟨by simp [h2], h3, fun u hu htu => ?_⟩
      rcases List.mem_append.1 hu with hu | hu
      · exact h4 u hu htu
      · rw [List.mem_singleton.1 hu] at htu ⊢
        by_cases h5 : e < v
        · exact absurd ⟨htu, decide_eq_true h5⟩ h1
        · omega
    · subst hv
      rcases List.mem_append.1 hu with hu | hu
      · exact h.none_ rfl u hu
      · rw [List.mem_singleton.1 hu]
        by_cases h5 : t < e
        · exact absurd ⟨h5, rfl⟩ h1
        · omega
theorem least_snoc (t : Int) (l : List Int) (e : Int) : leastT t (l ++ [e]) = better t (leastT t l) e := by simp [leastT]
theorem least_foldl (t : Int) : ∀ (l m : List Int) (b : Option Int), Least t m b → Least t (m ++ l) (l.foldl (better t) b)
  | [], m, b, h => by simpa using h
  | e :: l, m, b, h => by
    have := least_foldl t l (m ++ [e]) _ (h.better e)
    simpa using this
theorem least_is (t : Int) (l : List Int) : Least t l (leastT t l) := by
  have := least_foldl t l [] none ⟨fun v hv => (by cases hv), fun _ u hu => (by cases hu)⟩
  rw [List.nil_append] at this
  exact this
theorem Least.one {t : Int} {l m : List Int} {a b : Option Int} (ha : Least t l a) (hb : Least t m b) (h : ∀ u, u ∈ l ↔ u ∈ m) : a = b := by
  cases a with
  | none => cases b with
    | none => rfl
    | some w =>
      have h1 := hb.some_ w rfl
      have := ha.none_ rfl w ((h w).2 h1.1)
      omega
  | some v =>
    have h1 := ha.some_ v rfl
    cases b with
    | none => have := hb.none_ rfl v ((h v).1 h1.1); omega
    | some w =>
      have h2 := hb.some_ w rfl
      have h3 := h1.2.2 w ((h w).2 h2.1) h2.2.1
      have h4 := h2.2.2 v ((h v).1 h1.1) h1.2.1
      rw [show v = w by omega]
theorem next_is {c : Cfg} {node t : Int} {l : List Int} {b : Option Int} (hb : Least t l b) (h : ∀ u, u ∈ l ↔ u ∈ chg c.parts node) : b = nextT c node t := hb.one (least_is t _) h
theorem chg_snoc (l : List Part) (p : Part) (node : Int) : chg (l ++ [p]) node = chg l node ++ if p.node = node then [p.start, p.start + p.length] else [] := by
  simp [chg]
theorem chg_take {l : List Part} {k : Nat} {p : Part} (h : l[k]? = some p) (node : Int) : chg (l.take (k + 1)) node = chg (l.take k) node ++ if p.node = node then [p.start, p.start + p.length] else [] := by
  rw [List.take_add_one, h]
  exact chg_snoc _ _ _
theorem mem_chg {l : List Part} {node u : Int} : u ∈ chg l node ↔ ∃ (k : Nat) (p : Part), l[k]? = some p ∧ p.node = node ∧ (u = p.start ∨ u = p.start + p.length) := by
  unfold chg
  rw [List.mem_flatMap]
  constructor
  · rintro ⟨p, hp, hu⟩
    obtain ⟨k, hk⟩ := List.getElem?_of_mem hp
    split at hu
    · rename_i hn
      exact ⟨k, p, hk, hn, by simpa using hu⟩
    · cases hu
  · rintro ⟨k, p, hk, hn, hu⟩
    exact ⟨p, List.mem_of_getElem? hk, by rw [if_pos hn]; simpa using hu⟩
theorem chg_cons (l : List Part) (p : Part) (node : Int) : chg (p :: l) node = (if p.node = node then [p.start, p.start + p.length] else []) ++ chg l node := rfl
theorem chg_len (l : List Part) (node : Int) : (chg l node).length ≤ 2 * l.length := by
  induction l with
  | nil => exact Nat.le_refl _
  | cons p l ih =>
    have h : (if p.node = node then [p.start, p.start + p.length] else []).length ≤ 2 := by split <;> simp
    rw [chg_cons, List.length_append, List.length_cons]
    omega

/-! ### Windows in their order -/
theorem win_at {l : List Part} {i : Nat} {p : Part} (h : l[i]? = some p) : winOf l i = ⟨i, p.start, p.start + p.length⟩ := by simp [winOf, h]
theorem key_at {l : List Part} {i : Nat} {p : Part} (h : l[i]? = some p) : keyP l i = p.start := by simp [keyP, h]
theorem ord_mem {l : List Part} {node : Int} {i : Nat} : i ∈ ord l node ↔ ∃ p : Part, l[i]? = some p ∧ p.node = node := by
  unfold ord
  rw [(srt_perm _ _).mem_iff]
  constructor
  · exact fun h => (pick_mem h).2
  · rintro ⟨p, hp, hn⟩
    have hlt := (List.getElem?_eq_some_iff.1 hp).1
    unfold pick
    rw [List.mem_filter]
    exact ⟨List.mem_range.2 hlt, by rw [hp]; exact decide_eq_true hn⟩
theorem ord_nodup (l : List Part) (node : Int) : (ord l node).Nodup := (srt_perm _ _).nodup_iff.2 (pick_nodup l node _)
theorem ord_len (l : List Part) (node : Int) : (ord l node).length ≤ l.length := by
  unfold ord; rw [srt_length]; exact pick_length _ _ _
/-- One behind the other: each closes ahead of the next one's opening. -/
theorem ord_chain {c : Cfg} (hf : Fit c) (node : Int) : (ord c.parts node).Pairwise (fun i k => (winOf c.parts i).close ≤ (winOf c.parts k).open_) := by
  have h1 : Rising (keyP c.parts) (ord c.parts node) := srt_rising _ _
  have h2 := ord_nodup c.parts node
  unfold Rising at h1
  unfold List.Nodup at h2
  refine (List.pairwise_and_iff.2 ⟨h1, h2⟩).imp_of_mem ?_
  rintro i k hi hk ⟨hle, hne⟩
  obtain ⟨p, hp, hpn⟩ := ord_mem.1 hi
  obtain ⟨q, hq, hqn⟩ := ord_mem.1 hk
  rw [key_at hp, key_at hq] at hle
  rw [win_at hp, win_at hq]
  have h3 := hf.start i p hp
  have h4 := hf.start k q hq
  show p.start + p.length ≤ q.start
  rcases hf.apart i k p q hp hq hne (by rw [hpn, hqn]) with h | h <;> omega
theorem wins_len (c : Cfg) (node : Int) : (winsT c node).length = (ord c.parts node).length := by simp [winsT]
theorem wins_get {c : Cfg} {node : Int} {i : Nat} {w : Win} (h : (winsT c node)[i]? = some w) : ∃ (k : Nat) (p : Part), (ord c.parts node)[i]? = some k ∧ c.parts[k]? = some p ∧ p.node = node ∧ w = ⟨k, p.start, p.start + p.length⟩ := by
  unfold winsT at h
  rw [List.getElem?_map] at h
  cases ho : (ord c.parts node)[i]? with
  | none => rw [ho] at h; cases h
  | some k =>
    rw [ho] at h
    obtain ⟨p, hp, hn⟩ := ord_mem.1 (List.mem_of_getElem? ho)
    exact ⟨k, p, rfl, hp, hn, by rw [← win_at hp]; exact (Option.some.inj h).symm⟩
theorem wins_get' {c : Cfg} {node : Int} {i k : Nat} {p : Part} (h : (ord c.parts node)[i]? = some k) (hp : c.parts[k]? = some p) : (winsT c node)[i]? = some ⟨k, p.start, p.start + p.length⟩ := by
  unfold winsT
  rw [List.getElem?_map, h, ← win_at hp]; rfl
theorem wins_chain {c : Cfg} (hf : Fit c) {node : Int} {i k : Nat} {v w : Win} (hik : i < k) (hv : (winsT c node)[i]? = some v) (hw : (winsT c node)[k]? = some w) : v.close ≤ w.open_ := by
  obtain ⟨a, p, ha, hp, _, rfl⟩ := wins_get hv
  obtain ⟨b, q, hb, hq, _, rfl⟩ := wins_get hw
  obtain ⟨hi, e1⟩ := List.getElem?_eq_some_iff.1 ha
  obtain ⟨hk, e2⟩ := List.getElem?_eq_some_iff.1 hb
  have := List.pairwise_iff_getElem.1 (ord_chain hf node) i k hi hk hik
  rw [e1, e2, win_at hp, win_at hq] at this
  exact this
theorem wins_one {c : Cfg} (hf : Fit c) {node : Int} {i : Nat} {w : Win} (h : (winsT c node)[i]? = some w) : 0 ≤ w.open_ ∧ w.open_ < w.close ∧ w.close ≤ slotsT c := by
  obtain ⟨k, p, _, hp, _, rfl⟩ := wins_get h
  have := hf.start k p hp
  exact ⟨this.1, by show p.start < p.start + p.length; omega, this.2.2⟩
theorem wins_at {c : Cfg} (hf : Fit c) {node t : Int} {i : Nat} {w : Win} (h : (winsT c node)[i]? = some w) (h1 : w.open_ ≤ t) (h2 : t < w.close) : atT c node t = (w.part : Int) := by
  obtain ⟨k, p, _, hp, hn, rfl⟩ := wins_get h
  exact at_in hf hp (inB_true.2 ⟨hn, h1, h2⟩)
theorem wins_over {c : Cfg} (hf : Fit c) {node : Int} {i : Nat} {w : Win} (h : (winsT c node)[i]? = some w) : atT c node w.close ≠ (w.part : Int) := by
  obtain ⟨k, p, _, hp, _, rfl⟩ := wins_get h
  exact at_close hf hp

/-! ### What is left of the round -/
def lenSum (l : List Win) : Int := (l.map (fun w => w.close - w.open_)).sum
theorem lenSum_snoc (l : List Win) (w : Win) : lenSum (l ++ [w]) = lenSum l + (w.close - w.open_) := by simp [lenSum]
theorem lenSum_take {l : List Win} {i : Nat} {w : Win} (h : l[i]? = some w) : lenSum (l.take (i + 1)) = lenSum (l.take i) + (w.close - w.open_) := by
  rw [List.take_add_one, h]; exact lenSum_snoc _ _
theorem sum_take {l : List Part} {k : Nat} {p : Part} (h : l[k]? = some p) (node : Int) : sumT (l.take (k + 1)) node = sumT (l.take k) node + if p.node = node then p.length else 0 := by
  rw [List.take_add_one, h]; simp [sumT]
theorem sum_perm {l m : List Int} (h : l.Perm m) : l.sum = m.sum := by
  induction h with
  | nil => rfl
  | cons x _ ih => rw [List.sum_cons, List.sum_cons, ih]
  | swap x y l => simp only [List.sum_cons]; omega
  | trans _ _ h1 h2 => rw [h1, h2]
/-- By whichever order: the windows' lengths are the partitions'. -/
theorem sum_pick (l : List Part) (node : Int) : ∀ k, k ≤ l.length → ((pick l node k).map (fun i => (winOf l i).close - (winOf l i).open_)).sum = sumT (l.take k) node
  | 0, _ => by simp [pick, sumT]
  | k + 1, hk => by
    have ih := sum_pick l node k (by omega)
    have hp : l[k]? = some (l[k]'(by omega)) := List.getElem?_eq_getElem (by omega)
    rw [pick_step hp, sum_take hp, ← ih]
    by_cases hn : (l[k]'(by omega)).node = node
    · rw [if_pos hn, if_pos hn, List.map_append, List.sum_append]
      have e : (winOf l k).close - (winOf l k).open_ = (l[k]'(by omega)).length := by rw [win_at hp]; show (l[k]'(by omega)).start + (l[k]'(by omega)).length - (l[k]'(by omega)).start = _; omega
      simp only [List.map_cons, List.map_nil, List.sum_cons, List.sum_nil, e]
      omega
    · rw [if_neg hn, if_neg hn]; omega
theorem lens_sum (c : Cfg) (node : Int) : lenSum (winsT c node) = sumT c.parts node := by
  have h1 := sum_pick c.parts node c.parts.length (Nat.le_refl _)
  rw [List.take_length] at h1
  rw [← h1]
  unfold lenSum winsT ord
  rw [List.map_map]
  exact sum_perm ((srt_perm _ _).map _)
/-- The first i windows together are no longer than the last one's closing. -/
theorem lens_le {c : Cfg} (hf : Fit c) (node : Int) : ∀ (i : Nat) (w : Win), (winsT c node)[i]? = some w → lenSum ((winsT c node).take (i + 1)) ≤ w.close
  | 0, w, h => by
    have := wins_one hf h
    rw [lenSum_take h]
    simp [lenSum]
    omega
  | i + 1, w, h => by
    have hlt := (List.getElem?_eq_some_iff.1 h).1
    have hv : (winsT c node)[i]? = some ((winsT c node)[i]'(by omega)) := List.getElem?_eq_getElem (by omega)
    have ih := lens_le hf node i _ hv
    have h1 := wins_chain hf (Nat.lt_succ_self i) hv h
    rw [lenSum_take h]
    omega
theorem sum_slots {c : Cfg} (h : Works c) (node : Int) : 0 ≤ sumT c.parts node ∧ sumT c.parts node ≤ slotsT c := by
  have hf := works_fit h
  have hn := (nums_in h.allowed.head).slots
  refine ⟨?_, ?_⟩
  · unfold sumT
    have : ∀ l : List Part, (∀ p ∈ l, 0 ≤ p.length) → 0 ≤ (l.map (fun p => if p.node = node then p.length else 0)).sum := fun l => by
      induction l with
      | nil => intro _; simp
      | cons p l ih =>
        intro hl
        have h1 := ih fun q hq => hl q (by simp [hq])
        have h2 := hl p (by simp)
        rw [List.map_cons, List.sum_cons]
        split <;> omega
    exact this _ fun p hp => by
      obtain ⟨k, hk⟩ := List.getElem?_of_mem hp
      have := hf.start k p hk
      omega
  · rw [← lens_sum]
    cases hl : (winsT c node).length with
    | zero =>
      rw [List.length_eq_zero_iff.1 hl]
      simp [lenSum]
      exact hn.1
    | succ n =>
      have hv : (winsT c node)[n]? = some ((winsT c node)[n]'(by omega)) := List.getElem?_eq_getElem (by omega)
      have h1 := lens_le hf node n _ hv
      rw [List.take_of_length_le (by omega)] at h1
      have h2 := wins_one hf hv
      omega
theorem idle_gap {c : Cfg} (h : Works c) (node : Int) : c.gap ≤ idleT c node ∧ idleT c node ≤ roundT c := by
  have := sum_slots h node
  unfold idleT roundT
  unfold slotsT at this
  omega

/-! ### From one change to the next one -/
theorem next_some {c : Cfg} {node t v : Int} (h : nextT c node t = some v) : v ∈ chg c.parts node ∧ t < v ∧ ∀ u ∈ chg c.parts node, t < u → v ≤ u := (least_is t (chg c.parts node)).some_ v h
theorem next_none {c : Cfg} {node t : Int} (h : nextT c node t = none) : ∀ u ∈ chg c.parts node, u ≤ t := (least_is t (chg c.parts node)).none_ h
/-- Between two changes nothing changes. -/
theorem at_same {c : Cfg} (hf : Fit c) {node t u : Int} (htu : t ≤ u) (h : ∀ x ∈ chg c.parts node, t < x → u < x) : atT c node t = atT c node u := by
  have key : ∀ (k : Nat) (p : Part), c.parts[k]? = some p → (inB node t p = true ↔ inB node u p = true) := fun k p hp => by
    rw [inB_true, inB_true]
    constructor
    · rintro ⟨hn, h1, h2⟩
      have := h _ (mem_chg.2 ⟨k, p, hp, hn, .inr rfl⟩) h2
      exact ⟨hn, by omega, this⟩
    · rintro ⟨hn, h1, h2⟩
      refine ⟨hn, ?_, by omega⟩
      by_cases h3 : t < p.start
      · have := h _ (mem_chg.2 ⟨k, p, hp, hn, .inl rfl⟩) h3; omega
      · omega
  by_cases hx : ∃ (j : Nat) (q : Part), c.parts[j]? = some q ∧ inB node t q = true
  · obtain ⟨j, q, hq, hb⟩ := hx
    rw [at_in hf hq hb, at_in hf hq ((key j q hq).1 hb)]
  · rw [at_out (fun j q hq hb => hx ⟨j, q, hq, hb⟩), at_out (fun j q hq hb => hx ⟨j, q, hq, (key j q hq).2 hb⟩)]
theorem next_same {c : Cfg} (hf : Fit c) {node t v : Int} (h : nextT c node t = some v) : atT c node t = atT c node (v - 1) := by
  obtain ⟨_, h2, h3⟩ := next_some h
  exact at_same hf (by omega) fun x hx htx => by have := h3 x hx htx; omega
/-- How many changes lie below a time. -/
def rank (l : List Int) (t : Int) : Nat := l.countP (fun u => decide (u < t))
theorem rank_le (l : List Int) (t : Int) : rank l t ≤ l.length := List.countP_le_length
theorem rank_more {l : List Int} {t v : Int} (htv : t < v) (h : t ∈ l) : rank l t + 1 ≤ rank l v := by
  induction l with
  | nil => cases h
  | cons x l ih =>
    unfold rank at ih ⊢
    rw [List.countP_cons, List.countP_cons]
    have hmono : List.countP (fun u => decide (u < t)) l ≤ List.countP (fun u => decide (u < v)) l := List.countP_mono_left fun u _ hu => by
      simp only [decide_eq_true_eq] at hu ⊢; omega
    by_cases hx : x = t
    · subst hx
      simp only [Int.lt_irrefl, decide_false, htv, decide_true]
      simp
      exact hmono
    · have h2 := ih (by rcases List.mem_cons.1 h with h | h; exact absurd h.symm hx; exact h)
      by_cases h3 : x < t
      · have h4 : x < v := by omega
        simp only [h3, h4, decide_true]; simp; omega
      · by_cases h4 : x < v
        · simp only [h3, h4, decide_true, decide_false]; simp; omega
        · simp only [h3, h4, decide_false]; simp; omega
/-- The walk: ahead of the change `at`, all changes below it have been seen, and no other. -/
structure Walk (c : Cfg) (node : Int) (at_ : Option Int) (seen : List Int) (n : Nat) : Prop where
  seen_ : ∀ u, u ∈ seen ↔ u ∈ chg c.parts node ∧ (∀ v, at_ = some v → u < v)
  at_ : ∀ v, at_ = some v → v ∈ chg c.parts node ∧ n ≤ rank (chg c.parts node) v
  len : seen.length = n
theorem Walk.start {c : Cfg} (hf : Fit c) (node : Int) : Walk c node (nextT c node (-1)) [] 0 := by
  refine ⟨fun u => ⟨fun h => (by cases h), fun ⟨h1, h2⟩ => ?_⟩, fun v hv => ⟨(next_some hv).1, Nat.zero_le _⟩, rfl⟩
  exfalso
  have hu : -1 < u := by
    obtain ⟨k, p, hp, _, h3⟩ := mem_chg.1 h1
    have := hf.start k p hp
    omega
  cases hn : nextT c node (-1) with
  | none => have := next_none hn u h1; omega
  | some v =>
    have h3 := h2 v hn
    have := (next_some hn).2.2 u h1 hu
    omega
theorem Walk.step {c : Cfg} {node v : Int} {seen : List Int} {n : Nat} (h : Walk c node (some v) seen n) : v ∉ seen ∧ n < (chg c.parts node).length ∧ Walk c node (nextT c node v) (v :: seen) (n + 1) := by
  obtain ⟨hv, hn⟩ := h.at_ v rfl
  refine ⟨fun hs => Int.lt_irrefl v (((h.seen_ v).1 hs).2 v rfl), ?_, fun u => ?_, fun w hw => ?_, by rw [List.length_cons, h.len]⟩
  · have h1 := rank_more (l := chg c.parts node) (t := v) (v := v + 1) (by omega) hv
    have h2 := rank_le (chg c.parts node) (v + 1)
    omega
  · constructor
    · intro hu
      rcases List.mem_cons.1 hu with rfl | hu
      · exact ⟨hv, fun w hw => (next_some hw).2.1⟩
      · obtain ⟨h1, h2⟩ := (h.seen_ u).1 hu
        exact ⟨h1, fun w hw => Int.lt_trans (h2 v rfl) (next_some hw).2.1⟩
    · rintro ⟨h1, h2⟩
      by_cases huv : u < v
      · exact List.mem_cons_of_mem _ ((h.seen_ u).2 ⟨h1, fun w hw => by rw [← Option.some.inj hw]; exact huv⟩)
      · by_cases he : u = v
        · rw [he]; simp
        · exfalso
          have hvu : v < u := by omega
          cases hn2 : nextT c node v with
          | none => have := next_none hn2 u h1; omega
          | some w =>
            have h3 := h2 w hn2
            have := (next_some hn2).2.2 u h1 hvu
            omega
  · obtain ⟨h1, h2, _⟩ := next_some hw
    refine ⟨h1, ?_⟩
    have := rank_more h2 hv
    omega
theorem Walk.all {c : Cfg} {node : Int} {seen : List Int} {n : Nat} (h : Walk c node none seen n) : ∀ u, u ∈ chg c.parts node → u ∈ seen :=
  fun u hu => (h.seen_ u).2 ⟨hu, fun v hv => (by cases hv)⟩
end WinP
end Go.Proofs.Ytfgpfmhjnccccaa
