/- Plain: a table of values by keys (chapter 14). No conditions beyond those that each states. -/
import Derived.Test.YtcibnjcnbocbdaaMbrP
namespace RepP

/-- A command: kind 0 none, 1 set, 2 drop, 3 swap. -/
structure Cmd where
  kind : Nat
  key : Nat
  val : Nat
  old : Nat
deriving DecidableEq
abbrev T := List (Option Nat)
def new : T := List.replicate 8 none
def tat (t : T) (k : Nat) : Option Nat := t[k]?.getD none
def doneB (c : Cmd) : Bool := decide (c.kind ≠ 0 ∧ c.key ≤ 7 ∧ c.kind ≤ 3)
/-- The number of what is wrong with it; 0: nothing. -/
def badT (c : Cmd) : Nat := if c.kind = 0 then 0 else if 7 < c.key then 2 else if 3 < c.kind then 7 else 0
/-- The key's value behind a command that is done. -/
def nextV (o : Option Nat) (c : Cmd) : Option Nat := if c.kind = 2 then none else if c.kind = 3 then (if o = some c.old then some c.val else o) else some c.val
def applyT (t : T) (c : Cmd) : T := if doneB c = true then t.set c.key (nextV (tat t c.key) c) else t
/-- Does it change anything? -/
def toldT (t : T) (c : Cmd) : Bool := doneB c && decide (nextV (tat t c.key) c ≠ tat t c.key)
def runT (t : T) (l : List Cmd) : T := l.foldl applyT t
def doneN (l : List Cmd) : Nat := l.countP doneB

theorem take_one {α : Type} {l : List α} {i : Nat} {x : α} (h : l[i]? = some x) : l.take (i + 1) = l.take i ++ [x] := by
  rw [List.take_add_one, h]; rfl
theorem new_len : new.length = 8 := rfl
theorem new_at (k : Nat) : tat new k = none := by
  unfold tat new
  by_cases h : k < 8
  · rw [List.getElem?_replicate]; simp [h]
  · rw [List.getElem?_eq_none (by simpa using h)]; rfl
theorem apply_len (t : T) (c : Cmd) : (applyT t c).length = t.length := by
  unfold applyT; split <;> simp
theorem run_len (t : T) (l : List Cmd) : (runT t l).length = t.length := by
  induction l generalizing t with
  | nil => rfl
  | cons c l ih => exact (ih (applyT t c)).trans (apply_len t c)
theorem run_snoc (t : T) (l : List Cmd) (c : Cmd) : runT t (l ++ [c]) = applyT (runT t l) c := by simp [runT]
theorem run_take {t : T} {l : List Cmd} {i : Nat} {c : Cmd} (h : l[i]? = some c) : runT t (l.take (i + 1)) = applyT (runT t (l.take i)) c := by
  rw [take_one h, run_snoc]
theorem done_take {l : List Cmd} {i : Nat} {c : Cmd} (h : l[i]? = some c) : doneN (l.take (i + 1)) = doneN (l.take i) + if doneB c = true then 1 else 0 := by
  rw [take_one h]
  unfold doneN
  rw [List.countP_append, List.countP_singleton]
theorem done_le (l : List Cmd) : doneN l ≤ l.length := List.countP_le_length
theorem apply_at {t : T} (ht : t.length = 8) (c : Cmd) (k : Nat) : tat (applyT t c) k = if doneB c = true ∧ k = c.key then nextV (tat t k) c else tat t k := by
  unfold applyT
  by_cases hd : doneB c = true
  · rw [if_pos hd]
    have h7 : c.key ≤ 7 := (of_decide_eq_true hd).2.1
    by_cases hk : k = c.key
    · subst hk
      rw [if_pos ⟨hd, rfl⟩]
      unfold tat
      rw [List.getElem?_set_self (by omega)]
      rfl
    · rw [if_neg (fun h => hk h.2)]
      unfold tat
      rw [List.getElem?_set_ne (Ne.symm hk)]
  · rw [if_neg hd, if_neg (fun h => hd h.1)]
theorem tat_high {t : T} (ht : t.length = 8) {k : Nat} (hk : 7 < k) : tat t k = none := by
  unfold tat; rw [List.getElem?_eq_none (by omega)]; rfl
theorem tat_get {t : T} {k : Nat} {o : Option Nat} (h : t[k]? = some o) : tat t k = o := by unfold tat; rw [h]; rfl
theorem get_tat {t : T} {k : Nat} (hk : k < t.length) : t[k]? = some (tat t k) := by unfold tat; rw [List.getElem?_eq_getElem hk]; rfl
theorem t_ext {t u : T} (ht : t.length = 8) (hu : u.length = 8) (h : ∀ k, k < 8 → tat t k = tat u k) : t = u := by
  refine List.ext_getElem? fun k => ?_
  by_cases hk : k < 8
  · rw [get_tat (by omega), get_tat (by omega), h k hk]
  · rw [List.getElem?_eq_none (by omega), List.getElem?_eq_none (by omega)]

/-! ### The ways of a command -/
theorem none_apply {t : T} {c : Cmd} (h : c.kind = 0) : applyT t c = t ∧ toldT t c = false ∧ badT c = 0 ∧ doneB c = false := by
  have hd : doneB c = false := by simp [doneB, h]
  exact ⟨by simp [applyT, hd], by simp [toldT, hd], by simp [badT, h], hd⟩
theorem key_apply {t : T} {c : Cmd} (h0 : c.kind ≠ 0) (h : 7 < c.key) : applyT t c = t ∧ toldT t c = false ∧ badT c = 2 ∧ doneB c = false := by
  have hd : doneB c = false := by simp [doneB]; omega
  exact ⟨by simp [applyT, hd], by simp [toldT, hd], by simp [badT, h0, h], hd⟩
theorem kind_apply {t : T} {c : Cmd} (h7 : c.key ≤ 7) (h : 3 < c.kind) : applyT t c = t ∧ toldT t c = false ∧ badT c = 7 ∧ doneB c = false := by
  have hd : doneB c = false := by simp [doneB]; omega
  refine ⟨by simp [applyT, hd], by simp [toldT, hd], ?_, hd⟩
  unfold badT
  rw [if_neg (by omega), if_neg (by omega), if_pos h]
theorem done_bad {c : Cmd} (h : doneB c = true) : badT c = 0 := by
  obtain ⟨h1, h2, h3⟩ := of_decide_eq_true h
  unfold badT
  rw [if_neg h1, if_neg (by omega), if_neg (by omega)]
theorem bad_cases (c : Cmd) : (c.kind = 0) ∨ (c.kind ≠ 0 ∧ 7 < c.key) ∨ (c.kind ≠ 0 ∧ c.key ≤ 7 ∧ 3 < c.kind) ∨ (c.kind = 1 ∧ c.key ≤ 7) ∨ (c.kind = 2 ∧ c.key ≤ 7) ∨ (c.kind = 3 ∧ c.key ≤ 7) := by omega
theorem set_done {c : Cmd} (h : c.kind = 1 ∨ c.kind = 2 ∨ c.kind = 3) (h7 : c.key ≤ 7) : doneB c = true := by
  unfold doneB; rw [decide_eq_true_eq]; omega
theorem set_same {t : T} {k : Nat} (hk : k < t.length) : t.set k (tat t k) = t := by
  refine List.ext_getElem? fun j => ?_
  by_cases hj : j = k
  · subst hj; rw [List.getElem?_set_self hk, get_tat hk]
  · rw [List.getElem?_set_ne (Ne.symm hj)]
theorem drop_apply {t : T} {c : Cmd} (h : c.kind = 2) (h7 : c.key ≤ 7) : applyT t c = t.set c.key none ∧ toldT t c = (tat t c.key).isSome := by
  have hd := set_done (.inr (.inl h)) h7
  have hn : nextV (tat t c.key) c = none := by simp [nextV, h]
  refine ⟨by unfold applyT; rw [if_pos hd, hn], ?_⟩
  unfold toldT
  rw [hd, hn]
  cases tat t c.key <;> simp
theorem swap_no {t : T} {c : Cmd} (ht : t.length = 8) (h : c.kind = 3) (h7 : c.key ≤ 7) (ho : tat t c.key ≠ some c.old) : applyT t c = t ∧ toldT t c = false := by
  have hd := set_done (.inr (.inr h)) h7
  have hn : nextV (tat t c.key) c = tat t c.key := by
    unfold nextV; rw [if_neg (by omega), if_pos h, if_neg ho]
  refine ⟨by unfold applyT; rw [if_pos hd, hn]; exact set_same (by omega), ?_⟩
  unfold toldT
  rw [hn]; simp
theorem put_apply {t : T} {c : Cmd} (h : c.kind = 1 ∨ (c.kind = 3 ∧ tat t c.key = some c.old)) (h7 : c.key ≤ 7) : applyT t c = t.set c.key (some c.val) ∧ toldT t c = decide (tat t c.key ≠ some c.val) := by
  have hd : doneB c = true := set_done (by omega) h7
  have hn : nextV (tat t c.key) c = some c.val := by
    unfold nextV
    rcases h with h | ⟨h, ho⟩
    · rw [if_neg (by omega), if_neg (by omega)]
    · rw [if_neg (by omega), if_pos h, if_pos ho]
  refine ⟨by unfold applyT; rw [if_pos hd, hn], ?_⟩
  unfold toldT
  rw [hd, hn, Bool.true_and]
  exact decide_eq_decide.2 ⟨fun h e => h e.symm, fun h e => h e.symm⟩

/-! ### The image -/
def cmdOf (k v : Nat) : Cmd := ⟨1, k, v, 0⟩
def imageK (t : T) : Nat → List Cmd
  | 0 => []
  | k + 1 => imageK t k ++ (match tat t k with | some v => [cmdOf k v] | none => [])
def imageT (t : T) : List Cmd := imageK t 8
theorem image_some {t : T} {k v : Nat} (h : tat t k = some v) : imageK t (k + 1) = imageK t k ++ [cmdOf k v] := by simp only [imageK, h]
theorem image_none {t : T} {k : Nat} (h : tat t k = none) : imageK t (k + 1) = imageK t k := by simp only [imageK, h, List.append_nil]
theorem image_len (t : T) : ∀ k, (imageK t k).length ≤ k
  | 0 => Nat.le_refl _
  | k + 1 => by
    have ih := image_len t k
    cases h : tat t k with
    | some v => rw [image_some h, List.length_append]; simp; omega
    | none => rw [image_none h]; omega
theorem image_mem {t : T} {c : Cmd} : ∀ {k : Nat}, c ∈ imageK t k → c.key < k ∧ c.kind = 1 ∧ c.old = 0 ∧ tat t c.key = some c.val
  | 0, h => (by cases h)
  | k + 1, h => by
    cases hv : tat t k with
    | none =>
      rw [image_none hv] at h
      have := image_mem h
      exact ⟨by omega, this.2⟩
    | some v =>
      rw [image_some hv] at h
      rcases List.mem_append.1 h with h | h
      · have := image_mem h
        exact ⟨by omega, this.2⟩
      · rw [List.mem_singleton.1 h]
        exact ⟨Nat.lt_succ_self k, rfl, rfl, hv⟩
theorem image_ok {t : T} {c : Cmd} (h : c ∈ imageT t) : badT c = 0 ∧ doneB c = true ∧ c.kind = 1 ∧ c.key < 8 := by
  obtain ⟨h1, h2, _, _⟩ := image_mem h
  have hd := set_done (.inl h2) (show c.key ≤ 7 by omega)
  exact ⟨done_bad hd, hd, h2, h1⟩
theorem image_back_k (t : T) : ∀ (k : Nat), k ≤ 8 → ∀ i, tat (runT new (imageK t k)) i = if i < k then tat t i else none
  | 0, _, i => by rw [if_neg (Nat.not_lt_zero i)]; exact new_at i
  | k + 1, hk, i => by
    have ih := image_back_k t k (by omega) i
    have hl : (runT new (imageK t k)).length = 8 := (run_len _ _).trans new_len
    cases hv : tat t k with
    | none =>
      rw [image_none hv, ih]
      by_cases h1 : i < k
      · rw [if_pos h1, if_pos (by omega)]
      · rw [if_neg h1]
        by_cases h2 : i = k
        · subst h2; rw [if_pos (by omega), hv]
        · rw [if_neg (by omega)]
    | some v =>
      have hd : doneB (cmdOf k v) = true := set_done (.inl rfl) (by show k ≤ 7; omega)
      rw [image_some hv, run_snoc, apply_at hl, ih]
      by_cases h2 : i = k
      · subst h2
        rw [if_pos ⟨hd, rfl⟩, if_pos (Nat.lt_succ_self i), hv]
        rfl
      · rw [if_neg (fun h => h2 h.2)]
        by_cases h1 : i < k
        · rw [if_pos h1, if_pos (by omega)]
        · rw [if_neg h1, if_neg (by omega)]
/-- A table that is made of another one's image is like it. -/
theorem image_back {t : T} (ht : t.length = 8) : runT new (imageT t) = t := by
  refine t_ext ((run_len _ _).trans new_len) ht fun k hk => ?_
  rw [imageT, image_back_k t 8 (Nat.le_refl _) k, if_pos hk]

/-! ### One key's commands alone; swaps of one old value -/
theorem key_other {t : T} (ht : t.length = 8) {c : Cmd} {k : Nat} (h : c.key ≠ k) : tat (applyT t c) k = tat t k := by
  rw [apply_at ht, if_neg (fun e => h e.2.symm)]
theorem key_same {t u : T} (ht : t.length = 8) (hu : u.length = 8) {c : Cmd} (h : tat t c.key = tat u c.key) : tat (applyT t c) c.key = tat (applyT u c) c.key ∧ toldT t c = toldT u c := by
  refine ⟨by rw [apply_at ht, apply_at hu, h], ?_⟩
  unfold toldT
  rw [h]
def wantT (old : Nat) : Nat → List Nat → Nat
  | w, [] => w
  | w, v :: l => wantT old (if w = old then v else w) l
theorem want_snoc (old : Nat) : ∀ (l : List Nat) (w v : Nat), wantT old w (l ++ [v]) = if wantT old w l = old then v else wantT old w l
  | [], _, _ => rfl
  | _ :: l, _, v => want_snoc old l _ v
theorem swap_apply {t : T} (ht : t.length = 8) {k v old w : Nat} (hk : k ≤ 7) (h : tat t k = some w) : tat (applyT t ⟨3, k, v, old⟩) k = some (if w = old then v else w) ∧ toldT t ⟨3, k, v, old⟩ = decide ((if w = old then v else w) ≠ w) := by
  by_cases hw : w = old
  · subst hw
    obtain ⟨h1, h2⟩ := put_apply (t := t) (c := ⟨3, k, v, w⟩) (.inr ⟨rfl, h⟩) hk
    rw [h1, h2, if_pos rfl]
    refine ⟨?_, ?_⟩
    · show tat (t.set k _) k = _
      exact tat_get (List.getElem?_set_self (by omega))
    · show decide (tat t k ≠ some v) = _
      rw [h]
      exact decide_eq_decide.2 ⟨fun h e => h (congrArg some e.symm), fun h e => h (Option.some.inj e).symm⟩
  · obtain ⟨h1, h2⟩ := swap_no ht (c := ⟨3, k, v, old⟩) rfl hk (show tat t k ≠ some old by rw [h]; exact fun e => hw (Option.some.inj e))
    rw [h1, h2, if_neg hw, h]
    exact ⟨rfl, by simp⟩

/-! ### Votes -/
/-- The value that more than half have. -/
def voteT (l : List (Option Nat)) : Option Nat := (MbrP.mostT l).join
def valI (o : Option Nat) : Int := match o with | some v => v | none => -1
theorem valI_inj {a b : Option Nat} (h : valI a = valI b) : a = b := by
  cases a with
  | none => cases b with
    | none => rfl
    | some y => simp only [valI] at h; omega
  | some x => cases b with
    | none => simp only [valI] at h; omega
    | some y => simp only [valI] at h; rw [show x = y by omega]
theorem valI_eq {a b : Option Nat} : valI a = valI b ↔ a = b := ⟨valI_inj, fun h => by rw [h]⟩
theorem valI_neg (a : Option Nat) : (0 ≤ valI a) ↔ a.isSome = true := by cases a <;> simp [valI]
/-- How many of them are this one: counted. -/
def cntI (l : List (Option Nat)) (x : Int) : Nat := l.countP (fun y => decide (valI y = x))
theorem cntI_is (l : List (Option Nat)) (x : Option Nat) : cntI l (valI x) = MbrP.cnt x l := by
  unfold cntI MbrP.cnt
  congr 1
  funext y
  exact decide_eq_decide.2 valI_eq
theorem cntI_take {l : List (Option Nat)} {i : Nat} {o : Option Nat} {x : Int} (h : l[i]? = some o) : cntI (l.take (i + 1)) x = cntI (l.take i) x + if valI o = x then 1 else 0 := by
  rw [take_one h]
  unfold cntI
  rw [List.countP_append, List.countP_singleton]
  simp only [decide_eq_true_eq]
/-- The one that has won is the vote's. -/
theorem vote_yes {l : List (Option Nat)} {v : Nat} (h : l.length < 2 * cntI l (valI (some v))) : voteT l = some v := by
  rw [cntI_is] at h
  unfold voteT
  rw [MbrP.mostT_yes h]
  rfl
theorem vote_some {l : List (Option Nat)} {v : Nat} (h : voteT l = some v) : some v ∈ l ∧ l.length < 2 * cntI l (valI (some v)) := by
  unfold voteT at h
  cases hm : MbrP.mostT l with
  | none => rw [hm] at h; cases h
  | some o =>
    rw [hm] at h
    have ho : o = some v := h
    subst ho
    have hw := MbrP.mostT_some hm
    exact ⟨MbrP.most_mem hw, by rw [cntI_is]; exact hw⟩
/-- What the law has found behind i of them. -/
def foundT (l : List (Option Nat)) : Nat → Option Nat
  | 0 => none
  | i + 1 => match l[i]? with
    | some (some v) => if l.length < 2 * cntI l (valI (some v)) then some v else foundT l i
    | _ => foundT l i
theorem found_some {l : List (Option Nat)} {v : Nat} : ∀ {i : Nat}, foundT l i = some v → voteT l = some v
  | 0, h => (by cases h)
  | i + 1, h => by
    unfold foundT at h
    split at h
    · split at h
      · rename_i h1
        obtain rfl := Option.some.inj h
        exact vote_yes h1
      · exact found_some h
    · exact found_some h
theorem found_none {l : List (Option Nat)} {v : Nat} (hv : l.length < 2 * cntI l (valI (some v))) : ∀ {i k : Nat}, k < i → l[k]? = some (some v) → foundT l i ≠ none
  | 0, _, h, _ => absurd h (Nat.not_lt_zero _)
  | i + 1, k, h, hk => by
    unfold foundT
    by_cases he : k = i
    · subst he
      simp only [hk]
      rw [if_pos hv]
      exact fun h => (by cases h)
    · have ih := found_none hv (i := i) (k := k) (by omega) hk
      split
      · split
        · exact fun h => (by cases h)
        · exact ih
      · exact ih
theorem found_all (l : List (Option Nat)) : foundT l l.length = voteT l := by
  cases hv : voteT l with
  | some v =>
    obtain ⟨h1, h2⟩ := vote_some hv
    obtain ⟨k, hk⟩ := List.getElem?_of_mem h1
    have hn := found_none h2 (List.getElem?_eq_some_iff.1 hk).1 hk
    cases hf : foundT l l.length with
    | none => exact absurd hf hn
    | some w => exact (found_some hf).symm.trans hv
  | none =>
    cases hf : foundT l l.length with
    | none => rfl
    | some w => exact ((found_some hf).symm.trans hv).symm ▸ rfl
theorem found_at {l : List (Option Nat)} {i v : Nat} (h : l[i]? = some (some v)) : foundT l (i + 1) = if l.length < 2 * cntI l (valI (some v)) then some v else foundT l i := by
  simp only [foundT, h]
theorem found_skip {l : List (Option Nat)} {i : Nat} (h : l[i]? = some none) : foundT l (i + 1) = foundT l i := by
  simp only [foundT, h]
end RepP
