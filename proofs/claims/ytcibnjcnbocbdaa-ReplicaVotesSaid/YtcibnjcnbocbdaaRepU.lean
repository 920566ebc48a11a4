/- Many tables of values by keys in memory (TabsG): no two share a block; Awake. Conditions: where they lie. -/
import Derived.Test.YtcibnjcnbocbdaaRepG
namespace Go.Proofs.Ytcibnjcnbocbdaa
open Go.RowKit RepP Go.Maps
set_option maxRecDepth 100000

/-- Blocks of such tables: headers and maps. -/
def RTag (W : World) (q : Nat) : Prop := (∃ cs, W.heap[q]? = some (.cells cs 59 (0, 0))) ∨ ∃ es c, W.heap[q]? = some (.map es c)
structure Tab where
  b : Nat
  m : Option Nat
  t : T
  n : Nat
def Tab.key (x : Tab) : Nat × T × Nat := (x.b, x.t, x.n)
structure TabsIn (W : World) (B : Nat) (l : List Tab) : Prop where
  rep : ∀ (i : Nat) (x : Tab), l[i]? = some x → RepIn W x.b x.m x.t x.n x.n
  low : ∀ (i : Nat) (x : Tab), l[i]? = some x → ∀ q, RepB x.b x.m q → B ≤ q
  off : ∀ (i j : Nat) (x y : Tab), l[i]? = some x → l[j]? = some y → i ≠ j → ∀ q, RepB x.b x.m q → ¬ RepB y.b y.m q
def TabsG (W : World) (B : Nat) (ts : List (Nat × T × Nat)) : Prop := ∃ l : List Tab, TabsIn W B l ∧ l.map Tab.key = ts
theorem RepIn.tag {W : World} {b : Nat} {m : Option Nat} {t : T} {n k : Nat} (h : RepIn W b m t n k) : ∀ q, RepB b m q → RTag W q := fun q hq => by
  rcases hq with rfl | hq
  · exact .inl ⟨_, h.at_⟩
  · exact .inr (h.mp.block q hq)
section
variable {W W' : World} {B : Nat} {ts : List (Nat × T × Nat)}
theorem TabsG.nil (W : World) (B : Nat) : TabsG W B [] := ⟨[], ⟨fun i x h => by simp at h, fun i x h => by simp at h, fun i j x y h => by simp at h⟩, rfl⟩
theorem TabsG.get (h : TabsG W B ts) {i b n : Nat} {t : T} (hi : ts[i]? = some (b, t, n)) : ∃ m, RepIn W b m t n n := by
  obtain ⟨l, hl, rfl⟩ := h
  rw [List.getElem?_map] at hi
  obtain ⟨x, hx, e⟩ := Option.map_eq_some_iff.1 hi
  obtain ⟨b', m, t', n'⟩ := x
  cases e
  exact ⟨m, hl.rep i _ hx⟩
theorem TabsG.apart {F : Nat → Prop} (h : TabsG W B ts) (ha : Apart F W W') (hF : ∀ q, RTag W q → ¬ F q) : TabsG W' B ts := by
  obtain ⟨l, hl, e⟩ := h
  exact ⟨l, ⟨fun i x hx => (hl.rep i x hx).apart ha fun q hq => hF q ((hl.rep i x hx).tag q hq), hl.low, hl.off⟩, e⟩
theorem TabsG.below (h : TabsG W B ts) (hb : Below W.heap.size W W') : TabsG W' B ts := h.apart (F := fun _ => False) (Apart.of_below' hb) (fun _ _ h => h)
theorem TabsG.drewN (h : TabsG W B ts) (q : Nat) : TabsG (W.drewN q) B ts := h.below (below_drewNc (Below.refl _ _) q)
/-- One more. -/
theorem TabsG.more (h : TabsG W B ts) (hB : B ≤ W.heap.size) (hr : RepIn W' W.heap.size none new 0 0) (hb : Below W.heap.size W W') : TabsG W' B (ts ++ [(W.heap.size, new, 0)]) := by
  obtain ⟨l, hl, rfl⟩ := h
  have hblt : ∀ (i : Nat) (x : Tab), l[i]? = some x → ∀ q, RepB x.b x.m q → q < W.heap.size := fun i x hx => (hl.rep i x hx).blt
  have hrep : ∀ (i : Nat) (x : Tab), l[i]? = some x → RepIn W' x.b x.m x.t x.n x.n := fun i x hx => (hl.rep i x hx).below hb
  have hnew : ∀ q, RepB W.heap.size none q → q = W.heap.size := fun q hq => by
    rcases hq with hq | hq
    · exact hq
    · cases hq
  have hat : ∀ (i : Nat) (x : Tab), (l ++ [(⟨W.heap.size, none, new, 0⟩ : Tab)])[i]? = some x → l[i]? = some x ∨ (i = l.length ∧ x = ⟨W.heap.size, none, new, 0⟩) := fun i x hx => by
    rcases Nat.lt_or_ge i l.length with h1 | h1
    · rw [List.getElem?_append_left h1] at hx
      exact .inl hx
    · rw [List.getElem?_append_right h1] at hx
      have h2 : i - l.length = 0 := by
        have := (List.getElem?_eq_some_iff.1 hx).1
        simp at this
        omega
      rw [h2] at hx
      simp at hx
      exact .inr ⟨by omega, hx.symm⟩
  refine ⟨l ++ [⟨W.heap.size, none, new, 0⟩], ⟨fun i x hx => ?_, fun i x hx q hq => ?_, fun i j x y hx hy hij q hq hq' => ?_⟩, by simp [Tab.key]⟩
  · rcases hat i x hx with h1 | ⟨_, rfl⟩
    · exact hrep i x h1
    · exact hr
  · rcases hat i x hx with h1 | ⟨_, rfl⟩
    · exact hl.low i x h1 q hq
    · rw [hnew q hq]; exact hB
  · rcases hat i x hx with h1 | ⟨e1, rfl⟩ <;> rcases hat j y hy with h2 | ⟨e2, rfl⟩
    · exact hl.off i j x y h1 h2 hij q hq hq'
    · have := hblt i x h1 q hq
      rw [hnew q hq'] at this
      exact Nat.lt_irrefl _ this
    · have := hblt j y h2 q hq'
      rw [hnew q hq] at this
      exact Nat.lt_irrefl _ this
    · exact hij (e1.trans e2.symm)
end
/-- What Apply leaves of many tables. -/
def TabP (W : World) (B : Nat) (ts : List (Nat × T × Nat)) (i b n : Nat) (t : T) (c : Cmd) (e : Ending) (w' : World) : Prop :=
  e = .returned (.tuple #[.bool (toldT t c), errN (badT c)]) ∧ TabsG w' B (ts.set i (b, applyT t c, n + if doneB c = true then 1 else 0)) ∧ Apart (fun q => B ≤ q ∧ RTag W q) W w'
theorem tabs_apply (W : World) (B : Nat) (ts : List (Nat × T × Nat)) (h : TabsG W B ts) {i b n : Nat} {t : T} (hi : ts[i]? = some (b, t, n)) (hn : n ≤ 1000000) (c : Cmd) (hc : CmdIn c) :
    Calls Try.prog 10 #[repV b, cmdV14 c] W (TabP W B ts i b n t c) := by
  obtain ⟨l, hl, rfl⟩ := h
  rw [List.getElem?_map] at hi
  obtain ⟨x, hx, e⟩ := Option.map_eq_some_iff.1 hi
  obtain ⟨b', m, t', n'⟩ := x
  cases e
  have hr := hl.rep i _ hx
  simp only at hr
  refine (rapply_any W b' m t' n' n' hr hn hn c hc).mono ?_
  rintro e w' ⟨rfl, m', h1, h2, h3⟩
  have hlen : i < l.length := (List.getElem?_eq_some_iff.1 hx).1
  have hmv : ∀ q, RepB b' m' q → RepB b' m q ∨ W.heap.size ≤ q := fun q hq => by
    rcases hq with hq | hq
    · exact .inl (.inl hq)
    · rcases h3 with h3 | ⟨M, h3, h4⟩
      · exact .inl (.inr (h3 ▸ hq))
      · rw [h3] at hq; cases hq; exact .inr h4
  have hsz : B ≤ W.heap.size := Nat.le_trans (hl.low i _ hx b' (.inl rfl)) (Nat.le_of_lt hr.lt)
  have hset : ∀ (j : Nat) (y : Tab), (l.set i (⟨b', m', applyT t' c, n' + if doneB c = true then 1 else 0⟩ : Tab))[j]? = some y → (j = i ∧ y = ⟨b', m', applyT t' c, n' + if doneB c = true then 1 else 0⟩) ∨ (j ≠ i ∧ l[j]? = some y) := fun j y hy => by
    by_cases hj : j = i
    · subst hj
      rw [List.getElem?_set_self hlen] at hy
      exact .inl ⟨rfl, (Option.some.inj hy).symm⟩
    · rw [List.getElem?_set_ne (Ne.symm hj)] at hy
      exact .inr ⟨hj, hy⟩
  refine ⟨rfl, ⟨l.set i ⟨b', m', applyT t' c, n' + if doneB c = true then 1 else 0⟩, ⟨fun j y hy => ?_, fun j y hy q hq => ?_, fun j k y z hy hz hjk q hq hq' => ?_⟩, by simp [List.map_set, Tab.key]⟩, h2.mono fun q _ hq => ⟨hl.low i _ hx q hq, hr.tag q hq⟩⟩
  · rcases hset j y hy with ⟨-, rfl⟩ | ⟨hj, hy'⟩
    · exact h1
    · exact (hl.rep j y hy').apart h2 fun q hq hq' => hl.off j i y _ hy' hx hj q hq hq'
  · rcases hset j y hy with ⟨-, rfl⟩ | ⟨hj, hy'⟩
    · rcases hmv q hq with h4 | h4
      · exact hl.low i _ hx q h4
      · omega
    · exact hl.low j y hy' q hq
  · rcases hset j y hy with ⟨e1, rfl⟩ | ⟨hj, hy'⟩ <;> rcases hset k z hz with ⟨e2, rfl⟩ | ⟨hk, hz'⟩
    · exact hjk (e1.trans e2.symm)
    · rcases hmv q hq with h4 | h4
      · exact hl.off i k _ z hx hz' (Ne.symm hk) q h4 hq'
      · have := (hl.rep k z hz').blt q hq'; omega
    · rcases hmv q hq' with h4 | h4
      · exact hl.off j i y _ hy' hx hj q hq h4
      · have := (hl.rep j y hy').blt q hq; omega
    · exact hl.off j k y z hy' hz' hjk q hq hq'
theorem tabs_ask (W : World) (B : Nat) (ts : List (Nat × T × Nat)) (h : TabsG W B ts) {i b n : Nat} {t : T} (hi : ts[i]? = some (b, t, n)) (key : Nat) (hk : key ≤ 255) : Calls Try.prog 17 #[repV b, .int .u8 (key : Nat)] W (AskP14 (tat t key) W) := by
  obtain ⟨m, hr⟩ := h.get hi
  exact rask_any W b m t n n hr key hk
theorem tabs_image (W : World) (B : Nat) (ts : List (Nat × T × Nat)) (h : TabsG W B ts) {i b n : Nat} {t : T} (hi : ts[i]? = some (b, t, n)) : Calls Try.prog 15 #[repV b] W (ImaP14 t W) := by
  obtain ⟨m, hr⟩ := h.get hi
  exact rimage_any W b m t n n hr
theorem tabs_done (W : World) (B : Nat) (ts : List (Nat × T × Nat)) (h : TabsG W B ts) {i b n : Nat} {t : T} (hi : ts[i]? = some (b, t, n)) : Calls Try.prog 13 #[repV b] W (DoneP14 n W) := by
  obtain ⟨m, hr⟩ := h.get hi
  exact rdone_any W b m t n n hr
/-- What was written lies from B on. -/
theorem tag_below {W W' : World} {B : Nat} (ha : Apart (fun q => B ≤ q ∧ RTag W q) W W') (hB : B ≤ W.heap.size) : Below B W W' := ha.below hB fun _ h => h.1
/-- One table. -/
def OneG (W : World) (B b : Nat) (t : T) (n : Nat) : Prop := B ≤ W.heap.size ∧ TabsG W B [(b, t, n)]
theorem OneG.below {W W' : World} {B b n : Nat} {t : T} (h : OneG W B b t n) (hb : Below W.heap.size W W') : OneG W' B b t n := ⟨Nat.le_trans h.1 hb.size, h.2.below hb⟩
theorem OneG.new {W w' : World} {e : Ending} (h : NewP14 W e w') : OneG w' W.heap.size W.heap.size new 0 := by
  obtain ⟨-, h1, h2, h3⟩ := h
  exact ⟨by omega, by simpa using (TabsG.nil W W.heap.size).more (Nat.le_refl _) h1 h2⟩
def OneP (W : World) (B b n : Nat) (t : T) (c : Cmd) (e : Ending) (w' : World) : Prop :=
  e = .returned (.tuple #[.bool (toldT t c), errN (badT c)]) ∧ OneG w' B b (applyT t c) (n + if doneB c = true then 1 else 0) ∧ Apart (fun q => B ≤ q ∧ RTag W q) W w'
theorem one_apply {W : World} {B b n : Nat} {t : T} (h : OneG W B b t n) (hn : n ≤ 1000000) (c : Cmd) (hc : CmdIn c) : Calls Try.prog 10 #[repV b, cmdV14 c] W (OneP W B b n t c) :=
  (tabs_apply W B _ h.2 (i := 0) rfl hn c hc).mono fun _ _ h1 => ⟨h1.1, ⟨Nat.le_trans h.1 h1.2.2.size, h1.2.1⟩, h1.2.2⟩
theorem one_ask {W : World} {B b n : Nat} {t : T} (h : OneG W B b t n) (key : Nat) (hk : key ≤ 255) : Calls Try.prog 17 #[repV b, .int .u8 (key : Nat)] W (AskP14 (tat t key) W) := tabs_ask W B _ h.2 (i := 0) rfl key hk
theorem one_done {W : World} {B b n : Nat} {t : T} (h : OneG W B b t n) : Calls Try.prog 13 #[repV b] W (DoneP14 n W) := tabs_done W B _ h.2 (i := 0) rfl
theorem one_image {W : World} {B b n : Nat} {t : T} (h : OneG W B b t n) : Calls Try.prog 15 #[repV b] W (ImaP14 t W) := tabs_image W B _ h.2 (i := 0) rfl

def awakeA : Cmd := ⟨1, 3, 7, 0⟩
def awakeB : Cmd := ⟨3, 3, 9, 7⟩
theorem awake14_a : toldT new awakeA = true ∧ badT awakeA = 0 ∧ doneB awakeA = true ∧ toldT (applyT new awakeA) awakeB = true ∧ badT awakeB = 0 ∧ doneB awakeB = true ∧ tat (applyT (applyT new awakeA) awakeB) 3 = some 9 := by decide +kernel
def Tru14 (w : World) (e : Ending) (w' : World) : Prop := e = .returned (.bool true) ∧ Below w.heap.size w w'
set_option maxHeartbeats 1000000 in
theorem awake14_any (w : World) : Calls Try.prog 8 #[] w (Tru14 w) := by
  obtain ⟨a1, a2, a3, a4, a5, a6, a7⟩ := awake14_a
  have HN := Lib.hid (rnew_any w)
  have HA : Hid (∀ w1 B b, OneG w1 B b new 0 → Calls Try.prog 10 #[repV b, cmdV14 awakeA] w1 (fun e w' => e = .returned (.tuple #[.bool true, .nilIface]) ∧ OneG w' B b (applyT new awakeA) 1 ∧ Below B w1 w')) := Lib.hid fun w1 B b h => by
    refine (one_apply h (by omega) awakeA ⟨by decide, by decide, by decide, by decide⟩).mono ?_
    rintro e w' ⟨h1, h2, h3⟩
    rw [a1, a2] at h1
    rw [a3] at h2
    exact ⟨h1, h2, tag_below h3 h.1⟩
  have HB : Hid (∀ w1 B b, OneG w1 B b (applyT new awakeA) 1 → Calls Try.prog 10 #[repV b, cmdV14 awakeB] w1 (fun e w' => e = .returned (.tuple #[.bool true, .nilIface]) ∧ OneG w' B b (applyT (applyT new awakeA) awakeB) 2 ∧ Below B w1 w')) := Lib.hid fun w1 B b h => by
    refine (one_apply h (by omega) awakeB ⟨by decide, by decide, by decide, by decide⟩).mono ?_
    rintro e w' ⟨h1, h2, h3⟩
    rw [a4, a5] at h1
    rw [a6] at h2
    exact ⟨h1, h2, tag_below h3 h.1⟩
  have HC : Hid (∀ w1 B b, OneG w1 B b (applyT (applyT new awakeA) awakeB) 2 → Calls Try.prog 17 #[repV b, .int .u8 3] w1 (fun e w' => e = .returned (.tuple #[.int .u16 9, .nilIface]) ∧ w' = w1)) := Lib.hid fun w1 B b h => by
    have := one_ask h 3 (by omega)
    rw [a7] at this
    exact this
  have HD : Hid (∀ w1 B b, OneG w1 B b (applyT (applyT new awakeA) awakeB) 2 → Calls Try.prog 13 #[repV b] w1 (fun e w' => e = .returned (.int .i64 2) ∧ w' = w1)) := Lib.hid fun w1 B b h => one_done h
  clear a1 a2 a3 a4 a5 a6 a7
  generalize applyT (applyT new awakeA) awakeB = t2 at *
  generalize applyT new awakeA = t1 at *
  have ea : cmdV14 awakeA = .agg #[.int .u8 1, .int .u8 3, .int .u16 7, .int .u16 0] := rfl
  have eb : cmdV14 awakeB = .agg #[.int .u8 3, .int .u8 3, .int .u16 9, .int .u16 7] := rfl
  rw [ea] at HA
  rw [eb] at HB
  clear ea eb
  unfold repV at *
  go_enter Try.func8, Try.ntmps8
  go_wp2_with fail
  refine HN.out.mono ?_
  rintro e w1 hN
  have hG := OneG.new hN
  obtain ⟨rfl, -, hb, -⟩ := hN
  unfold repV
  have HAw := Lib.hid (HA.out _ _ _ hG)
  have Hb := Lib.hid hb
  clear HN HA hG hb
  generalize hBz : w.heap.size = B at *
  have HZ := Lib.hid hBz
  clear hBz
  go_wp2_with fail
  refine HAw.out.mono ?_
  rintro e w2 ⟨rfl, hG, hb⟩
  have HBw := Lib.hid (HB.out _ _ _ hG)
  have Hb1 := Lib.hid (Hb.out.trans hb)
  clear HAw HB hG hb Hb
  go_wp2_with fail
  refine HBw.out.mono ?_
  rintro e w3 ⟨rfl, hG, hb⟩
  have HCw := Lib.hid (HC.out _ _ _ hG)
  have HDw := Lib.hid (HD.out _ _ _ hG)
  have Hb2 := Lib.hid (Hb1.out.trans hb)
  clear HBw HC HD hG hb Hb1
  go_wp2_with fail
  refine HCw.out.mono ?_
  rintro e w4 ⟨rfl, rfl⟩
  go_wp2_with fail
  refine HDw.out.mono ?_
  rintro e w5 ⟨rfl, rfl⟩
  go_wp2_with fail
  go_ret
  refine ⟨rfl, ?_⟩
  rw [HZ.out]
  exact Hb2.out
end Go.Proofs.Ytcibnjcnbocbdaa
