/- What the program and the document gathered from the same frames, side by side (JJ, JS). Conditions: none beyond those that each states. -/
import Derived.Test.YtkahecdnmeofkaaMbrV
import Derived.Test.YtkahecdnmeofkaaMbrU
namespace Go.Proofs.Ytkahecdnmeofkaa
open Go.RowKit
set_option maxRecDepth 100000

theorem nodup_count {l : List Nat} (h : l.Nodup) (a : Nat) : l.count a = if a ∈ l then 1 else 0 := by
  induction l with
  | nil => simp
  | cons b t ih =>
    obtain ⟨h1, h2⟩ := List.nodup_cons.1 h
    rw [List.count_cons, ih h2]
    by_cases hab : b = a
    · subst hab; simp [h1]
    · have : ¬ a = b := fun e => hab e.symm
      simp [hab, this]
theorem nodup_perm {l m : List Nat} (hl : l.Nodup) (hm : m.Nodup) (h : ∀ a, a ∈ l ↔ a ∈ m) : l.Perm m := by
  rw [List.perm_iff_count]
  intro a
  rw [nodup_count hl, nodup_count hm]
  by_cases ha : a ∈ l
  · rw [if_pos ha, if_pos ((h a).1 ha)]
  · rw [if_neg ha, if_neg (fun e => ha ((h a).2 e))]
/-- Of different senders one alone is the one. -/
theorem only_one {got : List FrameC} (h : (got.map FrameC.sender).Nodup) {x : FrameC} (hx : x ∈ got) (q : FrameC → Bool) : got.filter (fun y => decide (y.sender = x.sender) && q y) = if q x = true then [x] else [] := by
  induction got with
  | nil => cases hx
  | cons b t ih =>
    rw [List.map_cons, List.nodup_cons] at h
    rw [List.filter_cons]
    by_cases hb : b = x
    · subst hb
      have hn : t.filter (fun y => decide (y.sender = b.sender) && q y) = [] := by
        rw [List.filter_eq_nil_iff]
        intro y hy
        have : ¬ y.sender = b.sender := fun e => h.1 (List.mem_map.2 ⟨y, hy, e⟩)
        simp [this]
      rw [hn]
      by_cases hq : q b = true <;> simp [hq]
    · have hxt : x ∈ t := by
        rcases List.mem_cons.1 hx with e | e
        · exact absurd e.symm hb
        · exact e
      have hne : ¬ b.sender = x.sender := fun e => h.1 (List.mem_map.2 ⟨x, hxt, e.symm⟩)
      simp only [hne, decide_false, Bool.false_and]
      exact ih h.2 hxt

/-- The same frames. -/
structure JJ (s : Nat) (fs got : List FrameC) : Prop where
  bits : ∀ n, n < 7 → (s.testBit n = true ↔ ∃ x ∈ got, x.sender = n)
  same : ∀ x ∈ got, x.sender < 7 ∧ ∃ y, fs[x.sender]? = some y ∧ y.plain = x.plain
  nodup : (got.map FrameC.sender).Nodup
theorem JJ.start : JJ 0 zeros7 [] := ⟨fun n _ => by simp, fun x hx => (by cases hx), by simp⟩
section
variable {s : Nat} {fs got : List FrameC}
theorem JJ.perm (h : JJ s fs got) : (MbrP.lst s).Perm (got.map FrameC.sender) := by
  refine nodup_perm (MbrP.lst_nodup s) h.nodup (fun a => ?_)
  rw [MbrP.lst_mem, List.mem_map]
  constructor
  · rintro ⟨h1, h2⟩; exact (h.bits a h1).1 h2
  · rintro ⟨x, hx, rfl⟩; exact ⟨(h.same x hx).1, (h.bits _ (h.same x hx).1).2 ⟨x, hx, rfl⟩⟩
theorem JJ.len (h : JJ s fs got) : got.length ≤ 7 := by
  have h1 := h.perm.length_eq
  rw [List.length_map] at h1
  rw [← h1]
  exact MbrP.lst_length s
theorem JJ.st (h : JJ s fs got) {x : FrameC} (hx : x ∈ got) : stOf fs x.sender = gst x := by
  obtain ⟨-, y, hy, hp⟩ := h.same x hx
  rw [stOf_at hy]
  have e1 : y.round = x.round := congrArg FrameP.Fr.round hp
  have e2 : y.members = x.members := congrArg FrameP.Fr.members hp
  unfold gst
  rw [e1, e2]
theorem JJ.right (h : JJ s fs got) (known : Bool) (m : Nat × Nat) : MbrP.rightT known m (gstamps got) = MbrP.rightT known m (stamps s fs) := by
  have h1 : (stamps s fs).Perm (gstamps got) := by
    unfold stamps gstamps
    have h2 := h.perm.map (stOf fs)
    rw [List.map_map] at h2
    have h3 : got.map (stOf fs ∘ FrameC.sender) = got.map gst := List.map_congr_left (fun x hx => h.st hx)
    rw [h3] at h2
    exact h2
  unfold MbrP.rightT
  rw [MbrP.mostT_perm h1]
theorem JJ.any (h : JJ s fs got) {k : Nat} (hk : k < 7) : got.any (fun y : FrameC => decide (y.sender = k)) = s.testBit k := by
  cases hb : s.testBit k with
  | true =>
    obtain ⟨x, hx, e⟩ := (h.bits k hk).1 hb
    exact List.any_eq_true.2 ⟨x, hx, by simpa using e⟩
  | false =>
    rw [List.any_eq_false]
    intro x hx e
    have := (h.bits k hk).2 ⟨x, hx, by simpa using e⟩
    rw [hb] at this
    cases this
theorem JJ.step (h : JJ s fs got) {k : Nat} (hk : k < 7) (hb : s.testBit k = false) {x y : FrameC} (hx : x.sender = k) (hp : y.plain = x.plain) (hl : fs.length = 7) : JJ (MbrP.withT s (k : Int)) (fs.set k y) (got ++ [x]) := by
  have hno : ∀ z ∈ got, z.sender ≠ k := fun z hz e => by
    have := (h.bits k hk).2 ⟨z, hz, e⟩
    rw [hb] at this
    cases this
  refine ⟨fun n hn => ?_, fun z hz => ?_, ?_⟩
  · rw [testBit_with hk, Bool.or_eq_true, decide_eq_true_eq, h.bits n hn]
    constructor
    · rintro (⟨z, hz, e⟩ | e)
      · exact ⟨z, List.mem_append.2 (.inl hz), e⟩
      · exact ⟨x, by simp, by rw [hx, e]⟩
    · rintro ⟨z, hz, e⟩
      rcases List.mem_append.1 hz with hz | hz
      · exact .inl ⟨z, hz, e⟩
      · rw [List.mem_singleton.1 hz, hx] at e
        exact .inr e.symm
  · rcases List.mem_append.1 hz with hz | hz
    · obtain ⟨h1, z', h2, h3⟩ := h.same z hz
      exact ⟨h1, z', by rw [List.getElem?_set_ne (fun e => hno z hz e.symm)]; exact h2, h3⟩
    · rw [List.mem_singleton.1 hz, hx]
      exact ⟨hk, y, List.getElem?_set_self (by omega), hp⟩
  · rw [List.map_append, List.nodup_append]
    refine ⟨h.nodup, by simp, fun a ha c hc e => ?_⟩
    simp only [List.map_cons, List.map_nil, List.mem_singleton] at hc
    obtain ⟨z, hz, e2⟩ := List.mem_map.1 ha
    exact hno z hz (by rw [e2, e, hc, hx])
/-- Of one node: its frame, if it bears the stamp. -/
theorem JJ.one (h : JJ s fs got) (r : Nat × Nat) {n : Nat} (hn : n < 7) : (sel got r n).map FrameC.plain = (if (s.testBit n && decide (stOf fs n = r)) = true then [plainAt fs n] else []) ∧ (sel got r n).map (fun _ => n) = (if (s.testBit n && decide (stOf fs n = r)) = true then [n] else []) := by
  unfold sel selI
  rw [List.take_length]
  cases hb : s.testBit n with
  | true =>
    obtain ⟨x, hx, rfl⟩ := (h.bits n hn).1 hb
    have h1 := only_one h.nodup hx (fun y => decide (gst y = r))
    have h2 : got.filter (selP r x.sender) = if decide (gst x = r) = true then [x] else [] := h1
    rw [h2, h.st hx]
    obtain ⟨-, y, hy, hp⟩ := h.same x hx
    have hpl : plainAt fs x.sender = x.plain := by unfold plainAt; rw [hy]; exact hp
    by_cases hg : gst x = r
    · simp [hg, hpl]
    · simp [hg]
  | false =>
    have h2 : got.filter (selP r n) = [] := by
      rw [List.filter_eq_nil_iff]
      intro y hy e
      have hs : y.sender = n := by unfold selP at e; simp at e; exact e.1
      have := (h.bits n hn).2 ⟨y, hy, hs⟩
      rw [hb] at this
      cases this
    rw [h2]
    simp
theorem flat_if {α β : Type} (c : α → Bool) (g : α → β) (f : α → List β) : ∀ l : List α, (∀ n ∈ l, f n = if c n = true then [g n] else []) → l.flatMap f = (l.filter c).map g
  | [], _ => by simp
  | a :: l, h => by
    have ih := flat_if c g f l (fun n hn => h n (List.mem_cons_of_mem _ hn))
    rw [List.flatMap_cons, h a List.mem_cons_self, ih, List.filter_cons]
    by_cases hc : c a = true <;> simp [hc]
theorem JJ.all (h : JJ s fs got) (r : Nat × Nat) : (allY got r 7).map FrameC.plain = ((MbrP.lst s).filter (fun n => decide (stOf fs n = r))).map (plainAt fs) ∧ allN got r 7 = (MbrP.lst s).filter (fun n => decide (stOf fs n = r)) := by
  have hc : (List.range 7).filter (fun n => s.testBit n && decide (stOf fs n = r)) = (MbrP.lst s).filter (fun n => decide (stOf fs n = r)) := by
    unfold MbrP.lst
    rw [List.filter_filter]
    apply List.filter_congr
    intro n _
    rw [Bool.and_comm]
  constructor
  · unfold allY
    rw [List.map_flatMap, ← hc]
    exact flat_if _ _ _ _ (fun n hn => (h.one r (by simpa using hn)).1)
  · unfold allN
    rw [flat_if (fun n => s.testBit n && decide (stOf fs n = r)) (fun n => n) _ _ (fun n hn => (h.one r (by simpa using hn)).2), List.map_id']
    exact hc
/-- The frames that both answer are the same, and so are the members. -/
theorem JJ.frames (h : JJ s fs got) (o : Option (Nat × Nat)) {ys : List FrameC} {m : Nat} (e : (ys, m) = (match o with | some r => (allY got r 7, MbrP.ofT (MbrP.ints (allN got r 7))) | none => ([], 0))) : m = memT s fs o ∧ ys.map FrameC.plain = (MbrP.lst (memT s fs o)).map (plainAt fs) := by
  cases o with
  | none =>
    obtain ⟨rfl, rfl⟩ := Prod.mk.inj e
    exact ⟨rfl, by rw [show memT s fs none = 0 from rfl, show MbrP.lst 0 = [] by decide]; rfl⟩
  | some r =>
    obtain ⟨rfl, rfl⟩ := Prod.mk.inj e
    obtain ⟨h1, h2⟩ := h.all r
    constructor
    · rw [h2]; rfl
    · rw [h1]
      show _ = (MbrP.lst (MbrP.bear s (stOf fs) r)).map (plainAt fs)
      rw [MbrP.lst_bear]
end

/-- Both, in memory: the arguments lie in w. -/
structure JS (w : World) (b rb B mr mm : Nat) (known : Bool) (v : Value) (s : Nat) (fs got : List FrameC) (W : World) : Prop where
  prog : HeardIn W b mr mm known s fs
  off : ∀ x ∈ fs, FrameOff (fun q => q = rb ∨ v.ownBlock = some q) x
  ref : RefH W B rb mr mm known v got
  rel : JJ s fs got
  args : ∀ x ∈ got, FrameIn w x
  low : Below w.heap.size w W
  bl : w.heap.size ≤ b
  rl : w.heap.size ≤ rb
  bB : w.heap.size ≤ B
  ne : b ≠ rb
section
variable {w : World} {b rb B mr mm s : Nat} {known : Bool} {v : Value} {fs got : List FrameC} {W W' : World}
theorem JS.below (h : JS w b rb B mr mm known v s fs got W) (hb : Below W.heap.size W W') : JS w b rb B mr mm known v s fs got W' :=
  ⟨h.prog.below hb, h.off, h.ref.below hb, h.rel, h.args, h.low.trans (hb.mono h.low.size), h.bl, h.rl, h.bB, h.ne⟩
theorem JS.vlt (h : JS w b rb B mr mm known v s fs got W) {q : Nat} (hq : v.ownBlock = some q) : B ≤ q ∧ q < W.heap.size ∧ q ≠ b :=
  ⟨(h.ref.own.lt q hq).1, (h.ref.own.lt q hq).2, own_off h.ref.own h.prog.at_ (by decide) q hq⟩
/-- The program heard. -/
theorem JS.heard (h : JS w b rb B mr mm known v s fs got W) {k : Nat} {z : FrameC} {e : Ending} (hy : YesP b mr mm known s fs k z W e W') : e = .returned (.bool true) ∧ ∃ y : FrameC, y.plain = z.plain ∧ HeardIn W' b mr mm known (MbrP.withT s (k : Int)) (fs.set k y) ∧ (∀ x ∈ fs.set k y, FrameOff (fun q => q = rb ∨ v.ownBlock = some q) x) ∧ RefH W' B rb mr mm known v got ∧ Below w.heap.size w W' ∧ Apart (fun q => q = b) W W' := by
  obtain ⟨he, y, hp, -, hh, hd, ha⟩ := hy
  refine ⟨he, y, hp, hd, fun x hx => ?_, h.ref.apart ha (fun e => h.ne e.symm) (fun q hq => (h.vlt hq).2.2), h.low.trans (ha.below h.low.size (fun q e => by rw [e]; exact h.bl)), ha⟩
  rcases List.mem_or_eq_of_mem_set hx with hx | rfl
  · exact h.off x hx
  · exact hh.off (fun q hq => by
      rcases hq with rfl | hq
      · exact h.ref.size
      · exact (h.vlt hq).2.1)
end
/-- .. and then the document's. -/
theorem JS.both {w : World} {b rb B mr mm s k : Nat} {known : Bool} {v : Value} {fs got : List FrameC} {W0 W W' : World} {z y : FrameC} {e : Ending} (h0 : JS w b rb B mr mm known v s fs got W0) (hk : k < 7) (hz : z.sender = k) (hzw : FrameIn w z) (hb : s.testBit k = false) (hp : y.plain = z.plain)
    (hd : HeardIn W b mr mm known (MbrP.withT s (k : Int)) (fs.set k y)) (ho : ∀ x ∈ fs.set k y, FrameOff (fun q => q = rb ∨ v.ownBlock = some q) x) (hr : RefH W B rb mr mm known v got) (hlow : Below w.heap.size w W) (hy : RYesP B rb mr mm known v got z W e W') :
    e = .returned (.bool true) ∧ ∃ v', JS w b rb B mr mm known v' (MbrP.withT s (k : Int)) (fs.set k y) (got ++ [z]) W' ∧ Apart (fun q => q = rb ∨ v.ownBlock = some q) W W' := by
  obtain ⟨he, v', hr', ha, hv⟩ := hy
  have hvb : ∀ q, v.ownBlock = some q → q ≠ b := fun q hq => own_off hr.own hd.at_ (by decide) q hq
  refine ⟨he, v', ⟨hd.offs ha (fun e => ?_) ho, fun x hx => ?_, hr', h0.rel.step hk hb hz hp h0.prog.len, fun x hx => ?_, hlow.trans (ha.below hlow.size (fun q e => ?_)), h0.bl, h0.rl, h0.bB, h0.ne⟩, ha⟩
  · rcases e with e | e
    · exact h0.ne e
    · exact hvb b e rfl
  · rcases hv with hv | ⟨q0, hv, hq⟩
    · rw [hv]; exact ho x hx
    · have h1 := (hd.frames x hx).off_new (F := fun q => q = q0) (fun q e => by omega)
      refine (((ho x hx).mono (G := fun q => q = rb) (fun q e => .inl e)).or h1).mono (fun q e => ?_)
      rcases e with e | e
      · exact .inl e
      · rw [hv] at e; exact .inr (Option.some.inj e).symm
  · rcases List.mem_append.1 hx with hx | hx
    · exact h0.args x hx
    · rw [List.mem_singleton.1 hx]; exact hzw
  · rcases e with e | e
    · rw [e]; exact h0.rl
    · exact Nat.le_trans h0.bB (hr.own.lt q e).1
end Go.Proofs.Ytkahecdnmeofkaa
