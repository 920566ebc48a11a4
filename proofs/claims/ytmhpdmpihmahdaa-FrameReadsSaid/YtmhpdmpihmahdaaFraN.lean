/- Contracts of frame's takeMessages and takeRecords. Conditions: where the Reader lies. -/
import Derived.Test.YtmhpdmpihmahdaaFraM
namespace Go.Proofs.Ytmhpdmpihmahdaa
open Go.RowKit
set_option maxRecDepth 100000

/-- Messages that were read, in a row of the call's own. -/
structure GotM (br : Nat) (A : Option Addr) (n cap : Nat) (l : List UInt8) (W : World) (a : Nat) (s : Bool) (v : Value) (ms : List MsgC) (w : World) : Prop where
  take : TakeIn br A n cap l W a s w
  own : w.ownsRow W.heap.size 57 2 v ms.length (msgVals ms)
  ok : ∀ x ∈ ms, MsgOk w x ∧ (0 < x.data.length → ∀ k, blockOf x.A = some k → W.heap.size ≤ k ∧ v.ownBlock ≠ some k)

theorem tell_len (l : List UInt8) (a : Nat) (s : Bool) : (WireP.tell l a s).l.length ≤ 255 := by
  unfold WireP.tell
  split
  · simp
  · split
    · simp
    · have := UInt8.toNat_lt (l.getD a 0)
      simp only [List.length_take]
      omega

theorem GotM.take1 {br n cap : Nat} {A : Option Addr} {l : List UInt8} {W w w' : World} {a a' : Nat} {s s' : Bool} {v : Value} {ms : List MsgC} (h : GotM br A n cap l W a s v ms w) (hbr : br < W.heap.size) (h1 : TakeIn br A n cap l W a' s' w') (ha : Apart (RF br) w w') : GotM br A n cap l W a' s' v ms w' := by
  refine ⟨h1, own_apart h.own ha (fun k hk e => ?_), fun x hx => ?_⟩
  · have := (h.own.lt k hk).1
    have e : k = br := e
    omega
  · obtain ⟨h2, h3⟩ := h.ok x hx
    refine ⟨⟨h2.len, h2.cap_, h2.most, (h2.bytes.apart0 ha (Nat.le_refl _) (fun hn k hk e => ?_)).more ha.size, h2.ports⟩, h3⟩
    have := (h3 hn k hk).1
    have e : k = br := e
    omega

/-- Behind an append of one message. -/
theorem GotM.more {br n cap : Nat} {A : Option Addr} {l : List UInt8} {W w w' : World} {a : Nat} {s : Bool} {v v' : Value} {ms : List MsgC} {y : MsgC} {o : Obj} (h : GotM br A n cap l W a s v ms w) (hA : ∀ k, blockOf A = some k → k < W.heap.size) (hbr : br < W.heap.size)
    (hy : MsgOk w y) (hyc : 0 < y.data.length → ∀ k, blockOf y.A = some k → W.heap.size ≤ k ∧ v.ownBlock ≠ some k)
    (ho : w'.ownsRow W.heap.size 57 2 v' (ms.length + 1) (msgVals ms ++ y.vals)) (ha : Apart (fun k => v.ownBlock = some k) (w.alloc o) w') (hb : v'.ownBlock = v.ownBlock ∨ v'.ownBlock = some (w.alloc o).heap.size) :
    GotM br A n cap l W a s v' (ms ++ [y]) w' := by
  have ha0 : Apart (fun k => v.ownBlock = some k) w w' := ((Apart.refl _ w).alloc o).trans ha (fun _ e => .inl e)
  have hlt : ∀ k, v.ownBlock = some k → W.heap.size ≤ k := fun k hk => (h.own.lt k hk).1
  have key : ∀ x, MsgOk w x → (0 < x.data.length → ∀ k, blockOf x.A = some k → W.heap.size ≤ k ∧ v.ownBlock ≠ some k) → MsgOk w' x ∧ (0 < x.data.length → ∀ k, blockOf x.A = some k → W.heap.size ≤ k ∧ v'.ownBlock ≠ some k) := fun x h2 h3 => by
    refine ⟨⟨h2.len, h2.cap_, h2.most, (h2.bytes.apart0 ha0 (Nat.le_refl _) (fun hn k hk e => (h3 hn k hk).2 e)).more ha0.size, h2.ports⟩, fun hn k hk => ⟨(h3 hn k hk).1, fun e => ?_⟩⟩
    rcases hb with e1 | e1
    · rw [e1] at e
      exact (h3 hn k hk).2 e
    · rw [e1] at e
      have e2 := Option.some.inj e
      obtain ⟨b, off, e3, hbl, _⟩ := h2.bytes hn
      rw [e3] at hk
      have e4 : b = k := Option.some.inj hk
      simp at e2
      omega
  refine ⟨⟨h.take.1.apart ha0 (fun e => by have := hlt br e; omega) (fun k hk e => by have := hA k hk; have := hlt k e; omega), h.take.2.trans ha0 (fun k e => .inr (hlt k e))⟩, ?_, fun x hx => ?_⟩
  · rw [List.length_append, List.length_singleton, msgVals_append]
    have e : msgVals [y] = y.vals := by simp [msgVals]
    rw [e]
    exact ho
  · rcases List.mem_append.1 hx with hx | hx
    · exact key x (h.ok x hx).1 (h.ok x hx).2
    · rw [List.mem_singleton.1 hx]
      exact key y hy hyc

/-- The loop: how far it has come, and what is left to be read. -/
def GotMRel (br : Nat) (A : Option Addr) (n cap : Nat) (l : List UInt8) (N : Nat) (D : List FrameP.Msg × Nat × Bool) (W : World) (v i : Value) (w : World) : Prop :=
  ∃ k ms a s, k ≤ N ∧ i = .int .u32 (k : Nat) ∧ GotM br A n cap l W a s v ms w ∧ ms.length = k ∧ (FrameP.msgsD l (N - k) a s).2 = D.2 ∧ (D.2.2 = false → ms.map MsgC.plain ++ (FrameP.msgsD l (N - k) a s).1 = D.1)

/-- What takeMessages answers. -/
def GotMPost (br : Nat) (A : Option Addr) (n cap : Nat) (l : List UInt8) (N : Nat) (D : List FrameP.Msg × Nat × Bool) (w : World) (e : Ending) (w' : World) : Prop :=
  ∃ v ms, e = .returned v ∧ GotM br A n cap l w D.2.1 D.2.2 v ms w' ∧ ms.length = N ∧ (D.2.2 = false → ms.map MsgC.plain = D.1)

theorem msgsD_step {l : List UInt8} {j a : Nat} {s : Bool} {p : WireP.Took} {d : WireP.Told} {ms : List FrameP.Msg} {D : List FrameP.Msg × Nat × Bool} (hp : WireP.take l a s 1 = p) (hd : WireP.tell l p.at_ p.short = d)
    (h2 : (FrameP.msgsD l (j + 1) a s).2 = D.2) (h3 : D.2.2 = false → ms ++ (FrameP.msgsD l (j + 1) a s).1 = D.1) : (FrameP.msgsD l j d.at_ d.short).2 = D.2 ∧ (D.2.2 = false → (ms ++ [⟨p.n, d.l⟩]) ++ (FrameP.msgsD l j d.at_ d.short).1 = D.1) := by
  cases s with
  | false =>
    simp only [FrameP.msgsD, Bool.false_eq_true, if_false, hp, hd] at h2 h3
    exact ⟨h2, fun h => by rw [← h3 h]; simp⟩
  | true =>
    simp only [FrameP.msgsD, if_true] at h2
    have e1 : p = ⟨0, a, true⟩ := by rw [← hp]; unfold WireP.take; rw [if_pos (.inr (.inr rfl))]
    have e2 : d = ⟨[], a, true⟩ := by rw [← hd, e1]; unfold WireP.tell; rw [if_pos (.inl rfl)]
    have e3 : (FrameP.msgsD l j d.at_ d.short).2 = D.2 := by
      rw [e2, ← h2]
      cases j <;> simp [FrameP.msgsD]
    refine ⟨e3, fun h => ?_⟩
    rw [← h2] at h
    cases h

set_option maxHeartbeats 1000000 in
theorem takeMessages_any (br : Nat) (A : Option Addr) (n cap : Nat) (l : List UInt8) (a : Nat) (s : Bool) (w : World) (h : ReaderAt w br A n cap l a s) (hA : ∀ k, blockOf A = some k → k < w.heap.size) (x : WireP.Took) (hx : WireP.take l a s 1 = x) :
    Calls Try.prog 44 #[.pointer (some ⟨br, 0, none⟩)] w (GotMPost br A n cap l x.n (FrameP.msgsD l x.n x.at_ x.short) w) := by
  have H := Lib.hid h
  have HA := Lib.hid hA
  have hlx := take_lt1 l a s
  rw [hx] at hlx
  have hbr := h.lt
  have HI := Lib.hid (TakeIn.start h)
  have Hx := Lib.hid hx
  clear h hA hx
  generalize hD : FrameP.msgsD l x.n x.at_ x.short = D
  have HD := Lib.hid hD
  clear hD
  go_enter Try.func44, Try.ntmps44
  go_wp2_with fail
  refine (HI.out.take 1).mono ?_
  rw [Hx.out]
  rintro e w1 ⟨rfl, h1⟩
  have h0 : Hid (GotMRel br A n cap l x.n D w (.slice none 0 0) (.int .u32 0) w1) := Lib.hid ⟨0, [], x.at_, x.short, Nat.zero_le _, rfl, ⟨h1, World.ownsRow_nil _ _ _ _, fun y hy => by cases hy⟩, rfl, by rw [Nat.sub_zero, HD.out], fun _ => by rw [Nat.sub_zero, HD.out]; rfl⟩
  clear h1 HI
  go_wp2_with fail
  go_loopw [3, 6] (GotMRel br A n cap l x.n D w) (fun _ i _ => (x.n + 1 - intOf i).toNat)
  case atStart => exact h0.out
  case round =>
    clear h0
    obtain ⟨k, ms, a2, s2, hk, rfl, hg, hml, h2, h3⟩ := hrel
    have HG := Lib.hid hg
    have Hml := Lib.hid hml
    have H2 := Lib.hid h2
    have H3 := Lib.hid h3
    clear hg hml h2 h3
    by_cases hlt : k < x.n
    · obtain ⟨p, hp⟩ : ∃ p, WireP.take l a2 s2 1 = p := ⟨_, rfl⟩
      obtain ⟨d, hd⟩ : ∃ d, WireP.tell l p.at_ p.short = d := ⟨_, rfl⟩
      have Hp := Lib.hid hp
      have Hd := Lib.hid hd
      have hlp := take_lt1 l a2 s2
      rw [hp] at hlp
      have hst := msgsD_step (D := D) (ms := ms.map MsgC.plain) (j := x.n - (k + 1)) hp hd (by rw [show x.n - (k + 1) + 1 = x.n - k by omega]; exact H2.out) (by rw [show x.n - (k + 1) + 1 = x.n - k by omega]; exact H3.out)
      have Hst := Lib.hid hst
      have hdl := tell_len l p.at_ p.short
      rw [hd] at hdl
      clear hp hd hst
      go_wp2_with fail
      refine ((take_any br A n cap l a2 s2 1 wr HG.out.take.1)).mono ?_
      rw [Hp.out]
      rintro e w2 ⟨rfl, h4, h5⟩
      have HG2 := Lib.hid (HG.out.take1 hbr ⟨h4, HG.out.take.2.trans h5 (fun _ e => .inl e)⟩ h5)
      clear h4 h5
      go_wp2_with fail
      refine (tell_any br A n cap l p.at_ p.short w2 HG2.out.take.1).mono ?_
      rw [Hd.out]
      rintro e w3 ⟨v3, g3, rfl, hr3, h6, h7⟩
      have HG3 := Lib.hid (HG2.out.take1 hbr ⟨h6, HG2.out.take.2.trans h7 (fun _ e => .inl e)⟩ h7)
      obtain ⟨A3, c3, rfl, hle3, hbk3, hby3⟩ := hr3.bytes
      have hws := HG2.out.take.2.size
      have HY : Hid (MsgOk w3 ⟨(p.n : Int), A3, d.l.length, c3, d.l⟩) := Lib.hid ⟨rfl, hle3, by simp only; omega, hby3, by simp only; omega⟩
      have HYc : Hid (0 < d.l.length → ∀ k, blockOf A3 = some k → w.heap.size ≤ k ∧ u3.ownBlock ≠ some k) := Lib.hid fun _ k hk => by
        rw [hbk3] at hk
        have h8 := (hr3.lt k hk).1
        refine ⟨by omega, fun e => ?_⟩
        have h9 := (HG2.out.own.lt k e).2
        omega
      have Hl3 := Lib.hid HG3.out.own
      have Hsz := Lib.hid HG3.out.take.2.size
      clear hr3 h6 h7 hle3 hbk3 hby3
      go_wp2_with (at_builtin
                   refine wpList_append_s rfl (.tmp 8) (.tmp 15) _ rfl w.heap.size 57 _ 2 32 Try.underlying25 infoM rfl (by omega) _ ms.length (msgVals ms) rfl (Hl3.out.alloc _) (some ⟨w3.heap.size, 0, none⟩) 1 1 (MsgC.vals ⟨(p.n : Int), A3, d.l.length, c3, d.l⟩) rfl rfl ?n1 ?n2 (by unfold maxLen; rw [Hml.out]; omega) (by rw [Hml.out]; omega) (by have := Hsz.out; simp; omega) ?_
                   case n1 =>
                     intro _
                     refine ⟨_, rfl, fun j u hj => ?_⟩
                     rw [addr_add0, Nat.zero_add]
                     have hlt : j < 2 := (List.getElem?_eq_some_iff.1 hj).1
                     have hc : j = 0 ∨ j = 1 := by omega
                     rcases hc with rfl | rfl
                     · exact cell_at (heap_alloc_new w3 _) 0 hj
                     · exact cell_at (heap_alloc_new w3 _) 1 hj
                   case n2 =>
                     intro u hu
                     simp only [MsgC.vals, List.mem_cons, List.not_mem_nil, or_false] at hu
                     rcases hu with rfl | rfl <;> rfl
                   intro v5 w5 ho5 ha5 hb5
                   have HN := Lib.hid (HG3.out.more HA.out hbr HY.out HYc.out ho5 ha5 hb5)
                   obtain ⟨A5, c5, rfl, -⟩ := own_slice ho5
                   clear ho5 ha5 hb5)
      go_roundw
      case rel =>
        refine ⟨k + 1, _, _, _, by omega, by go_num, HN.out, by rw [List.length_append, Hml.out]; rfl, Hst.out.1, fun h => ?_⟩
        have := Hst.out.2 h
        rw [List.map_append]
        exact this
      case measure => simp [intOf]; omega
    · have hkn : x.n = k := by omega
      have HF : Hid (GotMPost br A n cap l x.n D w (.returned u3) wr) := Lib.hid (by
        have h2 := H2.out
        have h3 := H3.out
        have hg := HG.out
        rw [← hkn, Nat.sub_self] at h2 h3
        have e2 : a2 = D.2.1 ∧ s2 = D.2.2 := by rw [← h2]; exact ⟨rfl, rfl⟩
        obtain ⟨rfl, rfl⟩ := e2
        exact ⟨u3, ms, rfl, hg, by rw [Hml.out, hkn], fun h => by have := h3 h; simpa [FrameP.msgsD] using this⟩)
      go_wp2_with fail
      go_ret
      exact HF.out

/-- Records that were read, in a row of the call's own. -/
structure GotR (br : Nat) (A : Option Addr) (n cap : Nat) (l : List UInt8) (W : World) (a : Nat) (s : Bool) (v : Value) (rs : List FrameP.Rec) (w : World) : Prop where
  take : TakeIn br A n cap l W a s w
  own : w.ownsRow W.heap.size 74 5 v rs.length (recsVals rs)
  fits : ∀ y ∈ rs, FrameP.RecFits y
theorem GotR.take1 {br n cap : Nat} {A : Option Addr} {l : List UInt8} {W w w' : World} {a a' : Nat} {s s' : Bool} {v : Value} {rs : List FrameP.Rec} (h : GotR br A n cap l W a s v rs w) (hbr : br < W.heap.size) (h1 : ReaderAt w' br A n cap l a' s') (ha : Apart (RF br) w w') : GotR br A n cap l W a' s' v rs w' :=
  ⟨⟨h1, h.take.2.trans ha (fun _ e => .inl e)⟩, own_apart h.own ha (fun k hk e => by
    have := (h.own.lt k hk).1
    have e : k = br := e
    omega), h.fits⟩
theorem GotR.more {br n cap : Nat} {A : Option Addr} {l : List UInt8} {W w w' : World} {a : Nat} {s : Bool} {v v' : Value} {rs : List FrameP.Rec} {y : FrameP.Rec} {o : Obj} (h : GotR br A n cap l W a s v rs w) (hA : ∀ k, blockOf A = some k → k < W.heap.size) (hbr : br < W.heap.size) (hy : FrameP.RecFits y)
    (ho : w'.ownsRow W.heap.size 74 5 v' (rs.length + 1) (recsVals rs ++ recVals y)) (ha : Apart (fun k => v.ownBlock = some k) (w.alloc o) w') :
    GotR br A n cap l W a s v' (rs ++ [y]) w' := by
  have ha0 : Apart (fun k => v.ownBlock = some k) w w' := ((Apart.refl _ w).alloc o).trans ha (fun _ e => .inl e)
  have hlt : ∀ k, v.ownBlock = some k → W.heap.size ≤ k := fun k hk => (h.own.lt k hk).1
  refine ⟨⟨h.take.1.apart ha0 (fun e => by have := hlt br e; omega) (fun k hk e => by have := hA k hk; have := hlt k e; omega), h.take.2.trans ha0 (fun k e => .inr (hlt k e))⟩, ?_, fun z hz => ?_⟩
  · rw [List.length_append, List.length_singleton, recsVals_append]
    have e : recsVals [y] = recVals y := by simp [recsVals]
    rw [e]
    exact ho
  · rcases List.mem_append.1 hz with hz | hz
    · exact h.fits z hz
    · rw [List.mem_singleton.1 hz]; exact hy

def GotRRel (br : Nat) (A : Option Addr) (n cap : Nat) (l : List UInt8) (N : Nat) (D : List FrameP.Rec × Nat × Bool) (W : World) (v i : Value) (w : World) : Prop :=
  ∃ k rs a s, k ≤ N ∧ i = .int .u32 (k : Nat) ∧ GotR br A n cap l W a s v rs w ∧ rs.length = k ∧ (FrameP.recsD l (N - k) a s).2 = D.2 ∧ (D.2.2 = false → rs ++ (FrameP.recsD l (N - k) a s).1 = D.1)
/-- What takeRecords answers. -/
def GotRPost (br : Nat) (A : Option Addr) (n cap : Nat) (l : List UInt8) (N : Nat) (D : List FrameP.Rec × Nat × Bool) (w : World) (e : Ending) (w' : World) : Prop :=
  ∃ v rs, e = .returned v ∧ GotR br A n cap l w D.2.1 D.2.2 v rs w' ∧ rs.length = N ∧ (D.2.2 = false → rs = D.1)

theorem take_true' (l : List UInt8) (a : Nat) (k : Int) : WireP.take l a true k = ⟨0, a, true⟩ := by
  unfold WireP.take
  rw [if_pos (.inr (.inr rfl))]
theorem recsD_step {l : List UInt8} {j a : Nat} {s : Bool} {x0 x1 x2 x3 x4 : WireP.Took} {rs : List FrameP.Rec} {D : List FrameP.Rec × Nat × Bool} (h0 : WireP.take l a s 4 = x0) (h1 : WireP.take l x0.at_ x0.short 1 = x1) (h2 : WireP.take l x1.at_ x1.short 1 = x2) (h3 : WireP.take l x2.at_ x2.short 1 = x3) (h4 : WireP.take l x3.at_ x3.short 1 = x4)
    (g2 : (FrameP.recsD l (j + 1) a s).2 = D.2) (g3 : D.2.2 = false → rs ++ (FrameP.recsD l (j + 1) a s).1 = D.1) : (FrameP.recsD l j x4.at_ x4.short).2 = D.2 ∧ (D.2.2 = false → (rs ++ [⟨x0.n, x1.n, x2.n, x3.n, x4.n⟩]) ++ (FrameP.recsD l j x4.at_ x4.short).1 = D.1) := by
  cases s with
  | false =>
    simp only [FrameP.recsD, Bool.false_eq_true, if_false, h0, h1, h2, h3, h4] at g2 g3
    exact ⟨g2, fun h => by rw [← g3 h]; simp⟩
  | true =>
    simp only [FrameP.recsD, if_true] at g2
    rw [take_true'] at h0
    subst h0
    rw [take_true'] at h1
    subst h1
    rw [take_true'] at h2
    subst h2
    rw [take_true'] at h3
    subst h3
    rw [take_true'] at h4
    subst h4
    have e3 : (FrameP.recsD l j a true).2 = D.2 := by
      rw [← g2]
      cases j <;> simp [FrameP.recsD]
    refine ⟨e3, fun h => ?_⟩
    rw [← g2] at h
    cases h

set_option maxHeartbeats 1000000 in
theorem takeRecords_any (br : Nat) (A : Option Addr) (n cap : Nat) (l : List UInt8) (a : Nat) (s : Bool) (w : World) (h : ReaderAt w br A n cap l a s) (hA : ∀ k, blockOf A = some k → k < w.heap.size) (x : WireP.Took) (hx : WireP.take l a s 1 = x) :
    Calls Try.prog 46 #[.pointer (some ⟨br, 0, none⟩)] w (GotRPost br A n cap l x.n (FrameP.recsD l x.n x.at_ x.short) w) := by
  have H := Lib.hid h
  have HA := Lib.hid hA
  have hlx := take_lt1 l a s
  rw [hx] at hlx
  have hbr := h.lt
  have HI := Lib.hid (TakeIn.start h)
  have Hx := Lib.hid hx
  clear h hA hx
  generalize hD : FrameP.recsD l x.n x.at_ x.short = D
  have HD := Lib.hid hD
  clear hD
  go_enter Try.func46, Try.ntmps46
  go_wp2_with fail
  refine (HI.out.take 1).mono ?_
  rw [Hx.out]
  rintro e w1 ⟨rfl, h1⟩
  have h0 : Hid (GotRRel br A n cap l x.n D w (.slice none 0 0) (.int .u32 0) w1) := Lib.hid ⟨0, [], x.at_, x.short, Nat.zero_le _, rfl, ⟨h1, World.ownsRow_nil _ _ _ _, fun y hy => by cases hy⟩, rfl, by rw [Nat.sub_zero, HD.out], fun _ => by rw [Nat.sub_zero, HD.out]; rfl⟩
  clear h1 HI
  go_wp2_with fail
  go_loopw [3, 6] (GotRRel br A n cap l x.n D w) (fun _ i _ => (x.n + 1 - intOf i).toNat)
  case atStart => exact h0.out
  case round =>
    clear h0
    obtain ⟨k, rs, a2, s2, hk, rfl, hg, hml, h2, h3⟩ := hrel
    have HG := Lib.hid hg
    have Hml := Lib.hid hml
    have H2 := Lib.hid h2
    have H3 := Lib.hid h3
    clear hg hml h2 h3
    by_cases hlt : k < x.n
    · obtain ⟨x0, h0⟩ : ∃ p, WireP.take l a2 s2 4 = p := ⟨_, rfl⟩
      obtain ⟨x1, h1⟩ : ∃ p, WireP.take l x0.at_ x0.short 1 = p := ⟨_, rfl⟩
      obtain ⟨x2, h2⟩ : ∃ p, WireP.take l x1.at_ x1.short 1 = p := ⟨_, rfl⟩
      obtain ⟨x3, h3⟩ : ∃ p, WireP.take l x2.at_ x2.short 1 = p := ⟨_, rfl⟩
      obtain ⟨x4, h4⟩ : ∃ p, WireP.take l x3.at_ x3.short 1 = p := ⟨_, rfl⟩
      have K0 := Lib.hid h0
      have K1 := Lib.hid h1
      have K2 := Lib.hid h2
      have K3 := Lib.hid h3
      have K4 := Lib.hid h4
      have l0 := take_lt4 l a2 s2
      rw [h0] at l0
      have l1 := take_lt1 l x0.at_ x0.short
      rw [h1] at l1
      have l2 := take_lt1 l x1.at_ x1.short
      rw [h2] at l2
      have l3 := take_lt1 l x2.at_ x2.short
      rw [h3] at l3
      have l4 := take_lt1 l x3.at_ x3.short
      rw [h4] at l4
      have m1 : (x1.n : Int) % 256 = x1.n := by omega
      have m2 : (x2.n : Int) % 256 = x2.n := by omega
      have m3 : (x3.n : Int) % 256 = x3.n := by omega
      have m4 : (x4.n : Int) % 256 = x4.n := by omega
      have Hst := Lib.hid (recsD_step (D := D) (rs := rs) (j := x.n - (k + 1)) h0 h1 h2 h3 h4 (by rw [show x.n - (k + 1) + 1 = x.n - k by omega]; exact H2.out) (by rw [show x.n - (k + 1) + 1 = x.n - k by omega]; exact H3.out))
      clear h0 h1 h2 h3 h4
      go_wp2_with fail
      refine ((take_any br A n cap l a2 s2 4 wr HG.out.take.1)).mono ?_
      rw [K0.out]
      rintro e w2 ⟨rfl, h4, h5⟩
      have G2 := Lib.hid (HG.out.take1 hbr h4 h5)
      clear h4 h5
      go_wp2_with fail
      refine ((take_any br A n cap l _ _ 1 w2 G2.out.take.1)).mono ?_
      rw [K1.out]
      rintro e w3 ⟨rfl, h4, h5⟩
      have G3 := Lib.hid (G2.out.take1 hbr h4 h5)
      clear h4 h5
      go_wp2_with fail
      refine ((take_any br A n cap l _ _ 1 w3 G3.out.take.1)).mono ?_
      rw [K2.out]
      rintro e w4 ⟨rfl, h4, h5⟩
      have G4 := Lib.hid (G3.out.take1 hbr h4 h5)
      clear h4 h5
      go_wp2_with fail
      refine ((take_any br A n cap l _ _ 1 w4 G4.out.take.1)).mono ?_
      rw [K3.out]
      rintro e w5 ⟨rfl, h4, h5⟩
      have G5 := Lib.hid (G4.out.take1 hbr h4 h5)
      clear h4 h5
      go_wp2_with fail
      refine ((take_any br A n cap l _ _ 1 w5 G5.out.take.1)).mono ?_
      rw [K4.out]
      rintro e w6 ⟨rfl, h4, h5⟩
      have G6 := Lib.hid (G5.out.take1 hbr h4 h5)
      have Hl3 := Lib.hid G6.out.own
      have Hsz := Lib.hid G6.out.take.2.size
      clear h4 h5
      go_wp2_with (at_builtin
                   refine wpList_append_s rfl (.tmp 8) (.tmp 24) _ rfl w.heap.size 74 _ 5 8 Try.underlying30 infoR rfl (by omega) _ rs.length (recsVals rs) rfl (Hl3.out.alloc _) (some ⟨w6.heap.size, 0, none⟩) 1 1 (recVals ⟨x0.n, x1.n, x2.n, x3.n, x4.n⟩) rfl rfl ?n1 ?n2 (by unfold maxLen; rw [Hml.out]; omega) (by rw [Hml.out]; omega) (by have := Hsz.out; simp; omega) ?_
                   case n1 =>
                     intro _
                     refine ⟨_, rfl, fun j u hj => ?_⟩
                     rw [addr_add0, Nat.zero_add]
                     have hlt : j < 5 := (List.getElem?_eq_some_iff.1 hj).1
                     have hc : j = 0 ∨ j = 1 ∨ j = 2 ∨ j = 3 ∨ j = 4 := by omega
                     rcases hc with rfl | rfl | rfl | rfl | rfl
                     · exact cell_at (heap_alloc_new w6 _) 0 hj
                     · exact cell_at (heap_alloc_new w6 _) 1 hj
                     · exact cell_at (heap_alloc_new w6 _) 2 hj
                     · exact cell_at (heap_alloc_new w6 _) 3 hj
                     · exact cell_at (heap_alloc_new w6 _) 4 hj
                   case n2 =>
                     intro u hu
                     simp only [recVals, List.mem_cons, List.not_mem_nil, or_false] at hu
                     rcases hu with rfl | rfl | rfl | rfl | rfl <;> rfl
                   intro v7 w7 ho7 ha7 hb7
                   have HN := Lib.hid (G6.out.more HA.out hbr ⟨l0, l1, l2, l3, l4⟩ ho7 ha7)
                   obtain ⟨A7, c7, rfl, -⟩ := own_slice ho7
                   clear ho7 ha7 hb7)
      go_roundw
      case rel => exact ⟨k + 1, _, _, _, by omega, by go_num, HN.out, by rw [List.length_append, Hml.out]; rfl, Hst.out.1, Hst.out.2⟩
      case measure => simp [intOf]; omega
    · have hkn : x.n = k := by omega
      have HF : Hid (GotRPost br A n cap l x.n D w (.returned u3) wr) := Lib.hid (by
        have h2 := H2.out
        have h3 := H3.out
        have hg := HG.out
        rw [← hkn, Nat.sub_self] at h2 h3
        have e2 : a2 = D.2.1 ∧ s2 = D.2.2 := by rw [← h2]; exact ⟨rfl, rfl⟩
        obtain ⟨rfl, rfl⟩ := e2
        exact ⟨u3, rs, rfl, hg, by rw [Hml.out, hkn], fun h => by have := h3 h; simpa [FrameP.recsD] using this⟩)
      go_wp2_with fail
      go_ret
      exact HF.out
end Go.Proofs.Ytmhpdmpihmahdaa
