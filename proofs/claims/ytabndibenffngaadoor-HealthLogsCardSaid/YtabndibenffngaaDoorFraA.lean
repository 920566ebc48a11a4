/- Frames in memory: messages, records, a frame as a value (FrameIn). Over whatever program. No conditions. -/
import Derived.Test.YtabndibenffngaaDoorPlA
import Derived.Test.YtabndibenffngaaDoorMem
namespace Go.Proofs.YtabndibenffngaaDoor
open Go.RowKit

/-- A message as it stands in memory. -/
structure MsgC where
  port : Int
  A : Option Addr
  m : Nat
  cap : Nat
  data : List UInt8
def MsgC.plain (x : MsgC) : FrameP.Msg := ⟨x.port, x.data⟩
def MsgC.vals (x : MsgC) : List Value := [.int .i64 x.port, .slice x.A x.m x.cap]

/-- What is known of a message, wherever its two cells lie. -/
structure MsgOk (W : World) (x : MsgC) : Prop where
  len : x.data.length = x.m
  cap_ : x.m ≤ x.cap
  most : x.m ≤ 140737488355328
  bytes : Bytes W W.heap.size x.A x.data
  ports : -9223372036854775808 ≤ x.port ∧ x.port ≤ 9223372036854775807
theorem MsgOk.below {W W' : World} {x : MsgC} (h : MsgOk W x) (hw : Below W.heap.size W W') : MsgOk W' x :=
  ⟨h.len, h.cap_, h.most, (h.bytes.below hw (Nat.le_refl _)).more hw.size, h.ports⟩

structure MsgAt (W : World) (b o : Nat) (x : MsgC) : Prop where
  port : W.cell? ⟨b, o, none⟩ = some (.int .i64 x.port)
  text : W.cell? ⟨b, o + 1, none⟩ = some (.slice x.A x.m x.cap)
  ok : MsgOk W x
theorem MsgAt.below {W W' : World} {b o : Nat} {x : MsgC} (h : MsgAt W b o x) (hb : b < W.heap.size) (hw : Below W.heap.size W W') : MsgAt W' b o x :=
  ⟨(hw.cell (by exact hb)).trans h.port, (hw.cell (by exact hb)).trans h.text, h.ok.below hw⟩

/-- Messages in memory. -/
def MsgsIn (W : World) (A : Option Addr) (l : List MsgC) : Prop :=
  0 < l.length → ∃ b off, A = some ⟨b, off, none⟩ ∧ b < W.heap.size ∧ ∀ i x, l[i]? = some x → MsgAt W b (off + i * 2) x
theorem MsgsIn.below {W W' : World} {A : Option Addr} {l : List MsgC} (h : MsgsIn W A l) (hw : Below W.heap.size W W') : MsgsIn W' A l := fun hl => by
  obtain ⟨b, off, e, hb, hi⟩ := h hl
  exact ⟨b, off, e, Nat.lt_of_lt_of_le hb hw.size, fun i x hx => (hi i x hx).below hb hw⟩

/-- A record's cells. -/
structure RecAt (W : World) (b o : Nat) (x : FrameP.Rec) : Prop where
  round : W.cell? ⟨b, o, none⟩ = some (.int .u32 (x.round : Nat))
  node : W.cell? ⟨b, o + 1, none⟩ = some (.int .u8 (x.node : Nat))
  part : W.cell? ⟨b, o + 2, none⟩ = some (.int .u8 (x.part : Nat))
  kind : W.cell? ⟨b, o + 3, none⟩ = some (.int .u8 (x.kind : Nat))
  did : W.cell? ⟨b, o + 4, none⟩ = some (.int .u8 (x.did : Nat))
theorem RecAt.below {W W' : World} {b o : Nat} {x : FrameP.Rec} (h : RecAt W b o x) (hb : b < W.heap.size) (hw : Below W.heap.size W W') : RecAt W' b o x :=
  ⟨(hw.cell (by exact hb)).trans h.round, (hw.cell (by exact hb)).trans h.node, (hw.cell (by exact hb)).trans h.part, (hw.cell (by exact hb)).trans h.kind, (hw.cell (by exact hb)).trans h.did⟩
def recVals (x : FrameP.Rec) : List Value := [.int .u32 (x.round : Nat), .int .u8 (x.node : Nat), .int .u8 (x.part : Nat), .int .u8 (x.kind : Nat), .int .u8 (x.did : Nat)]

/-- Records in memory. -/
def RecsIn (W : World) (A : Option Addr) (l : List FrameP.Rec) : Prop :=
  0 < l.length → ∃ b off, A = some ⟨b, off, none⟩ ∧ b < W.heap.size ∧ ∀ i x, l[i]? = some x → RecAt W b (off + i * 5) x
theorem RecsIn.below {W W' : World} {A : Option Addr} {l : List FrameP.Rec} (h : RecsIn W A l) (hw : Below W.heap.size W W') : RecsIn W' A l := fun hl => by
  obtain ⟨b, off, e, hb, hi⟩ := h hl
  exact ⟨b, off, e, Nat.lt_of_lt_of_le hb hw.size, fun i x hx => (hi i x hx).below hb hw⟩

/-- A frame as a value. -/
structure FrameC where
  sender : Nat
  round : Nat
  members : Nat
  MA : Option Addr
  mn : Nat
  mcap : Nat
  msgs : List MsgC
  kind : Nat
  key : Nat
  val : Nat
  old : Nat
  RA : Option Addr
  rn : Nat
  rcap : Nat
  recs : List FrameP.Rec
def FrameC.value (x : FrameC) : Value := .agg #[.int .u8 (x.sender : Nat), .int .u32 (x.round : Nat), .int .u8 (x.members : Nat), .slice x.MA x.mn x.mcap, .int .u8 (x.kind : Nat), .int .u8 (x.key : Nat), .int .u16 (x.val : Nat), .int .u16 (x.old : Nat), .slice x.RA x.rn x.rcap]
def FrameC.plain (x : FrameC) : FrameP.Fr := ⟨x.sender, x.round, x.members, x.msgs.map MsgC.plain, x.kind, x.key, x.val, x.old, x.recs⟩

structure FrameIn (W : World) (x : FrameC) : Prop where
  msgs : MsgsIn W x.MA x.msgs
  mlen : x.msgs.length = x.mn
  mcap_ : x.mn ≤ x.mcap
  mmost : x.mn ≤ 4398046511104
  recs : RecsIn W x.RA x.recs
  rlen : x.recs.length = x.rn
  rcap_ : x.rn ≤ x.rcap
  rmost : x.rn ≤ 17592186044416
  typed : FrameP.Typed x.plain
theorem FrameIn.below {W W' : World} {x : FrameC} (h : FrameIn W x) (hw : Below W.heap.size W W') : FrameIn W' x :=
  ⟨h.msgs.below hw, h.mlen, h.mcap_, h.mmost, h.recs.below hw, h.rlen, h.rcap_, h.rmost, h.typed⟩

/-- All that a frame refers to lies from block B on. -/
structure FrameHi (B : Nat) (x : FrameC) : Prop where
  msgs : 0 < x.msgs.length → ∀ k, blockOf x.MA = some k → B ≤ k
  data : ∀ y ∈ x.msgs, 0 < y.data.length → ∀ k, blockOf y.A = some k → B ≤ k
  recs : 0 < x.recs.length → ∀ k, blockOf x.RA = some k → B ≤ k
theorem FrameIn.apart {W W' : World} {x : FrameC} {B : Nat} {F : Nat → Prop} (h : FrameIn W x) (hi : FrameHi B x) (ha : Apart F W W') (hF : ∀ k, F k → k < B) : FrameIn W' x := by
  refine ⟨fun hl => ?_, h.mlen, h.mcap_, h.mmost, fun hl => ?_, h.rlen, h.rcap_, h.rmost, h.typed⟩
  · obtain ⟨b, off, e, hb, hm⟩ := h.msgs hl
    have hn : ¬ F b := fun e2 => by have h1 := hF b e2; have h2 := hi.msgs hl b (by rw [e]; rfl); omega
    refine ⟨b, off, e, Nat.lt_of_lt_of_le hb ha.size, fun i y hy => ?_⟩
    obtain ⟨h1, h2, h3⟩ := hm i y hy
    refine ⟨(ha.cell (p := ⟨b, _, none⟩) hb hn).trans h1, (ha.cell (p := ⟨b, _, none⟩) hb hn).trans h2, ⟨h3.len, h3.cap_, h3.most, (h3.bytes.apart0 ha (Nat.le_refl _) (fun hd k hk e2 => ?_)).more ha.size, h3.ports⟩⟩
    have h4 := hF k e2
    have h5 := hi.data y (List.mem_of_getElem? hy) hd k hk
    omega
  · obtain ⟨b, off, e, hb, hm⟩ := h.recs hl
    have hn : ¬ F b := fun e2 => by have h1 := hF b e2; have h2 := hi.recs hl b (by rw [e]; rfl); omega
    refine ⟨b, off, e, Nat.lt_of_lt_of_le hb ha.size, fun i y hy => ?_⟩
    obtain ⟨h1, h2, h3, h4, h5⟩ := hm i y hy
    exact ⟨(ha.cell (p := ⟨b, _, none⟩) hb hn).trans h1, (ha.cell (p := ⟨b, _, none⟩) hb hn).trans h2, (ha.cell (p := ⟨b, _, none⟩) hb hn).trans h3, (ha.cell (p := ⟨b, _, none⟩) hb hn).trans h4, (ha.cell (p := ⟨b, _, none⟩) hb hn).trans h5⟩

/-- None of what a frame refers to is one of F. -/
structure FrameOff (F : Nat → Prop) (x : FrameC) : Prop where
  msgs : 0 < x.msgs.length → ∀ k, blockOf x.MA = some k → ¬ F k
  data : ∀ y ∈ x.msgs, 0 < y.data.length → ∀ k, blockOf y.A = some k → ¬ F k
  recs : 0 < x.recs.length → ∀ k, blockOf x.RA = some k → ¬ F k
theorem FrameHi.off {B : Nat} {x : FrameC} {F : Nat → Prop} (h : FrameHi B x) (hF : ∀ k, F k → k < B) : FrameOff F x :=
  ⟨fun hn k hk hf => by have := h.msgs hn k hk; have := hF k hf; omega, fun y hy hn k hk hf => by have := h.data y hy hn k hk; have := hF k hf; omega, fun hn k hk hf => by have := h.recs hn k hk; have := hF k hf; omega⟩
theorem FrameIn.off_new {W : World} {x : FrameC} {F : Nat → Prop} (h : FrameIn W x) (hF : ∀ k, F k → W.heap.size ≤ k) : FrameOff F x := by
  refine ⟨fun hn k hk hf => ?_, fun y hy hn k hk hf => ?_, fun hn k hk hf => ?_⟩
  · obtain ⟨b, off, e, hb, -⟩ := h.msgs hn
    rw [e] at hk; have := hF k hf; obtain rfl : b = k := Option.some.inj hk; omega
  · obtain ⟨b, off, e, hb, hm⟩ := h.msgs (List.length_pos_of_mem hy)
    obtain ⟨i, hi⟩ := List.getElem?_of_mem hy
    obtain ⟨b2, o2, e2, hb2, -⟩ := (hm i y hi).ok.bytes hn
    rw [e2] at hk; have := hF k hf; obtain rfl : b2 = k := Option.some.inj hk; omega
  · obtain ⟨b, off, e, hb, -⟩ := h.recs hn
    rw [e] at hk; have := hF k hf; obtain rfl : b = k := Option.some.inj hk; omega
theorem FrameOff.or {F G : Nat → Prop} {x : FrameC} (h : FrameOff F x) (g : FrameOff G x) : FrameOff (fun k => F k ∨ G k) x :=
  ⟨fun hn k hk hf => hf.elim (h.msgs hn k hk) (g.msgs hn k hk), fun y hy hn k hk hf => hf.elim (h.data y hy hn k hk) (g.data y hy hn k hk), fun hn k hk hf => hf.elim (h.recs hn k hk) (g.recs hn k hk)⟩
theorem FrameOff.mono {F G : Nat → Prop} {x : FrameC} (h : FrameOff F x) (hG : ∀ k, G k → F k) : FrameOff G x :=
  ⟨fun hn k hk hf => h.msgs hn k hk (hG k hf), fun y hy hn k hk hf => h.data y hy hn k hk (hG k hf), fun hn k hk hf => h.recs hn k hk (hG k hf)⟩
theorem FrameIn.offs {W W' : World} {x : FrameC} {F : Nat → Prop} (h : FrameIn W x) (hi : FrameOff F x) (ha : Apart F W W') : FrameIn W' x := by
  refine ⟨fun hl => ?_, h.mlen, h.mcap_, h.mmost, fun hl => ?_, h.rlen, h.rcap_, h.rmost, h.typed⟩
  · obtain ⟨b, off, e, hb, hm⟩ := h.msgs hl
    have hn : ¬ F b := hi.msgs hl b (by rw [e]; rfl)
    refine ⟨b, off, e, Nat.lt_of_lt_of_le hb ha.size, fun i y hy => ?_⟩
    obtain ⟨h1, h2, h3⟩ := hm i y hy
    exact ⟨(ha.cell (p := ⟨b, _, none⟩) hb hn).trans h1, (ha.cell (p := ⟨b, _, none⟩) hb hn).trans h2, ⟨h3.len, h3.cap_, h3.most, (h3.bytes.apart0 ha (Nat.le_refl _) (hi.data y (List.mem_of_getElem? hy))).more ha.size, h3.ports⟩⟩
  · obtain ⟨b, off, e, hb, hm⟩ := h.recs hl
    have hn : ¬ F b := hi.recs hl b (by rw [e]; rfl)
    refine ⟨b, off, e, Nat.lt_of_lt_of_le hb ha.size, fun i y hy => ?_⟩
    obtain ⟨h1, h2, h3, h4, h5⟩ := hm i y hy
    exact ⟨(ha.cell (p := ⟨b, _, none⟩) hb hn).trans h1, (ha.cell (p := ⟨b, _, none⟩) hb hn).trans h2, (ha.cell (p := ⟨b, _, none⟩) hb hn).trans h3, (ha.cell (p := ⟨b, _, none⟩) hb hn).trans h4, (ha.cell (p := ⟨b, _, none⟩) hb hn).trans h5⟩

/-- A value that reads as a frame. -/
def FrameAt (W : World) (v : Value) (f : FrameP.Fr) : Prop := ∃ x : FrameC, v = x.value ∧ FrameIn W x ∧ x.plain = f
theorem FrameAt.below {W W' : World} {v : Value} {f : FrameP.Fr} (h : FrameAt W v f) (hw : Below W.heap.size W W') : FrameAt W' v f := by
  obtain ⟨x, h1, h2, h3⟩ := h
  exact ⟨x, h1, h2.below hw, h3⟩

/-- The frame that is none. -/
def zeroF : FrameP.Fr := ⟨0, 0, 0, [], 0, 0, 0, 0, []⟩
def zeroC : FrameC := ⟨0, 0, 0, none, 0, 0, [], 0, 0, 0, 0, none, 0, 0, []⟩
theorem FrameAt.zero (W : World) : FrameAt W zeroC.value zeroF :=
  ⟨zeroC, rfl, ⟨fun h => absurd h (by simp [zeroC]), rfl, Nat.le_refl _, by simp [zeroC], fun h => absurd h (by simp [zeroC]), rfl, Nat.le_refl _, by simp [zeroC], by constructor <;> simp [zeroC, FrameC.plain]⟩, rfl⟩
end Go.Proofs.YtabndibenffngaaDoor
