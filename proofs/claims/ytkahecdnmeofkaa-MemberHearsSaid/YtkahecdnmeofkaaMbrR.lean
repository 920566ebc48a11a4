/- What the document's gathers, in memory (RefH): its Hear, Right. Conditions: where it lies; where the frame's lists lie. -/
import Derived.Test.YtkahecdnmeofkaaMbrL
namespace Go.Proofs.Ytkahecdnmeofkaa
open Go.RowKit
set_option maxRecDepth 100000

def refCs (mr mm : Nat) (known : Bool) (v : Value) : Array Value := #[.int .u32 (mr : Nat), .int .u8 (mm : Nat), .bool known, v]
/-- The document's, at a block; its frames in a row of the call's own. -/
structure RefH (W : World) (B rb mr mm : Nat) (known : Bool) (v : Value) (got : List FrameC) : Prop where
  at_ : W.heap[rb]? = some (.cells (refCs mr mm known v) 43 (0, 0))
  own : W.ownsRow B 51 9 v got.length (itemsV FrameC.cells got)
section
variable {W W' : World} {B rb mr mm : Nat} {known : Bool} {v : Value} {got : List FrameC}
theorem RefH.below (h : RefH W B rb mr mm known v got) (hb : Below W.heap.size W W') : RefH W' B rb mr mm known v got := ⟨(hb.block _ (lt_of_block h.at_)).trans h.at_, ikeep h.own hb⟩
theorem RefH.apart {F : Nat → Prop} (h : RefH W B rb mr mm known v got) (ha : Apart F W W') (hr : ¬ F rb) (hv : ∀ q, v.ownBlock = some q → ¬ F q) : RefH W' B rb mr mm known v got := ⟨(ha.block _ (lt_of_block h.at_) hr).trans h.at_, own_apart h.own ha hv⟩
theorem RefH.c0 (h : RefH W B rb mr mm known v got) : W.cell? ⟨rb, 0, none⟩ = some (.int .u32 (mr : Nat)) := cell_at h.at_ 0 rfl
theorem RefH.c1 (h : RefH W B rb mr mm known v got) : W.cell? ⟨rb, 1, none⟩ = some (.int .u8 (mm : Nat)) := cell_at h.at_ 1 rfl
theorem RefH.c2 (h : RefH W B rb mr mm known v got) : W.cell? ⟨rb, 2, none⟩ = some (.bool known) := cell_at h.at_ 2 rfl
theorem RefH.c3 (h : RefH W B rb mr mm known v got) : W.cell? ⟨rb, 3, none⟩ = some v := cell_at h.at_ 3 rfl
theorem RefH.size (h : RefH W B rb mr mm known v got) : rb < W.heap.size := lt_of_block h.at_
/-- Where the k-th of the frames lies. -/
theorem RefH.fr {A : Option Addr} {c : Nat} (h : RefH W B rb mr mm known (.slice A got.length c) got) {k : Nat} {x : FrameC} (hx : got[k]? = some x) : ∃ g, A = some ⟨g, 0, none⟩ ∧ g < W.heap.size ∧ ∀ j u, x.cells[j]? = some u → W.cell? ⟨g, k * 9 + j, none⟩ = some u := by
  obtain ⟨A', c', e, -, hi⟩ := ItemsIn.own FrameC.cells_length h.own
  injection e with e1 e2 e3
  subst e1
  obtain ⟨g, o, e4, hg, hc⟩ := hi (by have := (List.getElem?_eq_some_iff.1 hx).1; omega)
  have ho : o = 0 := by
    rcases h.own.2 with ⟨h1, -⟩ | ⟨g', cap', cur, h1, -⟩
    · rw [e4] at h1; cases h1
    · rw [e4] at h1; injection h1 with h2; injection h2 with h2; injection h2
  subst ho
  exact ⟨g, e4, hg, fun j u hu => by have := hc k x hx j u hu; rwa [Nat.zero_add] at this⟩
end
def gst (x : FrameC) : Nat × Nat := (x.round, x.members)
def gstamps (got : List FrameC) : List (Nat × Nat) := got.map gst
section
variable {B rb mr mm : Nat} {known : Bool} {got : List FrameC}
theorem refhear_out (line : Int) (hl : line < 0 ∨ 6 < line) (x : FrameC) (w : World) : Calls Try.prog 22 #[hv rb, .int .i64 line, x.value] w (NoP w) := by
  have HB := Lib.hid (fun o => (Below.refl w.heap.size w).alloc (Nat.le_refl _) o)
  obtain ⟨sender, round, members, MA, mn, mcap, msgs, kind, key, val, old, RA, rn, rcap, recs⟩ := x
  simp only [FrameC.value]
  unfold hv
  by_cases h0 : line < 0
  · have q1 : decide (line < 0) = true := decide_eq_true h0
    clear hl h0
    go_enter Try.func22, Try.ntmps22
    go_wp2_with fail
    go_ret
    exact ⟨rfl, HB.out _⟩
  · have q1 : decide (line < 0) = false := decide_eq_false h0
    have q2 : decide (line > 6) = true := decide_eq_true (by omega)
    clear hl h0
    go_enter Try.func22, Try.ntmps22
    go_wp2_with fail
    go_ret
    exact ⟨rfl, HB.out _⟩
theorem refhear_other (k : Nat) (hk : k < 7) (x : FrameC) (hx : ¬ x.sender = k) (h8 : x.sender < 256) (w : World) : Calls Try.prog 22 #[hv rb, .int .i64 (k : Nat), x.value] w (NoP w) := by
  have HB := Lib.hid (fun o => (Below.refl w.heap.size w).alloc (Nat.le_refl _) o)
  obtain ⟨sender, round, members, MA, mn, mcap, msgs, kind, key, val, old, RA, rn, rcap, recs⟩ := x
  simp only [FrameC.value]
  simp only at hx h8
  unfold hv
  have q1 : decide ((k : Int) < 0) = false := decide_eq_false (by omega)
  have q2 : decide ((k : Int) > 6) = false := decide_eq_false (by omega)
  have e1 : IntKind.i64.wrap (sender : Int) = (sender : Int) := IntWalk.i64_in _ (by omega)
  clear hk
  go_enter Try.func22, Try.ntmps22
  go_wp2_with fail
  go_ret
  exact ⟨rfl, HB.out _⟩
end
def RHeR (got : List FrameC) (k : Nat) (w5 : World) (i : Value) (W : World) : Prop := ∃ j m, j ≤ got.length ∧ i = .int .i64 (j : Nat) ∧ (∀ p x, p < j → got[p]? = some x → x.sender ≠ k) ∧ W = w5.drewN m
/-- The document's head, and a frame in a box. -/
def RfX (rb q : Nat) (cs xs : Array Value) (W : World) : Prop := W.heap[rb]? = some (.cells cs 43 (0, 0)) ∧ W.heap[q]? = some (.cells xs 51 (0, 0))
theorem RfX.below {rb q : Nat} {cs xs : Array Value} {W W' : World} (h : RfX rb q cs xs W) (hb : Below W.heap.size W W') : RfX rb q cs xs W' := ⟨(hb.block _ (lt_of_block h.1)).trans h.1, (hb.block _ (lt_of_block h.2)).trans h.2⟩
def RYesP (B rb mr mm : Nat) (known : Bool) (v : Value) (got : List FrameC) (x : FrameC) (w : World) (e : Ending) (w' : World) : Prop :=
  e = .returned (.bool true) ∧ ∃ v', RefH w' B rb mr mm known v' (got ++ [x]) ∧ Apart (fun q => q = rb ∨ v.ownBlock = some q) w w' ∧ (v'.ownBlock = v.ownBlock ∨ ∃ q, v'.ownBlock = some q ∧ w.heap.size ≤ q)
def RHearP (B rb mr mm : Nat) (known : Bool) (v : Value) (got : List FrameC) (k : Nat) (x : FrameC) (w : World) (e : Ending) (w' : World) : Prop :=
  (got.any (fun y : FrameC => decide (y.sender = k)) = true → NoP w e w') ∧ (got.any (fun y : FrameC => decide (y.sender = k)) = false → RYesP B rb mr mm known v got x w e w')
set_option maxHeartbeats 2000000 in
theorem refhear_in (B rb mr mm : Nat) (known : Bool) (v : Value) (got : List FrameC) (hg : got.length ≤ 7) (k : Nat) (hk : k < 7) (x : FrameC) (hx : x.sender = k) (w : World) (hB : B ≤ w.heap.size) (h : RefH w B rb mr mm known v got) (h8 : ∀ y ∈ got, y.sender < 256) :
    Calls Try.prog 22 #[hv rb, .int .i64 (k : Nat), x.value] w (RHearP B rb mr mm known v got k x w) := by
  obtain ⟨Av, cv, rfl, -⟩ := own_slice h.own
  have HR := Lib.hid h
  have Hg8 := Lib.hid h8
  have hbox := heap_alloc_new w (.cells x.cells.toArray 51)
  have HB5 := Lib.hid ((Below.refl w.heap.size w).alloc (Nat.le_refl _) (.cells x.cells.toArray 51))
  have HH5 := Lib.hid (h.below HB5.out)
  have c3 := h.c3
  have hsz := h.size
  have HFound : Hid (∀ (p : Nat) (y : FrameC) (m : Nat), got[p]? = some y → y.sender = k → RHearP B rb mr mm known (.slice Av got.length cv) got k x w (.returned (.bool false)) ((w.alloc (.cells x.cells.toArray 51)).drewN m)) := Lib.hid fun p y m h1 h2 => by
    have hany : got.any (fun y : FrameC => decide (y.sender = k)) = true := List.any_eq_true.2 ⟨y, List.mem_of_getElem? h1, by simpa using h2⟩
    exact ⟨fun _ => ⟨rfl, below_drewNc HB5.out m⟩, fun e => by rw [hany] at e; cases e⟩
  have HNew : Hid ((∀ (p : Nat) (y : FrameC), p < got.length → got[p]? = some y → y.sender ≠ k) → ∀ (v' : Value) (w8 : World), w8.ownsRow B 51 9 v' (got.length + 1) (itemsV FrameC.cells got ++ x.cells) → Apart (fun q => (Value.slice Av got.length cv).ownBlock = some q) w w8 → (v'.ownBlock = (Value.slice Av got.length cv).ownBlock ∨ ∃ q, v'.ownBlock = some q ∧ w.heap.size ≤ q) →
      RHearP B rb mr mm known (.slice Av got.length cv) got k x w (.returned (.bool true)) (w8.setCell ⟨rb, 3, none⟩ v')) := Lib.hid fun hno v' w8 ho ha hv => by
    have hany : ¬ got.any (fun y : FrameC => decide (y.sender = k)) = true := fun e => by
      obtain ⟨y, hy, e2⟩ := List.any_eq_true.1 e
      obtain ⟨p, hp⟩ := List.getElem?_of_mem hy
      exact hno p y (List.getElem?_eq_some_iff.1 hp).1 hp (by simpa using e2)
    have hrb : ∀ q, (Value.slice Av got.length cv).ownBlock = some q → q ≠ rb := fun q e => own_off h.own h.at_ (by decide) q e
    have hat := (ha.block rb h.size (fun e => hrb rb e rfl)).trans h.at_
    have hrb' : ∀ q, v'.ownBlock = some q → q ≠ rb := fun q e => own_off ho hat (by decide) q e
    refine ⟨fun e => absurd e hany, fun _ => ⟨rfl, v', ⟨by rw [heap_set_at hat]; rfl, ?_⟩, ?_, hv⟩⟩
    · rw [List.length_append, itemsV_append, itemsV_one']
      exact own_apart ho (Apart.setCell (F := fun q => q = rb) (Apart.refl _ w8) (p := ⟨rb, 3, none⟩) (.inl rfl) v') (fun q e => hrb' q e)
    · exact Apart.setCell (F := fun q => q = rb ∨ (Value.slice Av got.length cv).ownBlock = some q) (ha.mono (fun q _ e => .inr e)) (p := ⟨rb, 3, none⟩) (.inl (.inl rfl)) v'
  obtain ⟨sender, round, members, MA, mn, mcap, msgs, kind, key, val, old, RA, rn, rcap, recs⟩ := x
  simp only at hx
  subst hx
  simp only [FrameC.value, FrameC.cells] at hbox HB5 HH5 HFound HNew ⊢
  unfold hv
  have q1 : decide ((sender : Int) < 0) = false := decide_eq_false (by omega)
  have q2 : decide ((sender : Int) > 6) = false := decide_eq_false (by omega)
  have e1 : IntKind.i64.wrap (sender : Int) = (sender : Int) := IntWalk.i64_in _ (by omega)
  clear h h8
  go_enter Try.func22, Try.ntmps22
  go_wp2_with fail
  have hx5 : RfX rb w.heap.size (refCs mr mm known (.slice Av got.length cv)) #[.int .u8 (sender : Nat), .int .u32 (round : Nat), .int .u8 (members : Nat), .slice MA mn mcap, .int .u8 (kind : Nat), .int .u8 (key : Nat), .int .u16 (val : Nat), .int .u16 (old : Nat), .slice RA rn rcap] (w.alloc (.cells #[.int .u8 (sender : Nat), .int .u32 (round : Nat), .int .u8 (members : Nat), .slice MA mn mcap, .int .u8 (kind : Nat), .int .u8 (key : Nat), .int .u16 (val : Nat), .int .u16 (old : Nat), .slice RA rn rcap] 51)) := ⟨HH5.out.at_, hbox⟩
  have hs5 : w.heap.size < (w.alloc (.cells #[.int .u8 (sender : Nat), .int .u32 (round : Nat), .int .u8 (members : Nat), .slice MA mn mcap, .int .u8 (kind : Nat), .int .u8 (key : Nat), .int .u16 (val : Nat), .int .u16 (old : Nat), .slice RA rn rcap] 51)).heap.size := by simp
  have hvb : ∀ q, (Value.slice Av got.length cv).ownBlock = some q → q < w.heap.size := fun q e => (HR.out.own.lt q e).2
  have HAp := Lib.hid (Apart.of_below' (F := fun q => (Value.slice Av got.length cv).ownBlock = some q) HB5.out)
  clear hbox HB5 HR
  generalize w.alloc (.cells #[.int .u8 (sender : Nat), .int .u32 (round : Nat), .int .u8 (members : Nat), .slice MA mn mcap, .int .u8 (kind : Nat), .int .u8 (key : Nat), .int .u16 (val : Nat), .int .u16 (old : Nat), .slice RA rn rcap] 51) = w5 at *
  generalize hq : w.heap.size = qb at *
  clear hq c3
  go_loopw [7] (RHeR got sender w5) (fun i _ => (8 - intOf i).toNat)
  case atStart => exact ⟨0, 0, Nat.zero_le _, rfl, fun p x hp => by omega, rfl⟩
  case round =>
    obtain ⟨j, m, hj, rfl, hno, rfl⟩ := hrel
    have c3 := HH5.out.c3
    have hrb5 := HH5.out.size
    by_cases hjN : j < got.length
    case pos =>
      obtain ⟨y, hy⟩ : ∃ y, got[j]? = some y := ⟨_, List.getElem?_eq_getElem hjN⟩
      obtain ⟨g, rfl, -, hfc⟩ := HH5.out.fr hy
      have f0 : w5.cell? ⟨g, j * 9, none⟩ = some (.int .u8 (y.sender : Nat)) := hfc 0 _ rfl
      have b0 : w5.cell? ⟨qb, 0, none⟩ = some (.int .u8 (sender : Nat)) := cell_at hx5.2 0 rfl
      have HFd := Lib.hid (fun m' => HFound.out j y m' hy)
      have HSt : Hid (y.sender ≠ sender → ∀ m' : Nat, RHeR got sender w5 (.int .i64 ((j : Int) + 1)) (w5.drewN m')) := Lib.hid (fun (hne : y.sender ≠ sender) (m' : Nat) => (⟨j + 1, m', hjN, by go_num, fun p x hp hx => by
        by_cases hpj : p = j
        · subst hpj; rw [hy] at hx; obtain rfl := Option.some.inj hx; exact hne
        · exact hno p x (by omega) hx, rfl⟩ : RHeR got sender w5 (.int .i64 ((j : Int) + 1)) (w5.drewN m')))
      have q3 : decide ((j : Int) < (got.length : Int)) = true := decide_eq_true (by omega)
      have hjz : (j : Int) < (got.length : Int) := by omega
      have e2 : IntKind.i64.wrap ((j : Int) + 1) = (j : Int) + 1 := IntWalk.i64_in _ (by omega)
      clear hfc HFound HNew HH5 hx5 hno hvb Hg8 hy
      generalize y.sender = ys at *
      generalize got.length = L at *
      by_cases hys : ys = sender
      case pos =>
        subst hys
        have HFd2 := Lib.hid (fun m' => HFd.out m' rfl)
        clear HFd HSt
        go_wp2_with fail
        go_quiet (fail)
        go_wp2_with fail
        go_ret
        rw [World.drewN_drewN]
        exact HFd2.out _
      have HSt2 := Lib.hid (HSt.out hys)
      have q4 : ((ys : Int) == (sender : Int)) = false := by rw [beq_eq_false_iff_ne]; omega
      clear HFd HSt
      go_wp2_with fail
      go_quiet (fail)
      go_wp2_with fail
      go_roundw
      case rel => exact HSt2.out _
      case measure => simp [intOf]; omega
    obtain rfl : j = got.length := by omega
    have HE := Lib.hid (HNew.out (fun p y hp hy => hno p y hp hy))
    have q3 : decide ((got.length : Int) < (got.length : Int)) = false := decide_eq_false (by omega)
    have Hown := Lib.hid HH5.out.own
    have hd0 : RfX rb qb (refCs mr mm known (.slice Av got.length cv)) #[.int .u8 (sender : Nat), .int .u32 (round : Nat), .int .u8 (members : Nat), .slice MA mn mcap, .int .u8 (kind : Nat), .int .u8 (key : Nat), .int .u16 (val : Nat), .int .u16 (old : Nat), .slice RA rn rcap] (w5.drewN m).drew := hx5
    have kd : ∀ W, RfX rb qb (refCs mr mm known (.slice Av got.length cv)) #[.int .u8 (sender : Nat), .int .u32 (round : Nat), .int .u8 (members : Nat), .slice MA mn mcap, .int .u8 (kind : Nat), .int .u8 (key : Nat), .int .u16 (val : Nat), .int .u16 (old : Nat), .slice RA rn rcap] W → W.cell? ⟨rb, 3, none⟩ = some (.slice Av got.length cv) := fun W hW => cell_at hW.1 3 rfl
    have fr : ∀ W, RfX rb qb (refCs mr mm known (.slice Av got.length cv)) #[.int .u8 (sender : Nat), .int .u32 (round : Nat), .int .u8 (members : Nat), .slice MA mn mcap, .int .u8 (kind : Nat), .int .u8 (key : Nat), .int .u16 (val : Nat), .int .u16 (old : Nat), .slice RA rn rcap] W → W.frozen? ⟨rb, 3, none⟩ = false := fun W hW => free_at hW.1 3
    have r0 : ∀ W, RfX rb qb (refCs mr mm known (.slice Av got.length cv)) #[.int .u8 (sender : Nat), .int .u32 (round : Nat), .int .u8 (members : Nat), .slice MA mn mcap, .int .u8 (kind : Nat), .int .u8 (key : Nat), .int .u16 (val : Nat), .int .u16 (old : Nat), .slice RA rn rcap] W → W.cell? ⟨qb, 0, none⟩ = some (.int .u8 (sender : Nat)) := fun W hW => cell_at hW.2 0 rfl
    have r1 : ∀ W, RfX rb qb (refCs mr mm known (.slice Av got.length cv)) #[.int .u8 (sender : Nat), .int .u32 (round : Nat), .int .u8 (members : Nat), .slice MA mn mcap, .int .u8 (kind : Nat), .int .u8 (key : Nat), .int .u16 (val : Nat), .int .u16 (old : Nat), .slice RA rn rcap] W → W.cell? ⟨qb, 1, none⟩ = some (.int .u32 (round : Nat)) := fun W hW => cell_at hW.2 1 rfl
    have r2 : ∀ W, RfX rb qb (refCs mr mm known (.slice Av got.length cv)) #[.int .u8 (sender : Nat), .int .u32 (round : Nat), .int .u8 (members : Nat), .slice MA mn mcap, .int .u8 (kind : Nat), .int .u8 (key : Nat), .int .u16 (val : Nat), .int .u16 (old : Nat), .slice RA rn rcap] W → W.cell? ⟨qb, 2, none⟩ = some (.int .u8 (members : Nat)) := fun W hW => cell_at hW.2 2 rfl
    have r3 : ∀ W, RfX rb qb (refCs mr mm known (.slice Av got.length cv)) #[.int .u8 (sender : Nat), .int .u32 (round : Nat), .int .u8 (members : Nat), .slice MA mn mcap, .int .u8 (kind : Nat), .int .u8 (key : Nat), .int .u16 (val : Nat), .int .u16 (old : Nat), .slice RA rn rcap] W → W.cell? ⟨qb, 3, none⟩ = some (.slice MA mn mcap) := fun W hW => cell_at hW.2 3 rfl
    have r4 : ∀ W, RfX rb qb (refCs mr mm known (.slice Av got.length cv)) #[.int .u8 (sender : Nat), .int .u32 (round : Nat), .int .u8 (members : Nat), .slice MA mn mcap, .int .u8 (kind : Nat), .int .u8 (key : Nat), .int .u16 (val : Nat), .int .u16 (old : Nat), .slice RA rn rcap] W → W.cell? ⟨qb, 4, none⟩ = some (.int .u8 (kind : Nat)) := fun W hW => cell_at hW.2 4 rfl
    have r5 : ∀ W, RfX rb qb (refCs mr mm known (.slice Av got.length cv)) #[.int .u8 (sender : Nat), .int .u32 (round : Nat), .int .u8 (members : Nat), .slice MA mn mcap, .int .u8 (kind : Nat), .int .u8 (key : Nat), .int .u16 (val : Nat), .int .u16 (old : Nat), .slice RA rn rcap] W → W.cell? ⟨qb, 5, none⟩ = some (.int .u8 (key : Nat)) := fun W hW => cell_at hW.2 5 rfl
    have r6 : ∀ W, RfX rb qb (refCs mr mm known (.slice Av got.length cv)) #[.int .u8 (sender : Nat), .int .u32 (round : Nat), .int .u8 (members : Nat), .slice MA mn mcap, .int .u8 (kind : Nat), .int .u8 (key : Nat), .int .u16 (val : Nat), .int .u16 (old : Nat), .slice RA rn rcap] W → W.cell? ⟨qb, 6, none⟩ = some (.int .u16 (val : Nat)) := fun W hW => cell_at hW.2 6 rfl
    have r7 : ∀ W, RfX rb qb (refCs mr mm known (.slice Av got.length cv)) #[.int .u8 (sender : Nat), .int .u32 (round : Nat), .int .u8 (members : Nat), .slice MA mn mcap, .int .u8 (kind : Nat), .int .u8 (key : Nat), .int .u16 (val : Nat), .int .u16 (old : Nat), .slice RA rn rcap] W → W.cell? ⟨qb, 7, none⟩ = some (.int .u16 (old : Nat)) := fun W hW => cell_at hW.2 7 rfl
    have r8 : ∀ W, RfX rb qb (refCs mr mm known (.slice Av got.length cv)) #[.int .u8 (sender : Nat), .int .u32 (round : Nat), .int .u8 (members : Nat), .slice MA mn mcap, .int .u8 (kind : Nat), .int .u8 (key : Nat), .int .u16 (val : Nat), .int .u16 (old : Nat), .slice RA rn rcap] W → W.cell? ⟨qb, 8, none⟩ = some (.slice RA rn rcap) := fun W hW => cell_at hW.2 8 rfl
    clear HFound HNew HH5 hno hx5 Hg8
    generalize got.length = L at *
    go_wp2_with fail
    clear c3
    refine wp_region_L_drew (st := 10) (S := fun W => RfX rb qb (refCs mr mm known (.slice Av L cv)) #[.int .u8 (sender : Nat), .int .u32 (round : Nat), .int .u8 (members : Nat), .slice MA mn mcap, .int .u8 (kind : Nat), .int .u8 (key : Nat), .int .u16 (val : Nat), .int .u16 (old : Nat), .slice RA rn rcap] W) (by kernel_rfl) hd0 (fun _ => ?_)
    refine tkL 0 (by simp only [tkA]; rfl) (by kernel_rfl) (by exact fun _ _ _ h => h) (by rfl) (by intro W hW; go_simp <;> with_reducible rfl) hd0 ?_
    try simp only [Act.put, tkT, tk0, tkS]
    refine tkL 1 (by simp only [tkA, tkG]; rfl) (by kernel_rfl) (by exact fun _ _ _ h => h) (by rfl) (by intro W hW; go_simp <;> with_reducible rfl) hd0 ?_
    try simp only [Act.put, tkT, tk0, tkS]
    refine tkL 2 (by simp only [tkA, tkG]; rfl) (by kernel_rfl) (by exact fun _ _ _ h => h) (by rfl) (by intro W hW; go_simp <;> with_reducible rfl) hd0 ?_
    try simp only [Act.put, tkT, tk0, tkS]
    refine tkL 3 (by simp only [tkA, tkG]; rfl) (by kernel_rfl) (by exact fun _ _ _ h => h) (by rfl) (by intro W hW; go_simp <;> with_reducible rfl) hd0 ?_
    try simp only [Act.put, tkT, tk0, tkS]
    refine tkL 4 (by simp only [tkA, tkG]; rfl) (by kernel_rfl) (by exact fun _ _ _ h => h) (by rfl) (by intro W hW; go_simp <;> with_reducible rfl) hd0 ?_
    try simp only [Act.put, tkT, tk0, tkS]
    refine tkL 5 (by simp only [tkA, tkG]; rfl) (by kernel_rfl) (by exact fun _ _ _ h => h) (by rfl) (by intro W hW; go_simp <;> with_reducible rfl) hd0 ?_
    try simp only [Act.put, tkT, tk0, tkS]
    have hd6 := hd0.below ((Below.refl _ (w5.drewN m).drew).alloc (Nat.le_refl _) (.cells #[.int .u8 (sender : Nat), .int .u32 (round : Nat), .int .u8 (members : Nat), .slice MA mn mcap, .int .u8 (kind : Nat), .int .u8 (key : Nat), .int .u16 (val : Nat), .int .u16 (old : Nat), .slice RA rn rcap] 51))
    refine wpAnyL_one (k := 6) (by kernel_rfl) (by simp only [tkA, tkG]; rfl) (fun K hK => ?_)
    go_simp
    go_wp2_with fail
    refine hK.out _ _ (fun _ => hd6) ?_
    clear hK K
    refine wpAnyL_one (k := 7) (by kernel_rfl) (by simp only [tkA, tkG]; rfl) (fun K hK => ?_)
    refine step_append_m rfl (.tmp 45) (.tmp 47) _ rfl B 51 _ 9 72 Try.underlying41 infoF12 rfl (by omega) _ L (itemsV FrameC.cells got) rfl (ikeep Hown.out ((below_drewNc (Below.refl w5.heap.size w5) m).drew.alloc (Nat.le_refl _) _)) (some ⟨w5.heap.size, 0, none⟩) 1 1 [.int .u8 (sender : Nat), .int .u32 (round : Nat), .int .u8 (members : Nat), .slice MA mn mcap, .int .u8 (kind : Nat), .int .u8 (key : Nat), .int .u16 (val : Nat), .int .u16 (old : Nat), .slice RA rn rcap] rfl rfl (fun _ => ⟨_, rfl, laid_at (w5.drewN m).drew 51 _ _ rfl⟩) (frame_one ⟨sender, round, members, MA, mn, mcap, msgs, kind, key, val, old, RA, rn, rcap, recs⟩) (by unfold maxLen; omega) (by omega) (by simp; omega) ?_
    intro v8 w8 ho8 ha8 hb8
    obtain ⟨A8, c8, rfl, -⟩ := own_slice ho8
    have ha80 : Apart (fun q => (Value.slice Av L cv).ownBlock = some q) w5 w8 := ((((Apart.refl _ w5).drewN m).drew).alloc _).trans ha8 (fun _ e => .inl e)
    have hd8 : RfX rb qb (refCs mr mm known (.slice Av L cv)) #[.int .u8 (sender : Nat), .int .u32 (round : Nat), .int .u8 (members : Nat), .slice MA mn mcap, .int .u8 (kind : Nat), .int .u8 (key : Nat), .int .u16 (val : Nat), .int .u16 (old : Nat), .slice RA rn rcap] w8 := ⟨(ha80.block _ hrb5 (fun e => own_off Hown.out hd0.1 (by decide) _ e rfl)).trans hd0.1, (ha80.block _ hs5 (fun e => by have := hvb _ e; omega)).trans hd0.2⟩
    have haw : Apart (fun q => (Value.slice Av L cv).ownBlock = some q) w w8 := HAp.out.trans ha80 (fun _ e => .inl e)
    have HF := Lib.hid (HE.out _ w8 ho8 haw (hb8.imp id (fun e => ⟨_, e, by simp; omega⟩)))
    have f8 := fr w8 hd8
    have k8 := kd w8 hd8
    clear ho8 ha8 hb8 ha80 haw HE HAp Hown hd6 hd0
    go_wp2_with fail
    refine hK.out _ _ (fun _ => hd8) ?_
    clear hK K
    refine tkL 8 (by simp only [tkA, tkG]; rfl) (by kernel_rfl) (by exact fun _ _ _ h => h) (by rfl) (by intro W hW; go_simp <;> with_reducible rfl) hd8 ?_
    try simp only [Act.put, tkT, tk0, tkS]
    refine tkL 9 (by simp only [tkA, tkG]; rfl) (by kernel_rfl) (by exact fun _ _ _ h => h) (by rfl) (by intro W hW; go_simp <;> with_reducible rfl) hd8 ?_
    try simp only [Act.put, tkT, tk0, tkS]
    refine wpAnyL_last (k := 10) (by kernel_rfl) (by simp only [tkA, tkG]; rfl) (fun K hK => ?_)
    go_simp
    go_wp2_with fail
    refine hK.out _ _ ?_
    clear hK K
    refine wpAnyL_done (by kernel_rfl) ?_ _
    clear hd8 k8 f8 kd fr r0 r1 r2 r3 r4 r5 r6 r7 r8
    go_wp2_with fail
    go_ret
    exact HF.out
end Go.Proofs.Ytkahecdnmeofkaa
