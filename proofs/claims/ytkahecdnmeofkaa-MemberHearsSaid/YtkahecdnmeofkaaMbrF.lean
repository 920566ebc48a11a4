/- Contracts of Hear. Conditions: where what was heard lies; where the frame's lists lie. -/
import Derived.Test.YtkahecdnmeofkaaMbrE
namespace Go.Proofs.Ytkahecdnmeofkaa
open Go.RowKit
set_option maxRecDepth 100000

def NoP (w : World) (e : Ending) (w' : World) : Prop := e = .returned (.bool false) ∧ Below w.heap.size w w'
theorem hear_nil (line : Int) (x : FrameC) (w : World) : Calls Try.prog 21 #[.pointer none, .int .i64 line, x.value] w (NoP w) := by
  have HB := Lib.hid (fun o => (Below.refl w.heap.size w).alloc (Nat.le_refl _) o)
  obtain ⟨sender, round, members, MA, mn, mcap, msgs, kind, key, val, old, RA, rn, rcap, recs⟩ := x
  simp only [FrameC.value]
  go_enter Try.func21, Try.ntmps21
  go_wp2_with fail
  go_ret
  exact ⟨rfl, HB.out _⟩
section
variable {mr mm s : Nat} {known : Bool} {fs : List FrameC}
theorem hear_out (line : Int) (hl : line < 0 ∨ 7 ≤ line) (x : FrameC) (b : Nat) (w : World) : Calls Try.prog 21 #[hv b, .int .i64 line, x.value] w (NoP w) := by
  have HB := Lib.hid (fun o => (Below.refl w.heap.size w).alloc (Nat.le_refl _) o)
  obtain ⟨sender, round, members, MA, mn, mcap, msgs, kind, key, val, old, RA, rn, rcap, recs⟩ := x
  simp only [FrameC.value]
  unfold hv
  by_cases h0 : line < 0
  · have q1 : decide (line < 0) = true := decide_eq_true h0
    clear hl h0
    go_enter Try.func21, Try.ntmps21
    go_wp2_with fail
    go_ret
    exact ⟨rfl, HB.out _⟩
  · have q1 : decide (line < 0) = false := decide_eq_false h0
    have q2 : decide (line ≥ 7) = true := decide_eq_true (by omega)
    clear hl h0
    go_enter Try.func21, Try.ntmps21
    go_wp2_with fail
    go_ret
    exact ⟨rfl, HB.out _⟩
theorem hear_other (k : Nat) (hk : k < 7) (x : FrameC) (hx : ¬ x.sender = k) (h8 : x.sender < 256) (b : Nat) (w : World) : Calls Try.prog 21 #[hv b, .int .i64 (k : Nat), x.value] w (NoP w) := by
  have HB := Lib.hid (fun o => (Below.refl w.heap.size w).alloc (Nat.le_refl _) o)
  obtain ⟨sender, round, members, MA, mn, mcap, msgs, kind, key, val, old, RA, rn, rcap, recs⟩ := x
  simp only [FrameC.value]
  simp only at hx h8
  unfold hv
  have q1 : decide ((k : Int) < 0) = false := decide_eq_false (by omega)
  have q2 : decide ((k : Int) ≥ 7) = false := decide_eq_false (by omega)
  have q3 : decide ((sender : Int) = (k : Int)) = false := decide_eq_false (by omega)
  have q4 : ((sender : Int) == (k : Int)) = false := by rw [beq_eq_false_iff_ne]; omega
  have e1 : IntKind.i64.wrap (sender : Int) = (sender : Int) := IntWalk.i64_in _ (by omega)
  clear hk
  go_enter Try.func21, Try.ntmps21
  go_wp2_with fail
  go_ret
  exact ⟨rfl, HB.out _⟩
theorem hear_again (k : Nat) (hk : k < 7) (x : FrameC) (hx : x.sender = k) (b : Nat) (w : World) (h : HeardIn w b mr mm known s fs) (hb : s.testBit k = true) : Calls Try.prog 21 #[hv b, .int .i64 (k : Nat), x.value] w (NoP w) := by
  have HB := Lib.hid (fun o => (Below.refl w.heap.size w).alloc (Nat.le_refl _) o)
  have HH := Lib.hid (fun W => has_any s (Nat.lt_trans h.small (by decide)) (k : Int) W)
  rw [MbrP.hasT_in (Nat.lt_trans h.small (by decide)) hk, hb] at HH
  have c3 := h.c3
  have hsz := h.size
  obtain ⟨sender, round, members, MA, mn, mcap, msgs, kind, key, val, old, RA, rn, rcap, recs⟩ := x
  simp only [FrameC.value]
  simp only at hx
  subst hx
  unfold hv
  unfold setV at HH
  have q1 : decide ((sender : Int) < 0) = false := decide_eq_false (by omega)
  have q2 : decide ((sender : Int) ≥ 7) = false := decide_eq_false (by omega)
  have e1 : IntKind.i64.wrap (sender : Int) = (sender : Int) := IntWalk.i64_in _ (by omega)
  clear hk h hb
  go_enter Try.func21, Try.ntmps21
  go_wp2_with fail
  refine (HH.out _).mono ?_
  rintro e w1 ⟨rfl, rfl⟩
  go_wp2_with fail
  go_ret
  exact ⟨rfl, HB.out _⟩
end
/-- What was heard, and a frame in a box. -/
def HdB (b mr mm : Nat) (known : Bool) (s : Nat) (fs : List FrameC) (N : Nat) (xc : Array Value) (W : World) : Prop := HeardIn W b mr mm known s fs ∧ W.heap[N]? = some (.cells xc 51 (0, 0))
theorem HdB.keep {b mr mm s N : Nat} {known : Bool} {fs : List FrameC} {xc : Array Value} {W W' : World} (h : HdB b mr mm known s fs N xc W) (hb : Below W.heap.size W W') : HdB b mr mm known s fs N xc W' := ⟨h.1.below hb, (hb.block _ (lt_of_block h.2)).trans h.2⟩
def YesP (b mr mm : Nat) (known : Bool) (s : Nat) (fs : List FrameC) (k : Nat) (x : FrameC) (w : World) (e : Ending) (w' : World) : Prop :=
  e = .returned (.bool true) ∧ ∃ y : FrameC, y.plain = x.plain ∧ FrameIn w' y ∧ FrameHi w.heap.size y ∧ HeardIn w' b mr mm known (MbrP.withT s (k : Int)) (fs.set k y) ∧ Apart (fun q => q = b) w w'
set_option maxHeartbeats 2000000 in
theorem hear_yes (mr mm s : Nat) (known : Bool) (fs : List FrameC) (k : Nat) (hk : k < 7) (x : FrameC) (hx : x.sender = k) (b : Nat) (w : World) (hf : FrameIn w x) (hoff : FrameOff (fun q => q = b) x) (h : HeardIn w b mr mm known s fs) (hb : s.testBit k = false) :
    Calls Try.prog 21 #[hv b, .int .i64 (k : Nat), x.value] w (YesP b mr mm known s fs k x w) := by
  have HB := Lib.hid (fun o => (Below.refl w.heap.size w).alloc (Nat.le_refl _) o)
  have HH := Lib.hid (fun W => has_any s (Nat.lt_trans h.small (by decide)) (k : Int) W)
  rw [MbrP.hasT_in (Nat.lt_trans h.small (by decide)) hk, hb] at HH
  have HW := Lib.hid (fun W => with_any s (Nat.lt_trans h.small (by decide)) (k : Int) W)
  have c3 := h.c3
  have f3 := free_at h.at_ 3
  have hsz := h.size
  have HHd := Lib.hid h
  have HFr := Lib.hid hf
  have HC := Lib.hid (fun W (hW : FrameIn W x) => fclone_any x W hW)
  have HFin : Hid (∀ (o : Obj) (W4 : World) (y : FrameC), FrameIn W4 y → y.plain = x.plain → FrameHi (w.heap.size + 1) y → Below (w.heap.size + 1) ((w.setCell ⟨b, 3, none⟩ (setV (MbrP.withT s (k : Int)))).alloc o) W4 →
      YesP b mr mm known s fs k x w (.returned (.bool true)) (storeAll W4 b y.cells (4 + k * 9))) := Lib.hid fun o W4 y h1 h2 h3 h4 => by
    have hs : ((w.setCell ⟨b, 3, none⟩ (setV (MbrP.withT s (k : Int)))).alloc o).heap.size = w.heap.size + 1 := by simp [World.setCell]
    rw [← hs] at h4
    have g1 := ((h.putS (MbrP.with_in7 h.small (k : Int))).below ((Below.refl _ _).alloc (Nat.le_refl _) o)).below h4
    have hhi : ∀ B, B ≤ w.heap.size + 1 → FrameHi B y := fun B hB => ⟨fun hn q hq => Nat.le_trans hB (h3.msgs hn q hq), fun z hz hn q hq => Nat.le_trans hB (h3.data z hz hn q hq), fun hn q hq => Nat.le_trans hB (h3.recs hn q hq)⟩
    have g3 := g1.putF hk h1 (hhi (b + 1) (by have := h.size; omega))
    have a1 : Apart (fun q => q = b) w ((w.setCell ⟨b, 3, none⟩ (setV (MbrP.withT s (k : Int)))).alloc o) := (Apart.setCell (F := fun q => q = b) (Apart.refl _ w) (p := ⟨b, 3, none⟩) (.inl rfl) _).alloc o
    have a2 := (a1.trans (Apart.of_below' (F := fun q => q = b) h4) (fun _ e => .inl e)).trans (storeAll_apart b y.cells (4 + k * 9) W4) (fun _ e => .inl e)
    exact ⟨rfl, y, h2, h1.offs ((hhi (b + 1) (by have := h.size; omega)).off (fun q e => by omega)) (storeAll_apart b y.cells (4 + k * 9) W4), hhi _ (by omega), g3, a2⟩
  have HB5 : Hid (∀ o : Obj, HeardIn ((w.setCell ⟨b, 3, none⟩ (setV (MbrP.withT s (k : Int)))).alloc o) b mr mm known (MbrP.withT s (k : Int)) fs ∧ FrameIn ((w.setCell ⟨b, 3, none⟩ (setV (MbrP.withT s (k : Int)))).alloc o) x ∧ ((w.setCell ⟨b, 3, none⟩ (setV (MbrP.withT s (k : Int)))).alloc o).heap.size = w.heap.size + 1 ∧
      ∀ cs t, o = .cells cs t → ((w.setCell ⟨b, 3, none⟩ (setV (MbrP.withT s (k : Int)))).alloc o).heap[w.heap.size]? = some o) := Lib.hid fun o =>
    ⟨(h.putS (MbrP.with_in7 h.small (k : Int))).below ((Below.refl _ _).alloc (Nat.le_refl _) o), (hf.offs (hoff.mono (fun q e => e)) (Apart.setCell (F := fun q => q = b) (Apart.refl _ w) (p := ⟨b, 3, none⟩) (.inl rfl) (setV (MbrP.withT s (k : Int))))).below ((Below.refl _ _).alloc (Nat.le_refl _) o), by simp [World.setCell], fun cs t e => heap_new_at _ _ _ (by simp [World.setCell])⟩
  obtain ⟨x0, hx0⟩ : ∃ x0, fs[k]? = some x0 := ⟨_, List.getElem?_eq_getElem (by have := h.len; omega)⟩
  have HO := Lib.hid (fun W (hW : HeardIn W b mr mm known (MbrP.withT s (k : Int)) fs) (j : Nat) (u : Value) (hu : x0.cells[j]? = some u) => hW.fc hx0 hu)
  clear h hb hf hoff hx0
  obtain ⟨sender, round, members, MA, mn, mcap, msgs, kind, key, val, old, RA, rn, rcap, recs⟩ := x
  simp only [FrameC.value] at HC ⊢
  simp only at hx
  subst hx
  unfold hv
  unfold setV at HH HW
  have q1 : decide ((sender : Int) < 0) = false := decide_eq_false (by omega)
  have q2 : decide ((sender : Int) ≥ 7) = false := decide_eq_false (by omega)
  have e1 : IntKind.i64.wrap (sender : Int) = (sender : Int) := IntWalk.i64_in _ (by omega)
  go_enter Try.func21, Try.ntmps21
  go_wp2_with fail
  refine (HH.out _).mono ?_
  rintro e w1 ⟨rfl, rfl⟩
  go_wp2_with fail
  refine (HW.out _).mono ?_
  rintro e w1 ⟨rfl, rfl⟩
  go_wp2_with fail
  unfold setV at HB5 HFin
  obtain ⟨hh5, hf5, hz5, hn5⟩ := HB5.out (.cells #[.int .u8 (sender : Nat), .int .u32 (round : Nat), .int .u8 (members : Nat), .slice MA mn mcap, .int .u8 (kind : Nat), .int .u8 (key : Nat), .int .u16 (val : Nat), .int .u16 (old : Nat), .slice RA rn rcap] 51)
  have hn5 := hn5 _ _ rfl
  have HE := Lib.hid (HFin.out (.cells #[.int .u8 (sender : Nat), .int .u32 (round : Nat), .int .u8 (members : Nat), .slice MA mn mcap, .int .u8 (kind : Nat), .int .u8 (key : Nat), .int .u16 (val : Nat), .int .u16 (old : Nat), .slice RA rn rcap] 51))
  clear HFin HB5 c3 f3 HH HW HB HHd HFr
  generalize (w.setCell ⟨b, 3, none⟩ (.int .u8 (MbrP.withT s (sender : Int) : Nat))).alloc (.cells #[.int .u8 (sender : Nat), .int .u32 (round : Nat), .int .u8 (members : Nat), .slice MA mn mcap, .int .u8 (kind : Nat), .int .u8 (key : Nat), .int .u16 (val : Nat), .int .u16 (old : Nat), .slice RA rn rcap] 51) = w5 at *
  obtain ⟨s0, s1, s2, s3, s4, s5, s6, s7, s8, s9, s10, s11, s12, s13, s14⟩ := x0
  have hd0 : HdB b mr mm known (MbrP.withT s (sender : Int)) fs w.heap.size #[.int .u8 (sender : Nat), .int .u32 (round : Nat), .int .u8 (members : Nat), .slice MA mn mcap, .int .u8 (kind : Nat), .int .u8 (key : Nat), .int .u16 (val : Nat), .int .u16 (old : Nat), .slice RA rn rcap] w5.drew := ⟨hh5.drew, hn5⟩
  have HCl := Lib.hid (HC.out w5.drew (hf5.below (Below.refl _ _).drew))
  have hk1 : (sender : Int) < 7 := by omega
  generalize hxc : (#[.int .u8 (sender : Nat), .int .u32 (round : Nat), .int .u8 (members : Nat), .slice MA mn mcap, .int .u8 (kind : Nat), .int .u8 (key : Nat), .int .u16 (val : Nat), .int .u16 (old : Nat), .slice RA rn rcap] : Array Value) = xc at hd0
  generalize hsn : MbrP.withT s (sender : Int) = sn at *
  have r0 : ∀ W, HdB b mr mm known sn fs w.heap.size xc W → W.cell? ⟨w.heap.size, 0, none⟩ = some (.int .u8 (sender : Nat)) := fun W hW => cell_at hW.2 0 (by rw [← hxc]; rfl)
  have r1 : ∀ W, HdB b mr mm known sn fs w.heap.size xc W → W.cell? ⟨w.heap.size, 1, none⟩ = some (.int .u32 (round : Nat)) := fun W hW => cell_at hW.2 1 (by rw [← hxc]; rfl)
  have r2 : ∀ W, HdB b mr mm known sn fs w.heap.size xc W → W.cell? ⟨w.heap.size, 2, none⟩ = some (.int .u8 (members : Nat)) := fun W hW => cell_at hW.2 2 (by rw [← hxc]; rfl)
  have r3 : ∀ W, HdB b mr mm known sn fs w.heap.size xc W → W.cell? ⟨w.heap.size, 3, none⟩ = some (.slice MA mn mcap) := fun W hW => cell_at hW.2 3 (by rw [← hxc]; rfl)
  have r4 : ∀ W, HdB b mr mm known sn fs w.heap.size xc W → W.cell? ⟨w.heap.size, 4, none⟩ = some (.int .u8 (kind : Nat)) := fun W hW => cell_at hW.2 4 (by rw [← hxc]; rfl)
  have r5 : ∀ W, HdB b mr mm known sn fs w.heap.size xc W → W.cell? ⟨w.heap.size, 5, none⟩ = some (.int .u8 (key : Nat)) := fun W hW => cell_at hW.2 5 (by rw [← hxc]; rfl)
  have r6 : ∀ W, HdB b mr mm known sn fs w.heap.size xc W → W.cell? ⟨w.heap.size, 6, none⟩ = some (.int .u16 (val : Nat)) := fun W hW => cell_at hW.2 6 (by rw [← hxc]; rfl)
  have r7 : ∀ W, HdB b mr mm known sn fs w.heap.size xc W → W.cell? ⟨w.heap.size, 7, none⟩ = some (.int .u16 (old : Nat)) := fun W hW => cell_at hW.2 7 (by rw [← hxc]; rfl)
  have r8 : ∀ W, HdB b mr mm known sn fs w.heap.size xc W → W.cell? ⟨w.heap.size, 8, none⟩ = some (.slice RA rn rcap) := fun W hW => cell_at hW.2 8 (by rw [← hxc]; rfl)
  clear hn5 hh5 hf5 HC hxc hsn
  go_wp2_with fail
  refine wp_region_L_drew (st := 7) (S := fun W => HdB b mr mm known sn fs w.heap.size xc W) (by kernel_rfl) hd0 (fun _ => ?_)
  refine tkL 0 (by simp only [tkA]; rfl) (by kernel_rfl) (by exact fun _ _ _ h => h) (by rfl) (by intro W hW; go_simp <;> with_reducible rfl) hd0 ?_
  try simp only [Act.put, tkT, tk0, tkS]
  refine tkL 1 (by simp only [tkA, tkG]; rfl) (by kernel_rfl) (by exact fun _ _ _ h => h) (by rfl) (by intro W hW; go_simp <;> with_reducible rfl) hd0 ?_
  try simp only [Act.put, tkT, tk0, tkS]
  refine tkL 2 (by simp only [tkA, tkG]; rfl) (by kernel_rfl) (by exact fun _ _ _ h => h) (by rfl) (by intro W hW; go_simp <;> with_reducible rfl) hd0 ?_
  try simp only [Act.put, tkT, tk0, tkS]
  refine tkL 4 (by simp only [tkA, tkG]; rfl) (by kernel_rfl) (by exact fun _ _ _ h => h) (by rfl) (by intro W hW; go_simp <;> with_reducible rfl) hd0 ?_
  try simp only [Act.put, tkT, tk0, tkS]
  refine tkL 5 (by simp only [tkA, tkG]; rfl) (by kernel_rfl) (by exact fun _ _ _ h => h) (by rfl) (by intro W hW; go_simp <;> with_reducible rfl) hd0 ?_
  try simp only [Act.put, tkT, tk0, tkS]
  refine wpAnyL_one (k := 3) (by kernel_rfl) (by simp only [tkA, tkG]; rfl) (fun K hK => ?_)
  go_simp
  refine HCl.out.mono ?_
  rintro e w3 ⟨y, rfl, hy1, hy2, hy3, hb3⟩
  have hd3 : HdB b mr mm known sn fs w.heap.size xc w3 := hd0.keep hb3
  have HR := Lib.hid (HE.out w3 y hy1 hy2 (by have e9 : w5.drew.heap.size = w.heap.size + 1 := hz5; rw [e9] at hy3; exact hy3) (by have e9 : w5.drew.heap.size = w.heap.size + 1 := hz5; rw [e9] at hb3; exact (Below.refl (w.heap.size + 1) w5).drew.trans hb3))
  have o0 : w3.cell? ⟨b, 4 + sender * 9, none⟩ = some (.int .u8 (s0 : Nat)) := HO.out w3 hd3.1 0 _ rfl
  have o1 : w3.cell? ⟨b, 4 + sender * 9 + 1, none⟩ = some (.int .u32 (s1 : Nat)) := HO.out w3 hd3.1 1 _ rfl
  have o2 : w3.cell? ⟨b, 4 + sender * 9 + 2, none⟩ = some (.int .u8 (s2 : Nat)) := HO.out w3 hd3.1 2 _ rfl
  have o3 : w3.cell? ⟨b, 4 + sender * 9 + 3, none⟩ = some (.slice s3 s4 s5) := HO.out w3 hd3.1 3 _ rfl
  have o4 : w3.cell? ⟨b, 4 + sender * 9 + 4, none⟩ = some (.int .u8 (s7 : Nat)) := HO.out w3 hd3.1 4 _ rfl
  have o5 : w3.cell? ⟨b, 4 + sender * 9 + 5, none⟩ = some (.int .u8 (s8 : Nat)) := HO.out w3 hd3.1 5 _ rfl
  have o6 : w3.cell? ⟨b, 4 + sender * 9 + 6, none⟩ = some (.int .u16 (s9 : Nat)) := HO.out w3 hd3.1 6 _ rfl
  have o7 : w3.cell? ⟨b, 4 + sender * 9 + 7, none⟩ = some (.int .u16 (s10 : Nat)) := HO.out w3 hd3.1 7 _ rfl
  have o8 : w3.cell? ⟨b, 4 + sender * 9 + 8, none⟩ = some (.slice s11 s12 s13) := HO.out w3 hd3.1 8 _ rfl
  have fb := fun i => free_at hd3.1.at_ i
  obtain ⟨y0, y1, y2, y3, y4, y5, y6, y7, y8, y9, y10, y11, y12, y13, y14⟩ := y
  simp only [FrameC.value]
  simp only [FrameC.cells] at HR
  clear hy1 hy2 hy3 hb3 HO HE HCl hd0
  go_wp2_with fail
  refine hK.out _ _ (fun _ => hd3) ?_
  clear hK K
  refine tkL 6 (by simp only [tkA, tkG]; rfl) (by kernel_rfl) (by exact fun _ _ _ h => h) (by rfl) (by intro W hW; go_simp <;> with_reducible rfl) hd3 ?_
  try simp only [Act.put, tkT, tk0, tkS]
  refine wpAnyL_last (k := 7) (by kernel_rfl) (by simp only [tkA, tkG]; rfl) (fun K hK => ?_)
  go_simp
  clear r0 r1 r2 r3 r4 r5 r6 r7 r8
  go_wp2_with fail
  refine hK.out _ _ ?_
  clear hK K
  refine wpAnyL_done (by kernel_rfl) ?_ _
  clear o0 o1 o2 o3 o4 o5 o6 o7 o8 fb hd3
  go_wp2_with fail
  go_ret
  exact HR.out
end Go.Proofs.Ytkahecdnmeofkaa
