/- Contract of frame's Decode at bytes in memory. Conditions: where the bytes lie; at most 1000000 of them. -/
import Derived.Test.YtmhpdmpihmahdaaFraN
import Derived.Test.YtmhpdmpihmahdaaFraH
namespace Go.Proofs.Ytmhpdmpihmahdaa
open Go.RowKit
set_option maxRecDepth 100000

/-- No frame: the zero value, and an error that reads so. -/
def DecBad (t : List UInt8) (w : World) (e : Ending) (w' : World) : Prop :=
  ∃ b, e = .returned (.tuple #[zeroC.value, .iface 76 (.pointer (some ⟨b, 0, none⟩))]) ∧ ErrTextK 5 w' (.iface 76 (.pointer (some ⟨b, 0, none⟩))) t ∧ Below w.heap.size w w'
def DecGood (f : FrameP.Fr) (w : World) (e : Ending) (w' : World) : Prop :=
  ∃ v, e = .returned (.tuple #[v, .nilIface]) ∧ FrameAt w' v f ∧ Below w.heap.size w w'
/-- What Decode answers of a payload. -/
def DecPost : FrameP.Fr ⊕ (Nat × FrameP.Wrong) → World → Ending → World → Prop
  | .inl f => DecGood f
  | .inr (a, c) => DecBad (overT 40 a (wrongT (some c)))

/-- What reading a frame's bytes comes to, step by step. -/
theorem raw_eq {l : List UInt8} {x0 x1 x2 x3 y0 y1 y2 y3 y4 : WireP.Took} {D1 : List FrameP.Msg × Nat × Bool} {D2 : List FrameP.Rec × Nat × Bool} (h0 : WireP.take l 0 false 1 = x0) (h1 : WireP.take l x0.at_ x0.short 4 = x1) (h2 : WireP.take l x1.at_ x1.short 1 = x2) (h3 : WireP.take l x2.at_ x2.short 1 = x3)
    (hD1 : FrameP.msgsD l x3.n x3.at_ x3.short = D1) (g0 : WireP.take l D1.2.1 D1.2.2 1 = y0) (g1 : WireP.take l y0.at_ y0.short 1 = y1) (g2 : WireP.take l y1.at_ y1.short 2 = y2) (g3 : WireP.take l y2.at_ y2.short 2 = y3) (g4 : WireP.take l y3.at_ y3.short 1 = y4)
    (hD2 : FrameP.recsD l y4.n y4.at_ y4.short = D2) : FrameP.raw l = (⟨x0.n, x1.n, x2.n, D1.1, y0.n, y1.n, y2.n, y3.n, D2.1⟩, D2.2) ∧ (D2.2.2 = false → D1.2.2 = false) := by
  subst h0 h1 h2 h3 hD1 g0 g1 g2 g3 g4 hD2
  refine ⟨rfl, fun h => ?_⟩
  obtain ⟨e4, _⟩ := FrameP.recsD_inv _ _ _ h
  obtain ⟨e3, _⟩ := FrameP.take_inv1 e4
  obtain ⟨e2, _⟩ := FrameP.take_inv2 e3
  obtain ⟨e1, _⟩ := FrameP.take_inv2 e2
  obtain ⟨e0, _⟩ := FrameP.take_inv1 e1
  exact (FrameP.take_inv1 e0).1

theorem errtext_wrap {w : World} {b : Nat} {x : List UInt8} {a : Int} (h : ErrTextK 4 w (.iface 76 (.pointer (some ⟨b, 0, none⟩))) x) (hx : x ≠ []) (ha : -1 ≤ a ∧ a ≤ 9223372036854775807) :
    ErrTextK 5 (w.alloc (.cells #[.int .i64 40, .int .i64 a, .iface 76 (.pointer (some ⟨b, 0, none⟩))] 78)) (.iface 76 (.pointer (some ⟨w.heap.size, 0, none⟩))) (overT 40 a x) := by
  rw [overT, if_neg hx]
  exact ErrTextK.wrap h 40 a (by omega) ha
theorem below_storeAll {B : Nat} {w w' : World} (h : Below B w w') {b : Nat} (hb : B ≤ b) (vs : List Value) (i : Nat) (hs : B ≤ w.heap.size) : Below B w (storeAll w' b vs i) :=
  h.trans ((storeAll_apart b vs i w').below (Nat.le_trans hs h.size) (fun k e => by omega))
theorem ErrTextK.storeAll {k b i : Nat} {w : World} {v : Value} {x : List UInt8} {t : TypeId} {cs : Array Value} (h : ErrTextK k w v x) (hb : w.heap[b]? = some (.cells cs t (0, 0))) (ht : t ≠ 78) (vs : List Value) : ErrTextK k (storeAll w b vs i) v x := by
  obtain ⟨l, tt, h1, h2, h3, h4, h5⟩ := h
  have ha := storeAll_apart b vs i w
  refine ⟨l, tt, h1, h2, ?_, h4, h5⟩
  have key : ∀ (l : List (Nat × Int × Int)) (B : Nat), B ≤ w.heap.size → ErrIn w tt B l → ErrIn (Go.Proofs.Ytmhpdmpihmahdaa.storeAll w b vs i) tt B l := by
    intro l
    induction l with
    | nil => intro _ _ _; trivial
    | cons x r ih =>
      obtain ⟨b1, c1, a1⟩ := x
      intro B hB h
      obtain ⟨g1, g2, g3⟩ := h
      refine ⟨g1, ?_, ih b1 (by omega) g3⟩
      rw [ha.block b1 (by omega) (fun e => ?_)]
      · exact g2
      · have e : b1 = b := e
        subst e
        rw [g2] at hb
        injection hb with hb
        injection hb with _ hb _
        exact ht hb.symm
  exact (key l _ (Nat.le_refl _) h3).mono ha.size

theorem zero_same {w : World} {b : Nat} {cs : Array Value} (h : w.heap[b]? = some (.cells cs 32 (0, 0))) (hs : cs.size = 9) (vs : List Value) (hv : vs.length = 9) : (storeAll w b vs 0).heap[b]? = some (.cells vs.toArray 32 (0, 0)) := by
  have := storeAll_heap (t := 32) vs 0 w [] cs.toList (by simpa using h) rfl (by simp [hs, hv])
  simpa using this

set_option maxHeartbeats 1000000 in
theorem decode_unsealed (A : Option Addr) (l : List UInt8) (n cap : Nat) (hn : l.length = n) (w : World) (hl : n ≤ 1000000) (hcap : n ≤ cap) (h : Bytes w w.heap.size A l) (hs : ¬ isSealed l) :
    Calls Try.prog 18 #[.slice A n cap] w (DecBad (overT 40 (-1) (wrongT (some (6, -1)))) w) := by
  have HO : Hid (∀ o, Calls Try.prog 40 #[.slice A n cap] (w.alloc o) (fun e w' => e = .returned (.tuple #[.slice none 0 0, .bool false]) ∧ Below (w.alloc o).heap.size (w.alloc o) w')) := Lib.hid fun o => by
    refine (open_any A l n cap hn (w.alloc o) (by omega) hcap ((h.alloc (Nat.le_refl _) o).more (by simp))).mono ?_
    rintro e w' (⟨p, v, h1, _⟩ | ⟨_, h2, h3⟩)
    · exact absurd ⟨p, h1⟩ hs
    · exact ⟨h2, h3⟩
  have HN := Lib.hid (fun W => new_some 6 (-1) W rfl)
  rw [place_of (-1) (by omega)] at HN
  clear h hs hn
  go_enter Try.func18, Try.ntmps18
  go_wp2_with fail
  refine (HO.out _).mono ?_
  rintro e w1 ⟨rfl, h1⟩
  have hbz := (h1.block w.heap.size (by simp)).trans (heap_alloc_new w _)
  have hz1 : w.heap.size < w1.heap.size := by have := h1.size; simp at this; omega
  have Hb1 := Lib.hid (((Below.refl w.heap.size w).alloc (Nat.le_refl _) _).trans (h1.mono (by simp)))
  have Hbz := Lib.hid hbz
  clear h1 hbz
  go_wp2_with fail
  refine (HN.out _).mono ?_
  rintro e w2 ⟨rfl, rfl⟩
  go_wp2_with fail
  refine (wrap_F 40 (-1) w1.heap.size _ rfl).mono ?_
  rw [place_of (-1) (by omega)]
  rintro e w3 ⟨rfl, rfl⟩
  have hbz3 := (Below.heap_alloc _ (.cells #[.int .i64 40, .int .i64 (-1), .iface 76 (.pointer (some ⟨w1.heap.size, 0, none⟩))] 78) _ (by simp; omega)).trans ((Below.heap_alloc w1 (.cells #[.int .i64 6, .int .i64 (-1), .nilIface] 78) _ hz1).trans Hbz.out)
  have HE : Hid (ErrTextK 5 ((w1.alloc (.cells #[.int .i64 6, .int .i64 (-1), .nilIface] 78)).alloc (.cells #[.int .i64 40, .int .i64 (-1), .iface 76 (.pointer (some ⟨w1.heap.size, 0, none⟩))] 78)) (.iface 76 (.pointer (some ⟨w1.heap.size + 1, 0, none⟩))) (overT 40 (-1) (wrongT (some (6, -1))))) := Lib.hid (by
    have h9 := errtext_wrap (a := -1) (ErrText.new w1 6 (-1) (by omega) (by omega)) (wrongT_ne (6, -1)) (by omega)
    simpa [wrongT] using h9)
  have Hb3 := Lib.hid ((Hb1.out.alloc (Nat.le_of_lt hz1) (.cells #[.int .i64 6, .int .i64 (-1), .nilIface] 78)).alloc (by simp; omega) (.cells #[.int .i64 40, .int .i64 (-1), .iface 76 (.pointer (some ⟨w1.heap.size, 0, none⟩))] 78))
  generalize hW : ((w1.alloc (.cells #[.int .i64 6, .int .i64 (-1), .nilIface] 78)).alloc (.cells #[.int .i64 40, .int .i64 (-1), .iface 76 (.pointer (some ⟨w1.heap.size, 0, none⟩))] 78)) = W at *
  clear hW
  have k0 := cell_at hbz3 0 rfl
  have k1 := cell_at hbz3 1 rfl
  have k2 := cell_at hbz3 2 rfl
  have k3 := cell_at hbz3 3 rfl
  have k4 := cell_at hbz3 4 rfl
  have k5 := cell_at hbz3 5 rfl
  have k6 := cell_at hbz3 6 rfl
  have k7 := cell_at hbz3 7 rfl
  have k8 := cell_at hbz3 8 rfl
  have f := fun i => free_at hbz3 i
  go_wp2_with fail
  clear k0 k1 k2 k3 k4 k5 k6 k7 k8 f
  show bodyPost _ _ _ _ _ (storeAll W w.heap.size [.int .u8 0, .int .u32 0, .int .u8 0, .slice none 0 0, .int .u8 0, .int .u8 0, .int .u16 0, .int .u16 0, .slice none 0 0] 0)
  have hfin := zero_same hbz3 rfl [.int .u8 0, .int .u32 0, .int .u8 0, .slice none 0 0, .int .u8 0, .int .u8 0, .int .u16 0, .int .u16 0, .slice none 0 0] rfl
  have HFin := (Lib.hid ⟨_, rfl, HE.out.storeAll hbz3 (by decide) [.int .u8 0, .int .u32 0, .int .u8 0, .slice none 0 0, .int .u8 0, .int .u8 0, .int .u16 0, .int .u16 0, .slice none 0 0], below_storeAll Hb3.out (Nat.le_refl _) [.int .u8 0, .int .u32 0, .int .u8 0, .slice none 0 0, .int .u8 0, .int .u8 0, .int .u16 0, .int .u16 0, .slice none 0 0] 0 (Nat.le_refl _)⟩ : Hid (DecBad (overT 40 (-1) (wrongT (some (6, -1)))) w (.returned (.tuple #[zeroC.value, .iface 76 (.pointer (some ⟨w1.heap.size + 1, 0, none⟩))])) (storeAll W w.heap.size [.int .u8 0, .int .u32 0, .int .u8 0, .slice none 0 0, .int .u8 0, .int .u8 0, .int .u16 0, .int .u16 0, .slice none 0 0] 0)))
  generalize storeAll W w.heap.size [.int .u8 0, .int .u32 0, .int .u8 0, .slice none 0 0, .int .u8 0, .int .u8 0, .int .u16 0, .int .u16 0, .slice none 0 0] 0 = Wf at *
  have r0 := cell_at hfin 0 rfl
  have r1 := cell_at hfin 1 rfl
  have r2 := cell_at hfin 2 rfl
  have r3 := cell_at hfin 3 rfl
  have r4 := cell_at hfin 4 rfl
  have r5 := cell_at hfin 5 rfl
  have r6 := cell_at hfin 6 rfl
  have r7 := cell_at hfin 7 rfl
  have r8 := cell_at hfin 8 rfl
  refine bodyPost_ret (v := .tuple #[.agg #[.int .u8 0, .int .u32 0, .int .u8 0, .slice none 0 0, .int .u8 0, .int .u8 0, .int .u16 0, .int .u16 0, .slice none 0 0], .iface 76 (.pointer (some ⟨w1.heap.size + 1, 0, none⟩))]) (by simp [results, Try.results18, go_sem, r0, r1, r2, r3, r4, r5, r6, r7, r8]) rfl ?_
  exact HFin.out

set_option maxHeartbeats 2000000 in
theorem decode_sealed (A : Option Addr) (l : List UInt8) (n cap : Nat) (hn : l.length = n) (w : World) (hl : n ≤ 1000000) (hcap : n ≤ cap) (h : Bytes w w.heap.size A l) (p : List UInt8) (hs : l = CrcP.seal4 p) :
    Calls Try.prog 18 #[.slice A n cap] w (DecPost (FrameP.dec p) w) := by
  have HO : Hid (∀ o, Calls Try.prog 40 #[.slice A n cap] (w.alloc o) (fun e w' => ∃ v g, e = .returned (.tuple #[v, .bool true]) ∧ Row w' (w.alloc o).heap.size 5 g v p ∧ Below (w.alloc o).heap.size (w.alloc o) w')) := Lib.hid fun o => by
    refine (open_any A l n cap hn (w.alloc o) (by omega) hcap ((h.alloc (Nat.le_refl _) o).more (by simp))).mono ?_
    rintro e w' (⟨q, v, h1, h2, h3, h4⟩ | ⟨h1, _⟩)
    · have e1 : q = p := by
        have e2 : CrcP.seal4 p = CrcP.seal4 q := hs.symm.trans h1
        have e3 := congrArg List.length e2
        rw [seal4_len, seal4_len] at e3
        unfold CrcP.seal4 at e2
        exact ((List.append_inj e2 (by omega)).1).symm
      subst e1
      exact ⟨v, _, h2, ⟨rfl, h3⟩, h4⟩
    · exact absurd ⟨p, hs⟩ h1
  have hpl : p.length ≤ 1000000 := by have := congrArg List.length hs; rw [seal4_len] at this; omega
  clear h hs hn
  obtain ⟨x0, h0⟩ : ∃ x, WireP.take p 0 false 1 = x := ⟨_, rfl⟩
  obtain ⟨x1, h1⟩ : ∃ x, WireP.take p x0.at_ x0.short 4 = x := ⟨_, rfl⟩
  obtain ⟨x2, h2⟩ : ∃ x, WireP.take p x1.at_ x1.short 1 = x := ⟨_, rfl⟩
  obtain ⟨x3, h3⟩ : ∃ x, WireP.take p x2.at_ x2.short 1 = x := ⟨_, rfl⟩
  obtain ⟨⟨D1, a1, s1⟩, hD1⟩ : ∃ D, FrameP.msgsD p x3.n x3.at_ x3.short = D := ⟨_, rfl⟩
  obtain ⟨y0, g0⟩ : ∃ x, WireP.take p a1 s1 1 = x := ⟨_, rfl⟩
  obtain ⟨y1, g1⟩ : ∃ x, WireP.take p y0.at_ y0.short 1 = x := ⟨_, rfl⟩
  obtain ⟨y2, g2⟩ : ∃ x, WireP.take p y1.at_ y1.short 2 = x := ⟨_, rfl⟩
  obtain ⟨y3, g3⟩ : ∃ x, WireP.take p y2.at_ y2.short 2 = x := ⟨_, rfl⟩
  obtain ⟨y4, g4⟩ : ∃ x, WireP.take p y3.at_ y3.short 1 = x := ⟨_, rfl⟩
  obtain ⟨⟨D2, a, s⟩, hD2⟩ : ∃ D, FrameP.recsD p y4.n y4.at_ y4.short = D := ⟨_, rfl⟩
  obtain ⟨hraw, hsh⟩ := raw_eq h0 h1 h2 h3 hD1 g0 g1 g2 g3 g4 hD2
  simp only at hraw hsh
  have Hraw := Lib.hid hraw
  have Hsh := Lib.hid hsh
  have q0 := take_lt1 p 0 false
  rw [h0] at q0
  have q1 := take_lt4 p x0.at_ x0.short
  rw [h1] at q1
  have q2 := take_lt1 p x1.at_ x1.short
  rw [h2] at q2
  have q3 := take_lt1 p x2.at_ x2.short
  rw [h3] at q3
  have q4 := take_lt1 p a1 s1
  rw [g0] at q4
  have q5 := take_lt1 p y0.at_ y0.short
  rw [g1] at q5
  have q6 := take_lt2 p y1.at_ y1.short
  rw [g2] at q6
  have q7 := take_lt2 p y2.at_ y2.short
  rw [g3] at q7
  have q8 := take_lt1 p y3.at_ y3.short
  rw [g4] at q8
  have hm0 : (x0.n : Int) % 256 = x0.n := by omega
  have K0 := Lib.hid h0
  have K1 := Lib.hid h1
  have K2 := Lib.hid h2
  have K3 := Lib.hid h3
  have KD1 := Lib.hid hD1
  have L0 := Lib.hid g0
  have L1 := Lib.hid g1
  have L2 := Lib.hid g2
  have L3 := Lib.hid g3
  have L4 := Lib.hid g4
  have KD2 := Lib.hid hD2
  clear h0 h1 h2 h3 hD1 g0 g1 g2 g3 g4 hD2 hraw hsh
  go_enter Try.func18, Try.ntmps18
  go_wp2_with fail
  refine (HO.out _).mono ?_
  rintro e w1 ⟨v1, g1, rfl, hr1, hb1⟩
  have hbz := (hb1.block w.heap.size (by simp)).trans (heap_alloc_new w _)
  have hz1 : w.heap.size < w1.heap.size := by have := hb1.size; simp at this; omega
  have Hb1 := Lib.hid (((Below.refl w.heap.size w).alloc (Nat.le_refl _) _).trans (hb1.mono (by simp)))
  have Hbz := Lib.hid hbz
  obtain ⟨A1, c1, rfl, -, -, hby1⟩ := hr1.bytes
  have HR := Lib.hid (read_new A1 p.length c1 p rfl (by omega) w1 hby1)
  clear hb1 hbz hr1 hby1 HO
  go_wp2_with fail
  refine HR.out.mono ?_
  rintro e w2 ⟨br, A2, c2, rfl, hbr, hA2, hrd, hb2⟩
  have Hb2 := Lib.hid hb2
  have HA2 := Lib.hid (fun k hk => (hA2 k hk).2)
  have HT2 := Lib.hid (TakeIn.start hrd)
  have Hbr := Lib.hid (show w1.heap.size ≤ br ∧ br < w2.heap.size from ⟨hbr, hrd.lt⟩)
  clear hbr hA2 hrd hb2 HR
  go_wp2_with fail
  refine (HT2.out.take 1).mono ?_
  rw [K0.out]
  rintro e w3 ⟨rfl, ht3⟩
  have HT3 := Lib.hid ht3
  have HA3 : Hid (∀ k, blockOf A2 = some k → k < w3.heap.size) := Lib.hid fun k hk => Nat.lt_of_lt_of_le (HA2.out k hk) ht3.2.size
  clear ht3
  go_wp2_with fail
  refine (takeStamp_any br A2 _ c2 p _ _ w3 HT3.out.1 HA3.out x1 x2 K1.out K2.out).mono ?_
  rintro e w4 ⟨rfl, ht4⟩
  have HT4 := Lib.hid ht4
  have HA4 : Hid (∀ k, blockOf A2 = some k → k < w4.heap.size) := Lib.hid fun k hk => Nat.lt_of_lt_of_le (HA3.out k hk) ht4.2.size
  clear ht4
  go_wp2_with fail
  refine (takeMessages_any br A2 _ c2 p _ _ w4 HT4.out.1 HA4.out x3 K3.out).mono ?_
  rw [KD1.out]
  rintro e w5 ⟨v5, ms, rfl, hg5, hml5, hpl5⟩
  obtain ⟨A5, c5, rfl, -, -⟩ := MsgsIn.own hg5.own (fun y hy => (hg5.ok y hy).1)
  have HG5 := Lib.hid hg5
  have Hml5 := Lib.hid hml5
  have Hpl5 := Lib.hid hpl5
  have HA5 : Hid (∀ k, blockOf A2 = some k → k < w5.heap.size) := Lib.hid fun k hk => Nat.lt_of_lt_of_le (HA4.out k hk) hg5.take.2.size
  clear hg5 hml5 hpl5
  go_wp2_with fail
  refine (takeCommand_any br A2 _ c2 p _ _ w5 HG5.out.take.1 HA5.out y0 y1 y2 y3 L0.out L1.out L2.out L3.out).mono ?_
  rintro e w6 ⟨rfl, ht6⟩
  have hbr4 : br < w4.heap.size := HT4.out.1.lt
  have HG6 := Lib.hid (HG5.out.take1 hbr4 ⟨ht6.1, HG5.out.take.2.trans ht6.2 (fun _ e => .inl e)⟩ ht6.2)
  have HT6 := Lib.hid ht6
  have HA6 : Hid (∀ k, blockOf A2 = some k → k < w6.heap.size) := Lib.hid fun k hk => Nat.lt_of_lt_of_le (HA5.out k hk) ht6.2.size
  clear ht6
  go_wp2_with fail
  refine (takeRecords_any br A2 _ c2 p _ _ w6 HT6.out.1 HA6.out y4 L4.out).mono ?_
  rw [KD2.out]
  rintro e w7 ⟨v7, rs, rfl, hg7, hrl7, hpl7⟩
  have HG7 := Lib.hid (HG6.out.take1 hbr4 ⟨hg7.take.1, HG6.out.take.2.trans hg7.take.2 (fun _ e => .inl e)⟩ hg7.take.2)
  obtain ⟨A7, c7, rfl, hle7, hin7⟩ := RecsIn.own hg7.own
  have hrs := hg7.fits
  have HFr : Hid (FrameIn w7 ⟨x0.n, x1.n, x2.n, A5, ms.length, c5, ms, y0.n, y1.n, y2.n, y3.n, A7, rs.length, c7, rs⟩) := Lib.hid (by
    obtain ⟨A', c', e', hle', hin'⟩ := MsgsIn.own HG7.out.own (fun y hy => (HG7.out.ok y hy).1)
    injection e' with e1 _ e3
    subst e1 e3
    have := Hml5.out
    exact ⟨hin', rfl, hle', by simp only; omega, hin7, rfl, hle7, by simp only; omega, ⟨q0, q1, q2, q4, q5, q6, q7, hrs⟩⟩)
  have HHi : Hid (FrameHi w4.heap.size ⟨x0.n, x1.n, x2.n, A5, ms.length, c5, ms, y0.n, y1.n, y2.n, y3.n, A7, rs.length, c7, rs⟩) := Lib.hid (by
    refine ⟨fun _ k hk => ?_, fun y hy hd k hk => ((HG7.out.ok y hy).2 hd k hk).1, fun _ k hk => ?_⟩
    · exact (HG7.out.own.lt k (by rw [ownBlock_slice]; exact hk)).1
    · have h1 := (hg7.own.lt k (by rw [ownBlock_slice]; exact hk)).1
      have h2 := HG6.out.take.2.size
      omega)
  have Hz4 : Hid (w.heap.size < w4.heap.size) := Lib.hid (by have h1 := Hb2.out.size; have h2 := HT3.out.2.size; have h3 := HT4.out.2.size; omega)
  have HP : Hid (s = false → (FrameC.plain ⟨x0.n, x1.n, x2.n, A5, ms.length, c5, ms, y0.n, y1.n, y2.n, y3.n, A7, rs.length, c7, rs⟩) = (FrameP.raw p).1) := Lib.hid fun hs => by
    rw [Hraw.out]
    simp only [FrameC.plain]
    rw [Hpl5.out (Hsh.out hs), hpl7 hs]
  have Hrd7 := Lib.hid hg7.take.1
  have HB7 : Hid (Below w1.heap.size w2 w7) := Lib.hid (by
    have h1 := Hbr.out.1
    have h9 := (((HT3.out.2.trans HT4.out.2 (fun _ e => .inl e)).trans HG5.out.take.2 (fun _ e => .inl e)).trans HT6.out.2 (fun _ e => .inl e)).trans hg7.take.2 (fun _ e => .inl e)
    exact h9.below Hb2.out.size (fun k e => by have e : k = br := e; omega))
  clear hg7 hrl7 hpl7 hle7 hin7 hrs
  have hz7 : w.heap.size < w7.heap.size := by have h1 := Hb2.out.size; have h2 := HB7.out.size; omega
  have HBZ : Hid (∀ W, Below w7.heap.size w7 W → W.heap[w.heap.size]? = _) := Lib.hid fun W hW => (hW.block w.heap.size hz7).trans ((HB7.out.block w.heap.size hz1).trans ((Hb2.out.block w.heap.size hz1).trans Hbz.out))
  have HBW : Hid (∀ W, Below w7.heap.size w7 W → Below w.heap.size w W) := Lib.hid fun W hW => (Hb1.out.trans ((Hb2.out.trans HB7.out).mono (Nat.le_of_lt hz1))).trans (hW.mono (Nat.le_of_lt hz7))
  have HEn := Lib.hid (fun W hW => end_any br A2 _ c2 p a s W (Hrd7.out.below hW))
  have hpla := Hrd7.out.place
  clear HT2 HT3 HT4 HT6 HG5 HG6 HG7 HA2 HA3 HA4 HA5 HA6 K0 K1 K2 K3 KD1 L0 L1 L2 L3 L4 KD2 Hb1 Hb2 Hbz HB7 Hpl5 Hsh hm0 q3 q8
  go_wp2_with fail
  refine (HEn.out _ ((Below.refl _ _).alloc (Nat.le_refl _) _)).mono ?_
  rintro e w9 ⟨ev, rfl, hx9, hok9, hb9⟩
  have hb79 : Below w7.heap.size w7 w9 := ((Below.refl w7.heap.size w7).alloc (Nat.le_refl _) _).trans (hb9.mono (by simp))
  have hz9 : w.heap.size < w9.heap.size := by have := hb79.size; omega
  have Hbz9 := Lib.hid (HBZ.out w9 hb79)
  have Hb9 := Lib.hid (HBW.out w9 hb79)
  have Hrd9 := Lib.hid (Hrd7.out.below hb79)
  have hbf := (hb9.block w7.heap.size (by simp)).trans (heap_alloc_new w7 _)
  have HX9 := Lib.hid hx9
  cases s with
  | true =>
    simp only [Bool.not_true, Bool.false_and, Bool.false_eq_true, if_false] at hok9
    obtain ⟨b, rfl⟩ := hok9
    have HX : Hid (ErrTextK 4 w9 (.iface 76 (.pointer (some ⟨b, 0, none⟩))) (wrongT (some (4, (a : Int))))) := HX9
    have hdec : FrameP.dec p = .inr (a, (4, (a : Int))) := by
      unfold FrameP.dec
      rw [Hraw.out]
      simp
    have Hdec := Lib.hid hdec
    clear hdec hx9 hb9 hb79 hbf HX9 Hrd7 HFr HP HBZ HBW HEn Hraw
    go_wp2_with fail
    refine (at_any' br A2 _ c2 p a _ w9 Hrd9.out).mono ?_
    rintro e w10 ⟨rfl, rfl⟩
    go_wp2_with fail
    refine (wrap_F 40 (a : Int) b w9 rfl).mono ?_
    rw [place_of (a : Int) (by omega)]
    rintro e w11 ⟨rfl, rfl⟩
    have hbz9 := (Below.heap_alloc w9 (.cells #[.int .i64 40, .int .i64 (a : Int), .iface 76 (.pointer (some ⟨b, 0, none⟩))] 78) w.heap.size hz9).trans Hbz9.out
    have HE := Lib.hid (errtext_wrap (a := (a : Int)) HX.out (wrongT_ne (4, (a : Int))) (by omega))
    have Hb9' := Lib.hid (Hb9.out.alloc (Nat.le_of_lt hz9) (.cells #[.int .i64 40, .int .i64 (a : Int), .iface 76 (.pointer (some ⟨b, 0, none⟩))] 78))
    generalize hW : w9.alloc (.cells #[.int .i64 40, .int .i64 (a : Int), .iface 76 (.pointer (some ⟨b, 0, none⟩))] 78) = W at *
    clear hW
    have k0 := cell_at hbz9 0 rfl
    have k1 := cell_at hbz9 1 rfl
    have k2 := cell_at hbz9 2 rfl
    have k3 := cell_at hbz9 3 rfl
    have k4 := cell_at hbz9 4 rfl
    have k5 := cell_at hbz9 5 rfl
    have k6 := cell_at hbz9 6 rfl
    have k7 := cell_at hbz9 7 rfl
    have k8 := cell_at hbz9 8 rfl
    have f := fun i => free_at hbz9 i
    go_wp2_with fail
    clear k0 k1 k2 k3 k4 k5 k6 k7 k8 f
    show bodyPost _ _ _ _ _ (storeAll W w.heap.size [.int .u8 0, .int .u32 0, .int .u8 0, .slice none 0 0, .int .u8 0, .int .u8 0, .int .u16 0, .int .u16 0, .slice none 0 0] 0)
    have hfin := zero_same hbz9 rfl [.int .u8 0, .int .u32 0, .int .u8 0, .slice none 0 0, .int .u8 0, .int .u8 0, .int .u16 0, .int .u16 0, .slice none 0 0] rfl
    have HFin := (Lib.hid ⟨_, rfl, HE.out.storeAll hbz9 (by decide) [.int .u8 0, .int .u32 0, .int .u8 0, .slice none 0 0, .int .u8 0, .int .u8 0, .int .u16 0, .int .u16 0, .slice none 0 0], below_storeAll Hb9'.out (Nat.le_refl _) [.int .u8 0, .int .u32 0, .int .u8 0, .slice none 0 0, .int .u8 0, .int .u8 0, .int .u16 0, .int .u16 0, .slice none 0 0] 0 (Nat.le_refl _)⟩ : Hid (DecBad (overT 40 (a : Int) (wrongT (some (4, (a : Int))))) w (.returned (.tuple #[zeroC.value, .iface 76 (.pointer (some ⟨w9.heap.size, 0, none⟩))])) (storeAll W w.heap.size [.int .u8 0, .int .u32 0, .int .u8 0, .slice none 0 0, .int .u8 0, .int .u8 0, .int .u16 0, .int .u16 0, .slice none 0 0] 0)))
    generalize storeAll W w.heap.size [.int .u8 0, .int .u32 0, .int .u8 0, .slice none 0 0, .int .u8 0, .int .u8 0, .int .u16 0, .int .u16 0, .slice none 0 0] 0 = Wf at *
    have r0 := cell_at hfin 0 rfl
    have r1 := cell_at hfin 1 rfl
    have r2 := cell_at hfin 2 rfl
    have r3 := cell_at hfin 3 rfl
    have r4 := cell_at hfin 4 rfl
    have r5 := cell_at hfin 5 rfl
    have r6 := cell_at hfin 6 rfl
    have r7 := cell_at hfin 7 rfl
    have r8 := cell_at hfin 8 rfl
    refine bodyPost_ret (v := .tuple #[.agg #[.int .u8 0, .int .u32 0, .int .u8 0, .slice none 0 0, .int .u8 0, .int .u8 0, .int .u16 0, .int .u16 0, .slice none 0 0], .iface 76 (.pointer (some ⟨w9.heap.size, 0, none⟩))]) (by simp [results, Try.results18, go_sem, r0, r1, r2, r3, r4, r5, r6, r7, r8]) rfl ?_
    rw [Hdec.out]; exact HFin.out
  | false =>
    by_cases hlt : a < p.length
    · have hok8 : (!false && decide (p.length ≤ a)) = false := by simp; omega
      rw [hok8] at hok9
      simp only [Bool.false_eq_true, if_false] at hok9
      obtain ⟨b, rfl⟩ := hok9
      have HX : Hid (ErrTextK 4 w9 (.iface 76 (.pointer (some ⟨b, 0, none⟩))) (wrongT (some (5, (a : Int))))) := Lib.hid (by
        have h9 := HX9.out
        rw [show endText false a p.length = atT 5 a by simp [endText, hlt]] at h9
        exact h9)
      have hdec : FrameP.dec p = .inr (a, (5, (a : Int))) := by
        unfold FrameP.dec
        rw [Hraw.out]
        simp [hlt]
      have Hdec := Lib.hid hdec
      clear hdec hx9 hb9 hb79 hbf HX9 Hrd7 HFr HP HBZ HBW HEn Hraw hok8
      go_wp2_with fail
      refine (at_any' br A2 _ c2 p a _ w9 Hrd9.out).mono ?_
      rintro e w10 ⟨rfl, rfl⟩
      go_wp2_with fail
      refine (wrap_F 40 (a : Int) b w9 rfl).mono ?_
      rw [place_of (a : Int) (by omega)]
      rintro e w11 ⟨rfl, rfl⟩
      have hbz9 := (Below.heap_alloc w9 (.cells #[.int .i64 40, .int .i64 (a : Int), .iface 76 (.pointer (some ⟨b, 0, none⟩))] 78) w.heap.size hz9).trans Hbz9.out
      have HE := Lib.hid (errtext_wrap (a := (a : Int)) HX.out (wrongT_ne (5, (a : Int))) (by omega))
      have Hb9' := Lib.hid (Hb9.out.alloc (Nat.le_of_lt hz9) (.cells #[.int .i64 40, .int .i64 (a : Int), .iface 76 (.pointer (some ⟨b, 0, none⟩))] 78))
      generalize hW : w9.alloc (.cells #[.int .i64 40, .int .i64 (a : Int), .iface 76 (.pointer (some ⟨b, 0, none⟩))] 78) = W at *
      clear hW
      have k0 := cell_at hbz9 0 rfl
      have k1 := cell_at hbz9 1 rfl
      have k2 := cell_at hbz9 2 rfl
      have k3 := cell_at hbz9 3 rfl
      have k4 := cell_at hbz9 4 rfl
      have k5 := cell_at hbz9 5 rfl
      have k6 := cell_at hbz9 6 rfl
      have k7 := cell_at hbz9 7 rfl
      have k8 := cell_at hbz9 8 rfl
      have f := fun i => free_at hbz9 i
      go_wp2_with fail
      clear k0 k1 k2 k3 k4 k5 k6 k7 k8 f
      show bodyPost _ _ _ _ _ (storeAll W w.heap.size [.int .u8 0, .int .u32 0, .int .u8 0, .slice none 0 0, .int .u8 0, .int .u8 0, .int .u16 0, .int .u16 0, .slice none 0 0] 0)
      have hfin := zero_same hbz9 rfl [.int .u8 0, .int .u32 0, .int .u8 0, .slice none 0 0, .int .u8 0, .int .u8 0, .int .u16 0, .int .u16 0, .slice none 0 0] rfl
      have HFin := (Lib.hid ⟨_, rfl, HE.out.storeAll hbz9 (by decide) [.int .u8 0, .int .u32 0, .int .u8 0, .slice none 0 0, .int .u8 0, .int .u8 0, .int .u16 0, .int .u16 0, .slice none 0 0], below_storeAll Hb9'.out (Nat.le_refl _) [.int .u8 0, .int .u32 0, .int .u8 0, .slice none 0 0, .int .u8 0, .int .u8 0, .int .u16 0, .int .u16 0, .slice none 0 0] 0 (Nat.le_refl _)⟩ : Hid (DecBad (overT 40 (a : Int) (wrongT (some (5, (a : Int))))) w (.returned (.tuple #[zeroC.value, .iface 76 (.pointer (some ⟨w9.heap.size, 0, none⟩))])) (storeAll W w.heap.size [.int .u8 0, .int .u32 0, .int .u8 0, .slice none 0 0, .int .u8 0, .int .u8 0, .int .u16 0, .int .u16 0, .slice none 0 0] 0)))
      generalize storeAll W w.heap.size [.int .u8 0, .int .u32 0, .int .u8 0, .slice none 0 0, .int .u8 0, .int .u8 0, .int .u16 0, .int .u16 0, .slice none 0 0] 0 = Wf at *
      have r0 := cell_at hfin 0 rfl
      have r1 := cell_at hfin 1 rfl
      have r2 := cell_at hfin 2 rfl
      have r3 := cell_at hfin 3 rfl
      have r4 := cell_at hfin 4 rfl
      have r5 := cell_at hfin 5 rfl
      have r6 := cell_at hfin 6 rfl
      have r7 := cell_at hfin 7 rfl
      have r8 := cell_at hfin 8 rfl
      refine bodyPost_ret (v := .tuple #[.agg #[.int .u8 0, .int .u32 0, .int .u8 0, .slice none 0 0, .int .u8 0, .int .u8 0, .int .u16 0, .int .u16 0, .slice none 0 0], .iface 76 (.pointer (some ⟨w9.heap.size, 0, none⟩))]) (by simp [results, Try.results18, go_sem, r0, r1, r2, r3, r4, r5, r6, r7, r8]) rfl ?_
      rw [Hdec.out]; exact HFin.out
    · have hok8 : (!false && decide (p.length ≤ a)) = true := by simp; omega
      rw [hok8] at hok9
      simp only [if_true] at hok9
      subst hok9
      have hd1 : ∀ e, FrameP.chk (FrameP.raw p).1 = some e → FrameP.dec p = .inr (a, e) := fun e he => by
        unfold FrameP.dec
        rw [he, Hraw.out]
        simp [hlt]
      have hd2 : FrameP.chk (FrameP.raw p).1 = none → FrameP.dec p = .inl (FrameP.raw p).1 := fun he => by
        unfold FrameP.dec
        rw [he, Hraw.out]
        simp [hlt]
      rw [← HP.out rfl] at hd1 hd2
      have Hd1 := Lib.hid hd1
      have Hd2 := Lib.hid hd2
      clear hd1 hd2
      have HFr9 := Lib.hid (HFr.out.below hb79)
      have HCk := Lib.hid (check_any ⟨x0.n, x1.n, x2.n, A5, ms.length, c5, ms, y0.n, y1.n, y2.n, y3.n, A7, rs.length, c7, rs⟩ w9 HFr9.out)
      simp only [FrameC.value] at HCk
      have k0 := cell_at hbf 0 rfl
      have k1 := cell_at hbf 1 rfl
      have k2 := cell_at hbf 2 rfl
      have k3 := cell_at hbf 3 rfl
      have k4 := cell_at hbf 4 rfl
      have k5 := cell_at hbf 5 rfl
      have k6 := cell_at hbf 6 rfl
      have k7 := cell_at hbf 7 rfl
      have k8 := cell_at hbf 8 rfl
      have Hbf := Lib.hid hbf
      have Hz7 := Lib.hid (show w7.heap.size < w9.heap.size by have := hb9.size; simp at this; omega)
      clear hx9 hb9 hb79 hbf HX9 HP HBZ HBW HEn Hraw hok8
      cases hchk : FrameP.chk (FrameC.plain ⟨x0.n, x1.n, x2.n, A5, ms.length, c5, ms, y0.n, y1.n, y2.n, y3.n, A7, rs.length, c7, rs⟩) with
      | some e =>
        obtain ⟨ec, ep⟩ := e
        have Hdec := Lib.hid (Hd1.out _ hchk)
        rw [hchk] at HCk
        clear hchk Hd1 Hd2
        go_wp2_with fail
        refine HCk.out.mono ?_
        clear k0 k1 k2 k3 k4 k5 k6 k7 k8
        rintro e w8 ⟨v8, rfl, hx8, ⟨b, rfl⟩, hb8⟩
        have HX : Hid (ErrTextK 4 w8 (.iface 76 (.pointer (some ⟨b, 0, none⟩))) (wrongT (some (ec, ep)))) := Lib.hid hx8
        replace Hbz9 := Lib.hid ((hb8.block w.heap.size hz9).trans Hbz9.out)
        replace Hb9 := Lib.hid (Hb9.out.trans (hb8.mono (Nat.le_of_lt hz9)))
        replace Hrd9 := Lib.hid (Hrd9.out.below hb8)
        have hz8 : w.heap.size < w8.heap.size := by have := hb8.size; omega
        clear hx8 hb8 hz9
        rename w.heap.size < w8.heap.size => hz9
        go_wp2_with fail
        refine (at_any' br A2 _ c2 p a _ w8 Hrd9.out).mono ?_
        rintro e w10 ⟨rfl, rfl⟩
        go_wp2_with fail
        refine (wrap_F 40 (a : Int) b w8 rfl).mono ?_
        rw [place_of (a : Int) (by omega)]
        rintro e w11 ⟨rfl, rfl⟩
        have hbz9 := (Below.heap_alloc w8 (.cells #[.int .i64 40, .int .i64 (a : Int), .iface 76 (.pointer (some ⟨b, 0, none⟩))] 78) w.heap.size hz9).trans Hbz9.out
        have HE := Lib.hid (errtext_wrap (a := (a : Int)) HX.out (wrongT_ne (ec, ep)) (by omega))
        have Hb9' := Lib.hid (Hb9.out.alloc (Nat.le_of_lt hz9) (.cells #[.int .i64 40, .int .i64 (a : Int), .iface 76 (.pointer (some ⟨b, 0, none⟩))] 78))
        generalize hW : w8.alloc (.cells #[.int .i64 40, .int .i64 (a : Int), .iface 76 (.pointer (some ⟨b, 0, none⟩))] 78) = W at *
        clear hW
        have k0 := cell_at hbz9 0 rfl
        have k1 := cell_at hbz9 1 rfl
        have k2 := cell_at hbz9 2 rfl
        have k3 := cell_at hbz9 3 rfl
        have k4 := cell_at hbz9 4 rfl
        have k5 := cell_at hbz9 5 rfl
        have k6 := cell_at hbz9 6 rfl
        have k7 := cell_at hbz9 7 rfl
        have k8 := cell_at hbz9 8 rfl
        have f := fun i => free_at hbz9 i
        go_wp2_with fail
        clear k0 k1 k2 k3 k4 k5 k6 k7 k8 f
        show bodyPost _ _ _ _ _ (storeAll W w.heap.size [.int .u8 0, .int .u32 0, .int .u8 0, .slice none 0 0, .int .u8 0, .int .u8 0, .int .u16 0, .int .u16 0, .slice none 0 0] 0)
        have hfin := zero_same hbz9 rfl [.int .u8 0, .int .u32 0, .int .u8 0, .slice none 0 0, .int .u8 0, .int .u8 0, .int .u16 0, .int .u16 0, .slice none 0 0] rfl
        have HFin := (Lib.hid ⟨_, rfl, HE.out.storeAll hbz9 (by decide) [.int .u8 0, .int .u32 0, .int .u8 0, .slice none 0 0, .int .u8 0, .int .u8 0, .int .u16 0, .int .u16 0, .slice none 0 0], below_storeAll Hb9'.out (Nat.le_refl _) [.int .u8 0, .int .u32 0, .int .u8 0, .slice none 0 0, .int .u8 0, .int .u8 0, .int .u16 0, .int .u16 0, .slice none 0 0] 0 (Nat.le_refl _)⟩ : Hid (DecBad (overT 40 (a : Int) (wrongT (some (ec, ep)))) w (.returned (.tuple #[zeroC.value, .iface 76 (.pointer (some ⟨w8.heap.size, 0, none⟩))])) (storeAll W w.heap.size [.int .u8 0, .int .u32 0, .int .u8 0, .slice none 0 0, .int .u8 0, .int .u8 0, .int .u16 0, .int .u16 0, .slice none 0 0] 0)))
        generalize storeAll W w.heap.size [.int .u8 0, .int .u32 0, .int .u8 0, .slice none 0 0, .int .u8 0, .int .u8 0, .int .u16 0, .int .u16 0, .slice none 0 0] 0 = Wf at *
        have r0 := cell_at hfin 0 rfl
        have r1 := cell_at hfin 1 rfl
        have r2 := cell_at hfin 2 rfl
        have r3 := cell_at hfin 3 rfl
        have r4 := cell_at hfin 4 rfl
        have r5 := cell_at hfin 5 rfl
        have r6 := cell_at hfin 6 rfl
        have r7 := cell_at hfin 7 rfl
        have r8 := cell_at hfin 8 rfl
        refine bodyPost_ret (v := .tuple #[.agg #[.int .u8 0, .int .u32 0, .int .u8 0, .slice none 0 0, .int .u8 0, .int .u8 0, .int .u16 0, .int .u16 0, .slice none 0 0], .iface 76 (.pointer (some ⟨w8.heap.size, 0, none⟩))]) (by simp [results, Try.results18, go_sem, r0, r1, r2, r3, r4, r5, r6, r7, r8]) rfl ?_
        rw [Hdec.out]; exact HFin.out
      | none =>
        have Hdec := Lib.hid (Hd2.out hchk)
        rw [hchk] at HCk
        clear hchk Hd1 Hd2
        go_wp2_with fail
        refine HCk.out.mono ?_
        clear k0 k1 k2 k3 k4 k5 k6 k7 k8
        rintro e w8 ⟨v8, rfl, hx8, rfl, hb8⟩
        have hbz9 := (hb8.block w.heap.size hz9).trans Hbz9.out
        have hbf8 := (hb8.block w7.heap.size Hz7.out).trans Hbf.out
        have Hb9' := Lib.hid (Hb9.out.trans (hb8.mono (Nat.le_of_lt hz9)))
        have HFr8 := Lib.hid (HFr9.out.below hb8)
        clear hx8 hb8
        have j0 := cell_at hbf8 0 rfl
        have j1 := cell_at hbf8 1 rfl
        have j2 := cell_at hbf8 2 rfl
        have j3 := cell_at hbf8 3 rfl
        have j4 := cell_at hbf8 4 rfl
        have j5 := cell_at hbf8 5 rfl
        have j6 := cell_at hbf8 6 rfl
        have j7 := cell_at hbf8 7 rfl
        have j8 := cell_at hbf8 8 rfl
        have k0 := cell_at hbz9 0 rfl
        have k1 := cell_at hbz9 1 rfl
        have k2 := cell_at hbz9 2 rfl
        have k3 := cell_at hbz9 3 rfl
        have k4 := cell_at hbz9 4 rfl
        have k5 := cell_at hbz9 5 rfl
        have k6 := cell_at hbz9 6 rfl
        have k7 := cell_at hbz9 7 rfl
        have k8 := cell_at hbz9 8 rfl
        have f := fun i => free_at hbz9 i
        go_wp2_with fail
        clear j0 j1 j2 j3 j4 j5 j6 j7 j8 hbf8
        clear k0 k1 k2 k3 k4 k5 k6 k7 k8 f
        show bodyPost _ _ _ _ _ (storeAll w8 w.heap.size [.int .u8 (x0.n : Nat), .int .u32 (x1.n : Nat), .int .u8 (x2.n : Nat), .slice A5 ms.length c5, .int .u8 (y0.n : Nat), .int .u8 (y1.n : Nat), .int .u16 (y2.n : Nat), .int .u16 (y3.n : Nat), .slice A7 rs.length c7] 0)
        have hfin := zero_same hbz9 rfl [.int .u8 (x0.n : Nat), .int .u32 (x1.n : Nat), .int .u8 (x2.n : Nat), .slice A5 ms.length c5, .int .u8 (y0.n : Nat), .int .u8 (y1.n : Nat), .int .u16 (y2.n : Nat), .int .u16 (y3.n : Nat), .slice A7 rs.length c7] rfl
        have HFin := (Lib.hid ⟨_, rfl, ⟨⟨x0.n, x1.n, x2.n, A5, ms.length, c5, ms, y0.n, y1.n, y2.n, y3.n, A7, rs.length, c7, rs⟩, rfl, HFr8.out.apart HHi.out (storeAll_apart w.heap.size [.int .u8 (x0.n : Nat), .int .u32 (x1.n : Nat), .int .u8 (x2.n : Nat), .slice A5 ms.length c5, .int .u8 (y0.n : Nat), .int .u8 (y1.n : Nat), .int .u16 (y2.n : Nat), .int .u16 (y3.n : Nat), .slice A7 rs.length c7] 0 w8) (fun k e => by rw [e]; exact Hz4.out), rfl⟩, below_storeAll Hb9'.out (Nat.le_refl _) [.int .u8 (x0.n : Nat), .int .u32 (x1.n : Nat), .int .u8 (x2.n : Nat), .slice A5 ms.length c5, .int .u8 (y0.n : Nat), .int .u8 (y1.n : Nat), .int .u16 (y2.n : Nat), .int .u16 (y3.n : Nat), .slice A7 rs.length c7] 0 (Nat.le_refl _)⟩ : Hid (DecGood (FrameC.plain ⟨x0.n, x1.n, x2.n, A5, ms.length, c5, ms, y0.n, y1.n, y2.n, y3.n, A7, rs.length, c7, rs⟩) w (.returned (.tuple #[.agg #[.int .u8 (x0.n : Nat), .int .u32 (x1.n : Nat), .int .u8 (x2.n : Nat), .slice A5 ms.length c5, .int .u8 (y0.n : Nat), .int .u8 (y1.n : Nat), .int .u16 (y2.n : Nat), .int .u16 (y3.n : Nat), .slice A7 rs.length c7], .nilIface])) (storeAll w8 w.heap.size [.int .u8 (x0.n : Nat), .int .u32 (x1.n : Nat), .int .u8 (x2.n : Nat), .slice A5 ms.length c5, .int .u8 (y0.n : Nat), .int .u8 (y1.n : Nat), .int .u16 (y2.n : Nat), .int .u16 (y3.n : Nat), .slice A7 rs.length c7] 0)))
        generalize storeAll w8 w.heap.size [.int .u8 (x0.n : Nat), .int .u32 (x1.n : Nat), .int .u8 (x2.n : Nat), .slice A5 ms.length c5, .int .u8 (y0.n : Nat), .int .u8 (y1.n : Nat), .int .u16 (y2.n : Nat), .int .u16 (y3.n : Nat), .slice A7 rs.length c7] 0 = Wf at *
        have r0 := cell_at hfin 0 rfl
        have r1 := cell_at hfin 1 rfl
        have r2 := cell_at hfin 2 rfl
        have r3 := cell_at hfin 3 rfl
        have r4 := cell_at hfin 4 rfl
        have r5 := cell_at hfin 5 rfl
        have r6 := cell_at hfin 6 rfl
        have r7 := cell_at hfin 7 rfl
        have r8 := cell_at hfin 8 rfl
        refine bodyPost_ret (v := .tuple #[.agg #[.int .u8 (x0.n : Nat), .int .u32 (x1.n : Nat), .int .u8 (x2.n : Nat), .slice A5 ms.length c5, .int .u8 (y0.n : Nat), .int .u8 (y1.n : Nat), .int .u16 (y2.n : Nat), .int .u16 (y3.n : Nat), .slice A7 rs.length c7], .nilIface]) (by simp [results, Try.results18, go_sem, r0, r1, r2, r3, r4, r5, r6, r7, r8]) rfl ?_
        rw [Hdec.out]; exact HFin.out
end Go.Proofs.Ytmhpdmpihmahdaa
