/- Contract of the document's Decode at bytes in memory. Conditions: where the bytes lie; at most 5004 of them. -/
import Derived.Test.YtmhpdmpihmahdaaFraRa
import Derived.Test.YtmhpdmpihmahdaaFraO
import Derived.Test.YtmhpdmpihmahdaaFraI
import Derived.Deep.CutBlock
import Derived.Deep.RegionLaw
namespace Go.Proofs.Ytmhpdmpihmahdaa
open Go.RowKit
set_option maxRecDepth 100000

def RefDecBad (t : List UInt8) (w : World) (e : Ending) (w' : World) : Prop := e = .returned (.tuple #[zeroC.value, strV t]) ∧ Below w.heap.size w w'
def RefDecGood (f : FrameP.Fr) (w : World) (e : Ending) (w' : World) : Prop := ∃ v, e = .returned (.tuple #[v, .string ⟨#[]⟩]) ∧ FrameAt w' v f ∧ Below w.heap.size w w'
def RefDecPost : FrameP.Fr ⊕ (Nat × FrameP.Wrong) → World → Ending → World → Prop
  | .inl f => RefDecGood f
  | .inr (a, c) => RefDecBad (overT 40 a (wrongT (some c)))

set_option maxHeartbeats 1000000 in
theorem refdecode_unsealed (A : Option Addr) (l : List UInt8) (n cap : Nat) (hn : l.length = n) (w : World) (hl : n ≤ 1000000) (hcap : n ≤ cap) (h : Bytes w w.heap.size A l) (hs : ¬ isSealed l) :
    Calls Try.prog 19 #[.slice A n cap] w (RefDecBad (overT 40 (-1) (wrongT (some (6, -1)))) w) := by
  have HO : Hid (∀ o, Calls Try.prog 49 #[.slice A n cap] (w.alloc o) (fun e w' => e = .returned (.tuple #[.slice none 0 0, .bool false]) ∧ Below (w.alloc o).heap.size (w.alloc o) w')) := Lib.hid fun o => by
    refine (refopen_any A l n cap hn (w.alloc o) (by omega) hcap ((h.alloc (Nat.le_refl _) o).more (by simp))).mono ?_
    rintro e w' (⟨p, v, h1, _⟩ | ⟨_, h2, h3⟩)
    · exact absurd ⟨p, h1⟩ hs
    · exact ⟨h2, h3⟩
  have HA := Lib.hid (fun W => at_any 6 (-1) W (by omega) (by omega))
  have HV := Lib.hid (fun W => over_any 40 (-1) (wrongT (some (6, -1))) W (by omega) (by omega) (by have := wrongT_len (6, -1); omega))
  unfold RefDecBad
  have e6 : wrongT (some (6, -1)) = atT 6 (-1) := rfl
  rw [e6] at HV ⊢
  generalize overT 40 (-1) (atT 6 (-1)) = T at *
  generalize atT 6 (-1) = T6 at *
  unfold strV at *
  clear h hs hn e6
  go_enter Try.func19, Try.ntmps19
  go_wp2_with fail
  refine (HO.out _).mono ?_
  rintro e w1 ⟨rfl, h1⟩
  have hbz := (h1.block w.heap.size (by simp)).trans (heap_alloc_new w _)
  have hz1 : w.heap.size < w1.heap.size := by have := h1.size; simp at this; omega
  have Hb1 := Lib.hid (((Below.refl w.heap.size w).alloc (Nat.le_refl _) _).trans (h1.mono (by simp)))
  have Hbz := Lib.hid hbz
  clear h1 hbz
  go_wp2_with fail
  refine (HA.out _).mono ?_
  rintro e w2 ⟨rfl, hb2⟩
  have Hb2 := Lib.hid hb2
  clear hb2
  go_wp2_with fail
  refine (HV.out _).mono ?_
  rintro e W ⟨rfl, hb3⟩
  have hbz3 := (hb3.block w.heap.size (Nat.lt_of_lt_of_le hz1 Hb2.out.size)).trans ((Hb2.out.block w.heap.size hz1).trans Hbz.out)
  have Hb3 := Lib.hid (Hb1.out.trans ((Hb2.out.trans (hb3.mono Hb2.out.size)).mono (Nat.le_of_lt hz1)))
  clear hb3
  have k0 := cell_at hbz3 0 rfl
  have k1 := cell_at hbz3 1 rfl
  have k2 := cell_at hbz3 2 rfl
  have k3 := cell_at hbz3 3 rfl
  have k4 := cell_at hbz3 4 rfl
  have k5 := cell_at hbz3 5 rfl
  have k6 := cell_at hbz3 6 rfl
  have k7 := cell_at hbz3 7 rfl
  have k8 := cell_at hbz3 8 rfl
  have f := fun i => free_at hbz3 i
  go_wp2_with fail
  clear k0 k1 k2 k3 k4 k5 k6 k7 k8 f
  show bodyPost _ _ _ _ _ (storeAll W w.heap.size [.int .u8 0, .int .u32 0, .int .u8 0, .slice none 0 0, .int .u8 0, .int .u8 0, .int .u16 0, .int .u16 0, .slice none 0 0] 0)
  have hfin := zero_same hbz3 rfl [.int .u8 0, .int .u32 0, .int .u8 0, .slice none 0 0, .int .u8 0, .int .u8 0, .int .u16 0, .int .u16 0, .slice none 0 0] rfl
  have HFin := Lib.hid (below_storeAll Hb3.out (Nat.le_refl _) [.int .u8 0, .int .u32 0, .int .u8 0, .slice none 0 0, .int .u8 0, .int .u8 0, .int .u16 0, .int .u16 0, .slice none 0 0] 0 (Nat.le_refl _))
  generalize storeAll W w.heap.size [.int .u8 0, .int .u32 0, .int .u8 0, .slice none 0 0, .int .u8 0, .int .u8 0, .int .u16 0, .int .u16 0, .slice none 0 0] 0 = Wf at *
  have r0 := cell_at hfin 0 rfl
  have r1 := cell_at hfin 1 rfl
  have r2 := cell_at hfin 2 rfl
  have r3 := cell_at hfin 3 rfl
  have r4 := cell_at hfin 4 rfl
  have r5 := cell_at hfin 5 rfl
  have r6 := cell_at hfin 6 rfl
  have r7 := cell_at hfin 7 rfl
  have r8 := cell_at hfin 8 rfl
  refine bodyPost_ret (v := .tuple #[.agg #[.int .u8 0, .int .u32 0, .int .u8 0, .slice none 0 0, .int .u8 0, .int .u8 0, .int .u16 0, .int .u16 0, .slice none 0 0], .string ⟨T.toArray⟩]) (by simp [results, Try.results19, go_sem, r0, r1, r2, r3, r4, r5, r6, r7, r8]) rfl ?_
  exact ⟨rfl, HFin.out⟩

/-- The first loop: how far it has come. -/
def RefMRel (rr bf : Nat) (A : Option Addr) (n cap : Nat) (l : List UInt8) (N : Nat) (D : List FrameP.Msg × Nat × Bool) (W : World) (fv : Value → Array Value) (i : Value) (w : World) : Prop :=
  ∃ k ms a s v, k ≤ N ∧ i = .int .i64 (k : Nat) ∧ St rr bf A n cap l W a s (fv v) w ∧ OwnM W.heap.size v ms w ∧ ms.length = k ∧ (FrameP.msgsD l (N - k) a s).2 = D.2 ∧ (D.2.2 = false → ms.map MsgC.plain ++ (FrameP.msgsD l (N - k) a s).1 = D.1) ∧ ∃ Av cv, v = .slice Av k cv
def RefRRel (rr bf : Nat) (A : Option Addr) (n cap : Nat) (l : List UInt8) (N : Nat) (D : List FrameP.Rec × Nat × Bool) (W : World) (fv : Value → Array Value) (C : Nat) (vM : Value) (ms : List MsgC) (i : Value) (w : World) : Prop :=
  ∃ k rs a s v, k ≤ N ∧ i = .int .i64 (k : Nat) ∧ St rr bf A n cap l W a s (fv v) w ∧ OwnM W.heap.size vM ms w ∧ OwnR C v rs w ∧ C ≤ w.heap.size ∧ rs.length = k ∧ (FrameP.recsD l (N - k) a s).2 = D.2 ∧ (D.2.2 = false → rs ++ (FrameP.recsD l (N - k) a s).1 = D.1) ∧ ∃ Av cv, v = .slice Av k cv

theorem msgsD_true (l : List UInt8) (k a : Nat) : FrameP.msgsD l k a true = ([], a, true) := by cases k <;> simp [FrameP.msgsD]
theorem recsD_true (l : List UInt8) (k a : Nat) : FrameP.recsD l k a true = ([], a, true) := by cases k <;> simp [FrameP.recsD]

set_option maxHeartbeats 4000000 in
theorem refdecode_sealed (A : Option Addr) (l : List UInt8) (n cap : Nat) (hn : l.length = n) (w : World) (hl : n ≤ 5004) (hcap : n ≤ cap) (h : Bytes w w.heap.size A l) (p : List UInt8) (hs : l = CrcP.seal4 p) :
    Calls Try.prog 19 #[.slice A n cap] w (RefDecPost (FrameP.dec p) w) := by
  have HO : Hid (∀ o, Calls Try.prog 49 #[.slice A n cap] (w.alloc o) (fun e w' => ∃ v g, e = .returned (.tuple #[v, .bool true]) ∧ Row w' (w.alloc o).heap.size 5 g v p ∧ Below (w.alloc o).heap.size (w.alloc o) w')) := Lib.hid fun o => by
    refine (refopen_any A l n cap hn (w.alloc o) (by omega) hcap ((h.alloc (Nat.le_refl _) o).more (by simp))).mono ?_
    rintro e w' (⟨q, v, h1, h2, h3, h4⟩ | ⟨h1, _⟩)
    · have e1 : q = p := by
        have e2 : CrcP.seal4 p = CrcP.seal4 q := hs.symm.trans h1
        have e3 := congrArg List.length e2
        rw [seal4_len, seal4_len] at e3
        unfold CrcP.seal4 at e2
        exact ((List.append_inj e2 (by omega)).1).symm
      subst e1
      exact ⟨v, _, h2, ⟨rfl, h3⟩, h4⟩
    · exact absurd ⟨p, hs⟩ h1
  have hpl : p.length ≤ 5000 := by have := congrArg List.length hs; rw [seal4_len] at this; omega
  clear h hs hn
  obtain ⟨x0, h0⟩ : ∃ x, WireP.take p 0 false 1 = x := ⟨_, rfl⟩
  obtain ⟨x1, h1⟩ : ∃ x, WireP.take p x0.at_ x0.short 4 = x := ⟨_, rfl⟩
  obtain ⟨x2, h2⟩ : ∃ x, WireP.take p x1.at_ x1.short 1 = x := ⟨_, rfl⟩
  obtain ⟨x3, h3⟩ : ∃ x, WireP.take p x2.at_ x2.short 1 = x := ⟨_, rfl⟩
  obtain ⟨⟨D1, a1, s1⟩, hD1⟩ : ∃ D, FrameP.msgsD p x3.n x3.at_ x3.short = D := ⟨_, rfl⟩
  obtain ⟨y0, g0⟩ : ∃ x, WireP.take p a1 s1 1 = x := ⟨_, rfl⟩
  obtain ⟨y1, g1⟩ : ∃ x, WireP.take p y0.at_ y0.short 1 = x := ⟨_, rfl⟩
  obtain ⟨y2, g2⟩ : ∃ x, WireP.take p y1.at_ y1.short 2 = x := ⟨_, rfl⟩
  obtain ⟨y3, g3⟩ : ∃ x, WireP.take p y2.at_ y2.short 2 = x := ⟨_, rfl⟩
  obtain ⟨y4, g4⟩ : ∃ x, WireP.take p y3.at_ y3.short 1 = x := ⟨_, rfl⟩
  obtain ⟨⟨D2, a, s⟩, hD2⟩ : ∃ D, FrameP.recsD p y4.n y4.at_ y4.short = D := ⟨_, rfl⟩
  obtain ⟨hraw, hsh⟩ := raw_eq h0 h1 h2 h3 hD1 g0 g1 g2 g3 g4 hD2
  simp only at hraw hsh
  have Hraw := Lib.hid hraw
  have Hsh := Lib.hid hsh
  have q0 := take_lt1 p 0 false
  rw [h0] at q0
  have q1 := take_lt4 p x0.at_ x0.short
  rw [h1] at q1
  have q2 := take_lt1 p x1.at_ x1.short
  rw [h2] at q2
  have q3 := take_lt1 p x2.at_ x2.short
  rw [h3] at q3
  have q4 := take_lt1 p a1 s1
  rw [g0] at q4
  have q5 := take_lt1 p y0.at_ y0.short
  rw [g1] at q5
  have q6 := take_lt2 p y1.at_ y1.short
  rw [g2] at q6
  have q7 := take_lt2 p y2.at_ y2.short
  rw [g3] at q7
  have q8 := take_lt1 p y3.at_ y3.short
  rw [g4] at q8
  have hm0 : (x0.n : Int) % 256 = x0.n := by omega
  have hm2 : (x2.n : Int) % 256 = x2.n := by omega
  have hm4 : (y0.n : Int) % 256 = y0.n := by omega
  have hm5 : (y1.n : Int) % 256 = y1.n := by omega
  have hm6 : (y2.n : Int) % 65536 = y2.n := by omega
  have hm7 : (y3.n : Int) % 65536 = y3.n := by omega
  have K0 := Lib.hid h0
  have K1 := Lib.hid h1
  have K2 := Lib.hid h2
  have K3 := Lib.hid h3
  have KD1 := Lib.hid hD1
  have L0 := Lib.hid g0
  have L1 := Lib.hid g1
  have L2 := Lib.hid g2
  have L3 := Lib.hid g3
  have L4 := Lib.hid g4
  have KD2 := Lib.hid hD2
  clear h0 h1 h2 h3 hD1 g0 g1 g2 g3 g4 hD2 hraw hsh
  go_enter Try.func19, Try.ntmps19
  go_wp2_with fail
  refine (HO.out _).mono ?_
  rintro e w1 ⟨v1, g1, rfl, hr1, hb1⟩
  have hbz := (hb1.block w.heap.size (by simp)).trans (heap_alloc_new w _)
  have hz1 : w.heap.size < w1.heap.size := by have := hb1.size; simp at this; omega
  have Hb1 := Lib.hid (((Below.refl w.heap.size w).alloc (Nat.le_refl _) _).trans (hb1.mono (by simp)))
  have Hbz := Lib.hid hbz
  obtain ⟨A1, c1, rfl, hle1, -, hby1⟩ := hr1.bytes
  have HR0 : Hid (RefAt (w1.alloc (.cells #[.slice A1 p.length c1, .int .i64 0, .string ⟨#[]⟩] 99)) w1.heap.size A1 p.length c1 p 0 false) := Lib.hid
    ⟨heap_alloc_new w1 _, (hby1.alloc (Nat.le_refl _) _).more (by simp), rfl, hle1, hpl, fun hl e => by
      obtain ⟨b, o, e2, hb, _⟩ := hby1 hl
      rw [e2] at e
      have e3 : b = w1.heap.size := Option.some.inj e
      omega, Nat.zero_le _⟩
  have HA1 : Hid (0 < p.length → ∀ k, blockOf A1 = some k → k < w1.heap.size) := Lib.hid fun hl k hk => by
    obtain ⟨b, o, e2, hb, _⟩ := hby1 hl
    rw [e2] at hk
    have e3 : b = k := Option.some.inj hk
    omega
  clear hb1 hbz hr1 hby1 HO hle1
  go_wp2_with fail
  refine (reftake_any w1.heap.size A1 _ c1 p 0 false 1 _ HR0.out).mono ?_
  rw [K0.out]
  rintro e w2 ⟨rfl, hr2, ha2⟩
  have hrl2 : w1.heap.size < w2.heap.size := lt_of_block hr2.block
  have Hb2 : Hid (Below w1.heap.size w1 w2) := Lib.hid (((Below.refl _ _).alloc (Nat.le_refl _) _).trans (ha2.below (by simp) (fun k e => by have e : k = w1.heap.size := e; omega)))
  have HSt0 : Hid (∀ fv, fv = #[.int .u8 (x0.n : Nat), .int .u32 0, .int .u8 0, .slice none 0 0, .int .u8 0, .int .u8 0, .int .u16 0, .int .u16 0, .slice none 0 0] → St w1.heap.size w2.heap.size A1 p.length c1 p (w2.alloc (.cells fv 32)) x0.at_ x0.short fv (w2.alloc (.cells fv 32))) := Lib.hid fun fv _ => ⟨hr2.below ((Below.refl _ _).alloc (Nat.le_refl _) _), heap_alloc_new w2 _, Apart.refl _ _⟩
  have HOk : Hid (∀ o, StOk w1.heap.size w2.heap.size A1 p (w2.alloc o)) := Lib.hid fun o => ⟨by omega, by simp; omega, by simp, fun hl k hk => by have := HA1.out hl k hk; simp; omega⟩
  clear hr2 ha2 HR0
  go_wp2_with fail
  have HS := Lib.hid (HSt0.out _ rfl)
  have HOk1 := Lib.hid (HOk.out (.cells #[.int .u8 (x0.n : Nat), .int .u32 0, .int .u8 0, .slice none 0 0, .int .u8 0, .int .u8 0, .int .u16 0, .int .u16 0, .slice none 0 0] 32))
  have HbW : Hid (Below w1.heap.size w1 (w2.alloc (.cells #[.int .u8 (x0.n : Nat), .int .u32 0, .int .u8 0, .slice none 0 0, .int .u8 0, .int .u8 0, .int .u16 0, .int .u16 0, .slice none 0 0] 32))) := Lib.hid (Hb2.out.alloc Hb2.out.size _)
  have HsW : Hid (w2.heap.size < (w2.alloc (.cells #[.int .u8 (x0.n : Nat), .int .u32 0, .int .u8 0, .slice none 0 0, .int .u8 0, .int .u8 0, .int .u16 0, .int .u16 0, .slice none 0 0] 32)).heap.size) := Lib.hid (by simp)
  generalize w2.alloc (.cells #[.int .u8 (x0.n : Nat), .int .u32 0, .int .u8 0, .slice none 0 0, .int .u8 0, .int .u8 0, .int .u16 0, .int .u16 0, .slice none 0 0] 32) = W1 at *
  clear HSt0 HOk
  refine (HS.out.take HOk1.out 4).mono ?_
  rw [K1.out]
  rintro e w3 ⟨rfl, hs, hta⟩
  have kc := hs.cell 1 rfl
  have fc := hs.free 1
  have HS3 : Hid (St w1.heap.size w2.heap.size A1 p.length c1 p W1 x1.at_ x1.short #[.int .u8 (x0.n : Nat), .int .u32 (x1.n : Nat), .int .u8 0, .slice none 0 0, .int .u8 0, .int .u8 0, .int .u16 0, .int .u16 0, .slice none 0 0] (w3.setCell ⟨w2.heap.size, 1, none⟩ (.int .u32 (x1.n : Nat)))) := Lib.hid (hs.store HOk1.out 1 (.int .u32 (x1.n : Nat))).1
  clear hs hta HS
  go_wp2_with fail
  clear kc fc
  refine (HS3.out.take HOk1.out 1).mono ?_
  rw [K2.out]
  rintro e w4 ⟨rfl, hs, hta⟩
  have kc := hs.cell 2 rfl
  have fc := hs.free 2
  have HS4 : Hid (St w1.heap.size w2.heap.size A1 p.length c1 p W1 x2.at_ x2.short #[.int .u8 (x0.n : Nat), .int .u32 (x1.n : Nat), .int .u8 (x2.n : Nat), .slice none 0 0, .int .u8 0, .int .u8 0, .int .u16 0, .int .u16 0, .slice none 0 0] (w4.setCell ⟨w2.heap.size, 2, none⟩ (.int .u8 (x2.n : Nat)))) := Lib.hid (hs.store HOk1.out 2 (.int .u8 (x2.n : Nat))).1
  clear hs hta HS3
  go_wp2_with fail
  clear kc fc
  refine (HS4.out.take HOk1.out 1).mono ?_
  rw [K3.out]
  rintro e w5 ⟨rfl, hs, hta⟩
  have HS5 := Lib.hid hs
  clear hs hta HS4
  go_upto_block 0 with (fail)
  go_cut [] (fun wx => ∃ ms v Av cv, St w1.heap.size w2.heap.size A1 p.length c1 p W1 a1 s1 ((fun v => #[.int .u8 (x0.n : Nat), .int .u32 (x1.n : Nat), .int .u8 (x2.n : Nat), v, .int .u8 0, .int .u8 0, .int .u16 0, .int .u16 0, .slice none 0 0]) v) wx ∧ OwnM W1.heap.size v ms wx ∧ v = .slice Av ms.length cv ∧ (s1 = false → ms.map MsgC.plain = D1) ∧ ms.length ≤ 255)
  case first =>
    go_wp2_with fail
    go_loopw [9] (RefMRel w1.heap.size w2.heap.size A1 p.length c1 p x3.n (D1, a1, s1) W1 (fun v => #[.int .u8 (x0.n : Nat), .int .u32 (x1.n : Nat), .int .u8 (x2.n : Nat), v, .int .u8 0, .int .u8 0, .int .u16 0, .int .u16 0, .slice none 0 0])) (fun i _ => (x3.n + 1 - intOf i).toNat)
    case atStart => exact ⟨0, [], x3.at_, x3.short, .slice none 0 0, Nat.zero_le _, rfl, HS5.out, OwnM.nil _ _, rfl, by rw [Nat.sub_zero, KD1.out], fun _ => by rw [Nat.sub_zero, KD1.out]; rfl, none, 0, rfl⟩
    case round =>
      clear HS5
      obtain ⟨k, ms, a2, s2, v, hk, rfl, hst, hown, hml, h2, h3, Av, cv, rfl⟩ := hrel
      obtain ⟨r0, r1, r2, -, -, -⟩ := three_cells hst.rd.block
      have HST := Lib.hid hst
      have HOw := Lib.hid hown
      have Hml := Lib.hid hml
      have H2 := Lib.hid h2
      have H3 := Lib.hid h3
      have hkx : k ≤ 255 := by omega
      have hEnd : Hid ((k = x3.n ∨ s2 = true) → ∃ ms v Av cv, St w1.heap.size w2.heap.size A1 p.length c1 p W1 a1 s1 ((fun v => #[.int .u8 (x0.n : Nat), .int .u32 (x1.n : Nat), .int .u8 (x2.n : Nat), v, .int .u8 0, .int .u8 0, .int .u16 0, .int .u16 0, .slice none 0 0]) v) wr ∧ OwnM W1.heap.size v ms wr ∧ v = .slice Av ms.length cv ∧ (s1 = false → ms.map MsgC.plain = D1) ∧ ms.length ≤ 255) := Lib.hid fun hor => by
        have e2 : a2 = a1 ∧ s2 = s1 ∧ (s1 = false → ms.map MsgC.plain = D1) := by
          rcases hor with e | e
          · have h2 := H2.out
            have h3 := H3.out
            rw [e, Nat.sub_self] at h2 h3
            exact ⟨congrArg Prod.fst h2, congrArg Prod.snd h2, fun h => by have := h3 h; simpa [FrameP.msgsD] using this⟩
          · have h2 := H2.out
            rw [e, msgsD_true] at h2
            have h4 : true = s1 := congrArg Prod.snd h2
            exact ⟨congrArg Prod.fst h2, by rw [e]; exact h4, fun h => by rw [← h4] at h; cases h⟩
        obtain ⟨e3, e4, e5⟩ := e2
        have h6 := HST.out
        rw [e3, e4] at h6
        exact ⟨ms, _, Av, cv, h6, HOw.out, by rw [Hml.out], e5, by rw [Hml.out]; exact hkx⟩
      clear hst hown hml h2 h3
      by_cases hlt : k < x3.n
      · cases s2 with
        | false =>
          have he : errText false a2 = [] := rfl
          rw [he] at r2
          simp only [strV] at r2
          obtain ⟨pp, hp⟩ : ∃ x, WireP.take p a2 false 1 = x := ⟨_, rfl⟩
          obtain ⟨d, hd⟩ : ∃ x, WireP.tell p pp.at_ pp.short = x := ⟨_, rfl⟩
          have Hp := Lib.hid hp
          have Hd := Lib.hid hd
          have hlp := take_lt1 p a2 false
          rw [hp] at hlp
          have Hst := Lib.hid (msgsD_step (D := (D1, a1, s1)) (ms := ms.map MsgC.plain) (j := x3.n - (k + 1)) hp hd (by rw [show x3.n - (k + 1) + 1 = x3.n - k by omega]; exact H2.out) (by rw [show x3.n - (k + 1) + 1 = x3.n - k by omega]; exact H3.out))
          have hdl := tell_len p pp.at_ pp.short
          rw [hd] at hdl
          clear hp hd he hEnd
          go_wp2_with fail
          refine (HST.out.take HOk1.out 1).mono ?_
          rw [Hp.out]
          rintro e w7 ⟨rfl, hs7, hta7⟩
          have hro : w1.heap.size < W1.heap.size := HOk1.out.rlt
          have HO7 := Lib.hid (HOw.out.apart hta7 (fun k e => by have e : k = w1.heap.size := e; omega))
          have kb := hs7.cell 3 rfl
          have fb := hs7.free 3
          have HTl : Hid (Calls Try.prog 51 #[.pointer (some ⟨w1.heap.size, 0, none⟩)] w7.drew fun e w' => ∃ v g, e = .returned v ∧ Row w' w7.heap.size 5 g v d.l ∧ St w1.heap.size w2.heap.size A1 p.length c1 p W1 d.at_ d.short ((fun v => #[.int .u8 (x0.n : Nat), .int .u32 (x1.n : Nat), .int .u8 (x2.n : Nat), v, .int .u8 0, .int .u8 0, .int .u16 0, .int .u16 0, .slice none 0 0]) (.slice Av k cv)) w' ∧ Apart (RF w1.heap.size) w7 w') := Lib.hid (by
            have h9 := hs7.tell HOk1.out
            rw [Hd.out] at h9
            exact h9)
          have hw7 := hs7.ap.size
          have Hw7 := Lib.hid hw7
          clear hs7 hta7 r0 r1 r2 hw7
          go_wp2_with fail
          go_region_law (first
            | (refine step_append_s rfl (.tmp 59) (.tmp 64) _ rfl W1.heap.size 57 _ 2 32 Try.underlying25 infoM rfl (by omega) _ k (msgVals ms) rfl (Hl8.out.alloc _) (some ⟨w8.heap.size, 0, none⟩) 1 1 (MsgC.vals ⟨(pp.n : Int), A8, n8, c8, d.l⟩) rfl rfl (fun _ => ⟨_, rfl, msg_laid w8 _ ⟨(pp.n : Int), A8, n8, c8, d.l⟩ w8.heap.size rfl⟩) (vals_one _) (by unfold maxLen; omega) (by omega) (by have := Hw8.out; simp; omega) ?_
               intro v9 w9 ho9 ha9 hb9
               have hn9 : OwnM W1.heap.size v9 (ms ++ [⟨(pp.n : Int), A8, n8, c8, d.l⟩]) w9 := HO8.out.more HY8.out HYc8.out (by rw [Hml.out]; exact ho9) ha9 hb9
               have hs9 := HS8.out.apart HOk1.out (((Apart.refl _ w8).alloc _).trans ha9 (fun _ e => .inl e)) (fun q e => (HO8.out.own.lt q e).1)
               obtain ⟨A9, c9, rfl, -⟩ := own_slice ho9
               have kb9 := hs9.cell 3 rfl
               have fb9 := hs9.free 3
               have HS10 := Lib.hid (hs9.store HOk1.out 3 (.slice A9 (k + 1) c9)).1
               have HO10 := Lib.hid (hn9.apart (hs9.store HOk1.out 3 (.slice A9 (k + 1) c9)).2 (fun q e => by rw [e]; exact HOk1.out.blt))
               clear ho9 ha9 hb9 hn9 hs9)
            | (go_simp
               refine HTl.out.mono ?_
               rintro e w8 ⟨v8, g8, rfl, hr8, hs8, ha8⟩
               obtain ⟨A8, c8, hv8, hle8, hbk8, hby8⟩ := hr8.bytes
               obtain ⟨n8, hn8⟩ : ∃ n8, d.l.length = n8 := ⟨_, rfl⟩
               rw [hn8] at hv8 hle8
               subst hv8
               have HO8 := Lib.hid (HO7.out.apart ha8 (fun k e => by have e : k = w1.heap.size := e; omega))
               have hown8 : w8.ownsRow W1.heap.size 57 2 (.slice Av k cv) k (msgVals ms) := by have h9 := HO8.out.own; rw [Hml.out] at h9; exact h9
               have Hl8 := Lib.hid hown8
               have HS8 := Lib.hid hs8
               have kb8 := hs8.cell 3 rfl
               have fb8 := hs8.free 3
               have Hw8 := Lib.hid (Nat.le_trans Hw7.out ha8.size)
               have hz8 : w2.heap.size < w8.heap.size := Nat.lt_of_lt_of_le HsW.out Hw8.out
               have HY8 : Hid (MsgOk w8 ⟨(pp.n : Int), A8, n8, c8, d.l⟩) := Lib.hid ⟨hn8, hle8, by simp only; omega, hby8, by simp only; omega⟩
               have HYc8 : Hid (0 < d.l.length → ∀ q, blockOf A8 = some q → W1.heap.size ≤ q ∧ (Value.slice Av k cv).ownBlock ≠ some q) := Lib.hid fun _ q hq => by
                 rw [hbk8] at hq
                 have h8 := (hr8.lt q hq).1
                 have h7 := Hw7.out
                 refine ⟨by omega, fun e => ?_⟩
                 have h9 := (HO7.out.own.lt q e).2
                 omega
               clear hr8 hs8 ha8 hle8 hbk8 hby8 hn8 hown8
               go_wp2_with fail))
          all_goals
            go_wp2_with fail
            go_roundw
            case rel =>
              refine ⟨k + 1, _, _, _, .slice A9 (k + 1) c9, by omega, by go_num, HS10.out, HO10.out, by rw [List.length_append, Hml.out]; rfl, Hst.out.1, fun h => ?_, A9, c9, rfl⟩
              have := Hst.out.2 h
              rw [List.map_append]
              exact this
            case measure => simp [intOf]; omega
        | true =>
          have hne : (errText true a2).isEmpty = false := atT_ne' 4 (a2 : Nat)
          have HE2 := Lib.hid (hEnd.out (.inr rfl))
          simp only [strV] at r2
          generalize errText true a2 = et at *
          clear hEnd
          go_wp2_with fail
          go_meet
          exact HE2.out
      · have HE2 := Lib.hid (hEnd.out (.inl (by omega)))
        clear hEnd
        go_wp2_with fail
        go_meet
        exact HE2.out
  case rest =>
    obtain ⟨ms, v, Av, cv, hs, hown, rfl, hpl1, hml1⟩ := hcut
    have HSa := Lib.hid hs
    have HOa := Lib.hid hown
    have Hpl1 := Lib.hid hpl1
    have hro : w1.heap.size < W1.heap.size := HOk1.out.rlt
    have hbo : w2.heap.size < W1.heap.size := HOk1.out.blt
    clear hs hown hpl1 HS5
    go_wp2_with fail
    refine (HSa.out.take HOk1.out 1).mono ?_
    rw [L0.out]
    rintro e w10 ⟨rfl, hs, hta⟩
    have kc := hs.cell 4 rfl
    have fc := hs.free 4
    have HSb : Hid (St w1.heap.size w2.heap.size A1 p.length c1 p W1 y0.at_ y0.short #[.int .u8 (x0.n : Nat), .int .u32 (x1.n : Nat), .int .u8 (x2.n : Nat), .slice Av ms.length cv, .int .u8 (y0.n : Nat), .int .u8 0, .int .u16 0, .int .u16 0, .slice none 0 0] (w10.setCell ⟨w2.heap.size, 4, none⟩ (.int .u8 (y0.n : Nat)))) := Lib.hid (hs.store HOk1.out 4 (.int .u8 (y0.n : Nat))).1
    have HOb := Lib.hid ((HOa.out.apart hta (fun k e => by have e : k = w1.heap.size := e; omega)).apart (hs.store HOk1.out 4 (.int .u8 (y0.n : Nat))).2 (fun k e => by omega))
    clear hs hta HSa HOa
    go_wp2_with fail
    clear kc fc
    refine (HSb.out.take HOk1.out 1).mono ?_
    rw [L1.out]
    rintro e w11 ⟨rfl, hs, hta⟩
    have kc := hs.cell 5 rfl
    have fc := hs.free 5
    have HSc : Hid (St w1.heap.size w2.heap.size A1 p.length c1 p W1 y1.at_ y1.short #[.int .u8 (x0.n : Nat), .int .u32 (x1.n : Nat), .int .u8 (x2.n : Nat), .slice Av ms.length cv, .int .u8 (y0.n : Nat), .int .u8 (y1.n : Nat), .int .u16 0, .int .u16 0, .slice none 0 0] (w11.setCell ⟨w2.heap.size, 5, none⟩ (.int .u8 (y1.n : Nat)))) := Lib.hid (hs.store HOk1.out 5 (.int .u8 (y1.n : Nat))).1
    have HOc := Lib.hid ((HOb.out.apart hta (fun k e => by have e : k = w1.heap.size := e; omega)).apart (hs.store HOk1.out 5 (.int .u8 (y1.n : Nat))).2 (fun k e => by omega))
    clear hs hta HSb HOb
    go_wp2_with fail
    clear kc fc
    refine (HSc.out.take HOk1.out 2).mono ?_
    rw [L2.out]
    rintro e w12 ⟨rfl, hs, hta⟩
    have kc := hs.cell 6 rfl
    have fc := hs.free 6
    have HSd : Hid (St w1.heap.size w2.heap.size A1 p.length c1 p W1 y2.at_ y2.short #[.int .u8 (x0.n : Nat), .int .u32 (x1.n : Nat), .int .u8 (x2.n : Nat), .slice Av ms.length cv, .int .u8 (y0.n : Nat), .int .u8 (y1.n : Nat), .int .u16 (y2.n : Nat), .int .u16 0, .slice none 0 0] (w12.setCell ⟨w2.heap.size, 6, none⟩ (.int .u16 (y2.n : Nat)))) := Lib.hid (hs.store HOk1.out 6 (.int .u16 (y2.n : Nat))).1
    have HOd := Lib.hid ((HOc.out.apart hta (fun k e => by have e : k = w1.heap.size := e; omega)).apart (hs.store HOk1.out 6 (.int .u16 (y2.n : Nat))).2 (fun k e => by omega))
    clear hs hta HSc HOc
    go_wp2_with fail
    clear kc fc
    refine (HSd.out.take HOk1.out 2).mono ?_
    rw [L3.out]
    rintro e w13 ⟨rfl, hs, hta⟩
    have kc := hs.cell 7 rfl
    have fc := hs.free 7
    have HSe : Hid (St w1.heap.size w2.heap.size A1 p.length c1 p W1 y3.at_ y3.short #[.int .u8 (x0.n : Nat), .int .u32 (x1.n : Nat), .int .u8 (x2.n : Nat), .slice Av ms.length cv, .int .u8 (y0.n : Nat), .int .u8 (y1.n : Nat), .int .u16 (y2.n : Nat), .int .u16 (y3.n : Nat), .slice none 0 0] (w13.setCell ⟨w2.heap.size, 7, none⟩ (.int .u16 (y3.n : Nat)))) := Lib.hid (hs.store HOk1.out 7 (.int .u16 (y3.n : Nat))).1
    have HOe := Lib.hid ((HOd.out.apart hta (fun k e => by have e : k = w1.heap.size := e; omega)).apart (hs.store HOk1.out 7 (.int .u16 (y3.n : Nat))).2 (fun k e => by omega))
    clear hs hta HSd HOd
    go_wp2_with fail
    clear kc fc
    refine (HSe.out.take HOk1.out 1).mono ?_
    rw [L4.out]
    rintro e w14 ⟨rfl, hs, hta⟩
    have HSf := Lib.hid hs
    have HOf := Lib.hid (HOe.out.apart hta (fun k e => by have e : k = w1.heap.size := e; omega))
    have HC : Hid (W1.heap.size ≤ w14.heap.size) := Lib.hid hs.ap.size
    have HmC : Hid (∀ k, (Value.slice Av ms.length cv).ownBlock = some k → k < w14.heap.size) := Lib.hid fun k hk => (HOf.out.own.lt k hk).2
    have HdC : Hid (∀ y ∈ ms, 0 < y.data.length → ∀ k, blockOf y.A = some k → k < w14.heap.size) := Lib.hid fun y hy hd k hk => by
      obtain ⟨b, o, e2, hb, _⟩ := (HOf.out.ok y hy).1.bytes hd
      rw [e2] at hk
      have e3 : b = k := Option.some.inj hk
      omega
    clear hs hta HSe HOe
    go_upto_block 2 with (fail)
    go_cut [] (fun wx => ∃ rs v AR cR, St w1.heap.size w2.heap.size A1 p.length c1 p W1 a s ((fun v => #[.int .u8 (x0.n : Nat), .int .u32 (x1.n : Nat), .int .u8 (x2.n : Nat), .slice Av ms.length cv, .int .u8 (y0.n : Nat), .int .u8 (y1.n : Nat), .int .u16 (y2.n : Nat), .int .u16 (y3.n : Nat), v]) v) wx ∧ OwnM W1.heap.size (.slice Av ms.length cv) ms wx ∧ OwnR w14.heap.size v rs wx ∧ v = .slice AR rs.length cR ∧ (s = false → rs = D2) ∧ rs.length ≤ 255)
    case first =>
      go_wp2_with fail
      go_loopw [11] (RefRRel w1.heap.size w2.heap.size A1 p.length c1 p y4.n (D2, a, s) W1 (fun v => #[.int .u8 (x0.n : Nat), .int .u32 (x1.n : Nat), .int .u8 (x2.n : Nat), .slice Av ms.length cv, .int .u8 (y0.n : Nat), .int .u8 (y1.n : Nat), .int .u16 (y2.n : Nat), .int .u16 (y3.n : Nat), v]) w14.heap.size (.slice Av ms.length cv) ms) (fun i _ => (y4.n + 1 - intOf i).toNat)
      case atStart => exact ⟨0, [], y4.at_, y4.short, .slice none 0 0, Nat.zero_le _, rfl, HSf.out, HOf.out, OwnR.nil _ _, Nat.le_refl _, rfl, by rw [Nat.sub_zero, KD2.out], fun _ => by rw [Nat.sub_zero, KD2.out]; rfl, none, 0, rfl⟩
      case round =>
        clear HSf HOf
        obtain ⟨k, rs, a2, s2, v, hk, rfl, hst, hom, hor, hCw, hrl, h2, h3, Av2, cv2, rfl⟩ := hrel
        obtain ⟨r0, r1, r2, -, -, -⟩ := three_cells hst.rd.block
        have HST := Lib.hid hst
        have HOm := Lib.hid hom
        have HOr := Lib.hid hor
        have HCw := Lib.hid hCw
        have Hrl := Lib.hid hrl
        have H2 := Lib.hid h2
        have H3 := Lib.hid h3
        have hkx : k ≤ 255 := by omega
        have hEnd : Hid ((k = y4.n ∨ s2 = true) → ∃ rs v AR cR, St w1.heap.size w2.heap.size A1 p.length c1 p W1 a s ((fun v => #[.int .u8 (x0.n : Nat), .int .u32 (x1.n : Nat), .int .u8 (x2.n : Nat), .slice Av ms.length cv, .int .u8 (y0.n : Nat), .int .u8 (y1.n : Nat), .int .u16 (y2.n : Nat), .int .u16 (y3.n : Nat), v]) v) wr ∧ OwnM W1.heap.size (.slice Av ms.length cv) ms wr ∧ OwnR w14.heap.size v rs wr ∧ v = .slice AR rs.length cR ∧ (s = false → rs = D2) ∧ rs.length ≤ 255) := Lib.hid fun hor2 => by
          have e2 : a2 = a ∧ s2 = s ∧ (s = false → rs = D2) := by
            rcases hor2 with e | e
            · have h2 := H2.out
              have h3 := H3.out
              rw [e, Nat.sub_self] at h2 h3
              exact ⟨congrArg Prod.fst h2, congrArg Prod.snd h2, fun h => by have := h3 h; simpa [FrameP.recsD] using this⟩
            · have h2 := H2.out
              rw [e, recsD_true] at h2
              have h4 : true = s := congrArg Prod.snd h2
              exact ⟨congrArg Prod.fst h2, by rw [e]; exact h4, fun h => by rw [← h4] at h; cases h⟩
          obtain ⟨e3, e4, e5⟩ := e2
          have h6 := HST.out
          rw [e3, e4] at h6
          exact ⟨rs, _, Av2, cv2, h6, HOm.out, HOr.out, by rw [Hrl.out], e5, by rw [Hrl.out]; exact hkx⟩
        clear hst hom hor hCw hrl h2 h3
        by_cases hlt : k < y4.n
        · cases s2 with
          | false =>
            have he : errText false a2 = [] := rfl
            rw [he] at r2
            simp only [strV] at r2
            obtain ⟨z0, h0⟩ : ∃ x, WireP.take p a2 false 4 = x := ⟨_, rfl⟩
            obtain ⟨z1, h1⟩ : ∃ x, WireP.take p z0.at_ z0.short 1 = x := ⟨_, rfl⟩
            obtain ⟨z2, h2⟩ : ∃ x, WireP.take p z1.at_ z1.short 1 = x := ⟨_, rfl⟩
            obtain ⟨z3, h3⟩ : ∃ x, WireP.take p z2.at_ z2.short 1 = x := ⟨_, rfl⟩
            obtain ⟨z4, h4⟩ : ∃ x, WireP.take p z3.at_ z3.short 1 = x := ⟨_, rfl⟩
            have Z0 := Lib.hid h0
            have Z1 := Lib.hid h1
            have Z2 := Lib.hid h2
            have Z3 := Lib.hid h3
            have Z4 := Lib.hid h4
            have l0 := take_lt4 p a2 false
            rw [h0] at l0
            have l1 := take_lt1 p z0.at_ z0.short
            rw [h1] at l1
            have l2 := take_lt1 p z1.at_ z1.short
            rw [h2] at l2
            have l3 := take_lt1 p z2.at_ z2.short
            rw [h3] at l3
            have l4 := take_lt1 p z3.at_ z3.short
            rw [h4] at l4
            have m1 : (z1.n : Int) % 256 = z1.n := by omega
            have m2 : (z2.n : Int) % 256 = z2.n := by omega
            have m3 : (z3.n : Int) % 256 = z3.n := by omega
            have m4 : (z4.n : Int) % 256 = z4.n := by omega
            have Hstp := Lib.hid (recsD_step (D := (D2, a, s)) (rs := rs) (j := y4.n - (k + 1)) h0 h1 h2 h3 h4 (by rw [show y4.n - (k + 1) + 1 = y4.n - k by omega]; exact H2.out) (by rw [show y4.n - (k + 1) + 1 = y4.n - k by omega]; exact H3.out))
            clear h0 h1 h2 h3 h4 he hEnd
            go_wp2_with fail
            refine (HST.out.take HOk1.out 4).mono ?_
            rw [Z0.out]
            rintro e w15 ⟨rfl, hs15, hta15⟩
            have HM15 := Lib.hid (HOm.out.apart hta15 (fun k e => by have e : k = w1.heap.size := e; omega))
            have HR15 := Lib.hid (HOr.out.apart hta15 (fun k e => by have e : k = w1.heap.size := e; have := HC.out; omega))
            have HROk : Hid (RStOk w1.heap.size w2.heap.size A1 p W1 w14.heap.size (.slice Av ms.length cv) ms (.slice Av2 k cv2) w15.heap.size) := Lib.hid ⟨HOk1.out, HC.out, Nat.le_trans HCw.out hta15.size, HmC.out, HdC.out, fun q hq => (HR15.out.own.lt q hq).2⟩
            have HX0 : Hid (∀ xs, xs = #[.int .u32 (z0.n : Nat), .int .u8 0, .int .u8 0, .int .u8 0, .int .u8 0] → RSt w1.heap.size w2.heap.size A1 p.length c1 p W1 z0.at_ z0.short ((fun v => #[.int .u8 (x0.n : Nat), .int .u32 (x1.n : Nat), .int .u8 (x2.n : Nat), .slice Av ms.length cv, .int .u8 (y0.n : Nat), .int .u8 (y1.n : Nat), .int .u16 (y2.n : Nat), .int .u16 (y3.n : Nat), v]) (.slice Av2 k cv2)) w14.heap.size (.slice Av ms.length cv) ms (.slice Av2 k cv2) rs w15.heap.size xs (w15.alloc (.cells xs 74))) := Lib.hid fun xs _ => ⟨hs15.apart HOk1.out ((Apart.refl (fun _ => False) w15).alloc _) (fun k e => e.elim), HM15.out.new ((Apart.refl (fun _ => False) w15).alloc _) (fun _ _ e => e) (fun _ _ _ _ _ e => e), HR15.out.new ((Apart.refl (fun _ => False) w15).alloc _) (fun _ _ e => e), heap_alloc_new w15 _⟩
            clear hs15 hta15 HM15 HR15 r0 r1 r2
            go_wp2_with fail
            have HXa := Lib.hid (HX0.out _ rfl)
            clear HX0
            refine (HXa.out.take HROk.out 1).mono ?_
            rw [Z1.out]
            rintro e w16 ⟨rfl, hs⟩
            have kc := cell_at hs.x 1 rfl
            have fc := free_at hs.x 1
            have HXb : Hid (RSt w1.heap.size w2.heap.size A1 p.length c1 p W1 z1.at_ z1.short ((fun v => #[.int .u8 (x0.n : Nat), .int .u32 (x1.n : Nat), .int .u8 (x2.n : Nat), .slice Av ms.length cv, .int .u8 (y0.n : Nat), .int .u8 (y1.n : Nat), .int .u16 (y2.n : Nat), .int .u16 (y3.n : Nat), v]) (.slice Av2 k cv2)) w14.heap.size (.slice Av ms.length cv) ms (.slice Av2 k cv2) rs w15.heap.size #[.int .u32 (z0.n : Nat), .int .u8 (z1.n : Nat), .int .u8 0, .int .u8 0, .int .u8 0] (w16.setCell ⟨w15.heap.size, 1, none⟩ (.int .u8 (z1.n : Nat)))) := Lib.hid (hs.store HROk.out 1 (.int .u8 (z1.n : Nat)))
            clear hs HXa
            go_wp2_with fail
            clear kc fc
            refine (HXb.out.take HROk.out 1).mono ?_
            rw [Z2.out]
            rintro e w17 ⟨rfl, hs⟩
            have kc := cell_at hs.x 2 rfl
            have fc := free_at hs.x 2
            have HXc : Hid (RSt w1.heap.size w2.heap.size A1 p.length c1 p W1 z2.at_ z2.short ((fun v => #[.int .u8 (x0.n : Nat), .int .u32 (x1.n : Nat), .int .u8 (x2.n : Nat), .slice Av ms.length cv, .int .u8 (y0.n : Nat), .int .u8 (y1.n : Nat), .int .u16 (y2.n : Nat), .int .u16 (y3.n : Nat), v]) (.slice Av2 k cv2)) w14.heap.size (.slice Av ms.length cv) ms (.slice Av2 k cv2) rs w15.heap.size #[.int .u32 (z0.n : Nat), .int .u8 (z1.n : Nat), .int .u8 (z2.n : Nat), .int .u8 0, .int .u8 0] (w17.setCell ⟨w15.heap.size, 2, none⟩ (.int .u8 (z2.n : Nat)))) := Lib.hid (hs.store HROk.out 2 (.int .u8 (z2.n : Nat)))
            clear hs HXb
            go_wp2_with fail
            clear kc fc
            refine (HXc.out.take HROk.out 1).mono ?_
            rw [Z3.out]
            rintro e w18 ⟨rfl, hs⟩
            have kc := cell_at hs.x 3 rfl
            have fc := free_at hs.x 3
            have HXd : Hid (RSt w1.heap.size w2.heap.size A1 p.length c1 p W1 z3.at_ z3.short ((fun v => #[.int .u8 (x0.n : Nat), .int .u32 (x1.n : Nat), .int .u8 (x2.n : Nat), .slice Av ms.length cv, .int .u8 (y0.n : Nat), .int .u8 (y1.n : Nat), .int .u16 (y2.n : Nat), .int .u16 (y3.n : Nat), v]) (.slice Av2 k cv2)) w14.heap.size (.slice Av ms.length cv) ms (.slice Av2 k cv2) rs w15.heap.size #[.int .u32 (z0.n : Nat), .int .u8 (z1.n : Nat), .int .u8 (z2.n : Nat), .int .u8 (z3.n : Nat), .int .u8 0] (w18.setCell ⟨w15.heap.size, 3, none⟩ (.int .u8 (z3.n : Nat)))) := Lib.hid (hs.store HROk.out 3 (.int .u8 (z3.n : Nat)))
            clear hs HXc
            go_wp2_with fail
            clear kc fc
            refine (HXd.out.take HROk.out 1).mono ?_
            rw [Z4.out]
            rintro e w19 ⟨rfl, hs⟩
            have kc := cell_at hs.x 4 rfl
            have fc := free_at hs.x 4
            have HXe : Hid (RSt w1.heap.size w2.heap.size A1 p.length c1 p W1 z4.at_ z4.short ((fun v => #[.int .u8 (x0.n : Nat), .int .u32 (x1.n : Nat), .int .u8 (x2.n : Nat), .slice Av ms.length cv, .int .u8 (y0.n : Nat), .int .u8 (y1.n : Nat), .int .u16 (y2.n : Nat), .int .u16 (y3.n : Nat), v]) (.slice Av2 k cv2)) w14.heap.size (.slice Av ms.length cv) ms (.slice Av2 k cv2) rs w15.heap.size #[.int .u32 (z0.n : Nat), .int .u8 (z1.n : Nat), .int .u8 (z2.n : Nat), .int .u8 (z3.n : Nat), .int .u8 (z4.n : Nat)] (w19.setCell ⟨w15.heap.size, 4, none⟩ (.int .u8 (z4.n : Nat)))) := Lib.hid (hs.store HROk.out 4 (.int .u8 (z4.n : Nat)))
            generalize hW20 : w19.setCell ⟨w15.heap.size, 4, none⟩ (.int .u8 (z4.n : Nat)) = w20 at *
            have kd : w20.cell? ⟨w2.heap.size, 8, none⟩ = some (.slice Av2 k cv2) := HXe.out.st.cell 8 rfl
            have fd := HXe.out.st.free 8
            have j0 := cell_at HXe.out.x 0 rfl
            have j1 := cell_at HXe.out.x 1 rfl
            have j2 := cell_at HXe.out.x 2 rfl
            have j3 := cell_at HXe.out.x 3 rfl
            have j4 := cell_at HXe.out.x 4 rfl
            have hown20 : w20.ownsRow w14.heap.size 74 5 (.slice Av2 k cv2) k (recsVals rs) := by have h9 := HXe.out.orr.own; rw [Hrl.out] at h9; exact h9
            have Hl20 := Lib.hid hown20
            have Hw20 : Hid (w14.heap.size ≤ w20.heap.size) := Lib.hid (Nat.le_trans HROk.out.x (Nat.le_of_lt (lt_of_block HXe.out.x)))
            clear hown20
            go_wp2_with (at_builtin
                         refine wpList_append_s rfl (.tmp 122) (.tmp 124) _ rfl w14.heap.size 74 _ 5 8 Try.underlying30 infoR rfl (by omega) _ k (recsVals rs) rfl (Hl20.out.alloc _) (some ⟨w20.heap.size, 0, none⟩) 1 1 (recVals ⟨z0.n, z1.n, z2.n, z3.n, z4.n⟩) rfl rfl (fun _ => ⟨_, rfl, rec_laid w20 _ ⟨z0.n, z1.n, z2.n, z3.n, z4.n⟩ w20.heap.size rfl⟩) (recvals_one _) (by unfold maxLen; omega) (by omega) (by have := Hw20.out; simp; omega) ?_
                         intro v21 w21 ho21 ha21 hb21
                         have HN := Lib.hid (HXe.out.more (y := ⟨z0.n, z1.n, z2.n, z3.n, z4.n⟩) HROk.out ⟨l0, l1, l2, l3, l4⟩ (by rw [Hrl.out]; exact ho21) ha21)
                         obtain ⟨A21, c21, rfl, -⟩ := own_slice ho21
                         have kb := HN.out.1.cell 8 rfl
                         have fb := HN.out.1.free 8
                         have HS22 := Lib.hid (HN.out.1.store HOk1.out 8 (.slice A21 (k + 1) c21)).1
                         have HM22 := Lib.hid (HN.out.2.1.apart (HN.out.1.store HOk1.out 8 (.slice A21 (k + 1) c21)).2 (fun q e => by rw [e]; exact hbo))
                         have HR22 := Lib.hid (HN.out.2.2.apart (HN.out.1.store HOk1.out 8 (.slice A21 (k + 1) c21)).2 (fun q e => by rw [e]; exact Nat.lt_of_lt_of_le hbo HC.out))
                         have Hw21 : Hid (w14.heap.size ≤ w21.heap.size) := Lib.hid (by have h1 := ha21.size; have h2 := Hw20.out; simp at h1; omega)
                         clear ho21 ha21 hb21 kd fd j0 j1 j2 j3 j4)
            go_roundw
            case rel => exact ⟨k + 1, _, _, _, .slice A21 (k + 1) c21, by omega, by go_num, HS22.out, HM22.out, HR22.out, by have := Hw21.out; simp; omega, by rw [List.length_append, Hrl.out]; rfl, Hstp.out.1, Hstp.out.2, A21, c21, rfl⟩
            case measure => simp [intOf]; omega
          | true =>
            have hne : (errText true a2).isEmpty = false := atT_ne' 4 (a2 : Nat)
            have HE2 := Lib.hid (hEnd.out (.inr rfl))
            simp only [strV] at r2
            generalize errText true a2 = et at *
            clear hEnd
            go_wp2_with fail
            go_meet
            exact HE2.out
        · have HE2 := Lib.hid (hEnd.out (.inl (by omega)))
          clear hEnd
          go_wp2_with fail
          go_meet
          exact HE2.out
    case rest =>
      obtain ⟨rs, v, AR, cR, hs, hom, hor, rfl, hpl2, hrs255⟩ := hcut
      have HFr : Hid (FrameIn wc (⟨x0.n, x1.n, x2.n, Av, ms.length, cv, ms, y0.n, y1.n, y2.n, y3.n, AR, rs.length, cR, rs⟩ : FrameC)) := Lib.hid (by
        obtain ⟨A', c', e', hle', hin'⟩ := MsgsIn.own hom.own (fun y hy => (hom.ok y hy).1)
        injection e' with e1 _ e3
        subst e1 e3
        obtain ⟨A2', c2', e2', hle2', hin2'⟩ := RecsIn.own hor.own
        injection e2' with e1 _ e3
        subst e1 e3
        exact ⟨hin', rfl, hle', by simp only; omega, hin2', rfl, hle2', by simp only; omega, ⟨q0, q1, q2, q4, q5, q6, q7, hor.fits⟩⟩)
      have HHi : Hid (FrameHi W1.heap.size (⟨x0.n, x1.n, x2.n, Av, ms.length, cv, ms, y0.n, y1.n, y2.n, y3.n, AR, rs.length, cR, rs⟩ : FrameC)) := Lib.hid (by
        refine ⟨fun _ k hk => ?_, fun y hy hd k hk => ((hom.ok y hy).2 hd k hk).1, fun _ k hk => ?_⟩
        · exact (hom.own.lt k (by rw [ownBlock_slice]; exact hk)).1
        · have h1 := (hor.own.lt k (by rw [ownBlock_slice]; exact hk)).1
          have h2 := HC.out
          omega)
      have HP : Hid (s = false → FrameC.plain (⟨x0.n, x1.n, x2.n, Av, ms.length, cv, ms, y0.n, y1.n, y2.n, y3.n, AR, rs.length, cR, rs⟩ : FrameC) = (FrameP.raw p).1) := Lib.hid fun hs => by
        rw [Hraw.out]
        simp only [FrameC.plain]
        rw [Hpl1.out (Hsh.out hs), hpl2 hs]
      have hBwc : Below w1.heap.size w1 wc := HbW.out.trans (hs.ap.below (Nat.le_of_lt hro) (fun k e => by rcases e with e | e <;> omega))
      have Hbzc := Lib.hid ((hBwc.block w.heap.size hz1).trans Hbz.out)
      have Hbwc := Lib.hid (Hb1.out.trans (hBwc.mono (Nat.le_of_lt hz1)))
      have hzc : w.heap.size < wc.heap.size := Nat.lt_of_lt_of_le hz1 hBwc.size
      have HzW : Hid (w.heap.size < W1.heap.size) := Lib.hid (by omega)
      have Hrdc := Lib.hid hs.rd
      have Hboxc := Lib.hid hs.box
      have hzb : w2.heap.size < wc.heap.size := lt_of_block hs.box
      have hpla : a ≤ p.length := hs.rd.place
      have HEn := Lib.hid (refend_any w1.heap.size A1 p.length c1 p a s wc hs.rd)
      clear hs hom hor hpl2 hBwc HSf HOf HC HmC HdC L4 KD2 Hbz Hb1 Hb2 HbW HOk1
      cases s with
      | true =>
        have hdec : FrameP.dec p = .inr (a, (4, (a : Int))) := by
          unfold FrameP.dec
          rw [Hraw.out]
          simp
        have Hdec := Lib.hid hdec
        clear hdec
        rw [show endText true a p.length = wrongT (some (4, (a : Int))) from rfl] at HEn
        have hTe := wrongT_emp (4, (a : Int))
        have HOv := Lib.hid (fun W => over_any 40 (a : Int) (wrongT (some (4, (a : Int)))) W (by omega) (by omega) (by have := wrongT_len (4, (a : Int)); omega))
        obtain ⟨T2, hT2⟩ : ∃ x, overT 40 (a : Int) (wrongT (some (4, (a : Int)))) = x := ⟨_, rfl⟩
        have HT2 := Lib.hid hT2
        rw [hT2] at HOv
        obtain ⟨T1, hT1⟩ : ∃ x, wrongT (some (4, (a : Int))) = x := ⟨_, rfl⟩
        rw [hT1] at hTe HOv HEn
        unfold strV at HOv
        unfold RefEndPost strV at HEn
        clear hT1 hT2
        go_wp2_with fail
        refine HEn.out.mono ?_
        rintro e w9 ⟨rfl, hb9⟩
        have Hbz9 := Lib.hid ((hb9.block w.heap.size hzc).trans Hbzc.out)
        have Hb9 := Lib.hid (Hbwc.out.trans (hb9.mono (Nat.le_of_lt hzc)))
        have Hrd9 := Lib.hid (Hrdc.out.below hb9)
        have hz9 : w.heap.size < w9.heap.size := by have := hb9.size; omega
        clear hb9
        obtain ⟨r0, r1, r2, -, -, -⟩ := three_cells Hrd9.out.block
        go_wp2_with fail
        refine (HOv.out w9).mono ?_
        rintro e W ⟨rfl, hb10⟩
        have hbz10 := (hb10.block w.heap.size hz9).trans Hbz9.out
        have Hb10 := Lib.hid (Hb9.out.trans (hb10.mono (Nat.le_of_lt hz9)))
        clear hb10 r0 r1 r2
        have k0 := cell_at hbz10 0 rfl
        have k1 := cell_at hbz10 1 rfl
        have k2 := cell_at hbz10 2 rfl
        have k3 := cell_at hbz10 3 rfl
        have k4 := cell_at hbz10 4 rfl
        have k5 := cell_at hbz10 5 rfl
        have k6 := cell_at hbz10 6 rfl
        have k7 := cell_at hbz10 7 rfl
        have k8 := cell_at hbz10 8 rfl
        have f := fun i => free_at hbz10 i
        go_wp2_with fail
        clear k0 k1 k2 k3 k4 k5 k6 k7 k8 f
        show bodyPost _ _ _ _ _ (storeAll W w.heap.size [.int .u8 0, .int .u32 0, .int .u8 0, .slice none 0 0, .int .u8 0, .int .u8 0, .int .u16 0, .int .u16 0, .slice none 0 0] 0)
        have hfin := zero_same hbz10 rfl [.int .u8 0, .int .u32 0, .int .u8 0, .slice none 0 0, .int .u8 0, .int .u8 0, .int .u16 0, .int .u16 0, .slice none 0 0] rfl
        have HFin := (Lib.hid ⟨by rw [HT2.out]; rfl, below_storeAll Hb10.out (Nat.le_refl _) [.int .u8 0, .int .u32 0, .int .u8 0, .slice none 0 0, .int .u8 0, .int .u8 0, .int .u16 0, .int .u16 0, .slice none 0 0] 0 (Nat.le_refl _)⟩ : Hid (RefDecBad (overT 40 (a : Int) (wrongT (some (4, (a : Int))))) w (.returned (.tuple #[zeroC.value, .string ⟨T2.toArray⟩])) (storeAll W w.heap.size [.int .u8 0, .int .u32 0, .int .u8 0, .slice none 0 0, .int .u8 0, .int .u8 0, .int .u16 0, .int .u16 0, .slice none 0 0] 0)))
        generalize storeAll W w.heap.size [.int .u8 0, .int .u32 0, .int .u8 0, .slice none 0 0, .int .u8 0, .int .u8 0, .int .u16 0, .int .u16 0, .slice none 0 0] 0 = Wf at *
        have r0 := cell_at hfin 0 rfl
        have r1 := cell_at hfin 1 rfl
        have r2 := cell_at hfin 2 rfl
        have r3 := cell_at hfin 3 rfl
        have r4 := cell_at hfin 4 rfl
        have r5 := cell_at hfin 5 rfl
        have r6 := cell_at hfin 6 rfl
        have r7 := cell_at hfin 7 rfl
        have r8 := cell_at hfin 8 rfl
        refine bodyPost_ret (v := .tuple #[.agg #[.int .u8 0, .int .u32 0, .int .u8 0, .slice none 0 0, .int .u8 0, .int .u8 0, .int .u16 0, .int .u16 0, .slice none 0 0], .string ⟨T2.toArray⟩]) (by simp [results, Try.results19, go_sem, r0, r1, r2, r3, r4, r5, r6, r7, r8]) rfl ?_
        rw [Hdec.out]; exact HFin.out
      | false =>
        by_cases hlt : a < p.length
        · have hdec : FrameP.dec p = .inr (a, (5, (a : Int))) := by
            unfold FrameP.dec
            rw [Hraw.out]
            simp [hlt]
          have Hdec := Lib.hid hdec
          clear hdec
          rw [show endText false a p.length = wrongT (some (5, (a : Int))) by simp [endText, hlt, wrongT]] at HEn
          have hTe := wrongT_emp (5, (a : Int))
          have HOv := Lib.hid (fun W => over_any 40 (a : Int) (wrongT (some (5, (a : Int)))) W (by omega) (by omega) (by have := wrongT_len (5, (a : Int)); omega))
          obtain ⟨T2, hT2⟩ : ∃ x, overT 40 (a : Int) (wrongT (some (5, (a : Int)))) = x := ⟨_, rfl⟩
          have HT2 := Lib.hid hT2
          rw [hT2] at HOv
          obtain ⟨T1, hT1⟩ : ∃ x, wrongT (some (5, (a : Int))) = x := ⟨_, rfl⟩
          rw [hT1] at hTe HOv HEn
          unfold strV at HOv
          unfold RefEndPost strV at HEn
          clear hT1 hT2
          go_wp2_with fail
          refine HEn.out.mono ?_
          rintro e w9 ⟨rfl, hb9⟩
          have Hbz9 := Lib.hid ((hb9.block w.heap.size hzc).trans Hbzc.out)
          have Hb9 := Lib.hid (Hbwc.out.trans (hb9.mono (Nat.le_of_lt hzc)))
          have Hrd9 := Lib.hid (Hrdc.out.below hb9)
          have hz9 : w.heap.size < w9.heap.size := by have := hb9.size; omega
          clear hb9
          obtain ⟨r0, r1, r2, -, -, -⟩ := three_cells Hrd9.out.block
          go_wp2_with fail
          refine (HOv.out w9).mono ?_
          rintro e W ⟨rfl, hb10⟩
          have hbz10 := (hb10.block w.heap.size hz9).trans Hbz9.out
          have Hb10 := Lib.hid (Hb9.out.trans (hb10.mono (Nat.le_of_lt hz9)))
          clear hb10 r0 r1 r2
          have k0 := cell_at hbz10 0 rfl
          have k1 := cell_at hbz10 1 rfl
          have k2 := cell_at hbz10 2 rfl
          have k3 := cell_at hbz10 3 rfl
          have k4 := cell_at hbz10 4 rfl
          have k5 := cell_at hbz10 5 rfl
          have k6 := cell_at hbz10 6 rfl
          have k7 := cell_at hbz10 7 rfl
          have k8 := cell_at hbz10 8 rfl
          have f := fun i => free_at hbz10 i
          go_wp2_with fail
          clear k0 k1 k2 k3 k4 k5 k6 k7 k8 f
          show bodyPost _ _ _ _ _ (storeAll W w.heap.size [.int .u8 0, .int .u32 0, .int .u8 0, .slice none 0 0, .int .u8 0, .int .u8 0, .int .u16 0, .int .u16 0, .slice none 0 0] 0)
          have hfin := zero_same hbz10 rfl [.int .u8 0, .int .u32 0, .int .u8 0, .slice none 0 0, .int .u8 0, .int .u8 0, .int .u16 0, .int .u16 0, .slice none 0 0] rfl
          have HFin := (Lib.hid ⟨by rw [HT2.out]; rfl, below_storeAll Hb10.out (Nat.le_refl _) [.int .u8 0, .int .u32 0, .int .u8 0, .slice none 0 0, .int .u8 0, .int .u8 0, .int .u16 0, .int .u16 0, .slice none 0 0] 0 (Nat.le_refl _)⟩ : Hid (RefDecBad (overT 40 (a : Int) (wrongT (some (5, (a : Int))))) w (.returned (.tuple #[zeroC.value, .string ⟨T2.toArray⟩])) (storeAll W w.heap.size [.int .u8 0, .int .u32 0, .int .u8 0, .slice none 0 0, .int .u8 0, .int .u8 0, .int .u16 0, .int .u16 0, .slice none 0 0] 0)))
          generalize storeAll W w.heap.size [.int .u8 0, .int .u32 0, .int .u8 0, .slice none 0 0, .int .u8 0, .int .u8 0, .int .u16 0, .int .u16 0, .slice none 0 0] 0 = Wf at *
          have r0 := cell_at hfin 0 rfl
          have r1 := cell_at hfin 1 rfl
          have r2 := cell_at hfin 2 rfl
          have r3 := cell_at hfin 3 rfl
          have r4 := cell_at hfin 4 rfl
          have r5 := cell_at hfin 5 rfl
          have r6 := cell_at hfin 6 rfl
          have r7 := cell_at hfin 7 rfl
          have r8 := cell_at hfin 8 rfl
          refine bodyPost_ret (v := .tuple #[.agg #[.int .u8 0, .int .u32 0, .int .u8 0, .slice none 0 0, .int .u8 0, .int .u8 0, .int .u16 0, .int .u16 0, .slice none 0 0], .string ⟨T2.toArray⟩]) (by simp [results, Try.results19, go_sem, r0, r1, r2, r3, r4, r5, r6, r7, r8]) rfl ?_
          rw [Hdec.out]; exact HFin.out
        · have hd1 : ∀ e, FrameP.chk (FrameP.raw p).1 = some e → FrameP.dec p = .inr (a, e) := fun e he => by
            unfold FrameP.dec
            rw [he, Hraw.out]
            simp [hlt]
          have hd2 : FrameP.chk (FrameP.raw p).1 = none → FrameP.dec p = .inl (FrameP.raw p).1 := fun he => by
            unfold FrameP.dec
            rw [he, Hraw.out]
            simp [hlt]
          rw [← HP.out rfl] at hd1 hd2
          have Hd1 := Lib.hid hd1
          have Hd2 := Lib.hid hd2
          clear hd1 hd2
          rw [show endText false a p.length = [] by simp [endText, hlt]] at HEn
          unfold RefEndPost strV at HEn
          go_wp2_with fail
          refine HEn.out.mono ?_
          rintro e w9 ⟨rfl, hb9⟩
          have Hbz9 := Lib.hid ((hb9.block w.heap.size hzc).trans Hbzc.out)
          have Hb9 := Lib.hid (Hbwc.out.trans (hb9.mono (Nat.le_of_lt hzc)))
          have Hrd9 := Lib.hid (Hrdc.out.below hb9)
          have hz9 : w.heap.size < w9.heap.size := by have := hb9.size; omega
          have hbf := (hb9.block w2.heap.size hzb).trans Hboxc.out
          have hzb9 : w2.heap.size < w9.heap.size := lt_of_block hbf
          have Hbf := Lib.hid hbf
          have HFr9 := Lib.hid (HFr.out.below hb9)
          have HCk := Lib.hid (refcheck_any (⟨x0.n, x1.n, x2.n, Av, ms.length, cv, ms, y0.n, y1.n, y2.n, y3.n, AR, rs.length, cR, rs⟩ : FrameC) w9 HFr9.out)
          simp only [FrameC.value] at HCk
          clear hb9 HEn Hbzc Hbwc Hrdc Hboxc HFr
          have k0 := cell_at hbf 0 rfl
          have k1 := cell_at hbf 1 rfl
          have k2 := cell_at hbf 2 rfl
          have k3 := cell_at hbf 3 rfl
          have k4 := cell_at hbf 4 rfl
          have k5 := cell_at hbf 5 rfl
          have k6 := cell_at hbf 6 rfl
          have k7 := cell_at hbf 7 rfl
          have k8 := cell_at hbf 8 rfl
          have f := fun i => free_at hbf i
          cases hchk : FrameP.chk (FrameC.plain (⟨x0.n, x1.n, x2.n, Av, ms.length, cv, ms, y0.n, y1.n, y2.n, y3.n, AR, rs.length, cR, rs⟩ : FrameC)) with
          | some e =>
            obtain ⟨ec, ep⟩ := e
            have Hdec := Lib.hid (Hd1.out _ hchk)
            rw [hchk] at HCk
            unfold RefChkPost at HCk
            clear hchk Hd1 Hd2
            have hTe := wrongT_emp (ec, ep)
            have HOv := Lib.hid (fun W => over_any 40 (a : Int) (wrongT (some (ec, ep))) W (by omega) (by omega) (by have := wrongT_len (ec, ep); omega))
            obtain ⟨T2, hT2⟩ : ∃ x, overT 40 (a : Int) (wrongT (some (ec, ep))) = x := ⟨_, rfl⟩
            have HT2 := Lib.hid hT2
            rw [hT2] at HOv
            obtain ⟨T1, hT1⟩ : ∃ x, wrongT (some (ec, ep)) = x := ⟨_, rfl⟩
            rw [hT1] at hTe HOv HCk
            unfold strV at HOv
            unfold strV at HCk
            clear hT1 hT2
            go_wp2_with fail
            refine HCk.out.mono ?_
            clear k0 k1 k2 k3 k4 k5 k6 k7 k8 f
            rintro e w8 ⟨rfl, hb8⟩
            replace Hbz9 := Lib.hid ((hb8.block w.heap.size hz9).trans Hbz9.out)
            replace Hb9 := Lib.hid (Hb9.out.trans (hb8.mono (Nat.le_of_lt hz9)))
            replace Hrd9 := Lib.hid (Hrd9.out.below hb8)
            have hz8 : w.heap.size < w8.heap.size := by have := hb8.size; omega
            clear hb8 hz9 hbf
            rename w.heap.size < w8.heap.size => hz9
            obtain ⟨r0, r1, r2, -, -, -⟩ := three_cells Hrd9.out.block
            go_wp2_with fail
            refine (HOv.out w8).mono ?_
            rintro e W ⟨rfl, hb10⟩
            have hbz10 := (hb10.block w.heap.size hz9).trans Hbz9.out
            have Hb10 := Lib.hid (Hb9.out.trans (hb10.mono (Nat.le_of_lt hz9)))
            clear hb10 r0 r1 r2
            have k0 := cell_at hbz10 0 rfl
            have k1 := cell_at hbz10 1 rfl
            have k2 := cell_at hbz10 2 rfl
            have k3 := cell_at hbz10 3 rfl
            have k4 := cell_at hbz10 4 rfl
            have k5 := cell_at hbz10 5 rfl
            have k6 := cell_at hbz10 6 rfl
            have k7 := cell_at hbz10 7 rfl
            have k8 := cell_at hbz10 8 rfl
            have f := fun i => free_at hbz10 i
            go_wp2_with fail
            clear k0 k1 k2 k3 k4 k5 k6 k7 k8 f
            show bodyPost _ _ _ _ _ (storeAll W w.heap.size [.int .u8 0, .int .u32 0, .int .u8 0, .slice none 0 0, .int .u8 0, .int .u8 0, .int .u16 0, .int .u16 0, .slice none 0 0] 0)
            have hfin := zero_same hbz10 rfl [.int .u8 0, .int .u32 0, .int .u8 0, .slice none 0 0, .int .u8 0, .int .u8 0, .int .u16 0, .int .u16 0, .slice none 0 0] rfl
            have HFin := (Lib.hid ⟨by rw [HT2.out]; rfl, below_storeAll Hb10.out (Nat.le_refl _) [.int .u8 0, .int .u32 0, .int .u8 0, .slice none 0 0, .int .u8 0, .int .u8 0, .int .u16 0, .int .u16 0, .slice none 0 0] 0 (Nat.le_refl _)⟩ : Hid (RefDecBad (overT 40 (a : Int) (wrongT (some (ec, ep)))) w (.returned (.tuple #[zeroC.value, .string ⟨T2.toArray⟩])) (storeAll W w.heap.size [.int .u8 0, .int .u32 0, .int .u8 0, .slice none 0 0, .int .u8 0, .int .u8 0, .int .u16 0, .int .u16 0, .slice none 0 0] 0)))
            generalize storeAll W w.heap.size [.int .u8 0, .int .u32 0, .int .u8 0, .slice none 0 0, .int .u8 0, .int .u8 0, .int .u16 0, .int .u16 0, .slice none 0 0] 0 = Wf at *
            have r0 := cell_at hfin 0 rfl
            have r1 := cell_at hfin 1 rfl
            have r2 := cell_at hfin 2 rfl
            have r3 := cell_at hfin 3 rfl
            have r4 := cell_at hfin 4 rfl
            have r5 := cell_at hfin 5 rfl
            have r6 := cell_at hfin 6 rfl
            have r7 := cell_at hfin 7 rfl
            have r8 := cell_at hfin 8 rfl
            refine bodyPost_ret (v := .tuple #[.agg #[.int .u8 0, .int .u32 0, .int .u8 0, .slice none 0 0, .int .u8 0, .int .u8 0, .int .u16 0, .int .u16 0, .slice none 0 0], .string ⟨T2.toArray⟩]) (by simp [results, Try.results19, go_sem, r0, r1, r2, r3, r4, r5, r6, r7, r8]) rfl ?_
            rw [Hdec.out]; exact HFin.out
          | none =>
            have Hdec := Lib.hid (Hd2.out hchk)
            rw [hchk] at HCk
            unfold RefChkPost at HCk
            rw [show wrongT none = [] from rfl] at HCk
            unfold strV at HCk
            clear hchk Hd1 Hd2
            go_wp2_with fail
            refine HCk.out.mono ?_
            clear k0 k1 k2 k3 k4 k5 k6 k7 k8 f
            rintro e w8 ⟨rfl, hb8⟩
            have hbz8 := (hb8.block w.heap.size hz9).trans Hbz9.out
            have hbf8 := (hb8.block w2.heap.size hzb9).trans Hbf.out
            have Hb8 := Lib.hid (Hb9.out.trans (hb8.mono (Nat.le_of_lt hz9)))
            have HFr8 := Lib.hid (HFr9.out.below hb8)
            clear hb8 hbf
            have j0 := cell_at hbf8 0 rfl
            have j1 := cell_at hbf8 1 rfl
            have j2 := cell_at hbf8 2 rfl
            have j3 := cell_at hbf8 3 rfl
            have j4 := cell_at hbf8 4 rfl
            have j5 := cell_at hbf8 5 rfl
            have j6 := cell_at hbf8 6 rfl
            have j7 := cell_at hbf8 7 rfl
            have j8 := cell_at hbf8 8 rfl
            have k0 := cell_at hbz8 0 rfl
            have k1 := cell_at hbz8 1 rfl
            have k2 := cell_at hbz8 2 rfl
            have k3 := cell_at hbz8 3 rfl
            have k4 := cell_at hbz8 4 rfl
            have k5 := cell_at hbz8 5 rfl
            have k6 := cell_at hbz8 6 rfl
            have k7 := cell_at hbz8 7 rfl
            have k8 := cell_at hbz8 8 rfl
            have f := fun i => free_at hbz8 i
            go_wp2_with fail
            clear j0 j1 j2 j3 j4 j5 j6 j7 j8 hbf8
            clear k0 k1 k2 k3 k4 k5 k6 k7 k8 f
            show bodyPost _ _ _ _ _ (storeAll w8 w.heap.size [.int .u8 (x0.n : Nat), .int .u32 (x1.n : Nat), .int .u8 (x2.n : Nat), .slice Av ms.length cv, .int .u8 (y0.n : Nat), .int .u8 (y1.n : Nat), .int .u16 (y2.n : Nat), .int .u16 (y3.n : Nat), .slice AR rs.length cR] 0)
            have hfin := zero_same hbz8 rfl [.int .u8 (x0.n : Nat), .int .u32 (x1.n : Nat), .int .u8 (x2.n : Nat), .slice Av ms.length cv, .int .u8 (y0.n : Nat), .int .u8 (y1.n : Nat), .int .u16 (y2.n : Nat), .int .u16 (y3.n : Nat), .slice AR rs.length cR] rfl
            have HFin := (Lib.hid ⟨_, rfl, ⟨(⟨x0.n, x1.n, x2.n, Av, ms.length, cv, ms, y0.n, y1.n, y2.n, y3.n, AR, rs.length, cR, rs⟩ : FrameC), rfl, HFr8.out.apart HHi.out (storeAll_apart w.heap.size [.int .u8 (x0.n : Nat), .int .u32 (x1.n : Nat), .int .u8 (x2.n : Nat), .slice Av ms.length cv, .int .u8 (y0.n : Nat), .int .u8 (y1.n : Nat), .int .u16 (y2.n : Nat), .int .u16 (y3.n : Nat), .slice AR rs.length cR] 0 w8) (fun k e => by rw [e]; exact HzW.out), rfl⟩, below_storeAll Hb8.out (Nat.le_refl _) [.int .u8 (x0.n : Nat), .int .u32 (x1.n : Nat), .int .u8 (x2.n : Nat), .slice Av ms.length cv, .int .u8 (y0.n : Nat), .int .u8 (y1.n : Nat), .int .u16 (y2.n : Nat), .int .u16 (y3.n : Nat), .slice AR rs.length cR] 0 (Nat.le_refl _)⟩ : Hid (RefDecGood (FrameC.plain (⟨x0.n, x1.n, x2.n, Av, ms.length, cv, ms, y0.n, y1.n, y2.n, y3.n, AR, rs.length, cR, rs⟩ : FrameC)) w (.returned (.tuple #[.agg #[.int .u8 (x0.n : Nat), .int .u32 (x1.n : Nat), .int .u8 (x2.n : Nat), .slice Av ms.length cv, .int .u8 (y0.n : Nat), .int .u8 (y1.n : Nat), .int .u16 (y2.n : Nat), .int .u16 (y3.n : Nat), .slice AR rs.length cR], .string ⟨#[]⟩])) (storeAll w8 w.heap.size [.int .u8 (x0.n : Nat), .int .u32 (x1.n : Nat), .int .u8 (x2.n : Nat), .slice Av ms.length cv, .int .u8 (y0.n : Nat), .int .u8 (y1.n : Nat), .int .u16 (y2.n : Nat), .int .u16 (y3.n : Nat), .slice AR rs.length cR] 0)))
            generalize storeAll w8 w.heap.size [.int .u8 (x0.n : Nat), .int .u32 (x1.n : Nat), .int .u8 (x2.n : Nat), .slice Av ms.length cv, .int .u8 (y0.n : Nat), .int .u8 (y1.n : Nat), .int .u16 (y2.n : Nat), .int .u16 (y3.n : Nat), .slice AR rs.length cR] 0 = Wf at *
            have r0 := cell_at hfin 0 rfl
            have r1 := cell_at hfin 1 rfl
            have r2 := cell_at hfin 2 rfl
            have r3 := cell_at hfin 3 rfl
            have r4 := cell_at hfin 4 rfl
            have r5 := cell_at hfin 5 rfl
            have r6 := cell_at hfin 6 rfl
            have r7 := cell_at hfin 7 rfl
            have r8 := cell_at hfin 8 rfl
            refine bodyPost_ret (v := .tuple #[.agg #[.int .u8 (x0.n : Nat), .int .u32 (x1.n : Nat), .int .u8 (x2.n : Nat), .slice Av ms.length cv, .int .u8 (y0.n : Nat), .int .u8 (y1.n : Nat), .int .u16 (y2.n : Nat), .int .u16 (y3.n : Nat), .slice AR rs.length cR], .string ⟨#[]⟩]) (by simp [results, Try.results19, go_sem, r0, r1, r2, r3, r4, r5, r6, r7, r8]) rfl ?_
            rw [Hdec.out]; exact HFin.out
end Go.Proofs.Ytmhpdmpihmahdaa
