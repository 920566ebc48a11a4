/- Contract of table's Decode at bytes in memory. Conditions: where the bytes lie; at most 1000000 of them. -/
import Derived.Test.YtgceleipaiameaaTbW
import Derived.Test.YtgceleipaiameaaTbH
import Derived.Test.YtgceleipaiameaaCrcD
namespace Go.Proofs.Ytgceleipaiameaa
open Go.RowKit
set_option maxRecDepth 100000

/-- No tables: the zero value, and an error that reads so. -/
def DecBad (t : List UInt8) (w : World) (e : Ending) (w' : World) : Prop :=
  ∃ b, e = .returned (.tuple #[zeroCC.value, .iface 71 (.pointer (some ⟨b, 0, none⟩))]) ∧ ErrTextK 5 w' (.iface 71 (.pointer (some ⟨b, 0, none⟩))) t ∧ Below w.heap.size w w'
def DecGood (f : TableP.Cfg) (w : World) (e : Ending) (w' : World) : Prop :=
  ∃ v, e = .returned (.tuple #[v, .nilIface]) ∧ CfgAt w' v f ∧ Below w.heap.size w w'
/-- What Decode answers of a body. -/
def DecPost : TableP.Cfg ⊕ (Nat × FrameP.Wrong) → World → Ending → World → Prop
  | .inl f => DecGood f
  | .inr (a, c) => DecBad (overT 60 a (wrongT (some c)))
/-- takeTables stopped. -/
def TakesBad (br : Nat) (A : Option Addr) (n cap : Nat) (l : List UInt8) (t : List UInt8) (a : Nat) (w : World) (e : Ending) (w' : World) : Prop :=
  ∃ (x : CfgC) (b : Nat), e = .returned (.tuple #[x.value, .iface 71 (.pointer (some ⟨b, 0, none⟩))]) ∧ ErrText w' (.iface 71 (.pointer (some ⟨b, 0, none⟩))) t ∧ TakeIn br A n cap l w a false w'
def TakesGood (br : Nat) (A : Option Addr) (n cap : Nat) (l : List UInt8) (c : TableP.Cfg) (a : Nat) (s : Bool) (w : World) (e : Ending) (w' : World) : Prop :=
  ∃ x : CfgC, e = .returned (.tuple #[x.value, .nilIface]) ∧ TakeIn br A n cap l w a s w' ∧ CfgIn w' x ∧ CfgHi w.heap.size x ∧ (s = false → x.plain = c)

theorem errtext_wrap {w : World} {b : Nat} {x : List UInt8} {a : Int} (h : ErrTextK 4 w (.iface 71 (.pointer (some ⟨b, 0, none⟩))) x) (hx : x ≠ []) (ha : -1 ≤ a ∧ a ≤ 9223372036854775807) :
    ErrTextK 5 (w.alloc (.cells #[.int .i64 60, .int .i64 a, .iface 71 (.pointer (some ⟨b, 0, none⟩))] 73)) (.iface 71 (.pointer (some ⟨w.heap.size, 0, none⟩))) (overT 60 a x) := by
  rw [overT, if_neg hx]
  exact ErrTextK.wrap h 60 a (by omega) ha
theorem below_storeAll {B : Nat} {w w' : World} (h : Below B w w') {b : Nat} (hb : B ≤ b) (vs : List Value) (i : Nat) (hs : B ≤ w.heap.size) : Below B w (storeAll w' b vs i) :=
  h.trans ((storeAll_apart b vs i w').below (Nat.le_trans hs h.size) (fun k e => by omega))
theorem zero_same {w : World} {b : Nat} {cs : Array Value} (h : w.heap[b]? = some (.cells cs 26 (0, 0))) (hs : cs.size = 11) (vs : List Value) (hv : vs.length = 11) : (storeAll w b vs 0).heap[b]? = some (.cells vs.toArray 26 (0, 0)) := by
  have := storeAll_heap (t := 26) vs 0 w [] cs.toList (by simpa using h) rfl (by simp [hs, hv])
  simpa using this

set_option maxHeartbeats 1000000 in
theorem decode_many (A : Option Addr) (n cap : Nat) (w : World) (hl : 4096 < n) (hmo : n ≤ 9223372036854775807) :
    Calls Try.prog 17 #[.slice A n cap] w (DecBad (overT 60 (-1) (wrongT (some (3, -1)))) w) := by
  have HN := Lib.hid (fun W => new_some 3 (-1) W rfl)
  rw [place_of (-1) (by omega)] at HN
  have q1 : decide ((4096 : Int) < n) = true := decide_eq_true (by omega)
  have hbz0 := heap_alloc_new w (.cells #[.int .i64 0, .int .i64 0, .int .i64 0, .int .i64 0, .int .i64 0, .int .i64 0, .int .i64 0, .int .i64 0, .slice none 0 0, .slice none 0 0, .slice none 0 0] 26)
  have hz0 : w.heap.size < (w.alloc (.cells #[.int .i64 0, .int .i64 0, .int .i64 0, .int .i64 0, .int .i64 0, .int .i64 0, .int .i64 0, .int .i64 0, .slice none 0 0, .slice none 0 0, .slice none 0 0] 26)).heap.size := by simp
  have hb0 := (Below.refl w.heap.size w).alloc (Nat.le_refl _) (.cells #[.int .i64 0, .int .i64 0, .int .i64 0, .int .i64 0, .int .i64 0, .int .i64 0, .int .i64 0, .int .i64 0, .slice none 0 0, .slice none 0 0, .slice none 0 0] 26)
  have Hbz := Lib.hid hbz0
  have Hb1 := Lib.hid hb0
  have Hz1 := Lib.hid hz0
  clear hl hbz0 hz0 hb0
  go_enter Try.func17, Try.ntmps17
  go_wp2_with fail
  generalize w.alloc (.cells #[.int .i64 0, .int .i64 0, .int .i64 0, .int .i64 0, .int .i64 0, .int .i64 0, .int .i64 0, .int .i64 0, .slice none 0 0, .slice none 0 0, .slice none 0 0] 26) = w1 at *
  have hz1 := Hz1.out
  refine (HN.out _).mono ?_
  rintro e w2 ⟨rfl, rfl⟩
  go_wp2_with fail
  refine (wrap_F 60 (-1) w1.heap.size _ rfl).mono ?_
  rw [place_of (-1) (by omega)]
  rintro e w3 ⟨rfl, rfl⟩
  have hbz := (Below.heap_alloc _ (.cells #[.int .i64 60, .int .i64 (-1), .iface 71 (.pointer (some ⟨w1.heap.size, 0, none⟩))] 73) _ (by simp; omega)).trans ((Below.heap_alloc w1 (.cells #[.int .i64 3, .int .i64 (-1), .nilIface] 73) _ hz1).trans Hbz.out)
  have HE : Hid (ErrTextK 5 ((w1.alloc (.cells #[.int .i64 3, .int .i64 (-1), .nilIface] 73)).alloc (.cells #[.int .i64 60, .int .i64 (-1), .iface 71 (.pointer (some ⟨w1.heap.size, 0, none⟩))] 73)) (.iface 71 (.pointer (some ⟨w1.heap.size + 1, 0, none⟩))) (overT 60 (-1) (wrongT (some (3, -1))))) := Lib.hid (by
    have h9 := errtext_wrap (a := -1) (ErrText.new w1 3 (-1) (by omega) (by omega)) (wrongT_ne (3, -1)) (by omega)
    simpa [wrongT] using h9)
  have Hb3 := Lib.hid ((Hb1.out.alloc (Nat.le_of_lt hz1) (.cells #[.int .i64 3, .int .i64 (-1), .nilIface] 73)).alloc (by simp; omega) (.cells #[.int .i64 60, .int .i64 (-1), .iface 71 (.pointer (some ⟨w1.heap.size, 0, none⟩))] 73))
  generalize hW : ((w1.alloc (.cells #[.int .i64 3, .int .i64 (-1), .nilIface] 73)).alloc (.cells #[.int .i64 60, .int .i64 (-1), .iface 71 (.pointer (some ⟨w1.heap.size, 0, none⟩))] 73)) = W at *
  clear hW
  have k0 := cell_at hbz 0 rfl
  have k1 := cell_at hbz 1 rfl
  have k2 := cell_at hbz 2 rfl
  have k3 := cell_at hbz 3 rfl
  have k4 := cell_at hbz 4 rfl
  have k5 := cell_at hbz 5 rfl
  have k6 := cell_at hbz 6 rfl
  have k7 := cell_at hbz 7 rfl
  have k8 := cell_at hbz 8 rfl
  have k9 := cell_at hbz 9 rfl
  have k10 := cell_at hbz 10 rfl
  have f := fun i => free_at hbz i
  go_wp2_with fail
  clear k0 k1 k2 k3 k4 k5 k6 k7 k8 k9 k10 f
  show bodyPost _ _ _ _ _ (storeAll W w.heap.size [.int .i64 0, .int .i64 0, .int .i64 0, .int .i64 0, .int .i64 0, .int .i64 0, .int .i64 0, .int .i64 0, .slice none 0 0, .slice none 0 0, .slice none 0 0] 0)
  have hfin := zero_same hbz rfl [.int .i64 0, .int .i64 0, .int .i64 0, .int .i64 0, .int .i64 0, .int .i64 0, .int .i64 0, .int .i64 0, .slice none 0 0, .slice none 0 0, .slice none 0 0] rfl
  have HFin := (Lib.hid ⟨_, rfl, HE.out.storeAll hbz (by decide) [.int .i64 0, .int .i64 0, .int .i64 0, .int .i64 0, .int .i64 0, .int .i64 0, .int .i64 0, .int .i64 0, .slice none 0 0, .slice none 0 0, .slice none 0 0], below_storeAll Hb3.out (Nat.le_refl _) [.int .i64 0, .int .i64 0, .int .i64 0, .int .i64 0, .int .i64 0, .int .i64 0, .int .i64 0, .int .i64 0, .slice none 0 0, .slice none 0 0, .slice none 0 0] 0 (Nat.le_refl _)⟩ : Hid (DecBad (overT 60 (-1) (wrongT (some (3, -1)))) w (.returned (.tuple #[zeroCC.value, .iface 71 (.pointer (some ⟨w1.heap.size + 1, 0, none⟩))])) (storeAll W w.heap.size [.int .i64 0, .int .i64 0, .int .i64 0, .int .i64 0, .int .i64 0, .int .i64 0, .int .i64 0, .int .i64 0, .slice none 0 0, .slice none 0 0, .slice none 0 0] 0)))
  generalize storeAll W w.heap.size [.int .i64 0, .int .i64 0, .int .i64 0, .int .i64 0, .int .i64 0, .int .i64 0, .int .i64 0, .int .i64 0, .slice none 0 0, .slice none 0 0, .slice none 0 0] 0 = Wf at *
  have r0 := cell_at hfin 0 rfl
  have r1 := cell_at hfin 1 rfl
  have r2 := cell_at hfin 2 rfl
  have r3 := cell_at hfin 3 rfl
  have r4 := cell_at hfin 4 rfl
  have r5 := cell_at hfin 5 rfl
  have r6 := cell_at hfin 6 rfl
  have r7 := cell_at hfin 7 rfl
  have r8 := cell_at hfin 8 rfl
  have r9 := cell_at hfin 9 rfl
  have r10 := cell_at hfin 10 rfl
  refine bodyPost_ret (v := .tuple #[.agg #[.int .i64 0, .int .i64 0, .int .i64 0, .int .i64 0, .int .i64 0, .int .i64 0, .int .i64 0, .int .i64 0, .slice none 0 0, .slice none 0 0, .slice none 0 0], .iface 71 (.pointer (some ⟨w1.heap.size + 1, 0, none⟩))]) (by simp [results, Try.results17, go_sem, r0, r1, r2, r3, r4, r5, r6, r7, r8, r9, r10]) rfl ?_
  exact HFin.out

set_option maxHeartbeats 1000000 in
theorem decode_unsealed (A : Option Addr) (l : List UInt8) (n cap : Nat) (hn : l.length = n) (w : World) (hl : n ≤ 4096) (hcap : n ≤ cap) (h : Bytes w w.heap.size A l) (hs : ¬ isSealed l) :
    Calls Try.prog 17 #[.slice A n cap] w (DecBad (overT 60 (-1) (wrongT (some (6, -1)))) w) := by
  have HO : Hid (∀ o, Calls Try.prog 36 #[.slice A n cap] (w.alloc o) (fun e w' => e = .returned (.tuple #[.slice none 0 0, .bool false]) ∧ Below (w.alloc o).heap.size (w.alloc o) w')) := Lib.hid fun o => by
    refine (open_any A l n cap hn (w.alloc o) (by omega) hcap ((h.alloc (Nat.le_refl _) o).more (by simp))).mono ?_
    rintro e w' (⟨p, v, h1, _⟩ | ⟨_, h2, h3⟩)
    · exact absurd ⟨p, h1⟩ hs
    · exact ⟨h2, h3⟩
  have HN := Lib.hid (fun W => new_some 6 (-1) W rfl)
  rw [place_of (-1) (by omega)] at HN
  have q1 : decide ((4096 : Int) < n) = false := decide_eq_false (by omega)
  clear h hs hn hl
  go_enter Try.func17, Try.ntmps17
  go_wp2_with fail
  refine (HO.out _).mono ?_
  rintro e w1 ⟨rfl, h1⟩
  have hbz1 := (h1.block w.heap.size (by simp)).trans (heap_alloc_new w _)
  have hz1 : w.heap.size < w1.heap.size := by have := h1.size; simp at this; omega
  have Hb1 := Lib.hid (((Below.refl w.heap.size w).alloc (Nat.le_refl _) _).trans (h1.mono (by simp)))
  have Hbz := Lib.hid hbz1
  clear h1 hbz1
  go_wp2_with fail
  refine (HN.out _).mono ?_
  rintro e w2 ⟨rfl, rfl⟩
  go_wp2_with fail
  refine (wrap_F 60 (-1) w1.heap.size _ rfl).mono ?_
  rw [place_of (-1) (by omega)]
  rintro e w3 ⟨rfl, rfl⟩
  have hbz := (Below.heap_alloc _ (.cells #[.int .i64 60, .int .i64 (-1), .iface 71 (.pointer (some ⟨w1.heap.size, 0, none⟩))] 73) _ (by simp; omega)).trans ((Below.heap_alloc w1 (.cells #[.int .i64 6, .int .i64 (-1), .nilIface] 73) _ hz1).trans Hbz.out)
  have HE : Hid (ErrTextK 5 ((w1.alloc (.cells #[.int .i64 6, .int .i64 (-1), .nilIface] 73)).alloc (.cells #[.int .i64 60, .int .i64 (-1), .iface 71 (.pointer (some ⟨w1.heap.size, 0, none⟩))] 73)) (.iface 71 (.pointer (some ⟨w1.heap.size + 1, 0, none⟩))) (overT 60 (-1) (wrongT (some (6, -1))))) := Lib.hid (by
    have h9 := errtext_wrap (a := -1) (ErrText.new w1 6 (-1) (by omega) (by omega)) (wrongT_ne (6, -1)) (by omega)
    simpa [wrongT] using h9)
  have Hb3 := Lib.hid ((Hb1.out.alloc (Nat.le_of_lt hz1) (.cells #[.int .i64 6, .int .i64 (-1), .nilIface] 73)).alloc (by simp; omega) (.cells #[.int .i64 60, .int .i64 (-1), .iface 71 (.pointer (some ⟨w1.heap.size, 0, none⟩))] 73))
  generalize hW : ((w1.alloc (.cells #[.int .i64 6, .int .i64 (-1), .nilIface] 73)).alloc (.cells #[.int .i64 60, .int .i64 (-1), .iface 71 (.pointer (some ⟨w1.heap.size, 0, none⟩))] 73)) = W at *
  clear hW
  have k0 := cell_at hbz 0 rfl
  have k1 := cell_at hbz 1 rfl
  have k2 := cell_at hbz 2 rfl
  have k3 := cell_at hbz 3 rfl
  have k4 := cell_at hbz 4 rfl
  have k5 := cell_at hbz 5 rfl
  have k6 := cell_at hbz 6 rfl
  have k7 := cell_at hbz 7 rfl
  have k8 := cell_at hbz 8 rfl
  have k9 := cell_at hbz 9 rfl
  have k10 := cell_at hbz 10 rfl
  have f := fun i => free_at hbz i
  go_wp2_with fail
  clear k0 k1 k2 k3 k4 k5 k6 k7 k8 k9 k10 f
  show bodyPost _ _ _ _ _ (storeAll W w.heap.size [.int .i64 0, .int .i64 0, .int .i64 0, .int .i64 0, .int .i64 0, .int .i64 0, .int .i64 0, .int .i64 0, .slice none 0 0, .slice none 0 0, .slice none 0 0] 0)
  have hfin := zero_same hbz rfl [.int .i64 0, .int .i64 0, .int .i64 0, .int .i64 0, .int .i64 0, .int .i64 0, .int .i64 0, .int .i64 0, .slice none 0 0, .slice none 0 0, .slice none 0 0] rfl
  have HFin := (Lib.hid ⟨_, rfl, HE.out.storeAll hbz (by decide) [.int .i64 0, .int .i64 0, .int .i64 0, .int .i64 0, .int .i64 0, .int .i64 0, .int .i64 0, .int .i64 0, .slice none 0 0, .slice none 0 0, .slice none 0 0], below_storeAll Hb3.out (Nat.le_refl _) [.int .i64 0, .int .i64 0, .int .i64 0, .int .i64 0, .int .i64 0, .int .i64 0, .int .i64 0, .int .i64 0, .slice none 0 0, .slice none 0 0, .slice none 0 0] 0 (Nat.le_refl _)⟩ : Hid (DecBad (overT 60 (-1) (wrongT (some (6, -1)))) w (.returned (.tuple #[zeroCC.value, .iface 71 (.pointer (some ⟨w1.heap.size + 1, 0, none⟩))])) (storeAll W w.heap.size [.int .i64 0, .int .i64 0, .int .i64 0, .int .i64 0, .int .i64 0, .int .i64 0, .int .i64 0, .int .i64 0, .slice none 0 0, .slice none 0 0, .slice none 0 0] 0)))
  generalize storeAll W w.heap.size [.int .i64 0, .int .i64 0, .int .i64 0, .int .i64 0, .int .i64 0, .int .i64 0, .int .i64 0, .int .i64 0, .slice none 0 0, .slice none 0 0, .slice none 0 0] 0 = Wf at *
  have r0 := cell_at hfin 0 rfl
  have r1 := cell_at hfin 1 rfl
  have r2 := cell_at hfin 2 rfl
  have r3 := cell_at hfin 3 rfl
  have r4 := cell_at hfin 4 rfl
  have r5 := cell_at hfin 5 rfl
  have r6 := cell_at hfin 6 rfl
  have r7 := cell_at hfin 7 rfl
  have r8 := cell_at hfin 8 rfl
  have r9 := cell_at hfin 9 rfl
  have r10 := cell_at hfin 10 rfl
  refine bodyPost_ret (v := .tuple #[.agg #[.int .i64 0, .int .i64 0, .int .i64 0, .int .i64 0, .int .i64 0, .int .i64 0, .int .i64 0, .int .i64 0, .slice none 0 0, .slice none 0 0, .slice none 0 0], .iface 71 (.pointer (some ⟨w1.heap.size + 1, 0, none⟩))]) (by simp [results, Try.results17, go_sem, r0, r1, r2, r3, r4, r5, r6, r7, r8, r9, r10]) rfl ?_
  exact HFin.out

set_option maxHeartbeats 2000000 in
theorem decode_stop (A : Option Addr) (l : List UInt8) (n cap : Nat) (hn : l.length = n) (w : World) (hl : n ≤ 4096) (hcap : n ≤ cap) (h : Bytes w w.heap.size A l) (p : List UInt8) (hs : l = CrcP.seal4 p) (a : Nat) (c : FrameP.Wrong)
    (hT : ∀ br A n cap W, ReaderAt W br A n cap p 0 false → (∀ k, blockOf A = some k → k < W.heap.size) → Calls Try.prog 38 #[.pointer (some ⟨br, 0, none⟩)] W (TakesBad br A n cap p (wrongT (some c)) a W)) :
    Calls Try.prog 17 #[.slice A n cap] w (DecBad (overT 60 (a : Nat) (wrongT (some c))) w) := by
  have HO : Hid (∀ o, Calls Try.prog 36 #[.slice A n cap] (w.alloc o) (fun e w' => ∃ v g, e = .returned (.tuple #[v, .bool true]) ∧ Row w' (w.alloc o).heap.size 5 g v p ∧ Below (w.alloc o).heap.size (w.alloc o) w')) := Lib.hid fun o => by
    refine (open_any A l n cap hn (w.alloc o) (by omega) hcap ((h.alloc (Nat.le_refl _) o).more (by simp))).mono ?_
    rintro e w' (⟨q, v, h1, h2, h3, h4⟩ | ⟨h1, _⟩)
    · have e1 : q = p := by
        have e2 : CrcP.seal4 p = CrcP.seal4 q := hs.symm.trans h1
        have e3 := congrArg List.length e2
        rw [seal4_len, seal4_len] at e3
        unfold CrcP.seal4 at e2
        exact ((List.append_inj e2 (by omega)).1).symm
      subst e1
      exact ⟨v, _, h2, ⟨rfl, h3⟩, h4⟩
    · exact absurd ⟨p, hs⟩ h1
  have hpl : p.length ≤ 1000000 := by have := congrArg List.length hs; rw [seal4_len] at this; omega
  have q1 : decide ((4096 : Int) < n) = false := decide_eq_false (by omega)
  have HT := Lib.hid hT
  clear h hs hn hT hl
  go_enter Try.func17, Try.ntmps17
  go_wp2_with fail
  refine (HO.out _).mono ?_
  rintro e w1 ⟨v1, g1, rfl, hr1, hb1⟩
  have hbz1 := (hb1.block w.heap.size (by simp)).trans (heap_alloc_new w _)
  have hz1 : w.heap.size < w1.heap.size := by have := hb1.size; simp at this; omega
  have Hb1 := Lib.hid (((Below.refl w.heap.size w).alloc (Nat.le_refl _) _).trans (hb1.mono (by simp)))
  have Hbz := Lib.hid hbz1
  obtain ⟨A1, c1, rfl, -, -, hby1⟩ := hr1.bytes
  have HR := Lib.hid (read_new A1 p.length c1 p rfl (by omega) w1 hby1)
  clear hb1 hbz1 hr1 hby1 HO
  go_wp2_with fail
  refine HR.out.mono ?_
  rintro e w2 ⟨br, A2, c2, rfl, hbr, hA2, hrd, hb2⟩
  have Hb2 := Lib.hid hb2
  have HT2 := Lib.hid (HT.out br A2 p.length c2 w2 hrd (fun k hk => (hA2 k hk).2))
  have Hbr := Lib.hid (show w1.heap.size ≤ br ∧ br < w2.heap.size from ⟨hbr, hrd.lt⟩)
  clear hbr hA2 hrd hb2 HR HT
  go_wp2_with fail
  refine HT2.out.mono ?_
  rintro e w3 ⟨x, b, rfl, hx3, ht3⟩
  have Hrd3 := Lib.hid ht3.1
  have hpla := ht3.1.place
  have hB3 : Below w1.heap.size w2 w3 := by
    have h1 := Hbr.out.1
    exact ht3.2.below Hb2.out.size (fun k e => by have e : k = br := e; omega)
  have hz2 : w.heap.size < w2.heap.size := by have h1 := Hb2.out.size; omega
  have hz3 : w.heap.size < w3.heap.size := by have h2 := hB3.size; omega
  have hbz3 := (hB3.block w.heap.size hz1).trans ((Hb2.out.block w.heap.size hz1).trans Hbz.out)
  have hb3 := Hb1.out.trans ((Hb2.out.trans hB3).mono (Nat.le_of_lt hz1))
  have Hbz3 := Lib.hid hbz3
  have Hb3 := Lib.hid hb3
  have HX3 : Hid (∀ o, ErrTextK 4 (w3.alloc o) (.iface 71 (.pointer (some ⟨b, 0, none⟩))) (wrongT (some c))) := Lib.hid fun o => ErrTextK.below hx3 ((Below.refl _ _).alloc (Nat.le_refl _) o)
  clear hx3 ht3 hbz3 hb3 hB3 hz1 hz2 Hb1 Hb2 Hbz HT2
  obtain ⟨nodes, faulty, slot, gap, rho, dmin, dmax, margin, PA, pn, pcap, parts, QA, qn, qcap, ports, RA, rn, rcap, routes⟩ := x
  simp only [CfgC.value]
  go_wp2_with fail
  generalize hw9 : w3.alloc (.cells #[.int .i64 nodes, .int .i64 faulty, .int .i64 slot, .int .i64 gap, .int .i64 rho, .int .i64 dmin, .int .i64 dmax, .int .i64 margin, .slice PA pn pcap, .slice QA qn qcap, .slice RA rn rcap] 26) = w9
  have Hrd9 : Hid (ReaderAt w9 br A2 p.length c2 p a false) := Lib.hid (by rw [← hw9]; exact Hrd3.out.alloc _)
  have Hbz9 : Hid (w9.heap[w.heap.size]? = some (.cells #[.int .i64 0, .int .i64 0, .int .i64 0, .int .i64 0, .int .i64 0, .int .i64 0, .int .i64 0, .int .i64 0, .slice none 0 0, .slice none 0 0, .slice none 0 0] 26 (0, 0))) := Lib.hid (by rw [← hw9]; exact (Below.heap_alloc w3 _ w.heap.size hz3).trans Hbz3.out)
  have Hb9 : Hid (Below w.heap.size w w9) := Lib.hid (by rw [← hw9]; exact Hb3.out.alloc (Nat.le_of_lt hz3) _)
  have HX : Hid (ErrTextK 4 w9 (.iface 71 (.pointer (some ⟨b, 0, none⟩))) (wrongT (some c))) := Lib.hid (by rw [← hw9]; exact HX3.out _)
  have hz9 : w.heap.size < w9.heap.size := Nat.lt_of_lt_of_le hz3 (by rw [← hw9]; simp)
  clear hw9 Hrd3 Hbz3 Hb3 HX3 hz3
  go_wp2_with fail
  refine (at_any' br A2 _ c2 p a _ w9 Hrd9.out).mono ?_
  rintro e w10 ⟨rfl, rfl⟩
  go_wp2_with fail
  refine (wrap_F 60 (a : Int) b w9 rfl).mono ?_
  rw [place_of (a : Int) (by omega)]
  rintro e w11 ⟨rfl, rfl⟩
  have hbz := (Below.heap_alloc w9 (.cells #[.int .i64 60, .int .i64 (a : Int), .iface 71 (.pointer (some ⟨b, 0, none⟩))] 73) w.heap.size hz9).trans Hbz9.out
  have HE := Lib.hid (errtext_wrap (a := (a : Int)) HX.out (wrongT_ne c) (by omega))
  have Hb9' := Lib.hid (Hb9.out.alloc (Nat.le_of_lt hz9) (.cells #[.int .i64 60, .int .i64 (a : Int), .iface 71 (.pointer (some ⟨b, 0, none⟩))] 73))
  generalize hW : w9.alloc (.cells #[.int .i64 60, .int .i64 (a : Int), .iface 71 (.pointer (some ⟨b, 0, none⟩))] 73) = W at *
  clear hW
  have k0 := cell_at hbz 0 rfl
  have k1 := cell_at hbz 1 rfl
  have k2 := cell_at hbz 2 rfl
  have k3 := cell_at hbz 3 rfl
  have k4 := cell_at hbz 4 rfl
  have k5 := cell_at hbz 5 rfl
  have k6 := cell_at hbz 6 rfl
  have k7 := cell_at hbz 7 rfl
  have k8 := cell_at hbz 8 rfl
  have k9 := cell_at hbz 9 rfl
  have k10 := cell_at hbz 10 rfl
  have f := fun i => free_at hbz i
  go_wp2_with fail
  clear k0 k1 k2 k3 k4 k5 k6 k7 k8 k9 k10 f
  show bodyPost _ _ _ _ _ (storeAll W w.heap.size [.int .i64 0, .int .i64 0, .int .i64 0, .int .i64 0, .int .i64 0, .int .i64 0, .int .i64 0, .int .i64 0, .slice none 0 0, .slice none 0 0, .slice none 0 0] 0)
  have hfin := zero_same hbz rfl [.int .i64 0, .int .i64 0, .int .i64 0, .int .i64 0, .int .i64 0, .int .i64 0, .int .i64 0, .int .i64 0, .slice none 0 0, .slice none 0 0, .slice none 0 0] rfl
  have HFin := (Lib.hid ⟨_, rfl, HE.out.storeAll hbz (by decide) [.int .i64 0, .int .i64 0, .int .i64 0, .int .i64 0, .int .i64 0, .int .i64 0, .int .i64 0, .int .i64 0, .slice none 0 0, .slice none 0 0, .slice none 0 0], below_storeAll Hb9'.out (Nat.le_refl _) [.int .i64 0, .int .i64 0, .int .i64 0, .int .i64 0, .int .i64 0, .int .i64 0, .int .i64 0, .int .i64 0, .slice none 0 0, .slice none 0 0, .slice none 0 0] 0 (Nat.le_refl _)⟩ : Hid (DecBad (overT 60 (a : Int) (wrongT (some c))) w (.returned (.tuple #[zeroCC.value, .iface 71 (.pointer (some ⟨w9.heap.size, 0, none⟩))])) (storeAll W w.heap.size [.int .i64 0, .int .i64 0, .int .i64 0, .int .i64 0, .int .i64 0, .int .i64 0, .int .i64 0, .int .i64 0, .slice none 0 0, .slice none 0 0, .slice none 0 0] 0)))
  generalize storeAll W w.heap.size [.int .i64 0, .int .i64 0, .int .i64 0, .int .i64 0, .int .i64 0, .int .i64 0, .int .i64 0, .int .i64 0, .slice none 0 0, .slice none 0 0, .slice none 0 0] 0 = Wf at *
  have r0 := cell_at hfin 0 rfl
  have r1 := cell_at hfin 1 rfl
  have r2 := cell_at hfin 2 rfl
  have r3 := cell_at hfin 3 rfl
  have r4 := cell_at hfin 4 rfl
  have r5 := cell_at hfin 5 rfl
  have r6 := cell_at hfin 6 rfl
  have r7 := cell_at hfin 7 rfl
  have r8 := cell_at hfin 8 rfl
  have r9 := cell_at hfin 9 rfl
  have r10 := cell_at hfin 10 rfl
  refine bodyPost_ret (v := .tuple #[.agg #[.int .i64 0, .int .i64 0, .int .i64 0, .int .i64 0, .int .i64 0, .int .i64 0, .int .i64 0, .int .i64 0, .slice none 0 0, .slice none 0 0, .slice none 0 0], .iface 71 (.pointer (some ⟨w9.heap.size, 0, none⟩))]) (by simp [results, Try.results17, go_sem, r0, r1, r2, r3, r4, r5, r6, r7, r8, r9, r10]) rfl ?_
  exact HFin.out
end Go.Proofs.Ytgceleipaiameaa
