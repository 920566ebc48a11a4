/- Contract of table's Decode at bytes in memory. Conditions: where the bytes lie; at most 1000000 of them. · Contract of table's Decode where all was read. Conditions: where the bytes lie; at most 4096 of them. -/
import Derived.Test.YtgceleipaiameaaTbV
import Derived.Test.YtgceleipaiameaaTbH
import Derived.Test.YtgceleipaiameaaCrcD
namespace Go.Proofs.Ytgceleipaiameaa
open Go.RowKit
set_option maxRecDepth 100000

/-- No tables: the zero value, and an error that reads so. -/
def DecBad (t : List UInt8) (w : World) (e : Ending) (w' : World) : Prop :=
  ∃ b, e = .returned (.tuple #[zeroCC.value, .iface 71 (.pointer (some ⟨b, 0, none⟩))]) ∧ ErrTextK 5 w' (.iface 71 (.pointer (some ⟨b, 0, none⟩))) t ∧ Below w.heap.size w w'
def DecGood (f : TableP.Cfg) (w : World) (e : Ending) (w' : World) : Prop :=
  ∃ v, e = .returned (.tuple #[v, .nilIface]) ∧ CfgAt w' v f ∧ Below w.heap.size w w'
/-- What Decode answers of a body. -/
def DecPost : TableP.Cfg ⊕ (Nat × FrameP.Wrong) → World → Ending → World → Prop
  | .inl f => DecGood f
  | .inr (a, c) => DecBad (overT 60 a (wrongT (some c)))
/-- takeTables stopped. -/
def TakesBad (br : Nat) (A : Option Addr) (n cap : Nat) (l : List UInt8) (t : List UInt8) (a : Nat) (w : World) (e : Ending) (w' : World) : Prop :=
  ∃ (x : CfgC) (b : Nat), e = .returned (.tuple #[x.value, .iface 71 (.pointer (some ⟨b, 0, none⟩))]) ∧ ErrText w' (.iface 71 (.pointer (some ⟨b, 0, none⟩))) t ∧ TakeIn br A n cap l w a false w'
def TakesGood (br : Nat) (A : Option Addr) (n cap : Nat) (l : List UInt8) (c : TableP.Cfg) (a : Nat) (s : Bool) (w : World) (e : Ending) (w' : World) : Prop :=
  ∃ x : CfgC, e = .returned (.tuple #[x.value, .nilIface]) ∧ TakeIn br A n cap l w a s w' ∧ CfgIn w' x ∧ CfgHi w.heap.size x ∧ (s = false → x.plain = c)

theorem errtext_wrap {w : World} {b : Nat} {x : List UInt8} {a : Int} (h : ErrTextK 4 w (.iface 71 (.pointer (some ⟨b, 0, none⟩))) x) (hx : x ≠ []) (ha : -1 ≤ a ∧ a ≤ 9223372036854775807) :
    ErrTextK 5 (w.alloc (.cells #[.int .i64 60, .int .i64 a, .iface 71 (.pointer (some ⟨b, 0, none⟩))] 73)) (.iface 71 (.pointer (some ⟨w.heap.size, 0, none⟩))) (overT 60 a x) := by
  rw [overT, if_neg hx]
  exact ErrTextK.wrap h 60 a (by omega) ha
theorem below_storeAll {B : Nat} {w w' : World} (h : Below B w w') {b : Nat} (hb : B ≤ b) (vs : List Value) (i : Nat) (hs : B ≤ w.heap.size) : Below B w (storeAll w' b vs i) :=
  h.trans ((storeAll_apart b vs i w').below (Nat.le_trans hs h.size) (fun k e => by omega))
theorem zero_same {w : World} {b : Nat} {cs : Array Value} (h : w.heap[b]? = some (.cells cs 26 (0, 0))) (hs : cs.size = 11) (vs : List Value) (hv : vs.length = 11) : (storeAll w b vs 0).heap[b]? = some (.cells vs.toArray 26 (0, 0)) := by
  have := storeAll_heap (t := 26) vs 0 w [] cs.toList (by simpa using h) rfl (by simp [hs, hv])
  simpa using this

set_option maxHeartbeats 1000000 in
theorem decode_many (A : Option Addr) (n cap : Nat) (w : World) (hl : 4096 < n) (hmo : n ≤ 9223372036854775807) :
    Calls Try.prog 17 #[.slice A n cap] w (DecBad (overT 60 (-1) (wrongT (some (3, -1)))) w) := by
  have HN := Lib.hid (fun W => new_some 3 (-1) W rfl)
  rw [place_of (-1) (by omega)] at HN
  have q1 : decide ((4096 : Int) < n) = true := decide_eq_true (by omega)
  have hbz0 := heap_alloc_new w (.cells #[.int .i64 0, .int .i64 0, .int .i64 0, .int .i64 0, .int .i64 0, .int .i64 0, .int .i64 0, .int .i64 0, .slice none 0 0, .slice none 0 0, .slice none 0 0] 26)
  have hz0 : w.heap.size < (w.alloc (.cells #[.int .i64 0, .int .i64 0, .int .i64 0, .int .i64 0, .int .i64 0, .int .i64 0, .int .i64 0, .int .i64 0, .slice none 0 0, .slice none 0 0, .slice none 0 0] 26)).heap.size := by simp
  have hb0 := (Below.refl w.heap.size w).alloc (Nat.le_refl _) (.cells #[.int .i64 0, .int .i64 0, .int .i64 0, .int .i64 0, .int .i64 0, .int .i64 0, .int .i64 0, .int .i64 0, .slice none 0 0, .slice none 0 0, .slice none 0 0] 26)
  have Hbz := Lib.hid hbz0
  have Hb1 := Lib.hid hb0
  have Hz1 := Lib.hid hz0
  clear hl hbz0 hz0 hb0
  go_enter Try.func17, Try.ntmps17
  go_wp2_with fail
  generalize w.alloc (.cells #[.int .i64 0, .int .i64 0, .int .i64 0, .int .i64 0, .int .i64 0, .int .i64 0, .int .i64 0, .int .i64 0, .slice none 0 0, .slice none 0 0, .slice none 0 0] 26) = w1 at *
  have hz1 := Hz1.out
  refine (HN.out _).mono ?_
  rintro e w2 ⟨rfl, rfl⟩
  go_wp2_with fail
  refine (wrap_F 60 (-1) w1.heap.size _ rfl).mono ?_
  rw [place_of (-1) (by omega)]
  rintro e w3 ⟨rfl, rfl⟩
  have hbz := (Below.heap_alloc _ (.cells #[.int .i64 60, .int .i64 (-1), .iface 71 (.pointer (some ⟨w1.heap.size, 0, none⟩))] 73) _ (by simp; omega)).trans ((Below.heap_alloc w1 (.cells #[.int .i64 3, .int .i64 (-1), .nilIface] 73) _ hz1).trans Hbz.out)
  have HE : Hid (ErrTextK 5 ((w1.alloc (.cells #[.int .i64 3, .int .i64 (-1), .nilIface] 73)).alloc (.cells #[.int .i64 60, .int .i64 (-1), .iface 71 (.pointer (some ⟨w1.heap.size, 0, none⟩))] 73)) (.iface 71 (.pointer (some ⟨w1.heap.size + 1, 0, none⟩))) (overT 60 (-1) (wrongT (some (3, -1))))) := Lib.hid (by
    have h9 := errtext_wrap (a := -1) (ErrText.new w1 3 (-1) (by omega) (by omega)) (wrongT_ne (3, -1)) (by omega)
    simpa [wrongT] using h9)
  have Hb3 := Lib.hid ((Hb1.out.alloc (Nat.le_of_lt hz1) (.cells #[.int .i64 3, .int .i64 (-1), .nilIface] 73)).alloc (by simp; omega) (.cells #[.int .i64 60, .int .i64 (-1), .iface 71 (.pointer (some ⟨w1.heap.size, 0, none⟩))] 73))
  generalize hW : ((w1.alloc (.cells #[.int .i64 3, .int .i64 (-1), .nilIface] 73)).alloc (.cells #[.int .i64 60, .int .i64 (-1), .iface 71 (.pointer (some ⟨w1.heap.size, 0, none⟩))] 73)) = W at *
  clear hW
  have k0 := cell_at hbz 0 rfl
  have k1 := cell_at hbz 1 rfl
  have k2 := cell_at hbz 2 rfl
  have k3 := cell_at hbz 3 rfl
  have k4 := cell_at hbz 4 rfl
  have k5 := cell_at hbz 5 rfl
  have k6 := cell_at hbz 6 rfl
  have k7 := cell_at hbz 7 rfl
  have k8 := cell_at hbz 8 rfl
  have k9 := cell_at hbz 9 rfl
  have k10 := cell_at hbz 10 rfl
  have f := fun i => free_at hbz i
  go_wp2_with fail
  clear k0 k1 k2 k3 k4 k5 k6 k7 k8 k9 k10 f
  show bodyPost _ _ _ _ _ (storeAll W w.heap.size [.int .i64 0, .int .i64 0, .int .i64 0, .int .i64 0, .int .i64 0, .int .i64 0, .int .i64 0, .int .i64 0, .slice none 0 0, .slice none 0 0, .slice none 0 0] 0)
  have hfin := zero_same hbz rfl [.int .i64 0, .int .i64 0, .int .i64 0, .int .i64 0, .int .i64 0, .int .i64 0, .int .i64 0, .int .i64 0, .slice none 0 0, .slice none 0 0, .slice none 0 0] rfl
  have HFin := (Lib.hid ⟨_, rfl, HE.out.storeAll hbz (by decide) [.int .i64 0, .int .i64 0, .int .i64 0, .int .i64 0, .int .i64 0, .int .i64 0, .int .i64 0, .int .i64 0, .slice none 0 0, .slice none 0 0, .slice none 0 0], below_storeAll Hb3.out (Nat.le_refl _) [.int .i64 0, .int .i64 0, .int .i64 0, .int .i64 0, .int .i64 0, .int .i64 0, .int .i64 0, .int .i64 0, .slice none 0 0, .slice none 0 0, .slice none 0 0] 0 (Nat.le_refl _)⟩ : Hid (DecBad (overT 60 (-1) (wrongT (some (3, -1)))) w (.returned (.tuple #[zeroCC.value, .iface 71 (.pointer (some ⟨w1.heap.size + 1, 0, none⟩))])) (storeAll W w.heap.size [.int .i64 0, .int .i64 0, .int .i64 0, .int .i64 0, .int .i64 0, .int .i64 0, .int .i64 0, .int .i64 0, .slice none 0 0, .slice none 0 0, .slice none 0 0] 0)))
  generalize storeAll W w.heap.size [.int .i64 0, .int .i64 0, .int .i64 0, .int .i64 0, .int .i64 0, .int .i64 0, .int .i64 0, .int .i64 0, .slice none 0 0, .slice none 0 0, .slice none 0 0] 0 = Wf at *
  have r0 := cell_at hfin 0 rfl
  have r1 := cell_at hfin 1 rfl
  have r2 := cell_at hfin 2 rfl
  have r3 := cell_at hfin 3 rfl
  have r4 := cell_at hfin 4 rfl
  have r5 := cell_at hfin 5 rfl
  have r6 := cell_at hfin 6 rfl
  have r7 := cell_at hfin 7 rfl
  have r8 := cell_at hfin 8 rfl
  have r9 := cell_at hfin 9 rfl
  have r10 := cell_at hfin 10 rfl
  refine bodyPost_ret (v := .tuple #[.agg #[.int .i64 0, .int .i64 0, .int .i64 0, .int .i64 0, .int .i64 0, .int .i64 0, .int .i64 0, .int .i64 0, .slice none 0 0, .slice none 0 0, .slice none 0 0], .iface 71 (.pointer (some ⟨w1.heap.size + 1, 0, none⟩))]) (by simp [results, Try.results17, go_sem, r0, r1, r2, r3, r4, r5, r6, r7, r8, r9, r10]) rfl ?_
  exact HFin.out

set_option maxHeartbeats 1000000 in
theorem decode_unsealed (A : Option Addr) (l : List UInt8) (n cap : Nat) (hn : l.length = n) (w : World) (hl : n ≤ 4096) (hcap : n ≤ cap) (h : Bytes w w.heap.size A l) (hs : ¬ isSealed l) :
    Calls Try.prog 17 #[.slice A n cap] w (DecBad (overT 60 (-1) (wrongT (some (6, -1)))) w) := by
  have HO : Hid (∀ o, Calls Try.prog 36 #[.slice A n cap] (w.alloc o) (fun e w' => e = .returned (.tuple #[.slice none 0 0, .bool false]) ∧ Below (w.alloc o).heap.size (w.alloc o) w')) := Lib.hid fun o => by
    refine (open_any A l n cap hn (w.alloc o) (by omega) hcap ((h.alloc (Nat.le_refl _) o).more (by simp))).mono ?_
    rintro e w' (⟨p, v, h1, _⟩ | ⟨_, h2, h3⟩)
    · exact absurd ⟨p, h1⟩ hs
    · exact ⟨h2, h3⟩
  have HN := Lib.hid (fun W => new_some 6 (-1) W rfl)
  rw [place_of (-1) (by omega)] at HN
  have q1 : decide ((4096 : Int) < n) = false := decide_eq_false (by omega)
  clear h hs hn hl
  go_enter Try.func17, Try.ntmps17
  go_wp2_with fail
  refine (HO.out _).mono ?_
  rintro e w1 ⟨rfl, h1⟩
  have hbz1 := (h1.block w.heap.size (by simp)).trans (heap_alloc_new w _)
  have hz1 : w.heap.size < w1.heap.size := by have := h1.size; simp at this; omega
  have Hb1 := Lib.hid (((Below.refl w.heap.size w).alloc (Nat.le_refl _) _).trans (h1.mono (by simp)))
  have Hbz := Lib.hid hbz1
  clear h1 hbz1
  go_wp2_with fail
  refine (HN.out _).mono ?_
  rintro e w2 ⟨rfl, rfl⟩
  go_wp2_with fail
  refine (wrap_F 60 (-1) w1.heap.size _ rfl).mono ?_
  rw [place_of (-1) (by omega)]
  rintro e w3 ⟨rfl, rfl⟩
  have hbz := (Below.heap_alloc _ (.cells #[.int .i64 60, .int .i64 (-1), .iface 71 (.pointer (some ⟨w1.heap.size, 0, none⟩))] 73) _ (by simp; omega)).trans ((Below.heap_alloc w1 (.cells #[.int .i64 6, .int .i64 (-1), .nilIface] 73) _ hz1).trans Hbz.out)
  have HE : Hid (ErrTextK 5 ((w1.alloc (.cells #[.int .i64 6, .int .i64 (-1), .nilIface] 73)).alloc (.cells #[.int .i64 60, .int .i64 (-1), .iface 71 (.pointer (some ⟨w1.heap.size, 0, none⟩))] 73)) (.iface 71 (.pointer (some ⟨w1.heap.size + 1, 0, none⟩))) (overT 60 (-1) (wrongT (some (6, -1))))) := Lib.hid (by
    have h9 := errtext_wrap (a := -1) (ErrText.new w1 6 (-1) (by omega) (by omega)) (wrongT_ne (6, -1)) (by omega)
    simpa [wrongT] using h9)
  have Hb3 := Lib.hid ((Hb1.out.alloc (Nat.le_of_lt hz1) (.cells #[.int .i64 6, .int .i64 (-1), .nilIface] 73)).alloc (by simp; omega) (.cells #[.int .i64 60, .int .i64 (-1), .iface 71 (.pointer (some ⟨w1.heap.size, 0, none⟩))] 73))
  generalize hW : ((w1.alloc (.cells #[.int .i64 6, .int .i64 (-1), .nilIface] 73)).alloc (.cells #[.int .i64 60, .int .i64 (-1), .iface 71 (.pointer (some ⟨w1.heap.size, 0, none⟩))] 73)) = W at *
  clear hW
  have k0 := cell_at hbz 0 rfl
  have k1 := cell_at hbz 1 rfl
  have k2 := cell_at hbz 2 rfl
  have k3 := cell_at hbz 3 rfl
  have k4 := cell_at hbz 4 rfl
  have k5 := cell_at hbz 5 rfl
  have k6 := cell_at hbz 6 rfl
  have k7 := cell_at hbz 7 rfl
  have k8 := cell_at hbz 8 rfl
  have k9 := cell_at hbz 9 rfl
  have k10 := cell_at hbz 10 rfl
  have f := fun i => free_at hbz i
  go_wp2_with fail
  clear k0 k1 k2 k3 k4 k5 k6 k7 k8 k9 k10 f
  show bodyPost _ _ _ _ _ (storeAll W w.heap.size [.int .i64 0, .int .i64 0, .int .i64 0, .int .i64 0, .int .i64 0, .int .i64 0, .int .i64 0, .int .i64 0, .slice none 0 0, .slice none 0 0, .slice none 0 0] 0)
  have hfin := zero_same hbz rfl [.int .i64 0, .int .i64 0, .int .i64 0, .int .i64 0, .int .i64 0, .int .i64 0, .int .i64 0, .int .i64 0, .slice none 0 0, .slice none 0 0, .slice none 0 0] rfl
  have HFin := (Lib.hid ⟨_, rfl, HE.out.storeAll hbz (by decide) [.int .i64 0, .int .i64 0, .int .i64 0, .int .i64 0, .int .i64 0, .int .i64 0, .int .i64 0, .int .i64 0, .slice none 0 0, .slice none 0 0, .slice none 0 0], below_storeAll Hb3.out (Nat.le_refl _) [.int .i64 0, .int .i64 0, .int .i64 0, .int .i64 0, .int .i64 0, .int .i64 0, .int .i64 0, .int .i64 0, .slice none 0 0, .slice none 0 0, .slice none 0 0] 0 (Nat.le_refl _)⟩ : Hid (DecBad (overT 60 (-1) (wrongT (some (6, -1)))) w (.returned (.tuple #[zeroCC.value, .iface 71 (.pointer (some ⟨w1.heap.size + 1, 0, none⟩))])) (storeAll W w.heap.size [.int .i64 0, .int .i64 0, .int .i64 0, .int .i64 0, .int .i64 0, .int .i64 0, .int .i64 0, .int .i64 0, .slice none 0 0, .slice none 0 0, .slice none 0 0] 0)))
  generalize storeAll W w.heap.size [.int .i64 0, .int .i64 0, .int .i64 0, .int .i64 0, .int .i64 0, .int .i64 0, .int .i64 0, .int .i64 0, .slice none 0 0, .slice none 0 0, .slice none 0 0] 0 = Wf at *
  have r0 := cell_at hfin 0 rfl
  have r1 := cell_at hfin 1 rfl
  have r2 := cell_at hfin 2 rfl
  have r3 := cell_at hfin 3 rfl
  have r4 := cell_at hfin 4 rfl
  have r5 := cell_at hfin 5 rfl
  have r6 := cell_at hfin 6 rfl
  have r7 := cell_at hfin 7 rfl
  have r8 := cell_at hfin 8 rfl
  have r9 := cell_at hfin 9 rfl
  have r10 := cell_at hfin 10 rfl
  refine bodyPost_ret (v := .tuple #[.agg #[.int .i64 0, .int .i64 0, .int .i64 0, .int .i64 0, .int .i64 0, .int .i64 0, .int .i64 0, .int .i64 0, .slice none 0 0, .slice none 0 0, .slice none 0 0], .iface 71 (.pointer (some ⟨w1.heap.size + 1, 0, none⟩))]) (by simp [results, Try.results17, go_sem, r0, r1, r2, r3, r4, r5, r6, r7, r8, r9, r10]) rfl ?_
  exact HFin.out

set_option maxHeartbeats 2000000 in
theorem decode_stop (A : Option Addr) (l : List UInt8) (n cap : Nat) (hn : l.length = n) (w : World) (hl : n ≤ 4096) (hcap : n ≤ cap) (h : Bytes w w.heap.size A l) (p : List UInt8) (hs : l = CrcP.seal4 p) (a : Nat) (c : FrameP.Wrong)
    (hT : ∀ br A n cap W, ReaderAt W br A n cap p 0 false → (∀ k, blockOf A = some k → k < W.heap.size) → Calls Try.prog 38 #[.pointer (some ⟨br, 0, none⟩)] W (TakesBad br A n cap p (wrongT (some c)) a W)) :
    Calls Try.prog 17 #[.slice A n cap] w (DecBad (overT 60 (a : Nat) (wrongT (some c))) w) := by
  have HO : Hid (∀ o, Calls Try.prog 36 #[.slice A n cap] (w.alloc o) (fun e w' => ∃ v g, e = .returned (.tuple #[v, .bool true]) ∧ Row w' (w.alloc o).heap.size 5 g v p ∧ Below (w.alloc o).heap.size (w.alloc o) w')) := Lib.hid fun o => by
    refine (open_any A l n cap hn (w.alloc o) (by omega) hcap ((h.alloc (Nat.le_refl _) o).more (by simp))).mono ?_
    rintro e w' (⟨q, v, h1, h2, h3, h4⟩ | ⟨h1, _⟩)
    · have e1 : q = p := by
        have e2 : CrcP.seal4 p = CrcP.seal4 q := hs.symm.trans h1
        have e3 := congrArg List.length e2
        rw [seal4_len, seal4_len] at e3
        unfold CrcP.seal4 at e2
        exact ((List.append_inj e2 (by omega)).1).symm
      subst e1
      exact ⟨v, _, h2, ⟨rfl, h3⟩, h4⟩
    · exact absurd ⟨p, hs⟩ h1
  have hpl : p.length ≤ 1000000 := by have := congrArg List.length hs; rw [seal4_len] at this; omega
  have q1 : decide ((4096 : Int) < n) = false := decide_eq_false (by omega)
  have HT := Lib.hid hT
  clear h hs hn hT hl
  go_enter Try.func17, Try.ntmps17
  go_wp2_with fail
  refine (HO.out _).mono ?_
  rintro e w1 ⟨v1, g1, rfl, hr1, hb1⟩
  have hbz1 := (hb1.block w.heap.size (by simp)).trans (heap_alloc_new w _)
  have hz1 : w.heap.size < w1.heap.size := by have := hb1.size; simp at this; omega
  have Hb1 := Lib.hid (((Below.refl w.heap.size w).alloc (Nat.le_refl _) _).trans (hb1.mono (by simp)))
  have Hbz := Lib.hid hbz1
  obtain ⟨A1, c1, rfl, -, -, hby1⟩ := hr1.bytes
  have HR := Lib.hid (read_new A1 p.length c1 p rfl (by omega) w1 hby1)
  clear hb1 hbz1 hr1 hby1 HO
  go_wp2_with fail
  refine HR.out.mono ?_
  rintro e w2 ⟨br, A2, c2, rfl, hbr, hA2, hrd, hb2⟩
  have Hb2 := Lib.hid hb2
  have HT2 := Lib.hid (HT.out br A2 p.length c2 w2 hrd (fun k hk => (hA2 k hk).2))
  have Hbr := Lib.hid (show w1.heap.size ≤ br ∧ br < w2.heap.size from ⟨hbr, hrd.lt⟩)
  clear hbr hA2 hrd hb2 HR HT
  go_wp2_with fail
  refine HT2.out.mono ?_
  rintro e w3 ⟨x, b, rfl, hx3, ht3⟩
  have Hrd3 := Lib.hid ht3.1
  have hpla := ht3.1.place
  have hB3 : Below w1.heap.size w2 w3 := by
    have h1 := Hbr.out.1
    exact ht3.2.below Hb2.out.size (fun k e => by have e : k = br := e; omega)
  have hz2 : w.heap.size < w2.heap.size := by have h1 := Hb2.out.size; omega
  have hz3 : w.heap.size < w3.heap.size := by have h2 := hB3.size; omega
  have hbz3 := (hB3.block w.heap.size hz1).trans ((Hb2.out.block w.heap.size hz1).trans Hbz.out)
  have hb3 := Hb1.out.trans ((Hb2.out.trans hB3).mono (Nat.le_of_lt hz1))
  have Hbz3 := Lib.hid hbz3
  have Hb3 := Lib.hid hb3
  have HX3 : Hid (∀ o, ErrTextK 4 (w3.alloc o) (.iface 71 (.pointer (some ⟨b, 0, none⟩))) (wrongT (some c))) := Lib.hid fun o => ErrTextK.below hx3 ((Below.refl _ _).alloc (Nat.le_refl _) o)
  clear hx3 ht3 hbz3 hb3 hB3 hz1 hz2 Hb1 Hb2 Hbz HT2
  obtain ⟨nodes, faulty, slot, gap, rho, dmin, dmax, margin, PA, pn, pcap, parts, QA, qn, qcap, ports, RA, rn, rcap, routes⟩ := x
  simp only [CfgC.value]
  go_wp2_with fail
  generalize hw9 : w3.alloc (.cells #[.int .i64 nodes, .int .i64 faulty, .int .i64 slot, .int .i64 gap, .int .i64 rho, .int .i64 dmin, .int .i64 dmax, .int .i64 margin, .slice PA pn pcap, .slice QA qn qcap, .slice RA rn rcap] 26) = w9
  have Hrd9 : Hid (ReaderAt w9 br A2 p.length c2 p a false) := Lib.hid (by rw [← hw9]; exact Hrd3.out.alloc _)
  have Hbz9 : Hid (w9.heap[w.heap.size]? = some (.cells #[.int .i64 0, .int .i64 0, .int .i64 0, .int .i64 0, .int .i64 0, .int .i64 0, .int .i64 0, .int .i64 0, .slice none 0 0, .slice none 0 0, .slice none 0 0] 26 (0, 0))) := Lib.hid (by rw [← hw9]; exact (Below.heap_alloc w3 _ w.heap.size hz3).trans Hbz3.out)
  have Hb9 : Hid (Below w.heap.size w w9) := Lib.hid (by rw [← hw9]; exact Hb3.out.alloc (Nat.le_of_lt hz3) _)
  have HX : Hid (ErrTextK 4 w9 (.iface 71 (.pointer (some ⟨b, 0, none⟩))) (wrongT (some c))) := Lib.hid (by rw [← hw9]; exact HX3.out _)
  have hz9 : w.heap.size < w9.heap.size := Nat.lt_of_lt_of_le hz3 (by rw [← hw9]; simp)
  clear hw9 Hrd3 Hbz3 Hb3 HX3 hz3
  go_wp2_with fail
  refine (at_any' br A2 _ c2 p a _ w9 Hrd9.out).mono ?_
  rintro e w10 ⟨rfl, rfl⟩
  go_wp2_with fail
  refine (wrap_F 60 (a : Int) b w9 rfl).mono ?_
  rw [place_of (a : Int) (by omega)]
  rintro e w11 ⟨rfl, rfl⟩
  have hbz := (Below.heap_alloc w9 (.cells #[.int .i64 60, .int .i64 (a : Int), .iface 71 (.pointer (some ⟨b, 0, none⟩))] 73) w.heap.size hz9).trans Hbz9.out
  have HE := Lib.hid (errtext_wrap (a := (a : Int)) HX.out (wrongT_ne c) (by omega))
  have Hb9' := Lib.hid (Hb9.out.alloc (Nat.le_of_lt hz9) (.cells #[.int .i64 60, .int .i64 (a : Int), .iface 71 (.pointer (some ⟨b, 0, none⟩))] 73))
  generalize hW : w9.alloc (.cells #[.int .i64 60, .int .i64 (a : Int), .iface 71 (.pointer (some ⟨b, 0, none⟩))] 73) = W at *
  clear hW
  have k0 := cell_at hbz 0 rfl
  have k1 := cell_at hbz 1 rfl
  have k2 := cell_at hbz 2 rfl
  have k3 := cell_at hbz 3 rfl
  have k4 := cell_at hbz 4 rfl
  have k5 := cell_at hbz 5 rfl
  have k6 := cell_at hbz 6 rfl
  have k7 := cell_at hbz 7 rfl
  have k8 := cell_at hbz 8 rfl
  have k9 := cell_at hbz 9 rfl
  have k10 := cell_at hbz 10 rfl
  have f := fun i => free_at hbz i
  go_wp2_with fail
  clear k0 k1 k2 k3 k4 k5 k6 k7 k8 k9 k10 f
  show bodyPost _ _ _ _ _ (storeAll W w.heap.size [.int .i64 0, .int .i64 0, .int .i64 0, .int .i64 0, .int .i64 0, .int .i64 0, .int .i64 0, .int .i64 0, .slice none 0 0, .slice none 0 0, .slice none 0 0] 0)
  have hfin := zero_same hbz rfl [.int .i64 0, .int .i64 0, .int .i64 0, .int .i64 0, .int .i64 0, .int .i64 0, .int .i64 0, .int .i64 0, .slice none 0 0, .slice none 0 0, .slice none 0 0] rfl
  have HFin := (Lib.hid ⟨_, rfl, HE.out.storeAll hbz (by decide) [.int .i64 0, .int .i64 0, .int .i64 0, .int .i64 0, .int .i64 0, .int .i64 0, .int .i64 0, .int .i64 0, .slice none 0 0, .slice none 0 0, .slice none 0 0], below_storeAll Hb9'.out (Nat.le_refl _) [.int .i64 0, .int .i64 0, .int .i64 0, .int .i64 0, .int .i64 0, .int .i64 0, .int .i64 0, .int .i64 0, .slice none 0 0, .slice none 0 0, .slice none 0 0] 0 (Nat.le_refl _)⟩ : Hid (DecBad (overT 60 (a : Int) (wrongT (some c))) w (.returned (.tuple #[zeroCC.value, .iface 71 (.pointer (some ⟨w9.heap.size, 0, none⟩))])) (storeAll W w.heap.size [.int .i64 0, .int .i64 0, .int .i64 0, .int .i64 0, .int .i64 0, .int .i64 0, .int .i64 0, .int .i64 0, .slice none 0 0, .slice none 0 0, .slice none 0 0] 0)))
  generalize storeAll W w.heap.size [.int .i64 0, .int .i64 0, .int .i64 0, .int .i64 0, .int .i64 0, .int .i64 0, .int .i64 0, .int .i64 0, .slice none 0 0, .slice none 0 0, .slice none 0 0] 0 = Wf at *
  have r0 := cell_at hfin 0 rfl
  have r1 := cell_at hfin 1 rfl
  have r2 := cell_at hfin 2 rfl
  have r3 := cell_at hfin 3 rfl
  have r4 := cell_at hfin 4 rfl
  have r5 := cell_at hfin 5 rfl
  have r6 := cell_at hfin 6 rfl
  have r7 := cell_at hfin 7 rfl
  have r8 := cell_at hfin 8 rfl
  have r9 := cell_at hfin 9 rfl
  have r10 := cell_at hfin 10 rfl
  refine bodyPost_ret (v := .tuple #[.agg #[.int .i64 0, .int .i64 0, .int .i64 0, .int .i64 0, .int .i64 0, .int .i64 0, .int .i64 0, .int .i64 0, .slice none 0 0, .slice none 0 0, .slice none 0 0], .iface 71 (.pointer (some ⟨w9.heap.size, 0, none⟩))]) (by simp [results, Try.results17, go_sem, r0, r1, r2, r3, r4, r5, r6, r7, r8, r9, r10]) rfl ?_
  exact HFin.out
end Go.Proofs.Ytgceleipaiameaa
namespace Go.Proofs.Ytgceleipaiameaa
open Go.RowKit
set_option maxRecDepth 100000

/-- What is told of tables that were read to place a. -/
def restD (l : List UInt8) (c : TableP.Cfg) (a : Nat) (s : Bool) : TableP.Cfg ⊕ (Nat × FrameP.Wrong) :=
  if s then .inr (a, (4, (a : Int))) else if a < l.length then .inr (a, (5, (a : Int))) else match TableP.chk c with
    | some e => .inr (a, e)
    | none => .inl c

set_option maxHeartbeats 4000000 in
theorem decode_full (A : Option Addr) (l : List UInt8) (n cap : Nat) (hn : l.length = n) (w : World) (hl : n ≤ 4096) (hcap : n ≤ cap) (h : Bytes w w.heap.size A l) (p : List UInt8) (hs : l = CrcP.seal4 p) (C : TableP.Cfg) (a : Nat) (s : Bool)
    (hT : ∀ br A n cap W, ReaderAt W br A n cap p 0 false → (∀ k, blockOf A = some k → k < W.heap.size) → Calls Try.prog 38 #[.pointer (some ⟨br, 0, none⟩)] W (TakesGood br A n cap p C a s W)) :
    Calls Try.prog 17 #[.slice A n cap] w (DecPost (restD p C a s) w) := by
  have HO : Hid (∀ o, Calls Try.prog 36 #[.slice A n cap] (w.alloc o) (fun e w' => ∃ v g, e = .returned (.tuple #[v, .bool true]) ∧ Row w' (w.alloc o).heap.size 5 g v p ∧ Below (w.alloc o).heap.size (w.alloc o) w')) := Lib.hid fun o => by
    refine (open_any A l n cap hn (w.alloc o) (by omega) hcap ((h.alloc (Nat.le_refl _) o).more (by simp))).mono ?_
    rintro e w' (⟨q, v, h1, h2, h3, h4⟩ | ⟨h1, _⟩)
    · have e1 : q = p := by
        have e2 : CrcP.seal4 p = CrcP.seal4 q := hs.symm.trans h1
        have e3 := congrArg List.length e2
        rw [seal4_len, seal4_len] at e3
        unfold CrcP.seal4 at e2
        exact ((List.append_inj e2 (by omega)).1).symm
      subst e1
      exact ⟨v, _, h2, ⟨rfl, h3⟩, h4⟩
    · exact absurd ⟨p, hs⟩ h1
  have hpl : p.length ≤ 1000000 := by have := congrArg List.length hs; rw [seal4_len] at this; omega
  have q1 : decide ((4096 : Int) < n) = false := decide_eq_false (by omega)
  have HT := Lib.hid hT
  clear h hs hn hT hl
  go_enter Try.func17, Try.ntmps17
  go_wp2_with fail
  refine (HO.out _).mono ?_
  rintro e w1 ⟨v1, g1, rfl, hr1, hb1⟩
  have hbz1 := (hb1.block w.heap.size (by simp)).trans (heap_alloc_new w _)
  have hz1 : w.heap.size < w1.heap.size := by have := hb1.size; simp at this; omega
  have Hb1 := Lib.hid (((Below.refl w.heap.size w).alloc (Nat.le_refl _) _).trans (hb1.mono (by simp)))
  have Hbz := Lib.hid hbz1
  obtain ⟨A1, c1, rfl, -, -, hby1⟩ := hr1.bytes
  have HR := Lib.hid (read_new A1 p.length c1 p rfl (by omega) w1 hby1)
  clear hb1 hbz1 hr1 hby1 HO
  go_wp2_with fail
  refine HR.out.mono ?_
  rintro e w2 ⟨br, A2, c2, rfl, hbr, hA2, hrd, hb2⟩
  have Hb2 := Lib.hid hb2
  have HT2 := Lib.hid (HT.out br A2 p.length c2 w2 hrd (fun k hk => (hA2 k hk).2))
  have Hbr := Lib.hid (show w1.heap.size ≤ br ∧ br < w2.heap.size from ⟨hbr, hrd.lt⟩)
  clear hbr hA2 hrd hb2 HR HT
  go_wp2_with fail
  refine HT2.out.mono ?_
  rintro e w3 ⟨x, rfl, ht3, hi3, hh3, hc3⟩
  have Hrd3 := Lib.hid ht3.1
  have hpla := ht3.1.place
  have hB3 : Below w1.heap.size w2 w3 := by
    have h1 := Hbr.out.1
    exact ht3.2.below Hb2.out.size (fun k e => by have e : k = br := e; omega)
  have hz2 : w.heap.size < w2.heap.size := by have h1 := Hb2.out.size; omega
  have hz3 : w.heap.size < w3.heap.size := by have h2 := hB3.size; omega
  have hbz3 := (hB3.block w.heap.size hz1).trans ((Hb2.out.block w.heap.size hz1).trans Hbz.out)
  have hb3 := Hb1.out.trans ((Hb2.out.trans hB3).mono (Nat.le_of_lt hz1))
  have Hbz3 := Lib.hid hbz3
  have Hb3 := Lib.hid hb3
  have Hi3 := Lib.hid (fun W hW => CfgIn.below (W' := W) hi3 hW)
  have Hh3 := Lib.hid hh3
  have Hc3 := Lib.hid hc3
  have HCk := Lib.hid (fun W hW => check_any x W (CfgIn.below (W' := W) hi3 hW))
  have HEn := Lib.hid (fun W hW => end_any br A2 _ c2 p a s W (ReaderAt.below ht3.1 hW))
  have Hrd3' := Lib.hid (fun W hW => ReaderAt.below (w' := W) ht3.1 hW)
  clear ht3 hi3 hh3 hc3 hbz3 hb3 hB3 hz1 Hb1 Hb2 Hbz HT2
  obtain ⟨nodes, faulty, slot, gap, rho, dmin, dmax, margin, PA, pn, pcap, parts, QA, qn, qcap, ports, RA, rn, rcap, routes⟩ := x
  simp only [CfgC.value] at HCk ⊢
  go_wp2_with fail
  have hbf0 := heap_alloc_new w3 (.cells #[.int .i64 nodes, .int .i64 faulty, .int .i64 slot, .int .i64 gap, .int .i64 rho, .int .i64 dmin, .int .i64 dmax, .int .i64 margin, .slice PA pn pcap, .slice QA qn qcap, .slice RA rn rcap] 26)
  have hb39 := (Below.refl w3.heap.size w3).alloc (Nat.le_refl _) (.cells #[.int .i64 nodes, .int .i64 faulty, .int .i64 slot, .int .i64 gap, .int .i64 rho, .int .i64 dmin, .int .i64 dmax, .int .i64 margin, .slice PA pn pcap, .slice QA qn qcap, .slice RA rn rcap] 26)
  have hzf0 : w3.heap.size < (w3.alloc (.cells #[.int .i64 nodes, .int .i64 faulty, .int .i64 slot, .int .i64 gap, .int .i64 rho, .int .i64 dmin, .int .i64 dmax, .int .i64 margin, .slice PA pn pcap, .slice QA qn qcap, .slice RA rn rcap] 26)).heap.size := by simp
  refine (HEn.out _ hb39).mono ?_
  rintro e w9 ⟨ev, rfl, hx9, hok9, hb9⟩
  have hb79 : Below w3.heap.size w3 w9 := hb39.trans (hb9.mono (by simp))
  have hz9 : w.heap.size < w9.heap.size := by have := hb79.size; omega
  have Hbz9 := Lib.hid ((hb79.block w.heap.size hz3).trans Hbz3.out)
  have Hb9 := Lib.hid (Hb3.out.trans (hb79.mono (Nat.le_of_lt hz3)))
  have Hrd9 := Lib.hid (Hrd3'.out w9 hb79)
  have hbf := (hb9.block w3.heap.size hzf0).trans hbf0
  have Hzf := Lib.hid (Nat.lt_of_lt_of_le hzf0 hb9.size)
  have HX9 := Lib.hid hx9
  have Hi9 := Lib.hid (Hi3.out w9 hb79)
  have HCk9 := Lib.hid (HCk.out w9 hb79)
  have hzb : w.heap.size < w2.heap.size := hz2
  clear hb79 hb39 hbf0 hzf0 hb9 hx9 Hi3 HCk HEn Hrd3' Hrd3 Hbz3 Hb3 hz2
  cases s with
  | true =>
    simp only [Bool.not_true, Bool.false_and, Bool.false_eq_true, if_false] at hok9
    obtain ⟨b, rfl⟩ := hok9
    have HX : Hid (ErrTextK 4 w9 (.iface 71 (.pointer (some ⟨b, 0, none⟩))) (wrongT (some (4, (a : Int))))) := HX9
    have Hdec : Hid (restD p C a true = .inr (a, (4, (a : Int)))) := Lib.hid (by simp [restD])
    clear hbf HX9 HCk9 Hi9 Hh3 Hc3
    go_wp2_with fail
    refine (at_any' br A2 _ c2 p a _ w9 Hrd9.out).mono ?_
    rintro e w10 ⟨rfl, rfl⟩
    go_wp2_with fail
    refine (wrap_F 60 (a : Int) b w9 rfl).mono ?_
    rw [place_of (a : Int) (by omega)]
    rintro e w11 ⟨rfl, rfl⟩
    have hbz := (Below.heap_alloc w9 (.cells #[.int .i64 60, .int .i64 (a : Int), .iface 71 (.pointer (some ⟨b, 0, none⟩))] 73) w.heap.size hz9).trans Hbz9.out
    have HE := Lib.hid (errtext_wrap (a := (a : Int)) HX.out (wrongT_ne (4, (a : Int))) (by omega))
    have Hb9' := Lib.hid (Hb9.out.alloc (Nat.le_of_lt hz9) (.cells #[.int .i64 60, .int .i64 (a : Int), .iface 71 (.pointer (some ⟨b, 0, none⟩))] 73))
    generalize hW : w9.alloc (.cells #[.int .i64 60, .int .i64 (a : Int), .iface 71 (.pointer (some ⟨b, 0, none⟩))] 73) = W at *
    clear hW
    have k0 := cell_at hbz 0 rfl
    have k1 := cell_at hbz 1 rfl
    have k2 := cell_at hbz 2 rfl
    have k3 := cell_at hbz 3 rfl
    have k4 := cell_at hbz 4 rfl
    have k5 := cell_at hbz 5 rfl
    have k6 := cell_at hbz 6 rfl
    have k7 := cell_at hbz 7 rfl
    have k8 := cell_at hbz 8 rfl
    have k9 := cell_at hbz 9 rfl
    have k10 := cell_at hbz 10 rfl
    have f := fun i => free_at hbz i
    go_wp2_with fail
    clear k0 k1 k2 k3 k4 k5 k6 k7 k8 k9 k10 f
    show bodyPost _ _ _ _ _ (storeAll W w.heap.size [.int .i64 0, .int .i64 0, .int .i64 0, .int .i64 0, .int .i64 0, .int .i64 0, .int .i64 0, .int .i64 0, .slice none 0 0, .slice none 0 0, .slice none 0 0] 0)
    have hfin := zero_same hbz rfl [.int .i64 0, .int .i64 0, .int .i64 0, .int .i64 0, .int .i64 0, .int .i64 0, .int .i64 0, .int .i64 0, .slice none 0 0, .slice none 0 0, .slice none 0 0] rfl
    have HFin := (Lib.hid ⟨_, rfl, HE.out.storeAll hbz (by decide) [.int .i64 0, .int .i64 0, .int .i64 0, .int .i64 0, .int .i64 0, .int .i64 0, .int .i64 0, .int .i64 0, .slice none 0 0, .slice none 0 0, .slice none 0 0], below_storeAll Hb9'.out (Nat.le_refl _) [.int .i64 0, .int .i64 0, .int .i64 0, .int .i64 0, .int .i64 0, .int .i64 0, .int .i64 0, .int .i64 0, .slice none 0 0, .slice none 0 0, .slice none 0 0] 0 (Nat.le_refl _)⟩ : Hid (DecBad (overT 60 (a : Int) (wrongT (some (4, (a : Int))))) w (.returned (.tuple #[zeroCC.value, .iface 71 (.pointer (some ⟨w9.heap.size, 0, none⟩))])) (storeAll W w.heap.size [.int .i64 0, .int .i64 0, .int .i64 0, .int .i64 0, .int .i64 0, .int .i64 0, .int .i64 0, .int .i64 0, .slice none 0 0, .slice none 0 0, .slice none 0 0] 0)))
    generalize storeAll W w.heap.size [.int .i64 0, .int .i64 0, .int .i64 0, .int .i64 0, .int .i64 0, .int .i64 0, .int .i64 0, .int .i64 0, .slice none 0 0, .slice none 0 0, .slice none 0 0] 0 = Wf at *
    have r0 := cell_at hfin 0 rfl
    have r1 := cell_at hfin 1 rfl
    have r2 := cell_at hfin 2 rfl
    have r3 := cell_at hfin 3 rfl
    have r4 := cell_at hfin 4 rfl
    have r5 := cell_at hfin 5 rfl
    have r6 := cell_at hfin 6 rfl
    have r7 := cell_at hfin 7 rfl
    have r8 := cell_at hfin 8 rfl
    have r9 := cell_at hfin 9 rfl
    have r10 := cell_at hfin 10 rfl
    refine bodyPost_ret (v := .tuple #[.agg #[.int .i64 0, .int .i64 0, .int .i64 0, .int .i64 0, .int .i64 0, .int .i64 0, .int .i64 0, .int .i64 0, .slice none 0 0, .slice none 0 0, .slice none 0 0], .iface 71 (.pointer (some ⟨w9.heap.size, 0, none⟩))]) (by simp [results, Try.results17, go_sem, r0, r1, r2, r3, r4, r5, r6, r7, r8, r9, r10]) rfl ?_
    rw [Hdec.out]; exact HFin.out
  | false =>
    by_cases hlt : a < p.length
    · have hok8 : (!false && decide (p.length ≤ a)) = false := by simp; omega
      rw [hok8] at hok9
      simp only [Bool.false_eq_true, if_false] at hok9
      obtain ⟨b, rfl⟩ := hok9
      have HX : Hid (ErrTextK 4 w9 (.iface 71 (.pointer (some ⟨b, 0, none⟩))) (wrongT (some (5, (a : Int))))) := Lib.hid (by
        have h9 := HX9.out
        rw [show endText false a p.length = atT 5 a by simp [endText, hlt]] at h9
        exact h9)
      have Hdec : Hid (restD p C a false = .inr (a, (5, (a : Int)))) := Lib.hid (by simp [restD, hlt])
      clear hbf HX9 HCk9 Hi9 Hh3 Hc3 hok8
      go_wp2_with fail
      refine (at_any' br A2 _ c2 p a _ w9 Hrd9.out).mono ?_
      rintro e w10 ⟨rfl, rfl⟩
      go_wp2_with fail
      refine (wrap_F 60 (a : Int) b w9 rfl).mono ?_
      rw [place_of (a : Int) (by omega)]
      rintro e w11 ⟨rfl, rfl⟩
      have hbz := (Below.heap_alloc w9 (.cells #[.int .i64 60, .int .i64 (a : Int), .iface 71 (.pointer (some ⟨b, 0, none⟩))] 73) w.heap.size hz9).trans Hbz9.out
      have HE := Lib.hid (errtext_wrap (a := (a : Int)) HX.out (wrongT_ne (5, (a : Int))) (by omega))
      have Hb9' := Lib.hid (Hb9.out.alloc (Nat.le_of_lt hz9) (.cells #[.int .i64 60, .int .i64 (a : Int), .iface 71 (.pointer (some ⟨b, 0, none⟩))] 73))
      generalize hW : w9.alloc (.cells #[.int .i64 60, .int .i64 (a : Int), .iface 71 (.pointer (some ⟨b, 0, none⟩))] 73) = W at *
      clear hW
      have k0 := cell_at hbz 0 rfl
      have k1 := cell_at hbz 1 rfl
      have k2 := cell_at hbz 2 rfl
      have k3 := cell_at hbz 3 rfl
      have k4 := cell_at hbz 4 rfl
      have k5 := cell_at hbz 5 rfl
      have k6 := cell_at hbz 6 rfl
      have k7 := cell_at hbz 7 rfl
      have k8 := cell_at hbz 8 rfl
      have k9 := cell_at hbz 9 rfl
      have k10 := cell_at hbz 10 rfl
      have f := fun i => free_at hbz i
      go_wp2_with fail
      clear k0 k1 k2 k3 k4 k5 k6 k7 k8 k9 k10 f
      show bodyPost _ _ _ _ _ (storeAll W w.heap.size [.int .i64 0, .int .i64 0, .int .i64 0, .int .i64 0, .int .i64 0, .int .i64 0, .int .i64 0, .int .i64 0, .slice none 0 0, .slice none 0 0, .slice none 0 0] 0)
      have hfin := zero_same hbz rfl [.int .i64 0, .int .i64 0, .int .i64 0, .int .i64 0, .int .i64 0, .int .i64 0, .int .i64 0, .int .i64 0, .slice none 0 0, .slice none 0 0, .slice none 0 0] rfl
      have HFin := (Lib.hid ⟨_, rfl, HE.out.storeAll hbz (by decide) [.int .i64 0, .int .i64 0, .int .i64 0, .int .i64 0, .int .i64 0, .int .i64 0, .int .i64 0, .int .i64 0, .slice none 0 0, .slice none 0 0, .slice none 0 0], below_storeAll Hb9'.out (Nat.le_refl _) [.int .i64 0, .int .i64 0, .int .i64 0, .int .i64 0, .int .i64 0, .int .i64 0, .int .i64 0, .int .i64 0, .slice none 0 0, .slice none 0 0, .slice none 0 0] 0 (Nat.le_refl _)⟩ : Hid (DecBad (overT 60 (a : Int) (wrongT (some (5, (a : Int))))) w (.returned (.tuple #[zeroCC.value, .iface 71 (.pointer (some ⟨w9.heap.size, 0, none⟩))])) (storeAll W w.heap.size [.int .i64 0, .int .i64 0, .int .i64 0, .int .i64 0, .int .i64 0, .int .i64 0, .int .i64 0, .int .i64 0, .slice none 0 0, .slice none 0 0, .slice none 0 0] 0)))
      generalize storeAll W w.heap.size [.int .i64 0, .int .i64 0, .int .i64 0, .int .i64 0, .int .i64 0, .int .i64 0, .int .i64 0, .int .i64 0, .slice none 0 0, .slice none 0 0, .slice none 0 0] 0 = Wf at *
      have r0 := cell_at hfin 0 rfl
      have r1 := cell_at hfin 1 rfl
      have r2 := cell_at hfin 2 rfl
      have r3 := cell_at hfin 3 rfl
      have r4 := cell_at hfin 4 rfl
      have r5 := cell_at hfin 5 rfl
      have r6 := cell_at hfin 6 rfl
      have r7 := cell_at hfin 7 rfl
      have r8 := cell_at hfin 8 rfl
      have r9 := cell_at hfin 9 rfl
      have r10 := cell_at hfin 10 rfl
      refine bodyPost_ret (v := .tuple #[.agg #[.int .i64 0, .int .i64 0, .int .i64 0, .int .i64 0, .int .i64 0, .int .i64 0, .int .i64 0, .int .i64 0, .slice none 0 0, .slice none 0 0, .slice none 0 0], .iface 71 (.pointer (some ⟨w9.heap.size, 0, none⟩))]) (by simp [results, Try.results17, go_sem, r0, r1, r2, r3, r4, r5, r6, r7, r8, r9, r10]) rfl ?_
      rw [Hdec.out]; exact HFin.out
    · have hok8 : (!false && decide (p.length ≤ a)) = true := by simp; omega
      rw [hok8] at hok9
      simp only [if_true] at hok9
      subst hok9
      have Hd1 : Hid (∀ e, TableP.chk C = some e → restD p C a false = .inr (a, e)) := Lib.hid fun e he => by simp [restD, hlt, he]
      have Hd2 : Hid (TableP.chk C = none → restD p C a false = .inl C) := Lib.hid fun he => by simp [restD, hlt, he]
      have HC := Lib.hid (Hc3.out rfl)
      rw [HC.out] at HCk9
      clear Hc3
      have Hbf := Lib.hid hbf
      have k0 := cell_at hbf 0 rfl
      have k1 := cell_at hbf 1 rfl
      have k2 := cell_at hbf 2 rfl
      have k3 := cell_at hbf 3 rfl
      have k4 := cell_at hbf 4 rfl
      have k5 := cell_at hbf 5 rfl
      have k6 := cell_at hbf 6 rfl
      have k7 := cell_at hbf 7 rfl
      have k8 := cell_at hbf 8 rfl
      have k9 := cell_at hbf 9 rfl
      have k10 := cell_at hbf 10 rfl
      clear HX9 hok8 hbf
      cases hchk : TableP.chk C with
      | some e =>
        obtain ⟨ec, ep⟩ := e
        have Hdec := Lib.hid (Hd1.out _ hchk)
        rw [hchk] at HCk9
        clear hchk Hd1 Hd2
        go_wp2_with fail
        refine HCk9.out.mono ?_
        clear k0 k1 k2 k3 k4 k5 k6 k7 k8 k9 k10
        rintro e w8 ⟨v8, rfl, hx8, ⟨b, rfl⟩, hb8⟩
        have HX : Hid (ErrTextK 4 w8 (.iface 71 (.pointer (some ⟨b, 0, none⟩))) (wrongT (some (ec, ep)))) := Lib.hid hx8
        replace Hbz9 := Lib.hid ((hb8.block w.heap.size hz9).trans Hbz9.out)
        replace Hb9 := Lib.hid (Hb9.out.trans (hb8.mono (Nat.le_of_lt hz9)))
        replace Hrd9 := Lib.hid (Hrd9.out.below hb8)
        have hz8 : w.heap.size < w8.heap.size := by have := hb8.size; omega
        clear hx8 hb8 hz9
        rename w.heap.size < w8.heap.size => hz9
        go_wp2_with fail
        refine (at_any' br A2 _ c2 p a _ w8 Hrd9.out).mono ?_
        rintro e w10 ⟨rfl, rfl⟩
        go_wp2_with fail
        refine (wrap_F 60 (a : Int) b w8 rfl).mono ?_
        rw [place_of (a : Int) (by omega)]
        rintro e w11 ⟨rfl, rfl⟩
        have hbz := (Below.heap_alloc w8 (.cells #[.int .i64 60, .int .i64 (a : Int), .iface 71 (.pointer (some ⟨b, 0, none⟩))] 73) w.heap.size hz9).trans Hbz9.out
        have HE := Lib.hid (errtext_wrap (a := (a : Int)) HX.out (wrongT_ne (ec, ep)) (by omega))
        have Hb9' := Lib.hid (Hb9.out.alloc (Nat.le_of_lt hz9) (.cells #[.int .i64 60, .int .i64 (a : Int), .iface 71 (.pointer (some ⟨b, 0, none⟩))] 73))
        generalize hW : w8.alloc (.cells #[.int .i64 60, .int .i64 (a : Int), .iface 71 (.pointer (some ⟨b, 0, none⟩))] 73) = W at *
        clear hW
        have k0 := cell_at hbz 0 rfl
        have k1 := cell_at hbz 1 rfl
        have k2 := cell_at hbz 2 rfl
        have k3 := cell_at hbz 3 rfl
        have k4 := cell_at hbz 4 rfl
        have k5 := cell_at hbz 5 rfl
        have k6 := cell_at hbz 6 rfl
        have k7 := cell_at hbz 7 rfl
        have k8 := cell_at hbz 8 rfl
        have k9 := cell_at hbz 9 rfl
        have k10 := cell_at hbz 10 rfl
        have f := fun i => free_at hbz i
        go_wp2_with fail
        clear k0 k1 k2 k3 k4 k5 k6 k7 k8 k9 k10 f
        show bodyPost _ _ _ _ _ (storeAll W w.heap.size [.int .i64 0, .int .i64 0, .int .i64 0, .int .i64 0, .int .i64 0, .int .i64 0, .int .i64 0, .int .i64 0, .slice none 0 0, .slice none 0 0, .slice none 0 0] 0)
        have hfin := zero_same hbz rfl [.int .i64 0, .int .i64 0, .int .i64 0, .int .i64 0, .int .i64 0, .int .i64 0, .int .i64 0, .int .i64 0, .slice none 0 0, .slice none 0 0, .slice none 0 0] rfl
        have HFin := (Lib.hid ⟨_, rfl, HE.out.storeAll hbz (by decide) [.int .i64 0, .int .i64 0, .int .i64 0, .int .i64 0, .int .i64 0, .int .i64 0, .int .i64 0, .int .i64 0, .slice none 0 0, .slice none 0 0, .slice none 0 0], below_storeAll Hb9'.out (Nat.le_refl _) [.int .i64 0, .int .i64 0, .int .i64 0, .int .i64 0, .int .i64 0, .int .i64 0, .int .i64 0, .int .i64 0, .slice none 0 0, .slice none 0 0, .slice none 0 0] 0 (Nat.le_refl _)⟩ : Hid (DecBad (overT 60 (a : Int) (wrongT (some (ec, ep)))) w (.returned (.tuple #[zeroCC.value, .iface 71 (.pointer (some ⟨w8.heap.size, 0, none⟩))])) (storeAll W w.heap.size [.int .i64 0, .int .i64 0, .int .i64 0, .int .i64 0, .int .i64 0, .int .i64 0, .int .i64 0, .int .i64 0, .slice none 0 0, .slice none 0 0, .slice none 0 0] 0)))
        generalize storeAll W w.heap.size [.int .i64 0, .int .i64 0, .int .i64 0, .int .i64 0, .int .i64 0, .int .i64 0, .int .i64 0, .int .i64 0, .slice none 0 0, .slice none 0 0, .slice none 0 0] 0 = Wf at *
        have r0 := cell_at hfin 0 rfl
        have r1 := cell_at hfin 1 rfl
        have r2 := cell_at hfin 2 rfl
        have r3 := cell_at hfin 3 rfl
        have r4 := cell_at hfin 4 rfl
        have r5 := cell_at hfin 5 rfl
        have r6 := cell_at hfin 6 rfl
        have r7 := cell_at hfin 7 rfl
        have r8 := cell_at hfin 8 rfl
        have r9 := cell_at hfin 9 rfl
        have r10 := cell_at hfin 10 rfl
        refine bodyPost_ret (v := .tuple #[.agg #[.int .i64 0, .int .i64 0, .int .i64 0, .int .i64 0, .int .i64 0, .int .i64 0, .int .i64 0, .int .i64 0, .slice none 0 0, .slice none 0 0, .slice none 0 0], .iface 71 (.pointer (some ⟨w8.heap.size, 0, none⟩))]) (by simp [results, Try.results17, go_sem, r0, r1, r2, r3, r4, r5, r6, r7, r8, r9, r10]) rfl ?_
        rw [Hdec.out]; exact HFin.out
      | none =>
        have Hdec := Lib.hid (Hd2.out hchk)
        rw [hchk] at HCk9
        clear hchk Hd1 Hd2
        go_wp2_with fail
        refine HCk9.out.mono ?_
        clear k0 k1 k2 k3 k4 k5 k6 k7 k8 k9 k10
        rintro e w8 ⟨v8, rfl, hx8, rfl, hb8⟩
        have hbz := (hb8.block w.heap.size hz9).trans Hbz9.out
        have hbf8 := (hb8.block w3.heap.size Hzf.out).trans Hbf.out
        have Hb9' := Lib.hid (Hb9.out.trans (hb8.mono (Nat.le_of_lt hz9)))
        have HFr8 := Lib.hid (Hi9.out.below hb8)
        clear hx8 hb8
        have j0 := cell_at hbf8 0 rfl
        have j1 := cell_at hbf8 1 rfl
        have j2 := cell_at hbf8 2 rfl
        have j3 := cell_at hbf8 3 rfl
        have j4 := cell_at hbf8 4 rfl
        have j5 := cell_at hbf8 5 rfl
        have j6 := cell_at hbf8 6 rfl
        have j7 := cell_at hbf8 7 rfl
        have j8 := cell_at hbf8 8 rfl
        have j9 := cell_at hbf8 9 rfl
        have j10 := cell_at hbf8 10 rfl
        have k0 := cell_at hbz 0 rfl
        have k1 := cell_at hbz 1 rfl
        have k2 := cell_at hbz 2 rfl
        have k3 := cell_at hbz 3 rfl
        have k4 := cell_at hbz 4 rfl
        have k5 := cell_at hbz 5 rfl
        have k6 := cell_at hbz 6 rfl
        have k7 := cell_at hbz 7 rfl
        have k8 := cell_at hbz 8 rfl
        have k9 := cell_at hbz 9 rfl
        have k10 := cell_at hbz 10 rfl
        have f := fun i => free_at hbz i
        go_wp2_with fail
        clear j0 j1 j2 j3 j4 j5 j6 j7 j8 j9 j10 hbf8
        clear k0 k1 k2 k3 k4 k5 k6 k7 k8 k9 k10 f
        show bodyPost _ _ _ _ _ (storeAll w8 w.heap.size [.int .i64 nodes, .int .i64 faulty, .int .i64 slot, .int .i64 gap, .int .i64 rho, .int .i64 dmin, .int .i64 dmax, .int .i64 margin, .slice PA pn pcap, .slice QA qn qcap, .slice RA rn rcap] 0)
        have hfin := zero_same hbz rfl [.int .i64 nodes, .int .i64 faulty, .int .i64 slot, .int .i64 gap, .int .i64 rho, .int .i64 dmin, .int .i64 dmax, .int .i64 margin, .slice PA pn pcap, .slice QA qn qcap, .slice RA rn rcap] rfl
        have HFin := (Lib.hid ⟨_, rfl, ⟨⟨nodes, faulty, slot, gap, rho, dmin, dmax, margin, PA, pn, pcap, parts, QA, qn, qcap, ports, RA, rn, rcap, routes⟩, rfl, HFr8.out.apart Hh3.out (storeAll_apart w.heap.size [.int .i64 nodes, .int .i64 faulty, .int .i64 slot, .int .i64 gap, .int .i64 rho, .int .i64 dmin, .int .i64 dmax, .int .i64 margin, .slice PA pn pcap, .slice QA qn qcap, .slice RA rn rcap] 0 w8) (fun k e => by rw [e]; exact hzb), HC.out⟩, below_storeAll Hb9'.out (Nat.le_refl _) [.int .i64 nodes, .int .i64 faulty, .int .i64 slot, .int .i64 gap, .int .i64 rho, .int .i64 dmin, .int .i64 dmax, .int .i64 margin, .slice PA pn pcap, .slice QA qn qcap, .slice RA rn rcap] 0 (Nat.le_refl _)⟩ : Hid (DecGood C w (.returned (.tuple #[.agg #[.int .i64 nodes, .int .i64 faulty, .int .i64 slot, .int .i64 gap, .int .i64 rho, .int .i64 dmin, .int .i64 dmax, .int .i64 margin, .slice PA pn pcap, .slice QA qn qcap, .slice RA rn rcap], .nilIface])) (storeAll w8 w.heap.size [.int .i64 nodes, .int .i64 faulty, .int .i64 slot, .int .i64 gap, .int .i64 rho, .int .i64 dmin, .int .i64 dmax, .int .i64 margin, .slice PA pn pcap, .slice QA qn qcap, .slice RA rn rcap] 0)))
        generalize storeAll w8 w.heap.size [.int .i64 nodes, .int .i64 faulty, .int .i64 slot, .int .i64 gap, .int .i64 rho, .int .i64 dmin, .int .i64 dmax, .int .i64 margin, .slice PA pn pcap, .slice QA qn qcap, .slice RA rn rcap] 0 = Wf at *
        have r0 := cell_at hfin 0 rfl
        have r1 := cell_at hfin 1 rfl
        have r2 := cell_at hfin 2 rfl
        have r3 := cell_at hfin 3 rfl
        have r4 := cell_at hfin 4 rfl
        have r5 := cell_at hfin 5 rfl
        have r6 := cell_at hfin 6 rfl
        have r7 := cell_at hfin 7 rfl
        have r8 := cell_at hfin 8 rfl
        have r9 := cell_at hfin 9 rfl
        have r10 := cell_at hfin 10 rfl
        refine bodyPost_ret (v := .tuple #[.agg #[.int .i64 nodes, .int .i64 faulty, .int .i64 slot, .int .i64 gap, .int .i64 rho, .int .i64 dmin, .int .i64 dmax, .int .i64 margin, .slice PA pn pcap, .slice QA qn qcap, .slice RA rn rcap], .nilIface]) (by simp [results, Try.results17, go_sem, r0, r1, r2, r3, r4, r5, r6, r7, r8, r9, r10]) rfl ?_
        rw [Hdec.out]; exact HFin.out

theorem decode_sealed (A : Option Addr) (l : List UInt8) (n cap : Nat) (hn : l.length = n) (w : World) (hl : n ≤ 4096) (hcap : n ≤ cap) (h : Bytes w w.heap.size A l) (p : List UInt8) (hs : l = CrcP.seal4 p) :
    Calls Try.prog 17 #[.slice A n cap] w (DecPost (TableP.dec p) w) := by
  obtain ⟨m, hm⟩ : ∃ x, WireP.take p 0 false 4 = x := ⟨_, rfl⟩
  by_cases hk : m.short = false ∧ m.n ≠ TableP.magic
  · have e : TableP.dec p = .inr (m.at_, (7, 0)) := by unfold TableP.dec; rw [if_pos (by rw [hm]; exact hk), hm]
    rw [e]
    exact decode_stop A l n cap hn w hl hcap h p hs m.at_ (7, 0) fun br A n cap W hr hA => takeTables_kind br A n cap p W hr hA m hm hk.1 hk.2
  · obtain ⟨x0, h0⟩ : ∃ x, WireP.take p m.at_ m.short 1 = x := ⟨_, rfl⟩
    obtain ⟨x1, h1⟩ : ∃ x, WireP.take p x0.at_ x0.short 1 = x := ⟨_, rfl⟩
    obtain ⟨x2, h2⟩ : ∃ x, WireP.take p x1.at_ x1.short 4 = x := ⟨_, rfl⟩
    obtain ⟨x3, h3⟩ : ∃ x, WireP.take p x2.at_ x2.short 4 = x := ⟨_, rfl⟩
    obtain ⟨x4, h4⟩ : ∃ x, WireP.take p x3.at_ x3.short 4 = x := ⟨_, rfl⟩
    obtain ⟨x5, h5⟩ : ∃ x, WireP.take p x4.at_ x4.short 4 = x := ⟨_, rfl⟩
    obtain ⟨x6, h6⟩ : ∃ x, WireP.take p x5.at_ x5.short 4 = x := ⟨_, rfl⟩
    obtain ⟨x7, h7⟩ : ∃ x, WireP.take p x6.at_ x6.short 4 = x := ⟨_, rfl⟩
    obtain ⟨x8, h8⟩ : ∃ x, WireP.take p x7.at_ x7.short 1 = x := ⟨_, rfl⟩
    obtain ⟨x9, h9⟩ : ∃ x, WireP.take p x8.at_ x8.short 1 = x := ⟨_, rfl⟩
    obtain ⟨x10, h10⟩ : ∃ x, WireP.take p x9.at_ x9.short 1 = x := ⟨_, rfl⟩
    obtain ⟨DP, hDP⟩ : ∃ D, TableP.partsD p x8.n x10.at_ x10.short = D := ⟨_, rfl⟩
    obtain ⟨DQ, hDQ⟩ : ∃ D, TableP.portsD p x9.n 0 DP.2.1 DP.2.2 = D := ⟨_, rfl⟩
    have hT := fun br A n cap W hr hA => takeTables_rest br A n cap p W hr hA m x0 x1 x2 x3 x4 x5 x6 x7 x8 x9 x10 hm hk h0 h1 h2 h3 h4 h5 h6 h7 h8 h9 h10 DP hDP DQ hDQ
    have hraw : TableP.rawT p m.at_ m.short = TableP.listsD p x8.n x9.n x10.n x10.at_ x10.short fun ps qs rs => ⟨x0.n, x1.n, x2.n, x3.n, x4.n, x5.n, x6.n, x7.n, ps, qs, rs⟩ := by
      subst h0 h1 h2 h3 h4 h5 h6 h7 h8 h9 h10
      rfl
    have hdec : TableP.dec p = match TableP.rawT p m.at_ m.short with
        | .inr (b, i) => .inr (b, (8, (i : Int)))
        | .inl (c, b, s) => restD p c b s := by
      unfold TableP.dec restD
      rw [hm, if_neg hk]
      generalize TableP.rawT p m.at_ m.short = R
      rcases R with ⟨c, b, s⟩ | ⟨b, i⟩ <;> rfl
    rw [hdec, hraw]
    unfold TableP.listsD
    rw [hDP, hDQ]
    match DQ, hT with
    | .inr (q, i), hT => exact decode_stop A l n cap hn w hl hcap h p hs q (8, (i : Nat)) hT
    | .inl (qs, a1, s1), hT => exact decode_full A l n cap hn w hl hcap h p hs _ _ _ hT
end Go.Proofs.Ytgceleipaiameaa
