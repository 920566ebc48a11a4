/- Contract of the document's Decode at bytes in memory, its own reading given. Conditions: where the bytes lie; at most 4096 of them. · Contract of the document's Decode where all was read. Conditions: where the bytes lie; at most 4096 of them. -/
import Derived.Test.YtgceleipaiameaaTbQa
import Derived.Test.YtgceleipaiameaaTbK
import Derived.Test.YtgceleipaiameaaTbN
import Derived.Test.YtgceleipaiameaaCrcE
import Derived.Test.YtgceleipaiameaaWirN
import Derived.Test.YtgceleipaiameaaTbG
namespace Go.Proofs.Ytgceleipaiameaa
open Go.RowKit
set_option maxRecDepth 100000

def RefDecBad (t : List UInt8) (w : World) (e : Ending) (w' : World) : Prop := e = .returned (.tuple #[zeroCC.value, strV t]) ∧ Below w.heap.size w w'
def RefDecGood (f : TableP.Cfg) (w : World) (e : Ending) (w' : World) : Prop := ∃ v, e = .returned (.tuple #[v, .string ⟨#[]⟩]) ∧ CfgAt w' v f ∧ Below w.heap.size w w'
def RefDecPost : TableP.Cfg ⊕ (Nat × FrameP.Wrong) → World → Ending → World → Prop
  | .inl f => RefDecGood f
  | .inr (a, c) => RefDecBad (overT 60 a (wrongT (some c)))

set_option maxHeartbeats 1000000 in
theorem refdecode_many (A : Option Addr) (n cap : Nat) (w : World) (hl : 4096 < n) (hmo : n ≤ 9223372036854775807) :
    Calls Try.prog 18 #[.slice A n cap] w (RefDecBad (overT 60 (-1) (wrongT (some (3, -1)))) w) := by
  have q1 : decide ((4096 : Int) < n) = true := decide_eq_true (by omega)
  have hbz0 := heap_alloc_new w (.cells #[.int .i64 0, .int .i64 0, .int .i64 0, .int .i64 0, .int .i64 0, .int .i64 0, .int .i64 0, .int .i64 0, .slice none 0 0, .slice none 0 0, .slice none 0 0] 26)
  have hz0 : w.heap.size < (w.alloc (.cells #[.int .i64 0, .int .i64 0, .int .i64 0, .int .i64 0, .int .i64 0, .int .i64 0, .int .i64 0, .int .i64 0, .slice none 0 0, .slice none 0 0, .slice none 0 0] 26)).heap.size := by simp
  have hb0 := (Below.refl w.heap.size w).alloc (Nat.le_refl _) (.cells #[.int .i64 0, .int .i64 0, .int .i64 0, .int .i64 0, .int .i64 0, .int .i64 0, .int .i64 0, .int .i64 0, .slice none 0 0, .slice none 0 0, .slice none 0 0] 26)
  have Hbz := Lib.hid hbz0
  have Hb1 := Lib.hid hb0
  have Hz1 := Lib.hid hz0
  clear hl hbz0 hz0 hb0
  have HA := Lib.hid (fun W => at_any 3 (-1) W (by omega) (by omega))
  have HV := Lib.hid (fun W => over_any 60 (-1) (wrongT (some (3, -1))) W (by omega) (by omega) (by have := wrongT_len (3, -1); omega))
  unfold RefDecBad
  have e6 : wrongT (some (3, -1)) = atT 3 (-1) := rfl
  rw [e6] at HV ⊢
  generalize overT 60 (-1) (atT 3 (-1)) = T at *
  generalize atT 3 (-1) = T6 at *
  unfold strV at *
  go_enter Try.func18, Try.ntmps18
  go_wp2_with fail
  generalize w.alloc (.cells #[.int .i64 0, .int .i64 0, .int .i64 0, .int .i64 0, .int .i64 0, .int .i64 0, .int .i64 0, .int .i64 0, .slice none 0 0, .slice none 0 0, .slice none 0 0] 26) = w1 at *
  have hz1 := Hz1.out
  refine (HA.out _).mono ?_
  rintro e w2 ⟨rfl, hb2⟩
  have Hb2 := Lib.hid hb2
  clear hb2
  go_wp2_with fail
  refine (HV.out _).mono ?_
  rintro e W ⟨rfl, hb3⟩
  have hbz3 := (hb3.block w.heap.size (Nat.lt_of_lt_of_le hz1 Hb2.out.size)).trans ((Hb2.out.block w.heap.size hz1).trans Hbz.out)
  have Hb3 := Lib.hid (Hb1.out.trans ((Hb2.out.trans (hb3.mono Hb2.out.size)).mono (Nat.le_of_lt hz1)))
  clear hb3
  have k0 := cell_at hbz3 0 rfl
  have k1 := cell_at hbz3 1 rfl
  have k2 := cell_at hbz3 2 rfl
  have k3 := cell_at hbz3 3 rfl
  have k4 := cell_at hbz3 4 rfl
  have k5 := cell_at hbz3 5 rfl
  have k6 := cell_at hbz3 6 rfl
  have k7 := cell_at hbz3 7 rfl
  have k8 := cell_at hbz3 8 rfl
  have k9 := cell_at hbz3 9 rfl
  have k10 := cell_at hbz3 10 rfl
  have f := fun i => free_at hbz3 i
  go_wp2_with fail
  clear k0 k1 k2 k3 k4 k5 k6 k7 k8 k9 k10 f
  show bodyPost _ _ _ _ _ (storeAll W w.heap.size [.int .i64 0, .int .i64 0, .int .i64 0, .int .i64 0, .int .i64 0, .int .i64 0, .int .i64 0, .int .i64 0, .slice none 0 0, .slice none 0 0, .slice none 0 0] 0)
  have hfin := zero_same hbz3 rfl [.int .i64 0, .int .i64 0, .int .i64 0, .int .i64 0, .int .i64 0, .int .i64 0, .int .i64 0, .int .i64 0, .slice none 0 0, .slice none 0 0, .slice none 0 0] rfl
  have HFin := Lib.hid (below_storeAll Hb3.out (Nat.le_refl _) [.int .i64 0, .int .i64 0, .int .i64 0, .int .i64 0, .int .i64 0, .int .i64 0, .int .i64 0, .int .i64 0, .slice none 0 0, .slice none 0 0, .slice none 0 0] 0 (Nat.le_refl _))
  generalize storeAll W w.heap.size [.int .i64 0, .int .i64 0, .int .i64 0, .int .i64 0, .int .i64 0, .int .i64 0, .int .i64 0, .int .i64 0, .slice none 0 0, .slice none 0 0, .slice none 0 0] 0 = Wf at *
  have r0 := cell_at hfin 0 rfl
  have r1 := cell_at hfin 1 rfl
  have r2 := cell_at hfin 2 rfl
  have r3 := cell_at hfin 3 rfl
  have r4 := cell_at hfin 4 rfl
  have r5 := cell_at hfin 5 rfl
  have r6 := cell_at hfin 6 rfl
  have r7 := cell_at hfin 7 rfl
  have r8 := cell_at hfin 8 rfl
  have r9 := cell_at hfin 9 rfl
  have r10 := cell_at hfin 10 rfl
  refine bodyPost_ret (v := .tuple #[.agg #[.int .i64 0, .int .i64 0, .int .i64 0, .int .i64 0, .int .i64 0, .int .i64 0, .int .i64 0, .int .i64 0, .slice none 0 0, .slice none 0 0, .slice none 0 0], .string ⟨T.toArray⟩]) (by simp [results, Try.results18, go_sem, r0, r1, r2, r3, r4, r5, r6, r7, r8, r9, r10]) rfl ?_
  exact ⟨rfl, HFin.out⟩

set_option maxHeartbeats 1000000 in
theorem refdecode_unsealed (A : Option Addr) (l : List UInt8) (n cap : Nat) (hn : l.length = n) (w : World) (hl : n ≤ 4096) (hcap : n ≤ cap) (h : Bytes w w.heap.size A l) (hs : ¬ isSealed l) :
    Calls Try.prog 18 #[.slice A n cap] w (RefDecBad (overT 60 (-1) (wrongT (some (6, -1)))) w) := by
  have HO : Hid (∀ o, Calls Try.prog 41 #[.slice A n cap] (w.alloc o) (fun e w' => e = .returned (.tuple #[.slice none 0 0, .bool false]) ∧ Below (w.alloc o).heap.size (w.alloc o) w')) := Lib.hid fun o => by
    refine (refopen_any A l n cap hn (w.alloc o) (by omega) hcap ((h.alloc (Nat.le_refl _) o).more (by simp))).mono ?_
    rintro e w' (⟨p, v, h1, _⟩ | ⟨_, h2, h3⟩)
    · exact absurd ⟨p, h1⟩ hs
    · exact ⟨h2, h3⟩
  have q1 : decide ((4096 : Int) < n) = false := decide_eq_false (by omega)
  have HA := Lib.hid (fun W => at_any 6 (-1) W (by omega) (by omega))
  have HV := Lib.hid (fun W => over_any 60 (-1) (wrongT (some (6, -1))) W (by omega) (by omega) (by have := wrongT_len (6, -1); omega))
  unfold RefDecBad
  have e6 : wrongT (some (6, -1)) = atT 6 (-1) := rfl
  rw [e6] at HV ⊢
  generalize overT 60 (-1) (atT 6 (-1)) = T at *
  generalize atT 6 (-1) = T6 at *
  unfold strV at *
  clear h hs hn e6 hl
  go_enter Try.func18, Try.ntmps18
  go_wp2_with fail
  refine (HO.out _).mono ?_
  rintro e w1 ⟨rfl, h1⟩
  have hbz1 := (h1.block w.heap.size (by simp)).trans (heap_alloc_new w _)
  have hz1 : w.heap.size < w1.heap.size := by have := h1.size; simp at this; omega
  have Hb1 := Lib.hid (((Below.refl w.heap.size w).alloc (Nat.le_refl _) _).trans (h1.mono (by simp)))
  have Hbz := Lib.hid hbz1
  clear h1 hbz1
  go_wp2_with fail
  refine (HA.out _).mono ?_
  rintro e w2 ⟨rfl, hb2⟩
  have Hb2 := Lib.hid hb2
  clear hb2
  go_wp2_with fail
  refine (HV.out _).mono ?_
  rintro e W ⟨rfl, hb3⟩
  have hbz3 := (hb3.block w.heap.size (Nat.lt_of_lt_of_le hz1 Hb2.out.size)).trans ((Hb2.out.block w.heap.size hz1).trans Hbz.out)
  have Hb3 := Lib.hid (Hb1.out.trans ((Hb2.out.trans (hb3.mono Hb2.out.size)).mono (Nat.le_of_lt hz1)))
  clear hb3
  have k0 := cell_at hbz3 0 rfl
  have k1 := cell_at hbz3 1 rfl
  have k2 := cell_at hbz3 2 rfl
  have k3 := cell_at hbz3 3 rfl
  have k4 := cell_at hbz3 4 rfl
  have k5 := cell_at hbz3 5 rfl
  have k6 := cell_at hbz3 6 rfl
  have k7 := cell_at hbz3 7 rfl
  have k8 := cell_at hbz3 8 rfl
  have k9 := cell_at hbz3 9 rfl
  have k10 := cell_at hbz3 10 rfl
  have f := fun i => free_at hbz3 i
  go_wp2_with fail
  clear k0 k1 k2 k3 k4 k5 k6 k7 k8 k9 k10 f
  show bodyPost _ _ _ _ _ (storeAll W w.heap.size [.int .i64 0, .int .i64 0, .int .i64 0, .int .i64 0, .int .i64 0, .int .i64 0, .int .i64 0, .int .i64 0, .slice none 0 0, .slice none 0 0, .slice none 0 0] 0)
  have hfin := zero_same hbz3 rfl [.int .i64 0, .int .i64 0, .int .i64 0, .int .i64 0, .int .i64 0, .int .i64 0, .int .i64 0, .int .i64 0, .slice none 0 0, .slice none 0 0, .slice none 0 0] rfl
  have HFin := Lib.hid (below_storeAll Hb3.out (Nat.le_refl _) [.int .i64 0, .int .i64 0, .int .i64 0, .int .i64 0, .int .i64 0, .int .i64 0, .int .i64 0, .int .i64 0, .slice none 0 0, .slice none 0 0, .slice none 0 0] 0 (Nat.le_refl _))
  generalize storeAll W w.heap.size [.int .i64 0, .int .i64 0, .int .i64 0, .int .i64 0, .int .i64 0, .int .i64 0, .int .i64 0, .int .i64 0, .slice none 0 0, .slice none 0 0, .slice none 0 0] 0 = Wf at *
  have r0 := cell_at hfin 0 rfl
  have r1 := cell_at hfin 1 rfl
  have r2 := cell_at hfin 2 rfl
  have r3 := cell_at hfin 3 rfl
  have r4 := cell_at hfin 4 rfl
  have r5 := cell_at hfin 5 rfl
  have r6 := cell_at hfin 6 rfl
  have r7 := cell_at hfin 7 rfl
  have r8 := cell_at hfin 8 rfl
  have r9 := cell_at hfin 9 rfl
  have r10 := cell_at hfin 10 rfl
  refine bodyPost_ret (v := .tuple #[.agg #[.int .i64 0, .int .i64 0, .int .i64 0, .int .i64 0, .int .i64 0, .int .i64 0, .int .i64 0, .int .i64 0, .slice none 0 0, .slice none 0 0, .slice none 0 0], .string ⟨T.toArray⟩]) (by simp [results, Try.results18, go_sem, r0, r1, r2, r3, r4, r5, r6, r7, r8, r9, r10]) rfl ?_
  exact ⟨rfl, HFin.out⟩

set_option maxHeartbeats 2000000 in
theorem refdecode_stop (A : Option Addr) (l : List UInt8) (n cap : Nat) (hn : l.length = n) (w : World) (hl : n ≤ 4096) (hcap : n ≤ cap) (h : Bytes w w.heap.size A l) (p : List UInt8) (hs : l = CrcP.seal4 p) (a : Nat) (c : FrameP.Wrong)
    (hT : ∀ rr A n cap W, RefAt W rr A n cap p 0 false → Calls Try.prog 42 #[.pointer (some ⟨rr, 0, none⟩)] W (RefStop rr A n cap p (wrongT (some c)) a W)) :
    Calls Try.prog 18 #[.slice A n cap] w (RefDecBad (overT 60 (a : Nat) (wrongT (some c))) w) := by
  have HO : Hid (∀ o, Calls Try.prog 41 #[.slice A n cap] (w.alloc o) (fun e w' => ∃ v g, e = .returned (.tuple #[v, .bool true]) ∧ Row w' (w.alloc o).heap.size 5 g v p ∧ Below (w.alloc o).heap.size (w.alloc o) w')) := Lib.hid fun o => by
    refine (refopen_any A l n cap hn (w.alloc o) (by omega) hcap ((h.alloc (Nat.le_refl _) o).more (by simp))).mono ?_
    rintro e w' (⟨q, v, h1, h2, h3, h4⟩ | ⟨h1, _⟩)
    · have e1 : q = p := by
        have e2 : CrcP.seal4 p = CrcP.seal4 q := hs.symm.trans h1
        have e3 := congrArg List.length e2
        rw [seal4_len, seal4_len] at e3
        unfold CrcP.seal4 at e2
        exact ((List.append_inj e2 (by omega)).1).symm
      subst e1
      exact ⟨v, _, h2, ⟨rfl, h3⟩, h4⟩
    · exact absurd ⟨p, hs⟩ h1
  have hpl : p.length ≤ 5000 := by have := congrArg List.length hs; rw [seal4_len] at this; omega
  have q1 : decide ((4096 : Int) < n) = false := decide_eq_false (by omega)
  have HT := Lib.hid hT
  clear h hs hn hT hl
  go_enter Try.func18, Try.ntmps18
  go_wp2_with fail
  refine (HO.out _).mono ?_
  rintro e w1 ⟨v1, g1, rfl, hr1, hb1⟩
  have hbz1 := (hb1.block w.heap.size (by simp)).trans (heap_alloc_new w _)
  have hz1 : w.heap.size < w1.heap.size := by have := hb1.size; simp at this; omega
  have Hb1 := Lib.hid (((Below.refl w.heap.size w).alloc (Nat.le_refl _) _).trans (hb1.mono (by simp)))
  have Hbz := Lib.hid hbz1
  obtain ⟨A1, c1, rfl, hle1, -, hby1⟩ := hr1.bytes
  have HR0 : Hid (RefAt (w1.alloc (.cells #[.slice A1 p.length c1, .int .i64 0, .string ⟨#[]⟩] 89)) w1.heap.size A1 p.length c1 p 0 false) := Lib.hid
    ⟨heap_alloc_new w1 _, (hby1.alloc (Nat.le_refl _) _).more (by simp), rfl, hle1, hpl, fun hl e => by
      obtain ⟨b, o, e2, hb, _⟩ := hby1 hl
      rw [e2] at e
      have e3 : b = w1.heap.size := Option.some.inj e
      omega, Nat.zero_le _⟩
  have HT2 := Lib.hid (HT.out w1.heap.size A1 p.length c1 _ HR0.out)
  clear hb1 hbz1 hr1 hby1 HO hle1 HR0 HT
  go_wp2_with fail
  refine HT2.out.mono ?_
  rintro e w3 ⟨rfl, hrd3, ha3⟩
  have Hrd3 := Lib.hid hrd3
  have hpla := hrd3.place
  have hB3 : Below w1.heap.size w1 w3 := ((Below.refl _ _).alloc (Nat.le_refl _) _).trans (ha3.below (by simp) (fun k e => by have e : k = w1.heap.size := e; omega))
  have hz3 : w.heap.size < w3.heap.size := by have h2 := hB3.size; omega
  have Hbz3 := Lib.hid ((hB3.block w.heap.size hz1).trans Hbz.out)
  have Hb3 := Lib.hid (Hb1.out.trans (hB3.mono (Nat.le_of_lt hz1)))
  have hTe := wrongT_emp c
  have HOv := Lib.hid (fun W => over_any 60 (a : Int) (wrongT (some c)) W (by omega) (by omega) (by have := wrongT_len c; omega))
  obtain ⟨T2, hT2⟩ : ∃ x, overT 60 (a : Int) (wrongT (some c)) = x := ⟨_, rfl⟩
  have HT2' := Lib.hid hT2
  rw [hT2] at HOv
  obtain ⟨T1, hT1⟩ : ∃ x, wrongT (some c) = x := ⟨_, rfl⟩
  rw [hT1] at hTe HOv ⊢
  unfold strV at HOv
  clear hT1 hT2
  clear hrd3 ha3 hB3 hz1 Hb1 Hbz HT2
  unfold RefDecBad
  simp only [zeroCC, CfgC.value, strV]
  have r1 := fun o => (three_cells (Hrd3.out.below ((Below.refl _ _).alloc (Nat.le_refl _) o)).block).2.1
  go_wp2_with fail
  clear r1
  generalize hw9 : w3.alloc (.cells #[.int .i64 0, .int .i64 0, .int .i64 0, .int .i64 0, .int .i64 0, .int .i64 0, .int .i64 0, .int .i64 0, .slice none 0 0, .slice none 0 0, .slice none 0 0] 26) = w9
  have Hrd9 : Hid (RefAt w9 w1.heap.size A1 p.length c1 p a false) := Lib.hid (by rw [← hw9]; exact Hrd3.out.below ((Below.refl _ _).alloc (Nat.le_refl _) _))
  have Hbz9 : Hid (w9.heap[w.heap.size]? = some (.cells #[.int .i64 0, .int .i64 0, .int .i64 0, .int .i64 0, .int .i64 0, .int .i64 0, .int .i64 0, .int .i64 0, .slice none 0 0, .slice none 0 0, .slice none 0 0] 26 (0, 0))) := Lib.hid (by rw [← hw9]; exact (Below.heap_alloc w3 _ w.heap.size hz3).trans Hbz3.out)
  have Hb9 : Hid (Below w.heap.size w w9) := Lib.hid (by rw [← hw9]; exact Hb3.out.alloc (Nat.le_of_lt hz3) _)
  have hz9 : w.heap.size < w9.heap.size := Nat.lt_of_lt_of_le hz3 (by rw [← hw9]; simp)
  clear hw9 Hrd3 Hbz3 Hb3 hz3
  refine (HOv.out w9).mono ?_
  rintro e W ⟨rfl, hb10⟩
  have hbz10 := (hb10.block w.heap.size hz9).trans Hbz9.out
  have Hb10 := Lib.hid (Hb9.out.trans (hb10.mono (Nat.le_of_lt hz9)))
  clear hb10
  have k0 := cell_at hbz10 0 rfl
  have k1 := cell_at hbz10 1 rfl
  have k2 := cell_at hbz10 2 rfl
  have k3 := cell_at hbz10 3 rfl
  have k4 := cell_at hbz10 4 rfl
  have k5 := cell_at hbz10 5 rfl
  have k6 := cell_at hbz10 6 rfl
  have k7 := cell_at hbz10 7 rfl
  have k8 := cell_at hbz10 8 rfl
  have k9 := cell_at hbz10 9 rfl
  have k10 := cell_at hbz10 10 rfl
  have f := fun i => free_at hbz10 i
  go_wp2_with fail
  clear k0 k1 k2 k3 k4 k5 k6 k7 k8 k9 k10 f
  show bodyPost _ _ _ _ _ (storeAll W w.heap.size [.int .i64 0, .int .i64 0, .int .i64 0, .int .i64 0, .int .i64 0, .int .i64 0, .int .i64 0, .int .i64 0, .slice none 0 0, .slice none 0 0, .slice none 0 0] 0)
  have hfin := zero_same hbz10 rfl [.int .i64 0, .int .i64 0, .int .i64 0, .int .i64 0, .int .i64 0, .int .i64 0, .int .i64 0, .int .i64 0, .slice none 0 0, .slice none 0 0, .slice none 0 0] rfl
  have HFin := Lib.hid (below_storeAll Hb10.out (Nat.le_refl _) [.int .i64 0, .int .i64 0, .int .i64 0, .int .i64 0, .int .i64 0, .int .i64 0, .int .i64 0, .int .i64 0, .slice none 0 0, .slice none 0 0, .slice none 0 0] 0 (Nat.le_refl _))
  generalize storeAll W w.heap.size [.int .i64 0, .int .i64 0, .int .i64 0, .int .i64 0, .int .i64 0, .int .i64 0, .int .i64 0, .int .i64 0, .slice none 0 0, .slice none 0 0, .slice none 0 0] 0 = Wf at *
  have r0 := cell_at hfin 0 rfl
  have r1 := cell_at hfin 1 rfl
  have r2 := cell_at hfin 2 rfl
  have r3 := cell_at hfin 3 rfl
  have r4 := cell_at hfin 4 rfl
  have r5 := cell_at hfin 5 rfl
  have r6 := cell_at hfin 6 rfl
  have r7 := cell_at hfin 7 rfl
  have r8 := cell_at hfin 8 rfl
  have r9 := cell_at hfin 9 rfl
  have r10 := cell_at hfin 10 rfl
  refine bodyPost_ret (v := .tuple #[.agg #[.int .i64 0, .int .i64 0, .int .i64 0, .int .i64 0, .int .i64 0, .int .i64 0, .int .i64 0, .int .i64 0, .slice none 0 0, .slice none 0 0, .slice none 0 0], .string ⟨T2.toArray⟩]) (by simp [results, Try.results18, go_sem, r0, r1, r2, r3, r4, r5, r6, r7, r8, r9, r10]) rfl ?_
  exact ⟨by rw [HT2'.out]; rfl, HFin.out⟩
end Go.Proofs.Ytgceleipaiameaa
namespace Go.Proofs.Ytgceleipaiameaa
open Go.RowKit
set_option maxRecDepth 100000

set_option maxHeartbeats 4000000 in
theorem refdecode_full (A : Option Addr) (l : List UInt8) (n cap : Nat) (hn : l.length = n) (w : World) (hl : n ≤ 4096) (hcap : n ≤ cap) (h : Bytes w w.heap.size A l) (p : List UInt8) (hs : l = CrcP.seal4 p) (C : TableP.Cfg) (a : Nat) (s : Bool)
    (hT : ∀ rr A n cap W, RefAt W rr A n cap p 0 false → Calls Try.prog 42 #[.pointer (some ⟨rr, 0, none⟩)] W (RefAll rr A n cap p C a s W)) :
    Calls Try.prog 18 #[.slice A n cap] w (RefDecPost (restD p C a s) w) := by
  have HO : Hid (∀ o, Calls Try.prog 41 #[.slice A n cap] (w.alloc o) (fun e w' => ∃ v g, e = .returned (.tuple #[v, .bool true]) ∧ Row w' (w.alloc o).heap.size 5 g v p ∧ Below (w.alloc o).heap.size (w.alloc o) w')) := Lib.hid fun o => by
    refine (refopen_any A l n cap hn (w.alloc o) (by omega) hcap ((h.alloc (Nat.le_refl _) o).more (by simp))).mono ?_
    rintro e w' (⟨q, v, h1, h2, h3, h4⟩ | ⟨h1, _⟩)
    · have e1 : q = p := by
        have e2 : CrcP.seal4 p = CrcP.seal4 q := hs.symm.trans h1
        have e3 := congrArg List.length e2
        rw [seal4_len, seal4_len] at e3
        unfold CrcP.seal4 at e2
        exact ((List.append_inj e2 (by omega)).1).symm
      subst e1
      exact ⟨v, _, h2, ⟨rfl, h3⟩, h4⟩
    · exact absurd ⟨p, hs⟩ h1
  have hpl : p.length ≤ 5000 := by have := congrArg List.length hs; rw [seal4_len] at this; omega
  have q1 : decide ((4096 : Int) < n) = false := decide_eq_false (by omega)
  have HT := Lib.hid hT
  clear h hs hn hT hl
  go_enter Try.func18, Try.ntmps18
  go_wp2_with fail
  refine (HO.out _).mono ?_
  rintro e w1 ⟨v1, g1, rfl, hr1, hb1⟩
  have hbz1 := (hb1.block w.heap.size (by simp)).trans (heap_alloc_new w _)
  have hz1 : w.heap.size < w1.heap.size := by have := hb1.size; simp at this; omega
  have Hb1 := Lib.hid (((Below.refl w.heap.size w).alloc (Nat.le_refl _) _).trans (hb1.mono (by simp)))
  have Hbz := Lib.hid hbz1
  obtain ⟨A1, c1, rfl, hle1, -, hby1⟩ := hr1.bytes
  have HR0 : Hid (RefAt (w1.alloc (.cells #[.slice A1 p.length c1, .int .i64 0, .string ⟨#[]⟩] 89)) w1.heap.size A1 p.length c1 p 0 false) := Lib.hid
    ⟨heap_alloc_new w1 _, (hby1.alloc (Nat.le_refl _) _).more (by simp), rfl, hle1, hpl, fun hl e => by
      obtain ⟨b, o, e2, hb, _⟩ := hby1 hl
      rw [e2] at e
      have e3 : b = w1.heap.size := Option.some.inj e
      omega, Nat.zero_le _⟩
  have HT2 := Lib.hid (HT.out w1.heap.size A1 p.length c1 _ HR0.out)
  clear hb1 hbz1 hr1 hby1 HO hle1 HR0 HT
  go_wp2_with fail
  refine HT2.out.mono ?_
  rintro e w3 ⟨x, rfl, hrd3, ha3, hi3, hh3, hc3⟩
  have Hrd3 := Lib.hid hrd3
  have hpla := hrd3.place
  have hB3 : Below w1.heap.size w1 w3 := ((Below.refl _ _).alloc (Nat.le_refl _) _).trans (ha3.below (by simp) (fun k e => by have e : k = w1.heap.size := e; omega))
  have hz3 : w.heap.size < w3.heap.size := by have h2 := hB3.size; omega
  have Hbz3 := Lib.hid ((hB3.block w.heap.size hz1).trans Hbz.out)
  have Hb3 := Lib.hid (Hb1.out.trans (hB3.mono (Nat.le_of_lt hz1)))
  have Hi3 := Lib.hid (fun W hW => CfgIn.below (W' := W) hi3 hW)
  have hh3' : CfgHi w1.heap.size x := ⟨fun hl k hk => by have := hh3.parts hl k hk; simp at this; omega, fun hl k hk => by have := hh3.ports hl k hk; simp at this; omega, fun hl k hk => by have := hh3.routes hl k hk; simp at this; omega⟩
  have Hh3 := Lib.hid hh3'
  have Hc3 := Lib.hid hc3
  have HCk := Lib.hid (fun W hW => refcheck_any x W (CfgIn.below (W' := W) hi3 hW))
  have HEn := Lib.hid (fun W hW => refend_any w1.heap.size A1 p.length c1 p a s W (RefAt.below (w' := W) hrd3 hW))
  have Hrd3' := Lib.hid (fun W hW => RefAt.below (w' := W) hrd3 hW)
  have hzb : w.heap.size < w1.heap.size := hz1
  clear hrd3 ha3 hi3 hh3 hh3' hc3 hB3 hz1 Hb1 Hbz HT2
  obtain ⟨nodes, faulty, slot, gap, rho, dmin, dmax, margin, PA, pn, pcap, parts, QA, qn, qcap, ports, RA, rn, rcap, routes⟩ := x
  simp only [CfgC.value] at HCk ⊢
  unfold RefEndPost at HEn
  unfold RefChkPost at HCk
  obtain ⟨TE, hTE⟩ : ∃ TE, endText s a p.length = TE := ⟨_, rfl⟩
  rw [hTE] at HEn
  unfold strV at HEn HCk
  go_wp2_with fail
  have hbf0 := heap_alloc_new w3 (.cells #[.int .i64 nodes, .int .i64 faulty, .int .i64 slot, .int .i64 gap, .int .i64 rho, .int .i64 dmin, .int .i64 dmax, .int .i64 margin, .slice PA pn pcap, .slice QA qn qcap, .slice RA rn rcap] 26)
  have hb39 := (Below.refl w3.heap.size w3).alloc (Nat.le_refl _) (.cells #[.int .i64 nodes, .int .i64 faulty, .int .i64 slot, .int .i64 gap, .int .i64 rho, .int .i64 dmin, .int .i64 dmax, .int .i64 margin, .slice PA pn pcap, .slice QA qn qcap, .slice RA rn rcap] 26)
  have hzf0 : w3.heap.size < (w3.alloc (.cells #[.int .i64 nodes, .int .i64 faulty, .int .i64 slot, .int .i64 gap, .int .i64 rho, .int .i64 dmin, .int .i64 dmax, .int .i64 margin, .slice PA pn pcap, .slice QA qn qcap, .slice RA rn rcap] 26)).heap.size := by simp
  refine (HEn.out _ hb39).mono ?_
  rintro e w9 ⟨rfl, hb9⟩
  have hb79 : Below w3.heap.size w3 w9 := hb39.trans (hb9.mono (by simp))
  have hz9 : w.heap.size < w9.heap.size := by have := hb79.size; omega
  have Hbz9 := Lib.hid ((hb79.block w.heap.size hz3).trans Hbz3.out)
  have Hb9 := Lib.hid (Hb3.out.trans (hb79.mono (Nat.le_of_lt hz3)))
  have Hrd9 := Lib.hid (Hrd3'.out w9 hb79)
  have hbf := (hb9.block w3.heap.size hzf0).trans hbf0
  have Hzf := Lib.hid (Nat.lt_of_lt_of_le hzf0 hb9.size)
  have Hi9 := Lib.hid (Hi3.out w9 hb79)
  have HCk9 := Lib.hid (HCk.out w9 hb79)
  clear hb79 hb39 hbf0 hzf0 hb9 Hi3 HCk HEn Hrd3' Hrd3 Hbz3 Hb3
  cases s with
  | true =>
    have Hdec : Hid (restD p C a true = .inr (a, (4, (a : Int)))) := Lib.hid (by simp [restD])
    have hTT : wrongT (some (4, (a : Int))) = TE := hTE
    have hTe := wrongT_emp (4, (a : Int))
    have HOv := Lib.hid (fun W => over_any 60 (a : Int) (wrongT (some (4, (a : Int)))) W (by omega) (by omega) (by have := wrongT_len (4, (a : Int)); omega))
    obtain ⟨T2, hT2⟩ : ∃ x, overT 60 (a : Int) (wrongT (some (4, (a : Int)))) = x := ⟨_, rfl⟩
    have HT2' := Lib.hid hT2
    rw [hT2] at HOv
    rw [hTT] at hTe HOv
    unfold strV at HOv
    clear hT2 hTT hTE
    clear hbf HCk9 Hi9 Hh3 Hc3
    obtain ⟨r0, r1, r2, -, -, -⟩ := three_cells Hrd9.out.block
    go_wp2_with fail
    clear r0 r1 r2
    refine (HOv.out w9).mono ?_
    rintro e W ⟨rfl, hb10⟩
    have hbz10 := (hb10.block w.heap.size hz9).trans Hbz9.out
    have Hb10 := Lib.hid (Hb9.out.trans (hb10.mono (Nat.le_of_lt hz9)))
    clear hb10
    have k0 := cell_at hbz10 0 rfl
    have k1 := cell_at hbz10 1 rfl
    have k2 := cell_at hbz10 2 rfl
    have k3 := cell_at hbz10 3 rfl
    have k4 := cell_at hbz10 4 rfl
    have k5 := cell_at hbz10 5 rfl
    have k6 := cell_at hbz10 6 rfl
    have k7 := cell_at hbz10 7 rfl
    have k8 := cell_at hbz10 8 rfl
    have k9 := cell_at hbz10 9 rfl
    have k10 := cell_at hbz10 10 rfl
    have f := fun i => free_at hbz10 i
    go_wp2_with fail
    clear k0 k1 k2 k3 k4 k5 k6 k7 k8 k9 k10 f
    show bodyPost _ _ _ _ _ (storeAll W w.heap.size [.int .i64 0, .int .i64 0, .int .i64 0, .int .i64 0, .int .i64 0, .int .i64 0, .int .i64 0, .int .i64 0, .slice none 0 0, .slice none 0 0, .slice none 0 0] 0)
    have hfin := zero_same hbz10 rfl [.int .i64 0, .int .i64 0, .int .i64 0, .int .i64 0, .int .i64 0, .int .i64 0, .int .i64 0, .int .i64 0, .slice none 0 0, .slice none 0 0, .slice none 0 0] rfl
    have HFin := Lib.hid (below_storeAll Hb10.out (Nat.le_refl _) [.int .i64 0, .int .i64 0, .int .i64 0, .int .i64 0, .int .i64 0, .int .i64 0, .int .i64 0, .int .i64 0, .slice none 0 0, .slice none 0 0, .slice none 0 0] 0 (Nat.le_refl _))
    generalize storeAll W w.heap.size [.int .i64 0, .int .i64 0, .int .i64 0, .int .i64 0, .int .i64 0, .int .i64 0, .int .i64 0, .int .i64 0, .slice none 0 0, .slice none 0 0, .slice none 0 0] 0 = Wf at *
    have r0 := cell_at hfin 0 rfl
    have r1 := cell_at hfin 1 rfl
    have r2 := cell_at hfin 2 rfl
    have r3 := cell_at hfin 3 rfl
    have r4 := cell_at hfin 4 rfl
    have r5 := cell_at hfin 5 rfl
    have r6 := cell_at hfin 6 rfl
    have r7 := cell_at hfin 7 rfl
    have r8 := cell_at hfin 8 rfl
    have r9 := cell_at hfin 9 rfl
    have r10 := cell_at hfin 10 rfl
    refine bodyPost_ret (v := .tuple #[.agg #[.int .i64 0, .int .i64 0, .int .i64 0, .int .i64 0, .int .i64 0, .int .i64 0, .int .i64 0, .int .i64 0, .slice none 0 0, .slice none 0 0, .slice none 0 0], .string ⟨T2.toArray⟩]) (by simp [results, Try.results18, go_sem, r0, r1, r2, r3, r4, r5, r6, r7, r8, r9, r10]) rfl ?_
    rw [Hdec.out]; exact ⟨by rw [HT2'.out]; rfl, HFin.out⟩
  | false =>
    by_cases hlt : a < p.length
    · have hTT : wrongT (some (5, (a : Int))) = TE := by rw [← hTE]; simp [endText, hlt, wrongT]
      have Hdec : Hid (restD p C a false = .inr (a, (5, (a : Int)))) := Lib.hid (by simp [restD, hlt])
      have hTe := wrongT_emp (5, (a : Int))
      have HOv := Lib.hid (fun W => over_any 60 (a : Int) (wrongT (some (5, (a : Int)))) W (by omega) (by omega) (by have := wrongT_len (5, (a : Int)); omega))
      obtain ⟨T2, hT2⟩ : ∃ x, overT 60 (a : Int) (wrongT (some (5, (a : Int)))) = x := ⟨_, rfl⟩
      have HT2' := Lib.hid hT2
      rw [hT2] at HOv
      rw [hTT] at hTe HOv
      unfold strV at HOv
      clear hT2 hTT hTE
      clear hbf HCk9 Hi9 Hh3 Hc3
      obtain ⟨r0, r1, r2, -, -, -⟩ := three_cells Hrd9.out.block
      go_wp2_with fail
      clear r0 r1 r2
      refine (HOv.out w9).mono ?_
      rintro e W ⟨rfl, hb10⟩
      have hbz10 := (hb10.block w.heap.size hz9).trans Hbz9.out
      have Hb10 := Lib.hid (Hb9.out.trans (hb10.mono (Nat.le_of_lt hz9)))
      clear hb10
      have k0 := cell_at hbz10 0 rfl
      have k1 := cell_at hbz10 1 rfl
      have k2 := cell_at hbz10 2 rfl
      have k3 := cell_at hbz10 3 rfl
      have k4 := cell_at hbz10 4 rfl
      have k5 := cell_at hbz10 5 rfl
      have k6 := cell_at hbz10 6 rfl
      have k7 := cell_at hbz10 7 rfl
      have k8 := cell_at hbz10 8 rfl
      have k9 := cell_at hbz10 9 rfl
      have k10 := cell_at hbz10 10 rfl
      have f := fun i => free_at hbz10 i
      go_wp2_with fail
      clear k0 k1 k2 k3 k4 k5 k6 k7 k8 k9 k10 f
      show bodyPost _ _ _ _ _ (storeAll W w.heap.size [.int .i64 0, .int .i64 0, .int .i64 0, .int .i64 0, .int .i64 0, .int .i64 0, .int .i64 0, .int .i64 0, .slice none 0 0, .slice none 0 0, .slice none 0 0] 0)
      have hfin := zero_same hbz10 rfl [.int .i64 0, .int .i64 0, .int .i64 0, .int .i64 0, .int .i64 0, .int .i64 0, .int .i64 0, .int .i64 0, .slice none 0 0, .slice none 0 0, .slice none 0 0] rfl
      have HFin := Lib.hid (below_storeAll Hb10.out (Nat.le_refl _) [.int .i64 0, .int .i64 0, .int .i64 0, .int .i64 0, .int .i64 0, .int .i64 0, .int .i64 0, .int .i64 0, .slice none 0 0, .slice none 0 0, .slice none 0 0] 0 (Nat.le_refl _))
      generalize storeAll W w.heap.size [.int .i64 0, .int .i64 0, .int .i64 0, .int .i64 0, .int .i64 0, .int .i64 0, .int .i64 0, .int .i64 0, .slice none 0 0, .slice none 0 0, .slice none 0 0] 0 = Wf at *
      have r0 := cell_at hfin 0 rfl
      have r1 := cell_at hfin 1 rfl
      have r2 := cell_at hfin 2 rfl
      have r3 := cell_at hfin 3 rfl
      have r4 := cell_at hfin 4 rfl
      have r5 := cell_at hfin 5 rfl
      have r6 := cell_at hfin 6 rfl
      have r7 := cell_at hfin 7 rfl
      have r8 := cell_at hfin 8 rfl
      have r9 := cell_at hfin 9 rfl
      have r10 := cell_at hfin 10 rfl
      refine bodyPost_ret (v := .tuple #[.agg #[.int .i64 0, .int .i64 0, .int .i64 0, .int .i64 0, .int .i64 0, .int .i64 0, .int .i64 0, .int .i64 0, .slice none 0 0, .slice none 0 0, .slice none 0 0], .string ⟨T2.toArray⟩]) (by simp [results, Try.results18, go_sem, r0, r1, r2, r3, r4, r5, r6, r7, r8, r9, r10]) rfl ?_
      rw [Hdec.out]; exact ⟨by rw [HT2'.out]; rfl, HFin.out⟩
    · have hTT : TE = [] := by rw [← hTE]; simp [endText, hlt]
      subst hTT
      have Hd1 : Hid (∀ e, TableP.chk C = some e → restD p C a false = .inr (a, e)) := Lib.hid fun e he => by simp [restD, hlt, he]
      have Hd2 : Hid (TableP.chk C = none → restD p C a false = .inl C) := Lib.hid fun he => by simp [restD, hlt, he]
      have HC := Lib.hid (Hc3.out rfl)
      rw [HC.out] at HCk9
      have Hbf := Lib.hid hbf
      have k0 := cell_at hbf 0 rfl
      have k1 := cell_at hbf 1 rfl
      have k2 := cell_at hbf 2 rfl
      have k3 := cell_at hbf 3 rfl
      have k4 := cell_at hbf 4 rfl
      have k5 := cell_at hbf 5 rfl
      have k6 := cell_at hbf 6 rfl
      have k7 := cell_at hbf 7 rfl
      have k8 := cell_at hbf 8 rfl
      have k9 := cell_at hbf 9 rfl
      have k10 := cell_at hbf 10 rfl
      clear Hc3 hbf hTE
      cases hchk : TableP.chk C with
      | some e =>
        obtain ⟨ec, ep⟩ := e
        have Hdec := Lib.hid (Hd1.out _ hchk)
        rw [hchk] at HCk9
        have hTe := wrongT_emp (ec, ep)
        have HOv := Lib.hid (fun W => over_any 60 (a : Int) (wrongT (some (ec, ep))) W (by omega) (by omega) (by have := wrongT_len (ec, ep); omega))
        obtain ⟨T2, hT2⟩ : ∃ x, overT 60 (a : Int) (wrongT (some (ec, ep))) = x := ⟨_, rfl⟩
        have HT2' := Lib.hid hT2
        rw [hT2] at HOv
        obtain ⟨T1, hT1⟩ : ∃ x, wrongT (some (ec, ep)) = x := ⟨_, rfl⟩
        rw [hT1] at hTe HOv HCk9
        unfold strV at HOv
        clear hT1 hT2 hchk Hd1 Hd2
        go_wp2_with fail
        refine HCk9.out.mono ?_
        clear k0 k1 k2 k3 k4 k5 k6 k7 k8 k9 k10
        rintro e w8 ⟨rfl, hb8⟩
        replace Hbz9 := Lib.hid ((hb8.block w.heap.size hz9).trans Hbz9.out)
        replace Hb9 := Lib.hid (Hb9.out.trans (hb8.mono (Nat.le_of_lt hz9)))
        replace Hrd9 := Lib.hid (Hrd9.out.below hb8)
        have hz8 : w.heap.size < w8.heap.size := by have := hb8.size; omega
        clear hb8 hz9
        rename w.heap.size < w8.heap.size => hz9
        obtain ⟨r0, r1, r2, -, -, -⟩ := three_cells Hrd9.out.block
        go_wp2_with fail
        clear r0 r1 r2
        refine (HOv.out w8).mono ?_
        rintro e W ⟨rfl, hb10⟩
        have hbz10 := (hb10.block w.heap.size hz9).trans Hbz9.out
        have Hb10 := Lib.hid (Hb9.out.trans (hb10.mono (Nat.le_of_lt hz9)))
        clear hb10
        have k0 := cell_at hbz10 0 rfl
        have k1 := cell_at hbz10 1 rfl
        have k2 := cell_at hbz10 2 rfl
        have k3 := cell_at hbz10 3 rfl
        have k4 := cell_at hbz10 4 rfl
        have k5 := cell_at hbz10 5 rfl
        have k6 := cell_at hbz10 6 rfl
        have k7 := cell_at hbz10 7 rfl
        have k8 := cell_at hbz10 8 rfl
        have k9 := cell_at hbz10 9 rfl
        have k10 := cell_at hbz10 10 rfl
        have f := fun i => free_at hbz10 i
        go_wp2_with fail
        clear k0 k1 k2 k3 k4 k5 k6 k7 k8 k9 k10 f
        show bodyPost _ _ _ _ _ (storeAll W w.heap.size [.int .i64 0, .int .i64 0, .int .i64 0, .int .i64 0, .int .i64 0, .int .i64 0, .int .i64 0, .int .i64 0, .slice none 0 0, .slice none 0 0, .slice none 0 0] 0)
        have hfin := zero_same hbz10 rfl [.int .i64 0, .int .i64 0, .int .i64 0, .int .i64 0, .int .i64 0, .int .i64 0, .int .i64 0, .int .i64 0, .slice none 0 0, .slice none 0 0, .slice none 0 0] rfl
        have HFin := Lib.hid (below_storeAll Hb10.out (Nat.le_refl _) [.int .i64 0, .int .i64 0, .int .i64 0, .int .i64 0, .int .i64 0, .int .i64 0, .int .i64 0, .int .i64 0, .slice none 0 0, .slice none 0 0, .slice none 0 0] 0 (Nat.le_refl _))
        generalize storeAll W w.heap.size [.int .i64 0, .int .i64 0, .int .i64 0, .int .i64 0, .int .i64 0, .int .i64 0, .int .i64 0, .int .i64 0, .slice none 0 0, .slice none 0 0, .slice none 0 0] 0 = Wf at *
        have r0 := cell_at hfin 0 rfl
        have r1 := cell_at hfin 1 rfl
        have r2 := cell_at hfin 2 rfl
        have r3 := cell_at hfin 3 rfl
        have r4 := cell_at hfin 4 rfl
        have r5 := cell_at hfin 5 rfl
        have r6 := cell_at hfin 6 rfl
        have r7 := cell_at hfin 7 rfl
        have r8 := cell_at hfin 8 rfl
        have r9 := cell_at hfin 9 rfl
        have r10 := cell_at hfin 10 rfl
        refine bodyPost_ret (v := .tuple #[.agg #[.int .i64 0, .int .i64 0, .int .i64 0, .int .i64 0, .int .i64 0, .int .i64 0, .int .i64 0, .int .i64 0, .slice none 0 0, .slice none 0 0, .slice none 0 0], .string ⟨T2.toArray⟩]) (by simp [results, Try.results18, go_sem, r0, r1, r2, r3, r4, r5, r6, r7, r8, r9, r10]) rfl ?_
        rw [Hdec.out]; exact ⟨by rw [HT2'.out]; rfl, HFin.out⟩
      | none =>
        have Hdec := Lib.hid (Hd2.out hchk)
        rw [hchk] at HCk9
        clear hchk Hd1 Hd2
        simp only [wrongT] at HCk9
        go_wp2_with fail
        refine HCk9.out.mono ?_
        clear k0 k1 k2 k3 k4 k5 k6 k7 k8 k9 k10
        rintro e w8 ⟨rfl, hb8⟩
        have hbz := (hb8.block w.heap.size hz9).trans Hbz9.out
        have hbf8 := (hb8.block w3.heap.size Hzf.out).trans Hbf.out
        have Hb9' := Lib.hid (Hb9.out.trans (hb8.mono (Nat.le_of_lt hz9)))
        have HFr8 := Lib.hid (Hi9.out.below hb8)
        clear hb8
        have j0 := cell_at hbf8 0 rfl
        have j1 := cell_at hbf8 1 rfl
        have j2 := cell_at hbf8 2 rfl
        have j3 := cell_at hbf8 3 rfl
        have j4 := cell_at hbf8 4 rfl
        have j5 := cell_at hbf8 5 rfl
        have j6 := cell_at hbf8 6 rfl
        have j7 := cell_at hbf8 7 rfl
        have j8 := cell_at hbf8 8 rfl
        have j9 := cell_at hbf8 9 rfl
        have j10 := cell_at hbf8 10 rfl
        have k0 := cell_at hbz 0 rfl
        have k1 := cell_at hbz 1 rfl
        have k2 := cell_at hbz 2 rfl
        have k3 := cell_at hbz 3 rfl
        have k4 := cell_at hbz 4 rfl
        have k5 := cell_at hbz 5 rfl
        have k6 := cell_at hbz 6 rfl
        have k7 := cell_at hbz 7 rfl
        have k8 := cell_at hbz 8 rfl
        have k9 := cell_at hbz 9 rfl
        have k10 := cell_at hbz 10 rfl
        have f := fun i => free_at hbz i
        go_wp2_with fail
        clear j0 j1 j2 j3 j4 j5 j6 j7 j8 j9 j10 hbf8
        clear k0 k1 k2 k3 k4 k5 k6 k7 k8 k9 k10 f
        show bodyPost _ _ _ _ _ (storeAll w8 w.heap.size [.int .i64 nodes, .int .i64 faulty, .int .i64 slot, .int .i64 gap, .int .i64 rho, .int .i64 dmin, .int .i64 dmax, .int .i64 margin, .slice PA pn pcap, .slice QA qn qcap, .slice RA rn rcap] 0)
        have hfin := zero_same hbz rfl [.int .i64 nodes, .int .i64 faulty, .int .i64 slot, .int .i64 gap, .int .i64 rho, .int .i64 dmin, .int .i64 dmax, .int .i64 margin, .slice PA pn pcap, .slice QA qn qcap, .slice RA rn rcap] rfl
        have HFin := (Lib.hid ⟨_, rfl, ⟨⟨nodes, faulty, slot, gap, rho, dmin, dmax, margin, PA, pn, pcap, parts, QA, qn, qcap, ports, RA, rn, rcap, routes⟩, rfl, HFr8.out.apart Hh3.out (storeAll_apart w.heap.size [.int .i64 nodes, .int .i64 faulty, .int .i64 slot, .int .i64 gap, .int .i64 rho, .int .i64 dmin, .int .i64 dmax, .int .i64 margin, .slice PA pn pcap, .slice QA qn qcap, .slice RA rn rcap] 0 w8) (fun k e => by rw [e]; exact hzb), HC.out⟩, below_storeAll Hb9'.out (Nat.le_refl _) [.int .i64 nodes, .int .i64 faulty, .int .i64 slot, .int .i64 gap, .int .i64 rho, .int .i64 dmin, .int .i64 dmax, .int .i64 margin, .slice PA pn pcap, .slice QA qn qcap, .slice RA rn rcap] 0 (Nat.le_refl _)⟩ : Hid (RefDecGood C w (.returned (.tuple #[.agg #[.int .i64 nodes, .int .i64 faulty, .int .i64 slot, .int .i64 gap, .int .i64 rho, .int .i64 dmin, .int .i64 dmax, .int .i64 margin, .slice PA pn pcap, .slice QA qn qcap, .slice RA rn rcap], .string ⟨#[]⟩])) (storeAll w8 w.heap.size [.int .i64 nodes, .int .i64 faulty, .int .i64 slot, .int .i64 gap, .int .i64 rho, .int .i64 dmin, .int .i64 dmax, .int .i64 margin, .slice PA pn pcap, .slice QA qn qcap, .slice RA rn rcap] 0)))
        generalize storeAll w8 w.heap.size [.int .i64 nodes, .int .i64 faulty, .int .i64 slot, .int .i64 gap, .int .i64 rho, .int .i64 dmin, .int .i64 dmax, .int .i64 margin, .slice PA pn pcap, .slice QA qn qcap, .slice RA rn rcap] 0 = Wf at *
        have r0 := cell_at hfin 0 rfl
        have r1 := cell_at hfin 1 rfl
        have r2 := cell_at hfin 2 rfl
        have r3 := cell_at hfin 3 rfl
        have r4 := cell_at hfin 4 rfl
        have r5 := cell_at hfin 5 rfl
        have r6 := cell_at hfin 6 rfl
        have r7 := cell_at hfin 7 rfl
        have r8 := cell_at hfin 8 rfl
        have r9 := cell_at hfin 9 rfl
        have r10 := cell_at hfin 10 rfl
        refine bodyPost_ret (v := .tuple #[.agg #[.int .i64 nodes, .int .i64 faulty, .int .i64 slot, .int .i64 gap, .int .i64 rho, .int .i64 dmin, .int .i64 dmax, .int .i64 margin, .slice PA pn pcap, .slice QA qn qcap, .slice RA rn rcap], .string ⟨#[]⟩]) (by simp [results, Try.results18, go_sem, r0, r1, r2, r3, r4, r5, r6, r7, r8, r9, r10]) rfl ?_
        rw [Hdec.out]; exact HFin.out
end Go.Proofs.Ytgceleipaiameaa
