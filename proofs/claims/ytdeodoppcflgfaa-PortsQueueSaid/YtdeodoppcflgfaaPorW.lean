/- Age of one of two; the tables of PortsFresh; PortsFresh. Conditions: where the bytes lie. -/
import Derived.Test.YtdeodoppcflgfaaPorU
import Derived.Test.YtdeodoppcflgfaaMidBa
namespace Go.Proofs.Ytdeodoppcflgfaa
open Go.RowKit PorP
set_option maxRecDepth 100000

section
variable {W : World} {B : Nat} {c : TableP.Cfg} {a b : Nat} {sx sy : St}
theorem duo_age (h : DuoE W B c a b sx sy) (ha : SndP.Allowed c) (hl : sy.length = c.ports.length) :
    Calls Try.prog 28 #[.pointer (some ⟨b, 0, none⟩)] W (fun e w' => e = .returned (.tuple #[]) ∧ DuoE w' B c a b sx (growT sy) ∧ Touch B W w') := by
  obtain ⟨hB, x, y, rfl, rfl, h⟩ := h
  refine (page_any W B c y h.py ha.ports).mono ?_
  rintro e w' ⟨rfl, h1⟩
  rw [h.sy, age_all hl] at h1
  obtain ⟨es', h3, h4⟩ := h.right h1
  exact ⟨rfl, ⟨Nat.le_trans hB h4.apart.size, x, { y with es := es' }, rfl, rfl, h3⟩, Touch.of_goes h.py h4⟩
end
theorem wired_fresh : ∀ t : Nat, t < 9 → SndP.chk6 (wired 1 1 2 1 (t : Int)) = none := by
  intro t ht
  have h : ∀ t : Fin 9, SndP.chk6 (wired 1 1 2 1 (t.val : Int)) = none := by decide +kernel
  exact h ⟨t, ht⟩
/-- The tables boxed, one of their numbers written. -/
structure FreshIn (W : World) (b N : Nat) (t : Nat) : Prop where
  box : W.heap[b]? = some (.cells (cfgCells (wC N 1 1 2 1 1)) 26 (0, 0))
  wir : WirIn W N 1 1 2 1 (t : Int)
theorem FreshIn.below {W W' : World} {b N t : Nat} (h : FreshIn W b N t) (hb : Below W.heap.size W W') : FreshIn W' b N t := ⟨(hb.block _ (lt_of_block h.box)).trans h.box, h.wir.below hb⟩
theorem fresh_boxed {W : World} {N : Nat} (t : Nat) (h : WirIn W N 1 1 2 1 1) : FreshIn ((W.alloc (.cells (cfgCells (wC N 1 1 2 1 1)) 26)).setCell ⟨N + 1, 23, none⟩ (.int .i64 (t : Nat))) W.heap.size N t := by
  have hb : Below W.heap.size W (W.alloc (.cells (cfgCells (wC N 1 1 2 1 1)) 26)) := (Below.refl _ W).alloc (Nat.le_refl _) _
  have h1 := h.below hb
  have l1 := lt_of_block h.ports
  refine ⟨(heap_set_other 23 _ (by omega)).trans (heap_alloc_new _ _), ⟨(heap_set_other 23 _ (by omega)).trans h1.parts, ?_, (heap_set_other 23 _ (by omega)).trans h1.routes⟩⟩
  rw [heap_set_at h1.ports 23 _]
  rfl
def frS (s2 s3 : PS) : St := [PS.empty, PS.empty, s2, s3]
def agedS (l : List UInt8) (a : Nat) : St := [⟨[], a⟩, ⟨[], a⟩, ⟨[], a⟩, ⟨[l], a⟩]
theorem aged_grow (l : List UInt8) (k : Nat) : growT (agedS l (min k 9)) = agedS l (min (k + 1) 9) := by
  unfold agedS
  rw [grow_four]
  have h : (if min k 9 < 9 then min k 9 + 1 else min k 9) = min (k + 1) 9 := by split <;> omega
  simp only [h]
theorem fr_deliver {t : Int} {l : List UInt8} (h : l.length ≤ 4) : deliverT (wired 1 1 2 1 t) 1 0 ([msgOf 2 l].map (fun m => (m.port, m.data))) (frS PS.empty PS.empty) = (1, agedS l (min 0 9)) := by
  show deliverT (wired 1 1 2 1 t) 1 0 [((2 : Int), l)] [PS.empty, PS.empty, PS.empty, PS.empty] = _
  simp only [deliverT]
  rw [wired_one2, if_pos h]
  rfl
theorem fr_read {t : Nat} {l : List UInt8} {r : Nat} (ht : (t : Int) < 9) : readT (wired 1 1 2 1 (t : Int)) 1 (agedS l (min r 9)) 1 3 = ((l, decide ((r : Int) ≤ (t : Int)), none), agedS l (min r 9)) := by
  unfold agedS
  rw [wired_read3]
  simp only
  rw [show decide (((min r 9 : Nat) : Int) ≤ (t : Int)) = decide ((r : Int) ≤ (t : Int)) from decide_eq_decide.2 (by omega)]
def AgeR (w3 : World) (t : Nat) (aa ba : Nat) (l : List UInt8) (sx : St) (r : Nat) (i : Value) (wr : World) : Prop :=
  ∃ k : Nat, k ≤ r ∧ i = .int .i64 (k : Nat) ∧ DuoE wr w3.heap.size (wired 1 1 2 1 (t : Int)) aa ba sx (agedS l (min k 9)) ∧ Below w3.heap.size w3 wr
def ReadR (w3 : World) (t : Nat) (aa ba : Nat) (l : List UInt8) (sx : St) (r : Nat) (i : Value) (wr : World) : Prop :=
  ∃ k : Nat, k ≤ 2 ∧ i = .int .i64 (k : Nat) ∧ DuoE wr w3.heap.size (wired 1 1 2 1 (t : Int)) aa ba sx (agedS l (min r 9)) ∧ Below w3.heap.size w3 wr

set_option maxHeartbeats 8000000 in
theorem fresh_law (A0 : Option Addr) (n0 c0 : Nat) (l0 : List UInt8) (hl0 : l0.length = n0) (A1 : Option Addr) (n1 c1 : Nat) (l1 : List UInt8) (hl1 : l1.length = n1) (rounds fresh : Int) (w : World) (hby0 : Bytes w w.heap.size A0 l0) (hby1 : Bytes w w.heap.size A1 l1) :
    Calls Try.prog 5 #[.slice A0 n0 c0, .slice A1 n1 c1, .int .i64 rounds, .int .i64 fresh] w (AwakeP w) := by
  have HAw := Lib.hid (awake13_any w)
  by_cases h100 : 4 < n0
  · have q1 : decide ((4 : Int) < (n0 : Int)) = true := decide_eq_true (by omega)
    have q2 : decide (4 < n0) = true := decide_eq_true h100
    clear hby0 hby1 h100 hl0 hl1
    go_enter Try.func5, Try.ntmps5
    go_wp2_with fail
    refine HAw.out.mono ?_
    rintro e w1 ⟨rfl, hb1⟩
    have HF := Lib.hid hb1
    clear hb1 HAw
    go_wp2_with fail
    go_ret
    exact ⟨rfl, HF.out⟩
  have q1 : decide ((4 : Int) < (n0 : Int)) = false := decide_eq_false (by omega)
  have q2 : decide (4 < n0) = false := decide_eq_false h100
  by_cases h101 : 4 < n1
  · have q3 : decide ((4 : Int) < (n1 : Int)) = true := decide_eq_true (by omega)
    have q4 : decide (4 < n1) = true := decide_eq_true h101
    clear hby0 hby1 h100 h101 hl0 hl1
    go_enter Try.func5, Try.ntmps5
    go_wp2_with fail
    refine HAw.out.mono ?_
    rintro e w1 ⟨rfl, hb1⟩
    have HF := Lib.hid hb1
    clear hb1 HAw
    go_wp2_with fail
    go_ret
    exact ⟨rfl, HF.out⟩
  have q3 : decide ((4 : Int) < (n1 : Int)) = false := decide_eq_false (by omega)
  have q4 : decide (4 < n1) = false := decide_eq_false h101
  have Hby0 := Lib.hid (fun W (hW : Below w.heap.size w W) => (hby0.below hW (Nat.le_refl _)).more hW.size)
  have Hby1 := Lib.hid (fun W (hW : Below w.heap.size w W) => (hby1.below hW (Nat.le_refl _)).more hW.size)
  have Hn : Hid (n0 ≤ 4 ∧ n1 ≤ 4) := Lib.hid ⟨by omega, by omega⟩
  have Hl0 := Lib.hid hl0
  have Hl1 := Lib.hid hl1
  obtain ⟨t, ht, et⟩ := mod_of fresh 9 (by omega) (by omega)
  obtain ⟨r, hr, er⟩ := mod_of rounds 12 (by omega) (by omega)
  have Hok : Hid (SndP.chk6 (wired 1 1 2 1 (t : Int)) = none) := Lib.hid (wired_fresh t (by omega))
  have Ht := Lib.hid ht
  have Hr := Lib.hid hr
  clear hby0 hby1 hl0 hl1 h100 h101 ht hr
  go_enter Try.func5, Try.ntmps5
  go_wp2_with fail
  refine HAw.out.mono ?_
  rintro e w1 ⟨rfl, hb1⟩
  have HB1 := Lib.hid hb1
  clear hb1 HAw
  go_wp2_with fail
  refine (wired_any w1).mono ?_
  rintro e w2 ⟨rfl, h2, hb2⟩
  have H2 := Lib.hid h2
  have HB2 := Lib.hid (HB1.out.trans (hb2.mono HB1.out.size))
  clear h2 hb2 q1 q2 q3 q4
  have HX := Lib.hid (fresh_boxed t H2.out)
  have HXb : Hid (Below w.heap.size w ((w2.alloc (.cells (cfgCells (wC (w1.heap.size + 2) 1 1 2 1 1)) 26)).setCell ⟨w1.heap.size + 2 + 1, 23, none⟩ (.int .i64 (t : Nat)))) := Lib.hid (by
    have h1 := HB1.out.size
    exact (HB2.out.alloc (by have := HB2.out.size; omega) _).setCell (by simp; omega) _)
  have hbk : ∀ o, (w2.alloc o).cell? ⟨w1.heap.size + 2 + 1, 23, none⟩ = some (.int .i64 1) ∧ (w2.alloc o).frozen? ⟨w1.heap.size + 2 + 1, 23, none⟩ = false := fun o => by
    have h := (H2.out.below ((Below.refl _ w2).alloc (Nat.le_refl _) o)).ports
    exact ⟨cell_at h 23 rfl, free_at h 23⟩
  have k23 := fun o => (hbk o).1
  have f23 := fun o => (hbk o).2
  have HC := HX.out.box
  have k0 := cell_at HC 0 rfl
  have k1 := cell_at HC 1 rfl
  have k2 := cell_at HC 2 rfl
  have k3 := cell_at HC 3 rfl
  have k4 := cell_at HC 4 rfl
  have k5 := cell_at HC 5 rfl
  have k6 := cell_at HC 6 rfl
  have k7 := cell_at HC 7 rfl
  have k8 := cell_at HC 8 rfl
  have k9 := cell_at HC 9 rfl
  have k10 := cell_at HC 10 rfl
  have HNew : Hid (∀ W, FreshIn W w2.heap.size (w1.heap.size + 2) t → ∀ node : Int, 0 ≤ node ∧ node < 2 → Calls Try.prog 12 #[(wC (w1.heap.size + 2) 1 1 2 1 (t : Int)).value, .int .i64 node] W (WNew W (wired 1 1 2 1 (t : Int)) node)) := Lib.hid fun W hW node hn => wnew_any 1 1 2 1 (t : Int) Hok.out _ node hn W hW.wir
  clear hbk HC
  unfold wC CfgC.value cfgCells at *
  generalize w1.heap.size + 2 = N at *
  go_wp2_with fail
  rw [er]
  clear k0 k1 k2 k3 k4 k5 k6 k7 k8 k9 k10 k23 f23 et er
  generalize World.setCell (World.alloc w2 _) _ _ = w3 at *
  have HC3 := Lib.hid (HNew.out w3 HX.out 0 (by omega))
  refine HC3.out.mono ?_
  clear HC3
  rintro e w4 ⟨a, rfl, na, pa, sa, hb4⟩
  have HX4 := Lib.hid (HX.out.below hb4)
  have Ha := Lib.hid (And.intro na (And.intro pa sa))
  have Hb4 := Lib.hid hb4
  clear na pa sa hb4
  unfold pv
  have HC := HX4.out.box
  unfold cfgCells wC at HC
  have k0 := cell_at HC 0 rfl
  have k1 := cell_at HC 1 rfl
  have k2 := cell_at HC 2 rfl
  have k3 := cell_at HC 3 rfl
  have k4 := cell_at HC 4 rfl
  have k5 := cell_at HC 5 rfl
  have k6 := cell_at HC 6 rfl
  have k7 := cell_at HC 7 rfl
  have k8 := cell_at HC 8 rfl
  have k9 := cell_at HC 9 rfl
  have k10 := cell_at HC 10 rfl
  clear HC
  go_wp2_with fail
  clear k0 k1 k2 k3 k4 k5 k6 k7 k8 k9 k10
  have HC4 := Lib.hid (HNew.out w4 HX4.out 1 (by omega))
  refine HC4.out.mono ?_
  clear HC4
  rintro e w5 ⟨b, rfl, nb, pb, sb, hb5⟩
  have HB5 := Lib.hid (Hb4.out.trans (hb5.mono Hb4.out.size))
  have HD5 : Hid (DuoE w5 w3.heap.size (wired 1 1 2 1 (t : Int)) a.a b.a (frS PS.empty PS.empty) (frS PS.empty PS.empty)) := Lib.hid (by
    have h := duo_news Ha.out.1 Ha.out.2.1 nb pb (Below.refl _ w4) hb5 Hb4.out.size
    rw [Ha.out.2.2, sb] at h
    exact h)
  clear nb pb sb hb5 Ha
  unfold pv
  generalize a.a = aa at *
  generalize b.a = ba at *
  have HAl := Lib.hid (SndP.works Hok.out).allowed
  have HT := Lib.hid (fun W (hW : Below w3.heap.size w3 W) => HXb.out.trans (hW.mono HXb.out.size))
  have HX3 := Lib.hid (fun W (hW : Below w3.heap.size w3 W) => HX.out.below hW)
  clear HNew HX4 HX HXb Hb4 H2 HB2 HB1
  go_wp2_with (at_builtin
               refine wpList_copy (by rfl) (.tmp 60) (.tmp 61) rfl rfl A0 n0 c0 l0 rfl Hl0.out (Hby0.out w5 (HT.out w5 HB5.out)) (by have := Hn.out; omega) ?_
               intro A6 c6 w6 _ h1 h2 h3
               have HB6 := Lib.hid (HB5.out.trans (h3.mono HB5.out.size))
               have HW6 := Lib.hid (duo_write (HD5.out.below h3) HAl.out 0 2 (by omega) A6 _ c6 l0 rfl h1 h2 (none, frS ⟨[l0], 0⟩ PS.empty) (by unfold frS; rw [wiredP_write2, if_neg (by rw [Hl0.out]; have := Hn.out; omega)]))
               clear h1 h2 h3 HD5 HB5)
  refine HW6.out.mono ?_
  rintro e w7 ⟨v, rfl, hv7, hD7, hT7⟩
  obtain rfl : v = .nilIface := hv7.form
  have HD7 := Lib.hid hD7
  have HB7 := Lib.hid (HB6.out.trans (hT7.below HB6.out.size))
  clear hv7 hD7 hT7 HW6 HB6
  go_wp2_with (at_builtin
               refine wpList_copy (by rfl) (.tmp 68) (.tmp 69) rfl rfl A1 n1 c1 l1 rfl Hl1.out (Hby1.out w7 (HT.out w7 HB7.out)) (by have := Hn.out; omega) ?_
               intro A8 c8 w8 _ h1 h2 h3
               have HB8 := Lib.hid (HB7.out.trans (h3.mono HB7.out.size))
               have HW8 := Lib.hid (duo_write (HD7.out.below h3) HAl.out 0 2 (by omega) A8 _ c8 l1 rfl h1 h2 (none, frS ⟨[l1], 0⟩ PS.empty) (by unfold frS; rw [wiredP_write2, if_neg (by rw [Hl1.out]; have := Hn.out; omega)]))
               clear h1 h2 h3 HD7 HB7)
  refine HW8.out.mono ?_
  rintro e w9 ⟨v, rfl, hv9, hD9, hT9⟩
  obtain rfl : v = .nilIface := hv9.form
  have HD9 := Lib.hid hD9
  have HB9 := Lib.hid (HB8.out.trans (hT9.below HB8.out.size))
  clear hv9 hD9 hT9 HW8 HB8
  go_wp2_with fail
  refine (duo_seal HD9.out HAl.out [msgOf 2 l1] (frS PS.empty PS.empty) (by rfl) (by rfl)).mono ?_
  rintro e w10 ⟨A, n, cap, ys, rfl, hyn, hO, hpl, hD10, hT10⟩
  have hn1' : n = 1 := by rw [← hyn, ← List.length_map (f := MsgC.plain), hpl]; rfl
  subst hn1'
  have HD10 := Lib.hid hD10
  have HB10 := Lib.hid (HB9.out.trans (hT10.below HB9.out.size))
  have HDl := Lib.hid (duo_deliver HD10.out HAl.out 0 A 1 cap ys hyn (by omega) hO _ hpl 1 (agedS l1 (min 0 9)) (fr_deliver (by rw [Hl1.out]; exact Hn.out.2)))
  clear hyn hO hpl hD10 hT10 HD9 HB9 HD10
  go_wp2_with fail
  refine HDl.out.mono ?_
  rintro e w11 ⟨rfl, hD11, hT11⟩
  have HB11 := Lib.hid (HB10.out.trans (hT11.below HB10.out.size))
  have HS0 : Hid (AgeR w3 t aa ba l1 (frS PS.empty PS.empty) r (.int .i64 0) w11) := Lib.hid ⟨0, Nat.zero_le _, rfl, hD11, HB11.out⟩
  clear hD11 hT11 HDl HB10 HB11
  go_wp2_with fail
  go_loopw [14] (AgeR w3 t aa ba l1 (frS PS.empty PS.empty) r) (fun j _ => (r + 1 - intOf j).toNat)
  case atStart => exact HS0.out
  case round =>
    clear HS0
    obtain ⟨k, hk, rfl, hDr, hBr⟩ := hrel
    by_cases hlt : k < r
    case pos =>
      have hr' := Hr.out
      have q3 : decide ((k : Int) < (r : Int)) = true := decide_eq_true (by omega)
      have q4 : decide (k < r) = true := decide_eq_true hlt
      have e1 : IntKind.i64.wrap ((k : Int) + 1) = (k : Int) + 1 := IntWalk.i64_in _ (by omega)
      have HDr := Lib.hid hDr
      have HBr := Lib.hid hBr
      have Hlt := Lib.hid hlt
      have HW : Hid (∀ W, DuoE W w3.heap.size (wired 1 1 2 1 (t : Int)) aa ba (frS PS.empty PS.empty) (growT (agedS l1 (min k 9))) → Below w3.heap.size w3 W → AgeR w3 t aa ba l1 (frS PS.empty PS.empty) r (.int .i64 ((k : Int) + 1)) W) := Lib.hid fun W h1 h2 => ⟨k + 1, hlt, by go_num, by rw [aged_grow] at h1; exact h1, h2⟩
      clear hDr hBr hr' hlt hk
      go_wp2_with fail
      refine (duo_age HDr.out HAl.out (by rfl)).mono ?_
      rintro e w12 ⟨rfl, hD12, hT12⟩
      have HR := Lib.hid (HW.out w12 hD12 (HBr.out.trans (hT12.below HBr.out.size)))
      clear hD12 hT12 HW HDr HBr
      go_wp2_with fail
      go_roundw
      case rel => exact HR.out
      case measure => have := Hlt.out; simp [intOf]; omega
    case neg =>
      obtain rfl : k = r := by omega
      have q3 : decide ((k : Int) < (k : Int)) = false := decide_eq_false (by omega)
      have HS1 : Hid (ReadR w3 t aa ba l1 (frS PS.empty PS.empty) k (.int .i64 0) wr) := Lib.hid ⟨0, by omega, rfl, hDr, hBr⟩
      clear hDr hBr hlt hk
      go_wp2_with fail
      go_loopw [15] (ReadR w3 t aa ba l1 (frS PS.empty PS.empty) k) (fun j _ => (3 - intOf j).toNat)
      case atStart => exact HS1.out
      case round =>
        clear HS1
        obtain ⟨j, hj, rfl, hDr, hBr⟩ := hrel
        by_cases hlt : j < 2
        case neg =>
          obtain rfl : j = 2 := by omega
          have HF := Lib.hid (HT.out _ hBr)
          clear hDr hBr hlt hj
          go_wp2_with fail
          go_ret
          exact ⟨rfl, HF.out⟩
        have q5 : decide ((j : Int) < 2) = true := decide_eq_true (by omega)
        have q6 : decide (j < 2) = true := decide_eq_true hlt
        have e1 : IntKind.i64.wrap ((j : Int) + 1) = (j : Int) + 1 := IntWalk.i64_in _ (by omega)
        obtain ⟨q, hq⟩ : ∃ q, decide ((k : Int) ≤ (t : Int)) = q := ⟨_, rfl⟩
        have hq' : decide (k ≤ t) = q := by rw [← hq]; exact decide_eq_decide.2 (by omega)
        have HRd := fr_read (l := l1) (r := k) Ht.out
        rw [hq] at HRd
        have HRd := Lib.hid (duo_read hDr HAl.out 1 3 (by omega) l1 q none _ HRd)
        have HBr := Lib.hid hBr
        have Hlt := Lib.hid hlt
        have HW : Hid (∀ W, DuoE W w3.heap.size (wired 1 1 2 1 (t : Int)) aa ba (frS PS.empty PS.empty) (agedS l1 (min k 9)) → Below w3.heap.size w3 W → ReadR w3 t aa ba l1 (frS PS.empty PS.empty) k (.int .i64 ((j : Int) + 1)) W) := Lib.hid fun W h1 h2 => ⟨j + 1, hlt, by go_num, h1, h2⟩
        clear hDr hBr hlt hj
        go_wp2_with fail
        refine HRd.out.mono ?_
        rintro e w12 ⟨Az, cz, ev, rfl, hz, hv12, hD12, hT12⟩
        obtain rfl : ev = .nilIface := hv12.form
        have HB12 := Lib.hid (HBr.out.trans (hT12.below HBr.out.size))
        have HR := Lib.hid (HW.out w12 hD12 HB12.out)
        have HX12 := HX3.out w12 HB12.out
        have kz : (convert 44 9 (.slice Az (l1.length : Nat) cz)).run Try.prog w12 = .ok (.string ⟨l1.toArray⟩) w12 := conv_w rfl (by
          obtain ⟨Aq, cq, eq, -, -, hbq, -⟩ := own_bytes hz
          injection eq with eq1 eq2 eq3
          rw [eq1]; exact hbq)
        have ky : (convert 44 9 (.slice A1 (n1 : Nat) c1)).run Try.prog w12 = .ok (.string ⟨l1.toArray⟩) w12 := conv_w Hl1.out (Hby1.out w12 (HT.out w12 HB12.out))
        have k9 : w12.cell? ⟨w2.heap.size, 9, none⟩ = some (.slice (some ⟨N + 1, 0, none⟩) 4 4) := cell_at HX12.box 9 rfl
        have k23 : w12.cell? ⟨N + 1, 23, none⟩ = some (.int .i64 (t : Nat)) := cell_at HX12.wir.ports 23 rfl
        clear hz hv12 hD12 hT12 HW HRd HBr HX12 HB12
        go_wp2_with fail
        go_roundw
        case rel => exact HR.out
        case measure => have := Hlt.out; simp [intOf]; omega
end Go.Proofs.Ytdeodoppcflgfaa
