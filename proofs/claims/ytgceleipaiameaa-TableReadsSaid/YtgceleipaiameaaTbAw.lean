/- Awake of stage 5: true; long. Conditions: none. · long: is one of the lists longer than is asked. Conditions: none. -/
import Derived.Test.YtgceleipaiameaaTbJ
import Derived.Test.YtgceleipaiameaaTbX
import Derived.Test.YtgceleipaiameaaErrR
import Derived.Test.YtgceleipaiameaaWirG
namespace Go.Proofs.Ytgceleipaiameaa
open Go.RowKit
set_option maxRecDepth 100000

theorem conv_w {w : World} {A : Option Addr} {n cap : Nat} {l : List UInt8} (hn : l.length = n) (h : Bytes w w.heap.size A l) : (convert 30 9 (.slice A n cap)).run Try.prog w = .ok (.string ⟨l.toArray⟩) w :=
  run_convert_b w 30 5 Try.underlying30 Try.underlying5 w.heap.size A l n cap hn h 9 Try.underlying9

def AwakePost (w : World) (e : Ending) (w' : World) : Prop := e = .returned (.bool true) ∧ Below w.heap.size w w'

def oneCC : CfgC := ⟨1, 0, 1, 0, 0, 0, 0, 0, none, 0, 0, [], none, 0, 0, [], none, 0, 0, []⟩
theorem one_in (W : World) : CfgIn W oneCC := ⟨ItemsIn.nil _ _ _ _, rfl, Nat.le_refl _, by simp [oneCC], ItemsIn.nil _ _ _ _, rfl, Nat.le_refl _, by simp [oneCC], ItemsIn.nil _ _ _ _, rfl, Nat.le_refl _, by simp [oneCC]⟩
theorem zero_in (W : World) : CfgIn W zeroCC := ⟨ItemsIn.nil _ _ _ _, rfl, Nat.le_refl _, by simp [zeroCC], ItemsIn.nil _ _ _ _, rfl, Nat.le_refl _, by simp [zeroCC], ItemsIn.nil _ _ _ _, rfl, Nat.le_refl _, by simp [zeroCC]⟩
theorem one_bytes : CrcP.seal4 (TableP.enc oneCC.plain) = 69 :: 83 :: 67 :: 49 :: (CrcP.seal4 (TableP.enc oneCC.plain)).drop 4 := by kernel_rfl
theorem one_len : (CrcP.seal4 (TableP.enc oneCC.plain)).length = 37 := by kernel_rfl
theorem zero_text : overT 60 (-1) (wrongT (some (2, -1))) = [54, 48, 64, 45, 49, 62, 50, 64, 45, 49] := by kernel_rfl

set_option maxHeartbeats 1000000 in
theorem awake_any (w : World) : Calls Try.prog 8 #[] w (AwakePost w) := by
  have HE : Hid (Calls Try.prog 11 #[oneCC.value] w (EncGood oneCC.plain w)) := Lib.hid (encode_good oneCC w (one_in w) (by decide))
  have HB : Hid (∀ W, Calls Try.prog 11 #[zeroCC.value] W (EncBad (2, -1) W)) := Lib.hid fun W => encode_bad zeroCC W (zero_in W) (2, -1) (by decide)
  simp only [oneCC, zeroCC, CfgC.value] at HE HB
  go_enter Try.func8, Try.ntmps8
  go_wp2_with fail
  refine HE.out.mono ?_
  rintro e w1 ⟨v, g, rfl, hr, hb⟩
  obtain ⟨A, c, rfl, hc, -, hby⟩ := hr.bytes
  have hb37 : (CrcP.seal4 (TableP.enc oneCC.plain)).length = 37 := one_len
  have he : TableP.enc (CfgC.plain ⟨1, 0, 1, 0, 0, 0, 0, 0, none, 0, 0, [], none, 0, 0, [], none, 0, 0, []⟩) = TableP.enc oneCC.plain := rfl
  rw [he] at hc hby ⊢
  rw [hb37] at hc ⊢
  have hsl := fun W => run_slice_to (P := Try.prog) W 30 5 Try.underlying30 (fun w => by kernel_rfl) A 37 c (4 : Int) (by omega) (by omega)
  have hby4 : Bytes w1 w1.heap.size A [69, 83, 67, 49] := by
    rw [one_bytes] at hby
    intro _
    obtain ⟨b, o, h1, h2, h3⟩ := hby (by simp)
    refine ⟨b, o, h1, h2, fun j u hj => h3 j u ?_⟩
    have hj4 : j < 4 := by have := (List.getElem?_eq_some_iff.1 hj).1; simpa using this
    match j, hj4, hj with
    | 0, _, hj => exact hj
    | 1, _, hj => exact hj
    | 2, _, hj => exact hj
    | 3, _, hj => exact hj
  have Hby4 := Lib.hid hby4
  have Hb := Lib.hid hb
  clear hb hr hby he hb37 hby4 hc
  go_wp2_with fail
  refine (HB.out _).mono ?_
  rintro e w2 ⟨b, rfl, hx, hb2⟩
  rw [zero_text] at hx
  have kc := fun W (hW : Below w2.heap.size w2 W) => conv_w (w := W) (A := A) (n := 4) (cap := c) (l := [69, 83, 67, 49]) rfl ((Hby4.out.below (hb2.trans (hW.mono hb2.size)) (Nat.le_refl _)).more (Nat.le_trans hb2.size hW.size))
  have HR := Lib.hid (ErrTextK.read (by omega) hx)
  have Hb2 := Lib.hid (Hb.out.trans (hb2.mono Hb.out.size))
  clear hx hb2
  have kc2 := kc w2 (Below.refl _ _)
  clear kc
  unfold strV at HR
  go_wp2_with fail
  refine HR.out.mono ?_
  rintro e w3 ⟨rfl, hb3⟩
  have Hb3 := Lib.hid (Hb2.out.trans (hb3.mono Hb2.out.size))
  clear hb3
  go_wp2_with fail
  go_ret
  exact ⟨rfl, Hb3.out⟩
end Go.Proofs.Ytgceleipaiameaa
namespace Go.Proofs.Ytgceleipaiameaa
open Go.RowKit
set_option maxRecDepth 100000

def longB (x : CfgC) : Bool := decide (100 < x.pn) || decide (100 < x.qn) || decide (100 < x.rn)
theorem longB_no {x : CfgC} (h : longB x = false) : x.pn ≤ 100 ∧ x.qn ≤ 100 ∧ x.rn ≤ 100 := by
  simp [longB] at h
  omega

set_option maxHeartbeats 1000000 in
theorem long_any (x : CfgC) (w : World) : Calls Try.prog 9 #[x.value] w (fun e w' => e = .returned (.bool (longB x)) ∧ Below w.heap.size w w') := by
  have HB0 := Lib.hid (boxC_below w x)
  obtain ⟨B, hB⟩ : ∃ B, longB x = B := ⟨_, rfl⟩
  rw [hB]
  obtain ⟨nodes, faulty, slot, gap, rho, dmin, dmax, margin, PA, pn, pcap, parts, QA, qn, qcap, ports, RA, rn, rcap, routes⟩ := x
  simp only [longB] at hB
  simp only [CfgC.value]
  simp only [boxC, cfgCells] at HB0
  by_cases h1 : 100 < pn
  · have q1 : decide ((100 : Int) < pn) = true := decide_eq_true (by omega)
    have e : B = true := by rw [← hB]; simp [h1]
    subst e
    clear hB h1
    go_enter Try.func9, Try.ntmps9
    go_wp2_with fail
    go_ret
    exact ⟨rfl, HB0.out⟩
  · have q1 : decide ((100 : Int) < pn) = false := decide_eq_false (by omega)
    by_cases h2 : 100 < qn
    · have q2 : decide ((100 : Int) < qn) = true := decide_eq_true (by omega)
      have e : B = true := by rw [← hB]; simp [h2]
      subst e
      clear hB h1 h2
      go_enter Try.func9, Try.ntmps9
      go_wp2_with fail
      go_ret
      exact ⟨rfl, HB0.out⟩
    · have q2 : decide ((100 : Int) < qn) = false := decide_eq_false (by omega)
      have e : decide ((100 : Int) < rn) = B := by
        rw [← hB]
        have h1' : ¬ 100 < pn := h1
        have h3 : ((100 : Int) < rn) = (100 < rn) := by simp only [eq_iff_iff]; omega
        simp [h1, h2, h3]
      clear hB h1 h2
      go_enter Try.func9, Try.ntmps9
      go_wp2_with fail
      go_ret
      exact ⟨rfl, HB0.out⟩
end Go.Proofs.Ytgceleipaiameaa
