/- Awake of stage 9: true. Conditions: none. -/
import Derived.Test.YtodkcenoljpgoaaGrdA
import Derived.Test.YtodkcenoljpgoaaSndI
namespace Go.Proofs.Ytodkcenoljpgoaa
open Go.RowKit
set_option maxRecDepth 100000

/-- A guardian that a law made, seen from the law's first world. -/
structure KeptG (w : World) (b : Nat) (x : CfgC) (ps : List Bool) (W : World) : Prop where
  guard : GuardIn W b x ps
  lo : w.heap.size ≤ b
  below : Below w.heap.size w W
theorem KeptG.step {w : World} {b : Nat} {x : CfgC} {ps : List Bool} {W W' : World} (h : KeptG w b x ps W) (hb : Below W.heap.size W W') : KeptG w b x ps W' := ⟨h.guard.below hb, h.lo, h.below.trans (hb.mono h.below.size)⟩
theorem KeptG.come {w : World} {b : Nat} {x : CfgC} {ps qs : List Bool} {W W' : World} (h : KeptG w b x ps W) (hg : GuardIn W' b x qs) (ha : Apart (fun q => q = b) W W') : KeptG w b x qs W' :=
  ⟨hg, h.lo, h.below.trans (ha.below h.below.size (fun k hk => by subst hk; exact h.lo))⟩
theorem KeptG.drew {w : World} {b : Nat} {x : CfgC} {ps : List Bool} {W : World} (h : KeptG w b x ps W) : KeptG w b x ps W.drew := h.step (Below.refl _ _).drew

def twoS : CfgC := ⟨2, 0, 1000, 500, 0, 0, 0, 98, none, 0, 0, [], none, 0, 0, [], none, 0, 0, []⟩
theorem twoS_in (W : World) : CfgIn W twoS := flat_in _ ⟨rfl, rfl, rfl, rfl, rfl, rfl, rfl, rfl, rfl, rfl, rfl, rfl⟩ W
theorem twoS_ok : SndP.chk6 twoS.plain = none := by decide
theorem twoS_head : TableP.headOk twoS.plain := by decide

theorem two_any (w : World) : Calls Try.prog 20 #[] w (fun e w' => e = .returned twoS.value ∧ Below w.heap.size w w') := by
  have HB := Lib.hid (fun o => (Below.refl w.heap.size w).alloc (Nat.le_refl _) o)
  simp only [twoS, CfgC.value]
  go_enter Try.func20, Try.ntmps20
  go_wp2_with fail
  have hfin := heap_alloc_new w (.cells #[.int .i64 2, .int .i64 0, .int .i64 1000, .int .i64 500, .int .i64 0, .int .i64 0, .int .i64 0, .int .i64 98, .slice none 0 0, .slice none 0 0, .slice none 0 0] 26 (0, 0))
  have r0 := cell_at hfin 0 rfl
  have r1 := cell_at hfin 1 rfl
  have r2 := cell_at hfin 2 rfl
  have r3 := cell_at hfin 3 rfl
  have r4 := cell_at hfin 4 rfl
  have r5 := cell_at hfin 5 rfl
  have r6 := cell_at hfin 6 rfl
  have r7 := cell_at hfin 7 rfl
  have r8 := cell_at hfin 8 rfl
  have r9 := cell_at hfin 9 rfl
  have r10 := cell_at hfin 10 rfl
  refine bodyPost_ret (v := .agg #[.int .i64 2, .int .i64 0, .int .i64 1000, .int .i64 500, .int .i64 0, .int .i64 0, .int .i64 0, .int .i64 98, .slice none 0 0, .slice none 0 0, .slice none 0 0]) (by simp [results, Try.results20, go_sem, r0, r1, r2, r3, r4, r5, r6, r7, r8, r9, r10]) rfl ?_
  exact ⟨rfl, HB.out _⟩

def ComeTwo (b : Nat) (v : Int) (qs : List Bool) (w : World) (e : Ending) (w' : World) : Prop := e = .returned (.int .i64 v) ∧ GuardIn w' b twoS qs ∧ Apart (fun q => q = b) w w'
theorem come_two (ps qs : List Bool) (a v : Int) (hv : GrdP.verd twoS.plain ps 1 a = v) (hq : GrdP.next twoS.plain ps 1 a = qs) (b : Nat) (w : World) (h : GuardIn w b twoS ps) :
    Calls Try.prog 14 #[gv b, .int .i64 1, .int .i64 a] w (ComeTwo b v qs w) :=
  (come_any twoS ps 1 (by decide) a b w h twoS_head).mono fun e w' h => by
    obtain ⟨h1, h2, h3⟩ := h
    rw [hv] at h1
    rw [hq] at h2
    exact ⟨h1, h2, h3⟩

def p0 : List Bool := List.replicate 7 false
def p1 : List Bool := [false, true, false, false, false, false, false]
theorem awake9_any (w : World) : Calls Try.prog 7 #[] w (TruePost w) := by
  have H0 := Lib.hid (fun W => two_any W)
  have H1 := Lib.hid (fun W => gnew_good twoS W (twoS_in W) twoS_ok)
  have H2 := Lib.hid (fun b W (hW : GuardIn W b twoS p0) => due_any twoS p0 1 (by decide) b W hW twoS_head)
  have H3 := Lib.hid (fun b W (hW : GuardIn W b twoS p0) => come_two p0 p1 1000 1 (by decide) (by decide) b W hW)
  have H4 := Lib.hid (fun b W (hW : GuardIn W b twoS p1) => come_two p1 p1 1000 4 (by decide) (by decide) b W hW)
  have H5 := Lib.hid (fun b W (hW : GuardIn W b twoS p1) => come_two p1 p1 999 2 (by decide) (by decide) b W hW)
  have H6 := Lib.hid (fun b W (hW : GuardIn W b twoS p1) => come_two p1 p1 1197 3 (by decide) (by decide) b W hW)
  have H7 := Lib.hid (fun b W (hW : GuardIn W b twoS p1) => come_wrong twoS p1 9 0 b W hW (by decide))
  have e2 : GrdP.dueT twoS.plain 1 = 1098 := by decide
  rw [e2] at H2
  clear e2
  unfold gv at *
  go_enter Try.func7, Try.ntmps7
  go_wp2_with fail
  refine (H0.out _).mono ?_
  rintro e w1 ⟨rfl, hb1⟩
  have Hb1 := Lib.hid hb1
  clear hb1
  go_wp2_with fail
  refine (H1.out _).mono ?_
  rintro e w2 ⟨b, rfl, h1, h2, h3⟩
  have K2 : Hid (KeptG w b twoS p0 w2) := Lib.hid ⟨h1, Nat.le_trans Hb1.out.size h2, Hb1.out.trans (h3.mono Hb1.out.size)⟩
  clear h1 h2 h3 Hb1
  unfold gv
  go_wp2_with fail
  refine (H2.out b _ K2.out.guard).mono ?_
  rintro e w3 ⟨rfl, hb3⟩
  have K3 := Lib.hid (K2.out.step hb3)
  clear hb3 K2
  go_wp2_with fail
  refine (H3.out b _ K3.out.guard).mono ?_
  rintro e w4 ⟨rfl, h1, h2⟩
  have K4 := Lib.hid (K3.out.come h1 h2)
  clear h1 h2 K3
  go_wp2_with fail
  refine (H4.out b _ K4.out.guard).mono ?_
  rintro e w5 ⟨rfl, h1, h2⟩
  have K5 := Lib.hid (K4.out.come h1 h2)
  clear h1 h2 K4
  go_wp2_with fail
  refine (H5.out b _ K5.out.guard).mono ?_
  rintro e w6 ⟨rfl, h1, h2⟩
  have K6 := Lib.hid (K5.out.come h1 h2)
  clear h1 h2 K5
  go_wp2_with fail
  refine (H6.out b _ K6.out.guard).mono ?_
  rintro e w7 ⟨rfl, h1, h2⟩
  have K7 := Lib.hid (K6.out.come h1 h2)
  clear h1 h2 K6
  go_wp2_with fail
  refine (H7.out b _ K7.out.guard).mono ?_
  rintro e w8 ⟨rfl, rfl⟩
  have HF := Lib.hid K7.out.below
  clear K7
  go_wp2_with fail
  go_ret
  exact ⟨rfl, HF.out⟩
end Go.Proofs.Ytodkcenoljpgoaa
