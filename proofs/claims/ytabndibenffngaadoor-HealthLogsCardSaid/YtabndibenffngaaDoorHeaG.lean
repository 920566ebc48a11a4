/- A monitor by what it knows (MonG), and the contract of the law's Awake. Conditions: where the monitor lies. -/
import Derived.Test.YtabndibenffngaaDoorHeaB
import Derived.Test.YtabndibenffngaaDoorHeaE
namespace Go.Proofs.YtabndibenffngaaDoor
open Go.RowKit HeaP
set_option maxRecDepth 100000

def MonG (W : World) (B b node : Nat) (rec : List (List Nat)) (m : Mon) : Prop := B ≤ W.heap.size ∧ ∃ vp vr, MonIn W B b node rec m vp vr
theorem MonG.keep {w w' : World} {B b node : Nat} {rec : List (List Nat)} {m : Mon} (h : MonG w B b node rec m) (hb : Below w.heap.size w w') : MonG w' B b node rec m := by
  obtain ⟨h0, vp, vr, h1⟩ := h
  exact ⟨Nat.le_trans h0 hb.size, vp, vr, h1.keep hb⟩
theorem RepH.below {w w' : World} {B b node : Nat} {rec : List (List Nat)} {m : Mon} {vp vr : Value} {r k : Nat} {part : Int} {e : Ending} (h : MonIn w B b node rec m vp vr) (hB : B ≤ w.heap.size) (hr : RepH w B b node rec m vp vr r part k e w') : Below B w w' := by
  obtain ⟨-, _, -, h2, -⟩ := hr
  exact h2.below hB fun k hk => (h.lt hk).1
def Rep1 (W : World) (B b node : Nat) (rec : List (List Nat)) (m : Mon) (r : Nat) (part : Int) (k : Nat) (e : Ending) (w' : World) : Prop :=
  e = .returned (.tuple #[.int .u8 ((reportT rec node m r part k).1.1 : Nat), errH (reportT rec node m r part k).1.2]) ∧ MonG w' B b node rec (reportT rec node m r part k).2 ∧ Below B W w'
theorem hrep1 {W : World} {B b node : Nat} {rec : List (List Nat)} {m : Mon} (h : MonG W B b node rec m) (hn : rec.length ≤ 255) (r : Nat) (part : Int) (k : Nat) :
    Calls Tryd.prog 24 #[monH b, .int .u32 (r : Nat), .int .i64 part, .int .u8 (k : Nat)] W (Rep1 W B b node rec m r part k) := by
  obtain ⟨h0, vp, vr, h1⟩ := h
  refine (hreport_any W B b node rec m vp vr h1 r part k hn).mono fun e w' h2 => ?_
  have h3 := h2.below h1 h0
  obtain ⟨he, vr', h4, -, -⟩ := h2
  exact ⟨he, ⟨Nat.le_trans h0 h3.size, vp, vr', h4⟩, h3⟩
def Seal1 (W : World) (B b node : Nat) (rec : List (List Nat)) (m : Mon) (e : Ending) (w' : World) : Prop :=
  ∃ A cap, e = .returned (.slice A m.out.length cap) ∧ m.out.length ≤ cap ∧ RecsIn w' A m.out ∧ MonG w' B b node rec (sealM m) ∧ Below B W w'
theorem hseal1 {W : World} {B b node : Nat} {rec : List (List Nat)} {m : Mon} (h : MonG W B b node rec m) :
    Calls Tryd.prog 22 #[monH b] W (Seal1 W B b node rec m) := by
  obtain ⟨h0, vp, vr, h1⟩ := h
  refine (hseal_any W B b node rec m vp vr h1).mono fun e w' h2 => ?_
  obtain ⟨he, h3, h4, h5⟩ := h2
  obtain ⟨A, cap, rfl, hc, hR⟩ := RecsIn.own h3
  exact ⟨A, cap, he, hc, hR, ⟨Nat.le_trans h0 h5.size, vp, _, h4⟩, h5.below h0 fun k hk => by subst hk; exact h1.base⟩
def New1 (w W : World) (node : Nat) (rec : List (List Nat)) (e : Ending) (w' : World) : Prop := e = .returned (monH W.heap.size) ∧ MonG w' W.heap.size W.heap.size node rec (Mon.start rec.length) ∧ Below w.heap.size w w'
/-- New of partitions that were just laid. -/
theorem hnew1 {w W : World} (hb : Below w.heap.size w W) (A : Option Addr) (n cap : Nat) (l : List TableP.Part) (hl : l.length = n) (hn : n ≤ 255) (node : Nat) (hnode : node ≤ 255) (h : ItemsIn partVals 9 W A l) (rec : List (List Nat)) (hrec : l.map sayOf = rec) :
    Calls Tryd.prog 19 #[.int .i64 (node : Nat), .slice A n cap] W (New1 w W node rec) := by
  subst hrec
  refine (hnew_any W A n cap l hl hn node hnode h).mono fun e w' h2 => ?_
  obtain ⟨he, vp, h3, h4⟩ := h2
  exact ⟨he, ⟨h4.size, vp, _, h3⟩, hb.trans (h4.mono hb.size)⟩
/-- One partition, two partitions, just laid. -/
theorem parts_laid (w : World) (l : List TableP.Part) (vs : Array Value) (hvs : vs = (itemsV partVals l).toArray) (M : Nat) (hM : M = w.heap.size) : ItemsIn partVals 9 (w.alloc (.cells vs 50)) (some ⟨M, 0, none⟩) l := fun _ => by
  subst hvs hM
  refine ⟨w.heap.size, 0, rfl, by simp, fun i x hx j u hu => ?_⟩
  have hj : j < 9 := by have := (List.getElem?_eq_some_iff.1 hu).1; rw [partVals_len] at this; exact this
  have h1 := laid_at w 50 (itemsV partVals l) w.heap.size rfl (i * 9 + j) u (by rw [itemsV_at partVals_len l i x hx j hj]; exact hu)
  rw [addr_addB] at h1
  rw [Nat.add_assoc]
  exact h1

def HTrue (w : World) (e : Ending) (w' : World) : Prop := e = .returned (.bool true) ∧ Below w.heap.size w w'
def recA : List (List Nat) := [[0, 0, 1, 0]]
def monA1 : Mon := (reportT recA 1 (Mon.start 1) 4 0 2).2
def monA2 : Mon := (reportT recA 1 monA1 5 0 2).2
def monA3 : Mon := (reportT recA 1 monA2 6 0 2).2
theorem awakeA : (reportT recA 1 (Mon.start 1) 4 0 2).1 = (1, 0) ∧ (reportT recA 1 monA1 5 0 2).1 = (1, 0) ∧ (reportT recA 1 monA2 6 0 2).1 = (2, 0) ∧ monA3.out.length = 3 := by decide
set_option maxHeartbeats 2000000 in
theorem awake15_any (w : World) : Calls Tryd.prog 10 #[] w (HTrue w) := by
  have hp3 : place 3 = 3 := by decide
  have HW := Lib.hid (wrap_E 17 3 (.int .i64 10) w (by decide))
  rw [hp3] at HW
  have hb1 : Below w.heap.size w (w.alloc (.cells #[.int .i64 17, .int .i64 3, .iface 30 (.int .i64 10)] 82)) := (Below.refl _ _).alloc (Nat.le_refl _) _
  have HK : Hid (Calls Tryd.prog 15 #[.iface 80 (.pointer (some ⟨w.heap.size, 0, none⟩))] (w.alloc (.cells #[.int .i64 17, .int .i64 3, .iface 30 (.int .i64 10)] 82)) (fun e w' => e = .returned (.tuple #[.int .u8 3, .bool true]) ∧ Below w.heap.size w w')) := Lib.hid (by
    refine (hkind_any (w.heap.size + 1) [(w.heap.size, 17, 3)] (some 10) (w.alloc (.cells #[.int .i64 17, .int .i64 3, .iface 30 (.int .i64 10)] 82)) (by simp) (by simp) ⟨by omega, heap_alloc_new w _, trivial⟩).mono fun e w' h => ?_
    exact ⟨h.1, hb1.trans (h.2.mono hb1.size)⟩)
  have HN : Hid (∀ W, Below w.heap.size w W → ∀ vs, vs = (itemsV partVals [⟨0, 0, 0, 0, 0, 0, 0, 1, 0⟩]).toArray → ∀ M, M = W.heap.size → Calls Tryd.prog 19 #[.int .i64 1, .slice (some ⟨M, 0, none⟩) 1 1] (W.alloc (.cells vs 50)) (fun e w' => ∃ B, e = .returned (monH B) ∧ MonG w' B B 1 recA (Mon.start 1) ∧ w.heap.size ≤ B ∧ Below w.heap.size w w')) := Lib.hid fun W hW vs hvs M hM => by
    have hb : Below w.heap.size w (W.alloc (.cells vs 50)) := hW.alloc hW.size _
    refine (hnew1 hb _ 1 1 [⟨0, 0, 0, 0, 0, 0, 0, 1, 0⟩] rfl (by omega) 1 (by omega) (parts_laid W _ vs hvs M hM) recA rfl).mono fun e w' h => ?_
    exact ⟨_, h.1, h.2.1, hb.size, h.2.2⟩
  obtain ⟨q1, q2, q3, q4⟩ := awakeA
  have HR1 : Hid (∀ B W, MonG W B B 1 recA (Mon.start 1) → Calls Tryd.prog 24 #[monH B, .int .u32 4, .int .i64 0, .int .u8 2] W (fun e w' => e = .returned (.tuple #[.int .u8 1, .nilIface]) ∧ MonG w' B B 1 recA monA1 ∧ Below B W w')) := Lib.hid fun B W h => by
    refine (hrep1 h (by decide) 4 0 2).mono fun e w' h2 => ?_
    unfold Rep1 at h2
    rw [q1] at h2
    exact h2
  have HR2 : Hid (∀ B W, MonG W B B 1 recA monA1 → Calls Tryd.prog 24 #[monH B, .int .u32 5, .int .i64 0, .int .u8 2] W (fun e w' => e = .returned (.tuple #[.int .u8 1, .nilIface]) ∧ MonG w' B B 1 recA monA2 ∧ Below B W w')) := Lib.hid fun B W h => by
    refine (hrep1 h (by decide) 5 0 2).mono fun e w' h2 => ?_
    unfold Rep1 at h2
    rw [q2] at h2
    exact h2
  have HR3 : Hid (∀ B W, MonG W B B 1 recA monA2 → Calls Tryd.prog 24 #[monH B, .int .u32 6, .int .i64 0, .int .u8 2] W (fun e w' => e = .returned (.tuple #[.int .u8 2, .nilIface]) ∧ MonG w' B B 1 recA monA3 ∧ Below B W w')) := Lib.hid fun B W h => by
    refine (hrep1 h (by decide) 6 0 2).mono fun e w' h2 => ?_
    unfold Rep1 at h2
    rw [q3] at h2
    exact h2
  have HSe : Hid (∀ B W, MonG W B B 1 recA monA3 → Calls Tryd.prog 22 #[monH B] W (fun e w' => (∃ A cap, e = .returned (.slice A 3 cap)) ∧ Below B W w')) := Lib.hid fun B W h => by
    refine (hseal1 h).mono fun e w' h2 => ?_
    obtain ⟨A, cap, h3, -, -, -, h4⟩ := h2
    rw [q4] at h3
    exact ⟨⟨A, cap, h3⟩, h4⟩
  clear hb1 hp3 q1 q2 q3 q4
  generalize monA1 = m1 at *
  generalize monA2 = m2 at *
  generalize monA3 = m3 at *
  go_enter Tryd.func10, Tryd.ntmps10
  go_wp2_with fail
  refine HW.out.mono ?_
  rintro e w1 ⟨rfl, rfl⟩
  go_wp2_with fail
  refine HK.out.mono ?_
  rintro e w2 ⟨rfl, hb2⟩
  have HB2 := Lib.hid hb2
  clear hb2 HK HW
  go_wp2_with fail
  refine (HN.out w2 HB2.out _ rfl _ rfl).mono ?_
  rintro e w3 ⟨B, rfl, hg, hB, hb3⟩
  have HB3 := Lib.hid hb3
  have HBz := Lib.hid hB
  have HG3 := Lib.hid hg
  clear hb3 hB hg HN HB2
  unfold monH at *
  go_wp2_with fail
  refine (HR1.out B w3 HG3.out).mono ?_
  rintro e w4 ⟨rfl, hg, hb⟩
  have HG4 := Lib.hid hg
  have HB4 := Lib.hid (HB3.out.trans (hb.mono HBz.out))
  clear hg hb
  go_wp2_with fail
  refine (HR2.out B w4 HG4.out).mono ?_
  rintro e w5 ⟨rfl, hg, hb⟩
  have HG5 := Lib.hid hg
  have HB5 := Lib.hid (HB4.out.trans (hb.mono HBz.out))
  clear hg hb
  go_wp2_with fail
  refine (HR3.out B w5 HG5.out).mono ?_
  rintro e w6 ⟨rfl, hg, hb⟩
  have HG6 := Lib.hid hg
  have HB6 := Lib.hid (HB5.out.trans (hb.mono HBz.out))
  clear hg hb
  go_wp2_with fail
  refine (HSe.out B w6 HG6.out).mono ?_
  rintro e w7 ⟨⟨A, cap, rfl⟩, hb⟩
  have HB7 := Lib.hid (HB6.out.trans (hb.mono HBz.out))
  clear hb
  go_wp2_with fail
  go_ret
  exact ⟨rfl, HB7.out⟩
end Go.Proofs.YtabndibenffngaaDoor
