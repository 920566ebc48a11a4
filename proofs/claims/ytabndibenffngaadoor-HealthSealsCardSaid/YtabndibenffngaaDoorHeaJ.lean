/- HealthSeals: the walk of the law at ints in memory. Conditions: where the ints lie. -/
import Derived.Test.YtabndibenffngaaDoorHeaI
import Derived.BigQuiet
import Derived.WalkLawsBesides
namespace Go.Proofs.YtabndibenffngaaDoor
open Go.RowKit HeaP
set_option maxRecDepth 100000

def recZ : List (List Nat) := [[0, 0, 0, 0]]
/-- The kind that a number stands for. -/
def kindG (x : Int) : Nat := ((IntKind.u64.wrap x) % 4).toNat
theorem kindG_lt (x : Int) : kindG x < 4 := by unfold kindG; omega
theorem mod4_g (x : Int) : (IntKind.u64.wrap x).tmod 4 = (kindG x : Int) := by
  have h : 0 ≤ IntKind.u64.wrap x := by rw [IntKind.wrap_u64]; omega
  unfold kindG
  rw [Int.tmod_eq_emod_of_nonneg h]
  omega
def recK (ks : List Int) (i : Nat) : FrameP.Rec := ⟨i, 3, 0, kindG (ks.getD i 0), 0⟩
def recsK (ks : List Int) (k : Nat) : List FrameP.Rec := (List.range k).map (recK ks)
theorem recsK_len (ks : List Int) (k : Nat) : (recsK ks k).length = k := by simp [recsK]
theorem recsK_snoc (ks : List Int) (k : Nat) : recsK ks (k + 1) = recsK ks k ++ [recK ks k] := by simp [recsK, List.range_succ]
theorem recsK_at {ks : List Int} {k i : Nat} (h : i < k) : (recsK ks k)[i]? = some (recK ks i) := by
  unfold recsK
  rw [List.getElem?_map, List.getElem?_range h]
  rfl
theorem recZ_of (k : Nat) : recOf recZ 0 k = 0 := by
  unfold recOf recZ
  match k with
  | 0 => rfl
  | 1 => rfl
  | 2 => rfl
  | 3 => rfl
  | k + 4 => rfl
/-- A report that is ignored. -/
def IgnH (W : World) (B r k : Nat) (m : Mon) (e : Ending) (w' : World) : Prop :=
  e = .returned (.tuple #[.int .u8 0, .nilIface]) ∧ (∃ m', MonG w' B B 3 recZ m' ∧ m'.out = noteT 3 r 0 k 0 m.out) ∧ Below B W w'
theorem hign_rep {W : World} {B : Nat} {m : Mon} (h : MonG W B B 3 recZ m) {r k : Nat} (hr : r < 1048576) (hk : k ≤ 3) :
    Calls Tryd.prog 24 #[monH B, .int .u32 (r : Nat), .int .i64 0, .int .u8 (k : Nat)] W (IgnH W B r k m) := by
  refine (hrep1 h (by decide) r ((0 : Nat) : Int) k).mono fun e w' h2 => ?_
  obtain ⟨he, hg, hb⟩ := h2
  have hrep := report_ok (recover := recZ) (node := 3) (m := m) (p := 0) (k := k) (by decide) hk hr
  have hdid : didT recZ m r 0 k = 0 := by unfold didT; rw [recZ_of, if_neg (by omega)]
  rw [hrep] at he hg
  refine ⟨by rw [he, hdid]; rfl, ⟨_, hg, ?_⟩, hb⟩
  rw [next_out, hdid]

def SeaR (w : World) (B n : Nat) (ks : List Int) (vi : Value) (W : World) : Prop := ∃ k m, k ≤ n ∧ k ≤ 30 ∧ vi = .int .i64 (k : Nat) ∧ MonG W B B 3 recZ m ∧ m.out = (recsK ks k).take 4 ∧ Below w.heap.size w W
def SeaR2 (w : World) (B N q : Nat) (m : Mon) (A : Option Addr) (rs : List FrameP.Rec) (vi : Value) (W : World) : Prop := ∃ i, i ≤ q ∧ vi = .int .i64 (i : Nat) ∧ MonG W B B 3 recZ (sealM m) ∧ RecsIn W A rs ∧ Below w.heap.size w W ∧ N ≤ W.heap.size

set_option maxHeartbeats 4000000 in
theorem hseals_law (A : Option Addr) (n cap : Nat) (ks : List Int) (hl : ks.length = n) (hn : n * 8 ≤ 140737488355328) (w : World) (h : IntsIn w A ks) :
    Calls Tryd.prog 7 #[.slice A n cap] w (HTrue w) := by
  have HW := Lib.hid (awake15_any w)
  have HI := Lib.hid h
  have Hl := Lib.hid hl
  have HN : Hid (∀ W, Below w.heap.size w W → ∀ vs, vs = (itemsV partVals [⟨0, 0, 0, 0, 0, 0, 0, 0, 0⟩]).toArray → ∀ M, M = W.heap.size → Calls Tryd.prog 19 #[.int .i64 3, .slice (some ⟨M, 0, none⟩) 1 1] (W.alloc (.cells vs 50)) (fun e w' => ∃ B, e = .returned (monH B) ∧ MonG w' B B 3 recZ (Mon.start 1) ∧ w.heap.size ≤ B ∧ Below w.heap.size w w')) := Lib.hid fun W hW vs hvs M hM => by
    have hb : Below w.heap.size w (W.alloc (.cells vs 50)) := hW.alloc hW.size _
    refine (hnew1 hb _ 1 1 [⟨0, 0, 0, 0, 0, 0, 0, 0, 0⟩] rfl (by omega) 3 (by omega) (parts_laid W _ vs hvs M hM) recZ rfl).mono fun e w' h => ?_
    exact ⟨_, h.1, h.2.1, hb.size, h.2.2⟩
  clear h hl
  go_enter Tryd.func7, Tryd.ntmps7
  go_wp2_with fail
  refine HW.out.mono ?_
  rintro e w1 ⟨rfl, hb1⟩
  have HB1 := Lib.hid hb1
  clear hb1 HW
  go_wp2_with fail
  refine (HN.out w1 HB1.out _ rfl _ rfl).mono ?_
  rintro e w2 ⟨B, rfl, hg, hB, hb2⟩
  have HBz := Lib.hid hB
  have HS0 : Hid (SeaR w B n ks (.int .i64 0) w2) := Lib.hid ⟨0, _, Nat.zero_le _, by omega, rfl, hg, rfl, hb2⟩
  clear hg hB hb2 HN HB1
  unfold monH
  go_wp2_with fail
  go_loopw [4] (SeaR w B n ks) (fun i _ => (n + 1 - intOf i).toNat)
  case atStart => exact HS0.out
  case round =>
    clear HS0
    obtain ⟨k, m, hk, hk30, rfl, hg, hout, hb⟩ := hrel
    have HG := Lib.hid hg
    have HB := Lib.hid hb
    have HO := Lib.hid hout
    clear hg hb hout
    by_cases hlt : k < n ∧ k < 30
    case pos =>
      obtain ⟨hlt, h30⟩ := hlt
      obtain ⟨x, hx⟩ : ∃ x, ks[k]? = some x := ⟨_, List.getElem?_eq_getElem (by rw [Hl.out]; exact hlt)⟩
      obtain ⟨b, off, rfl, hbl, hc⟩ := (HI.out.below HB.out) (by rw [Hl.out]; omega)
      have c0 := hc k x hx
      have hgm := mod4_g x
      have hgl := kindG_lt x
      have hgw : IntKind.u8.wrap (kindG x : Int) = (kindG x : Int) := by rw [IntKind.wrap_u8]; omega
      have hkw : IntKind.u32.wrap (k : Int) = (k : Int) := by rw [IntKind.wrap_u32]; omega
      have HR := Lib.hid (hign_rep HG.out (r := k) (k := kindG x) (by omega) (by omega))
      have HNext : Hid (∀ w', (∃ m', MonG w' B B 3 recZ m' ∧ m'.out = noteT 3 k 0 (kindG x) 0 m.out) → Below B wr w' → SeaR w B n ks (.int .i64 ((k : Int) + 1)) w') := Lib.hid fun w' ⟨m', h1, h2⟩ h3 => by
        refine ⟨k + 1, m', by omega, by omega, by go_num, h1, ?_, HB.out.trans (h3.mono HBz.out)⟩
        rw [h2, HO.out, note_take, recsK_snoc]
        have e : ks.getD k 0 = x := by rw [List.getD_eq_getElem?_getD, hx]; rfl
        unfold recK
        rw [e]
      clear hc hx hbl
      generalize kindG x = g at *
      unfold monH at HR
      go_wp2_with fail
      refine HR.out.mono ?_
      rintro e w3 ⟨rfl, h3, h4⟩
      have HF := Lib.hid (HNext.out w3 h3 h4)
      clear h3 h4 HNext
      go_wp2_with fail
      go_roundw
      case rel => exact HF.out
      case measure => simp [intOf] <;> omega
    -- behind the reports
    have hq : m.out.length = min k 4 := by rw [HO.out, List.length_take, recsK_len]; omega
    have hmk : k = min n 30 := by omega
    have HSe := Lib.hid (hseal1 HG.out)
    have HRec : Hid (∀ i, i < min k 4 → m.out[i]? = some (recK ks i)) := Lib.hid fun i hi => by
      rw [HO.out, List.getElem?_take, if_pos (by omega), recsK_at (by omega)]
    have HG1 : Hid (∀ W, MonG W B B 3 recZ (sealM m) → Calls Tryd.prog 22 #[monH B] W (fun e w' => (∃ A2 c2, e = .returned (.slice A2 0 c2)) ∧ (∃ m', MonG w' B B 3 recZ m' ∧ m'.out = []) ∧ Below B W w')) := Lib.hid fun W h => (hseal1 h).mono fun e w' ⟨A2, c2, h1, _, _, h3, h4⟩ => ⟨⟨A2, c2, h1⟩, ⟨_, h3, rfl⟩, h4⟩
    have HG2 : Hid (∀ W m', MonG W B B 3 recZ m' → m'.out = [] → Calls Tryd.prog 24 #[monH B, .int .u32 9, .int .i64 0, .int .u8 0] W (fun e w' => e = .returned (.tuple #[.int .u8 0, .nilIface]) ∧ (∃ m', MonG w' B B 3 recZ m' ∧ m'.out.length = 1) ∧ Below B W w')) := Lib.hid fun W m' h h0 => (hign_rep h (r := 9) (k := 0) (by omega) (by omega)).mono fun e w' ⟨h1, ⟨m2, h2, h3⟩, h4⟩ => ⟨h1, ⟨m2, h2, by rw [h3, h0]; rfl⟩, h4⟩
    have HG3 : Hid (∀ W m', MonG W B B 3 recZ m' → m'.out.length = 1 → Calls Tryd.prog 22 #[monH B] W (fun e w' => (∃ A2 c2, e = .returned (.slice A2 1 c2)) ∧ Below B W w')) := Lib.hid fun W m' h h0 => (hseal1 h).mono fun e w' ⟨A2, c2, h1, _, _, _, h4⟩ => ⟨⟨A2, c2, by rw [← h0]; exact h1⟩, h4⟩
    obtain ⟨q, hqq⟩ : ∃ q, q = min k 4 := ⟨_, rfl⟩
    rw [← hqq] at hq HRec
    have hq4 : q = min (min n 30) 4 := by rw [hqq, hmk]
    have HQ4 := Lib.hid hq4
    have Hq := Lib.hid hq
    have hqn : q ≤ n := by omega
    have hq44 : q ≤ 4 := by omega
    have hend : k = 30 ∧ k < n ∨ n = k := by omega
    clear HO hqq hmk hq hq4 hlt
    unfold monH at *
    rcases hend with ⟨e30, hkn⟩ | hkn
    · subst e30
      go_wp2_with fail
      refine HSe.out.mono ?_
      rintro e w3 ⟨A2, c2, rfl, -, hR, hg3, hb3⟩
      have HS2 : Hid (SeaR2 w B w3.heap.size q m A2 m.out (.int .i64 0) w3) := Lib.hid ⟨0, Nat.zero_le _, rfl, hg3, hR, HB.out.trans (hb3.mono HBz.out), Nat.le_refl _⟩
      rw [Hq.out]
      clear hR hg3 hb3 HSe HG HB
      go_wp2_with fail
      go_loopw [46] (SeaR2 w B w3.heap.size q m A2 m.out) (fun i _ => (n + 1 - intOf i).toNat)
      case atStart => exact HS2.out
      case round =>
        clear HS2
        obtain ⟨i, hi, rfl, hg, hR, hb, hN3⟩ := hrel
        have HR := Lib.hid hR
        have HG := Lib.hid hg
        have HB2 := Lib.hid hb
        clear hg hR hb
        by_cases hi2 : i < q
        · obtain ⟨b, off, rfl, hbl, hat⟩ := HR.out (by rw [Hq.out]; omega)
          have hri := HRec.out i hi2
          obtain ⟨x, hx⟩ : ∃ x, ks[i]? = some x := ⟨_, List.getElem?_eq_getElem (by rw [Hl.out]; omega)⟩
          have hrx : recK ks i = ⟨i, 3, 0, kindG x, 0⟩ := by
            unfold recK
            rw [List.getD_eq_getElem?_getD, hx]; rfl
          rw [hrx] at hri
          obtain ⟨r0, r1, r2, r3, r4⟩ := hat i _ hri
          have j0 : wr.cell? ⟨b, off + i * 5, none⟩ = some (.int .u32 (i : Nat)) := r0
          have j1 : wr.cell? ⟨b, off + i * 5 + 1, none⟩ = some (.int .u8 3) := r1
          have j2 : wr.cell? ⟨b, off + i * 5 + 2, none⟩ = some (.int .u8 0) := r2
          have j3 : wr.cell? ⟨b, off + i * 5 + 3, none⟩ = some (.int .u8 (kindG x : Nat)) := r3
          have j4 : wr.cell? ⟨b, off + i * 5 + 4, none⟩ = some (.int .u8 0) := r4
          obtain ⟨b6, off6, rfl, hbl6, hc⟩ := (HI.out.below HB2.out) (by rw [Hl.out]; omega)
          have c0 : ∀ o : Obj, (wr.alloc o).cell? ⟨b6, off6 + i, none⟩ = some (.int .i64 x) := fun o => (World.cell?_alloc_lt _ _ _ hbl6).trans (hc i x hx)
          have hgm := mod4_g x
          have hgl := kindG_lt x
          have hgw : IntKind.u8.wrap (kindG x : Int) = (kindG x : Int) := by rw [IntKind.wrap_u8]; omega
          have hiw : IntKind.u32.wrap (i : Int) = (i : Int) := by rw [IntKind.wrap_u32]; omega
          have HNext : Hid (∀ (o : Obj) (nq : Nat), SeaR2 w B w3.heap.size q m (some ⟨b, off, none⟩) m.out (.int .i64 ((i : Int) + 1)) ((wr.alloc o).drewN nq)) := Lib.hid fun o nq => ⟨i + 1, by omega, by go_num, HG.out.keep (below_drewNc ((Below.refl _ _).alloc (Nat.le_refl _) _) nq), HR.out.below (below_drewNc ((Below.refl _ _).alloc (Nat.le_refl _) _) nq), below_drewNc (HB2.out.alloc HB2.out.size _) nq, Nat.le_trans hN3 (by simp)⟩
          clear hat hri hrx r0 r1 r2 r3 r4 hc hx hbl hbl6
          generalize kindG x = g at *
          go_wp2_with fail
          go_quiet (fail)
          go_wp2_with fail
          go_roundw
          case rel => exact HNext.out _ _
          case measure => simp [intOf] <;> omega
        · have eiq : q = i := by omega
          subst eiq
          clear hi2
          go_wp2_with fail
          refine (HG1.out _ HG.out).mono ?_
          rintro e w4 ⟨⟨A4, c4, rfl⟩, ⟨m4, hg4, ho4⟩, hb4⟩
          have HB4 := Lib.hid (HB2.out.trans (hb4.mono HBz.out))
          have HX4 := Lib.hid (HG2.out w4 m4 hg4 ho4)
          clear hb4 hg4 ho4
          go_wp2_with fail
          refine HX4.out.mono ?_
          rintro e w5 ⟨rfl, ⟨m5, hg5, ho5⟩, hb5⟩
          have HB5 := Lib.hid (HB4.out.trans (hb5.mono HBz.out))
          have HX5 := Lib.hid (HG3.out w5 m5 hg5 ho5)
          clear hb5 hg5 ho5
          have hmin : (if (4 : Int) < (if 30 < n then (30 : Int) else (n : Int)) then (4 : Int) else (if 30 < n then (30 : Int) else (n : Int))) = (q : Int) := by
            have := HQ4.out
            by_cases h1 : 30 < n
            · rw [if_pos h1, if_pos (by omega)]; omega
            · rw [if_neg h1]
              by_cases h2 : (4 : Int) < (n : Int)
              · rw [if_pos h2]; omega
              · rw [if_neg h2]; omega
          go_wp2_with fail
          all_goals
            refine HX5.out.mono ?_
            rintro e w6 ⟨⟨A6, c6, rfl⟩, hb6⟩
            have HB6 := Lib.hid (HB5.out.trans (hb6.mono HBz.out))
            clear hb6
            go_wp2_with fail
            go_ret
            exact ⟨rfl, HB6.out⟩
    · subst hkn
      clear hk30 hk
      go_wp2_with fail
      refine HSe.out.mono ?_
      rintro e w3 ⟨A2, c2, rfl, -, hR, hg3, hb3⟩
      have HS2 : Hid (SeaR2 w B w3.heap.size q m A2 m.out (.int .i64 0) w3) := Lib.hid ⟨0, Nat.zero_le _, rfl, hg3, hR, HB.out.trans (hb3.mono HBz.out), Nat.le_refl _⟩
      rw [Hq.out]
      clear hR hg3 hb3 HSe HG HB
      go_wp2_with fail
      go_loopw [46] (SeaR2 w B w3.heap.size q m A2 m.out) (fun i _ => (n + 1 - intOf i).toNat)
      case atStart => exact HS2.out
      case round =>
        clear HS2
        obtain ⟨i, hi, rfl, hg, hR, hb, hN3⟩ := hrel
        have HR := Lib.hid hR
        have HG := Lib.hid hg
        have HB2 := Lib.hid hb
        clear hg hR hb
        by_cases hi2 : i < q
        · obtain ⟨b, off, rfl, hbl, hat⟩ := HR.out (by rw [Hq.out]; omega)
          have hri := HRec.out i hi2
          obtain ⟨x, hx⟩ : ∃ x, ks[i]? = some x := ⟨_, List.getElem?_eq_getElem (by rw [Hl.out]; omega)⟩
          have hrx : recK ks i = ⟨i, 3, 0, kindG x, 0⟩ := by
            unfold recK
            rw [List.getD_eq_getElem?_getD, hx]; rfl
          rw [hrx] at hri
          obtain ⟨r0, r1, r2, r3, r4⟩ := hat i _ hri
          have j0 : wr.cell? ⟨b, off + i * 5, none⟩ = some (.int .u32 (i : Nat)) := r0
          have j1 : wr.cell? ⟨b, off + i * 5 + 1, none⟩ = some (.int .u8 3) := r1
          have j2 : wr.cell? ⟨b, off + i * 5 + 2, none⟩ = some (.int .u8 0) := r2
          have j3 : wr.cell? ⟨b, off + i * 5 + 3, none⟩ = some (.int .u8 (kindG x : Nat)) := r3
          have j4 : wr.cell? ⟨b, off + i * 5 + 4, none⟩ = some (.int .u8 0) := r4
          obtain ⟨b6, off6, rfl, hbl6, hc⟩ := (HI.out.below HB2.out) (by rw [Hl.out]; omega)
          have c0 : ∀ o : Obj, (wr.alloc o).cell? ⟨b6, off6 + i, none⟩ = some (.int .i64 x) := fun o => (World.cell?_alloc_lt _ _ _ hbl6).trans (hc i x hx)
          have hgm := mod4_g x
          have hgl := kindG_lt x
          have hgw : IntKind.u8.wrap (kindG x : Int) = (kindG x : Int) := by rw [IntKind.wrap_u8]; omega
          have hiw : IntKind.u32.wrap (i : Int) = (i : Int) := by rw [IntKind.wrap_u32]; omega
          have HNext : Hid (∀ (o : Obj) (nq : Nat), SeaR2 w B w3.heap.size q m (some ⟨b, off, none⟩) m.out (.int .i64 ((i : Int) + 1)) ((wr.alloc o).drewN nq)) := Lib.hid fun o nq => ⟨i + 1, by omega, by go_num, HG.out.keep (below_drewNc ((Below.refl _ _).alloc (Nat.le_refl _) _) nq), HR.out.below (below_drewNc ((Below.refl _ _).alloc (Nat.le_refl _) _) nq), below_drewNc (HB2.out.alloc HB2.out.size _) nq, Nat.le_trans hN3 (by simp)⟩
          clear hat hri hrx r0 r1 r2 r3 r4 hc hx hbl hbl6
          generalize kindG x = g at *
          go_wp2_with fail
          go_quiet (fail)
          go_wp2_with fail
          go_roundw
          case rel => exact HNext.out _ _
          case measure => simp [intOf] <;> omega
        · have eiq : q = i := by omega
          subst eiq
          clear hi2
          go_wp2_with fail
          refine (HG1.out _ HG.out).mono ?_
          rintro e w4 ⟨⟨A4, c4, rfl⟩, ⟨m4, hg4, ho4⟩, hb4⟩
          have HB4 := Lib.hid (HB2.out.trans (hb4.mono HBz.out))
          have HX4 := Lib.hid (HG2.out w4 m4 hg4 ho4)
          clear hb4 hg4 ho4
          go_wp2_with fail
          refine HX4.out.mono ?_
          rintro e w5 ⟨rfl, ⟨m5, hg5, ho5⟩, hb5⟩
          have HB5 := Lib.hid (HB4.out.trans (hb5.mono HBz.out))
          have HX5 := Lib.hid (HG3.out w5 m5 hg5 ho5)
          clear hb5 hg5 ho5
          have hmin : (if (4 : Int) < (if 30 < n then (30 : Int) else (n : Int)) then (4 : Int) else (if 30 < n then (30 : Int) else (n : Int))) = (q : Int) := by
            have := HQ4.out
            by_cases h1 : 30 < n
            · rw [if_pos h1, if_pos (by omega)]; omega
            · rw [if_neg h1]
              by_cases h2 : (4 : Int) < (n : Int)
              · rw [if_pos h2]; omega
              · rw [if_neg h2]; omega
          go_wp2_with fail
          all_goals
            refine HX5.out.mono ?_
            rintro e w6 ⟨⟨A6, c6, rfl⟩, hb6⟩
            have HB6 := Lib.hid (HB5.out.trans (hb6.mono HBz.out))
            clear hb6
            go_wp2_with fail
            go_ret
            exact ⟨rfl, HB6.out⟩
end Go.Proofs.YtabndibenffngaaDoor
