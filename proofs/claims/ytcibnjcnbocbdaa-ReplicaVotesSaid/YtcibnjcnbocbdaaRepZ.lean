/- ReplicaVotes: the walk of the law. Conditions: where the commands lie. -/
import Derived.Test.YtcibnjcnbocbdaaRepZb
import Derived.Deep.DeepCutAuto
namespace Go.Proofs.Ytcibnjcnbocbdaa
open Go.RowKit RepP Go.Maps
set_option maxRecDepth 100000

def VotR (w : World) (B n key : Nat) (v7 v8 i : Value) (W : World) : Prop := ∃ k ts, k ≤ n ∧ k ≤ 8 ∧ List.length (α := Nat × T × Nat) ts = k ∧ i = .int .i64 (k : Nat) ∧ VotS W B ts v7 v8 key ∧ Below w.heap.size w W
def VotI (w : World) (B r : Nat) (ts : List (Nat × T × Nat)) (b : Nat) (v7 v8 : Value) (key n base : Nat) (i : Value) (W : World) : Prop := ∃ j t p q, j ≤ n ∧ j ≤ 50 ∧ p ≤ base + j ∧ q ≤ base + j ∧ i = .int .i64 (j : Nat) ∧ VotX W B r ts b t p t q v7 v8 key ∧ Below w.heap.size w W
/-- What the law has found behind a of them. -/
def VotF (os : List (Option Nat)) (w0 : World) (v14 v15 i : Value) (W : World) : Prop := ∃ a m, a ≤ os.length ∧ i = .int .i64 (a : Nat) ∧ v15 = .bool (foundT os a).isSome ∧ v14 = .int .i64 ((foundT os a).getD 0 : Nat) ∧ W = w0.drewN m
/-- How many it has counted. -/
def VotC (os : List (Option Nat)) (x : Int) (w0 : World) (v17 i : Value) (W : World) : Prop := ∃ c m, c ≤ os.length ∧ i = .int .i64 (c : Nat) ∧ v17 = .int .i64 (cntI (os.take c) x : Nat) ∧ W = w0.drewN m
theorem vals_cell {W : World} {B N cap : Nat} {A : Option Addr} {ts : List (Nat × T × Nat)} {key : Nat} (h : W.ownsRow B 3 1 (.slice A N cap) N (itemsV valVals (osT ts key))) (hN : N = (osT ts key).length) : ItemsIn valVals 1 W A (osT ts key) := by
  subst hN
  obtain ⟨A', cap', e, -, h1⟩ := ItemsIn.own (vals := valVals) valVals_len h
  cases e
  exact h1
theorem ptrs_cell {W : World} {B N cap : Nat} {A : Option Addr} {ts : List (Nat × T × Nat)} (h : W.ownsRow B 24 1 (.slice A N cap) N (itemsV ptrVals (bsT ts))) (hN : N = (bsT ts).length) : ItemsIn ptrVals 1 W A (bsT ts) := by
  subst hN
  obtain ⟨A', cap', e, -, h1⟩ := ItemsIn.own (vals := ptrVals) ptrVals_len h
  cases e
  exact h1

set_option maxHeartbeats 4000000 in
theorem votes_law (A0 : Option Addr) (n0 cap0 : Nat) (l0 : List Cmd) (hl0 : l0.length = n0) (A1 : Option Addr) (n1 cap1 : Nat) (l1 : List CmdL) (hl1 : l1.length = n1) (key : Nat) (hkey : key ≤ 255) (w : World) (h0 : CmdsIn w A0 l0) (hn0 : n0 * 6 ≤ 140737488355328) (h1 : CmdLsIn w A1 l1) (hn1 : n1 ≤ 17592186044416) :
    Calls Try.prog 5 #[.slice A0 n0 cap0, .slice A1 n1 cap1, .int .u8 (key : Nat)] w (Tru14 w) := by
  have HW := Lib.hid (awake14_any w)
  have HN := Lib.hid (fun W => rnew_any W)
  have HI0 := Lib.hid h0
  have HI1 := Lib.hid h1
  have Hl0 := Lib.hid hl0
  have Hl1 := Lib.hid hl1
  clear h0 h1 hl0 hl1
  go_enter Try.func5, Try.ntmps5
  go_wp2_with fail
  refine HW.out.mono ?_
  rintro e w1 ⟨rfl, hb1⟩
  have HBz := Lib.hid hb1.size
  have HS0 : Hid (VotR w w1.heap.size n1 key (.slice none 0 0) (.slice none 0 0) (.int .i64 0) w1) := Lib.hid ⟨0, [], Nat.zero_le _, by omega, rfl, rfl, VotS.start w1 key, hb1⟩
  clear hb1 HW
  generalize w1.heap.size = B at *
  go_wp2_with fail
  go_loopw [7, 8, 9] (VotR w B n1 key) (fun _ _ i _ => (9 - intOf i).toNat)
  case atStart => exact HS0.out
  case round =>
    clear HS0
    obtain ⟨k, ts, hk, hk8, hts, rfl, hS, hb⟩ := hrel
    have HS := Lib.hid hS
    have Hb := Lib.hid hb
    have Hts := Lib.hid hts
    clear hS hb hts
    go_upto_region 6 with (fail)
    go_cut [30] (fun c wx => c = .bool (decide (k < n1 ∧ k < 8)) ∧ wx = wr)
    case first =>
      by_cases hkn : k < n1
      · by_cases h8 : k < 8
        · have q1 : (k : Int) < (n1 : Int) := by omega
          have q2 : (k : Int) < 8 := by omega
          have HD := Lib.hid (decide_eq_true (p := k < n1 ∧ k < 8) ⟨hkn, h8⟩)
          clear hkn h8 hk hk8
          go_wp2_with fail
          go_meet
          exact ⟨by rw [HD.out], rfl⟩
        · have q1 : (k : Int) < (n1 : Int) := by omega
          have q2 : ¬ ((k : Int) < 8) := by omega
          have HD := Lib.hid (decide_eq_false (p := k < n1 ∧ k < 8) (by omega))
          clear hkn h8 hk hk8
          go_wp2_with fail
          go_meet
          exact ⟨by rw [HD.out], rfl⟩
      · have q1 : ¬ ((k : Int) < (n1 : Int)) := by omega
        have HD := Lib.hid (decide_eq_false (p := k < n1 ∧ k < 8) (by omega))
        clear hkn hk hk8
        go_wp2_with fail
        go_meet
        exact ⟨by rw [HD.out], rfl⟩
    case rest =>
      obtain ⟨rfl, rfl⟩ := hcut
      by_cases hc : k < n1 ∧ k < 8
      case neg =>
        have hd : decide (k < n1 ∧ k < 8) = false := decide_eq_false hc
        rw [hd]
        obtain ⟨A7, c7, rfl, -⟩ := own_slice HS.out.all
        obtain ⟨A8, c8, rfl, -⟩ := own_slice HS.out.vals
        have hlo : (osT ts key).length = ts.length := by unfold osT; rw [List.length_map]
        have hlb : (bsT ts).length = ts.length := by unfold bsT; rw [List.length_map]
        have hN8 : ts.length ≤ 8 := by rw [Hts.out]; exact hk8
        have HV := Lib.hid (vals_cell HS.out.vals hlo.symm)
        have HVo : Hid (∀ m, Calls Try.prog 19 #[.slice A7 ts.length c7, .int .u8 (key : Nat)] (wc.drewN m) (VteP (voteT (osT ts key)) (wc.drewN m))) := Lib.hid fun m => vote_any _ B ts (HS.out.tabs.drewN m) A7 ts.length c7 rfl (by omega) ((ptrs_cell HS.out.all hlb.symm).drewN m) key hkey
        have HF : Hid (∀ W, Below wc.heap.size wc W → Tru14 w (.returned (.bool true)) W) := Lib.hid fun W h => ⟨rfl, Hb.out.trans (h.mono Hb.out.size)⟩
        have HV0 : Hid (VotF (osT ts key) wc (.int .i64 0) (.bool false) (.int .i64 0) wc) := Lib.hid ⟨0, 0, Nat.zero_le _, rfl, rfl, rfl, rfl⟩
        have HR17 : Hid (∀ W, Calls Try.prog 12 #[.iface 60 (.int .i64 17)] W (TxtP14 17 W)) := Lib.hid fun W => rread_any 17 (by omega) W
        have HE17 : Hid (∀ W, Calls Try.prog 18 #[.int .i64 17] W (TxtP14 17 W)) := Lib.hid fun W => rcmdE 17 (by omega) (by omega) W
        have hvl : ∀ v, voteT (osT ts key) = some v → v < 65536 := fun v hv => by
          obtain ⟨h1, -⟩ := vote_some hv
          obtain ⟨x, hx, e⟩ := List.mem_map.1 h1
          obtain ⟨i, hi⟩ := List.getElem?_of_mem hx
          exact val_lt HS.out.tabs (i := i) (b := x.1) (n := x.2.2) (t := x.2.1) hi e
        have HVL := Lib.hid hvl
        have Hlo := Lib.hid hlo
        generalize osT ts key = os at *
        generalize ts.length = N at *
        clear hd hc HS Hb HI0 HI1 Hl0 Hl1 HN hlo hlb hvl hk hk8 Hts
        go_wp2_with fail
        go_loopw [14, 15, 118] (VotF os wc) (fun _ _ i _ => (9 - intOf i).toNat)
        case atStart => exact HV0.out
        case round =>
          clear HV0
          obtain ⟨a, m, ha, rfl, rfl, rfl, rfl⟩ := hrel
          rw [Hlo.out] at ha
          by_cases haN : a < N
          case neg =>
            obtain rfl : a = N := by omega
            have hfa : foundT os a = voteT os := by rw [← Hlo.out]; exact found_all os
            rw [hfa]
            have HVw := Lib.hid (HVo.out m)
            have HFw : Hid (∀ W, Below (wc.drewN m).heap.size (wc.drewN m) W → Tru14 w (.returned (.bool true)) W) := Lib.hid fun W h => HF.out W ((below_drewNc (Below.refl _ _) m).trans h)
            have q1 : ¬ ((a : Int) < (a : Int)) := by omega
            clear HVo HF HV Hlo hfa ha haN
            have hv6 := HVL.out
            generalize voteT os = ov at *
            generalize wc.drewN m = wd at *
            unfold VteP askV at HVw
            cases ov with
            | none =>
              simp only [Option.getD_none, Option.isSome_none, errN] at HVw ⊢
              clear hv6 HVL
              go_wp2_with fail
              refine HVw.out.mono ?_
              rintro e w2 ⟨rfl, hb2⟩
              have HB2 := Lib.hid hb2
              clear hb2 HVw
              go_wp2_with fail
              refine (HR17.out _).mono ?_
              rintro e w3 ⟨rfl, hb3⟩
              have HB3 := Lib.hid (HB2.out.trans (hb3.mono HB2.out.size))
              clear hb3 HB2
              go_wp2_with fail
              refine (HE17.out _).mono ?_
              rintro e w4 ⟨rfl, hb4⟩
              have HFx := Lib.hid (HFw.out _ (HB3.out.trans (hb4.mono HB3.out.size)))
              clear hb4 HB3 HFw
              unfold strV
              go_wp2_with fail
              go_ret
              exact HFx.out
            | some v =>
              simp only [Option.getD_some, Option.isSome_some, errN] at HVw ⊢
              have hv := hv6 v rfl
              have e8 : IntKind.i64.wrap (v : Int) = (v : Int) := IntWalk.i64_in _ (by omega)
              clear hv6 HVL
              go_wp2_with fail
              refine HVw.out.mono ?_
              rintro e w2 ⟨rfl, hb2⟩
              have HFx := Lib.hid (HFw.out _ hb2)
              clear hb2 HVw HFw
              go_wp2_with fail
              go_ret
              exact HFx.out
          obtain ⟨o, hx⟩ : ∃ o, os[a]? = some o := ⟨_, List.getElem?_eq_getElem (by rw [Hlo.out]; exact haN)⟩
          obtain ⟨ba, oa, rfl, -, hci⟩ := HV.out (by rw [Hlo.out]; omega)
          have HCe : Hid (∀ i o, os[i]? = some o → ∀ m, (wc.drewN m).cell? ⟨ba, oa + i, none⟩ = some (.int .i64 (valI o))) := Lib.hid fun i o hi m => by
            have h1 := hci i o hi 0 _ rfl
            rw [Nat.mul_one, Nat.add_zero] at h1
            exact h1
          have q1 : (a : Int) < (N : Int) := by omega
          have e1 : IntKind.i64.wrap ((a : Int) + 1) = (a : Int) + 1 := IntWalk.i64_in _ (by omega)
          have HC0 : Hid (VotC os (valI o) wc (.int .i64 0) (.int .i64 0) (wc.drewN m)) := Lib.hid ⟨0, m, Nat.zero_le _, rfl, rfl, rfl⟩
          have HR : Hid (∀ m', VotF os wc (.int .i64 ((foundT os (a + 1)).getD 0 : Nat)) (.bool (foundT os (a + 1)).isSome) (.int .i64 ((a : Int) + 1)) (wc.drewN m')) := Lib.hid fun m' => ⟨a + 1, m', by rw [Hlo.out]; exact haN, by go_num, rfl, rfl, rfl⟩
          have HXa := Lib.hid hx
          clear hci hx ha haN HV HVo HF HR17 HE17 HVL
          go_wp2_with fail
          go_loopw [17, 123] (VotC os (valI o) wc) (fun _ i _ => (9 - intOf i).toNat)
          case atStart => exact HC0.out
          case round =>
            clear HC0
            obtain ⟨c, m', hc, rfl, rfl, rfl⟩ := hrel
            rw [Hlo.out] at hc
            by_cases hcN : c < N
            case neg =>
              obtain rfl : c = N := by omega
              have ka := HCe.out a o HXa.out m'
              have hcnt : cntI (os.take c) (valI o) ≤ 8 := Nat.le_trans (cntI_len _ _) (by rw [List.length_take]; omega)
              have hall : os.take c = os := by rw [← Hlo.out, List.take_length]
              rw [hall] at hcnt ⊢
              have q3 : ¬ ((c : Int) < (c : Int)) := by omega
              cases o with
              | none =>
                have hf := found_skip HXa.out
                rw [hf] at HR
                have HRw := Lib.hid (HR.out m')
                clear hf HR HCe HXa hall hcN hc Hlo
                simp only [valI] at ka hcnt ⊢
                generalize cntI os (-1) = cn at *
                generalize wc.drewN m' = wd at *
                go_wp2_with fail
                go_roundw
                case rel => exact HRw.out
                case measure => simp [intOf]; omega
              | some v =>
                have hf := found_at HXa.out
                rw [hf] at HR
                rw [Hlo.out] at HR
                have HRw := Lib.hid (HR.out m')
                clear hf HR HCe HXa hall hcN Hlo
                generalize hcn : cntI os (valI (some v)) = cn at *
                simp only [valI] at ka ⊢
                generalize wc.drewN m' = wd at *
                have e4 : IntKind.i64.wrap (2 * (cn : Int)) = 2 * (cn : Int) := IntWalk.i64_in _ (by omega)
                have q5 : (0 : Int) ≤ (v : Int) := by omega
                clear hcn hc
                by_cases hm : c < 2 * cn
                · have q4 : (c : Int) < 2 * (cn : Int) := by omega
                  rw [if_pos hm] at HRw
                  simp only [Option.getD_some, Option.isSome_some] at HRw
                  clear hm
                  go_wp2_with fail
                  go_roundw
                  case rel => exact HRw.out
                  case measure => simp [intOf]; omega
                · have q4 : ¬ ((c : Int) < 2 * (cn : Int)) := by omega
                  rw [if_neg hm] at HRw
                  clear hm
                  go_wp2_with fail
                  go_roundw
                  case rel => exact HRw.out
                  case measure => simp [intOf]; omega
            obtain ⟨o2, hx2⟩ : ∃ o2, os[c]? = some o2 := ⟨_, List.getElem?_eq_getElem (by rw [Hlo.out]; exact hcN)⟩
            have ka := HCe.out a o HXa.out m'
            have kc := HCe.out c o2 hx2 m'
            have hst := cntI_take (x := valI o) hx2
            have hcl : cntI (os.take c) (valI o) ≤ 8 := Nat.le_trans (cntI_len _ _) (by rw [List.length_take]; omega)
            have q3 : (c : Int) < (N : Int) := by omega
            have e3 : IntKind.i64.wrap ((c : Int) + 1) = (c : Int) + 1 := IntWalk.i64_in _ (by omega)
            have HCn : Hid (∀ y : Int, y = (cntI (os.take (c + 1)) (valI o) : Nat) → ∀ m'', VotC os (valI o) wc (.int .i64 y) (.int .i64 ((c : Int) + 1)) ((wc.drewN m').drewN m'')) := Lib.hid fun y hy m'' => ⟨c + 1, m' + m'', by rw [Hlo.out]; exact hcN, by go_num, by rw [hy], World.drewN_drewN _ _ _⟩
            rw [hst] at HCn
            clear hst hx2 HCe HXa hc hcN HR
            generalize cntI (os.take c) (valI o) = cn at *
            have e5 : IntKind.i64.wrap ((cn : Int) + 1) = (cn : Int) + 1 := IntWalk.i64_in _ (by omega)
            by_cases he : valI o2 = valI o
            · rw [if_pos he] at HCn
              have HCw := Lib.hid (HCn.out ((cn : Int) + 1) (by omega))
              rw [he] at kc
              clear he HCn
              generalize valI o = xo at *
              generalize wc.drewN m' = wd at *
              go_wp2_with fail
              go_quiet (fail)
              go_wp2_with fail
              go_roundw
              case rel => exact HCw.out _
              case measure => simp [intOf]; omega
            · rw [if_neg he] at HCn
              have HCw := Lib.hid (HCn.out (cn : Int) (by omega))
              clear HCn
              generalize valI o = xo at *
              generalize valI o2 = xo2 at *
              generalize wc.drewN m' = wd at *
              go_wp2_with fail
              go_quiet (fail)
              go_wp2_with fail
              go_roundw
              case rel => exact HCw.out _
              case measure => simp [intOf]; omega
      obtain ⟨hkn, h8⟩ := hc
      have hd : decide (k < n1 ∧ k < 8) = true := decide_eq_true ⟨hkn, h8⟩
      rw [hd]
      obtain ⟨lo, hlo⟩ : ∃ lo, l1[k]? = some lo := ⟨_, List.getElem?_eq_getElem (by rw [Hl1.out]; exact hkn)⟩
      obtain ⟨bo, oo, rfl, hbo, hco⟩ := HI1.out (by rw [Hl1.out]; omega)
      obtain ⟨hco1, hco2, hco3, hco4⟩ := hco k lo hlo
      obtain ⟨Ao, mo, co, lc⟩ := lo
      simp only at hco1 hco2 hco3 hco4
      have HOc : Hid (∀ W, Below w.heap.size w W → W.cell? ⟨bo, oo + k, none⟩ = some (.slice Ao mo co)) := Lib.hid fun W hW => (hW.cell (p := ⟨bo, oo + k, none⟩) hbo).trans hco1
      have HOl := Lib.hid hco2
      have HOi := Lib.hid hco4
      have qk : (k : Int) < (n1 : Int) := by omega
      have qk8 : (k : Int) < 8 := by omega
      have hmo : mo * 6 ≤ 140737488355328 := hco3
      clear hd hlo hco hco1 hco2 hco3 hco4 hkn hbo
      go_wp2_with fail
      refine (HN.out wc).mono ?_
      rintro e w3 hN
      have hX := HS.out.more hN
      have hb3 : Below w.heap.size w (w3.alloc (.cells #[.int .u16 0, .int .u16 0, .int .u16 0, .int .u16 0, .int .u16 0, .int .u16 0, .int .u16 0, .int .u16 0, .bool false, .bool false, .bool false, .bool false, .bool false, .bool false, .bool false, .bool false, .int .i64 0] 31)) := (Hb.out.trans (hN.2.2.1.mono Hb.out.size)).alloc (by have := hN.2.2.2; have := Hb.out.size; omega) _
      obtain ⟨rfl, -, -, -⟩ := hN
      have HJ0 : Hid (VotI w B w3.heap.size ts wc.heap.size u7 u8 key n0 0 (.int .i64 0) (w3.alloc (.cells #[.int .u16 0, .int .u16 0, .int .u16 0, .int .u16 0, .int .u16 0, .int .u16 0, .int .u16 0, .int .u16 0, .bool false, .bool false, .bool false, .bool false, .bool false, .bool false, .bool false, .bool false, .int .i64 0] 31))) := Lib.hid ⟨0, _, 0, 0, Nat.zero_le _, by omega, Nat.le_refl _, Nat.le_refl _, rfl, hX, hb3⟩
      clear hX hb3 HS Hb
      unfold repV
      generalize wc.heap.size = b at *
      go_wp2_with fail
      generalize w3.heap.size = r at *
      go_loopw [12] (VotI w B r ts b u7 u8 key n0 0) (fun i _ => (51 - intOf i).toNat)
      case atStart => exact HJ0.out
      case round =>
        clear HJ0
        obtain ⟨j, t, p, q, hj, hj50, hp, hq, rfl, hX, hb⟩ := hrel
        have HX := Lib.hid hX
        have Hb := Lib.hid hb
        clear hX hb
        go_upto_region 10 with (fail)
        go_cut [43] (fun c wx => c = .bool (decide (j < n0 ∧ j < 50)) ∧ wx = wr)
        case first =>
          by_cases hjn : j < n0
          · by_cases h5 : j < 50
            · have q1 : (j : Int) < (n0 : Int) := by omega
              have q2 : (j : Int) < 50 := by omega
              have HD := Lib.hid (decide_eq_true (p := j < n0 ∧ j < 50) ⟨hjn, h5⟩)
              clear hjn h5 hj hj50 hp hq
              go_wp2_with fail
              go_meet
              exact ⟨by rw [HD.out], rfl⟩
            · have q1 : (j : Int) < (n0 : Int) := by omega
              have q2 : ¬ ((j : Int) < 50) := by omega
              have HD := Lib.hid (decide_eq_false (p := j < n0 ∧ j < 50) (by omega))
              clear hjn h5 hj hj50 hp hq
              go_wp2_with fail
              go_meet
              exact ⟨by rw [HD.out], rfl⟩
          · have q1 : ¬ ((j : Int) < (n0 : Int)) := by omega
            have HD := Lib.hid (decide_eq_false (p := j < n0 ∧ j < 50) (by omega))
            clear hjn hj hj50 hp hq
            go_wp2_with fail
            go_meet
            exact ⟨by rw [HD.out], rfl⟩
        case rest =>
          obtain ⟨rfl, rfl⟩ := hcut
          by_cases hc : j < n0 ∧ j < 50
          case neg =>
            have hd : decide (j < n0 ∧ j < 50) = false := decide_eq_false hc
            rw [hd]
            have HJ1 : Hid (VotI w B r ts b u7 u8 key mo 50 (.int .i64 0) wc) := Lib.hid ⟨0, t, p, q, Nat.zero_le _, by omega, by omega, by omega, rfl, HX.out, Hb.out⟩
            clear hd hc HX Hb HI0 Hl0 hj hj50 hp hq
            go_wp2_with fail
            go_loopw [13] (VotI w B r ts b u7 u8 key mo 50) (fun i _ => (51 - intOf i).toNat)
            case atStart => exact HJ1.out
            case round =>
              clear HJ1
              obtain ⟨j, t, p, q, hj, hj50, hp, hq, rfl, hX, hb⟩ := hrel
              have ko : wr.cell? ⟨bo, oo + k, none⟩ = some (.slice Ao mo co) := HOc.out _ hb
              have HX := Lib.hid hX
              have Hb := Lib.hid hb
              clear hX hb
              go_upto_region 15 with (fail)
              go_cut [68] (fun c wx => c = .bool (decide (j < mo ∧ j < 50)) ∧ wx = wr)
              case first =>
                by_cases hjn : j < mo
                · by_cases h5 : j < 50
                  · have q1 : (j : Int) < (mo : Int) := by omega
                    have q2 : (j : Int) < 50 := by omega
                    have HD := Lib.hid (decide_eq_true (p := j < mo ∧ j < 50) ⟨hjn, h5⟩)
                    clear hjn h5 hj hj50 hp hq
                    go_wp2_with fail
                    go_meet
                    exact ⟨by rw [HD.out], rfl⟩
                  · have q1 : (j : Int) < (mo : Int) := by omega
                    have q2 : ¬ ((j : Int) < 50) := by omega
                    have HD := Lib.hid (decide_eq_false (p := j < mo ∧ j < 50) (by omega))
                    clear hjn h5 hj hj50 hp hq
                    go_wp2_with fail
                    go_meet
                    exact ⟨by rw [HD.out], rfl⟩
                · have q1 : ¬ ((j : Int) < (mo : Int)) := by omega
                  have HD := Lib.hid (decide_eq_false (p := j < mo ∧ j < 50) (by omega))
                  clear hjn hj hj50 hp hq
                  go_wp2_with fail
                  go_meet
                  exact ⟨by rw [HD.out], rfl⟩
              case rest =>
                obtain ⟨rfl, rfl⟩ := hcut
                clear ko
                by_cases hc : j < mo ∧ j < 50
                case neg =>
                  have hd : decide (j < mo ∧ j < 50) = false := decide_eq_false hc
                  rw [hd]
                  have HL8 := Lib.hid HX.out.len
                  have HA7 : Hid (wc.ownsRow B 24 1 u7 k (itemsV ptrVals (bsT ts))) := Lib.hid (by rw [← Hts.out]; exact HX.out.all)
                  have HP7 : Hid (∀ v' W, W.ownsRow B 24 1 v' (k + 1) (itemsV ptrVals (bsT ts) ++ [.pointer (some ⟨b, 0, none⟩)]) → Apart (fun k => u7.ownBlock = some k) wc W → TabsG W B (ts ++ [(b, t, p)]) ∧ RefT W r t q ∧ W.ownsRow B 24 1 v' (ts ++ [(b, t, p)]).length (itemsV ptrVals (bsT (ts ++ [(b, t, p)]))) ∧ W.ownsRow B 3 1 u8 ts.length (itemsV valVals (osT ts key)) ∧ Below B wc W) := Lib.hid fun v' W h1 h2 => HX.out.ptr (by rw [Hts.out]; exact h1) h2
                  have HB0 := Lib.hid HX.out.base
                  have hk7 : k ≤ 7 := by omega
                  clear hd hc HX HOc HOl HOi HN hj hj50 hp hq
                  go_upto_region 20 with (first | (at_builtin; refine wpList_val1 rfl (.tmp 89) (.tmp 91) 50 24 _ Try.underlying50 infoPtr14 rfl rfl B u7 k (itemsV ptrVals (bsT ts)) rfl HA7.out (.pointer (some ⟨b, 0, none⟩)) rfl rfl (by omega) HB0.out ?_; intro v7 w7 hv7 ha7) | fail)
                  obtain ⟨ht7, hr7, ho7, hv8, hb7⟩ := HP7.out _ _ hv7 ha7
                  have HBs := Lib.hid (Nat.le_trans HB0.out hb7.size)
                  have HV8 : Hid (w7.ownsRow B 3 1 u8 k (itemsV valVals (osT ts key))) := Lib.hid (by rw [← Hts.out]; exact hv8)
                  have Hb7 := Lib.hid (Hb.out.trans (hb7.mono HBz.out))
                  have HRk0 : Hid (∀ v8' W, W.ownsRow B 3 1 v8' (k + 1) (itemsV valVals (osT ts key) ++ [.int .i64 (valI (tat t key))]) → Apart (fun k => u8.ownBlock = some k) w7 W → VotR w B n1 key v7 v8' (.int .i64 ((k : Int) + 1)) W) := Lib.hid fun v8' W h1 h2 => by
                    obtain ⟨h3, h4⟩ := vots_val (n := k) (x := (b, t, p)) HBs.out ht7 ho7 hv8 rfl h1 Hts.out.symm h2
                    exact ⟨k + 1, ts ++ [(b, t, p)], by omega, by omega, by rw [List.length_append, Hts.out]; rfl, by go_num, h3, Hb7.out.trans (h4.mono HBz.out)⟩
                  have hkv := hr7.2
                  have hvlt : ∀ y, tat t key = some y → y < 65536 := fun y hy => val_lt ht7 (i := ts.length) (by rw [List.getElem?_append_right (Nat.le_refl _), Nat.sub_self]; rfl) hy
                  have e9 : IntKind.i64.wrap ((k : Int) + 1) = (k : Int) + 1 := IntWalk.i64_in _ (by omega)
                  clear hv7 ha7 ht7 ho7 hv8 hb7 HP7 HA7 HB0 hr7 Hb
                  by_cases hk8' : key < 8
                  · have q3 : (key : Int) < 8 := by omega
                    have kh := hkv.has (hasT_at (t := t) (k := key) (by rw [HL8.out]; exact hk8'))
                    have kv := hkv.val (valsT_at (t := t) (k := key) (by rw [HL8.out]; exact hk8'))
                    generalize tat t key = o at *
                    cases o with
                    | none =>
                      simp only [Option.isSome_none] at kh
                      have HRk : Hid (∀ v8' W, W.ownsRow B 3 1 v8' (k + 1) (itemsV valVals (osT ts key) ++ [.int .i64 (-1)]) → Apart (fun k => u8.ownBlock = some k) w7 W → VotR w B n1 key v7 v8' (.int .i64 ((k : Int) + 1)) W) := HRk0
                      clear HRk0 hkv kv hvlt hk8'
                      go_wp2_with (first | (at_builtin; refine wpList_val1 rfl (.tmp 113) (.tmp 114) 51 3 _ Try.underlying51 infoInt14 rfl rfl B u8 k (itemsV valVals (osT ts key)) rfl HV8.out (.int .i64 (-1)) rfl rfl (by omega) HBs.out ?_; intro v8' w8 hv8 ha8; have HRw := Lib.hid (HRk.out _ _ hv8 ha8); clear hv8 ha8) | fail)
                      go_roundw
                      case rel => exact HRw.out
                      case measure => simp [intOf]; omega
                    | some y =>
                      simp only [Option.isSome_some, Option.getD_some] at kh kv
                      have hy := hvlt y rfl
                      have HRk : Hid (∀ v8' W, W.ownsRow B 3 1 v8' (k + 1) (itemsV valVals (osT ts key) ++ [.int .i64 (y : Nat)]) → Apart (fun k => u8.ownBlock = some k) w7 W → VotR w B n1 key v7 v8' (.int .i64 ((k : Int) + 1)) W) := HRk0
                      have e8 : IntKind.i64.wrap (y : Int) = (y : Int) := IntWalk.i64_in _ (by omega)
                      clear HRk0 hkv hvlt hk8'
                      go_wp2_with (first | (at_builtin; refine wpList_val1 rfl (.tmp 103) (.tmp 111) 51 3 _ Try.underlying51 infoInt14 rfl rfl B u8 k (itemsV valVals (osT ts key)) rfl HV8.out (.int .i64 (y : Nat)) rfl rfl (by omega) HBs.out ?_; intro v8' w8 hv8 ha8; have HRw := Lib.hid (HRk.out _ _ hv8 ha8); clear hv8 ha8) | fail)
                      go_roundw
                      case rel => exact HRw.out
                      case measure => simp [intOf]; omega
                  · have q3 : ¬ ((key : Int) < 8) := by omega
                    have ht := tat_high HL8.out (k := key) (by omega)
                    have HRk : Hid (∀ v8' W, W.ownsRow B 3 1 v8' (k + 1) (itemsV valVals (osT ts key) ++ [.int .i64 (-1)]) → Apart (fun k => u8.ownBlock = some k) w7 W → VotR w B n1 key v7 v8' (.int .i64 ((k : Int) + 1)) W) := by
                      rw [ht] at HRk0
                      exact HRk0
                    clear HRk0 hkv hvlt hk8' ht
                    go_wp2_with (first | (at_builtin; refine wpList_val1 rfl (.tmp 113) (.tmp 114) 51 3 _ Try.underlying51 infoInt14 rfl rfl B u8 k (itemsV valVals (osT ts key)) rfl HV8.out (.int .i64 (-1)) rfl rfl (by omega) HBs.out ?_; intro v8' w8 hv8 ha8; have HRw := Lib.hid (HRk.out _ _ hv8 ha8); clear hv8 ha8) | fail)
                    go_roundw
                    case rel => exact HRw.out
                    case measure => simp [intOf]; omega
                obtain ⟨hjn, h5⟩ := hc
                obtain ⟨c, hx⟩ : ∃ c, lc[j]? = some c := ⟨_, List.getElem?_eq_getElem (by rw [HOl.out]; exact hjn)⟩
                have hd : decide (j < mo ∧ j < 50) = true := decide_eq_true ⟨hjn, h5⟩
                rw [hd]
                obtain ⟨ba, oa, rfl, hba, hci⟩ := HOi.out.1 (by rw [HOl.out]; omega)
                have hcin := HOi.out.2 c (List.mem_of_getElem? hx)
                have Hcl : Hid (∀ W, Below w.heap.size w W → ∀ i u, (cmdVals c)[i]? = some u → W.cell? ⟨ba, oa + j * 4 + i, none⟩ = some u) := Lib.hid fun W hW i u hu => (hW.cell (p := ⟨ba, oa + j * 4 + i, none⟩) hba).trans (hci j _ hx i u hu)
                have HC1 := Lib.hid (votx_one HX.out (by omega) c hcin)
                have HC2 : Hid (∀ W p', VotX W B r ts b (applyT t c) p' t q u7 u8 key → Calls Try.prog 11 #[repV r, cmdV14 c] W (fun e w' => (∃ v, e = .returned v) ∧ VotX w' B r ts b (applyT t c) p' (applyT t c) (q + if doneB c = true then 1 else 0) u7 u8 key ∧ Below B W w')) := Lib.hid fun W p' h => votx_two h (by omega) c hcin
                have HR : Hid (∀ W, VotX W B r ts b (applyT t c) (p + if doneB c = true then 1 else 0) (applyT t c) (q + if doneB c = true then 1 else 0) u7 u8 key → Below w.heap.size w W → VotI w B r ts b u7 u8 key mo 50 (.int .i64 ((j : Int) + 1)) W) := Lib.hid fun W h1 h2 => ⟨j + 1, _, _, _, hjn, h5, done_01 c p (50 + j) hp, done_01 c q (50 + j) hq, by go_num, h1, h2⟩
                have q1 : (j : Int) < (mo : Int) := by omega
                have q2 : (j : Int) < 50 := by omega
                have e1 : IntKind.i64.wrap ((j : Int) + 1) = (j : Int) + 1 := IntWalk.i64_in _ (by omega)
                obtain ⟨kind, ckey, val, old⟩ := c
                generalize applyT t ⟨kind, ckey, val, old⟩ = t' at *
                generalize (p + if doneB ⟨kind, ckey, val, old⟩ = true then 1 else 0) = p' at *
                generalize (q + if doneB ⟨kind, ckey, val, old⟩ = true then 1 else 0) = q' at *
                have d0 : wc.cell? ⟨ba, oa + j * 4, none⟩ = some (.int .u8 (kind : Nat)) := Hcl.out _ Hb.out 0 _ rfl
                have d1 : wc.cell? ⟨ba, oa + j * 4 + 1, none⟩ = some (.int .u8 (ckey : Nat)) := Hcl.out _ Hb.out 1 _ rfl
                have d2 : wc.cell? ⟨ba, oa + j * 4 + 2, none⟩ = some (.int .u16 (val : Nat)) := Hcl.out _ Hb.out 2 _ rfl
                have d3 : wc.cell? ⟨ba, oa + j * 4 + 3, none⟩ = some (.int .u16 (old : Nat)) := Hcl.out _ Hb.out 3 _ rfl
                have ko : wc.cell? ⟨bo, oo + k, none⟩ = some (.slice (some ⟨ba, oa, none⟩) mo co) := HOc.out _ Hb.out
                clear hx hci hcin hjn h5 hba hj hj50 hp hq hd HX
                unfold repV cmdV14 at HC1 HC2
                go_wp2_with fail
                refine HC1.out.mono ?_
                rintro e w5 ⟨⟨vv, rfl⟩, hX, hb⟩
                have HC2w := Lib.hid (HC2.out _ _ hX)
                have HB5 := Lib.hid (Hb.out.trans (hb.mono HBz.out))
                clear d0 d1 d2 d3 ko
                have d0 : w5.cell? ⟨ba, oa + j * 4, none⟩ = some (.int .u8 (kind : Nat)) := Hcl.out _ HB5.out 0 _ rfl
                have d1 : w5.cell? ⟨ba, oa + j * 4 + 1, none⟩ = some (.int .u8 (ckey : Nat)) := Hcl.out _ HB5.out 1 _ rfl
                have d2 : w5.cell? ⟨ba, oa + j * 4 + 2, none⟩ = some (.int .u16 (val : Nat)) := Hcl.out _ HB5.out 2 _ rfl
                have d3 : w5.cell? ⟨ba, oa + j * 4 + 3, none⟩ = some (.int .u16 (old : Nat)) := Hcl.out _ HB5.out 3 _ rfl
                have ko : w5.cell? ⟨bo, oo + k, none⟩ = some (.slice (some ⟨ba, oa, none⟩) mo co) := HOc.out _ HB5.out
                clear hX hb HC1 HC2 Hb Hcl
                go_wp2_with fail
                refine HC2w.out.mono ?_
                rintro e w6 ⟨⟨vv2, rfl⟩, hX, hb⟩
                have HRw := Lib.hid (HR.out _ hX (HB5.out.trans (hb.mono HBz.out)))
                clear hX hb HC2w HB5 HR d0 d1 d2 d3 ko
                go_wp2_with fail
                go_roundw
                case rel => exact HRw.out
                case measure => simp [intOf]; omega
          obtain ⟨hjn, h5⟩ := hc
          obtain ⟨c, hx⟩ : ∃ c, l0[j]? = some c := ⟨_, List.getElem?_eq_getElem (by rw [Hl0.out]; exact hjn)⟩
          have hd : decide (j < n0 ∧ j < 50) = true := decide_eq_true ⟨hjn, h5⟩
          rw [hd]
          obtain ⟨ba, oa, rfl, hba, hci⟩ := HI0.out.1 (by rw [Hl0.out]; omega)
          have hcin := HI0.out.2 c (List.mem_of_getElem? hx)
          have Hcl : Hid (∀ W, Below w.heap.size w W → ∀ i u, (cmdVals c)[i]? = some u → W.cell? ⟨ba, oa + j * 4 + i, none⟩ = some u) := Lib.hid fun W hW i u hu => (hW.cell (p := ⟨ba, oa + j * 4 + i, none⟩) hba).trans (hci j _ hx i u hu)
          have HC1 := Lib.hid (votx_one HX.out (by omega) c hcin)
          have HC2 : Hid (∀ W p', VotX W B r ts b (applyT t c) p' t q u7 u8 key → Calls Try.prog 11 #[repV r, cmdV14 c] W (fun e w' => (∃ v, e = .returned v) ∧ VotX w' B r ts b (applyT t c) p' (applyT t c) (q + if doneB c = true then 1 else 0) u7 u8 key ∧ Below B W w')) := Lib.hid fun W p' h => votx_two h (by omega) c hcin
          have HR : Hid (∀ W, VotX W B r ts b (applyT t c) (p + if doneB c = true then 1 else 0) (applyT t c) (q + if doneB c = true then 1 else 0) u7 u8 key → Below w.heap.size w W → VotI w B r ts b u7 u8 key n0 0 (.int .i64 ((j : Int) + 1)) W) := Lib.hid fun W h1 h2 => ⟨j + 1, _, _, _, hjn, h5, done_01 c p (0 + j) hp, done_01 c q (0 + j) hq, by go_num, h1, h2⟩
          have q1 : (j : Int) < (n0 : Int) := by omega
          have q2 : (j : Int) < 50 := by omega
          have e1 : IntKind.i64.wrap ((j : Int) + 1) = (j : Int) + 1 := IntWalk.i64_in _ (by omega)
          obtain ⟨kind, ckey, val, old⟩ := c
          generalize applyT t ⟨kind, ckey, val, old⟩ = t' at *
          generalize (p + if doneB ⟨kind, ckey, val, old⟩ = true then 1 else 0) = p' at *
          generalize (q + if doneB ⟨kind, ckey, val, old⟩ = true then 1 else 0) = q' at *
          have d0 : wc.cell? ⟨ba, oa + j * 4, none⟩ = some (.int .u8 (kind : Nat)) := Hcl.out _ Hb.out 0 _ rfl
          have d1 : wc.cell? ⟨ba, oa + j * 4 + 1, none⟩ = some (.int .u8 (ckey : Nat)) := Hcl.out _ Hb.out 1 _ rfl
          have d2 : wc.cell? ⟨ba, oa + j * 4 + 2, none⟩ = some (.int .u16 (val : Nat)) := Hcl.out _ Hb.out 2 _ rfl
          have d3 : wc.cell? ⟨ba, oa + j * 4 + 3, none⟩ = some (.int .u16 (old : Nat)) := Hcl.out _ Hb.out 3 _ rfl
          clear hx hci hcin hjn h5 hba hj hj50 hp hq hd HX
          unfold repV cmdV14 at HC1 HC2
          go_wp2_with fail
          refine HC1.out.mono ?_
          rintro e w5 ⟨⟨vv, rfl⟩, hX, hb⟩
          have HC2w := Lib.hid (HC2.out _ _ hX)
          have HB5 := Lib.hid (Hb.out.trans (hb.mono HBz.out))
          clear d0 d1 d2 d3
          have d0 : w5.cell? ⟨ba, oa + j * 4, none⟩ = some (.int .u8 (kind : Nat)) := Hcl.out _ HB5.out 0 _ rfl
          have d1 : w5.cell? ⟨ba, oa + j * 4 + 1, none⟩ = some (.int .u8 (ckey : Nat)) := Hcl.out _ HB5.out 1 _ rfl
          have d2 : w5.cell? ⟨ba, oa + j * 4 + 2, none⟩ = some (.int .u16 (val : Nat)) := Hcl.out _ HB5.out 2 _ rfl
          have d3 : w5.cell? ⟨ba, oa + j * 4 + 3, none⟩ = some (.int .u16 (old : Nat)) := Hcl.out _ HB5.out 3 _ rfl
          clear hX hb HC1 HC2 Hb Hcl
          go_wp2_with fail
          refine HC2w.out.mono ?_
          rintro e w6 ⟨⟨vv2, rfl⟩, hX, hb⟩
          have HRw := Lib.hid (HR.out _ hX (HB5.out.trans (hb.mono HBz.out)))
          clear hX hb HC2w HB5 HR d0 d1 d2 d3
          go_wp2_with fail
          go_roundw
          case rel => exact HRw.out
          case measure => simp [intOf]; omega
end Go.Proofs.Ytcibnjcnbocbdaa
