/- HealthKinds: the walk of the law at links in memory and a byte. Conditions: where the links lie. -/
import Derived.Test.YtabndibenffngaaDoorHeaG
import Derived.Test.YtabndibenffngaaDoorHeaV
import Derived.Test.YtabndibenffngaaDoorErrT
import Derived.Deep.CutBlock
import Derived.BigQuiet
namespace Go.Proofs.YtabndibenffngaaDoor
open Go.RowKit HeaP Go.Extern.Stop Go.Stop Go.Extern
set_option maxRecDepth 100000

def KinC (w : World) (e t : Value) (W : World) : Prop := ∃ l tl, e = errV l tl ∧ t = strV (sufT tl true l) ∧ MadeOk W 12 l tl ∧ Below w.heap.size w W
theorem below_undrew {B : Nat} {a w : World} (h : Below B a.drew w) : Below B a w := ⟨h.os, h.tape, h.output, h.size, h.block⟩
theorem suf_nil (l : List (Nat × Int × Int)) (t : Option Int) : sufT t true l = [] ↔ codes l t = [] := by
  constructor
  · intro h
    rw [codes_empty]
    by_cases he : errV l t = .nilIface
    · exact he
    · exact absurd h (sufT_ne he true)
  · intro h
    match l, t with
    | [], none => rfl
    | [], some m => simp [codes] at h
    | _ :: _, _ => simp [codes] at h
theorem wrap_small {n : Nat} (h : n < 199) : IntKind.i64.wrap (1 + (n : Int)) = ((n + 1 : Nat) : Int) := by rw [IntWalk.i64_in _ (by omega)]; omega
theorem mod180 (c : Int) : ∃ n d : Nat, wrap64 ((IntKind.u64.wrap c).tmod 180) = (n : Int) ∧ d ≠ 0 ∧ d < 200 ∧ IntKind.i64.wrap (1 + (n : Int)) = (d : Int) := by
  have h : 0 ≤ IntKind.u64.wrap c := by rw [IntKind.wrap_u64]; omega
  have h1 : (IntKind.u64.wrap c).tmod 180 = (IntKind.u64.wrap c) % 180 := by rw [Int.tmod_eq_emod_of_nonneg h]
  rw [h1]
  refine ⟨((IntKind.u64.wrap c) % 180).toNat, ((IntKind.u64.wrap c) % 180).toNat + 1, ?_, by omega, by omega, wrap_small (by omega)⟩
  unfold wrap64
  omega
def KinS (b o : Nat) (a : Int) (W : World) : Prop := b < W.heap.size ∧ W.cell? ⟨b, o, none⟩ = some (.int .i64 a)
theorem KinS.below {b o : Nat} {a : Int} {W W' : World} (h : KinS b o a W) (hb : Below W.heap.size W W') : KinS b o a W' := ⟨Nat.lt_of_lt_of_le h.1 hb.size, (hb.cell (p := ⟨b, o, none⟩) h.1).trans h.2⟩

set_option maxHeartbeats 8000000 in
theorem hkinds_law (A : Option Addr) (n cap : Nat) (l : List (Int × Int)) (hl : l.length = n) (a : Nat) (ha : a ≤ 255) (w : World) (h : ItemsIn lnkVals 2 w A l ∧ ∀ x ∈ l, x.2 ≤ 9223372036854775807) :
    Calls Tryd.prog 3 #[.slice A n cap, .int .u8 (a : Nat)] w (HTrue w) := by
  have HW := Lib.hid (awake15_any w)
  have HI := Lib.hid h.1
  have HM := Lib.hid h.2
  have Hl := Lib.hid hl
  clear h hl
  go_enter Tryd.func3, Tryd.ntmps3
  go_wp2_with fail
  refine HW.out.mono ?_
  rintro e w1 ⟨rfl, hb1⟩
  have HS0 : Hid (MadeRel (min n 10) w (.int .i64 0) .nilIface (.string ⟨#[]⟩) w1) := Lib.hid ⟨0, [], none, Nat.zero_le _, by omega, rfl, rfl, rfl, ⟨by simp, trivial, ⟨fun n hn => absurd hn (by simp), fun m hm => by cases hm⟩⟩, hb1⟩
  clear hb1 HW
  go_upto_block 0 with (fail)
  go_cut [5, 6] (fun e t wx => KinC w e t wx)
  case first =>
    go_wp2_with fail
    go_loopw [7, 5, 6] (MadeRel (min n 10) w) (fun i _ _ _ => (n + 1 - intOf i).toNat)
    case atStart => exact HS0.out
    case round =>
      clear HS0
      obtain ⟨i, le, tl, hi, hi12, rfl, rfl, rfl, hok, hb⟩ := hrel
      by_cases hlt : i < n ∧ i < 10
      case neg =>
        have HF : Hid (KinC w (errV le tl) (strV (sufT tl true le)) wr) := Lib.hid ⟨le, tl, rfl, rfl, ⟨by have := hok.1; omega, hok.2⟩, hb⟩
        clear hok hb
        generalize errV le tl = v at *
        generalize strV (sufT tl true le) = tx at *
        have hend : n = i ∨ i < n ∧ i = 10 := by omega
        clear hlt
        rcases hend with e | ⟨h1, e⟩
        · subst e
          go_wp2_with fail
          go_meet
          exact HF.out
        · subst e
          go_wp2_with fail
          go_meet
          exact HF.out
      obtain ⟨hlt, h10⟩ := hlt
      obtain ⟨x, hx⟩ : ∃ x, l[i]? = some x := ⟨_, List.getElem?_eq_getElem (by rw [Hl.out]; exact hlt)⟩
      obtain ⟨b, off, rfl, hbl, hc⟩ := (HI.out.below hb) (by rw [Hl.out]; omega)
      have k0 : wr.cell? ⟨b, off + i * 2, none⟩ = some (.int .i64 x.1) := by have := hc i x hx 0 _ rfl; simpa using this
      have k1 : wr.cell? ⟨b, off + i * 2 + 1, none⟩ = some (.int .i64 x.2) := hc i x hx 1 _ rfl
      have hal := HM.out x (List.mem_of_getElem? hx)
      obtain ⟨cn, cd, hcm0, hc0, hc2, hwd0⟩ := mod180 x.1
      have Hcm := Lib.hid hcm0
      have Hwd := Lib.hid hwd0
      clear hcm0 hwd0
      have hS : KinS b (off + i * 2 + 1) x.2 wr.drew := ⟨hbl, k1⟩
      have kk : ∀ W, KinS b (off + i * 2 + 1) x.2 W → W.cell? ⟨b, off + i * 2 + 1, none⟩ = some (.int .i64 x.2) := fun W hW => hW.2
      have htl := sufT_len tl le true
      have hl12 : le.length ≤ 12 := by have := hok.1; omega
      have hNew : Hid (∀ w2, Below (wr.heap.size + 1) (wr.alloc (.cells #[.int .i64 (cd : Nat), .int .i64 (place x.2), .nilIface] 82)) w2 → MadeRel (min n 10) w (.int .i64 (↑i + 1)) (.iface 80 (.pointer (some ⟨wr.heap.size, 0, none⟩))) (strV (atT cd x.2)) w2) :=
        Lib.hid fun w2 h2 => made_new (by omega) (by omega) hb cd x.2 hc0 hc2 hal h2
      have hWrap : Hid (errV le tl ≠ .nilIface → ∀ w2, Below (wr.heap.size + 1) (wr.alloc (.cells #[.int .i64 (cd : Nat), .int .i64 (place x.2), errV le tl] 82)) w2 → MadeRel (min n 10) w (.int .i64 (↑i + 1)) (.iface 80 (.pointer (some ⟨wr.heap.size, 0, none⟩))) (strV (overT cd x.2 (sufT tl true le))) w2) :=
        Lib.hid fun hne w2 h2 => made_wrap (by omega) (by omega) hb hok hne cd x.2 hc0 hc2 hal h2
      have cA : Hid (∀ W, Calls Tryd.prog 12 #[.int .i64 (cd : Nat), .int .i64 x.2] W fun e w' => e = .returned (strV (atT cd x.2)) ∧ Below W.heap.size W w') := Lib.hid fun W => at_any cd x.2 W (by omega) hal
      have cO : Hid (∀ W, Calls Tryd.prog 14 #[.int .i64 (cd : Nat), .int .i64 x.2, strV (sufT tl true le)] W fun e w' => e = .returned (strV (overT cd x.2 (sufT tl true le))) ∧ Below W.heap.size W w') := Lib.hid fun W => over_any cd x.2 _ W (by omega) hal (by omega)
      have hcz : ((cd : Int) == 0) = false := by rw [beq_eq_false_iff_ne]; omega
      have hv := errV_cases le tl
      have Hhi : Hid (i < n) := Lib.hid hlt
      generalize errV le tl = v at *
      generalize sufT tl true le = tx at *
      generalize atT cd x.2 = tA at *
      generalize overT cd x.2 tx = tO at *
      clear hok hb hc hx hal hc0 hc2 htl hl12 hi hi12 hbl
      generalize x.1 = c at *
      generalize x.2 = ai at *
      unfold strV at *
      rcases hv with rfl | ⟨m, rfl⟩ | ⟨b', rfl⟩
      · clear hWrap cO
        have hcm := Hcm.out
        have hwd := Hwd.out
        go_wp2_with fail
        clear k0 k1 hcm hwd Hcm Hwd
        refine wp_region_held_drew (S := fun W => KinS b (off + i * 2 + 1) ai W) (by kernel_rfl) hS (fun _ => ?_)
        refine tkH 0 (by simp only [tkA]; rfl) (by kernel_rfl) (by exact fun _ _ _ h => h) (by rfl) (by intro W hW; go_simp <;> with_reducible rfl) hS ?_
        try simp only [Act.put, tkT, tk0, tkS]
        refine tkH 1 (by simp only [tkA, tkG]; rfl) (by kernel_rfl) (by exact fun _ _ _ h => h) (by rfl) (by intro W hW; go_simp <;> with_reducible rfl) hS ?_
        try simp only [Act.put, tkT, tk0, tkS]
        refine tkH 2 (by simp only [tkA, tkG]; rfl) (by kernel_rfl) (by exact fun _ _ _ h => h) (by rfl) (by intro W hW; go_simp <;> with_reducible rfl) hS ?_
        try simp only [Act.put, tkT, tk0, tkS]
        refine tkH 3 (by simp only [tkA, tkG]; rfl) (by kernel_rfl) (by exact fun _ _ _ h => h) (by rfl) (by intro W hW; go_simp <;> with_reducible rfl) hS ?_
        try simp only [Act.put, tkT, tk0, tkS]
        refine tkH 4 (by simp only [tkA, tkG]; rfl) (by kernel_rfl) (by exact fun _ _ _ h => h) (by rfl) (by intro W hW; go_simp <;> with_reducible rfl) hS ?_
        try simp only [Act.put, tkT, tk0, tkS]
        refine tkH 5 (by simp only [tkA, tkG]; rfl) (by kernel_rfl) (by exact fun _ _ _ h => h) (by rfl) (by intro W hW; go_simp <;> with_reducible rfl) hS ?_
        try simp only [Act.put, tkT, tk0, tkS]
        refine tkH 7 (by simp only [tkA, tkG]; rfl) (by kernel_rfl) (by exact fun _ _ _ h => h) (by rfl) (by intro W hW; go_simp <;> with_reducible rfl) hS ?_
        try simp only [Act.put, tkT, tk0, tkS]
        refine tkH 8 (by simp only [tkA, tkG]; rfl) (by kernel_rfl) (by exact fun _ _ _ h => h) (by rfl) (by intro W hW; go_simp <;> with_reducible rfl) hS ?_
        try simp only [Act.put, tkT, tk0, tkS]
        refine tkH 9 (by simp only [tkA, tkG]; rfl) (by kernel_rfl) (by exact fun _ _ _ h => h) (by rfl) (by intro W hW; go_simp <;> with_reducible rfl) hS ?_
        try simp only [Act.put, tkT, tk0, tkS]
        refine tkH 10 (by simp only [tkA, tkG]; rfl) (by kernel_rfl) (by exact fun _ _ _ h => h) (by rfl) (by intro W hW; go_simp <;> with_reducible rfl) hS ?_
        try simp only [Act.put, tkT, tk0, tkS]
        refine tkH 11 (by simp only [tkA, tkG]; rfl) (by kernel_rfl) (by exact fun _ _ _ h => h) (by rfl) (by intro W hW; go_simp <;> with_reducible rfl) hS ?_
        try simp only [Act.put, tkT, tk0, tkS]
        refine tkH 12 (by simp only [tkA, tkG]; rfl) (by kernel_rfl) (by exact fun _ _ _ h => h) (by rfl) (by intro W hW; go_simp <;> with_reducible rfl) hS ?_
        try simp only [Act.put, tkT, tk0, tkS]
        clear kk
        have hS2 : KinS b (off + i * 2 + 1) ai (wr.drew.alloc (.cells #[.int .i64 (cd : Nat), .int .i64 (place ai), .nilIface] 82)) := hS.below ((Below.refl _ wr.drew).alloc (Nat.le_refl _) _)
        refine clH 6 (by kernel_rfl) (by simp only [tkA, tkG]; rfl) (fun K hK => ?_)
        go_simp
        refine (new_some _ _ _ hcz).mono ?_
        rintro e w2 ⟨rfl, rfl⟩
        go_wp2_with fail
        refine hK.out _ _ hS2 (fun _ => ?_)
        clear hK K
        refine clH 13 (by kernel_rfl) (by simp only [tkA, tkG]; rfl) (fun K hK => ?_)
        go_simp
        refine (cA.out _).mono ?_
        rintro e w3 ⟨rfl, hb3⟩
        have hS3 := hS2.below hb3
        have HF := Lib.hid (hNew.out w3 (below_undrew (by simpa using hb3)))
        clear hb3 hNew
        go_wp2_with fail
        refine hK.out _ _ hS3 (fun _ => ?_)
        clear hK K
        refine tkH 14 (by simp only [tkA, tkG]; rfl) (by kernel_rfl) (by exact fun _ _ _ h => h) (by rfl) (by intro W hW; go_simp <;> with_reducible rfl) hS3 ?_
        try simp only [Act.put, tkT, tk0, tkS]
        refine tkH 15 (by simp only [tkA, tkG]; rfl) (by kernel_rfl) (by exact fun _ _ _ h => h) (by rfl) (by intro W hW; go_simp <;> with_reducible rfl) hS3 ?_
        try simp only [Act.put, tkT, tk0, tkS]
        refine wpAnyH_done (by kernel_rfl) ?_ _
        clear hS hS2 hS3
        go_wp2_with fail
        go_roundw
        case rel => exact HF.out
        case measure => simp [intOf] <;> (have := Hhi.out; omega)
      · clear hNew cA
        have kW := Lib.hid (hWrap.out (by simp))
        clear hWrap
        have hcm := Hcm.out
        have hwd := Hwd.out
        go_wp2_with fail
        clear k0 k1 hcm hwd Hcm Hwd
        refine wp_region_held_drew (S := fun W => KinS b (off + i * 2 + 1) ai W) (by kernel_rfl) hS (fun _ => ?_)
        refine tkH 0 (by simp only [tkA]; rfl) (by kernel_rfl) (by exact fun _ _ _ h => h) (by rfl) (by intro W hW; go_simp <;> with_reducible rfl) hS ?_
        try simp only [Act.put, tkT, tk0, tkS]
        refine tkH 1 (by simp only [tkA, tkG]; rfl) (by kernel_rfl) (by exact fun _ _ _ h => h) (by rfl) (by intro W hW; go_simp <;> with_reducible rfl) hS ?_
        try simp only [Act.put, tkT, tk0, tkS]
        refine tkH 2 (by simp only [tkA, tkG]; rfl) (by kernel_rfl) (by exact fun _ _ _ h => h) (by rfl) (by intro W hW; go_simp <;> with_reducible rfl) hS ?_
        try simp only [Act.put, tkT, tk0, tkS]
        refine tkH 3 (by simp only [tkA, tkG]; rfl) (by kernel_rfl) (by exact fun _ _ _ h => h) (by rfl) (by intro W hW; go_simp <;> with_reducible rfl) hS ?_
        try simp only [Act.put, tkT, tk0, tkS]
        refine tkH 4 (by simp only [tkA, tkG]; rfl) (by kernel_rfl) (by exact fun _ _ _ h => h) (by rfl) (by intro W hW; go_simp <;> with_reducible rfl) hS ?_
        try simp only [Act.put, tkT, tk0, tkS]
        refine tkH 5 (by simp only [tkA, tkG]; rfl) (by kernel_rfl) (by exact fun _ _ _ h => h) (by rfl) (by intro W hW; go_simp <;> with_reducible rfl) hS ?_
        try simp only [Act.put, tkT, tk0, tkS]
        refine tkH 6 (by simp only [tkA, tkG]; rfl) (by kernel_rfl) (by exact fun _ _ _ h => h) (by rfl) (by intro W hW; go_simp <;> with_reducible rfl) hS ?_
        try simp only [Act.put, tkT, tk0, tkS]
        refine tkH 8 (by simp only [tkA, tkG]; rfl) (by kernel_rfl) (by exact fun _ _ _ h => h) (by rfl) (by intro W hW; go_simp <;> with_reducible rfl) hS ?_
        try simp only [Act.put, tkT, tk0, tkS]
        refine tkH 9 (by simp only [tkA, tkG]; rfl) (by kernel_rfl) (by exact fun _ _ _ h => h) (by rfl) (by intro W hW; go_simp <;> with_reducible rfl) hS ?_
        try simp only [Act.put, tkT, tk0, tkS]
        refine tkH 10 (by simp only [tkA, tkG]; rfl) (by kernel_rfl) (by exact fun _ _ _ h => h) (by rfl) (by intro W hW; go_simp <;> with_reducible rfl) hS ?_
        try simp only [Act.put, tkT, tk0, tkS]
        refine tkH 11 (by simp only [tkA, tkG]; rfl) (by kernel_rfl) (by exact fun _ _ _ h => h) (by rfl) (by intro W hW; go_simp <;> with_reducible rfl) hS ?_
        try simp only [Act.put, tkT, tk0, tkS]
        refine tkH 12 (by simp only [tkA, tkG]; rfl) (by kernel_rfl) (by exact fun _ _ _ h => h) (by rfl) (by intro W hW; go_simp <;> with_reducible rfl) hS ?_
        try simp only [Act.put, tkT, tk0, tkS]
        refine tkH 13 (by simp only [tkA, tkG]; rfl) (by kernel_rfl) (by exact fun _ _ _ h => h) (by rfl) (by intro W hW; go_simp <;> with_reducible rfl) hS ?_
        try simp only [Act.put, tkT, tk0, tkS]
        refine tkH 14 (by simp only [tkA, tkG]; rfl) (by kernel_rfl) (by exact fun _ _ _ h => h) (by rfl) (by intro W hW; go_simp <;> with_reducible rfl) hS ?_
        try simp only [Act.put, tkT, tk0, tkS]
        clear kk
        have hS2 : KinS b (off + i * 2 + 1) ai (wr.drew.alloc (.cells #[.int .i64 (cd : Nat), .int .i64 (place ai), .iface 30 (.int .i64 m)] 82)) := hS.below ((Below.refl _ wr.drew).alloc (Nat.le_refl _) _)
        refine clH 7 (by kernel_rfl) (by simp only [tkA, tkG]; rfl) (fun K hK => ?_)
        go_simp
        refine (wrap_E _ _ _ _ hcz).mono ?_
        rintro e w2 ⟨rfl, rfl⟩
        go_wp2_with fail
        refine hK.out _ _ hS2 (fun _ => ?_)
        clear hK K
        refine clH 15 (by kernel_rfl) (by simp only [tkA, tkG]; rfl) (fun K hK => ?_)
        go_simp
        refine (cO.out _).mono ?_
        rintro e w3 ⟨rfl, hb3⟩
        have hS3 := hS2.below hb3
        have HF := Lib.hid (kW.out w3 (below_undrew (by simpa using hb3)))
        clear hb3 kW
        go_wp2_with fail
        refine hK.out _ _ hS3 (fun _ => ?_)
        clear hK K
        refine tkH 16 (by simp only [tkA, tkG]; rfl) (by kernel_rfl) (by exact fun _ _ _ h => h) (by rfl) (by intro W hW; go_simp <;> with_reducible rfl) hS3 ?_
        try simp only [Act.put, tkT, tk0, tkS]
        refine tkH 17 (by simp only [tkA, tkG]; rfl) (by kernel_rfl) (by exact fun _ _ _ h => h) (by rfl) (by intro W hW; go_simp <;> with_reducible rfl) hS3 ?_
        try simp only [Act.put, tkT, tk0, tkS]
        refine wpAnyH_done (by kernel_rfl) ?_ _
        clear hS hS2 hS3
        go_wp2_with fail
        go_roundw
        case rel => exact HF.out
        case measure => simp [intOf] <;> (have := Hhi.out; omega)
      · clear hNew cA
        have kW := Lib.hid (hWrap.out (by simp))
        clear hWrap
        have hcm := Hcm.out
        have hwd := Hwd.out
        go_wp2_with fail
        clear k0 k1 hcm hwd Hcm Hwd
        refine wp_region_held_drew (S := fun W => KinS b (off + i * 2 + 1) ai W) (by kernel_rfl) hS (fun _ => ?_)
        refine tkH 0 (by simp only [tkA]; rfl) (by kernel_rfl) (by exact fun _ _ _ h => h) (by rfl) (by intro W hW; go_simp <;> with_reducible rfl) hS ?_
        try simp only [Act.put, tkT, tk0, tkS]
        refine tkH 1 (by simp only [tkA, tkG]; rfl) (by kernel_rfl) (by exact fun _ _ _ h => h) (by rfl) (by intro W hW; go_simp <;> with_reducible rfl) hS ?_
        try simp only [Act.put, tkT, tk0, tkS]
        refine tkH 2 (by simp only [tkA, tkG]; rfl) (by kernel_rfl) (by exact fun _ _ _ h => h) (by rfl) (by intro W hW; go_simp <;> with_reducible rfl) hS ?_
        try simp only [Act.put, tkT, tk0, tkS]
        refine tkH 3 (by simp only [tkA, tkG]; rfl) (by kernel_rfl) (by exact fun _ _ _ h => h) (by rfl) (by intro W hW; go_simp <;> with_reducible rfl) hS ?_
        try simp only [Act.put, tkT, tk0, tkS]
        refine tkH 4 (by simp only [tkA, tkG]; rfl) (by kernel_rfl) (by exact fun _ _ _ h => h) (by rfl) (by intro W hW; go_simp <;> with_reducible rfl) hS ?_
        try simp only [Act.put, tkT, tk0, tkS]
        refine tkH 5 (by simp only [tkA, tkG]; rfl) (by kernel_rfl) (by exact fun _ _ _ h => h) (by rfl) (by intro W hW; go_simp <;> with_reducible rfl) hS ?_
        try simp only [Act.put, tkT, tk0, tkS]
        refine tkH 6 (by simp only [tkA, tkG]; rfl) (by kernel_rfl) (by exact fun _ _ _ h => h) (by rfl) (by intro W hW; go_simp <;> with_reducible rfl) hS ?_
        try simp only [Act.put, tkT, tk0, tkS]
        refine tkH 8 (by simp only [tkA, tkG]; rfl) (by kernel_rfl) (by exact fun _ _ _ h => h) (by rfl) (by intro W hW; go_simp <;> with_reducible rfl) hS ?_
        try simp only [Act.put, tkT, tk0, tkS]
        refine tkH 9 (by simp only [tkA, tkG]; rfl) (by kernel_rfl) (by exact fun _ _ _ h => h) (by rfl) (by intro W hW; go_simp <;> with_reducible rfl) hS ?_
        try simp only [Act.put, tkT, tk0, tkS]
        refine tkH 10 (by simp only [tkA, tkG]; rfl) (by kernel_rfl) (by exact fun _ _ _ h => h) (by rfl) (by intro W hW; go_simp <;> with_reducible rfl) hS ?_
        try simp only [Act.put, tkT, tk0, tkS]
        refine tkH 11 (by simp only [tkA, tkG]; rfl) (by kernel_rfl) (by exact fun _ _ _ h => h) (by rfl) (by intro W hW; go_simp <;> with_reducible rfl) hS ?_
        try simp only [Act.put, tkT, tk0, tkS]
        refine tkH 12 (by simp only [tkA, tkG]; rfl) (by kernel_rfl) (by exact fun _ _ _ h => h) (by rfl) (by intro W hW; go_simp <;> with_reducible rfl) hS ?_
        try simp only [Act.put, tkT, tk0, tkS]
        refine tkH 13 (by simp only [tkA, tkG]; rfl) (by kernel_rfl) (by exact fun _ _ _ h => h) (by rfl) (by intro W hW; go_simp <;> with_reducible rfl) hS ?_
        try simp only [Act.put, tkT, tk0, tkS]
        refine tkH 14 (by simp only [tkA, tkG]; rfl) (by kernel_rfl) (by exact fun _ _ _ h => h) (by rfl) (by intro W hW; go_simp <;> with_reducible rfl) hS ?_
        try simp only [Act.put, tkT, tk0, tkS]
        clear kk
        have hS2 : KinS b (off + i * 2 + 1) ai (wr.drew.alloc (.cells #[.int .i64 (cd : Nat), .int .i64 (place ai), .iface 80 (.pointer (some ⟨b', 0, none⟩))] 82)) := hS.below ((Below.refl _ wr.drew).alloc (Nat.le_refl _) _)
        refine clH 7 (by kernel_rfl) (by simp only [tkA, tkG]; rfl) (fun K hK => ?_)
        go_simp
        refine (wrap_F _ _ _ _ hcz).mono ?_
        rintro e w2 ⟨rfl, rfl⟩
        go_wp2_with fail
        refine hK.out _ _ hS2 (fun _ => ?_)
        clear hK K
        refine clH 15 (by kernel_rfl) (by simp only [tkA, tkG]; rfl) (fun K hK => ?_)
        go_simp
        refine (cO.out _).mono ?_
        rintro e w3 ⟨rfl, hb3⟩
        have hS3 := hS2.below hb3
        have HF := Lib.hid (kW.out w3 (below_undrew (by simpa using hb3)))
        clear hb3 kW
        go_wp2_with fail
        refine hK.out _ _ hS3 (fun _ => ?_)
        clear hK K
        refine tkH 16 (by simp only [tkA, tkG]; rfl) (by kernel_rfl) (by exact fun _ _ _ h => h) (by rfl) (by intro W hW; go_simp <;> with_reducible rfl) hS3 ?_
        try simp only [Act.put, tkT, tk0, tkS]
        refine tkH 17 (by simp only [tkA, tkG]; rfl) (by kernel_rfl) (by exact fun _ _ _ h => h) (by rfl) (by intro W hW; go_simp <;> with_reducible rfl) hS3 ?_
        try simp only [Act.put, tkT, tk0, tkS]
        refine wpAnyH_done (by kernel_rfl) ?_ _
        clear hS hS2 hS3
        go_wp2_with fail
        go_roundw
        case rel => exact HF.out
        case measure => simp [intOf] <;> (have := Hhi.out; omega)
  case rest =>
    obtain ⟨le, tl, rfl, rfl, ⟨hlen, hin, hgood⟩, hbc⟩ := hcut
    have htl := sufT_len tl le true
    have hl12 : le.length ≤ 12 := by omega
    have HIn := Lib.hid hin
    have HBc := Lib.hid hbc
    have HK := Lib.hid (hkind_any wc.heap.size le tl wc (by omega) (Nat.le_refl _) hin)
    have HRk : Hid (∀ W, Calls Tryd.prog 16 #[strV (sufT tl true le)] W (RKindP (kindI (codes le tl)) W)) := Lib.hid fun W => by
      have := rkind_any (sufT tl true le) W (by omega) (by rw [trailP_text hgood]; exact suf_nil le tl)
      rwa [trailP_text hgood] at this
    have HOf := Lib.hid (fun W => of_any a W ha)
    have HRd : Hid (∀ W, Below wc.heap.size wc W → Calls Tryd.prog 18 #[errV le tl] W (fun e w' => e = .returned (strV (sufT tl true le)) ∧ Below W.heap.size W w')) := Lib.hid fun W hW => read_any wc.heap.size le tl W hl12 hW.size (hin.below hW (Nat.le_refl _)) hgood
    clear hlen hin hgood hbc htl hl12 HIn
    generalize errV le tl = v at *
    generalize sufT tl true le = tx at *
    have hko : ∀ k, kindI (codes le tl) = some k → k ≤ 3 := fun k hk => kindI_le hk
    generalize kindI (codes le tl) = o at *
    unfold strV at *
    have hac : a = 0 ∨ a = 1 ∨ a = 2 ∨ a = 3 ∨ 4 ≤ a := by omega
    cases o with
    | none =>
      have HK2 : Hid (Calls Tryd.prog 15 #[v] wc (fun e w' => e = .returned (.tuple #[.int .u8 0, .bool false]) ∧ Below wc.heap.size wc w')) := HK
      have HRk2 : Hid (∀ W, Calls Tryd.prog 16 #[.string ⟨tx.toArray⟩] W (fun e w' => e = .returned (.int .i64 (-1)) ∧ Below W.heap.size W w')) := HRk
      clear HK HRk hko
      rcases hac with rfl | rfl | rfl | rfl | h4
      · have HOf2 : Hid (∀ W, Calls Tryd.prog 17 #[.int .u8 0] W (fun e w' => e = .returned (.agg #[.bool false, .bool false, .bool false]) ∧ Below W.heap.size W w')) := HOf
        clear HOf
        go_wp2_with fail
        refine HK2.out.mono ?_
        rintro e w3 ⟨rfl, hb3⟩
        have HB3 := Lib.hid hb3
        clear hb3
        go_wp2_with fail
        refine (HRk2.out w3).mono ?_
        rintro e w4 ⟨rfl, hb4⟩
        have HB4 := Lib.hid (HB3.out.trans (hb4.mono HB3.out.size))
        clear hb4
        go_wp2_with fail
        refine (HOf2.out w4).mono ?_
        rintro e w5 ⟨rfl, hb5⟩
        have HB5 := Lib.hid (HB4.out.trans (hb5.mono HB4.out.size))
        clear hb5
        have HB6 : Hid (Below wc.heap.size wc (w5.alloc (.cells #[.bool false, .bool false, .bool false] 39))) := Lib.hid (HB5.out.alloc HB5.out.size _)
        have HR6 := Lib.hid (HRd.out _ HB6.out)
        have hat := heap_alloc_new w5 (.cells #[.bool false, .bool false, .bool false] 39)
        have HAT := Lib.hid hat
        clear hat
        go_wp2_with fail
        refine HR6.out.mono ?_
        rintro e w6 ⟨rfl, hb6⟩
        have r0 : w6.cell? ⟨w5.heap.size, 0, none⟩ = some (.bool false) := (hb6.cell (p := ⟨w5.heap.size, 0, none⟩) (by simp)).trans (cell_at HAT.out 0 rfl)
        have r1 : w6.cell? ⟨w5.heap.size, 1, none⟩ = some (.bool false) := (hb6.cell (p := ⟨w5.heap.size, 1, none⟩) (by simp)).trans (cell_at HAT.out 1 rfl)
        have r2 : w6.cell? ⟨w5.heap.size, 2, none⟩ = some (.bool false) := (hb6.cell (p := ⟨w5.heap.size, 2, none⟩) (by simp)).trans (cell_at HAT.out 2 rfl)
        have HB7 := Lib.hid (HB6.out.trans (hb6.mono HB6.out.size))
        clear hb6
        go_wp2_with fail
        go_ret
        exact ⟨rfl, HBc.out.trans (HB7.out.mono HBc.out.size)⟩
      · have HOf2 : Hid (∀ W, Calls Tryd.prog 17 #[.int .u8 1] W (fun e w' => e = .returned (.agg #[.bool true, .bool false, .bool false]) ∧ Below W.heap.size W w')) := HOf
        clear HOf
        go_wp2_with fail
        refine HK2.out.mono ?_
        rintro e w3 ⟨rfl, hb3⟩
        have HB3 := Lib.hid hb3
        clear hb3
        go_wp2_with fail
        refine (HRk2.out w3).mono ?_
        rintro e w4 ⟨rfl, hb4⟩
        have HB4 := Lib.hid (HB3.out.trans (hb4.mono HB3.out.size))
        clear hb4
        go_wp2_with fail
        refine (HOf2.out w4).mono ?_
        rintro e w5 ⟨rfl, hb5⟩
        have HB5 := Lib.hid (HB4.out.trans (hb5.mono HB4.out.size))
        clear hb5
        have HB6 : Hid (Below wc.heap.size wc (w5.alloc (.cells #[.bool true, .bool false, .bool false] 39))) := Lib.hid (HB5.out.alloc HB5.out.size _)
        have HR6 := Lib.hid (HRd.out _ HB6.out)
        have hat := heap_alloc_new w5 (.cells #[.bool true, .bool false, .bool false] 39)
        have HAT := Lib.hid hat
        clear hat
        go_wp2_with fail
        refine HR6.out.mono ?_
        rintro e w6 ⟨rfl, hb6⟩
        have r0 : w6.cell? ⟨w5.heap.size, 0, none⟩ = some (.bool true) := (hb6.cell (p := ⟨w5.heap.size, 0, none⟩) (by simp)).trans (cell_at HAT.out 0 rfl)
        have r1 : w6.cell? ⟨w5.heap.size, 1, none⟩ = some (.bool false) := (hb6.cell (p := ⟨w5.heap.size, 1, none⟩) (by simp)).trans (cell_at HAT.out 1 rfl)
        have r2 : w6.cell? ⟨w5.heap.size, 2, none⟩ = some (.bool false) := (hb6.cell (p := ⟨w5.heap.size, 2, none⟩) (by simp)).trans (cell_at HAT.out 2 rfl)
        have HB7 := Lib.hid (HB6.out.trans (hb6.mono HB6.out.size))
        clear hb6
        go_wp2_with fail
        go_ret
        exact ⟨rfl, HBc.out.trans (HB7.out.mono HBc.out.size)⟩
      · have HOf2 : Hid (∀ W, Calls Tryd.prog 17 #[.int .u8 2] W (fun e w' => e = .returned (.agg #[.bool true, .bool true, .bool false]) ∧ Below W.heap.size W w')) := HOf
        clear HOf
        go_wp2_with fail
        refine HK2.out.mono ?_
        rintro e w3 ⟨rfl, hb3⟩
        have HB3 := Lib.hid hb3
        clear hb3
        go_wp2_with fail
        refine (HRk2.out w3).mono ?_
        rintro e w4 ⟨rfl, hb4⟩
        have HB4 := Lib.hid (HB3.out.trans (hb4.mono HB3.out.size))
        clear hb4
        go_wp2_with fail
        refine (HOf2.out w4).mono ?_
        rintro e w5 ⟨rfl, hb5⟩
        have HB5 := Lib.hid (HB4.out.trans (hb5.mono HB4.out.size))
        clear hb5
        have HB6 : Hid (Below wc.heap.size wc (w5.alloc (.cells #[.bool true, .bool true, .bool false] 39))) := Lib.hid (HB5.out.alloc HB5.out.size _)
        have HR6 := Lib.hid (HRd.out _ HB6.out)
        have hat := heap_alloc_new w5 (.cells #[.bool true, .bool true, .bool false] 39)
        have HAT := Lib.hid hat
        clear hat
        go_wp2_with fail
        refine HR6.out.mono ?_
        rintro e w6 ⟨rfl, hb6⟩
        have r0 : w6.cell? ⟨w5.heap.size, 0, none⟩ = some (.bool true) := (hb6.cell (p := ⟨w5.heap.size, 0, none⟩) (by simp)).trans (cell_at HAT.out 0 rfl)
        have r1 : w6.cell? ⟨w5.heap.size, 1, none⟩ = some (.bool true) := (hb6.cell (p := ⟨w5.heap.size, 1, none⟩) (by simp)).trans (cell_at HAT.out 1 rfl)
        have r2 : w6.cell? ⟨w5.heap.size, 2, none⟩ = some (.bool false) := (hb6.cell (p := ⟨w5.heap.size, 2, none⟩) (by simp)).trans (cell_at HAT.out 2 rfl)
        have HB7 := Lib.hid (HB6.out.trans (hb6.mono HB6.out.size))
        clear hb6
        go_wp2_with fail
        go_ret
        exact ⟨rfl, HBc.out.trans (HB7.out.mono HBc.out.size)⟩
      · have HOf2 : Hid (∀ W, Calls Tryd.prog 17 #[.int .u8 3] W (fun e w' => e = .returned (.agg #[.bool true, .bool true, .bool true]) ∧ Below W.heap.size W w')) := HOf
        clear HOf
        go_wp2_with fail
        refine HK2.out.mono ?_
        rintro e w3 ⟨rfl, hb3⟩
        have HB3 := Lib.hid hb3
        clear hb3
        go_wp2_with fail
        refine (HRk2.out w3).mono ?_
        rintro e w4 ⟨rfl, hb4⟩
        have HB4 := Lib.hid (HB3.out.trans (hb4.mono HB3.out.size))
        clear hb4
        go_wp2_with fail
        refine (HOf2.out w4).mono ?_
        rintro e w5 ⟨rfl, hb5⟩
        have HB5 := Lib.hid (HB4.out.trans (hb5.mono HB4.out.size))
        clear hb5
        have HB6 : Hid (Below wc.heap.size wc (w5.alloc (.cells #[.bool true, .bool true, .bool true] 39))) := Lib.hid (HB5.out.alloc HB5.out.size _)
        have HR6 := Lib.hid (HRd.out _ HB6.out)
        have hat := heap_alloc_new w5 (.cells #[.bool true, .bool true, .bool true] 39)
        have HAT := Lib.hid hat
        clear hat
        go_wp2_with fail
        refine HR6.out.mono ?_
        rintro e w6 ⟨rfl, hb6⟩
        have r0 : w6.cell? ⟨w5.heap.size, 0, none⟩ = some (.bool true) := (hb6.cell (p := ⟨w5.heap.size, 0, none⟩) (by simp)).trans (cell_at HAT.out 0 rfl)
        have r1 : w6.cell? ⟨w5.heap.size, 1, none⟩ = some (.bool true) := (hb6.cell (p := ⟨w5.heap.size, 1, none⟩) (by simp)).trans (cell_at HAT.out 1 rfl)
        have r2 : w6.cell? ⟨w5.heap.size, 2, none⟩ = some (.bool true) := (hb6.cell (p := ⟨w5.heap.size, 2, none⟩) (by simp)).trans (cell_at HAT.out 2 rfl)
        have HB7 := Lib.hid (HB6.out.trans (hb6.mono HB6.out.size))
        clear hb6
        go_wp2_with fail
        go_ret
        exact ⟨rfl, HBc.out.trans (HB7.out.mono HBc.out.size)⟩
      · have HOf2 : Hid (∀ W, Calls Tryd.prog 17 #[.int .u8 (a : Nat)] W (fun e w' => e = .returned (.agg #[.bool false, .bool false, .bool false]) ∧ Below W.heap.size W w')) := Lib.hid fun W => (HOf.out W).mono fun e w' ⟨h1, h2⟩ => ⟨by rw [h1]; unfold effV; rw [show HeaP.partT a = false from decide_eq_false (by omega), show HeaP.nodeT a = false from decide_eq_false (by omega), show HeaP.goodT a = false from decide_eq_false (by omega)], h2⟩
        clear HOf
        have p1 : decide ((1 : Int) ≤ (a : Int)) = true := decide_eq_true (by omega)
        have p1n : decide (1 ≤ a) = true := decide_eq_true (by omega)
        have p2 : decide ((a : Int) ≤ 3) = false := decide_eq_false (by omega)
        have p2n : decide (a ≤ 3) = false := decide_eq_false (by omega)
        have p3 : ((a : Int) == 2) = false := by rw [beq_eq_false_iff_ne]; omega
        have p4 : ((a : Int) == 3) = false := by rw [beq_eq_false_iff_ne]; omega
        go_wp2_with fail
        refine HK2.out.mono ?_
        rintro e w3 ⟨rfl, hb3⟩
        have HB3 := Lib.hid hb3
        clear hb3
        go_wp2_with fail
        refine (HRk2.out w3).mono ?_
        rintro e w4 ⟨rfl, hb4⟩
        have HB4 := Lib.hid (HB3.out.trans (hb4.mono HB3.out.size))
        clear hb4
        go_wp2_with fail
        refine (HOf2.out w4).mono ?_
        rintro e w5 ⟨rfl, hb5⟩
        have HB5 := Lib.hid (HB4.out.trans (hb5.mono HB4.out.size))
        clear hb5
        have HB6 : Hid (Below wc.heap.size wc (w5.alloc (.cells #[.bool false, .bool false, .bool false] 39))) := Lib.hid (HB5.out.alloc HB5.out.size _)
        have HR6 := Lib.hid (HRd.out _ HB6.out)
        have hat := heap_alloc_new w5 (.cells #[.bool false, .bool false, .bool false] 39)
        have HAT := Lib.hid hat
        clear hat
        go_wp2_with fail
        refine HR6.out.mono ?_
        rintro e w6 ⟨rfl, hb6⟩
        have r0 : w6.cell? ⟨w5.heap.size, 0, none⟩ = some (.bool false) := (hb6.cell (p := ⟨w5.heap.size, 0, none⟩) (by simp)).trans (cell_at HAT.out 0 rfl)
        have r1 : w6.cell? ⟨w5.heap.size, 1, none⟩ = some (.bool false) := (hb6.cell (p := ⟨w5.heap.size, 1, none⟩) (by simp)).trans (cell_at HAT.out 1 rfl)
        have r2 : w6.cell? ⟨w5.heap.size, 2, none⟩ = some (.bool false) := (hb6.cell (p := ⟨w5.heap.size, 2, none⟩) (by simp)).trans (cell_at HAT.out 2 rfl)
        have HB7 := Lib.hid (HB6.out.trans (hb6.mono HB6.out.size))
        clear hb6
        go_wp2_with fail
        go_ret
        exact ⟨rfl, HBc.out.trans (HB7.out.mono HBc.out.size)⟩
    | some j =>
      have hj := hko j rfl
      have HK2 : Hid (Calls Tryd.prog 15 #[v] wc (fun e w' => e = .returned (.tuple #[.int .u8 (j : Nat), .bool true]) ∧ Below wc.heap.size wc w')) := HK
      have HRk2 : Hid (∀ W, Calls Tryd.prog 16 #[.string ⟨tx.toArray⟩] W (fun e w' => e = .returned (.int .i64 (j : Nat)) ∧ Below W.heap.size W w')) := HRk
      clear HK HRk hko
      rcases hac with rfl | rfl | rfl | rfl | h4
      · have HOf2 : Hid (∀ W, Calls Tryd.prog 17 #[.int .u8 0] W (fun e w' => e = .returned (.agg #[.bool false, .bool false, .bool false]) ∧ Below W.heap.size W w')) := HOf
        clear HOf
        go_wp2_with fail
        refine HK2.out.mono ?_
        rintro e w3 ⟨rfl, hb3⟩
        have HB3 := Lib.hid hb3
        clear hb3
        go_wp2_with fail
        refine (HRk2.out w3).mono ?_
        rintro e w4 ⟨rfl, hb4⟩
        have HB4 := Lib.hid (HB3.out.trans (hb4.mono HB3.out.size))
        clear hb4
        go_wp2_with fail
        refine (HOf2.out w4).mono ?_
        rintro e w5 ⟨rfl, hb5⟩
        have HB5 := Lib.hid (HB4.out.trans (hb5.mono HB4.out.size))
        clear hb5
        have HB6 : Hid (Below wc.heap.size wc (w5.alloc (.cells #[.bool false, .bool false, .bool false] 39))) := Lib.hid (HB5.out.alloc HB5.out.size _)
        have HR6 := Lib.hid (HRd.out _ HB6.out)
        have hat := heap_alloc_new w5 (.cells #[.bool false, .bool false, .bool false] 39)
        have HAT := Lib.hid hat
        clear hat
        go_wp2_with fail
        refine HR6.out.mono ?_
        rintro e w6 ⟨rfl, hb6⟩
        have r0 : w6.cell? ⟨w5.heap.size, 0, none⟩ = some (.bool false) := (hb6.cell (p := ⟨w5.heap.size, 0, none⟩) (by simp)).trans (cell_at HAT.out 0 rfl)
        have r1 : w6.cell? ⟨w5.heap.size, 1, none⟩ = some (.bool false) := (hb6.cell (p := ⟨w5.heap.size, 1, none⟩) (by simp)).trans (cell_at HAT.out 1 rfl)
        have r2 : w6.cell? ⟨w5.heap.size, 2, none⟩ = some (.bool false) := (hb6.cell (p := ⟨w5.heap.size, 2, none⟩) (by simp)).trans (cell_at HAT.out 2 rfl)
        have HB7 := Lib.hid (HB6.out.trans (hb6.mono HB6.out.size))
        clear hb6
        go_wp2_with fail
        go_ret
        exact ⟨rfl, HBc.out.trans (HB7.out.mono HBc.out.size)⟩
      · have HOf2 : Hid (∀ W, Calls Tryd.prog 17 #[.int .u8 1] W (fun e w' => e = .returned (.agg #[.bool true, .bool false, .bool false]) ∧ Below W.heap.size W w')) := HOf
        clear HOf
        go_wp2_with fail
        refine HK2.out.mono ?_
        rintro e w3 ⟨rfl, hb3⟩
        have HB3 := Lib.hid hb3
        clear hb3
        go_wp2_with fail
        refine (HRk2.out w3).mono ?_
        rintro e w4 ⟨rfl, hb4⟩
        have HB4 := Lib.hid (HB3.out.trans (hb4.mono HB3.out.size))
        clear hb4
        go_wp2_with fail
        refine (HOf2.out w4).mono ?_
        rintro e w5 ⟨rfl, hb5⟩
        have HB5 := Lib.hid (HB4.out.trans (hb5.mono HB4.out.size))
        clear hb5
        have HB6 : Hid (Below wc.heap.size wc (w5.alloc (.cells #[.bool true, .bool false, .bool false] 39))) := Lib.hid (HB5.out.alloc HB5.out.size _)
        have HR6 := Lib.hid (HRd.out _ HB6.out)
        have hat := heap_alloc_new w5 (.cells #[.bool true, .bool false, .bool false] 39)
        have HAT := Lib.hid hat
        clear hat
        go_wp2_with fail
        refine HR6.out.mono ?_
        rintro e w6 ⟨rfl, hb6⟩
        have r0 : w6.cell? ⟨w5.heap.size, 0, none⟩ = some (.bool true) := (hb6.cell (p := ⟨w5.heap.size, 0, none⟩) (by simp)).trans (cell_at HAT.out 0 rfl)
        have r1 : w6.cell? ⟨w5.heap.size, 1, none⟩ = some (.bool false) := (hb6.cell (p := ⟨w5.heap.size, 1, none⟩) (by simp)).trans (cell_at HAT.out 1 rfl)
        have r2 : w6.cell? ⟨w5.heap.size, 2, none⟩ = some (.bool false) := (hb6.cell (p := ⟨w5.heap.size, 2, none⟩) (by simp)).trans (cell_at HAT.out 2 rfl)
        have HB7 := Lib.hid (HB6.out.trans (hb6.mono HB6.out.size))
        clear hb6
        go_wp2_with fail
        go_ret
        exact ⟨rfl, HBc.out.trans (HB7.out.mono HBc.out.size)⟩
      · have HOf2 : Hid (∀ W, Calls Tryd.prog 17 #[.int .u8 2] W (fun e w' => e = .returned (.agg #[.bool true, .bool true, .bool false]) ∧ Below W.heap.size W w')) := HOf
        clear HOf
        go_wp2_with fail
        refine HK2.out.mono ?_
        rintro e w3 ⟨rfl, hb3⟩
        have HB3 := Lib.hid hb3
        clear hb3
        go_wp2_with fail
        refine (HRk2.out w3).mono ?_
        rintro e w4 ⟨rfl, hb4⟩
        have HB4 := Lib.hid (HB3.out.trans (hb4.mono HB3.out.size))
        clear hb4
        go_wp2_with fail
        refine (HOf2.out w4).mono ?_
        rintro e w5 ⟨rfl, hb5⟩
        have HB5 := Lib.hid (HB4.out.trans (hb5.mono HB4.out.size))
        clear hb5
        have HB6 : Hid (Below wc.heap.size wc (w5.alloc (.cells #[.bool true, .bool true, .bool false] 39))) := Lib.hid (HB5.out.alloc HB5.out.size _)
        have HR6 := Lib.hid (HRd.out _ HB6.out)
        have hat := heap_alloc_new w5 (.cells #[.bool true, .bool true, .bool false] 39)
        have HAT := Lib.hid hat
        clear hat
        go_wp2_with fail
        refine HR6.out.mono ?_
        rintro e w6 ⟨rfl, hb6⟩
        have r0 : w6.cell? ⟨w5.heap.size, 0, none⟩ = some (.bool true) := (hb6.cell (p := ⟨w5.heap.size, 0, none⟩) (by simp)).trans (cell_at HAT.out 0 rfl)
        have r1 : w6.cell? ⟨w5.heap.size, 1, none⟩ = some (.bool true) := (hb6.cell (p := ⟨w5.heap.size, 1, none⟩) (by simp)).trans (cell_at HAT.out 1 rfl)
        have r2 : w6.cell? ⟨w5.heap.size, 2, none⟩ = some (.bool false) := (hb6.cell (p := ⟨w5.heap.size, 2, none⟩) (by simp)).trans (cell_at HAT.out 2 rfl)
        have HB7 := Lib.hid (HB6.out.trans (hb6.mono HB6.out.size))
        clear hb6
        go_wp2_with fail
        go_ret
        exact ⟨rfl, HBc.out.trans (HB7.out.mono HBc.out.size)⟩
      · have HOf2 : Hid (∀ W, Calls Tryd.prog 17 #[.int .u8 3] W (fun e w' => e = .returned (.agg #[.bool true, .bool true, .bool true]) ∧ Below W.heap.size W w')) := HOf
        clear HOf
        go_wp2_with fail
        refine HK2.out.mono ?_
        rintro e w3 ⟨rfl, hb3⟩
        have HB3 := Lib.hid hb3
        clear hb3
        go_wp2_with fail
        refine (HRk2.out w3).mono ?_
        rintro e w4 ⟨rfl, hb4⟩
        have HB4 := Lib.hid (HB3.out.trans (hb4.mono HB3.out.size))
        clear hb4
        go_wp2_with fail
        refine (HOf2.out w4).mono ?_
        rintro e w5 ⟨rfl, hb5⟩
        have HB5 := Lib.hid (HB4.out.trans (hb5.mono HB4.out.size))
        clear hb5
        have HB6 : Hid (Below wc.heap.size wc (w5.alloc (.cells #[.bool true, .bool true, .bool true] 39))) := Lib.hid (HB5.out.alloc HB5.out.size _)
        have HR6 := Lib.hid (HRd.out _ HB6.out)
        have hat := heap_alloc_new w5 (.cells #[.bool true, .bool true, .bool true] 39)
        have HAT := Lib.hid hat
        clear hat
        go_wp2_with fail
        refine HR6.out.mono ?_
        rintro e w6 ⟨rfl, hb6⟩
        have r0 : w6.cell? ⟨w5.heap.size, 0, none⟩ = some (.bool true) := (hb6.cell (p := ⟨w5.heap.size, 0, none⟩) (by simp)).trans (cell_at HAT.out 0 rfl)
        have r1 : w6.cell? ⟨w5.heap.size, 1, none⟩ = some (.bool true) := (hb6.cell (p := ⟨w5.heap.size, 1, none⟩) (by simp)).trans (cell_at HAT.out 1 rfl)
        have r2 : w6.cell? ⟨w5.heap.size, 2, none⟩ = some (.bool true) := (hb6.cell (p := ⟨w5.heap.size, 2, none⟩) (by simp)).trans (cell_at HAT.out 2 rfl)
        have HB7 := Lib.hid (HB6.out.trans (hb6.mono HB6.out.size))
        clear hb6
        go_wp2_with fail
        go_ret
        exact ⟨rfl, HBc.out.trans (HB7.out.mono HBc.out.size)⟩
      · have HOf2 : Hid (∀ W, Calls Tryd.prog 17 #[.int .u8 (a : Nat)] W (fun e w' => e = .returned (.agg #[.bool false, .bool false, .bool false]) ∧ Below W.heap.size W w')) := Lib.hid fun W => (HOf.out W).mono fun e w' ⟨h1, h2⟩ => ⟨by rw [h1]; unfold effV; rw [show HeaP.partT a = false from decide_eq_false (by omega), show HeaP.nodeT a = false from decide_eq_false (by omega), show HeaP.goodT a = false from decide_eq_false (by omega)], h2⟩
        clear HOf
        have p1 : decide ((1 : Int) ≤ (a : Int)) = true := decide_eq_true (by omega)
        have p1n : decide (1 ≤ a) = true := decide_eq_true (by omega)
        have p2 : decide ((a : Int) ≤ 3) = false := decide_eq_false (by omega)
        have p2n : decide (a ≤ 3) = false := decide_eq_false (by omega)
        have p3 : ((a : Int) == 2) = false := by rw [beq_eq_false_iff_ne]; omega
        have p4 : ((a : Int) == 3) = false := by rw [beq_eq_false_iff_ne]; omega
        go_wp2_with fail
        refine HK2.out.mono ?_
        rintro e w3 ⟨rfl, hb3⟩
        have HB3 := Lib.hid hb3
        clear hb3
        go_wp2_with fail
        refine (HRk2.out w3).mono ?_
        rintro e w4 ⟨rfl, hb4⟩
        have HB4 := Lib.hid (HB3.out.trans (hb4.mono HB3.out.size))
        clear hb4
        go_wp2_with fail
        refine (HOf2.out w4).mono ?_
        rintro e w5 ⟨rfl, hb5⟩
        have HB5 := Lib.hid (HB4.out.trans (hb5.mono HB4.out.size))
        clear hb5
        have HB6 : Hid (Below wc.heap.size wc (w5.alloc (.cells #[.bool false, .bool false, .bool false] 39))) := Lib.hid (HB5.out.alloc HB5.out.size _)
        have HR6 := Lib.hid (HRd.out _ HB6.out)
        have hat := heap_alloc_new w5 (.cells #[.bool false, .bool false, .bool false] 39)
        have HAT := Lib.hid hat
        clear hat
        go_wp2_with fail
        refine HR6.out.mono ?_
        rintro e w6 ⟨rfl, hb6⟩
        have r0 : w6.cell? ⟨w5.heap.size, 0, none⟩ = some (.bool false) := (hb6.cell (p := ⟨w5.heap.size, 0, none⟩) (by simp)).trans (cell_at HAT.out 0 rfl)
        have r1 : w6.cell? ⟨w5.heap.size, 1, none⟩ = some (.bool false) := (hb6.cell (p := ⟨w5.heap.size, 1, none⟩) (by simp)).trans (cell_at HAT.out 1 rfl)
        have r2 : w6.cell? ⟨w5.heap.size, 2, none⟩ = some (.bool false) := (hb6.cell (p := ⟨w5.heap.size, 2, none⟩) (by simp)).trans (cell_at HAT.out 2 rfl)
        have HB7 := Lib.hid (HB6.out.trans (hb6.mono HB6.out.size))
        clear hb6
        go_wp2_with fail
        go_ret
        exact ⟨rfl, HBc.out.trans (HB7.out.mono HBc.out.size)⟩
end Go.Proofs.YtabndibenffngaaDoor
