/- MemberHears: true. Conditions: where the frames lie. -/
import Derived.Test.YtkahecdnmeofkaaMbrW
import Derived.Test.YtkahecdnmeofkaaMbrArg
import Derived.Test.YtkahecdnmeofkaaFraJ
import Derived.Deep.DeepCutAuto
namespace Go.Proofs.Ytkahecdnmeofkaa
open Go.RowKit
set_option maxRecDepth 100000

def StB (N r m : Nat) (W : World) : Prop := W.heap[N]? = some (.cells #[.int .u32 (r : Nat), .int .u8 (m : Nat)] 36 (0, 0))
theorem StB.below {N r m : Nat} {W W' : World} (h : StB N r m W) (hb : Below W.heap.size W W') : StB N r m W' := (hb.block _ (lt_of_block h)).trans h
theorem JS.start {w W : World} {b rb sr sm : Nat} {known : Bool} (hb : HeardIn W b sr sm known 0 zeros7) (hr : W.heap[rb]? = some (.cells (refCs sr sm known (.slice none 0 0)) 43 (0, 0))) (hl : Below w.heap.size w W) (h1 : w.heap.size ≤ b) (h2 : w.heap.size ≤ rb) (h3 : b ≠ rb) :
    JS w b rb w.heap.size sr sm known (.slice none 0 0) 0 zeros7 [] W :=
  ⟨hb, fun x hx => by
    rw [List.eq_of_mem_replicate hx]
    exact ⟨fun h => absurd h (by simp [zeroC]), fun y hy => absurd hy (by simp [zeroC]), fun h => absurd h (by simp [zeroC])⟩, ⟨hr, ⟨rfl, .inl ⟨rfl, rfl⟩⟩⟩, JJ.start, fun x hx => (by cases hx), hl, h1, h2, Nat.le_refl _, h3⟩
/-- Both, whatever they heard. -/
def MhJ (w : World) (b rb sr sm : Nat) (known : Bool) (W : World) : Prop := ∃ v s fs got, JS w b rb w.heap.size sr sm known v s fs got W
def MhR (w : World) (b rb sr sm n : Nat) (known : Bool) (iv : Value) (W : World) : Prop := ∃ i, i ≤ n ∧ i ≤ 60 ∧ iv = .int .i64 (i : Nat) ∧ MhJ w b rb sr sm known W
/-- The arguments, and a frame in a box. -/
def MhS (w : World) (q : Nat) (cs : Array Value) (W : World) : Prop := Below w.heap.size w W ∧ W.heap[q]? = some (.cells cs 51 (0, 0))
theorem MhS.apart {w : World} {q : Nat} {cs : Array Value} {W W' : World} (h : MhS w q cs W) {F : Nat → Prop} (ha : Apart F W W') (hF : ∀ k, F k → w.heap.size ≤ k) (hq : ¬ F q) : MhS w q cs W' := ⟨h.1.trans (ha.below h.1.size hF), (ha.block q (lt_of_block h.2) hq).trans h.2⟩
theorem MhS.below {w : World} {q : Nat} {cs : Array Value} {W W' : World} (h : MhS w q cs W) (hb : Below W.heap.size W W') : MhS w q cs W' := ⟨h.1.trans (hb.mono h.1.size), (hb.block q (lt_of_block h.2)).trans h.2⟩
/-- Where a row's k-th frame lies. -/
theorem row_at {W : World} {B n : Nat} {A : Option Addr} {c : Nat} {ys : List FrameC} (h : FrRow W B (.slice A n c) n ys) {k : Nat} {x : FrameC} (hx : ys[k]? = some x) : ∃ g, A = some ⟨g, 0, none⟩ ∧ Hid (∀ W', Below W.heap.size W W' → ∀ j u, x.cells[j]? = some u → W'.cell? ⟨g, k * 9 + j, none⟩ = some u) := by
  have hl := h.len
  subst hl
  have hr : RefH (W.alloc (.cells (refCs 0 0 false (.slice A ys.length c)) 43)) B W.heap.size 0 0 false (.slice A ys.length c) ys := ⟨heap_alloc_new W _, ikeep h.own ((Below.refl _ W).alloc (Nat.le_refl _) _)⟩
  obtain ⟨g, e, -, -⟩ := hr.fr hx
  refine ⟨g, e, Lib.hid fun W' hW j u hu => ?_⟩
  subst e
  have h1 := ikeep h.own hW
  have hr' : RefH (W'.alloc (.cells (refCs 0 0 false (.slice (some ⟨g, 0, none⟩) ys.length c)) 43)) B W'.heap.size 0 0 false (.slice (some ⟨g, 0, none⟩) ys.length c) ys := ⟨heap_alloc_new W' _, ikeep h1 ((Below.refl _ W').alloc (Nat.le_refl _) _)⟩
  obtain ⟨g', e', -, hc⟩ := hr'.fr hx
  cases e'
  have h2 := hc j u hu
  rwa [World.cell?_alloc_lt W' _ ⟨g, k * 9 + j, none⟩ (h1.lt g rfl).2] at h2
set_option maxHeartbeats 4000000 in
theorem mhears_law (sr sm : Nat) (known : Bool) (A : Option Addr) (n cap : Nat) (l : List CameC) (hl : l.length = n) (hn : n ≤ 140737488355328) (w : World) (h : CamesIn w A l) : Calls Try.prog 4 #[stampV sr sm, .bool known, .slice A n cap] w (MTrue12 w) := by
  have HA := Lib.hid (fun W => awake12_any W)
  have HB0 := Lib.hid ((Below.refl w.heap.size w).alloc (Nat.le_refl _) (.cells #[.int .u32 (sr : Nat), .int .u8 (sm : Nat)] 36))
  have hn0 := heap_alloc_new w (.cells #[.int .u32 (sr : Nat), .int .u8 (sm : Nat)] 36)
  have HLi := Lib.hid (fun W => listen_any sr sm known W)
  have HI := Lib.hid (fun W (hW : Below w.heap.size w W) => h.below hW)
  have HArgs := Lib.hid h
  have Hl := Lib.hid hl
  unfold MTrue12 at *
  unfold ListenP at HLi
  unfold stampV hv at *
  clear h hl
  go_enter Try.func4, Try.ntmps4
  go_wp2_with fail
  refine (HA.out _).mono ?_
  rintro e w1 ⟨rfl, hb1⟩
  have hd1 : StB w.heap.size sr sm w1 := (hb1.block w.heap.size (by simp)).trans hn0
  have hb01 := HB0.out.trans (hb1.mono (by simp))
  have hs1 : w.heap.size < w1.heap.size := lt_of_block hd1
  clear hb1 hn0 HA HB0
  go_upto_region 3 with (fail)
  go_cut [7, 8] from 21 (fun p r wx => ∃ b rb, p = .pointer (some ⟨b, 0, none⟩) ∧ r = .pointer (some ⟨rb, 0, none⟩) ∧ JS w b rb w.heap.size sr sm known (.slice none 0 0) 0 zeros7 [] wx)
  case first =>
    have k0 : ∀ W, StB w.heap.size sr sm W → W.cell? ⟨w.heap.size, 0, none⟩ = some (.int .u32 (sr : Nat)) := fun W hW => cell_at hW 0 rfl
    have k1 : ∀ W, StB w.heap.size sr sm W → W.cell? ⟨w.heap.size, 1, none⟩ = some (.int .u8 (sm : Nat)) := fun W hW => cell_at hW 1 rfl
    have hd0 : StB w.heap.size sr sm w1.drew := hd1
    have Hb1 := Lib.hid hb01
    clear hd1 hb01
    go_wp2_with fail
    refine wp_region_held_drew (S := fun W => StB w.heap.size sr sm W) (by kernel_rfl) hd0 (fun _ => ?_)
    refine tkH 0 (by simp only [tkA]; rfl) (by kernel_rfl) (by exact fun _ _ _ h => h) (by rfl) (by intro W hW; go_simp <;> with_reducible rfl) hd0 ?_
    try simp only [Act.put, tkT, tk0, tkS]
    refine tkH 1 (by simp only [tkA, tkG]; rfl) (by kernel_rfl) (by exact fun _ _ _ h => h) (by rfl) (by intro W hW; go_simp <;> with_reducible rfl) hd0 ?_
    try simp only [Act.put, tkT, tk0, tkS]
    refine tkH 3 (by simp only [tkA, tkG]; rfl) (by kernel_rfl) (by exact fun _ _ _ h => h) (by rfl) (by intro W hW; go_simp <;> with_reducible rfl) hd0 ?_
    try simp only [Act.put, tkT, tk0, tkS]
    refine tkH 4 (by simp only [tkA, tkG]; rfl) (by kernel_rfl) (by exact fun _ _ _ h => h) (by rfl) (by intro W hW; go_simp <;> with_reducible rfl) hd0 ?_
    try simp only [Act.put, tkT, tk0, tkS]
    refine tkH 5 (by simp only [tkA, tkG]; rfl) (by kernel_rfl) (by exact fun _ _ _ h => h) (by rfl) (by intro W hW; go_simp <;> with_reducible rfl) hd0 ?_
    try simp only [Act.put, tkT, tk0, tkS]
    refine wpAnyH_ready (rs := [2, 6]) (by kernel_rfl) (by simp) (AllReadyH.cons (by simp only [tkA, tkG]; rfl) (fun K hK => ?_) (AllReadyH.cons (by simp only [tkA, tkG]; rfl) (fun K hK => ?_) AllReadyH.nil))
    · go_simp
      refine (HLi.out _).mono ?_
      rintro e w2 ⟨b, rfl, hh, hlo, hb2⟩
      have hd2 := hd0.below hb2
      have hd3 := hd2.below ((Below.refl _ w2).alloc (Nat.le_refl _) (.cells (refCs sr sm known (.slice none 0 0)) 43))
      have HE := Lib.hid (JS.start (w := w) (rb := w2.heap.size) (hh.below ((Below.refl _ w2).alloc (Nat.le_refl _) (.cells (refCs sr sm known (.slice none 0 0)) 43))) (heap_new_at w2 _ _ rfl) ((Hb1.out.trans ((Below.refl _ w1).drew.trans hb2 |>.mono Hb1.out.size)).trans (((Below.refl _ w2).alloc (Nat.le_refl _) _).mono (by have := Hb1.out.size; have := hb2.size; simp at this; omega))) (by have := Hb1.out.size; simp at hlo; omega) (by have := Hb1.out.size; have := hb2.size; simp at this; omega) (by have := hh.size; omega))
      clear hh hlo hb2
      unfold refCs at hd3 HE
      go_wp2_with fail
      refine hK.out _ _ hd2 (fun _ => ?_)
      clear hK K
      refine tkH 7 (by simp only [tkA, tkG]; rfl) (by kernel_rfl) (by exact fun _ _ _ h => h) (by rfl) (by intro W hW; go_simp <;> with_reducible rfl) hd2 ?_
      try simp only [Act.put, tkT, tk0, tkS]
      refine clH 6 (by kernel_rfl) (by simp only [tkA, tkG]; rfl) (fun K hK => ?_)
      go_simp
      go_wp2_with fail
      refine hK.out _ _ hd3 (fun _ => ?_)
      clear hK K
      refine tkH 8 (by simp only [tkA, tkG]; rfl) (by kernel_rfl) (by exact fun _ _ _ h => h) (by rfl) (by intro W hW; go_simp <;> with_reducible rfl) hd3 ?_
      try simp only [Act.put, tkT, tk0, tkS]
      refine wpAnyH_done (by kernel_rfl) ?_ _
      go_wp2_with fail
      go_meet
      exact ⟨_, _, rfl, rfl, HE.out⟩
    · go_simp
      have hd2 : StB w.heap.size sr sm (w1.alloc (.cells (refCs sr sm known (.slice none 0 0)) 43)).drew := StB.below (W := w1) (show StB _ _ _ w1 from hd0) (((Below.refl w1.heap.size w1).alloc (Nat.le_refl _) _).drew)
      have hr2 : (w1.alloc (.cells (refCs sr sm known (.slice none 0 0)) 43)).drew.heap[w1.heap.size]? = some (.cells (refCs sr sm known (.slice none 0 0)) 43 (0, 0)) := heap_alloc_new w1 _
      have hb12 : Below w.heap.size w (w1.alloc (.cells (refCs sr sm known (.slice none 0 0)) 43)).drew := (Hb1.out.alloc Hb1.out.size _).drew
      have hs2 : w1.heap.size < (w1.alloc (.cells (refCs sr sm known (.slice none 0 0)) 43)).drew.heap.size := lt_of_block hr2
      unfold refCs at hd2
      refine hK.out _ _ hd2 (fun _ => ?_)
      clear hK K
      refine clH 2 (by kernel_rfl) (by simp only [tkA, tkG]; rfl) (fun K hK => ?_)
      go_simp
      refine (HLi.out _).mono ?_
      rintro e w2 ⟨b, rfl, hh, hlo, hb2⟩
      have hd3 := hd2.below hb2
      have HE := Lib.hid (JS.start (w := w) hh ((hb2.block _ hs2).trans hr2) (hb12.trans (hb2.mono hb12.size)) (Nat.le_trans hb12.size hlo) Hb1.out.size (by have h1 : w1.heap.size + 1 ≤ b := Nat.le_trans hs2 hlo; omega))
      clear hh hlo hb2 hr2 hb12 hs2
      unfold refCs at HE
      go_wp2_with fail
      refine hK.out _ _ hd3 (fun _ => ?_)
      clear hK K
      refine tkH 7 (by simp only [tkA, tkG]; rfl) (by kernel_rfl) (by exact fun _ _ _ h => h) (by rfl) (by intro W hW; go_simp <;> with_reducible rfl) hd3 ?_
      try simp only [Act.put, tkT, tk0, tkS]
      refine tkH 8 (by simp only [tkA, tkG]; rfl) (by kernel_rfl) (by exact fun _ _ _ h => h) (by rfl) (by intro W hW; go_simp <;> with_reducible rfl) hd3 ?_
      try simp only [Act.put, tkT, tk0, tkS]
      refine wpAnyH_done (by kernel_rfl) ?_ _
      go_wp2_with fail
      go_meet
      exact ⟨_, _, rfl, rfl, HE.out⟩
  case rest =>
    --REST
    obtain ⟨b, rb, rfl, rfl, hJ⟩ := hcut
    have HS0 : Hid (MhR w b rb sr sm n known (.int .i64 0) wc) := Lib.hid ⟨0, Nat.zero_le _, by omega, rfl, _, _, _, _, hJ⟩
    clear hJ hd1 hb01 HLi
    go_wp2_with fail
    go_loopw [9] (MhR w b rb sr sm n known) (fun i _ => (61 - intOf i).toNat)
    case atStart => exact HS0.out
    case round =>
      clear HS0
      obtain ⟨i, hin, hi60, rfl, v, s, fs, got, hJ⟩ := hrel
      by_cases hi : i < n
      case neg =>
        obtain rfl : i = n := by omega
        have q1 : decide ((i : Int) < (i : Int)) = false := decide_eq_false (by omega)
        have hOr := hJ.rel.right known (sr, sm)
        have HP := Lib.hid (fun W (hW : Below wr.heap.size wr W) => right_any sr sm s known fs b W (hJ.prog.below hW))
        have HQ := Lib.hid (fun W (hW : Below wr.heap.size wr W) => refright_any w.heap.size rb sr sm known v got hJ.rel.len W (hJ.ref.below hW))
        have HS := Lib.hid (fun W (hW : Below wr.heap.size wr W) => refframes_any w.heap.size rb sr sm known v got hJ.rel.len W (hJ.ref.below hW) (fun x hx => (hJ.args x hx).below (hJ.low.trans (hW.mono hJ.low.size))) (fun x hx => (hJ.rel.same x hx).1))
        have HT := Lib.hid (fun W (hW : Below wr.heap.size wr W) => frames_any sr sm s known fs b W (hJ.prog.below hW))
        have HM := Lib.hid (fun W (hW : Below wr.heap.size wr W) => members_any sr sm s known fs b W (hJ.prog.below hW))
        rw [hOr] at HQ HS
        have HFs := Lib.hid (fun ys m => hJ.rel.frames (MbrP.rightT known (sr, sm) (stamps s fs)) (ys := ys) (m := m))
        have Hlow := Lib.hid hJ.low
        unfold RightP at HP HQ
        unfold RFramesP at HS
        unfold FramesP at HT
        unfold MemP at HM
        generalize MbrP.rightT known (sr, sm) (stamps s fs) = O at *
        generalize memT s fs O = me at *
        have hll := MbrP.lst_length me
        generalize MbrP.lst me = LL at *
        obtain ⟨xr, xm, ok, hrv⟩ : ∃ (xr xm : Nat) (ok : Bool), rightV O = .tuple #[.agg #[.int .u32 (xr : Nat), .int .u8 (xm : Nat)], .bool ok] := by
          cases O with
          | none => exact ⟨0, 0, false, rfl⟩
          | some x => exact ⟨x.1, x.2, true, rfl⟩
        rw [hrv] at HP HQ
        unfold hv at HP HQ HS HT HM
        unfold setV at HS HM
        clear hJ hOr hrv HI HArgs
        go_wp2_with fail
        refine (HP.out _ (Below.refl _ _)).mono ?_
        rintro e w2 ⟨rfl, hb2⟩
        have hn2 := heap_alloc_new w2 (.cells #[.int .u32 (xr : Nat), .int .u8 (xm : Nat)] 36)
        have HB2 := Lib.hid (hb2.alloc hb2.size (.cells #[.int .u32 (xr : Nat), .int .u8 (xm : Nat)] 36))
        have HN2 := Lib.hid hn2
        clear hb2 hn2 HP
        go_wp2_with fail
        refine (HQ.out _ HB2.out).mono ?_
        rintro e w3 ⟨rfl, hb3⟩
        have hn3 := heap_alloc_new w3 (.cells #[.int .u32 (xr : Nat), .int .u8 (xm : Nat)] 36)
        have hb23 := HB2.out.trans (hb3.mono HB2.out.size)
        have HB3 := Lib.hid (hb23.alloc hb23.size (.cells #[.int .u32 (xr : Nat), .int .u8 (xm : Nat)] 36))
        have hn23 := (hb3.block _ (lt_of_block HN2.out)).trans HN2.out
        have HN3 := Lib.hid hn3
        have HN23 := Lib.hid ((Below.heap_alloc w3 (.cells #[.int .u32 (xr : Nat), .int .u8 (xm : Nat)] 36) _ (lt_of_block hn23)).trans hn23)
        clear hb3 hn3 hn23 hb23 HB2 HN2 HQ
        go_wp2_with fail
        refine (HS.out _ HB3.out).mono ?_
        rintro e w4 ⟨v4, ys4, m4, rfl, hr4, he4, hb4⟩
        obtain ⟨hm4, hp4⟩ := HFs.out ys4 m4 he4
        subst hm4
        obtain ⟨A4, c4, rfl, -⟩ := own_slice hr4.own
        have HB4 := Lib.hid (HB3.out.trans (hb4.mono HB3.out.size))
        have HR4 := Lib.hid hr4
        have HN4 := Lib.hid ((hb4.block _ (lt_of_block HN3.out)).trans HN3.out)
        have HN24 := Lib.hid ((hb4.block _ (lt_of_block HN23.out)).trans HN23.out)
        clear hr4 he4 hb4 HB3 HN3 HN23 HS HFs
        go_wp2_with fail
        refine (HT.out _ HB4.out).mono ?_
        rintro e w5 ⟨v5, ys5, rfl, hr5, hp5, hb5⟩
        have hl4 : ys4.length = LL.length := by have := congrArg List.length hp4; simpa using this
        have hl5 : ys5.length = LL.length := by have := congrArg List.length hp5; simpa using this
        obtain ⟨A5, c5, rfl, -⟩ := own_slice hr5.own
        have HB5 := Lib.hid (HB4.out.trans (hb5.mono HB4.out.size))
        have HR5 := Lib.hid hr5
        have HR45 := Lib.hid (HR4.out.below hb5)
        have h35 := (hb5.block _ (lt_of_block HN4.out)).trans HN4.out
        have h25 := (hb5.block _ (lt_of_block HN24.out)).trans HN24.out
        have s0 := cell_at h25 0 rfl
        have s1 := cell_at h25 1 rfl
        have t0 := cell_at h35 0 rfl
        have t1 := cell_at h35 1 rfl
        have Hpp := Lib.hid (hp5.trans hp4.symm)
        rw [hl4] at HR45
        rw [hl4]
        clear hr5 hp5 hp4 hb5 HB4 HR4 HN4 HN24 h35 h25 HT
        generalize LL.length = N at *
        go_wp2_with fail
        refine (HM.out _ HB5.out).mono ?_
        rintro e w6 ⟨rfl, hb6⟩
        have HB6 := Lib.hid (Hlow.out.trans ((HB5.out.trans (hb6.mono HB5.out.size)).mono Hlow.out.size))
        have HR6 := Lib.hid (HR5.out.below hb6)
        have HR46 := Lib.hid (HR45.out.below hb6)
        clear hb6 s0 s1 t0 t1 HB5 HR5 HR45 HM Hlow
        go_wp2_with fail
        go_loopw [105] (fun iv W => ∃ k, k ≤ N ∧ iv = .int .i64 (k : Nat) ∧ Below w6.heap.size w6 W) (fun iv _ => (8 - intOf iv).toNat)
        case atStart => exact ⟨0, Nat.zero_le _, rfl, Below.refl _ _⟩
        case round =>
          obtain ⟨k, hk, rfl, hb⟩ := hrel
          by_cases hkN : k < N
          case neg =>
            obtain rfl : k = N := by omega
            have q8 : decide ((k : Int) < (k : Int)) = false := decide_eq_false (by omega)
            have HE := Lib.hid (HB6.out.trans (hb.mono HB6.out.size))
            clear hb hk hkN
            go_wp2_with fail
            go_ret
            exact ⟨rfl, HE.out⟩
          have q8 : decide ((k : Int) < (N : Int)) = true := decide_eq_true (by omega)
          have hkz : (k : Int) < (N : Int) := by omega
          have e8 : IntKind.i64.wrap ((k : Int) + 1) = (k : Int) + 1 := IntWalk.i64_in _ (by omega)
          obtain ⟨x, hx⟩ : ∃ x, ys5[k]? = some x := ⟨_, List.getElem?_eq_getElem (by omega)⟩
          obtain ⟨y, hy⟩ : ∃ y, ys4[k]? = some y := ⟨_, List.getElem?_eq_getElem (by omega)⟩
          have hxy : x.plain = y.plain := by
            have h1 := congrArg (fun l => l[k]?) Hpp.out
            simp only [List.getElem?_map, hx, hy, Option.map_some] at h1
            exact Option.some.inj h1
          have HSm := Lib.hid (fun W (hW : Below w6.heap.size w6 W) => same_any x y W ((HR6.out.ok x (List.mem_of_getElem? hx)).1.below hW) ((HR46.out.ok y (List.mem_of_getElem? hy)).1.below hW) hxy)
          obtain ⟨g5, rfl, HX⟩ := row_at (hl5 ▸ HR6.out) hx
          obtain ⟨g4, rfl, HY⟩ := row_at (hl4 ▸ HR46.out) hy
          have hd0 : Below w6.heap.size w6 wr.drew := hb.drew
          clear hb hx hy hxy
          obtain ⟨x0, x1, x2, x3, x4, x5, x6, x7, x8, x9, x10, x11, x12, x13, x14⟩ := x
          obtain ⟨y0, y1, y2, y3, y4, y5, y6, y7, y8, y9, y10, y11, y12, y13, y14⟩ := y
          simp only [FrameC.value] at HSm
          have kx0 : ∀ W, Below w6.heap.size w6 W → W.cell? ⟨g5, k * 9, none⟩ = some (.int .u8 (x0 : Nat)) := fun W hW => HX.out W hW 0 _ rfl
          have kx1 : ∀ W, Below w6.heap.size w6 W → W.cell? ⟨g5, k * 9 + 1, none⟩ = some (.int .u32 (x1 : Nat)) := fun W hW => HX.out W hW 1 _ rfl
          have kx2 : ∀ W, Below w6.heap.size w6 W → W.cell? ⟨g5, k * 9 + 2, none⟩ = some (.int .u8 (x2 : Nat)) := fun W hW => HX.out W hW 2 _ rfl
          have kx3 : ∀ W, Below w6.heap.size w6 W → W.cell? ⟨g5, k * 9 + 3, none⟩ = some (.slice x3 x4 x5) := fun W hW => HX.out W hW 3 _ rfl
          have kx4 : ∀ W, Below w6.heap.size w6 W → W.cell? ⟨g5, k * 9 + 4, none⟩ = some (.int .u8 (x7 : Nat)) := fun W hW => HX.out W hW 4 _ rfl
          have kx5 : ∀ W, Below w6.heap.size w6 W → W.cell? ⟨g5, k * 9 + 5, none⟩ = some (.int .u8 (x8 : Nat)) := fun W hW => HX.out W hW 5 _ rfl
          have kx6 : ∀ W, Below w6.heap.size w6 W → W.cell? ⟨g5, k * 9 + 6, none⟩ = some (.int .u16 (x9 : Nat)) := fun W hW => HX.out W hW 6 _ rfl
          have kx7 : ∀ W, Below w6.heap.size w6 W → W.cell? ⟨g5, k * 9 + 7, none⟩ = some (.int .u16 (x10 : Nat)) := fun W hW => HX.out W hW 7 _ rfl
          have kx8 : ∀ W, Below w6.heap.size w6 W → W.cell? ⟨g5, k * 9 + 8, none⟩ = some (.slice x11 x12 x13) := fun W hW => HX.out W hW 8 _ rfl
          have ky0 : ∀ W, Below w6.heap.size w6 W → W.cell? ⟨g4, k * 9, none⟩ = some (.int .u8 (y0 : Nat)) := fun W hW => HY.out W hW 0 _ rfl
          have ky1 : ∀ W, Below w6.heap.size w6 W → W.cell? ⟨g4, k * 9 + 1, none⟩ = some (.int .u32 (y1 : Nat)) := fun W hW => HY.out W hW 1 _ rfl
          have ky2 : ∀ W, Below w6.heap.size w6 W → W.cell? ⟨g4, k * 9 + 2, none⟩ = some (.int .u8 (y2 : Nat)) := fun W hW => HY.out W hW 2 _ rfl
          have ky3 : ∀ W, Below w6.heap.size w6 W → W.cell? ⟨g4, k * 9 + 3, none⟩ = some (.slice y3 y4 y5) := fun W hW => HY.out W hW 3 _ rfl
          have ky4 : ∀ W, Below w6.heap.size w6 W → W.cell? ⟨g4, k * 9 + 4, none⟩ = some (.int .u8 (y7 : Nat)) := fun W hW => HY.out W hW 4 _ rfl
          have ky5 : ∀ W, Below w6.heap.size w6 W → W.cell? ⟨g4, k * 9 + 5, none⟩ = some (.int .u8 (y8 : Nat)) := fun W hW => HY.out W hW 5 _ rfl
          have ky6 : ∀ W, Below w6.heap.size w6 W → W.cell? ⟨g4, k * 9 + 6, none⟩ = some (.int .u16 (y9 : Nat)) := fun W hW => HY.out W hW 6 _ rfl
          have ky7 : ∀ W, Below w6.heap.size w6 W → W.cell? ⟨g4, k * 9 + 7, none⟩ = some (.int .u16 (y10 : Nat)) := fun W hW => HY.out W hW 7 _ rfl
          have ky8 : ∀ W, Below w6.heap.size w6 W → W.cell? ⟨g4, k * 9 + 8, none⟩ = some (.slice y11 y12 y13) := fun W hW => HY.out W hW 8 _ rfl
          clear HX HY
          go_wp2_with fail
          refine wp_region_held_drew (S := fun W => Below w6.heap.size w6 W) (by kernel_rfl) hd0 (fun _ => ?_)
          refine tkH 0 (by simp only [tkA]; rfl) (by kernel_rfl) (by exact fun _ _ _ h => h) (by rfl) (by intro W hW; go_simp <;> with_reducible rfl) hd0 ?_
          try simp only [Act.put, tkT, tk0, tkS]
          refine tkH 1 (by simp only [tkA, tkG]; rfl) (by kernel_rfl) (by exact fun _ _ _ h => h) (by rfl) (by intro W hW; go_simp <;> with_reducible rfl) hd0 ?_
          try simp only [Act.put, tkT, tk0, tkS]
          refine tkH 2 (by simp only [tkA, tkG]; rfl) (by kernel_rfl) (by exact fun _ _ _ h => h) (by rfl) (by intro W hW; go_simp <;> with_reducible rfl) hd0 ?_
          try simp only [Act.put, tkT, tk0, tkS]
          refine tkH 3 (by simp only [tkA, tkG]; rfl) (by kernel_rfl) (by exact fun _ _ _ h => h) (by rfl) (by intro W hW; go_simp <;> with_reducible rfl) hd0 ?_
          try simp only [Act.put, tkT, tk0, tkS]
          refine tkH 4 (by simp only [tkA, tkG]; rfl) (by kernel_rfl) (by exact fun _ _ _ h => h) (by rfl) (by intro W hW; go_simp <;> with_reducible rfl) hd0 ?_
          try simp only [Act.put, tkT, tk0, tkS]
          refine tkH 5 (by simp only [tkA, tkG]; rfl) (by kernel_rfl) (by exact fun _ _ _ h => h) (by rfl) (by intro W hW; go_simp <;> with_reducible rfl) hd0 ?_
          try simp only [Act.put, tkT, tk0, tkS]
          refine tkH 6 (by simp only [tkA, tkG]; rfl) (by kernel_rfl) (by exact fun _ _ _ h => h) (by rfl) (by intro W hW; go_simp <;> with_reducible rfl) hd0 ?_
          try simp only [Act.put, tkT, tk0, tkS]
          refine tkH 7 (by simp only [tkA, tkG]; rfl) (by kernel_rfl) (by exact fun _ _ _ h => h) (by rfl) (by intro W hW; go_simp <;> with_reducible rfl) hd0 ?_
          try simp only [Act.put, tkT, tk0, tkS]
          refine clH 8 (by kernel_rfl) (by simp only [tkA, tkG]; rfl) (fun K hK => ?_)
          go_simp
          refine (HSm.out _ hd0).mono ?_
          rintro e w8 ⟨rfl, hb8⟩
          have hd8 := hd0.trans (hb8.mono hd0.size)
          clear hb8 hd0 HSm
          go_wp2_with fail
          refine hK.out _ _ hd8 (fun _ => ?_)
          clear hK K
          refine tkH 9 (by simp only [tkA, tkG]; rfl) (by kernel_rfl) (by exact fun _ _ _ h => h) (by rfl) (by intro W hW; go_simp <;> with_reducible rfl) hd8 ?_
          try simp only [Act.put, tkT, tk0, tkS]
          refine wpAnyH_done (by kernel_rfl) ?_ _
          clear kx0 kx1 kx2 kx3 kx4 kx5 kx6 kx7 kx8 ky0 ky1 ky2 ky3 ky4 ky5 ky6 ky7 ky8
          go_wp2_with fail
          go_roundw
          case rel => exact ⟨k + 1, hkN, by go_num, hd8⟩
          case measure => simp [intOf]; omega
      have q1 : decide ((i : Int) < (n : Int)) = true := decide_eq_true (by omega)
      by_cases hi6 : i < 60
      case neg =>
        have q2 : decide ((i : Int) < 60) = false := decide_eq_false (by omega)
        have hOr := hJ.rel.right known (sr, sm)
        have HP := Lib.hid (fun W (hW : Below wr.heap.size wr W) => right_any sr sm s known fs b W (hJ.prog.below hW))
        have HQ := Lib.hid (fun W (hW : Below wr.heap.size wr W) => refright_any w.heap.size rb sr sm known v got hJ.rel.len W (hJ.ref.below hW))
        have HS := Lib.hid (fun W (hW : Below wr.heap.size wr W) => refframes_any w.heap.size rb sr sm known v got hJ.rel.len W (hJ.ref.below hW) (fun x hx => (hJ.args x hx).below (hJ.low.trans (hW.mono hJ.low.size))) (fun x hx => (hJ.rel.same x hx).1))
        have HT := Lib.hid (fun W (hW : Below wr.heap.size wr W) => frames_any sr sm s known fs b W (hJ.prog.below hW))
        have HM := Lib.hid (fun W (hW : Below wr.heap.size wr W) => members_any sr sm s known fs b W (hJ.prog.below hW))
        rw [hOr] at HQ HS
        have HFs := Lib.hid (fun ys m => hJ.rel.frames (MbrP.rightT known (sr, sm) (stamps s fs)) (ys := ys) (m := m))
        have Hlow := Lib.hid hJ.low
        unfold RightP at HP HQ
        unfold RFramesP at HS
        unfold FramesP at HT
        unfold MemP at HM
        generalize MbrP.rightT known (sr, sm) (stamps s fs) = O at *
        generalize memT s fs O = me at *
        have hll := MbrP.lst_length me
        generalize MbrP.lst me = LL at *
        obtain ⟨xr, xm, ok, hrv⟩ : ∃ (xr xm : Nat) (ok : Bool), rightV O = .tuple #[.agg #[.int .u32 (xr : Nat), .int .u8 (xm : Nat)], .bool ok] := by
          cases O with
          | none => exact ⟨0, 0, false, rfl⟩
          | some x => exact ⟨x.1, x.2, true, rfl⟩
        rw [hrv] at HP HQ
        unfold hv at HP HQ HS HT HM
        unfold setV at HS HM
        clear hJ hOr hrv HI HArgs
        go_wp2_with fail
        refine (HP.out _ (Below.refl _ _)).mono ?_
        rintro e w2 ⟨rfl, hb2⟩
        have hn2 := heap_alloc_new w2 (.cells #[.int .u32 (xr : Nat), .int .u8 (xm : Nat)] 36)
        have HB2 := Lib.hid (hb2.alloc hb2.size (.cells #[.int .u32 (xr : Nat), .int .u8 (xm : Nat)] 36))
        have HN2 := Lib.hid hn2
        clear hb2 hn2 HP
        go_wp2_with fail
        refine (HQ.out _ HB2.out).mono ?_
        rintro e w3 ⟨rfl, hb3⟩
        have hn3 := heap_alloc_new w3 (.cells #[.int .u32 (xr : Nat), .int .u8 (xm : Nat)] 36)
        have hb23 := HB2.out.trans (hb3.mono HB2.out.size)
        have HB3 := Lib.hid (hb23.alloc hb23.size (.cells #[.int .u32 (xr : Nat), .int .u8 (xm : Nat)] 36))
        have hn23 := (hb3.block _ (lt_of_block HN2.out)).trans HN2.out
        have HN3 := Lib.hid hn3
        have HN23 := Lib.hid ((Below.heap_alloc w3 (.cells #[.int .u32 (xr : Nat), .int .u8 (xm : Nat)] 36) _ (lt_of_block hn23)).trans hn23)
        clear hb3 hn3 hn23 hb23 HB2 HN2 HQ
        go_wp2_with fail
        refine (HS.out _ HB3.out).mono ?_
        rintro e w4 ⟨v4, ys4, m4, rfl, hr4, he4, hb4⟩
        obtain ⟨hm4, hp4⟩ := HFs.out ys4 m4 he4
        subst hm4
        obtain ⟨A4, c4, rfl, -⟩ := own_slice hr4.own
        have HB4 := Lib.hid (HB3.out.trans (hb4.mono HB3.out.size))
        have HR4 := Lib.hid hr4
        have HN4 := Lib.hid ((hb4.block _ (lt_of_block HN3.out)).trans HN3.out)
        have HN24 := Lib.hid ((hb4.block _ (lt_of_block HN23.out)).trans HN23.out)
        clear hr4 he4 hb4 HB3 HN3 HN23 HS HFs
        go_wp2_with fail
        refine (HT.out _ HB4.out).mono ?_
        rintro e w5 ⟨v5, ys5, rfl, hr5, hp5, hb5⟩
        have hl4 : ys4.length = LL.length := by have := congrArg List.length hp4; simpa using this
        have hl5 : ys5.length = LL.length := by have := congrArg List.length hp5; simpa using this
        obtain ⟨A5, c5, rfl, -⟩ := own_slice hr5.own
        have HB5 := Lib.hid (HB4.out.trans (hb5.mono HB4.out.size))
        have HR5 := Lib.hid hr5
        have HR45 := Lib.hid (HR4.out.below hb5)
        have h35 := (hb5.block _ (lt_of_block HN4.out)).trans HN4.out
        have h25 := (hb5.block _ (lt_of_block HN24.out)).trans HN24.out
        have s0 := cell_at h25 0 rfl
        have s1 := cell_at h25 1 rfl
        have t0 := cell_at h35 0 rfl
        have t1 := cell_at h35 1 rfl
        have Hpp := Lib.hid (hp5.trans hp4.symm)
        rw [hl4] at HR45
        rw [hl4]
        clear hr5 hp5 hp4 hb5 HB4 HR4 HN4 HN24 h35 h25 HT
        generalize LL.length = N at *
        go_wp2_with fail
        refine (HM.out _ HB5.out).mono ?_
        rintro e w6 ⟨rfl, hb6⟩
        have HB6 := Lib.hid (Hlow.out.trans ((HB5.out.trans (hb6.mono HB5.out.size)).mono Hlow.out.size))
        have HR6 := Lib.hid (HR5.out.below hb6)
        have HR46 := Lib.hid (HR45.out.below hb6)
        clear hb6 s0 s1 t0 t1 HB5 HR5 HR45 HM Hlow
        go_wp2_with fail
        go_loopw [105] (fun iv W => ∃ k, k ≤ N ∧ iv = .int .i64 (k : Nat) ∧ Below w6.heap.size w6 W) (fun iv _ => (8 - intOf iv).toNat)
        case atStart => exact ⟨0, Nat.zero_le _, rfl, Below.refl _ _⟩
        case round =>
          obtain ⟨k, hk, rfl, hb⟩ := hrel
          by_cases hkN : k < N
          case neg =>
            obtain rfl : k = N := by omega
            have q8 : decide ((k : Int) < (k : Int)) = false := decide_eq_false (by omega)
            have HE := Lib.hid (HB6.out.trans (hb.mono HB6.out.size))
            clear hb hk hkN
            go_wp2_with fail
            go_ret
            exact ⟨rfl, HE.out⟩
          have q8 : decide ((k : Int) < (N : Int)) = true := decide_eq_true (by omega)
          have hkz : (k : Int) < (N : Int) := by omega
          have e8 : IntKind.i64.wrap ((k : Int) + 1) = (k : Int) + 1 := IntWalk.i64_in _ (by omega)
          obtain ⟨x, hx⟩ : ∃ x, ys5[k]? = some x := ⟨_, List.getElem?_eq_getElem (by omega)⟩
          obtain ⟨y, hy⟩ : ∃ y, ys4[k]? = some y := ⟨_, List.getElem?_eq_getElem (by omega)⟩
          have hxy : x.plain = y.plain := by
            have h1 := congrArg (fun l => l[k]?) Hpp.out
            simp only [List.getElem?_map, hx, hy, Option.map_some] at h1
            exact Option.some.inj h1
          have HSm := Lib.hid (fun W (hW : Below w6.heap.size w6 W) => same_any x y W ((HR6.out.ok x (List.mem_of_getElem? hx)).1.below hW) ((HR46.out.ok y (List.mem_of_getElem? hy)).1.below hW) hxy)
          obtain ⟨g5, rfl, HX⟩ := row_at (hl5 ▸ HR6.out) hx
          obtain ⟨g4, rfl, HY⟩ := row_at (hl4 ▸ HR46.out) hy
          have hd0 : Below w6.heap.size w6 wr.drew := hb.drew
          clear hb hx hy hxy
          obtain ⟨x0, x1, x2, x3, x4, x5, x6, x7, x8, x9, x10, x11, x12, x13, x14⟩ := x
          obtain ⟨y0, y1, y2, y3, y4, y5, y6, y7, y8, y9, y10, y11, y12, y13, y14⟩ := y
          simp only [FrameC.value] at HSm
          have kx0 : ∀ W, Below w6.heap.size w6 W → W.cell? ⟨g5, k * 9, none⟩ = some (.int .u8 (x0 : Nat)) := fun W hW => HX.out W hW 0 _ rfl
          have kx1 : ∀ W, Below w6.heap.size w6 W → W.cell? ⟨g5, k * 9 + 1, none⟩ = some (.int .u32 (x1 : Nat)) := fun W hW => HX.out W hW 1 _ rfl
          have kx2 : ∀ W, Below w6.heap.size w6 W → W.cell? ⟨g5, k * 9 + 2, none⟩ = some (.int .u8 (x2 : Nat)) := fun W hW => HX.out W hW 2 _ rfl
          have kx3 : ∀ W, Below w6.heap.size w6 W → W.cell? ⟨g5, k * 9 + 3, none⟩ = some (.slice x3 x4 x5) := fun W hW => HX.out W hW 3 _ rfl
          have kx4 : ∀ W, Below w6.heap.size w6 W → W.cell? ⟨g5, k * 9 + 4, none⟩ = some (.int .u8 (x7 : Nat)) := fun W hW => HX.out W hW 4 _ rfl
          have kx5 : ∀ W, Below w6.heap.size w6 W → W.cell? ⟨g5, k * 9 + 5, none⟩ = some (.int .u8 (x8 : Nat)) := fun W hW => HX.out W hW 5 _ rfl
          have kx6 : ∀ W, Below w6.heap.size w6 W → W.cell? ⟨g5, k * 9 + 6, none⟩ = some (.int .u16 (x9 : Nat)) := fun W hW => HX.out W hW 6 _ rfl
          have kx7 : ∀ W, Below w6.heap.size w6 W → W.cell? ⟨g5, k * 9 + 7, none⟩ = some (.int .u16 (x10 : Nat)) := fun W hW => HX.out W hW 7 _ rfl
          have kx8 : ∀ W, Below w6.heap.size w6 W → W.cell? ⟨g5, k * 9 + 8, none⟩ = some (.slice x11 x12 x13) := fun W hW => HX.out W hW 8 _ rfl
          have ky0 : ∀ W, Below w6.heap.size w6 W → W.cell? ⟨g4, k * 9, none⟩ = some (.int .u8 (y0 : Nat)) := fun W hW => HY.out W hW 0 _ rfl
          have ky1 : ∀ W, Below w6.heap.size w6 W → W.cell? ⟨g4, k * 9 + 1, none⟩ = some (.int .u32 (y1 : Nat)) := fun W hW => HY.out W hW 1 _ rfl
          have ky2 : ∀ W, Below w6.heap.size w6 W → W.cell? ⟨g4, k * 9 + 2, none⟩ = some (.int .u8 (y2 : Nat)) := fun W hW => HY.out W hW 2 _ rfl
          have ky3 : ∀ W, Below w6.heap.size w6 W → W.cell? ⟨g4, k * 9 + 3, none⟩ = some (.slice y3 y4 y5) := fun W hW => HY.out W hW 3 _ rfl
          have ky4 : ∀ W, Below w6.heap.size w6 W → W.cell? ⟨g4, k * 9 + 4, none⟩ = some (.int .u8 (y7 : Nat)) := fun W hW => HY.out W hW 4 _ rfl
          have ky5 : ∀ W, Below w6.heap.size w6 W → W.cell? ⟨g4, k * 9 + 5, none⟩ = some (.int .u8 (y8 : Nat)) := fun W hW => HY.out W hW 5 _ rfl
          have ky6 : ∀ W, Below w6.heap.size w6 W → W.cell? ⟨g4, k * 9 + 6, none⟩ = some (.int .u16 (y9 : Nat)) := fun W hW => HY.out W hW 6 _ rfl
          have ky7 : ∀ W, Below w6.heap.size w6 W → W.cell? ⟨g4, k * 9 + 7, none⟩ = some (.int .u16 (y10 : Nat)) := fun W hW => HY.out W hW 7 _ rfl
          have ky8 : ∀ W, Below w6.heap.size w6 W → W.cell? ⟨g4, k * 9 + 8, none⟩ = some (.slice y11 y12 y13) := fun W hW => HY.out W hW 8 _ rfl
          clear HX HY
          go_wp2_with fail
          refine wp_region_held_drew (S := fun W => Below w6.heap.size w6 W) (by kernel_rfl) hd0 (fun _ => ?_)
          refine tkH 0 (by simp only [tkA]; rfl) (by kernel_rfl) (by exact fun _ _ _ h => h) (by rfl) (by intro W hW; go_simp <;> with_reducible rfl) hd0 ?_
          try simp only [Act.put, tkT, tk0, tkS]
          refine tkH 1 (by simp only [tkA, tkG]; rfl) (by kernel_rfl) (by exact fun _ _ _ h => h) (by rfl) (by intro W hW; go_simp <;> with_reducible rfl) hd0 ?_
          try simp only [Act.put, tkT, tk0, tkS]
          refine tkH 2 (by simp only [tkA, tkG]; rfl) (by kernel_rfl) (by exact fun _ _ _ h => h) (by rfl) (by intro W hW; go_simp <;> with_reducible rfl) hd0 ?_
          try simp only [Act.put, tkT, tk0, tkS]
          refine tkH 3 (by simp only [tkA, tkG]; rfl) (by kernel_rfl) (by exact fun _ _ _ h => h) (by rfl) (by intro W hW; go_simp <;> with_reducible rfl) hd0 ?_
          try simp only [Act.put, tkT, tk0, tkS]
          refine tkH 4 (by simp only [tkA, tkG]; rfl) (by kernel_rfl) (by exact fun _ _ _ h => h) (by rfl) (by intro W hW; go_simp <;> with_reducible rfl) hd0 ?_
          try simp only [Act.put, tkT, tk0, tkS]
          refine tkH 5 (by simp only [tkA, tkG]; rfl) (by kernel_rfl) (by exact fun _ _ _ h => h) (by rfl) (by intro W hW; go_simp <;> with_reducible rfl) hd0 ?_
          try simp only [Act.put, tkT, tk0, tkS]
          refine tkH 6 (by simp only [tkA, tkG]; rfl) (by kernel_rfl) (by exact fun _ _ _ h => h) (by rfl) (by intro W hW; go_simp <;> with_reducible rfl) hd0 ?_
          try simp only [Act.put, tkT, tk0, tkS]
          refine tkH 7 (by simp only [tkA, tkG]; rfl) (by kernel_rfl) (by exact fun _ _ _ h => h) (by rfl) (by intro W hW; go_simp <;> with_reducible rfl) hd0 ?_
          try simp only [Act.put, tkT, tk0, tkS]
          refine clH 8 (by kernel_rfl) (by simp only [tkA, tkG]; rfl) (fun K hK => ?_)
          go_simp
          refine (HSm.out _ hd0).mono ?_
          rintro e w8 ⟨rfl, hb8⟩
          have hd8 := hd0.trans (hb8.mono hd0.size)
          clear hb8 hd0 HSm
          go_wp2_with fail
          refine hK.out _ _ hd8 (fun _ => ?_)
          clear hK K
          refine tkH 9 (by simp only [tkA, tkG]; rfl) (by kernel_rfl) (by exact fun _ _ _ h => h) (by rfl) (by intro W hW; go_simp <;> with_reducible rfl) hd8 ?_
          try simp only [Act.put, tkT, tk0, tkS]
          refine wpAnyH_done (by kernel_rfl) ?_ _
          clear kx0 kx1 kx2 kx3 kx4 kx5 kx6 kx7 kx8 ky0 ky1 ky2 ky3 ky4 ky5 ky6 ky7 ky8
          go_wp2_with fail
          go_roundw
          case rel => exact ⟨k + 1, hkN, by go_num, hd8⟩
          case measure => simp [intOf]; omega
      have q2 : decide ((i : Int) < 60) = true := decide_eq_true (by omega)
      have hiz : (i : Int) < (n : Int) := by omega
      have e1 : IntKind.i64.wrap ((i : Int) + 1) = (i : Int) + 1 := IntWalk.i64_in _ (by omega)
      obtain ⟨⟨line, f⟩, hx⟩ : ∃ x, l[i]? = some x := ⟨_, List.getElem?_eq_getElem (by rw [Hl.out]; exact hi)⟩
      obtain ⟨b9, o9, e9, -, hc9⟩ := HArgs.out (by rw [Hl.out]; omega)
      have hfw := (hc9 i _ hx).2.2
      obtain ⟨ba, oa, rfl, -, hc3⟩ := HI.out wr hJ.low (by rw [Hl.out]; omega)
      have HAll : Hid (∀ W, Below w.heap.size w W → W.cell? ⟨ba, oa + i * 10, none⟩ = some (.int .i64 line) ∧ ∀ j u, f.cells[j]? = some u → W.cell? ⟨ba, oa + i * 10 + 1 + j, none⟩ = some u) := Lib.hid fun W hW => by
        obtain ⟨b', o', e', -, hc⟩ := HI.out W hW (by rw [Hl.out]; omega)
        cases e'
        exact ⟨(hc i _ hx).1, (hc i _ hx).2.1⟩
      have hfr := (hc3 i _ hx).2.2
      have hcl := (hc3 i _ hx).1
      have hcf := (hc3 i _ hx).2.1
      simp only at hfw hfr hcl hcf
      have HCp := Lib.hid (copied_hi f wr hfr)
      have HJ := Lib.hid hJ
      have hbs := hJ.prog.size
      have Hfw := Lib.hid hfw
      have hf8 := hfw.typed.sender
      have hlow := hJ.low.size
      clear hc9 e9 hc3 hfr hJ hx hfw
      unfold CopiedHi at HCp
      have HfV : Hid (f.value = .agg f.cells.toArray) := Lib.hid rfl
      obtain ⟨f0, f1, f2, f3, f4, f5, f6, f7, f8, f9, f10, f11, f12, f13, f14⟩ := f
      have w3 := wr
      simp only [FrameC.value] at HCp
      have p0 : wr.cell? ⟨ba, oa + i * 10 + 1, none⟩ = some (.int .u8 (f0 : Nat)) := hcf 0 _ rfl
      have p1 : wr.cell? ⟨ba, oa + i * 10 + 2, none⟩ = some (.int .u32 (f1 : Nat)) := hcf 1 _ rfl
      have p2 : wr.cell? ⟨ba, oa + i * 10 + 3, none⟩ = some (.int .u8 (f2 : Nat)) := hcf 2 _ rfl
      have p3 : wr.cell? ⟨ba, oa + i * 10 + 4, none⟩ = some (.slice f3 f4 f5) := hcf 3 _ rfl
      have p4 : wr.cell? ⟨ba, oa + i * 10 + 5, none⟩ = some (.int .u8 (f7 : Nat)) := hcf 4 _ rfl
      have p5 : wr.cell? ⟨ba, oa + i * 10 + 6, none⟩ = some (.int .u8 (f8 : Nat)) := hcf 5 _ rfl
      have p6 : wr.cell? ⟨ba, oa + i * 10 + 7, none⟩ = some (.int .u16 (f9 : Nat)) := hcf 6 _ rfl
      have p7 : wr.cell? ⟨ba, oa + i * 10 + 8, none⟩ = some (.int .u16 (f10 : Nat)) := hcf 7 _ rfl
      have p8 : wr.cell? ⟨ba, oa + i * 10 + 9, none⟩ = some (.slice f11 f12 f13) := hcf 8 _ rfl
      clear hcf w3
      go_wp2_with fail
      refine HCp.out.mono ?_
      rintro e w4 ⟨z, rfl, hz1, hz2, hz3, hb4⟩
      have hJ4 := HJ.out.below hb4
      have hoff := hz3.off (F := fun q => q = b) (fun q e => by omega)
      have hzb := hz1.off_new (F := fun q => w4.heap.size ≤ q) (fun q e => e)
      have hlow4 := hJ4.low
      have Hz1 := Lib.hid hz1
      have Hz2 := Lib.hid hz2
      have Hoff := Lib.hid hoff
      have HJ4 := Lib.hid hJ4
      have Hlow4 := Lib.hid hlow4
      have hbs4 := hJ4.prog.size
      have hrs4 := hJ4.ref.size
      clear hb4 hz1 hz2 hz3 hoff hzb hJ4 hlow4 HCp HJ hcl p0 p1 p2 p3 p4 p5 p6 p7 p8
      obtain ⟨z0, z1, z2, z3, z4, z5, z6, z7, z8, z9, z10, z11, z12, z13, z14⟩ := z
      go_upto_region 8 with (fail)
      have hd5 : MhS w w4.heap.size #[.int .u8 (z0 : Nat), .int .u32 (z1 : Nat), .int .u8 (z2 : Nat), .slice z3 z4 z5, .int .u8 (z7 : Nat), .int .u8 (z8 : Nat), .int .u16 (z9 : Nat), .int .u16 (z10 : Nat), .slice z11 z12 z13] (w4.alloc (.cells #[.int .u8 (z0 : Nat), .int .u32 (z1 : Nat), .int .u8 (z2 : Nat), .slice z3 z4 z5, .int .u8 (z7 : Nat), .int .u8 (z8 : Nat), .int .u16 (z9 : Nat), .int .u16 (z10 : Nat), .slice z11 z12 z13] 51)) := ⟨Hlow4.out.alloc Hlow4.out.size _, heap_alloc_new w4 _⟩
      have hb45 := (Below.refl w4.heap.size w4).alloc (Nat.le_refl _) (.cells #[.int .u8 (z0 : Nat), .int .u32 (z1 : Nat), .int .u8 (z2 : Nat), .slice z3 z4 z5, .int .u8 (z7 : Nat), .int .u8 (z8 : Nat), .int .u16 (z9 : Nat), .int .u16 (z10 : Nat), .slice z11 z12 z13] 51)
      have HJ5 := Lib.hid (HJ4.out.below hb45)
      have Hz5 := Lib.hid (Hz1.out.below hb45)
      have hvq : ∀ p, v.ownBlock = some p → p ≠ w4.heap.size := fun p e => by have := (HJ4.out.vlt e).2.1; omega
      have hzf : z0 = f0 := congrArg FrameP.Fr.sender Hz2.out
      have hbq : b ≠ w4.heap.size := by omega
      have hrq : rb ≠ w4.heap.size := by omega
      clear hb45 Hlow4 HJ4 Hz1
      generalize w4.alloc (.cells #[.int .u8 (z0 : Nat), .int .u32 (z1 : Nat), .int .u8 (z2 : Nat), .slice z3 z4 z5, .int .u8 (z7 : Nat), .int .u8 (z8 : Nat), .int .u16 (z9 : Nat), .int .u16 (z10 : Nat), .slice z11 z12 z13] 51) = w5 at *
      generalize w4.heap.size = q at *
      subst hzf
      have kl : ∀ W, MhS w q #[.int .u8 (z0 : Nat), .int .u32 (z1 : Nat), .int .u8 (z2 : Nat), .slice z3 z4 z5, .int .u8 (z7 : Nat), .int .u8 (z8 : Nat), .int .u16 (z9 : Nat), .int .u16 (z10 : Nat), .slice z11 z12 z13] W → W.cell? ⟨ba, oa + i * 10, none⟩ = some (.int .i64 line) := fun W hW => (HAll.out W hW.1).1
      have ka0 : ∀ W, MhS w q #[.int .u8 (z0 : Nat), .int .u32 (z1 : Nat), .int .u8 (z2 : Nat), .slice z3 z4 z5, .int .u8 (z7 : Nat), .int .u8 (z8 : Nat), .int .u16 (z9 : Nat), .int .u16 (z10 : Nat), .slice z11 z12 z13] W → W.cell? ⟨ba, oa + i * 10 + 1, none⟩ = some (.int .u8 (z0 : Nat)) := fun W hW => (HAll.out W hW.1).2 0 _ rfl
      have ka1 : ∀ W, MhS w q #[.int .u8 (z0 : Nat), .int .u32 (z1 : Nat), .int .u8 (z2 : Nat), .slice z3 z4 z5, .int .u8 (z7 : Nat), .int .u8 (z8 : Nat), .int .u16 (z9 : Nat), .int .u16 (z10 : Nat), .slice z11 z12 z13] W → W.cell? ⟨ba, oa + i * 10 + 2, none⟩ = some (.int .u32 (f1 : Nat)) := fun W hW => (HAll.out W hW.1).2 1 _ rfl
      have ka2 : ∀ W, MhS w q #[.int .u8 (z0 : Nat), .int .u32 (z1 : Nat), .int .u8 (z2 : Nat), .slice z3 z4 z5, .int .u8 (z7 : Nat), .int .u8 (z8 : Nat), .int .u16 (z9 : Nat), .int .u16 (z10 : Nat), .slice z11 z12 z13] W → W.cell? ⟨ba, oa + i * 10 + 3, none⟩ = some (.int .u8 (f2 : Nat)) := fun W hW => (HAll.out W hW.1).2 2 _ rfl
      have ka3 : ∀ W, MhS w q #[.int .u8 (z0 : Nat), .int .u32 (z1 : Nat), .int .u8 (z2 : Nat), .slice z3 z4 z5, .int .u8 (z7 : Nat), .int .u8 (z8 : Nat), .int .u16 (z9 : Nat), .int .u16 (z10 : Nat), .slice z11 z12 z13] W → W.cell? ⟨ba, oa + i * 10 + 4, none⟩ = some (.slice f3 f4 f5) := fun W hW => (HAll.out W hW.1).2 3 _ rfl
      have ka4 : ∀ W, MhS w q #[.int .u8 (z0 : Nat), .int .u32 (z1 : Nat), .int .u8 (z2 : Nat), .slice z3 z4 z5, .int .u8 (z7 : Nat), .int .u8 (z8 : Nat), .int .u16 (z9 : Nat), .int .u16 (z10 : Nat), .slice z11 z12 z13] W → W.cell? ⟨ba, oa + i * 10 + 5, none⟩ = some (.int .u8 (f7 : Nat)) := fun W hW => (HAll.out W hW.1).2 4 _ rfl
      have ka5 : ∀ W, MhS w q #[.int .u8 (z0 : Nat), .int .u32 (z1 : Nat), .int .u8 (z2 : Nat), .slice z3 z4 z5, .int .u8 (z7 : Nat), .int .u8 (z8 : Nat), .int .u16 (z9 : Nat), .int .u16 (z10 : Nat), .slice z11 z12 z13] W → W.cell? ⟨ba, oa + i * 10 + 6, none⟩ = some (.int .u8 (f8 : Nat)) := fun W hW => (HAll.out W hW.1).2 5 _ rfl
      have ka6 : ∀ W, MhS w q #[.int .u8 (z0 : Nat), .int .u32 (z1 : Nat), .int .u8 (z2 : Nat), .slice z3 z4 z5, .int .u8 (z7 : Nat), .int .u8 (z8 : Nat), .int .u16 (z9 : Nat), .int .u16 (z10 : Nat), .slice z11 z12 z13] W → W.cell? ⟨ba, oa + i * 10 + 7, none⟩ = some (.int .u16 (f9 : Nat)) := fun W hW => (HAll.out W hW.1).2 6 _ rfl
      have ka7 : ∀ W, MhS w q #[.int .u8 (z0 : Nat), .int .u32 (z1 : Nat), .int .u8 (z2 : Nat), .slice z3 z4 z5, .int .u8 (z7 : Nat), .int .u8 (z8 : Nat), .int .u16 (z9 : Nat), .int .u16 (z10 : Nat), .slice z11 z12 z13] W → W.cell? ⟨ba, oa + i * 10 + 8, none⟩ = some (.int .u16 (f10 : Nat)) := fun W hW => (HAll.out W hW.1).2 7 _ rfl
      have ka8 : ∀ W, MhS w q #[.int .u8 (z0 : Nat), .int .u32 (z1 : Nat), .int .u8 (z2 : Nat), .slice z3 z4 z5, .int .u8 (z7 : Nat), .int .u8 (z8 : Nat), .int .u16 (z9 : Nat), .int .u16 (z10 : Nat), .slice z11 z12 z13] W → W.cell? ⟨ba, oa + i * 10 + 9, none⟩ = some (.slice f11 f12 f13) := fun W hW => (HAll.out W hW.1).2 8 _ rfl
      have kz0 : ∀ W, MhS w q #[.int .u8 (z0 : Nat), .int .u32 (z1 : Nat), .int .u8 (z2 : Nat), .slice z3 z4 z5, .int .u8 (z7 : Nat), .int .u8 (z8 : Nat), .int .u16 (z9 : Nat), .int .u16 (z10 : Nat), .slice z11 z12 z13] W → W.cell? ⟨q, 0, none⟩ = some (.int .u8 (z0 : Nat)) := fun W hW => cell_at hW.2 0 rfl
      have kz1 : ∀ W, MhS w q #[.int .u8 (z0 : Nat), .int .u32 (z1 : Nat), .int .u8 (z2 : Nat), .slice z3 z4 z5, .int .u8 (z7 : Nat), .int .u8 (z8 : Nat), .int .u16 (z9 : Nat), .int .u16 (z10 : Nat), .slice z11 z12 z13] W → W.cell? ⟨q, 1, none⟩ = some (.int .u32 (z1 : Nat)) := fun W hW => cell_at hW.2 1 rfl
      have kz2 : ∀ W, MhS w q #[.int .u8 (z0 : Nat), .int .u32 (z1 : Nat), .int .u8 (z2 : Nat), .slice z3 z4 z5, .int .u8 (z7 : Nat), .int .u8 (z8 : Nat), .int .u16 (z9 : Nat), .int .u16 (z10 : Nat), .slice z11 z12 z13] W → W.cell? ⟨q, 2, none⟩ = some (.int .u8 (z2 : Nat)) := fun W hW => cell_at hW.2 2 rfl
      have kz3 : ∀ W, MhS w q #[.int .u8 (z0 : Nat), .int .u32 (z1 : Nat), .int .u8 (z2 : Nat), .slice z3 z4 z5, .int .u8 (z7 : Nat), .int .u8 (z8 : Nat), .int .u16 (z9 : Nat), .int .u16 (z10 : Nat), .slice z11 z12 z13] W → W.cell? ⟨q, 3, none⟩ = some (.slice z3 z4 z5) := fun W hW => cell_at hW.2 3 rfl
      have kz4 : ∀ W, MhS w q #[.int .u8 (z0 : Nat), .int .u32 (z1 : Nat), .int .u8 (z2 : Nat), .slice z3 z4 z5, .int .u8 (z7 : Nat), .int .u8 (z8 : Nat), .int .u16 (z9 : Nat), .int .u16 (z10 : Nat), .slice z11 z12 z13] W → W.cell? ⟨q, 4, none⟩ = some (.int .u8 (z7 : Nat)) := fun W hW => cell_at hW.2 4 rfl
      have kz5 : ∀ W, MhS w q #[.int .u8 (z0 : Nat), .int .u32 (z1 : Nat), .int .u8 (z2 : Nat), .slice z3 z4 z5, .int .u8 (z7 : Nat), .int .u8 (z8 : Nat), .int .u16 (z9 : Nat), .int .u16 (z10 : Nat), .slice z11 z12 z13] W → W.cell? ⟨q, 5, none⟩ = some (.int .u8 (z8 : Nat)) := fun W hW => cell_at hW.2 5 rfl
      have kz6 : ∀ W, MhS w q #[.int .u8 (z0 : Nat), .int .u32 (z1 : Nat), .int .u8 (z2 : Nat), .slice z3 z4 z5, .int .u8 (z7 : Nat), .int .u8 (z8 : Nat), .int .u16 (z9 : Nat), .int .u16 (z10 : Nat), .slice z11 z12 z13] W → W.cell? ⟨q, 6, none⟩ = some (.int .u16 (z9 : Nat)) := fun W hW => cell_at hW.2 6 rfl
      have kz7 : ∀ W, MhS w q #[.int .u8 (z0 : Nat), .int .u32 (z1 : Nat), .int .u8 (z2 : Nat), .slice z3 z4 z5, .int .u8 (z7 : Nat), .int .u8 (z8 : Nat), .int .u16 (z9 : Nat), .int .u16 (z10 : Nat), .slice z11 z12 z13] W → W.cell? ⟨q, 7, none⟩ = some (.int .u16 (z10 : Nat)) := fun W hW => cell_at hW.2 7 rfl
      have kz8 : ∀ W, MhS w q #[.int .u8 (z0 : Nat), .int .u32 (z1 : Nat), .int .u8 (z2 : Nat), .slice z3 z4 z5, .int .u8 (z7 : Nat), .int .u8 (z8 : Nat), .int .u16 (z9 : Nat), .int .u16 (z10 : Nat), .slice z11 z12 z13] W → W.cell? ⟨q, 8, none⟩ = some (.slice z11 z12 z13) := fun W hW => cell_at hW.2 8 rfl
      have hd0 : (MhS w q #[.int .u8 (z0 : Nat), .int .u32 (z1 : Nat), .int .u8 (z2 : Nat), .slice z3 z4 z5, .int .u8 (z7 : Nat), .int .u8 (z8 : Nat), .int .u16 (z9 : Nat), .int .u16 (z10 : Nat), .slice z11 z12 z13]) w5.drew := ⟨hd5.1.drew, hd5.2⟩
      clear hd5
      have HNext : Hid (∀ W, MhJ w b rb sr sm known W → MhR w b rb sr sm n known (.int .i64 ((i : Int) + 1)) W) := Lib.hid fun W hW => ⟨i + 1, hi, hi6, by go_num, hW⟩
      by_cases hfresh : ∃ k : Nat, k < 7 ∧ line = (k : Int) ∧ z0 = k ∧ s.testBit k = false
      case neg =>
        have HN1 : Hid (Calls Try.prog 21 #[.pointer (some ⟨b, 0, none⟩), .int .i64 line, .agg #[.int .u8 (z0 : Nat), .int .u32 (z1 : Nat), .int .u8 (z2 : Nat), .slice z3 z4 z5, .int .u8 (z7 : Nat), .int .u8 (z8 : Nat), .int .u16 (z9 : Nat), .int .u16 (z10 : Nat), .slice z11 z12 z13]] w5.drew (NoP w5.drew)) := Lib.hid (by
          by_cases ho : line < 0 ∨ 7 ≤ line
          · exact hear_out line ho ⟨z0, z1, z2, z3, z4, z5, z6, z7, z8, z9, z10, z11, z12, z13, z14⟩ b w5.drew
          obtain ⟨k, rfl⟩ := Int.eq_ofNat_of_zero_le (show 0 ≤ line by omega)
          by_cases hk : z0 = k
          · cases hb : s.testBit k with
            | true => exact hear_again k (by omega) ⟨z0, z1, z2, z3, z4, z5, z6, z7, z8, z9, z10, z11, z12, z13, z14⟩ hk b w5.drew HJ5.out.prog.drew hb
            | false => exact absurd ⟨k, by omega, rfl, hk, hb⟩ hfresh
          · exact hear_other k (by omega) ⟨z0, z1, z2, z3, z4, z5, z6, z7, z8, z9, z10, z11, z12, z13, z14⟩ hk hf8 b w5.drew)
        have HN2 : Hid (∀ W, JS w b rb w.heap.size sr sm known v s fs got W → Calls Try.prog 22 #[.pointer (some ⟨rb, 0, none⟩), .int .i64 line, .agg #[.int .u8 (z0 : Nat), .int .u32 (f1 : Nat), .int .u8 (f2 : Nat), .slice f3 f4 f5, .int .u8 (f7 : Nat), .int .u8 (f8 : Nat), .int .u16 (f9 : Nat), .int .u16 (f10 : Nat), .slice f11 f12 f13]] W (NoP W)) := Lib.hid (fun W hW => by
          by_cases ho : line < 0 ∨ 6 < line
          · exact refhear_out line ho ⟨z0, f1, f2, f3, f4, f5, f6, f7, f8, f9, f10, f11, f12, f13, f14⟩ W
          obtain ⟨k, rfl⟩ := Int.eq_ofNat_of_zero_le (show 0 ≤ line by omega)
          by_cases hk : z0 = k
          · have hb : s.testBit k = true := by
              cases hb : s.testBit k with
              | true => rfl
              | false => exact absurd ⟨k, by omega, rfl, hk, hb⟩ hfresh
            have h1 := refhear_in w.heap.size rb sr sm known v got hW.rel.len k (by omega) ⟨z0, f1, f2, f3, f4, f5, f6, f7, f8, f9, f10, f11, f12, f13, f14⟩ hk W hW.low.size hW.ref (fun y hy => by have := (hW.rel.same y hy).1; omega)
            exact h1.mono fun _ _ h2 => h2.1 (by rw [hW.rel.any (by omega)]; exact hb)
          · exact refhear_other k (by omega) ⟨z0, f1, f2, f3, f4, f5, f6, f7, f8, f9, f10, f11, f12, f13, f14⟩ hk hf8 W)
        have HJ5d := Lib.hid (HJ5.out.below (Below.refl _ _).drew)
        clear hfresh HJ5 Hz5 Hoff Hz2 hvq Hfw
        unfold NoP at HN1 HN2
        go_wp2_with fail
        refine wp_region_held_drew (S := fun W => (MhS w q #[.int .u8 (z0 : Nat), .int .u32 (z1 : Nat), .int .u8 (z2 : Nat), .slice z3 z4 z5, .int .u8 (z7 : Nat), .int .u8 (z8 : Nat), .int .u16 (z9 : Nat), .int .u16 (z10 : Nat), .slice z11 z12 z13]) W) (by kernel_rfl) hd0 (fun _ => ?_)
        refine tkH 0 (by simp only [tkA]; rfl) (by kernel_rfl) (by exact fun _ _ _ h => h) (by rfl) (by intro W hW; go_simp <;> with_reducible rfl) hd0 ?_
        try simp only [Act.put, tkT, tk0, tkS]
        refine tkH 1 (by simp only [tkA, tkG]; rfl) (by kernel_rfl) (by exact fun _ _ _ h => h) (by rfl) (by intro W hW; go_simp <;> with_reducible rfl) hd0 ?_
        try simp only [Act.put, tkT, tk0, tkS]
        refine tkH 2 (by simp only [tkA, tkG]; rfl) (by kernel_rfl) (by exact fun _ _ _ h => h) (by rfl) (by intro W hW; go_simp <;> with_reducible rfl) hd0 ?_
        try simp only [Act.put, tkT, tk0, tkS]
        refine tkH 3 (by simp only [tkA, tkG]; rfl) (by kernel_rfl) (by exact fun _ _ _ h => h) (by rfl) (by intro W hW; go_simp <;> with_reducible rfl) hd0 ?_
        try simp only [Act.put, tkT, tk0, tkS]
        refine tkH 4 (by simp only [tkA, tkG]; rfl) (by kernel_rfl) (by exact fun _ _ _ h => h) (by rfl) (by intro W hW; go_simp <;> with_reducible rfl) hd0 ?_
        try simp only [Act.put, tkT, tk0, tkS]
        refine tkH 5 (by simp only [tkA, tkG]; rfl) (by kernel_rfl) (by exact fun _ _ _ h => h) (by rfl) (by intro W hW; go_simp <;> with_reducible rfl) hd0 ?_
        try simp only [Act.put, tkT, tk0, tkS]
        refine tkH 6 (by simp only [tkA, tkG]; rfl) (by kernel_rfl) (by exact fun _ _ _ h => h) (by rfl) (by intro W hW; go_simp <;> with_reducible rfl) hd0 ?_
        try simp only [Act.put, tkT, tk0, tkS]
        refine tkH 8 (by simp only [tkA, tkG]; rfl) (by kernel_rfl) (by exact fun _ _ _ h => h) (by rfl) (by intro W hW; go_simp <;> with_reducible rfl) hd0 ?_
        try simp only [Act.put, tkT, tk0, tkS]
        refine tkH 9 (by simp only [tkA, tkG]; rfl) (by kernel_rfl) (by exact fun _ _ _ h => h) (by rfl) (by intro W hW; go_simp <;> with_reducible rfl) hd0 ?_
        try simp only [Act.put, tkT, tk0, tkS]
        refine tkH 10 (by simp only [tkA, tkG]; rfl) (by kernel_rfl) (by exact fun _ _ _ h => h) (by rfl) (by intro W hW; go_simp <;> with_reducible rfl) hd0 ?_
        try simp only [Act.put, tkT, tk0, tkS]
        refine tkH 11 (by simp only [tkA, tkG]; rfl) (by kernel_rfl) (by exact fun _ _ _ h => h) (by rfl) (by intro W hW; go_simp <;> with_reducible rfl) hd0 ?_
        try simp only [Act.put, tkT, tk0, tkS]
        refine tkH 12 (by simp only [tkA, tkG]; rfl) (by kernel_rfl) (by exact fun _ _ _ h => h) (by rfl) (by intro W hW; go_simp <;> with_reducible rfl) hd0 ?_
        try simp only [Act.put, tkT, tk0, tkS]
        refine tkH 13 (by simp only [tkA, tkG]; rfl) (by kernel_rfl) (by exact fun _ _ _ h => h) (by rfl) (by intro W hW; go_simp <;> with_reducible rfl) hd0 ?_
        try simp only [Act.put, tkT, tk0, tkS]
        refine tkH 14 (by simp only [tkA, tkG]; rfl) (by kernel_rfl) (by exact fun _ _ _ h => h) (by rfl) (by intro W hW; go_simp <;> with_reducible rfl) hd0 ?_
        try simp only [Act.put, tkT, tk0, tkS]
        refine tkH 15 (by simp only [tkA, tkG]; rfl) (by kernel_rfl) (by exact fun _ _ _ h => h) (by rfl) (by intro W hW; go_simp <;> with_reducible rfl) hd0 ?_
        try simp only [Act.put, tkT, tk0, tkS]
        refine tkH 16 (by simp only [tkA, tkG]; rfl) (by kernel_rfl) (by exact fun _ _ _ h => h) (by rfl) (by intro W hW; go_simp <;> with_reducible rfl) hd0 ?_
        try simp only [Act.put, tkT, tk0, tkS]
        refine tkH 17 (by simp only [tkA, tkG]; rfl) (by kernel_rfl) (by exact fun _ _ _ h => h) (by rfl) (by intro W hW; go_simp <;> with_reducible rfl) hd0 ?_
        try simp only [Act.put, tkT, tk0, tkS]
        refine tkH 18 (by simp only [tkA, tkG]; rfl) (by kernel_rfl) (by exact fun _ _ _ h => h) (by rfl) (by intro W hW; go_simp <;> with_reducible rfl) hd0 ?_
        try simp only [Act.put, tkT, tk0, tkS]
        refine clH 7 (by kernel_rfl) (by simp only [tkA, tkG]; rfl) (fun K hK => ?_)
        go_simp
        refine HN1.out.mono ?_
        rintro e w6 ⟨rfl, hb6⟩
        have hd6 := hd0.below hb6
        have HJ6 := Lib.hid (HJ5d.out.below hb6)
        clear hb6 hd0 HJ5d HN1
        go_wp2_with fail
        refine hK.out _ _ hd6 (fun _ => ?_)
        clear hK K
        refine clH 19 (by kernel_rfl) (by simp only [tkA, tkG]; rfl) (fun K hK => ?_)
        go_simp
        refine (HN2.out _ HJ6.out).mono ?_
        rintro e w7 ⟨rfl, hb7⟩
        have hd7 := hd6.below hb7
        have HR := Lib.hid (HNext.out w7 ⟨_, _, _, _, HJ6.out.below hb7⟩)
        clear hb7 hd6 HJ6 HN2 HNext
        go_wp2_with fail
        refine hK.out _ _ hd7 (fun _ => ?_)
        clear hK K
        refine tkH 20 (by simp only [tkA, tkG]; rfl) (by kernel_rfl) (by exact fun _ _ _ h => h) (by rfl) (by intro W hW; go_simp <;> with_reducible rfl) hd7 ?_
        try simp only [Act.put, tkT, tk0, tkS]
        refine wpAnyH_done (by kernel_rfl) ?_ _
        clear kl ka0 ka1 ka2 ka3 ka4 ka5 ka6 ka7 ka8 kz0 kz1 kz2 kz3 kz4 kz5 kz6 kz7 kz8
        clear hd7
        go_wp2_with fail
        go_roundw
        case rel => exact HR.out
        case measure => simp [intOf]; omega
      obtain ⟨k, hk7, rfl, rfl, hbit⟩ := hfresh
      have HY1 := Lib.hid (hear_yes sr sm s known fs z0 hk7 ⟨z0, z1, z2, z3, z4, z5, z6, z7, z8, z9, z10, z11, z12, z13, z14⟩ rfl b w5.drew (Hz5.out.below (Below.refl _ _).drew) Hoff.out HJ5.out.prog.drew hbit)
      have HJ5d := Lib.hid (HJ5.out.below (Below.refl _ _).drew)
      have HY2 := Lib.hid (fun W (hr : RefH W w.heap.size rb sr sm known v got) (hs : w.heap.size ≤ W.heap.size) => refhear_in w.heap.size rb sr sm known v got HJ5.out.rel.len z0 hk7 ⟨z0, f1, f2, f3, f4, f5, f6, f7, f8, f9, f10, f11, f12, f13, f14⟩ rfl W hs hr (fun y hy => by have := (HJ5.out.rel.same y hy).1; omega))
      have hany := HJ5.out.rel.any hk7
      rw [hbit] at hany
      unfold hv at HY1 HY2
      simp only [FrameC.value] at HY1 HY2
      clear HJ5 Hz5 Hoff
      go_wp2_with fail
      refine wp_region_held_drew (S := fun W => (MhS w q #[.int .u8 (z0 : Nat), .int .u32 (z1 : Nat), .int .u8 (z2 : Nat), .slice z3 z4 z5, .int .u8 (z7 : Nat), .int .u8 (z8 : Nat), .int .u16 (z9 : Nat), .int .u16 (z10 : Nat), .slice z11 z12 z13]) W) (by kernel_rfl) hd0 (fun _ => ?_)
      refine tkH 0 (by simp only [tkA]; rfl) (by kernel_rfl) (by exact fun _ _ _ h => h) (by rfl) (by intro W hW; go_simp <;> with_reducible rfl) hd0 ?_
      try simp only [Act.put, tkT, tk0, tkS]
      refine tkH 1 (by simp only [tkA, tkG]; rfl) (by kernel_rfl) (by exact fun _ _ _ h => h) (by rfl) (by intro W hW; go_simp <;> with_reducible rfl) hd0 ?_
      try simp only [Act.put, tkT, tk0, tkS]
      refine tkH 2 (by simp only [tkA, tkG]; rfl) (by kernel_rfl) (by exact fun _ _ _ h => h) (by rfl) (by intro W hW; go_simp <;> with_reducible rfl) hd0 ?_
      try simp only [Act.put, tkT, tk0, tkS]
      refine tkH 3 (by simp only [tkA, tkG]; rfl) (by kernel_rfl) (by exact fun _ _ _ h => h) (by rfl) (by intro W hW; go_simp <;> with_reducible rfl) hd0 ?_
      try simp only [Act.put, tkT, tk0, tkS]
      refine tkH 4 (by simp only [tkA, tkG]; rfl) (by kernel_rfl) (by exact fun _ _ _ h => h) (by rfl) (by intro W hW; go_simp <;> with_reducible rfl) hd0 ?_
      try simp only [Act.put, tkT, tk0, tkS]
      refine tkH 5 (by simp only [tkA, tkG]; rfl) (by kernel_rfl) (by exact fun _ _ _ h => h) (by rfl) (by intro W hW; go_simp <;> with_reducible rfl) hd0 ?_
      try simp only [Act.put, tkT, tk0, tkS]
      refine tkH 6 (by simp only [tkA, tkG]; rfl) (by kernel_rfl) (by exact fun _ _ _ h => h) (by rfl) (by intro W hW; go_simp <;> with_reducible rfl) hd0 ?_
      try simp only [Act.put, tkT, tk0, tkS]
      refine tkH 8 (by simp only [tkA, tkG]; rfl) (by kernel_rfl) (by exact fun _ _ _ h => h) (by rfl) (by intro W hW; go_simp <;> with_reducible rfl) hd0 ?_
      try simp only [Act.put, tkT, tk0, tkS]
      refine tkH 9 (by simp only [tkA, tkG]; rfl) (by kernel_rfl) (by exact fun _ _ _ h => h) (by rfl) (by intro W hW; go_simp <;> with_reducible rfl) hd0 ?_
      try simp only [Act.put, tkT, tk0, tkS]
      refine tkH 10 (by simp only [tkA, tkG]; rfl) (by kernel_rfl) (by exact fun _ _ _ h => h) (by rfl) (by intro W hW; go_simp <;> with_reducible rfl) hd0 ?_
      try simp only [Act.put, tkT, tk0, tkS]
      refine tkH 11 (by simp only [tkA, tkG]; rfl) (by kernel_rfl) (by exact fun _ _ _ h => h) (by rfl) (by intro W hW; go_simp <;> with_reducible rfl) hd0 ?_
      try simp only [Act.put, tkT, tk0, tkS]
      refine tkH 12 (by simp only [tkA, tkG]; rfl) (by kernel_rfl) (by exact fun _ _ _ h => h) (by rfl) (by intro W hW; go_simp <;> with_reducible rfl) hd0 ?_
      try simp only [Act.put, tkT, tk0, tkS]
      refine tkH 13 (by simp only [tkA, tkG]; rfl) (by kernel_rfl) (by exact fun _ _ _ h => h) (by rfl) (by intro W hW; go_simp <;> with_reducible rfl) hd0 ?_
      try simp only [Act.put, tkT, tk0, tkS]
      refine tkH 14 (by simp only [tkA, tkG]; rfl) (by kernel_rfl) (by exact fun _ _ _ h => h) (by rfl) (by intro W hW; go_simp <;> with_reducible rfl) hd0 ?_
      try simp only [Act.put, tkT, tk0, tkS]
      refine tkH 15 (by simp only [tkA, tkG]; rfl) (by kernel_rfl) (by exact fun _ _ _ h => h) (by rfl) (by intro W hW; go_simp <;> with_reducible rfl) hd0 ?_
      try simp only [Act.put, tkT, tk0, tkS]
      refine tkH 16 (by simp only [tkA, tkG]; rfl) (by kernel_rfl) (by exact fun _ _ _ h => h) (by rfl) (by intro W hW; go_simp <;> with_reducible rfl) hd0 ?_
      try simp only [Act.put, tkT, tk0, tkS]
      refine tkH 17 (by simp only [tkA, tkG]; rfl) (by kernel_rfl) (by exact fun _ _ _ h => h) (by rfl) (by intro W hW; go_simp <;> with_reducible rfl) hd0 ?_
      try simp only [Act.put, tkT, tk0, tkS]
      refine tkH 18 (by simp only [tkA, tkG]; rfl) (by kernel_rfl) (by exact fun _ _ _ h => h) (by rfl) (by intro W hW; go_simp <;> with_reducible rfl) hd0 ?_
      try simp only [Act.put, tkT, tk0, tkS]
      refine clH 7 (by kernel_rfl) (by simp only [tkA, tkG]; rfl) (fun K hK => ?_)
      go_simp
      refine HY1.out.mono ?_
      rintro e w6 hyes
      obtain ⟨rfl, y, hp, hd, ho, hr6, hlow6, ha6⟩ := HJ5d.out.heard hyes
      have hd6 := hd0.apart ha6 (fun p e => by rw [e]; exact HJ5d.out.bl) (fun e => hbq e.symm)
      have Hd := Lib.hid hd
      have Ho := Lib.hid ho
      have Hr6 := Lib.hid hr6
      have Hlow6 := Lib.hid hlow6
      have Hp := Lib.hid hp
      clear hd ho hr6 hlow6 hp hyes hd0 ha6 HY1
      go_wp2_with fail
      refine hK.out _ _ hd6 (fun _ => ?_)
      clear hK K
      refine clH 19 (by kernel_rfl) (by simp only [tkA, tkG]; rfl) (fun K hK => ?_)
      go_simp
      refine (HY2.out _ Hr6.out Hlow6.out.size).mono ?_
      rintro e w7 hboth
      obtain ⟨rfl, v', hJ7, ha7⟩ := HJ5d.out.both hk7 rfl Hfw.out hbit (Hp.out.trans Hz2.out) Hd.out Ho.out Hr6.out Hlow6.out (hboth.2 hany)
      have hd7 := hd6.apart ha7 (fun p e => by
        rcases e with e | e
        · rw [e]; exact HJ5d.out.rl
        · exact Nat.le_trans HJ5d.out.bB (HJ5d.out.vlt e).1) (fun e => by
        rcases e with e | e
        · exact hrq e.symm
        · exact hvq q e rfl)
      have HR := Lib.hid (HNext.out w7 ⟨_, _, _, _, hJ7⟩)
      clear hboth hJ7 ha7 Hd Ho Hr6 Hlow6 Hp hd6 HJ5d HY2 HNext Hz2 Hfw hvq hany
      go_wp2_with fail
      refine hK.out _ _ hd7 (fun _ => ?_)
      clear hK K
      refine tkH 20 (by simp only [tkA, tkG]; rfl) (by kernel_rfl) (by exact fun _ _ _ h => h) (by rfl) (by intro W hW; go_simp <;> with_reducible rfl) hd7 ?_
      try simp only [Act.put, tkT, tk0, tkS]
      refine wpAnyH_done (by kernel_rfl) ?_ _
      clear kl ka0 ka1 ka2 ka3 ka4 ka5 ka6 ka7 ka8 kz0 kz1 kz2 kz3 kz4 kz5 kz6 kz7 kz8
      clear hd7
      go_wp2_with fail
      go_roundw
      case rel => exact HR.out
      case measure => simp [intOf]; omega
end Go.Proofs.Ytkahecdnmeofkaa
