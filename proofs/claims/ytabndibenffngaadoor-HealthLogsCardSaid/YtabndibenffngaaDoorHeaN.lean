/- HealthLogs: the walk of the law at records in memory. Conditions: where they lie. -/
import Derived.Test.YtabndibenffngaaDoorHeaG
import Derived.Test.YtabndibenffngaaDoorHeaM
import Derived.Test.YtabndibenffngaaDoorFraJ
import Derived.WalkLawsBesides
namespace Go.Proofs.YtabndibenffngaaDoor
open Go.RowKit HeaP
set_option maxRecDepth 100000

def zrec : FrameP.Rec := ⟨0, 0, 0, 0, 0⟩
def zlog : List Value := logCs [] (recsVals (List.replicate 16 zrec)) 0
theorem zero_log (W : World) : (zeroValue 72).run Tryd.prog W = .ok (.agg zlog.toArray) W := by
  have h : (Tryd.prog.info? 72).map (fun i => i.zero) = some (some (.agg zlog.toArray)) := by kernel_rfl
  cases hi : Tryd.prog.info? 72 with
  | none => rw [hi] at h; cases h
  | some i =>
    rw [hi] at h
    have hz : i.zero = some (.agg zlog.toArray) := by simpa using h
    simp [zeroValue, typeInfo, hi, hz]
theorem zlog_in {W : World} {T : Nat} (h : W.heap[T]? = some (.cells zlog.toArray 72 (0, 0))) : LogIn W T [] :=
  ⟨recsVals (List.replicate 16 zrec), h, by rw [recsVals_length]; rfl, recsVals_one _⟩
/-- A part of records in memory. -/
theorem recs_sub {W : World} {b off : Nat} {l : List FrameP.Rec} (h : RecsIn W (some ⟨b, off, none⟩) l) (lo hi : Nat) : RecsIn W (some ⟨b, off + lo * 5, none⟩) ((l.take hi).drop lo) := fun hn => by
  obtain ⟨b', off', e, hb, hat⟩ := h (by rw [List.length_drop, List.length_take] at hn; omega)
  cases e
  refine ⟨b, off + lo * 5, rfl, hb, fun i x hx => ?_⟩
  rw [List.getElem?_drop, List.getElem?_take] at hx
  by_cases hlt : lo + i < hi
  · rw [if_pos hlt] at hx
    have := hat (lo + i) x hx
    rw [show off + (lo + i) * 5 = off + lo * 5 + i * 5 by omega] at this
    exact this
  · rw [if_neg hlt] at hx; cases hx

/-- The copy, whatever is stored into it. -/
def Lg2R (w : World) (T B q : Nat) (v : Value) (l : List FrameP.Rec) (vi : Value) (W : World) : Prop := ∃ j xs, j ≤ q ∧ vi = .int .i64 (j : Nat) ∧ W.ownsRow B 69 5 v q xs ∧ xs.length = q * 5 ∧ LogIn W T l ∧ Below w.heap.size w W
def LgsR (w : World) (T n : Nat) (l : List FrameP.Rec) (vi : Value) (W : World) : Prop := ∃ i, i ≤ n ∧ vi = .int .i64 (i : Nat) ∧ LogIn W T (HeaP.logT (l.take i)) ∧ Below w.heap.size w W
set_option maxHeartbeats 4000000 in
theorem hlogs_law (A : Option Addr) (n cap : Nat) (l : List FrameP.Rec) (hl : l.length = n) (hcap : n ≤ cap) (w : World) (h : RecsIn w A l) :
    Calls Tryd.prog 6 #[.slice A n cap] w (HTrue w) := by
  have HW := Lib.hid (awake15_any w)
  have HI := Lib.hid h
  have Hl := Lib.hid hl
  clear h hl
  by_cases h500 : 500 < n
  · have d : decide ((500 : Int) < (n : Int)) = true := decide_eq_true (by omega)
    have d' : decide (500 < n) = true := decide_eq_true h500
    go_enter Tryd.func6, Tryd.ntmps6
    go_wp2_with fail
    refine HW.out.mono ?_
    rintro e w1 ⟨rfl, hb1⟩
    have HB1 := Lib.hid hb1
    clear hb1 HW
    go_wp2_with fail
    go_ret
    exact ⟨rfl, HB1.out⟩
  have d : decide ((500 : Int) < (n : Int)) = false := decide_eq_false (by omega)
  have d' : decide (500 < n) = false := decide_eq_false h500
  obtain ⟨zs, hz, hsz, hne, hdef⟩ : ∃ zs : Array Value, (∀ W, (zeroValue 72).run Tryd.prog W = .ok (.agg zs) W) ∧ zs.size = 81 ∧ ¬ zs = #[] ∧ zs = zlog.toArray := ⟨_, zero_log, rfl, by decide, rfl⟩
  have HZ := Lib.hid hdef
  clear hdef
  go_enter Tryd.func6, Tryd.ntmps6
  go_wp2_with fail
  refine HW.out.mono ?_
  rintro e w1 ⟨rfl, hb1⟩
  have HB1 := Lib.hid hb1
  clear hb1 HW
  have HS0 : Hid (LgsR w w1.heap.size n l (.int .i64 0) (w1.alloc (.cells zs 72))) := Lib.hid ⟨0, Nat.zero_le _, rfl, zlog_in (by rw [HZ.out]; exact heap_alloc_new w1 _), HB1.out.alloc HB1.out.size _⟩
  have HT : Hid (w.heap.size ≤ w1.heap.size) := Lib.hid HB1.out.size
  go_wp2_with fail
  clear hz hsz hne HZ HB1 d d'
  generalize w1.heap.size = T at *
  go_loopw [16] (LgsR w T n l) (fun i _ => (n + 1 - intOf i).toNat)
  case atStart => exact HS0.out
  case round =>
    clear HS0
    obtain ⟨i, hi, rfl, hlog, hb⟩ := hrel
    have HL := Lib.hid hlog
    have HB := Lib.hid hb
    clear hlog hb
    by_cases hlt : i < n
    case pos =>
      obtain ⟨y, hy⟩ : ∃ y, l[i]? = some y := ⟨_, List.getElem?_eq_getElem (by rw [Hl.out]; exact hlt)⟩
      obtain ⟨b, off, rfl, hbl, hat⟩ := (HI.out.below HB.out) (by rw [Hl.out]; omega)
      obtain ⟨r0, r1, r2, r3, r4⟩ := hat i y hy
      have HPut : Hid (∀ o : Obj, Calls Tryd.prog 26 #[logH T, recV y] (wr.alloc o) (fun e w' => e = .returned (.tuple #[]) ∧ LogIn w' T (HeaP.logT (l.take (i + 1))) ∧ Below w.heap.size w w')) := Lib.hid fun o => by
        have hb1 : Below wr.heap.size wr (wr.alloc o) := (Below.refl _ _).alloc (Nat.le_refl _) _
        refine (hput_any (wr.alloc o) T _ y (HL.out.keep hb1)).mono fun e w' ⟨h1, h2, h3⟩ => ⟨h1, by rw [← HeaP.log_take hy]; exact h2, ?_⟩
        have hB2 : Below w.heap.size w (wr.alloc o) := HB.out.trans (hb1.mono HB.out.size)
        exact hB2.trans (h3.below hB2.size fun k hk => by subst hk; exact HT.out)
      have HLs : Hid (∀ W, LogIn W T (HeaP.logT (l.take (i + 1))) → Calls Tryd.prog 27 #[logH T] W (CloL W (HeaP.logT (l.take (i + 1))))) := Lib.hid fun W hW => hlist_any W T _ hW
      clear hat hy hbl
      unfold logH recV at *
      obtain ⟨yr, yn, yp, yk, yd⟩ := y
      simp only at r0 r1 r2 r3 r4 HPut
      go_wp2_with fail
      refine (HPut.out _).mono ?_
      rintro e w3 ⟨rfl, hl3, hb3⟩
      have HL3 := Lib.hid hl3
      have HB3 := Lib.hid hb3
      clear hl3 hb3 HPut r0 r1 r2 r3 r4
      go_wp2_with fail
      have HLD : Hid (LogIn w3.drew T (HeaP.logT (l.take (i + 1)))) := Lib.hid (HL3.out.keep (Below.refl _ w3).drew)
      obtain ⟨p, hp⟩ : ∃ p, p = i + 1 := ⟨_, rfl⟩
      obtain ⟨lo, hlo⟩ : ∃ lo, lo = p - 16 := ⟨_, rfl⟩
      obtain ⟨z, hz⟩ : ∃ z : Int, z = (p : Int) - 16 := ⟨_, rfl⟩
      have a1 : IntKind.i64.wrap ((i : Int) + 1) = (p : Int) := by rw [IntWalk.i64_in _ (by omega)]; omega
      have a2 : IntKind.i64.wrap ((p : Int) - 16) = z := by rw [IntWalk.i64_in _ (by omega)]; omega
      have a3 : (if 0 < z then z else 0) = (lo : Int) := by
        by_cases h0 : 0 < z
        · rw [if_pos h0]; omega
        · rw [if_neg h0]; omega
      have a4 : lo ≤ p := by omega
      have a5 : p ≤ cap := by omega
      have a6 : ¬ cap = lo := by omega
      have a7 : p ≤ 500 := by omega
      rw [← hp] at HLs HL3 HLD
      have HSub : Hid (∀ W, Below w.heap.size w W → RecsIn W (some ⟨b, off + lo * 5, none⟩) (HeaP.logT (l.take p))) := Lib.hid fun W hW => by
        rw [HeaP.log_cut (by rw [Hl.out]; omega), ← hlo]
        exact recs_sub (HI.out.below hW) lo p
      have HLen : Hid ((HeaP.logT (l.take p)).length = p - lo) := Lib.hid (by
        rw [HeaP.log_len, List.length_take, Hl.out]; omega)
      have HNext : Hid (∀ W, LogIn W T (HeaP.logT (l.take p)) → Below w.heap.size w W → LgsR w T n l (.int .i64 ((i : Int) + 1)) W) := Lib.hid fun W h1 h2 => ⟨i + 1, by omega, by go_num, by rw [← hp]; exact h1, h2⟩
      clear hz hlo hp
      refine wp_region_held_drew (S := fun _ => True) (by kernel_rfl) trivial (fun _ => ?_)
      refine tkH 1 (by simp only [tkA, tkG]; rfl) (by kernel_rfl) (by exact fun _ _ _ h => h) (by rfl) (by intro W hW; go_simp <;> with_reducible rfl) trivial ?_
      try simp only [Act.put, tkT, tk0, tkS]
      refine tkH 2 (by simp only [tkA, tkG]; rfl) (by kernel_rfl) (by exact fun _ _ _ h => h) (by rfl) (by intro W hW; go_simp <;> with_reducible rfl) trivial ?_
      try simp only [Act.put, tkT, tk0, tkS]
      refine tkH 3 (by simp only [tkA, tkG]; rfl) (by kernel_rfl) (by exact fun _ _ _ h => h) (by rfl) (by intro W hW; go_simp <;> with_reducible rfl) trivial ?_
      try simp only [Act.put, tkT, tk0, tkS]
      refine tkH 4 (by simp only [tkA, tkG]; rfl) (by kernel_rfl) (by exact fun _ _ _ h => h) (by rfl) (by intro W hW; go_simp <;> with_reducible rfl) trivial ?_
      try simp only [Act.put, tkT, tk0, tkS]
      refine tkH 5 (by simp only [tkA, tkG]; rfl) (by kernel_rfl) (by exact fun _ _ _ h => h) (by rfl) (by intro W hW; go_simp <;> with_reducible rfl) trivial ?_
      try simp only [Act.put, tkT, tk0, tkS]
      refine tkH 6 (by simp only [tkA, tkG]; rfl) (by kernel_rfl) (by exact fun _ _ _ h => h) (by rfl) (by intro W hW; go_simp <;> with_reducible rfl) trivial ?_
      try simp only [Act.put, tkT, tk0, tkS]
      refine tkH 7 (by simp only [tkA, tkG]; rfl) (by kernel_rfl) (by exact fun _ _ _ h => h) (by rfl) (by intro W hW; go_simp <;> with_reducible rfl) trivial ?_
      try simp only [Act.put, tkT, tk0, tkS]
      refine tkH 8 (by simp only [tkA, tkG]; rfl) (by kernel_rfl) (by exact fun _ _ _ h => h) (by rfl) (by intro W hW; go_simp <;> with_reducible rfl) trivial ?_
      try simp only [Act.put, tkT, tk0, tkS]
      clear a1 a2 a3
      refine clH 0 (by kernel_rfl) (by simp only [tkA]; rfl) (fun K hK => ?_)
      go_simp
      refine (HLs.out _ HLD.out).mono ?_
      rintro e w4 ⟨v, rfl, hown, hb4⟩
      have hb40 : Below w.heap.size w w4 := (HB3.out.drew).trans (hb4.mono HB3.out.size)
      have hl4 := HLD.out.keep hb4
      obtain ⟨A4, c4, rfl, -, hR4⟩ := RecsIn.own hown
      rw [HLen.out]
      have HSm := Lib.hid (sameRecs_any A4 (some ⟨b, off + lo * 5, none⟩) (p - lo) c4 (cap - lo) _ HLen.out w4 hR4 (HSub.out w4 hb40) (by omega))
      have HB4 := Lib.hid hb40
      have HL4 := Lib.hid hl4
      clear hown hb4 hb40 hl4 hR4 HLs HLD HLen
      go_wp2_with fail
      refine hK.out _ _ trivial (fun _ => ?_)
      clear hK K
      refine clH 9 (by kernel_rfl) (by simp only [tkA, tkG]; rfl) (fun K hK => ?_)
      go_simp
      refine HSm.out.mono ?_
      rintro e w5 ⟨rfl, m5, rfl⟩
      have HF := Lib.hid (HNext.out (w4.drewN m5) (HL4.out.keep (below_drewNc (Below.refl _ _) m5)) (below_drewNc HB4.out m5))
      clear HSm HNext
      go_wp2_with fail
      refine hK.out _ _ trivial (fun _ => ?_)
      clear hK K
      refine tkH 10 (by simp only [tkA, tkG]; rfl) (by kernel_rfl) (by exact fun _ _ _ h => h) (by rfl) (by intro W hW; go_simp <;> with_reducible rfl) trivial ?_
      try simp only [Act.put, tkT, tk0, tkS]
      refine wpAnyH_done (by kernel_rfl) ?_ _
      go_wp2_with fail
      go_roundw
      case rel => exact HF.out
      case measure => simp [intOf] <;> omega
    -- behind the loop
    have ein : n = i := by omega
    subst ein
    clear hlt hi
    have hall : l.take n = l := List.take_of_length_le (by rw [Hl.out]; exact Nat.le_refl _)
    rw [hall] at HL
    obtain ⟨q, hq⟩ : ∃ q, (HeaP.logT l).length = q := ⟨_, rfl⟩
    have hq16 : q = min n 16 := by rw [← hq, HeaP.log_len, Hl.out]
    have HQ := Lib.hid hq
    have HLs : Hid (∀ W, LogIn W T (HeaP.logT l) → Calls Tryd.prog 27 #[logH T] W (CloL W (HeaP.logT l))) := Lib.hid fun W hW => hlist_any W T _ hW
    have HPn : Hid (∀ W, Calls Tryd.prog 26 #[.pointer none, .agg #[.int .u32 0, .int .u8 0, .int .u8 0, .int .u8 0, .int .u8 0]] W (fun e w' => e = .returned (.tuple #[]) ∧ Below W.heap.size W w')) := Lib.hid fun W => hput_nil zrec W
    have HLn := Lib.hid (fun W => hlist_nil W)
    clear hall hq
    unfold logH at *
    go_wp2_with fail
    refine (HLs.out wr HL.out).mono ?_
    rintro e w3 ⟨v, rfl, hown, hb3⟩
    have hl3 := HL.out.keep hb3
    have hb30 := HB.out.trans (hb3.mono HB.out.size)
    rw [HQ.out] at hown
    obtain ⟨A3, c3, rfl, hc3⟩ := own_slice hown
    have HTB : Hid (T < wr.heap.size) := Lib.hid (by obtain ⟨rest, h⟩ := HL.out; exact lt_of_block h.hd)
    have HS2 : Hid (Lg2R w T wr.heap.size q (.slice A3 q c3) (HeaP.logT l) (.int .i64 0) w3) := Lib.hid ⟨0, _, Nat.zero_le _, rfl, hown, by rw [recsVals_length, HQ.out], hl3, hb30⟩
    clear hown hb3 hl3 hb30 HL HB
    generalize wr.heap.size = B at *
    go_wp2_with fail
    go_loopw [38] (Lg2R w T B q (.slice A3 q c3) (HeaP.logT l)) (fun i _ => (n + 17 - intOf i).toNat)
    case atStart => exact HS2.out
    case round =>
      clear HS2
      obtain ⟨j, xs, hj, rfl, hown, hxl, hlg, hb⟩ := hrel
      by_cases hjq : j < q
      case pos =>
        obtain ⟨g, cg, hv, hBg, hgw⟩ : ∃ g cg, A3 = some ⟨g, 0, none⟩ ∧ B ≤ g ∧ c3 = cg := by
          rcases hown.2 with ⟨h0, h1⟩ | ⟨g, cap', cur, e, hBg, -⟩
          · omega
          · simp only [Value.slice.injEq] at e
            exact ⟨g, cap', e.1, hBg, e.2.2⟩
        subst hv hgw
        have hat : ∀ k, k < 5 → ∃ u, wr.cell? ⟨g, j * 5 + k, none⟩ = some u := fun k hk => by
          have hlt2 : j * 5 + k < q * 5 := by omega
          rw [hown.cellAt _ hlt2]
          exact ⟨_, List.getElem?_eq_getElem (by rw [hxl]; exact hlt2)⟩
        obtain ⟨u0, kk0⟩ := hat 0 (by omega)
        have k0 : wr.cell? ⟨g, j * 5, none⟩ = some u0 := kk0
        clear kk0
        obtain ⟨u1, kk1⟩ := hat 1 (by omega)
        have k1 : wr.cell? ⟨g, j * 5 + 1, none⟩ = some u1 := kk1
        clear kk1
        obtain ⟨u2, kk2⟩ := hat 2 (by omega)
        have k2 : wr.cell? ⟨g, j * 5 + 2, none⟩ = some u2 := kk2
        clear kk2
        obtain ⟨u3, kk3⟩ := hat 3 (by omega)
        have k3 : wr.cell? ⟨g, j * 5 + 3, none⟩ = some u3 := kk3
        clear kk3
        obtain ⟨u4, kk4⟩ := hat 4 (by omega)
        have k4 : wr.cell? ⟨g, j * 5 + 4, none⟩ = some u4 := kk4
        clear kk4
        have hfr : ∀ k, wr.frozen? ⟨g, k, none⟩ = false := (Seg.of_own hown).frozen
        have f0 := hfr (j * 5)
        have f1 := hfr (j * 5 + 1)
        have f2 := hfr (j * 5 + 2)
        have f3 := hfr (j * 5 + 3)
        have f4 := hfr (j * 5 + 4)
        have HF : Hid (Lg2R w T B q (.slice (some ⟨g, 0, none⟩) q c3) (HeaP.logT l) (.int .i64 ((j : Int) + 1)) (setRec wr g (j * 5) ⟨99, 0, 0, 0, 0⟩)) := Lib.hid (by
          have s1 := hown.stored (j * 5) (.int .u32 (99 : Nat))
          have s2 := s1.1.stored (j * 5 + 1) (.int .u8 (0 : Nat))
          have s3 := s2.1.stored (j * 5 + 2) (.int .u8 (0 : Nat))
          have s4 := s3.1.stored (j * 5 + 3) (.int .u8 (0 : Nat))
          have s5 := s4.1.stored (j * 5 + 4) (.int .u8 (0 : Nat))
          have ha := setRec_apart wr g (j * 5) ⟨99, 0, 0, 0, 0⟩
          refine ⟨j + 1, _, by omega, by go_num, s5.1, by simp [hxl], hlg.apart ha (fun e => by have := HTB.out; omega), hb.trans (ha.below hb.size fun k hk => by have := HT.out; have := HTB.out; omega)⟩)
        clear hat hfr hown hxl hlg hb
        unfold setRec at HF
        go_wp2_with fail
        go_roundw
        case rel => exact HF.out
        case measure => simp [intOf] <;> omega
      have ejq : q = j := by omega
      have HL := Lib.hid hlg
      have HB := Lib.hid hb
      clear hown hxl hlg hb hjq
      subst ejq
      obtain ⟨lo, hlo⟩ : ∃ lo, lo = n - 16 := ⟨_, rfl⟩
      obtain ⟨z, hz⟩ : ∃ z : Int, z = (n : Int) - 16 := ⟨_, rfl⟩
      have a2 : IntKind.i64.wrap ((n : Int) - 16) = z := by rw [IntWalk.i64_in _ (by omega)]; omega
      have a3 : (if 0 < z then z else 0) = (lo : Int) := by
        by_cases h0 : 0 < z
        · rw [if_pos h0]; omega
        · rw [if_neg h0]; omega
      have a4 : lo ≤ n := by omega
      have HLen : Hid ((HeaP.logT l).length = n - lo) := Lib.hid (by rw [HQ.out]; omega)
      have hn5 : n ≤ 500 := by omega
      have hqn : q = n - lo := by omega
      by_cases h0 : 0 < n
      · obtain ⟨b, off, rfl, -, -⟩ := HI.out (by rw [Hl.out]; exact h0)
        have a5 : n ≤ cap := hcap
        have a6 : ¬ cap = lo := by omega
        have HSub : Hid (∀ W, Below w.heap.size w W → RecsIn W (some ⟨b, off + lo * 5, none⟩) (HeaP.logT l)) := Lib.hid fun W hW => by
          have := recs_sub (HI.out.below hW) lo n
          rw [List.take_of_length_le (by rw [Hl.out]; exact Nat.le_refl _)] at this
          unfold HeaP.logT
          rw [Hl.out, ← hlo]
          exact this
        clear hlo hz
        go_wp2_with fail
        refine (HPn.out _).mono ?_
        rintro e w4 ⟨rfl, hb4⟩
        have HB4 := Lib.hid (HB.out.trans (hb4.mono HB.out.size))
        have HL4 : Hid (LogIn w4.drew T (HeaP.logT l)) := Lib.hid (HL.out.keep (hb4.drew))
        clear hb4
        go_wp2_with fail
        refine wp_region_held_drew (S := fun _ => True) (by kernel_rfl) trivial (fun _ => ?_)
        refine tkH 0 (by simp only [tkA]; rfl) (by kernel_rfl) (by exact fun _ _ _ h => h) (by rfl) (by intro W hW; go_simp <;> with_reducible rfl) trivial ?_
        try simp only [Act.put, tkT, tk0, tkS]
        refine clH 1 (by kernel_rfl) (by simp only [tkA, tkG]; rfl) (fun K hK => ?_)
        go_simp
        refine (HLn.out _).mono ?_
        rintro e w5 ⟨rfl, rfl⟩
        go_wp2_with fail
        refine hK.out _ _ trivial (fun _ => ?_)
        clear hK K
        refine tkH 2 (by simp only [tkA, tkG]; rfl) (by kernel_rfl) (by exact fun _ _ _ h => h) (by rfl) (by intro W hW; go_simp <;> with_reducible rfl) trivial ?_
        try simp only [Act.put, tkT, tk0, tkS]
        refine tkH 3 (by simp only [tkA, tkG]; rfl) (by kernel_rfl) (by exact fun _ _ _ h => h) (by rfl) (by intro W hW; go_simp <;> with_reducible rfl) trivial ?_
        try simp only [Act.put, tkT, tk0, tkS]
        refine tkH 4 (by simp only [tkA, tkG]; rfl) (by kernel_rfl) (by exact fun _ _ _ h => h) (by rfl) (by intro W hW; go_simp <;> with_reducible rfl) trivial ?_
        try simp only [Act.put, tkT, tk0, tkS]
        refine tkH 6 (by simp only [tkA, tkG]; rfl) (by kernel_rfl) (by exact fun _ _ _ h => h) (by rfl) (by intro W hW; go_simp <;> with_reducible rfl) trivial ?_
        try simp only [Act.put, tkT, tk0, tkS]
        refine tkH 7 (by simp only [tkA, tkG]; rfl) (by kernel_rfl) (by exact fun _ _ _ h => h) (by rfl) (by intro W hW; go_simp <;> with_reducible rfl) trivial ?_
        try simp only [Act.put, tkT, tk0, tkS]
        refine tkH 8 (by simp only [tkA, tkG]; rfl) (by kernel_rfl) (by exact fun _ _ _ h => h) (by rfl) (by intro W hW; go_simp <;> with_reducible rfl) trivial ?_
        try simp only [Act.put, tkT, tk0, tkS]
        refine tkH 9 (by simp only [tkA, tkG]; rfl) (by kernel_rfl) (by exact fun _ _ _ h => h) (by rfl) (by intro W hW; go_simp <;> with_reducible rfl) trivial ?_
        try simp only [Act.put, tkT, tk0, tkS]
        refine tkH 10 (by simp only [tkA, tkG]; rfl) (by kernel_rfl) (by exact fun _ _ _ h => h) (by rfl) (by intro W hW; go_simp <;> with_reducible rfl) trivial ?_
        try simp only [Act.put, tkT, tk0, tkS]
        refine tkH 11 (by simp only [tkA, tkG]; rfl) (by kernel_rfl) (by exact fun _ _ _ h => h) (by rfl) (by intro W hW; go_simp <;> with_reducible rfl) trivial ?_
        try simp only [Act.put, tkT, tk0, tkS]
        clear a2 a3
        refine clH 5 (by kernel_rfl) (by simp only [tkA, tkG]; rfl) (fun K hK => ?_)
        go_simp
        refine (HLs.out _ HL4.out).mono ?_
        rintro e w6 ⟨v, rfl, hown, hb6⟩
        have hb60 : Below w.heap.size w w6 := (HB4.out.drew).trans (hb6.mono HB4.out.size)
        obtain ⟨A6, c6, rfl, -, hR6⟩ := RecsIn.own hown
        rw [HLen.out]
        have HSm := Lib.hid (sameRecs_any A6 (some ⟨b, off + lo * 5, none⟩) (n - lo) c6 (cap - lo) _ HLen.out w6 hR6 (HSub.out w6 hb60) (by omega))
        have HB6 := Lib.hid hb60
        clear hown hb6 hb60 hR6 HLs HLen
        go_wp2_with fail
        refine hK.out _ _ trivial (fun _ => ?_)
        clear hK K
        refine clH 12 (by kernel_rfl) (by simp only [tkA, tkG]; rfl) (fun K hK => ?_)
        go_simp
        refine HSm.out.mono ?_
        rintro e w7 ⟨rfl, m7, rfl⟩
        clear HSm
        go_wp2_with fail
        refine hK.out _ _ trivial (fun _ => ?_)
        clear hK K
        refine tkH 13 (by simp only [tkA, tkG]; rfl) (by kernel_rfl) (by exact fun _ _ _ h => h) (by rfl) (by intro W hW; go_simp <;> with_reducible rfl) trivial ?_
        try simp only [Act.put, tkT, tk0, tkS]
        refine tkH 14 (by simp only [tkA, tkG]; rfl) (by kernel_rfl) (by exact fun _ _ _ h => h) (by rfl) (by intro W hW; go_simp <;> with_reducible rfl) trivial ?_
        try simp only [Act.put, tkT, tk0, tkS]
        refine wpAnyH_done (by kernel_rfl) ?_ _
        go_wp2_with fail
        go_ret
        exact ⟨rfl, below_drewNc HB6.out m7⟩
      · have en : n = 0 := by omega
        have el : HeaP.logT l = [] := List.eq_nil_of_length_eq_zero (by rw [HLen.out]; omega)
        rw [el] at HL HLs
        have elo : lo = 0 := by omega
        have eq0 : q = 0 := by omega
        clear HLen a2 a3 a4 hlo hz hqn hn5 HQ
        subst en
        subst elo
        have m16 : IntKind.i64.wrap (-16) = -16 := IntWalk.i64_in _ (by omega)
        rcases A with _ | ad
        · go_wp2_with fail
          refine (HPn.out _).mono ?_
          rintro e w4 ⟨rfl, hb4⟩
          have HB4 := Lib.hid (HB.out.trans (hb4.mono HB.out.size))
          have HL4 : Hid (LogIn w4.drew T []) := Lib.hid (HL.out.keep (hb4.drew))
          clear hb4
          go_wp2_with fail
          refine wp_region_held_drew (S := fun _ => True) (by kernel_rfl) trivial (fun _ => ?_)
          refine tkH 0 (by simp only [tkA]; rfl) (by kernel_rfl) (by exact fun _ _ _ h => h) (by rfl) (by intro W hW; go_simp <;> with_reducible rfl) trivial ?_
          try simp only [Act.put, tkT, tk0, tkS]
          refine clH 1 (by kernel_rfl) (by simp only [tkA, tkG]; rfl) (fun K hK => ?_)
          go_simp
          refine (HLn.out _).mono ?_
          rintro e w5 ⟨rfl, rfl⟩
          go_wp2_with fail
          refine hK.out _ _ trivial (fun _ => ?_)
          clear hK K
          refine tkH 2 (by simp only [tkA, tkG]; rfl) (by kernel_rfl) (by exact fun _ _ _ h => h) (by rfl) (by intro W hW; go_simp <;> with_reducible rfl) trivial ?_
          try simp only [Act.put, tkT, tk0, tkS]
          refine tkH 3 (by simp only [tkA, tkG]; rfl) (by kernel_rfl) (by exact fun _ _ _ h => h) (by rfl) (by intro W hW; go_simp <;> with_reducible rfl) trivial ?_
          try simp only [Act.put, tkT, tk0, tkS]
          refine tkH 4 (by simp only [tkA, tkG]; rfl) (by kernel_rfl) (by exact fun _ _ _ h => h) (by rfl) (by intro W hW; go_simp <;> with_reducible rfl) trivial ?_
          try simp only [Act.put, tkT, tk0, tkS]
          refine tkH 6 (by simp only [tkA, tkG]; rfl) (by kernel_rfl) (by exact fun _ _ _ h => h) (by rfl) (by intro W hW; go_simp <;> with_reducible rfl) trivial ?_
          try simp only [Act.put, tkT, tk0, tkS]
          refine tkH 7 (by simp only [tkA, tkG]; rfl) (by kernel_rfl) (by exact fun _ _ _ h => h) (by rfl) (by intro W hW; go_simp <;> with_reducible rfl) trivial ?_
          try simp only [Act.put, tkT, tk0, tkS]
          refine tkH 8 (by simp only [tkA, tkG]; rfl) (by kernel_rfl) (by exact fun _ _ _ h => h) (by rfl) (by intro W hW; go_simp <;> with_reducible rfl) trivial ?_
          try simp only [Act.put, tkT, tk0, tkS]
          refine tkH 9 (by simp only [tkA, tkG]; rfl) (by kernel_rfl) (by exact fun _ _ _ h => h) (by rfl) (by intro W hW; go_simp <;> with_reducible rfl) trivial ?_
          try simp only [Act.put, tkT, tk0, tkS]
          refine tkH 10 (by simp only [tkA, tkG]; rfl) (by kernel_rfl) (by exact fun _ _ _ h => h) (by rfl) (by intro W hW; go_simp <;> with_reducible rfl) trivial ?_
          try simp only [Act.put, tkT, tk0, tkS]
          refine tkH 11 (by simp only [tkA, tkG]; rfl) (by kernel_rfl) (by exact fun _ _ _ h => h) (by rfl) (by intro W hW; go_simp <;> with_reducible rfl) trivial ?_
          try simp only [Act.put, tkT, tk0, tkS]
          refine clH 5 (by kernel_rfl) (by simp only [tkA, tkG]; rfl) (fun K hK => ?_)
          go_simp
          refine (HLs.out _ HL4.out).mono ?_
          rintro e w6 ⟨v, rfl, hown, hb6⟩
          have hb60 : Below w.heap.size w w6 := (HB4.out.drew).trans (hb6.mono HB4.out.size)
          obtain ⟨A6, c6, rfl, -, hR6⟩ := RecsIn.own hown
          have HSm : Hid (∀ A2 c2, Calls Tryd.prog 21 #[.slice A6 0 c6, .slice A2 0 c2] w6 (SamePost w6)) := Lib.hid fun A2 c2 => sameRecs_any A6 A2 0 c6 c2 [] rfl w6 hR6 (fun h => absurd h (by simp)) (by omega)
          have HB6 := Lib.hid hb60
          clear hown hb6 hb60 hR6 HLs
          go_wp2_with fail
          refine hK.out _ _ trivial (fun _ => ?_)
          clear hK K
          refine clH 12 (by kernel_rfl) (by simp only [tkA, tkG]; rfl) (fun K hK => ?_)
          go_simp
          refine (HSm.out _ _).mono ?_
          rintro e w7 ⟨rfl, m7, rfl⟩
          clear HSm
          go_wp2_with fail
          refine hK.out _ _ trivial (fun _ => ?_)
          clear hK K
          refine tkH 13 (by simp only [tkA, tkG]; rfl) (by kernel_rfl) (by exact fun _ _ _ h => h) (by rfl) (by intro W hW; go_simp <;> with_reducible rfl) trivial ?_
          try simp only [Act.put, tkT, tk0, tkS]
          refine tkH 14 (by simp only [tkA, tkG]; rfl) (by kernel_rfl) (by exact fun _ _ _ h => h) (by rfl) (by intro W hW; go_simp <;> with_reducible rfl) trivial ?_
          try simp only [Act.put, tkT, tk0, tkS]
          refine wpAnyH_done (by kernel_rfl) ?_ _
          go_wp2_with fail
          go_ret
          exact ⟨rfl, below_drewNc HB6.out m7⟩
        · go_wp2_with fail
          refine (HPn.out _).mono ?_
          rintro e w4 ⟨rfl, hb4⟩
          have HB4 := Lib.hid (HB.out.trans (hb4.mono HB.out.size))
          have HL4 : Hid (LogIn w4.drew T []) := Lib.hid (HL.out.keep (hb4.drew))
          clear hb4
          go_wp2_with fail
          refine wp_region_held_drew (S := fun _ => True) (by kernel_rfl) trivial (fun _ => ?_)
          refine tkH 0 (by simp only [tkA]; rfl) (by kernel_rfl) (by exact fun _ _ _ h => h) (by rfl) (by intro W hW; go_simp <;> with_reducible rfl) trivial ?_
          try simp only [Act.put, tkT, tk0, tkS]
          refine clH 1 (by kernel_rfl) (by simp only [tkA, tkG]; rfl) (fun K hK => ?_)
          go_simp
          refine (HLn.out _).mono ?_
          rintro e w5 ⟨rfl, rfl⟩
          go_wp2_with fail
          refine hK.out _ _ trivial (fun _ => ?_)
          clear hK K
          refine tkH 2 (by simp only [tkA, tkG]; rfl) (by kernel_rfl) (by exact fun _ _ _ h => h) (by rfl) (by intro W hW; go_simp <;> with_reducible rfl) trivial ?_
          try simp only [Act.put, tkT, tk0, tkS]
          refine tkH 3 (by simp only [tkA, tkG]; rfl) (by kernel_rfl) (by exact fun _ _ _ h => h) (by rfl) (by intro W hW; go_simp <;> with_reducible rfl) trivial ?_
          try simp only [Act.put, tkT, tk0, tkS]
          refine tkH 4 (by simp only [tkA, tkG]; rfl) (by kernel_rfl) (by exact fun _ _ _ h => h) (by rfl) (by intro W hW; go_simp <;> with_reducible rfl) trivial ?_
          try simp only [Act.put, tkT, tk0, tkS]
          refine tkH 6 (by simp only [tkA, tkG]; rfl) (by kernel_rfl) (by exact fun _ _ _ h => h) (by rfl) (by intro W hW; go_simp <;> with_reducible rfl) trivial ?_
          try simp only [Act.put, tkT, tk0, tkS]
          refine tkH 7 (by simp only [tkA, tkG]; rfl) (by kernel_rfl) (by exact fun _ _ _ h => h) (by rfl) (by intro W hW; go_simp <;> with_reducible rfl) trivial ?_
          try simp only [Act.put, tkT, tk0, tkS]
          refine tkH 8 (by simp only [tkA, tkG]; rfl) (by kernel_rfl) (by exact fun _ _ _ h => h) (by rfl) (by intro W hW; go_simp <;> with_reducible rfl) trivial ?_
          try simp only [Act.put, tkT, tk0, tkS]
          refine tkH 9 (by simp only [tkA, tkG]; rfl) (by kernel_rfl) (by exact fun _ _ _ h => h) (by rfl) (by intro W hW; go_simp <;> with_reducible rfl) trivial ?_
          try simp only [Act.put, tkT, tk0, tkS]
          refine tkH 10 (by simp only [tkA, tkG]; rfl) (by kernel_rfl) (by exact fun _ _ _ h => h) (by rfl) (by intro W hW; go_simp <;> with_reducible rfl) trivial ?_
          try simp only [Act.put, tkT, tk0, tkS]
          refine tkH 11 (by simp only [tkA, tkG]; rfl) (by kernel_rfl) (by exact fun _ _ _ h => h) (by rfl) (by intro W hW; go_simp <;> with_reducible rfl) trivial ?_
          try simp only [Act.put, tkT, tk0, tkS]
          refine clH 5 (by kernel_rfl) (by simp only [tkA, tkG]; rfl) (fun K hK => ?_)
          go_simp
          refine (HLs.out _ HL4.out).mono ?_
          rintro e w6 ⟨v, rfl, hown, hb6⟩
          have hb60 : Below w.heap.size w w6 := (HB4.out.drew).trans (hb6.mono HB4.out.size)
          obtain ⟨A6, c6, rfl, -, hR6⟩ := RecsIn.own hown
          have HSm : Hid (∀ A2 c2, Calls Tryd.prog 21 #[.slice A6 0 c6, .slice A2 0 c2] w6 (SamePost w6)) := Lib.hid fun A2 c2 => sameRecs_any A6 A2 0 c6 c2 [] rfl w6 hR6 (fun h => absurd h (by simp)) (by omega)
          have HB6 := Lib.hid hb60
          clear hown hb6 hb60 hR6 HLs
          go_wp2_with fail
          refine hK.out _ _ trivial (fun _ => ?_)
          clear hK K
          refine clH 12 (by kernel_rfl) (by simp only [tkA, tkG]; rfl) (fun K hK => ?_)
          go_simp
          refine (HSm.out _ _).mono ?_
          rintro e w7 ⟨rfl, m7, rfl⟩
          clear HSm
          go_wp2_with fail
          refine hK.out _ _ trivial (fun _ => ?_)
          clear hK K
          refine tkH 13 (by simp only [tkA, tkG]; rfl) (by kernel_rfl) (by exact fun _ _ _ h => h) (by rfl) (by intro W hW; go_simp <;> with_reducible rfl) trivial ?_
          try simp only [Act.put, tkT, tk0, tkS]
          refine tkH 14 (by simp only [tkA, tkG]; rfl) (by kernel_rfl) (by exact fun _ _ _ h => h) (by rfl) (by intro W hW; go_simp <;> with_reducible rfl) trivial ?_
          try simp only [Act.put, tkT, tk0, tkS]
          refine wpAnyH_done (by kernel_rfl) ?_ _
          go_wp2_with fail
          go_ret
          exact ⟨rfl, below_drewNc HB6.out m7⟩
end Go.Proofs.YtabndibenffngaaDoor
