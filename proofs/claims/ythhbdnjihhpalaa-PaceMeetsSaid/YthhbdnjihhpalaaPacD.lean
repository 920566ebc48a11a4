/- Turn and Next of a pace. Conditions: where it lies, numbers in their ranges. -/
import Derived.Test.YthhbdnjihhpalaaPacC
import Derived.Test.YthhbdnjihhpalaaMidBa
namespace Go.Proofs.Ythhbdnjihhpalaa
open Go.RowKit
set_option maxRecDepth 100000

/-- What counted answers: a row of the call's own. -/
def CountedP (l : List Int) (w : World) (e : Ending) (w' : World) : Prop := ∃ A cap, e = .returned (.slice A l.length cap) ∧ w'.ownsRow w.heap.size 3 1 (.slice A l.length cap) l.length (intV l) ∧ Below w.heap.size w w'
def CtdR (w : World) (N : Nat) (cold : Bool) (me : Int) (hs : List Bool) (ds : List Int) (v i : Value) (W : World) : Prop :=
  ∃ k, k ≤ N ∧ i = .int .i64 (k : Nat) ∧ W.ownsRow w.heap.size 3 1 v (PacQ.cntd cold me hs ds k).length (intV (PacQ.cntd cold me hs ds k)) ∧ Below w.heap.size w W
theorem ctd_more {w wr w9 : World} {N k n : Nat} {cold : Bool} {me : Int} {hs : List Bool} {ds : List Int} {l : List Int} {d : Int} {v9 : Value} (hk : k < N) (e : PacQ.cntd cold me hs ds (k + 1) = l ++ [d]) (hn : n = l.length)
    (hb : Below w.heap.size w wr) (h1 : w9.ownsRow w.heap.size 3 1 v9 (n + 1) (intV l ++ [.int .i64 d])) (h2 : Below w.heap.size wr w9) : CtdR w N cold me hs ds v9 (.int .i64 ((k : Int) + 1)) w9 := by
  refine ⟨k + 1, hk, by go_num, ?_, hb.trans h2⟩
  rw [e, List.length_append, intV_append]
  subst hn
  exact h1

set_option maxHeartbeats 4000000 in
theorem pcounted_any (x : CfgC) (me : Int) (cold : Bool) (bk : Nat) (since rate : Int) (hs : List Bool) (ds : List Int) (N : Nat) (hN : x.nodes = (N : Int)) (hN7 : N ≤ 7) (b : Nat) (w : World) (h : PaceIn w b x me cold bk since rate hs ds) :
    Calls Try.prog 37 #[pv b] w (CountedP (PacQ.cntd cold me hs ds N) w) := by
  have HS0 : Hid (CtdR w N cold me hs ds (.slice none 0 0) (.int .i64 0) w) := Lib.hid ⟨0, Nat.zero_le _, rfl, World.ownsRow_nil _ _ _ _, Below.refl _ _⟩
  have HPI := Lib.hid (fun W (hW : Below w.heap.size w W) => h.below hW)
  have k0 : w.cell? ⟨b, 0, none⟩ = some (.int .i64 (N : Nat)) := by rw [← hN]; exact h.cfg.c0
  have hh7 := h.hlen
  have hd7 := h.dlen
  clear h hN
  unfold pv
  go_enter Try.func37, Try.ntmps37
  go_wp2_with fail
  clear k0
  go_loopw [3, 10] (CtdR w N cold me hs ds) (fun _ i _ => (N + 1 - intOf i).toNat)
  case atStart => exact HS0.out
  case round =>
    clear HS0
    obtain ⟨k, hk, rfl, ho, hb⟩ := hrel
    obtain ⟨wo, ewo⟩ : ∃ wo, wo = wr := ⟨_, rfl⟩
    subst ewo
    obtain ⟨l, hl⟩ : ∃ l, l = PacQ.cntd cold me hs ds k := ⟨_, rfl⟩
    have hlen := PacQ.cntd_len (cold := cold) (me := me) (hs := hs) (ds := ds) (k := k)
    rw [← hl] at ho hlen
    by_cases hkn : k < N
    case neg =>
      obtain rfl : k = N := by omega
      obtain ⟨Av, cv, rfl, -⟩ := own_slice ho
      have HF : Hid (CountedP (PacQ.cntd cold me hs ds k) w (.returned (.slice Av l.length cv)) wo) := Lib.hid (by rw [← hl]; exact ⟨Av, cv, rfl, ho, hb⟩)
      have q1 : decide ((k : Int) < (k : Int)) = false := decide_eq_false (by omega)
      generalize l.length = n at *
      clear ho hb hk hkn hl hlen hh7 hd7 HPI
      go_wp2_with fail
      go_ret
      exact HF.out
    obtain ⟨n, hln⟩ : ∃ n, l.length = n := ⟨_, rfl⟩
    rw [hln] at ho hlen
    have hkN : k + 1 ≤ N := hkn
    obtain ⟨p, hp⟩ : ∃ p, hs[k]? = some p := ⟨_, List.getElem?_eq_getElem (by omega)⟩
    obtain ⟨d, hd⟩ : ∃ d, ds[k]? = some d := ⟨_, List.getElem?_eq_getElem (by omega)⟩
    have q1 : decide ((k : Int) < (N : Int)) = true := decide_eq_true (by omega)
    have q1n : decide (k < N) = true := decide_eq_true hkn
    have e1 : IntKind.i64.wrap ((k : Int) + 1) = (k : Int) + 1 := IntWalk.i64_in _ (by omega)
    have hk7 : k < 7 := by omega
    have hk7i : (k : Int) < 7 := by omega
    have HP := Lib.hid (HPI.out wo hb)
    have HK := Lib.hid hkn
    obtain ⟨A0, c0, rfl, -⟩ := own_slice ho
    clear HPI hh7 hd7
    cases cold
    · -- it is not cold
      have et : PacQ.cntd false me hs ds (k + 1) = l ++ [d] := by rw [hl]; exact PacQ.cntd_yes (by simp [PacQ.takes]) hd
      have HR := Lib.hid (fun n9 v9 w9 hn h1 h2 => ctd_more (w := w) (wr := wo) (w9 := w9) (N := N) (n := n9) (v9 := v9) hkN et hn hb h1 h2)
      have HO := Lib.hid ho
      have HB := Lib.hid hb
      have k12 := HP.out.c12
      have kB := HP.out.bit hp
      have kD := HP.out.dev hd
      have HLn := Lib.hid hln
      clear ho hb hk hkn hkN hl et HP hp hd hln
      go_wp2_with (first
        | (at_builtin
           refine wpList_append_s rfl (.tmp 34) (.tmp 41) _ rfl w.heap.size 3 (.int .i64 0) 1 8 Try.underlying53 infoInt rfl (by decide) _ n (intV l) rfl (HO.out.alloc _) (some ⟨wo.heap.size, 0, none⟩) 1 1 [.int .i64 d] rfl rfl (fun _ => ⟨_, rfl, fun j u hu => by cases j with | zero => exact cell_at (heap_alloc_new wo _) 0 (by simpa using hu) | succ j => simp at hu⟩) (by simp [Value.oneCell']) (by unfold maxLen; omega) (by omega) (by have := HB.out.size; simp; omega) ?_
           intro v9 w9 h1 h2 h3
           have HR9 := Lib.hid (HR.out n v9 w9 HLn.out.symm h1 (((Below.refl w.heap.size wo).alloc (Nat.le_trans HB.out.size (Nat.le_refl _)) _).trans (h2.below (by have := HB.out.size; simp; omega) (fun q e => (HO.out.lt q e).1))))
           obtain ⟨A9, c9, rfl, -⟩ := own_slice h1
           clear h1 h2 h3))
      go_roundw
      case rel => exact HR9.out
      case measure => have := HK.out; simp [intOf]; omega
    · cases p
      · -- cold, not heard
        have et : PacQ.cntd true me hs ds (k + 1) = l := by rw [hl]; exact PacQ.cntd_no (by rw [PacQ.takes, PacQ.getD_at hp]; rfl)
        have HR : Hid (CtdR w N true me hs ds (.slice A0 n c0) (.int .i64 ((k : Int) + 1)) wo) := Lib.hid ⟨k + 1, hkN, by go_num, by rw [et, hln]; exact ho, hb⟩
        have k12 := HP.out.c12
        have kB := HP.out.bit hp
        clear ho hb hk hkn hkN hl et HP hp hd hln
        go_wp2_with fail
        go_roundw
        case rel => exact HR.out
        case measure => have := HK.out; simp [intOf]; omega
      · by_cases hm : (k : Int) = me
        · -- cold, itself
          have et : PacQ.cntd true me hs ds (k + 1) = l := by rw [hl]; exact PacQ.cntd_no (by rw [PacQ.takes, PacQ.getD_at hp]; simp [hm])
          have HR : Hid (CtdR w N true me hs ds (.slice A0 n c0) (.int .i64 ((k : Int) + 1)) wo) := Lib.hid ⟨k + 1, hkN, by go_num, by rw [et, hln]; exact ho, hb⟩
          have k12 := HP.out.c12
          have k11 := HP.out.c11
          have q3 : decide ((k : Int) = me) = true := decide_eq_true hm
          have q4 : ((k : Int) == me) = true := by rw [beq_iff_eq]; exact hm
          have q5 : ((k : Int) != me) = false := by rw [bne, q4]; rfl
          clear hm
          have kB := HP.out.bit hp
          clear ho hb hk hkn hkN hl et HP hp hd hln
          go_wp2_with fail
          go_roundw
          case rel => exact HR.out
          case measure => have := HK.out; simp [intOf]; omega
        · -- cold, another
          have et : PacQ.cntd true me hs ds (k + 1) = l ++ [d] := by rw [hl]; exact PacQ.cntd_yes (by rw [PacQ.takes, PacQ.getD_at hp]; simp [hm]) hd
          have HR := Lib.hid (fun n9 v9 w9 hn h1 h2 => ctd_more (w := w) (wr := wo) (w9 := w9) (N := N) (n := n9) (v9 := v9) hkN et hn hb h1 h2)
          have HO := Lib.hid ho
          have HB := Lib.hid hb
          have k12 := HP.out.c12
          have k11 := HP.out.c11
          have q3 : decide ((k : Int) = me) = false := decide_eq_false hm
          have q4 : ((k : Int) == me) = false := by rw [beq_eq_false_iff_ne]; exact hm
          have q5 : ((k : Int) != me) = true := by rw [bne, q4]; rfl
          clear hm
          have kB := HP.out.bit hp
          have kD := HP.out.dev hd
          have HLn := Lib.hid hln
          clear ho hb hk hkn hkN hl et HP hp hd hln
          go_wp2_with (first
            | (at_builtin
               refine wpList_append_s rfl (.tmp 34) (.tmp 41) _ rfl w.heap.size 3 (.int .i64 0) 1 8 Try.underlying53 infoInt rfl (by decide) _ n (intV l) rfl (HO.out.alloc _) (some ⟨wo.heap.size, 0, none⟩) 1 1 [.int .i64 d] rfl rfl (fun _ => ⟨_, rfl, fun j u hu => by cases j with | zero => exact cell_at (heap_alloc_new wo _) 0 (by simpa using hu) | succ j => simp at hu⟩) (by simp [Value.oneCell']) (by unfold maxLen; omega) (by omega) (by have := HB.out.size; simp; omega) ?_
               intro v9 w9 h1 h2 h3
               have HR9 := Lib.hid (HR.out n v9 w9 HLn.out.symm h1 (((Below.refl w.heap.size wo).alloc (Nat.le_trans HB.out.size (Nat.le_refl _)) _).trans (h2.below (by have := HB.out.size; simp; omega) (fun q e => (HO.out.lt q e).1))))
               obtain ⟨A9, c9, rfl, -⟩ := own_slice h1
               clear h1 h2 h3))
          go_roundw
          case rel => exact HR9.out
          case measure => have := HK.out; simp [intOf]; omega

theorem ints_of {l : List Int} (h : PacQ.Devs l) : Ints l := fun y hy => by have := h y hy; omega
/-- How Turn ends, and what is left of memory. -/
theorem pturn_good (x : CfgC) (me : Int) (cold : Bool) (bk : Nat) (since rate : Int) (hs : List Bool) (ds : List Int) (N F : Nat) (hN : x.nodes = (N : Int)) (hF : x.faulty = (F : Int)) (hN7 : N ≤ 7) (hd : PacQ.Devs ds) (hf : 2 * F + 1 ≤ (PacQ.cntd cold me hs ds N).length) (b : Nat) (w : World) (h : PaceIn w b x me cold bk since rate hs ds) :
    Calls Try.prog 13 #[pv b] w (MidGood (MidP.midT (PacQ.cntd cold me hs ds N) F) w) := by
  have HC := Lib.hid (fun W (hW : PacS b x me cold bk since rate hs ds W) => pcounted_any x me cold bk since rate hs ds N hN hN7 b W hW)
  have hlen := PacQ.cntd_len (cold := cold) (me := me) (hs := hs) (ds := ds) (k := N)
  have hi := ints_of (PacQ.cntd_in (cold := cold) (me := me) (hs := hs) hd (k := N) (by rw [h.dlen]; exact hN7))
  have HM := Lib.hid (fun A cap W (hW : IntsIn W A (PacQ.cntd cold me hs ds N)) => mid_good A _ cap _ rfl (by omega) F hf W hW hi)
  have k1 : ∀ W, PacS b x me cold bk since rate hs ds W → W.cell? ⟨b, 1, none⟩ = some (.int .i64 (F : Nat)) := fun W hW => by rw [← hF]; exact hW.cfg.c1
  have hg0 : PacS b x me cold bk since rate hs ds w.drew := h.drew
  have hb0 : Below w.heap.size w w.drew := (Below.refl _ _).drew
  generalize PacQ.cntd cold me hs ds N = l at *
  generalize MidP.midT l F = m at *
  clear h hd hi hN hF hN7
  unfold pv CountedP at *
  go_enter Try.func13, Try.ntmps13
  go_wp2_with fail
  refine wp_region_held_drew (S := fun W => PacS b x me cold bk since rate hs ds W) (by kernel_rfl) hg0 (fun _ => ?_)
  refine wpAnyH_take (i := 0) (oi := ?oo1) (v := ?vv1) ?ii1 (by kernel_rfl) ?ff1 (by kernel_rfl) ?qq1 (Or.inl ⟨?ww1, ?yy1⟩) hg0 ?rr1
  case ii1 => simp only [List.getElem?_toArray, List.getElem?_cons_zero]; rfl
  case ff1 => kernel_rfl
  case qq1 => exact fun _ _ _ h => h
  case ww1 => rfl
  case yy1 => intro W hW; go_simp <;> with_reducible rfl
  try simp only [Act.put, List.setIfInBounds_toArray, List.set_cons_zero, List.set_cons_succ]
  refine wpAnyH_take (i := 2) (oi := ?oo2) (v := ?vv2) ?ii2 (by kernel_rfl) ?ff2 (by kernel_rfl) ?qq2 (Or.inl ⟨?ww2, ?yy2⟩) hg0 ?rr2
  case ii2 => simp only [List.getElem?_toArray, List.getElem?_cons_succ, List.getElem?_cons_zero]; rfl
  case ff2 => kernel_rfl
  case qq2 => exact fun _ _ _ h => h
  case ww2 => rfl
  case yy2 => intro W hW; go_simp <;> with_reducible rfl
  try simp only [Act.put, List.setIfInBounds_toArray, List.set_cons_zero, List.set_cons_succ]
  refine wpAnyH_take (i := 3) (oi := ?oo3) (v := ?vv3) ?ii3 (by kernel_rfl) ?ff3 (by kernel_rfl) ?qq3 (Or.inl ⟨?ww3, ?yy3⟩) hg0 ?rr3
  case ii3 => simp only [List.getElem?_toArray, List.getElem?_cons_succ, List.getElem?_cons_zero]; rfl
  case ff3 => kernel_rfl
  case qq3 => exact fun _ _ _ h => h
  case ww3 => rfl
  case yy3 => intro W hW; go_simp <;> with_reducible rfl
  try simp only [Act.put, List.setIfInBounds_toArray, List.set_cons_zero, List.set_cons_succ]
  refine wpAnyH_take (i := 4) (oi := ?oo4) (v := ?vv4) ?ii4 (by kernel_rfl) ?ff4 (by kernel_rfl) ?qq4 (Or.inl ⟨?ww4, ?yy4⟩) hg0 ?rr4
  case ii4 => simp only [List.getElem?_toArray, List.getElem?_cons_succ, List.getElem?_cons_zero]; rfl
  case ff4 => kernel_rfl
  case qq4 => exact fun _ _ _ h => h
  case ww4 => rfl
  case yy4 => intro W hW; go_simp <;> with_reducible rfl
  try simp only [Act.put, List.setIfInBounds_toArray, List.set_cons_zero, List.set_cons_succ]
  refine wpAnyH_take (i := 5) (oi := ?oo5) (v := ?vv5) ?ii5 (by kernel_rfl) ?ff5 (by kernel_rfl) ?qq5 (Or.inl ⟨?ww5, ?yy5⟩) hg0 ?rr5
  case ii5 => simp only [List.getElem?_toArray, List.getElem?_cons_succ, List.getElem?_cons_zero]; rfl
  case ff5 => kernel_rfl
  case qq5 => exact fun _ _ _ h => h
  case ww5 => rfl
  case yy5 => intro W hW; go_simp <;> with_reducible rfl
  try simp only [Act.put, List.setIfInBounds_toArray, List.set_cons_zero, List.set_cons_succ]
  refine wpAnyH_take (i := 6) (oi := ?oo6) (v := ?vv6) ?ii6 (by kernel_rfl) ?ff6 (by kernel_rfl) ?qq6 (Or.inl ⟨?ww6, ?yy6⟩) hg0 ?rr6
  case ii6 => simp only [List.getElem?_toArray, List.getElem?_cons_succ, List.getElem?_cons_zero]; rfl
  case ff6 => kernel_rfl
  case qq6 => exact fun _ _ _ h => h
  case ww6 => rfl
  case yy6 => intro W hW; go_simp <;> with_reducible rfl
  try simp only [Act.put, List.setIfInBounds_toArray, List.set_cons_zero, List.set_cons_succ]
  refine wpAnyH_ready (rs := [1]) (by kernel_rfl) (by simp) ?_
  refine AllReadyH.cons (o := ?oo7) ?ii7 (fun K hK => ?_) AllReadyH.nil
  case ii7 => simp only [List.getElem?_toArray, List.getElem?_cons_succ, List.getElem?_cons_zero]; rfl
  go_simp
  refine (HC.out _ hg0).mono ?_
  rintro e w1 ⟨A, cap, rfl, ho, hb1⟩
  have hg1 : PacS b x me cold bk since rate hs ds w1 := PaceIn.below hg0 hb1
  have hb1' := hb0.trans (hb1.mono hb0.size)
  have HM1 := Lib.hid (HM.out A cap w1 (by obtain ⟨A2, c2, e2, -, -, h2⟩ := own_ints ho; cases e2; exact h2))
  clear hb1 hg0 hb0 HC HM ho
  go_wp2_with fail
  refine hK.out _ _ hg1 (fun _ => ?_)
  clear hK K
  refine wpAnyH_ready (rs := [7]) (by kernel_rfl) (by simp) ?_
  refine AllReadyH.cons (o := ?oo8) ?ii8 (fun K hK => ?_) AllReadyH.nil
  case ii8 => simp only [List.getElem?_toArray, List.getElem?_cons_succ, List.getElem?_cons_zero]; rfl
  go_simp
  refine HM1.out.mono ?_
  rintro e w2 ⟨rfl, hb2⟩
  have hg2 : PacS b x me cold bk since rate hs ds w2 := PaceIn.below hg1 hb2
  have hb2' := hb1'.trans (hb2.mono hb1'.size)
  clear hb2 hg1 hb1' HM1
  go_wp2_with fail
  refine hK.out _ _ hg2 (fun _ => ?_)
  clear hK K
  refine wpAnyH_take (i := 8) (oi := ?oo9) (v := ?vv9) ?ii9 (by kernel_rfl) ?ff9 (by kernel_rfl) ?qq9 (Or.inl ⟨?ww9, ?yy9⟩) hg2 ?rr9
  case ii9 => simp only [List.getElem?_toArray, List.getElem?_cons_succ, List.getElem?_cons_zero]; rfl
  case ff9 => kernel_rfl
  case qq9 => exact fun _ _ _ h => h
  case ww9 => rfl
  case yy9 => intro W hW; go_simp <;> with_reducible rfl
  try simp only [Act.put, List.setIfInBounds_toArray, List.set_cons_zero, List.set_cons_succ]
  refine wpAnyH_take (i := 9) (oi := ?oo10) (v := ?vv10) ?ii10 (by kernel_rfl) ?ff10 (by kernel_rfl) ?qq10 (Or.inl ⟨?ww10, ?yy10⟩) hg2 ?rr10
  case ii10 => simp only [List.getElem?_toArray, List.getElem?_cons_succ, List.getElem?_cons_zero]; rfl
  case ff10 => kernel_rfl
  case qq10 => exact fun _ _ _ h => h
  case ww10 => rfl
  case yy10 => intro W hW; go_simp <;> with_reducible rfl
  try simp only [Act.put, List.setIfInBounds_toArray, List.set_cons_zero, List.set_cons_succ]
  refine wpAnyH_take (i := 10) (oi := ?oo11) (v := ?vv11) ?ii11 (by kernel_rfl) ?ff11 (by kernel_rfl) ?qq11 (Or.inl ⟨?ww11, ?yy11⟩) hg2 ?rr11
  case ii11 => simp only [List.getElem?_toArray, List.getElem?_cons_succ, List.getElem?_cons_zero]; rfl
  case ff11 => kernel_rfl
  case qq11 => exact fun _ _ _ h => h
  case ww11 => rfl
  case yy11 => intro W hW; go_simp <;> with_reducible rfl
  try simp only [Act.put, List.setIfInBounds_toArray, List.set_cons_zero, List.set_cons_succ]
  refine wpAnyH_take (i := 11) (oi := ?oo12) (v := ?vv12) ?ii12 (by kernel_rfl) ?ff12 (by kernel_rfl) ?qq12 (Or.inl ⟨?ww12, ?yy12⟩) hg2 ?rr12
  case ii12 => simp only [List.getElem?_toArray, List.getElem?_cons_succ, List.getElem?_cons_zero]; rfl
  case ff12 => kernel_rfl
  case qq12 => exact fun _ _ _ h => h
  case ww12 => rfl
  case yy12 => intro W hW; go_simp <;> with_reducible rfl
  try simp only [Act.put, List.setIfInBounds_toArray, List.set_cons_zero, List.set_cons_succ]
  refine wpAnyH_done (by kernel_rfl) ?_ _
  go_wp2_with fail
  go_ret2
  exact ⟨rfl, hb2'⟩
theorem pturn_bad (x : CfgC) (me : Int) (cold : Bool) (bk : Nat) (since rate : Int) (hs : List Bool) (ds : List Int) (N F : Nat) (hN : x.nodes = (N : Int)) (hF : x.faulty = (F : Int)) (hN7 : N ≤ 7) (hf : ¬ 2 * F + 1 ≤ (PacQ.cntd cold me hs ds N).length) (b : Nat) (w : World) (h : PaceIn w b x me cold bk since rate hs ds) :
    Calls Try.prog 13 #[pv b] w (MidBad w) := by
  have HC := Lib.hid (fun W (hW : PacS b x me cold bk since rate hs ds W) => pcounted_any x me cold bk since rate hs ds N hN hN7 b W hW)
  have hlen := PacQ.cntd_len (cold := cold) (me := me) (hs := hs) (ds := ds) (k := N)
  have HM := Lib.hid (fun A cap W => mid_bad A (PacQ.cntd cold me hs ds N).length cap (by omega) F (by unfold Cuts; omega) W)
  have k1 : ∀ W, PacS b x me cold bk since rate hs ds W → W.cell? ⟨b, 1, none⟩ = some (.int .i64 (F : Nat)) := fun W hW => by rw [← hF]; exact hW.cfg.c1
  have hg0 : PacS b x me cold bk since rate hs ds w.drew := h.drew
  have hb0 : Below w.heap.size w w.drew := (Below.refl _ _).drew
  generalize PacQ.cntd cold me hs ds N = l at *
  clear h hN hF hN7
  unfold pv CountedP at *
  go_enter Try.func13, Try.ntmps13
  go_wp2_with fail
  refine wp_region_held_drew (S := fun W => PacS b x me cold bk since rate hs ds W) (by kernel_rfl) hg0 (fun _ => ?_)
  refine wpAnyH_take (i := 0) (oi := ?oo13) (v := ?vv13) ?ii13 (by kernel_rfl) ?ff13 (by kernel_rfl) ?qq13 (Or.inl ⟨?ww13, ?yy13⟩) hg0 ?rr13
  case ii13 => simp only [List.getElem?_toArray, List.getElem?_cons_zero]; rfl
  case ff13 => kernel_rfl
  case qq13 => exact fun _ _ _ h => h
  case ww13 => rfl
  case yy13 => intro W hW; go_simp <;> with_reducible rfl
  try simp only [Act.put, List.setIfInBounds_toArray, List.set_cons_zero, List.set_cons_succ]
  refine wpAnyH_take (i := 2) (oi := ?oo14) (v := ?vv14) ?ii14 (by kernel_rfl) ?ff14 (by kernel_rfl) ?qq14 (Or.inl ⟨?ww14, ?yy14⟩) hg0 ?rr14
  case ii14 => simp only [List.getElem?_toArray, List.getElem?_cons_succ, List.getElem?_cons_zero]; rfl
  case ff14 => kernel_rfl
  case qq14 => exact fun _ _ _ h => h
  case ww14 => rfl
  case yy14 => intro W hW; go_simp <;> with_reducible rfl
  try simp only [Act.put, List.setIfInBounds_toArray, List.set_cons_zero, List.set_cons_succ]
  refine wpAnyH_take (i := 3) (oi := ?oo15) (v := ?vv15) ?ii15 (by kernel_rfl) ?ff15 (by kernel_rfl) ?qq15 (Or.inl ⟨?ww15, ?yy15⟩) hg0 ?rr15
  case ii15 => simp only [List.getElem?_toArray, List.getElem?_cons_succ, List.getElem?_cons_zero]; rfl
  case ff15 => kernel_rfl
  case qq15 => exact fun _ _ _ h => h
  case ww15 => rfl
  case yy15 => intro W hW; go_simp <;> with_reducible rfl
  try simp only [Act.put, List.setIfInBounds_toArray, List.set_cons_zero, List.set_cons_succ]
  refine wpAnyH_take (i := 4) (oi := ?oo16) (v := ?vv16) ?ii16 (by kernel_rfl) ?ff16 (by kernel_rfl) ?qq16 (Or.inl ⟨?ww16, ?yy16⟩) hg0 ?rr16
  case ii16 => simp only [List.getElem?_toArray, List.getElem?_cons_succ, List.getElem?_cons_zero]; rfl
  case ff16 => kernel_rfl
  case qq16 => exact fun _ _ _ h => h
  case ww16 => rfl
  case yy16 => intro W hW; go_simp <;> with_reducible rfl
  try simp only [Act.put, List.setIfInBounds_toArray, List.set_cons_zero, List.set_cons_succ]
  refine wpAnyH_take (i := 5) (oi := ?oo17) (v := ?vv17) ?ii17 (by kernel_rfl) ?ff17 (by kernel_rfl) ?qq17 (Or.inl ⟨?ww17, ?yy17⟩) hg0 ?rr17
  case ii17 => simp only [List.getElem?_toArray, List.getElem?_cons_succ, List.getElem?_cons_zero]; rfl
  case ff17 => kernel_rfl
  case qq17 => exact fun _ _ _ h => h
  case ww17 => rfl
  case yy17 => intro W hW; go_simp <;> with_reducible rfl
  try simp only [Act.put, List.setIfInBounds_toArray, List.set_cons_zero, List.set_cons_succ]
  refine wpAnyH_take (i := 6) (oi := ?oo18) (v := ?vv18) ?ii18 (by kernel_rfl) ?ff18 (by kernel_rfl) ?qq18 (Or.inl ⟨?ww18, ?yy18⟩) hg0 ?rr18
  case ii18 => simp only [List.getElem?_toArray, List.getElem?_cons_succ, List.getElem?_cons_zero]; rfl
  case ff18 => kernel_rfl
  case qq18 => exact fun _ _ _ h => h
  case ww18 => rfl
  case yy18 => intro W hW; go_simp <;> with_reducible rfl
  try simp only [Act.put, List.setIfInBounds_toArray, List.set_cons_zero, List.set_cons_succ]
  refine wpAnyH_ready (rs := [1]) (by kernel_rfl) (by simp) ?_
  refine AllReadyH.cons (o := ?oo19) ?ii19 (fun K hK => ?_) AllReadyH.nil
  case ii19 => simp only [List.getElem?_toArray, List.getElem?_cons_succ, List.getElem?_cons_zero]; rfl
  go_simp
  refine (HC.out _ hg0).mono ?_
  rintro e w1 ⟨A, cap, rfl, ho, hb1⟩
  have hg1 : PacS b x me cold bk since rate hs ds w1 := PaceIn.below hg0 hb1
  have hb1' := hb0.trans (hb1.mono hb0.size)
  clear hb1 hg0 hb0 HC ho
  go_wp2_with fail
  refine hK.out _ _ hg1 (fun _ => ?_)
  clear hK K
  refine wpAnyH_ready (rs := [7]) (by kernel_rfl) (by simp) ?_
  refine AllReadyH.cons (o := ?oo20) ?ii20 (fun K hK => ?_) AllReadyH.nil
  case ii20 => simp only [List.getElem?_toArray, List.getElem?_cons_succ, List.getElem?_cons_zero]; rfl
  go_simp
  refine (HM.out A cap w1).mono ?_
  rintro e w2 ⟨rfl, hb2⟩
  have hg2 : PacS b x me cold bk since rate hs ds w2 := PaceIn.below hg1 hb2
  have hb2' := hb1'.trans (hb2.mono hb1'.size)
  clear hb2 hg1 hb1' HM
  go_wp2_with fail
  refine hK.out _ _ hg2 (fun _ => ?_)
  clear hK K
  refine wpAnyH_take (i := 8) (oi := ?oo21) (v := ?vv21) ?ii21 (by kernel_rfl) ?ff21 (by kernel_rfl) ?qq21 (Or.inl ⟨?ww21, ?yy21⟩) hg2 ?rr21
  case ii21 => simp only [List.getElem?_toArray, List.getElem?_cons_succ, List.getElem?_cons_zero]; rfl
  case ff21 => kernel_rfl
  case qq21 => exact fun _ _ _ h => h
  case ww21 => rfl
  case yy21 => intro W hW; go_simp <;> with_reducible rfl
  try simp only [Act.put, List.setIfInBounds_toArray, List.set_cons_zero, List.set_cons_succ]
  refine wpAnyH_take (i := 9) (oi := ?oo22) (v := ?vv22) ?ii22 (by kernel_rfl) ?ff22 (by kernel_rfl) ?qq22 (Or.inl ⟨?ww22, ?yy22⟩) hg2 ?rr22
  case ii22 => simp only [List.getElem?_toArray, List.getElem?_cons_succ, List.getElem?_cons_zero]; rfl
  case ff22 => kernel_rfl
  case qq22 => exact fun _ _ _ h => h
  case ww22 => rfl
  case yy22 => intro W hW; go_simp <;> with_reducible rfl
  try simp only [Act.put, List.setIfInBounds_toArray, List.set_cons_zero, List.set_cons_succ]
  refine wpAnyH_take (i := 10) (oi := ?oo23) (v := ?vv23) ?ii23 (by kernel_rfl) ?ff23 (by kernel_rfl) ?qq23 (Or.inl ⟨?ww23, ?yy23⟩) hg2 ?rr23
  case ii23 => simp only [List.getElem?_toArray, List.getElem?_cons_succ, List.getElem?_cons_zero]; rfl
  case ff23 => kernel_rfl
  case qq23 => exact fun _ _ _ h => h
  case ww23 => rfl
  case yy23 => intro W hW; go_simp <;> with_reducible rfl
  try simp only [Act.put, List.setIfInBounds_toArray, List.set_cons_zero, List.set_cons_succ]
  refine wpAnyH_take (i := 11) (oi := ?oo24) (v := ?vv24) ?ii24 (by kernel_rfl) ?ff24 (by kernel_rfl) ?qq24 (Or.inl ⟨?ww24, ?yy24⟩) hg2 ?rr24
  case ii24 => simp only [List.getElem?_toArray, List.getElem?_cons_succ, List.getElem?_cons_zero]; rfl
  case ff24 => kernel_rfl
  case qq24 => exact fun _ _ _ h => h
  case ww24 => rfl
  case yy24 => intro W hW; go_simp <;> with_reducible rfl
  try simp only [Act.put, List.setIfInBounds_toArray, List.set_cons_zero, List.set_cons_succ]
  refine wpAnyH_done (by kernel_rfl) ?_ _
  go_wp2_with fail
  go_ret2
  exact ⟨rfl, hb2'⟩

/-- When the next round begins. -/
def nextT (c : TableP.Cfg) (since rate m : Int) : Int := ClkP.realT since rate (SndP.roundT c + m)
theorem pnext_bad (x : CfgC) (me : Int) (cold : Bool) (bk : Nat) (since rate : Int) (hs : List Bool) (ds : List Int) (N F : Nat) (hN : x.nodes = (N : Int)) (hF : x.faulty = (F : Int)) (hN7 : N ≤ 7) (hf : ¬ 2 * F + 1 ≤ (PacQ.cntd cold me hs ds N).length) (b : Nat) (w : World) (h : PaceIn w b x me cold bk since rate hs ds) :
    Calls Try.prog 21 #[pv b] w (MidBad w) := by
  have HC := Lib.hid (pturn_bad x me cold bk since rate hs ds N F hN hF hN7 hf b w h)
  clear h hN hF hN7 hf
  unfold pv at *
  go_enter Try.func21, Try.ntmps21
  go_wp2_with fail
  refine HC.out.mono ?_
  rintro e w1 ⟨rfl, hb1⟩
  go_wp2_with fail
  go_ret2
  exact ⟨rfl, hb1⟩
theorem devs_mid {l : List Int} {F : Nat} (h : PacQ.Devs l) (hf : 2 * F + 1 ≤ l.length) : -68719476736 ≤ MidP.midT l F ∧ MidP.midT l F ≤ 68719476736 := MidP.mid_in h hf
theorem pnext_good (x : CfgC) (me : Int) (cold : Bool) (bk : Nat) (since rate : Int) (hs : List Bool) (ds : List Int) (N F : Nat) (hN : x.nodes = (N : Int)) (hF : x.faulty = (F : Int)) (hN7 : N ≤ 7) (hd : PacQ.Devs ds) (hf : 2 * F + 1 ≤ (PacQ.cntd cold me hs ds N).length) (b : Nat) (w : World) (h : PaceIn w b x me cold bk since rate hs ds) (hh : TableP.headOk x.plain) :
    Calls Try.prog 21 #[pv b] w (MidGood (nextT x.plain since rate (MidP.midT (PacQ.cntd cold me hs ds N) F)) w) := by
  have HC := Lib.hid (pturn_good x me cold bk since rate hs ds N F hN hF hN7 hd hf b w h)
  have hm := devs_mid (PacQ.cntd_in (cold := cold) (me := me) (hs := hs) hd (k := N) (by rw [h.dlen]; exact hN7)) hf
  generalize MidP.midT (PacQ.cntd cold me hs ds N) F = m at *
  have hr : 0 ≤ SndP.roundT x.plain ∧ SndP.roundT x.plain ≤ 134217728 := by
    have h1 := (SndP.nums_in hh).slots
    have h2 := (SndP.nums_in hh).gap
    unfold SndP.roundT
    omega
  have HR := Lib.hid (fun W => round_any x W hh)
  unfold nextT
  generalize SndP.roundT x.plain = rd at *
  have e1 : IntKind.i64.wrap (rd + m) = rd + m := IntWalk.i64_in _ (by omega)
  have HL := Lib.hid (fun W (hW : PacS b x me cold bk since rate hs ds W) => preal_any b x me cold bk since rate hs ds (rd + m) (by unfold FarIn; omega) W hW)
  have HP := Lib.hid (fun W (hW : Below w.heap.size w W) => (h.below hW : PacS b x me cold bk since rate hs ds W))
  clear h hd hN hF hN7 hf hr hm hh
  generalize ClkP.realT since rate (rd + m) = nx at *
  obtain ⟨nodes, faulty, slot, gap, rho, dmin, dmax, margin, PA, pn, pcap, parts, QA, qn, qcap, ports, RA, rn, rcap, routes⟩ := x
  have d0 := fun W (hW : PacS b ⟨nodes, faulty, slot, gap, rho, dmin, dmax, margin, PA, pn, pcap, parts, QA, qn, qcap, ports, RA, rn, rcap, routes⟩ me cold bk since rate hs ds W) => hW.cfg.c0
  have d1 := fun W (hW : PacS b ⟨nodes, faulty, slot, gap, rho, dmin, dmax, margin, PA, pn, pcap, parts, QA, qn, qcap, ports, RA, rn, rcap, routes⟩ me cold bk since rate hs ds W) => hW.cfg.c1
  have d2 := fun W (hW : PacS b ⟨nodes, faulty, slot, gap, rho, dmin, dmax, margin, PA, pn, pcap, parts, QA, qn, qcap, ports, RA, rn, rcap, routes⟩ me cold bk since rate hs ds W) => hW.cfg.c2
  have d3 := fun W (hW : PacS b ⟨nodes, faulty, slot, gap, rho, dmin, dmax, margin, PA, pn, pcap, parts, QA, qn, qcap, ports, RA, rn, rcap, routes⟩ me cold bk since rate hs ds W) => hW.cfg.c3
  have d4 := fun W (hW : PacS b ⟨nodes, faulty, slot, gap, rho, dmin, dmax, margin, PA, pn, pcap, parts, QA, qn, qcap, ports, RA, rn, rcap, routes⟩ me cold bk since rate hs ds W) => hW.cfg.c4
  have d5 := fun W (hW : PacS b ⟨nodes, faulty, slot, gap, rho, dmin, dmax, margin, PA, pn, pcap, parts, QA, qn, qcap, ports, RA, rn, rcap, routes⟩ me cold bk since rate hs ds W) => hW.cfg.c5
  have d6 := fun W (hW : PacS b ⟨nodes, faulty, slot, gap, rho, dmin, dmax, margin, PA, pn, pcap, parts, QA, qn, qcap, ports, RA, rn, rcap, routes⟩ me cold bk since rate hs ds W) => hW.cfg.c6
  have d7 := fun W (hW : PacS b ⟨nodes, faulty, slot, gap, rho, dmin, dmax, margin, PA, pn, pcap, parts, QA, qn, qcap, ports, RA, rn, rcap, routes⟩ me cold bk since rate hs ds W) => hW.cfg.c7
  have d8 := fun W (hW : PacS b ⟨nodes, faulty, slot, gap, rho, dmin, dmax, margin, PA, pn, pcap, parts, QA, qn, qcap, ports, RA, rn, rcap, routes⟩ me cold bk since rate hs ds W) => hW.cfg.c8
  have d9 := fun W (hW : PacS b ⟨nodes, faulty, slot, gap, rho, dmin, dmax, margin, PA, pn, pcap, parts, QA, qn, qcap, ports, RA, rn, rcap, routes⟩ me cold bk since rate hs ds W) => hW.cfg.c9
  have d10 := fun W (hW : PacS b ⟨nodes, faulty, slot, gap, rho, dmin, dmax, margin, PA, pn, pcap, parts, QA, qn, qcap, ports, RA, rn, rcap, routes⟩ me cold bk since rate hs ds W) => hW.cfg.c10
  simp only at d0 d1 d2 d3 d4 d5 d6 d7 d8 d9 d10 HR HL HP
  simp only [CfgC.value] at HR
  unfold pv at *
  go_enter Try.func21, Try.ntmps21
  go_wp2_with fail
  refine HC.out.mono ?_
  rintro e w1 ⟨rfl, hb1⟩
  have hd1 := HP.out _ hb1
  have k0 := d0 _ hd1
  have k1 := d1 _ hd1
  have k2 := d2 _ hd1
  have k3 := d3 _ hd1
  have k4 := d4 _ hd1
  have k5 := d5 _ hd1
  have k6 := d6 _ hd1
  have k7 := d7 _ hd1
  have k8 := d8 _ hd1
  have k9 := d9 _ hd1
  have k10 := d10 _ hd1
  have Hb1 := Lib.hid hb1
  clear hd1 hb1 HC
  go_wp2_with fail
  refine (HR.out _).mono ?_
  rintro e w2 ⟨rfl, hb2⟩
  have Hb2 := Lib.hid (Hb1.out.trans (hb2.mono Hb1.out.size))
  clear hb2 HR Hb1 k0 k1 k2 k3 k4 k5 k6 k7 k8 k9 k10
  go_wp2_with fail
  refine (HL.out _ (HP.out _ Hb2.out)).mono ?_
  rintro e w3 ⟨rfl, m3, rfl⟩
  go_wp2_with fail
  go_ret2
  exact ⟨rfl, below_drewNc Hb2.out _⟩
end Go.Proofs.Ythhbdnjihhpalaa
