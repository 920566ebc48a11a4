/- PaceLies: the walk of the law at tables and ints in memory. Conditions: where they lie. -/
import Derived.Test.YthhbdnjihhpalaaPacG
import Derived.Test.YthhbdnjihhpalaaMidArg
import Derived.Laws.Cover1
namespace Go.Proofs.Ythhbdnjihhpalaa
open Go.RowKit
set_option maxRecDepth 100000

namespace PacQ
open MidP
/-- What was heard of the first k nodes: some of them (bad) lied, the others lie from lo to hi. -/
structure LieI (k : Nat) (lo hi : Int) (L : Nat) (hs : List Bool) (ds : List Int) (bad : Nat → Bool) : Prop where
  few : (List.range k).countP bad = L
  later : ∀ j, k ≤ j → bad j = false
  heard : ∀ j, k ≤ j → j < 7 → hs[j]? = some false
  good : ∀ j x, bad j = false → ds[j]? = some x → lo ≤ x ∧ x ≤ hi
  lo0 : lo ≤ 0
  hi0 : 0 ≤ hi
  devs : Devs ds
section
variable {k L : Nat} {lo hi : Int} {hs : List Bool} {ds : List Int} {bad : Nat → Bool}
theorem LieI.skip (h : LieI k lo hi L hs ds bad) : LieI (k + 1) lo hi L hs ds bad :=
  ⟨by rw [List.range_succ, List.countP_append, h.few]; simp [h.later k (Nat.le_refl _)], fun j hj => h.later j (by omega), fun j hj => h.heard j (by omega), h.good, h.lo0, h.hi0, h.devs⟩
theorem get_set {α : Type} {l : List α} {k j : Nat} {x y : α} (h : (l.set k x)[j]? = some y) : (j = k ∧ y = x) ∨ (j ≠ k ∧ l[j]? = some y) := by
  rw [List.getElem?_set] at h
  split at h
  · next e =>
    split at h
    · cases h; exact .inl ⟨e.symm, rfl⟩
    · cases h
  · next e => exact .inr ⟨fun e' => e e'.symm, h⟩
theorem LieI.tells (h : LieI k lo hi L hs ds bad) {d lo' hi' : Int} (hd : -68719476736 ≤ d ∧ d ≤ 68719476736) (h1 : lo' ≤ lo ∧ lo' ≤ d) (h2 : hi ≤ hi' ∧ d ≤ hi') : LieI (k + 1) lo' hi' L (hs.set k true) (ds.set k d) bad :=
  ⟨h.skip.few, h.skip.later, fun j hj h7 => by rw [List.getElem?_set_ne (by omega)]; exact h.heard j (by omega) h7, fun j x hb hx => by
    rcases get_set hx with ⟨-, e⟩ | ⟨-, e⟩
    · omega
    · have := h.good j x hb e; omega, by have := h.lo0; omega, by have := h.hi0; omega, in_set h.devs hd k⟩
theorem LieI.lies (h : LieI k lo hi L hs ds bad) {d : Int} (hd : -68719476736 ≤ d ∧ d ≤ 68719476736) : LieI (k + 1) lo hi (L + 1) (hs.set k true) (ds.set k d) (fun j => bad j || decide (j = k)) := by
  refine ⟨?_, fun j hj => ?_, fun j hj h7 => by rw [List.getElem?_set_ne (by omega)]; exact h.heard j (by omega) h7, fun j x hb hx => ?_, h.lo0, h.hi0, in_set h.devs hd k⟩
  · rw [List.range_succ, List.countP_append]
    have e : (List.range k).countP (fun j => bad j || decide (j = k)) = (List.range k).countP bad := by
      refine List.countP_congr fun j hj => ?_
      have := List.mem_range.1 hj
      have hne : decide (j = k) = false := decide_eq_false (by omega)
      simp only [hne, Bool.or_false]
    rw [e, h.few]
    simp
  · have hne : decide (j = k) = false := decide_eq_false (by omega)
    simp only [hne, Bool.or_false]
    exact h.later j (by omega)
  · simp only [Bool.or_eq_false_iff, decide_eq_false_iff_not] at hb
    rcases get_set hx with ⟨e, -⟩ | ⟨-, e⟩
    · exact absurd e hb.2
    · exact h.good j x hb.1 e
end
/-- Whatever some f are: the middle lies among the others. -/
theorem mid_among {l : List Int} {f : Nat} {lo hi : Int} (bad : Nat → Bool) (hb : (List.range l.length).countP bad ≤ f) (h : 2 * f + 1 ≤ l.length) (hg : ∀ i x, bad i = false → l[i]? = some x → lo ≤ x ∧ x ≤ hi) : lo ≤ midT l f ∧ midT l f ≤ hi := by
  have hs := srt_length l
  have hg2 : ∀ i, i < l.length → bad i = false → lo ≤ l.getD i 0 ∧ l.getD i 0 ≤ hi := fun i hi hn => by
    have := hg i (l[i]) hn (List.getElem?_eq_getElem hi)
    rw [List.getD_eq_getElem?_getD, List.getElem?_eq_getElem hi]
    exact this
  have a1 := holds_lo (srt_rising l) (srt_perm l) bad hb (fun i hi hn => (hg2 i hi hn).1) (k := f) (by omega) (Nat.le_refl _)
  have a2 := holds_hi (srt_rising l) (srt_perm l) bad hb (fun i hi hn => (hg2 i hi hn).2) (k := l.length - 1 - f) (by omega) (by omega)
  have a3 := first_le_last h
  rw [← firstT_get] at a1
  rw [← lastT_get] at a2
  unfold midT
  omega
end PacQ

theorem tmodk (a m : Int) (hm : 0 < m) : ∃ o, a.tmod m = o ∧ -m < o ∧ o < m := ⟨_, rfl, Int.lt_tmod_of_pos a hm, Int.tmod_lt_of_pos a hm⟩
theorem minP (x y : Int) : ∃ m, min x y = m ∧ (if y < x then y else x) = m ∧ m ≤ x ∧ m ≤ y := ⟨_, rfl, by split <;> omega, by omega, by omega⟩
theorem maxP (x y : Int) : ∃ m, max x y = m ∧ (if y > x then y else x) = m ∧ x ≤ m ∧ y ≤ m := ⟨_, rfl, by split <;> omega, by omega, by omega⟩
/-- Boxed tables and a pace of the law's own. -/
structure LK (w : World) (x : CfgC) (me rate : Int) (b bk : Nat) (hs : List Bool) (ds : List Int) (W : World) : Prop where
  box : BoxS w x W
  pace : PaceIn W b x me false bk 1000 rate hs ds
  lo : (boxC w x).heap.size ≤ b
theorem LK.step {w : World} {x : CfgC} {me rate : Int} {b bk : Nat} {hs : List Bool} {ds : List Int} {W W' : World} (h : LK w x me rate b bk hs ds W) (hb : Below W.heap.size W W') : LK w x me rate b bk hs ds W' := ⟨h.box.step hb, h.pace.below hb, h.lo⟩
theorem LK.hear {w : World} {x : CfgC} {me rate : Int} {b bk : Nat} {hs hs' : List Bool} {ds ds' : List Int} {W W' : World} (h : LK w x me rate b bk hs ds W) (hp : PaceIn W' b x me false bk 1000 rate hs' ds') (ha : Apart (fun q => q = b) W W') : LK w x me rate b bk hs' ds' W' :=
  ⟨h.box.trans (ha.below h.box.size (fun k hk => by subst hk; exact h.lo)), hp, h.lo⟩
theorem lie_nums {c : TableP.Cfg} (h : SndP.Nums c) {n : Int} (hn : 0 ≤ n ∧ n ≤ 8) : 0 ≤ SndP.sendT c n ∧ SndP.sendT c n ≤ 150994944 ∧ 0 ≤ SndP.meanT c ∧ SndP.meanT c ≤ 1048576 := by
  have hs := h.slot
  have hm := h.margin
  have hx := h.dmin
  have hy := h.dmax
  have h2 := SndP.mul_in hn ⟨by omega, hs.2⟩
  unfold SndP.sendT SndP.meanT
  omega
def LieR (w : World) (x : CfgC) (N F me : Nat) (rate : Int) (b bk : Nat) (vlo vhi vl vi : Value) (W : World) : Prop :=
  ∃ (k L : Nat) (lo hi : Int) (hs : List Bool) (ds : List Int) (bad : Nat → Bool), k ≤ N ∧ vi = .int .i64 (k : Nat) ∧ vl = .int .i64 (L : Nat) ∧ vlo = .int .i64 lo ∧ vhi = .int .i64 hi ∧ L ≤ F ∧ PacQ.LieI k lo hi L hs ds bad ∧ LK w x me rate b bk hs ds W
theorem lie_start : PacQ.LieI 0 0 0 0 h0 z0 (fun _ => false) :=
  ⟨rfl, fun _ _ => rfl, fun j _ hj => by unfold h0; rw [List.getElem?_replicate, if_pos hj], fun j x _ hx => (by
    unfold z0 at hx
    rw [List.getElem?_replicate] at hx
    split at hx
    · cases hx; omega
    · cases hx), by omega, by omega, zdevs⟩

set_option maxHeartbeats 6000000 in
theorem plies_law (x : CfgC) (me0 rate0 : Int) (A3 : Option Addr) (n3 c3 : Nat) (offs : List Int) (hl3 : offs.length = n3) (A4 : Option Addr) (n4 c4 : Nat) (lies : List Int) (hl4 : lies.length = n4) (w : World) (h : CfgIn w x) (h3 : IntsIn w A3 offs) (h4 : IntsIn w A4 lies) : Calls Try.prog 4 #[x.value, .int .i64 me0, .int .i64 rate0, .slice A3 n3 c3, .slice A4 n4 c4] w (TruePost w) := by
  have HA := Lib.hid (fun W => awake11_any W)
  have HWk := Lib.hid (fun W (hW : BoxS w x W) => works_any x W (h.below hW.below))
  have HST := Lib.hid (BoxS.start w x)
  obtain ⟨L, hL⟩ : ∃ L, worksB x = L := ⟨_, rfl⟩
  rw [hL] at HWk
  cases L with
  | false =>
    clear h hL hl3 hl4 h3 h4
    obtain ⟨nodes, faulty, slot, gap, rho, dmin, dmax, margin, PA, pn, pcap, parts, QA, qn, qcap, ports, RA, rn, rcap, routes⟩ := x
    have d0 := fun W (hW : BoxS w ⟨nodes, faulty, slot, gap, rho, dmin, dmax, margin, PA, pn, pcap, parts, QA, qn, qcap, ports, RA, rn, rcap, routes⟩ W) => hW.cells.c0
    have d1 := fun W (hW : BoxS w ⟨nodes, faulty, slot, gap, rho, dmin, dmax, margin, PA, pn, pcap, parts, QA, qn, qcap, ports, RA, rn, rcap, routes⟩ W) => hW.cells.c1
    have d2 := fun W (hW : BoxS w ⟨nodes, faulty, slot, gap, rho, dmin, dmax, margin, PA, pn, pcap, parts, QA, qn, qcap, ports, RA, rn, rcap, routes⟩ W) => hW.cells.c2
    have d3 := fun W (hW : BoxS w ⟨nodes, faulty, slot, gap, rho, dmin, dmax, margin, PA, pn, pcap, parts, QA, qn, qcap, ports, RA, rn, rcap, routes⟩ W) => hW.cells.c3
    have d4 := fun W (hW : BoxS w ⟨nodes, faulty, slot, gap, rho, dmin, dmax, margin, PA, pn, pcap, parts, QA, qn, qcap, ports, RA, rn, rcap, routes⟩ W) => hW.cells.c4
    have d5 := fun W (hW : BoxS w ⟨nodes, faulty, slot, gap, rho, dmin, dmax, margin, PA, pn, pcap, parts, QA, qn, qcap, ports, RA, rn, rcap, routes⟩ W) => hW.cells.c5
    have d6 := fun W (hW : BoxS w ⟨nodes, faulty, slot, gap, rho, dmin, dmax, margin, PA, pn, pcap, parts, QA, qn, qcap, ports, RA, rn, rcap, routes⟩ W) => hW.cells.c6
    have d7 := fun W (hW : BoxS w ⟨nodes, faulty, slot, gap, rho, dmin, dmax, margin, PA, pn, pcap, parts, QA, qn, qcap, ports, RA, rn, rcap, routes⟩ W) => hW.cells.c7
    have d8 := fun W (hW : BoxS w ⟨nodes, faulty, slot, gap, rho, dmin, dmax, margin, PA, pn, pcap, parts, QA, qn, qcap, ports, RA, rn, rcap, routes⟩ W) => hW.cells.c8
    have d9 := fun W (hW : BoxS w ⟨nodes, faulty, slot, gap, rho, dmin, dmax, margin, PA, pn, pcap, parts, QA, qn, qcap, ports, RA, rn, rcap, routes⟩ W) => hW.cells.c9
    have d10 := fun W (hW : BoxS w ⟨nodes, faulty, slot, gap, rho, dmin, dmax, margin, PA, pn, pcap, parts, QA, qn, qcap, ports, RA, rn, rcap, routes⟩ W) => hW.cells.c10
    simp only at d0 d1 d2 d3 d4 d5 d6 d7 d8 d9 d10
    simp only [CfgC.value] at HWk ⊢
    simp only [boxC, cfgCells] at HST
    go_enter Try.func4, Try.ntmps4
    go_wp2_with fail
    refine (HA.out _).mono ?_
    rintro e w1 ⟨rfl, hb1⟩
    have hd1 := HST.out.step hb1
    clear hb1 HA
    have k0 := d0 _ hd1
    have k1 := d1 _ hd1
    have k2 := d2 _ hd1
    have k3 := d3 _ hd1
    have k4 := d4 _ hd1
    have k5 := d5 _ hd1
    have k6 := d6 _ hd1
    have k7 := d7 _ hd1
    have k8 := d8 _ hd1
    have k9 := d9 _ hd1
    have k10 := d10 _ hd1
    have Hd1 := Lib.hid hd1
    clear hd1
    go_wp2_with fail
    refine (HWk.out _ Hd1.out).mono ?_
    rintro e w2 ⟨rfl, hb2⟩
    have hd2 := Hd1.out.step hb2
    clear hb2 Hd1 HWk k0 k1 k2 k3 k4 k5 k6 k7 k8 k9 k10
    have HF := Lib.hid hd2.below
    clear hd2
    go_wp2_with fail
    go_ret
    exact ⟨rfl, HF.out⟩
  | true =>
  have hR : SndP.chk6 x.plain = none := by
    unfold worksB at hL
    simp only [Bool.and_eq_true] at hL
    exact Option.isNone_iff_eq_none.1 hL.2
  have hW := SndP.works hR
  have hhd := hW.allowed.head
  have hnums := SndP.nums_in hhd
  have hnn : 1 ≤ x.nodes ∧ x.nodes ≤ 7 := hnums.nodes
  have hff : 0 ≤ x.faulty ∧ 3 * x.faulty + 1 ≤ x.nodes := ⟨hnums.faulty.1, hW.nodes⟩
  obtain ⟨N, hN⟩ : ∃ N : Nat, x.nodes = (N : Int) := ⟨x.nodes.toNat, by omega⟩
  obtain ⟨F, hF⟩ : ∃ F : Nat, x.faulty = (F : Int) := ⟨x.faulty.toNat, by omega⟩
  have hNF : 3 * F + 1 ≤ N ∧ N ≤ 7 := by omega
  obtain ⟨me, hmN, ej⟩ := mod_of me0 x.nodes (by omega) (by omega)
  obtain ⟨rate, ert, hr1, hr2⟩ := tmodk rate0 201 (by omega)
  have hlw : LawfulIn 1000 rate := ⟨by omega, by omega, by omega, by omega⟩
  have HN := Lib.hid (fun W (hb : BoxS w x W) => pnew_good x me 1000 rate false W (h.below hb.below) hR ⟨by omega, hmN⟩ hlw)
  have HSe := Lib.hid (fun (j : Nat) (hj : j < N) W => refsend_any x j ⟨by omega, by omega⟩ W hhd)
  have HMe := Lib.hid (fun W => refmean_any x W hhd)
  have HDu := Lib.hid (fun (j : Nat) (hj : j < N) => lie_nums hnums (n := (j : Int)) ⟨by omega, by omega⟩)
  have HRe := Lib.hid (fun b bk hs ds t (ht : FarIn t) W (hW : LK w x me rate b bk hs ds W) => preal_any b x me false bk 1000 rate hs ds t ht W hW.pace)
  have HLo := Lib.hid (fun b bk hs ds t (ht : FarIn (t - 1000)) W (hW : LK w x me rate b bk hs ds W) => plocal_any b x me false bk 1000 rate hs ds t ht W hW.pace)
  have HHe : Hid (∀ (b bk : Nat) hs ds (k : Nat) (hk : k < N) (hp : hs[k]? = some false) (hm : (k : Int) ≠ me) t (ht : PacQ.Soon (t - 1000)) W (hW : LK w x me rate b bk hs ds W), Calls Try.prog 14 #[pv b, .int .i64 (k : Nat), .int .i64 t] W (fun e w' => e = .returned (.bool true) ∧ LK w x me rate b bk (hs.set k true) (ds.set k (PacQ.devT x.plain 1000 rate k t)) w')) := Lib.hid fun b bk hs ds k hk hp hm t ht W hW =>
    (phear_yes x me false bk 1000 rate hs ds k (by omega) hp (.inl hm) t ht b W hW.pace hhd).mono fun e w' ⟨e1, e2, e3⟩ => ⟨e1, hW.hear e2 e3⟩
  have HHa : Hid (∀ (b bk : Nat) hs ds (k : Nat) (hk : k < N) (hp : hs[k]? = some true) t W (hW : LK w x me rate b bk hs ds W), Calls Try.prog 14 #[pv b, .int .i64 (k : Nat), .int .i64 t] W (fun e w' => e = .returned (.bool false) ∧ LK w x me rate b bk hs ds w')) := Lib.hid fun b bk hs ds k hk hp t W hW =>
    (phear_again x me false bk 1000 rate hs ds k t b W hW.pace ⟨by omega, by omega⟩ hp).mono fun e w' ⟨e1, m, e2⟩ => ⟨e1, by rw [e2]; exact hW.step (below_drewNc (Below.refl _ _) m)⟩
  have HTu : Hid (∀ b bk lo hi (L : Nat) hs ds bad W, PacQ.LieI N lo hi L hs ds bad → L ≤ F → LK w x me rate b bk hs ds W → ∃ m, lo ≤ m ∧ m ≤ hi ∧ Calls Try.prog 13 #[pv b] W (MidGood m W)) := Lib.hid fun b bk lo hi L hs ds bad W hI hLF hW => by
    have ec := PacQ.cntd_warm (me := (me : Int)) (hs := hs) (ds := ds) (k := N) (by rw [hW.pace.dlen]; omega)
    have hlen : (ds.take N).length = N := by rw [List.length_take, hW.pace.dlen]; omega
    have hT := pturn_good x me false bk 1000 rate hs ds N F hN hF (by omega) hI.devs (by rw [ec, hlen]; omega) b W hW.pace
    rw [ec] at hT
    obtain ⟨m1, m2⟩ := PacQ.mid_among (l := ds.take N) (f := F) (lo := lo) (hi := hi) bad (by rw [hlen, hI.few]; exact hLF) (by rw [hlen]; omega) (fun i y hb hy => by
      rw [List.getElem?_take] at hy
      split at hy
      · exact hI.good i y hb hy
      · cases hy)
    exact ⟨_, m1, m2, hT⟩
  have H3 := Lib.hid (fun W (hW : BoxS w x W) => h3.below hW.below)
  have H4 := Lib.hid (fun W (hW : BoxS w x W) => h4.below hW.below)
  have Hl3 := Lib.hid hl3
  have Hl4 := Lib.hid hl4
  have HSh : Hid (∀ j : Nat, PacQ.devT x.plain 1000 rate j = fun t => ClkP.localT 1000 rate t - SndP.sendT x.plain j - SndP.meanT x.plain) := Lib.hid fun j => rfl
  have hrt : RateIn rate := ⟨by omega, by omega⟩
  clear hL hR hW h h3 h4 hl3 hl4 hhd hnums hff hlw
  obtain ⟨nodes, faulty, slot, gap, rho, dmin, dmax, margin, PA, pn, pcap, parts, QA, qn, qcap, ports, RA, rn, rcap, routes⟩ := x
  have d0 := fun W (hW : BoxS w ⟨nodes, faulty, slot, gap, rho, dmin, dmax, margin, PA, pn, pcap, parts, QA, qn, qcap, ports, RA, rn, rcap, routes⟩ W) => hW.cells.c0
  have d1 := fun W (hW : BoxS w ⟨nodes, faulty, slot, gap, rho, dmin, dmax, margin, PA, pn, pcap, parts, QA, qn, qcap, ports, RA, rn, rcap, routes⟩ W) => hW.cells.c1
  have d2 := fun W (hW : BoxS w ⟨nodes, faulty, slot, gap, rho, dmin, dmax, margin, PA, pn, pcap, parts, QA, qn, qcap, ports, RA, rn, rcap, routes⟩ W) => hW.cells.c2
  have d3 := fun W (hW : BoxS w ⟨nodes, faulty, slot, gap, rho, dmin, dmax, margin, PA, pn, pcap, parts, QA, qn, qcap, ports, RA, rn, rcap, routes⟩ W) => hW.cells.c3
  have d4 := fun W (hW : BoxS w ⟨nodes, faulty, slot, gap, rho, dmin, dmax, margin, PA, pn, pcap, parts, QA, qn, qcap, ports, RA, rn, rcap, routes⟩ W) => hW.cells.c4
  have d5 := fun W (hW : BoxS w ⟨nodes, faulty, slot, gap, rho, dmin, dmax, margin, PA, pn, pcap, parts, QA, qn, qcap, ports, RA, rn, rcap, routes⟩ W) => hW.cells.c5
  have d6 := fun W (hW : BoxS w ⟨nodes, faulty, slot, gap, rho, dmin, dmax, margin, PA, pn, pcap, parts, QA, qn, qcap, ports, RA, rn, rcap, routes⟩ W) => hW.cells.c6
  have d7 := fun W (hW : BoxS w ⟨nodes, faulty, slot, gap, rho, dmin, dmax, margin, PA, pn, pcap, parts, QA, qn, qcap, ports, RA, rn, rcap, routes⟩ W) => hW.cells.c7
  have d8 := fun W (hW : BoxS w ⟨nodes, faulty, slot, gap, rho, dmin, dmax, margin, PA, pn, pcap, parts, QA, qn, qcap, ports, RA, rn, rcap, routes⟩ W) => hW.cells.c8
  have d9 := fun W (hW : BoxS w ⟨nodes, faulty, slot, gap, rho, dmin, dmax, margin, PA, pn, pcap, parts, QA, qn, qcap, ports, RA, rn, rcap, routes⟩ W) => hW.cells.c9
  have d10 := fun W (hW : BoxS w ⟨nodes, faulty, slot, gap, rho, dmin, dmax, margin, PA, pn, pcap, parts, QA, qn, qcap, ports, RA, rn, rcap, routes⟩ W) => hW.cells.c10
  simp only at d0 d1 d2 d3 d4 d5 d6 d7 d8 d9 d10 hnn hN hF hmN ej HDu
  subst hN hF
  simp only [CfgC.value] at HWk HN HSe HMe ⊢
  simp only [boxC, cfgCells] at HST
  have eN : IntKind.u64.wrap (N : Int) = (N : Int) := u64_in _ (by omega) (by omega)
  have zN : ¬ (N : Int) = 0 := by omega
  have er1 : IntKind.i64.wrap (rate0.tmod 201) = rate := by rw [ert]; exact IntWalk.i64_in _ (by omega)
  have er2 : wrap64 (rate0.tmod 201) = rate := by rw [ert]; exact IntWalk.wrap64_in _ (by omega)
  go_enter Try.func4, Try.ntmps4
  go_wp2_with fail
  refine (HA.out _).mono ?_
  rintro e w1 ⟨rfl, hb1⟩
  have hd1 := HST.out.step hb1
  clear hb1 HA
  have k0 := d0 _ hd1
  have k1 := d1 _ hd1
  have k2 := d2 _ hd1
  have k3 := d3 _ hd1
  have k4 := d4 _ hd1
  have k5 := d5 _ hd1
  have k6 := d6 _ hd1
  have k7 := d7 _ hd1
  have k8 := d8 _ hd1
  have k9 := d9 _ hd1
  have k10 := d10 _ hd1
  have Hd1 := Lib.hid hd1
  clear hd1
  go_wp2_with fail
  refine (HWk.out _ Hd1.out).mono ?_
  rintro e w2 ⟨rfl, hb2⟩
  have hd2 := Hd1.out.step hb2
  clear hb2 Hd1 HWk k0 k1 k2 k3 k4 k5 k6 k7 k8 k9 k10
  have k0 := d0 _ hd2
  have k1 := d1 _ hd2
  have k2 := d2 _ hd2
  have k3 := d3 _ hd2
  have k4 := d4 _ hd2
  have k5 := d5 _ hd2
  have k6 := d6 _ hd2
  have k7 := d7 _ hd2
  have k8 := d8 _ hd2
  have k9 := d9 _ hd2
  have k10 := d10 _ hd2
  have Hd2 := Lib.hid hd2
  have HN2 := Lib.hid (HN.out _ hd2)
  clear hd2 HN
  go_wp2_with fail
  refine HN2.out.mono ?_
  rintro e w3 ⟨b, bk, rfl, hp1, hp2, -, hp3⟩
  have hd3 := Hd2.out.step hp3
  have HS : Hid (LieR w ⟨(N : Int), (F : Int), slot, gap, rho, dmin, dmax, margin, PA, pn, pcap, parts, QA, qn, qcap, ports, RA, rn, rcap, routes⟩ N F me rate b bk (.int .i64 0) (.int .i64 0) (.int .i64 0) (.int .i64 0) w3) := Lib.hid
    ⟨0, 0, 0, 0, h0, z0, fun _ => false, by omega, rfl, rfl, rfl, rfl, by omega, lie_start, hd3, hp1, Nat.le_trans Hd2.out.size hp2⟩
  clear hp1 hp2 hp3 Hd2 HN2 k0 k1 k2 k3 k4 k5 k6 k7 k8 k9 k10 zN er1 er2 ert hd3
  unfold pv at *
  go_wp2_with fail
  clear ej eN
  go_loopw [13, 14, 15, 16] (LieR w ⟨(N : Int), (F : Int), slot, gap, rho, dmin, dmax, margin, PA, pn, pcap, parts, QA, qn, qcap, ports, RA, rn, rcap, routes⟩ N F me rate b bk) (fun _ _ _ i _ => (N + 1 - intOf i).toNat)
  case atStart => exact HS.out
  case round =>
    clear HS
    obtain ⟨k, L, lo, hi, hs, ds, bad, hk, rfl, rfl, rfl, rfl, hLF, hI, hG⟩ := hrel
    have HG := Lib.hid hG
    have HI := Lib.hid hI
    have k0 := d0 _ hG.box
    clear hG hI
    by_cases hkn : k < N
    case neg =>
      obtain rfl : k = N := by omega
      obtain ⟨m, m1, m2, hT⟩ := HTu.out b bk lo hi L hs ds bad wr HI.out hLF HG.out
      have HT := Lib.hid hT
      have q1 : decide ((k : Int) < (k : Int)) = false := decide_eq_false (by omega)
      have q2 : decide (lo ≤ m) = true := decide_eq_true m1
      have q3 : decide (m ≤ hi) = true := decide_eq_true m2
      have HF := Lib.hid HG.out.box.below
      clear hT HG HI HHe HHa HTu HRe HLo HSe HMe H3 H4 HDu m1 m2 hkn
      unfold MidGood at HT
      go_wp2_with fail
      refine HT.out.mono ?_
      rintro e w8 ⟨rfl, hb8⟩
      have HF8 := Lib.hid (HF.out.trans (hb8.mono HF.out.size))
      clear hb8 HF HT k0
      go_wp2_with fail
      go_ret
      exact ⟨rfl, HF8.out⟩
    have q1 : decide ((k : Int) < (N : Int)) = true := decide_eq_true (by omega)
    have q1n : decide (k < N) = true := decide_eq_true hkn
    have ek1 : IntKind.i64.wrap ((k : Int) + 1) = (k : Int) + 1 := IntWalk.i64_in _ (by omega)
    by_cases hm : (k : Int) = (me : Int)
    case pos =>
      have q2 : decide ((k : Int) = (me : Int)) = true := decide_eq_true hm
      have q2b : ((k : Int) == (me : Int)) = true := by rw [beq_iff_eq]; exact hm
      have q2n : decide (k = me) = true := decide_eq_true (by omega)
      have HR : Hid (LieR w ⟨(N : Int), (F : Int), slot, gap, rho, dmin, dmax, margin, PA, pn, pcap, parts, QA, qn, qcap, ports, RA, rn, rcap, routes⟩ N F me rate b bk (.int .i64 lo) (.int .i64 hi) (.int .i64 (L : Nat)) (.int .i64 ((k : Int) + 1)) wr) := Lib.hid ⟨k + 1, L, lo, hi, hs, ds, bad, by omega, by go_num, rfl, rfl, rfl, hLF, HI.out.skip, HG.out⟩
      clear HG HI HHe HHa HTu HRe HLo HSe HMe H3 H4 HDu hm
      go_wp2_with fail
      go_roundw
      case rel => exact HR.out
      case measure => simp [intOf]; omega
    have q2 : decide ((k : Int) = (me : Int)) = false := decide_eq_false hm
    have q2b : ((k : Int) == (me : Int)) = false := by rw [beq_eq_false_iff_ne]; exact hm
    have q2n : decide (k = me) = false := decide_eq_false (by omega)
    have hp := HI.out.heard k (Nat.le_refl _) (by omega)
    have HSk := Lib.hid (HSe.out k hkn)
    have Hdu := HDu.out k hkn
    have HHk := Lib.hid (fun at_ ht W hW => HHe.out b bk hs ds k hkn hp hm at_ ht W hW)
    have HAk := Lib.hid (fun ds' t W hW => HHa.out b bk (hs.set k true) ds' k hkn (by rw [List.getElem?_set_self (by have := (List.getElem?_eq_some_iff.1 hp).1; exact this)]) t W hW)
    have HRk := Lib.hid (fun t ht W hW => HRe.out b bk hs ds t ht W hW)
    have HLk := Lib.hid (fun t ht W hW => HLo.out b bk hs ds t ht W hW)
    have HSk2 := HSh.out k
    have HTell : Hid (∀ d lo' hi', (-68719476736 ≤ d ∧ d ≤ 68719476736) → (lo' ≤ lo ∧ lo' ≤ d) → (hi ≤ hi' ∧ d ≤ hi') → ∀ W, LK w ⟨(N : Int), (F : Int), slot, gap, rho, dmin, dmax, margin, PA, pn, pcap, parts, QA, qn, qcap, ports, RA, rn, rcap, routes⟩ me rate b bk (hs.set k true) (ds.set k d) W → LieR w ⟨(N : Int), (F : Int), slot, gap, rho, dmin, dmax, margin, PA, pn, pcap, parts, QA, qn, qcap, ports, RA, rn, rcap, routes⟩ N F me rate b bk (.int .i64 lo') (.int .i64 hi') (.int .i64 (L : Nat)) (.int .i64 ((k : Int) + 1)) W) := Lib.hid fun d lo' hi' a1 a2 a3 W hW =>
      ⟨k + 1, L, lo', hi', _, _, bad, by omega, by go_num, rfl, rfl, rfl, hLF, HI.out.tells a1 a2 a3, hW⟩
    have HLie : Hid (∀ d, (-68719476736 ≤ d ∧ d ≤ 68719476736) → L + 1 ≤ F → ∀ W, LK w ⟨(N : Int), (F : Int), slot, gap, rho, dmin, dmax, margin, PA, pn, pcap, parts, QA, qn, qcap, ports, RA, rn, rcap, routes⟩ me rate b bk (hs.set k true) (ds.set k d) W → LieR w ⟨(N : Int), (F : Int), slot, gap, rho, dmin, dmax, margin, PA, pn, pcap, parts, QA, qn, qcap, ports, RA, rn, rcap, routes⟩ N F me rate b bk (.int .i64 lo) (.int .i64 hi) (.int .i64 ((L : Int) + 1)) (.int .i64 ((k : Int) + 1)) W) := Lib.hid fun d a1 a2 W hW =>
      ⟨k + 1, L + 1, lo, hi, _, _, _, by omega, by go_num, by go_num, rfl, rfl, a2, HI.out.lies a1, hW⟩
    have hbx := HG.out.box
    generalize SndP.sendT _ (k : Int) = sd at *
    generalize SndP.meanT _ = mn at *
    obtain ⟨u1, u2, u3, u4⟩ := Hdu
    have e3 : IntKind.i64.wrap (sd + mn) = sd + mn := IntWalk.i64_in _ (by omega)
    clear HSe HHe HHa HRe HLo HTu HDu HSh hp hm
    by_cases ho : k < n3
    case pos =>
      have q3 : decide ((k : Int) < (n3 : Int)) = true := decide_eq_true (by omega)
      have q3n : decide (k < n3) = true := decide_eq_true ho
      obtain ⟨v, hv⟩ : ∃ v, offs[k]? = some v := ⟨_, List.getElem?_eq_getElem (by rw [Hl3.out]; omega)⟩
      obtain ⟨b3, o3, rfl, -, c3v⟩ := (H3.out _ hbx).at_ hv
      obtain ⟨o, eo, ho1, ho2⟩ := tmodk v 100000 (by omega)
      have eO1 : wrap64 (v.tmod 100000) = o := by rw [eo]; exact IntWalk.wrap64_in _ (by omega)
      have eO2 : IntKind.i64.wrap (v.tmod 100000) = o := by rw [eo]; exact IntWalk.i64_in _ (by omega)
      have eO3 : wrap64 (sd + mn + v.tmod 100000) = sd + mn + o := by rw [eo]; exact IntWalk.wrap64_in _ (by omega)
      clear hv
      by_cases hq : L < F
      case neg =>
        have e4 : IntKind.i64.wrap (sd + mn + o) = sd + mn + o := IntWalk.i64_in _ (by omega)
        have hfar : FarIn (sd + mn + o) := by unfold FarIn; omega
        obtain ⟨at1, hat⟩ : ∃ a, ClkP.realT 1000 rate (sd + mn + o) = a := ⟨_, rfl⟩
        have hsm := ClkP.real_small (since := 1000) (rate := rate) (loc := sd + mn + o) (m := 160000000) hrt (by omega) (by omega)
        rw [hat] at hsm
        have HR1 := Lib.hid (HRk.out (sd + mn + o) hfar)
        rw [hat] at HR1
        have q5 : decide ((L : Int) < (F : Int)) = false := decide_eq_false (by omega)
        have q5n : decide (L < F) = false := decide_eq_false (by omega)
        have hsoon : PacQ.Soon (at1 - 1000) := by unfold PacQ.Soon; omega
        have hfar2 : FarIn (at1 - 1000) := by unfold FarIn; omega
        have hdl := ClkP.local_small (since := 1000) (rate := rate) (real := at1) (m := 1600000000) hrt (by omega) (by omega)
        have e9 : IntKind.i64.wrap (at1 + 5) = at1 + 5 := IntWalk.i64_in _ (by omega)
        have HH1 := Lib.hid (HHk.out at1 hsoon)
        have HL1 := Lib.hid (HLk.out at1 hfar2)
        rw [HSk2] at HH1
        dsimp only at HH1
        generalize ClkP.localT 1000 rate at1 = lv at *
        have f1 : IntKind.i64.wrap (lv - sd) = lv - sd := IntWalk.i64_in _ (by omega)
        have f2 : IntKind.i64.wrap (lv - sd - mn) = lv - sd - mn := IntWalk.i64_in _ (by omega)
        obtain ⟨lo2, hn1, hn2, hn3, hn4⟩ := minP lo (lv - sd - mn)
        obtain ⟨hi2, hx1, hx2, hx3, hx4⟩ := maxP hi (lv - sd - mn)
        have gmn : ∀ (W : World) ts t, (Builtin.min_ ts t #[.int .i64 lo, .int .i64 (lv - sd - mn)]).run Try.prog W = .ok (.int .i64 lo2) W := fun W ts t => by rw [run_min_int2, hn2]
        have gmx : ∀ (W : World) ts t, (Builtin.max_ ts t #[.int .i64 hi, .int .i64 (lv - sd - mn)]).run Try.prog W = .ok (.int .i64 hi2) W := fun W ts t => by rw [run_max_int2, hx2]
        have HLi := Lib.hid (HTell.out (lv - sd - mn) lo2 hi2 (by omega) ⟨hn3, hn4⟩ ⟨hx3, hx4⟩)
        have hg0 := HG.out.step (Below.refl _ _).drew
        have HG0 := Lib.hid HG.out
        clear HG HI HHk HRk HLk HSk2 HTell HLie hfar hsm hdl hsoon H3 H4 hbx hat hfar2 hn1 hn2 hn3 hn4 hx1 hx2 hx3 hx4
        go_wp2_with fail
        refine wp_region_held_drew (S := fun W => BoxS w ⟨(N : Int), (F : Int), slot, gap, rho, dmin, dmax, margin, PA, pn, pcap, parts, QA, qn, qcap, ports, RA, rn, rcap, routes⟩ W) (by kernel_rfl) hg0.box (fun _ => ?_)
        refine wpAnyH_take (i := 0) (oi := ?oo1) (v := ?vv1) ?ii1 (by kernel_rfl) ?ff1 (by kernel_rfl) ?qq1 (Or.inl ⟨?ww1, ?yy1⟩) hg0.box ?rr1
        case ii1 => simp only [List.getElem?_toArray, List.getElem?_cons_zero]; rfl
        case ff1 => kernel_rfl
        case qq1 => exact fun _ _ _ h => h
        case ww1 => rfl
        case yy1 => intro W hW; go_simp <;> with_reducible rfl
        try simp only [Act.put, List.setIfInBounds_toArray, List.set_cons_zero, List.set_cons_succ]
        refine wpAnyH_take (i := 1) (oi := ?oo2) (v := ?vv2) ?ii2 (by kernel_rfl) ?ff2 (by kernel_rfl) ?qq2 (Or.inl ⟨?ww2, ?yy2⟩) hg0.box ?rr2
        case ii2 => simp only [List.getElem?_toArray, List.getElem?_cons_succ, List.getElem?_cons_zero]; rfl
        case ff2 => kernel_rfl
        case qq2 => exact fun _ _ _ h => h
        case ww2 => rfl
        case yy2 => intro W hW; go_simp <;> with_reducible rfl
        try simp only [Act.put, List.setIfInBounds_toArray, List.set_cons_zero, List.set_cons_succ]
        refine wpAnyH_take (i := 2) (oi := ?oo3) (v := ?vv3) ?ii3 (by kernel_rfl) ?ff3 (by kernel_rfl) ?qq3 (Or.inl ⟨?ww3, ?yy3⟩) hg0.box ?rr3
        case ii3 => simp only [List.getElem?_toArray, List.getElem?_cons_succ, List.getElem?_cons_zero]; rfl
        case ff3 => kernel_rfl
        case qq3 => exact fun _ _ _ h => h
        case ww3 => rfl
        case yy3 => intro W hW; go_simp <;> with_reducible rfl
        try simp only [Act.put, List.setIfInBounds_toArray, List.set_cons_zero, List.set_cons_succ]
        refine wpAnyH_take (i := 4) (oi := ?oo4) (v := ?vv4) ?ii4 (by kernel_rfl) ?ff4 (by kernel_rfl) ?qq4 (Or.inl ⟨?ww4, ?yy4⟩) hg0.box ?rr4
        case ii4 => simp only [List.getElem?_toArray, List.getElem?_cons_succ, List.getElem?_cons_zero]; rfl
        case ff4 => kernel_rfl
        case qq4 => exact fun _ _ _ h => h
        case ww4 => rfl
        case yy4 => intro W hW; go_simp <;> with_reducible rfl
        try simp only [Act.put, List.setIfInBounds_toArray, List.set_cons_zero, List.set_cons_succ]
        refine wpAnyH_take (i := 7) (oi := ?oo5) (v := ?vv5) ?ii5 (by kernel_rfl) ?ff5 (by kernel_rfl) ?qq5 (Or.inl ⟨?ww5, ?yy5⟩) hg0.box ?rr5
        case ii5 => simp only [List.getElem?_toArray, List.getElem?_cons_succ, List.getElem?_cons_zero]; rfl
        case ff5 => kernel_rfl
        case qq5 => exact fun _ _ _ h => h
        case ww5 => rfl
        case yy5 => intro W hW; go_simp <;> with_reducible rfl
        try simp only [Act.put, List.setIfInBounds_toArray, List.set_cons_zero, List.set_cons_succ]
        refine wpAnyH_ready (rs := [3]) (by kernel_rfl) (by simp) ?_
        refine AllReadyH.cons (o := ?oo6) ?ii6 (fun K hK => ?_) AllReadyH.nil
        case ii6 => simp only [List.getElem?_toArray, List.getElem?_cons_succ, List.getElem?_cons_zero]; rfl
        go_simp
        refine (HSk.out _).mono ?_
        rintro e w4 ⟨rfl, hb4⟩
        have hg1 := hg0.step hb4
        clear hb4 hg0
        go_wp2_with fail
        refine hK.out _ _ hg1.box (fun _ => ?_)
        clear hK K
        refine wpAnyH_ready (rs := [5]) (by kernel_rfl) (by simp) ?_
        refine AllReadyH.cons (o := ?oo7) ?ii7 (fun K hK => ?_) AllReadyH.nil
        case ii7 => simp only [List.getElem?_toArray, List.getElem?_cons_succ, List.getElem?_cons_zero]; rfl
        go_simp
        refine (HMe.out _).mono ?_
        rintro e w5 ⟨rfl, hb5⟩
        have hg2 := hg1.step hb5
        clear hb5 hg1
        go_wp2_with fail
        refine hK.out _ _ hg2.box (fun _ => ?_)
        clear hK K
        refine wpAnyH_take (i := 6) (oi := ?oo8) (v := ?vv8) ?ii8 (by kernel_rfl) ?ff8 (by kernel_rfl) ?qq8 (Or.inl ⟨?ww8, ?yy8⟩) hg2.box ?rr8
        case ii8 => simp only [List.getElem?_toArray, List.getElem?_cons_succ, List.getElem?_cons_zero]; rfl
        case ff8 => kernel_rfl
        case qq8 => exact fun _ _ _ h => h
        case ww8 => rfl
        case yy8 => intro W hW; go_simp <;> with_reducible rfl
        try simp only [Act.put, List.setIfInBounds_toArray, List.set_cons_zero, List.set_cons_succ]
        refine wpAnyH_take (i := 8) (oi := ?oo9) (v := ?vv9) ?ii9 (by kernel_rfl) ?ff9 (by kernel_rfl) ?qq9 (Or.inl ⟨?ww9, ?yy9⟩) hg2.box ?rr9
        case ii9 => simp only [List.getElem?_toArray, List.getElem?_cons_succ, List.getElem?_cons_zero]; rfl
        case ff9 => kernel_rfl
        case qq9 => exact fun _ _ _ h => h
        case ww9 => rfl
        case yy9 => intro W hW; go_simp <;> with_reducible rfl
        try simp only [Act.put, List.setIfInBounds_toArray, List.set_cons_zero, List.set_cons_succ]
        refine wpAnyH_ready (rs := [9]) (by kernel_rfl) (by simp) ?_
        refine AllReadyH.cons (o := ?oo10) ?ii10 (fun K hK => ?_) AllReadyH.nil
        case ii10 => simp only [List.getElem?_toArray, List.getElem?_cons_succ, List.getElem?_cons_zero]; rfl
        go_simp
        refine (HR1.out _ hg2).mono ?_
        rintro e w6 ⟨rfl, m6, rfl⟩
        have hg3 := hg2.step (below_drewNc (Below.refl _ _) m6)
        clear hg2 HR1
        go_wp2_with fail
        refine hK.out _ _ hg3.box (fun _ => ?_)
        clear hK K
        refine wpAnyH_take (i := 10) (oi := ?oo11) (v := ?vv11) ?ii11 (by kernel_rfl) ?ff11 (by kernel_rfl) ?qq11 (Or.inl ⟨?ww11, ?yy11⟩) hg3.box ?rr11
        case ii11 => simp only [List.getElem?_toArray, List.getElem?_cons_succ, List.getElem?_cons_zero]; rfl
        case ff11 => kernel_rfl
        case qq11 => exact fun _ _ _ h => h
        case ww11 => rfl
        case yy11 => intro W hW; go_simp <;> with_reducible rfl
        try simp only [Act.put, List.setIfInBounds_toArray, List.set_cons_zero, List.set_cons_succ]
        refine wpAnyH_done (by kernel_rfl) ?_ _
        generalize w5.drewN m6 = w7 at *
        have k1 := d1 _ hg3.box
        have hgq := hg3.step (Below.refl _ _).drew
        clear hg3
        go_wp2_with fail
        refine wp_region_held_drew (S := fun W => BoxS w ⟨(N : Int), (F : Int), slot, gap, rho, dmin, dmax, margin, PA, pn, pcap, parts, QA, qn, qcap, ports, RA, rn, rcap, routes⟩ W) (by kernel_rfl) hgq.box (fun _ => ?_)
        generalize w7.drew = w8 at *
        refine wpAnyH_take (i := 0) (oi := ?oo12) (v := ?vv12) ?ii12 (by kernel_rfl) ?ff12 (by kernel_rfl) ?qq12 (Or.inl ⟨?ww12, ?yy12⟩) hgq.box ?rr12
        case ii12 => simp only [List.getElem?_toArray, List.getElem?_cons_zero]; rfl
        case ff12 => kernel_rfl
        case qq12 => exact fun _ _ _ h => h
        case ww12 => rfl
        case yy12 => intro W hW; go_simp <;> with_reducible rfl
        try simp only [Act.put, List.setIfInBounds_toArray, List.set_cons_zero, List.set_cons_succ]
        refine wpAnyH_take (i := 1) (oi := ?oo13) (v := ?vv13) ?ii13 (by kernel_rfl) ?ff13 (by kernel_rfl) ?qq13 (Or.inl ⟨?ww13, ?yy13⟩) hgq.box ?rr13
        case ii13 => simp only [List.getElem?_toArray, List.getElem?_cons_succ, List.getElem?_cons_zero]; rfl
        case ff13 => kernel_rfl
        case qq13 => exact fun _ _ _ h => h
        case ww13 => rfl
        case yy13 => intro W hW; go_simp <;> with_reducible rfl
        try simp only [Act.put, List.setIfInBounds_toArray, List.set_cons_zero, List.set_cons_succ]
        refine wpAnyH_take (i := 3) (oi := ?oo14) (v := ?vv14) ?ii14 (by kernel_rfl) ?ff14 (by kernel_rfl) ?qq14 (Or.inl ⟨?ww14, ?yy14⟩) hgq.box ?rr14
        case ii14 => simp only [List.getElem?_toArray, List.getElem?_cons_succ, List.getElem?_cons_zero]; rfl
        case ff14 => kernel_rfl
        case qq14 => exact fun _ _ _ h => h
        case ww14 => rfl
        case yy14 => intro W hW; go_simp <;> with_reducible rfl
        try simp only [Act.put, List.setIfInBounds_toArray, List.set_cons_zero, List.set_cons_succ]
        refine wpAnyH_take (i := 4) (oi := ?oo15) (v := ?vv15) ?ii15 (by kernel_rfl) ?ff15 (by kernel_rfl) ?qq15 (Or.inl ⟨?ww15, ?yy15⟩) hgq.box ?rr15
        case ii15 => simp only [List.getElem?_toArray, List.getElem?_cons_succ, List.getElem?_cons_zero]; rfl
        case ff15 => kernel_rfl
        case qq15 => exact fun _ _ _ h => h
        case ww15 => rfl
        case yy15 => intro W hW; go_simp <;> with_reducible rfl
        try simp only [Act.put, List.setIfInBounds_toArray, List.set_cons_zero, List.set_cons_succ]
        refine wpAnyH_take (i := 7) (oi := ?oo16) (v := ?vv16) ?ii16 (by kernel_rfl) ?ff16 (by kernel_rfl) ?qq16 (Or.inl ⟨?ww16, ?yy16⟩) hgq.box ?rr16
        case ii16 => simp only [List.getElem?_toArray, List.getElem?_cons_succ, List.getElem?_cons_zero]; rfl
        case ff16 => kernel_rfl
        case qq16 => exact fun _ _ _ h => h
        case ww16 => rfl
        case yy16 => intro W hW; go_simp <;> with_reducible rfl
        try simp only [Act.put, List.setIfInBounds_toArray, List.set_cons_zero, List.set_cons_succ]
        refine wpAnyH_ready (rs := [2]) (by kernel_rfl) (by simp) ?_
        refine AllReadyH.cons (o := ?oo17) ?ii17 (fun K hK => ?_) AllReadyH.nil
        case ii17 => simp only [List.getElem?_toArray, List.getElem?_cons_succ, List.getElem?_cons_zero]; rfl
        go_simp
        refine (HL1.out _ hgq).mono ?_
        rintro e w80 ⟨rfl, m8, rfl⟩
        have hg4 := hgq.step (below_drewNc (Below.refl _ _) m8)
        clear hgq HL1
        go_wp2_with fail
        refine hK.out _ _ hg4.box (fun _ => ?_)
        clear hK K
        refine wpAnyH_ready (rs := [5]) (by kernel_rfl) (by simp) ?_
        refine AllReadyH.cons (o := ?oo18) ?ii18 (fun K hK => ?_) AllReadyH.nil
        case ii18 => simp only [List.getElem?_toArray, List.getElem?_cons_succ, List.getElem?_cons_zero]; rfl
        go_simp
        refine (HSk.out _).mono ?_
        rintro e w9 ⟨rfl, hb9⟩
        have hg5 := hg4.step hb9
        clear hb9 hg4
        go_wp2_with fail
        refine hK.out _ _ hg5.box (fun _ => ?_)
        clear hK K
        refine wpAnyH_take (i := 6) (oi := ?oo19) (v := ?vv19) ?ii19 (by kernel_rfl) ?ff19 (by kernel_rfl) ?qq19 (Or.inl ⟨?ww19, ?yy19⟩) hg5.box ?rr19
        case ii19 => simp only [List.getElem?_toArray, List.getElem?_cons_succ, List.getElem?_cons_zero]; rfl
        case ff19 => kernel_rfl
        case qq19 => exact fun _ _ _ h => h
        case ww19 => rfl
        case yy19 => intro W hW; go_simp <;> with_reducible rfl
        try simp only [Act.put, List.setIfInBounds_toArray, List.set_cons_zero, List.set_cons_succ]
        refine wpAnyH_ready (rs := [8]) (by kernel_rfl) (by simp) ?_
        refine AllReadyH.cons (o := ?oo20) ?ii20 (fun K hK => ?_) AllReadyH.nil
        case ii20 => simp only [List.getElem?_toArray, List.getElem?_cons_succ, List.getElem?_cons_zero]; rfl
        go_simp
        refine (HMe.out _).mono ?_
        rintro e w10 ⟨rfl, hb10⟩
        have hg6 := hg5.step hb10
        clear hb10 hg5
        go_wp2_with fail
        refine hK.out _ _ hg6.box (fun _ => ?_)
        clear hK K
        refine wpAnyH_take (i := 9) (oi := ?oo21) (v := ?vv21) ?ii21 (by kernel_rfl) ?ff21 (by kernel_rfl) ?qq21 (Or.inl ⟨?ww21, ?yy21⟩) hg6.box ?rr21
        case ii21 => simp only [List.getElem?_toArray, List.getElem?_cons_succ, List.getElem?_cons_zero]; rfl
        case ff21 => kernel_rfl
        case qq21 => exact fun _ _ _ h => h
        case ww21 => rfl
        case yy21 => intro W hW; go_simp <;> with_reducible rfl
        try simp only [Act.put, List.setIfInBounds_toArray, List.set_cons_zero, List.set_cons_succ]
        refine wpAnyH_take (i := 10) (oi := ?oo22) (v := ?vv22) ?ii22 (by kernel_rfl) ?ff22 (by kernel_rfl) ?qq22 (Or.inl ⟨?ww22, ?yy22⟩) hg6.box ?rr22
        case ii22 => simp only [List.getElem?_toArray, List.getElem?_cons_succ, List.getElem?_cons_zero]; rfl
        case ff22 => kernel_rfl
        case qq22 => exact fun _ _ _ h => h
        case ww22 => rfl
        case yy22 => intro W hW; go_simp <;> with_reducible rfl
        try simp only [Act.put, List.setIfInBounds_toArray, List.set_cons_zero, List.set_cons_succ]
        refine wpAnyH_done (by kernel_rfl) ?_ _
        have HG3 := Lib.hid hg6
        clear hg6
        go_wp2_with fail
        refine (HH1.out _ HG3.out).mono ?_
        rintro e w11 ⟨rfl, hg7⟩
        have HG7 := Lib.hid hg7
        clear hg7 HG3 HH1 k1
        go_wp2_with fail
        refine (HAk.out _ _ _ HG7.out).mono ?_
        rintro e w12 ⟨rfl, hg8⟩
        have HF := Lib.hid (HLi.out _ hg8)
        clear hg8 HG7 HLi HAk
        go_wp2_with fail
        go_roundw
        case rel => exact HF.out
        case measure => simp [intOf]; omega
      by_cases hq2 : L < n4
      case neg =>
        have e4 : IntKind.i64.wrap (sd + mn + o) = sd + mn + o := IntWalk.i64_in _ (by omega)
        have hfar : FarIn (sd + mn + o) := by unfold FarIn; omega
        obtain ⟨at1, hat⟩ : ∃ a, ClkP.realT 1000 rate (sd + mn + o) = a := ⟨_, rfl⟩
        have hsm := ClkP.real_small (since := 1000) (rate := rate) (loc := sd + mn + o) (m := 160000000) hrt (by omega) (by omega)
        rw [hat] at hsm
        have HR1 := Lib.hid (HRk.out (sd + mn + o) hfar)
        rw [hat] at HR1
        have q5 : decide ((L : Int) < (F : Int)) = true := decide_eq_true (by omega)
        have q5n : decide (L < F) = true := decide_eq_true (by omega)
        have q6 : decide ((L : Int) < (n4 : Int)) = false := decide_eq_false (by omega)
        have q6n : decide (L < n4) = false := decide_eq_false (by omega)
        have hsoon : PacQ.Soon (at1 - 1000) := by unfold PacQ.Soon; omega
        have hfar2 : FarIn (at1 - 1000) := by unfold FarIn; omega
        have hdl := ClkP.local_small (since := 1000) (rate := rate) (real := at1) (m := 1600000000) hrt (by omega) (by omega)
        have e9 : IntKind.i64.wrap (at1 + 5) = at1 + 5 := IntWalk.i64_in _ (by omega)
        have HH1 := Lib.hid (HHk.out at1 hsoon)
        have HL1 := Lib.hid (HLk.out at1 hfar2)
        rw [HSk2] at HH1
        dsimp only at HH1
        generalize ClkP.localT 1000 rate at1 = lv at *
        have f1 : IntKind.i64.wrap (lv - sd) = lv - sd := IntWalk.i64_in _ (by omega)
        have f2 : IntKind.i64.wrap (lv - sd - mn) = lv - sd - mn := IntWalk.i64_in _ (by omega)
        obtain ⟨lo2, hn1, hn2, hn3, hn4⟩ := minP lo (lv - sd - mn)
        obtain ⟨hi2, hx1, hx2, hx3, hx4⟩ := maxP hi (lv - sd - mn)
        have gmn : ∀ (W : World) ts t, (Builtin.min_ ts t #[.int .i64 lo, .int .i64 (lv - sd - mn)]).run Try.prog W = .ok (.int .i64 lo2) W := fun W ts t => by rw [run_min_int2, hn2]
        have gmx : ∀ (W : World) ts t, (Builtin.max_ ts t #[.int .i64 hi, .int .i64 (lv - sd - mn)]).run Try.prog W = .ok (.int .i64 hi2) W := fun W ts t => by rw [run_max_int2, hx2]
        have HLi := Lib.hid (HTell.out (lv - sd - mn) lo2 hi2 (by omega) ⟨hn3, hn4⟩ ⟨hx3, hx4⟩)
        have hg0 := HG.out.step (Below.refl _ _).drew
        have HG0 := Lib.hid HG.out
        clear HG HI HHk HRk HLk HSk2 HTell HLie hfar hsm hdl hsoon H3 H4 hbx hat hfar2 hn1 hn2 hn3 hn4 hx1 hx2 hx3 hx4
        go_wp2_with fail
        refine wp_region_held_drew (S := fun W => BoxS w ⟨(N : Int), (F : Int), slot, gap, rho, dmin, dmax, margin, PA, pn, pcap, parts, QA, qn, qcap, ports, RA, rn, rcap, routes⟩ W) (by kernel_rfl) hg0.box (fun _ => ?_)
        refine wpAnyH_take (i := 0) (oi := ?oo23) (v := ?vv23) ?ii23 (by kernel_rfl) ?ff23 (by kernel_rfl) ?qq23 (Or.inl ⟨?ww23, ?yy23⟩) hg0.box ?rr23
        case ii23 => simp only [List.getElem?_toArray, List.getElem?_cons_zero]; rfl
        case ff23 => kernel_rfl
        case qq23 => exact fun _ _ _ h => h
        case ww23 => rfl
        case yy23 => intro W hW; go_simp <;> with_reducible rfl
        try simp only [Act.put, List.setIfInBounds_toArray, List.set_cons_zero, List.set_cons_succ]
        refine wpAnyH_take (i := 1) (oi := ?oo24) (v := ?vv24) ?ii24 (by kernel_rfl) ?ff24 (by kernel_rfl) ?qq24 (Or.inl ⟨?ww24, ?yy24⟩) hg0.box ?rr24
        case ii24 => simp only [List.getElem?_toArray, List.getElem?_cons_succ, List.getElem?_cons_zero]; rfl
        case ff24 => kernel_rfl
        case qq24 => exact fun _ _ _ h => h
        case ww24 => rfl
        case yy24 => intro W hW; go_simp <;> with_reducible rfl
        try simp only [Act.put, List.setIfInBounds_toArray, List.set_cons_zero, List.set_cons_succ]
        refine wpAnyH_take (i := 2) (oi := ?oo25) (v := ?vv25) ?ii25 (by kernel_rfl) ?ff25 (by kernel_rfl) ?qq25 (Or.inl ⟨?ww25, ?yy25⟩) hg0.box ?rr25
        case ii25 => simp only [List.getElem?_toArray, List.getElem?_cons_succ, List.getElem?_cons_zero]; rfl
        case ff25 => kernel_rfl
        case qq25 => exact fun _ _ _ h => h
        case ww25 => rfl
        case yy25 => intro W hW; go_simp <;> with_reducible rfl
        try simp only [Act.put, List.setIfInBounds_toArray, List.set_cons_zero, List.set_cons_succ]
        refine wpAnyH_take (i := 4) (oi := ?oo26) (v := ?vv26) ?ii26 (by kernel_rfl) ?ff26 (by kernel_rfl) ?qq26 (Or.inl ⟨?ww26, ?yy26⟩) hg0.box ?rr26
        case ii26 => simp only [List.getElem?_toArray, List.getElem?_cons_succ, List.getElem?_cons_zero]; rfl
        case ff26 => kernel_rfl
        case qq26 => exact fun _ _ _ h => h
        case ww26 => rfl
        case yy26 => intro W hW; go_simp <;> with_reducible rfl
        try simp only [Act.put, List.setIfInBounds_toArray, List.set_cons_zero, List.set_cons_succ]
        refine wpAnyH_take (i := 7) (oi := ?oo27) (v := ?vv27) ?ii27 (by kernel_rfl) ?ff27 (by kernel_rfl) ?qq27 (Or.inl ⟨?ww27, ?yy27⟩) hg0.box ?rr27
        case ii27 => simp only [List.getElem?_toArray, List.getElem?_cons_succ, List.getElem?_cons_zero]; rfl
        case ff27 => kernel_rfl
        case qq27 => exact fun _ _ _ h => h
        case ww27 => rfl
        case yy27 => intro W hW; go_simp <;> with_reducible rfl
        try simp only [Act.put, List.setIfInBounds_toArray, List.set_cons_zero, List.set_cons_succ]
        refine wpAnyH_ready (rs := [3]) (by kernel_rfl) (by simp) ?_
        refine AllReadyH.cons (o := ?oo28) ?ii28 (fun K hK => ?_) AllReadyH.nil
        case ii28 => simp only [List.getElem?_toArray, List.getElem?_cons_succ, List.getElem?_cons_zero]; rfl
        go_simp
        refine (HSk.out _).mono ?_
        rintro e w4 ⟨rfl, hb4⟩
        have hg1 := hg0.step hb4
        clear hb4 hg0
        go_wp2_with fail
        refine hK.out _ _ hg1.box (fun _ => ?_)
        clear hK K
        refine wpAnyH_ready (rs := [5]) (by kernel_rfl) (by simp) ?_
        refine AllReadyH.cons (o := ?oo29) ?ii29 (fun K hK => ?_) AllReadyH.nil
        case ii29 => simp only [List.getElem?_toArray, List.getElem?_cons_succ, List.getElem?_cons_zero]; rfl
        go_simp
        refine (HMe.out _).mono ?_
        rintro e w5 ⟨rfl, hb5⟩
        have hg2 := hg1.step hb5
        clear hb5 hg1
        go_wp2_with fail
        refine hK.out _ _ hg2.box (fun _ => ?_)
        clear hK K
        refine wpAnyH_take (i := 6) (oi := ?oo30) (v := ?vv30) ?ii30 (by kernel_rfl) ?ff30 (by kernel_rfl) ?qq30 (Or.inl ⟨?ww30, ?yy30⟩) hg2.box ?rr30
        case ii30 => simp only [List.getElem?_toArray, List.getElem?_cons_succ, List.getElem?_cons_zero]; rfl
        case ff30 => kernel_rfl
        case qq30 => exact fun _ _ _ h => h
        case ww30 => rfl
        case yy30 => intro W hW; go_simp <;> with_reducible rfl
        try simp only [Act.put, List.setIfInBounds_toArray, List.set_cons_zero, List.set_cons_succ]
        refine wpAnyH_take (i := 8) (oi := ?oo31) (v := ?vv31) ?ii31 (by kernel_rfl) ?ff31 (by kernel_rfl) ?qq31 (Or.inl ⟨?ww31, ?yy31⟩) hg2.box ?rr31
        case ii31 => simp only [List.getElem?_toArray, List.getElem?_cons_succ, List.getElem?_cons_zero]; rfl
        case ff31 => kernel_rfl
        case qq31 => exact fun _ _ _ h => h
        case ww31 => rfl
        case yy31 => intro W hW; go_simp <;> with_reducible rfl
        try simp only [Act.put, List.setIfInBounds_toArray, List.set_cons_zero, List.set_cons_succ]
        refine wpAnyH_ready (rs := [9]) (by kernel_rfl) (by simp) ?_
        refine AllReadyH.cons (o := ?oo32) ?ii32 (fun K hK => ?_) AllReadyH.nil
        case ii32 => simp only [List.getElem?_toArray, List.getElem?_cons_succ, List.getElem?_cons_zero]; rfl
        go_simp
        refine (HR1.out _ hg2).mono ?_
        rintro e w6 ⟨rfl, m6, rfl⟩
        have hg3 := hg2.step (below_drewNc (Below.refl _ _) m6)
        clear hg2 HR1
        go_wp2_with fail
        refine hK.out _ _ hg3.box (fun _ => ?_)
        clear hK K
        refine wpAnyH_take (i := 10) (oi := ?oo33) (v := ?vv33) ?ii33 (by kernel_rfl) ?ff33 (by kernel_rfl) ?qq33 (Or.inl ⟨?ww33, ?yy33⟩) hg3.box ?rr33
        case ii33 => simp only [List.getElem?_toArray, List.getElem?_cons_succ, List.getElem?_cons_zero]; rfl
        case ff33 => kernel_rfl
        case qq33 => exact fun _ _ _ h => h
        case ww33 => rfl
        case yy33 => intro W hW; go_simp <;> with_reducible rfl
        try simp only [Act.put, List.setIfInBounds_toArray, List.set_cons_zero, List.set_cons_succ]
        refine wpAnyH_done (by kernel_rfl) ?_ _
        generalize w5.drewN m6 = w7 at *
        have k1 := d1 _ hg3.box
        have hgq := hg3.step (Below.refl _ _).drew
        clear hg3
        go_wp2_with fail
        refine wp_region_held_drew (S := fun W => BoxS w ⟨(N : Int), (F : Int), slot, gap, rho, dmin, dmax, margin, PA, pn, pcap, parts, QA, qn, qcap, ports, RA, rn, rcap, routes⟩ W) (by kernel_rfl) hgq.box (fun _ => ?_)
        generalize w7.drew = w8 at *
        refine wpAnyH_take (i := 0) (oi := ?oo34) (v := ?vv34) ?ii34 (by kernel_rfl) ?ff34 (by kernel_rfl) ?qq34 (Or.inl ⟨?ww34, ?yy34⟩) hgq.box ?rr34
        case ii34 => simp only [List.getElem?_toArray, List.getElem?_cons_zero]; rfl
        case ff34 => kernel_rfl
        case qq34 => exact fun _ _ _ h => h
        case ww34 => rfl
        case yy34 => intro W hW; go_simp <;> with_reducible rfl
        try simp only [Act.put, List.setIfInBounds_toArray, List.set_cons_zero, List.set_cons_succ]
        refine wpAnyH_take (i := 1) (oi := ?oo35) (v := ?vv35) ?ii35 (by kernel_rfl) ?ff35 (by kernel_rfl) ?qq35 (Or.inl ⟨?ww35, ?yy35⟩) hgq.box ?rr35
        case ii35 => simp only [List.getElem?_toArray, List.getElem?_cons_succ, List.getElem?_cons_zero]; rfl
        case ff35 => kernel_rfl
        case qq35 => exact fun _ _ _ h => h
        case ww35 => rfl
        case yy35 => intro W hW; go_simp <;> with_reducible rfl
        try simp only [Act.put, List.setIfInBounds_toArray, List.set_cons_zero, List.set_cons_succ]
        refine wpAnyH_take (i := 3) (oi := ?oo36) (v := ?vv36) ?ii36 (by kernel_rfl) ?ff36 (by kernel_rfl) ?qq36 (Or.inl ⟨?ww36, ?yy36⟩) hgq.box ?rr36
        case ii36 => simp only [List.getElem?_toArray, List.getElem?_cons_succ, List.getElem?_cons_zero]; rfl
        case ff36 => kernel_rfl
        case qq36 => exact fun _ _ _ h => h
        case ww36 => rfl
        case yy36 => intro W hW; go_simp <;> with_reducible rfl
        try simp only [Act.put, List.setIfInBounds_toArray, List.set_cons_zero, List.set_cons_succ]
        refine wpAnyH_take (i := 4) (oi := ?oo37) (v := ?vv37) ?ii37 (by kernel_rfl) ?ff37 (by kernel_rfl) ?qq37 (Or.inl ⟨?ww37, ?yy37⟩) hgq.box ?rr37
        case ii37 => simp only [List.getElem?_toArray, List.getElem?_cons_succ, List.getElem?_cons_zero]; rfl
        case ff37 => kernel_rfl
        case qq37 => exact fun _ _ _ h => h
        case ww37 => rfl
        case yy37 => intro W hW; go_simp <;> with_reducible rfl
        try simp only [Act.put, List.setIfInBounds_toArray, List.set_cons_zero, List.set_cons_succ]
        refine wpAnyH_take (i := 7) (oi := ?oo38) (v := ?vv38) ?ii38 (by kernel_rfl) ?ff38 (by kernel_rfl) ?qq38 (Or.inl ⟨?ww38, ?yy38⟩) hgq.box ?rr38
        case ii38 => simp only [List.getElem?_toArray, List.getElem?_cons_succ, List.getElem?_cons_zero]; rfl
        case ff38 => kernel_rfl
        case qq38 => exact fun _ _ _ h => h
        case ww38 => rfl
        case yy38 => intro W hW; go_simp <;> with_reducible rfl
        try simp only [Act.put, List.setIfInBounds_toArray, List.set_cons_zero, List.set_cons_succ]
        refine wpAnyH_ready (rs := [2]) (by kernel_rfl) (by simp) ?_
        refine AllReadyH.cons (o := ?oo39) ?ii39 (fun K hK => ?_) AllReadyH.nil
        case ii39 => simp only [List.getElem?_toArray, List.getElem?_cons_succ, List.getElem?_cons_zero]; rfl
        go_simp
        refine (HL1.out _ hgq).mono ?_
        rintro e w80 ⟨rfl, m8, rfl⟩
        have hg4 := hgq.step (below_drewNc (Below.refl _ _) m8)
        clear hgq HL1
        go_wp2_with fail
        refine hK.out _ _ hg4.box (fun _ => ?_)
        clear hK K
        refine wpAnyH_ready (rs := [5]) (by kernel_rfl) (by simp) ?_
        refine AllReadyH.cons (o := ?oo40) ?ii40 (fun K hK => ?_) AllReadyH.nil
        case ii40 => simp only [List.getElem?_toArray, List.getElem?_cons_succ, List.getElem?_cons_zero]; rfl
        go_simp
        refine (HSk.out _).mono ?_
        rintro e w9 ⟨rfl, hb9⟩
        have hg5 := hg4.step hb9
        clear hb9 hg4
        go_wp2_with fail
        refine hK.out _ _ hg5.box (fun _ => ?_)
        clear hK K
        refine wpAnyH_take (i := 6) (oi := ?oo41) (v := ?vv41) ?ii41 (by kernel_rfl) ?ff41 (by kernel_rfl) ?qq41 (Or.inl ⟨?ww41, ?yy41⟩) hg5.box ?rr41
        case ii41 => simp only [List.getElem?_toArray, List.getElem?_cons_succ, List.getElem?_cons_zero]; rfl
        case ff41 => kernel_rfl
        case qq41 => exact fun _ _ _ h => h
        case ww41 => rfl
        case yy41 => intro W hW; go_simp <;> with_reducible rfl
        try simp only [Act.put, List.setIfInBounds_toArray, List.set_cons_zero, List.set_cons_succ]
        refine wpAnyH_ready (rs := [8]) (by kernel_rfl) (by simp) ?_
        refine AllReadyH.cons (o := ?oo42) ?ii42 (fun K hK => ?_) AllReadyH.nil
        case ii42 => simp only [List.getElem?_toArray, List.getElem?_cons_succ, List.getElem?_cons_zero]; rfl
        go_simp
        refine (HMe.out _).mono ?_
        rintro e w10 ⟨rfl, hb10⟩
        have hg6 := hg5.step hb10
        clear hb10 hg5
        go_wp2_with fail
        refine hK.out _ _ hg6.box (fun _ => ?_)
        clear hK K
        refine wpAnyH_take (i := 9) (oi := ?oo43) (v := ?vv43) ?ii43 (by kernel_rfl) ?ff43 (by kernel_rfl) ?qq43 (Or.inl ⟨?ww43, ?yy43⟩) hg6.box ?rr43
        case ii43 => simp only [List.getElem?_toArray, List.getElem?_cons_succ, List.getElem?_cons_zero]; rfl
        case ff43 => kernel_rfl
        case qq43 => exact fun _ _ _ h => h
        case ww43 => rfl
        case yy43 => intro W hW; go_simp <;> with_reducible rfl
        try simp only [Act.put, List.setIfInBounds_toArray, List.set_cons_zero, List.set_cons_succ]
        refine wpAnyH_take (i := 10) (oi := ?oo44) (v := ?vv44) ?ii44 (by kernel_rfl) ?ff44 (by kernel_rfl) ?qq44 (Or.inl ⟨?ww44, ?yy44⟩) hg6.box ?rr44
        case ii44 => simp only [List.getElem?_toArray, List.getElem?_cons_succ, List.getElem?_cons_zero]; rfl
        case ff44 => kernel_rfl
        case qq44 => exact fun _ _ _ h => h
        case ww44 => rfl
        case yy44 => intro W hW; go_simp <;> with_reducible rfl
        try simp only [Act.put, List.setIfInBounds_toArray, List.set_cons_zero, List.set_cons_succ]
        refine wpAnyH_done (by kernel_rfl) ?_ _
        have HG3 := Lib.hid hg6
        clear hg6
        go_wp2_with fail
        refine (HH1.out _ HG3.out).mono ?_
        rintro e w11 ⟨rfl, hg7⟩
        have HG7 := Lib.hid hg7
        clear hg7 HG3 HH1 k1
        go_wp2_with fail
        refine (HAk.out _ _ _ HG7.out).mono ?_
        rintro e w12 ⟨rfl, hg8⟩
        have HF := Lib.hid (HLi.out _ hg8)
        clear hg8 HG7 HLi HAk
        go_wp2_with fail
        go_roundw
        case rel => exact HF.out
        case measure => simp [intOf]; omega
      case pos =>
        have e4 : IntKind.i64.wrap (sd + mn + o) = sd + mn + o := IntWalk.i64_in _ (by omega)
        have hfar : FarIn (sd + mn + o) := by unfold FarIn; omega
        obtain ⟨at1, hat⟩ : ∃ a, ClkP.realT 1000 rate (sd + mn + o) = a := ⟨_, rfl⟩
        have hsm := ClkP.real_small (since := 1000) (rate := rate) (loc := sd + mn + o) (m := 160000000) hrt (by omega) (by omega)
        rw [hat] at hsm
        have HR1 := Lib.hid (HRk.out (sd + mn + o) hfar)
        rw [hat] at HR1
        have q5 : decide ((L : Int) < (F : Int)) = true := decide_eq_true (by omega)
        have q5n : decide (L < F) = true := decide_eq_true (by omega)
        have q6 : decide ((L : Int) < (n4 : Int)) = true := decide_eq_true (by omega)
        have q6n : decide (L < n4) = true := decide_eq_true (by omega)
        obtain ⟨z, hz⟩ : ∃ z, lies[L]? = some z := ⟨_, List.getElem?_eq_getElem (by rw [Hl4.out]; omega)⟩
        obtain ⟨b4, o4, rfl, -, -⟩ := (H4.out _ hbx).at_ hz
        have HC4 : Hid (∀ W, BoxS w ⟨(N : Int), (F : Int), slot, gap, rho, dmin, dmax, margin, PA, pn, pcap, parts, QA, qn, qcap, ports, RA, rn, rcap, routes⟩ W → W.cell? ⟨b4, o4 + L, none⟩ = some (.int .i64 z)) := Lib.hid fun W hW => by
          obtain ⟨b', o', e', -, h9⟩ := (H4.out W hW).at_ hz
          cases e'
          exact h9
        obtain ⟨y, ey, hy1, hy2⟩ := tmodk z 1073741824 (by omega)
        have eY1 : wrap64 (z.tmod 1073741824) = y := by rw [ey]; exact IntWalk.wrap64_in _ (by omega)
        have eY2 : IntKind.i64.wrap (z.tmod 1073741824) = y := by rw [ey]; exact IntWalk.i64_in _ (by omega)
        have eY3 : IntKind.i64.wrap (at1 + y) = at1 + y := IntWalk.i64_in _ (by omega)
        have eY4 : wrap64 (at1 + z.tmod 1073741824) = at1 + y := by rw [ey]; exact IntWalk.wrap64_in _ (by omega)
        have eL1 : IntKind.i64.wrap ((L : Int) + 1) = (L : Int) + 1 := IntWalk.i64_in _ (by omega)
        obtain ⟨at2, hat2⟩ : ∃ a, at1 + y = a := ⟨_, rfl⟩
        have eY5 : wrap64 (at1 + y) = at2 := by rw [hat2]; exact IntWalk.wrap64_in _ (by omega)
        rw [hat2] at eY3 eY4
        have hsoon : PacQ.Soon (at2 - 1000) := by unfold PacQ.Soon; omega
        have hdl := ClkP.local_small (since := 1000) (rate := rate) (real := at2) (m := 1600000000) hrt (by omega) (by omega)
        have e9 : IntKind.i64.wrap (at2 + 5) = at2 + 5 := IntWalk.i64_in _ (by omega)
        have HH1 := Lib.hid (HHk.out at2 hsoon)
        have HLi := Lib.hid (HLie.out (ClkP.localT 1000 rate at2 - sd - mn) (by omega) (by omega))
        rw [HSk2] at HH1
        dsimp only at HH1
        generalize ClkP.localT 1000 rate at2 = lv at *
        have hg0 := HG.out.step (Below.refl _ _).drew
        have HG0 := Lib.hid HG.out
        clear HG HI HHk HRk HLk HSk2 HTell HLie hfar hsm hdl hsoon H3 H4 hbx hat hat2 hz
        go_wp2_with fail
        refine wp_region_held_drew (S := fun W => BoxS w ⟨(N : Int), (F : Int), slot, gap, rho, dmin, dmax, margin, PA, pn, pcap, parts, QA, qn, qcap, ports, RA, rn, rcap, routes⟩ W) (by kernel_rfl) hg0.box (fun _ => ?_)
        refine wpAnyH_take (i := 0) (oi := ?oo45) (v := ?vv45) ?ii45 (by kernel_rfl) ?ff45 (by kernel_rfl) ?qq45 (Or.inl ⟨?ww45, ?yy45⟩) hg0.box ?rr45
        case ii45 => simp only [List.getElem?_toArray, List.getElem?_cons_zero]; rfl
        case ff45 => kernel_rfl
        case qq45 => exact fun _ _ _ h => h
        case ww45 => rfl
        case yy45 => intro W hW; go_simp <;> with_reducible rfl
        try simp only [Act.put, List.setIfInBounds_toArray, List.set_cons_zero, List.set_cons_succ]
        refine wpAnyH_take (i := 1) (oi := ?oo46) (v := ?vv46) ?ii46 (by kernel_rfl) ?ff46 (by kernel_rfl) ?qq46 (Or.inl ⟨?ww46, ?yy46⟩) hg0.box ?rr46
        case ii46 => simp only [List.getElem?_toArray, List.getElem?_cons_succ, List.getElem?_cons_zero]; rfl
        case ff46 => kernel_rfl
        case qq46 => exact fun _ _ _ h => h
        case ww46 => rfl
        case yy46 => intro W hW; go_simp <;> with_reducible rfl
        try simp only [Act.put, List.setIfInBounds_toArray, List.set_cons_zero, List.set_cons_succ]
        refine wpAnyH_take (i := 2) (oi := ?oo47) (v := ?vv47) ?ii47 (by kernel_rfl) ?ff47 (by kernel_rfl) ?qq47 (Or.inl ⟨?ww47, ?yy47⟩) hg0.box ?rr47
        case ii47 => simp only [List.getElem?_toArray, List.getElem?_cons_succ, List.getElem?_cons_zero]; rfl
        case ff47 => kernel_rfl
        case qq47 => exact fun _ _ _ h => h
        case ww47 => rfl
        case yy47 => intro W hW; go_simp <;> with_reducible rfl
        try simp only [Act.put, List.setIfInBounds_toArray, List.set_cons_zero, List.set_cons_succ]
        refine wpAnyH_take (i := 4) (oi := ?oo48) (v := ?vv48) ?ii48 (by kernel_rfl) ?ff48 (by kernel_rfl) ?qq48 (Or.inl ⟨?ww48, ?yy48⟩) hg0.box ?rr48
        case ii48 => simp only [List.getElem?_toArray, List.getElem?_cons_succ, List.getElem?_cons_zero]; rfl
        case ff48 => kernel_rfl
        case qq48 => exact fun _ _ _ h => h
        case ww48 => rfl
        case yy48 => intro W hW; go_simp <;> with_reducible rfl
        try simp only [Act.put, List.setIfInBounds_toArray, List.set_cons_zero, List.set_cons_succ]
        refine wpAnyH_take (i := 7) (oi := ?oo49) (v := ?vv49) ?ii49 (by kernel_rfl) ?ff49 (by kernel_rfl) ?qq49 (Or.inl ⟨?ww49, ?yy49⟩) hg0.box ?rr49
        case ii49 => simp only [List.getElem?_toArray, List.getElem?_cons_succ, List.getElem?_cons_zero]; rfl
        case ff49 => kernel_rfl
        case qq49 => exact fun _ _ _ h => h
        case ww49 => rfl
        case yy49 => intro W hW; go_simp <;> with_reducible rfl
        try simp only [Act.put, List.setIfInBounds_toArray, List.set_cons_zero, List.set_cons_succ]
        refine wpAnyH_ready (rs := [3]) (by kernel_rfl) (by simp) ?_
        refine AllReadyH.cons (o := ?oo50) ?ii50 (fun K hK => ?_) AllReadyH.nil
        case ii50 => simp only [List.getElem?_toArray, List.getElem?_cons_succ, List.getElem?_cons_zero]; rfl
        go_simp
        refine (HSk.out _).mono ?_
        rintro e w4 ⟨rfl, hb4⟩
        have hg1 := hg0.step hb4
        clear hb4 hg0
        go_wp2_with fail
        refine hK.out _ _ hg1.box (fun _ => ?_)
        clear hK K
        refine wpAnyH_ready (rs := [5]) (by kernel_rfl) (by simp) ?_
        refine AllReadyH.cons (o := ?oo51) ?ii51 (fun K hK => ?_) AllReadyH.nil
        case ii51 => simp only [List.getElem?_toArray, List.getElem?_cons_succ, List.getElem?_cons_zero]; rfl
        go_simp
        refine (HMe.out _).mono ?_
        rintro e w5 ⟨rfl, hb5⟩
        have hg2 := hg1.step hb5
        clear hb5 hg1
        go_wp2_with fail
        refine hK.out _ _ hg2.box (fun _ => ?_)
        clear hK K
        refine wpAnyH_take (i := 6) (oi := ?oo52) (v := ?vv52) ?ii52 (by kernel_rfl) ?ff52 (by kernel_rfl) ?qq52 (Or.inl ⟨?ww52, ?yy52⟩) hg2.box ?rr52
        case ii52 => simp only [List.getElem?_toArray, List.getElem?_cons_succ, List.getElem?_cons_zero]; rfl
        case ff52 => kernel_rfl
        case qq52 => exact fun _ _ _ h => h
        case ww52 => rfl
        case yy52 => intro W hW; go_simp <;> with_reducible rfl
        try simp only [Act.put, List.setIfInBounds_toArray, List.set_cons_zero, List.set_cons_succ]
        refine wpAnyH_take (i := 8) (oi := ?oo53) (v := ?vv53) ?ii53 (by kernel_rfl) ?ff53 (by kernel_rfl) ?qq53 (Or.inl ⟨?ww53, ?yy53⟩) hg2.box ?rr53
        case ii53 => simp only [List.getElem?_toArray, List.getElem?_cons_succ, List.getElem?_cons_zero]; rfl
        case ff53 => kernel_rfl
        case qq53 => exact fun _ _ _ h => h
        case ww53 => rfl
        case yy53 => intro W hW; go_simp <;> with_reducible rfl
        try simp only [Act.put, List.setIfInBounds_toArray, List.set_cons_zero, List.set_cons_succ]
        refine wpAnyH_ready (rs := [9]) (by kernel_rfl) (by simp) ?_
        refine AllReadyH.cons (o := ?oo54) ?ii54 (fun K hK => ?_) AllReadyH.nil
        case ii54 => simp only [List.getElem?_toArray, List.getElem?_cons_succ, List.getElem?_cons_zero]; rfl
        go_simp
        refine (HR1.out _ hg2).mono ?_
        rintro e w6 ⟨rfl, m6, rfl⟩
        have hg3 := hg2.step (below_drewNc (Below.refl _ _) m6)
        clear hg2 HR1
        go_wp2_with fail
        refine hK.out _ _ hg3.box (fun _ => ?_)
        clear hK K
        refine wpAnyH_take (i := 10) (oi := ?oo55) (v := ?vv55) ?ii55 (by kernel_rfl) ?ff55 (by kernel_rfl) ?qq55 (Or.inl ⟨?ww55, ?yy55⟩) hg3.box ?rr55
        case ii55 => simp only [List.getElem?_toArray, List.getElem?_cons_succ, List.getElem?_cons_zero]; rfl
        case ff55 => kernel_rfl
        case qq55 => exact fun _ _ _ h => h
        case ww55 => rfl
        case yy55 => intro W hW; go_simp <;> with_reducible rfl
        try simp only [Act.put, List.setIfInBounds_toArray, List.set_cons_zero, List.set_cons_succ]
        refine wpAnyH_done (by kernel_rfl) ?_ _
        generalize w5.drewN m6 = w7 at *
        have k1 := d1 _ hg3.box
        have c4 := HC4.out _ hg3.box
        have HG3 := Lib.hid hg3
        clear hg3 HC4
        go_wp2_with fail
        simp only [eY5]
        refine (HH1.out _ HG3.out).mono ?_
        rintro e w11 ⟨rfl, hg7⟩
        have HG7 := Lib.hid hg7
        clear hg7 HG3 HH1 k1
        go_wp2_with fail
        refine (HAk.out _ _ _ HG7.out).mono ?_
        rintro e w12 ⟨rfl, hg8⟩
        have HF := Lib.hid (HLi.out _ hg8)
        clear hg8 HG7 HLi HAk
        go_wp2_with fail
        go_roundw
        case rel => exact HF.out
        case measure => simp [intOf]; omega
    case neg =>
      have q3 : decide ((k : Int) < (n3 : Int)) = false := decide_eq_false (by omega)
      have q3n : decide (k < n3) = false := decide_eq_false ho
      by_cases hq : L < F
      case neg =>
        have hfar : FarIn (sd + mn) := by unfold FarIn; omega
        obtain ⟨at1, hat⟩ : ∃ a, ClkP.realT 1000 rate (sd + mn) = a := ⟨_, rfl⟩
        have hsm := ClkP.real_small (since := 1000) (rate := rate) (loc := sd + mn) (m := 160000000) hrt (by omega) (by omega)
        rw [hat] at hsm
        have HR1 := Lib.hid (HRk.out (sd + mn) hfar)
        rw [hat] at HR1
        have q5 : decide ((L : Int) < (F : Int)) = false := decide_eq_false (by omega)
        have q5n : decide (L < F) = false := decide_eq_false (by omega)
        have hsoon : PacQ.Soon (at1 - 1000) := by unfold PacQ.Soon; omega
        have hfar2 : FarIn (at1 - 1000) := by unfold FarIn; omega
        have hdl := ClkP.local_small (since := 1000) (rate := rate) (real := at1) (m := 1600000000) hrt (by omega) (by omega)
        have e9 : IntKind.i64.wrap (at1 + 5) = at1 + 5 := IntWalk.i64_in _ (by omega)
        have HH1 := Lib.hid (HHk.out at1 hsoon)
        have HL1 := Lib.hid (HLk.out at1 hfar2)
        rw [HSk2] at HH1
        dsimp only at HH1
        generalize ClkP.localT 1000 rate at1 = lv at *
        have f1 : IntKind.i64.wrap (lv - sd) = lv - sd := IntWalk.i64_in _ (by omega)
        have f2 : IntKind.i64.wrap (lv - sd - mn) = lv - sd - mn := IntWalk.i64_in _ (by omega)
        obtain ⟨lo2, hn1, hn2, hn3, hn4⟩ := minP lo (lv - sd - mn)
        obtain ⟨hi2, hx1, hx2, hx3, hx4⟩ := maxP hi (lv - sd - mn)
        have gmn : ∀ (W : World) ts t, (Builtin.min_ ts t #[.int .i64 lo, .int .i64 (lv - sd - mn)]).run Try.prog W = .ok (.int .i64 lo2) W := fun W ts t => by rw [run_min_int2, hn2]
        have gmx : ∀ (W : World) ts t, (Builtin.max_ ts t #[.int .i64 hi, .int .i64 (lv - sd - mn)]).run Try.prog W = .ok (.int .i64 hi2) W := fun W ts t => by rw [run_max_int2, hx2]
        have HLi := Lib.hid (HTell.out (lv - sd - mn) lo2 hi2 (by omega) ⟨hn3, hn4⟩ ⟨hx3, hx4⟩)
        have hg0 := HG.out.step (Below.refl _ _).drew
        have HG0 := Lib.hid HG.out
        clear HG HI HHk HRk HLk HSk2 HTell HLie hfar hsm hdl hsoon H3 H4 hbx hat hfar2 hn1 hn2 hn3 hn4 hx1 hx2 hx3 hx4
        go_wp2_with fail
        refine wp_region_held_drew (S := fun W => BoxS w ⟨(N : Int), (F : Int), slot, gap, rho, dmin, dmax, margin, PA, pn, pcap, parts, QA, qn, qcap, ports, RA, rn, rcap, routes⟩ W) (by kernel_rfl) hg0.box (fun _ => ?_)
        refine wpAnyH_take (i := 0) (oi := ?oo56) (v := ?vv56) ?ii56 (by kernel_rfl) ?ff56 (by kernel_rfl) ?qq56 (Or.inl ⟨?ww56, ?yy56⟩) hg0.box ?rr56
        case ii56 => simp only [List.getElem?_toArray, List.getElem?_cons_zero]; rfl
        case ff56 => kernel_rfl
        case qq56 => exact fun _ _ _ h => h
        case ww56 => rfl
        case yy56 => intro W hW; go_simp <;> with_reducible rfl
        try simp only [Act.put, List.setIfInBounds_toArray, List.set_cons_zero, List.set_cons_succ]
        refine wpAnyH_take (i := 1) (oi := ?oo57) (v := ?vv57) ?ii57 (by kernel_rfl) ?ff57 (by kernel_rfl) ?qq57 (Or.inl ⟨?ww57, ?yy57⟩) hg0.box ?rr57
        case ii57 => simp only [List.getElem?_toArray, List.getElem?_cons_succ, List.getElem?_cons_zero]; rfl
        case ff57 => kernel_rfl
        case qq57 => exact fun _ _ _ h => h
        case ww57 => rfl
        case yy57 => intro W hW; go_simp <;> with_reducible rfl
        try simp only [Act.put, List.setIfInBounds_toArray, List.set_cons_zero, List.set_cons_succ]
        refine wpAnyH_take (i := 2) (oi := ?oo58) (v := ?vv58) ?ii58 (by kernel_rfl) ?ff58 (by kernel_rfl) ?qq58 (Or.inl ⟨?ww58, ?yy58⟩) hg0.box ?rr58
        case ii58 => simp only [List.getElem?_toArray, List.getElem?_cons_succ, List.getElem?_cons_zero]; rfl
        case ff58 => kernel_rfl
        case qq58 => exact fun _ _ _ h => h
        case ww58 => rfl
        case yy58 => intro W hW; go_simp <;> with_reducible rfl
        try simp only [Act.put, List.setIfInBounds_toArray, List.set_cons_zero, List.set_cons_succ]
        refine wpAnyH_take (i := 4) (oi := ?oo59) (v := ?vv59) ?ii59 (by kernel_rfl) ?ff59 (by kernel_rfl) ?qq59 (Or.inl ⟨?ww59, ?yy59⟩) hg0.box ?rr59
        case ii59 => simp only [List.getElem?_toArray, List.getElem?_cons_succ, List.getElem?_cons_zero]; rfl
        case ff59 => kernel_rfl
        case qq59 => exact fun _ _ _ h => h
        case ww59 => rfl
        case yy59 => intro W hW; go_simp <;> with_reducible rfl
        try simp only [Act.put, List.setIfInBounds_toArray, List.set_cons_zero, List.set_cons_succ]
        refine wpAnyH_take (i := 7) (oi := ?oo60) (v := ?vv60) ?ii60 (by kernel_rfl) ?ff60 (by kernel_rfl) ?qq60 (Or.inl ⟨?ww60, ?yy60⟩) hg0.box ?rr60
        case ii60 => simp only [List.getElem?_toArray, List.getElem?_cons_succ, List.getElem?_cons_zero]; rfl
        case ff60 => kernel_rfl
        case qq60 => exact fun _ _ _ h => h
        case ww60 => rfl
        case yy60 => intro W hW; go_simp <;> with_reducible rfl
        try simp only [Act.put, List.setIfInBounds_toArray, List.set_cons_zero, List.set_cons_succ]
        refine wpAnyH_ready (rs := [3]) (by kernel_rfl) (by simp) ?_
        refine AllReadyH.cons (o := ?oo61) ?ii61 (fun K hK => ?_) AllReadyH.nil
        case ii61 => simp only [List.getElem?_toArray, List.getElem?_cons_succ, List.getElem?_cons_zero]; rfl
        go_simp
        refine (HSk.out _).mono ?_
        rintro e w4 ⟨rfl, hb4⟩
        have hg1 := hg0.step hb4
        clear hb4 hg0
        go_wp2_with fail
        refine hK.out _ _ hg1.box (fun _ => ?_)
        clear hK K
        refine wpAnyH_ready (rs := [5]) (by kernel_rfl) (by simp) ?_
        refine AllReadyH.cons (o := ?oo62) ?ii62 (fun K hK => ?_) AllReadyH.nil
        case ii62 => simp only [List.getElem?_toArray, List.getElem?_cons_succ, List.getElem?_cons_zero]; rfl
        go_simp
        refine (HMe.out _).mono ?_
        rintro e w5 ⟨rfl, hb5⟩
        have hg2 := hg1.step hb5
        clear hb5 hg1
        go_wp2_with fail
        refine hK.out _ _ hg2.box (fun _ => ?_)
        clear hK K
        refine wpAnyH_take (i := 6) (oi := ?oo63) (v := ?vv63) ?ii63 (by kernel_rfl) ?ff63 (by kernel_rfl) ?qq63 (Or.inl ⟨?ww63, ?yy63⟩) hg2.box ?rr63
        case ii63 => simp only [List.getElem?_toArray, List.getElem?_cons_succ, List.getElem?_cons_zero]; rfl
        case ff63 => kernel_rfl
        case qq63 => exact fun _ _ _ h => h
        case ww63 => rfl
        case yy63 => intro W hW; go_simp <;> with_reducible rfl
        try simp only [Act.put, List.setIfInBounds_toArray, List.set_cons_zero, List.set_cons_succ]
        refine wpAnyH_take (i := 8) (oi := ?oo64) (v := ?vv64) ?ii64 (by kernel_rfl) ?ff64 (by kernel_rfl) ?qq64 (Or.inl ⟨?ww64, ?yy64⟩) hg2.box ?rr64
        case ii64 => simp only [List.getElem?_toArray, List.getElem?_cons_succ, List.getElem?_cons_zero]; rfl
        case ff64 => kernel_rfl
        case qq64 => exact fun _ _ _ h => h
        case ww64 => rfl
        case yy64 => intro W hW; go_simp <;> with_reducible rfl
        try simp only [Act.put, List.setIfInBounds_toArray, List.set_cons_zero, List.set_cons_succ]
        refine wpAnyH_ready (rs := [9]) (by kernel_rfl) (by simp) ?_
        refine AllReadyH.cons (o := ?oo65) ?ii65 (fun K hK => ?_) AllReadyH.nil
        case ii65 => simp only [List.getElem?_toArray, List.getElem?_cons_succ, List.getElem?_cons_zero]; rfl
        go_simp
        refine (HR1.out _ hg2).mono ?_
        rintro e w6 ⟨rfl, m6, rfl⟩
        have hg3 := hg2.step (below_drewNc (Below.refl _ _) m6)
        clear hg2 HR1
        go_wp2_with fail
        refine hK.out _ _ hg3.box (fun _ => ?_)
        clear hK K
        refine wpAnyH_take (i := 10) (oi := ?oo66) (v := ?vv66) ?ii66 (by kernel_rfl) ?ff66 (by kernel_rfl) ?qq66 (Or.inl ⟨?ww66, ?yy66⟩) hg3.box ?rr66
        case ii66 => simp only [List.getElem?_toArray, List.getElem?_cons_succ, List.getElem?_cons_zero]; rfl
        case ff66 => kernel_rfl
        case qq66 => exact fun _ _ _ h => h
        case ww66 => rfl
        case yy66 => intro W hW; go_simp <;> with_reducible rfl
        try simp only [Act.put, List.setIfInBounds_toArray, List.set_cons_zero, List.set_cons_succ]
        refine wpAnyH_done (by kernel_rfl) ?_ _
        generalize w5.drewN m6 = w7 at *
        have k1 := d1 _ hg3.box
        have hgq := hg3.step (Below.refl _ _).drew
        clear hg3
        go_wp2_with fail
        refine wp_region_held_drew (S := fun W => BoxS w ⟨(N : Int), (F : Int), slot, gap, rho, dmin, dmax, margin, PA, pn, pcap, parts, QA, qn, qcap, ports, RA, rn, rcap, routes⟩ W) (by kernel_rfl) hgq.box (fun _ => ?_)
        generalize w7.drew = w8 at *
        refine wpAnyH_take (i := 0) (oi := ?oo67) (v := ?vv67) ?ii67 (by kernel_rfl) ?ff67 (by kernel_rfl) ?qq67 (Or.inl ⟨?ww67, ?yy67⟩) hgq.box ?rr67
        case ii67 => simp only [List.getElem?_toArray, List.getElem?_cons_zero]; rfl
        case ff67 => kernel_rfl
        case qq67 => exact fun _ _ _ h => h
        case ww67 => rfl
        case yy67 => intro W hW; go_simp <;> with_reducible rfl
        try simp only [Act.put, List.setIfInBounds_toArray, List.set_cons_zero, List.set_cons_succ]
        refine wpAnyH_take (i := 1) (oi := ?oo68) (v := ?vv68) ?ii68 (by kernel_rfl) ?ff68 (by kernel_rfl) ?qq68 (Or.inl ⟨?ww68, ?yy68⟩) hgq.box ?rr68
        case ii68 => simp only [List.getElem?_toArray, List.getElem?_cons_succ, List.getElem?_cons_zero]; rfl
        case ff68 => kernel_rfl
        case qq68 => exact fun _ _ _ h => h
        case ww68 => rfl
        case yy68 => intro W hW; go_simp <;> with_reducible rfl
        try simp only [Act.put, List.setIfInBounds_toArray, List.set_cons_zero, List.set_cons_succ]
        refine wpAnyH_take (i := 3) (oi := ?oo69) (v := ?vv69) ?ii69 (by kernel_rfl) ?ff69 (by kernel_rfl) ?qq69 (Or.inl ⟨?ww69, ?yy69⟩) hgq.box ?rr69
        case ii69 => simp only [List.getElem?_toArray, List.getElem?_cons_succ, List.getElem?_cons_zero]; rfl
        case ff69 => kernel_rfl
        case qq69 => exact fun _ _ _ h => h
        case ww69 => rfl
        case yy69 => intro W hW; go_simp <;> with_reducible rfl
        try simp only [Act.put, List.setIfInBounds_toArray, List.set_cons_zero, List.set_cons_succ]
        refine wpAnyH_take (i := 4) (oi := ?oo70) (v := ?vv70) ?ii70 (by kernel_rfl) ?ff70 (by kernel_rfl) ?qq70 (Or.inl ⟨?ww70, ?yy70⟩) hgq.box ?rr70
        case ii70 => simp only [List.getElem?_toArray, List.getElem?_cons_succ, List.getElem?_cons_zero]; rfl
        case ff70 => kernel_rfl
        case qq70 => exact fun _ _ _ h => h
        case ww70 => rfl
        case yy70 => intro W hW; go_simp <;> with_reducible rfl
        try simp only [Act.put, List.setIfInBounds_toArray, List.set_cons_zero, List.set_cons_succ]
        refine wpAnyH_take (i := 7) (oi := ?oo71) (v := ?vv71) ?ii71 (by kernel_rfl) ?ff71 (by kernel_rfl) ?qq71 (Or.inl ⟨?ww71, ?yy71⟩) hgq.box ?rr71
        case ii71 => simp only [List.getElem?_toArray, List.getElem?_cons_succ, List.getElem?_cons_zero]; rfl
        case ff71 => kernel_rfl
        case qq71 => exact fun _ _ _ h => h
        case ww71 => rfl
        case yy71 => intro W hW; go_simp <;> with_reducible rfl
        try simp only [Act.put, List.setIfInBounds_toArray, List.set_cons_zero, List.set_cons_succ]
        refine wpAnyH_ready (rs := [2]) (by kernel_rfl) (by simp) ?_
        refine AllReadyH.cons (o := ?oo72) ?ii72 (fun K hK => ?_) AllReadyH.nil
        case ii72 => simp only [List.getElem?_toArray, List.getElem?_cons_succ, List.getElem?_cons_zero]; rfl
        go_simp
        refine (HL1.out _ hgq).mono ?_
        rintro e w80 ⟨rfl, m8, rfl⟩
        have hg4 := hgq.step (below_drewNc (Below.refl _ _) m8)
        clear hgq HL1
        go_wp2_with fail
        refine hK.out _ _ hg4.box (fun _ => ?_)
        clear hK K
        refine wpAnyH_ready (rs := [5]) (by kernel_rfl) (by simp) ?_
        refine AllReadyH.cons (o := ?oo73) ?ii73 (fun K hK => ?_) AllReadyH.nil
        case ii73 => simp only [List.getElem?_toArray, List.getElem?_cons_succ, List.getElem?_cons_zero]; rfl
        go_simp
        refine (HSk.out _).mono ?_
        rintro e w9 ⟨rfl, hb9⟩
        have hg5 := hg4.step hb9
        clear hb9 hg4
        go_wp2_with fail
        refine hK.out _ _ hg5.box (fun _ => ?_)
        clear hK K
        refine wpAnyH_take (i := 6) (oi := ?oo74) (v := ?vv74) ?ii74 (by kernel_rfl) ?ff74 (by kernel_rfl) ?qq74 (Or.inl ⟨?ww74, ?yy74⟩) hg5.box ?rr74
        case ii74 => simp only [List.getElem?_toArray, List.getElem?_cons_succ, List.getElem?_cons_zero]; rfl
        case ff74 => kernel_rfl
        case qq74 => exact fun _ _ _ h => h
        case ww74 => rfl
        case yy74 => intro W hW; go_simp <;> with_reducible rfl
        try simp only [Act.put, List.setIfInBounds_toArray, List.set_cons_zero, List.set_cons_succ]
        refine wpAnyH_ready (rs := [8]) (by kernel_rfl) (by simp) ?_
        refine AllReadyH.cons (o := ?oo75) ?ii75 (fun K hK => ?_) AllReadyH.nil
        case ii75 => simp only [List.getElem?_toArray, List.getElem?_cons_succ, List.getElem?_cons_zero]; rfl
        go_simp
        refine (HMe.out _).mono ?_
        rintro e w10 ⟨rfl, hb10⟩
        have hg6 := hg5.step hb10
        clear hb10 hg5
        go_wp2_with fail
        refine hK.out _ _ hg6.box (fun _ => ?_)
        clear hK K
        refine wpAnyH_take (i := 9) (oi := ?oo76) (v := ?vv76) ?ii76 (by kernel_rfl) ?ff76 (by kernel_rfl) ?qq76 (Or.inl ⟨?ww76, ?yy76⟩) hg6.box ?rr76
        case ii76 => simp only [List.getElem?_toArray, List.getElem?_cons_succ, List.getElem?_cons_zero]; rfl
        case ff76 => kernel_rfl
        case qq76 => exact fun _ _ _ h => h
        case ww76 => rfl
        case yy76 => intro W hW; go_simp <;> with_reducible rfl
        try simp only [Act.put, List.setIfInBounds_toArray, List.set_cons_zero, List.set_cons_succ]
        refine wpAnyH_take (i := 10) (oi := ?oo77) (v := ?vv77) ?ii77 (by kernel_rfl) ?ff77 (by kernel_rfl) ?qq77 (Or.inl ⟨?ww77, ?yy77⟩) hg6.box ?rr77
        case ii77 => simp only [List.getElem?_toArray, List.getElem?_cons_succ, List.getElem?_cons_zero]; rfl
        case ff77 => kernel_rfl
        case qq77 => exact fun _ _ _ h => h
        case ww77 => rfl
        case yy77 => intro W hW; go_simp <;> with_reducible rfl
        try simp only [Act.put, List.setIfInBounds_toArray, List.set_cons_zero, List.set_cons_succ]
        refine wpAnyH_done (by kernel_rfl) ?_ _
        have HG3 := Lib.hid hg6
        clear hg6
        go_wp2_with fail
        refine (HH1.out _ HG3.out).mono ?_
        rintro e w11 ⟨rfl, hg7⟩
        have HG7 := Lib.hid hg7
        clear hg7 HG3 HH1 k1
        go_wp2_with fail
        refine (HAk.out _ _ _ HG7.out).mono ?_
        rintro e w12 ⟨rfl, hg8⟩
        have HF := Lib.hid (HLi.out _ hg8)
        clear hg8 HG7 HLi HAk
        go_wp2_with fail
        go_roundw
        case rel => exact HF.out
        case measure => simp [intOf]; omega
      by_cases hq2 : L < n4
      case neg =>
        have hfar : FarIn (sd + mn) := by unfold FarIn; omega
        obtain ⟨at1, hat⟩ : ∃ a, ClkP.realT 1000 rate (sd + mn) = a := ⟨_, rfl⟩
        have hsm := ClkP.real_small (since := 1000) (rate := rate) (loc := sd + mn) (m := 160000000) hrt (by omega) (by omega)
        rw [hat] at hsm
        have HR1 := Lib.hid (HRk.out (sd + mn) hfar)
        rw [hat] at HR1
        have q5 : decide ((L : Int) < (F : Int)) = true := decide_eq_true (by omega)
        have q5n : decide (L < F) = true := decide_eq_true (by omega)
        have q6 : decide ((L : Int) < (n4 : Int)) = false := decide_eq_false (by omega)
        have q6n : decide (L < n4) = false := decide_eq_false (by omega)
        have hsoon : PacQ.Soon (at1 - 1000) := by unfold PacQ.Soon; omega
        have hfar2 : FarIn (at1 - 1000) := by unfold FarIn; omega
        have hdl := ClkP.local_small (since := 1000) (rate := rate) (real := at1) (m := 1600000000) hrt (by omega) (by omega)
        have e9 : IntKind.i64.wrap (at1 + 5) = at1 + 5 := IntWalk.i64_in _ (by omega)
        have HH1 := Lib.hid (HHk.out at1 hsoon)
        have HL1 := Lib.hid (HLk.out at1 hfar2)
        rw [HSk2] at HH1
        dsimp only at HH1
        generalize ClkP.localT 1000 rate at1 = lv at *
        have f1 : IntKind.i64.wrap (lv - sd) = lv - sd := IntWalk.i64_in _ (by omega)
        have f2 : IntKind.i64.wrap (lv - sd - mn) = lv - sd - mn := IntWalk.i64_in _ (by omega)
        obtain ⟨lo2, hn1, hn2, hn3, hn4⟩ := minP lo (lv - sd - mn)
        obtain ⟨hi2, hx1, hx2, hx3, hx4⟩ := maxP hi (lv - sd - mn)
        have gmn : ∀ (W : World) ts t, (Builtin.min_ ts t #[.int .i64 lo, .int .i64 (lv - sd - mn)]).run Try.prog W = .ok (.int .i64 lo2) W := fun W ts t => by rw [run_min_int2, hn2]
        have gmx : ∀ (W : World) ts t, (Builtin.max_ ts t #[.int .i64 hi, .int .i64 (lv - sd - mn)]).run Try.prog W = .ok (.int .i64 hi2) W := fun W ts t => by rw [run_max_int2, hx2]
        have HLi := Lib.hid (HTell.out (lv - sd - mn) lo2 hi2 (by omega) ⟨hn3, hn4⟩ ⟨hx3, hx4⟩)
        have hg0 := HG.out.step (Below.refl _ _).drew
        have HG0 := Lib.hid HG.out
        clear HG HI HHk HRk HLk HSk2 HTell HLie hfar hsm hdl hsoon H3 H4 hbx hat hfar2 hn1 hn2 hn3 hn4 hx1 hx2 hx3 hx4
        go_wp2_with fail
        refine wp_region_held_drew (S := fun W => BoxS w ⟨(N : Int), (F : Int), slot, gap, rho, dmin, dmax, margin, PA, pn, pcap, parts, QA, qn, qcap, ports, RA, rn, rcap, routes⟩ W) (by kernel_rfl) hg0.box (fun _ => ?_)
        refine wpAnyH_take (i := 0) (oi := ?oo78) (v := ?vv78) ?ii78 (by kernel_rfl) ?ff78 (by kernel_rfl) ?qq78 (Or.inl ⟨?ww78, ?yy78⟩) hg0.box ?rr78
        case ii78 => simp only [List.getElem?_toArray, List.getElem?_cons_zero]; rfl
        case ff78 => kernel_rfl
        case qq78 => exact fun _ _ _ h => h
        case ww78 => rfl
        case yy78 => intro W hW; go_simp <;> with_reducible rfl
        try simp only [Act.put, List.setIfInBounds_toArray, List.set_cons_zero, List.set_cons_succ]
        refine wpAnyH_take (i := 1) (oi := ?oo79) (v := ?vv79) ?ii79 (by kernel_rfl) ?ff79 (by kernel_rfl) ?qq79 (Or.inl ⟨?ww79, ?yy79⟩) hg0.box ?rr79
        case ii79 => simp only [List.getElem?_toArray, List.getElem?_cons_succ, List.getElem?_cons_zero]; rfl
        case ff79 => kernel_rfl
        case qq79 => exact fun _ _ _ h => h
        case ww79 => rfl
        case yy79 => intro W hW; go_simp <;> with_reducible rfl
        try simp only [Act.put, List.setIfInBounds_toArray, List.set_cons_zero, List.set_cons_succ]
        refine wpAnyH_take (i := 2) (oi := ?oo80) (v := ?vv80) ?ii80 (by kernel_rfl) ?ff80 (by kernel_rfl) ?qq80 (Or.inl ⟨?ww80, ?yy80⟩) hg0.box ?rr80
        case ii80 => simp only [List.getElem?_toArray, List.getElem?_cons_succ, List.getElem?_cons_zero]; rfl
        case ff80 => kernel_rfl
        case qq80 => exact fun _ _ _ h => h
        case ww80 => rfl
        case yy80 => intro W hW; go_simp <;> with_reducible rfl
        try simp only [Act.put, List.setIfInBounds_toArray, List.set_cons_zero, List.set_cons_succ]
        refine wpAnyH_take (i := 4) (oi := ?oo81) (v := ?vv81) ?ii81 (by kernel_rfl) ?ff81 (by kernel_rfl) ?qq81 (Or.inl ⟨?ww81, ?yy81⟩) hg0.box ?rr81
        case ii81 => simp only [List.getElem?_toArray, List.getElem?_cons_succ, List.getElem?_cons_zero]; rfl
        case ff81 => kernel_rfl
        case qq81 => exact fun _ _ _ h => h
        case ww81 => rfl
        case yy81 => intro W hW; go_simp <;> with_reducible rfl
        try simp only [Act.put, List.setIfInBounds_toArray, List.set_cons_zero, List.set_cons_succ]
        refine wpAnyH_take (i := 7) (oi := ?oo82) (v := ?vv82) ?ii82 (by kernel_rfl) ?ff82 (by kernel_rfl) ?qq82 (Or.inl ⟨?ww82, ?yy82⟩) hg0.box ?rr82
        case ii82 => simp only [List.getElem?_toArray, List.getElem?_cons_succ, List.getElem?_cons_zero]; rfl
        case ff82 => kernel_rfl
        case qq82 => exact fun _ _ _ h => h
        case ww82 => rfl
        case yy82 => intro W hW; go_simp <;> with_reducible rfl
        try simp only [Act.put, List.setIfInBounds_toArray, List.set_cons_zero, List.set_cons_succ]
        refine wpAnyH_ready (rs := [3]) (by kernel_rfl) (by simp) ?_
        refine AllReadyH.cons (o := ?oo83) ?ii83 (fun K hK => ?_) AllReadyH.nil
        case ii83 => simp only [List.getElem?_toArray, List.getElem?_cons_succ, List.getElem?_cons_zero]; rfl
        go_simp
        refine (HSk.out _).mono ?_
        rintro e w4 ⟨rfl, hb4⟩
        have hg1 := hg0.step hb4
        clear hb4 hg0
        go_wp2_with fail
        refine hK.out _ _ hg1.box (fun _ => ?_)
        clear hK K
        refine wpAnyH_ready (rs := [5]) (by kernel_rfl) (by simp) ?_
        refine AllReadyH.cons (o := ?oo84) ?ii84 (fun K hK => ?_) AllReadyH.nil
        case ii84 => simp only [List.getElem?_toArray, List.getElem?_cons_succ, List.getElem?_cons_zero]; rfl
        go_simp
        refine (HMe.out _).mono ?_
        rintro e w5 ⟨rfl, hb5⟩
        have hg2 := hg1.step hb5
        clear hb5 hg1
        go_wp2_with fail
        refine hK.out _ _ hg2.box (fun _ => ?_)
        clear hK K
        refine wpAnyH_take (i := 6) (oi := ?oo85) (v := ?vv85) ?ii85 (by kernel_rfl) ?ff85 (by kernel_rfl) ?qq85 (Or.inl ⟨?ww85, ?yy85⟩) hg2.box ?rr85
        case ii85 => simp only [List.getElem?_toArray, List.getElem?_cons_succ, List.getElem?_cons_zero]; rfl
        case ff85 => kernel_rfl
        case qq85 => exact fun _ _ _ h => h
        case ww85 => rfl
        case yy85 => intro W hW; go_simp <;> with_reducible rfl
        try simp only [Act.put, List.setIfInBounds_toArray, List.set_cons_zero, List.set_cons_succ]
        refine wpAnyH_take (i := 8) (oi := ?oo86) (v := ?vv86) ?ii86 (by kernel_rfl) ?ff86 (by kernel_rfl) ?qq86 (Or.inl ⟨?ww86, ?yy86⟩) hg2.box ?rr86
        case ii86 => simp only [List.getElem?_toArray, List.getElem?_cons_succ, List.getElem?_cons_zero]; rfl
        case ff86 => kernel_rfl
        case qq86 => exact fun _ _ _ h => h
        case ww86 => rfl
        case yy86 => intro W hW; go_simp <;> with_reducible rfl
        try simp only [Act.put, List.setIfInBounds_toArray, List.set_cons_zero, List.set_cons_succ]
        refine wpAnyH_ready (rs := [9]) (by kernel_rfl) (by simp) ?_
        refine AllReadyH.cons (o := ?oo87) ?ii87 (fun K hK => ?_) AllReadyH.nil
        case ii87 => simp only [List.getElem?_toArray, List.getElem?_cons_succ, List.getElem?_cons_zero]; rfl
        go_simp
        refine (HR1.out _ hg2).mono ?_
        rintro e w6 ⟨rfl, m6, rfl⟩
        have hg3 := hg2.step (below_drewNc (Below.refl _ _) m6)
        clear hg2 HR1
        go_wp2_with fail
        refine hK.out _ _ hg3.box (fun _ => ?_)
        clear hK K
        refine wpAnyH_take (i := 10) (oi := ?oo88) (v := ?vv88) ?ii88 (by kernel_rfl) ?ff88 (by kernel_rfl) ?qq88 (Or.inl ⟨?ww88, ?yy88⟩) hg3.box ?rr88
        case ii88 => simp only [List.getElem?_toArray, List.getElem?_cons_succ, List.getElem?_cons_zero]; rfl
        case ff88 => kernel_rfl
        case qq88 => exact fun _ _ _ h => h
        case ww88 => rfl
        case yy88 => intro W hW; go_simp <;> with_reducible rfl
        try simp only [Act.put, List.setIfInBounds_toArray, List.set_cons_zero, List.set_cons_succ]
        refine wpAnyH_done (by kernel_rfl) ?_ _
        generalize w5.drewN m6 = w7 at *
        have k1 := d1 _ hg3.box
        have hgq := hg3.step (Below.refl _ _).drew
        clear hg3
        go_wp2_with fail
        refine wp_region_held_drew (S := fun W => BoxS w ⟨(N : Int), (F : Int), slot, gap, rho, dmin, dmax, margin, PA, pn, pcap, parts, QA, qn, qcap, ports, RA, rn, rcap, routes⟩ W) (by kernel_rfl) hgq.box (fun _ => ?_)
        generalize w7.drew = w8 at *
        refine wpAnyH_take (i := 0) (oi := ?oo89) (v := ?vv89) ?ii89 (by kernel_rfl) ?ff89 (by kernel_rfl) ?qq89 (Or.inl ⟨?ww89, ?yy89⟩) hgq.box ?rr89
        case ii89 => simp only [List.getElem?_toArray, List.getElem?_cons_zero]; rfl
        case ff89 => kernel_rfl
        case qq89 => exact fun _ _ _ h => h
        case ww89 => rfl
        case yy89 => intro W hW; go_simp <;> with_reducible rfl
        try simp only [Act.put, List.setIfInBounds_toArray, List.set_cons_zero, List.set_cons_succ]
        refine wpAnyH_take (i := 1) (oi := ?oo90) (v := ?vv90) ?ii90 (by kernel_rfl) ?ff90 (by kernel_rfl) ?qq90 (Or.inl ⟨?ww90, ?yy90⟩) hgq.box ?rr90
        case ii90 => simp only [List.getElem?_toArray, List.getElem?_cons_succ, List.getElem?_cons_zero]; rfl
        case ff90 => kernel_rfl
        case qq90 => exact fun _ _ _ h => h
        case ww90 => rfl
        case yy90 => intro W hW; go_simp <;> with_reducible rfl
        try simp only [Act.put, List.setIfInBounds_toArray, List.set_cons_zero, List.set_cons_succ]
        refine wpAnyH_take (i := 3) (oi := ?oo91) (v := ?vv91) ?ii91 (by kernel_rfl) ?ff91 (by kernel_rfl) ?qq91 (Or.inl ⟨?ww91, ?yy91⟩) hgq.box ?rr91
        case ii91 => simp only [List.getElem?_toArray, List.getElem?_cons_succ, List.getElem?_cons_zero]; rfl
        case ff91 => kernel_rfl
        case qq91 => exact fun _ _ _ h => h
        case ww91 => rfl
        case yy91 => intro W hW; go_simp <;> with_reducible rfl
        try simp only [Act.put, List.setIfInBounds_toArray, List.set_cons_zero, List.set_cons_succ]
        refine wpAnyH_take (i := 4) (oi := ?oo92) (v := ?vv92) ?ii92 (by kernel_rfl) ?ff92 (by kernel_rfl) ?qq92 (Or.inl ⟨?ww92, ?yy92⟩) hgq.box ?rr92
        case ii92 => simp only [List.getElem?_toArray, List.getElem?_cons_succ, List.getElem?_cons_zero]; rfl
        case ff92 => kernel_rfl
        case qq92 => exact fun _ _ _ h => h
        case ww92 => rfl
        case yy92 => intro W hW; go_simp <;> with_reducible rfl
        try simp only [Act.put, List.setIfInBounds_toArray, List.set_cons_zero, List.set_cons_succ]
        refine wpAnyH_take (i := 7) (oi := ?oo93) (v := ?vv93) ?ii93 (by kernel_rfl) ?ff93 (by kernel_rfl) ?qq93 (Or.inl ⟨?ww93, ?yy93⟩) hgq.box ?rr93
        case ii93 => simp only [List.getElem?_toArray, List.getElem?_cons_succ, List.getElem?_cons_zero]; rfl
        case ff93 => kernel_rfl
        case qq93 => exact fun _ _ _ h => h
        case ww93 => rfl
        case yy93 => intro W hW; go_simp <;> with_reducible rfl
        try simp only [Act.put, List.setIfInBounds_toArray, List.set_cons_zero, List.set_cons_succ]
        refine wpAnyH_ready (rs := [2]) (by kernel_rfl) (by simp) ?_
        refine AllReadyH.cons (o := ?oo94) ?ii94 (fun K hK => ?_) AllReadyH.nil
        case ii94 => simp only [List.getElem?_toArray, List.getElem?_cons_succ, List.getElem?_cons_zero]; rfl
        go_simp
        refine (HL1.out _ hgq).mono ?_
        rintro e w80 ⟨rfl, m8, rfl⟩
        have hg4 := hgq.step (below_drewNc (Below.refl _ _) m8)
        clear hgq HL1
        go_wp2_with fail
        refine hK.out _ _ hg4.box (fun _ => ?_)
        clear hK K
        refine wpAnyH_ready (rs := [5]) (by kernel_rfl) (by simp) ?_
        refine AllReadyH.cons (o := ?oo95) ?ii95 (fun K hK => ?_) AllReadyH.nil
        case ii95 => simp only [List.getElem?_toArray, List.getElem?_cons_succ, List.getElem?_cons_zero]; rfl
        go_simp
        refine (HSk.out _).mono ?_
        rintro e w9 ⟨rfl, hb9⟩
        have hg5 := hg4.step hb9
        clear hb9 hg4
        go_wp2_with fail
        refine hK.out _ _ hg5.box (fun _ => ?_)
        clear hK K
        refine wpAnyH_take (i := 6) (oi := ?oo96) (v := ?vv96) ?ii96 (by kernel_rfl) ?ff96 (by kernel_rfl) ?qq96 (Or.inl ⟨?ww96, ?yy96⟩) hg5.box ?rr96
        case ii96 => simp only [List.getElem?_toArray, List.getElem?_cons_succ, List.getElem?_cons_zero]; rfl
        case ff96 => kernel_rfl
        case qq96 => exact fun _ _ _ h => h
        case ww96 => rfl
        case yy96 => intro W hW; go_simp <;> with_reducible rfl
        try simp only [Act.put, List.setIfInBounds_toArray, List.set_cons_zero, List.set_cons_succ]
        refine wpAnyH_ready (rs := [8]) (by kernel_rfl) (by simp) ?_
        refine AllReadyH.cons (o := ?oo97) ?ii97 (fun K hK => ?_) AllReadyH.nil
        case ii97 => simp only [List.getElem?_toArray, List.getElem?_cons_succ, List.getElem?_cons_zero]; rfl
        go_simp
        refine (HMe.out _).mono ?_
        rintro e w10 ⟨rfl, hb10⟩
        have hg6 := hg5.step hb10
        clear hb10 hg5
        go_wp2_with fail
        refine hK.out _ _ hg6.box (fun _ => ?_)
        clear hK K
        refine wpAnyH_take (i := 9) (oi := ?oo98) (v := ?vv98) ?ii98 (by kernel_rfl) ?ff98 (by kernel_rfl) ?qq98 (Or.inl ⟨?ww98, ?yy98⟩) hg6.box ?rr98
        case ii98 => simp only [List.getElem?_toArray, List.getElem?_cons_succ, List.getElem?_cons_zero]; rfl
        case ff98 => kernel_rfl
        case qq98 => exact fun _ _ _ h => h
        case ww98 => rfl
        case yy98 => intro W hW; go_simp <;> with_reducible rfl
        try simp only [Act.put, List.setIfInBounds_toArray, List.set_cons_zero, List.set_cons_succ]
        refine wpAnyH_take (i := 10) (oi := ?oo99) (v := ?vv99) ?ii99 (by kernel_rfl) ?ff99 (by kernel_rfl) ?qq99 (Or.inl ⟨?ww99, ?yy99⟩) hg6.box ?rr99
        case ii99 => simp only [List.getElem?_toArray, List.getElem?_cons_succ, List.getElem?_cons_zero]; rfl
        case ff99 => kernel_rfl
        case qq99 => exact fun _ _ _ h => h
        case ww99 => rfl
        case yy99 => intro W hW; go_simp <;> with_reducible rfl
        try simp only [Act.put, List.setIfInBounds_toArray, List.set_cons_zero, List.set_cons_succ]
        refine wpAnyH_done (by kernel_rfl) ?_ _
        have HG3 := Lib.hid hg6
        clear hg6
        go_wp2_with fail
        refine (HH1.out _ HG3.out).mono ?_
        rintro e w11 ⟨rfl, hg7⟩
        have HG7 := Lib.hid hg7
        clear hg7 HG3 HH1 k1
        go_wp2_with fail
        refine (HAk.out _ _ _ HG7.out).mono ?_
        rintro e w12 ⟨rfl, hg8⟩
        have HF := Lib.hid (HLi.out _ hg8)
        clear hg8 HG7 HLi HAk
        go_wp2_with fail
        go_roundw
        case rel => exact HF.out
        case measure => simp [intOf]; omega
      case pos =>
        have hfar : FarIn (sd + mn) := by unfold FarIn; omega
        obtain ⟨at1, hat⟩ : ∃ a, ClkP.realT 1000 rate (sd + mn) = a := ⟨_, rfl⟩
        have hsm := ClkP.real_small (since := 1000) (rate := rate) (loc := sd + mn) (m := 160000000) hrt (by omega) (by omega)
        rw [hat] at hsm
        have HR1 := Lib.hid (HRk.out (sd + mn) hfar)
        rw [hat] at HR1
        have q5 : decide ((L : Int) < (F : Int)) = true := decide_eq_true (by omega)
        have q5n : decide (L < F) = true := decide_eq_true (by omega)
        have q6 : decide ((L : Int) < (n4 : Int)) = true := decide_eq_true (by omega)
        have q6n : decide (L < n4) = true := decide_eq_true (by omega)
        obtain ⟨z, hz⟩ : ∃ z, lies[L]? = some z := ⟨_, List.getElem?_eq_getElem (by rw [Hl4.out]; omega)⟩
        obtain ⟨b4, o4, rfl, -, -⟩ := (H4.out _ hbx).at_ hz
        have HC4 : Hid (∀ W, BoxS w ⟨(N : Int), (F : Int), slot, gap, rho, dmin, dmax, margin, PA, pn, pcap, parts, QA, qn, qcap, ports, RA, rn, rcap, routes⟩ W → W.cell? ⟨b4, o4 + L, none⟩ = some (.int .i64 z)) := Lib.hid fun W hW => by
          obtain ⟨b', o', e', -, h9⟩ := (H4.out W hW).at_ hz
          cases e'
          exact h9
        obtain ⟨y, ey, hy1, hy2⟩ := tmodk z 1073741824 (by omega)
        have eY1 : wrap64 (z.tmod 1073741824) = y := by rw [ey]; exact IntWalk.wrap64_in _ (by omega)
        have eY2 : IntKind.i64.wrap (z.tmod 1073741824) = y := by rw [ey]; exact IntWalk.i64_in _ (by omega)
        have eY3 : IntKind.i64.wrap (at1 + y) = at1 + y := IntWalk.i64_in _ (by omega)
        have eY4 : wrap64 (at1 + z.tmod 1073741824) = at1 + y := by rw [ey]; exact IntWalk.wrap64_in _ (by omega)
        have eL1 : IntKind.i64.wrap ((L : Int) + 1) = (L : Int) + 1 := IntWalk.i64_in _ (by omega)
        obtain ⟨at2, hat2⟩ : ∃ a, at1 + y = a := ⟨_, rfl⟩
        have eY5 : wrap64 (at1 + y) = at2 := by rw [hat2]; exact IntWalk.wrap64_in _ (by omega)
        rw [hat2] at eY3 eY4
        have hsoon : PacQ.Soon (at2 - 1000) := by unfold PacQ.Soon; omega
        have hdl := ClkP.local_small (since := 1000) (rate := rate) (real := at2) (m := 1600000000) hrt (by omega) (by omega)
        have e9 : IntKind.i64.wrap (at2 + 5) = at2 + 5 := IntWalk.i64_in _ (by omega)
        have HH1 := Lib.hid (HHk.out at2 hsoon)
        have HLi := Lib.hid (HLie.out (ClkP.localT 1000 rate at2 - sd - mn) (by omega) (by omega))
        rw [HSk2] at HH1
        dsimp only at HH1
        generalize ClkP.localT 1000 rate at2 = lv at *
        have hg0 := HG.out.step (Below.refl _ _).drew
        have HG0 := Lib.hid HG.out
        clear HG HI HHk HRk HLk HSk2 HTell HLie hfar hsm hdl hsoon H3 H4 hbx hat hat2 hz
        go_wp2_with fail
        refine wp_region_held_drew (S := fun W => BoxS w ⟨(N : Int), (F : Int), slot, gap, rho, dmin, dmax, margin, PA, pn, pcap, parts, QA, qn, qcap, ports, RA, rn, rcap, routes⟩ W) (by kernel_rfl) hg0.box (fun _ => ?_)
        refine wpAnyH_take (i := 0) (oi := ?oo100) (v := ?vv100) ?ii100 (by kernel_rfl) ?ff100 (by kernel_rfl) ?qq100 (Or.inl ⟨?ww100, ?yy100⟩) hg0.box ?rr100
        case ii100 => simp only [List.getElem?_toArray, List.getElem?_cons_zero]; rfl
        case ff100 => kernel_rfl
        case qq100 => exact fun _ _ _ h => h
        case ww100 => rfl
        case yy100 => intro W hW; go_simp <;> with_reducible rfl
        try simp only [Act.put, List.setIfInBounds_toArray, List.set_cons_zero, List.set_cons_succ]
        refine wpAnyH_take (i := 1) (oi := ?oo101) (v := ?vv101) ?ii101 (by kernel_rfl) ?ff101 (by kernel_rfl) ?qq101 (Or.inl ⟨?ww101, ?yy101⟩) hg0.box ?rr101
        case ii101 => simp only [List.getElem?_toArray, List.getElem?_cons_succ, List.getElem?_cons_zero]; rfl
        case ff101 => kernel_rfl
        case qq101 => exact fun _ _ _ h => h
        case ww101 => rfl
        case yy101 => intro W hW; go_simp <;> with_reducible rfl
        try simp only [Act.put, List.setIfInBounds_toArray, List.set_cons_zero, List.set_cons_succ]
        refine wpAnyH_take (i := 2) (oi := ?oo102) (v := ?vv102) ?ii102 (by kernel_rfl) ?ff102 (by kernel_rfl) ?qq102 (Or.inl ⟨?ww102, ?yy102⟩) hg0.box ?rr102
        case ii102 => simp only [List.getElem?_toArray, List.getElem?_cons_succ, List.getElem?_cons_zero]; rfl
        case ff102 => kernel_rfl
        case qq102 => exact fun _ _ _ h => h
        case ww102 => rfl
        case yy102 => intro W hW; go_simp <;> with_reducible rfl
        try simp only [Act.put, List.setIfInBounds_toArray, List.set_cons_zero, List.set_cons_succ]
        refine wpAnyH_take (i := 4) (oi := ?oo103) (v := ?vv103) ?ii103 (by kernel_rfl) ?ff103 (by kernel_rfl) ?qq103 (Or.inl ⟨?ww103, ?yy103⟩) hg0.box ?rr103
        case ii103 => simp only [List.getElem?_toArray, List.getElem?_cons_succ, List.getElem?_cons_zero]; rfl
        case ff103 => kernel_rfl
        case qq103 => exact fun _ _ _ h => h
        case ww103 => rfl
        case yy103 => intro W hW; go_simp <;> with_reducible rfl
        try simp only [Act.put, List.setIfInBounds_toArray, List.set_cons_zero, List.set_cons_succ]
        refine wpAnyH_take (i := 7) (oi := ?oo104) (v := ?vv104) ?ii104 (by kernel_rfl) ?ff104 (by kernel_rfl) ?qq104 (Or.inl ⟨?ww104, ?yy104⟩) hg0.box ?rr104
        case ii104 => simp only [List.getElem?_toArray, List.getElem?_cons_succ, List.getElem?_cons_zero]; rfl
        case ff104 => kernel_rfl
        case qq104 => exact fun _ _ _ h => h
        case ww104 => rfl
        case yy104 => intro W hW; go_simp <;> with_reducible rfl
        try simp only [Act.put, List.setIfInBounds_toArray, List.set_cons_zero, List.set_cons_succ]
        refine wpAnyH_ready (rs := [3]) (by kernel_rfl) (by simp) ?_
        refine AllReadyH.cons (o := ?oo105) ?ii105 (fun K hK => ?_) AllReadyH.nil
        case ii105 => simp only [List.getElem?_toArray, List.getElem?_cons_succ, List.getElem?_cons_zero]; rfl
        go_simp
        refine (HSk.out _).mono ?_
        rintro e w4 ⟨rfl, hb4⟩
        have hg1 := hg0.step hb4
        clear hb4 hg0
        go_wp2_with fail
        refine hK.out _ _ hg1.box (fun _ => ?_)
        clear hK K
        refine wpAnyH_ready (rs := [5]) (by kernel_rfl) (by simp) ?_
        refine AllReadyH.cons (o := ?oo106) ?ii106 (fun K hK => ?_) AllReadyH.nil
        case ii106 => simp only [List.getElem?_toArray, List.getElem?_cons_succ, List.getElem?_cons_zero]; rfl
        go_simp
        refine (HMe.out _).mono ?_
        rintro e w5 ⟨rfl, hb5⟩
        have hg2 := hg1.step hb5
        clear hb5 hg1
        go_wp2_with fail
        refine hK.out _ _ hg2.box (fun _ => ?_)
        clear hK K
        refine wpAnyH_take (i := 6) (oi := ?oo107) (v := ?vv107) ?ii107 (by kernel_rfl) ?ff107 (by kernel_rfl) ?qq107 (Or.inl ⟨?ww107, ?yy107⟩) hg2.box ?rr107
        case ii107 => simp only [List.getElem?_toArray, List.getElem?_cons_succ, List.getElem?_cons_zero]; rfl
        case ff107 => kernel_rfl
        case qq107 => exact fun _ _ _ h => h
        case ww107 => rfl
        case yy107 => intro W hW; go_simp <;> with_reducible rfl
        try simp only [Act.put, List.setIfInBounds_toArray, List.set_cons_zero, List.set_cons_succ]
        refine wpAnyH_take (i := 8) (oi := ?oo108) (v := ?vv108) ?ii108 (by kernel_rfl) ?ff108 (by kernel_rfl) ?qq108 (Or.inl ⟨?ww108, ?yy108⟩) hg2.box ?rr108
        case ii108 => simp only [List.getElem?_toArray, List.getElem?_cons_succ, List.getElem?_cons_zero]; rfl
        case ff108 => kernel_rfl
        case qq108 => exact fun _ _ _ h => h
        case ww108 => rfl
        case yy108 => intro W hW; go_simp <;> with_reducible rfl
        try simp only [Act.put, List.setIfInBounds_toArray, List.set_cons_zero, List.set_cons_succ]
        refine wpAnyH_ready (rs := [9]) (by kernel_rfl) (by simp) ?_
        refine AllReadyH.cons (o := ?oo109) ?ii109 (fun K hK => ?_) AllReadyH.nil
        case ii109 => simp only [List.getElem?_toArray, List.getElem?_cons_succ, List.getElem?_cons_zero]; rfl
        go_simp
        refine (HR1.out _ hg2).mono ?_
        rintro e w6 ⟨rfl, m6, rfl⟩
        have hg3 := hg2.step (below_drewNc (Below.refl _ _) m6)
        clear hg2 HR1
        go_wp2_with fail
        refine hK.out _ _ hg3.box (fun _ => ?_)
        clear hK K
        refine wpAnyH_take (i := 10) (oi := ?oo110) (v := ?vv110) ?ii110 (by kernel_rfl) ?ff110 (by kernel_rfl) ?qq110 (Or.inl ⟨?ww110, ?yy110⟩) hg3.box ?rr110
        case ii110 => simp only [List.getElem?_toArray, List.getElem?_cons_succ, List.getElem?_cons_zero]; rfl
        case ff110 => kernel_rfl
        case qq110 => exact fun _ _ _ h => h
        case ww110 => rfl
        case yy110 => intro W hW; go_simp <;> with_reducible rfl
        try simp only [Act.put, List.setIfInBounds_toArray, List.set_cons_zero, List.set_cons_succ]
        refine wpAnyH_done (by kernel_rfl) ?_ _
        generalize w5.drewN m6 = w7 at *
        have k1 := d1 _ hg3.box
        have c4 := HC4.out _ hg3.box
        have HG3 := Lib.hid hg3
        clear hg3 HC4
        go_wp2_with fail
        simp only [eY5]
        refine (HH1.out _ HG3.out).mono ?_
        rintro e w11 ⟨rfl, hg7⟩
        have HG7 := Lib.hid hg7
        clear hg7 HG3 HH1 k1
        go_wp2_with fail
        refine (HAk.out _ _ _ HG7.out).mono ?_
        rintro e w12 ⟨rfl, hg8⟩
        have HF := Lib.hid (HLi.out _ hg8)
        clear hg8 HG7 HLi HAk
        go_wp2_with fail
        go_roundw
        case rel => exact HF.out
        case measure => simp [intOf]; omega
end Go.Proofs.Ythhbdnjihhpalaa
