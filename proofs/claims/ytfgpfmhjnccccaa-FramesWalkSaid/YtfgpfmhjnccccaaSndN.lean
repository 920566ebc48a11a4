/- Contracts of sound's Order, and of cmp.Compare, slices.SortStableFunc and what it calls at its closure, for at most twelve indices. Conditions: where the tables' lists lie. -/
import Derived.Test.YtfgpfmhjnccccaaSndQ
import Derived.Test.YtfgpfmhjnccccaaSndBa
import Derived.Test.YtfgpfmhjnccccaaMem
import Derived.BigQuiet
namespace Go.Proofs.Ytfgpfmhjnccccaa
open Go.RowKit
set_option maxRecDepth 100000

theorem isnan_any (a : Int) (w : World) : Calls Try.prog 35 #[.int .i64 a] w (BoolPost false w) := by
  have e : ((a : Int) != a) = false := by simp
  go_enter Try.func35, Try.ntmps35
  go_wp2_with fail
  go_ret
  exact ⟨by simp, Below.refl _ _⟩
set_option maxHeartbeats 1000000 in
theorem compare_any (a b : Int) (w : World) : Calls Try.prog 30 #[.int .i64 a, .int .i64 b] w (IntPost (OrdP.cmpI a b) w) := by
  have HN := Lib.hid (fun a W => isnan_any a W)
  go_enter Try.func30, Try.ntmps30
  go_wp2_with fail
  refine (HN.out a _).mono ?_
  rintro e w1 ⟨rfl, hb1⟩
  have Hb1 := Lib.hid hb1
  clear hb1
  go_wp2_with fail
  refine (HN.out b _).mono ?_
  rintro e w2 ⟨rfl, hb2⟩
  have Hb2 := Lib.hid (Hb1.out.trans (hb2.mono Hb1.out.size))
  clear hb2
  by_cases h1 : a < b
  · have q1 : decide (a < b) = true := decide_eq_true h1
    have e1 : OrdP.cmpI a b = -1 := by simp [OrdP.cmpI, h1]
    go_wp2_with fail
    go_ret
    exact ⟨by rw [e1]; rfl, Hb2.out⟩
  have q1 : decide (a < b) = false := decide_eq_false h1
  by_cases h2 : b < a
  · have q2 : decide (b < a) = true := decide_eq_true h2
    have e1 : OrdP.cmpI a b = 1 := by simp [OrdP.cmpI, h1, h2]
    go_wp2_with fail
    go_ret
    exact ⟨by rw [e1]; rfl, Hb2.out⟩
  have q2 : decide (b < a) = false := decide_eq_false h2
  have e1 : OrdP.cmpI a b = 0 := by simp [OrdP.cmpI, h1, h2]
  go_wp2_with fail
  go_ret
  exact ⟨by rw [e1]; rfl, Hb2.out⟩

set_option maxHeartbeats 1000000 in
theorem order1_any (x : CfgC) (w : World) (h : CfgIn w x) (W : World) (hW : BoxS w x W) (i j : Nat) (hi : i < x.pn) (hj : j < x.pn) (hpn : x.pn ≤ 12) :
    Calls Try.prog 29 #[.int .i64 (i : Nat), .int .i64 (j : Nat), .pointer (some ⟨w.heap.size, 0, none⟩)] W (IntPost (OrdP.cmpI (OrdP.keyP x.parts i) (OrdP.keyP x.parts j)) W) := by
  have hpl := h.plen
  obtain ⟨p, hp⟩ : ∃ y, x.parts[i]? = some y := ⟨_, List.getElem?_eq_getElem (by omega)⟩
  obtain ⟨q, hq⟩ : ∃ y, x.parts[j]? = some y := ⟨_, List.getElem?_eq_getElem (by omega)⟩
  have ep : OrdP.keyP x.parts i = p.start := by simp only [OrdP.keyP, hp]
  have eq : OrdP.keyP x.parts j = q.start := by simp only [OrdP.keyP, hq]
  rw [ep, eq]
  have HC := Lib.hid (fun W => compare_any p.start q.start W)
  have HP := fun W (hW : BoxS w x W) => parts_at (h.parts.below hW.below) hp
  have HQ := fun W (hW : BoxS w x W) => parts_at (h.parts.below hW.below) hq
  obtain ⟨bp, op, e, -, -⟩ := HP W hW
  clear h hp hq ep eq
  have HB := Lib.hid hW
  clear hW
  obtain ⟨nodes, faulty, slot, gap, rho, dmin, dmax, margin, PA, pn, pcap, parts, QA, qn, qcap, ports, RA, rn, rcap, routes⟩ := x
  simp only at e hi hj hpn hpl
  subst e
  have P2 : ∀ W, BoxS w ⟨nodes, faulty, slot, gap, rho, dmin, dmax, margin, some ⟨bp, op, none⟩, pn, pcap, parts, QA, qn, qcap, ports, RA, rn, rcap, routes⟩ W → PartAt W bp (op + i * 9) p := fun W hW => by
    obtain ⟨b', o', e1, -, h2⟩ := HP W hW
    cases e1
    exact h2
  have Q2 : ∀ W, BoxS w ⟨nodes, faulty, slot, gap, rho, dmin, dmax, margin, some ⟨bp, op, none⟩, pn, pcap, parts, QA, qn, qcap, ports, RA, rn, rcap, routes⟩ W → PartAt W bp (op + j * 9) q := fun W hW => by
    obtain ⟨b', o', e1, -, h2⟩ := HQ W hW
    cases e1
    exact h2
  have d8 := fun W (hW : BoxS w ⟨nodes, faulty, slot, gap, rho, dmin, dmax, margin, some ⟨bp, op, none⟩, pn, pcap, parts, QA, qn, qcap, ports, RA, rn, rcap, routes⟩ W) => hW.cells.c8
  have u1 := fun W hW => (P2 W hW).c1
  have v1 := fun W hW => (Q2 W hW).c1
  clear P2 Q2 HP HQ
  simp only at d8
  generalize p.start = s at *
  generalize q.start = t at *
  have hd0 := BoxS.drew HB.out
  have hst : Below W.heap.size W W.drew := (Below.refl _ _).drew
  go_enter Try.func29, Try.ntmps29
  go_wp2_with fail
  refine wp_region_held_drew (S := fun W' => BoxS w ⟨nodes, faulty, slot, gap, rho, dmin, dmax, margin, some ⟨bp, op, none⟩, pn, pcap, parts, QA, qn, qcap, ports, RA, rn, rcap, routes⟩ W') (by kernel_rfl) hd0 (fun _ => ?_)
  refine tkH 0 (by simp only [tkA]; rfl) (by kernel_rfl) (by exact fun _ _ _ h => h) (by rfl) (by intro W hW; go_simp <;> with_reducible rfl) hd0 ?_
  try simp only [Act.put, tkT, tk0, tkS]
  refine tkH 1 (by simp only [tkA, tkG]; rfl) (by kernel_rfl) (by exact fun _ _ _ h => h) (by rfl) (by intro W hW; go_simp <;> with_reducible rfl) hd0 ?_
  try simp only [Act.put, tkT, tk0, tkS]
  refine tkH 2 (by simp only [tkA, tkG]; rfl) (by kernel_rfl) (by exact fun _ _ _ h => h) (by rfl) (by intro W hW; go_simp <;> with_reducible rfl) hd0 ?_
  try simp only [Act.put, tkT, tk0, tkS]
  refine tkH 3 (by simp only [tkA, tkG]; rfl) (by kernel_rfl) (by exact fun _ _ _ h => h) (by rfl) (by intro W hW; go_simp <;> with_reducible rfl) hd0 ?_
  try simp only [Act.put, tkT, tk0, tkS]
  refine tkH 4 (by simp only [tkA, tkG]; rfl) (by kernel_rfl) (by exact fun _ _ _ h => h) (by rfl) (by intro W hW; go_simp <;> with_reducible rfl) hd0 ?_
  try simp only [Act.put, tkT, tk0, tkS]
  refine tkH 5 (by simp only [tkA, tkG]; rfl) (by kernel_rfl) (by exact fun _ _ _ h => h) (by rfl) (by intro W hW; go_simp <;> with_reducible rfl) hd0 ?_
  try simp only [Act.put, tkT, tk0, tkS]
  refine tkH 6 (by simp only [tkA, tkG]; rfl) (by kernel_rfl) (by exact fun _ _ _ h => h) (by rfl) (by intro W hW; go_simp <;> with_reducible rfl) hd0 ?_
  try simp only [Act.put, tkT, tk0, tkS]
  refine tkH 7 (by simp only [tkA, tkG]; rfl) (by kernel_rfl) (by exact fun _ _ _ h => h) (by rfl) (by intro W hW; go_simp <;> with_reducible rfl) hd0 ?_
  try simp only [Act.put, tkT, tk0, tkS]
  refine tkH 8 (by simp only [tkA, tkG]; rfl) (by kernel_rfl) (by exact fun _ _ _ h => h) (by rfl) (by intro W hW; go_simp <;> with_reducible rfl) hd0 ?_
  try simp only [Act.put, tkT, tk0, tkS]
  refine tkH 9 (by simp only [tkA, tkG]; rfl) (by kernel_rfl) (by exact fun _ _ _ h => h) (by rfl) (by intro W hW; go_simp <;> with_reducible rfl) hd0 ?_
  try simp only [Act.put, tkT, tk0, tkS]
  refine tkH 10 (by simp only [tkA, tkG]; rfl) (by kernel_rfl) (by exact fun _ _ _ h => h) (by rfl) (by intro W hW; go_simp <;> with_reducible rfl) hd0 ?_
  try simp only [Act.put, tkT, tk0, tkS]
  refine tkH 11 (by simp only [tkA, tkG]; rfl) (by kernel_rfl) (by exact fun _ _ _ h => h) (by rfl) (by intro W hW; go_simp <;> with_reducible rfl) hd0 ?_
  try simp only [Act.put, tkT, tk0, tkS]
  refine clH 12 (by kernel_rfl) (by simp only [tkA, tkG]; rfl) (fun K hK => ?_)
  go_simp
  refine (HC.out _).mono ?_
  rintro e w1 ⟨rfl, hb1⟩
  have hd1 := hd0.step hb1
  have HF := Lib.hid (hst.trans (hb1.mono hst.size))
  clear hb1
  go_wp2_with fail
  refine hK.out _ _ hd1 (fun _ => ?_)
  clear hK K
  refine tkH 13 (by simp only [tkA, tkG]; rfl) (by kernel_rfl) (by exact fun _ _ _ h => h) (by rfl) (by intro W hW; go_simp <;> with_reducible rfl) hd1 ?_
  try simp only [Act.put, tkT, tk0, tkS]
  refine wpAnyH_done (by kernel_rfl) ?_ _
  clear hd1 hd0 hst
  go_wp2_with fail
  go_ret
  exact ⟨rfl, HF.out⟩

def idxV (l : List Nat) : List Value := l.map fun (i : Nat) => Value.int .i64 (i : Nat)
theorem idxV_length (l : List Nat) : (idxV l).length = l.length := by simp [idxV]
theorem idxV_get {l : List Nat} {k i : Nat} (h : l[k]? = some i) : (idxV l)[k]? = some (.int .i64 (i : Nat)) := by simp [idxV, h]
theorem idxV_set (l : List Nat) (k i : Nat) : idxV (l.set k i) = (idxV l).set k (.int .i64 (i : Nat)) := by simp [idxV, List.map_set]
theorem own_keep {w w' : World} {B e size n : Nat} {v : Value} {xs : List Value} (h : w.ownsRow B e size v n xs) (hb : Below w.heap.size w w') : w'.ownsRow B e size v n xs :=
  own_apart h (Apart.of_below' (F := fun _ => False) hb) (fun _ _ h => h)
/-- The boxed tables, and behind them a slice of indices of the call's own. -/
def SortS (w : World) (x : CfgC) (g n cap : Nat) (l : List Nat) (W : World) : Prop :=
  BoxS w x W ∧ W.ownsRow (boxC w x).heap.size 3 1 (.slice (some ⟨g, 0, none⟩) n cap) n (idxV l)
theorem SortS.drew {w : World} {x : CfgC} {g n cap : Nat} {l : List Nat} {W : World} (h : SortS w x g n cap l W) : SortS w x g n cap l W.drew := ⟨h.1.drew, own_keep h.2 (Below.refl _ _).drew⟩
theorem SortS.step {w : World} {x : CfgC} {g n cap : Nat} {l : List Nat} {W W' : World} (h : SortS w x g n cap l W) (hb : Below W.heap.size W W') : SortS w x g n cap l W' := ⟨h.1.step hb, own_keep h.2 hb⟩
theorem SortS.cell {w : World} {x : CfgC} {g n cap : Nat} {l : List Nat} {W : World} (h : SortS w x g n cap l W) {k i : Nat} (hk : l[k]? = some i) (hkn : k < n) : W.cell? ⟨g, k, none⟩ = some (.int .i64 (i : Nat)) := by
  rw [h.2.cellAt k (by omega)]; exact idxV_get hk
theorem SortS.free {w : World} {x : CfgC} {g n cap : Nat} {l : List Nat} {W : World} (h : SortS w x g n cap l W) (k : Nat) : W.frozen? ⟨g, k, none⟩ = false := h.2.frozenAt k
theorem SortS.stored {w : World} {x : CfgC} {g n cap : Nat} {l : List Nat} {W : World} (h : SortS w x g n cap l W) (k i : Nat) : SortS w x g n cap (l.set k i) (W.setCell ⟨g, k, none⟩ (.int .i64 (i : Nat))) := by
  have h2 := h.2.stored k (.int .i64 (i : Nat))
  refine ⟨Below.grown h.1 h2.2 h.1.size (fun q hq => ?_), by rw [idxV_set]; exact h2.1⟩
  cases hq
  exact (h.2.lt g (by simp [Value.ownBlock])).1

def OutR (w : World) (x : CfgC) (g n cap : Nat) (key : Nat → Int) (l : List Nat) (i : Value) (W : World) : Prop :=
  ∃ k, 1 ≤ k ∧ (k ≤ n ∨ k = 1) ∧ i = .int .i64 (k : Nat) ∧ SortS w x g n cap (OrdP.srt key (l.take k) ++ l.drop k) W
def InnR (w : World) (x : CfgC) (g n cap : Nat) (key : Nat → Int) (l : List Nat) (k e : Nat) (j : Value) (W : World) : Prop :=
  ∃ pre post : List Nat, j = .int .i64 (pre.length : Nat) ∧ pre ++ post = OrdP.srt key (l.take k) ∧ (∀ y ∈ post, key e < key y) ∧ SortS w x g n cap (pre ++ e :: (post ++ l.drop (k + 1))) W
def SortP (w : World) (x : CfgC) (g n cap : Nat) (l : List Nat) (e : Ending) (W : World) : Prop := e = .returned (.tuple #[]) ∧ SortS w x g n cap l W

set_option maxHeartbeats 4000000 in
theorem isort_any (x : CfgC) (w : World) (h : CfgIn w x) (hpn : x.pn ≤ 12) (g n cap : Nat) (l : List Nat) (hl : l.length = n) (hn : n ≤ 12) (hlt : ∀ i ∈ l, i < x.pn) (W : World) (hW : SortS w x g n cap l W) :
    Calls Try.prog 36 #[.slice (some ⟨g, 0, none⟩) n cap, .int .i64 0, .int .i64 (n : Nat), .func (.func 29) #[] #[.pointer (some ⟨w.heap.size, 0, none⟩)]] W (SortP w x g n cap (OrdP.srt (OrdP.keyP x.parts) l)) := by
  have HC := Lib.hid (fun i j (hi : i < x.pn) (hj : j < x.pn) W (hW : BoxS w x W) => order1_any x w h W hW i j hi hj hpn)
  generalize OrdP.keyP x.parts = key at *
  have HST : Hid (SortS w x g n cap (OrdP.srt key (l.take 1) ++ l.drop 1) W) := Lib.hid (by
    have e : OrdP.srt key (l.take 1) ++ l.drop 1 = l := by cases l <;> rfl
    rw [e]; exact hW)
  clear h hW
  go_enter Try.func36, Try.ntmps36
  go_wp2_with fail
  go_loopw [8] (OutR w x g n cap key l) (fun i _ => (n + 1 - intOf i).toNat)
  case atStart => exact ⟨1, Nat.le_refl _, .inr rfl, rfl, HST.out⟩
  case round =>
    clear HST
    obtain ⟨k, hk1, hk2, rfl, hS⟩ := hrel
    have HS := Lib.hid hS
    clear hS
    by_cases hkn : k < n
    case pos =>
      obtain ⟨e, he⟩ : ∃ y, l[k]? = some y := ⟨_, List.getElem?_eq_getElem (by omega)⟩
      have hex := hlt e (List.mem_of_getElem? he)
      have Htake : Hid (OrdP.srt key (l.take (k + 1)) = OrdP.ins key e (OrdP.srt key (l.take k))) := Lib.hid (by rw [List.take_add_one, he]; exact OrdP.srt_snoc key _ e)
      have Hdrop : Hid (l.drop k = e :: l.drop (k + 1)) := Lib.hid (by
        obtain ⟨hk, rfl⟩ := List.getElem?_eq_some_iff.1 he
        exact List.drop_eq_getElem_cons hk)
      have Hrs := Lib.hid (OrdP.srt_rising key (l.take k))
      have Hlen : Hid ((OrdP.srt key (l.take k)).length = k) := Lib.hid (by rw [OrdP.srt_length, List.length_take]; omega)
      have Hmem : Hid (∀ i ∈ OrdP.srt key (l.take k), i < x.pn) := Lib.hid fun i hi => hlt i (List.mem_of_mem_take ((OrdP.srt_perm key _).mem_iff.1 hi))
      have HIn : Hid (InnR w x g n cap key l k e (.int .i64 (k : Nat)) wr) := Lib.hid ⟨OrdP.srt key (l.take k), [], by rw [Hlen.out], by simp, by simp, by
        have := HS.out; rw [Hdrop.out] at this; simpa using this⟩
      clear HS he
      go_wp2_with fail
      go_loopw [9] (InnR w x g n cap key l k e) (fun j _ => (intOf j).toNat)
      case atStart => exact HIn.out
      case round =>
        clear HIn
        obtain ⟨pre, post, rfl, hpp, hpo, hS⟩ := hrel
        have HS := Lib.hid hS
        have Hpo := Lib.hid hpo
        have Hpp := Lib.hid hpp
        clear hS hpo hpp
        have HOut : Hid ((∀ y ∈ pre, key y ≤ key e) → ∀ W, SortS w x g n cap (pre ++ e :: (post ++ l.drop (k + 1))) W → OutR w x g n cap key l (.int .i64 ((k : Int) + 1)) W) := Lib.hid fun hle W hW => by
          refine ⟨k + 1, by omega, by omega, by go_num, ?_⟩
          rw [Htake.out, ← Hpp.out, OrdP.ins_split key e hle Hpo.out]
          simpa using hW
        rcases List.eq_nil_or_concat pre with hp | ⟨pre', y, hp⟩
        · subst hp
          have HR := Lib.hid (HOut.out (by simp))
          have hd0 := SortS.drew HS.out
          clear HOut Hpo Hpp HS
          simp only [List.length_nil]
          go_wp2_with fail
          refine wp_region_held_drew (S := fun W => SortS w x g n cap ([] ++ e :: (post ++ l.drop (k + 1))) W) (by kernel_rfl) hd0 (fun _ => ?_)
          refine tkH 0 (by simp only [tkA]; rfl) (by kernel_rfl) (by exact fun _ _ _ h => h) (by rfl) (by intro W hW; go_simp <;> with_reducible rfl) hd0 ?_
          try simp only [Act.put, tkT, tk0, tkS]
          refine tkH 1 (by simp only [tkA, tkG]; rfl) (by kernel_rfl) (by exact fun _ _ _ h => h) (by rfl) (by intro W hW; go_simp <;> with_reducible rfl) hd0 ?_
          try simp only [Act.put, tkT, tk0, tkS]
          refine tkH 2 (by simp only [tkA, tkG]; rfl) (by kernel_rfl) (by exact fun _ _ _ h => h) (by rfl) (by intro W hW; go_simp <;> with_reducible rfl) hd0 ?_
          try simp only [Act.put, tkT, tk0, tkS]
          refine tkH 3 (by simp only [tkA, tkG]; rfl) (by kernel_rfl) (by exact fun _ _ _ h => h) (by rfl) (by intro W hW; go_simp <;> with_reducible rfl) hd0 ?_
          try simp only [Act.put, tkT, tk0, tkS]
          refine wpAnyH_take (i := 4) (oi := ?oo19) (v := undef) ?ii19 (by kernel_rfl) ?ff19 (by kernel_rfl) ?qq19 (Or.inr ⟨?ww19, rfl⟩) hd0 ?rr19
          case ii19 => simp only [List.getElem?_toArray, List.getElem?_cons_succ, List.getElem?_cons_zero]; rfl
          case ff19 => kernel_rfl
          case qq19 => exact fun _ _ _ h => h
          case ww19 => rfl
          try simp only [Act.put, List.setIfInBounds_toArray, List.set_cons_zero, List.set_cons_succ]
          refine wpAnyH_take (i := 5) (oi := ?oo20) (v := undef) ?ii20 (by kernel_rfl) ?ff20 (by kernel_rfl) ?qq20 (Or.inr ⟨?ww20, rfl⟩) hd0 ?rr20
          case ii20 => simp only [List.getElem?_toArray, List.getElem?_cons_succ, List.getElem?_cons_zero]; rfl
          case ff20 => kernel_rfl
          case qq20 => exact fun _ _ _ h => h
          case ww20 => rfl
          try simp only [Act.put, List.setIfInBounds_toArray, List.set_cons_zero, List.set_cons_succ]
          refine wpAnyH_take (i := 6) (oi := ?oo21) (v := undef) ?ii21 (by kernel_rfl) ?ff21 (by kernel_rfl) ?qq21 (Or.inr ⟨?ww21, rfl⟩) hd0 ?rr21
          case ii21 => simp only [List.getElem?_toArray, List.getElem?_cons_succ, List.getElem?_cons_zero]; rfl
          case ff21 => kernel_rfl
          case qq21 => exact fun _ _ _ h => h
          case ww21 => rfl
          try simp only [Act.put, List.setIfInBounds_toArray, List.set_cons_zero, List.set_cons_succ]
          refine wpAnyH_take (i := 7) (oi := ?oo22) (v := undef) ?ii22 (by kernel_rfl) ?ff22 (by kernel_rfl) ?qq22 (Or.inr ⟨?ww22, rfl⟩) hd0 ?rr22
          case ii22 => simp only [List.getElem?_toArray, List.getElem?_cons_succ, List.getElem?_cons_zero]; rfl
          case ff22 => kernel_rfl
          case qq22 => exact fun _ _ _ h => h
          case ww22 => rfl
          try simp only [Act.put, List.setIfInBounds_toArray, List.set_cons_zero, List.set_cons_succ]
          refine wpAnyH_take (i := 8) (oi := ?oo23) (v := undef) ?ii23 (by kernel_rfl) ?ff23 (by kernel_rfl) ?qq23 (Or.inr ⟨?ww23, rfl⟩) hd0 ?rr23
          case ii23 => simp only [List.getElem?_toArray, List.getElem?_cons_succ, List.getElem?_cons_zero]; rfl
          case ff23 => kernel_rfl
          case qq23 => exact fun _ _ _ h => h
          case ww23 => rfl
          try simp only [Act.put, List.setIfInBounds_toArray, List.set_cons_zero, List.set_cons_succ]
          refine wpAnyH_take (i := 9) (oi := ?oo24) (v := undef) ?ii24 (by kernel_rfl) ?ff24 (by kernel_rfl) ?qq24 (Or.inr ⟨?ww24, rfl⟩) hd0 ?rr24
          case ii24 => simp only [List.getElem?_toArray, List.getElem?_cons_succ, List.getElem?_cons_zero]; rfl
          case ff24 => kernel_rfl
          case qq24 => exact fun _ _ _ h => h
          case ww24 => rfl
          try simp only [Act.put, List.setIfInBounds_toArray, List.set_cons_zero, List.set_cons_succ]
          refine wpAnyH_take (i := 10) (oi := ?oo25) (v := undef) ?ii25 (by kernel_rfl) ?ff25 (by kernel_rfl) ?qq25 (Or.inr ⟨?ww25, rfl⟩) hd0 ?rr25
          case ii25 => simp only [List.getElem?_toArray, List.getElem?_cons_succ, List.getElem?_cons_zero]; rfl
          case ff25 => kernel_rfl
          case qq25 => exact fun _ _ _ h => h
          case ww25 => rfl
          try simp only [Act.put, List.setIfInBounds_toArray, List.set_cons_zero, List.set_cons_succ]
          refine wpAnyH_take (i := 11) (oi := ?oo26) (v := undef) ?ii26 (by kernel_rfl) ?ff26 (by kernel_rfl) ?qq26 (Or.inr ⟨?ww26, rfl⟩) hd0 ?rr26
          case ii26 => simp only [List.getElem?_toArray, List.getElem?_cons_succ, List.getElem?_cons_zero]; rfl
          case ff26 => kernel_rfl
          case qq26 => exact fun _ _ _ h => h
          case ww26 => rfl
          try simp only [Act.put, List.setIfInBounds_toArray, List.set_cons_zero, List.set_cons_succ]
          refine wpAnyH_take (i := 12) (oi := ?oo27) (v := undef) ?ii27 (by kernel_rfl) ?ff27 (by kernel_rfl) ?qq27 (Or.inr ⟨?ww27, rfl⟩) hd0 ?rr27
          case ii27 => simp only [List.getElem?_toArray, List.getElem?_cons_succ, List.getElem?_cons_zero]; rfl
          case ff27 => kernel_rfl
          case qq27 => exact fun _ _ _ h => h
          case ww27 => rfl
          try simp only [Act.put, List.setIfInBounds_toArray, List.set_cons_zero, List.set_cons_succ]
          refine wpAnyH_take (i := 13) (oi := ?oo28) (v := undef) ?ii28 (by kernel_rfl) ?ff28 (by kernel_rfl) ?qq28 (Or.inr ⟨?ww28, rfl⟩) hd0 ?rr28
          case ii28 => simp only [List.getElem?_toArray, List.getElem?_cons_succ, List.getElem?_cons_zero]; rfl
          case ff28 => kernel_rfl
          case qq28 => exact fun _ _ _ h => h
          case ww28 => rfl
          try simp only [Act.put, List.setIfInBounds_toArray, List.set_cons_zero, List.set_cons_succ]
          refine wpAnyH_take (i := 14) (oi := ?oo29) (v := undef) ?ii29 (by kernel_rfl) ?ff29 (by kernel_rfl) ?qq29 (Or.inr ⟨?ww29, rfl⟩) hd0 ?rr29
          case ii29 => simp only [List.getElem?_toArray, List.getElem?_cons_succ, List.getElem?_cons_zero]; rfl
          case ff29 => kernel_rfl
          case qq29 => exact fun _ _ _ h => h
          case ww29 => rfl
          try simp only [Act.put, List.setIfInBounds_toArray, List.set_cons_zero, List.set_cons_succ]
          refine wpAnyH_take (i := 15) (oi := ?oo30) (v := undef) ?ii30 (by kernel_rfl) ?ff30 (by kernel_rfl) ?qq30 (Or.inr ⟨?ww30, rfl⟩) hd0 ?rr30
          case ii30 => simp only [List.getElem?_toArray, List.getElem?_cons_succ, List.getElem?_cons_zero]; rfl
          case ff30 => kernel_rfl
          case qq30 => exact fun _ _ _ h => h
          case ww30 => rfl
          try simp only [Act.put, List.setIfInBounds_toArray, List.set_cons_zero, List.set_cons_succ]
          refine tkH 16 (by simp only [tkA, tkG]; rfl) (by kernel_rfl) (by exact fun _ _ _ h => h) (by rfl) (by intro W hW; go_simp <;> with_reducible rfl) hd0 ?_
          try simp only [Act.put, tkT, tk0, tkS]
          refine wpAnyH_done (by kernel_rfl) ?_ _
          have HR2 := Lib.hid (HR.out _ hd0)
          clear hd0 HR
          go_wp2_with fail
          go_roundw
          case rel => exact HR2.out
          case measure => simp [intOf]; omega
        rw [List.concat_eq_append] at hp
        subst hp
        have elen : (((pre' ++ [y]).length : Nat) : Int) = (pre'.length : Int) + 1 := by simp
        have hlen : pre'.length + 1 ≤ k := by have h1 := Hlen.out; rw [← Hpp.out] at h1; simp at h1; omega
        have hyx : y < x.pn := Hmem.out y (by rw [← Hpp.out]; simp)
        have eL : pre' ++ [y] ++ e :: (post ++ l.drop (k + 1)) = pre' ++ y :: e :: (post ++ l.drop (k + 1)) := by simp
        rw [eL] at HS HOut
        have HCk := Lib.hid (fun W hW => HC.out e y hex hyx W hW)
        have HSw : Hid (∀ W, SortS w x g n cap (pre' ++ e :: y :: (post ++ l.drop (k + 1))) W → key e < key y → InnR w x g n cap key l k e (.int .i64 (pre'.length : Nat)) W) := Lib.hid fun W hW hlt => by
          refine ⟨pre', y :: post, rfl, by rw [← Hpp.out]; simp, fun z hz => ?_, by simpa using hW⟩
          rcases List.mem_cons.1 hz with rfl | hz
          · exact hlt
          · exact Hpo.out z hz
        have Hle : Hid (¬ key e < key y → ∀ z ∈ pre' ++ [y], key z ≤ key e) := Lib.hid fun hn => OrdP.le_of_last (post := post) (by rw [Hpp.out]; exact Hrs.out) (by omega)
        have Hg1 := Lib.hid (OrdP.get_at1 pre' (post ++ l.drop (k + 1)) y e)
        have Hg0 := Lib.hid (OrdP.get_at0 pre' (post ++ l.drop (k + 1)) y e)
        have Hsw := Lib.hid (OrdP.swap_at pre' (post ++ l.drop (k + 1)) y e)
        rw [elen]
        generalize pre'.length = m at *
        generalize hL1 : pre' ++ y :: e :: (post ++ l.drop (k + 1)) = L1 at *
        have HLs : Hid ((L1.set (m + 1) y).set m e = pre' ++ e :: y :: (post ++ l.drop (k + 1))) := Lib.hid (by rw [← hL1] at *; exact Hsw.out)
        have c1 := fun W (hW : SortS w x g n cap L1 W) => hW.cell (k := m + 1) (i := e) Hg1.out (by omega)
        have c0 := fun W (hW : SortS w x g n cap L1 W) => hW.cell (k := m) (i := y) Hg0.out (by omega)
        clear hL1 eL elen Hpo Hpp Hmem Hsw
        have hwp : IntKind.i64.wrap (m : Int) = (m : Int) := IntWalk.i64_in _ (by omega)
        have p0 : (0 : Int) ≤ (m : Int) + 1 := by omega
        have jz : (m : Int) + 1 < (n : Int) := by omega
        have jz1 : (m : Int) < (n : Int) := by omega
        have hd0 := SortS.drew HS.out
        clear HS
        by_cases hlt : key e < key y
        case neg =>
          have hcm : decide (OrdP.cmpI (key e) (key y) < 0) = false := decide_eq_false (fun h => hlt (OrdP.cmpI_neg.1 h))
          have HR := Lib.hid (HOut.out (Hle.out hlt))
          clear HSw Hle HOut hlt
          generalize OrdP.cmpI (key e) (key y) = cv at *
          go_wp2_with fail
          refine wp_region_held_drew (S := fun W => SortS w x g n cap L1 W) (by kernel_rfl) hd0 (fun _ => ?_)
          refine tkH 0 (by simp only [tkA]; rfl) (by kernel_rfl) (by exact fun _ _ _ h => h) (by rfl) (by intro W hW; go_simp <;> with_reducible rfl) hd0 ?_
          try simp only [Act.put, tkT, tk0, tkS]
          refine tkH 1 (by simp only [tkA, tkG]; rfl) (by kernel_rfl) (by exact fun _ _ _ h => h) (by rfl) (by intro W hW; go_simp <;> with_reducible rfl) hd0 ?_
          try simp only [Act.put, tkT, tk0, tkS]
          refine tkH 2 (by simp only [tkA, tkG]; rfl) (by kernel_rfl) (by exact fun _ _ _ h => h) (by rfl) (by intro W hW; go_simp <;> with_reducible rfl) hd0 ?_
          try simp only [Act.put, tkT, tk0, tkS]
          refine tkH 3 (by simp only [tkA, tkG]; rfl) (by kernel_rfl) (by exact fun _ _ _ h => h) (by rfl) (by intro W hW; go_simp <;> with_reducible rfl) hd0 ?_
          try simp only [Act.put, tkT, tk0, tkS]
          refine tkH 4 (by simp only [tkA, tkG]; rfl) (by kernel_rfl) (by exact fun _ _ _ h => h) (by rfl) (by intro W hW; go_simp <;> with_reducible rfl) hd0 ?_
          try simp only [Act.put, tkT, tk0, tkS]
          refine tkH 5 (by simp only [tkA, tkG]; rfl) (by kernel_rfl) (by exact fun _ _ _ h => h) (by rfl) (by intro W hW; go_simp <;> with_reducible rfl) hd0 ?_
          try simp only [Act.put, tkT, tk0, tkS]
          refine tkH 6 (by simp only [tkA, tkG]; rfl) (by kernel_rfl) (by exact fun _ _ _ h => h) (by rfl) (by intro W hW; go_simp <;> with_reducible rfl) hd0 ?_
          try simp only [Act.put, tkT, tk0, tkS]
          refine tkH 7 (by simp only [tkA, tkG]; rfl) (by kernel_rfl) (by exact fun _ _ _ h => h) (by rfl) (by intro W hW; go_simp <;> with_reducible rfl) hd0 ?_
          try simp only [Act.put, tkT, tk0, tkS]
          refine tkH 8 (by simp only [tkA, tkG]; rfl) (by kernel_rfl) (by exact fun _ _ _ h => h) (by rfl) (by intro W hW; go_simp <;> with_reducible rfl) hd0 ?_
          try simp only [Act.put, tkT, tk0, tkS]
          refine tkH 9 (by simp only [tkA, tkG]; rfl) (by kernel_rfl) (by exact fun _ _ _ h => h) (by rfl) (by intro W hW; go_simp <;> with_reducible rfl) hd0 ?_
          try simp only [Act.put, tkT, tk0, tkS]
          refine tkH 10 (by simp only [tkA, tkG]; rfl) (by kernel_rfl) (by exact fun _ _ _ h => h) (by rfl) (by intro W hW; go_simp <;> with_reducible rfl) hd0 ?_
          try simp only [Act.put, tkT, tk0, tkS]
          refine tkH 11 (by simp only [tkA, tkG]; rfl) (by kernel_rfl) (by exact fun _ _ _ h => h) (by rfl) (by intro W hW; go_simp <;> with_reducible rfl) hd0 ?_
          try simp only [Act.put, tkT, tk0, tkS]
          refine tkH 12 (by simp only [tkA, tkG]; rfl) (by kernel_rfl) (by exact fun _ _ _ h => h) (by rfl) (by intro W hW; go_simp <;> with_reducible rfl) hd0 ?_
          try simp only [Act.put, tkT, tk0, tkS]
          refine tkH 13 (by simp only [tkA, tkG]; rfl) (by kernel_rfl) (by exact fun _ _ _ h => h) (by rfl) (by intro W hW; go_simp <;> with_reducible rfl) hd0 ?_
          try simp only [Act.put, tkT, tk0, tkS]
          refine clH 14 (by kernel_rfl) (by simp only [tkA, tkG]; rfl) (fun K hK => ?_)
          go_simp
          refine (HCk.out _ hd0.1).mono ?_
          rintro e w1 ⟨rfl, hb1⟩
          have hd1 := hd0.step hb1
          clear hb1
          go_wp2_with fail
          refine hK.out _ _ hd1 (fun _ => ?_)
          clear hK K
          refine tkH 15 (by simp only [tkA, tkG]; rfl) (by kernel_rfl) (by exact fun _ _ _ h => h) (by rfl) (by intro W hW; go_simp <;> with_reducible rfl) hd1 ?_
          try simp only [Act.put, tkT, tk0, tkS]
          refine tkH 16 (by simp only [tkA, tkG]; rfl) (by kernel_rfl) (by exact fun _ _ _ h => h) (by rfl) (by intro W hW; go_simp <;> with_reducible rfl) hd1 ?_
          try simp only [Act.put, tkT, tk0, tkS]
          refine wpAnyH_done (by kernel_rfl) ?_ _
          have HR2 := Lib.hid (HR.out _ hd1)
          clear hd0 hd1 HR
          go_wp2_with fail
          go_roundw
          case rel => exact HR2.out
          case measure => simp [intOf]; omega
        have hcm : decide (OrdP.cmpI (key e) (key y) < 0) = true := decide_eq_true (OrdP.cmpI_neg.2 hlt)
        have HR := Lib.hid (fun W hW => HSw.out W hW hlt)
        clear HSw Hle HOut hlt
        generalize OrdP.cmpI (key e) (key y) = cv at *
        go_wp2_with fail
        refine wp_region_held_drew (S := fun W => SortS w x g n cap L1 W) (by kernel_rfl) hd0 (fun _ => ?_)
        refine tkH 0 (by simp only [tkA]; rfl) (by kernel_rfl) (by exact fun _ _ _ h => h) (by rfl) (by intro W hW; go_simp <;> with_reducible rfl) hd0 ?_
        try simp only [Act.put, tkT, tk0, tkS]
        refine tkH 1 (by simp only [tkA, tkG]; rfl) (by kernel_rfl) (by exact fun _ _ _ h => h) (by rfl) (by intro W hW; go_simp <;> with_reducible rfl) hd0 ?_
        try simp only [Act.put, tkT, tk0, tkS]
        refine tkH 2 (by simp only [tkA, tkG]; rfl) (by kernel_rfl) (by exact fun _ _ _ h => h) (by rfl) (by intro W hW; go_simp <;> with_reducible rfl) hd0 ?_
        try simp only [Act.put, tkT, tk0, tkS]
        refine tkH 3 (by simp only [tkA, tkG]; rfl) (by kernel_rfl) (by exact fun _ _ _ h => h) (by rfl) (by intro W hW; go_simp <;> with_reducible rfl) hd0 ?_
        try simp only [Act.put, tkT, tk0, tkS]
        refine tkH 4 (by simp only [tkA, tkG]; rfl) (by kernel_rfl) (by exact fun _ _ _ h => h) (by rfl) (by intro W hW; go_simp <;> with_reducible rfl) hd0 ?_
        try simp only [Act.put, tkT, tk0, tkS]
        refine tkH 5 (by simp only [tkA, tkG]; rfl) (by kernel_rfl) (by exact fun _ _ _ h => h) (by rfl) (by intro W hW; go_simp <;> with_reducible rfl) hd0 ?_
        try simp only [Act.put, tkT, tk0, tkS]
        refine tkH 6 (by simp only [tkA, tkG]; rfl) (by kernel_rfl) (by exact fun _ _ _ h => h) (by rfl) (by intro W hW; go_simp <;> with_reducible rfl) hd0 ?_
        try simp only [Act.put, tkT, tk0, tkS]
        refine tkH 7 (by simp only [tkA, tkG]; rfl) (by kernel_rfl) (by exact fun _ _ _ h => h) (by rfl) (by intro W hW; go_simp <;> with_reducible rfl) hd0 ?_
        try simp only [Act.put, tkT, tk0, tkS]
        refine tkH 8 (by simp only [tkA, tkG]; rfl) (by kernel_rfl) (by exact fun _ _ _ h => h) (by rfl) (by intro W hW; go_simp <;> with_reducible rfl) hd0 ?_
        try simp only [Act.put, tkT, tk0, tkS]
        refine tkH 9 (by simp only [tkA, tkG]; rfl) (by kernel_rfl) (by exact fun _ _ _ h => h) (by rfl) (by intro W hW; go_simp <;> with_reducible rfl) hd0 ?_
        try simp only [Act.put, tkT, tk0, tkS]
        refine tkH 10 (by simp only [tkA, tkG]; rfl) (by kernel_rfl) (by exact fun _ _ _ h => h) (by rfl) (by intro W hW; go_simp <;> with_reducible rfl) hd0 ?_
        try simp only [Act.put, tkT, tk0, tkS]
        refine tkH 11 (by simp only [tkA, tkG]; rfl) (by kernel_rfl) (by exact fun _ _ _ h => h) (by rfl) (by intro W hW; go_simp <;> with_reducible rfl) hd0 ?_
        try simp only [Act.put, tkT, tk0, tkS]
        refine tkH 12 (by simp only [tkA, tkG]; rfl) (by kernel_rfl) (by exact fun _ _ _ h => h) (by rfl) (by intro W hW; go_simp <;> with_reducible rfl) hd0 ?_
        try simp only [Act.put, tkT, tk0, tkS]
        refine tkH 13 (by simp only [tkA, tkG]; rfl) (by kernel_rfl) (by exact fun _ _ _ h => h) (by rfl) (by intro W hW; go_simp <;> with_reducible rfl) hd0 ?_
        try simp only [Act.put, tkT, tk0, tkS]
        refine clH 14 (by kernel_rfl) (by simp only [tkA, tkG]; rfl) (fun K hK => ?_)
        go_simp
        refine (HCk.out _ hd0.1).mono ?_
        rintro e w1 ⟨rfl, hb1⟩
        have hd1 := hd0.step hb1
        clear hb1
        go_wp2_with fail
        refine hK.out _ _ hd1 (fun _ => ?_)
        clear hK K
        refine tkH 15 (by simp only [tkA, tkG]; rfl) (by kernel_rfl) (by exact fun _ _ _ h => h) (by rfl) (by intro W hW; go_simp <;> with_reducible rfl) hd1 ?_
        try simp only [Act.put, tkT, tk0, tkS]
        refine tkH 16 (by simp only [tkA, tkG]; rfl) (by kernel_rfl) (by exact fun _ _ _ h => h) (by rfl) (by intro W hW; go_simp <;> with_reducible rfl) hd1 ?_
        try simp only [Act.put, tkT, tk0, tkS]
        refine wpAnyH_done (by kernel_rfl) ?_ _
        have HS1 := Lib.hid hd1
        clear hd0 hd1
        go_wp2_with fail
        have hd0 := SortS.drew HS1.out
        have hs2 := SortS.drew (HS1.out.stored (m + 1) y)
        have hcy : (L1.set (m + 1) y)[m]? = some y := by rw [List.getElem?_set_ne (by omega)]; exact Hg0.out
        have k2 := hs2.cell hcy (by omega)
        have f2 := hs2.free m
        have f1 := hd0.free (m + 1)
        have HS3 := hs2.stored m e
        rw [HLs.out] at HS3
        have HR3 := Lib.hid (HR.out _ HS3)
        clear hs2 hcy HS3 HR HS1
        refine wp_region_L_drew (st := 15) (S := fun W => SortS w x g n cap L1 W) (by kernel_rfl) hd0 (fun _ => ?_)
        refine wpAnyL_quiet (i := 2) (oi := ?oo66) (v := ?vv66) ?ii66 (by decide) (by kernel_rfl) ?ff66 (by kernel_rfl) ?qq66 (Or.inl ⟨?ww66, ?yy66⟩) hd0 ?rr66
        case ii66 => simp only [List.getElem?_toArray, List.getElem?_cons_succ, List.getElem?_cons_zero]; rfl
        case ff66 => kernel_rfl
        case qq66 => exact fun _ _ _ h => h
        case ww66 => rfl
        case yy66 => intro W hW; go_simp <;> with_reducible rfl
        try simp only [Act.put, List.setIfInBounds_toArray, List.set_cons_zero, List.set_cons_succ]
        refine wpAnyL_quiet (i := 3) (oi := ?oo67) (v := ?vv67) ?ii67 (by decide) (by kernel_rfl) ?ff67 (by kernel_rfl) ?qq67 (Or.inl ⟨?ww67, ?yy67⟩) hd0 ?rr67
        case ii67 => simp only [List.getElem?_toArray, List.getElem?_cons_succ, List.getElem?_cons_zero]; rfl
        case ff67 => kernel_rfl
        case qq67 => exact fun _ _ _ h => h
        case ww67 => rfl
        case yy67 => intro W hW; go_simp <;> with_reducible rfl
        try simp only [Act.put, List.setIfInBounds_toArray, List.set_cons_zero, List.set_cons_succ]
        refine wpAnyL_quiet (i := 4) (oi := ?oo68) (v := ?vv68) ?ii68 (by decide) (by kernel_rfl) ?ff68 (by kernel_rfl) ?qq68 (Or.inl ⟨?ww68, ?yy68⟩) hd0 ?rr68
        case ii68 => simp only [List.getElem?_toArray, List.getElem?_cons_succ, List.getElem?_cons_zero]; rfl
        case ff68 => kernel_rfl
        case qq68 => exact fun _ _ _ h => h
        case ww68 => rfl
        case yy68 => intro W hW; go_simp <;> with_reducible rfl
        try simp only [Act.put, List.setIfInBounds_toArray, List.set_cons_zero, List.set_cons_succ]
        refine tkL 0 (by simp only [tkA]; rfl) (by kernel_rfl) (by exact fun _ _ _ h => h) (by rfl) (by intro W hW; go_simp <;> with_reducible rfl) hd0 ?_
        try simp only [Act.put, tkT, tk0, tkS]
        refine tkL 1 (by simp only [tkA, tkG]; rfl) (by kernel_rfl) (by exact fun _ _ _ h => h) (by rfl) (by intro W hW; go_simp <;> with_reducible rfl) hd0 ?_
        try simp only [Act.put, tkT, tk0, tkS]
        refine tkL 5 (by simp only [tkA, tkG]; rfl) (by kernel_rfl) (by exact fun _ _ _ h => h) (by rfl) (by intro W hW; go_simp <;> with_reducible rfl) hd0 ?_
        try simp only [Act.put, tkT, tk0, tkS]
        refine tkL 6 (by simp only [tkA, tkG]; rfl) (by kernel_rfl) (by exact fun _ _ _ h => h) (by rfl) (by intro W hW; go_simp <;> with_reducible rfl) hd0 ?_
        try simp only [Act.put, tkT, tk0, tkS]
        refine tkL 7 (by simp only [tkA, tkG]; rfl) (by kernel_rfl) (by exact fun _ _ _ h => h) (by rfl) (by intro W hW; go_simp <;> with_reducible rfl) hd0 ?_
        try simp only [Act.put, tkT, tk0, tkS]
        refine tkL 8 (by simp only [tkA, tkG]; rfl) (by kernel_rfl) (by exact fun _ _ _ h => h) (by rfl) (by intro W hW; go_simp <;> with_reducible rfl) hd0 ?_
        try simp only [Act.put, tkT, tk0, tkS]
        refine tkL 9 (by simp only [tkA, tkG]; rfl) (by kernel_rfl) (by exact fun _ _ _ h => h) (by rfl) (by intro W hW; go_simp <;> with_reducible rfl) hd0 ?_
        try simp only [Act.put, tkT, tk0, tkS]
        refine tkL 10 (by simp only [tkA, tkG]; rfl) (by kernel_rfl) (by exact fun _ _ _ h => h) (by rfl) (by intro W hW; go_simp <;> with_reducible rfl) hd0 ?_
        try simp only [Act.put, tkT, tk0, tkS]
        refine tkL 11 (by simp only [tkA, tkG]; rfl) (by kernel_rfl) (by exact fun _ _ _ h => h) (by rfl) (by intro W hW; go_simp <;> with_reducible rfl) hd0 ?_
        try simp only [Act.put, tkT, tk0, tkS]
        refine tkL 12 (by simp only [tkA, tkG]; rfl) (by kernel_rfl) (by exact fun _ _ _ h => h) (by rfl) (by intro W hW; go_simp <;> with_reducible rfl) hd0 ?_
        try simp only [Act.put, tkT, tk0, tkS]
        refine tkL 13 (by simp only [tkA, tkG]; rfl) (by kernel_rfl) (by exact fun _ _ _ h => h) (by rfl) (by intro W hW; go_simp <;> with_reducible rfl) hd0 ?_
        try simp only [Act.put, tkT, tk0, tkS]
        refine tkL 14 (by simp only [tkA, tkG]; rfl) (by kernel_rfl) (by exact fun _ _ _ h => h) (by rfl) (by intro W hW; go_simp <;> with_reducible rfl) hd0 ?_
        try simp only [Act.put, tkT, tk0, tkS]
        refine wpAnyL_last (k := 15) (by kernel_rfl) (by simp only [tkA, tkG]; rfl) (fun K hK => ?_)
        go_simp
        go_wp2_with fail
        refine hK.out _ _ ?_
        clear hK K
        refine wpAnyL_one (k := 16) (by kernel_rfl) (by simp only [tkA, tkG]; rfl) (fun K hK => ?_)
        go_simp
        try go_wp2_with fail
        refine hK.out _ _ (fun e => absurd (show (true : Bool) = false from e) (by decide)) ?_
        clear hK K
        refine wpAnyL_one (k := 17) (by kernel_rfl) (by simp only [tkA, tkG]; rfl) (fun K hK => ?_)
        go_simp
        try go_wp2_with fail
        refine hK.out _ _ (fun e => absurd (show (true : Bool) = false from e) (by decide)) ?_
        clear hK K
        refine wpAnyL_done (by kernel_rfl) ?_ _
        clear hd0 f1 f2 k2
        go_wp2_with fail
        go_roundw
        case rel => exact HR3.out
        case measure => simp [intOf]
    have hkn2 : l.drop k = [] := List.drop_of_length_le (by omega)
    have htk : l.take k = l := List.take_of_length_le (by omega)
    have HF : Hid (SortP w x g n cap (OrdP.srt key l) (.returned (.tuple #[])) wr) := Lib.hid ⟨rfl, by have := HS.out; rwa [hkn2, htk, List.append_nil] at this⟩
    have q1 : decide ((k : Int) < (n : Int)) = false := decide_eq_false (by omega)
    clear hkn2 htk HS
    go_wp2_with fail
    refine bodyPost_ret (v := .tuple #[]) (by simp [results, Try.results36, go_sem]) rfl ?_
    exact HF.out

def TupP (W : World) (e : Ending) (w' : World) : Prop := e = .returned (.tuple #[]) ∧ w' = W
set_option maxHeartbeats 1000000 in
theorem isort_nil (W : World) (f : Value) : Calls Try.prog 36 #[.slice none 0 0, .int .i64 0, .int .i64 0, f] W (TupP W) := by
  go_enter Try.func36, Try.ntmps36
  go_wp2_with fail
  go_loopw [8] (fun i wr => i = .int .i64 1 ∧ wr = W) (fun _ _ => 0)
  case atStart => exact ⟨rfl, rfl⟩
  case round =>
    obtain ⟨rfl, rfl⟩ := hrel
    go_wp2_with fail
    refine bodyPost_ret (v := .tuple #[]) (by simp [results, Try.results36, go_sem]) rfl ?_
    exact ⟨rfl, rfl⟩

/-- The same of any slice of indices. -/
def SortV (w : World) (x : CfgC) (v : Value) (l : List Nat) (W : World) : Prop :=
  BoxS w x W ∧ W.ownsRow (boxC w x).heap.size 3 1 v l.length (idxV l)
theorem SortV.step {w : World} {x : CfgC} {v : Value} {l : List Nat} {W W' : World} (h : SortV w x v l W) (hb : Below W.heap.size W W') : SortV w x v l W' := ⟨h.1.step hb, own_keep h.2 hb⟩
theorem SortV.more {w : World} {x : CfgC} {v v1 : Value} {l : List Nat} {W W1 : World} {k : Nat} (h : SortV w x v l W) (ho : W1.ownsRow (boxC w x).heap.size 3 1 v1 (l.length + 1) (idxV l ++ [.int .i64 (k : Nat)]))
    (ha : Apart (fun q => v.ownBlock = some q) W W1) : SortV w x v1 (l ++ [k]) W1 := by
  refine ⟨Below.trans h.1 (ha.below h.1.size (fun q hq => (h.2.lt q hq).1)), ?_⟩
  have e1 : (l ++ [k]).length = l.length + 1 := by simp
  have e2 : idxV (l ++ [k]) = idxV l ++ [.int .i64 (k : Nat)] := by simp [idxV]
  rw [e1, e2]
  exact ho
def SortVP (w : World) (x : CfgC) (v : Value) (l : List Nat) (e : Ending) (W : World) : Prop := e = .returned (.tuple #[]) ∧ SortV w x v l W

theorem isort_v (x : CfgC) (w : World) (h : CfgIn w x) (hpn : x.pn ≤ 12) (v : Value) (l : List Nat) (hn : l.length ≤ 12) (hlt : ∀ i ∈ l, i < x.pn) (W : World) (hW : SortV w x v l W) :
    Calls Try.prog 36 #[v, .int .i64 0, .int .i64 (l.length : Nat), .func (.func 29) #[] #[.pointer (some ⟨w.heap.size, 0, none⟩)]] W (SortVP w x v (OrdP.srt (OrdP.keyP x.parts) l)) := by
  rcases hW.2.2 with ⟨rfl, h0⟩ | ⟨g, cap, cur, rfl, hrest⟩
  · obtain rfl : l = [] := List.eq_nil_of_length_eq_zero h0
    refine (isort_nil W _).mono ?_
    rintro e w1 ⟨rfl, rfl⟩
    exact ⟨rfl, hW⟩
  · refine (isort_any x w h hpn g l.length cap l rfl hn hlt W hW).mono ?_
    rintro e w1 ⟨rfl, h1, h2⟩
    exact ⟨rfl, h1, by rw [OrdP.srt_length]; exact h2⟩

set_option maxHeartbeats 1000000 in
theorem stable_v (x : CfgC) (w : World) (h : CfgIn w x) (hpn : x.pn ≤ 12) (v : Value) (l : List Nat) (hn : l.length ≤ 12) (hlt : ∀ i ∈ l, i < x.pn) (W : World) (hW : SortV w x v l W) :
    Calls Try.prog 34 #[v, .int .i64 (l.length : Nat), .func (.func 29) #[] #[.pointer (some ⟨w.heap.size, 0, none⟩)]] W (SortVP w x v (OrdP.srt (OrdP.keyP x.parts) l)) := by
  have HI := Lib.hid (isort_v x w h hpn v l hn hlt W hW)
  clear h hW
  generalize OrdP.srt (OrdP.keyP x.parts) l = L at *
  generalize l.length = n at *
  have q1 : decide ((20 : Int) ≤ (n : Int)) = false := decide_eq_false (by omega)
  have q2 : decide ((20 : Int) < (n : Int)) = false := decide_eq_false (by omega)
  go_enter Try.func34, Try.ntmps34
  go_wp2_with fail
  go_loopw [7, 8] (fun b i wr => b = .int .i64 0 ∧ i = .int .i64 20 ∧ wr = W) (fun _ _ _ => 0)
  case atStart => exact ⟨rfl, rfl, rfl⟩
  case round =>
    obtain ⟨rfl, rfl, rfl⟩ := hrel
    go_wp2_with fail
    refine HI.out.mono ?_
    rintro e w1 ⟨rfl, hS⟩
    have HS := Lib.hid hS
    clear hS HI
    go_wp2_with fail
    go_loopw [6] (fun i wr => i = .int .i64 20 ∧ SortV w x v L wr) (fun _ _ => 0)
    case atStart => exact ⟨rfl, HS.out⟩
    case round =>
      clear HS
      obtain ⟨rfl, hS⟩ := hrel
      have HS := Lib.hid hS
      clear hS
      go_wp2_with fail
      refine bodyPost_ret (v := .tuple #[]) (by simp [results, Try.results34, go_sem]) rfl ?_
      exact ⟨rfl, HS.out⟩

theorem sortst_v (x : CfgC) (w : World) (h : CfgIn w x) (hpn : x.pn ≤ 12) (v : Value) (l : List Nat) (hn : l.length ≤ 12) (hlt : ∀ i ∈ l, i < x.pn) (W : World) (hW : SortV w x v l W) :
    Calls Try.prog 28 #[v, .func (.func 29) #[] #[.pointer (some ⟨w.heap.size, 0, none⟩)]] W (SortVP w x v (OrdP.srt (OrdP.keyP x.parts) l)) := by
  have HI := Lib.hid (stable_v x w h hpn v l hn hlt W hW)
  obtain ⟨A, cap, rfl, -⟩ := own_slice hW.2
  clear h hW
  generalize OrdP.srt (OrdP.keyP x.parts) l = L at *
  go_enter Try.func28, Try.ntmps28
  go_wp2_with fail
  refine HI.out.mono ?_
  rintro e w1 ⟨rfl, hS⟩
  have HS := Lib.hid hS
  clear hS HI
  go_wp2_with fail
  refine bodyPost_ret (v := .tuple #[]) (by simp [results, Try.results28, go_sem]) rfl ?_
  exact ⟨rfl, HS.out⟩

theorem infoI : (Try.prog.info? 3).map (fun i => (i.zero, i.size, i.bytes)) = some (some (.int .i64 0), 1, 8) := by kernel_rfl
def OrderPost (l : List Nat) (w : World) (e : Ending) (w' : World) : Prop := ∃ v, e = .returned v ∧ w'.ownsRow (w.heap.size + 1) 3 1 v l.length (idxV l) ∧ Below w.heap.size w w'
def OrdR (w : World) (x : CfgC) (node : Int) (v i : Value) (W : World) : Prop := ∃ k, k ≤ x.pn ∧ i = .int .i64 (k : Nat) ∧ SortV w x v (OrdP.pick x.parts node k) W

set_option maxHeartbeats 2000000 in
theorem order_any (x : CfgC) (node : Int) (w : World) (h : CfgIn w x) (hpn : x.pn ≤ 12) :
    Calls Try.prog 22 #[x.value, .int .i64 node] w (OrderPost (OrdP.ord x.parts node) w) := by
  have hpl := h.plen
  have HSo := Lib.hid (fun v W (hW : SortV w x v (OrdP.pick x.parts node x.pn) W) => sortst_v x w h hpn v _ (by have := OrdP.pick_length x.parts node x.pn; omega) (fun i hi => (OrdP.pick_mem hi).1) W hW)
  have HFin : Hid (∀ v W, SortV w x v (OrdP.srt (OrdP.keyP x.parts) (OrdP.pick x.parts node x.pn)) W → OrderPost (OrdP.ord x.parts node) w (.returned v) W) := Lib.hid fun v W hW => by
    refine ⟨v, rfl, ?_, hW.1.below⟩
    have := hW.2
    rw [boxC_size] at this
    unfold OrdP.ord
    rw [hpl]
    exact this
  have HPA := Lib.hid (fun W (hW : BoxS w x W) k p (hk : x.parts[k]? = some p) => parts_at (h.parts.below hW.below) hk)
  have hst := BoxS.start w x
  have HS0 : Hid (OrdR w x node (.slice none 0 0) (.int .i64 0) (boxC w x)) := Lib.hid ⟨0, Nat.zero_le _, rfl, hst, World.ownsRow_nil _ _ _ _⟩
  have HRW : Hid (∀ k p v W, x.parts[k]? = some p → p.node = node → SortV w x v (OrdP.pick x.parts node k ++ [k]) W → OrdR w x node v (.int .i64 ((k : Int) + 1)) W) := Lib.hid fun k p v W hk hp hW => by
    have := (List.getElem?_eq_some_iff.1 hk).1
    exact ⟨k + 1, by omega, by go_num, by rw [OrdP.pick_step hk, if_pos hp]; exact hW⟩
  have HRN : Hid (∀ k p v W, x.parts[k]? = some p → ¬ p.node = node → SortV w x v (OrdP.pick x.parts node k) W → OrdR w x node v (.int .i64 ((k : Int) + 1)) W) := Lib.hid fun k p v W hk hp hW => by
    have := (List.getElem?_eq_some_iff.1 hk).1
    exact ⟨k + 1, by omega, by go_num, by rw [OrdP.pick_step hk, if_neg hp]; exact hW⟩
  generalize OrdP.srt (OrdP.keyP x.parts) (OrdP.pick x.parts node x.pn) = L at *
  generalize OrdP.ord x.parts node = L2 at *
  clear h
  obtain ⟨nodes, faulty, slot, gap, rho, dmin, dmax, margin, PA, pn, pcap, parts, QA, qn, qcap, ports, RA, rn, rcap, routes⟩ := x
  obtain ⟨d0, d1, d2, d3, d4, d5, d6, d7, d8, d9, d10⟩ := cfgFacts (fun W (hW : BoxS w ⟨nodes, faulty, slot, gap, rho, dmin, dmax, margin, PA, pn, pcap, parts, QA, qn, qcap, ports, RA, rn, rcap, routes⟩ W) => hW.cells)
  obtain ⟨k0, k1, k2, k3, k4, k5, k6, k7, k8, k9, k10⟩ := eleven hst d0 d1 d2 d3 d4 d5 d6 d7 d8 d9 d10
  simp only at d0 d1 d2 d3 d4 d5 d6 d7 d8 d9 d10 k0 k1 k2 k3 k4 k5 k6 k7 k8 k9 k10 hpn hpl HPA HRW HRN
  simp only [boxC, cfgCells] at HS0 k0 k1 k2 k3 k4 k5 k6 k7 k8 k9 k10
  simp only [CfgC.value]
  clear hst
  go_enter Try.func22, Try.ntmps22
  go_wp2_with fail
  clear k0 k1 k2 k3 k4 k5 k6 k7 k8 k9 k10
  go_loopw [5, 11] (OrdR w ⟨nodes, faulty, slot, gap, rho, dmin, dmax, margin, PA, pn, pcap, parts, QA, qn, qcap, ports, RA, rn, rcap, routes⟩ node) (fun _ i _ => (pn + 1 - intOf i).toNat)
  case atStart => exact HS0.out
  case round =>
    clear HS0
    obtain ⟨k, hk, rfl, hS⟩ := hrel
    have HS := Lib.hid hS
    clear hS
    simp only at hk
    by_cases hlt : k < pn
    case pos =>
      obtain ⟨p, hmk⟩ : ∃ y, parts[k]? = some y := ⟨_, List.getElem?_eq_getElem (by omega)⟩
      obtain ⟨bp, op, ep, hbp, c0, c1, c2, c3, c4, c5, c6, c7, c8⟩ := HPA.out wr HS.out.1 k p hmk
      have HA := fun v W => HRW.out k p v W hmk
      have HB := fun v W => HRN.out k p v W hmk
      clear HRW HRN hmk
      obtain ⟨Av, cv, hv, -⟩ := own_slice HS.out.2
      simp only at hv HS
      subst ep hv
      obtain ⟨node1, start, length, budget, words, r0, r1, r2, r3⟩ := p
      simp only at c0 c1 c2 c3 c4 c5 c6 c7 c8 HA HB
      by_cases hnode : node1 = node
      case neg =>
        have q1 : (node1 == node) = false := by rw [beq_eq_false_iff_ne]; exact hnode
        have HR := Lib.hid (fun o => HB _ (wr.alloc o) hnode (HS.out.step ((Below.refl _ _).alloc (Nat.le_refl _) o)))
        clear HA HB HS hnode
        go_wp2_with fail
        go_roundw
        case rel => exact HR.out _
        case measure => simp [intOf]; omega
      have q1 : (node1 == node) = true := by rw [beq_iff_eq]; exact hnode
      have HL := Lib.hid (OrdP.pick_length parts node k)
      have HR := Lib.hid (fun v W => HA v W hnode)
      have HS1 := Lib.hid (fun o1 o2 => HS.out.step (((Below.refl wr.heap.size wr).alloc (Nat.le_refl _) o1).alloc (by simp) o2))
      clear HA HB HS hnode
      generalize OrdP.pick parts node k = PL at *
      go_wp2_with (first
      | (at_builtin
         refine wpList_append_s rfl (.tmp 20) (.tmp 22) _ rfl (boxC w ⟨nodes, faulty, slot, gap, rho, dmin, dmax, margin, some ⟨bp, op, none⟩, pn, pcap, parts, QA, qn, qcap, ports, RA, rn, rcap, routes⟩).heap.size 3 _ 1 8 Try.underlying34 infoI rfl (by omega) _ PL.length (idxV PL) rfl (HS1.out _ _).2 (some ⟨wr.heap.size + 1, 0, none⟩) 1 1 [.int .i64 (k : Nat)] rfl rfl ?n1 ?n2 (by have := HL.out; unfold maxLen; omega) (by have := HL.out; omega) (HS1.out _ _).1.size ?_
         case n1 => exact fun _ => ⟨_, rfl, fun j u hj => by
           match j, hj with
           | 0, hj =>
             cases hj
             have h9 := heap_alloc_new (wr.alloc (.cells #[.int .i64 node1, .int .i64 start, .int .i64 length, .int .i64 budget, .int .i64 words, .int .u8 (r0 : Nat), .int .u8 (r1 : Nat), .int .u8 (r2 : Nat), .int .u8 (r3 : Nat)] 39)) (.cells #[.int .i64 (k : Nat)] 3 (0, 0))
             rw [show (wr.alloc (.cells #[.int .i64 node1, .int .i64 start, .int .i64 length, .int .i64 budget, .int .i64 words, .int .u8 (r0 : Nat), .int .u8 (r1 : Nat), .int .u8 (r2 : Nat), .int .u8 (r3 : Nat)] 39)).heap.size = wr.heap.size + 1 from Array.size_push _] at h9
             exact cell_at h9 0 rfl⟩
         case n2 => intro u hu; rw [List.mem_singleton.1 hu]; rfl
         intro v1 w1 ho1 ha1 hb1
         have HR1 : Hid (OrdR w ⟨nodes, faulty, slot, gap, rho, dmin, dmax, margin, some ⟨bp, op, none⟩, pn, pcap, parts, QA, qn, qcap, ports, RA, rn, rcap, routes⟩ node v1 (.int .i64 ((k : Int) + 1)) w1) := Lib.hid (HR.out v1 w1 ((HS1.out _ _).more ho1 ha1))
         clear ho1 ha1 hb1)
      | fail)
      go_roundw
      case rel => exact HR1.out
      case measure => simp [intOf]; omega
    have hkn : pn = k := by omega
    subst hkn
    have HSr := Lib.hid (HSo.out _ wr HS.out)
    clear HS HSo
    go_wp2_with fail
    refine HSr.out.mono ?_
    rintro e w1 ⟨rfl, hS⟩
    have HF := Lib.hid (HFin.out _ _ hS)
    clear hS
    go_wp2_with fail
    go_ret
    exact HF.out
end Go.Proofs.Ytfgpfmhjnccccaa
