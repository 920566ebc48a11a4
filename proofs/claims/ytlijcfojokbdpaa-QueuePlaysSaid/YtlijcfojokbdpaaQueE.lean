/- Contracts of queue's rise and sink. Conditions: where the queue lies; the places are within it; at most 4096 entries; a heap but for one place. -/
import Derived.Test.YtlijcfojokbdpaaQueD
namespace Go.Proofs.Ytlijcfojokbdpaa
open Go.RowKit
set_option maxRecDepth 100000

/-- The entries are a heap again. -/
def SiftP (w : World) (B Q g n cap : Nat) (es : List QueP.Ent) (puts : Int) (e : Ending) (w' : World) : Prop :=
  e = .returned (.tuple #[]) ∧ ∃ es1, es1.Perm es ∧ QueP.Heap QueP.le es1 ∧ QueIn w' B Q (.slice (some ⟨g, 0, none⟩) n cap) es1 puts ∧ Apart (fun k => k = g) w w'
def RiseR (w : World) (B Q g n cap : Nat) (es : List QueP.Ent) (puts : Int) (p : Value) (W : World) : Prop :=
  ∃ (i : Nat) (es1 : List QueP.Ent), i < n ∧ es1.Perm es ∧ QueP.UpAt QueP.le es1 i ∧ p = .int .i64 (i : Nat) ∧ QueIn W B Q (.slice (some ⟨g, 0, none⟩) n cap) es1 puts ∧ Apart (fun k => k = g) w W
def SinkR (w : World) (B Q g n cap : Nat) (es : List QueP.Ent) (puts : Int) (p q : Value) (W : World) : Prop :=
  ∃ (i c : Nat) (es1 : List QueP.Ent), (n = 0 ∧ i = 0 ∨ i < n) ∧ es1.Perm es ∧ QueP.DownAt QueP.le es1 i ∧ QueP.FirstAt es1 i 2 c ∧ p = .int .i64 (i : Nat) ∧ q = .int .i64 (c : Nat) ∧ QueIn W B Q (.slice (some ⟨g, 0, none⟩) n cap) es1 puts ∧ Apart (fun k => k = g) w W

set_option maxHeartbeats 4000000 in
theorem rise_any (w : World) (B Q g n cap : Nat) (es : List QueP.Ent) (puts : Int) (i : Nat) (h : QueIn w B Q (.slice (some ⟨g, 0, none⟩) n cap) es puts) (hn : es.length = n) (hn2 : n ≤ 4096) (hi : i < n) (hu : QueP.UpAt QueP.le es i) :
    Calls Try.prog 14 #[.pointer (some ⟨Q, 0, none⟩), .int .i64 (i : Nat)] w (SiftP w B Q g n cap es puts) := by
  have HB := Lib.hid (fun p W h0 h1 => above_any p W h0 h1)
  have HA := Lib.hid (fun a b W => ahead_any a b W)
  have HW := Lib.hid (fun W es1 a b h0 h1 x y hx hy => swap_any W B Q g n cap es1 puts a b h0 h1 x y hx hy)
  have hS : Hid (RiseR w B Q g n cap es puts (.int .i64 (i : Nat)) w) := Lib.hid ⟨i, es, hi, List.Perm.refl _, hu, rfl, h, Apart.refl _ _⟩
  have HN := Lib.hid hn
  clear h hi hu hn
  go_enter Try.func14, Try.ntmps14
  go_wp2_with fail
  go_loopw [1] (RiseR w B Q g n cap es puts) (fun p _ => (intOf p).toNat)
  case atStart => exact hS.out
  case round =>
    clear hS
    obtain ⟨k, es1, hk, hp, hu, rfl, hq, ha⟩ := hrel
    have hn1 : es1.length = n := hp.length_eq.trans HN.out
    by_cases hk0 : k = 0
    · subst hk0
      have HR : Hid (∀ W, Below wr.heap.size wr W → SiftP w B Q g n cap es puts (.returned (.tuple #[])) W) := Lib.hid fun W hW => ⟨rfl, es1, hp, QueP.up_end hu (.inl rfl), hq.keep hW, ha.trans (Apart.of_below' (F := fun _ => False) hW) (fun _ h => h.elim)⟩
      have hd0 := hq.drew
      clear hp hu hq ha hn1
      go_wp2_with fail
      refine wp_region_held_drew (S := fun W => QueIn W B Q (.slice (some ⟨g, 0, none⟩) n cap) es1 puts) (by kernel_rfl) hd0 (fun _ => ?_)
      refine wpAnyH_take (i := 0) (oi := ?oo1) (v := ?vv1) ?ii1 (by kernel_rfl) ?ff1 (by kernel_rfl) ?qq1 (Or.inl ⟨?ww1, ?yy1⟩) hd0 ?rr1
      case ii1 => simp only [List.getElem?_toArray, List.getElem?_cons_zero]; rfl
      case ff1 => kernel_rfl
      case qq1 => exact fun _ _ _ h => h
      case ww1 => rfl
      case yy1 => intro W hW; go_simp <;> with_reducible rfl
      try simp only [Act.put, List.setIfInBounds_toArray, List.set_cons_zero, List.set_cons_succ]
      refine wpAnyH_take (i := 1) (oi := ?oo2) (v := ?vv2) ?ii2 (by kernel_rfl) ?ff2 (by kernel_rfl) ?qq2 (Or.inl ⟨?ww2, ?yy2⟩) hd0 ?rr2
      case ii2 => simp only [List.getElem?_toArray, List.getElem?_cons_succ, List.getElem?_cons_zero]; rfl
      case ff2 => kernel_rfl
      case qq2 => exact fun _ _ _ h => h
      case ww2 => rfl
      case yy2 => intro W hW; go_simp <;> with_reducible rfl
      try simp only [Act.put, List.setIfInBounds_toArray, List.set_cons_zero, List.set_cons_succ]
      refine wpAnyH_take (i := 2) (oi := ?oo3) (v := ?vv3) ?ii3 (by kernel_rfl) ?ff3 (by kernel_rfl) ?qq3 (Or.inl ⟨?ww3, ?yy3⟩) hd0 ?rr3
      case ii3 => simp only [List.getElem?_toArray, List.getElem?_cons_succ, List.getElem?_cons_zero]; rfl
      case ff3 => kernel_rfl
      case qq3 => exact fun _ _ _ h => h
      case ww3 => rfl
      case yy3 => intro W hW; go_simp <;> with_reducible rfl
      try simp only [Act.put, List.setIfInBounds_toArray, List.set_cons_zero, List.set_cons_succ]
      refine wpAnyH_take (i := 3) (oi := ?oo4) (v := undef) ?ii4 (by kernel_rfl) ?ff4 (by kernel_rfl) ?qq4 (Or.inr ⟨?ww4, rfl⟩) hd0 ?rr4
      case ii4 => simp only [List.getElem?_toArray, List.getElem?_cons_succ, List.getElem?_cons_zero]; rfl
      case ff4 => kernel_rfl
      case qq4 => exact fun _ _ _ h => h
      case ww4 => rfl
      try simp only [Act.put, List.setIfInBounds_toArray, List.set_cons_zero, List.set_cons_succ]
      refine wpAnyH_take (i := 4) (oi := ?oo5) (v := undef) ?ii5 (by kernel_rfl) ?ff5 (by kernel_rfl) ?qq5 (Or.inr ⟨?ww5, rfl⟩) hd0 ?rr5
      case ii5 => simp only [List.getElem?_toArray, List.getElem?_cons_succ, List.getElem?_cons_zero]; rfl
      case ff5 => kernel_rfl
      case qq5 => exact fun _ _ _ h => h
      case ww5 => rfl
      try simp only [Act.put, List.setIfInBounds_toArray, List.set_cons_zero, List.set_cons_succ]
      refine wpAnyH_take (i := 5) (oi := ?oo6) (v := undef) ?ii6 (by kernel_rfl) ?ff6 (by kernel_rfl) ?qq6 (Or.inr ⟨?ww6, rfl⟩) hd0 ?rr6
      case ii6 => simp only [List.getElem?_toArray, List.getElem?_cons_succ, List.getElem?_cons_zero]; rfl
      case ff6 => kernel_rfl
      case qq6 => exact fun _ _ _ h => h
      case ww6 => rfl
      try simp only [Act.put, List.setIfInBounds_toArray, List.set_cons_zero, List.set_cons_succ]
      refine wpAnyH_take (i := 6) (oi := ?oo7) (v := undef) ?ii7 (by kernel_rfl) ?ff7 (by kernel_rfl) ?qq7 (Or.inr ⟨?ww7, rfl⟩) hd0 ?rr7
      case ii7 => simp only [List.getElem?_toArray, List.getElem?_cons_succ, List.getElem?_cons_zero]; rfl
      case ff7 => kernel_rfl
      case qq7 => exact fun _ _ _ h => h
      case ww7 => rfl
      try simp only [Act.put, List.setIfInBounds_toArray, List.set_cons_zero, List.set_cons_succ]
      refine wpAnyH_take (i := 7) (oi := ?oo8) (v := undef) ?ii8 (by kernel_rfl) ?ff8 (by kernel_rfl) ?qq8 (Or.inr ⟨?ww8, rfl⟩) hd0 ?rr8
      case ii8 => simp only [List.getElem?_toArray, List.getElem?_cons_succ, List.getElem?_cons_zero]; rfl
      case ff8 => kernel_rfl
      case qq8 => exact fun _ _ _ h => h
      case ww8 => rfl
      try simp only [Act.put, List.setIfInBounds_toArray, List.set_cons_zero, List.set_cons_succ]
      refine wpAnyH_take (i := 8) (oi := ?oo9) (v := undef) ?ii9 (by kernel_rfl) ?ff9 (by kernel_rfl) ?qq9 (Or.inr ⟨?ww9, rfl⟩) hd0 ?rr9
      case ii9 => simp only [List.getElem?_toArray, List.getElem?_cons_succ, List.getElem?_cons_zero]; rfl
      case ff9 => kernel_rfl
      case qq9 => exact fun _ _ _ h => h
      case ww9 => rfl
      try simp only [Act.put, List.setIfInBounds_toArray, List.set_cons_zero, List.set_cons_succ]
      refine wpAnyH_take (i := 9) (oi := ?oo10) (v := undef) ?ii10 (by kernel_rfl) ?ff10 (by kernel_rfl) ?qq10 (Or.inr ⟨?ww10, rfl⟩) hd0 ?rr10
      case ii10 => simp only [List.getElem?_toArray, List.getElem?_cons_succ, List.getElem?_cons_zero]; rfl
      case ff10 => kernel_rfl
      case qq10 => exact fun _ _ _ h => h
      case ww10 => rfl
      try simp only [Act.put, List.setIfInBounds_toArray, List.set_cons_zero, List.set_cons_succ]
      refine wpAnyH_take (i := 10) (oi := ?oo11) (v := undef) ?ii11 (by kernel_rfl) ?ff11 (by kernel_rfl) ?qq11 (Or.inr ⟨?ww11, rfl⟩) hd0 ?rr11
      case ii11 => simp only [List.getElem?_toArray, List.getElem?_cons_succ, List.getElem?_cons_zero]; rfl
      case ff11 => kernel_rfl
      case qq11 => exact fun _ _ _ h => h
      case ww11 => rfl
      try simp only [Act.put, List.setIfInBounds_toArray, List.set_cons_zero, List.set_cons_succ]
      refine wpAnyH_take (i := 11) (oi := ?oo12) (v := undef) ?ii12 (by kernel_rfl) ?ff12 (by kernel_rfl) ?qq12 (Or.inr ⟨?ww12, rfl⟩) hd0 ?rr12
      case ii12 => simp only [List.getElem?_toArray, List.getElem?_cons_succ, List.getElem?_cons_zero]; rfl
      case ff12 => kernel_rfl
      case qq12 => exact fun _ _ _ h => h
      case ww12 => rfl
      try simp only [Act.put, List.setIfInBounds_toArray, List.set_cons_zero, List.set_cons_succ]
      refine wpAnyH_take (i := 12) (oi := ?oo13) (v := undef) ?ii13 (by kernel_rfl) ?ff13 (by kernel_rfl) ?qq13 (Or.inr ⟨?ww13, rfl⟩) hd0 ?rr13
      case ii13 => simp only [List.getElem?_toArray, List.getElem?_cons_succ, List.getElem?_cons_zero]; rfl
      case ff13 => kernel_rfl
      case qq13 => exact fun _ _ _ h => h
      case ww13 => rfl
      try simp only [Act.put, List.setIfInBounds_toArray, List.set_cons_zero, List.set_cons_succ]
      refine wpAnyH_take (i := 13) (oi := ?oo14) (v := undef) ?ii14 (by kernel_rfl) ?ff14 (by kernel_rfl) ?qq14 (Or.inr ⟨?ww14, rfl⟩) hd0 ?rr14
      case ii14 => simp only [List.getElem?_toArray, List.getElem?_cons_succ, List.getElem?_cons_zero]; rfl
      case ff14 => kernel_rfl
      case qq14 => exact fun _ _ _ h => h
      case ww14 => rfl
      try simp only [Act.put, List.setIfInBounds_toArray, List.set_cons_zero, List.set_cons_succ]
      refine wpAnyH_take (i := 14) (oi := ?oo15) (v := undef) ?ii15 (by kernel_rfl) ?ff15 (by kernel_rfl) ?qq15 (Or.inr ⟨?ww15, rfl⟩) hd0 ?rr15
      case ii15 => simp only [List.getElem?_toArray, List.getElem?_cons_succ, List.getElem?_cons_zero]; rfl
      case ff15 => kernel_rfl
      case qq15 => exact fun _ _ _ h => h
      case ww15 => rfl
      try simp only [Act.put, List.setIfInBounds_toArray, List.set_cons_zero, List.set_cons_succ]
      refine wpAnyH_take (i := 15) (oi := ?oo16) (v := undef) ?ii16 (by kernel_rfl) ?ff16 (by kernel_rfl) ?qq16 (Or.inr ⟨?ww16, rfl⟩) hd0 ?rr16
      case ii16 => simp only [List.getElem?_toArray, List.getElem?_cons_succ, List.getElem?_cons_zero]; rfl
      case ff16 => kernel_rfl
      case qq16 => exact fun _ _ _ h => h
      case ww16 => rfl
      try simp only [Act.put, List.setIfInBounds_toArray, List.set_cons_zero, List.set_cons_succ]
      refine wpAnyH_take (i := 16) (oi := ?oo17) (v := undef) ?ii17 (by kernel_rfl) ?ff17 (by kernel_rfl) ?qq17 (Or.inr ⟨?ww17, rfl⟩) hd0 ?rr17
      case ii17 => simp only [List.getElem?_toArray, List.getElem?_cons_succ, List.getElem?_cons_zero]; rfl
      case ff17 => kernel_rfl
      case qq17 => exact fun _ _ _ h => h
      case ww17 => rfl
      try simp only [Act.put, List.setIfInBounds_toArray, List.set_cons_zero, List.set_cons_succ]
      refine wpAnyH_take (i := 17) (oi := ?oo18) (v := undef) ?ii18 (by kernel_rfl) ?ff18 (by kernel_rfl) ?qq18 (Or.inr ⟨?ww18, rfl⟩) hd0 ?rr18
      case ii18 => simp only [List.getElem?_toArray, List.getElem?_cons_succ, List.getElem?_cons_zero]; rfl
      case ff18 => kernel_rfl
      case qq18 => exact fun _ _ _ h => h
      case ww18 => rfl
      try simp only [Act.put, List.setIfInBounds_toArray, List.set_cons_zero, List.set_cons_succ]
      refine wpAnyH_take (i := 18) (oi := ?oo19) (v := undef) ?ii19 (by kernel_rfl) ?ff19 (by kernel_rfl) ?qq19 (Or.inr ⟨?ww19, rfl⟩) hd0 ?rr19
      case ii19 => simp only [List.getElem?_toArray, List.getElem?_cons_succ, List.getElem?_cons_zero]; rfl
      case ff19 => kernel_rfl
      case qq19 => exact fun _ _ _ h => h
      case ww19 => rfl
      try simp only [Act.put, List.setIfInBounds_toArray, List.set_cons_zero, List.set_cons_succ]
      refine wpAnyH_take (i := 19) (oi := ?oo20) (v := ?vv20) ?ii20 (by kernel_rfl) ?ff20 (by kernel_rfl) ?qq20 (Or.inl ⟨?ww20, ?yy20⟩) hd0 ?rr20
      case ii20 => simp only [List.getElem?_toArray, List.getElem?_cons_succ, List.getElem?_cons_zero]; rfl
      case ff20 => kernel_rfl
      case qq20 => exact fun _ _ _ h => h
      case ww20 => rfl
      case yy20 => intro W hW; go_simp <;> with_reducible rfl
      try simp only [Act.put, List.setIfInBounds_toArray, List.set_cons_zero, List.set_cons_succ]
      refine wpAnyH_done (by kernel_rfl) ?_ _
      have HR2 := Lib.hid (HR.out _ (Below.refl _ _).drew)
      clear hd0 HR
      go_wp2_with fail
      refine bodyPost_ret (v := .tuple #[]) (by simp [results, Try.results14, go_sem]) rfl ?_
      exact HR2.out
    have hk1 : 0 < k := by omega
    obtain ⟨p, hpe⟩ : ∃ p : Nat, p = (k - 1) / 2 := ⟨_, rfl⟩
    have hpk : p < k := by omega
    have hpn : p < n := by omega
    obtain ⟨⟨⟨x0, x1, x2⟩, x3⟩, hx⟩ : ∃ x, es1[k]? = some x := ⟨_, List.getElem?_eq_getElem (by omega)⟩
    obtain ⟨⟨⟨y0, y1, y2⟩, y3⟩, hy⟩ : ∃ y, es1[p]? = some y := ⟨_, List.getElem?_eq_getElem (by omega)⟩
    have kh : ∀ W, QueIn W B Q (.slice (some ⟨g, 0, none⟩) n cap) es1 puts → W.cell? ⟨Q, 0, none⟩ = some (.slice (some ⟨g, 0, none⟩) n cap) := fun W hW => hW.head
    have kx0 : ∀ W, QueIn W B Q (.slice (some ⟨g, 0, none⟩) n cap) es1 puts → W.cell? ⟨g, k * 4, none⟩ = some (.int .i64 x0) := fun W hW => (hW.ent hn1 hx).c0
    have kx1 : ∀ W, QueIn W B Q (.slice (some ⟨g, 0, none⟩) n cap) es1 puts → W.cell? ⟨g, k * 4 + 1, none⟩ = some (.int .i64 x1) := fun W hW => (hW.ent hn1 hx).c1
    have kx2 : ∀ W, QueIn W B Q (.slice (some ⟨g, 0, none⟩) n cap) es1 puts → W.cell? ⟨g, k * 4 + 2, none⟩ = some (.int .i64 x2) := fun W hW => (hW.ent hn1 hx).c2
    have kx3 : ∀ W, QueIn W B Q (.slice (some ⟨g, 0, none⟩) n cap) es1 puts → W.cell? ⟨g, k * 4 + 3, none⟩ = some (.int .i64 x3) := fun W hW => (hW.ent hn1 hx).c3
    have ky0 : ∀ W, QueIn W B Q (.slice (some ⟨g, 0, none⟩) n cap) es1 puts → W.cell? ⟨g, p * 4, none⟩ = some (.int .i64 y0) := fun W hW => (hW.ent hn1 hy).c0
    have ky1 : ∀ W, QueIn W B Q (.slice (some ⟨g, 0, none⟩) n cap) es1 puts → W.cell? ⟨g, p * 4 + 1, none⟩ = some (.int .i64 y1) := fun W hW => (hW.ent hn1 hy).c1
    have ky2 : ∀ W, QueIn W B Q (.slice (some ⟨g, 0, none⟩) n cap) es1 puts → W.cell? ⟨g, p * 4 + 2, none⟩ = some (.int .i64 y2) := fun W hW => (hW.ent hn1 hy).c2
    have ky3 : ∀ W, QueIn W B Q (.slice (some ⟨g, 0, none⟩) n cap) es1 puts → W.cell? ⟨g, p * 4 + 3, none⟩ = some (.int .i64 y3) := fun W hW => (hW.ent hn1 hy).c3
    have HAc := Lib.hid (fun W => HA.out ⟨⟨x0, x1, x2⟩, x3⟩ ⟨⟨y0, y1, y2⟩, y3⟩ W)
    have HBc := Lib.hid (fun W => HB.out k W hk1 (by omega))
    rw [← hpe] at HBc
    have HWc := Lib.hid (fun W hW => HW.out W es1 k p hW hn1 _ _ hx hy)
    have HRt : Hid (QueP.aheadB ⟨⟨x0, x1, x2⟩, x3⟩ ⟨⟨y0, y1, y2⟩, y3⟩ = true → ∀ W1 W2 W3, Below wr.heap.size wr W1 → QueIn W2 B Q (.slice (some ⟨g, 0, none⟩) n cap) ((es1.set k ⟨⟨y0, y1, y2⟩, y3⟩).set p ⟨⟨x0, x1, x2⟩, x3⟩) puts → Apart (fun k => k = g) W1 W2 → Below W2.heap.size W2 W3 → RiseR w B Q g n cap es puts (.int .i64 (p : Nat)) W3) := Lib.hid fun hA W1 W2 W3 h1 h2 h3 h4 => by
      refine ⟨p, _, by omega, (QueP.perm_swap hx hy).trans hp, ?_, rfl, h2.keep h4, ((ha.trans (Apart.of_below' (F := fun _ => False) h1) (fun _ h => h.elim)).trans h3 (fun _ e => .inl e)).trans (Apart.of_below' (F := fun _ => False) h4) (fun _ h => h.elim)⟩
      have := QueP.up_step QueP.le_trans hu hk1 hx (by rw [← hpe]; exact hy) (QueP.aheadB_true hA)
      rw [← hpe] at this
      exact this
    have HRf : Hid (QueP.aheadB ⟨⟨x0, x1, x2⟩, x3⟩ ⟨⟨y0, y1, y2⟩, y3⟩ = false → ∀ W, Below wr.heap.size wr W → SiftP w B Q g n cap es puts (.returned (.tuple #[])) W) := Lib.hid fun hA W hW => by
      refine ⟨rfl, es1, hp, QueP.up_end hu (.inr ?_), hq.keep hW, ha.trans (Apart.of_below' (F := fun _ => False) hW) (fun _ h => h.elim)⟩
      intro a b h1 h2
      rw [← hpe, hy] at h1
      rw [hx] at h2
      cases h1; cases h2
      exact QueP.aheadB_false hA
    have hd0 := hq.drew
    have q2 : decide ((0 : Int) < (k : Int)) = true := decide_eq_true (by omega)
    have q3 : decide (0 < k) = true := decide_eq_true (by omega)
    unfold entV at HAc
    simp only at HAc
    generalize QueP.aheadB ⟨⟨x0, x1, x2⟩, x3⟩ ⟨⟨y0, y1, y2⟩, y3⟩ = bb at *
    have Hq := Lib.hid hq
    clear hx hy hn1 hpe hp hu hq ha
    go_wp2_with fail
    refine wp_region_held_drew (S := fun W => QueIn W B Q (.slice (some ⟨g, 0, none⟩) n cap) es1 puts) (by kernel_rfl) hd0 (fun _ => ?_)
    refine wpAnyH_take (i := 0) (oi := ?oo21) (v := ?vv21) ?ii21 (by kernel_rfl) ?ff21 (by kernel_rfl) ?qq21 (Or.inl ⟨?ww21, ?yy21⟩) hd0 ?rr21
    case ii21 => simp only [List.getElem?_toArray, List.getElem?_cons_zero]; rfl
    case ff21 => kernel_rfl
    case qq21 => exact fun _ _ _ h => h
    case ww21 => rfl
    case yy21 => intro W hW; go_simp <;> with_reducible rfl
    try simp only [Act.put, List.setIfInBounds_toArray, List.set_cons_zero, List.set_cons_succ]
    refine wpAnyH_take (i := 1) (oi := ?oo22) (v := ?vv22) ?ii22 (by kernel_rfl) ?ff22 (by kernel_rfl) ?qq22 (Or.inl ⟨?ww22, ?yy22⟩) hd0 ?rr22
    case ii22 => simp only [List.getElem?_toArray, List.getElem?_cons_succ, List.getElem?_cons_zero]; rfl
    case ff22 => kernel_rfl
    case qq22 => exact fun _ _ _ h => h
    case ww22 => rfl
    case yy22 => intro W hW; go_simp <;> with_reducible rfl
    try simp only [Act.put, List.setIfInBounds_toArray, List.set_cons_zero, List.set_cons_succ]
    refine wpAnyH_take (i := 2) (oi := ?oo23) (v := ?vv23) ?ii23 (by kernel_rfl) ?ff23 (by kernel_rfl) ?qq23 (Or.inl ⟨?ww23, ?yy23⟩) hd0 ?rr23
    case ii23 => simp only [List.getElem?_toArray, List.getElem?_cons_succ, List.getElem?_cons_zero]; rfl
    case ff23 => kernel_rfl
    case qq23 => exact fun _ _ _ h => h
    case ww23 => rfl
    case yy23 => intro W hW; go_simp <;> with_reducible rfl
    try simp only [Act.put, List.setIfInBounds_toArray, List.set_cons_zero, List.set_cons_succ]
    refine wpAnyH_take (i := 3) (oi := ?oo24) (v := ?vv24) ?ii24 (by kernel_rfl) ?ff24 (by kernel_rfl) ?qq24 (Or.inl ⟨?ww24, ?yy24⟩) hd0 ?rr24
    case ii24 => simp only [List.getElem?_toArray, List.getElem?_cons_succ, List.getElem?_cons_zero]; rfl
    case ff24 => kernel_rfl
    case qq24 => exact fun _ _ _ h => h
    case ww24 => rfl
    case yy24 => intro W hW; go_simp <;> with_reducible rfl
    try simp only [Act.put, List.setIfInBounds_toArray, List.set_cons_zero, List.set_cons_succ]
    refine wpAnyH_take (i := 4) (oi := ?oo25) (v := ?vv25) ?ii25 (by kernel_rfl) ?ff25 (by kernel_rfl) ?qq25 (Or.inl ⟨?ww25, ?yy25⟩) hd0 ?rr25
    case ii25 => simp only [List.getElem?_toArray, List.getElem?_cons_succ, List.getElem?_cons_zero]; rfl
    case ff25 => kernel_rfl
    case qq25 => exact fun _ _ _ h => h
    case ww25 => rfl
    case yy25 => intro W hW; go_simp <;> with_reducible rfl
    try simp only [Act.put, List.setIfInBounds_toArray, List.set_cons_zero, List.set_cons_succ]
    refine wpAnyH_take (i := 5) (oi := ?oo26) (v := ?vv26) ?ii26 (by kernel_rfl) ?ff26 (by kernel_rfl) ?qq26 (Or.inl ⟨?ww26, ?yy26⟩) hd0 ?rr26
    case ii26 => simp only [List.getElem?_toArray, List.getElem?_cons_succ, List.getElem?_cons_zero]; rfl
    case ff26 => kernel_rfl
    case qq26 => exact fun _ _ _ h => h
    case ww26 => rfl
    case yy26 => intro W hW; go_simp <;> with_reducible rfl
    try simp only [Act.put, List.setIfInBounds_toArray, List.set_cons_zero, List.set_cons_succ]
    refine wpAnyH_take (i := 6) (oi := ?oo27) (v := ?vv27) ?ii27 (by kernel_rfl) ?ff27 (by kernel_rfl) ?qq27 (Or.inl ⟨?ww27, ?yy27⟩) hd0 ?rr27
    case ii27 => simp only [List.getElem?_toArray, List.getElem?_cons_succ, List.getElem?_cons_zero]; rfl
    case ff27 => kernel_rfl
    case qq27 => exact fun _ _ _ h => h
    case ww27 => rfl
    case yy27 => intro W hW; go_simp <;> with_reducible rfl
    try simp only [Act.put, List.setIfInBounds_toArray, List.set_cons_zero, List.set_cons_succ]
    refine wpAnyH_take (i := 7) (oi := ?oo28) (v := ?vv28) ?ii28 (by kernel_rfl) ?ff28 (by kernel_rfl) ?qq28 (Or.inl ⟨?ww28, ?yy28⟩) hd0 ?rr28
    case ii28 => simp only [List.getElem?_toArray, List.getElem?_cons_succ, List.getElem?_cons_zero]; rfl
    case ff28 => kernel_rfl
    case qq28 => exact fun _ _ _ h => h
    case ww28 => rfl
    case yy28 => intro W hW; go_simp <;> with_reducible rfl
    try simp only [Act.put, List.setIfInBounds_toArray, List.set_cons_zero, List.set_cons_succ]
    refine wpAnyH_take (i := 8) (oi := ?oo29) (v := ?vv29) ?ii29 (by kernel_rfl) ?ff29 (by kernel_rfl) ?qq29 (Or.inl ⟨?ww29, ?yy29⟩) hd0 ?rr29
    case ii29 => simp only [List.getElem?_toArray, List.getElem?_cons_succ, List.getElem?_cons_zero]; rfl
    case ff29 => kernel_rfl
    case qq29 => exact fun _ _ _ h => h
    case ww29 => rfl
    case yy29 => intro W hW; go_simp <;> with_reducible rfl
    try simp only [Act.put, List.setIfInBounds_toArray, List.set_cons_zero, List.set_cons_succ]
    refine wpAnyH_take (i := 9) (oi := ?oo30) (v := ?vv30) ?ii30 (by kernel_rfl) ?ff30 (by kernel_rfl) ?qq30 (Or.inl ⟨?ww30, ?yy30⟩) hd0 ?rr30
    case ii30 => simp only [List.getElem?_toArray, List.getElem?_cons_succ, List.getElem?_cons_zero]; rfl
    case ff30 => kernel_rfl
    case qq30 => exact fun _ _ _ h => h
    case ww30 => rfl
    case yy30 => intro W hW; go_simp <;> with_reducible rfl
    try simp only [Act.put, List.setIfInBounds_toArray, List.set_cons_zero, List.set_cons_succ]
    refine wpAnyH_take (i := 10) (oi := ?oo31) (v := ?vv31) ?ii31 (by kernel_rfl) ?ff31 (by kernel_rfl) ?qq31 (Or.inl ⟨?ww31, ?yy31⟩) hd0 ?rr31
    case ii31 => simp only [List.getElem?_toArray, List.getElem?_cons_succ, List.getElem?_cons_zero]; rfl
    case ff31 => kernel_rfl
    case qq31 => exact fun _ _ _ h => h
    case ww31 => rfl
    case yy31 => intro W hW; go_simp <;> with_reducible rfl
    try simp only [Act.put, List.setIfInBounds_toArray, List.set_cons_zero, List.set_cons_succ]
    refine wpAnyH_take (i := 11) (oi := ?oo32) (v := ?vv32) ?ii32 (by kernel_rfl) ?ff32 (by kernel_rfl) ?qq32 (Or.inl ⟨?ww32, ?yy32⟩) hd0 ?rr32
    case ii32 => simp only [List.getElem?_toArray, List.getElem?_cons_succ, List.getElem?_cons_zero]; rfl
    case ff32 => kernel_rfl
    case qq32 => exact fun _ _ _ h => h
    case ww32 => rfl
    case yy32 => intro W hW; go_simp <;> with_reducible rfl
    try simp only [Act.put, List.setIfInBounds_toArray, List.set_cons_zero, List.set_cons_succ]
    refine wpAnyH_take (i := 12) (oi := ?oo33) (v := ?vv33) ?ii33 (by kernel_rfl) ?ff33 (by kernel_rfl) ?qq33 (Or.inl ⟨?ww33, ?yy33⟩) hd0 ?rr33
    case ii33 => simp only [List.getElem?_toArray, List.getElem?_cons_succ, List.getElem?_cons_zero]; rfl
    case ff33 => kernel_rfl
    case qq33 => exact fun _ _ _ h => h
    case ww33 => rfl
    case yy33 => intro W hW; go_simp <;> with_reducible rfl
    try simp only [Act.put, List.setIfInBounds_toArray, List.set_cons_zero, List.set_cons_succ]
    refine wpAnyH_take (i := 13) (oi := ?oo34) (v := ?vv34) ?ii34 (by kernel_rfl) ?ff34 (by kernel_rfl) ?qq34 (Or.inl ⟨?ww34, ?yy34⟩) hd0 ?rr34
    case ii34 => simp only [List.getElem?_toArray, List.getElem?_cons_succ, List.getElem?_cons_zero]; rfl
    case ff34 => kernel_rfl
    case qq34 => exact fun _ _ _ h => h
    case ww34 => rfl
    case yy34 => intro W hW; go_simp <;> with_reducible rfl
    try simp only [Act.put, List.setIfInBounds_toArray, List.set_cons_zero, List.set_cons_succ]
    refine wpAnyH_take (i := 14) (oi := ?oo35) (v := ?vv35) ?ii35 (by kernel_rfl) ?ff35 (by kernel_rfl) ?qq35 (Or.inl ⟨?ww35, ?yy35⟩) hd0 ?rr35
    case ii35 => simp only [List.getElem?_toArray, List.getElem?_cons_succ, List.getElem?_cons_zero]; rfl
    case ff35 => kernel_rfl
    case qq35 => exact fun _ _ _ h => h
    case ww35 => rfl
    case yy35 => intro W hW; go_simp <;> with_reducible rfl
    try simp only [Act.put, List.setIfInBounds_toArray, List.set_cons_zero, List.set_cons_succ]
    refine wpAnyH_ready (rs := [15]) (by kernel_rfl) (by simp) ?_
    refine AllReadyH.cons (o := ?oo36) ?ii36 (fun K hK => ?_) AllReadyH.nil
    case ii36 => simp only [List.getElem?_toArray, List.getElem?_cons_succ, List.getElem?_cons_zero]; rfl
    go_simp
    refine (HBc.out _).mono ?_
    rintro e w1 ⟨rfl, hb1⟩
    have hd1 := hd0.keep hb1
    have Hb1 := Lib.hid ((Below.refl wr.heap.size wr).drew.trans (hb1.mono (Nat.le_refl _)))
    clear hb1
    go_wp2_with fail
    refine hK.out _ _ hd1 (fun _ => ?_)
    clear hK K
    refine wpAnyH_take (i := 16) (oi := ?oo37) (v := ?vv37) ?ii37 (by kernel_rfl) ?ff37 (by kernel_rfl) ?qq37 (Or.inl ⟨?ww37, ?yy37⟩) hd1 ?rr37
    case ii37 => simp only [List.getElem?_toArray, List.getElem?_cons_succ, List.getElem?_cons_zero]; rfl
    case ff37 => kernel_rfl
    case qq37 => exact fun _ _ _ h => h
    case ww37 => rfl
    case yy37 => intro W hW; go_simp <;> with_reducible rfl
    try simp only [Act.put, List.setIfInBounds_toArray, List.set_cons_zero, List.set_cons_succ]
    refine wpAnyH_take (i := 17) (oi := ?oo38) (v := ?vv38) ?ii38 (by kernel_rfl) ?ff38 (by kernel_rfl) ?qq38 (Or.inl ⟨?ww38, ?yy38⟩) hd1 ?rr38
    case ii38 => simp only [List.getElem?_toArray, List.getElem?_cons_succ, List.getElem?_cons_zero]; rfl
    case ff38 => kernel_rfl
    case qq38 => exact fun _ _ _ h => h
    case ww38 => rfl
    case yy38 => intro W hW; go_simp <;> with_reducible rfl
    try simp only [Act.put, List.setIfInBounds_toArray, List.set_cons_zero, List.set_cons_succ]
    refine wpAnyH_ready (rs := [18]) (by kernel_rfl) (by simp) ?_
    refine AllReadyH.cons (o := ?oo39) ?ii39 (fun K hK => ?_) AllReadyH.nil
    case ii39 => simp only [List.getElem?_toArray, List.getElem?_cons_succ, List.getElem?_cons_zero]; rfl
    go_simp
    refine (HAc.out _).mono ?_
    rintro e w2 ⟨rfl, hb2⟩
    have hd2 := hd1.keep hb2
    have Hb2 := Lib.hid (Hb1.out.trans (hb2.mono Hb1.out.size))
    clear hb2
    go_wp2_with fail
    refine hK.out _ _ hd2 (fun _ => ?_)
    clear hK K
    refine wpAnyH_take (i := 19) (oi := ?oo40) (v := ?vv40) ?ii40 (by kernel_rfl) ?ff40 (by kernel_rfl) ?qq40 (Or.inl ⟨?ww40, ?yy40⟩) hd2 ?rr40
    case ii40 => simp only [List.getElem?_toArray, List.getElem?_cons_succ, List.getElem?_cons_zero]; rfl
    case ff40 => kernel_rfl
    case qq40 => exact fun _ _ _ h => h
    case ww40 => rfl
    case yy40 => intro W hW; go_simp <;> with_reducible rfl
    try simp only [Act.put, List.setIfInBounds_toArray, List.set_cons_zero, List.set_cons_succ]
    refine wpAnyH_done (by kernel_rfl) ?_ _
    have Hd2 := Lib.hid hd2
    clear hd0 hd1 hd2 kx0 kx1 kx2 kx3 ky0 ky1 ky2 ky3 Hb1 kh q2 q3
    cases bb with
    | false =>
      have HR2 := Lib.hid (HRf.out rfl _ Hb2.out)
      clear HRt HRf Hb2
      go_wp2_with fail
      refine bodyPost_ret (v := .tuple #[]) (by simp [results, Try.results14, go_sem]) rfl ?_
      exact HR2.out
    | true =>
      have HRt2 := Lib.hid (HRt.out rfl)
      clear HRt HRf
      go_wp2_with fail
      refine (HBc.out _).mono ?_
      rintro e w3 ⟨rfl, hb3⟩
      have Hd3 := Lib.hid (Hd2.out.keep hb3)
      have Hb3 := Lib.hid (Hb2.out.trans (hb3.mono Hb2.out.size))
      clear hb3
      go_wp2_with fail
      refine (HWc.out _ Hd3.out).mono ?_
      rintro e w4 ⟨rfl, hq4, ha4⟩
      have HR4 := Lib.hid (fun W3 => HRt2.out w3 w4 W3 Hb3.out hq4 ha4)
      clear hq4 ha4
      go_wp2_with fail
      refine (HBc.out _).mono ?_
      rintro e w5 ⟨rfl, hb5⟩
      have HR5 := Lib.hid (HR4.out _ hb5)
      clear hb5
      go_wp2_with fail
      go_roundw
      case rel => exact HR5.out
      case measure => simp [intOf]; omega

set_option maxHeartbeats 4000000 in
theorem sink_any (w : World) (B Q g n cap : Nat) (es : List QueP.Ent) (puts : Int) (h : QueIn w B Q (.slice (some ⟨g, 0, none⟩) n cap) es puts) (hn : es.length = n) (hn2 : n ≤ 4096) (hu : QueP.DownAt QueP.le es 0) :
    Calls Try.prog 16 #[.pointer (some ⟨Q, 0, none⟩), .int .i64 0] w (SiftP w B Q g n cap es puts) := by
  have HB := Lib.hid (fun W es1 (i : Nat) h0 h1 h2 => first_any W B Q g n cap es1 puts i h0 h1 hn2 h2)
  have HW := Lib.hid (fun W es1 a b h0 h1 x y hx hy => swap_any W B Q g n cap es1 puts a b h0 h1 x y hx hy)
  have H0 := Lib.hid (HB.out w es 0 h hn (by omega))
  have hS : Hid (∀ (c : Nat) W, QueP.FirstAt es 0 2 c → Below w.heap.size w W → SinkR w B Q g n cap es puts (.int .i64 0) (.int .i64 (c : Nat)) W) := Lib.hid fun c W hF hW => ⟨0, c, es, by omega, List.Perm.refl _, hu, hF, rfl, rfl, h.keep hW, Apart.of_below' hW⟩
  have HN := Lib.hid hn
  clear h hu hn
  go_enter Try.func16, Try.ntmps16
  go_wp2_with fail
  refine H0.out.mono ?_
  rintro e w1 ⟨c0, hF0, rfl, hb1⟩
  have HS1 := Lib.hid (hS.out _ _ hF0 hb1)
  clear hb1 hF0 hS
  go_wp2_with fail
  go_loopw [1, 4] (SinkR w B Q g n cap es puts) (fun p _ _ => (n - intOf p).toNat)
  case atStart => exact HS1.out
  case round =>
    clear HS1
    obtain ⟨i, c, es1, hi, hp, hu, hF, rfl, rfl, hq, ha⟩ := hrel
    have hn1 : es1.length = n := hp.length_eq.trans HN.out
    by_cases hci : c = i
    · subst hci
      have HR : Hid (SiftP w B Q g n cap es puts (.returned (.tuple #[])) wr) := Lib.hid ⟨rfl, es1, hp, QueP.first_stay hF hu, hq, ha⟩
      clear hp hu hq ha hn1 hF hi
      go_wp2_with fail
      refine bodyPost_ret (v := .tuple #[]) (by simp [results, Try.results16, go_sem]) rfl ?_
      exact HR.out
    obtain ⟨hic, hcn, hgo⟩ := QueP.first_go hF hci hu
    have hcn2 : c < n := by omega
    obtain ⟨x, hx⟩ : ∃ x, es1[i]? = some x := ⟨_, List.getElem?_eq_getElem (by omega)⟩
    obtain ⟨y, hy⟩ : ∃ y, es1[c]? = some y := ⟨_, List.getElem?_eq_getElem (by omega)⟩
    have HWc := Lib.hid (HW.out wr es1 i c hq hn1 _ _ hx hy)
    have hn2 : ((es1.set i y).set c x).length = n := by rw [List.length_set, List.length_set]; exact hn1
    have HBc := Lib.hid (fun W hW => HB.out W ((es1.set i y).set c x) c hW hn2 (.inr hcn2))
    have HR : Hid (∀ (d : Nat) W1 W2, QueP.FirstAt ((es1.set i y).set c x) c 2 d → QueIn W1 B Q (.slice (some ⟨g, 0, none⟩) n cap) ((es1.set i y).set c x) puts → Apart (fun k => k = g) wr W1 → Below W1.heap.size W1 W2 → SinkR w B Q g n cap es puts (.int .i64 (c : Nat)) (.int .i64 (d : Nat)) W2) := Lib.hid fun d W1 W2 h1 h2 h3 h4 =>
      ⟨c, d, _, .inr hcn2, (QueP.perm_swap hx hy).trans hp, hgo x y hx hy, h1, rfl, rfl, h2.keep h4, (ha.trans h3 (fun _ e => .inl e)).trans (Apart.of_below' (F := fun _ => False) h4) (fun _ h => h.elim)⟩
    have q1 : ((c : Int) != (i : Int)) = true := by rw [bne_iff_ne]; omega
    generalize (es1.set i y).set c x = es2 at *
    clear hp hu hq ha hn1 hF hi hgo hx hy hn2 hcn
    go_wp2_with fail
    refine HWc.out.mono ?_
    rintro e w2 ⟨rfl, hq2, ha2⟩
    have HR2 := Lib.hid (fun d W2 h1 => HR.out d _ W2 h1 hq2 ha2)
    have HB2 := Lib.hid (HBc.out _ hq2)
    clear hq2 ha2
    go_wp2_with fail
    refine HB2.out.mono ?_
    rintro e w3 ⟨d, hFd, rfl, hb3⟩
    have HR3 := Lib.hid (HR2.out d _ hFd hb3)
    clear hb3 hFd
    go_wp2_with fail
    go_roundw
    case rel => exact HR3.out
    case measure => simp [intOf]; omega
end Go.Proofs.Ytlijcfojokbdpaa
