/- Contracts of queue's first, rise and sink. Conditions: where the queue lies; the places are within it; at most 4096 entries. -/
import Derived.Test.YtlijcfojokbdpaaQueC
namespace Go.Proofs.Ytlijcfojokbdpaa
open Go.RowKit
set_option maxRecDepth 100000

def FirstP (es : List QueP.Ent) (i : Nat) (w : World) (e : Ending) (w' : World) : Prop := ∃ c : Nat, QueP.FirstAt es i 2 c ∧ e = .returned (.int .i64 (c : Nat)) ∧ Below w.heap.size w w'
def FirstR (es : List QueP.Ent) (i : Nat) (w : World) (out k : Value) (W : World) : Prop := ∃ m c : Nat, m ≤ 2 ∧ QueP.FirstAt es i m c ∧ out = .int .i64 (c : Nat) ∧ k = .int .i64 (m : Nat) ∧ Below w.heap.size w W

set_option maxHeartbeats 4000000 in
theorem first_any (w : World) (B Q g n cap : Nat) (es : List QueP.Ent) (puts : Int) (i : Nat) (h : QueIn w B Q (.slice (some ⟨g, 0, none⟩) n cap) es puts) (hn : es.length = n) (hn2 : n ≤ 4096) (hi : n = 0 ∧ i = 0 ∨ i < n) :
    Calls Try.prog 21 #[.pointer (some ⟨Q, 0, none⟩), .int .i64 (i : Nat)] w (FirstP es i w) := by
  have HB0 := fun W => below_any i W (by omega)
  obtain ⟨p0, hp0⟩ : ∃ p : Nat, p = 2 * i + 1 := ⟨_, rfl⟩
  obtain ⟨p1, hp1⟩ : ∃ p : Nat, p = 2 * i + 2 := ⟨_, rfl⟩
  rw [show 2 * (i : Int) + 1 = ((p0 : Nat) : Int) by omega, show 2 * (i : Int) + 2 = ((p1 : Nat) : Int) by omega] at HB0
  have HB := Lib.hid HB0
  clear HB0
  have HA := Lib.hid (fun a b W => ahead_any a b W)
  have i0 : ∀ W : World, (Instr.index 61 (.agg #[.int .i64 (p0 : Nat), .int .i64 (p1 : Nat)]) (.int .i64 0)).run Try.prog W = .ok (.int .i64 (p0 : Nat)) W := fun _ => by kernel_rfl
  have i1 : ∀ W : World, (Instr.index 61 (.agg #[.int .i64 (p0 : Nat), .int .i64 (p1 : Nat)]) (.int .i64 1)).run Try.prog W = .ok (.int .i64 (p1 : Nat)) W := fun _ => by kernel_rfl
  have kh : ∀ W, QueIn W B Q (.slice (some ⟨g, 0, none⟩) n cap) es puts → W.cell? ⟨Q, 0, none⟩ = some (.slice (some ⟨g, 0, none⟩) n cap) := fun W hW => hW.head
  have HI := Lib.hid h
  have HI2 := Lib.hid hi
  have HP0 := Lib.hid hp0
  have HP1 := Lib.hid hp1
  have HN := Lib.hid hn
  have hS : Hid (∀ W, Below w.heap.size w W → FirstR es i w (.int .i64 (i : Nat)) (.int .i64 0) W) := Lib.hid fun W hb => ⟨0, i, by omega, QueP.first_start es i, rfl, rfl, hb⟩
  clear h hi hp0 hp1 hn
  go_enter Try.func21, Try.ntmps21
  go_wp2_with fail
  refine (HB.out _).mono ?_
  rintro e w1 ⟨rfl, hb1⟩
  have HS1 := Lib.hid (hS.out _ hb1)
  clear hb1 hS
  go_wp2_with fail
  go_loopw [5, 11] (FirstR es i w) (fun _ k _ => (2 - intOf k).toNat)
  case atStart => exact HS1.out
  case round =>
    clear HS1
    obtain ⟨m, c, hm, hF, rfl, rfl, hb⟩ := hrel
    have HF := Lib.hid hF
    have Hb := Lib.hid hb
    clear hF hb
    rcases (by omega : m = 0 ∨ m = 1 ∨ m = 2) with rfl | rfl | rfl
    · have hpi : p0 = 2 * i + 1 + 0 := by have := HP0.out; omega
      clear i1
      by_cases hpn : p0 < n
      case neg =>
        have HR : Hid (∀ W, Below wr.heap.size wr W → FirstR es i w (.int .i64 (c : Nat)) (.int .i64 1) W) := Lib.hid fun W hW => ⟨1, c, by omega, QueP.first_out HF.out (by have := HN.out; omega), rfl, rfl, Hb.out.trans (hW.mono Hb.out.size)⟩
        have q1 : decide (p0 < n) = false := decide_eq_false hpn
        have q2 : decide ((p0 : Int) < (n : Int)) = false := decide_eq_false (by omega)
        have HpI := Lib.hid hpi
        have hd0 := (HI.out.keep Hb.out).drew
        clear HF Hb hpi hpn
        go_wp2_with fail
        refine wp_region_held_drew (S := fun W => QueIn W B Q (.slice (some ⟨g, 0, none⟩) n cap) es puts) (by kernel_rfl) hd0 (fun _ => ?_)
        refine wpAnyH_take (i := 0) (oi := ?oo1) (v := ?vv1) ?ii1 (by kernel_rfl) ?ff1 (by kernel_rfl) ?qq1 (Or.inl ⟨?ww1, ?yy1⟩) hd0 ?rr1
        case ii1 => simp only [List.getElem?_toArray, List.getElem?_cons_zero]; rfl
        case ff1 => kernel_rfl
        case qq1 => exact fun _ _ _ h => h
        case ww1 => rfl
        case yy1 => intro W hW; go_simp <;> with_reducible rfl
        try simp only [Act.put, List.setIfInBounds_toArray, List.set_cons_zero, List.set_cons_succ]
        refine wpAnyH_take (i := 1) (oi := ?oo2) (v := ?vv2) ?ii2 (by kernel_rfl) ?ff2 (by kernel_rfl) ?qq2 (Or.inl ⟨?ww2, ?yy2⟩) hd0 ?rr2
        case ii2 => simp only [List.getElem?_toArray, List.getElem?_cons_succ, List.getElem?_cons_zero]; rfl
        case ff2 => kernel_rfl
        case qq2 => exact fun _ _ _ h => h
        case ww2 => rfl
        case yy2 => intro W hW; go_simp <;> with_reducible rfl
        try simp only [Act.put, List.setIfInBounds_toArray, List.set_cons_zero, List.set_cons_succ]
        refine wpAnyH_take (i := 2) (oi := ?oo3) (v := ?vv3) ?ii3 (by kernel_rfl) ?ff3 (by kernel_rfl) ?qq3 (Or.inl ⟨?ww3, ?yy3⟩) hd0 ?rr3
        case ii3 => simp only [List.getElem?_toArray, List.getElem?_cons_succ, List.getElem?_cons_zero]; rfl
        case ff3 => kernel_rfl
        case qq3 => exact fun _ _ _ h => h
        case ww3 => rfl
        case yy3 => intro W hW; go_simp <;> with_reducible rfl
        try simp only [Act.put, List.setIfInBounds_toArray, List.set_cons_zero, List.set_cons_succ]
        refine wpAnyH_take (i := 3) (oi := ?oo4) (v := ?vv4) ?ii4 (by kernel_rfl) ?ff4 (by kernel_rfl) ?qq4 (Or.inl ⟨?ww4, ?yy4⟩) hd0 ?rr4
        case ii4 => simp only [List.getElem?_toArray, List.getElem?_cons_succ, List.getElem?_cons_zero]; rfl
        case ff4 => kernel_rfl
        case qq4 => exact fun _ _ _ h => h
        case ww4 => rfl
        case yy4 => intro W hW; go_simp <;> with_reducible rfl
        try simp only [Act.put, List.setIfInBounds_toArray, List.set_cons_zero, List.set_cons_succ]
        refine wpAnyH_take (i := 4) (oi := ?oo5) (v := ?vv5) ?ii5 (by kernel_rfl) ?ff5 (by kernel_rfl) ?qq5 (Or.inl ⟨?ww5, ?yy5⟩) hd0 ?rr5
        case ii5 => simp only [List.getElem?_toArray, List.getElem?_cons_succ, List.getElem?_cons_zero]; rfl
        case ff5 => kernel_rfl
        case qq5 => exact fun _ _ _ h => h
        case ww5 => rfl
        case yy5 => intro W hW; go_simp <;> with_reducible rfl
        try simp only [Act.put, List.setIfInBounds_toArray, List.set_cons_zero, List.set_cons_succ]
        refine wpAnyH_take (i := 5) (oi := ?oo6) (v := ?vv6) ?ii6 (by kernel_rfl) ?ff6 (by kernel_rfl) ?qq6 (Or.inl ⟨?ww6, ?yy6⟩) hd0 ?rr6
        case ii6 => simp only [List.getElem?_toArray, List.getElem?_cons_succ, List.getElem?_cons_zero]; rfl
        case ff6 => kernel_rfl
        case qq6 => exact fun _ _ _ h => h
        case ww6 => rfl
        case yy6 => intro W hW; go_simp <;> with_reducible rfl
        try simp only [Act.put, List.setIfInBounds_toArray, List.set_cons_zero, List.set_cons_succ]
        refine wpAnyH_take (i := 6) (oi := ?oo7) (v := ?vv7) ?ii7 (by kernel_rfl) ?ff7 (by kernel_rfl) ?qq7 (Or.inl ⟨?ww7, ?yy7⟩) hd0 ?rr7
        case ii7 => simp only [List.getElem?_toArray, List.getElem?_cons_succ, List.getElem?_cons_zero]; rfl
        case ff7 => kernel_rfl
        case qq7 => exact fun _ _ _ h => h
        case ww7 => rfl
        case yy7 => intro W hW; go_simp <;> with_reducible rfl
        try simp only [Act.put, List.setIfInBounds_toArray, List.set_cons_zero, List.set_cons_succ]
        refine wpAnyH_take (i := 7) (oi := ?oo8) (v := ?vv8) ?ii8 (by kernel_rfl) ?ff8 (by kernel_rfl) ?qq8 (Or.inl ⟨?ww8, ?yy8⟩) hd0 ?rr8
        case ii8 => simp only [List.getElem?_toArray, List.getElem?_cons_succ, List.getElem?_cons_zero]; rfl
        case ff8 => kernel_rfl
        case qq8 => exact fun _ _ _ h => h
        case ww8 => rfl
        case yy8 => intro W hW; go_simp <;> with_reducible rfl
        try simp only [Act.put, List.setIfInBounds_toArray, List.set_cons_zero, List.set_cons_succ]
        refine wpAnyH_take (i := 8) (oi := ?oo9) (v := undef) ?ii9 (by kernel_rfl) ?ff9 (by kernel_rfl) ?qq9 (Or.inr ⟨?ww9, rfl⟩) hd0 ?rr9
        case ii9 => simp only [List.getElem?_toArray, List.getElem?_cons_succ, List.getElem?_cons_zero]; rfl
        case ff9 => kernel_rfl
        case qq9 => exact fun _ _ _ h => h
        case ww9 => rfl
        try simp only [Act.put, List.setIfInBounds_toArray, List.set_cons_zero, List.set_cons_succ]
        refine wpAnyH_take (i := 9) (oi := ?oo10) (v := undef) ?ii10 (by kernel_rfl) ?ff10 (by kernel_rfl) ?qq10 (Or.inr ⟨?ww10, rfl⟩) hd0 ?rr10
        case ii10 => simp only [List.getElem?_toArray, List.getElem?_cons_succ, List.getElem?_cons_zero]; rfl
        case ff10 => kernel_rfl
        case qq10 => exact fun _ _ _ h => h
        case ww10 => rfl
        try simp only [Act.put, List.setIfInBounds_toArray, List.set_cons_zero, List.set_cons_succ]
        refine wpAnyH_take (i := 10) (oi := ?oo11) (v := undef) ?ii11 (by kernel_rfl) ?ff11 (by kernel_rfl) ?qq11 (Or.inr ⟨?ww11, rfl⟩) hd0 ?rr11
        case ii11 => simp only [List.getElem?_toArray, List.getElem?_cons_succ, List.getElem?_cons_zero]; rfl
        case ff11 => kernel_rfl
        case qq11 => exact fun _ _ _ h => h
        case ww11 => rfl
        try simp only [Act.put, List.setIfInBounds_toArray, List.set_cons_zero, List.set_cons_succ]
        refine wpAnyH_take (i := 11) (oi := ?oo12) (v := undef) ?ii12 (by kernel_rfl) ?ff12 (by kernel_rfl) ?qq12 (Or.inr ⟨?ww12, rfl⟩) hd0 ?rr12
        case ii12 => simp only [List.getElem?_toArray, List.getElem?_cons_succ, List.getElem?_cons_zero]; rfl
        case ff12 => kernel_rfl
        case qq12 => exact fun _ _ _ h => h
        case ww12 => rfl
        try simp only [Act.put, List.setIfInBounds_toArray, List.set_cons_zero, List.set_cons_succ]
        refine wpAnyH_take (i := 12) (oi := ?oo13) (v := undef) ?ii13 (by kernel_rfl) ?ff13 (by kernel_rfl) ?qq13 (Or.inr ⟨?ww13, rfl⟩) hd0 ?rr13
        case ii13 => simp only [List.getElem?_toArray, List.getElem?_cons_succ, List.getElem?_cons_zero]; rfl
        case ff13 => kernel_rfl
        case qq13 => exact fun _ _ _ h => h
        case ww13 => rfl
        try simp only [Act.put, List.setIfInBounds_toArray, List.set_cons_zero, List.set_cons_succ]
        refine wpAnyH_take (i := 13) (oi := ?oo14) (v := undef) ?ii14 (by kernel_rfl) ?ff14 (by kernel_rfl) ?qq14 (Or.inr ⟨?ww14, rfl⟩) hd0 ?rr14
        case ii14 => simp only [List.getElem?_toArray, List.getElem?_cons_succ, List.getElem?_cons_zero]; rfl
        case ff14 => kernel_rfl
        case qq14 => exact fun _ _ _ h => h
        case ww14 => rfl
        try simp only [Act.put, List.setIfInBounds_toArray, List.set_cons_zero, List.set_cons_succ]
        refine wpAnyH_take (i := 14) (oi := ?oo15) (v := undef) ?ii15 (by kernel_rfl) ?ff15 (by kernel_rfl) ?qq15 (Or.inr ⟨?ww15, rfl⟩) hd0 ?rr15
        case ii15 => simp only [List.getElem?_toArray, List.getElem?_cons_succ, List.getElem?_cons_zero]; rfl
        case ff15 => kernel_rfl
        case qq15 => exact fun _ _ _ h => h
        case ww15 => rfl
        try simp only [Act.put, List.setIfInBounds_toArray, List.set_cons_zero, List.set_cons_succ]
        refine wpAnyH_take (i := 15) (oi := ?oo16) (v := undef) ?ii16 (by kernel_rfl) ?ff16 (by kernel_rfl) ?qq16 (Or.inr ⟨?ww16, rfl⟩) hd0 ?rr16
        case ii16 => simp only [List.getElem?_toArray, List.getElem?_cons_succ, List.getElem?_cons_zero]; rfl
        case ff16 => kernel_rfl
        case qq16 => exact fun _ _ _ h => h
        case ww16 => rfl
        try simp only [Act.put, List.setIfInBounds_toArray, List.set_cons_zero, List.set_cons_succ]
        refine wpAnyH_take (i := 16) (oi := ?oo17) (v := undef) ?ii17 (by kernel_rfl) ?ff17 (by kernel_rfl) ?qq17 (Or.inr ⟨?ww17, rfl⟩) hd0 ?rr17
        case ii17 => simp only [List.getElem?_toArray, List.getElem?_cons_succ, List.getElem?_cons_zero]; rfl
        case ff17 => kernel_rfl
        case qq17 => exact fun _ _ _ h => h
        case ww17 => rfl
        try simp only [Act.put, List.setIfInBounds_toArray, List.set_cons_zero, List.set_cons_succ]
        refine wpAnyH_take (i := 17) (oi := ?oo18) (v := undef) ?ii18 (by kernel_rfl) ?ff18 (by kernel_rfl) ?qq18 (Or.inr ⟨?ww18, rfl⟩) hd0 ?rr18
        case ii18 => simp only [List.getElem?_toArray, List.getElem?_cons_succ, List.getElem?_cons_zero]; rfl
        case ff18 => kernel_rfl
        case qq18 => exact fun _ _ _ h => h
        case ww18 => rfl
        try simp only [Act.put, List.setIfInBounds_toArray, List.set_cons_zero, List.set_cons_succ]
        refine wpAnyH_take (i := 18) (oi := ?oo19) (v := undef) ?ii19 (by kernel_rfl) ?ff19 (by kernel_rfl) ?qq19 (Or.inr ⟨?ww19, rfl⟩) hd0 ?rr19
        case ii19 => simp only [List.getElem?_toArray, List.getElem?_cons_succ, List.getElem?_cons_zero]; rfl
        case ff19 => kernel_rfl
        case qq19 => exact fun _ _ _ h => h
        case ww19 => rfl
        try simp only [Act.put, List.setIfInBounds_toArray, List.set_cons_zero, List.set_cons_succ]
        refine wpAnyH_take (i := 19) (oi := ?oo20) (v := undef) ?ii20 (by kernel_rfl) ?ff20 (by kernel_rfl) ?qq20 (Or.inr ⟨?ww20, rfl⟩) hd0 ?rr20
        case ii20 => simp only [List.getElem?_toArray, List.getElem?_cons_succ, List.getElem?_cons_zero]; rfl
        case ff20 => kernel_rfl
        case qq20 => exact fun _ _ _ h => h
        case ww20 => rfl
        try simp only [Act.put, List.setIfInBounds_toArray, List.set_cons_zero, List.set_cons_succ]
        refine wpAnyH_take (i := 20) (oi := ?oo21) (v := undef) ?ii21 (by kernel_rfl) ?ff21 (by kernel_rfl) ?qq21 (Or.inr ⟨?ww21, rfl⟩) hd0 ?rr21
        case ii21 => simp only [List.getElem?_toArray, List.getElem?_cons_succ, List.getElem?_cons_zero]; rfl
        case ff21 => kernel_rfl
        case qq21 => exact fun _ _ _ h => h
        case ww21 => rfl
        try simp only [Act.put, List.setIfInBounds_toArray, List.set_cons_zero, List.set_cons_succ]
        refine wpAnyH_take (i := 21) (oi := ?oo22) (v := undef) ?ii22 (by kernel_rfl) ?ff22 (by kernel_rfl) ?qq22 (Or.inr ⟨?ww22, rfl⟩) hd0 ?rr22
        case ii22 => simp only [List.getElem?_toArray, List.getElem?_cons_succ, List.getElem?_cons_zero]; rfl
        case ff22 => kernel_rfl
        case qq22 => exact fun _ _ _ h => h
        case ww22 => rfl
        try simp only [Act.put, List.setIfInBounds_toArray, List.set_cons_zero, List.set_cons_succ]
        refine wpAnyH_take (i := 22) (oi := ?oo23) (v := undef) ?ii23 (by kernel_rfl) ?ff23 (by kernel_rfl) ?qq23 (Or.inr ⟨?ww23, rfl⟩) hd0 ?rr23
        case ii23 => simp only [List.getElem?_toArray, List.getElem?_cons_succ, List.getElem?_cons_zero]; rfl
        case ff23 => kernel_rfl
        case qq23 => exact fun _ _ _ h => h
        case ww23 => rfl
        try simp only [Act.put, List.setIfInBounds_toArray, List.set_cons_zero, List.set_cons_succ]
        refine wpAnyH_take (i := 23) (oi := ?oo24) (v := ?vv24) ?ii24 (by kernel_rfl) ?ff24 (by kernel_rfl) ?qq24 (Or.inl ⟨?ww24, ?yy24⟩) hd0 ?rr24
        case ii24 => simp only [List.getElem?_toArray, List.getElem?_cons_succ, List.getElem?_cons_zero]; rfl
        case ff24 => kernel_rfl
        case qq24 => exact fun _ _ _ h => h
        case ww24 => rfl
        case yy24 => intro W hW; go_simp <;> with_reducible rfl
        try simp only [Act.put, List.setIfInBounds_toArray, List.set_cons_zero, List.set_cons_succ]
        refine wpAnyH_done (by kernel_rfl) ?_ _
        have HR2 := Lib.hid (HR.out _ (Below.refl _ _).drew)
        clear hd0 HR q1 q2
        go_wp2_with fail
        go_roundw
        case rel => exact HR2.out
        case measure => simp [intOf]
      obtain ⟨⟨⟨x0, x1, x2⟩, x3⟩, hx⟩ : ∃ x, es[p0]? = some x := ⟨_, List.getElem?_eq_getElem (by have := HN.out; omega)⟩
      have hc : c < n := by
        rcases HF.out.isc with e | ⟨_, _, e⟩
        · rcases HI2.out with e2 | e2 <;> omega
        · have := HN.out; omega
      obtain ⟨⟨⟨y0, y1, y2⟩, y3⟩, hy⟩ : ∃ y, es[c]? = some y := ⟨_, List.getElem?_eq_getElem (by have := HN.out; omega)⟩
      have hn := HN.out
      have kx0 : ∀ W, QueIn W B Q (.slice (some ⟨g, 0, none⟩) n cap) es puts → W.cell? ⟨g, p0 * 4, none⟩ = some (.int .i64 x0) := fun W hW => (hW.ent hn hx).c0
      have kx1 : ∀ W, QueIn W B Q (.slice (some ⟨g, 0, none⟩) n cap) es puts → W.cell? ⟨g, p0 * 4 + 1, none⟩ = some (.int .i64 x1) := fun W hW => (hW.ent hn hx).c1
      have kx2 : ∀ W, QueIn W B Q (.slice (some ⟨g, 0, none⟩) n cap) es puts → W.cell? ⟨g, p0 * 4 + 2, none⟩ = some (.int .i64 x2) := fun W hW => (hW.ent hn hx).c2
      have kx3 : ∀ W, QueIn W B Q (.slice (some ⟨g, 0, none⟩) n cap) es puts → W.cell? ⟨g, p0 * 4 + 3, none⟩ = some (.int .i64 x3) := fun W hW => (hW.ent hn hx).c3
      have ky0 : ∀ W, QueIn W B Q (.slice (some ⟨g, 0, none⟩) n cap) es puts → W.cell? ⟨g, c * 4, none⟩ = some (.int .i64 y0) := fun W hW => (hW.ent hn hy).c0
      have ky1 : ∀ W, QueIn W B Q (.slice (some ⟨g, 0, none⟩) n cap) es puts → W.cell? ⟨g, c * 4 + 1, none⟩ = some (.int .i64 y1) := fun W hW => (hW.ent hn hy).c1
      have ky2 : ∀ W, QueIn W B Q (.slice (some ⟨g, 0, none⟩) n cap) es puts → W.cell? ⟨g, c * 4 + 2, none⟩ = some (.int .i64 y2) := fun W hW => (hW.ent hn hy).c2
      have ky3 : ∀ W, QueIn W B Q (.slice (some ⟨g, 0, none⟩) n cap) es puts → W.cell? ⟨g, c * 4 + 3, none⟩ = some (.int .i64 y3) := fun W hW => (hW.ent hn hy).c3
      have HAc := Lib.hid (fun W => HA.out ⟨⟨x0, x1, x2⟩, x3⟩ ⟨⟨y0, y1, y2⟩, y3⟩ W)
      have HRt : Hid (QueP.aheadB ⟨⟨x0, x1, x2⟩, x3⟩ ⟨⟨y0, y1, y2⟩, y3⟩ = true → ∀ W, Below w.heap.size w W → FirstR es i w (.int .i64 (p0 : Nat)) (.int .i64 1) W) := Lib.hid fun ha W hW => ⟨1, p0, by omega, by have := QueP.first_yes HF.out (by omega) (by rw [← hpi]; exact hx) hy ha; rw [← hpi] at this; exact this, rfl, rfl, hW⟩
      have HRf : Hid (QueP.aheadB ⟨⟨x0, x1, x2⟩, x3⟩ ⟨⟨y0, y1, y2⟩, y3⟩ = false → ∀ W, Below w.heap.size w W → FirstR es i w (.int .i64 (c : Nat)) (.int .i64 1) W) := Lib.hid fun ha W hW => ⟨1, c, by omega, QueP.first_no HF.out (by rw [← hpi]; exact hx) hy ha, rfl, rfl, hW⟩
      have hd0 := (HI.out.keep Hb.out).drew
      have HpI := Lib.hid hpi
      have q2 : decide ((p0 : Int) < (n : Int)) = true := decide_eq_true (by omega)
      unfold entV at HAc
      simp only at HAc
      generalize QueP.aheadB ⟨⟨x0, x1, x2⟩, x3⟩ ⟨⟨y0, y1, y2⟩, y3⟩ = bb at *
      clear hx hy hn HF hpi
      go_wp2_with fail
      refine wp_region_held_drew (S := fun W => QueIn W B Q (.slice (some ⟨g, 0, none⟩) n cap) es puts) (by kernel_rfl) hd0 (fun _ => ?_)
      refine wpAnyH_take (i := 0) (oi := ?oo25) (v := ?vv25) ?ii25 (by kernel_rfl) ?ff25 (by kernel_rfl) ?qq25 (Or.inl ⟨?ww25, ?yy25⟩) hd0 ?rr25
      case ii25 => simp only [List.getElem?_toArray, List.getElem?_cons_zero]; rfl
      case ff25 => kernel_rfl
      case qq25 => exact fun _ _ _ h => h
      case ww25 => rfl
      case yy25 => intro W hW; go_simp <;> with_reducible rfl
      try simp only [Act.put, List.setIfInBounds_toArray, List.set_cons_zero, List.set_cons_succ]
      refine wpAnyH_take (i := 1) (oi := ?oo26) (v := ?vv26) ?ii26 (by kernel_rfl) ?ff26 (by kernel_rfl) ?qq26 (Or.inl ⟨?ww26, ?yy26⟩) hd0 ?rr26
      case ii26 => simp only [List.getElem?_toArray, List.getElem?_cons_succ, List.getElem?_cons_zero]; rfl
      case ff26 => kernel_rfl
      case qq26 => exact fun _ _ _ h => h
      case ww26 => rfl
      case yy26 => intro W hW; go_simp <;> with_reducible rfl
      try simp only [Act.put, List.setIfInBounds_toArray, List.set_cons_zero, List.set_cons_succ]
      refine wpAnyH_take (i := 2) (oi := ?oo27) (v := ?vv27) ?ii27 (by kernel_rfl) ?ff27 (by kernel_rfl) ?qq27 (Or.inl ⟨?ww27, ?yy27⟩) hd0 ?rr27
      case ii27 => simp only [List.getElem?_toArray, List.getElem?_cons_succ, List.getElem?_cons_zero]; rfl
      case ff27 => kernel_rfl
      case qq27 => exact fun _ _ _ h => h
      case ww27 => rfl
      case yy27 => intro W hW; go_simp <;> with_reducible rfl
      try simp only [Act.put, List.setIfInBounds_toArray, List.set_cons_zero, List.set_cons_succ]
      refine wpAnyH_take (i := 3) (oi := ?oo28) (v := ?vv28) ?ii28 (by kernel_rfl) ?ff28 (by kernel_rfl) ?qq28 (Or.inl ⟨?ww28, ?yy28⟩) hd0 ?rr28
      case ii28 => simp only [List.getElem?_toArray, List.getElem?_cons_succ, List.getElem?_cons_zero]; rfl
      case ff28 => kernel_rfl
      case qq28 => exact fun _ _ _ h => h
      case ww28 => rfl
      case yy28 => intro W hW; go_simp <;> with_reducible rfl
      try simp only [Act.put, List.setIfInBounds_toArray, List.set_cons_zero, List.set_cons_succ]
      refine wpAnyH_take (i := 4) (oi := ?oo29) (v := ?vv29) ?ii29 (by kernel_rfl) ?ff29 (by kernel_rfl) ?qq29 (Or.inl ⟨?ww29, ?yy29⟩) hd0 ?rr29
      case ii29 => simp only [List.getElem?_toArray, List.getElem?_cons_succ, List.getElem?_cons_zero]; rfl
      case ff29 => kernel_rfl
      case qq29 => exact fun _ _ _ h => h
      case ww29 => rfl
      case yy29 => intro W hW; go_simp <;> with_reducible rfl
      try simp only [Act.put, List.setIfInBounds_toArray, List.set_cons_zero, List.set_cons_succ]
      refine wpAnyH_take (i := 5) (oi := ?oo30) (v := ?vv30) ?ii30 (by kernel_rfl) ?ff30 (by kernel_rfl) ?qq30 (Or.inl ⟨?ww30, ?yy30⟩) hd0 ?rr30
      case ii30 => simp only [List.getElem?_toArray, List.getElem?_cons_succ, List.getElem?_cons_zero]; rfl
      case ff30 => kernel_rfl
      case qq30 => exact fun _ _ _ h => h
      case ww30 => rfl
      case yy30 => intro W hW; go_simp <;> with_reducible rfl
      try simp only [Act.put, List.setIfInBounds_toArray, List.set_cons_zero, List.set_cons_succ]
      refine wpAnyH_take (i := 6) (oi := ?oo31) (v := ?vv31) ?ii31 (by kernel_rfl) ?ff31 (by kernel_rfl) ?qq31 (Or.inl ⟨?ww31, ?yy31⟩) hd0 ?rr31
      case ii31 => simp only [List.getElem?_toArray, List.getElem?_cons_succ, List.getElem?_cons_zero]; rfl
      case ff31 => kernel_rfl
      case qq31 => exact fun _ _ _ h => h
      case ww31 => rfl
      case yy31 => intro W hW; go_simp <;> with_reducible rfl
      try simp only [Act.put, List.setIfInBounds_toArray, List.set_cons_zero, List.set_cons_succ]
      refine wpAnyH_take (i := 7) (oi := ?oo32) (v := ?vv32) ?ii32 (by kernel_rfl) ?ff32 (by kernel_rfl) ?qq32 (Or.inl ⟨?ww32, ?yy32⟩) hd0 ?rr32
      case ii32 => simp only [List.getElem?_toArray, List.getElem?_cons_succ, List.getElem?_cons_zero]; rfl
      case ff32 => kernel_rfl
      case qq32 => exact fun _ _ _ h => h
      case ww32 => rfl
      case yy32 => intro W hW; go_simp <;> with_reducible rfl
      try simp only [Act.put, List.setIfInBounds_toArray, List.set_cons_zero, List.set_cons_succ]
      refine wpAnyH_take (i := 8) (oi := ?oo33) (v := ?vv33) ?ii33 (by kernel_rfl) ?ff33 (by kernel_rfl) ?qq33 (Or.inl ⟨?ww33, ?yy33⟩) hd0 ?rr33
      case ii33 => simp only [List.getElem?_toArray, List.getElem?_cons_succ, List.getElem?_cons_zero]; rfl
      case ff33 => kernel_rfl
      case qq33 => exact fun _ _ _ h => h
      case ww33 => rfl
      case yy33 => intro W hW; go_simp <;> with_reducible rfl
      try simp only [Act.put, List.setIfInBounds_toArray, List.set_cons_zero, List.set_cons_succ]
      refine wpAnyH_take (i := 9) (oi := ?oo34) (v := ?vv34) ?ii34 (by kernel_rfl) ?ff34 (by kernel_rfl) ?qq34 (Or.inl ⟨?ww34, ?yy34⟩) hd0 ?rr34
      case ii34 => simp only [List.getElem?_toArray, List.getElem?_cons_succ, List.getElem?_cons_zero]; rfl
      case ff34 => kernel_rfl
      case qq34 => exact fun _ _ _ h => h
      case ww34 => rfl
      case yy34 => intro W hW; go_simp <;> with_reducible rfl
      try simp only [Act.put, List.setIfInBounds_toArray, List.set_cons_zero, List.set_cons_succ]
      refine wpAnyH_take (i := 10) (oi := ?oo35) (v := ?vv35) ?ii35 (by kernel_rfl) ?ff35 (by kernel_rfl) ?qq35 (Or.inl ⟨?ww35, ?yy35⟩) hd0 ?rr35
      case ii35 => simp only [List.getElem?_toArray, List.getElem?_cons_succ, List.getElem?_cons_zero]; rfl
      case ff35 => kernel_rfl
      case qq35 => exact fun _ _ _ h => h
      case ww35 => rfl
      case yy35 => intro W hW; go_simp <;> with_reducible rfl
      try simp only [Act.put, List.setIfInBounds_toArray, List.set_cons_zero, List.set_cons_succ]
      refine wpAnyH_take (i := 11) (oi := ?oo36) (v := ?vv36) ?ii36 (by kernel_rfl) ?ff36 (by kernel_rfl) ?qq36 (Or.inl ⟨?ww36, ?yy36⟩) hd0 ?rr36
      case ii36 => simp only [List.getElem?_toArray, List.getElem?_cons_succ, List.getElem?_cons_zero]; rfl
      case ff36 => kernel_rfl
      case qq36 => exact fun _ _ _ h => h
      case ww36 => rfl
      case yy36 => intro W hW; go_simp <;> with_reducible rfl
      try simp only [Act.put, List.setIfInBounds_toArray, List.set_cons_zero, List.set_cons_succ]
      refine wpAnyH_take (i := 12) (oi := ?oo37) (v := ?vv37) ?ii37 (by kernel_rfl) ?ff37 (by kernel_rfl) ?qq37 (Or.inl ⟨?ww37, ?yy37⟩) hd0 ?rr37
      case ii37 => simp only [List.getElem?_toArray, List.getElem?_cons_succ, List.getElem?_cons_zero]; rfl
      case ff37 => kernel_rfl
      case qq37 => exact fun _ _ _ h => h
      case ww37 => rfl
      case yy37 => intro W hW; go_simp <;> with_reducible rfl
      try simp only [Act.put, List.setIfInBounds_toArray, List.set_cons_zero, List.set_cons_succ]
      refine wpAnyH_take (i := 13) (oi := ?oo38) (v := ?vv38) ?ii38 (by kernel_rfl) ?ff38 (by kernel_rfl) ?qq38 (Or.inl ⟨?ww38, ?yy38⟩) hd0 ?rr38
      case ii38 => simp only [List.getElem?_toArray, List.getElem?_cons_succ, List.getElem?_cons_zero]; rfl
      case ff38 => kernel_rfl
      case qq38 => exact fun _ _ _ h => h
      case ww38 => rfl
      case yy38 => intro W hW; go_simp <;> with_reducible rfl
      try simp only [Act.put, List.setIfInBounds_toArray, List.set_cons_zero, List.set_cons_succ]
      refine wpAnyH_take (i := 14) (oi := ?oo39) (v := ?vv39) ?ii39 (by kernel_rfl) ?ff39 (by kernel_rfl) ?qq39 (Or.inl ⟨?ww39, ?yy39⟩) hd0 ?rr39
      case ii39 => simp only [List.getElem?_toArray, List.getElem?_cons_succ, List.getElem?_cons_zero]; rfl
      case ff39 => kernel_rfl
      case qq39 => exact fun _ _ _ h => h
      case ww39 => rfl
      case yy39 => intro W hW; go_simp <;> with_reducible rfl
      try simp only [Act.put, List.setIfInBounds_toArray, List.set_cons_zero, List.set_cons_succ]
      refine wpAnyH_take (i := 15) (oi := ?oo40) (v := ?vv40) ?ii40 (by kernel_rfl) ?ff40 (by kernel_rfl) ?qq40 (Or.inl ⟨?ww40, ?yy40⟩) hd0 ?rr40
      case ii40 => simp only [List.getElem?_toArray, List.getElem?_cons_succ, List.getElem?_cons_zero]; rfl
      case ff40 => kernel_rfl
      case qq40 => exact fun _ _ _ h => h
      case ww40 => rfl
      case yy40 => intro W hW; go_simp <;> with_reducible rfl
      try simp only [Act.put, List.setIfInBounds_toArray, List.set_cons_zero, List.set_cons_succ]
      refine wpAnyH_take (i := 16) (oi := ?oo41) (v := ?vv41) ?ii41 (by kernel_rfl) ?ff41 (by kernel_rfl) ?qq41 (Or.inl ⟨?ww41, ?yy41⟩) hd0 ?rr41
      case ii41 => simp only [List.getElem?_toArray, List.getElem?_cons_succ, List.getElem?_cons_zero]; rfl
      case ff41 => kernel_rfl
      case qq41 => exact fun _ _ _ h => h
      case ww41 => rfl
      case yy41 => intro W hW; go_simp <;> with_reducible rfl
      try simp only [Act.put, List.setIfInBounds_toArray, List.set_cons_zero, List.set_cons_succ]
      refine wpAnyH_take (i := 17) (oi := ?oo42) (v := ?vv42) ?ii42 (by kernel_rfl) ?ff42 (by kernel_rfl) ?qq42 (Or.inl ⟨?ww42, ?yy42⟩) hd0 ?rr42
      case ii42 => simp only [List.getElem?_toArray, List.getElem?_cons_succ, List.getElem?_cons_zero]; rfl
      case ff42 => kernel_rfl
      case qq42 => exact fun _ _ _ h => h
      case ww42 => rfl
      case yy42 => intro W hW; go_simp <;> with_reducible rfl
      try simp only [Act.put, List.setIfInBounds_toArray, List.set_cons_zero, List.set_cons_succ]
      refine wpAnyH_take (i := 18) (oi := ?oo43) (v := ?vv43) ?ii43 (by kernel_rfl) ?ff43 (by kernel_rfl) ?qq43 (Or.inl ⟨?ww43, ?yy43⟩) hd0 ?rr43
      case ii43 => simp only [List.getElem?_toArray, List.getElem?_cons_succ, List.getElem?_cons_zero]; rfl
      case ff43 => kernel_rfl
      case qq43 => exact fun _ _ _ h => h
      case ww43 => rfl
      case yy43 => intro W hW; go_simp <;> with_reducible rfl
      try simp only [Act.put, List.setIfInBounds_toArray, List.set_cons_zero, List.set_cons_succ]
      refine wpAnyH_take (i := 19) (oi := ?oo44) (v := ?vv44) ?ii44 (by kernel_rfl) ?ff44 (by kernel_rfl) ?qq44 (Or.inl ⟨?ww44, ?yy44⟩) hd0 ?rr44
      case ii44 => simp only [List.getElem?_toArray, List.getElem?_cons_succ, List.getElem?_cons_zero]; rfl
      case ff44 => kernel_rfl
      case qq44 => exact fun _ _ _ h => h
      case ww44 => rfl
      case yy44 => intro W hW; go_simp <;> with_reducible rfl
      try simp only [Act.put, List.setIfInBounds_toArray, List.set_cons_zero, List.set_cons_succ]
      refine wpAnyH_take (i := 20) (oi := ?oo45) (v := ?vv45) ?ii45 (by kernel_rfl) ?ff45 (by kernel_rfl) ?qq45 (Or.inl ⟨?ww45, ?yy45⟩) hd0 ?rr45
      case ii45 => simp only [List.getElem?_toArray, List.getElem?_cons_succ, List.getElem?_cons_zero]; rfl
      case ff45 => kernel_rfl
      case qq45 => exact fun _ _ _ h => h
      case ww45 => rfl
      case yy45 => intro W hW; go_simp <;> with_reducible rfl
      try simp only [Act.put, List.setIfInBounds_toArray, List.set_cons_zero, List.set_cons_succ]
      refine wpAnyH_take (i := 21) (oi := ?oo46) (v := ?vv46) ?ii46 (by kernel_rfl) ?ff46 (by kernel_rfl) ?qq46 (Or.inl ⟨?ww46, ?yy46⟩) hd0 ?rr46
      case ii46 => simp only [List.getElem?_toArray, List.getElem?_cons_succ, List.getElem?_cons_zero]; rfl
      case ff46 => kernel_rfl
      case qq46 => exact fun _ _ _ h => h
      case ww46 => rfl
      case yy46 => intro W hW; go_simp <;> with_reducible rfl
      try simp only [Act.put, List.setIfInBounds_toArray, List.set_cons_zero, List.set_cons_succ]
      refine wpAnyH_ready (rs := [22]) (by kernel_rfl) (by simp) ?_
      refine AllReadyH.cons (o := ?oo47) ?ii47 (fun K hK => ?_) AllReadyH.nil
      case ii47 => simp only [List.getElem?_toArray, List.getElem?_cons_succ, List.getElem?_cons_zero]; rfl
      go_simp
      refine (HAc.out _).mono ?_
      rintro e w2 ⟨rfl, hb2⟩
      have hd1 := hd0.keep hb2
      have Hb2 := Lib.hid (Hb.out.drew.trans (hb2.mono Hb.out.drew.size))
      clear hb2
      go_wp2_with fail
      refine hK.out _ _ hd1 (fun _ => ?_)
      clear hK K
      refine wpAnyH_take (i := 23) (oi := ?oo48) (v := ?vv48) ?ii48 (by kernel_rfl) ?ff48 (by kernel_rfl) ?qq48 (Or.inl ⟨?ww48, ?yy48⟩) hd1 ?rr48
      case ii48 => simp only [List.getElem?_toArray, List.getElem?_cons_succ, List.getElem?_cons_zero]; rfl
      case ff48 => kernel_rfl
      case qq48 => exact fun _ _ _ h => h
      case ww48 => rfl
      case yy48 => intro W hW; go_simp <;> with_reducible rfl
      try simp only [Act.put, List.setIfInBounds_toArray, List.set_cons_zero, List.set_cons_succ]
      refine wpAnyH_done (by kernel_rfl) ?_ _
      clear hd0 hd1 kx0 kx1 kx2 kx3 ky0 ky1 ky2 ky3 Hb
      cases bb with
      | true =>
        have HR2 := Lib.hid (HRt.out rfl _ Hb2.out)
        clear HRt HRf Hb2
        go_wp2_with fail
        go_roundw
        case rel => exact HR2.out
        case measure => simp [intOf]
      | false =>
        have HR2 := Lib.hid (HRf.out rfl _ Hb2.out)
        clear HRt HRf Hb2
        go_wp2_with fail
        go_roundw
        case rel => exact HR2.out
        case measure => simp [intOf]
    · have hpi : p1 = 2 * i + 1 + 1 := by have := HP1.out; omega
      clear i0
      by_cases hpn : p1 < n
      case neg =>
        have HR : Hid (∀ W, Below wr.heap.size wr W → FirstR es i w (.int .i64 (c : Nat)) (.int .i64 2) W) := Lib.hid fun W hW => ⟨2, c, by omega, QueP.first_out HF.out (by have := HN.out; omega), rfl, rfl, Hb.out.trans (hW.mono Hb.out.size)⟩
        have q1 : decide (p1 < n) = false := decide_eq_false hpn
        have q2 : decide ((p1 : Int) < (n : Int)) = false := decide_eq_false (by omega)
        have HpI := Lib.hid hpi
        have hd0 := (HI.out.keep Hb.out).drew
        clear HF Hb hpi hpn
        go_wp2_with fail
        refine wp_region_held_drew (S := fun W => QueIn W B Q (.slice (some ⟨g, 0, none⟩) n cap) es puts) (by kernel_rfl) hd0 (fun _ => ?_)
        refine wpAnyH_take (i := 0) (oi := ?oo49) (v := ?vv49) ?ii49 (by kernel_rfl) ?ff49 (by kernel_rfl) ?qq49 (Or.inl ⟨?ww49, ?yy49⟩) hd0 ?rr49
        case ii49 => simp only [List.getElem?_toArray, List.getElem?_cons_zero]; rfl
        case ff49 => kernel_rfl
        case qq49 => exact fun _ _ _ h => h
        case ww49 => rfl
        case yy49 => intro W hW; go_simp <;> with_reducible rfl
        try simp only [Act.put, List.setIfInBounds_toArray, List.set_cons_zero, List.set_cons_succ]
        refine wpAnyH_take (i := 1) (oi := ?oo50) (v := ?vv50) ?ii50 (by kernel_rfl) ?ff50 (by kernel_rfl) ?qq50 (Or.inl ⟨?ww50, ?yy50⟩) hd0 ?rr50
        case ii50 => simp only [List.getElem?_toArray, List.getElem?_cons_succ, List.getElem?_cons_zero]; rfl
        case ff50 => kernel_rfl
        case qq50 => exact fun _ _ _ h => h
        case ww50 => rfl
        case yy50 => intro W hW; go_simp <;> with_reducible rfl
        try simp only [Act.put, List.setIfInBounds_toArray, List.set_cons_zero, List.set_cons_succ]
        refine wpAnyH_take (i := 2) (oi := ?oo51) (v := ?vv51) ?ii51 (by kernel_rfl) ?ff51 (by kernel_rfl) ?qq51 (Or.inl ⟨?ww51, ?yy51⟩) hd0 ?rr51
        case ii51 => simp only [List.getElem?_toArray, List.getElem?_cons_succ, List.getElem?_cons_zero]; rfl
        case ff51 => kernel_rfl
        case qq51 => exact fun _ _ _ h => h
        case ww51 => rfl
        case yy51 => intro W hW; go_simp <;> with_reducible rfl
        try simp only [Act.put, List.setIfInBounds_toArray, List.set_cons_zero, List.set_cons_succ]
        refine wpAnyH_take (i := 3) (oi := ?oo52) (v := ?vv52) ?ii52 (by kernel_rfl) ?ff52 (by kernel_rfl) ?qq52 (Or.inl ⟨?ww52, ?yy52⟩) hd0 ?rr52
        case ii52 => simp only [List.getElem?_toArray, List.getElem?_cons_succ, List.getElem?_cons_zero]; rfl
        case ff52 => kernel_rfl
        case qq52 => exact fun _ _ _ h => h
        case ww52 => rfl
        case yy52 => intro W hW; go_simp <;> with_reducible rfl
        try simp only [Act.put, List.setIfInBounds_toArray, List.set_cons_zero, List.set_cons_succ]
        refine wpAnyH_take (i := 4) (oi := ?oo53) (v := ?vv53) ?ii53 (by kernel_rfl) ?ff53 (by kernel_rfl) ?qq53 (Or.inl ⟨?ww53, ?yy53⟩) hd0 ?rr53
        case ii53 => simp only [List.getElem?_toArray, List.getElem?_cons_succ, List.getElem?_cons_zero]; rfl
        case ff53 => kernel_rfl
        case qq53 => exact fun _ _ _ h => h
        case ww53 => rfl
        case yy53 => intro W hW; go_simp <;> with_reducible rfl
        try simp only [Act.put, List.setIfInBounds_toArray, List.set_cons_zero, List.set_cons_succ]
        refine wpAnyH_take (i := 5) (oi := ?oo54) (v := ?vv54) ?ii54 (by kernel_rfl) ?ff54 (by kernel_rfl) ?qq54 (Or.inl ⟨?ww54, ?yy54⟩) hd0 ?rr54
        case ii54 => simp only [List.getElem?_toArray, List.getElem?_cons_succ, List.getElem?_cons_zero]; rfl
        case ff54 => kernel_rfl
        case qq54 => exact fun _ _ _ h => h
        case ww54 => rfl
        case yy54 => intro W hW; go_simp <;> with_reducible rfl
        try simp only [Act.put, List.setIfInBounds_toArray, List.set_cons_zero, List.set_cons_succ]
        refine wpAnyH_take (i := 6) (oi := ?oo55) (v := ?vv55) ?ii55 (by kernel_rfl) ?ff55 (by kernel_rfl) ?qq55 (Or.inl ⟨?ww55, ?yy55⟩) hd0 ?rr55
        case ii55 => simp only [List.getElem?_toArray, List.getElem?_cons_succ, List.getElem?_cons_zero]; rfl
        case ff55 => kernel_rfl
        case qq55 => exact fun _ _ _ h => h
        case ww55 => rfl
        case yy55 => intro W hW; go_simp <;> with_reducible rfl
        try simp only [Act.put, List.setIfInBounds_toArray, List.set_cons_zero, List.set_cons_succ]
        refine wpAnyH_take (i := 7) (oi := ?oo56) (v := ?vv56) ?ii56 (by kernel_rfl) ?ff56 (by kernel_rfl) ?qq56 (Or.inl ⟨?ww56, ?yy56⟩) hd0 ?rr56
        case ii56 => simp only [List.getElem?_toArray, List.getElem?_cons_succ, List.getElem?_cons_zero]; rfl
        case ff56 => kernel_rfl
        case qq56 => exact fun _ _ _ h => h
        case ww56 => rfl
        case yy56 => intro W hW; go_simp <;> with_reducible rfl
        try simp only [Act.put, List.setIfInBounds_toArray, List.set_cons_zero, List.set_cons_succ]
        refine wpAnyH_take (i := 8) (oi := ?oo57) (v := undef) ?ii57 (by kernel_rfl) ?ff57 (by kernel_rfl) ?qq57 (Or.inr ⟨?ww57, rfl⟩) hd0 ?rr57
        case ii57 => simp only [List.getElem?_toArray, List.getElem?_cons_succ, List.getElem?_cons_zero]; rfl
        case ff57 => kernel_rfl
        case qq57 => exact fun _ _ _ h => h
        case ww57 => rfl
        try simp only [Act.put, List.setIfInBounds_toArray, List.set_cons_zero, List.set_cons_succ]
        refine wpAnyH_take (i := 9) (oi := ?oo58) (v := undef) ?ii58 (by kernel_rfl) ?ff58 (by kernel_rfl) ?qq58 (Or.inr ⟨?ww58, rfl⟩) hd0 ?rr58
        case ii58 => simp only [List.getElem?_toArray, List.getElem?_cons_succ, List.getElem?_cons_zero]; rfl
        case ff58 => kernel_rfl
        case qq58 => exact fun _ _ _ h => h
        case ww58 => rfl
        try simp only [Act.put, List.setIfInBounds_toArray, List.set_cons_zero, List.set_cons_succ]
        refine wpAnyH_take (i := 10) (oi := ?oo59) (v := undef) ?ii59 (by kernel_rfl) ?ff59 (by kernel_rfl) ?qq59 (Or.inr ⟨?ww59, rfl⟩) hd0 ?rr59
        case ii59 => simp only [List.getElem?_toArray, List.getElem?_cons_succ, List.getElem?_cons_zero]; rfl
        case ff59 => kernel_rfl
        case qq59 => exact fun _ _ _ h => h
        case ww59 => rfl
        try simp only [Act.put, List.setIfInBounds_toArray, List.set_cons_zero, List.set_cons_succ]
        refine wpAnyH_take (i := 11) (oi := ?oo60) (v := undef) ?ii60 (by kernel_rfl) ?ff60 (by kernel_rfl) ?qq60 (Or.inr ⟨?ww60, rfl⟩) hd0 ?rr60
        case ii60 => simp only [List.getElem?_toArray, List.getElem?_cons_succ, List.getElem?_cons_zero]; rfl
        case ff60 => kernel_rfl
        case qq60 => exact fun _ _ _ h => h
        case ww60 => rfl
        try simp only [Act.put, List.setIfInBounds_toArray, List.set_cons_zero, List.set_cons_succ]
        refine wpAnyH_take (i := 12) (oi := ?oo61) (v := undef) ?ii61 (by kernel_rfl) ?ff61 (by kernel_rfl) ?qq61 (Or.inr ⟨?ww61, rfl⟩) hd0 ?rr61
        case ii61 => simp only [List.getElem?_toArray, List.getElem?_cons_succ, List.getElem?_cons_zero]; rfl
        case ff61 => kernel_rfl
        case qq61 => exact fun _ _ _ h => h
        case ww61 => rfl
        try simp only [Act.put, List.setIfInBounds_toArray, List.set_cons_zero, List.set_cons_succ]
        refine wpAnyH_take (i := 13) (oi := ?oo62) (v := undef) ?ii62 (by kernel_rfl) ?ff62 (by kernel_rfl) ?qq62 (Or.inr ⟨?ww62, rfl⟩) hd0 ?rr62
        case ii62 => simp only [List.getElem?_toArray, List.getElem?_cons_succ, List.getElem?_cons_zero]; rfl
        case ff62 => kernel_rfl
        case qq62 => exact fun _ _ _ h => h
        case ww62 => rfl
        try simp only [Act.put, List.setIfInBounds_toArray, List.set_cons_zero, List.set_cons_succ]
        refine wpAnyH_take (i := 14) (oi := ?oo63) (v := undef) ?ii63 (by kernel_rfl) ?ff63 (by kernel_rfl) ?qq63 (Or.inr ⟨?ww63, rfl⟩) hd0 ?rr63
        case ii63 => simp only [List.getElem?_toArray, List.getElem?_cons_succ, List.getElem?_cons_zero]; rfl
        case ff63 => kernel_rfl
        case qq63 => exact fun _ _ _ h => h
        case ww63 => rfl
        try simp only [Act.put, List.setIfInBounds_toArray, List.set_cons_zero, List.set_cons_succ]
        refine wpAnyH_take (i := 15) (oi := ?oo64) (v := undef) ?ii64 (by kernel_rfl) ?ff64 (by kernel_rfl) ?qq64 (Or.inr ⟨?ww64, rfl⟩) hd0 ?rr64
        case ii64 => simp only [List.getElem?_toArray, List.getElem?_cons_succ, List.getElem?_cons_zero]; rfl
        case ff64 => kernel_rfl
        case qq64 => exact fun _ _ _ h => h
        case ww64 => rfl
        try simp only [Act.put, List.setIfInBounds_toArray, List.set_cons_zero, List.set_cons_succ]
        refine wpAnyH_take (i := 16) (oi := ?oo65) (v := undef) ?ii65 (by kernel_rfl) ?ff65 (by kernel_rfl) ?qq65 (Or.inr ⟨?ww65, rfl⟩) hd0 ?rr65
        case ii65 => simp only [List.getElem?_toArray, List.getElem?_cons_succ, List.getElem?_cons_zero]; rfl
        case ff65 => kernel_rfl
        case qq65 => exact fun _ _ _ h => h
        case ww65 => rfl
        try simp only [Act.put, List.setIfInBounds_toArray, List.set_cons_zero, List.set_cons_succ]
        refine wpAnyH_take (i := 17) (oi := ?oo66) (v := undef) ?ii66 (by kernel_rfl) ?ff66 (by kernel_rfl) ?qq66 (Or.inr ⟨?ww66, rfl⟩) hd0 ?rr66
        case ii66 => simp only [List.getElem?_toArray, List.getElem?_cons_succ, List.getElem?_cons_zero]; rfl
        case ff66 => kernel_rfl
        case qq66 => exact fun _ _ _ h => h
        case ww66 => rfl
        try simp only [Act.put, List.setIfInBounds_toArray, List.set_cons_zero, List.set_cons_succ]
        refine wpAnyH_take (i := 18) (oi := ?oo67) (v := undef) ?ii67 (by kernel_rfl) ?ff67 (by kernel_rfl) ?qq67 (Or.inr ⟨?ww67, rfl⟩) hd0 ?rr67
        case ii67 => simp only [List.getElem?_toArray, List.getElem?_cons_succ, List.getElem?_cons_zero]; rfl
        case ff67 => kernel_rfl
        case qq67 => exact fun _ _ _ h => h
        case ww67 => rfl
        try simp only [Act.put, List.setIfInBounds_toArray, List.set_cons_zero, List.set_cons_succ]
        refine wpAnyH_take (i := 19) (oi := ?oo68) (v := undef) ?ii68 (by kernel_rfl) ?ff68 (by kernel_rfl) ?qq68 (Or.inr ⟨?ww68, rfl⟩) hd0 ?rr68
        case ii68 => simp only [List.getElem?_toArray, List.getElem?_cons_succ, List.getElem?_cons_zero]; rfl
        case ff68 => kernel_rfl
        case qq68 => exact fun _ _ _ h => h
        case ww68 => rfl
        try simp only [Act.put, List.setIfInBounds_toArray, List.set_cons_zero, List.set_cons_succ]
        refine wpAnyH_take (i := 20) (oi := ?oo69) (v := undef) ?ii69 (by kernel_rfl) ?ff69 (by kernel_rfl) ?qq69 (Or.inr ⟨?ww69, rfl⟩) hd0 ?rr69
        case ii69 => simp only [List.getElem?_toArray, List.getElem?_cons_succ, List.getElem?_cons_zero]; rfl
        case ff69 => kernel_rfl
        case qq69 => exact fun _ _ _ h => h
        case ww69 => rfl
        try simp only [Act.put, List.setIfInBounds_toArray, List.set_cons_zero, List.set_cons_succ]
        refine wpAnyH_take (i := 21) (oi := ?oo70) (v := undef) ?ii70 (by kernel_rfl) ?ff70 (by kernel_rfl) ?qq70 (Or.inr ⟨?ww70, rfl⟩) hd0 ?rr70
        case ii70 => simp only [List.getElem?_toArray, List.getElem?_cons_succ, List.getElem?_cons_zero]; rfl
        case ff70 => kernel_rfl
        case qq70 => exact fun _ _ _ h => h
        case ww70 => rfl
        try simp only [Act.put, List.setIfInBounds_toArray, List.set_cons_zero, List.set_cons_succ]
        refine wpAnyH_take (i := 22) (oi := ?oo71) (v := undef) ?ii71 (by kernel_rfl) ?ff71 (by kernel_rfl) ?qq71 (Or.inr ⟨?ww71, rfl⟩) hd0 ?rr71
        case ii71 => simp only [List.getElem?_toArray, List.getElem?_cons_succ, List.getElem?_cons_zero]; rfl
        case ff71 => kernel_rfl
        case qq71 => exact fun _ _ _ h => h
        case ww71 => rfl
        try simp only [Act.put, List.setIfInBounds_toArray, List.set_cons_zero, List.set_cons_succ]
        refine wpAnyH_take (i := 23) (oi := ?oo72) (v := ?vv72) ?ii72 (by kernel_rfl) ?ff72 (by kernel_rfl) ?qq72 (Or.inl ⟨?ww72, ?yy72⟩) hd0 ?rr72
        case ii72 => simp only [List.getElem?_toArray, List.getElem?_cons_succ, List.getElem?_cons_zero]; rfl
        case ff72 => kernel_rfl
        case qq72 => exact fun _ _ _ h => h
        case ww72 => rfl
        case yy72 => intro W hW; go_simp <;> with_reducible rfl
        try simp only [Act.put, List.setIfInBounds_toArray, List.set_cons_zero, List.set_cons_succ]
        refine wpAnyH_done (by kernel_rfl) ?_ _
        have HR2 := Lib.hid (HR.out _ (Below.refl _ _).drew)
        clear hd0 HR q1 q2
        go_wp2_with fail
        go_roundw
        case rel => exact HR2.out
        case measure => simp [intOf]
      obtain ⟨⟨⟨x0, x1, x2⟩, x3⟩, hx⟩ : ∃ x, es[p1]? = some x := ⟨_, List.getElem?_eq_getElem (by have := HN.out; omega)⟩
      have hc : c < n := by
        rcases HF.out.isc with e | ⟨_, _, e⟩
        · rcases HI2.out with e2 | e2 <;> omega
        · have := HN.out; omega
      obtain ⟨⟨⟨y0, y1, y2⟩, y3⟩, hy⟩ : ∃ y, es[c]? = some y := ⟨_, List.getElem?_eq_getElem (by have := HN.out; omega)⟩
      have hn := HN.out
      have kx0 : ∀ W, QueIn W B Q (.slice (some ⟨g, 0, none⟩) n cap) es puts → W.cell? ⟨g, p1 * 4, none⟩ = some (.int .i64 x0) := fun W hW => (hW.ent hn hx).c0
      have kx1 : ∀ W, QueIn W B Q (.slice (some ⟨g, 0, none⟩) n cap) es puts → W.cell? ⟨g, p1 * 4 + 1, none⟩ = some (.int .i64 x1) := fun W hW => (hW.ent hn hx).c1
      have kx2 : ∀ W, QueIn W B Q (.slice (some ⟨g, 0, none⟩) n cap) es puts → W.cell? ⟨g, p1 * 4 + 2, none⟩ = some (.int .i64 x2) := fun W hW => (hW.ent hn hx).c2
      have kx3 : ∀ W, QueIn W B Q (.slice (some ⟨g, 0, none⟩) n cap) es puts → W.cell? ⟨g, p1 * 4 + 3, none⟩ = some (.int .i64 x3) := fun W hW => (hW.ent hn hx).c3
      have ky0 : ∀ W, QueIn W B Q (.slice (some ⟨g, 0, none⟩) n cap) es puts → W.cell? ⟨g, c * 4, none⟩ = some (.int .i64 y0) := fun W hW => (hW.ent hn hy).c0
      have ky1 : ∀ W, QueIn W B Q (.slice (some ⟨g, 0, none⟩) n cap) es puts → W.cell? ⟨g, c * 4 + 1, none⟩ = some (.int .i64 y1) := fun W hW => (hW.ent hn hy).c1
      have ky2 : ∀ W, QueIn W B Q (.slice (some ⟨g, 0, none⟩) n cap) es puts → W.cell? ⟨g, c * 4 + 2, none⟩ = some (.int .i64 y2) := fun W hW => (hW.ent hn hy).c2
      have ky3 : ∀ W, QueIn W B Q (.slice (some ⟨g, 0, none⟩) n cap) es puts → W.cell? ⟨g, c * 4 + 3, none⟩ = some (.int .i64 y3) := fun W hW => (hW.ent hn hy).c3
      have HAc := Lib.hid (fun W => HA.out ⟨⟨x0, x1, x2⟩, x3⟩ ⟨⟨y0, y1, y2⟩, y3⟩ W)
      have HRt : Hid (QueP.aheadB ⟨⟨x0, x1, x2⟩, x3⟩ ⟨⟨y0, y1, y2⟩, y3⟩ = true → ∀ W, Below w.heap.size w W → FirstR es i w (.int .i64 (p1 : Nat)) (.int .i64 2) W) := Lib.hid fun ha W hW => ⟨2, p1, by omega, by have := QueP.first_yes HF.out (by omega) (by rw [← hpi]; exact hx) hy ha; rw [← hpi] at this; exact this, rfl, rfl, hW⟩
      have HRf : Hid (QueP.aheadB ⟨⟨x0, x1, x2⟩, x3⟩ ⟨⟨y0, y1, y2⟩, y3⟩ = false → ∀ W, Below w.heap.size w W → FirstR es i w (.int .i64 (c : Nat)) (.int .i64 2) W) := Lib.hid fun ha W hW => ⟨2, c, by omega, QueP.first_no HF.out (by rw [← hpi]; exact hx) hy ha, rfl, rfl, hW⟩
      have hd0 := (HI.out.keep Hb.out).drew
      have HpI := Lib.hid hpi
      have q2 : decide ((p1 : Int) < (n : Int)) = true := decide_eq_true (by omega)
      unfold entV at HAc
      simp only at HAc
      generalize QueP.aheadB ⟨⟨x0, x1, x2⟩, x3⟩ ⟨⟨y0, y1, y2⟩, y3⟩ = bb at *
      clear hx hy hn HF hpi
      go_wp2_with fail
      refine wp_region_held_drew (S := fun W => QueIn W B Q (.slice (some ⟨g, 0, none⟩) n cap) es puts) (by kernel_rfl) hd0 (fun _ => ?_)
      refine wpAnyH_take (i := 0) (oi := ?oo73) (v := ?vv73) ?ii73 (by kernel_rfl) ?ff73 (by kernel_rfl) ?qq73 (Or.inl ⟨?ww73, ?yy73⟩) hd0 ?rr73
      case ii73 => simp only [List.getElem?_toArray, List.getElem?_cons_zero]; rfl
      case ff73 => kernel_rfl
      case qq73 => exact fun _ _ _ h => h
      case ww73 => rfl
      case yy73 => intro W hW; go_simp <;> with_reducible rfl
      try simp only [Act.put, List.setIfInBounds_toArray, List.set_cons_zero, List.set_cons_succ]
      refine wpAnyH_take (i := 1) (oi := ?oo74) (v := ?vv74) ?ii74 (by kernel_rfl) ?ff74 (by kernel_rfl) ?qq74 (Or.inl ⟨?ww74, ?yy74⟩) hd0 ?rr74
      case ii74 => simp only [List.getElem?_toArray, List.getElem?_cons_succ, List.getElem?_cons_zero]; rfl
      case ff74 => kernel_rfl
      case qq74 => exact fun _ _ _ h => h
      case ww74 => rfl
      case yy74 => intro W hW; go_simp <;> with_reducible rfl
      try simp only [Act.put, List.setIfInBounds_toArray, List.set_cons_zero, List.set_cons_succ]
      refine wpAnyH_take (i := 2) (oi := ?oo75) (v := ?vv75) ?ii75 (by kernel_rfl) ?ff75 (by kernel_rfl) ?qq75 (Or.inl ⟨?ww75, ?yy75⟩) hd0 ?rr75
      case ii75 => simp only [List.getElem?_toArray, List.getElem?_cons_succ, List.getElem?_cons_zero]; rfl
      case ff75 => kernel_rfl
      case qq75 => exact fun _ _ _ h => h
      case ww75 => rfl
      case yy75 => intro W hW; go_simp <;> with_reducible rfl
      try simp only [Act.put, List.setIfInBounds_toArray, List.set_cons_zero, List.set_cons_succ]
      refine wpAnyH_take (i := 3) (oi := ?oo76) (v := ?vv76) ?ii76 (by kernel_rfl) ?ff76 (by kernel_rfl) ?qq76 (Or.inl ⟨?ww76, ?yy76⟩) hd0 ?rr76
      case ii76 => simp only [List.getElem?_toArray, List.getElem?_cons_succ, List.getElem?_cons_zero]; rfl
      case ff76 => kernel_rfl
      case qq76 => exact fun _ _ _ h => h
      case ww76 => rfl
      case yy76 => intro W hW; go_simp <;> with_reducible rfl
      try simp only [Act.put, List.setIfInBounds_toArray, List.set_cons_zero, List.set_cons_succ]
      refine wpAnyH_take (i := 4) (oi := ?oo77) (v := ?vv77) ?ii77 (by kernel_rfl) ?ff77 (by kernel_rfl) ?qq77 (Or.inl ⟨?ww77, ?yy77⟩) hd0 ?rr77
      case ii77 => simp only [List.getElem?_toArray, List.getElem?_cons_succ, List.getElem?_cons_zero]; rfl
      case ff77 => kernel_rfl
      case qq77 => exact fun _ _ _ h => h
      case ww77 => rfl
      case yy77 => intro W hW; go_simp <;> with_reducible rfl
      try simp only [Act.put, List.setIfInBounds_toArray, List.set_cons_zero, List.set_cons_succ]
      refine wpAnyH_take (i := 5) (oi := ?oo78) (v := ?vv78) ?ii78 (by kernel_rfl) ?ff78 (by kernel_rfl) ?qq78 (Or.inl ⟨?ww78, ?yy78⟩) hd0 ?rr78
      case ii78 => simp only [List.getElem?_toArray, List.getElem?_cons_succ, List.getElem?_cons_zero]; rfl
      case ff78 => kernel_rfl
      case qq78 => exact fun _ _ _ h => h
      case ww78 => rfl
      case yy78 => intro W hW; go_simp <;> with_reducible rfl
      try simp only [Act.put, List.setIfInBounds_toArray, List.set_cons_zero, List.set_cons_succ]
      refine wpAnyH_take (i := 6) (oi := ?oo79) (v := ?vv79) ?ii79 (by kernel_rfl) ?ff79 (by kernel_rfl) ?qq79 (Or.inl ⟨?ww79, ?yy79⟩) hd0 ?rr79
      case ii79 => simp only [List.getElem?_toArray, List.getElem?_cons_succ, List.getElem?_cons_zero]; rfl
      case ff79 => kernel_rfl
      case qq79 => exact fun _ _ _ h => h
      case ww79 => rfl
      case yy79 => intro W hW; go_simp <;> with_reducible rfl
      try simp only [Act.put, List.setIfInBounds_toArray, List.set_cons_zero, List.set_cons_succ]
      refine wpAnyH_take (i := 7) (oi := ?oo80) (v := ?vv80) ?ii80 (by kernel_rfl) ?ff80 (by kernel_rfl) ?qq80 (Or.inl ⟨?ww80, ?yy80⟩) hd0 ?rr80
      case ii80 => simp only [List.getElem?_toArray, List.getElem?_cons_succ, List.getElem?_cons_zero]; rfl
      case ff80 => kernel_rfl
      case qq80 => exact fun _ _ _ h => h
      case ww80 => rfl
      case yy80 => intro W hW; go_simp <;> with_reducible rfl
      try simp only [Act.put, List.setIfInBounds_toArray, List.set_cons_zero, List.set_cons_succ]
      refine wpAnyH_take (i := 8) (oi := ?oo81) (v := ?vv81) ?ii81 (by kernel_rfl) ?ff81 (by kernel_rfl) ?qq81 (Or.inl ⟨?ww81, ?yy81⟩) hd0 ?rr81
      case ii81 => simp only [List.getElem?_toArray, List.getElem?_cons_succ, List.getElem?_cons_zero]; rfl
      case ff81 => kernel_rfl
      case qq81 => exact fun _ _ _ h => h
      case ww81 => rfl
      case yy81 => intro W hW; go_simp <;> with_reducible rfl
      try simp only [Act.put, List.setIfInBounds_toArray, List.set_cons_zero, List.set_cons_succ]
      refine wpAnyH_take (i := 9) (oi := ?oo82) (v := ?vv82) ?ii82 (by kernel_rfl) ?ff82 (by kernel_rfl) ?qq82 (Or.inl ⟨?ww82, ?yy82⟩) hd0 ?rr82
      case ii82 => simp only [List.getElem?_toArray, List.getElem?_cons_succ, List.getElem?_cons_zero]; rfl
      case ff82 => kernel_rfl
      case qq82 => exact fun _ _ _ h => h
      case ww82 => rfl
      case yy82 => intro W hW; go_simp <;> with_reducible rfl
      try simp only [Act.put, List.setIfInBounds_toArray, List.set_cons_zero, List.set_cons_succ]
      refine wpAnyH_take (i := 10) (oi := ?oo83) (v := ?vv83) ?ii83 (by kernel_rfl) ?ff83 (by kernel_rfl) ?qq83 (Or.inl ⟨?ww83, ?yy83⟩) hd0 ?rr83
      case ii83 => simp only [List.getElem?_toArray, List.getElem?_cons_succ, List.getElem?_cons_zero]; rfl
      case ff83 => kernel_rfl
      case qq83 => exact fun _ _ _ h => h
      case ww83 => rfl
      case yy83 => intro W hW; go_simp <;> with_reducible rfl
      try simp only [Act.put, List.setIfInBounds_toArray, List.set_cons_zero, List.set_cons_succ]
      refine wpAnyH_take (i := 11) (oi := ?oo84) (v := ?vv84) ?ii84 (by kernel_rfl) ?ff84 (by kernel_rfl) ?qq84 (Or.inl ⟨?ww84, ?yy84⟩) hd0 ?rr84
      case ii84 => simp only [List.getElem?_toArray, List.getElem?_cons_succ, List.getElem?_cons_zero]; rfl
      case ff84 => kernel_rfl
      case qq84 => exact fun _ _ _ h => h
      case ww84 => rfl
      case yy84 => intro W hW; go_simp <;> with_reducible rfl
      try simp only [Act.put, List.setIfInBounds_toArray, List.set_cons_zero, List.set_cons_succ]
      refine wpAnyH_take (i := 12) (oi := ?oo85) (v := ?vv85) ?ii85 (by kernel_rfl) ?ff85 (by kernel_rfl) ?qq85 (Or.inl ⟨?ww85, ?yy85⟩) hd0 ?rr85
      case ii85 => simp only [List.getElem?_toArray, List.getElem?_cons_succ, List.getElem?_cons_zero]; rfl
      case ff85 => kernel_rfl
      case qq85 => exact fun _ _ _ h => h
      case ww85 => rfl
      case yy85 => intro W hW; go_simp <;> with_reducible rfl
      try simp only [Act.put, List.setIfInBounds_toArray, List.set_cons_zero, List.set_cons_succ]
      refine wpAnyH_take (i := 13) (oi := ?oo86) (v := ?vv86) ?ii86 (by kernel_rfl) ?ff86 (by kernel_rfl) ?qq86 (Or.inl ⟨?ww86, ?yy86⟩) hd0 ?rr86
      case ii86 => simp only [List.getElem?_toArray, List.getElem?_cons_succ, List.getElem?_cons_zero]; rfl
      case ff86 => kernel_rfl
      case qq86 => exact fun _ _ _ h => h
      case ww86 => rfl
      case yy86 => intro W hW; go_simp <;> with_reducible rfl
      try simp only [Act.put, List.setIfInBounds_toArray, List.set_cons_zero, List.set_cons_succ]
      refine wpAnyH_take (i := 14) (oi := ?oo87) (v := ?vv87) ?ii87 (by kernel_rfl) ?ff87 (by kernel_rfl) ?qq87 (Or.inl ⟨?ww87, ?yy87⟩) hd0 ?rr87
      case ii87 => simp only [List.getElem?_toArray, List.getElem?_cons_succ, List.getElem?_cons_zero]; rfl
      case ff87 => kernel_rfl
      case qq87 => exact fun _ _ _ h => h
      case ww87 => rfl
      case yy87 => intro W hW; go_simp <;> with_reducible rfl
      try simp only [Act.put, List.setIfInBounds_toArray, List.set_cons_zero, List.set_cons_succ]
      refine wpAnyH_take (i := 15) (oi := ?oo88) (v := ?vv88) ?ii88 (by kernel_rfl) ?ff88 (by kernel_rfl) ?qq88 (Or.inl ⟨?ww88, ?yy88⟩) hd0 ?rr88
      case ii88 => simp only [List.getElem?_toArray, List.getElem?_cons_succ, List.getElem?_cons_zero]; rfl
      case ff88 => kernel_rfl
      case qq88 => exact fun _ _ _ h => h
      case ww88 => rfl
      case yy88 => intro W hW; go_simp <;> with_reducible rfl
      try simp only [Act.put, List.setIfInBounds_toArray, List.set_cons_zero, List.set_cons_succ]
      refine wpAnyH_take (i := 16) (oi := ?oo89) (v := ?vv89) ?ii89 (by kernel_rfl) ?ff89 (by kernel_rfl) ?qq89 (Or.inl ⟨?ww89, ?yy89⟩) hd0 ?rr89
      case ii89 => simp only [List.getElem?_toArray, List.getElem?_cons_succ, List.getElem?_cons_zero]; rfl
      case ff89 => kernel_rfl
      case qq89 => exact fun _ _ _ h => h
      case ww89 => rfl
      case yy89 => intro W hW; go_simp <;> with_reducible rfl
      try simp only [Act.put, List.setIfInBounds_toArray, List.set_cons_zero, List.set_cons_succ]
      refine wpAnyH_take (i := 17) (oi := ?oo90) (v := ?vv90) ?ii90 (by kernel_rfl) ?ff90 (by kernel_rfl) ?qq90 (Or.inl ⟨?ww90, ?yy90⟩) hd0 ?rr90
      case ii90 => simp only [List.getElem?_toArray, List.getElem?_cons_succ, List.getElem?_cons_zero]; rfl
      case ff90 => kernel_rfl
      case qq90 => exact fun _ _ _ h => h
      case ww90 => rfl
      case yy90 => intro W hW; go_simp <;> with_reducible rfl
      try simp only [Act.put, List.setIfInBounds_toArray, List.set_cons_zero, List.set_cons_succ]
      refine wpAnyH_take (i := 18) (oi := ?oo91) (v := ?vv91) ?ii91 (by kernel_rfl) ?ff91 (by kernel_rfl) ?qq91 (Or.inl ⟨?ww91, ?yy91⟩) hd0 ?rr91
      case ii91 => simp only [List.getElem?_toArray, List.getElem?_cons_succ, List.getElem?_cons_zero]; rfl
      case ff91 => kernel_rfl
      case qq91 => exact fun _ _ _ h => h
      case ww91 => rfl
      case yy91 => intro W hW; go_simp <;> with_reducible rfl
      try simp only [Act.put, List.setIfInBounds_toArray, List.set_cons_zero, List.set_cons_succ]
      refine wpAnyH_take (i := 19) (oi := ?oo92) (v := ?vv92) ?ii92 (by kernel_rfl) ?ff92 (by kernel_rfl) ?qq92 (Or.inl ⟨?ww92, ?yy92⟩) hd0 ?rr92
      case ii92 => simp only [List.getElem?_toArray, List.getElem?_cons_succ, List.getElem?_cons_zero]; rfl
      case ff92 => kernel_rfl
      case qq92 => exact fun _ _ _ h => h
      case ww92 => rfl
      case yy92 => intro W hW; go_simp <;> with_reducible rfl
      try simp only [Act.put, List.setIfInBounds_toArray, List.set_cons_zero, List.set_cons_succ]
      refine wpAnyH_take (i := 20) (oi := ?oo93) (v := ?vv93) ?ii93 (by kernel_rfl) ?ff93 (by kernel_rfl) ?qq93 (Or.inl ⟨?ww93, ?yy93⟩) hd0 ?rr93
      case ii93 => simp only [List.getElem?_toArray, List.getElem?_cons_succ, List.getElem?_cons_zero]; rfl
      case ff93 => kernel_rfl
      case qq93 => exact fun _ _ _ h => h
      case ww93 => rfl
      case yy93 => intro W hW; go_simp <;> with_reducible rfl
      try simp only [Act.put, List.setIfInBounds_toArray, List.set_cons_zero, List.set_cons_succ]
      refine wpAnyH_take (i := 21) (oi := ?oo94) (v := ?vv94) ?ii94 (by kernel_rfl) ?ff94 (by kernel_rfl) ?qq94 (Or.inl ⟨?ww94, ?yy94⟩) hd0 ?rr94
      case ii94 => simp only [List.getElem?_toArray, List.getElem?_cons_succ, List.getElem?_cons_zero]; rfl
      case ff94 => kernel_rfl
      case qq94 => exact fun _ _ _ h => h
      case ww94 => rfl
      case yy94 => intro W hW; go_simp <;> with_reducible rfl
      try simp only [Act.put, List.setIfInBounds_toArray, List.set_cons_zero, List.set_cons_succ]
      refine wpAnyH_ready (rs := [22]) (by kernel_rfl) (by simp) ?_
      refine AllReadyH.cons (o := ?oo95) ?ii95 (fun K hK => ?_) AllReadyH.nil
      case ii95 => simp only [List.getElem?_toArray, List.getElem?_cons_succ, List.getElem?_cons_zero]; rfl
      go_simp
      refine (HAc.out _).mono ?_
      rintro e w2 ⟨rfl, hb2⟩
      have hd1 := hd0.keep hb2
      have Hb2 := Lib.hid (Hb.out.drew.trans (hb2.mono Hb.out.drew.size))
      clear hb2
      go_wp2_with fail
      refine hK.out _ _ hd1 (fun _ => ?_)
      clear hK K
      refine wpAnyH_take (i := 23) (oi := ?oo96) (v := ?vv96) ?ii96 (by kernel_rfl) ?ff96 (by kernel_rfl) ?qq96 (Or.inl ⟨?ww96, ?yy96⟩) hd1 ?rr96
      case ii96 => simp only [List.getElem?_toArray, List.getElem?_cons_succ, List.getElem?_cons_zero]; rfl
      case ff96 => kernel_rfl
      case qq96 => exact fun _ _ _ h => h
      case ww96 => rfl
      case yy96 => intro W hW; go_simp <;> with_reducible rfl
      try simp only [Act.put, List.setIfInBounds_toArray, List.set_cons_zero, List.set_cons_succ]
      refine wpAnyH_done (by kernel_rfl) ?_ _
      clear hd0 hd1 kx0 kx1 kx2 kx3 ky0 ky1 ky2 ky3 Hb
      cases bb with
      | true =>
        have HR2 := Lib.hid (HRt.out rfl _ Hb2.out)
        clear HRt HRf Hb2
        go_wp2_with fail
        go_roundw
        case rel => exact HR2.out
        case measure => simp [intOf]
      | false =>
        have HR2 := Lib.hid (HRf.out rfl _ Hb2.out)
        clear HRt HRf Hb2
        go_wp2_with fail
        go_roundw
        case rel => exact HR2.out
        case measure => simp [intOf]
    · have HR : Hid (FirstP es i w (.returned (.int .i64 (c : Nat))) wr) := Lib.hid ⟨c, HF.out, rfl, Hb.out⟩
      clear HF Hb i0 i1
      go_wp2_with fail
      go_ret
      exact HR.out
end Go.Proofs.Ytlijcfojokbdpaa
