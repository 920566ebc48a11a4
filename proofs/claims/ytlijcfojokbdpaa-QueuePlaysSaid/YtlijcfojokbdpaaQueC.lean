/- Contract of queue's swap. Conditions: where the queue lies; the places are within it. -/
import Derived.Test.YtlijcfojokbdpaaQueB
namespace Go.Proofs.Ytlijcfojokbdpaa
open Go.RowKit
set_option maxRecDepth 100000

def SwapP (w : World) (B Q g n cap : Nat) (es : List QueP.Ent) (puts : Int) (e : Ending) (w' : World) : Prop :=
  e = .returned (.tuple #[]) ∧ QueIn w' B Q (.slice (some ⟨g, 0, none⟩) n cap) es puts ∧ Apart (fun k => k = g) w w'

set_option maxHeartbeats 400000 in
theorem swap_any (w : World) (B Q g n cap : Nat) (es : List QueP.Ent) (puts : Int) (a b : Nat) (h : QueIn w B Q (.slice (some ⟨g, 0, none⟩) n cap) es puts) (hn : es.length = n) (x y : QueP.Ent) (hx : es[a]? = some x) (hy : es[b]? = some y) :
    Calls Try.prog 15 #[.pointer (some ⟨Q, 0, none⟩), .int .i64 (a : Nat), .int .i64 (b : Nat)] w (SwapP w B Q g n cap ((es.set a y).set b x) puts) := by
  have ha : a < n := by have := (List.getElem?_eq_some_iff.1 hx).1; omega
  have hb : b < n := by have := (List.getElem?_eq_some_iff.1 hy).1; omega
  obtain ⟨⟨x0, x1, x2⟩, x3⟩ := x
  obtain ⟨⟨y0, y1, y2⟩, y3⟩ := y
  have kh : ∀ W, QueIn W B Q (.slice (some ⟨g, 0, none⟩) n cap) es puts → W.cell? ⟨Q, 0, none⟩ = some (.slice (some ⟨g, 0, none⟩) n cap) := fun W hW => hW.head
  have kx0 : ∀ W, QueIn W B Q (.slice (some ⟨g, 0, none⟩) n cap) es puts → W.cell? ⟨g, a * 4, none⟩ = some (.int .i64 x0) := fun W hW => (hW.ent hn hx).c0
  have kx1 : ∀ W, QueIn W B Q (.slice (some ⟨g, 0, none⟩) n cap) es puts → W.cell? ⟨g, a * 4 + 1, none⟩ = some (.int .i64 x1) := fun W hW => (hW.ent hn hx).c1
  have kx2 : ∀ W, QueIn W B Q (.slice (some ⟨g, 0, none⟩) n cap) es puts → W.cell? ⟨g, a * 4 + 2, none⟩ = some (.int .i64 x2) := fun W hW => (hW.ent hn hx).c2
  have kx3 : ∀ W, QueIn W B Q (.slice (some ⟨g, 0, none⟩) n cap) es puts → W.cell? ⟨g, a * 4 + 3, none⟩ = some (.int .i64 x3) := fun W hW => (hW.ent hn hx).c3
  have ky0 : ∀ W, QueIn W B Q (.slice (some ⟨g, 0, none⟩) n cap) es puts → W.cell? ⟨g, b * 4, none⟩ = some (.int .i64 y0) := fun W hW => (hW.ent hn hy).c0
  have ky1 : ∀ W, QueIn W B Q (.slice (some ⟨g, 0, none⟩) n cap) es puts → W.cell? ⟨g, b * 4 + 1, none⟩ = some (.int .i64 y1) := fun W hW => (hW.ent hn hy).c1
  have ky2 : ∀ W, QueIn W B Q (.slice (some ⟨g, 0, none⟩) n cap) es puts → W.cell? ⟨g, b * 4 + 2, none⟩ = some (.int .i64 y2) := fun W hW => (hW.ent hn hy).c2
  have ky3 : ∀ W, QueIn W B Q (.slice (some ⟨g, 0, none⟩) n cap) es puts → W.cell? ⟨g, b * 4 + 3, none⟩ = some (.int .i64 y3) := fun W hW => (hW.ent hn hy).c3
  have hd0 := h.drew
  have HF : Hid (SwapP w B Q g n cap ((es.set a ⟨⟨y0, y1, y2⟩, y3⟩).set b ⟨⟨x0, x1, x2⟩, x3⟩) puts (.returned (.tuple #[])) (setEnt (setEnt w g (a * 4) y0 y1 y2 y3) g (b * 4) x0 x1 x2 x3).drew) := Lib.hid
    ⟨rfl, ((h.stored hn a ha y0 y1 y2 y3).stored (by rw [List.length_set]; exact hn) b hb x0 x1 x2 x3).drew,
      (((Apart.refl _ w).trans (setEnt_apart _ g (a * 4) y0 y1 y2 y3) (fun _ e => .inl e)).trans (setEnt_apart _ g (b * 4) x0 x1 x2 x3) (fun _ e => .inl e)).drew⟩
  have HW : Hid (QueIn (setEnt w g (a * 4) y0 y1 y2 y3) B Q (.slice (some ⟨g, 0, none⟩) n cap) (es.set a ⟨⟨y0, y1, y2⟩, y3⟩) puts) := Lib.hid (h.stored hn a ha y0 y1 y2 y3)
  have ho := h.own
  rw [hn] at ho
  have kw0 := kx0 w h
  have kw1 := kx1 w h
  have kw2 := kx2 w h
  have kw3 := kx3 w h
  have f0 := ho.frozenAt (a * 4)
  have f1 := ho.frozenAt (a * 4 + 1)
  have f2 := ho.frozenAt (a * 4 + 2)
  have f3 := ho.frozenAt (a * 4 + 3)
  clear h hx hy ho
  go_enter Try.func15, Try.ntmps15
  go_wp2_with fail
  refine wp_region_L_drew (st := 25) (S := fun W => QueIn W B Q (.slice (some ⟨g, 0, none⟩) n cap) es puts) (by kernel_rfl) hd0 (fun _ => ?_)
  refine wpAnyL_quiet (i := 9) (oi := ?oo1) (v := ?vv1) ?ii1 (by decide) (by kernel_rfl) ?ff1 (by kernel_rfl) ?qq1 (Or.inl ⟨?ww1, ?yy1⟩) hd0 ?rr1
  case ii1 => simp only [List.getElem?_toArray, List.getElem?_cons_succ, List.getElem?_cons_zero]; rfl
  case ff1 => kernel_rfl
  case qq1 => exact fun _ _ _ h => h
  case ww1 => rfl
  case yy1 => intro W hW; go_simp <;> with_reducible rfl
  try simp only [Act.put, List.setIfInBounds_toArray, List.set_cons_zero, List.set_cons_succ]
  refine wpAnyL_take (i := 0) (f := 12) (oi := ?oo2) (v := ?vv2) ?ii2 (by kernel_rfl) ?ff2 (by kernel_rfl) ?pp2 ?qq2 (Or.inl ⟨?ww2, ?yy2⟩) hd0 ?rr2
  case ii2 => simp only [List.getElem?_toArray, List.getElem?_cons_zero]; rfl
  case ff2 => kernel_rfl
  case pp2 => kernel_rfl
  case qq2 => exact fun _ _ _ h => h
  case ww2 => rfl
  case yy2 => intro W hW; go_simp <;> with_reducible rfl
  try simp only [Act.put, List.setIfInBounds_toArray, List.set_cons_zero, List.set_cons_succ]
  refine wpAnyL_take (i := 1) (f := 12) (oi := ?oo3) (v := ?vv3) ?ii3 (by kernel_rfl) ?ff3 (by kernel_rfl) ?pp3 ?qq3 (Or.inl ⟨?ww3, ?yy3⟩) hd0 ?rr3
  case ii3 => simp only [List.getElem?_toArray, List.getElem?_cons_succ, List.getElem?_cons_zero]; rfl
  case ff3 => kernel_rfl
  case pp3 => kernel_rfl
  case qq3 => exact fun _ _ _ h => h
  case ww3 => rfl
  case yy3 => intro W hW; go_simp <;> with_reducible rfl
  try simp only [Act.put, List.setIfInBounds_toArray, List.set_cons_zero, List.set_cons_succ]
  refine wpAnyL_take (i := 2) (f := 12) (oi := ?oo4) (v := ?vv4) ?ii4 (by kernel_rfl) ?ff4 (by kernel_rfl) ?pp4 ?qq4 (Or.inl ⟨?ww4, ?yy4⟩) hd0 ?rr4
  case ii4 => simp only [List.getElem?_toArray, List.getElem?_cons_succ, List.getElem?_cons_zero]; rfl
  case ff4 => kernel_rfl
  case pp4 => kernel_rfl
  case qq4 => exact fun _ _ _ h => h
  case ww4 => rfl
  case yy4 => intro W hW; go_simp <;> with_reducible rfl
  try simp only [Act.put, List.setIfInBounds_toArray, List.set_cons_zero, List.set_cons_succ]
  refine wpAnyL_take (i := 3) (f := 12) (oi := ?oo5) (v := ?vv5) ?ii5 (by kernel_rfl) ?ff5 (by kernel_rfl) ?pp5 ?qq5 (Or.inl ⟨?ww5, ?yy5⟩) hd0 ?rr5
  case ii5 => simp only [List.getElem?_toArray, List.getElem?_cons_succ, List.getElem?_cons_zero]; rfl
  case ff5 => kernel_rfl
  case pp5 => kernel_rfl
  case qq5 => exact fun _ _ _ h => h
  case ww5 => rfl
  case yy5 => intro W hW; go_simp <;> with_reducible rfl
  try simp only [Act.put, List.setIfInBounds_toArray, List.set_cons_zero, List.set_cons_succ]
  refine wpAnyL_take (i := 4) (f := 12) (oi := ?oo6) (v := ?vv6) ?ii6 (by kernel_rfl) ?ff6 (by kernel_rfl) ?pp6 ?qq6 (Or.inl ⟨?ww6, ?yy6⟩) hd0 ?rr6
  case ii6 => simp only [List.getElem?_toArray, List.getElem?_cons_succ, List.getElem?_cons_zero]; rfl
  case ff6 => kernel_rfl
  case pp6 => kernel_rfl
  case qq6 => exact fun _ _ _ h => h
  case ww6 => rfl
  case yy6 => intro W hW; go_simp <;> with_reducible rfl
  try simp only [Act.put, List.setIfInBounds_toArray, List.set_cons_zero, List.set_cons_succ]
  refine wpAnyL_take (i := 5) (f := 12) (oi := ?oo7) (v := ?vv7) ?ii7 (by kernel_rfl) ?ff7 (by kernel_rfl) ?pp7 ?qq7 (Or.inl ⟨?ww7, ?yy7⟩) hd0 ?rr7
  case ii7 => simp only [List.getElem?_toArray, List.getElem?_cons_succ, List.getElem?_cons_zero]; rfl
  case ff7 => kernel_rfl
  case pp7 => kernel_rfl
  case qq7 => exact fun _ _ _ h => h
  case ww7 => rfl
  case yy7 => intro W hW; go_simp <;> with_reducible rfl
  try simp only [Act.put, List.setIfInBounds_toArray, List.set_cons_zero, List.set_cons_succ]
  refine wpAnyL_take (i := 6) (f := 12) (oi := ?oo8) (v := ?vv8) ?ii8 (by kernel_rfl) ?ff8 (by kernel_rfl) ?pp8 ?qq8 (Or.inl ⟨?ww8, ?yy8⟩) hd0 ?rr8
  case ii8 => simp only [List.getElem?_toArray, List.getElem?_cons_succ, List.getElem?_cons_zero]; rfl
  case ff8 => kernel_rfl
  case pp8 => kernel_rfl
  case qq8 => exact fun _ _ _ h => h
  case ww8 => rfl
  case yy8 => intro W hW; go_simp <;> with_reducible rfl
  try simp only [Act.put, List.setIfInBounds_toArray, List.set_cons_zero, List.set_cons_succ]
  refine wpAnyL_take (i := 7) (f := 12) (oi := ?oo9) (v := ?vv9) ?ii9 (by kernel_rfl) ?ff9 (by kernel_rfl) ?pp9 ?qq9 (Or.inl ⟨?ww9, ?yy9⟩) hd0 ?rr9
  case ii9 => simp only [List.getElem?_toArray, List.getElem?_cons_succ, List.getElem?_cons_zero]; rfl
  case ff9 => kernel_rfl
  case pp9 => kernel_rfl
  case qq9 => exact fun _ _ _ h => h
  case ww9 => rfl
  case yy9 => intro W hW; go_simp <;> with_reducible rfl
  try simp only [Act.put, List.setIfInBounds_toArray, List.set_cons_zero, List.set_cons_succ]
  refine wpAnyL_take (i := 8) (f := 12) (oi := ?oo10) (v := ?vv10) ?ii10 (by kernel_rfl) ?ff10 (by kernel_rfl) ?pp10 ?qq10 (Or.inl ⟨?ww10, ?yy10⟩) hd0 ?rr10
  case ii10 => simp only [List.getElem?_toArray, List.getElem?_cons_succ, List.getElem?_cons_zero]; rfl
  case ff10 => kernel_rfl
  case pp10 => kernel_rfl
  case qq10 => exact fun _ _ _ h => h
  case ww10 => rfl
  case yy10 => intro W hW; go_simp <;> with_reducible rfl
  try simp only [Act.put, List.setIfInBounds_toArray, List.set_cons_zero, List.set_cons_succ]
  refine wpAnyL_take (i := 10) (f := 12) (oi := ?oo11) (v := ?vv11) ?ii11 (by kernel_rfl) ?ff11 (by kernel_rfl) ?pp11 ?qq11 (Or.inl ⟨?ww11, ?yy11⟩) hd0 ?rr11
  case ii11 => simp only [List.getElem?_toArray, List.getElem?_cons_succ, List.getElem?_cons_zero]; rfl
  case ff11 => kernel_rfl
  case pp11 => kernel_rfl
  case qq11 => exact fun _ _ _ h => h
  case ww11 => rfl
  case yy11 => intro W hW; go_simp <;> with_reducible rfl
  try simp only [Act.put, List.setIfInBounds_toArray, List.set_cons_zero, List.set_cons_succ]
  refine wpAnyL_take (i := 11) (f := 12) (oi := ?oo12) (v := ?vv12) ?ii12 (by kernel_rfl) ?ff12 (by kernel_rfl) ?pp12 ?qq12 (Or.inl ⟨?ww12, ?yy12⟩) hd0 ?rr12
  case ii12 => simp only [List.getElem?_toArray, List.getElem?_cons_succ, List.getElem?_cons_zero]; rfl
  case ff12 => kernel_rfl
  case pp12 => kernel_rfl
  case qq12 => exact fun _ _ _ h => h
  case ww12 => rfl
  case yy12 => intro W hW; go_simp <;> with_reducible rfl
  try simp only [Act.put, List.setIfInBounds_toArray, List.set_cons_zero, List.set_cons_succ]
  refine wpAnyL_take (i := 12) (f := 12) (oi := ?oo13) (v := ?vv13) ?ii13 (by kernel_rfl) ?ff13 (by kernel_rfl) ?pp13 ?qq13 (Or.inl ⟨?ww13, ?yy13⟩) hd0 ?rr13
  case ii13 => simp only [List.getElem?_toArray, List.getElem?_cons_succ, List.getElem?_cons_zero]; rfl
  case ff13 => kernel_rfl
  case pp13 => kernel_rfl
  case qq13 => exact fun _ _ _ h => h
  case ww13 => rfl
  case yy13 => intro W hW; go_simp <;> with_reducible rfl
  try simp only [Act.put, List.setIfInBounds_toArray, List.set_cons_zero, List.set_cons_succ]
  refine wpAnyL_take (i := 13) (f := 12) (oi := ?oo14) (v := ?vv14) ?ii14 (by kernel_rfl) ?ff14 (by kernel_rfl) ?pp14 ?qq14 (Or.inl ⟨?ww14, ?yy14⟩) hd0 ?rr14
  case ii14 => simp only [List.getElem?_toArray, List.getElem?_cons_succ, List.getElem?_cons_zero]; rfl
  case ff14 => kernel_rfl
  case pp14 => kernel_rfl
  case qq14 => exact fun _ _ _ h => h
  case ww14 => rfl
  case yy14 => intro W hW; go_simp <;> with_reducible rfl
  try simp only [Act.put, List.setIfInBounds_toArray, List.set_cons_zero, List.set_cons_succ]
  refine wpAnyL_take (i := 14) (f := 12) (oi := ?oo15) (v := ?vv15) ?ii15 (by kernel_rfl) ?ff15 (by kernel_rfl) ?pp15 ?qq15 (Or.inl ⟨?ww15, ?yy15⟩) hd0 ?rr15
  case ii15 => simp only [List.getElem?_toArray, List.getElem?_cons_succ, List.getElem?_cons_zero]; rfl
  case ff15 => kernel_rfl
  case pp15 => kernel_rfl
  case qq15 => exact fun _ _ _ h => h
  case ww15 => rfl
  case yy15 => intro W hW; go_simp <;> with_reducible rfl
  try simp only [Act.put, List.setIfInBounds_toArray, List.set_cons_zero, List.set_cons_succ]
  refine wpAnyL_take (i := 15) (f := 12) (oi := ?oo16) (v := ?vv16) ?ii16 (by kernel_rfl) ?ff16 (by kernel_rfl) ?pp16 ?qq16 (Or.inl ⟨?ww16, ?yy16⟩) hd0 ?rr16
  case ii16 => simp only [List.getElem?_toArray, List.getElem?_cons_succ, List.getElem?_cons_zero]; rfl
  case ff16 => kernel_rfl
  case pp16 => kernel_rfl
  case qq16 => exact fun _ _ _ h => h
  case ww16 => rfl
  case yy16 => intro W hW; go_simp <;> with_reducible rfl
  try simp only [Act.put, List.setIfInBounds_toArray, List.set_cons_zero, List.set_cons_succ]
  refine wpAnyL_take (i := 16) (f := 12) (oi := ?oo17) (v := ?vv17) ?ii17 (by kernel_rfl) ?ff17 (by kernel_rfl) ?pp17 ?qq17 (Or.inl ⟨?ww17, ?yy17⟩) hd0 ?rr17
  case ii17 => simp only [List.getElem?_toArray, List.getElem?_cons_succ, List.getElem?_cons_zero]; rfl
  case ff17 => kernel_rfl
  case pp17 => kernel_rfl
  case qq17 => exact fun _ _ _ h => h
  case ww17 => rfl
  case yy17 => intro W hW; go_simp <;> with_reducible rfl
  try simp only [Act.put, List.setIfInBounds_toArray, List.set_cons_zero, List.set_cons_succ]
  refine wpAnyL_take (i := 17) (f := 12) (oi := ?oo18) (v := ?vv18) ?ii18 (by kernel_rfl) ?ff18 (by kernel_rfl) ?pp18 ?qq18 (Or.inl ⟨?ww18, ?yy18⟩) hd0 ?rr18
  case ii18 => simp only [List.getElem?_toArray, List.getElem?_cons_succ, List.getElem?_cons_zero]; rfl
  case ff18 => kernel_rfl
  case pp18 => kernel_rfl
  case qq18 => exact fun _ _ _ h => h
  case ww18 => rfl
  case yy18 => intro W hW; go_simp <;> with_reducible rfl
  try simp only [Act.put, List.setIfInBounds_toArray, List.set_cons_zero, List.set_cons_succ]
  refine wpAnyL_take (i := 18) (f := 12) (oi := ?oo19) (v := ?vv19) ?ii19 (by kernel_rfl) ?ff19 (by kernel_rfl) ?pp19 ?qq19 (Or.inl ⟨?ww19, ?yy19⟩) hd0 ?rr19
  case ii19 => simp only [List.getElem?_toArray, List.getElem?_cons_succ, List.getElem?_cons_zero]; rfl
  case ff19 => kernel_rfl
  case pp19 => kernel_rfl
  case qq19 => exact fun _ _ _ h => h
  case ww19 => rfl
  case yy19 => intro W hW; go_simp <;> with_reducible rfl
  try simp only [Act.put, List.setIfInBounds_toArray, List.set_cons_zero, List.set_cons_succ]
  refine wpAnyL_take (i := 19) (f := 12) (oi := ?oo20) (v := ?vv20) ?ii20 (by kernel_rfl) ?ff20 (by kernel_rfl) ?pp20 ?qq20 (Or.inl ⟨?ww20, ?yy20⟩) hd0 ?rr20
  case ii20 => simp only [List.getElem?_toArray, List.getElem?_cons_succ, List.getElem?_cons_zero]; rfl
  case ff20 => kernel_rfl
  case pp20 => kernel_rfl
  case qq20 => exact fun _ _ _ h => h
  case ww20 => rfl
  case yy20 => intro W hW; go_simp <;> with_reducible rfl
  try simp only [Act.put, List.setIfInBounds_toArray, List.set_cons_zero, List.set_cons_succ]
  refine wpAnyL_take (i := 20) (f := 12) (oi := ?oo21) (v := ?vv21) ?ii21 (by kernel_rfl) ?ff21 (by kernel_rfl) ?pp21 ?qq21 (Or.inl ⟨?ww21, ?yy21⟩) hd0 ?rr21
  case ii21 => simp only [List.getElem?_toArray, List.getElem?_cons_succ, List.getElem?_cons_zero]; rfl
  case ff21 => kernel_rfl
  case pp21 => kernel_rfl
  case qq21 => exact fun _ _ _ h => h
  case ww21 => rfl
  case yy21 => intro W hW; go_simp <;> with_reducible rfl
  try simp only [Act.put, List.setIfInBounds_toArray, List.set_cons_zero, List.set_cons_succ]
  refine wpAnyL_take (i := 21) (f := 12) (oi := ?oo22) (v := ?vv22) ?ii22 (by kernel_rfl) ?ff22 (by kernel_rfl) ?pp22 ?qq22 (Or.inl ⟨?ww22, ?yy22⟩) hd0 ?rr22
  case ii22 => simp only [List.getElem?_toArray, List.getElem?_cons_succ, List.getElem?_cons_zero]; rfl
  case ff22 => kernel_rfl
  case pp22 => kernel_rfl
  case qq22 => exact fun _ _ _ h => h
  case ww22 => rfl
  case yy22 => intro W hW; go_simp <;> with_reducible rfl
  try simp only [Act.put, List.setIfInBounds_toArray, List.set_cons_zero, List.set_cons_succ]
  refine wpAnyL_take (i := 22) (f := 12) (oi := ?oo23) (v := ?vv23) ?ii23 (by kernel_rfl) ?ff23 (by kernel_rfl) ?pp23 ?qq23 (Or.inl ⟨?ww23, ?yy23⟩) hd0 ?rr23
  case ii23 => simp only [List.getElem?_toArray, List.getElem?_cons_succ, List.getElem?_cons_zero]; rfl
  case ff23 => kernel_rfl
  case pp23 => kernel_rfl
  case qq23 => exact fun _ _ _ h => h
  case ww23 => rfl
  case yy23 => intro W hW; go_simp <;> with_reducible rfl
  try simp only [Act.put, List.setIfInBounds_toArray, List.set_cons_zero, List.set_cons_succ]
  refine wpAnyL_take (i := 23) (f := 12) (oi := ?oo24) (v := ?vv24) ?ii24 (by kernel_rfl) ?ff24 (by kernel_rfl) ?pp24 ?qq24 (Or.inl ⟨?ww24, ?yy24⟩) hd0 ?rr24
  case ii24 => simp only [List.getElem?_toArray, List.getElem?_cons_succ, List.getElem?_cons_zero]; rfl
  case ff24 => kernel_rfl
  case pp24 => kernel_rfl
  case qq24 => exact fun _ _ _ h => h
  case ww24 => rfl
  case yy24 => intro W hW; go_simp <;> with_reducible rfl
  try simp only [Act.put, List.setIfInBounds_toArray, List.set_cons_zero, List.set_cons_succ]
  refine wpAnyL_take (i := 24) (f := 12) (oi := ?oo25) (v := ?vv25) ?ii25 (by kernel_rfl) ?ff25 (by kernel_rfl) ?pp25 ?qq25 (Or.inl ⟨?ww25, ?yy25⟩) hd0 ?rr25
  case ii25 => simp only [List.getElem?_toArray, List.getElem?_cons_succ, List.getElem?_cons_zero]; rfl
  case ff25 => kernel_rfl
  case pp25 => kernel_rfl
  case qq25 => exact fun _ _ _ h => h
  case ww25 => rfl
  case yy25 => intro W hW; go_simp <;> with_reducible rfl
  try simp only [Act.put, List.setIfInBounds_toArray, List.set_cons_zero, List.set_cons_succ]
  clear kh kx0 kx1 kx2 kx3 ky0 ky1 ky2 ky3
  refine wpAnyL_last (k := 25) (o := ?oo26) (by kernel_rfl) ?ii26 (fun K hK => ?_)
  case ii26 => simp only [List.getElem?_toArray, List.getElem?_cons_succ, List.getElem?_cons_zero]; rfl
  go_simp
  go_wp2_with fail
  refine hK.out _ _ ?_
  clear hK K
  clear kw0 kw1 kw2 kw3 f0 f1 f2 f3
  generalize hw1 : (((w.setCell ⟨g, a * 4, none⟩ (.int .i64 y0)).setCell ⟨g, a * 4 + 1, none⟩ (.int .i64 y1)).setCell ⟨g, a * 4 + 2, none⟩ (.int .i64 y2)).setCell ⟨g, a * 4 + 3, none⟩ (.int .i64 y3) = w1
  have HF1 : Hid (SwapP w B Q g n cap ((es.set a ⟨⟨y0, y1, y2⟩, y3⟩).set b ⟨⟨x0, x1, x2⟩, x3⟩) puts (.returned (.tuple #[])) (setEnt w1 g (b * 4) x0 x1 x2 x3).drew) := Lib.hid (by subst hw1; exact HF.out)
  have hW1 : QueIn w1 B Q (.slice (some ⟨g, 0, none⟩) n cap) (es.set a ⟨⟨y0, y1, y2⟩, y3⟩) puts := by subst hw1; exact HW.out
  obtain ⟨⟨⟨z0, z1, z2⟩, z3⟩, hz⟩ : ∃ z, (es.set a ⟨⟨y0, y1, y2⟩, y3⟩)[b]? = some z := ⟨_, List.getElem?_eq_getElem (by rw [List.length_set]; omega)⟩
  obtain ⟨kw0, kw1, kw2, kw3⟩ := hW1.ent (by rw [List.length_set]; exact hn) hz
  have ho := hW1.own
  rw [List.length_set, hn] at ho
  have f0 := ho.frozenAt (b * 4)
  have f1 := ho.frozenAt (b * 4 + 1)
  have f2 := ho.frozenAt (b * 4 + 2)
  have f3 := ho.frozenAt (b * 4 + 3)
  clear hw1 hW1 hz ho HF HW hd0
  refine wpAnyL_one (k := 26) (o := ?oo27) (by kernel_rfl) ?ii27 (fun K hK => ?_)
  case ii27 => simp only [List.getElem?_toArray, List.getElem?_cons_succ, List.getElem?_cons_zero]; rfl
  go_simp
  try go_wp2_with fail
  refine hK.out _ _ (fun e => absurd (show (true : Bool) = false from e) (by decide)) ?_
  clear hK K
  refine wpAnyL_one (k := 27) (o := ?oo28) (by kernel_rfl) ?ii28 (fun K hK => ?_)
  case ii28 => simp only [List.getElem?_toArray, List.getElem?_cons_succ, List.getElem?_cons_zero]; rfl
  go_simp
  try go_wp2_with fail
  refine hK.out _ _ (fun e => absurd (show (true : Bool) = false from e) (by decide)) ?_
  clear hK K
  refine wpAnyL_done (by kernel_rfl) ?_ _
  go_wp2_with fail
  refine bodyPost_ret (v := .tuple #[]) (by simp [results, Try.results15, go_sem]) rfl ?_
  exact HF1.out
end Go.Proofs.Ytlijcfojokbdpaa
