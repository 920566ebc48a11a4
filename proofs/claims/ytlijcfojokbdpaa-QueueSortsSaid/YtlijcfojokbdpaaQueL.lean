/- QueueSorts: the walk of the law. Conditions: where the argument lies. -/
import Derived.Test.YtlijcfojokbdpaaQueArg
import Derived.Test.YtlijcfojokbdpaaQueM
import Derived.Test.YtlijcfojokbdpaaSeg
import Derived.Deep.OwnRows
namespace Go.Proofs.Ytlijcfojokbdpaa
open Go.RowKit
set_option maxRecDepth 100000

theorem infoBoolQ : (Try.prog.info? 4).map (fun i => (i.zero, i.size, i.bytes)) = some (some (.bool false), 1, 1) := by kernel_rfl
theorem ev_cells {W : World} {A : Option Addr} {l : List QueP.Ev} (h : ItemsIn evVals 3 W A l) {k : Nat} {x : QueP.Ev} (hk : l[k]? = some x) :
    ∃ b off, A = some ⟨b, off, none⟩ ∧ b < W.heap.size ∧ W.cell? ⟨b, off + k * 3, none⟩ = some (.int .i64 x.at_) ∧ W.cell? ⟨b, off + k * 3 + 1, none⟩ = some (.int .i64 x.rank) ∧ W.cell? ⟨b, off + k * 3 + 2, none⟩ = some (.int .i64 x.what) := by
  obtain ⟨b, off, e, hb, hi⟩ := h (by have := (List.getElem?_eq_some_iff.1 hk).1; omega)
  have := hi k _ hk
  exact ⟨b, off, e, hb, this 0 _ rfl, this 1 _ rfl, this 2 _ rfl⟩

/-- So many events were put, each with its place. -/
def FillR (w1 : World) (l : List QueP.Ev) (n : Nat) (i : Value) (W : World) : Prop :=
  ∃ k : Nat, k ≤ n ∧ i = .int .i64 (k : Nat) ∧ QueS W w1.heap.size w1.heap.size ((QueP.sortL l).take k) (k : Nat) ∧ Below w1.heap.size w1 W
/-- So many came out. -/
def OutR (w1 : World) (l : List QueP.Ev) (n g M : Nat) (i : Value) (W : World) : Prop :=
  ∃ (k : Nat) (want : List QueP.Ev) (bl : List Bool) (last : QueP.Ev), QueP.SortsP l k want bl last ∧ i = .int .i64 (k : Nat) ∧ QueS W w1.heap.size w1.heap.size want (n : Nat) ∧ W.ownsRow w1.heap.size 4 1 (.slice (some ⟨g, 0, none⟩) n n) n (bitV bl) ∧
    W.heap[M]? = some (.cells #[.int .i64 last.at_, .int .i64 last.rank, .int .i64 last.what] 28 (0, 0)) ∧ Below w1.heap.size w1 W
structure SortS1 (B N g n : Nat) (A : Option Addr) (l : List QueP.Ev) (bl : List Bool) (x0 x1 : Int) (i : Nat) (W : World) : Prop where
  box : W.heap[N]? = some (.cells #[.int .i64 x0, .int .i64 x1, .int .i64 (i : Nat)] 28 (0, 0))
  seen : W.ownsRow B 4 1 (.slice (some ⟨g, 0, none⟩) n n) n (bitV bl)
  arg : ItemsIn evVals 3 W A l
theorem SortS1.keep {B N g n : Nat} {A : Option Addr} {l : List QueP.Ev} {bl : List Bool} {x0 x1 : Int} {i : Nat} {W W' : World} (h : SortS1 B N g n A l bl x0 x1 i W) (hb : Below W.heap.size W W') : SortS1 B N g n A l bl x0 x1 i W' :=
  ⟨(hb.block _ (lt_of_block h.box)).trans h.box, own_apart h.seen (Apart.of_below' (F := fun _ => False) hb) (fun _ _ h => h), h.arg.below hb⟩

def BoxAt (N : Nat) (x0 x1 : Int) (i : Nat) (W : World) : Prop := W.heap[N]? = some (.cells #[.int .i64 x0, .int .i64 x1, .int .i64 (i : Nat)] 28 (0, 0))
/-- Behind a round's stores. -/
theorem out_next {w1 wd : World} {B g M n : Nat} {want : List QueP.Ev} {next : Int} {bl : List Bool} {a b c x0 x1 x2 : Int} (hq : QueS wd B B want next) (hs : wd.ownsRow B 4 1 (.slice (some ⟨g, 0, none⟩) n n) n (bitV bl))
    (hM : wd.heap[M]? = some (.cells #[.int .i64 a, .int .i64 b, .int .i64 c] 28 (0, 0))) (hb : Below B w1 wd) (hB : B ≤ w1.heap.size) (hMB : B ≤ M) (i : Nat) :
    QueS ((((wd.setCell ⟨g, i, none⟩ (.bool true)).setCell ⟨M, 0, none⟩ (.int .i64 x0)).setCell ⟨M, 1, none⟩ (.int .i64 x1)).setCell ⟨M, 2, none⟩ (.int .i64 x2)) B B want next ∧
    World.ownsRow ((((wd.setCell ⟨g, i, none⟩ (.bool true)).setCell ⟨M, 0, none⟩ (.int .i64 x0)).setCell ⟨M, 1, none⟩ (.int .i64 x1)).setCell ⟨M, 2, none⟩ (.int .i64 x2)) B 4 1 (.slice (some ⟨g, 0, none⟩) n n) n (bitV (bl.set i true)) ∧
    ((((wd.setCell ⟨g, i, none⟩ (.bool true)).setCell ⟨M, 0, none⟩ (.int .i64 x0)).setCell ⟨M, 1, none⟩ (.int .i64 x1)).setCell ⟨M, 2, none⟩ (.int .i64 x2)).heap[M]? = some (.cells #[.int .i64 x0, .int .i64 x1, .int .i64 x2] 28 (0, 0)) ∧
    Below B w1 ((((wd.setCell ⟨g, i, none⟩ (.bool true)).setCell ⟨M, 0, none⟩ (.int .i64 x0)).setCell ⟨M, 1, none⟩ (.int .i64 x1)).setCell ⟨M, 2, none⟩ (.int .i64 x2)) := by
  have hne : g ≠ M := own_off hs hM (by decide) g rfl
  have hgB := (hs.lt g rfl).1
  have h1 := hs.stored i (.bool true)
  have hM1 : (wd.setCell ⟨g, i, none⟩ (.bool true)).heap[M]? = some (.cells #[.int .i64 a, .int .i64 b, .int .i64 c] 28 (0, 0)) := (heap_setCell_other wd ⟨g, i, none⟩ M _ (Ne.symm hne)).trans hM
  have aG : Apart (fun k => k = g) wd (wd.setCell ⟨g, i, none⟩ (.bool true)) := (Apart.refl (fun k => k = g) wd).setCell (p := ⟨g, i, none⟩) (.inl rfl) _
  generalize wd.setCell ⟨g, i, none⟩ (.bool true) = we at *
  have g1 := heap_setCell_same we M 0 _ _ (.int .i64 x0) hM1
  have g2 := heap_setCell_same _ M 1 _ _ (.int .i64 x1) g1
  have g3 := heap_setCell_same _ M 2 _ _ (.int .i64 x2) g2
  have aM : Apart (fun k => k = M) we (((we.setCell ⟨M, 0, none⟩ (.int .i64 x0)).setCell ⟨M, 1, none⟩ (.int .i64 x1)).setCell ⟨M, 2, none⟩ (.int .i64 x2)) :=
    (((Apart.refl (fun k => k = M) we).setCell (p := ⟨M, 0, none⟩) (.inl rfl) _).setCell (p := ⟨M, 1, none⟩) (.inl rfl) _).setCell (p := ⟨M, 2, none⟩) (.inl rfl) _
  have hgcell : ∃ cur, wd.heap[g]? = some (.cells cur 4 (0, 0)) := Seg.block (Seg.of_own hs) g rfl
  refine ⟨?_, ?_, g3, ?_⟩
  · refine QueS.beside (QueS.beside hq aG ?_) aM ?_
    · intro k cs t hk ht e
      subst e
      obtain ⟨cur, hcur⟩ := hgcell
      rw [hcur] at hk
      simp only [Option.some.injEq, Obj.cells.injEq] at hk
      obtain ⟨-, rfl, -⟩ := hk
      rcases ht with e2 | e2 <;> exact absurd e2 (by decide)
    · intro k cs t hk ht e
      subst e
      rw [hM1] at hk
      simp only [Option.some.injEq, Obj.cells.injEq] at hk
      obtain ⟨-, rfl, -⟩ := hk
      rcases ht with e2 | e2 <;> exact absurd e2 (by decide)
  · rw [bitV_set]
    exact own_apart h1.1 aM (fun k hk e => by simp only [Value.ownBlock, Option.some.injEq] at hk; omega)
  · exact (hb.trans (aG.below (by have := hb.size; omega) (fun k e => by omega))).trans (aM.below (by have := hb.size; have := aG.size; omega) (fun k e => by omega))

set_option maxHeartbeats 8000000 in
theorem sorts_law (A : Option Addr) (l : List QueP.Ev) (n cap : Nat) (hl : l.length = n) (hn : n * 24 ≤ 140737488355328) (w : World) (hin : ItemsIn evVals 3 w A l) :
    Calls Try.prog 6 #[.slice A n cap] w (QBool true w) := by
  have HA := Lib.hid (awake_any w)
  have HNw := Lib.hid (fun W => new_any W)
  have HIn := Lib.hid (fun W (h : Below w.heap.size w W) => hin.below h)
  have HL := Lib.hid hl
  clear hin hl
  by_cases hbig : 500 < n
  case pos =>
    have q1 : decide ((500 : Int) < (n : Int)) = true := decide_eq_true (by omega)
    go_enter Try.func6, Try.ntmps6
    go_wp2_with fail
    refine HA.out.mono ?_
    rintro e w1 ⟨rfl, hb1⟩
    have Hb1 := Lib.hid hb1
    clear hb1 HA
    go_wp2_with fail
    go_ret
    exact ⟨rfl, Hb1.out⟩
  have hn5 : n ≤ 500 := by omega
  have hmk := fun W => run_make_row' (P := Try.prog) 42 4 (.bool false) 1 Try.underlying42 infoBoolQ rfl .i64 .i64 n (by omega) (by omega) W
  have q1 : decide ((500 : Int) < (n : Int)) = false := decide_eq_false (by omega)
  clear hbig
  go_enter Try.func6, Try.ntmps6
  go_wp2_with fail
  refine HA.out.mono ?_
  rintro e w1 ⟨rfl, hb1⟩
  have Hb1 := Lib.hid hb1
  clear hb1 HA
  go_wp2_with fail
  refine (HNw.out _).mono ?_
  rintro e w2 ⟨rfl, rfl⟩
  have HS : Hid (FillR w1 l n (.int .i64 0) (w1.alloc (.cells #[.slice none 0 0, .int .i64 0] 46))) := Lib.hid ⟨0, by omega, rfl, new_holds w1, (Below.refl _ _).alloc (Nat.le_refl _) _⟩
  generalize w1.alloc (.cells #[.slice none 0 0, .int .i64 0] 46) = w2 at *
  clear HNw q1
  unfold queV at *
  go_wp2_with fail
  go_loopw [19] (FillR w1 l n) (fun i _ => (n + 1 - intOf i).toNat)
  case atStart => exact HS.out
  case round =>
    clear HS
    obtain ⟨k, hk, rfl, hq, hb⟩ := hrel
    by_cases hlt : k < n
    case pos =>
      obtain ⟨⟨x0, x1, x2⟩, hx⟩ : ∃ x, l[k]? = some x := ⟨_, List.getElem?_eq_getElem (by have := HL.out; omega)⟩
      obtain ⟨b, off, rfl, -, c0, c1, c2⟩ := ev_cells (HIn.out wr (Hb1.out.trans (hb.mono Hb1.out.size))) hx
      simp only at c0 c1 c2
      have hbx : Below wr.heap.size wr (wr.alloc (.cells #[.int .i64 x0, .int .i64 x1, .int .i64 x2] 28)) := (Below.refl _ _).alloc (Nat.le_refl _) _
      have HP := Lib.hid (put_any (wr.alloc (.cells #[.int .i64 x0, .int .i64 x1, .int .i64 x2] 28)) _ _ _ (k : Nat) (hq.keep hbx) (by rw [List.length_take]; omega) (by omega) (by omega) ⟨x0, x1, (k : Nat)⟩)
      have HR : Hid (∀ W, QueS W w1.heap.size w1.heap.size ((QueP.sortL l).take k ++ [⟨x0, x1, (k : Nat)⟩]) ((k : Int) + 1) → QOnly w1.heap.size (wr.alloc (.cells #[.int .i64 x0, .int .i64 x1, .int .i64 x2] 28)) W → FillR w1 l n (.int .i64 ((k : Int) + 1)) W) := Lib.hid fun W h1 h2 =>
        ⟨k + 1, by omega, by go_num, by rw [QueP.sortL_take hx]; simpa using h1, (hb.alloc hb.size _).trans (h2.below (by have := hb.size; simp; omega))⟩
      clear hq hb hbx hx hmk
      unfold queV evV at HP
      go_wp2_with fail
      refine HP.out.mono ?_
      rintro e w3 ⟨rfl, hq3, ho3⟩
      have HR3 := Lib.hid (HR.out _ hq3 ho3)
      clear hq3 ho3 HR
      go_wp2_with fail
      go_roundw
      case rel => exact HR3.out
      case measure => simp [intOf]; omega
    obtain rfl : n = k := by omega
    have hq' : QueS wr w1.heap.size w1.heap.size (QueP.sortL l) (n : Nat) := by
      have e : (QueP.sortL l).take n = QueP.sortL l := List.take_of_length_le (by rw [QueP.sortL_length, HL.out]; exact Nat.le_refl _)
      rw [e] at hq
      exact hq
    have hbx : Below wr.heap.size wr (wr.alloc (.cells (madeCells #[.bool false] n) 4)) := (Below.refl _ _).alloc (Nat.le_refl _) _
    have hseen := bits_made (w := wr) (B := w1.heap.size) (n := n) (e := 4) hb.size (by unfold maxLen; omega)
    have HS2 : Hid (OutR w1 l n wr.heap.size (wr.heap.size + 1) (.int .i64 0) ((wr.alloc (.cells (madeCells #[.bool false] n) 4)).alloc (.cells #[.int .i64 0, .int .i64 0, .int .i64 0] 28))) := Lib.hid
      ⟨0, QueP.sortL l, List.replicate n false, ⟨0, 0, 0⟩, by have := QueP.sorts_start l ⟨0, 0, 0⟩; rw [HL.out] at this; exact this, rfl, (hq'.keep hbx).keep ((Below.refl _ _).alloc (Nat.le_refl _) _), hseen.alloc _, by have := heap_alloc_new (wr.alloc (.cells (madeCells #[.bool false] n) 4)) (.cells #[.int .i64 0, .int .i64 0, .int .i64 0] 28 (0, 0)); rw [World.size_alloc] at this; exact this, (hb.alloc hb.size _).alloc (by have := hb.size; simp; omega) _⟩
    have Hgs := Lib.hid hb.size
    clear hq hb hq' hbx hseen hlt
    go_wp2_with fail
    generalize (wr.alloc (.cells (madeCells #[.bool false] n) 4)).alloc (.cells #[.int .i64 0, .int .i64 0, .int .i64 0] 28) = w5 at *
    have hgM : w1.heap.size ≤ wr.heap.size := Hgs.out
    generalize hM : wr.heap.size + 1 = M at *
    have hgM2 : wr.heap.size < M := by omega
    clear hM
    generalize wr.heap.size = g at *
    clear hmk
    go_loopw [39] (OutR w1 l n g M) (fun i _ => (n + 1 - intOf i).toNat)
    case atStart => exact HS2.out
    case round =>
      clear HS2
      obtain ⟨k, want, bl, ⟨z0, z1, z2⟩, hP, rfl, hq, hs, hM, hb⟩ := hrel
      have hlen : want.length + k = n := by have := hP.len; rw [HL.out] at this; exact this
      by_cases hlt : k < n
      case neg =>
        obtain rfl : n = k := by omega
        have hwn : want.length = 0 := by omega
        have HLn := Lib.hid (len_any wr _ _ want _ hq)
        rw [hwn] at HLn
        have HF := Lib.hid (fun W (h : Below wr.heap.size wr W) => Hb1.out.trans ((hb.trans (h.mono hb.size)).mono Hb1.out.size))
        clear hP hq hs hM hb hlen hlt hwn
        unfold queV at HLn
        go_wp2_with fail
        refine HLn.out.mono ?_
        rintro e w6 ⟨rfl, hb6⟩
        have HF6 := Lib.hid (HF.out _ hb6)
        clear hb6 HF
        go_wp2_with fail
        go_ret
        exact ⟨rfl, HF6.out⟩
      have hpos : 0 < want.length := by omega
      have HT := Lib.hid (take_any wr _ _ want _ hq hpos (by omega))
      have HP := Lib.hid hP
      have Hs := Lib.hid hs
      have HM := Lib.hid hM
      have Hb := Lib.hid hb
      have Hpos := Lib.hid hpos
      clear hP hq hs hM hb hpos hlen
      unfold queV at HT
      go_wp2_with fail
      refine HT.out.mono ?_
      rintro e w6 ⟨⟨x0, x1, x2⟩, hx6, rfl, hq6, ho6⟩
      obtain ⟨i, hi, hil, hbi, ⟨e, he, he0, he1⟩, hlow, hP7⟩ := QueP.sorts_step HP.out Hpos.out hx6
      simp only at hi he0 he1
      subst hi
      have hil2 : i < n := by rw [HL.out] at hil; exact hil
      have Hq6 := Lib.hid hq6
      have hs6 := ho6.own Hs.out (by decide) (by decide)
      have hM6 := ho6.block HM.out (by decide) (by decide)
      have hb6 := Hb.out.trans (ho6.below Hb.out.size)
      obtain ⟨b, off, rfl, -, -⟩ := ev_cells (HIn.out w6 (Hb1.out.trans (hb6.mono Hb1.out.size))) he
      have hbx : Below w6.heap.size w6 (w6.alloc (.cells #[.int .i64 x0, .int .i64 x1, .int .i64 (i : Nat)] 28)) := (Below.refl _ _).alloc (Nat.le_refl _) _
      have hd0 : SortS1 w1.heap.size w6.heap.size g n (some ⟨b, off, none⟩) l bl x0 x1 i (w6.alloc (.cells #[.int .i64 x0, .int .i64 x1, .int .i64 (i : Nat)] 28)).drew :=
        SortS1.keep ⟨heap_alloc_new w6 _, hs6.alloc _, (HIn.out w6 (Hb1.out.trans (hb6.mono Hb1.out.size))).below hbx⟩ (Below.refl _ _).drew
      have k0 : ∀ W, SortS1 w1.heap.size w6.heap.size g n (some ⟨b, off, none⟩) l bl x0 x1 i W → W.cell? ⟨w6.heap.size, 0, none⟩ = some (.int .i64 x0) := fun W hW => cell_at hW.box 0 rfl
      have k1 : ∀ W, SortS1 w1.heap.size w6.heap.size g n (some ⟨b, off, none⟩) l bl x0 x1 i W → W.cell? ⟨w6.heap.size, 1, none⟩ = some (.int .i64 x1) := fun W hW => cell_at hW.box 1 rfl
      have k2 : ∀ W, SortS1 w1.heap.size w6.heap.size g n (some ⟨b, off, none⟩) l bl x0 x1 i W → W.cell? ⟨w6.heap.size, 2, none⟩ = some (.int .i64 (i : Nat)) := fun W hW => cell_at hW.box 2 rfl
      have ks : ∀ W, SortS1 w1.heap.size w6.heap.size g n (some ⟨b, off, none⟩) l bl x0 x1 i W → W.cell? ⟨g, i, none⟩ = some (.bool false) := fun W hW => by rw [hW.seen.cellAt i (by omega)]; exact bitV_get hbi
      have ka : ∀ W, SortS1 w1.heap.size w6.heap.size g n (some ⟨b, off, none⟩) l bl x0 x1 i W → W.cell? ⟨b, off + i * 3, none⟩ = some (.int .i64 x0) := fun W hW => by
        obtain ⟨b', off', e1, -, q, -⟩ := ev_cells hW.arg he
        cases e1
        rw [he0] at q
        exact q
      have kr : ∀ W, SortS1 w1.heap.size w6.heap.size g n (some ⟨b, off, none⟩) l bl x0 x1 i W → W.cell? ⟨b, off + i * 3 + 1, none⟩ = some (.int .i64 x1) := fun W hW => by
        obtain ⟨b', off', e1, -, -, q, -⟩ := ev_cells hW.arg he
        cases e1
        rw [he1] at q
        exact q
      have p1 : decide ((i : Int) < 0) = false := decide_eq_false (by omega)
      have p2 : decide ((n : Int) ≤ (i : Int)) = false := decide_eq_false (by omega)
      have p2n : decide (n ≤ i) = false := decide_eq_false (by omega)
      have p3 : ((x0 : Int) != x0) = false := by simp
      have p4 : ((x1 : Int) != x1) = false := by simp
      have Hbi := Lib.hid hbi
      have HP7 := Lib.hid hP7
      have Hq7 := Lib.hid (QueS.keep hq6 (hbx.drew))
      have HM7 := Lib.hid ((hbx.drew.block M (lt_of_block hM6)).trans hM6)
      have Hb7 := Lib.hid (hb6.trans (hbx.drew.mono hb6.size))
      have hMN : M < w6.heap.size := lt_of_block hM6
      clear hx6 hq6 ho6 hP7 he he0 he1 hil hs6 hM6 hb6 hbx hbi HT Hs HM Hb HP Hq6
      simp only [evV]
      go_wp2_with fail
      refine wp_region_held_drew (S := fun W => SortS1 w1.heap.size w6.heap.size g n (some ⟨b, off, none⟩) l bl x0 x1 i W) (by kernel_rfl) hd0 (fun _ => ?_)
      refine wpAnyH_take (i := 0) (oi := ?oo1) (v := ?vv1) ?ii1 (by kernel_rfl) ?ff1 (by kernel_rfl) ?qq1 (Or.inl ⟨?ww1, ?yy1⟩) hd0 ?rr1
      case ii1 => simp only [List.getElem?_toArray, List.getElem?_cons_zero]; rfl
      case ff1 => kernel_rfl
      case qq1 => exact fun _ _ _ h => h
      case ww1 => rfl
      case yy1 => intro W hW; go_simp <;> with_reducible rfl
      try simp only [Act.put, List.setIfInBounds_toArray, List.set_cons_zero, List.set_cons_succ]
      refine wpAnyH_take (i := 1) (oi := ?oo2) (v := ?vv2) ?ii2 (by kernel_rfl) ?ff2 (by kernel_rfl) ?qq2 (Or.inl ⟨?ww2, ?yy2⟩) hd0 ?rr2
      case ii2 => simp only [List.getElem?_toArray, List.getElem?_cons_succ, List.getElem?_cons_zero]; rfl
      case ff2 => kernel_rfl
      case qq2 => exact fun _ _ _ h => h
      case ww2 => rfl
      case yy2 => intro W hW; go_simp <;> with_reducible rfl
      try simp only [Act.put, List.setIfInBounds_toArray, List.set_cons_zero, List.set_cons_succ]
      refine wpAnyH_take (i := 2) (oi := ?oo3) (v := ?vv3) ?ii3 (by kernel_rfl) ?ff3 (by kernel_rfl) ?qq3 (Or.inl ⟨?ww3, ?yy3⟩) hd0 ?rr3
      case ii3 => simp only [List.getElem?_toArray, List.getElem?_cons_succ, List.getElem?_cons_zero]; rfl
      case ff3 => kernel_rfl
      case qq3 => exact fun _ _ _ h => h
      case ww3 => rfl
      case yy3 => intro W hW; go_simp <;> with_reducible rfl
      try simp only [Act.put, List.setIfInBounds_toArray, List.set_cons_zero, List.set_cons_succ]
      refine wpAnyH_take (i := 3) (oi := ?oo4) (v := ?vv4) ?ii4 (by kernel_rfl) ?ff4 (by kernel_rfl) ?qq4 (Or.inl ⟨?ww4, ?yy4⟩) hd0 ?rr4
      case ii4 => simp only [List.getElem?_toArray, List.getElem?_cons_succ, List.getElem?_cons_zero]; rfl
      case ff4 => kernel_rfl
      case qq4 => exact fun _ _ _ h => h
      case ww4 => rfl
      case yy4 => intro W hW; go_simp <;> with_reducible rfl
      try simp only [Act.put, List.setIfInBounds_toArray, List.set_cons_zero, List.set_cons_succ]
      refine wpAnyH_take (i := 4) (oi := ?oo5) (v := ?vv5) ?ii5 (by kernel_rfl) ?ff5 (by kernel_rfl) ?qq5 (Or.inl ⟨?ww5, ?yy5⟩) hd0 ?rr5
      case ii5 => simp only [List.getElem?_toArray, List.getElem?_cons_succ, List.getElem?_cons_zero]; rfl
      case ff5 => kernel_rfl
      case qq5 => exact fun _ _ _ h => h
      case ww5 => rfl
      case yy5 => intro W hW; go_simp <;> with_reducible rfl
      try simp only [Act.put, List.setIfInBounds_toArray, List.set_cons_zero, List.set_cons_succ]
      refine wpAnyH_take (i := 5) (oi := ?oo6) (v := ?vv6) ?ii6 (by kernel_rfl) ?ff6 (by kernel_rfl) ?qq6 (Or.inl ⟨?ww6, ?yy6⟩) hd0 ?rr6
      case ii6 => simp only [List.getElem?_toArray, List.getElem?_cons_succ, List.getElem?_cons_zero]; rfl
      case ff6 => kernel_rfl
      case qq6 => exact fun _ _ _ h => h
      case ww6 => rfl
      case yy6 => intro W hW; go_simp <;> with_reducible rfl
      try simp only [Act.put, List.setIfInBounds_toArray, List.set_cons_zero, List.set_cons_succ]
      refine wpAnyH_take (i := 6) (oi := ?oo7) (v := ?vv7) ?ii7 (by kernel_rfl) ?ff7 (by kernel_rfl) ?qq7 (Or.inl ⟨?ww7, ?yy7⟩) hd0 ?rr7
      case ii7 => simp only [List.getElem?_toArray, List.getElem?_cons_succ, List.getElem?_cons_zero]; rfl
      case ff7 => kernel_rfl
      case qq7 => exact fun _ _ _ h => h
      case ww7 => rfl
      case yy7 => intro W hW; go_simp <;> with_reducible rfl
      try simp only [Act.put, List.setIfInBounds_toArray, List.set_cons_zero, List.set_cons_succ]
      refine wpAnyH_take (i := 7) (oi := ?oo8) (v := ?vv8) ?ii8 (by kernel_rfl) ?ff8 (by kernel_rfl) ?qq8 (Or.inl ⟨?ww8, ?yy8⟩) hd0 ?rr8
      case ii8 => simp only [List.getElem?_toArray, List.getElem?_cons_succ, List.getElem?_cons_zero]; rfl
      case ff8 => kernel_rfl
      case qq8 => exact fun _ _ _ h => h
      case ww8 => rfl
      case yy8 => intro W hW; go_simp <;> with_reducible rfl
      try simp only [Act.put, List.setIfInBounds_toArray, List.set_cons_zero, List.set_cons_succ]
      refine wpAnyH_take (i := 8) (oi := ?oo9) (v := ?vv9) ?ii9 (by kernel_rfl) ?ff9 (by kernel_rfl) ?qq9 (Or.inl ⟨?ww9, ?yy9⟩) hd0 ?rr9
      case ii9 => simp only [List.getElem?_toArray, List.getElem?_cons_succ, List.getElem?_cons_zero]; rfl
      case ff9 => kernel_rfl
      case qq9 => exact fun _ _ _ h => h
      case ww9 => rfl
      case yy9 => intro W hW; go_simp <;> with_reducible rfl
      try simp only [Act.put, List.setIfInBounds_toArray, List.set_cons_zero, List.set_cons_succ]
      refine wpAnyH_take (i := 9) (oi := ?oo10) (v := ?vv10) ?ii10 (by kernel_rfl) ?ff10 (by kernel_rfl) ?qq10 (Or.inl ⟨?ww10, ?yy10⟩) hd0 ?rr10
      case ii10 => simp only [List.getElem?_toArray, List.getElem?_cons_succ, List.getElem?_cons_zero]; rfl
      case ff10 => kernel_rfl
      case qq10 => exact fun _ _ _ h => h
      case ww10 => rfl
      case yy10 => intro W hW; go_simp <;> with_reducible rfl
      try simp only [Act.put, List.setIfInBounds_toArray, List.set_cons_zero, List.set_cons_succ]
      refine wpAnyH_take (i := 10) (oi := ?oo11) (v := ?vv11) ?ii11 (by kernel_rfl) ?ff11 (by kernel_rfl) ?qq11 (Or.inl ⟨?ww11, ?yy11⟩) hd0 ?rr11
      case ii11 => simp only [List.getElem?_toArray, List.getElem?_cons_succ, List.getElem?_cons_zero]; rfl
      case ff11 => kernel_rfl
      case qq11 => exact fun _ _ _ h => h
      case ww11 => rfl
      case yy11 => intro W hW; go_simp <;> with_reducible rfl
      try simp only [Act.put, List.setIfInBounds_toArray, List.set_cons_zero, List.set_cons_succ]
      refine wpAnyH_take (i := 11) (oi := ?oo12) (v := ?vv12) ?ii12 (by kernel_rfl) ?ff12 (by kernel_rfl) ?qq12 (Or.inl ⟨?ww12, ?yy12⟩) hd0 ?rr12
      case ii12 => simp only [List.getElem?_toArray, List.getElem?_cons_succ, List.getElem?_cons_zero]; rfl
      case ff12 => kernel_rfl
      case qq12 => exact fun _ _ _ h => h
      case ww12 => rfl
      case yy12 => intro W hW; go_simp <;> with_reducible rfl
      try simp only [Act.put, List.setIfInBounds_toArray, List.set_cons_zero, List.set_cons_succ]
      refine wpAnyH_take (i := 12) (oi := ?oo13) (v := ?vv13) ?ii13 (by kernel_rfl) ?ff13 (by kernel_rfl) ?qq13 (Or.inl ⟨?ww13, ?yy13⟩) hd0 ?rr13
      case ii13 => simp only [List.getElem?_toArray, List.getElem?_cons_succ, List.getElem?_cons_zero]; rfl
      case ff13 => kernel_rfl
      case qq13 => exact fun _ _ _ h => h
      case ww13 => rfl
      case yy13 => intro W hW; go_simp <;> with_reducible rfl
      try simp only [Act.put, List.setIfInBounds_toArray, List.set_cons_zero, List.set_cons_succ]
      refine wpAnyH_take (i := 13) (oi := ?oo14) (v := ?vv14) ?ii14 (by kernel_rfl) ?ff14 (by kernel_rfl) ?qq14 (Or.inl ⟨?ww14, ?yy14⟩) hd0 ?rr14
      case ii14 => simp only [List.getElem?_toArray, List.getElem?_cons_succ, List.getElem?_cons_zero]; rfl
      case ff14 => kernel_rfl
      case qq14 => exact fun _ _ _ h => h
      case ww14 => rfl
      case yy14 => intro W hW; go_simp <;> with_reducible rfl
      try simp only [Act.put, List.setIfInBounds_toArray, List.set_cons_zero, List.set_cons_succ]
      refine wpAnyH_take (i := 14) (oi := ?oo15) (v := ?vv15) ?ii15 (by kernel_rfl) ?ff15 (by kernel_rfl) ?qq15 (Or.inl ⟨?ww15, ?yy15⟩) hd0 ?rr15
      case ii15 => simp only [List.getElem?_toArray, List.getElem?_cons_succ, List.getElem?_cons_zero]; rfl
      case ff15 => kernel_rfl
      case qq15 => exact fun _ _ _ h => h
      case ww15 => rfl
      case yy15 => intro W hW; go_simp <;> with_reducible rfl
      try simp only [Act.put, List.setIfInBounds_toArray, List.set_cons_zero, List.set_cons_succ]
      refine wpAnyH_take (i := 15) (oi := ?oo16) (v := ?vv16) ?ii16 (by kernel_rfl) ?ff16 (by kernel_rfl) ?qq16 (Or.inl ⟨?ww16, ?yy16⟩) hd0 ?rr16
      case ii16 => simp only [List.getElem?_toArray, List.getElem?_cons_succ, List.getElem?_cons_zero]; rfl
      case ff16 => kernel_rfl
      case qq16 => exact fun _ _ _ h => h
      case ww16 => rfl
      case yy16 => intro W hW; go_simp <;> with_reducible rfl
      try simp only [Act.put, List.setIfInBounds_toArray, List.set_cons_zero, List.set_cons_succ]
      refine wpAnyH_take (i := 16) (oi := ?oo17) (v := ?vv17) ?ii17 (by kernel_rfl) ?ff17 (by kernel_rfl) ?qq17 (Or.inl ⟨?ww17, ?yy17⟩) hd0 ?rr17
      case ii17 => simp only [List.getElem?_toArray, List.getElem?_cons_succ, List.getElem?_cons_zero]; rfl
      case ff17 => kernel_rfl
      case qq17 => exact fun _ _ _ h => h
      case ww17 => rfl
      case yy17 => intro W hW; go_simp <;> with_reducible rfl
      try simp only [Act.put, List.setIfInBounds_toArray, List.set_cons_zero, List.set_cons_succ]
      refine wpAnyH_take (i := 17) (oi := ?oo18) (v := ?vv18) ?ii18 (by kernel_rfl) ?ff18 (by kernel_rfl) ?qq18 (Or.inl ⟨?ww18, ?yy18⟩) hd0 ?rr18
      case ii18 => simp only [List.getElem?_toArray, List.getElem?_cons_succ, List.getElem?_cons_zero]; rfl
      case ff18 => kernel_rfl
      case qq18 => exact fun _ _ _ h => h
      case ww18 => rfl
      case yy18 => intro W hW; go_simp <;> with_reducible rfl
      try simp only [Act.put, List.setIfInBounds_toArray, List.set_cons_zero, List.set_cons_succ]
      refine wpAnyH_take (i := 18) (oi := ?oo19) (v := ?vv19) ?ii19 (by kernel_rfl) ?ff19 (by kernel_rfl) ?qq19 (Or.inl ⟨?ww19, ?yy19⟩) hd0 ?rr19
      case ii19 => simp only [List.getElem?_toArray, List.getElem?_cons_succ, List.getElem?_cons_zero]; rfl
      case ff19 => kernel_rfl
      case qq19 => exact fun _ _ _ h => h
      case ww19 => rfl
      case yy19 => intro W hW; go_simp <;> with_reducible rfl
      try simp only [Act.put, List.setIfInBounds_toArray, List.set_cons_zero, List.set_cons_succ]
      refine wpAnyH_take (i := 19) (oi := ?oo20) (v := ?vv20) ?ii20 (by kernel_rfl) ?ff20 (by kernel_rfl) ?qq20 (Or.inl ⟨?ww20, ?yy20⟩) hd0 ?rr20
      case ii20 => simp only [List.getElem?_toArray, List.getElem?_cons_succ, List.getElem?_cons_zero]; rfl
      case ff20 => kernel_rfl
      case qq20 => exact fun _ _ _ h => h
      case ww20 => rfl
      case yy20 => intro W hW; go_simp <;> with_reducible rfl
      try simp only [Act.put, List.setIfInBounds_toArray, List.set_cons_zero, List.set_cons_succ]
      refine wpAnyH_take (i := 20) (oi := ?oo21) (v := ?vv21) ?ii21 (by kernel_rfl) ?ff21 (by kernel_rfl) ?qq21 (Or.inl ⟨?ww21, ?yy21⟩) hd0 ?rr21
      case ii21 => simp only [List.getElem?_toArray, List.getElem?_cons_succ, List.getElem?_cons_zero]; rfl
      case ff21 => kernel_rfl
      case qq21 => exact fun _ _ _ h => h
      case ww21 => rfl
      case yy21 => intro W hW; go_simp <;> with_reducible rfl
      try simp only [Act.put, List.setIfInBounds_toArray, List.set_cons_zero, List.set_cons_succ]
      refine wpAnyH_take (i := 21) (oi := ?oo22) (v := ?vv22) ?ii22 (by kernel_rfl) ?ff22 (by kernel_rfl) ?qq22 (Or.inl ⟨?ww22, ?yy22⟩) hd0 ?rr22
      case ii22 => simp only [List.getElem?_toArray, List.getElem?_cons_succ, List.getElem?_cons_zero]; rfl
      case ff22 => kernel_rfl
      case qq22 => exact fun _ _ _ h => h
      case ww22 => rfl
      case yy22 => intro W hW; go_simp <;> with_reducible rfl
      try simp only [Act.put, List.setIfInBounds_toArray, List.set_cons_zero, List.set_cons_succ]
      refine wpAnyH_take (i := 22) (oi := ?oo23) (v := ?vv23) ?ii23 (by kernel_rfl) ?ff23 (by kernel_rfl) ?qq23 (Or.inl ⟨?ww23, ?yy23⟩) hd0 ?rr23
      case ii23 => simp only [List.getElem?_toArray, List.getElem?_cons_succ, List.getElem?_cons_zero]; rfl
      case ff23 => kernel_rfl
      case qq23 => exact fun _ _ _ h => h
      case ww23 => rfl
      case yy23 => intro W hW; go_simp <;> with_reducible rfl
      try simp only [Act.put, List.setIfInBounds_toArray, List.set_cons_zero, List.set_cons_succ]
      refine wpAnyH_take (i := 23) (oi := ?oo24) (v := ?vv24) ?ii24 (by kernel_rfl) ?ff24 (by kernel_rfl) ?qq24 (Or.inl ⟨?ww24, ?yy24⟩) hd0 ?rr24
      case ii24 => simp only [List.getElem?_toArray, List.getElem?_cons_succ, List.getElem?_cons_zero]; rfl
      case ff24 => kernel_rfl
      case qq24 => exact fun _ _ _ h => h
      case ww24 => rfl
      case yy24 => intro W hW; go_simp <;> with_reducible rfl
      try simp only [Act.put, List.setIfInBounds_toArray, List.set_cons_zero, List.set_cons_succ]
      refine wpAnyH_take (i := 24) (oi := ?oo25) (v := ?vv25) ?ii25 (by kernel_rfl) ?ff25 (by kernel_rfl) ?qq25 (Or.inl ⟨?ww25, ?yy25⟩) hd0 ?rr25
      case ii25 => simp only [List.getElem?_toArray, List.getElem?_cons_succ, List.getElem?_cons_zero]; rfl
      case ff25 => kernel_rfl
      case qq25 => exact fun _ _ _ h => h
      case ww25 => rfl
      case yy25 => intro W hW; go_simp <;> with_reducible rfl
      try simp only [Act.put, List.setIfInBounds_toArray, List.set_cons_zero, List.set_cons_succ]
      refine wpAnyH_take (i := 25) (oi := ?oo26) (v := ?vv26) ?ii26 (by kernel_rfl) ?ff26 (by kernel_rfl) ?qq26 (Or.inl ⟨?ww26, ?yy26⟩) hd0 ?rr26
      case ii26 => simp only [List.getElem?_toArray, List.getElem?_cons_succ, List.getElem?_cons_zero]; rfl
      case ff26 => kernel_rfl
      case qq26 => exact fun _ _ _ h => h
      case ww26 => rfl
      case yy26 => intro W hW; go_simp <;> with_reducible rfl
      try simp only [Act.put, List.setIfInBounds_toArray, List.set_cons_zero, List.set_cons_succ]
      refine wpAnyH_take (i := 26) (oi := ?oo27) (v := ?vv27) ?ii27 (by kernel_rfl) ?ff27 (by kernel_rfl) ?qq27 (Or.inl ⟨?ww27, ?yy27⟩) hd0 ?rr27
      case ii27 => simp only [List.getElem?_toArray, List.getElem?_cons_succ, List.getElem?_cons_zero]; rfl
      case ff27 => kernel_rfl
      case qq27 => exact fun _ _ _ h => h
      case ww27 => rfl
      case yy27 => intro W hW; go_simp <;> with_reducible rfl
      try simp only [Act.put, List.setIfInBounds_toArray, List.set_cons_zero, List.set_cons_succ]
      refine wpAnyH_take (i := 27) (oi := ?oo28) (v := ?vv28) ?ii28 (by kernel_rfl) ?ff28 (by kernel_rfl) ?qq28 (Or.inl ⟨?ww28, ?yy28⟩) hd0 ?rr28
      case ii28 => simp only [List.getElem?_toArray, List.getElem?_cons_succ, List.getElem?_cons_zero]; rfl
      case ff28 => kernel_rfl
      case qq28 => exact fun _ _ _ h => h
      case ww28 => rfl
      case yy28 => intro W hW; go_simp <;> with_reducible rfl
      try simp only [Act.put, List.setIfInBounds_toArray, List.set_cons_zero, List.set_cons_succ]
      refine wpAnyH_take (i := 28) (oi := ?oo29) (v := ?vv29) ?ii29 (by kernel_rfl) ?ff29 (by kernel_rfl) ?qq29 (Or.inl ⟨?ww29, ?yy29⟩) hd0 ?rr29
      case ii29 => simp only [List.getElem?_toArray, List.getElem?_cons_succ, List.getElem?_cons_zero]; rfl
      case ff29 => kernel_rfl
      case qq29 => exact fun _ _ _ h => h
      case ww29 => rfl
      case yy29 => intro W hW; go_simp <;> with_reducible rfl
      try simp only [Act.put, List.setIfInBounds_toArray, List.set_cons_zero, List.set_cons_succ]
      refine wpAnyH_take (i := 29) (oi := ?oo30) (v := ?vv30) ?ii30 (by kernel_rfl) ?ff30 (by kernel_rfl) ?qq30 (Or.inl ⟨?ww30, ?yy30⟩) hd0 ?rr30
      case ii30 => simp only [List.getElem?_toArray, List.getElem?_cons_succ, List.getElem?_cons_zero]; rfl
      case ff30 => kernel_rfl
      case qq30 => exact fun _ _ _ h => h
      case ww30 => rfl
      case yy30 => intro W hW; go_simp <;> with_reducible rfl
      try simp only [Act.put, List.setIfInBounds_toArray, List.set_cons_zero, List.set_cons_succ]
      refine wpAnyH_take (i := 30) (oi := ?oo31) (v := ?vv31) ?ii31 (by kernel_rfl) ?ff31 (by kernel_rfl) ?qq31 (Or.inl ⟨?ww31, ?yy31⟩) hd0 ?rr31
      case ii31 => simp only [List.getElem?_toArray, List.getElem?_cons_succ, List.getElem?_cons_zero]; rfl
      case ff31 => kernel_rfl
      case qq31 => exact fun _ _ _ h => h
      case ww31 => rfl
      case yy31 => intro W hW; go_simp <;> with_reducible rfl
      try simp only [Act.put, List.setIfInBounds_toArray, List.set_cons_zero, List.set_cons_succ]
      refine wpAnyH_take (i := 31) (oi := ?oo32) (v := ?vv32) ?ii32 (by kernel_rfl) ?ff32 (by kernel_rfl) ?qq32 (Or.inl ⟨?ww32, ?yy32⟩) hd0 ?rr32
      case ii32 => simp only [List.getElem?_toArray, List.getElem?_cons_succ, List.getElem?_cons_zero]; rfl
      case ff32 => kernel_rfl
      case qq32 => exact fun _ _ _ h => h
      case ww32 => rfl
      case yy32 => intro W hW; go_simp <;> with_reducible rfl
      try simp only [Act.put, List.setIfInBounds_toArray, List.set_cons_zero, List.set_cons_succ]
      refine wpAnyH_take (i := 32) (oi := ?oo33) (v := ?vv33) ?ii33 (by kernel_rfl) ?ff33 (by kernel_rfl) ?qq33 (Or.inl ⟨?ww33, ?yy33⟩) hd0 ?rr33
      case ii33 => simp only [List.getElem?_toArray, List.getElem?_cons_succ, List.getElem?_cons_zero]; rfl
      case ff33 => kernel_rfl
      case qq33 => exact fun _ _ _ h => h
      case ww33 => rfl
      case yy33 => intro W hW; go_simp <;> with_reducible rfl
      try simp only [Act.put, List.setIfInBounds_toArray, List.set_cons_zero, List.set_cons_succ]
      refine wpAnyH_take (i := 33) (oi := ?oo34) (v := ?vv34) ?ii34 (by kernel_rfl) ?ff34 (by kernel_rfl) ?qq34 (Or.inl ⟨?ww34, ?yy34⟩) hd0 ?rr34
      case ii34 => simp only [List.getElem?_toArray, List.getElem?_cons_succ, List.getElem?_cons_zero]; rfl
      case ff34 => kernel_rfl
      case qq34 => exact fun _ _ _ h => h
      case ww34 => rfl
      case yy34 => intro W hW; go_simp <;> with_reducible rfl
      try simp only [Act.put, List.setIfInBounds_toArray, List.set_cons_zero, List.set_cons_succ]
      refine wpAnyH_take (i := 34) (oi := ?oo35) (v := ?vv35) ?ii35 (by kernel_rfl) ?ff35 (by kernel_rfl) ?qq35 (Or.inl ⟨?ww35, ?yy35⟩) hd0 ?rr35
      case ii35 => simp only [List.getElem?_toArray, List.getElem?_cons_succ, List.getElem?_cons_zero]; rfl
      case ff35 => kernel_rfl
      case qq35 => exact fun _ _ _ h => h
      case ww35 => rfl
      case yy35 => intro W hW; go_simp <;> with_reducible rfl
      try simp only [Act.put, List.setIfInBounds_toArray, List.set_cons_zero, List.set_cons_succ]
      refine wpAnyH_take (i := 35) (oi := ?oo36) (v := ?vv36) ?ii36 (by kernel_rfl) ?ff36 (by kernel_rfl) ?qq36 (Or.inl ⟨?ww36, ?yy36⟩) hd0 ?rr36
      case ii36 => simp only [List.getElem?_toArray, List.getElem?_cons_succ, List.getElem?_cons_zero]; rfl
      case ff36 => kernel_rfl
      case qq36 => exact fun _ _ _ h => h
      case ww36 => rfl
      case yy36 => intro W hW; go_simp <;> with_reducible rfl
      try simp only [Act.put, List.setIfInBounds_toArray, List.set_cons_zero, List.set_cons_succ]
      refine wpAnyH_take (i := 36) (oi := ?oo37) (v := ?vv37) ?ii37 (by kernel_rfl) ?ff37 (by kernel_rfl) ?qq37 (Or.inl ⟨?ww37, ?yy37⟩) hd0 ?rr37
      case ii37 => simp only [List.getElem?_toArray, List.getElem?_cons_succ, List.getElem?_cons_zero]; rfl
      case ff37 => kernel_rfl
      case qq37 => exact fun _ _ _ h => h
      case ww37 => rfl
      case yy37 => intro W hW; go_simp <;> with_reducible rfl
      try simp only [Act.put, List.setIfInBounds_toArray, List.set_cons_zero, List.set_cons_succ]
      refine wpAnyH_take (i := 37) (oi := ?oo38) (v := ?vv38) ?ii38 (by kernel_rfl) ?ff38 (by kernel_rfl) ?qq38 (Or.inl ⟨?ww38, ?yy38⟩) hd0 ?rr38
      case ii38 => simp only [List.getElem?_toArray, List.getElem?_cons_succ, List.getElem?_cons_zero]; rfl
      case ff38 => kernel_rfl
      case qq38 => exact fun _ _ _ h => h
      case ww38 => rfl
      case yy38 => intro W hW; go_simp <;> with_reducible rfl
      try simp only [Act.put, List.setIfInBounds_toArray, List.set_cons_zero, List.set_cons_succ]
      refine wpAnyH_take (i := 38) (oi := ?oo39) (v := ?vv39) ?ii39 (by kernel_rfl) ?ff39 (by kernel_rfl) ?qq39 (Or.inl ⟨?ww39, ?yy39⟩) hd0 ?rr39
      case ii39 => simp only [List.getElem?_toArray, List.getElem?_cons_succ, List.getElem?_cons_zero]; rfl
      case ff39 => kernel_rfl
      case qq39 => exact fun _ _ _ h => h
      case ww39 => rfl
      case yy39 => intro W hW; go_simp <;> with_reducible rfl
      try simp only [Act.put, List.setIfInBounds_toArray, List.set_cons_zero, List.set_cons_succ]
      refine wpAnyH_take (i := 39) (oi := ?oo40) (v := ?vv40) ?ii40 (by kernel_rfl) ?ff40 (by kernel_rfl) ?qq40 (Or.inl ⟨?ww40, ?yy40⟩) hd0 ?rr40
      case ii40 => simp only [List.getElem?_toArray, List.getElem?_cons_succ, List.getElem?_cons_zero]; rfl
      case ff40 => kernel_rfl
      case qq40 => exact fun _ _ _ h => h
      case ww40 => rfl
      case yy40 => intro W hW; go_simp <;> with_reducible rfl
      try simp only [Act.put, List.setIfInBounds_toArray, List.set_cons_zero, List.set_cons_succ]
      refine wpAnyH_take (i := 40) (oi := ?oo41) (v := ?vv41) ?ii41 (by kernel_rfl) ?ff41 (by kernel_rfl) ?qq41 (Or.inl ⟨?ww41, ?yy41⟩) hd0 ?rr41
      case ii41 => simp only [List.getElem?_toArray, List.getElem?_cons_succ, List.getElem?_cons_zero]; rfl
      case ff41 => kernel_rfl
      case qq41 => exact fun _ _ _ h => h
      case ww41 => rfl
      case yy41 => intro W hW; go_simp <;> with_reducible rfl
      try simp only [Act.put, List.setIfInBounds_toArray, List.set_cons_zero, List.set_cons_succ]
      refine wpAnyH_take (i := 41) (oi := ?oo42) (v := ?vv42) ?ii42 (by kernel_rfl) ?ff42 (by kernel_rfl) ?qq42 (Or.inl ⟨?ww42, ?yy42⟩) hd0 ?rr42
      case ii42 => simp only [List.getElem?_toArray, List.getElem?_cons_succ, List.getElem?_cons_zero]; rfl
      case ff42 => kernel_rfl
      case qq42 => exact fun _ _ _ h => h
      case ww42 => rfl
      case yy42 => intro W hW; go_simp <;> with_reducible rfl
      try simp only [Act.put, List.setIfInBounds_toArray, List.set_cons_zero, List.set_cons_succ]
      refine wpAnyH_take (i := 42) (oi := ?oo43) (v := ?vv43) ?ii43 (by kernel_rfl) ?ff43 (by kernel_rfl) ?qq43 (Or.inl ⟨?ww43, ?yy43⟩) hd0 ?rr43
      case ii43 => simp only [List.getElem?_toArray, List.getElem?_cons_succ, List.getElem?_cons_zero]; rfl
      case ff43 => kernel_rfl
      case qq43 => exact fun _ _ _ h => h
      case ww43 => rfl
      case yy43 => intro W hW; go_simp <;> with_reducible rfl
      try simp only [Act.put, List.setIfInBounds_toArray, List.set_cons_zero, List.set_cons_succ]
      refine wpAnyH_done (by kernel_rfl) ?_ _
      clear k0 k1 k2 ks ka kr p1 p2 p2n p3 p4
      have Hd0 := Lib.hid hd0
      clear hd0
      generalize (w6.alloc (.cells #[.int .i64 x0, .int .i64 x1, .int .i64 (i : Nat)] 28)).drew = wd at *
      generalize w6.heap.size = N at *
      obtain ⟨q1, q2, q3, q4⟩ := out_next (x0 := x0) (x1 := x1) (x2 := (i : Nat)) Hq7.out Hd0.out.seen HM7.out Hb7.out (Nat.le_refl _) (by omega) i
      have HRn : Hid (OutR w1 l n g M (.int .i64 ((k : Int) + 1)) (((((wd.setCell ⟨g, i, none⟩ (.bool true)).setCell ⟨M, 0, none⟩ (.int .i64 x0)).setCell ⟨M, 1, none⟩ (.int .i64 x1)).setCell ⟨M, 2, none⟩ (.int .i64 (i : Nat))).drew)) := Lib.hid
        ⟨k + 1, _, _, ⟨x0, x1, (i : Nat)⟩, HP7.out, by go_num, q1.keep (Below.refl _ _).drew, q2, q3, q4.drew⟩
      clear q1 q2 q3 q4
      have hNg : N ≠ g := fun e => own_off Hd0.out.seen Hd0.out.box (by decide) g rfl e.symm
      have hgM3 : M ≠ g := by omega
      have l0 : wd.cell? ⟨N, 0, none⟩ = some (.int .i64 x0) := cell_at Hd0.out.box 0 rfl
      have l1 : wd.cell? ⟨N, 1, none⟩ = some (.int .i64 x1) := cell_at Hd0.out.box 1 rfl
      have l2 : wd.cell? ⟨N, 2, none⟩ = some (.int .i64 (i : Nat)) := cell_at Hd0.out.box 2 rfl
      have m0 : wd.cell? ⟨M, 0, none⟩ = some (.int .i64 z0) := cell_at HM7.out 0 rfl
      have m1 : wd.cell? ⟨M, 1, none⟩ = some (.int .i64 z1) := cell_at HM7.out 1 rfl
      have m2 : wd.cell? ⟨M, 2, none⟩ = some (.int .i64 z2) := cell_at HM7.out 2 rfl
      have HM0 := Lib.hid m0
      have HM1 := Lib.hid m1
      have HM2 := Lib.hid m2
      have fm0 := free_at HM7.out 0
      have fm1 := free_at HM7.out 1
      have fm2 := free_at HM7.out 2
      have kb : wd.cell? ⟨g, i, none⟩ = some (.bool false) := by rw [Hd0.out.seen.cellAt i (by omega)]; exact bitV_get Hbi.out
      have sf := Hd0.out.seen.frozenAt i
      have kl0 : ∀ W, BoxAt N x0 x1 i W → W.cell? ⟨N, 0, none⟩ = some (.int .i64 x0) := fun W hW => cell_at hW 0 rfl
      have kl1 : ∀ W, BoxAt N x0 x1 i W → W.cell? ⟨N, 1, none⟩ = some (.int .i64 x1) := fun W hW => cell_at hW 1 rfl
      have kl2 : ∀ W, BoxAt N x0 x1 i W → W.cell? ⟨N, 2, none⟩ = some (.int .i64 (i : Nat)) := fun W hW => cell_at hW 2 rfl
      have hd1 : BoxAt N x0 x1 i wd.drew := Hd0.out.box
      have hd2 : BoxAt N x0 x1 i (wd.setCell ⟨g, i, none⟩ (.bool true)).drew := (heap_setCell_other wd ⟨g, i, none⟩ N _ hNg).trans Hd0.out.box
      have hd3 : BoxAt N x0 x1 i (((((wd.setCell ⟨g, i, none⟩ (.bool true)).setCell ⟨M, 0, none⟩ (.int .i64 x0)).setCell ⟨M, 1, none⟩ (.int .i64 x1)).setCell ⟨M, 2, none⟩ (.int .i64 (i : Nat))).drew) :=
        (((heap_setCell_other _ ⟨M, 2, none⟩ N _ (by show N ≠ M; omega)).trans (heap_setCell_other _ ⟨M, 1, none⟩ N _ (by show N ≠ M; omega))).trans (heap_setCell_other _ ⟨M, 0, none⟩ N _ (by show N ≠ M; omega))).trans hd2
      clear HM0 HM1 HM2 Hbi HP7 Hq7 HM7 Hb7 Hd0
      by_cases hk0 : k = 0
      case pos =>
        subst hk0
        clear hlow
        go_wp2_with fail
        refine wp_region_held_drew (S := fun W => BoxAt N x0 x1 i W) (by kernel_rfl) hd1 (fun _ => ?_)
        refine wpAnyH_take (i := 0) (oi := ?oo44) (v := ?vv44) ?ii44 (by kernel_rfl) ?ff44 (by kernel_rfl) ?qq44 (Or.inl ⟨?ww44, ?yy44⟩) hd1 ?rr44
        case ii44 => simp only [List.getElem?_toArray, List.getElem?_cons_zero]; rfl
        case ff44 => kernel_rfl
        case qq44 => exact fun _ _ _ h => h
        case ww44 => rfl
        case yy44 => intro W hW; go_simp <;> with_reducible rfl
        try simp only [Act.put, List.setIfInBounds_toArray, List.set_cons_zero, List.set_cons_succ]
        refine wpAnyH_take (i := 1) (oi := ?oo45) (v := ?vv45) ?ii45 (by kernel_rfl) ?ff45 (by kernel_rfl) ?qq45 (Or.inl ⟨?ww45, ?yy45⟩) hd1 ?rr45
        case ii45 => simp only [List.getElem?_toArray, List.getElem?_cons_succ, List.getElem?_cons_zero]; rfl
        case ff45 => kernel_rfl
        case qq45 => exact fun _ _ _ h => h
        case ww45 => rfl
        case yy45 => intro W hW; go_simp <;> with_reducible rfl
        try simp only [Act.put, List.setIfInBounds_toArray, List.set_cons_zero, List.set_cons_succ]
        refine wpAnyH_take (i := 2) (oi := ?oo46) (v := ?vv46) ?ii46 (by kernel_rfl) ?ff46 (by kernel_rfl) ?qq46 (Or.inl ⟨?ww46, ?yy46⟩) hd1 ?rr46
        case ii46 => simp only [List.getElem?_toArray, List.getElem?_cons_succ, List.getElem?_cons_zero]; rfl
        case ff46 => kernel_rfl
        case qq46 => exact fun _ _ _ h => h
        case ww46 => rfl
        case yy46 => intro W hW; go_simp <;> with_reducible rfl
        try simp only [Act.put, List.setIfInBounds_toArray, List.set_cons_zero, List.set_cons_succ]
        refine wpAnyH_take (i := 3) (oi := ?oo47) (v := ?vv47) ?ii47 (by kernel_rfl) ?ff47 (by kernel_rfl) ?qq47 (Or.inl ⟨?ww47, ?yy47⟩) hd1 ?rr47
        case ii47 => simp only [List.getElem?_toArray, List.getElem?_cons_succ, List.getElem?_cons_zero]; rfl
        case ff47 => kernel_rfl
        case qq47 => exact fun _ _ _ h => h
        case ww47 => rfl
        case yy47 => intro W hW; go_simp <;> with_reducible rfl
        try simp only [Act.put, List.setIfInBounds_toArray, List.set_cons_zero, List.set_cons_succ]
        refine wpAnyH_take (i := 4) (oi := ?oo48) (v := ?vv48) ?ii48 (by kernel_rfl) ?ff48 (by kernel_rfl) ?qq48 (Or.inl ⟨?ww48, ?yy48⟩) hd1 ?rr48
        case ii48 => simp only [List.getElem?_toArray, List.getElem?_cons_succ, List.getElem?_cons_zero]; rfl
        case ff48 => kernel_rfl
        case qq48 => exact fun _ _ _ h => h
        case ww48 => rfl
        case yy48 => intro W hW; go_simp <;> with_reducible rfl
        try simp only [Act.put, List.setIfInBounds_toArray, List.set_cons_zero, List.set_cons_succ]
        clear kl0 kl1 kl2 l0 l1 l2
        refine wpAnyH_ready (rs := [5]) (by kernel_rfl) (by simp) ?_
        refine AllReadyH.cons (o := ?oo49) ?ii49 (fun K hK => ?_) AllReadyH.nil
        case ii49 => simp only [List.getElem?_toArray, List.getElem?_cons_succ, List.getElem?_cons_zero]; rfl
        go_simp
        go_wp2_with fail
        refine hK.out _ _ hd2 (fun _ => ?_)
        clear hK K
        refine wpAnyH_ready (rs := [6]) (by kernel_rfl) (by simp) ?_
        refine AllReadyH.cons (o := ?oo50) ?ii50 (fun K hK => ?_) AllReadyH.nil
        case ii50 => simp only [List.getElem?_toArray, List.getElem?_cons_succ, List.getElem?_cons_zero]; rfl
        go_simp
        go_wp2_with fail
        refine hK.out _ _ hd3 (fun _ => ?_)
        clear hK K
        refine wpAnyH_done (by kernel_rfl) ?_ _
        clear hd1 hd2 hd3 sf kb m0 m1 m2 fm0 fm1 fm2
        go_wp2_with fail
        go_roundw
        case rel => exact HRn.out
        case measure => simp [intOf]
      have Hlow := Lib.hid (hlow (by omega))
      have hkp : decide ((0 : Int) < (k : Int)) = true := decide_eq_true (by omega)
      have hkp2 : decide (0 < k) = true := decide_eq_true (by omega)
      have p0 : decide (x0 < z0) = false := decide_eq_false (by have := Hlow.out; unfold QueP.lexless at this; simp only at this; omega)
      clear hlow
      by_cases h1 : x0 = z0
      case neg =>
        have p1 : (x0 == z0) = false := by rw [beq_eq_false_iff_ne]; exact h1
        clear h1
        go_wp2_with fail
        refine wp_region_held_drew (S := fun W => BoxAt N x0 x1 i W) (by kernel_rfl) hd1 (fun _ => ?_)
        refine wpAnyH_take (i := 0) (oi := ?oo51) (v := ?vv51) ?ii51 (by kernel_rfl) ?ff51 (by kernel_rfl) ?qq51 (Or.inl ⟨?ww51, ?yy51⟩) hd1 ?rr51
        case ii51 => simp only [List.getElem?_toArray, List.getElem?_cons_zero]; rfl
        case ff51 => kernel_rfl
        case qq51 => exact fun _ _ _ h => h
        case ww51 => rfl
        case yy51 => intro W hW; go_simp <;> with_reducible rfl
        try simp only [Act.put, List.setIfInBounds_toArray, List.set_cons_zero, List.set_cons_succ]
        refine wpAnyH_take (i := 1) (oi := ?oo52) (v := ?vv52) ?ii52 (by kernel_rfl) ?ff52 (by kernel_rfl) ?qq52 (Or.inl ⟨?ww52, ?yy52⟩) hd1 ?rr52
        case ii52 => simp only [List.getElem?_toArray, List.getElem?_cons_succ, List.getElem?_cons_zero]; rfl
        case ff52 => kernel_rfl
        case qq52 => exact fun _ _ _ h => h
        case ww52 => rfl
        case yy52 => intro W hW; go_simp <;> with_reducible rfl
        try simp only [Act.put, List.setIfInBounds_toArray, List.set_cons_zero, List.set_cons_succ]
        refine wpAnyH_take (i := 2) (oi := ?oo53) (v := ?vv53) ?ii53 (by kernel_rfl) ?ff53 (by kernel_rfl) ?qq53 (Or.inl ⟨?ww53, ?yy53⟩) hd1 ?rr53
        case ii53 => simp only [List.getElem?_toArray, List.getElem?_cons_succ, List.getElem?_cons_zero]; rfl
        case ff53 => kernel_rfl
        case qq53 => exact fun _ _ _ h => h
        case ww53 => rfl
        case yy53 => intro W hW; go_simp <;> with_reducible rfl
        try simp only [Act.put, List.setIfInBounds_toArray, List.set_cons_zero, List.set_cons_succ]
        refine wpAnyH_take (i := 3) (oi := ?oo54) (v := ?vv54) ?ii54 (by kernel_rfl) ?ff54 (by kernel_rfl) ?qq54 (Or.inl ⟨?ww54, ?yy54⟩) hd1 ?rr54
        case ii54 => simp only [List.getElem?_toArray, List.getElem?_cons_succ, List.getElem?_cons_zero]; rfl
        case ff54 => kernel_rfl
        case qq54 => exact fun _ _ _ h => h
        case ww54 => rfl
        case yy54 => intro W hW; go_simp <;> with_reducible rfl
        try simp only [Act.put, List.setIfInBounds_toArray, List.set_cons_zero, List.set_cons_succ]
        refine wpAnyH_take (i := 4) (oi := ?oo55) (v := ?vv55) ?ii55 (by kernel_rfl) ?ff55 (by kernel_rfl) ?qq55 (Or.inl ⟨?ww55, ?yy55⟩) hd1 ?rr55
        case ii55 => simp only [List.getElem?_toArray, List.getElem?_cons_succ, List.getElem?_cons_zero]; rfl
        case ff55 => kernel_rfl
        case qq55 => exact fun _ _ _ h => h
        case ww55 => rfl
        case yy55 => intro W hW; go_simp <;> with_reducible rfl
        try simp only [Act.put, List.setIfInBounds_toArray, List.set_cons_zero, List.set_cons_succ]
        clear kl0 kl1 kl2 l0 l1 l2
        refine wpAnyH_ready (rs := [5]) (by kernel_rfl) (by simp) ?_
        refine AllReadyH.cons (o := ?oo56) ?ii56 (fun K hK => ?_) AllReadyH.nil
        case ii56 => simp only [List.getElem?_toArray, List.getElem?_cons_succ, List.getElem?_cons_zero]; rfl
        go_simp
        go_wp2_with fail
        refine hK.out _ _ hd2 (fun _ => ?_)
        clear hK K
        refine wpAnyH_ready (rs := [6]) (by kernel_rfl) (by simp) ?_
        refine AllReadyH.cons (o := ?oo57) ?ii57 (fun K hK => ?_) AllReadyH.nil
        case ii57 => simp only [List.getElem?_toArray, List.getElem?_cons_succ, List.getElem?_cons_zero]; rfl
        go_simp
        go_wp2_with fail
        refine hK.out _ _ hd3 (fun _ => ?_)
        clear hK K
        refine wpAnyH_done (by kernel_rfl) ?_ _
        clear hd1 hd2 hd3 sf kb m0 m1 m2 fm0 fm1 fm2
        go_wp2_with fail
        go_roundw
        case rel => exact HRn.out
        case measure => simp [intOf]; omega
      have p1 : (x0 == z0) = true := by rw [beq_iff_eq]; exact h1
      have H1 := Lib.hid h1
      clear h1
      have p2 : decide (x1 < z1) = false := decide_eq_false (by have := Hlow.out; have := H1.out; unfold QueP.lexless at *; simp only at *; omega)
      by_cases h2 : x1 = z1
      case neg =>
        have p3 : (x1 == z1) = false := by rw [beq_eq_false_iff_ne]; exact h2
        clear h2
        go_wp2_with fail
        refine wp_region_held_drew (S := fun W => BoxAt N x0 x1 i W) (by kernel_rfl) hd1 (fun _ => ?_)
        refine wpAnyH_take (i := 0) (oi := ?oo58) (v := ?vv58) ?ii58 (by kernel_rfl) ?ff58 (by kernel_rfl) ?qq58 (Or.inl ⟨?ww58, ?yy58⟩) hd1 ?rr58
        case ii58 => simp only [List.getElem?_toArray, List.getElem?_cons_zero]; rfl
        case ff58 => kernel_rfl
        case qq58 => exact fun _ _ _ h => h
        case ww58 => rfl
        case yy58 => intro W hW; go_simp <;> with_reducible rfl
        try simp only [Act.put, List.setIfInBounds_toArray, List.set_cons_zero, List.set_cons_succ]
        refine wpAnyH_take (i := 1) (oi := ?oo59) (v := ?vv59) ?ii59 (by kernel_rfl) ?ff59 (by kernel_rfl) ?qq59 (Or.inl ⟨?ww59, ?yy59⟩) hd1 ?rr59
        case ii59 => simp only [List.getElem?_toArray, List.getElem?_cons_succ, List.getElem?_cons_zero]; rfl
        case ff59 => kernel_rfl
        case qq59 => exact fun _ _ _ h => h
        case ww59 => rfl
        case yy59 => intro W hW; go_simp <;> with_reducible rfl
        try simp only [Act.put, List.setIfInBounds_toArray, List.set_cons_zero, List.set_cons_succ]
        refine wpAnyH_take (i := 2) (oi := ?oo60) (v := ?vv60) ?ii60 (by kernel_rfl) ?ff60 (by kernel_rfl) ?qq60 (Or.inl ⟨?ww60, ?yy60⟩) hd1 ?rr60
        case ii60 => simp only [List.getElem?_toArray, List.getElem?_cons_succ, List.getElem?_cons_zero]; rfl
        case ff60 => kernel_rfl
        case qq60 => exact fun _ _ _ h => h
        case ww60 => rfl
        case yy60 => intro W hW; go_simp <;> with_reducible rfl
        try simp only [Act.put, List.setIfInBounds_toArray, List.set_cons_zero, List.set_cons_succ]
        refine wpAnyH_take (i := 3) (oi := ?oo61) (v := ?vv61) ?ii61 (by kernel_rfl) ?ff61 (by kernel_rfl) ?qq61 (Or.inl ⟨?ww61, ?yy61⟩) hd1 ?rr61
        case ii61 => simp only [List.getElem?_toArray, List.getElem?_cons_succ, List.getElem?_cons_zero]; rfl
        case ff61 => kernel_rfl
        case qq61 => exact fun _ _ _ h => h
        case ww61 => rfl
        case yy61 => intro W hW; go_simp <;> with_reducible rfl
        try simp only [Act.put, List.setIfInBounds_toArray, List.set_cons_zero, List.set_cons_succ]
        refine wpAnyH_take (i := 4) (oi := ?oo62) (v := ?vv62) ?ii62 (by kernel_rfl) ?ff62 (by kernel_rfl) ?qq62 (Or.inl ⟨?ww62, ?yy62⟩) hd1 ?rr62
        case ii62 => simp only [List.getElem?_toArray, List.getElem?_cons_succ, List.getElem?_cons_zero]; rfl
        case ff62 => kernel_rfl
        case qq62 => exact fun _ _ _ h => h
        case ww62 => rfl
        case yy62 => intro W hW; go_simp <;> with_reducible rfl
        try simp only [Act.put, List.setIfInBounds_toArray, List.set_cons_zero, List.set_cons_succ]
        clear kl0 kl1 kl2 l0 l1 l2
        refine wpAnyH_ready (rs := [5]) (by kernel_rfl) (by simp) ?_
        refine AllReadyH.cons (o := ?oo63) ?ii63 (fun K hK => ?_) AllReadyH.nil
        case ii63 => simp only [List.getElem?_toArray, List.getElem?_cons_succ, List.getElem?_cons_zero]; rfl
        go_simp
        go_wp2_with fail
        refine hK.out _ _ hd2 (fun _ => ?_)
        clear hK K
        refine wpAnyH_ready (rs := [6]) (by kernel_rfl) (by simp) ?_
        refine AllReadyH.cons (o := ?oo64) ?ii64 (fun K hK => ?_) AllReadyH.nil
        case ii64 => simp only [List.getElem?_toArray, List.getElem?_cons_succ, List.getElem?_cons_zero]; rfl
        go_simp
        go_wp2_with fail
        refine hK.out _ _ hd3 (fun _ => ?_)
        clear hK K
        refine wpAnyH_done (by kernel_rfl) ?_ _
        clear hd1 hd2 hd3 sf kb m0 m1 m2 fm0 fm1 fm2
        go_wp2_with fail
        go_roundw
        case rel => exact HRn.out
        case measure => simp [intOf]; omega
      have p3 : (x1 == z1) = true := by rw [beq_iff_eq]; exact h2
      have p4 : decide ((i : Int) < z2) = false := decide_eq_false (by have := Hlow.out; have := H1.out; unfold QueP.lexless at *; simp only at *; omega)
      clear h2
      go_wp2_with fail
      refine wp_region_held_drew (S := fun W => BoxAt N x0 x1 i W) (by kernel_rfl) hd1 (fun _ => ?_)
      refine wpAnyH_take (i := 0) (oi := ?oo65) (v := ?vv65) ?ii65 (by kernel_rfl) ?ff65 (by kernel_rfl) ?qq65 (Or.inl ⟨?ww65, ?yy65⟩) hd1 ?rr65
      case ii65 => simp only [List.getElem?_toArray, List.getElem?_cons_zero]; rfl
      case ff65 => kernel_rfl
      case qq65 => exact fun _ _ _ h => h
      case ww65 => rfl
      case yy65 => intro W hW; go_simp <;> with_reducible rfl
      try simp only [Act.put, List.setIfInBounds_toArray, List.set_cons_zero, List.set_cons_succ]
      refine wpAnyH_take (i := 1) (oi := ?oo66) (v := ?vv66) ?ii66 (by kernel_rfl) ?ff66 (by kernel_rfl) ?qq66 (Or.inl ⟨?ww66, ?yy66⟩) hd1 ?rr66
      case ii66 => simp only [List.getElem?_toArray, List.getElem?_cons_succ, List.getElem?_cons_zero]; rfl
      case ff66 => kernel_rfl
      case qq66 => exact fun _ _ _ h => h
      case ww66 => rfl
      case yy66 => intro W hW; go_simp <;> with_reducible rfl
      try simp only [Act.put, List.setIfInBounds_toArray, List.set_cons_zero, List.set_cons_succ]
      refine wpAnyH_take (i := 2) (oi := ?oo67) (v := ?vv67) ?ii67 (by kernel_rfl) ?ff67 (by kernel_rfl) ?qq67 (Or.inl ⟨?ww67, ?yy67⟩) hd1 ?rr67
      case ii67 => simp only [List.getElem?_toArray, List.getElem?_cons_succ, List.getElem?_cons_zero]; rfl
      case ff67 => kernel_rfl
      case qq67 => exact fun _ _ _ h => h
      case ww67 => rfl
      case yy67 => intro W hW; go_simp <;> with_reducible rfl
      try simp only [Act.put, List.setIfInBounds_toArray, List.set_cons_zero, List.set_cons_succ]
      refine wpAnyH_take (i := 3) (oi := ?oo68) (v := ?vv68) ?ii68 (by kernel_rfl) ?ff68 (by kernel_rfl) ?qq68 (Or.inl ⟨?ww68, ?yy68⟩) hd1 ?rr68
      case ii68 => simp only [List.getElem?_toArray, List.getElem?_cons_succ, List.getElem?_cons_zero]; rfl
      case ff68 => kernel_rfl
      case qq68 => exact fun _ _ _ h => h
      case ww68 => rfl
      case yy68 => intro W hW; go_simp <;> with_reducible rfl
      try simp only [Act.put, List.setIfInBounds_toArray, List.set_cons_zero, List.set_cons_succ]
      refine wpAnyH_take (i := 4) (oi := ?oo69) (v := ?vv69) ?ii69 (by kernel_rfl) ?ff69 (by kernel_rfl) ?qq69 (Or.inl ⟨?ww69, ?yy69⟩) hd1 ?rr69
      case ii69 => simp only [List.getElem?_toArray, List.getElem?_cons_succ, List.getElem?_cons_zero]; rfl
      case ff69 => kernel_rfl
      case qq69 => exact fun _ _ _ h => h
      case ww69 => rfl
      case yy69 => intro W hW; go_simp <;> with_reducible rfl
      try simp only [Act.put, List.setIfInBounds_toArray, List.set_cons_zero, List.set_cons_succ]
      clear kl0 kl1 kl2 l0 l1 l2
      refine wpAnyH_ready (rs := [5]) (by kernel_rfl) (by simp) ?_
      refine AllReadyH.cons (o := ?oo70) ?ii70 (fun K hK => ?_) AllReadyH.nil
      case ii70 => simp only [List.getElem?_toArray, List.getElem?_cons_succ, List.getElem?_cons_zero]; rfl
      go_simp
      go_wp2_with fail
      refine hK.out _ _ hd2 (fun _ => ?_)
      clear hK K
      refine wpAnyH_ready (rs := [6]) (by kernel_rfl) (by simp) ?_
      refine AllReadyH.cons (o := ?oo71) ?ii71 (fun K hK => ?_) AllReadyH.nil
      case ii71 => simp only [List.getElem?_toArray, List.getElem?_cons_succ, List.getElem?_cons_zero]; rfl
      go_simp
      go_wp2_with fail
      refine hK.out _ _ hd3 (fun _ => ?_)
      clear hK K
      refine wpAnyH_done (by kernel_rfl) ?_ _
      clear hd1 hd2 hd3 sf kb m0 m1 m2 fm0 fm1 fm2
      go_wp2_with fail
      go_roundw
      case rel => exact HRn.out
      case measure => simp [intOf]; omega
end Go.Proofs.Ytlijcfojokbdpaa
