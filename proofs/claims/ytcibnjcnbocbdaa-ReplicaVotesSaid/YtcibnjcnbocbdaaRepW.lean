/- ReplicaKeys: the walk of the law. Conditions: where the commands lie. -/
import Derived.Test.YtcibnjcnbocbdaaRepU
import Derived.Test.YtcibnjcnbocbdaaRepArg
namespace Go.Proofs.Ytcibnjcnbocbdaa
open Go.RowKit RepP Go.Maps
set_option maxRecDepth 100000

/-- Two tables. -/
def DuoT (W : World) (B a b : Nat) (t u : T) (n k : Nat) : Prop := B ≤ W.heap.size ∧ TabsG W B [(a, t, n), (b, u, k)]
theorem DuoT.below {W W' : World} {B a b n k : Nat} {t u : T} (h : DuoT W B a b t u n k) (hb : Below W.heap.size W W') : DuoT W' B a b t u n k := ⟨Nat.le_trans h.1 hb.size, h.2.below hb⟩
theorem DuoT.len {W : World} {B a b n k : Nat} {t u : T} (h : DuoT W B a b t u n k) : t.length = 8 ∧ u.length = 8 := by
  obtain ⟨m, hr⟩ := h.2.get (i := 0) rfl
  obtain ⟨m', hr'⟩ := h.2.get (i := 1) rfl
  exact ⟨hr.len, hr'.len⟩
theorem duo_new {W w1 w2 : World} {e e' : Ending} (h : NewP14 W e w1) (h' : NewP14 w1 e' w2) : DuoT w2 W.heap.size W.heap.size (W.heap.size + 1) new new 0 0 ∧ e = .returned (repV W.heap.size) ∧ e' = .returned (repV (W.heap.size + 1)) ∧ Below W.heap.size W w2 := by
  obtain ⟨rfl, h1, h2, h3⟩ := h
  obtain ⟨rfl, h4, h5, h6⟩ := h'
  have g1 : TabsG w1 W.heap.size [(W.heap.size, new, 0)] := by simpa using (TabsG.nil W W.heap.size).more (Nat.le_refl _) h1 h2
  have g2 := g1.more (W' := w2) (by omega) h4 h5
  rw [h3] at g2
  exact ⟨⟨by omega, by simpa using g2⟩, rfl, by rw [h3], h2.trans (h5.mono (by omega))⟩
theorem tag_keep {W W' : World} {B q : Nat} {cs : Array Value} {e : TypeId} (ha : Apart (fun q => B ≤ q ∧ RTag W q) W W') (h : W.heap[q]? = some (.cells cs e (0, 0))) (hne : e ≠ 59) : W'.heap[q]? = some (.cells cs e (0, 0)) := by
  refine (ha.block q (Array.getElem?_eq_some_iff.1 h).1 fun h1 => ?_).trans h
  rcases h1.2 with ⟨cs', h2⟩ | ⟨es, c, h2⟩
  · rw [h] at h2
    simp only [Option.some.injEq, Obj.cells.injEq] at h2
    exact hne h2.2.1
  · rw [h] at h2
    simp at h2
def DuoPa (W : World) (B a b : Nat) (t u : T) (n k : Nat) (c : Cmd) (e : Ending) (w' : World) : Prop := e = .returned (.tuple #[.bool (toldT t c), errN (badT c)]) ∧ DuoT w' B a b (applyT t c) u (n + if doneB c = true then 1 else 0) k ∧ Apart (fun q => B ≤ q ∧ RTag W q) W w'
def DuoPb (W : World) (B a b : Nat) (t u : T) (n k : Nat) (c : Cmd) (e : Ending) (w' : World) : Prop := e = .returned (.tuple #[.bool (toldT u c), errN (badT c)]) ∧ DuoT w' B a b t (applyT u c) n (k + if doneB c = true then 1 else 0) ∧ Apart (fun q => B ≤ q ∧ RTag W q) W w'
theorem duo_one {W : World} {B a b n k : Nat} {t u : T} (h : DuoT W B a b t u n k) (hn : n ≤ 1000000) (c : Cmd) (hc : CmdIn c) : Calls Try.prog 10 #[repV a, cmdV14 c] W (DuoPa W B a b t u n k c) :=
  (tabs_apply W B _ h.2 (i := 0) rfl hn c hc).mono fun _ _ h1 => ⟨h1.1, ⟨Nat.le_trans h.1 h1.2.2.size, h1.2.1⟩, h1.2.2⟩
theorem duo_two {W : World} {B a b n k : Nat} {t u : T} (h : DuoT W B a b t u n k) (hn : k ≤ 1000000) (c : Cmd) (hc : CmdIn c) : Calls Try.prog 10 #[repV b, cmdV14 c] W (DuoPb W B a b t u n k c) :=
  (tabs_apply W B _ h.2 (i := 1) rfl hn c hc).mono fun _ _ h1 => ⟨h1.1, ⟨Nat.le_trans h.1 h1.2.2.size, h1.2.1⟩, h1.2.2⟩
theorem duo_askA {W : World} {B a b n k : Nat} {t u : T} (h : DuoT W B a b t u n k) (key : Nat) (hk : key ≤ 255) : Calls Try.prog 17 #[repV a, .int .u8 (key : Nat)] W (AskP14 (tat t key) W) := tabs_ask W B _ h.2 (i := 0) rfl key hk
theorem duo_askB {W : World} {B a b n k : Nat} {t u : T} (h : DuoT W B a b t u n k) (key : Nat) (hk : key ≤ 255) : Calls Try.prog 17 #[repV b, .int .u8 (key : Nat)] W (AskP14 (tat u key) W) := tabs_ask W B _ h.2 (i := 1) rfl key hk
theorem done_01 (c : Cmd) (n k : Nat) (h : n ≤ k) : (n + if doneB c = true then 1 else 0) ≤ k + 1 := by split <;> omega

def KeyR (w : World) (B kk n : Nat) (i : Value) (W : World) : Prop := ∃ k t u p q, k ≤ n ∧ p ≤ k ∧ q ≤ k ∧ i = .int .i64 (k : Nat) ∧ DuoT W B B (B + 1) t u p q ∧ tat t kk = tat u kk ∧ Below w.heap.size w W

set_option maxHeartbeats 1000000 in
theorem keys_law (A : Option Addr) (n cap : Nat) (l : List Cmd) (hl : l.length = n) (key : Nat) (w : World) (h : CmdsIn w A l) :
    Calls Try.prog 6 #[.slice A n cap, .int .u8 (key : Nat)] w (Tru14 w) := by
  have HW := Lib.hid (awake14_any w)
  have HN := Lib.hid (fun W => rnew_any W)
  have HI := Lib.hid h
  have Hl := Lib.hid hl
  have ek : (key : Int).tmod 8 = ((key % 8 : Nat) : Int) := rfl
  have hkk : key % 8 ≤ 7 := by omega
  generalize key % 8 = kk at *
  have HRd := Lib.hid (fun c W => rread_any (badT c) (badT_le c) W)
  have HRa := Lib.hid (fun (o : Option Nat) W => rread_any (if o.isSome then 0 else 17) (by split <;> omega) W)
  clear h hl
  by_cases hn : n ≤ 200
  case neg =>
    have q1 : (200 : Int) < (n : Int) := by omega
    clear hn ek hkk HN HI Hl HRd HRa
    go_enter Try.func6, Try.ntmps6
    go_wp2_with fail
    refine HW.out.mono ?_
    rintro e w1 ⟨rfl, hb1⟩
    have HB1 := Lib.hid hb1
    clear hb1 HW
    go_wp2_with fail
    go_ret
    exact ⟨rfl, HB1.out⟩
  have q1 : ¬ ((200 : Int) < (n : Int)) := by omega
  unfold repV at *
  go_enter Try.func6, Try.ntmps6
  go_wp2_with fail
  refine HW.out.mono ?_
  rintro e w1 ⟨rfl, hb1⟩
  have HB1 := Lib.hid hb1
  clear hb1 HW
  go_wp2_with fail
  refine (HN.out w1).mono ?_
  rintro e w2 hN
  have HN1 := Lib.hid hN
  obtain ⟨rfl, -, -, -⟩ := hN
  unfold repV
  go_wp2_with fail
  refine (HN.out w2).mono ?_
  rintro e w3 hN2
  obtain ⟨hG, -, e2, hb⟩ := duo_new HN1.out hN2
  rw [e2]
  have HB3 := Lib.hid (HB1.out.trans (hb.mono HB1.out.size))
  have HBz := Lib.hid HB1.out.size
  have HS0 : Hid (KeyR w w1.heap.size kk n (.int .i64 0) w3) := Lib.hid ⟨0, _, _, 0, 0, Nat.zero_le _, Nat.le_refl _, Nat.le_refl _, rfl, hG, rfl, HB3.out⟩
  unfold repV
  clear hG e2 hb hN2 HN1 HB1 HN HB3
  generalize w1.heap.size = B at *
  go_wp2_with fail
  go_loopw [28] (KeyR w B kk n) (fun i _ => (n + 1 - intOf i).toNat)
  case atStart => exact HS0.out
  case round =>
    clear HS0
    obtain ⟨k, t, u, p, q, hk, hp, hq, rfl, hG, htu, hb⟩ := hrel
    by_cases hkn : k < n
    case neg =>
      obtain rfl : k = n := by omega
      have HKa := Lib.hid (duo_askA hG kk (by omega))
      have HKb := Lib.hid (duo_askB hG kk (by omega))
      rw [← htu] at HKb
      have HF : Hid (∀ W, Below wr.heap.size wr W → Tru14 w (.returned (.bool true)) W) := Lib.hid fun W h => ⟨rfl, hb.trans (h.mono hb.size)⟩
      have HRk := Lib.hid (fun W => HRa.out (tat t kk) W)
      have q3 : ¬ ((k : Int) < (k : Int)) := by omega
      clear hk hp hq hG htu hb HI Hl HRd HRa hkn hn
      unfold AskP14 askV repV at *
      generalize tat t kk = o at *
      generalize (if o.isSome = true then 0 else 17) = cd at *
      generalize errN cd = ev at *
      generalize ((o.getD 0 : Nat) : Int) = av at *
      go_wp2_with fail
      refine HKa.out.mono ?_
      rintro e w4 ⟨rfl, rfl⟩
      go_wp2_with fail
      refine HKb.out.mono ?_
      rintro e w5 ⟨rfl, rfl⟩
      clear HKa HKb
      go_wp2_with fail
      refine (HRk.out _).mono ?_
      rintro e w6 ⟨rfl, hb6⟩
      have H6 := Lib.hid hb6
      clear hb6
      go_wp2_with fail
      refine (HRk.out _).mono ?_
      rintro e w7 ⟨rfl, hb7⟩
      have HG := Lib.hid (HF.out _ (H6.out.trans (hb7.mono H6.out.size)))
      clear hb7 H6 HF HRk
      unfold strV
      go_wp2_with fail
      go_ret
      exact HG.out
    obtain ⟨c, hx⟩ : ∃ c, l[k]? = some c := ⟨_, List.getElem?_eq_getElem (by rw [Hl.out]; exact hkn)⟩
    obtain ⟨ba, oa, rfl, -, hcell⟩ := (HI.out.below hb).1 (by rw [Hl.out]; omega)
    have hc := HI.out.2 c (List.mem_of_getElem? hx)
    obtain ⟨kind, ckey, val, old⟩ := c
    have c0 : wr.cell? ⟨ba, oa + k * 4, none⟩ = some (.int .u8 (kind : Nat)) := hcell k _ hx 0 _ rfl
    have c1 : wr.cell? ⟨ba, oa + k * 4 + 1, none⟩ = some (.int .u8 (ckey : Nat)) := hcell k _ hx 1 _ rfl
    have c2 : wr.cell? ⟨ba, oa + k * 4 + 2, none⟩ = some (.int .u16 (val : Nat)) := hcell k _ hx 2 _ rfl
    have c3 : wr.cell? ⟨ba, oa + k * 4 + 3, none⟩ = some (.int .u16 (old : Nat)) := hcell k _ hx 3 _ rfl
    have q2 : (k : Int) < (n : Int) := by omega
    have e1 : IntKind.i64.wrap ((k : Int) + 1) = (k : Int) + 1 := IntWalk.i64_in _ (by omega)
    have hbw : Below wr.heap.size wr (wr.alloc (.cells (cmdVals ⟨kind, ckey, val, old⟩).toArray 38)) := (Below.refl _ wr).alloc (Nat.le_refl _) _
    have hbox := boxCmd wr ⟨kind, ckey, val, old⟩
    have HAp := Lib.hid (duo_one (hG.below hbw) (by omega) ⟨kind, ckey, val, old⟩ hc)
    have HBp : Hid (∀ W t p, DuoT W B B (B + 1) t u p q → Calls Try.prog 10 #[repV (B + 1), cmdV14 ⟨kind, ckey, val, old⟩] W (DuoPb W B B (B + 1) t u p q ⟨kind, ckey, val, old⟩)) := Lib.hid fun W t p h1 => duo_two h1 (by omega) _ hc
    have HRk := Lib.hid (fun W => HRd.out ⟨kind, ckey, val, old⟩ W)
    have hsame := fun (e : ckey = kk) => key_same (c := ⟨kind, ckey, val, old⟩) hG.len.1 hG.len.2 (show tat t ckey = tat u ckey by rw [e, htu])
    have hother := fun (e : ckey ≠ kk) => key_other (c := ⟨kind, ckey, val, old⟩) hG.len.1 e
    have HB0 := Lib.hid (hb.trans (hbw.mono hb.size))
    have hzB := hG.1
    have hpk := done_01 ⟨kind, ckey, val, old⟩ p k hp
    have hqk := done_01 ⟨kind, ckey, val, old⟩ q k hq
    have HR : Hid (∀ t' u' p' q' W, p' ≤ k + 1 → q' ≤ k + 1 → DuoT W B B (B + 1) t' u' p' q' → tat t' kk = tat u' kk → Below w.heap.size w W → KeyR w B kk n (.int .i64 ((k : Int) + 1)) W) := Lib.hid fun t' u' p' q' W h1 h2 h3 h4 h5 => ⟨k + 1, t', u', p', q', hkn, h1, h2, by go_num, h3, h4, h5⟩
    clear hx hcell hc hk hp hq hb hbw HI Hl HRd HRa hn hkn
    have HS := Lib.hid hsame
    have HO := Lib.hid hother
    have Htu := Lib.hid htu
    have HG := Lib.hid hG
    have hpk' := Lib.hid hpk
    have hqk' := Lib.hid hqk
    clear hsame hother htu hG hpk hqk
    simp only [cmdVals] at hbox HAp HB0
    unfold repV cmdV14 at *
    go_wp2_with fail
    refine HAp.out.mono ?_
    rintro e w4 ⟨rfl, hG1, hA1⟩
    have hbx := tag_keep hA1 hbox (by decide)
    have HB4 := Lib.hid (HB0.out.trans ((tag_below hA1 (by simp; omega)).mono HBz.out))
    have k1 : w4.cell? ⟨wr.heap.size, 1, none⟩ = some (.int .u8 (ckey : Nat)) := cell_at hbx 1 rfl
    by_cases hkey : ckey = kk
    · subst hkey
      have k0 : w4.cell? ⟨wr.heap.size, 0, none⟩ = some (.int .u8 (kind : Nat)) := cell_at hbx 0 rfl
      have k2 : w4.cell? ⟨wr.heap.size, 2, none⟩ = some (.int .u16 (val : Nat)) := cell_at hbx 2 rfl
      have k3 : w4.cell? ⟨wr.heap.size, 3, none⟩ = some (.int .u16 (old : Nat)) := cell_at hbx 3 rfl
      have HBw := Lib.hid (HBp.out _ _ _ hG1)
      obtain ⟨hs1, hs2⟩ := HS.out rfl
      have hz4 := hG1.1
      have HS1 := Lib.hid hs1
      clear hG1 hA1 hbx HAp HBp hbox HB0 HS HO hs1 c0 c1 c2 c3
      rw [hs2]
      clear hs2
      go_wp2_with fail
      refine HBw.out.mono ?_
      rintro e w5 ⟨rfl, hG2, hA2⟩
      have HRw := Lib.hid (fun W (h : Below w5.heap.size w5 W) => HR.out _ _ _ _ W hpk'.out hqk'.out (hG2.below h) HS1.out ((HB4.out.trans ((tag_below hA2 hz4).mono HBz.out)).trans (h.mono ((HB4.out.trans ((tag_below hA2 hz4).mono HBz.out)).size))))
      clear hG2 hA2 HBw HB4 HR HS1 k0 k1 k2 k3 hz4
      generalize errN (badT ⟨kind, ckey, val, old⟩) = ev at *
      generalize toldT u ⟨kind, ckey, val, old⟩ = tl at *
      go_wp2_with fail
      refine (HRk.out _).mono ?_
      rintro e w6 ⟨rfl, hb6⟩
      have H6 := Lib.hid hb6
      clear hb6
      go_wp2_with fail
      refine (HRk.out _).mono ?_
      rintro e w7 ⟨rfl, hb7⟩
      have HRx := Lib.hid (HRw.out _ (H6.out.trans (hb7.mono H6.out.size)))
      clear hb7 H6 HRw HRk
      unfold strV
      go_wp2_with fail
      go_roundw
      case rel => exact HRx.out
      case measure => simp [intOf]; omega
    · have hne : ¬ ((ckey : Int) = (kk : Int)) := by omega
      have HRw := Lib.hid (HR.out _ _ _ _ w4 hpk'.out (by have := hqk'.out; exact Nat.le_trans (Nat.le_add_right _ _) this) hG1 ((HO.out hkey).trans Htu.out) HB4.out)
      clear hG1 hA1 hbx HAp HBp hbox HB0 HS HO HR HB4 hkey c0 c1 c2 c3 HRk
      go_wp2_with fail
      go_roundw
      case rel => exact HRw.out
      case measure => simp [intOf]; omega
end Go.Proofs.Ytcibnjcnbocbdaa
