/- Contract of fault.outermost at an error in memory: its first fault, or nil. Conditions: errors.errorType holds the type error; where the faults lie. -/
import Derived.Test.YtinjaidmoghjjaaDoorErrH
namespace Go.Proofs.YtinjaidmoghjjaaDoor
open Go.RowKit Go.Extern.Stop Go.Stop Go.Extern

theorem newAt (w : World) (o : Obj) : (w.alloc o).heap[w.heap.size]? = some o := by
  show (w.heap.push o)[w.heap.size]? = _
  simp
theorem newAt1 (w : World) (o o' : Obj) : ((w.alloc o).alloc o').heap[w.heap.size + 1]? = some o' := by
  have h : (w.alloc o).heap.size = w.heap.size + 1 := by simp
  rw [← h]
  exact newAt _ _

def ptrOf : List (Nat × Int × Int) → Value
  | [] => .pointer none
  | (b, _, _) :: _ => .pointer (some ⟨b, 0, none⟩)

def OutR (l : List (Nat × Int × Int)) (q : Nat) (r : Bool) (w1 : World) : Prop := r = !l.isEmpty ∧ w1.heap[q]? = some (.cells #[ptrOf l] 36 (0, 0))

theorem Asked.imp {w : World} {row : Option Nat} {R R' : Bool → World → Prop} {e : Ending} {w' : World} (h : Asked w row R e w') (hR : ∀ r w1, R r w1 → R' r w1) : Asked w row R' e w' := by
  obtain ⟨r, he, hg, hr⟩ := h
  exact ⟨r, he, hg, hR _ _ hr⟩

theorem outermost1 (l : List (Nat × Int × Int)) (t : Option Int) (p q : Nat) (w : World) (hg : HasType w) (hp : w.heap[p]? = some (.cells #[errV l t] 25 (0, 0))) (hq : w.heap[q]? = some (.cells #[.pointer none] 36 (0, 0))) (hql : q < w.heap.size) :
    Calls Tryd.prog 41 #[.pointer (some ⟨p, 0, none⟩), .pointer (some ⟨q, 0, none⟩)] w (Asked w (some q) (OutR l q)) := by
  obtain ⟨hc, hf⟩ := cell0 hp
  have hmain : Calls Tryd.prog 17 #[errV l t, .iface 46 (.pointer (some ⟨q, 0, none⟩))] w (Asked w (some q) (OutR l q)) := by
    match l, t with
    | [], none => exact (as_nilA _ (some q) w).mono fun _ _ h => h.imp fun r w1 ⟨h1, h2⟩ => by subst h1; subst h2; exact ⟨rfl, hq⟩
    | [], some m => exact (as_no m q w hg hql).mono fun _ _ h => h.imp fun r w1 ⟨h1, h2⟩ => by subst h1; exact ⟨rfl, h2.trans hq⟩
    | (b, c, a) :: r, t => exact (as_F ⟨b, 0, none⟩ q _ w hg hq hql).mono fun _ _ h => h.imp fun r w1 ⟨h1, h2⟩ => by subst h1; exact ⟨rfl, h2⟩
  have H := Lib.hid hmain
  have hv := errV_cases l t
  clear hmain hp hq hg
  generalize errV l t = v at *
  rcases hv with rfl | ⟨m, rfl⟩ | ⟨b, rfl⟩
  all_goals
    go_enter Tryd.func41, Tryd.ntmps41
    go_wp2_with fail
    refine H.out.mono ?_
    rintro e w' ⟨r, rfl, h1, h2⟩
    have Hp := Lib.hid (show Asked w (some q) (OutR l q) (.returned (.bool r)) w' from ⟨r, rfl, h1, h2⟩)
    clear h1 h2
    go_wp2_with fail
    go_ret
    exact Hp.out

theorem enters41 (args : Array Value) (w : World) : (callFunc 41 args).run Tryd.prog w = .ok (.enter 41 args) w :=
  enters Tryd.func41 (by kernel_rfl) rfl args w

/-- fault.outermost's question, asked safely in a world that holds the error's box and the variable. -/
theorem outermost2 (l : List (Nat × Int × Int)) (t : Option Int) (p q : Nat) (w : World) (hg : HasType w) (hp : w.heap[p]? = some (.cells #[errV l t] 25 (0, 0))) (hpl : p < w.heap.size) (hq : w.heap[q]? = some (.cells #[.pointer none] 36 (0, 0))) (hql : q < w.heap.size) :
    Calls Tryd.prog 27 #[.func (.func 41) #[] #[.pointer (some ⟨p, 0, none⟩), .pointer (some ⟨q, 0, none⟩)]] w
      fun e w' => e = .returned (.bool (!l.isEmpty)) ∧ w'.heap[q]? = some (.cells #[ptrOf l] 36 (0, 0)) ∧ (∀ B, B ≤ q → Below B w w') := by
  have h1 := outermost1 l t p q (w.alloc (.cells #[.bool false] 4)) (hg.keep (allocAt _ _ _ hg.pos)) ((allocAt _ _ _ hpl).trans hp) ((allocAt _ _ _ hql).trans hq) (by simp; omega)
  refine (safely_of _ _ w (some q) (OutR l q) (fun k hk => by cases hk; exact hql) enters41 h1).mono ?_
  intro e w' h
  obtain ⟨r, w1, rfl, ⟨rfl, hR⟩, -, h2, h3⟩ := h.take
  exact ⟨rfl, (h2 q hql).trans hR, fun B hB => h3 B (by omega) (fun k hk => by cases hk; exact hB)⟩

theorem asFault_nil (w : World) : (Instr.typeAssert .nilIface 25 36 true).run Tryd.prog w = .ok (.tuple #[.pointer none, .bool false]) w := by kernel_rfl

set_option maxHeartbeats 1000000 in
theorem outermost_any (B : Nat) (l : List (Nat × Int × Int)) (t : Option Int) (w : World) (hl : l.length ≤ 1000000) (hg : HasType w) (hB : B ≤ w.heap.size) (hin : ErrIn w t B l) :
    Calls Tryd.prog 25 #[errV l t] w fun e w' => e = .returned (ptrOf l) ∧ Below w.heap.size w w' := by
  have hmf : ∀ (fn : Fn) (first cap : Array Value) (w : World), (Instr.makeFunc fn first cap).run Tryd.prog w = .ok (.func fn first cap) w := fun _ _ _ _ => rfl
  have a1 := asFault_nil
  have a2 := asFault_E
  have a3 := asFault_F
  have hb1 : Below w.heap.size w ((w.alloc (.cells #[errV l t] 25)).alloc (.cells #[.pointer none] 36)) := ((Below.refl _ _).alloc (Nat.le_refl _) _).alloc (by simp) _
  have hp1 : ((w.alloc (.cells #[errV l t] 25)).alloc (.cells #[.pointer none] 36)).heap[w.heap.size]? = some (.cells #[errV l t] 25 (0, 0)) := by
    rw [allocAt _ _ _ (by simp)]; exact newAt _ _
  have hq1 : ((w.alloc (.cells #[errV l t] 25)).alloc (.cells #[.pointer none] 36)).heap[w.heap.size + 1]? = some (.cells #[.pointer none] 36 (0, 0)) := newAt1 _ _ _
  have hend := ends_any B l t ((w.alloc (.cells #[errV l t] 25)).alloc (.cells #[.pointer none] 36)) hl (by simp; omega) (hin.below hb1 hB)
  have H2 : Hid (∀ W : World, Below (w.heap.size + 2) ((w.alloc (.cells #[errV l t] 25)).alloc (.cells #[.pointer none] 36)) W →
      Calls Tryd.prog 27 #[.func (.func 41) #[] #[.pointer (some ⟨w.heap.size, 0, none⟩), .pointer (some ⟨w.heap.size + 1, 0, none⟩)]] W
      fun e w' => e = .returned (.bool (!l.isEmpty)) ∧ w'.heap[w.heap.size + 1]? = some (.cells #[ptrOf l] 36 (0, 0)) ∧ Below w.heap.size w w') := Lib.hid fun W hW => by
    have hs := hW.size
    simp at hs
    refine (outermost2 l t w.heap.size (w.heap.size + 1) W (hg.keep ?_) ?_ (by omega) ?_ (by omega)).mono ?_
    · rw [hW.block 0 (by omega), hb1.block 0 hg.pos]
    · rw [hW.block _ (by omega)]; exact hp1
    · rw [hW.block _ (by omega)]; exact hq1
    · rintro e w' ⟨h1, h2, h3⟩
      exact ⟨h1, h2, (hb1.trans (hW.mono (by omega))).trans (h3 _ (by omega))⟩
  have H1 : Hid _ := Lib.hid hend
  clear hend hp1 hq1 hin
  match l, t with
  | [], none =>
    simp only [errV, ptrOf] at *
    go_enter Tryd.func25, Tryd.ntmps25
    go_wp2_with fail
    refine H1.out.mono ?_
    rintro e W ⟨rfl, hW⟩
    have Hc := Lib.hid (H2.out W (by simpa using hW))
    have kc := hW.cell (p := ⟨w.heap.size, 0, none⟩) (by simp; omega)
    have kf := hW.frozen (p := ⟨w.heap.size, 0, none⟩) (by simp; omega)
    clear hW
    go_wp2_with fail
    refine Hc.out.mono ?_
    rintro e w2 ⟨rfl, hq, hb⟩
    obtain ⟨hc, hf⟩ := cell0 hq
    have Hb := Lib.hid hb
    clear hb hq
    go_wp2_with fail
    go_ret
    exact ⟨rfl, Hb.out⟩
  | [], some m =>
    simp only [errV, ptrOf] at *
    go_enter Tryd.func25, Tryd.ntmps25
    go_wp2_with fail
    refine H1.out.mono ?_
    rintro e W ⟨rfl, hW⟩
    have Hc := Lib.hid (H2.out W (by simpa using hW))
    have kc := hW.cell (p := ⟨w.heap.size, 0, none⟩) (by simp; omega)
    have kf := hW.frozen (p := ⟨w.heap.size, 0, none⟩) (by simp; omega)
    clear hW
    go_wp2_with fail
    refine Hc.out.mono ?_
    rintro e w2 ⟨rfl, hq, hb⟩
    obtain ⟨hc, hf⟩ := cell0 hq
    have Hb := Lib.hid hb
    clear hb hq
    go_wp2_with fail
    go_ret
    exact ⟨rfl, Hb.out⟩
  | (b, c, a) :: r, t =>
    have Hc := Lib.hid (H2.out _ (Below.refl _ _))
    simp only [errV, ptrOf] at *
    go_enter Tryd.func25, Tryd.ntmps25
    go_wp2_with fail
    refine Hc.out.mono ?_
    rintro e w2 ⟨rfl, hq, hb⟩
    obtain ⟨hc, hf⟩ := cell0 hq
    have Hb := Lib.hid hb
    clear hb hq
    go_wp2_with fail
    go_ret
    exact ⟨rfl, Hb.out⟩
end Go.Proofs.YtinjaidmoghjjaaDoor
