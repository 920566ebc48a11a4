/- Contracts of fault.Has, fault.Code, fault.Root and fault.Place at an error in memory. Conditions: errors.errorType holds the type error; where the faults lie; at most 1000000 links. -/
import Derived.Test.YtabndibenffngaaDoorErrJ
namespace Go.Proofs.YtabndibenffngaaDoor
open Go.RowKit Go.Extern.Stop Go.Stop Go.Extern

theorem has1 (B : Nat) (l : List (Nat × Int × Int)) (t : Option Int) (code : Int) (p q : Nat) (w : World) (hin : ErrIn w t B l) (hp : w.heap[p]? = some (.cells #[errV l t] 25 (0, 0))) (hq : w.heap[q]? = some (.cells #[.int .i64 code] 30 (0, 0))) :
    Calls Tryd.prog 45 #[.pointer (some ⟨p, 0, none⟩), .pointer (some ⟨q, 0, none⟩)] w (Asked w none fun r _ => r = decide (code ∈ codes l t)) := by
  obtain ⟨hc, hf⟩ := cell0 hp
  obtain ⟨hc2, hf2⟩ := cell0 hq
  have H : Hid (Calls Tryd.prog 46 #[errV l t, .iface 30 (.int .i64 code)] w fun e w' => e = .returned (.bool (decide (code ∈ codes l t))) ∧ w = w') := Lib.hid (isTop B l t code w hin)
  have hv := errV_cases l t
  clear hp hq hin
  generalize errV l t = v at *
  generalize decide (code ∈ codes l t) = d at *
  rcases hv with rfl | ⟨m, rfl⟩ | ⟨b, rfl⟩
  all_goals
    go_enter Tryd.func45, Tryd.ntmps45
    go_wp2_with fail
    refine H.out.mono ?_
    rintro e w' ⟨rfl, rfl⟩
    have Hp := Lib.hid (show Asked w none (fun r _ => r = d) (.returned (.bool d)) w from ⟨_, rfl, grown_refl _ _, rfl⟩)
    go_wp2_with fail
    go_ret
    exact Hp.out

theorem enters31 (args : Array Value) (w : World) : (callFunc 45 args).run Tryd.prog w = .ok (.enter 45 args) w :=
  enters Tryd.func45 (by kernel_rfl) rfl args w

set_option maxHeartbeats 1000000 in
theorem has_any (B : Nat) (l : List (Nat × Int × Int)) (t : Option Int) (code : Int) (w : World) (hl : l.length ≤ 1000000) (hB : B ≤ w.heap.size) (hin : ErrIn w t B l) :
    Calls Tryd.prog 38 #[errV l t, .int .i64 code] w fun e w' => e = .returned (.bool (decide (code ∈ codes l t))) ∧ Below w.heap.size w w' := by
  have hmf : ∀ (fn : Fn) (first cap : Array Value) (w : World), (Instr.makeFunc fn first cap).run Tryd.prog w = .ok (.func fn first cap) w := fun _ _ _ _ => rfl
  have hb1 : Below w.heap.size w ((w.alloc (.cells #[errV l t] 25)).alloc (.cells #[.int .i64 code] 30)) := ((Below.refl _ _).alloc (Nat.le_refl _) _).alloc (by simp) _
  have H1 := Lib.hid (ends_any B l t ((w.alloc (.cells #[errV l t] 25)).alloc (.cells #[.int .i64 code] 30)) hl (by simp; omega) (hin.below hb1 hB))
  have H2 : Hid (∀ W : World, Below (w.heap.size + 2) ((w.alloc (.cells #[errV l t] 25)).alloc (.cells #[.int .i64 code] 30)) W →
      Calls Tryd.prog 44 #[.func (.func 45) #[] #[.pointer (some ⟨w.heap.size, 0, none⟩), .pointer (some ⟨w.heap.size + 1, 0, none⟩)]] W
        fun e w' => e = .returned (.bool (decide (code ∈ codes l t))) ∧ Below w.heap.size w w') := Lib.hid fun W hW => by
    have hs := hW.size
    simp at hs
    have hbW : Below w.heap.size w W := hb1.trans (hW.mono (by omega))
    have hbx : Below W.heap.size W (W.alloc (.cells #[.bool false] 4)) := (Below.refl _ _).alloc (Nat.le_refl _) _
    have h1 := has1 B l t code w.heap.size (w.heap.size + 1) (W.alloc (.cells #[.bool false] 4)) ((hin.below hbW hB).below hbx (by omega))
      (by rw [hbx.block _ (by omega), hW.block _ (by omega), allocAt _ _ _ (by simp)]; exact newAt _ _)
      (by rw [hbx.block _ (by omega), hW.block _ (by omega)]; exact newAt1 _ _ _)
    refine (safely_of _ _ W none _ (fun k hk => by cases hk) enters31 h1).mono ?_
    intro e w' h
    obtain ⟨r, w1, rfl, rfl, -, -, h3⟩ := h.take
    exact ⟨rfl, hbW.trans (h3 _ (by omega) (fun k hk => by cases hk))⟩
  have hv := errV_cases l t
  clear hin
  generalize errV l t = v at *
  generalize decide (code ∈ codes l t) = d at *
  rcases hv with rfl | ⟨m, rfl⟩ | ⟨b, rfl⟩
  all_goals
    clear hb1
    go_enter Tryd.func38, Tryd.ntmps38
    go_wp2_with fail
    refine H1.out.mono ?_
    rintro e W ⟨rfl, hW⟩
    have Hc := Lib.hid (H2.out W (by simpa using hW))
    clear hW
    go_wp2_with fail
    refine Hc.out.mono ?_
    rintro e w2 ⟨rfl, hb⟩
    have Hb := Lib.hid hb
    clear hb
    go_wp2_with fail
    go_ret
    exact ⟨rfl, Hb.out⟩

/-- The first number, or 0. -/
def codeOf (l : List (Nat × Int × Int)) (t : Option Int) : Int := (codes l t).headD 0
def rootOf (l : List (Nat × Int × Int)) (t : Option Int) : Int := (codes l t).getLastD 0

theorem own_at {w : World} {B e n : Nat} {v : Value} {xs : List Value} (h : w.ownsRow B e 1 v n xs) (hn : 0 < n) :
    ∃ g cap, v = .slice (some ⟨g, 0, none⟩) n cap ∧ ∀ j, j < n → w.cell? ⟨g, j, none⟩ = xs[j]? := by
  rcases h.2 with ⟨-, h0⟩ | ⟨g, cap, cur, rfl, -, hg, hcap, -, hcs, htake⟩
  · omega
  · refine ⟨g, cap, rfl, fun j hj => ?_⟩
    rw [cell_of_row w g j cur e (0, 0) hg, ← htake, List.getElem?_take]
    simp [hj]

theorem codes_nil {l : List (Nat × Int × Int)} {t : Option Int} (h : (codes l t).length = 0) : l = [] ∧ t = none := by
  rw [codes_len] at h
  match l, t with
  | [], none => exact ⟨rfl, rfl⟩
  | [], some _ => simp at h
  | _ :: _, _ => simp at h

theorem own_zero {w : World} {B e : Nat} {v : Value} {xs : List Value} (h : w.ownsRow B e 1 v 0 xs) : v = .slice none 0 0 ∨ ∃ g cap, v = .slice (some ⟨g, 0, none⟩) 0 cap := by
  rcases h.2 with ⟨h, -⟩ | ⟨g, cap, cur, h, -⟩
  · exact .inl h
  · exact .inr ⟨g, cap, h⟩

end Go.Proofs.YtabndibenffngaaDoor
