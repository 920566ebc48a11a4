/- Contract of the document's Has: whether a number is among those of a text. Conditions: a text of at most 1000000 bytes. -/
import Derived.Test.YtabndibenffngaaDoorTxtD
namespace Go.Proofs.YtabndibenffngaaDoor
open Go.RowKit Go.Extern.Stop Go.Stop Go.Extern

theorem trailP_len (x : List UInt8) : (trailP x).length ≤ x.length + 1 := by
  have key : ∀ (y : List UInt8) (s : Rd), (y.foldl Rd.step s).out.length ≤ s.out.length + y.length := by
    intro y
    induction y with
    | nil => intro s; simp
    | cons c r ih =>
      intro s
      have h1 := ih (s.step c)
      have h2 := step_len s c
      simp only [List.foldl_cons, List.length_cons]
      omega
  have := key (x ++ [62]) Rd.init
  simpa [trailP, Rd.init] using this

def HasRel (xs : List Int) (code : Int) (v : Value) : Prop := ∃ i, i ≤ xs.length ∧ v = .int .i64 (i : Nat) ∧ ∀ j, j < i → xs[j]? ≠ some code

set_option maxRecDepth 100000 in
set_option maxHeartbeats 1000000 in
theorem refHas_any (x : List UInt8) (code : Int) (w : World) (hx : x.length ≤ 1000000) :
    Calls Tryd.prog 32 #[strV x, .int .i64 code] w fun e w' => e = .returned (.bool (decide (code ∈ trailP x))) ∧ Below w.heap.size w w' := by
  have H : Hid (Calls Tryd.prog 39 #[strV x] w fun e w' => ∃ v, e = .returned v ∧ w'.ownsRow w.heap.size 3 1 v (trailP x).length ((trailP x).map (.int .i64)) ∧ Below w.heap.size w w') := Lib.hid (refTrail_any x w hx)
  have hlen := trailP_len x
  have hyes : code ∈ trailP x → decide (code ∈ trailP x) = true := fun h => decide_eq_true h
  have hno : code ∉ trailP x → decide (code ∈ trailP x) = false := fun h => decide_eq_false h
  have Hyes := Lib.hid hyes
  have Hno := Lib.hid hno
  clear hyes hno
  generalize hd : decide (code ∈ trailP x) = d at *
  clear hd
  generalize trailP x = xs at *
  have hxl : xs.length ≤ 1000001 := by omega
  clear hlen hx
  unfold strV at *
  go_enter Tryd.func32, Tryd.ntmps32
  go_wp2_with fail
  refine H.out.mono ?_
  rintro e w1 ⟨v, rfl, ho, hb⟩
  have Hb := Lib.hid hb
  have Hv : Hid (xs.length = 0 ∧ (v = .slice none 0 0 ∨ ∃ g cap, v = .slice (some ⟨g, 0, none⟩) 0 cap) ∨ ∃ g cap, v = .slice (some ⟨g, 0, none⟩) xs.length cap ∧ ∀ j (hj : j < xs.length), w1.cell? ⟨g, j, none⟩ = some (.int .i64 xs[j])) := Lib.hid (by
    rcases Nat.eq_zero_or_pos xs.length with h0 | hpos
    · rw [h0] at ho
      refine .inl ⟨h0, ?_⟩
      rcases ho.2 with ⟨h, -⟩ | ⟨g, cap, cur, h, -⟩
      · exact .inl h
      · exact .inr ⟨g, cap, h⟩
    · obtain ⟨g, cap, h, hat⟩ := own_at ho hpos
      exact .inr ⟨g, cap, h, fun j hj => by rw [hat j hj, List.getElem?_map, List.getElem?_eq_getElem hj]; rfl⟩)
  have hst : Hid (HasRel xs code (.int .i64 0)) := Lib.hid ⟨0, Nat.zero_le _, rfl, fun j hj => absurd hj (by omega)⟩
  clear ho hb
  rcases Hv.out with ⟨h0, rfl | ⟨g, cap, rfl⟩⟩ | ⟨g, cap, rfl, hat⟩
  · have hn := Hno.out (by rw [List.length_eq_zero_iff.1 h0]; simp)
    subst hn
    clear Hv hst h0
    go_wp2_with fail
    refine wp_loop_rounds 1 ?_
    rw [rounds_succ]
    go_wp2_with fail
    go_ret
    exact ⟨rfl, Hb.out⟩
  · have hn := Hno.out (by rw [List.length_eq_zero_iff.1 h0]; simp)
    subst hn
    clear Hv hst h0
    go_wp2_with fail
    refine wp_loop_rounds 1 ?_
    rw [rounds_succ]
    go_wp2_with fail
    go_ret
    exact ⟨rfl, Hb.out⟩
  · have Hat := Lib.hid hat
    clear hat Hv
    go_wp2_with fail
    go_loop [6] (HasRel xs code) (fun v => xs.length - (intOf v).toNat)
    case atStart => exact hst.out
    case round =>
      clear hst
      obtain ⟨i, hi, rfl, hbefore⟩ := hrel
      rcases Nat.lt_or_ge i xs.length with hlt | hge
      · have k0 := Hat.out i hlt
        by_cases hc : xs[i] = code
        · have hq : (xs[i] == code) = true := by simp [hc]
          have hy := Hyes.out (by rw [← hc]; exact List.getElem_mem _)
          subst hy
          have Hc := Lib.hid hc
          clear hc hbefore
          generalize xs[i] = y at *
          go_wp2_with fail
          go_ret
          exact ⟨rfl, Hb.out⟩
        · have hq : (xs[i] == code) = false := by simp [hc]
          have hr : Hid (HasRel xs code (.int .i64 (↑i + 1))) := Lib.hid ⟨i + 1, by omega, by simp, fun j hj => by
            rcases Nat.lt_or_ge j i with h | h
            · exact hbefore j h
            · obtain rfl : j = i := by omega
              rw [List.getElem?_eq_getElem hlt]
              intro e
              exact hc (Option.some.inj e)⟩
          clear hc hbefore
          generalize xs[i] = y at *
          go_wp2_with fail
          go_round
          case rel => exact hr.out
          case measure => simp [intOf]; omega
      · obtain rfl : i = xs.length := by omega
        have hn := Hno.out (fun hm => by
          obtain ⟨j, hj, e⟩ := List.getElem_of_mem hm
          exact hbefore j hj (by rw [List.getElem?_eq_getElem hj, e]))
        subst hn
        clear hbefore
        go_wp2_with fail
        go_ret
        exact ⟨rfl, Hb.out⟩
end Go.Proofs.YtabndibenffngaaDoor
