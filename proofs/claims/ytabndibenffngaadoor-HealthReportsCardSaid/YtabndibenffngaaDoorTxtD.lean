/- Contracts of the document's Trail and Has: they read off a text what trailP reads. Conditions: a text of at most 1000000 bytes. -/
import Derived.Test.YtabndibenffngaaDoorTxtC
namespace Go.Proofs.YtabndibenffngaaDoor
open Go.RowKit Go.Extern.Stop Go.Stop Go.Extern

def stAt (x : List UInt8) (i : Nat) : Rd := ((x ++ [62]).take i).foldl Rd.step Rd.init

theorem stAt_succ (x : List UInt8) (i : Nat) (c : UInt8) (h : (x ++ [62])[i]? = some c) : stAt x (i + 1) = (stAt x i).step c := by
  unfold stAt
  obtain ⟨h1, h2⟩ := List.getElem?_eq_some_iff.1 h
  rw [List.take_succ_eq_append_getElem h1, h2, List.foldl_append]
  rfl

theorem step_len (s : Rd) (c : UInt8) : (s.step c).out.length ≤ s.out.length + 1 := by
  unfold Rd.step
  repeat' split
  all_goals simp

theorem u8_ne (c k : UInt8) (h : c ≠ k) : ((c.toNat : Int) == (k.toNat : Int)) = false := by
  rw [beq_eq_false_iff_ne]
  intro e
  exact h (UInt8.toNat_inj.1 (by omega))

def TrRel (x : List UInt8) (w : World) (v3 v4 v5 v6 v7 : Value) (wr : World) : Prop :=
  ∃ i, i ≤ x.length + 1 ∧ v7 = .int .i64 (i : Nat) ∧ v4 = .int .i64 (stAt x i).n ∧ v5 = .bool (stAt x i).d ∧ v6 = .bool (stAt x i).p ∧
    wr.ownsRow w.heap.size 3 1 v3 (stAt x i).out.length ((stAt x i).out.map (.int .i64)) ∧ (stAt x i).out.length ≤ i ∧ Below w.heap.size w wr

def TrPost (x : List UInt8) (w : World) (e : Ending) (w' : World) : Prop :=
  ∃ v, e = .returned v ∧ w'.ownsRow w.heap.size 3 1 v (trailP x).length ((trailP x).map (.int .i64)) ∧ Below w.heap.size w w'

theorem infoI : (Tryd.prog.info? 3).map (fun i => (i.zero, i.size, i.bytes)) = some (some (.int .i64 0), 1, 8) := by kernel_rfl

theorem tr_step {x : List UInt8} {w wr : World} {i : Nat} {c : UInt8} {s' : Rd} {v3 : Value} (hc : (x ++ [62])[i]? = some c) (hs : (stAt x i).step c = s')
    (ho : wr.ownsRow w.heap.size 3 1 v3 s'.out.length (s'.out.map (.int .i64))) (hl : (stAt x i).out.length ≤ i) (hb : Below w.heap.size w wr) :
    TrRel x w v3 (.int .i64 s'.n) (.bool s'.d) (.bool s'.p) (.int .i64 (↑i + 1)) wr := by
  have e : stAt x (i + 1) = s' := (stAt_succ x i c hc).trans hs
  have h1 := (List.getElem?_eq_some_iff.1 hc).1
  have h2 := step_len (stAt x i) c
  rw [hs] at h2
  refine ⟨i + 1, by simp at h1; omega, by simp, by rw [e], by rw [e], by rw [e], by rw [e]; exact ho, by rw [e]; omega, hb⟩

set_option maxRecDepth 100000 in
set_option maxHeartbeats 4000000 in
theorem refTrail_any (x : List UInt8) (w : World) (hx : x.length ≤ 1000000) :
    Calls Tryd.prog 39 #[strV x] w (TrPost x w) := by
  have hst : Hid (TrRel x w (.slice none 0 0) (.int .i64 0) (.bool false) (.bool false) (.int .i64 0) w) := Lib.hid ⟨0, by omega, rfl, rfl, rfl, rfl, ⟨rfl, .inl ⟨rfl, rfl⟩⟩, Nat.le_refl _, Below.refl _ _⟩
  have Hx := Lib.hid hx
  unfold strV
  go_enter Tryd.func39, Tryd.ntmps39
  go_wp2_with fail
  go_loopw [3, 4, 5, 6, 7] (TrRel x w) (fun _ _ _ _ v _ => x.length + 2 - (intOf v).toNat)
  case atStart => exact hst.out
  case round =>
    clear hst
    obtain ⟨i, hi, rfl, rfl, rfl, rfl, ho, hol, hb⟩ := hrel
    have hbs := hb.size
    rcases Nat.lt_or_ge i x.length with hlt | hge
    · have hlt' : i < (ByteArray.mk x.toArray).size := by simpa [ByteArray.size] using hlt
      obtain ⟨c, hcx⟩ : ∃ c, x[i] = c := ⟨_, rfl⟩
      have hxi : (ByteArray.mk x.toArray)[i]'hlt' = c := hcx
      have hc : (x ++ [62])[i]? = some c := by rw [List.getElem?_append_left hlt, List.getElem?_eq_getElem hlt, hcx]
      have hstep : Hid (∀ s' v3 wr', (stAt x i).step c = s' → wr'.ownsRow w.heap.size 3 1 v3 s'.out.length (s'.out.map (.int .i64)) → Below w.heap.size w wr' → TrRel x w v3 (.int .i64 s'.n) (.bool s'.d) (.bool s'.p) (.int .i64 (↑i + 1)) wr') :=
        Lib.hid fun s' v3 wr' h1 h2 h3 => tr_step hc h1 h2 hol h3
      clear hc hcx
      rcases hS : stAt x i with ⟨o, n, d, p⟩
      rw [hS] at ho hol
      rw [hS] at hstep
      simp only at ho hol ⊢
      have Ho := Lib.hid ho
      have Hb := Lib.hid hb
      have Hbs := Lib.hid hbs
      have Hq1 := Lib.hid (show o.length + 1 ≤ maxLen by unfold maxLen; have := Hx.out; omega)
      have Hq2 := Lib.hid (show (o.length + 1) * 8 ≤ 140737488355328 by have := Hx.out; omega)
      have hil : i ≤ x.length := by omega
      clear hS ho hb hbs hol hi
      by_cases c62 : c = 62
      · have q1 : ((c.toNat : Int) == 62) = true := by rw [c62]; rfl
        cases d
        · have hR := Lib.hid (hstep.out ⟨o, 0, false, false⟩ u3 wr (by rw [c62, step62]; rfl) Ho.out Hb.out)
          clear c62 hstep
          go_wp2_with fail
          go_roundw
          case rel => exact hR.out
          case measure => simp [intOf]; omega
        · have hR : Hid (∀ v5 w7, w7.ownsRow w.heap.size 3 1 v5 (o.length + 1) (o.map (.int .i64) ++ [.int .i64 n]) → Below w.heap.size wr w7 → TrRel x w v5 (.int .i64 0) (.bool false) (.bool false) (.int .i64 (↑i + 1)) w7) := Lib.hid fun v5 w7 h1 h2 =>
            hstep.out ⟨o ++ [n], 0, false, false⟩ v5 w7 (by rw [c62, step62]; rfl) (by simpa using h1) (Hb.out.trans h2)
          clear c62 hstep
          go_wp2_with (at_builtin
                       refine wpList_append1 rfl (.tmp 26) (.tmp 28) 66 rfl w.heap.size 3 (.int .i64 0) 8 Tryd.underlying66 infoI rfl _ o.length _ rfl Ho.out 1 _ rfl rfl Hq1.out Hq2.out Hbs.out ?_
                       intro v5 w7 ho5 hb5 _
                       have HR := Lib.hid (hR.out v5 w7 ho5 hb5)
                       clear ho5 hb5)
          go_roundw
          case rel => exact HR.out
          case measure => simp [intOf]; omega
      · have q1 : ((c.toNat : Int) == 62) = false := u8_ne c 62 c62
        by_cases c64 : c = 64
        · have q2 : ((c.toNat : Int) == 64) = true := by rw [c64]; rfl
          have hR := Lib.hid (hstep.out ⟨o, n, d, true⟩ u3 wr (by unfold Rd.step; rw [if_neg c62, if_pos c64]) Ho.out Hb.out)
          clear c62 c64 hstep
          go_wp2_with fail
          go_roundw
          case rel => exact hR.out
          case measure => simp [intOf]; omega
        · have q2 : ((c.toNat : Int) == 64) = false := u8_ne c 64 c64
          cases p
          · by_cases hd : 48 ≤ c.toNat ∧ c.toNat ≤ 57
            · have hR := Lib.hid (hstep.out ⟨o, wrap64 (wrap64 (10 * n) + ((c.toNat : Int) - 48)), true, false⟩ u3 wr (by unfold Rd.step; rw [if_neg c62, if_neg c64, if_pos (by simp [hd.1, hd.2])]) Ho.out Hb.out)
              have q3 : (48 : Int) ≤ (c.toNat : Int) := by omega
              have q4 : (c.toNat : Int) ≤ 57 := by omega
              have q5 : 48 ≤ c.toNat := hd.1
              have q6 : c.toNat ≤ 57 := hd.2
              clear c62 c64 hstep hd
              go_wp2_with fail
              go_roundw
              case rel => exact hR.out
              case measure => simp [intOf]; omega
            · have hR := Lib.hid (hstep.out ⟨o, n, d, false⟩ u3 wr (by
                unfold Rd.step
                rw [if_neg c62, if_neg c64, if_neg (by simp; intro h; omega)]) Ho.out Hb.out)
              clear c62 c64 hstep
              by_cases h48 : 48 ≤ c.toNat
              · have q3 : ¬ (c.toNat : Int) ≤ 57 := by omega
                have q4 : (48 : Int) ≤ (c.toNat : Int) := by omega
                have q6 : ¬ c.toNat ≤ 57 := by omega
                clear hd
                go_wp2_with fail
                go_roundw
                case rel => exact hR.out
                case measure => simp [intOf]; omega
              · have q3 : ¬ (48 : Int) ≤ (c.toNat : Int) := by omega
                clear hd
                go_wp2_with fail
                go_roundw
                case rel => exact hR.out
                case measure => simp [intOf]; omega
          · have hR := Lib.hid (hstep.out ⟨o, n, d, true⟩ u3 wr (by unfold Rd.step; rw [if_neg c62, if_neg c64, if_neg (by simp)]) Ho.out Hb.out)
            clear c62 c64 hstep
            go_wp2_with fail
            go_roundw
            case rel => exact hR.out
            case measure => simp [intOf]; omega
    · rcases Nat.lt_or_ge x.length i with hgt | hle
      · obtain rfl : i = x.length + 1 := by omega
        have hfin : Hid (TrPost x w (.returned u3) wr) := Lib.hid (by
          have e : stAt x (x.length + 1) = (x ++ [62]).foldl Rd.step Rd.init := by
            unfold stAt
            rw [List.take_of_length_le (by simp)]
          rw [e] at ho
          exact ⟨_, rfl, ho, hb⟩)
        clear ho hb hol
        generalize (stAt x (x.length + 1)).n = n at *
        generalize (stAt x (x.length + 1)).d = d at *
        generalize (stAt x (x.length + 1)).p = p at *
        go_wp2_with fail
        go_ret
        exact hfin.out
      · obtain rfl : x.length = i := by omega
        have hc : (x ++ [62])[x.length]? = some 62 := by simp
        have hstep : Hid (∀ s' v3 wr', (stAt x x.length).step 62 = s' → wr'.ownsRow w.heap.size 3 1 v3 s'.out.length (s'.out.map (.int .i64)) → Below w.heap.size w wr' → TrRel x w v3 (.int .i64 s'.n) (.bool s'.d) (.bool s'.p) (.int .i64 (↑x.length + 1)) wr') :=
          Lib.hid fun s' v3 wr' h1 h2 h3 => tr_step hc h1 h2 hol h3
        clear hc
        rcases hS : stAt x x.length with ⟨o, n, d, p⟩
        rw [hS] at ho hol
        rw [hS] at hstep
        simp only at ho hol ⊢
        have Ho := Lib.hid ho
        have Hb := Lib.hid hb
        have Hbs := Lib.hid hbs
        have Hq1 := Lib.hid (show o.length + 1 ≤ maxLen by unfold maxLen; have := Hx.out; omega)
        have Hq2 := Lib.hid (show (o.length + 1) * 8 ≤ 140737488355328 by have := Hx.out; omega)
        clear hS ho hb hbs hol hi hge hle
        cases d
        · have hR := Lib.hid (hstep.out ⟨o, 0, false, false⟩ u3 wr (by rw [step62]; rfl) Ho.out Hb.out)
          clear hstep
          go_wp2_with fail
          go_roundw
          case rel => exact hR.out
          case measure => simp [intOf]
        · have hR : Hid (∀ v5 w7, w7.ownsRow w.heap.size 3 1 v5 (o.length + 1) (o.map (.int .i64) ++ [.int .i64 n]) → Below w.heap.size wr w7 → TrRel x w v5 (.int .i64 0) (.bool false) (.bool false) (.int .i64 (↑x.length + 1)) w7) := Lib.hid fun v5 w7 h1 h2 =>
            hstep.out ⟨o ++ [n], 0, false, false⟩ v5 w7 (by rw [step62]; rfl) (by simpa using h1) (Hb.out.trans h2)
          clear hstep
          go_wp2_with (at_builtin
                       refine wpList_append1 rfl (.tmp 26) (.tmp 28) 66 rfl w.heap.size 3 (.int .i64 0) 8 Tryd.underlying66 infoI rfl _ o.length _ rfl Ho.out 1 _ rfl rfl Hq1.out Hq2.out Hbs.out ?_
                       intro v5 w7 ho5 hb5 _
                       have HR := Lib.hid (hR.out v5 w7 ho5 hb5)
                       clear ho5 hb5)
          go_roundw
          case rel => exact HR.out
          case measure => simp [intOf]
end Go.Proofs.YtabndibenffngaaDoor
