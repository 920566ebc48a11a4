/- Contract of fault.ends at an error in memory: it tells true, and nothing that was there turns. -/
import Derived.Test.YtabndibenffngaaDoorErrB
import Derived.Test.YtabndibenffngaaDoorErrM
namespace Go.Proofs.YtabndibenffngaaDoor
open Go.RowKit Go.Extern.Stop Go.Stop Go.Extern

theorem eqTypes (n v : Value) (w : World) : (binOp .eql 25 (.iface 30 n) (.iface 80 v)).run Tryd.prog w = .ok (.bool false) w :=
  run_eql_iface_types _ _ _ _ Tryd.underlying25 (by decide) w

theorem infoF : (Tryd.prog.info? 80).map (·.comparable) = some true := by kernel_rfl
theorem infoS : (Tryd.prog.info? 82).map (·.size) = some 3 := by kernel_rfl

theorem eqOther {a b : Nat} {ca cb : Array Value} {ta tb : TypeId} (w : World) (hne : a ≠ b) (ha : w.heap[a]? = some (.cells ca ta (0, 0))) (hb : w.heap[b]? = some (.cells cb tb (0, 0))) :
    (binOp .eql 25 (flt a) (flt b)).run Tryd.prog w = .ok (.bool false) w := by
  obtain ⟨i, hi, hcmp⟩ := Option.map_eq_some_iff.1 infoF
  obtain ⟨j, hj, hjs⟩ := Option.map_eq_some_iff.1 infoS
  exact run_eql_iface_ptr_other w Tryd.underlying25 Tryd.underlying80 hi hcmp hj (by omega) (by simp) ha hb

def EndsRel (l : List (Nat × Int × Int)) (t : Option Int) (p : Nat) (w : World) (s k : Value) (wr : World) : Prop :=
  ∃ n : Nat, n ≤ l.length + 1 ∧ k = .int .i64 (n + 1) ∧ s = errAt l t (n / 2) ∧ wr.heap[p]? = some (.cells #[errAt l t n] 25 (0, 0)) ∧ w.grownBy wr (some p)

set_option maxHeartbeats 1000000 in
theorem ends1 (p B : Nat) (l : List (Nat × Int × Int)) (t : Option Int) (w : World) (hl : l.length ≤ 1000000) (hpw : p < w.heap.size) (hB : B ≤ p) (hin : ErrIn w t B l) (hp : w.heap[p]? = some (.cells #[errV l t] 25 (0, 0))) :
    Calls Tryd.prog 47 #[.pointer (some ⟨p, 0, none⟩)] w (Asked w (some p) fun r _ => r = true) := by
  have hend : ∀ wr, w.grownBy wr (some p) → Asked w (some p) (fun r _ => r = true) (.returned (.bool true)) wr := fun wr h => ⟨true, rfl, h, rfl⟩
  obtain ⟨hc, hf⟩ := cell0 hp
  have h1 := noUnwrapsF
  have h2 := noUnwrapsE
  have h3 := eqTypes
  go_enter Tryd.func47, Tryd.ntmps47
  go_wp2
  clear hc hf
  go_loopw [2, 3] (EndsRel l t p w) (fun _ k _ => l.length + 3 - (intOf k).toNat)
  case atStart => exact ⟨0, by omega, rfl, by rw [errAt_zero], by rw [errAt_zero]; exact hp, grown_refl _ _⟩
  case round =>
    obtain ⟨n, hn, rfl, rfl, hpr, hg⟩ := hrel
    obtain ⟨hc, hf⟩ := cell0 hpr
    rcases Nat.lt_or_ge n l.length with hlt | hge
    · obtain ⟨hb1, hb2⟩ := ErrIn.node (n := n) hin hlt
      obtain ⟨hs1, hs2⟩ := ErrIn.node (n := n / 2) hin (by omega)
      have hbw : wr.heap[(nd l n).1]? = _ := (hg.block _ (by omega) (by simp; omega)).trans hb2
      have hbc := (cells3 hbw).2.2
      have hs3 : ∀ v, (wr.setCell ⟨p, 0, none⟩ v).heap[(nd l (n / 2)).1]? = _ := fun v => (far (by omega)).trans ((hg.block _ (by omega) (by simp; omega)).trans hs2)
      have hs4 := fun v => (cells3 (hs3 v)).2.2
      have hrel : ∀ v, errAt l t (n + 1) = v → EndsRel l t p w (errAt l t ((n + 1) / 2)) (.int .i64 (↑n + 1 + 1)) (wr.setCell ⟨p, 0, none⟩ v) := fun v hv =>
        ⟨n + 1, by omega, by go_num, rfl, by rw [hv]; exact set0 hpr, grown_set hg⟩
      rw [errAt_F hlt] at hpr hc
      rw [errAt_F (show n / 2 < l.length by omega)]
      have hq : (n + 1) / 2 < l.length := by omega
      have hcmp : ∀ b, (nd l (n + 1)).1 = b → n + 1 < l.length → ∀ v, (binOp .eql 25 (flt b) (flt (nd l ((n + 1) / 2)).1)).run Tryd.prog (wr.setCell ⟨p, 0, none⟩ v) = .ok (.bool false) (wr.setCell ⟨p, 0, none⟩ v) := by
        rintro b rfl hlt2 v
        obtain ⟨g1, g2⟩ := ErrIn.node (n := n + 1) hin hlt2
        obtain ⟨g3, g4⟩ := ErrIn.node (n := (n + 1) / 2) hin hq
        have := ErrIn.desc (i := (n + 1) / 2) (j := n + 1) hin (by omega) hlt2
        exact eqOther _ (by omega) ((far (by omega)).trans ((hg.block _ (by omega) (by simp; omega)).trans g2)) ((far (by omega)).trans ((hg.block _ (by omega) (by simp; omega)).trans g4))
      rw [errAt_F hq] at hrel
      have hsec : n % 2 = 1 → errAt l t (n / 2 + 1) = flt (nd l ((n + 1) / 2)).1 := fun h => by rw [← errAt_F (t := t) hq]; rw [show n / 2 + 1 = (n + 1) / 2 from by omega]
      have hnext : (n + 1 < l.length ∧ errAt l t (n + 1) = flt (nd l (n + 1)).1) ∨ errAt l t (n + 1) = .nilIface ∨ ∃ m, errAt l t (n + 1) = .iface 30 (.int .i64 m) := by
        rcases Nat.lt_or_ge (n + 1) l.length with h | h
        · exact .inl ⟨h, errAt_F h⟩
        · have e : n + 1 = l.length := by omega
          rw [e, errAt_end]
          cases t with
          | none => exact .inr (.inl rfl)
          | some m => exact .inr (.inr ⟨m, rfl⟩)
      have hsame : n % 2 = 0 → (nd l ((n + 1) / 2)).1 = (nd l (n / 2)).1 := fun h => by rw [show (n + 1) / 2 = n / 2 from by omega]
      generalize (nd l n).1 = b at *
      generalize (nd l (n / 2)).1 = s1 at *
      generalize (nd l ((n + 1) / 2)).1 = s2 at *
      generalize errAt l t (n + 1) = nx at *
      generalize (nd l (n + 1)).1 = b' at *
      clear hb1 hb2 hs1 hs2 hbw hs3 hpr
      rcases Nat.mod_two_eq_zero_or_one n with he | ho
      · have hpar : (((n : Int) + 1) % 2 == 0) = false := by rw [beq_eq_false_iff_ne]; omega
        obtain rfl := hsame he
        clear hsec hsame hs4
        rcases hnext with ⟨hlt2, rfl⟩ | rfl | ⟨m, rfl⟩
        · have hcmp' := hcmp b' rfl hlt2 (flt b')
          have Hr := Lib.hid (hrel _ rfl)
          clear hcmp hrel
          unfold flt at *
          go_wp2_with fail
          refine (unwrapF _ _ _ hbc).mono ?_
          rintro e w' ⟨rfl, rfl⟩
          go_wp2_with fail
          go_roundw
          case rel => exact Hr.out
          case measure => simp [intOf]; omega
        · have Hr := Lib.hid (hrel _ rfl)
          clear hcmp hrel
          unfold flt at *
          go_wp2_with fail
          refine (unwrapF _ _ _ hbc).mono ?_
          rintro e w' ⟨rfl, rfl⟩
          go_wp2_with fail
          go_roundw
          case rel => exact Hr.out
          case measure => simp [intOf]; omega
        · have Hr := Lib.hid (hrel _ rfl)
          clear hcmp hrel
          unfold flt at *
          go_wp2_with fail
          refine (unwrapF _ _ _ hbc).mono ?_
          rintro e w' ⟨rfl, rfl⟩
          go_wp2_with fail
          go_roundw
          case rel => exact Hr.out
          case measure => simp [intOf]; omega
      · have hpar : (((n : Int) + 1) % 2 == 0) = true := by rw [beq_iff_eq]; omega
        rw [hsec ho] at hs4
        clear hsec hsame
        rcases hnext with ⟨hlt2, rfl⟩ | rfl | ⟨m, rfl⟩
        · have hcmp' := hcmp b' rfl hlt2 (flt b')
          have Hr := Lib.hid (hrel _ rfl)
          clear hcmp hrel
          unfold flt at *
          go_wp2_with fail
          refine (unwrapF _ _ _ hbc).mono ?_
          rintro e w' ⟨rfl, rfl⟩
          go_wp2_with fail
          refine (unwrapF _ _ _ (hs4 _)).mono ?_
          rintro e w' ⟨rfl, rfl⟩
          go_wp2_with fail
          go_roundw
          case rel => exact Hr.out
          case measure => simp [intOf]; omega
        · have Hr := Lib.hid (hrel _ rfl)
          clear hcmp hrel
          unfold flt at *
          go_wp2_with fail
          refine (unwrapF _ _ _ hbc).mono ?_
          rintro e w' ⟨rfl, rfl⟩
          go_wp2_with fail
          refine (unwrapF _ _ _ (hs4 _)).mono ?_
          rintro e w' ⟨rfl, rfl⟩
          go_wp2_with fail
          go_roundw
          case rel => exact Hr.out
          case measure => simp [intOf]; omega
        · have Hr := Lib.hid (hrel _ rfl)
          clear hcmp hrel
          unfold flt at *
          go_wp2_with fail
          refine (unwrapF _ _ _ hbc).mono ?_
          rintro e w' ⟨rfl, rfl⟩
          go_wp2_with fail
          refine (unwrapF _ _ _ (hs4 _)).mono ?_
          rintro e w' ⟨rfl, rfl⟩
          go_wp2_with fail
          go_roundw
          case rel => exact Hr.out
          case measure => simp [intOf]; omega
    · rcases Nat.lt_or_ge l.length n with hgt | hle
      · rw [errAt_past hgt] at hpr hc
        go_wp2
        go_ret
        exact hend _ hg
      · obtain rfl : l.length = n := by omega
        rw [errAt_end] at hpr hc
        cases t with
        | none =>
          simp only [errV] at hpr hc
          go_wp2
          go_ret
          exact hend _ hg
        | some m =>
          simp only [errV] at hpr hc
          rcases Nat.mod_two_eq_zero_or_one l.length with he | ho
          · have hpar : (((l.length : Int) + 1) % 2 == 0) = false := by rw [beq_eq_false_iff_ne]; omega
            go_wp2_with fail
            refine (unwrapE _ _).mono ?_
            rintro e w' ⟨rfl, rfl⟩
            go_wp2
            go_roundw
            case rel => exact ⟨l.length + 1, by omega, by go_num, by rw [show (l.length + 1) / 2 = l.length / 2 from by omega], by rw [errAt_past (by omega)]; exact set0 hpr, grown_set hg⟩
            case measure => simp [intOf]; omega
          · have hpar : (((l.length : Int) + 1) % 2 == 0) = true := by rw [beq_iff_eq]; omega
            obtain ⟨hb1, hb2⟩ := ErrIn.node (n := l.length / 2) hin (by omega)
            have hb3 : (wr.setCell ⟨p, 0, none⟩ .nilIface).heap[(nd l (l.length / 2)).1]? = _ := (far (by omega)).trans ((hg.block _ (by omega) (by simp; omega)).trans hb2)
            have hb4 := (cells3 hb3).2.2
            have hrel : EndsRel l (some m) p w (errAt l (some m) (l.length / 2 + 1)) (.int .i64 (↑l.length + 1 + 1)) (wr.setCell ⟨p, 0, none⟩ .nilIface) :=
              ⟨l.length + 1, by omega, by go_num, by rw [show (l.length + 1) / 2 = l.length / 2 + 1 from by omega], by rw [errAt_past (by omega)]; exact set0 hpr, grown_set hg⟩
            rw [errAt_F (show l.length / 2 < l.length by omega)]
            unfold flt
            generalize errAt l (some m) (l.length / 2 + 1) = nx at *
            generalize (nd l (l.length / 2)).1 = s1 at *
            have Hr := Lib.hid hrel
            clear hrel hb3 hb2
            go_wp2_with fail
            refine (unwrapE _ _).mono ?_
            rintro e w' ⟨rfl, rfl⟩
            go_wp2_with fail
            refine (unwrapF _ _ _ hb4).mono ?_
            rintro e w' ⟨rfl, rfl⟩
            go_wp2
            go_roundw
            case rel => exact Hr.out
            case measure => simp [intOf]; omega
end Go.Proofs.YtabndibenffngaaDoor
