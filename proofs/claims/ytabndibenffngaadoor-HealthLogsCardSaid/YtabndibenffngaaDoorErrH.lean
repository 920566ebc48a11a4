/- Contracts of errors.is and errors.Is at an error in memory, for an Errno: whether the number is among the error's. Conditions: where the faults lie in memory. -/
import Derived.Test.YtabndibenffngaaDoorErrG
namespace Go.Proofs.YtabndibenffngaaDoor
open Go.RowKit Go.Extern.Stop Go.Stop Go.Extern

theorem equalIn_ints {P : Program} (w : World) (d : Nat) {ti tn : TypeId} {ms : Array (String × TypeId)} {i : TypeInfo} {k : IntKind} (a b : Int)
    (hi : P.underlying ti = some (.interface ms)) (hn : P.underlying tn = some (.int k)) (hinfo : P.info? tn = some i) (hcomp : i.comparable = true) :
    (Op.equalIn (d + 2) ti (.iface tn (.int k a)) (.iface tn (.int k b))).run P w = .ok (a == b) w := by
  simp [Op.equalIn, run_underlying hi, run_underlying hn, typeInfo, hinfo, hcomp]

theorem eql_ints {P : Program} (w : World) {ti tn : TypeId} {ms : Array (String × TypeId)} {i : TypeInfo} {k : IntKind} (a b : Int)
    (hi : P.underlying ti = some (.interface ms)) (hn : P.underlying tn = some (.int k)) (hinfo : P.info? tn = some i) (hcomp : i.comparable = true) :
    (binOp .eql ti (.iface tn (.int k a)) (.iface tn (.int k b))).run P w = .ok (.bool (a == b)) w := by
  simp only [binOp]
  simp [Op.equal, Op.maxDepth, equalIn_ints w 9998 a b hi hn hinfo hcomp]

theorem infoE : (Tryd.prog.info? 30).map (·.comparable) = some true := by kernel_rfl
theorem eqErrnos (a b : Int) (w : World) : (binOp .eql 25 (.iface 30 (.int .i64 a)) (.iface 30 (.int .i64 b))).run Tryd.prog w = .ok (.bool (a == b)) w := by
  obtain ⟨i, hi, hcmp⟩ := Option.map_eq_some_iff.1 infoE
  exact eql_ints w a b Tryd.underlying25 Tryd.underlying30 hi hcmp
theorem eqTypes2 (n v : Value) (w : World) : (binOp .eql 25 (.iface 80 v) (.iface 30 n)).run Tryd.prog w = .ok (.bool false) w :=
  run_eql_iface_types _ _ _ _ Tryd.underlying25 (by decide) w
theorem methodIsF (v : Value) (w : World) : (Go.method 279 80 v "Is").run Tryd.prog w = .ok (84, v) w := by kernel_rfl
theorem comparable_E (w : World) : (callFunc 91 #[.agg #[.pointer (some ⟨1, 30, none⟩)]]).run Tryd.prog w = .ok (.value (.bool true)) w := by kernel_rfl

def codes (l : List (Nat × Int × Int)) (t : Option Int) : List Int := l.map (·.2.1) ++ t.toList

def blkOf : Value → Nat
  | .iface _ (.pointer (some a)) => a.block + 1
  | _ => 0

theorem nd_code {l : List (Nat × Int × Int)} {n : Nat} (h : n < l.length) : (nd l n).2.1 ∈ l.map (·.2.1) := by
  unfold nd
  rw [List.getD_eq_getElem?_getD, List.getElem?_eq_getElem h]
  exact List.mem_map.2 ⟨l[n], List.getElem_mem _, rfl⟩

theorem mem_nd {l : List (Nat × Int × Int)} {c : Int} (h : c ∈ l.map (·.2.1)) : ∃ i, i < l.length ∧ (nd l i).2.1 = c := by
  obtain ⟨x, hx, rfl⟩ := List.mem_map.1 h
  obtain ⟨i, hi, rfl⟩ := List.getElem_of_mem hx
  exact ⟨i, hi, by simp [nd, List.getD_eq_getElem?_getD, List.getElem?_eq_getElem hi]⟩

def IsRel (l : List (Nat × Int × Int)) (t : Option Int) (code : Int) (v : Value) : Prop :=
  ∃ n, n ≤ l.length ∧ v = errAt l t n ∧ v ≠ .nilIface ∧ ∀ i, i < n → (nd l i).2.1 ≠ code

def IsPost (l : List (Nat × Int × Int)) (t : Option Int) (code : Int) (w : World) (e : Ending) (w' : World) : Prop := e = .returned (.bool (decide (code ∈ codes l t))) ∧ w = w'

set_option maxHeartbeats 1000000 in
theorem is_any (B : Nat) (l : List (Nat × Int × Int)) (t : Option Int) (code : Int) (w : World) (hne : errV l t ≠ .nilIface) (hin : ErrIn w t B l) :
    Calls Tryd.prog 56 #[errV l t, .iface 30 (.int .i64 code), .bool true] w (IsPost l t code w) := by
  have n1 := noIsE
  have n2 := noUnwrapE
  have n3 := noUnwrapsE
  have n4 := hasIsF
  have n5 := hasUnwrapF
  have q1 := eqErrnos
  have q2 := eqTypes2
  have m1 := methodIsF
  have m2 := methodUnwrapF
  have hyes : code ∈ codes l t → IsPost l t code w (.returned (.bool true)) w := fun h => ⟨by rw [decide_eq_true h], rfl⟩
  have hno : code ∉ codes l t → IsPost l t code w (.returned (.bool false)) w := fun h => ⟨by rw [decide_eq_false h], rfl⟩
  have e0 := errAt_zero l t
  rw [← e0] at hne
  rw [← e0]
  have hne' := Lib.hid hne
  clear e0 hne
  generalize hv0 : errAt l t 0 = v0 at *
  have Hv0 := Lib.hid hv0
  clear hv0
  go_enter Tryd.func56, Tryd.ntmps56
  go_wp2_with fail
  go_loop [0] (IsRel l t code) blkOf
  case atStart => exact ⟨0, Nat.zero_le _, Hv0.out.symm, hne'.out, fun i hi => absurd hi (by omega)⟩
  case round =>
    clear Hv0 hne'
    obtain ⟨n, hn, rfl, hnn, hbefore⟩ := hrel
    rcases Nat.lt_or_ge n l.length with hlt | hge
    · obtain ⟨hb1, hb2⟩ := ErrIn.node (n := n) hin hlt
      obtain ⟨hc0, -, hc2⟩ := cells3 hb2
      have hcode := nd_code hlt
      have hnx : errAt l t (n + 1) ≠ .nilIface → (nd l n).2.1 ≠ code → IsRel l t code (errAt l t (n + 1)) := fun h hc => ⟨n + 1, by omega, rfl, h, fun i hi => by
        rcases Nat.lt_or_ge i n with h' | h'
        · exact hbefore i h'
        · obtain rfl : i = n := by omega
          exact hc⟩
      have hms : errAt l t (n + 1) ≠ .nilIface → blkOf (errAt l t (n + 1)) < (nd l n).1 + 1 := fun h => by
        rcases Nat.lt_or_ge (n + 1) l.length with h' | h'
        · rw [errAt_F h']
          have := ErrIn.desc (i := n) (j := n + 1) hin (by omega) h'
          simp only [flt, blkOf]; omega
        · obtain h'' : l.length = n + 1 := by omega
          rw [← h'', errAt_end]
          cases t <;> simp [errV, blkOf]
      have hlast : errAt l t (n + 1) = .nilIface → (nd l n).2.1 ≠ code → code ∉ codes l t := fun h hc hm => by
        have hl : n + 1 = l.length ∧ t = none := by
          rcases Nat.lt_or_ge (n + 1) l.length with h' | h'
          · rw [errAt_F h'] at h; simp [flt] at h
          · have h'' : l.length = n + 1 := by omega
            rw [← h'', errAt_end] at h
            cases t with
            | none => exact ⟨h''.symm, rfl⟩
            | some m => simp [errV] at h
        rw [hl.2] at hm
        obtain ⟨i, hi, hi2⟩ := mem_nd (l := l) (c := code) (by simpa [codes] using hm)
        rcases Nat.lt_or_ge i n with h' | h'
        · exact hbefore i h' hi2
        · obtain rfl : i = n := by omega
          exact hc hi2
      have hfirst : (nd l n).2.1 = code → code ∈ codes l t := fun h => by rw [← h]; exact List.mem_append_left _ hcode
      rw [errAt_F hlt]
      clear hcode hnn hbefore hb1 hb2
      have hv := errV_cases (l.drop (n + 1)) (if n + 1 ≤ l.length then t else none)
      change (errAt l t (n + 1) = _ ∨ (∃ m, errAt l t (n + 1) = _) ∨ ∃ b, errAt l t (n + 1) = _) at hv
      generalize errAt l t (n + 1) = nx at *
      generalize (nd l n).1 = b at *
      generalize (nd l n).2.1 = c at *
      unfold flt
      by_cases hcc : c = code
      · have hq : (c == code) = true := by simp [hcc]
        have Hy := Lib.hid (hyes (hfirst hcc))
        clear hyes hno hnx hms hlast hfirst hv hcc
        go_wp2_with fail
        refine (fIs _ _ _ _ hc0).mono ?_
        rintro e w' ⟨rfl, rfl⟩
        go_wp2_with fail
        go_ret
        exact Hy.out
      · have hq : (c == code) = false := by simp [hcc]
        rcases hv with rfl | ⟨m, rfl⟩ | ⟨b', rfl⟩
        · have Hn := Lib.hid (hno (hlast rfl hcc))
          clear hyes hno hnx hms hlast hfirst
          go_wp2_with fail
          refine (fIs _ _ _ _ hc0).mono ?_
          rintro e w' ⟨rfl, rfl⟩
          go_wp2_with fail
          refine (fUnwrap _ _ _ hc2).mono ?_
          rintro e w' ⟨rfl, rfl⟩
          go_wp2_with fail
          go_ret
          exact Hn.out
        all_goals
          have Hr := Lib.hid (hnx (by simp) hcc)
          have Hm := Lib.hid (hms (by simp))
          clear hyes hno hnx hms hlast hfirst
          go_wp2_with fail
          refine (fIs _ _ _ _ hc0).mono ?_
          rintro e w' ⟨rfl, rfl⟩
          go_wp2_with fail
          refine (fUnwrap _ _ _ hc2).mono ?_
          rintro e w' ⟨rfl, rfl⟩
          go_wp2_with fail
          go_round
          case rel => exact Hr.out
          case measure => exact Hm.out
    · have en : n = l.length := by omega
      rw [en] at hnn hbefore
      rw [en, errAt_end] at *
      cases t with
      | none => exact absurd rfl hnn
      | some m =>
        simp only [errV]
        have hiff : m ≠ code → code ∉ codes l (some m) := fun h hm => by
          rcases List.mem_append.1 hm with h' | h'
          · obtain ⟨i, hi, hi2⟩ := mem_nd h'
            exact hbefore i hi hi2
          · exact h (by simpa [eq_comm] using h')
        have hiff2 : m = code → code ∈ codes l (some m) := fun h => by rw [h]; exact List.mem_append_right _ (by simp)
        by_cases hmc : m = code
        · have hq : (m == code) = true := by simp [hmc]
          have Hy := Lib.hid (hyes (hiff2 hmc))
          clear hyes hno hiff hiff2 hmc en hnn
          go_wp2_with fail
          go_ret
          exact Hy.out
        · have hq : (m == code) = false := by simp [hmc]
          have Hn := Lib.hid (hno (hiff hmc))
          clear hyes hno hiff hiff2 hmc en hnn
          go_wp2_with fail
          go_ret
          exact Hn.out

theorem isTop (B : Nat) (l : List (Nat × Int × Int)) (t : Option Int) (code : Int) (w : World) (hin : ErrIn w t B l) :
    Calls Tryd.prog 46 #[errV l t, .iface 30 (.int .i64 code)] w (IsPost l t code w) := by
  by_cases hne : errV l t = .nilIface
  · have hl : l = [] ∧ t = none := by
      match l, t with
      | [], none => exact ⟨rfl, rfl⟩
      | [], some m => simp [errV] at hne
      | (_, _, _) :: _, _ => simp [errV] at hne
    obtain ⟨rfl, rfl⟩ := hl
    have hn := run_eql_iface_nil_left (P := Tryd.prog) w 30 (.int .i64 code) Tryd.underlying25
    have Hp : Hid (IsPost [] none code w (.returned (.bool false)) w) := Lib.hid ⟨by simp [codes], rfl⟩
    simp only [errV]
    go_enter Tryd.func46, Tryd.ntmps46
    go_wp2_with fail
    go_ret
    exact Hp.out
  · have H := Lib.hid (is_any B l t code w hne hin)
    have h6 := @run_callFunc_extern Tryd.prog 55 _ ReflectliteType.typeOf Tryd.func55 (by kernel_rfl) (by kernel_rfl) (by kernel_rfl) (by kernel_rfl)
    have tO := typeOf_E
    have mC := methodComparable
    have cE := comparable_E
    have hv := errV_cases l t
    clear hin
    generalize errV l t = v at *
    rcases hv with rfl | ⟨m, rfl⟩ | ⟨b, rfl⟩
    · exact absurd rfl hne
    all_goals
      clear hne
      go_enter Tryd.func46, Tryd.ntmps46
      go_wp2_with fail
      refine H.out.mono ?_
      rintro e w' ⟨rfl, rfl⟩
      go_wp2_with fail
      go_ret
      exact ⟨rfl, rfl⟩
end Go.Proofs.YtabndibenffngaaDoor
