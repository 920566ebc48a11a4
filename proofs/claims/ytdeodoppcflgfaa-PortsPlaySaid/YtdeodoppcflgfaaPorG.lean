/- Contract of Read; of Write, Read and the others at nil. Conditions: where the ports lie, tables that are allowed, numbers in their ranges. -/
import Derived.Test.YtdeodoppcflgfaaPorF
namespace Go.Proofs.Ytdeodoppcflgfaa
open Go.RowKit PorP
set_option maxRecDepth 100000

structure ReadQ (w : World) (B : Nat) (c : TableP.Cfg) (x : PC) (port : Int) (r : (List UInt8 × Bool × Option Nat) × St) (v ev : Value) (w' : World) : Prop where
  own : w'.ownsRow B 5 1 v r.1.1.length (bytesV r.1.1)
  err : ErrV w' r.1.2.2 port ev
  left : Left w B c x r.2 w'
  new : ∀ (k : Nat) p, port = (k : Int) → c.ports[k]? = some p → p.kind = 1 → (∀ q, v.ownBlock = some q → w.heap.size ≤ q) ∧ Below w.heap.size w w'
def ReadP (w : World) (B : Nat) (c : TableP.Cfg) (x : PC) (port : Int) (r : (List UInt8 × Bool × Option Nat) × St) (e : Ending) (w' : World) : Prop :=
  ∃ A cap ev, e = .returned (.tuple #[.slice A r.1.1.length cap, .bool r.1.2.1, ev]) ∧ ReadQ w B c x port r (.slice A r.1.1.length cap) ev w'

set_option maxHeartbeats 4000000 in
theorem pread_any (w : World) (B : Nat) (c : TableP.Cfg) (x : PC) (h : PIn w B c x) (hB : B ≤ w.heap.size) (ha : SndP.Allowed c) (part port : Int) (hport : port ≤ 9223372036854775807) :
    Calls Try.prog 21 #[pv x, .int .i64 part, .int .i64 port] w (ReadP w B c x port (readT c x.node (elSt x.es) part port)) := by
  have HF := Lib.hid (pfind_b w B c x h part port ha.ports)
  have HE := Lib.hid (fun k W (hk : 1 ≤ k ∧ k ≤ 199) => perr_any k hk port hport W)
  have HI := Lib.hid h
  have HEnd : Hid (∀ k b w1 w2, Below w.heap.size w w1 → Below w1.heap.size w1 w2 → ErrV w2 (some k) port (.iface 89 (.pointer (some ⟨b, 0, none⟩))) → readT c x.node (elSt x.es) part port = (([], false, some k), elSt x.es) → ReadP w B c x port (readT c x.node (elSt x.es) part port) (.returned (.tuple #[.slice none 0 0, .bool false, .iface 89 (.pointer (some ⟨b, 0, none⟩))])) w2) := Lib.hid fun k b w1 w2 h1 h2 h3 h4 => by
    rw [h4]
    exact ⟨none, 0, _, rfl, ⟨World.ownsRow_nil _ _ _ _, h3, Left.same h (h1.trans (h2.mono h1.size)), fun _ _ _ _ _ => ⟨fun q hq => by simp [Value.ownBlock] at hq, h1.trans (h2.mono h1.size)⟩⟩⟩
  unfold pv at *
  by_cases hh : hasB c x.node part port = true
  case neg =>
    have hw : readT c x.node (elSt x.es) part port = (([], false, some 17), elSt x.es) := by unfold readT; rw [find_has, if_neg hh]
    rw [show foundV c x part port = .pointer none from if_neg hh] at HF
    have HEnd2 := Lib.hid (fun b w1 w2 h1 h2 h3 => HEnd.out 17 b w1 w2 h1 h2 h3 hw)
    clear h hh hw HEnd
    go_enter Try.func21, Try.ntmps21
    go_wp2_with fail
    refine HF.out.mono ?_
    rintro e w1 ⟨rfl, hb1⟩
    have Hb1 := Lib.hid hb1
    clear hb1
    go_wp2_with fail
    refine (HE.out 17 _ (by omega)).mono ?_
    rintro e w2 ⟨b, rfl, he, hb2⟩
    have HR := Lib.hid (HEnd2.out b w1 w2 Hb1.out hb2 he)
    clear he hb2
    go_wp2_with fail
    go_ret3
    exact HR.out
  rw [show foundV c x part port = .pointer (some ⟨x.g, port.toNat * 10, none⟩) from if_pos hh] at HF
  obtain ⟨k, rfl, p, hp⟩ := has_port hh
  rw [Int.toNat_natCast] at HF
  obtain ⟨e, he⟩ := h.el hp
  obtain ⟨tv, hpre, hbx, -⟩ := h.box he hp
  have hg := h.els.lt
  have HK := Lib.hid (fun W (hW : Below w.heap.size w W) => BoxAt.below hbx hg hW)
  have hfind : findT c x.node part (k : Int) false = if p.out = false then none else some 13 := by
    rw [find_has, if_pos hh, Int.toNat_natCast, hp]
  cases hO : p.out with
  | true =>
    have hw : readT c x.node (elSt x.es) part k = (([], false, some 13), elSt x.es) := by unfold readT; rw [hfind, hO]; rfl
    have HK2 : Hid (∀ W, Below w.heap.size w W → W.cell? ⟨x.g, k * 10 + 2, none⟩ = some (.bool true)) := Lib.hid fun W hW => by rw [← hO]; exact (HK.out W hW).c2
    clear HK hfind hbx hpre he hp hO
    have HEnd2 := Lib.hid (fun b w1 w2 h1 h2 h3 => HEnd.out 13 b w1 w2 h1 h2 h3 hw)
    clear h hh hw HEnd
    go_enter Try.func21, Try.ntmps21
    go_wp2_with fail
    refine HF.out.mono ?_
    rintro e w1 ⟨rfl, hb1⟩
    have k2 := HK2.out w1 hb1
    have Hb1 := Lib.hid hb1
    clear hb1
    go_wp2_with fail
    refine (HE.out 13 _ (by omega)).mono ?_
    rintro e w2 ⟨b, rfl, he, hb2⟩
    have HR := Lib.hid (HEnd2.out b w1 w2 Hb1.out hb2 he)
    clear he hb2
    go_wp2_with fail
    go_ret3
    exact HR.out
  | false =>
    rw [hO, if_pos rfl] at hfind
    cases hm : e.msgs with
    | nil =>
      have hw : readT c x.node (elSt x.es) part k = (([], false, some 10), elSt x.es) := by
        unfold readT
        rw [hfind, Int.toNat_natCast, hp, elSt_get he]
        simp only [El.ps, hm, List.map_nil]
      obtain ⟨A1, c1, hv, -⟩ := own_slice (h.els.own rfl e (List.mem_of_getElem? he))
      rw [hm] at hv
      have HK2 : Hid (∀ W, Below w.heap.size w W → W.cell? ⟨x.g, k * 10 + 2, none⟩ = some (.bool false) ∧ W.cell? ⟨x.g, k * 10 + 8, none⟩ = some (.slice A1 (0 : Nat) c1)) := Lib.hid fun W hW => by
        rw [← hO]
        refine ⟨(HK.out W hW).c2, ?_⟩
        have := (HK.out W hW).c8
        rw [hv] at this
        exact this
      clear HK hfind hbx hpre he hp hO hm hv
      have HEnd2 := Lib.hid (fun b w1 w2 h1 h2 h3 => HEnd.out 10 b w1 w2 h1 h2 h3 hw)
      clear h hh hw HEnd
      go_enter Try.func21, Try.ntmps21
      go_wp2_with fail
      refine HF.out.mono ?_
      rintro e w1 ⟨rfl, hb1⟩
      obtain ⟨k2,k8⟩ := HK2.out w1 hb1
      have Hb1 := Lib.hid hb1
      clear hb1
      go_wp2_with fail
      refine (HE.out 10 _ (by omega)).mono ?_
      rintro e w2 ⟨b, rfl, he, hb2⟩
      have HR := Lib.hid (HEnd2.out b w1 w2 Hb1.out hb2 he)
      clear he hb2
      go_wp2_with fail
      go_ret3
      exact HR.out
    | cons t r =>
      have hw : readT c x.node (elSt x.es) part k = ((t.2, tookB p e.age, none), tookS p (elSt x.es) k e.age (r.map Prod.snd)) := by
        unfold readT
        rw [hfind, Int.toNat_natCast, hp, elSt_get he]
        simp only [El.ps, hm, List.map_cons]
        unfold tookB tookS
        by_cases hk : p.kind = 1
        · rw [if_pos hk, if_pos hk, if_pos hk]
        · rw [if_neg hk, if_neg hk, if_neg hk]
      rw [hw]
      obtain ⟨A1, c1, hv, -⟩ := own_slice (h.els.own rfl e (List.mem_of_getElem? he))
      have HK2 : Hid (∀ W, Below w.heap.size w W → W.cell? ⟨x.g, k * 10 + 2, none⟩ = some (.bool false) ∧ W.cell? ⟨x.g, k * 10 + 8, none⟩ = some (.slice A1 (r.length + 1 : Nat) c1)) := Lib.hid fun W hW => by
        rw [← hO]
        refine ⟨(HK.out W hW).c2, ?_⟩
        have := (HK.out W hW).c8
        rw [hv, hm] at this
        exact this
      have HT := Lib.hid (fun W (hW : Below w.heap.size w W) => bxtake_any W B c x (h.below hW) (Nat.le_trans hB hW.size) k p hp e he t r hm)
      have HR0 : Hid (∀ A cap w1 w2, Below w.heap.size w w1 → TakeQ w1 B c x k p e.age t.2 (r.map Prod.snd) (.slice A t.2.length cap) w2 → ReadP w B c x k ((t.2, tookB p e.age, none), tookS p (elSt x.es) k e.age (r.map Prod.snd)) (.returned (.tuple #[.slice A t.2.length cap, .bool (tookB p e.age), .nilIface])) w2) := Lib.hid fun A cap w1 w2 h1 h2 =>
        ⟨A, cap, _, rfl, ⟨h2.own, ErrV.none_ _ _, Left.after h2.left h1, fun k' p' e1 e2 e3 => by
          have e4 : k' = k := by omega
          subst e4
          rw [hp] at e2
          obtain rfl := Option.some.inj e2
          exact ⟨fun q hq => Nat.le_trans h1.size ((h2.new e3).1 q hq), h1.trans ((h2.new e3).2.mono h1.size)⟩⟩⟩
      have q1 : (((r.length : Nat) : Int) + 1 == 0) = false := by rw [beq_eq_false_iff_ne]; omega
      unfold bxv at HT
      clear HK hfind hbx hpre hO hm hv hw HEnd h hh HI HE
      go_enter Try.func21, Try.ntmps21
      go_wp2_with fail
      refine HF.out.mono ?_
      rintro e1 w1 ⟨rfl, hb1⟩
      obtain ⟨k2, k8⟩ := HK2.out w1 hb1
      have HT1 := Lib.hid (HT.out w1 hb1)
      have HR1 := Lib.hid (fun A cap w2 => HR0.out A cap w1 w2 hb1)
      clear hb1 HK2 HT HR0
      go_wp2_with fail
      refine HT1.out.mono ?_
      rintro e2 w2 ⟨A, cap, rfl, h2⟩
      have HR := Lib.hid (HR1.out A cap w2 h2)
      clear h2 HR1 HT1 k2 k8
      go_wp2_with fail
      go_ret3
      exact HR.out
end Go.Proofs.Ytdeodoppcflgfaa
