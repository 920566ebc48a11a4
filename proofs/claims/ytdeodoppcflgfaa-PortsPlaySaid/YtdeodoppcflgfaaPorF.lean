/- Contracts of Write and Read. Conditions: where the ports and the bytes lie, tables that are allowed, numbers in their ranges. -/
import Derived.Test.YtdeodoppcflgfaaPorE
namespace Go.Proofs.Ytdeodoppcflgfaa
open Go.RowKit PorP
set_option maxRecDepth 100000

/-- An error's text, and its form. -/
def errO : Option Nat → Int → List UInt8
  | none, _ => []
  | some k, a => atT k a
def errF : Option Nat → Value → Prop
  | none, v => v = .nilIface
  | some _, v => ∃ b, v = .iface 89 (.pointer (some ⟨b, 0, none⟩))
structure ErrV (W : World) (o : Option Nat) (a : Int) (v : Value) : Prop where
  text : ErrText W v (errO o a)
  form : errF o v
theorem ErrV.none_ (W : World) (a : Int) : ErrV W none a .nilIface := ⟨ErrText.none_ _, rfl⟩
theorem ErrV.below {W W' : World} {o : Option Nat} {a : Int} {v : Value} (h : ErrV W o a v) (hb : Below W.heap.size W W') : ErrV W' o a v := ⟨h.text.below hb, h.form⟩
def PErr (k : Nat) (a : Int) (w : World) (e : Ending) (w' : World) : Prop := ∃ b, e = .returned (.iface 89 (.pointer (some ⟨b, 0, none⟩))) ∧ ErrV w' (some k) a (.iface 89 (.pointer (some ⟨b, 0, none⟩))) ∧ Below w.heap.size w w'
theorem plc_place (a : Int) : plc (place a) = plc a := by unfold plc place; split <;> split <;> (try split) <;> omega
theorem perr_any (k : Nat) (hk : 1 ≤ k ∧ k ≤ 199) (a : Int) (ha : a ≤ 9223372036854775807) (w : World) : Calls Try.prog 44 #[.int .i64 (k : Nat), .int .i64 a] w (PErr k a w) := by
  refine (new_some (k : Nat) a w (by rw [beq_eq_false_iff_ne]; omega)).mono ?_
  rintro e w' ⟨rfl, rfl⟩
  have h1 := ErrText.new w (k : Nat) (place a) (by omega) (by unfold place; split <;> omega)
  rw [Int.toNat_natCast, show atT k (place a) = atT k a by unfold atT; rw [plc_place]] at h1
  exact ⟨_, rfl, ⟨h1, _, rfl⟩, (Below.refl _ _).alloc (Nat.le_refl _) _⟩
/-- What a call leaves. -/
def Left (w : World) (B : Nat) (c : TableP.Cfg) (x : PC) (st : St) (w' : World) : Prop := ∃ es', PIn w' B c { x with es := es' } ∧ Goes x.g w w' x.es es' ∧ elSt es' = st
section
variable {w w1 w2 : World} {B : Nat} {c : TableP.Cfg} {x : PC} {st : St}
theorem Left.same (h : PIn w B c x) (hb : Below w.heap.size w w1) : Left w B c x (elSt x.es) w1 := ⟨x.es, h.below hb, Goes.of_below hb _ _, rfl⟩
theorem Left.below (h : Left w B c x st w1) (hb : Below w1.heap.size w1 w2) : Left w B c x st w2 := by
  obtain ⟨es', h1, h2, h3⟩ := h
  exact ⟨es', h1.below hb, h2.trans (Goes.of_below hb _ _), h3⟩
theorem Left.after (h : Left w1 B c x st w2) (hb : Below w.heap.size w w1) : Left w B c x st w2 := by
  obtain ⟨es', h1, h2, h3⟩ := h
  exact ⟨es', h1, (Goes.of_below hb _ _).trans h2, h3⟩
end
def WriteP (w : World) (B : Nat) (c : TableP.Cfg) (x : PC) (port : Int) (r : Option Nat × St) (e : Ending) (w' : World) : Prop := ∃ v, e = .returned v ∧ ErrV w' r.1 port v ∧ Left w B c x r.2 w'
theorem pfind_b (w : World) (B : Nat) (c : TableP.Cfg) (x : PC) (h : PIn w B c x) (part port : Int) (hl : c.ports.length ≤ 24) :
    Calls Try.prog 43 #[pv x, .int .i64 part, .int .i64 port] w (fun e w' => e = .returned (foundV c x part port) ∧ Below w.heap.size w w') := by
  refine (pfind_any w B c x h part port hl).mono ?_
  rintro e w' ⟨rfl, m, rfl⟩
  exact ⟨rfl, below_drewNc (Below.refl _ _) m⟩
theorem has_port {c : TableP.Cfg} {node part port : Int} (h : hasB c node part port = true) : ∃ k : Nat, port = k ∧ ∃ p, c.ports[k]? = some p := by
  unfold hasB at h
  by_cases h0 : 0 ≤ port
  · obtain ⟨k, rfl⟩ := Int.eq_ofNat_of_zero_le h0
    refine ⟨k, rfl, ?_⟩
    rw [Int.toNat_natCast] at h
    cases hp : c.ports[k]? with
    | none => rw [hp] at h; simp at h
    | some p => exact ⟨p, rfl⟩
  · rw [decide_eq_false h0] at h; cases h

set_option maxHeartbeats 4000000 in
theorem pwrite_any (w : World) (B : Nat) (c : TableP.Cfg) (x : PC) (h : PIn w B c x) (hB : B ≤ w.heap.size) (ha : SndP.Allowed c) (part port : Int) (hport : port ≤ 9223372036854775807) (A : Option Addr) (n cap : Nat) (l : List UInt8) (hl : l.length = n) (hby : Bytes w w.heap.size A l)
    (hoff : 0 < l.length → ∀ k, blockOf A = some k → ¬ EF x.g x.es k) :
    Calls Try.prog 18 #[pv x, .int .i64 part, .int .i64 port, .slice A n cap] w (WriteP w B c x port (writeP c x.node (elSt x.es) part port l)) := by
  have HF := Lib.hid (pfind_b w B c x h part port ha.ports)
  have HE := Lib.hid (fun k W (hk : 1 ≤ k ∧ k ≤ 199) => perr_any k hk port hport W)
  have HI := Lib.hid h
  have HEnd : Hid (∀ k b w1 w2, Below w.heap.size w w1 → Below w1.heap.size w1 w2 → ErrV w2 (some k) port (.iface 89 (.pointer (some ⟨b, 0, none⟩))) → writeP c x.node (elSt x.es) part port l = (some k, elSt x.es) → WriteP w B c x port (writeP c x.node (elSt x.es) part port l) (.returned (.iface 89 (.pointer (some ⟨b, 0, none⟩)))) w2) := Lib.hid fun k b w1 w2 h1 h2 h3 h4 => by
    rw [h4]
    exact ⟨_, rfl, h3, Left.same h (h1.trans (h2.mono h1.size))⟩
  unfold pv at *
  by_cases hh : hasB c x.node part port = true
  case neg =>
    have hw : writeP c x.node (elSt x.es) part port l = (some 17, elSt x.es) := by unfold writeP; rw [find_has, if_neg hh]
    rw [show foundV c x part port = .pointer none from if_neg hh] at HF
    have HEnd2 := Lib.hid (fun b w1 w2 h1 h2 h3 => HEnd.out 17 b w1 w2 h1 h2 h3 hw)
    clear h hh hw HEnd hoff hby
    go_enter Try.func18, Try.ntmps18
    go_wp2_with fail
    refine HF.out.mono ?_
    rintro e w1 ⟨rfl, hb1⟩
    have Hb1 := Lib.hid hb1
    clear hb1
    go_wp2_with fail
    refine (HE.out 17 _ (by omega)).mono ?_
    rintro e w2 ⟨b, rfl, he, hb2⟩
    have HR := Lib.hid (HEnd2.out b w1 w2 Hb1.out hb2 he)
    clear he hb2
    go_wp2_with fail
    go_ret
    exact HR.out
  rw [show foundV c x part port = .pointer (some ⟨x.g, port.toNat * 10, none⟩) from if_pos hh] at HF
  obtain ⟨k, rfl, p, hp⟩ := has_port hh
  rw [Int.toNat_natCast] at HF
  obtain ⟨e, he⟩ := h.el hp
  obtain ⟨tv, hpre, hbx, -⟩ := h.box he hp
  have hg := h.els.lt
  have HK := Lib.hid (fun W (hW : Below w.heap.size w W) => BoxAt.below hbx hg hW)
  have hok := ha.port p (List.mem_of_getElem? hp)
  have hfind : findT c x.node part (k : Int) true = if p.out = true then none else some 13 := by
    rw [find_has, if_pos hh, Int.toNat_natCast, hp]
  cases hO : p.out with
  | false =>
    have hw : writeP c x.node (elSt x.es) part k l = (some 13, elSt x.es) := by unfold writeP; rw [hfind, hO]; rfl
    have HEnd2 := Lib.hid (fun b w1 w2 h1 h2 h3 => HEnd.out 13 b w1 w2 h1 h2 h3 hw)
    have HK2 : Hid (∀ W, Below w.heap.size w W → W.cell? ⟨x.g, k * 10 + 2, none⟩ = some (.bool false)) := Lib.hid fun W hW => by rw [← hO]; exact (HK.out W hW).c2
    clear h hh hw HEnd hoff hby HK hfind hok hbx hpre he hp hO
    go_enter Try.func18, Try.ntmps18
    go_wp2_with fail
    refine HF.out.mono ?_
    rintro e w1 ⟨rfl, hb1⟩
    have k2 := HK2.out w1 hb1
    have Hb1 := Lib.hid hb1
    clear hb1 HK2
    go_wp2_with fail
    refine (HE.out 13 _ (by omega)).mono ?_
    rintro e w2 ⟨b, rfl, he, hb2⟩
    have HR := Lib.hid (HEnd2.out b w1 w2 Hb1.out hb2 he)
    clear he hb2
    go_wp2_with fail
    go_ret
    exact HR.out
  | true =>
    rw [hO, if_pos rfl] at hfind
    by_cases hs : p.size < (l.length : Int)
    case pos =>
      have hw : writeP c x.node (elSt x.es) part k l = (some 12, elSt x.es) := by
        unfold writeP
        rw [hfind, Int.toNat_natCast, hp, elSt_get he]
        simp only
        rw [if_pos hs]
      have HEnd2 := Lib.hid (fun b w1 w2 h1 h2 h3 => HEnd.out 12 b w1 w2 h1 h2 h3 hw)
      have HK2 : Hid (∀ W, Below w.heap.size w W → W.cell? ⟨x.g, k * 10 + 2, none⟩ = some (.bool true) ∧ W.cell? ⟨x.g, k * 10 + 3, none⟩ = some (.int .i64 p.size)) := Lib.hid fun W hW => by rw [← hO]; exact ⟨(HK.out W hW).c2, (HK.out W hW).c3⟩
      rw [hl] at hs
      have q1 : decide (p.size < (n : Int)) = true := decide_eq_true hs
      clear h hh hw HEnd hoff hby HK hfind hok hbx hpre he hp hO hs hl
      go_enter Try.func18, Try.ntmps18
      go_wp2_with fail
      refine HF.out.mono ?_
      rintro e w1 ⟨rfl, hb1⟩
      obtain ⟨k2, k3⟩ := HK2.out w1 hb1
      have Hb1 := Lib.hid hb1
      clear hb1 HK2
      go_wp2_with fail
      refine (HE.out 12 _ (by omega)).mono ?_
      rintro e w2 ⟨b, rfl, he, hb2⟩
      have HR := Lib.hid (HEnd2.out b w1 w2 Hb1.out hb2 he)
      clear he hb2
      go_wp2_with fail
      go_ret
      exact HR.out
    have hsz : p.size ≤ 16 := hok.2.1.2
    have hw : writeP c x.node (elSt x.es) part k l = if room p e.ps = true then (none, (putOne c l (elSt x.es) k).2) else (some 11, elSt x.es) := by
      rw [putOne_at hp (elSt_get he)]
      unfold writeP
      rw [hfind, Int.toNat_natCast, hp, elSt_get he]
      simp only
      rw [if_neg hs]
      by_cases hr : room p e.ps = true
      · rw [if_pos hr, if_pos hr, if_pos hr]
      · rw [if_neg hr, if_neg hr]
    have hr1 : (putOne c l (elSt x.es) k).1 = if room p e.ps = true then 1 else 0 := by
      rw [putOne_at hp (elSt_get he)]
      split <;> rfl
    have hr2 : room p e.ps = false → (putOne c l (elSt x.es) k).2 = elSt x.es := fun h => by
      rw [putOne_at hp (elSt_get he), h]; rfl
    have HK2 : Hid (∀ W, Below w.heap.size w W → W.cell? ⟨x.g, k * 10 + 2, none⟩ = some (.bool true) ∧ W.cell? ⟨x.g, k * 10 + 3, none⟩ = some (.int .i64 p.size)) := Lib.hid fun W hW => by rw [← hO]; exact ⟨(HK.out W hW).c2, (HK.out W hW).c3⟩
    have HP := Lib.hid (fun W (hW : Below w.heap.size w W) => bxput_any W B c x (h.below hW) (Nat.le_trans hB hW.size) k p hp hok A n cap l hl (by omega) ((hby.below hW (Nat.le_refl _)).more hW.size) hoff)
    have q1 : decide (p.size < (n : Int)) = false := decide_eq_false (by omega)
    unfold bxv at HP
    generalize putOne c l (elSt x.es) k = R at *
    have Hw := Lib.hid hw
    have Hr2 := Lib.hid hr2
    have Hh := Lib.hid h
    cases hr : room p e.ps with
    | true =>
      rw [hr, if_pos rfl] at hr1 hw
      rw [hw]
      clear h hh hw HEnd hoff hby HK hfind hok hbx hpre he hp hO hs hl hr hr2 Hw
      go_enter Try.func18, Try.ntmps18
      go_wp2_with fail
      refine HF.out.mono ?_
      rintro e w1 ⟨rfl, hb1⟩
      obtain ⟨k2, k3⟩ := HK2.out w1 hb1
      have Hb1 := Lib.hid hb1
      clear hb1 HK2
      go_wp2_with fail
      refine (HP.out _ Hb1.out).mono ?_
      rintro e w2 ⟨rfl, hL⟩
      rw [hr1]
      have HR : Hid (WriteP w B c x k (none, R.2) (.returned .nilIface) w2) := Lib.hid ⟨_, rfl, ErrV.none_ _ _, Left.after hL Hb1.out⟩
      clear hL k2 k3
      go_wp2_with fail
      go_ret
      exact HR.out
    | false =>
      rw [hr, if_neg (by decide)] at hr1 hw
      rw [hw]
      have hst := hr2 hr
      clear h hh hw HEnd hoff hby HK hfind hok hbx hpre he hp hO hs hl hr hr2 Hw Hr2
      go_enter Try.func18, Try.ntmps18
      go_wp2_with fail
      refine HF.out.mono ?_
      rintro e w1 ⟨rfl, hb1⟩
      obtain ⟨k2, k3⟩ := HK2.out w1 hb1
      have Hb1 := Lib.hid hb1
      clear hb1 HK2
      go_wp2_with fail
      refine (HP.out _ Hb1.out).mono ?_
      rintro e w2 ⟨rfl, hL⟩
      rw [hr1]
      have HL := Lib.hid (Left.after hL Hb1.out)
      clear hL k2 k3
      go_wp2_with fail
      refine (HE.out 11 _ (by omega)).mono ?_
      rintro e w3 ⟨b, rfl, he, hb3⟩
      have HR : Hid (WriteP w B c x k (some 11, elSt x.es) (.returned (.iface 89 (.pointer (some ⟨b, 0, none⟩)))) w3) := Lib.hid ⟨_, rfl, he, by have := Left.below HL.out hb3; rw [hst] at this; exact this⟩
      clear he hb3 HL
      go_wp2_with fail
      go_ret
      exact HR.out
end Go.Proofs.Ytdeodoppcflgfaa
