/- Messages in a slice of the call's own (OutM); contract of tell: a port's messages behind others. Conditions: where the ports and the messages lie, tables that are allowed. -/
import Derived.Test.YtdeodoppcflgfaaPorD
namespace Go.Proofs.Ytdeodoppcflgfaa
open Go.RowKit PorP
set_option maxRecDepth 100000

/-- Messages in a slice of the call's own, each with bytes of the call's own. -/
structure OutM (W : World) (B : Nat) (v : Value) (ys : List MsgC) : Prop where
  row : W.ownsRow B 68 2 v ys.length (msgVals ys)
  each : ∀ y ∈ ys, OwnMsg W B y
section
variable {W W' : World} {B : Nat} {v : Value} {ys : List MsgC}
theorem OutM.nil (W : World) (B : Nat) : OutM W B (.slice none 0 0) [] := ⟨World.ownsRow_nil _ _ _ _, fun y hy => by cases hy⟩
theorem OutM.away {F : Nat → Prop} (h : OutM W B v ys) (ha : Apart F W W') (h1 : ∀ q, v.ownBlock = some q → ¬ F q) (h2 : ∀ y ∈ ys, ∀ q, (Value.slice y.A y.m y.cap).ownBlock = some q → ¬ F q) : OutM W' B v ys :=
  ⟨own_apart h.row ha h1, fun y hy => (h.each y hy).apart ha (h2 y hy)⟩
theorem OutM.below (h : OutM W B v ys) (hb : Below W.heap.size W W') : OutM W' B v ys := h.away (F := fun _ => False) (Apart.of_below' hb) (fun _ _ h => h) (fun _ _ _ _ h => h)
/-- Where ports are written. -/
theorem OutM.beside {F : Nat → Prop} (h : OutM W B v ys) (ha : Apart F W W') (hT : ∀ k, F k → ∃ cs t, W.heap[k]? = some (.cells cs t (0, 0)) ∧ t ≠ 5 ∧ t ≠ 68) : OutM W' B v ys := by
  refine h.away ha (fun q hq hf => ?_) (fun y hy q hq hf => ?_)
  · obtain ⟨cs, t, e1, e2, e3⟩ := hT q hf
    exact own_off h.row e1 (fun e => e3 e.symm) q hq rfl
  · obtain ⟨cs, t, e1, e2, e3⟩ := hT q hf
    exact own_off (h.each y hy).row e1 (fun e => e2 e.symm) q hq rfl
theorem OutM.low (h : OutM W B v ys) {B' : Nat} (hb : B' ≤ B) : OutM W B' v ys := ⟨low_own h.row hb, fun y hy => ⟨low_own (h.each y hy).row hb, (h.each y hy).most, (h.each y hy).ports⟩⟩
theorem OutM.more (h : OutM W B v ys) {v' : Value} {y : MsgC} (ho : W'.ownsRow B 68 2 v' (ys.length + 1) (msgVals ys ++ y.vals)) (hy : OwnMsg W B y) (ha : Apart (fun q => v.ownBlock = some q) W W') : OutM W' B v' (ys ++ [y]) := by
  have hall : ∀ z ∈ ys ++ [y], OwnMsg W B z := fun z hz => by
    rcases List.mem_append.1 hz with hz | hz
    · exact h.each z hz
    · rw [List.mem_singleton.1 hz]; exact hy
  refine ⟨by rw [List.length_append, msgVals_append]; simpa [msgVals] using ho, fun z hz => (hall z hz).apart ha (fun q hq e => own_tag6 (hall z hz).row h.row (by decide) q hq e)⟩
/-- As others read it. -/
theorem OutM.reads (h : OutM W B v ys) : ∃ A cap, v = .slice A ys.length cap ∧ ys.length ≤ cap ∧ MsgsIn W A ys := MsgsIn.own h.row (fun y hy => ((h.each y hy).ok).1)
end
def plainsT (port : Nat) (l : List Txt) : List FrameP.Msg := l.map fun t => ⟨(port : Int), t.2⟩
structure TellQ (w : World) (B B' : Nat) (c : TableP.Cfg) (x : PC) (v0 : Value) (ys : List MsgC) (ps : List FrameP.Msg) (v : Value) (w' : World) : Prop where
  out : ∃ zs : List MsgC, OutM w' B' v (ys ++ zs) ∧ zs.map MsgC.plain = ps
  pin : PIn w' B c x
  apart : Apart (fun q => v0.ownBlock = some q) w w'
  moved : Moved w v0.ownBlock v.ownBlock
def TellP (w : World) (B B' : Nat) (c : TableP.Cfg) (x : PC) (v0 : Value) (ys : List MsgC) (ps : List FrameP.Msg) (e : Ending) (w' : World) : Prop := ∃ v, e = .returned v ∧ TellQ w B B' c x v0 ys ps v w'
def TelR (w : World) (B B' : Nat) (c : TableP.Cfg) (x : PC) (v0 : Value) (ys : List MsgC) (port n : Nat) (l : List Txt) (v i : Value) (wr : World) : Prop :=
  ∃ k, k ≤ n ∧ i = .int .i64 (k : Nat) ∧ TellQ w B B' c x v0 ys (plainsT port (l.take k)) v wr
theorem OutM.tag {W : World} {B : Nat} {v : Value} {ys : List MsgC} (h : OutM W B v ys) : ∀ k, v.ownBlock = some k → ∃ cs t, W.heap[k]? = some (.cells cs t (0, 0)) ∧ t ≠ 5 ∧ t ≠ 3 ∧ t ≠ 87 ∧ t ≠ 83 ∧ t ≠ 44 := fun k hk => by
  obtain ⟨cur, hc⟩ := (Seg.of_own h.row).block k hk
  exact ⟨cur, _, hc, by decide, by decide, by decide, by decide, by decide⟩
theorem PIn.out {W W' : World} {B B' : Nat} {c : TableP.Cfg} {x : PC} {v : Value} {ys : List MsgC} (h : PIn W B c x) (ho : OutM W B' v ys) (ha : Apart (fun q => v.ownBlock = some q) W W') : PIn W' B c x :=
  h.beside ha (fun k hk hv => by
    obtain ⟨cs, t, e1, -, -, -, e5, e6⟩ := ho.tag k hv
    exact h.els.fOff e1 e5 e6 hk) (fun k hv => by
    obtain ⟨cs, t, e1, e2, e3, e4, -, -⟩ := ho.tag k hv
    exact ⟨cs, t, e1, e2, e3, e4⟩)

set_option maxHeartbeats 4000000 in
theorem bxtell_any (w : World) (B B' : Nat) (c : TableP.Cfg) (x : PC) (h : PIn w B c x) (hB : B' ≤ w.heap.size) (i : Nat) (hi : i ≤ 1000) (p : TableP.Port) (hp : c.ports[i]? = some p) (e : El) (he : x.es[i]? = some e) (v0 : Value) (ys : List MsgC) (ho : OutM w B' v0 ys) (hy : ys.length ≤ 1000) :
    Calls Try.prog 42 #[bxv x.g (i * 10), v0, .int .i64 (i : Nat)] w (TellP w B B' c x v0 ys (plainsT i e.msgs)) := by
  have hem := List.mem_of_getElem? he
  obtain ⟨tv, hpre, hbx, -⟩ := h.box he hp
  have hok := h.els.ok e hem
  obtain ⟨A1, c1, hv, hc1⟩ := own_slice (h.els.own rfl e hem)
  have b8 := hbx.c8
  rw [hv] at b8
  obtain ⟨n, hn⟩ : ∃ n, e.msgs.length = n := ⟨_, rfl⟩
  rw [hn] at b8 hc1
  have hn4 : n ≤ 4 := by have := hok.1; omega
  -- each message's cell
  have HM : Hid (∀ W, PIn W B c x → ∀ k t, e.msgs[k]? = some t → ∃ g' At ct, A1 = some ⟨g', 0, none⟩ ∧ W.cell? ⟨g', k, none⟩ = some (.slice At t.2.length ct) ∧ Bytes W W.heap.size At t.2 ∧ t.2.length ≤ 16) := Lib.hid fun W hW k t ht => by
    have h1 := hW.els.own rfl e hem
    have hlt := (List.getElem?_eq_some_iff.1 ht).1
    obtain ⟨g', c2, h2, -, -⟩ := h1.form (by omega)
    rw [hv] at h2
    injection h2 with h2 h3 h4
    obtain ⟨At, ct, h5, -, -, h6, -⟩ := own_bytes ((hW.els.each e hem).rows t (List.mem_of_getElem? ht))
    have h5' : t.1 = .slice At t.2.length ct := h5
    refine ⟨g', At, ct, h2, ?_, h6, hok.2.1 t (List.mem_of_getElem? ht)⟩
    rw [hv, h2] at h1
    have h7 := h1.cellAt k (by omega)
    rw [txt_at ht, h5'] at h7
    exact h7
  have HS : Hid (TelR w B B' c x v0 ys i n e.msgs v0 (.int .i64 0) w) := Lib.hid ⟨0, by omega, rfl, ⟨[], by simpa using ho, rfl⟩, h, Apart.refl _ _, Moved.refl _ _⟩
  obtain ⟨Av0, nv0, cv0, hv0⟩ : ∃ A n c, v0 = .slice A n c := by
    obtain ⟨A, cap, e1, -⟩ := ho.reads
    exact ⟨_, _, _, e1⟩
  subst hv0
  have Hn := Lib.hid hn
  unfold bxv
  generalize e.msgs = l at *
  clear h hbx hpre hp he hem hv hok hn ho
  go_enter Try.func42, Try.ntmps42
  go_wp2_with fail
  clear b8
  go_loopw [1, 14] (TelR w B B' c x (.slice Av0 nv0 cv0) ys i n l) (fun _ j _ => (n + 1 - intOf j).toNat)
  case atStart => exact HS.out
  case round =>
    clear HS
    obtain ⟨k, hk, rfl, ⟨zs, ho, hz⟩, hpin, hap, hmv⟩ := hrel
    obtain ⟨Av, cv, rfl, -, -⟩ := ho.reads
    have hzl : zs.length = min k n := by
      have := congrArg List.length hz
      simpa [plainsT, Hn.out] using this
    by_cases hlt : k < n
    case neg =>
      obtain rfl : k = n := by omega
      have q1 : decide ((k : Int) < (k : Int)) = false := decide_eq_false (by omega)
      have HF : Hid (TellP w B B' c x (.slice Av0 nv0 cv0) ys (plainsT i l) (.returned (.slice Av (ys ++ zs).length cv)) wr) := Lib.hid ⟨_, rfl, ⟨zs, ho, by rw [hz, ← Hn.out, List.take_length]⟩, hpin, hap, hmv⟩
      clear ho hz hpin hap hmv HM
      go_wp2_with fail
      go_ret
      exact HF.out
    have q1 : decide ((k : Int) < (n : Int)) = true := decide_eq_true (by omega)
    have hkz : (k : Int) < (n : Int) := by omega
    obtain ⟨t, ht⟩ : ∃ t, l[k]? = some t := ⟨_, List.getElem?_eq_getElem (by rw [Hn.out]; exact hlt)⟩
    obtain ⟨g', At, ct, rfl, hkc, hby, h16⟩ := HM.out wr hpin k t ht
    have HC := Lib.hid (bclone_any At t.2.length ct t.2 rfl (by omega) wr hby)
    have HB := Lib.hid (Nat.le_trans hB hap.size)
    have e1 : IntKind.i64.wrap ((k : Int) + 1) = (k : Int) + 1 := IntWalk.i64_in _ (by omega)
    have hyl : (ys ++ zs).length ≤ 1010 := by rw [List.length_append, hzl]; omega
    have HR : Hid (∀ A6 c6 w6 v9 w9, w6.ownsRow wr.heap.size 5 1 (.slice A6 t.2.length c6) t.2.length (bytesV t.2) → Below wr.heap.size wr w6 → w9.ownsRow B' 68 2 v9 ((ys ++ zs).length + 1) (msgVals (ys ++ zs) ++ MsgC.vals ⟨(i : Int), A6, t.2.length, c6, t.2⟩) → Apart (fun q => (Value.slice Av (ys ++ zs).length cv).ownBlock = some q) w6 w9 → (v9.ownBlock = (Value.slice Av (ys ++ zs).length cv).ownBlock ∨ ∃ q, v9.ownBlock = some q ∧ wr.heap.size ≤ q) →
        TelR w B B' c x (.slice Av0 nv0 cv0) ys i n l v9 (.int .i64 ((k : Int) + 1)) w9) := Lib.hid fun A6 c6 w6 v9 w9 h1 h2 h3 h4 h5 => by
      have ho6 := ho.below h2
      have hm : OwnMsg w6 B' ⟨(i : Int), A6, t.2.length, c6, t.2⟩ := ⟨low_own h1 HB.out, by simp only; omega, by simp only; omega⟩
      have ho9 := ho6.more (y := ⟨(i : Int), A6, t.2.length, c6, t.2⟩) h3 hm h4
      refine ⟨k + 1, by omega, by go_num, ⟨zs ++ [⟨(i : Int), A6, t.2.length, c6, t.2⟩], by rw [← List.append_assoc]; exact ho9, ?_⟩, (hpin.below h2).out ho6 h4, ?_, ?_⟩
      · rw [List.map_append, hz, List.take_add_one, ht]
        simp [plainsT, MsgC.plain]
      · have a1 : Apart (fun q => (Value.slice Av (ys ++ zs).length cv).ownBlock = some q) wr w9 := (Apart.of_below' (F := fun q => (Value.slice Av (ys ++ zs).length cv).ownBlock = some q) h2).trans h4 (fun _ e => .inl e)
        refine hap.trans a1 fun q hq => ?_
        rcases hmv with e | ⟨k', e, hk'⟩
        · exact .inl (by rw [← e]; exact hq)
        · rw [hq] at e
          exact .inr (by have := Option.some.inj e; omega)
      · rcases h5 with e | ⟨q, e, hq⟩
        · rw [e]; exact hmv
        · exact .inr ⟨q, e, Nat.le_trans hap.size hq⟩
    have HO := Lib.hid ho
    generalize hL : (ys ++ zs).length = L at *
    have HL := Lib.hid hL
    clear ho hz hpin hap hmv HM hby hL hzl
    go_wp2_with fail
    refine HC.out.mono ?_
    rintro e6 w6 ⟨A6, c6, rfl, ho6, hb6⟩
    have Ho6 := Lib.hid ho6
    have Hb6 := Lib.hid hb6
    have HO6 : Hid ((w6.alloc (.cells #[.int .i64 (i : Nat), .slice A6 t.2.length c6] 68)).ownsRow B' 68 2 (.slice Av L cv) L (msgVals (ys ++ zs))) := Lib.hid (by
      have := (HO.out.below hb6).row
      rw [HL.out] at this
      exact this.alloc _)
    have hs6 : B' ≤ w6.heap.size := Nat.le_trans HB.out hb6.size
    clear ho6 hb6 HC hkc
    go_wp2_with (at_builtin
                 refine wpList_append_s rfl (.tmp 18) (.tmp 23) _ rfl B' 68 _ 2 32 Try.underlying39 infoM rfl (by omega) _ L (msgVals (ys ++ zs)) rfl HO6.out (some ⟨w6.heap.size, 0, none⟩) 1 1 (MsgC.vals ⟨(i : Int), A6, t.2.length, c6, t.2⟩) rfl rfl ?n2 ?n3 (by unfold maxLen; omega) (by omega) (by simp; omega) ?_
                 case n2 => exact fun _ => ⟨_, rfl, laid_at w6 68 _ _ rfl⟩
                 case n3 =>
                   intro u hu
                   simp only [MsgC.vals, List.mem_cons, List.not_mem_nil, or_false] at hu
                   rcases hu with rfl | rfl <;> rfl
                 intro v9 w9 ho9 ha9 hb9
                 have HR2 := Lib.hid (HR.out A6 c6 w6 v9 w9 Ho6.out Hb6.out ho9 (((Apart.refl _ w6).alloc _).trans ha9 (fun _ e => .inl e)) (hb9.imp id fun e => ⟨_, e, by have := Hb6.out.size; simp; omega⟩))
                 obtain ⟨A9, c9, rfl, -⟩ := own_slice ho9
                 clear ho9 ha9 hb9 HR HO6 Ho6 Hb6)
    go_roundw
    case rel => exact HR2.out
    case measure => simp [intOf]; omega
end Go.Proofs.Ytdeodoppcflgfaa
