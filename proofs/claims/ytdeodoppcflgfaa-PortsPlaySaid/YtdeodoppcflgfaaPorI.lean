/- Contracts of Seal, Age and Clear; Image in plain words. Conditions: where the ports lie, tables that are allowed. -/
import Derived.Test.YtdeodoppcflgfaaPorH
import Derived.Test.YtdeodoppcflgfaaPorT
import Derived.Laws.Cover1
namespace Go.Proofs.Ytdeodoppcflgfaa
open Go.RowKit PorP
set_option maxRecDepth 100000

theorem plains_ps (k : Nat) (e : El) : plainsT k e.msgs = e.ps.msgs.map (msgOf k) := by unfold plainsT El.ps msgOf; rw [List.map_map]; rfl
theorem plainK_img (c : TableP.Cfg) (es : List El) (hl : es.length = c.ports.length) : ∀ k, k ≤ es.length → plainK 0 (es.take k) = imgP c (fun p => !false || p.out) (elSt es) k
  | 0, _ => by simp [plainK, imgP]
  | k + 1, hk => by
    have he : es[k]? = some es[k] := List.getElem?_eq_getElem (by omega)
    have hp : c.ports[k]? = some c.ports[k] := List.getElem?_eq_getElem (by omega)
    rw [plainK_take he, imgP_step hp (elSt_get he), plainK_img c es hl k (by omega), plains_ps]
    simp
theorem set_same {l : List PS} {k : Nat} {x : PS} (h : l[k]? = some x) : l.set k x = l := by
  apply List.ext_getElem?
  intro j
  by_cases hj : k = j
  · subst hj
    rw [List.getElem?_set_self (List.getElem?_eq_some_iff.1 h).1, h]
  · rw [List.getElem?_set_ne hj]
theorem elSt_len (es : List El) : (elSt es).length = es.length := List.length_map _
/-- All that a node's ports hold. -/
theorem plainK_all {W : World} {B : Nat} {c : TableP.Cfg} {x : PC} (h : PIn W B c x) (hb : Bare c x.node (elSt x.es)) : plainK 0 x.es = msgsT c x.node false (elSt x.es) := by
  have h1 := plainK_img c x.es h.len x.es.length (Nat.le_refl _)
  rw [List.take_length] at h1
  rw [h1, hb.img false, h.len, img_all hb.len]
theorem Goes.beside {g : Nat} {w w1 w2 : World} {es es' : List El} {v : Value} (h : Goes g w w1 es es') (ha : Apart (fun q => v.ownBlock = some q) w1 w2) (hv : ∀ q, v.ownBlock = some q → w.heap.size ≤ q) : Goes g w w2 es es' :=
  ⟨h.apart.trans ha (fun q hq => .inr (hv q hq)), h.f, h.d⟩
def SealP (w : World) (B : Nat) (c : TableP.Cfg) (x : PC) (ps : List FrameP.Msg) (st : St) (e : Ending) (w' : World) : Prop :=
  ∃ (A : Option Addr) (n cap : Nat) (ys : List MsgC), e = .returned (.slice A n cap) ∧ ys.length = n ∧ OutM w' w.heap.size (.slice A n cap) ys ∧ ys.map MsgC.plain = ps ∧ Left w B c x st w'
def SealR (w : World) (B : Nat) (c : TableP.Cfg) (x : PC) (v i : Value) (wr : World) : Prop :=
  ∃ k ys es', k ≤ x.es.length ∧ i = .int .i64 (k : Nat) ∧ OutM wr w.heap.size v ys ∧ ys.map MsgC.plain = imgP c TableP.Port.out (elSt x.es) k ∧ PIn wr B c { x with es := es' } ∧ Goes x.g w wr x.es es' ∧ elSt es' = mapK c outF (elSt x.es) k

set_option maxHeartbeats 4000000 in
theorem pseal_any (w : World) (B : Nat) (c : TableP.Cfg) (x : PC) (h : PIn w B c x) (ha : c.ports.length ≤ 24) :
    Calls Try.prog 17 #[pv x] w (SealP w B c x (imgP c TableP.Port.out (elSt x.es) c.ports.length) (List.zipWith outF c.ports (elSt x.es))) := by
  have k1 := cell_at h.hd 1 rfl
  have HL : Hid (x.es.length ≤ 24) := Lib.hid (by rw [h.len]; exact ha)
  have hlen : (elSt x.es).length = c.ports.length := by rw [elSt_len, h.len]
  have Hlen := Lib.hid hlen
  have Hxl := Lib.hid h.len
  have HO4 : Hid (∀ s ∈ elSt x.es, s.msgs.length ≤ 4) := Lib.hid fun s hs => by
    obtain ⟨e, he, rfl⟩ := List.mem_map.1 hs
    have := (h.els.ok e he).1
    simpa [El.ps] using this
  have HS : Hid (SealR w B c x (.slice none 0 0) (.int .i64 0) w) := Lib.hid ⟨0, [], x.es, Nat.zero_le _, rfl, OutM.nil _ _, rfl, h, Goes.refl _ _ _, rfl⟩
  unfold pv
  clear h ha hlen
  go_enter Try.func17, Try.ntmps17
  go_wp2_with fail
  clear k1
  go_loopw [3, 13] (SealR w B c x) (fun _ j _ => (x.es.length + 1 - intOf j).toNat)
  case atStart => exact HS.out
  case round =>
    clear HS
    obtain ⟨k, ys, es', hk, rfl, ho, hp, hpin, hg, hst⟩ := hrel
    obtain ⟨A, cap, rfl, -, -⟩ := ho.reads
    have hl24 := HL.out
    by_cases hlt : k < x.es.length
    case neg =>
      obtain rfl : k = x.es.length := by omega
      have q1 : decide ((x.es.length : Int) < (x.es.length : Int)) = false := decide_eq_false (by omega)
      have HF : Hid (SealP w B c x (imgP c TableP.Port.out (elSt x.es) c.ports.length) (List.zipWith outF c.ports (elSt x.es)) (.returned (.slice A ys.length cap)) wr) := Lib.hid ⟨A, _, cap, ys, rfl, rfl, ho, by rw [hp, Hxl.out], es', hpin, hg, by rw [hst, Hxl.out, mapK_all Hlen.out]⟩
      clear ho hp hpin hg hst
      go_wp2_with fail
      go_ret
      exact HF.out
    have q1 : decide ((k : Int) < (x.es.length : Int)) = true := decide_eq_true (by omega)
    have hkz : (k : Int) < (x.es.length : Int) := by omega
    have hel : es'.length = x.es.length := by have := hpin.len; rw [← Hxl.out] at this; exact this
    obtain ⟨e, he⟩ : ∃ e, es'[k]? = some e := ⟨_, List.getElem?_eq_getElem (by omega)⟩
    obtain ⟨p, hq⟩ := hpin.port he
    have hsk : (elSt x.es)[k]? = some e.ps := mapK_at Hlen.out (by rw [← hst]; exact elSt_get he)
    have himg := imgP_step (sel := TableP.Port.out) hq hsk
    have hmap := mapK_step (f := outF) (st := elSt x.es) hq hsk
    have hyl : ys.length ≤ 1000 := by
      have h1 := congrArg List.length hp
      have h2 := imgP_len (c := c) (sel := TableP.Port.out) HO4.out k
      rw [List.length_map] at h1
      omega
    obtain ⟨tv, hpre, hbx, -⟩ := hpin.box he hq
    have b2 := hbx.c2
    have kh := cell_at hpin.hd 1 rfl
    rw [show ({ x with es := es' } : PC).es.length = x.es.length from hel] at kh
    have e1 : IntKind.i64.wrap ((k : Int) + 1) = (k : Int) + 1 := IntWalk.i64_in _ (by omega)
    cases hO : p.out with
    | false =>
      rw [hO] at b2
      have HR : Hid (SealR w B c x (.slice A ys.length cap) (.int .i64 ((k : Int) + 1)) wr) := Lib.hid ⟨k + 1, ys, es', hlt, by go_num, ho, by rw [himg, hO, hp]; simp, hpin, hg, by
        rw [hmap, hst, show outF p e.ps = e.ps by unfold outF; rw [hO, if_neg (by decide)]]
        exact (set_same (by rw [← hst]; exact elSt_get he)).symm⟩
      clear ho hp hpin hg hst he hq hsk himg hmap hpre hbx hO
      go_wp2_with fail
      go_roundw
      case rel => exact HR.out
      case measure => simp [intOf]; omega
    | true =>
      rw [hO] at b2
      have HT := Lib.hid (bxtell_any wr B w.heap.size c { x with es := es' } hpin hg.apart.size k (by omega) p hq e he _ ys ho hyl)
      have HR : Hid (∀ v w2, TellQ wr B w.heap.size c { x with es := es' } (.slice A ys.length cap) ys (plainsT k e.msgs) v w2 → SealR w B c x v (.int .i64 ((k : Int) + 1)) (w2.setCell ⟨x.g, k * 10 + 8, none⟩ (.slice none 0 0)) ∧ w2.cell? ⟨x.g, k * 10 + 8, none⟩ = some e.v ∧ w2.frozen? ⟨x.g, k * 10 + 8, none⟩ = false ∧ ∃ A n cap, v = .slice A n cap) := Lib.hid fun v w2 hT => by
        obtain ⟨⟨zs, h1, h2⟩, h3, h4, h5⟩ := hT
        have hn := h3.els.setNil (by decide) (by decide) he
        have h6 := h3.set he hn rfl
        have hg2 : Goes x.g w w2 x.es es' := hg.beside h4 (fun q hq => (ho.row.lt q hq).1)
        have ho2 : OutM (w2.setCell ⟨x.g, k * 10 + 8, none⟩ (.slice none 0 0)) w.heap.size v (ys ++ zs) := h1.beside (F := fun q => q = x.g) (Apart.setCell (F := fun q => q = x.g) (Apart.refl _ w2) (p := ⟨x.g, k * 10 + 8, none⟩) (.inl rfl) _) (fun q hq => by subst hq; exact ⟨_, _, h3.els.row, by decide, by decide⟩)
        refine ⟨⟨k + 1, ys ++ zs, _, hlt, by go_num, ho2, ?_, h6, hg2.trans hn.2, ?_⟩, h3.els.cellV he, h3.els.free _, ?_⟩
        · rw [List.map_append, hp, h2, himg, hO, if_pos rfl, plains_ps]
        · rw [elSt_set, hmap, hst, show outF p e.ps = ⟨[], e.age⟩ by unfold outF; rw [hO, if_pos rfl]; rfl]; rfl
        · obtain ⟨A, cap, e1, -⟩ := h1.reads
          exact ⟨_, _, _, e1⟩
      obtain ⟨Ae, ce, hve, -⟩ := own_slice (hpin.els.own rfl e (List.mem_of_getElem? he))
      generalize plainsT k e.msgs = P at *
      generalize e.v = ev at *
      unfold bxv at HT
      clear ho hp hpin hg hst he hq hsk himg hmap hpre hbx hO
      go_wp2_with fail
      refine HT.out.mono ?_
      rintro e2 w2 ⟨v, rfl, hT⟩
      obtain ⟨hR2, k8, f8, A2, n2, cap2, rfl⟩ := HR.out v w2 hT
      have HR2 := Lib.hid hR2
      clear hT HR HT kh b2 hR2
      go_wp2_with fail
      go_roundw
      case rel => exact HR2.out
      case measure => simp [intOf]; omega

/-- Age and Clear: all ports, one by one. -/
def AllR (f : TableP.Port → PS → PS) (w : World) (B : Nat) (c : TableP.Cfg) (x : PC) (i : Value) (wr : World) : Prop :=
  ∃ k es', k ≤ x.es.length ∧ i = .int .i64 (k : Nat) ∧ PIn wr B c { x with es := es' } ∧ Goes x.g w wr x.es es' ∧ elSt es' = mapK c f (elSt x.es) k
def AllP (f : TableP.Port → PS → PS) (w : World) (B : Nat) (c : TableP.Cfg) (x : PC) (e : Ending) (w' : World) : Prop := e = .returned (.tuple #[]) ∧ Left w B c x (List.zipWith f c.ports (elSt x.es)) w'
def clrF (part : Int) (p : TableP.Port) (s : PS) : PS := if p.part = part then PS.empty else s
def ageF (_ : TableP.Port) (s : PS) : PS := ⟨s.msgs, if s.age < 9 then s.age + 1 else s.age⟩
theorem clr_all (c : TableP.Cfg) (part : Int) (st : St) : List.zipWith (clrF part) c.ports st = clearT c part st := rfl
theorem age_all {c : TableP.Cfg} {st : St} (h : st.length = c.ports.length) : List.zipWith ageF c.ports st = growT st := by
  unfold growT
  apply List.ext_getElem?
  intro i
  rw [List.getElem?_zipWith, List.getElem?_map]
  cases hs : st[i]? with
  | none => cases c.ports[i]? <;> rfl
  | some s =>
    have := (List.getElem?_eq_some_iff.1 hs).1
    rw [List.getElem?_eq_getElem (by omega)]; rfl

set_option maxHeartbeats 4000000 in
theorem pclear_any (w : World) (B : Nat) (c : TableP.Cfg) (x : PC) (h : PIn w B c x) (ha : c.ports.length ≤ 24) (part : Int) :
    Calls Try.prog 30 #[pv x, .int .i64 part] w (AllP (clrF part) w B c x) := by
  have k1 := cell_at h.hd 1 rfl
  have HL : Hid (x.es.length ≤ 24) := Lib.hid (by rw [h.len]; exact ha)
  have Hlen : Hid ((elSt x.es).length = c.ports.length) := Lib.hid (by rw [elSt_len, h.len])
  have Hxl := Lib.hid h.len
  have HS : Hid (AllR (clrF part) w B c x (.int .i64 0) w) := Lib.hid ⟨0, x.es, Nat.zero_le _, rfl, h, Goes.refl _ _ _, rfl⟩
  unfold pv
  clear h ha
  go_enter Try.func30, Try.ntmps30
  go_wp2_with fail
  clear k1
  go_loopw [13] (AllR (clrF part) w B c x) (fun j _ => (x.es.length + 1 - intOf j).toNat)
  case atStart => exact HS.out
  case round =>
    clear HS
    obtain ⟨k, es', hk, rfl, hpin, hg, hst⟩ := hrel
    have hl24 := HL.out
    by_cases hlt : k < x.es.length
    case neg =>
      obtain rfl : k = x.es.length := by omega
      have q1 : decide ((x.es.length : Int) < (x.es.length : Int)) = false := decide_eq_false (by omega)
      have HF : Hid (AllP (clrF part) w B c x (.returned (.tuple #[])) wr) := Lib.hid ⟨rfl, es', hpin, hg, by rw [hst, Hxl.out, mapK_all Hlen.out]⟩
      clear hpin hg hst
      go_wp2_with fail
      refine bodyPost_end (results_none rfl _ _ _) rfl ?_
      exact HF.out
    have q1 : decide ((k : Int) < (x.es.length : Int)) = true := decide_eq_true (by omega)
    have hkz : (k : Int) < (x.es.length : Int) := by omega
    have hel : es'.length = x.es.length := by have := hpin.len; rw [← Hxl.out] at this; exact this
    obtain ⟨e, he⟩ : ∃ e, es'[k]? = some e := ⟨_, List.getElem?_eq_getElem (by omega)⟩
    obtain ⟨p, hq⟩ := hpin.port he
    have hsk : (elSt x.es)[k]? = some e.ps := mapK_at Hlen.out (by rw [← hst]; exact elSt_get he)
    have hmap := mapK_step (f := (clrF part)) (st := elSt x.es) hq hsk
    obtain ⟨tv, hpre, hbx, -⟩ := hpin.box he hq
    have kh := cell_at hpin.hd 1 rfl
    rw [show ({ x with es := es' } : PC).es.length = x.es.length from hel] at kh
    have e1 : IntKind.i64.wrap ((k : Int) + 1) = (k : Int) + 1 := IntWalk.i64_in _ (by omega)
    have b0 := hbx.c0
    have b8 := hbx.c8
    have b9 := hbx.c9
    have fr := fun o => hpin.els.free o
    by_cases hP : p.part = part
    case neg =>
      have t1 : (p.part == part) = false := by simp [hP]
      have HR : Hid (AllR (clrF part) w B c x (.int .i64 ((k : Int) + 1)) wr) := Lib.hid ⟨k + 1, es', hlt, by go_num, hpin, hg, by
        rw [hmap, hst, show clrF part p e.ps = e.ps by unfold clrF; rw [if_neg hP]]
        exact (set_same (by rw [← hst]; exact elSt_get he)).symm⟩
      generalize p.part = PP at *
      generalize e.v = ev at *
      clear hpin hg hst he hq hsk hmap hpre hbx hP
      go_wp2_with fail
      go_roundw
      case rel => exact HR.out
      case measure => simp [intOf]; omega
    have t1 : (p.part == part) = true := by simp [hP]
    have hs1 := hpin.els.setNil (by decide) (by decide) he
    have h1 := hpin.set he hs1 rfl
    have he1 : (es'.set k ⟨e.pre, .slice none 0 0, [], e.age⟩)[k]? = some ⟨e.pre, .slice none 0 0, [], e.age⟩ := List.getElem?_set_self (List.getElem?_eq_some_iff.1 he).1
    have hs2 := h1.els.setAge (by decide) (by decide) he1 0 (by omega)
    have h2 := h1.set he1 hs2 rfl
    have HR : Hid (AllR (clrF part) w B c x (.int .i64 ((k : Int) + 1)) ((wr.setCell ⟨x.g, k * 10 + 8, none⟩ (.slice none 0 0)).setCell ⟨x.g, k * 10 + 9, none⟩ (.int .i64 0))) := Lib.hid ⟨k + 1, _, hlt, by go_num, h2, (hg.trans hs1.2).trans hs2.2, by
      rw [elSt_set, elSt_set, List.set_set, hmap, hst, show clrF part p e.ps = PS.empty by unfold clrF; rw [if_pos hP]]; rfl⟩
    obtain ⟨Ae, ce, hve, -⟩ := own_slice (hpin.els.own rfl e (List.mem_of_getElem? he))
    generalize p.part = PP at *
    generalize e.v = ev at *
    clear hpin hg hst he hq hsk hmap hpre hbx hP hs1 h1 he1 hs2 h2
    go_wp2_with fail
    go_roundw
    case rel => exact HR.out
    case measure => simp [intOf]; omega

set_option maxHeartbeats 4000000 in
theorem page_any (w : World) (B : Nat) (c : TableP.Cfg) (x : PC) (h : PIn w B c x) (ha : c.ports.length ≤ 24) :
    Calls Try.prog 28 #[pv x] w (AllP ageF w B c x) := by
  have k1 := cell_at h.hd 1 rfl
  have HL : Hid (x.es.length ≤ 24) := Lib.hid (by rw [h.len]; exact ha)
  have Hlen : Hid ((elSt x.es).length = c.ports.length) := Lib.hid (by rw [elSt_len, h.len])
  have Hxl := Lib.hid h.len
  have HS : Hid (AllR ageF w B c x (.int .i64 0) w) := Lib.hid ⟨0, x.es, Nat.zero_le _, rfl, h, Goes.refl _ _ _, rfl⟩
  unfold pv
  clear h ha
  go_enter Try.func28, Try.ntmps28
  go_wp2_with fail
  clear k1
  go_loopw [11] (AllR ageF w B c x) (fun j _ => (x.es.length + 1 - intOf j).toNat)
  case atStart => exact HS.out
  case round =>
    clear HS
    obtain ⟨k, es', hk, rfl, hpin, hg, hst⟩ := hrel
    have hl24 := HL.out
    by_cases hlt : k < x.es.length
    case neg =>
      obtain rfl : k = x.es.length := by omega
      have q1 : decide ((x.es.length : Int) < (x.es.length : Int)) = false := decide_eq_false (by omega)
      have HF : Hid (AllP ageF w B c x (.returned (.tuple #[])) wr) := Lib.hid ⟨rfl, es', hpin, hg, by rw [hst, Hxl.out, mapK_all Hlen.out]⟩
      clear hpin hg hst
      go_wp2_with fail
      refine bodyPost_end (results_none rfl _ _ _) rfl ?_
      exact HF.out
    have q1 : decide ((k : Int) < (x.es.length : Int)) = true := decide_eq_true (by omega)
    have hkz : (k : Int) < (x.es.length : Int) := by omega
    have hel : es'.length = x.es.length := by have := hpin.len; rw [← Hxl.out] at this; exact this
    obtain ⟨e, he⟩ : ∃ e, es'[k]? = some e := ⟨_, List.getElem?_eq_getElem (by omega)⟩
    obtain ⟨p, hq⟩ := hpin.port he
    have hsk : (elSt x.es)[k]? = some e.ps := mapK_at Hlen.out (by rw [← hst]; exact elSt_get he)
    have hmap := mapK_step (f := ageF) (st := elSt x.es) hq hsk
    obtain ⟨tv, hpre, hbx, -⟩ := hpin.box he hq
    have kh := cell_at hpin.hd 1 rfl
    rw [show ({ x with es := es' } : PC).es.length = x.es.length from hel] at kh
    have e1 : IntKind.i64.wrap ((k : Int) + 1) = (k : Int) + 1 := IntWalk.i64_in _ (by omega)
    have b9 := hbx.c9
    have fr := fun o => hpin.els.free o
    have h9 := (hpin.els.ok e (List.mem_of_getElem? he)).2.2
    obtain ⟨a, ha⟩ : ∃ a, (if e.age < 9 then e.age + 1 else e.age) = a := ⟨_, rfl⟩
    have ha9 : a ≤ 9 := by rw [← ha]; split <;> omega
    have hs1 := hpin.els.setAge (by decide) (by decide) he a ha9
    have h1 := hpin.set he hs1 rfl
    have HR : Hid (AllR ageF w B c x (.int .i64 ((k : Int) + 1)) (wr.setCell ⟨x.g, k * 10 + 9, none⟩ (.int .i64 (a : Nat)))) := Lib.hid ⟨k + 1, _, hlt, by go_num, h1, hg.trans hs1.2, by
      rw [elSt_set, hmap, hst, show ageF p e.ps = ⟨e.ps.msgs, a⟩ by unfold ageF; rw [show e.ps.age = e.age from rfl, ha]]; rfl⟩
    have e2 : IntKind.i64.wrap ((e.age : Int) + 1) = (e.age : Int) + 1 := IntWalk.i64_in _ (by omega)
    have e3 : (if (9 : Int) < (e.age : Int) + 1 then (9 : Int) else (e.age : Int) + 1) = (a : Int) := by rw [← ha]; split <;> split <;> omega
    have e4 : ∀ W ty, (Builtin.min_ #[3, 3] ty #[.int .i64 ((e.age : Int) + 1), .int .i64 9]).run Try.prog W = .ok (.int .i64 (a : Nat)) W := fun W ty => by
      rw [← e3]; rfl
    generalize e.age = ag at *
    generalize e.v = ev at *
    clear hpin hg hst he hq hsk hmap hpre hbx hs1 h1 ha
    go_wp2_with fail
    go_roundw
    case rel => exact HR.out
    case measure => simp [intOf]; omega
end Go.Proofs.Ytdeodoppcflgfaa
