/- Contract of the document's Image. Conditions: where the tables and the ports lie, tables that are allowed. · Contract of the document's Seal. Conditions: where the tables and the ports lie, tables that are allowed. · Contract of the document's Read. Conditions: where the tables and the ports lie, tables that are allowed. -/
import Derived.Test.YtdeodoppcflgfaaPorR1
namespace Go.Proofs.Ytdeodoppcflgfaa
open Go.RowKit PorP
set_option maxRecDepth 100000

/-- Messages in a row of the call's own, their bytes among the ports'. -/
structure ImgY (w0 w : World) (B : Nat) (x : CfgC) (node : Int) (a g : Nat) (es : List El) (ps : List FrameP.Msg) (ys : List MsgC) (v : Value) (wr : World) : Prop where
  row : wr.ownsRow w.heap.size 68 2 v ys.length (msgVals ys)
  each : ∀ y ∈ ys, OwnMsg wr B y
  plain : ys.map MsgC.plain = ps
  rin : RIn w0 wr B x node a g es
  bel : Below w.heap.size w wr
def ImgQ (w0 w : World) (B : Nat) (x : CfgC) (node : Int) (a g : Nat) (es : List El) (ps : List FrameP.Msg) (v : Value) (wr : World) : Prop := ∃ ys, ImgY w0 w B x node a g es ps ys v wr
section
variable {w0 w wr w1 : World} {B : Nat} {x : CfgC} {node : Int} {a g : Nat} {es : List El} {ps : List FrameP.Msg} {ys : List MsgC} {v v' : Value}
theorem ImgY.below (h : ImgY w0 w B x node a g es ps ys v wr) (hb : Below wr.heap.size wr w1) : ImgY w0 w B x node a g es ps ys v w1 :=
  ⟨own_apart (F := fun _ => False) h.row (Apart.of_below' hb) (fun _ _ h => h), fun y hy => (h.each y hy).apart (F := fun _ => False) (Apart.of_below' hb) (fun _ _ h => h), h.plain, h.rin.below hb, h.bel.trans (hb.mono h.bel.size)⟩
theorem ImgQ.below (h : ImgQ w0 w B x node a g es ps v wr) (hb : Below wr.heap.size wr w1) : ImgQ w0 w B x node a g es ps v w1 := by
  obtain ⟨ys, h1⟩ := h
  exact ⟨ys, h1.below hb⟩
/-- One message more. -/
theorem ImgY.more (h : ImgY w0 w B x node a g es ps ys v wr) (hB : B ≤ w.heap.size) {i : Nat} (hi : i ≤ 1000) {e : El} (he : e ∈ es) {D : Option Addr} {m cc : Nat} {data : List UInt8} (hx : (Value.slice D m cc, data) ∈ e.msgs) (o : Obj)
    (ho : w1.ownsRow w.heap.size 68 2 v' (ys.length + 1) (msgVals ys ++ MsgC.vals ⟨(i : Int), D, m, cc, data⟩)) (ha : Apart (fun q => v.ownBlock = some q) (wr.alloc o) w1) : ImgY w0 w B x node a g es (ps ++ [⟨(i : Int), data⟩]) (ys ++ [⟨(i : Int), D, m, cc, data⟩]) v' w1 := by
  have hba : Below wr.heap.size wr (wr.alloc o) := (Below.refl _ _).alloc (Nat.le_refl _) _
  have h1a := h.row.alloc o
  have h4a := h.rin.below hba
  have hrow := (h.rin.els.each e he).rows _ hx
  have hm : data.length = m := by
    obtain ⟨A, c, e1, -⟩ := own_slice hrow
    injection e1 with e2 e3 e4
    exact e3.symm
  subst hm
  have hdm := (h.rin.els.ok e he).2.1 _ hx
  have hown : ∀ y ∈ ys ++ [⟨(i : Int), D, data.length, cc, data⟩], OwnMsg wr B y := fun y hy => by
    rcases List.mem_append.1 hy with hy | hy
    · exact h.each y hy
    · rw [List.mem_singleton.1 hy]
      exact ⟨hrow, by simp only at hdm ⊢; omega, by simp only; omega⟩
  have htag : ∀ q, v.ownBlock = some q → w.heap.size ≤ q ∧ ∃ cs, (wr.alloc o).heap[q]? = some (.cells cs 68 (0, 0)) := fun q hq => ⟨(h.row.lt q hq).1, (Seg.of_own h1a).block q hq⟩
  refine ⟨?_, fun y hy => ?_, by rw [List.map_append, h.plain]; rfl, h4a.beside ha (fun k hk => Nat.le_trans hB (htag k hk).1) (fun k hk hf => ?_) (fun k hk => ?_), ?_⟩
  · rw [List.length_append, msgVals_append]
    simpa [msgVals, MsgC.vals] using ho
  · have hy1 := (hown y hy).apart (F := fun _ => False) (Apart.of_below' hba) (fun _ _ h => h)
    exact hy1.apart ha (fun q hq e => own_tag6 hy1.row h1a (by decide) q hq e)
  · obtain ⟨-, cs, hc⟩ := htag k hf
    exact h4a.els.fOff hc (by decide) (by decide) hk
  · obtain ⟨-, cs, hc⟩ := htag k hk
    exact ⟨cs, _, hc, by decide, by decide⟩
  · exact (h.bel.trans (hba.mono h.bel.size)).trans (Apart.below ha (Nat.le_trans h.bel.size hba.size) (fun q hq => (htag q hq).1))
end
/-- What Image answers. -/
def ImgPR (w0 w : World) (B : Nat) (x : CfgC) (node : Int) (a g : Nat) (es : List El) (ps : List FrameP.Msg) (e : Ending) (w' : World) : Prop := ∃ v, e = .returned v ∧ ImgQ w0 w B x node a g es ps v w'
def ImgO (w0 w : World) (B : Nat) (x : CfgC) (node : Int) (a g : Nat) (es : List El) (out : Bool) (v i : Value) (wr : World) : Prop :=
  ∃ k : Nat, k ≤ x.qn ∧ i = .int .i64 (k : Nat) ∧ ImgQ w0 w B x node a g es (imgP x.plain (shown x.plain node out) (elSt es) k) v wr
def ImgI (w0 w : World) (B : Nat) (x : CfgC) (node : Int) (a g : Nat) (es : List El) (ps : List FrameP.Msg) (i : Nat) (l : List Txt) (v k : Value) (wr : World) : Prop :=
  ∃ j : Nat, j ≤ l.length ∧ k = .int .i64 (j : Nat) ∧ ImgQ w0 w B x node a g es (ps ++ plainsT i (l.take j)) v wr
theorem plains_take {i : Nat} {l : List Txt} {j : Nat} {t : Txt} (h : l[j]? = some t) : plainsT i (l.take (j + 1)) = plainsT i (l.take j) ++ [⟨(i : Int), t.2⟩] := by
  unfold plainsT
  rw [List.take_add_one, h, List.map_append]; rfl
/-- An element's message, in memory. -/
theorem RIn.txtAt {w0 W : World} {B : Nat} {x : CfgC} {node : Int} {a g : Nat} {es : List El} (h : RIn w0 W B x node a g es) {i : Nat} {e : El} (hi : es[i]? = some e) {j : Nat} {t : Txt} (hj : e.msgs[j]? = some t) : ∃ (b o c : Nat) (D : Option Addr) (cc : Nat), e.v = .slice (some ⟨b, o, none⟩) e.msgs.length c ∧ W.cell? ⟨b, o + j, none⟩ = some (.slice D t.2.length cc) ∧ t = (.slice D t.2.length cc, t.2) := by
  have hl := h.els.each e (List.mem_of_getElem? hi)
  have hjl := (List.getElem?_eq_some_iff.1 hj).1
  obtain ⟨b, o, c, hv, -⟩ := hl.seg.form (by omega)
  have hseg := hl.seg
  rw [hv] at hseg
  have hc := hseg.cell (j := j) (u := t.1) (by
    have := itemsV_at txtVals_len e.msgs j t hj 0 (by omega)
    rw [Nat.mul_one, Nat.add_zero] at this
    exact this)
  obtain ⟨D, cc, ht, -⟩ := own_slice (hl.rows t (List.mem_of_getElem? hj))
  have ht' : t.1 = .slice D t.2.length cc := ht
  refine ⟨b, o, c, D, cc, hv, by rw [hc, ht'], ?_⟩
  obtain ⟨t1, t2⟩ := t
  simp only at ht'
  rw [ht']

set_option maxHeartbeats 8000000 in
theorem rimage_any (w0 w : World) (B : Nat) (x : CfgC) (node : Int) (a g : Nat) (es : List El) (h : RIn w0 w B x node a g es) (hal : SndP.Allowed x.plain) (out : Bool) :
    Calls Try.prog 33 #[rpv a, .bool out] w (ImgPR w0 w B x node a g es (imgP x.plain (shown x.plain node out) (elSt es) x.plain.ports.length)) := by
  have hq24 := h.q24 hal
  have Hal := Lib.hid hal
  have HB := Lib.hid h.leB
  have Hql : Hid (x.plain.ports.length = x.qn) := Lib.hid h.cfg.qlen
  have HO4 : Hid (∀ s ∈ elSt es, s.msgs.length ≤ 4) := Lib.hid fun s hs => by
    obtain ⟨e, he, rfl⟩ := List.mem_map.1 hs
    have := (h.els.ok e he).1
    simpa [El.ps] using this
  have HS : Hid (ImgO w0 w B x node a g es out (.slice none 0 0) (.int .i64 0) w) := Lib.hid ⟨0, Nat.zero_le _, rfl, [], World.ownsRow_nil _ _ _ _, fun y hy => (by cases hy), rfl, h, Below.refl _ _⟩
  unfold rpv
  clear h hal
  go_enter Try.func33, Try.ntmps33
  go_wp2_with fail
  go_loopw [5, 6] (ImgO w0 w B x node a g es out) (fun _ j _ => (x.qn + 1 - intOf j).toNat)
  case atStart => exact HS.out
  case round =>
    clear HS
    obtain ⟨i, hi, rfl, hQ⟩ := hrel
    obtain ⟨ys, hY⟩ := hQ
    obtain ⟨A, cap, rfl, -⟩ := own_slice hY.row
    have k12 := cell_at hY.rin.hd 12 rfl
    by_cases hlt : i < x.qn
    case neg =>
      obtain rfl : i = x.qn := by omega
      have q1 : decide ((x.qn : Int) < (x.qn : Int)) = false := decide_eq_false (by omega)
      have HF : Hid (ImgPR w0 w B x node a g es (imgP x.plain (shown x.plain node out) (elSt es) x.plain.ports.length) (.returned (.slice A ys.length cap)) wr) := Lib.hid ⟨_, rfl, ys, by rw [Hql.out]; exact hY⟩
      clear hY
      go_wp2_with fail
      go_ret
      exact HF.out
    have q1 : decide ((i : Int) < (x.qn : Int)) = true := decide_eq_true (by omega)
    have q1' : decide (i < x.qn) = true := decide_eq_true hlt
    have hiz : (i : Int) < (x.qn : Int) := by omega
    have e1 : IntKind.i64.wrap ((i : Int) + 1) = (i : Int) + 1 := IntWalk.i64_in _ (by omega)
    obtain ⟨e, he⟩ : ∃ e, es[i]? = some e := ⟨_, List.getElem?_eq_getElem (by rw [hY.rin.len]; exact hlt)⟩
    obtain ⟨p, hp⟩ := hY.rin.port he
    have hstep := imgP_step (sel := shown x.plain node out) hp (elSt_at he)
    have hyl : ys.length ≤ 4 * i := by
      have h1 := congrArg List.length hY.plain
      rw [List.length_map] at h1
      rw [h1]; exact imgP_len HO4.out i
    have HMi := Lib.hid (rmine_any w0 wr B x node a g es hY.rin Hal.out i p hp)
    have HNx : Hid (∀ v W, ImgQ w0 w B x node a g es (imgP x.plain (shown x.plain node out) (elSt es) i ++ (if shown x.plain node out p = true then e.ps.msgs.map (msgOf i) else [])) v W → ImgO w0 w B x node a g es out v (.int .i64 ((i : Int) + 1)) W) := Lib.hid fun v W hW => ⟨i + 1, hlt, by go_num, by rw [hstep]; exact hW⟩
    obtain ⟨bQ, oQ, hQA, hQ⟩ := hY.rin.portAt hp
    have kO := hQ.c2
    have k9 := cell_at hY.rin.hd 9 rfl
    rw [hQA] at k9
    have hsh : shown x.plain node out p = (mineB x.plain node p && (!out || p.out)) := rfl
    rw [hsh] at HNx
    have HY := Lib.hid hY
    have Hei := Lib.hid he
    have Hpl : Hid (plainsT i e.msgs = e.ps.msgs.map (msgOf i)) := Lib.hid (plains_ps i e)
    generalize imgP x.plain (shown x.plain node out) (elSt es) i = ps at *
    unfold rpv at HMi
    cases hm : mineB x.plain node p with
    | false =>
      rw [hm] at HNx HMi
      simp only [Bool.false_and] at HNx
      have HR : Hid (∀ m, ImgO w0 w B x node a g es out (.slice A ys.length cap) (.int .i64 ((i : Int) + 1)) (wr.drewN m)) := Lib.hid fun m => HNx.out _ _ ⟨ys, by simpa using HY.out.below (below_drewN (Below.refl _ _) m)⟩
      clear HNx HY hY hQ hQA he hp hstep
      generalize x.qn = qn at *
      go_wp2_with fail
      refine HMi.out.mono ?_
      rintro e2 w2 ⟨rfl, m2, rfl⟩
      have HR2 := Lib.hid (HR.out m2)
      clear HR HMi
      go_wp2_with fail
      go_roundw
      case rel => exact HR2.out
      case measure => simp [intOf]; omega
    | true =>
      rw [hm] at HNx HMi
      simp only [Bool.true_and] at HNx
      cases out with
      | false =>
        simp only [Bool.not_false, Bool.true_or, if_true] at HNx
        have HI0 : Hid (∀ m, ImgI w0 w B x node a g es ps i e.msgs (.slice A ys.length cap) (.int .i64 0) (wr.drewN m)) := Lib.hid fun m => ⟨0, Nat.zero_le _, rfl, ys, by simpa [plainsT] using HY.out.below (below_drewN (Below.refl _ _) m)⟩
        have hle4 := (hY.rin.els.ok e (List.mem_of_getElem? he)).1
        have hps : ps.length ≤ 96 := by
          have h1 := congrArg List.length hY.plain
          rw [List.length_map] at h1
          omega
        clear HY hY hQ hQA he hp hstep hyl
        go_wp2_with fail
        refine HMi.out.mono ?_
        rintro e2 w2 ⟨rfl, m2, rfl⟩
        have HI := Lib.hid (HI0.out m2)
        clear HI0 HMi
        go_wp2_with fail
        clear kO k9 k12
        go_loopw [5, 7] (ImgI w0 w B x node a g es ps i e.msgs) (fun _ j _ => (e.msgs.length + 1 - intOf j).toNat)
        case atStart => exact HI.out
        case round =>
          clear HI
          obtain ⟨j, hj, rfl, ys2, hY2⟩ := hrel
          obtain ⟨A2, cap2, rfl, -⟩ := own_slice hY2.row
          have k12 := cell_at hY2.rin.hd 12 rfl
          have kV : wr.cell? ⟨g, i * 2, none⟩ = some e.v := hY2.rin.els.cellV Hei.out
          by_cases hjt : j < e.msgs.length
          case neg =>
            obtain rfl : j = e.msgs.length := by omega
            obtain ⟨Ae, ce, hve, -⟩ := (hY2.rin.els.each e (List.mem_of_getElem? Hei.out)).seg.slice
            rw [hve] at kV
            have q2 : decide ((e.msgs.length : Int) < (e.msgs.length : Int)) = false := decide_eq_false (by omega)
            have HR := Lib.hid (HNx.out _ _ ⟨ys2, by have := hY2; rw [List.take_length, Hpl.out] at this; simpa using this⟩)
            clear hY2 HNx hj
            generalize e.msgs.length = el at *
            go_wp2_with fail
            go_roundw
            case rel => exact HR.out
            case measure => simp [intOf]; omega
          case pos =>
            obtain ⟨t, ht⟩ : ∃ t, e.msgs[j]? = some t := ⟨_, List.getElem?_eq_getElem hjt⟩
            obtain ⟨bV, oV, cV, D, cc, hve, kT, htt⟩ := hY2.rin.txtAt Hei.out ht
            rw [hve] at kV
            have q2 : decide ((j : Int) < (e.msgs.length : Int)) = true := decide_eq_true (by omega)
            have q2' : decide (j < e.msgs.length) = true := decide_eq_true hjt
            have hjz : (j : Int) < (e.msgs.length : Int) := by omega
            have e2 : IntKind.i64.wrap ((j : Int) + 1) = (j : Int) + 1 := IntWalk.i64_in _ (by omega)
            have hyl2 : ys2.length ≤ 100 := by
              have h1 := congrArg List.length hY2.plain
              rw [List.length_map, List.length_append, plainsT, List.length_map, List.length_take] at h1
              omega
            have HIn : Hid (∀ o v' w3, w3.ownsRow w.heap.size 68 2 v' (ys2.length + 1) (msgVals ys2 ++ MsgC.vals ⟨(i : Int), D, t.2.length, cc, t.2⟩) → Apart (fun q => (Value.slice A2 ys2.length cap2).ownBlock = some q) (wr.alloc o) w3 → ImgI w0 w B x node a g es ps i e.msgs v' (.int .i64 ((j : Int) + 1)) w3) := Lib.hid fun o v' w3 h1 h2 => ⟨j + 1, hjt, by go_num, _, by
              rw [plains_take ht, ← List.append_assoc]
              exact hY2.more HB.out (by omega) (List.mem_of_getElem? Hei.out) (by rw [← htt]; exact List.mem_of_getElem? ht) o h1 h2⟩
            have HOw : Hid (∀ o, (wr.alloc o).ownsRow w.heap.size 68 2 (.slice A2 ys2.length cap2) ys2.length (msgVals ys2)) := Lib.hid fun o => hY2.row.alloc o
            have hsz : w.heap.size ≤ wr.heap.size := hY2.bel.size
            generalize t.2 = data at *
            generalize e.msgs.length = el at *
            generalize ys2.length = L at *
            clear hY2 HNx hj ht htt
            go_wp2_with (at_builtin
                         refine wpList_append_s rfl (.tmp 49) (.tmp 63) _ rfl w.heap.size 68 _ 2 32 Try.underlying39 infoM rfl (by omega) _ L (msgVals ys2) rfl (HOw.out _) (some ⟨wr.heap.size, 0, none⟩) 1 1 (MsgC.vals ⟨(i : Int), D, data.length, cc, data⟩) rfl rfl ?n2 ?n3 (by unfold maxLen; omega) (by omega) (by simp; omega) ?_
                         case n2 => exact fun _ => ⟨_, rfl, laid_at wr 68 _ _ rfl⟩
                         case n3 =>
                           intro u hu
                           simp only [MsgC.vals, List.mem_cons, List.not_mem_nil, or_false] at hu
                           rcases hu with rfl | rfl <;> rfl
                         intro v9 w9 ho9 ha9 hb9
                         have HR2 := Lib.hid (HIn.out _ v9 w9 ho9 ha9)
                         obtain ⟨A9, c9, rfl, -⟩ := own_slice ho9
                         clear ho9 ha9 hb9 HIn HOw)
            go_roundw
            case rel => exact HR2.out
            case measure => simp [intOf]; omega
      | true =>
        simp only [Bool.not_true, Bool.false_or] at HNx
        cases hpo : p.out with
        | false =>
          rw [hpo] at HNx kO
          simp only [Bool.false_eq_true, if_false] at HNx
          have HR : Hid (∀ m, ImgO w0 w B x node a g es true (.slice A ys.length cap) (.int .i64 ((i : Int) + 1)) (wr.drewN m)) := Lib.hid fun m => HNx.out _ _ ⟨ys, by simpa using HY.out.below (below_drewN (Below.refl _ _) m)⟩
          clear HNx HY hY hQ hQA he hp hstep
          generalize x.qn = qn at *
          go_wp2_with fail
          refine HMi.out.mono ?_
          rintro e2 w2 ⟨rfl, m2, rfl⟩
          have HR2 := Lib.hid (HR.out m2)
          clear HR HMi
          go_wp2_with fail
          go_roundw
          case rel => exact HR2.out
          case measure => simp [intOf]; omega
        | true =>
          rw [hpo] at HNx kO
          simp only [if_true] at HNx
          have HI0 : Hid (∀ m, ImgI w0 w B x node a g es ps i e.msgs (.slice A ys.length cap) (.int .i64 0) (wr.drewN m)) := Lib.hid fun m => ⟨0, Nat.zero_le _, rfl, ys, by simpa [plainsT] using HY.out.below (below_drewN (Below.refl _ _) m)⟩
          have hle4 := (hY.rin.els.ok e (List.mem_of_getElem? he)).1
          have hps : ps.length ≤ 96 := by
            have h1 := congrArg List.length hY.plain
            rw [List.length_map] at h1
            omega
          clear HY hY hQ hQA he hp hstep hyl
          go_wp2_with fail
          refine HMi.out.mono ?_
          rintro e2 w2 ⟨rfl, m2, rfl⟩
          have HI := Lib.hid (HI0.out m2)
          clear HI0 HMi
          go_wp2_with fail
          clear kO k9 k12
          go_loopw [5, 7] (ImgI w0 w B x node a g es ps i e.msgs) (fun _ j _ => (e.msgs.length + 1 - intOf j).toNat)
          case atStart => exact HI.out
          case round =>
            clear HI
            obtain ⟨j, hj, rfl, ys2, hY2⟩ := hrel
            obtain ⟨A2, cap2, rfl, -⟩ := own_slice hY2.row
            have k12 := cell_at hY2.rin.hd 12 rfl
            have kV : wr.cell? ⟨g, i * 2, none⟩ = some e.v := hY2.rin.els.cellV Hei.out
            by_cases hjt : j < e.msgs.length
            case neg =>
              obtain rfl : j = e.msgs.length := by omega
              obtain ⟨Ae, ce, hve, -⟩ := (hY2.rin.els.each e (List.mem_of_getElem? Hei.out)).seg.slice
              rw [hve] at kV
              have q2 : decide ((e.msgs.length : Int) < (e.msgs.length : Int)) = false := decide_eq_false (by omega)
              have HR := Lib.hid (HNx.out _ _ ⟨ys2, by have := hY2; rw [List.take_length, Hpl.out] at this; simpa using this⟩)
              clear hY2 HNx hj
              generalize e.msgs.length = el at *
              go_wp2_with fail
              go_roundw
              case rel => exact HR.out
              case measure => simp [intOf]; omega
            case pos =>
              obtain ⟨t, ht⟩ : ∃ t, e.msgs[j]? = some t := ⟨_, List.getElem?_eq_getElem hjt⟩
              obtain ⟨bV, oV, cV, D, cc, hve, kT, htt⟩ := hY2.rin.txtAt Hei.out ht
              rw [hve] at kV
              have q2 : decide ((j : Int) < (e.msgs.length : Int)) = true := decide_eq_true (by omega)
              have q2' : decide (j < e.msgs.length) = true := decide_eq_true hjt
              have hjz : (j : Int) < (e.msgs.length : Int) := by omega
              have e2 : IntKind.i64.wrap ((j : Int) + 1) = (j : Int) + 1 := IntWalk.i64_in _ (by omega)
              have hyl2 : ys2.length ≤ 100 := by
                have h1 := congrArg List.length hY2.plain
                rw [List.length_map, List.length_append, plainsT, List.length_map, List.length_take] at h1
                omega
              have HIn : Hid (∀ o v' w3, w3.ownsRow w.heap.size 68 2 v' (ys2.length + 1) (msgVals ys2 ++ MsgC.vals ⟨(i : Int), D, t.2.length, cc, t.2⟩) → Apart (fun q => (Value.slice A2 ys2.length cap2).ownBlock = some q) (wr.alloc o) w3 → ImgI w0 w B x node a g es ps i e.msgs v' (.int .i64 ((j : Int) + 1)) w3) := Lib.hid fun o v' w3 h1 h2 => ⟨j + 1, hjt, by go_num, _, by
                rw [plains_take ht, ← List.append_assoc]
                exact hY2.more HB.out (by omega) (List.mem_of_getElem? Hei.out) (by rw [← htt]; exact List.mem_of_getElem? ht) o h1 h2⟩
              have HOw : Hid (∀ o, (wr.alloc o).ownsRow w.heap.size 68 2 (.slice A2 ys2.length cap2) ys2.length (msgVals ys2)) := Lib.hid fun o => hY2.row.alloc o
              have hsz : w.heap.size ≤ wr.heap.size := hY2.bel.size
              generalize t.2 = data at *
              generalize e.msgs.length = el at *
              generalize ys2.length = L at *
              clear hY2 HNx hj ht htt
              go_wp2_with (at_builtin
                           refine wpList_append_s rfl (.tmp 49) (.tmp 63) _ rfl w.heap.size 68 _ 2 32 Try.underlying39 infoM rfl (by omega) _ L (msgVals ys2) rfl (HOw.out _) (some ⟨wr.heap.size, 0, none⟩) 1 1 (MsgC.vals ⟨(i : Int), D, data.length, cc, data⟩) rfl rfl ?n2 ?n3 (by unfold maxLen; omega) (by omega) (by simp; omega) ?_
                           case n2 => exact fun _ => ⟨_, rfl, laid_at wr 68 _ _ rfl⟩
                           case n3 =>
                             intro u hu
                             simp only [MsgC.vals, List.mem_cons, List.not_mem_nil, or_false] at hu
                             rcases hu with rfl | rfl <;> rfl
                           intro v9 w9 ho9 ha9 hb9
                           have HR2 := Lib.hid (HIn.out _ v9 w9 ho9 ha9)
                           obtain ⟨A9, c9, rfl, -⟩ := own_slice ho9
                           clear ho9 ha9 hb9 HIn HOw)
              go_roundw
              case rel => exact HR2.out
              case measure => simp [intOf]; omega
end Go.Proofs.Ytdeodoppcflgfaa
namespace Go.Proofs.Ytdeodoppcflgfaa
open Go.RowKit PorP
set_option maxRecDepth 100000

/-- Messages in a row from block C on, their bytes from block B on. -/
structure MsgsQ (C B : Nat) (ps : List FrameP.Msg) (ys : List MsgC) (v : Value) (wr : World) : Prop where
  row : wr.ownsRow C 68 2 v ys.length (msgVals ys)
  each : ∀ y ∈ ys, OwnMsg wr B y
  plain : ys.map MsgC.plain = ps
theorem MsgsQ.away {C B : Nat} {ps : List FrameP.Msg} {ys : List MsgC} {v : Value} {W W' : World} {F : Nat → Prop} (h : MsgsQ C B ps ys v W) (ha : Apart F W W') (hT : ∀ k, F k → ∃ cs t, W.heap[k]? = some (.cells cs t (0, 0)) ∧ t ≠ 5 ∧ t ≠ 68) : MsgsQ C B ps ys v W' :=
  ⟨own_apart h.row ha (fun q hq hf => by
    obtain ⟨cs, t, e1, e2, e3⟩ := hT q hf
    exact own_off h.row e1 (fun e => e3 e.symm) q hq rfl), fun y hy => (h.each y hy).apart ha (fun q hq hf => by
    obtain ⟨cs, t, e1, e2, e3⟩ := hT q hf
    exact own_off (h.each y hy).row e1 (fun e => e2 e.symm) q hq rfl), h.plain⟩
theorem MsgsQ.below {C B : Nat} {ps : List FrameP.Msg} {ys : List MsgC} {v : Value} {W W' : World} (h : MsgsQ C B ps ys v W) (hb : Below W.heap.size W W') : MsgsQ C B ps ys v W' := h.away (F := fun _ => False) (Apart.of_below' hb) (fun _ h => h.elim)
theorem MsgsQ.goes {C B : Nat} {ps : List FrameP.Msg} {ys : List MsgC} {v : Value} {w0 W W' : World} {B' : Nat} {x : CfgC} {node : Int} {a g : Nat} {es es' : List El} (h : MsgsQ C B ps ys v W) (hr : RIn w0 W B' x node a g es) (hg : Goes g W W' es es') : MsgsQ C B ps ys v W' :=
  h.away hg.apart fun k hk => by
    obtain ⟨cs, t, e1, e2⟩ := hr.els.fTag hk
    exact ⟨cs, t, e1, by rcases e2 with rfl | rfl <;> decide, by rcases e2 with rfl | rfl <;> decide⟩
theorem MsgsQ.reads {C B : Nat} {ps : List FrameP.Msg} {ys : List MsgC} {v : Value} {W : World} (h : MsgsQ C B ps ys v W) : ∃ A cap, v = .slice A ys.length cap ∧ ys.length ≤ cap ∧ MsgsIn W A ys := MsgsIn.own h.row (fun y hy => ((h.each y hy).ok).1)
def selF (c : TableP.Cfg) (node : Int) (p : TableP.Port) (s : PS) : PS := if shown c node true p = true then ⟨[], s.age⟩ else s
/-- What Seal answers. -/
def SealPR (w0 w : World) (B : Nat) (x : CfgC) (node : Int) (a g : Nat) (es : List El) (ps : List FrameP.Msg) (st : St) (e : Ending) (w' : World) : Prop := ∃ v ys, e = .returned v ∧ MsgsQ w.heap.size B ps ys v w' ∧ LeftR w0 w B x node a g es st w'
def SealRR (w0 w : World) (B : Nat) (x : CfgC) (node : Int) (a g : Nat) (es : List El) (ps : List FrameP.Msg) (ys : List MsgC) (v : Value) (i : Value) (wr : World) : Prop :=
  ∃ k es', k ≤ x.qn ∧ i = .int .i64 (k : Nat) ∧ RIn w0 wr B x node a g es' ∧ Goes g w wr es es' ∧ elSt es' = mapK x.plain (selF x.plain node) (elSt es) k ∧ MsgsQ w.heap.size B ps ys v wr

set_option maxHeartbeats 8000000 in
theorem rseal_any (w0 w : World) (B : Nat) (x : CfgC) (node : Int) (a g : Nat) (es : List El) (h : RIn w0 w B x node a g es) (hal : SndP.Allowed x.plain) :
    Calls Try.prog 24 #[rpv a] w (SealPR w0 w B x node a g es (imgP x.plain (shown x.plain node true) (elSt es) x.plain.ports.length) (PorP.sealS x.plain node (elSt es))) := by
  have hq24 := h.q24 hal
  have Hal := Lib.hid hal
  have Hlen := Lib.hid h.stlen
  have Hql : Hid (x.plain.ports.length = x.qn) := Lib.hid h.cfg.qlen
  have HIm := Lib.hid (rimage_any w0 w B x node a g es h hal true)
  generalize imgP x.plain (shown x.plain node true) (elSt es) x.plain.ports.length = ps at *
  unfold rpv at HIm ⊢
  clear h hal
  go_enter Try.func24, Try.ntmps24
  go_wp2_with fail
  refine HIm.out.mono ?_
  rintro e1 w1 ⟨v, rfl, ys, hY⟩
  have HS : Hid (SealRR w0 w B x node a g es ps ys v (.int .i64 0) w1) := Lib.hid ⟨0, es, Nat.zero_le _, rfl, hY.rin, Goes.of_below hY.bel _ _, rfl, ⟨hY.row, hY.each, hY.plain⟩⟩
  obtain ⟨A, cap, rfl, -⟩ := own_slice hY.row
  generalize ys.length = n at *
  clear hY HIm
  go_wp2_with fail
  go_loopw [4] (SealRR w0 w B x node a g es ps ys (.slice A n cap)) (fun j _ => (x.qn + 1 - intOf j).toNat)
  case atStart => exact HS.out
  case round =>
    clear HS
    obtain ⟨k, es', hk, rfl, hr, hg, hst, hM⟩ := hrel
    have k12 := cell_at hr.hd 12 rfl
    by_cases hlt : k < x.qn
    case neg =>
      obtain rfl : k = x.qn := by omega
      have q1 : decide ((x.qn : Int) < (x.qn : Int)) = false := decide_eq_false (by omega)
      have HF : Hid (SealPR w0 w B x node a g es ps (PorP.sealS x.plain node (elSt es)) (.returned (.slice A n cap)) wr) := Lib.hid ⟨_, ys, rfl, hM, es', hr, hg, by rw [hst, ← Hql.out, mapK_all Hlen.out]; rfl⟩
      clear hr hg hst hM
      go_wp2_with fail
      go_ret
      exact HF.out
    have q1 : decide ((k : Int) < (x.qn : Int)) = true := decide_eq_true (by omega)
    have q1' : decide (k < x.qn) = true := decide_eq_true hlt
    have hkz : (k : Int) < (x.qn : Int) := by omega
    obtain ⟨e, he⟩ : ∃ e, es'[k]? = some e := ⟨_, List.getElem?_eq_getElem (by rw [hr.len]; exact hlt)⟩
    obtain ⟨p, hq⟩ := hr.port he
    have hsk : (elSt es)[k]? = some e.ps := mapK_at Hlen.out (by rw [← hst]; exact elSt_at he)
    have hmap := mapK_step (f := selF x.plain node) (st := elSt es) hq hsk
    have e1 : IntKind.i64.wrap ((k : Int) + 1) = (k : Int) + 1 := IntWalk.i64_in _ (by omega)
    obtain ⟨bQ, oQ, hQA, hQ⟩ := hr.portAt hq
    have kO := hQ.c2
    have k9 := cell_at hr.hd 9 rfl
    rw [hQA] at k9
    obtain ⟨Ae, ce, hve, -⟩ := (hr.els.each e (List.mem_of_getElem? he)).seg.slice
    have HMi := Lib.hid (rmine_any w0 wr B x node a g es' hr Hal.out k p hq)
    unfold rpv at HMi
    have hsh : shown x.plain node true p = (mineB x.plain node p && p.out) := by unfold shown; simp
    have HSame : Hid (shown x.plain node true p = false → ∀ m, SealRR w0 w B x node a g es ps ys (.slice A n cap) (.int .i64 ((k : Int) + 1)) (wr.drewN m)) := Lib.hid fun hsf m => by
      have hb : Below wr.heap.size wr (wr.drewN m) := below_drewN (Below.refl _ _) m
      refine ⟨k + 1, es', hlt, by go_num, hr.below hb, hg.trans (Goes.of_below hb _ _), ?_, hM.below hb⟩
      rw [hmap, hst, show selF x.plain node p e.ps = e.ps by unfold selF; rw [hsf]; rfl]
      exact (set_same (by rw [← hst]; exact elSt_at he)).symm
    have HNil : Hid (shown x.plain node true p = true → ∀ m, SealRR w0 w B x node a g es ps ys (.slice A n cap) (.int .i64 ((k : Int) + 1)) ((wr.drewN m).setCell ⟨g, k * 2, none⟩ (.slice none 0 0))) := Lib.hid fun hst1 m => by
      have hb : Below wr.heap.size wr (wr.drewN m) := below_drewN (Below.refl _ _) m
      have hr1 := hr.below hb
      have hs1 := hr1.els.setNil (by decide) (by decide) he
      have h1 := hr1.set he hs1
      refine ⟨k + 1, _, hlt, by go_num, h1, (hg.trans (Goes.of_below hb _ _)).trans hs1.2, ?_, (hM.below hb).goes hr1 hs1.2⟩
      rw [elSt_set, hmap, hst, show selF x.plain node p e.ps = ⟨[], e.age⟩ by unfold selF; rw [if_pos hst1]; rfl]; rfl
    have kV : wr.cell? ⟨g, k * 2, none⟩ = some (.slice Ae e.msgs.length ce) := by rw [← hve]; exact hr.els.cellV he
    have fV : wr.frozen? ⟨g, k * 2, none⟩ = false := hr.els.free _
    rw [hsh] at HSame HNil
    generalize e.msgs.length = el at *
    clear hr hg hst hM he hq hsk hmap hQ hQA hve hsh
    cases hm : mineB x.plain node p with
    | false =>
      rw [hm] at HMi HSame
      have HR := Lib.hid (HSame.out rfl)
      clear HSame HNil
      go_wp2_with fail
      refine HMi.out.mono ?_
      rintro e2 w2 ⟨rfl, m2, rfl⟩
      have HR2 := Lib.hid (HR.out m2)
      clear HR HMi
      go_wp2_with fail
      go_roundw
      case rel => exact HR2.out
      case measure => simp [intOf]; omega
    | true =>
      rw [hm] at HMi HSame HNil
      cases hpo : p.out with
      | false =>
        rw [hpo] at HSame kO
        have HR := Lib.hid (HSame.out rfl)
        clear HSame HNil
        go_wp2_with fail
        refine HMi.out.mono ?_
        rintro e2 w2 ⟨rfl, m2, rfl⟩
        have HR2 := Lib.hid (HR.out m2)
        clear HR HMi
        go_wp2_with fail
        go_roundw
        case rel => exact HR2.out
        case measure => simp [intOf]; omega
      | true =>
        rw [hpo] at HNil kO
        have HR := Lib.hid (HNil.out rfl)
        clear HSame HNil
        go_wp2_with fail
        refine HMi.out.mono ?_
        rintro e2 w2 ⟨rfl, m2, rfl⟩
        have HR2 := Lib.hid (HR.out m2)
        clear HR HMi
        go_wp2_with fail
        go_roundw
        case rel => exact HR2.out
        case measure => simp [intOf]; omega
end Go.Proofs.Ytdeodoppcflgfaa
namespace Go.Proofs.Ytdeodoppcflgfaa
open Go.RowKit PorP
set_option maxRecDepth 100000

/-- What Read answers. -/
def ReadPR (w0 w : World) (B : Nat) (x : CfgC) (node : Int) (a g : Nat) (es : List El) (port : Int) (r : (List UInt8 × Bool × Option Nat) × St) (e : Ending) (w' : World) : Prop :=
  ∃ D cc, e = .returned (.tuple #[.slice D r.1.1.length cc, .bool r.1.2.1, strV (errO r.1.2.2 port)]) ∧ Bytes w' w'.heap.size D r.1.1 ∧ LeftR w0 w B x node a g es r.2 w'
theorem atT_some (k : Nat) (a : Int) : (atT k a).isEmpty = false := by unfold atT; simp
theorem findR_hit {c : TableP.Cfg} {node part port : Int} {out : Bool} (h : findT c node part port out = none) : ∃ (i : Nat) (p : TableP.Port), port = (i : Int) ∧ c.ports[i]? = some p ∧ p.part = part ∧ mineB c node p = true ∧ p.out = out := by
  unfold findT at h
  split at h
  · cases h
  · rename_i h0
    obtain ⟨i, rfl⟩ := Int.eq_ofNat_of_zero_le (show 0 ≤ port by omega)
    rw [Int.toNat_natCast] at h
    split at h
    · cases h
    · rename_i p hp
      split at h
      · rename_i h1
        split at h
        · rename_i h2
          exact ⟨i, p, rfl, hp, h1.1, h1.2, h2⟩
        · cases h
      · cases h
/-- The message that is kept. -/
theorem ReadPR.kept {w0 w W : World} {B : Nat} {x : CfgC} {node : Int} {a g : Nat} {es : List El} {port : Int} (h : RIn w0 w B x node a g es) (hb : Below w.heap.size w W) {i : Nat} {e : El} (he : es[i]? = some e) {D : Option Addr} {cc : Nat} {d : List UInt8} (hx : (Value.slice D d.length cc, d) ∈ e.msgs) (f : Bool) :
    ReadPR w0 w B x node a g es port ((d, f, none), elSt es) (.returned (.tuple #[.slice D d.length cc, .bool f, strV []])) W := by
  have h1 := h.below hb
  obtain ⟨A', c', e1, -, -, hby, -⟩ := own_bytes ((h1.els.each e (List.mem_of_getElem? he)).rows _ hx)
  injection e1 with e1
  refine ⟨D, cc, rfl, ?_, LeftR.same h hb⟩
  rw [e1]
  exact hby

set_option maxHeartbeats 8000000 in
theorem rread_any (w0 w : World) (B : Nat) (x : CfgC) (node : Int) (a g : Nat) (es : List El) (h : RIn w0 w B x node a g es) (hal : SndP.Allowed x.plain) (part port : Int) (hport : port ≤ 9223372036854775807) :
    Calls Try.prog 22 #[rpv a, .int .i64 part, .int .i64 port] w (ReadPR w0 w B x node a g es port (readT x.plain node (elSt es) part port)) := by
  have HFi := Lib.hid (rfind_any w0 w B x node a g es h hal part port hport false)
  have HAt := Lib.hid (fun W => at_any 10 port W (by omega) hport)
  unfold readT
  obtain ⟨o, ho⟩ : ∃ o, findT x.plain node part port false = o := ⟨_, rfl⟩
  rw [ho] at HFi ⊢
  cases o with
  | some k =>
    simp only
    have HEnd : Hid (∀ W, Below w.heap.size w W → ReadPR w0 w B x node a g es port (([], false, some k), elSt es) (.returned (.tuple #[.slice none 0 0, .bool false, strV (errO (some k) port)])) W) := Lib.hid fun W hW => ⟨none, 0, rfl, Bytes.none_, LeftR.same h hW⟩
    have hT := atT_some k port
    clear h hal ho HAt
    unfold errO strV rpv at *
    go_enter Try.func22, Try.ntmps22
    go_wp2_with fail
    refine HFi.out.mono ?_
    rintro e w1 ⟨rfl, hb⟩
    have HF := Lib.hid (HEnd.out w1 hb)
    clear hb HFi HEnd
    go_wp2_with fail
    go_ret3
    exact HF.out
  | none =>
    obtain ⟨i, p, rfl, hp, -, -, -⟩ := findR_hit ho
    simp only [Int.toNat_natCast, hp]
    obtain ⟨e, he⟩ := h.el hp
    rw [elSt_at he]
    simp only
    have hlt := h.qlt hp
    have hq24 := h.q24 hal
    have hiz : (i : Int) < (x.qn : Int) := by omega
    have HB1 : Hid (∀ W, Below w.heap.size w W → RIn w0 W B x node a g es) := Lib.hid fun W hW => h.below hW
    have hs0 : strV (errO none (i : Int)) = .string ⟨#[]⟩ := rfl
    have hm4 := (h.els.ok e (List.mem_of_getElem? he)).1
    have Hei := Lib.hid he
    rw [show e.ps.msgs = e.msgs.map Prod.snd from rfl, show e.ps.age = e.age from rfl]
    unfold rpv at *
    rw [hs0] at HFi
    clear ho
    cases hms : e.msgs with
    | nil =>
      simp only [List.map_nil]
      have HEnd : Hid (∀ W, Below w.heap.size w W → ReadPR w0 w B x node a g es i (([], false, some 10), elSt es) (.returned (.tuple #[.slice none 0 0, .bool false, strV (atT 10 i)])) W) := Lib.hid fun W hW => ⟨none, 0, rfl, Bytes.none_, LeftR.same h hW⟩
      unfold strV at *
      clear h hal hp he
      go_enter Try.func22, Try.ntmps22
      go_wp2_with fail
      refine HFi.out.mono ?_
      rintro e2 w1 ⟨rfl, hb⟩
      have hr1 := HB1.out w1 hb
      have k12 := cell_at hr1.hd 12 rfl
      have kV : w1.cell? ⟨g, i * 2, none⟩ = some e.v := hr1.els.cellV Hei.out
      obtain ⟨Ae, ce, hve, -⟩ := (hr1.els.each e (List.mem_of_getElem? Hei.out)).seg.slice
      rw [hve, hms] at kV
      simp only [List.length_nil] at kV
      have Hb := Lib.hid hb
      clear hr1 hve hb HFi HB1 hms
      go_wp2_with fail
      refine (HAt.out _).mono ?_
      rintro e2 w2 ⟨rfl, hb2⟩
      have HF := Lib.hid (HEnd.out w2 (Hb.out.trans (hb2.mono Hb.out.size)))
      clear hb2 HEnd HAt
      go_wp2_with fail
      go_ret3
      exact HF.out
    | cons t r =>
      simp only [List.map_cons]
      have ht : e.msgs[0]? = some t := by rw [hms]; rfl
      obtain ⟨bQ, oQ, hQA, hQ⟩ := h.portAt hp
      have HQ : Hid (∀ W, Below w.heap.size w W → PortAt W bQ (oQ + i * 6) p) := Lib.hid fun W hW => by
        obtain ⟨b', o', e1, e2⟩ := (h.below hW).portAt hp
        rw [hQA] at e1
        injection e1 with e1
        injection e1 with e1 e3
        subst e1 e3
        exact e2
      have hk : p.kind = 1 ∨ p.kind ≠ 1 := by omega
      rcases hk with hk | hk
      · rw [if_pos hk]
        obtain ⟨bV, oV, cV, D, cc, hve, -, htt⟩ := h.txtAt he ht
        have HEnd : Hid (∀ W, Below w.heap.size w W → ReadPR w0 w B x node a g es i ((t.2, decide ((e.age : Int) ≤ p.fresh), none), elSt es) (.returned (.tuple #[.slice D t.2.length cc, .bool (decide ((e.age : Int) ≤ p.fresh)), strV []])) W) := Lib.hid fun W hW => ReadPR.kept h hW he (by rw [← htt]; exact List.mem_of_getElem? ht) _
        have q1 : (((p.kind : Nat) : Int) == 1) = true := by rw [hk]; rfl
        have hml : e.msgs.length = r.length + 1 := by rw [hms]; rfl
        have HT : Hid (∀ W, Below w.heap.size w W → W.cell? ⟨bV, oV, none⟩ = some (.slice D t.2.length cc)) := Lib.hid fun W hW => by
          obtain ⟨b', o', c', D', cc', e1, e2, e3⟩ := (h.below hW).txtAt he ht
          rw [hve] at e1
          injection e1 with e1
          injection e1 with e1
          injection e1 with e4 e5
          rw [htt] at e3
          injection e3 with e6 e7
          injection e6 with e8 e9 e10
          subst e4 e5 e8 e10
          rw [Nat.add_zero] at e2
          exact e2
        unfold strV at *
        clear h hal hp he ht htt HAt hms hk hQ
        go_enter Try.func22, Try.ntmps22
        go_wp2_with fail
        refine HFi.out.mono ?_
        rintro e2 w1 ⟨rfl, hb⟩
        have hr1 := HB1.out w1 hb
        have k9 := cell_at hr1.hd 9 rfl
        rw [hQA] at k9
        have k12 := cell_at hr1.hd 12 rfl
        have kV : w1.cell? ⟨g, i * 2, none⟩ = some e.v := hr1.els.cellV Hei.out
        have kA : w1.cell? ⟨g, i * 2 + 1, none⟩ = some (.int .i64 (e.age : Nat)) := hr1.els.cellA Hei.out
        rw [hve, hml] at kV
        have kT := HT.out w1 hb
        have hQ1 := HQ.out w1 hb
        have kK := hQ1.c1
        have kF := hQ1.c5
        have HF : Hid (∀ m, _) := Lib.hid fun m => HEnd.out (w1.drewN m) (hb.trans (below_drewN (Below.refl _ _) m))
        clear hr1 hve hb HFi HB1 HEnd HT HQ hQ1 hQA hml hm4
        generalize p.kind = kind at *
        generalize e.age = age at *
        generalize hfr : decide ((age : Int) ≤ p.fresh) = fr at *
        generalize t.2.length = tl at *
        generalize x.qn = qn at *
        go_wp2_with fail
        go_quiet (fail)
        go_wp2_with fail
        go_ret3
        exact HF.out _
      · rw [if_neg hk]
        obtain ⟨bV, oV, cV, D, cc, hve, -, htt⟩ := h.txtAt he ht
        obtain ⟨TA, hTA⟩ : ∃ TA : Addr, (if cV = 1 then (⟨bV, oV, none⟩ : Addr) else ⟨bV, oV + 1 * 1, none⟩) = TA := ⟨_, rfl⟩
        have hsl : ∀ W, (Instr.slice 59 (.slice (some ⟨bV, oV, none⟩) (r.length + 1) cV) (some (.int .i64 1)) none none).run Try.prog W = .ok (.slice (some TA) r.length (cV - 1)) W := fun W => by
          have h1 := run_slice_froms (P := Try.prog) W 59 44 1 Try.underlying59 (fun w => by kernel_rfl) bV oV (r.length + 1) cV 1 1 rfl (by omega)
          rw [hTA, Nat.add_sub_cancel] at h1
          exact h1
        have hml : e.msgs.length = r.length + 1 := by rw [hms]; rfl
        have HEnd : Hid (∀ W, Below w.heap.size w W → ReadPR w0 w B x node a g es i ((t.2, true, none), (elSt es).set i ⟨r.map Prod.snd, e.age⟩) (.returned (.tuple #[.slice D t.2.length cc, .bool true, strV []])) (W.setCell ⟨g, i * 2, none⟩ (.slice (some TA) r.length (cV - 1)))) := Lib.hid fun W hW => by
          have h1 := h.below hW
          have hl := h1.els.each e (List.mem_of_getElem? he)
          rw [hve, hms] at hl
          have hl2 := LIn.tail txtVals_len hl
          rw [hTA] at hl2
          have hs1 := h1.els.setV (by decide) (by decide) he (Apart.refl _ W) hl2 (fun hz => absurd hz (by decide)) (fun q hq => .inl (by
            rw [hve]
            rw [← hTA] at hq
            split at hq <;> exact hq)) (fun y hy => .inl (by rw [hms]; exact List.mem_cons_of_mem _ hy)) (by
            have h4 := h1.els.ok e (List.mem_of_getElem? he)
            rw [hms] at h4
            exact ⟨by have := h4.1; simp only [List.length_cons] at this; omega, fun y hy => h4.2.1 y (List.mem_cons_of_mem _ hy)⟩)
          have h2 := h1.set he hs1
          have hrow := (h1.els.each e (List.mem_of_getElem? he)).rows t (List.mem_of_getElem? ht)
          rw [htt] at hrow
          have hrow2 := own_apart hrow (Apart.setCell (F := fun q => q = g) (Apart.refl _ W) (p := ⟨g, i * 2, none⟩) (.inl rfl) (.slice (some TA) r.length (cV - 1))) (fun q hq => own_off hrow h1.els.row (by decide) q hq)
          obtain ⟨A', c', e1, -, -, hby, -⟩ := own_bytes hrow2
          injection e1 with e1
          refine ⟨D, cc, rfl, ?_, _, h2, (Goes.of_below hW _ _).trans hs1.2, ?_⟩
          · rw [e1]
            exact hby
          · rw [elSt_set]; rfl
        have q1 : (((p.kind : Nat) : Int) == 1) = false := by rw [beq_eq_false_iff_ne]; omega
        have HT : Hid (∀ W, Below w.heap.size w W → W.cell? ⟨bV, oV, none⟩ = some (.slice D t.2.length cc)) := Lib.hid fun W hW => by
          obtain ⟨b', o', c', D', cc', e1, e2, e3⟩ := (h.below hW).txtAt he ht
          rw [hve] at e1
          injection e1 with e1
          injection e1 with e1
          injection e1 with e4 e5
          rw [htt] at e3
          injection e3 with e6 e7
          injection e6 with e8 e9 e10
          subst e4 e5 e8 e10
          rw [Nat.add_zero] at e2
          exact e2
        unfold strV at *
        clear h hal hp he ht htt HAt hms hk hQ
        go_enter Try.func22, Try.ntmps22
        go_wp2_with fail
        refine HFi.out.mono ?_
        rintro e2 w1 ⟨rfl, hb⟩
        have hr1 := HB1.out w1 hb
        have k9 := cell_at hr1.hd 9 rfl
        rw [hQA] at k9
        have k12 := cell_at hr1.hd 12 rfl
        have kV : w1.cell? ⟨g, i * 2, none⟩ = some e.v := hr1.els.cellV Hei.out
        rw [hve, hml] at kV
        have fV : w1.frozen? ⟨g, i * 2, none⟩ = false := hr1.els.free _
        have kT := HT.out w1 hb
        have hQ1 := HQ.out w1 hb
        have kK := hQ1.c1
        have HF := Lib.hid (HEnd.out w1 hb)
        clear hr1 hve hb HFi HB1 HEnd HT HQ hQ1 hQA hml hm4 hTA
        generalize p.kind = kind at *
        generalize e.age = age at *
        generalize t.2.length = tl at *
        generalize x.qn = qn at *
        go_wp2_with fail
        go_ret3
        exact HF.out
end Go.Proofs.Ytdeodoppcflgfaa
