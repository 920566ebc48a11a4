/- PortsQueue: the walk of the law. Conditions: where the texts lie. -/
import Derived.Test.YtdeodoppcflgfaaPorQa
namespace Go.Proofs.Ytdeodoppcflgfaa
open Go.RowKit PorP
set_option maxRecDepth 100000

theorem infoS13 : (Try.prog.info? 9).map (fun i => (i.zero, i.size, i.bytes)) = some (some (.string ⟨#[]⟩), 1, 16) := by kernel_rfl
/-- Texts in a row of strings of the call's own. -/
def strVals (s : List UInt8) : List Value := [.string ⟨s.toArray⟩]
def strsV (l : List (List UInt8)) : List Value := itemsV strVals l
def StrsO (W : World) (B : Nat) (v : Value) (l : List (List UInt8)) : Prop := W.ownsRow B 9 1 v l.length (strsV l)
def qS (q : List (List UInt8)) : St := [⟨q, 0⟩, PS.empty, PS.empty, PS.empty]
def qR (q : List (List UInt8)) : St := [PS.empty, ⟨q, 0⟩, PS.empty, PS.empty]
theorem q_write (t : Int) (q : List (List UInt8)) (d : List UInt8) : (q.length < 4 ∧ d.length ≤ 16 → writeP (wired 16 16 4 t 1) 0 (qS q) 0 0 d = (none, qS (q ++ [d]))) ∧ (¬ (q.length < 4 ∧ d.length ≤ 16) → ∃ k, writeP (wired 16 16 4 t 1) 0 (qS q) 0 0 d = (some k, qS q)) := by
  unfold qS
  rw [wiredP_write0]
  refine ⟨fun h => ?_, fun h => ?_⟩
  · rw [if_neg (by omega), if_pos (by simp only; omega)]
  · by_cases h1 : (16 : Int) < (d.length : Int)
    · exact ⟨12, by rw [if_pos h1]⟩
    · exact ⟨11, by rw [if_neg h1, if_neg (by simp only; omega)]⟩
theorem q_seal (t : Int) (q : List (List UInt8)) : imgP (wired 16 16 4 t 1) TableP.Port.out (qS q) 4 = q.map (msgOf 0) ∧ List.zipWith outF (wired 16 16 4 t 1).ports (qS q) = qS [] := by
  refine ⟨?_, rfl⟩
  simp [imgP, wired, qS, PS.empty]
theorem q_deliver {D : Nat} (q : List (List UInt8)) (h : ∀ d ∈ q, d.length ≤ 16) : deliverT (wired 16 16 4 (D : Int) 1) 1 0 ((q.map (msgOf 0)).map (fun m => (m.port, m.data))) (qR []) = (min q.length D, qR (q.take D)) := by
  have h1 := wired_queue (z1 := 16) (d0 := 4) (fr := 1) (s0 := PS.empty) (s2 := PS.empty) (s3 := PS.empty) (D := D) q [] 0 h (by simp)
  simp only [List.length_nil, Nat.sub_zero, List.nil_append] at h1
  rw [List.map_map]
  exact h1
theorem q_read (t : Int) (d : List UInt8) (q : List (List UInt8)) : readT (wired 16 16 4 t 1) 1 (qR (d :: q)) 1 1 = ((d, true, none), qR q) := by unfold qR; rw [wired_read1]
theorem q_read0 (t : Int) : readT (wired 16 16 4 t 1) 1 (qR []) 1 1 = (([], false, some 10), qR []) := by unfold qR; rw [wired_read1]
theorem DuoE.row {W W' : World} {B : Nat} {c : TableP.Cfg} {a b : Nat} {sx sy : St} (h : DuoE W B c a b sx sy) {B' size n : Nat} {v : Value} {xs : List Value} (ho : W.ownsRow B' 9 size v n xs) (ha : Apart (fun q => v.ownBlock = some q) W W') : DuoE W' B c a b sx sy := by
  obtain ⟨hB, x, y, h1, h2, h3⟩ := h
  have hb : ∀ k, v.ownBlock = some k → ∃ cs, W.heap[k]? = some (.cells cs 9 (0, 0)) := (Seg.of_own ho).block
  have hp : ∀ z : PC, PIn W B c z → PIn W' B c z := fun z hz => hz.beside ha (fun k hk hv => by
    obtain ⟨cs, e1⟩ := hb k hv
    exact hz.els.fOff e1 (by decide) (by decide) hk) (fun k hv => by
    obtain ⟨cs, e1⟩ := hb k hv
    exact ⟨cs, _, e1, by decide, by decide, by decide⟩)
  exact ⟨Nat.le_trans hB ha.size, x, y, h1, h2, ⟨hp x h3.px, hp y h3.py, h3.nx, h3.ny, h3.sx, h3.sy, h3.off⟩⟩
def QueR (w3 : World) (t : Nat) (aa ba : Nat) (l : List (List UInt8)) (v i : Value) (wr : World) : Prop :=
  ∃ k : Nat, k ≤ l.length ∧ i = .int .i64 (k : Nat) ∧ DuoE wr w3.heap.size (wired 16 16 4 (1 + (t : Int)) 1) aa ba (qS (wantT [] (l.take k))) (qR []) ∧ StrsO wr w3.heap.size v (wantT [] (l.take k)) ∧ Below w3.heap.size w3 wr
def GetR (w3 : World) (t : Nat) (aa ba : Nat) (q : List (List UInt8)) (K : Nat) (v : Value) (i : Value) (wr : World) : Prop :=
  ∃ k : Nat, k ≤ K ∧ i = .int .i64 (k : Nat) ∧ DuoE wr w3.heap.size (wired 16 16 4 (1 + (t : Int)) 1) aa ba (qS []) (qR ((q.take K).drop k)) ∧ StrsO wr w3.heap.size v q ∧ Below w3.heap.size w3 wr

set_option maxHeartbeats 8000000 in
theorem queue_law (A : Option Addr) (n cap : Nat) (l : List TxC) (hl : l.length = n) (depth : Int) (w : World) (hm : TxsIn w A l) :
    Calls Try.prog 4 #[.slice A n cap, .int .i64 depth] w (AwakeP w) := by
  have HAw := Lib.hid (awake13_any w)
  by_cases h50 : 50 < n
  · have q1 : decide ((50 : Int) < (n : Int)) = true := decide_eq_true (by omega)
    have q2 : decide (50 < n) = true := decide_eq_true h50
    clear hm h50 hl
    go_enter Try.func4, Try.ntmps4
    go_wp2_with fail
    refine HAw.out.mono ?_
    rintro e w1 ⟨rfl, hb1⟩
    have HF := Lib.hid hb1
    clear hb1 HAw
    go_wp2_with fail
    go_ret
    exact ⟨rfl, HF.out⟩
  have q1 : decide ((50 : Int) < (n : Int)) = false := decide_eq_false (by omega)
  have q2 : decide (50 < n) = false := decide_eq_false h50
  have Hm := Lib.hid (fun W (hW : Below w.heap.size w W) => hm.below hW)
  have Hn : Hid (n ≤ 50) := Lib.hid (by omega)
  have Hl := Lib.hid hl
  obtain ⟨t, ht, et⟩ := mod_of depth 4 (by omega) (by omega)
  have Hok : Hid (SndP.chk6 (wired 16 16 4 (1 + (t : Int)) 1) = none) := Lib.hid (wired_deep t (by omega))
  have Ht := Lib.hid ht
  clear hm hl h50 ht
  go_enter Try.func4, Try.ntmps4
  go_wp2_with fail
  refine HAw.out.mono ?_
  rintro e w1 ⟨rfl, hb1⟩
  have HB1 := Lib.hid hb1
  clear hb1 HAw
  go_wp2_with fail
  refine (wired_any w1).mono ?_
  rintro e w2 ⟨rfl, h2, hb2⟩
  have HX := Lib.hid (BoxIn.boxed h2)
  have HXb : Hid (Below w.heap.size w (w2.alloc (.cells (cfgCells (wC (w1.heap.size + 2) 1 1 2 1 1)) 26))) := Lib.hid ((HB1.out.trans (hb2.mono HB1.out.size)).alloc (Nat.le_trans HB1.out.size hb2.size) _)
  have Hw2 : Hid (w.heap.size ≤ w1.heap.size + 2) := Lib.hid (by have := HB1.out.size; omega)
  clear h2 hb2 q1 q2
  unfold wC CfgC.value cfgCells at *
  generalize w1.heap.size + 2 = N at *
  go_wp2_with fail
  generalize World.alloc w2 _ = w3 at *
  have k9 : w3.cell? ⟨w2.heap.size, 9, none⟩ = some (.slice (some ⟨N + 1, 0, none⟩) 4 4) := cell_at HX.out.box 9 rfl
  have c4 : w3.cell? ⟨N + 1, 4, none⟩ = some (.int .i64 2) := cell_at HX.out.wir.ports 4 rfl
  have c10 : w3.cell? ⟨N + 1, 10, none⟩ = some (.int .i64 1) := cell_at HX.out.wir.ports 10 rfl
  have f4 := free_at HX.out.wir.ports 4
  have f10 := free_at HX.out.wir.ports 10
  have hne := HX.out.off
  have hne2 : N + 1 ≠ w2.heap.size := Ne.symm hne
  have e1 : IntKind.i64.wrap (1 + (t : Int)) = 1 + (t : Int) := IntWalk.i64_in _ (by have := Ht.out; omega)
  go_region
  have HX4 := Lib.hid ((HX.out.setD0 4).setD1 (1 + (t : Int))).drew
  have HX4b := Lib.hid ((HXb.out.setCell (p := ⟨N + 1, 4, none⟩) (by have := Hw2.out; simp; omega) (.int .i64 4)).setCell (p := ⟨N + 1, 10, none⟩) (by have := Hw2.out; simp; omega) (.int .i64 (1 + (t : Int)))).drew
  clear k9 c4 c10 f4 f10 e1 HX HXb
  generalize World.drew (World.setCell (World.setCell w3 _ _) _ _) = w4 at *
  have k9 : w4.cell? ⟨w2.heap.size, 9, none⟩ = some (.slice (some ⟨N + 1, 0, none⟩) 4 4) := cell_at HX4.out.box 9 rfl
  have c3 : w4.cell? ⟨N + 1, 3, none⟩ = some (.int .i64 1) := cell_at HX4.out.wir.ports 3 rfl
  have c9 : w4.cell? ⟨N + 1, 9, none⟩ = some (.int .i64 1) := cell_at HX4.out.wir.ports 9 rfl
  have f3 := free_at HX4.out.wir.ports 3
  have f9 := free_at HX4.out.wir.ports 9
  go_wp2_with fail
  go_region
  have hX5 := ((HX4.out.setZ0 16).setZ1 16).drew
  have hX5b := ((HX4b.out.setCell (p := ⟨N + 1, 3, none⟩) (by have := Hw2.out; simp; omega) (.int .i64 16)).setCell (p := ⟨N + 1, 9, none⟩) (by have := Hw2.out; simp; omega) (.int .i64 16)).drew
  clear k9 c3 c9 f3 f9 HX4 HX4b
  generalize World.drew (World.setCell (World.setCell w4 _ _) _ _) = w5 at *
  have HX5 := Lib.hid hX5
  have HX5b := Lib.hid hX5b
  clear hX5 hX5b
  have HNew : Hid (∀ W, BoxIn W w2.heap.size N 16 16 4 (1 + (t : Int)) 1 → ∀ node : Int, 0 ≤ node ∧ node < 2 → Calls Try.prog 12 #[(wC N 16 16 4 (1 + (t : Int)) 1).value, .int .i64 node] W (WNew W (wired 16 16 4 (1 + (t : Int)) 1) node)) := Lib.hid fun W hW node hn => wnew_any 16 16 4 (1 + (t : Int)) 1 Hok.out _ node hn W hW.wir
  unfold wC CfgC.value at HNew
  have HC := HX5.out.box
  unfold cfgCells wC at HC
  have k0 := cell_at HC 0 rfl
  have k1 := cell_at HC 1 rfl
  have k2 := cell_at HC 2 rfl
  have k3 := cell_at HC 3 rfl
  have k4 := cell_at HC 4 rfl
  have k5 := cell_at HC 5 rfl
  have k6 := cell_at HC 6 rfl
  have k7 := cell_at HC 7 rfl
  have k8 := cell_at HC 8 rfl
  have k9 := cell_at HC 9 rfl
  have k10 := cell_at HC 10 rfl
  clear HC
  go_wp2_with fail
  clear k0 k1 k2 k3 k4 k5 k6 k7 k8 k9 k10
  have HC3 := Lib.hid (HNew.out w5 HX5.out 0 (by omega))
  refine HC3.out.mono ?_
  clear HC3
  rintro e w6 ⟨a, rfl, na, pa, sa, hb6⟩
  have HX6 := Lib.hid (HX5.out.below hb6)
  have Ha := Lib.hid (And.intro na (And.intro pa sa))
  have Hb6 := Lib.hid hb6
  clear na pa sa hb6
  unfold pv
  have HC := HX6.out.box
  unfold cfgCells wC at HC
  have k0 := cell_at HC 0 rfl
  have k1 := cell_at HC 1 rfl
  have k2 := cell_at HC 2 rfl
  have k3 := cell_at HC 3 rfl
  have k4 := cell_at HC 4 rfl
  have k5 := cell_at HC 5 rfl
  have k6 := cell_at HC 6 rfl
  have k7 := cell_at HC 7 rfl
  have k8 := cell_at HC 8 rfl
  have k9 := cell_at HC 9 rfl
  have k10 := cell_at HC 10 rfl
  clear HC
  go_wp2_with fail
  clear k0 k1 k2 k3 k4 k5 k6 k7 k8 k9 k10
  have HC6 := Lib.hid (HNew.out w6 HX6.out 1 (by omega))
  refine HC6.out.mono ?_
  clear HC6
  rintro e w7 ⟨b, rfl, nb, pb, sb, hb7⟩
  have HB7 := Lib.hid (Hb6.out.trans (hb7.mono Hb6.out.size))
  have HD7 : Hid (DuoE w7 w5.heap.size (wired 16 16 4 (1 + (t : Int)) 1) a.a b.a (qS []) (qR [])) := Lib.hid (by
    have h := duo_news Ha.out.1 Ha.out.2.1 nb pb (Below.refl _ w6) hb7 Hb6.out.size
    rw [Ha.out.2.2, sb] at h
    exact h)
  clear nb pb sb hb7 Ha
  unfold pv
  generalize a.a = aa at *
  generalize b.a = ba at *
  have HAl := Lib.hid (SndP.works Hok.out).allowed
  have HT := Lib.hid (fun W (hW : Below w5.heap.size w5 W) => HX5b.out.trans (hW.mono HX5b.out.size))
  have HX := Lib.hid (fun W (hW : Below w5.heap.size w5 W) => HX5.out.below hW)
  clear HNew HX6 HX5 HX5b Hb6
  obtain ⟨ls, els⟩ : ∃ ls, l.map TxC.data = ls := ⟨_, rfl⟩
  have Hls : Hid (ls.length = n) := Lib.hid (by rw [← els, List.length_map]; exact Hl.out)
  have HS0 : Hid (QueR w5 t aa ba ls (.slice none 0 0) (.int .i64 0) w7) := Lib.hid ⟨0, Nat.zero_le _, rfl, HD7.out, World.ownsRow_nil _ _ _ _, HB7.out⟩
  have Hel := Lib.hid els
  clear els HD7 HB7
  go_wp2_with fail
  go_loopw [10, 64] (QueR w5 t aa ba ls) (fun _ j _ => (n + 1 - intOf j).toNat)
  case atStart => exact HS0.out
  case round =>
    clear HS0
    obtain ⟨k, hk, rfl, hDr, hOr, hBr⟩ := hrel
    by_cases hlt : k < n
    case pos =>
      obtain ⟨x, hx⟩ : ∃ x, l[k]? = some x := ⟨_, List.getElem?_eq_getElem (by rw [Hl.out]; exact hlt)⟩
      have hxd : ls[k]? = some x.data := by rw [← Hel.out, List.getElem?_map, hx]; rfl
      obtain ⟨bx, ox, rfl, hbx, hxi⟩ := Hm.out wr (HT.out wr hBr) (by rw [Hl.out]; omega)
      obtain ⟨kx, hxm, hxc, hxb⟩ := hxi k x hx
      obtain ⟨xA, xm, xc, d⟩ := x
      simp only at kx hxm hxb hxd hxc
      subst hxm
      have hw := want_take hxd
      have hwl := (want_ok (ls.take k) [] (by simp) (by simp)).1
      obtain ⟨q, hq⟩ : ∃ q, wantT [] (ls.take k) = q := ⟨_, rfl⟩
      rw [hq] at hw hwl hDr hOr
      obtain ⟨Aq, cq, rfl, hcq⟩ := own_slice hOr
      have hn50 := Hn.out
      have q3 : decide ((k : Int) < (n : Int)) = true := decide_eq_true (by omega)
      have q4 : decide (k < n) = true := decide_eq_true hlt
      have e1 : IntKind.i64.wrap ((k : Int) + 1) = (k : Int) + 1 := IntWalk.i64_in _ (by omega)
      have HDr := Lib.hid hDr
      have HOr := Lib.hid hOr
      have HBr := Lib.hid hBr
      have Hlt := Lib.hid hlt
      have Hxb : Hid (∀ W, Below w5.heap.size w5 W → Bytes W W.heap.size xA d) := Lib.hid fun W hW => by
        obtain ⟨b', o', -, -, hi⟩ := Hm.out W (HT.out W hW) (by rw [Hl.out]; omega)
        exact (hi k _ hx).2.2.2
      have Hwl := Lib.hid hwl
      have Hcx : Hid (d.length ≤ 140737488355328) := Lib.hid hxc
      have Hhw := Lib.hid hw
      clear hDr hOr hBr hlt hxb hxc hwl hw hbx hxi hx hxd hq hk hn50
      by_cases hok : q.length < 4 ∧ d.length ≤ 16
      case pos =>
        have q5 : decide ((q.length : Int) < 4) = true := decide_eq_true (by omega)
        have q6 : decide (q.length < 4) = true := decide_eq_true hok.1
        have q7 : decide ((d.length : Int) ≤ 16) = true := decide_eq_true (by omega)
        have q8 : decide (d.length ≤ 16) = true := decide_eq_true hok.2
        have HNx : Hid (∀ v W, DuoE W w5.heap.size (wired 16 16 4 (1 + (t : Int)) 1) aa ba (qS (q ++ [d])) (qR []) → W.ownsRow w5.heap.size 9 1 v (q.length + 1) (strsV q ++ strVals d) → Below w5.heap.size w5 W → QueR w5 t aa ba ls v (.int .i64 ((k : Int) + 1)) W) := Lib.hid fun v W h1 h2 h3 => ⟨k + 1, by rw [Hls.out]; exact Hlt.out, by go_num, by rw [Hhw.out, if_pos hok]; exact h1, by rw [Hhw.out, if_pos hok]; unfold StrsO strsV; rw [List.length_append, itemsV_append, itemsV_one']; exact h2, h3⟩
        have Hok2 := Lib.hid hok
        have HWr := Lib.hid ((q_write (1 + (t : Int)) q d).1 hok)
        clear hok
        go_wp2_with (at_builtin
                     refine wpList_copy (by rfl) (.tmp 77) (.tmp 78) rfl rfl xA d.length xc d rfl rfl (Hxb.out wr HBr.out) (by have := Hok2.out; omega) ?_
                     intro A6 c6 w8 _ h1 h2 h3
                     have HB8 := Lib.hid (HBr.out.trans (h3.mono HBr.out.size))
                     have HO8 := Lib.hid (own_apart (F := fun _ => False) HOr.out (Apart.of_below' h3) (fun _ _ h => h))
                     have HW8 := Lib.hid (duo_write (HDr.out.below h3) HAl.out 0 0 (by omega) A6 _ c6 d rfl h1 h2 _ HWr.out)
                     clear h1 h2 h3 HDr HBr HWr HOr)
        refine HW8.out.mono ?_
        rintro e w9 ⟨v, rfl, hv9, hD9, hT9⟩
        obtain rfl : v = .nilIface := hv9.form
        have HD9 := Lib.hid hD9
        have HB9 := Lib.hid (HB8.out.trans (hT9.below HB8.out.size))
        have HO9 := Lib.hid (hT9.own HO8.out (by decide) (by decide))
        have kc : (convert 44 9 (.slice xA (d.length : Nat) xc)).run Try.prog w9 = .ok (.string ⟨d.toArray⟩) w9 := conv_w rfl (Hxb.out w9 HB9.out)
        have HNx2 : Hid (∀ o v10 w10, w10.ownsRow w5.heap.size 9 1 v10 (q.length + 1) (strsV q ++ strVals d) → Apart (fun r => (Value.slice Aq q.length cq).ownBlock = some r) (w9.alloc o) w10 → QueR w5 t aa ba ls v10 (.int .i64 ((k : Int) + 1)) w10) := Lib.hid fun o v10 w10 h1 h2 => by
          have hba : Below w9.heap.size w9 (w9.alloc o) := (Below.refl _ _).alloc (Nat.le_refl _) _
          have ho := HO9.out.alloc o
          refine HNx.out v10 w10 ((HD9.out.below hba).row ho h2) h1 ((HB9.out.trans (hba.mono HB9.out.size)).trans (Apart.below h2 (Nat.le_trans HB9.out.size hba.size) (fun r hr => (ho.lt r hr).1)))
        have hs9 := HB9.out.size
        have hq4 := Hok2.out.1
        clear hv9 hD9 hT9 HW8 HB8 HO8 Hxb HNx
        go_wp2_with (at_builtin
                     refine wpList_append_s rfl (.tmp 85) (.tmp 88) _ rfl w5.heap.size 9 _ 1 16 Try.underlying64 infoS13 rfl (by omega) _ q.length (strsV q) rfl (HO9.out.alloc _) (some ⟨w9.heap.size, 0, none⟩) 1 1 (strVals d) rfl rfl ?n2 ?n3 (by unfold maxLen; omega) (by omega) (by simp; omega) ?_
                     case n2 => exact fun _ => ⟨_, rfl, laid_at w9 9 _ _ rfl⟩
                     case n3 =>
                       intro u hu
                       simp only [strVals, List.mem_singleton] at hu
                       subst hu
                       rfl
                     intro v10 w10 ho10 ha10 hb10
                     have HR := Lib.hid (HNx2.out _ v10 w10 ho10 ha10)
                     obtain ⟨A10, c10, rfl, -⟩ := own_slice ho10
                     clear ho10 ha10 hb10 HNx2 HO9)
        go_roundw
        case rel => exact HR.out
        case measure => have := Hlt.out; simp [intOf]; omega
      case neg =>
        obtain ⟨ko, hko⟩ := (q_write (1 + (t : Int)) q d).2 hok
        have HWr := Lib.hid hko
        have HNx : Hid (∀ W, DuoE W w5.heap.size (wired 16 16 4 (1 + (t : Int)) 1) aa ba (qS q) (qR []) → StrsO W w5.heap.size (.slice Aq q.length cq) q → Below w5.heap.size w5 W → QueR w5 t aa ba ls (.slice Aq q.length cq) (.int .i64 ((k : Int) + 1)) W) := Lib.hid fun W h1 h2 h3 => ⟨k + 1, by rw [Hls.out]; exact Hlt.out, by go_num, by rw [Hhw.out, if_neg hok]; exact h1, by rw [Hhw.out, if_neg hok]; exact h2, h3⟩
        clear hko
        by_cases hq4 : q.length < 4
        case pos =>
          have q5 : decide ((q.length : Int) < 4) = true := decide_eq_true (by omega)
          have q6 : decide (q.length < 4) = true := decide_eq_true hq4
          have q7 : decide ((d.length : Int) ≤ 16) = false := decide_eq_false (by omega)
          have q8 : decide (d.length ≤ 16) = false := decide_eq_false (by omega)
          clear hok
          go_wp2_with (at_builtin
                       refine wpList_copy (by rfl) (.tmp 77) (.tmp 78) rfl rfl xA d.length xc d rfl rfl (Hxb.out wr HBr.out) Hcx.out ?_
                       intro A6 c6 w8 _ h1 h2 h3
                       have HB8 := Lib.hid (HBr.out.trans (h3.mono HBr.out.size))
                       have HO8 := Lib.hid (own_apart (F := fun _ => False) HOr.out (Apart.of_below' h3) (fun _ _ h => h))
                       have HW8 := Lib.hid (duo_write (HDr.out.below h3) HAl.out 0 0 (by omega) A6 _ c6 d rfl h1 h2 _ HWr.out)
                       clear h1 h2 h3 HDr HBr HWr HOr Hxb)
          refine HW8.out.mono ?_
          rintro e w9 ⟨v, rfl, hv9, hD9, hT9⟩
          obtain ⟨bf, rfl⟩ : ∃ bf, v = .iface 89 (.pointer (some ⟨bf, 0, none⟩)) := hv9.form
          have HR := Lib.hid (HNx.out w9 hD9 (hT9.own HO8.out (by decide) (by decide)) (HB8.out.trans (hT9.below HB8.out.size)))
          clear hv9 hD9 hT9 HW8 HB8 HO8 HNx
          go_wp2_with fail
          go_roundw
          case rel => exact HR.out
          case measure => have := Hlt.out; simp [intOf]; omega
        case neg =>
          have q5 : decide ((q.length : Int) < 4) = false := decide_eq_false (by omega)
          have q6 : decide (q.length < 4) = false := decide_eq_false hq4
          clear hok
          go_wp2_with (at_builtin
                       refine wpList_copy (by rfl) (.tmp 77) (.tmp 78) rfl rfl xA d.length xc d rfl rfl (Hxb.out wr HBr.out) Hcx.out ?_
                       intro A6 c6 w8 _ h1 h2 h3
                       have HB8 := Lib.hid (HBr.out.trans (h3.mono HBr.out.size))
                       have HO8 := Lib.hid (own_apart (F := fun _ => False) HOr.out (Apart.of_below' h3) (fun _ _ h => h))
                       have HW8 := Lib.hid (duo_write (HDr.out.below h3) HAl.out 0 0 (by omega) A6 _ c6 d rfl h1 h2 _ HWr.out)
                       clear h1 h2 h3 HDr HBr HWr HOr Hxb)
          refine HW8.out.mono ?_
          rintro e w9 ⟨v, rfl, hv9, hD9, hT9⟩
          obtain ⟨bf, rfl⟩ : ∃ bf, v = .iface 89 (.pointer (some ⟨bf, 0, none⟩)) := hv9.form
          have HR := Lib.hid (HNx.out w9 hD9 (hT9.own HO8.out (by decide) (by decide)) (HB8.out.trans (hT9.below HB8.out.size)))
          clear hv9 hD9 hT9 HW8 HB8 HO8 HNx
          go_wp2_with fail
          go_roundw
          case rel => exact HR.out
          case measure => have := Hlt.out; simp [intOf]; omega
    case neg =>
      obtain rfl : k = n := by rw [Hls.out] at hk; omega
      rw [List.take_of_length_le (by rw [Hls.out]; exact Nat.le_refl _)] at hDr hOr
      have hwk := want_ok ls [] (by simp) (by simp)
      obtain ⟨q, hq⟩ : ∃ q, wantT [] ls = q := ⟨_, rfl⟩
      rw [hq] at hDr hOr hwk
      obtain ⟨Aq, cq, rfl, hcq⟩ := own_slice hOr
      have q3 : decide ((k : Int) < (k : Int)) = false := decide_eq_false (by omega)
      have q4 : decide (k < k) = false := decide_eq_false (by omega)
      have hX := HX.out wr hBr
      have k9 : wr.cell? ⟨w2.heap.size, 9, none⟩ = some (.slice (some ⟨N + 1, 0, none⟩) 4 4) := cell_at hX.box 9 rfl
      have k10 : wr.cell? ⟨N + 1, 10, none⟩ = some (.int .i64 (1 + (t : Int))) := cell_at hX.wir.ports 10 rfl
      obtain ⟨K, hK⟩ : ∃ K, min q.length (1 + t) = K := ⟨_, rfl⟩
      have hKq : K ≤ q.length := by omega
      have hKc : K ≤ cq := by omega
      have em : ∀ W ty, (Builtin.min_ #[3, 3] ty #[.int .i64 (q.length : Nat), .int .i64 (1 + (t : Int))]).run Try.prog W = .ok (.int .i64 (K : Nat)) W := fun W ty => by
        have e4 : (if (1 + (t : Int)) < (q.length : Int) then (1 + (t : Int)) else (q.length : Int)) = (K : Int) := by split <;> omega
        rw [← e4]; rfl
      have es := fun W => run_slice_front (P := Try.prog) W 64 9 1 Try.underlying64 (fun w => by kernel_rfl) Aq q.length cq (K : Int) K rfl (by omega)
      have HSe := Lib.hid (duo_seal hDr HAl.out _ _ (q_seal (1 + (t : Int)) q).1 (q_seal (1 + (t : Int)) q).2)
      have HDe : Hid (deliverT (wired 16 16 4 (1 + (t : Int)) 1) 1 0 ((q.map (msgOf 0)).map (fun m => (m.port, m.data))) (qR []) = (K, qR (q.take K))) := Lib.hid (by
        have h1 := q_deliver (D := 1 + t) q hwk.2
        rw [hK] at h1
        rw [show ((1 + t : Nat) : Int) = 1 + (t : Int) by omega] at h1
        rw [h1, show q.take (1 + t) = q.take K from List.take_eq_take_iff.2 (by omega)])
      have Hq4 : Hid (q.length ≤ 4) := Lib.hid hwk.1
      have HOr := Lib.hid hOr
      have HBr := Lib.hid hBr
      have Hlen : Hid ((q.take K).length = K) := Lib.hid (by rw [List.length_take]; omega)
      have HKq := Lib.hid hKq
      clear hDr hOr hwk hq hX hBr hK hk hlt hcq
      go_wp2_with fail
      refine HSe.out.mono ?_
      rintro e w8 ⟨A8, n8, c8, ys, rfl, hyn, hO, hpl, hD8, hT8⟩
      have HB8 := Lib.hid (HBr.out.trans (hT8.below HBr.out.size))
      have HO8 := Lib.hid (hT8.own HOr.out (by decide) (by decide))
      have HDl := Lib.hid (duo_deliver hD8 HAl.out 0 A8 n8 c8 ys hyn (by
        have h1 := congrArg List.length hpl
        rw [List.length_map, List.length_map] at h1
        have := Hq4.out
        omega) hO _ hpl K (qR (q.take K)) HDe.out)
      clear hyn hO hpl hD8 hT8 HSe HDe HBr HOr k9 k10 em es
      go_wp2_with fail
      refine HDl.out.mono ?_
      rintro e w9 ⟨rfl, hD9, hT9⟩
      have HB9 := Lib.hid (HB8.out.trans (hT9.below HB8.out.size))
      have HO9 := Lib.hid (hT9.own HO8.out (by decide) (by decide))
      have HSe := Lib.hid (duo_seal hD9 HAl.out _ _ (q_seal (1 + (t : Int)) []).1 (q_seal (1 + (t : Int)) []).2)
      have p1 : (((K : Nat) : Int) == ((K : Nat) : Int)) = true := by simp
      have p2 : (((K : Nat) : Int) != ((K : Nat) : Int)) = false := by simp
      clear hD9 hT9 HDl HB8 HO8
      go_wp2_with fail
      refine HSe.out.mono ?_
      rintro e w10 ⟨A10, n10, c10, ys2, rfl, hyn, hO, hpl, hD10, hT10⟩
      have HB10 := Lib.hid (HB9.out.trans (hT10.below HB9.out.size))
      have HO10 := Lib.hid (hT10.own HO9.out (by decide) (by decide))
      have HDl := Lib.hid (duo_deliver hD10 HAl.out 0 A10 n10 c10 ys2 hyn (by
        have h1 := congrArg List.length hpl
        rw [List.length_map, List.length_map] at h1
        simp only [List.length_nil] at h1
        omega) hO _ hpl 0 (qR (q.take K)) rfl)
      clear hyn hO hpl hD10 hT10 HSe HB9 HO9
      go_wp2_with fail
      refine HDl.out.mono ?_
      rintro e w11 ⟨rfl, hD11, hT11⟩
      have HB11 := Lib.hid (HB10.out.trans (hT11.below HB10.out.size))
      have HS0 : Hid (GetR w5 t aa ba q K (.slice Aq q.length cq) (.int .i64 0) w11) := Lib.hid ⟨0, Nat.zero_le _, rfl, hD11, hT11.own HO10.out (by decide) (by decide), HB11.out⟩
      clear hD11 hT11 HDl HB10 HO10 HB11
      go_wp2_with fail
      go_loopw [117] (GetR w5 t aa ba q K (.slice Aq q.length cq)) (fun j _ => (K + 1 - intOf j).toNat)
      case atStart => exact HS0.out
      case round =>
        clear HS0
        obtain ⟨j, hj, rfl, hDr, hOr, hBr⟩ := hrel
        by_cases hlt : j < K
        case pos =>
          obtain ⟨d, hd⟩ : ∃ d, q[j]? = some d := ⟨_, List.getElem?_eq_getElem (by have := HKq.out; omega)⟩
          have hdr : (q.take K).drop j = d :: (q.take K).drop (j + 1) := by
            have h1 : (q.take K)[j]? = some d := by rw [List.getElem?_take, if_pos hlt]; exact hd
            obtain ⟨h2, h3⟩ := List.getElem?_eq_some_iff.1 h1
            rw [List.drop_eq_getElem_cons h2, h3]
          obtain ⟨Aq', cq', eq', -, hit⟩ := Seg.items (vals := strVals) (size := 1) (fun _ => rfl) (Seg.of_own (show wr.ownsRow w5.heap.size 9 1 (.slice Aq q.length cq) q.length (itemsV strVals q) from hOr))
          injection eq' with e1 e2 e3
          subst e1
          clear e2 e3
          obtain ⟨bq, oq, rfl, -, hqi⟩ := hit (by have := HKq.out; omega)
          have kq := hqi j d hd 0 _ rfl
          simp only [Nat.mul_one, Nat.add_zero] at kq
          have q5 : decide ((j : Int) < (K : Int)) = true := decide_eq_true (by omega)
          have q6 : decide (j < K) = true := decide_eq_true hlt
          have hjz : (j : Int) < (K : Int) := by omega
          have hK4 : K ≤ 4 := by have := HKq.out; have := Hq4.out; omega
          have e1 : IntKind.i64.wrap ((j : Int) + 1) = (j : Int) + 1 := IntWalk.i64_in _ (by omega)
          rw [hdr] at hDr
          have HRd := Lib.hid (duo_read hDr HAl.out 1 1 (by omega) d true none _ (q_read (1 + (t : Int)) d _))
          have HBr := Lib.hid hBr
          have HOr := Lib.hid hOr
          have Hlt := Lib.hid hlt
          have HW : Hid (∀ W, DuoE W w5.heap.size (wired 16 16 4 (1 + (t : Int)) 1) aa ba (qS []) (qR ((q.take K).drop (j + 1))) → StrsO W w5.heap.size (.slice (some ⟨bq, oq, none⟩) q.length cq) q → Below w5.heap.size w5 W → GetR w5 t aa ba q K (.slice (some ⟨bq, oq, none⟩) q.length cq) (.int .i64 ((j : Int) + 1)) W) := Lib.hid fun W h1 h2 h3 => ⟨j + 1, hlt, by go_num, h1, h2, h3⟩
          clear hDr hOr hBr hlt hj hdr hd hit hqi
          go_wp2_with fail
          refine HRd.out.mono ?_
          rintro e w12 ⟨Az, cz, ev, rfl, hz, hv12, hD12, hT12⟩
          obtain rfl : ev = .nilIface := hv12.form
          have HB12 := Lib.hid (HBr.out.trans (hT12.below HBr.out.size))
          have HR := Lib.hid (HW.out w12 hD12 (hT12.own HOr.out (by decide) (by decide)) HB12.out)
          have kz : (convert 44 9 (.slice Az (d.length : Nat) cz)).run Try.prog w12 = .ok (.string ⟨d.toArray⟩) w12 := conv_w rfl (by
            obtain ⟨Ax, cx, ex, -, -, hbq, -⟩ := own_bytes hz
            injection ex with eq1 eq2 eq3
            rw [eq1]; exact hbq)
          clear hz hv12 hD12 hT12 HW HRd HBr HOr HB12
          go_wp2_with fail
          go_roundw
          case rel => exact HR.out
          case measure => have := Hlt.out; simp [intOf]; omega
        case neg =>
          obtain rfl : j = K := by omega
          have q5 : decide ((j : Int) < (j : Int)) = false := decide_eq_false (by omega)
          rw [List.drop_eq_nil_of_le (by rw [Hlen.out]; exact Nat.le_refl _)] at hDr
          have HRd := Lib.hid (duo_read hDr HAl.out 1 1 (by omega) [] false (some 10) _ (q_read0 (1 + (t : Int))))
          have HBr := Lib.hid hBr
          clear hDr hOr hBr hlt hj
          go_wp2_with fail
          refine HRd.out.mono ?_
          rintro e w12 ⟨Az, cz, ev, rfl, -, hv12, hD12, hT12⟩
          have HB12 := Lib.hid (HBr.out.trans (hT12.below HBr.out.size))
          obtain ⟨bf, rfl⟩ : ∃ bf, ev = .iface 89 (.pointer (some ⟨bf, 0, none⟩)) := hv12.form
          have HV := Lib.hid hv12.text
          clear hv12 hD12 hT12 HRd HBr
          simp only [List.length_nil]
          go_wp2_with fail
          refine HV.out.read.mono ?_
          rintro e w13 ⟨rfl, hb13⟩
          have HF := Lib.hid (HT.out _ (HB12.out.trans (hb13.mono HB12.out.size)))
          clear hb13 HV HB12
          rw [show errO (some 10) 1 = [49, 48, 64, 49] by decide]
          unfold strV
          go_wp2_with fail
          go_ret
          exact ⟨rfl, HF.out⟩
end Go.Proofs.Ytdeodoppcflgfaa
