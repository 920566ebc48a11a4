/- Contract of Deliver. Conditions: where the ports and the messages lie, tables that are allowed; at most 1000 messages. -/
import Derived.Test.YtdeodoppcflgfaaPorI
namespace Go.Proofs.Ytdeodoppcflgfaa
open Go.RowKit PorP
set_option maxRecDepth 100000

/-- No block of the messages is one of F. -/
def FarM (F : Nat → Prop) (A : Option Addr) (ms : List MsgC) : Prop := (0 < ms.length → ∀ k, blockOf A = some k → ¬ F k) ∧ ∀ y ∈ ms, 0 < y.data.length → ∀ k, blockOf y.A = some k → ¬ F k
theorem MsgsIn.away {W W' : World} {A : Option Addr} {ms : List MsgC} {F : Nat → Prop} (h : MsgsIn W A ms) (hf : FarM F A ms) (ha : Apart F W W') : MsgsIn W' A ms := fun hl => by
  obtain ⟨b, off, e, hb, hi⟩ := h hl
  have hn : ¬ F b := hf.1 hl b (by rw [e]; rfl)
  refine ⟨b, off, e, Nat.lt_of_lt_of_le hb ha.size, fun i y hy => ?_⟩
  obtain ⟨h1, h2, h3⟩ := hi i y hy
  refine ⟨(ha.cell (p := ⟨b, _, none⟩) hb hn).trans h1, (ha.cell (p := ⟨b, _, none⟩) hb hn).trans h2, ⟨h3.len, h3.cap_, h3.most, ?_, h3.ports⟩⟩
  exact (h3.bytes.apart0 ha (Nat.le_refl _) (hf.2 y (List.mem_of_getElem? hy))).more ha.size
def pairsT (ms : List MsgC) : List (Int × List UInt8) := ms.map fun y => (y.port, y.data)
theorem pairs_at {ms : List MsgC} {k : Nat} {y : MsgC} (h : ms[k]? = some y) : (pairsT ms)[k]? = some (y.port, y.data) := by unfold pairsT; rw [List.getElem?_map, h]; rfl
theorem putOne_le (c : TableP.Cfg) (d : List UInt8) (st : St) (t : Int) : (putOne c d st t).1 ≤ 1 := by
  unfold putOne
  split
  · split <;> simp
  · simp
theorem puts_le (c : TableP.Cfg) (d : List UInt8) : ∀ (ts : List Int) (st : St), (putsT c d ts st).1 ≤ ts.length
  | [], _ => by simp [putsT]
  | t :: ts, st => by
    have h1 := putOne_le c d st t
    have h2 := puts_le c d ts (putOne c d st t).2
    simp only [putsT, List.length_cons]
    omega
theorem one_ways (c : TableP.Cfg) (node src_ : Int) (st : St) (m : Int × List UInt8) : oneT c node src_ st m = putsT c m.2 (waysT c node src_ m.1 m.2) st := by
  rw [one_puts]
  unfold waysT
  split <;> rfl
theorem ways_len (c : TableP.Cfg) (node src_ port : Int) (l : List UInt8) : (waysT c node src_ port l).length ≤ c.routes.length := by
  unfold waysT
  split
  · exact toT_len _ _ _
  · simp
theorem deliver_le (c : TableP.Cfg) (node src_ : Int) : ∀ (ms : List (Int × List UInt8)) (st : St), (deliverT c node src_ ms st).1 ≤ c.routes.length * ms.length
  | [], _ => by simp [deliverT]
  | m :: ms, st => by
    have h1 : (oneT c node src_ st m).1 ≤ c.routes.length := by
      rw [one_ways]
      exact Nat.le_trans (puts_le _ _ _ _) (ways_len _ _ _ _ _)
    have h2 := deliver_le c node src_ ms (oneT c node src_ st m).2
    simp only [deliverT, List.length_cons, Nat.mul_add, Nat.mul_one]
    omega
theorem Left.msgs {w W : World} {B : Nat} {c : TableP.Cfg} {x : PC} {st : St} {A : Option Addr} {ms : List MsgC} (h : Left w B c x st W) (hm : MsgsIn w A ms) (hf : FarM (EF x.g x.es) A ms) : MsgsIn W A ms := by
  obtain ⟨es', -, hg, -⟩ := h
  exact hm.away hf hg.apart
def DlvP (w : World) (B : Nat) (c : TableP.Cfg) (x : PC) (r : Nat × St) (e : Ending) (w' : World) : Prop := e = .returned (.int .i64 (r.1 : Nat)) ∧ Left w B c x r.2 w'
def DlvR (w : World) (B : Nat) (c : TableP.Cfg) (x : PC) (src_ : Int) (ms : List MsgC) (f i : Value) (wr : World) : Prop :=
  ∃ k, k ≤ ms.length ∧ i = .int .i64 (k : Nat) ∧ f = .int .i64 ((deliverT c x.node src_ ((pairsT ms).take k) (elSt x.es)).1 : Nat) ∧ Left w B c x (deliverT c x.node src_ ((pairsT ms).take k) (elSt x.es)).2 wr
def DlvJ (w : World) (B : Nat) (c : TableP.Cfg) (x : PC) (d : List UInt8) (tos : List Int) (n0 : Nat) (st0 : St) (q : Nat) (mc : Array Value) (v : Value) (f i : Value) (wr : World) : Prop :=
  ∃ j, j ≤ tos.length ∧ i = .int .i64 (j : Nat) ∧ f = .int .i64 ((n0 + (putsT c d (tos.take j) st0).1 : Nat)) ∧ Left w B c x (putsT c d (tos.take j) st0).2 wr ∧ wr.heap[q]? = some (.cells mc 68 (0, 0)) ∧ Seg wr B 3 1 v tos.length (intV tos)
def DlvS (a q : Nat) (hc mc : Array Value) (W : World) : Prop := W.heap[a]? = some (.cells hc 87 (0, 0)) ∧ W.heap[q]? = some (.cells mc 68 (0, 0))

set_option maxHeartbeats 8000000 in
theorem pdeliver_any (w : World) (B : Nat) (c : TableP.Cfg) (x : PC) (h : PIn w B c x) (hB : B ≤ w.heap.size) (ha : SndP.Allowed c) (src_ : Int) (A : Option Addr) (cap : Nat) (ms : List MsgC) (hn : ms.length ≤ 1000) (hm : MsgsIn w A ms) (hf : FarM (EF x.g x.es) A ms) :
    Calls Try.prog 25 #[pv x, .int .i64 src_, .slice A ms.length cap] w (DlvP w B c x (deliverT c x.node src_ (pairsT ms) (elSt x.es))) := by
  have HS : Hid (DlvR w B c x src_ ms (.int .i64 0) (.int .i64 0) w) := Lib.hid ⟨0, Nat.zero_le _, rfl, rfl, Left.same h (Below.refl _ _)⟩
  have Hm := Lib.hid hm
  have Hf := Lib.hid hf
  have Ha := Lib.hid ha
  have HB := Lib.hid hB
  have HLt : Hid (∀ k, EF x.g x.es k → k < w.heap.size) := Lib.hid fun k hk => (h.els.fLt hk).2
  have hr24 := ha.routes
  unfold pv
  clear h hB ha hm hf
  obtain ⟨n, hN⟩ : ∃ n, ms.length = n := ⟨_, rfl⟩
  have HN := Lib.hid hN
  rw [hN] at hn ⊢
  clear hN
  go_enter Try.func25, Try.ntmps25
  go_wp2_with fail
  go_loopw [7, 16] (DlvR w B c x src_ ms) (fun _ j _ => (n + 1 - intOf j).toNat)
  case atStart => exact HS.out
  case round =>
    clear HS
    obtain ⟨k, hk, rfl, rfl, hL⟩ := hrel
    rw [HN.out] at hk
    by_cases hlt : k < n
    case neg =>
      obtain rfl : k = n := by omega
      have q1 : decide ((k : Int) < (k : Int)) = false := decide_eq_false (by omega)
      have hall : (pairsT ms).take k = pairsT ms := List.take_of_length_le (by unfold pairsT; rw [List.length_map, HN.out]; exact Nat.le_refl _)
      have HF : Hid (DlvP w B c x (deliverT c x.node src_ (pairsT ms) (elSt x.es)) (.returned (.int .i64 ((deliverT c x.node src_ ((pairsT ms).take k) (elSt x.es)).1 : Nat))) wr) := Lib.hid (by rw [hall] at hL ⊢; exact ⟨rfl, hL⟩)
      clear hL hall
      go_wp2_with fail
      go_ret
      exact HF.out
    have q1 : decide ((k : Int) < (n : Int)) = true := decide_eq_true (by omega)
    have hkz : (k : Int) < (n : Int) := by omega
    obtain ⟨y, hy⟩ : ∃ y, ms[k]? = some y := ⟨_, List.getElem?_eq_getElem (by rw [HN.out]; exact hlt)⟩
    have hmk := Hm.out (by rw [HN.out]; omega)
    obtain ⟨b0, off0, hA0, hb0, -⟩ := hmk
    have hmr := hL.msgs Hm.out Hf.out
    obtain ⟨b, off, hA, hb, hi⟩ := hmr (by rw [HN.out]; omega)
    obtain ⟨kp, kt, ok⟩ := hi k y hy
    have hstep := deliver_take (c := c) (node := x.node) (src_ := src_) (st := elSt x.es) (pairs_at hy)
    rw [one_ways] at hstep
    simp only at hstep
    have hle := deliver_le c x.node src_ ((pairsT ms).take k) (elSt x.es)
    have hle2 : c.routes.length * ((pairsT ms).take k).length ≤ 24 * 1000 := Nat.mul_le_mul hr24 (by rw [List.length_take]; omega)
    obtain ⟨port, D, m, cc, data⟩ := y
    simp only at kp kt hstep
    obtain ⟨ok1, ok2, ok3, ok4, ok5⟩ := ok
    simp only at ok1 ok2 ok3 ok4 ok5
    have hfy := Hf.out.2 _ (List.mem_of_getElem? hy)
    simp only at hfy
    subst hA
    -- what ways answers
    have hwl := ways_len c x.node src_ port data
    have HW : Hid (∀ W, Below wr.heap.size wr W → Calls Try.prog 49 #[.pointer (some ⟨x.a, 0, none⟩), .int .i64 src_, .agg #[.int .i64 port, .slice D m cc]] W (WaysP W B (waysT c x.node src_ port data))) := Lib.hid fun W hW => by
      obtain ⟨es', h1, -, -⟩ := hL.below hW
      exact pways_any W B c { x with es := es' } h1 Ha.out.ports src_ port D m cc data ok1
    have HT : Hid (∀ t ∈ waysT c x.node src_ port data, ∃ i : Nat, t = (i : Int) ∧ ∃ p, c.ports[i]? = some p ∧ TableP.portOk c.parts.length p ∧ data.length ≤ 16) := Lib.hid fun t ht => by
      unfold waysT at ht
      split at ht
      · rename_i hc
        obtain ⟨r, hr, rfl, -⟩ := toT_mem ht
        have h1 := (Ha.out.route r hr).2
        unfold TableP.up at h1
        obtain ⟨i, hi⟩ := Int.eq_ofNat_of_zero_le h1.1
        have hil : i < c.ports.length := by omega
        refine ⟨i, hi, _, List.getElem?_eq_getElem hil, Ha.out.port _ (List.getElem_mem hil), ?_⟩
        unfold comesB at hc
        cases hq : c.ports[port.toNat]? with
        | none => rw [hq] at hc; simp at hc
        | some p =>
          rw [hq] at hc
          simp only [Bool.and_eq_true, decide_eq_true_eq] at hc
          have := (Ha.out.port p (List.mem_of_getElem? hq)).2.1.2
          omega
      · cases ht
    have HM : Hid (∀ W st, Left w B c x st W → Bytes W W.heap.size D data ∧ ∀ es', PIn W B c { x with es := es' } → Goes x.g w W x.es es' → 0 < data.length → ∀ k, blockOf D = some k → ¬ EF x.g es' k) := Lib.hid fun W st hW => by
      have h1 := hW.msgs Hm.out Hf.out
      obtain ⟨b1, off1, -, -, h2⟩ := h1 (by rw [HN.out]; omega)
      refine ⟨(h2 k _ hy).ok.bytes, fun es' h3 h4 hd q hq hef => ?_⟩
      obtain ⟨b2, off2, -, -, h5⟩ := Hm.out (by rw [HN.out]; omega)
      obtain ⟨b3, o3, e3, h6, -⟩ := (h5 k _ hy).ok.bytes hd
      rcases h4.f q hef with h7 | h7
      · exact hfy hd q hq h7
      · rw [show D = some ⟨b3, o3, none⟩ from e3] at hq
        have : b3 = q := Option.some.inj hq
        omega
    generalize deliverT c x.node src_ ((pairsT ms).take k) (elSt x.es) = R0 at *
    obtain ⟨n0, st0⟩ := R0
    simp only at hL hle hstep
    have HEnd : Hid (∀ wr', Left w B c x (putsT c data (waysT c x.node src_ port data) st0).2 wr' → DlvR w B c x src_ ms (.int .i64 ((n0 + (putsT c data (waysT c x.node src_ port data) st0).1 : Nat))) (.int .i64 ((k : Int) + 1)) wr') := Lib.hid fun wr' h1 => ⟨k + 1, by rw [HN.out]; exact hlt, by go_num, by rw [hstep], by rw [hstep]; exact h1⟩
    have HL := Lib.hid hL
    have e1 : IntKind.i64.wrap ((k : Int) + 1) = (k : Int) + 1 := IntWalk.i64_in _ (by omega)
    generalize hTos : waysT c x.node src_ port data = tos at *
    have Hok1 := Lib.hid ok1
    clear hL hi hmr hstep hy hTos ok4 hfy hA0 ok1 HLt
    go_wp2_with fail
    have hb5 : Below wr.heap.size wr (wr.alloc (.cells #[.int .i64 port, .slice D m cc] 68)) := (Below.refl _ _).alloc (Nat.le_refl _) _
    have hq5 : (wr.alloc (.cells #[.int .i64 port, .slice D m cc] 68)).heap[wr.heap.size]? = some (.cells #[.int .i64 port, .slice D m cc] 68 (0, 0)) := heap_alloc_new wr _
    generalize wr.alloc (.cells #[.int .i64 port, .slice D m cc] 68) = w5 at *
    have HQ := Lib.hid hq5
    have HL5 := Lib.hid (HL.out.below hb5)
    generalize wr.heap.size = qb at *
    have hqs : qb < w5.heap.size := lt_of_block hq5
    clear hq5 kp kt hb hb0
    refine (HW.out _ hb5).mono ?_
    rintro e2 w6 ⟨v, rfl, hsg, hb6⟩
    obtain ⟨Av, cv, rfl, -⟩ := hsg.slice
    have HJ0 : Hid (DlvJ w B c x data tos n0 st0 qb #[.int .i64 port, .slice D m cc] (.slice Av tos.length cv) (.int .i64 (n0 : Nat)) (.int .i64 0) w6) := Lib.hid ⟨0, Nat.zero_le _, rfl, rfl, HL5.out.below hb6, (hb6.block qb hqs).trans HQ.out, hsg⟩
    obtain ⟨mc, hmc⟩ : ∃ mc : Array Value, mc = #[.int .i64 port, .slice D m cc] := ⟨_, rfl⟩
    rw [← hmc] at HJ0
    have Hmc := Lib.hid hmc
    have htl : tos.length ≤ 24 := by omega
    clear hsg hb6 HW HL HQ HL5 hb5 hqs hmc
    go_wp2_with fail
    go_loopw [7, 25] (DlvJ w B c x data tos n0 st0 qb mc (.slice Av tos.length cv)) (fun _ j _ => (tos.length + 1 - intOf j).toNat)
    case atStart => exact HJ0.out
    case round =>
      clear HJ0
      obtain ⟨j, hj, rfl, rfl, hLj, hqj, hsj⟩ := hrel
      by_cases hjt : j < tos.length
      case neg =>
        obtain rfl : j = tos.length := by omega
        have q2 : decide ((tos.length : Int) < (tos.length : Int)) = false := decide_eq_false (by omega)
        rw [List.take_length] at hLj ⊢
        have HR := Lib.hid (HEnd.out _ hLj)
        clear hLj hqj hsj HEnd HT HM
        go_wp2_with fail
        go_roundw
        case rel => exact HR.out
        case measure => simp [intOf]; omega
      have q2 : decide ((j : Int) < (tos.length : Int)) = true := decide_eq_true (by omega)
      have hjz : (j : Int) < (tos.length : Int) := by omega
      obtain ⟨t, ht⟩ : ∃ t, tos[j]? = some t := ⟨_, List.getElem?_eq_getElem hjt⟩
      obtain ⟨i, rfl, p, hp, hok, h16⟩ := HT.out t (List.mem_of_getElem? ht)
      obtain ⟨A9, c9, e9, -, -, hin⟩ := hsj.ints
      injection e9 with e91 e92 e93
      subst e91 e93
      obtain ⟨b9, o9, rfl, -, k9⟩ := hin.at_ ht
      obtain ⟨es', hpin, hg, hst⟩ := hLj
      have hLj : Left w B c x (putsT c data (tos.take j) st0).2 wr := ⟨es', hpin, hg, hst⟩
      obtain ⟨hby, hfar⟩ := HM.out _ _ hLj
      have hstep := puts_take (c := c) (d := data) (st := st0) ht
      have hle3 := puts_le c data (tos.take j) st0
      have htj : (tos.take j).length ≤ 24 := by rw [List.length_take]; omega
      have hBr : B ≤ wr.heap.size := Nat.le_trans HB.out hg.apart.size
      have hfb : n0 + (putsT c data (tos.take j) st0).1 ≤ 100000 := by omega
      have hr1 := putOne_le c data (putsT c data (tos.take j) st0).2 (i : Int)
      have HP := Lib.hid (bxput_any wr.drew B c { x with es := es' } hpin.drew hBr i p hp hok D m cc data Hok1.out (by have := Hok1.out; omega) hby (hfar es' hpin hg))
      rw [hst] at HP
      have hil : i < es'.length := by rw [show es'.length = c.ports.length from hpin.len]; exact (List.getElem?_eq_some_iff.1 hp).1
      have hiz : (i : Int) < (es'.length : Int) := by omega
      have HNext : Hid (∀ w8, PutP wr.drew B c { x with es := es' } (putOne c data (putsT c data (tos.take j) st0).2 (i : Int)) (.returned (.bool (decide ((putOne c data (putsT c data (tos.take j) st0).2 (i : Int)).1 = 1)))) w8 → DlvJ w B c x data tos n0 st0 qb mc (.slice (some ⟨b9, o9, none⟩) tos.length cv) (.int .i64 ((n0 + (putsT c data (tos.take j) st0).1 + (putOne c data (putsT c data (tos.take j) st0).2 (i : Int)).1 : Nat))) (.int .i64 ((j : Int) + 1)) w8 ∧ DlvS x.a qb #[.int .i64 x.node, .slice (some ⟨x.g, 0, none⟩) es'.length es'.length] mc w8) := Lib.hid fun w8 h8 => by
        obtain ⟨-, es2, p2, g2, s2⟩ := h8
        have hq8 := (g2.apart.block qb (lt_of_block hqj) (hpin.els.fOff hqj (by decide) (by decide))).trans hqj
        have hd8 := (g2.apart.block x.a (lt_of_block hpin.hd) (hpin.els.fOff hpin.hd (by decide) (by decide))).trans hpin.hd
        refine ⟨⟨j + 1, hjt, by go_num, by rw [hstep, Nat.add_assoc], ?_, hq8, hsj.drew.apart g2.apart fun q hq => ?_⟩, hd8, hq8⟩
        · rw [hstep]
          exact ⟨es2, p2, (hg.trans (Goes.of_below (Below.refl _ _).drew _ _)).trans g2, s2⟩
        · obtain ⟨cur, hc⟩ := hsj.block q hq
          exact hpin.els.fOff hc (by decide) (by decide)
      have hd0 : DlvS x.a qb #[.int .i64 x.node, .slice (some ⟨x.g, 0, none⟩) es'.length es'.length] mc wr.drew := ⟨hpin.hd, hqj⟩
      generalize putOne c data (putsT c data (tos.take j) st0).2 (i : Int) = R at *
      obtain ⟨r1, r2⟩ := R
      simp only at hr1 HNext
      generalize n0 + (putsT c data (tos.take j) st0).1 = fv at *
      have hmc := Hmc.out
      subst hmc
      have kd1 : ∀ W, DlvS x.a qb #[.int .i64 x.node, .slice (some ⟨x.g, 0, none⟩) es'.length es'.length] #[.int .i64 port, .slice D m cc] W → W.cell? ⟨x.a, 1, none⟩ = some (.slice (some ⟨x.g, 0, none⟩) es'.length es'.length) := fun W hW => cell_at hW.1 1 rfl
      have kq1 : ∀ W, DlvS x.a qb #[.int .i64 x.node, .slice (some ⟨x.g, 0, none⟩) es'.length es'.length] #[.int .i64 port, .slice D m cc] W → W.cell? ⟨qb, 1, none⟩ = some (.slice D m cc) := fun W hW => cell_at hW.2 1 rfl
      have e2 : IntKind.i64.wrap ((j : Int) + 1) = (j : Int) + 1 := IntWalk.i64_in _ (by omega)
      have e3 : IntKind.i64.wrap ((fv : Int) + 1) = (fv : Int) + 1 := IntWalk.i64_in _ (by omega)
      generalize es'.length = el at *
      unfold bxv at HP
      clear hLj hqj hsj hin hpin hg hst hby hfar hstep ht hp hok HEnd HT HM hBr hle3 htj
      go_wp2_with fail
      refine wp_region_held_drew (S := fun W => DlvS x.a qb #[.int .i64 x.node, .slice (some ⟨x.g, 0, none⟩) el el] #[.int .i64 port, .slice D m cc] W) (by kernel_rfl) hd0 (fun _ => ?_)
      refine tkH 0 (by simp only [tkA]; rfl) (by kernel_rfl) (by exact fun _ _ _ h => h) (by rfl) (by intro W hW; go_simp <;> with_reducible rfl) hd0 ?_
      try simp only [Act.put, tkT, tk0, tkS]
      refine tkH 1 (by simp only [tkA, tkG]; rfl) (by kernel_rfl) (by exact fun _ _ _ h => h) (by rfl) (by intro W hW; go_simp <;> with_reducible rfl) hd0 ?_
      try simp only [Act.put, tkT, tk0, tkS]
      refine tkH 2 (by simp only [tkA, tkG]; rfl) (by kernel_rfl) (by exact fun _ _ _ h => h) (by rfl) (by intro W hW; go_simp <;> with_reducible rfl) hd0 ?_
      try simp only [Act.put, tkT, tk0, tkS]
      refine tkH 3 (by simp only [tkA, tkG]; rfl) (by kernel_rfl) (by exact fun _ _ _ h => h) (by rfl) (by intro W hW; go_simp <;> with_reducible rfl) hd0 ?_
      try simp only [Act.put, tkT, tk0, tkS]
      refine tkH 4 (by simp only [tkA, tkG]; rfl) (by kernel_rfl) (by exact fun _ _ _ h => h) (by rfl) (by intro W hW; go_simp <;> with_reducible rfl) hd0 ?_
      try simp only [Act.put, tkT, tk0, tkS]
      refine tkH 5 (by simp only [tkA, tkG]; rfl) (by kernel_rfl) (by exact fun _ _ _ h => h) (by rfl) (by intro W hW; go_simp <;> with_reducible rfl) hd0 ?_
      try simp only [Act.put, tkT, tk0, tkS]
      refine tkH 6 (by simp only [tkA, tkG]; rfl) (by kernel_rfl) (by exact fun _ _ _ h => h) (by rfl) (by intro W hW; go_simp <;> with_reducible rfl) hd0 ?_
      try simp only [Act.put, tkT, tk0, tkS]
      refine tkH 7 (by simp only [tkA, tkG]; rfl) (by kernel_rfl) (by exact fun _ _ _ h => h) (by rfl) (by intro W hW; go_simp <;> with_reducible rfl) hd0 ?_
      try simp only [Act.put, tkT, tk0, tkS]
      refine clH 8 (by kernel_rfl) (by simp only [tkA, tkG]; rfl) (fun K hK => ?_)
      go_simp
      refine HP.out.mono ?_
      rintro e6 w8 h8
      obtain ⟨rfl, h8'⟩ := id h8
      obtain ⟨hJ, hS⟩ := HNext.out w8 h8
      have HJ := Lib.hid hJ
      clear h8 h8' hJ HP HNext
      go_wp2_with fail
      refine hK.out _ _ hS (fun _ => ?_)
      clear hK K
      refine wpAnyH_done (by kernel_rfl) ?_ _
      clear hS hd0 kd1 kq1
      by_cases hrr : r1 = 1
      · subst hrr
        have HJ1 : Hid (DlvJ w B c x data tos n0 st0 qb #[.int .i64 port, .slice D m cc] (.slice (some ⟨b9, o9, none⟩) tos.length cv) (.int .i64 ((fv : Int) + 1)) (.int .i64 ((j : Int) + 1)) w8) := Lib.hid (by have := HJ.out; rw [show (((fv + 1 : Nat)) : Int) = (fv : Int) + 1 by omega] at this; exact this)
        clear HJ
        go_wp2_with fail
        go_roundw
        case rel => exact HJ1.out
        case measure => simp [intOf]; omega
      · obtain rfl : r1 = 0 := by omega
        rw [Nat.add_zero] at HJ
        go_wp2_with fail
        go_roundw
        case rel => exact HJ.out
        case measure => simp [intOf]; omega
end Go.Proofs.Ytdeodoppcflgfaa
