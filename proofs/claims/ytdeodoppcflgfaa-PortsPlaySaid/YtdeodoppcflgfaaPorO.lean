/- One node's ports (Solo) and the law's copies of messages; PortsStrange. Conditions: where the messages lie. -/
import Derived.Test.YtdeodoppcflgfaaPorN
namespace Go.Proofs.Ytdeodoppcflgfaa
open Go.RowKit PorP
set_option maxRecDepth 100000

/-- Messages in memory, read alike, in memory made since. -/
def CopP (w : World) (ms : List MsgC) (e : Ending) (w' : World) : Prop := ∃ A cap ys, e = .returned (.slice A ms.length cap) ∧ ys.length = ms.length ∧ MsgsIn w' A ys ∧ ys.map MsgC.plain = ms.map MsgC.plain ∧ (∀ F, (∀ k, F k → k < w.heap.size) → FarM F A ys) ∧ Below w.heap.size w w'
theorem copied13_any (w : World) (A : Option Addr) (cap : Nat) (ms : List MsgC) (hn : ms.length ≤ cap) (hn2 : ms.length ≤ 4398046511104) (hm : MsgsIn w A ms) : Calls Try.prog 26 #[.slice A ms.length cap] w (CopP w ms) := by
  have hx : FrameIn w ⟨0, 0, 0, A, ms.length, cap, ms, 0, 0, 0, 0, none, 0, 0, []⟩ := ⟨hm, rfl, hn, by simp only; omega, fun h => absurd h (by simp), rfl, Nat.le_refl _, by simp only; omega, ⟨by simp [FrameC.plain], by simp [FrameC.plain], by simp [FrameC.plain], by simp [FrameC.plain], by simp [FrameC.plain], by simp [FrameC.plain], by simp [FrameC.plain], by intro r hr; simp [FrameC.plain] at hr⟩⟩
  have HC := Lib.hid (copied_hi _ w hx)
  have HF : Hid (∀ (y : FrameC) w', FrameIn w' y → y.plain = (⟨0, 0, 0, A, ms.length, cap, ms, 0, 0, 0, 0, none, 0, 0, []⟩ : FrameC).plain → FrameHi w.heap.size y → Below w.heap.size w w' → CopP w ms (.returned (.slice y.MA y.mn y.mcap)) w') := Lib.hid fun y w' h1 h2 h3 h4 => by
    have h5 : y.msgs.map MsgC.plain = ms.map MsgC.plain := congrArg FrameP.Fr.msgs h2
    have h6 : y.msgs.length = ms.length := by have := congrArg List.length h5; simpa using this
    have h7 : y.mn = ms.length := by rw [← h1.mlen, h6]
    rw [h7]
    refine ⟨_, _, y.msgs, rfl, h6, h1.msgs, h5, fun F hF => ⟨fun hl k hk hf => ?_, fun z hz hd k hk hf => ?_⟩, h4⟩
    · have := h3.msgs hl k hk
      have := hF k hf
      omega
    · have := h3.data z hz hd k hk
      have := hF k hf
      omega
  clear hx hm
  simp only [FrameC.value] at HC
  go_enter Try.func26, Try.ntmps26
  go_wp2_with fail
  refine HC.out.mono ?_
  rintro e w1 ⟨y, rfl, h1, h2, h3, h4⟩
  have HR := Lib.hid (HF.out y w1 h1 h2 h3 h4)
  obtain ⟨y0, y1, y2, y3, y4, y5, y6, y7, y8, y9, y10, y11, y12, y13, y14⟩ := y
  simp only [FrameC.value] at HR ⊢
  clear h1 h2 h3 h4 HC HF
  have hfd : ∀ W, (Instr.field 116 (.agg #[.int .u8 (y0 : Nat), .int .u32 (y1 : Nat), .int .u8 (y2 : Nat), .slice y3 y4 y5, .int .u8 (y7 : Nat), .int .u8 (y8 : Nat), .int .u16 (y9 : Nat), .int .u16 (y10 : Nat), .slice y11 y12 y13]) 2).run Try.prog W = .ok (.slice y3 y4 y5) W := fun W => by kernel_rfl
  go_wp2_with fail
  go_ret
  exact HR.out
/-- One node's ports, whatever they hold. -/
def SoloE (W : World) (B : Nat) (c : TableP.Cfg) (a : Nat) (node : Int) (st : St) : Prop := B ≤ W.heap.size ∧ ∃ x, x.a = a ∧ x.node = node ∧ elSt x.es = st ∧ PIn W B c x
section
variable {W W' : World} {B : Nat} {c : TableP.Cfg} {a : Nat} {node : Int} {st : St}
theorem SoloE.below (h : SoloE W B c a node st) (hb : Below W.heap.size W W') : SoloE W' B c a node st := by
  obtain ⟨h0, x, h1, h2, h3, h4⟩ := h
  exact ⟨Nat.le_trans h0 hb.size, x, h1, h2, h3, h4.below hb⟩
theorem SoloE.left {x : PC} (hB : B ≤ W.heap.size) (h : PIn W B c x) {st' : St} (hL : Left W B c x st' W') : SoloE W' B c x.a x.node st' ∧ Touch B W W' := by
  obtain ⟨es', p, g, s⟩ := hL
  exact ⟨⟨Nat.le_trans hB g.apart.size, { x with es := es' }, rfl, rfl, s, p⟩, Touch.of_goes h g⟩
theorem solo_deliver {W0 : World} (h0 : SoloE W0 B c a node st) (hb : Below W0.heap.size W0 W) (ha : SndP.Allowed c) (src_ : Int) (A : Option Addr) (n cap : Nat) (ms : List MsgC) (hn : ms.length = n) (hn2 : n ≤ 1000) (hm : MsgsIn W A ms) (hf : ∀ F, (∀ k, F k → k < W0.heap.size) → FarM F A ms) (l : List FrameP.Msg) (hl : ms.map MsgC.plain = l) (k : Nat) (st' : St) (hr : deliverT c node src_ (l.map (fun m => (m.port, m.data))) st = (k, st')) :
    Calls Try.prog 25 #[.pointer (some ⟨a, 0, none⟩), .int .i64 src_, .slice A n cap] W (fun e w' => e = .returned (.int .i64 (k : Nat)) ∧ SoloE w' B c a node st' ∧ Touch B W w') := by
  obtain ⟨hB, x, rfl, rfl, rfl, h⟩ := h0
  subst hn
  refine (pdeliver_any W B c x (h.below hb) (Nat.le_trans hB hb.size) ha src_ A cap ms hn2 hm (hf _ (fun k hk => (h.els.fLt hk).2))).mono ?_
  rw [pairs_plain hl, hr]
  rintro e w' ⟨rfl, h1⟩
  obtain ⟨h2, h3⟩ := SoloE.left (Nat.le_trans hB hb.size) (h.below hb) h1
  exact ⟨rfl, h2, h3⟩
end
theorem wired_none {z0 z1 d0 d1 fr src_ : Int} (hs : src_ ≠ 0) : ∀ (ms : List (Int × List UInt8)) (s0 s1 s2 s3 : PS), deliverT (wired z0 z1 d0 d1 fr) 1 src_ ms [s0, s1, s2, s3] = (0, [s0, s1, s2, s3])
  | [], _, _, _, _ => rfl
  | m :: ms, s0, s1, s2, s3 => by
    obtain ⟨k, d⟩ := m
    simp only [deliverT]
    rw [wired_other (.inl hs)]
    simp only [Nat.zero_add]
    rw [wired_none hs ms]
theorem four_of (st : St) (h : st.length = 4) : ∃ s0 s1 s2 s3, st = [s0, s1, s2, s3] := by
  match st, h with
  | [a, b, c, d], _ => exact ⟨a, b, c, d, rfl⟩
theorem pairs_plains (ms : List MsgC) : (ms.map MsgC.plain).map (fun m => (m.port, m.data)) = pairsT ms := by rw [List.map_map]; rfl
theorem strange_le (src_ : Int) : ∀ (ms : List (Int × List UInt8)) (n : Nat) (f : Bool), (strangeT src_ ms n f).1 ≤ n + ms.length
  | [], n, f => by simp [strangeT]
  | m :: ms, n, f => by
    rw [strange_cons]
    have h1 := strange_le src_ ms (strange1 src_ (n, f) m).1 (strange1 src_ (n, f) m).2
    have h2 : (strange1 src_ (n, f) m).1 ≤ n + 1 := by
      unfold strange1
      split
      · simp
      · split
        · simp
        · split <;> simp
    simp only [List.length_cons]
    omega
def StrR (w0 : World) (src_ : Int) (ms : List MsgC) (v f i : Value) (wr : World) : Prop :=
  ∃ k, k ≤ ms.length ∧ i = .int .i64 (k : Nat) ∧ v = .int .i64 ((strangeT src_ ((pairsT ms).take k) 0 false).1 : Nat) ∧ f = .bool (strangeT src_ ((pairsT ms).take k) 0 false).2 ∧ Below w0.heap.size w0 wr

set_option maxHeartbeats 8000000 in
theorem strange_law (src_ : Int) (A : Option Addr) (cap n : Nat) (ms : List MsgC) (hlen : ms.length = n) (hn : n ≤ cap) (hn2 : n ≤ 4398046511104) (w : World) (hm : MsgsIn w A ms) :
    Calls Try.prog 8 #[.int .i64 src_, .slice A n cap] w (AwakeP w) := by
  have HAw := Lib.hid (awake13_any w)
  have HAl := Lib.hid (SndP.works wired_ok).allowed
  by_cases h50 : 50 < n
  · have q1 : decide ((50 : Int) < (n : Int)) = true := decide_eq_true (by omega)
    have q2 : decide (50 < n) = true := decide_eq_true h50
    clear hm h50 hlen hn hn2
    go_enter Try.func8, Try.ntmps8
    go_wp2_with fail
    refine HAw.out.mono ?_
    rintro e w1 ⟨rfl, hb1⟩
    have HF := Lib.hid hb1
    clear hb1 HAw
    go_wp2_with fail
    go_ret
    exact ⟨rfl, HF.out⟩
  have q1 : decide ((50 : Int) < (n : Int)) = false := decide_eq_false (by omega)
  have q2 : decide (50 < n) = false := decide_eq_false h50
  have Hm := Lib.hid hm
  have Hlen := Lib.hid hlen
  have HC := Lib.hid (fun W (hW : Below w.heap.size w W) => (by
    have := copied13_any W A cap ms (by omega) (by omega) (hm.below hW)
    rw [hlen] at this
    exact this : Calls Try.prog 26 #[.slice A n cap] W (CopP W ms)))
  clear hm hlen
  go_enter Try.func8, Try.ntmps8
  go_wp2_with fail
  refine HAw.out.mono ?_
  rintro e w1 ⟨rfl, hb1⟩
  have HB1 := Lib.hid hb1
  clear hb1 HAw
  go_wp2_with fail
  refine (wired_any w1).mono ?_
  rintro e w2 ⟨rfl, h2, hb2⟩
  have H2 := Lib.hid h2
  have HB2 := Lib.hid (HB1.out.trans (hb2.mono HB1.out.size))
  clear h2 hb2 q1 q2
  go_wp2_with fail
  refine (wnew_any 1 1 2 1 1 wired_ok _ 1 (by omega) w2 H2.out).mono ?_
  rintro e w3 ⟨b, rfl, nb, pb, sb, hb3⟩
  have HB3 := Lib.hid (HB2.out.trans (hb3.mono HB2.out.size))
  have HS : Hid (SoloE w3 w.heap.size (wired 1 1 2 1 1) b.a 1 (wst [] [])) := Lib.hid ⟨HB3.out.size, b, rfl, nb, sb, pb.low HB2.out.size⟩
  unfold pv
  generalize b.a = ba at *
  clear nb pb sb hb3 H2
  go_wp2_with fail
  refine (HC.out w3 HB3.out).mono ?_
  rintro e w4 ⟨A4, c4, ys, rfl, hy4, hm4, hp4, hf4, hb4⟩
  rw [Hlen.out] at hy4
  obtain ⟨dk, hdk⟩ : ∃ dk, deliverT (wired 1 1 2 1 1) 1 src_ ((ms.map MsgC.plain).map (fun m => (m.port, m.data))) (wst [] []) = dk := ⟨_, rfl⟩
  have hstr : dk.1 = (strangeT src_ (pairsT ms) 0 false).1 := by
    rw [← hdk, pairs_plains]
    have := wired_strange (src_ := src_) (pairsT ms) 0 ⟨[], 0⟩ PS.empty ⟨[], 0⟩ PS.empty (by simp [PS.empty])
    rw [Nat.zero_add] at this
    exact this
  have hdl : dk.2.length = 4 := by rw [← hdk]; exact deliver_length _ _ _ _ _
  have HD4 := Lib.hid (solo_deliver HS.out hb4 HAl.out src_ A4 n c4 ys hy4 (by omega) hm4 hf4 _ hp4 dk.1 dk.2 hdk)
  have HB4 := Lib.hid (HB3.out.trans (hb4.mono HB3.out.size))
  rw [Hlen.out]
  have Hhb := Lib.hid hb4
  clear hy4 hm4 hp4 hf4 hb4 HS hdk
  go_wp2_with fail
  refine HD4.out.mono ?_
  rintro e w5 ⟨rfl, hS5, hT5⟩
  have HS5 := Lib.hid hS5
  have HB5 := Lib.hid (HB4.out.trans (hT5.below HB4.out.size))
  clear hS5 hT5 HD4 Hhb HB4 HB3 HB2
  obtain ⟨d1, st5⟩ := dk
  simp only at hstr hdl HS5 ⊢
  subst hstr
  have HS0 : Hid (StrR w5 src_ ms (.int .i64 0) (.bool false) (.int .i64 0) w5) := Lib.hid ⟨0, Nat.zero_le _, rfl, by simp [strangeT], by simp [strangeT], Below.refl _ _⟩
  go_wp2_with fail
  go_loopw [8, 9, 31] (StrR w5 src_ ms) (fun _ _ j _ => (n + 1 - intOf j).toNat)
  case atStart => exact HS0.out
  case round =>
    clear HS0
    obtain ⟨k, hk, rfl, rfl, rfl, hbr⟩ := hrel
    rw [Hlen.out] at hk
    have hBr := HB5.out.trans (hbr.mono HB5.out.size)
    by_cases hlt : k < n
    case neg =>
      obtain rfl : k = n := by omega
      have hall : (pairsT ms).take k = pairsT ms := List.take_of_length_le (by unfold pairsT; rw [List.length_map, Hlen.out]; exact Nat.le_refl _)
      rw [hall]
      have q3 : decide ((k : Int) < (k : Int)) = false := decide_eq_false (by omega)
      have HCr := Lib.hid (HC.out wr hBr)
      have HSr := Lib.hid (HS5.out.below hbr)
      have HBr := Lib.hid hBr
      generalize (strangeT src_ (pairsT ms) 0 false).1 = sn at *
      generalize (strangeT src_ (pairsT ms) 0 false).2 = sf at *
      obtain ⟨t0, t1, t2, t3, rfl⟩ := four_of st5 hdl
      clear hbr hBr HC HS5 HB5 hall
      go_wp2_with fail
      refine HCr.out.mono ?_
      rintro e w6 ⟨A6, c6, ys, rfl, hy6, hm6, hp6, hf6, hb6⟩
      rw [Hlen.out] at hy6
      have HD6 := Lib.hid (solo_deliver HSr.out hb6 HAl.out 1 A6 k c6 ys hy6 (by omega) hm6 hf6 _ hp6 0 [t0, t1, t2, t3] (by rw [pairs_plains]; exact wired_none (by omega) _ _ _ _ _))
      have HB6 := Lib.hid (HBr.out.trans (hb6.mono HBr.out.size))
      rw [Hlen.out]
      clear hy6 hm6 hp6 hf6 hb6 HSr HCr HBr
      go_wp2_with fail
      refine HD6.out.mono ?_
      rintro e w7 ⟨rfl, -, hT7⟩
      have HF := Lib.hid (HB6.out.trans (hT7.below HB6.out.size))
      clear hT7 HD6 HB6
      go_wp2_with fail
      go_ret
      exact ⟨rfl, HF.out⟩
    have q3 : decide ((k : Int) < (n : Int)) = true := decide_eq_true (by omega)
    have hkz : (k : Int) < (n : Int) := by omega
    obtain ⟨y, hy⟩ : ∃ y, ms[k]? = some y := ⟨_, List.getElem?_eq_getElem (by rw [Hlen.out]; exact hlt)⟩
    obtain ⟨b6, off, rfl, hbb, hi⟩ := (Hm.out.below hBr) (by rw [Hlen.out]; omega)
    obtain ⟨kp, kt, ok⟩ := hi k y hy
    have hst := strange_take (src_ := src_) (pairs_at hy)
    have hle := strange_le src_ ((pairsT ms).take k) 0 false
    have htl : ((pairsT ms).take k).length ≤ 50 := by rw [List.length_take]; omega
    obtain ⟨port, D, m, cc, data⟩ := y
    simp only at kp kt hst
    have hdl2 := ok.len
    simp only at hdl2
    subst hdl2
    generalize strangeT src_ ((pairsT ms).take k) 0 false = R at *
    obtain ⟨rv, rf⟩ := R
    simp only at hle ⊢
    have e1 : IntKind.i64.wrap ((k : Int) + 1) = (k : Int) + 1 := IntWalk.i64_in _ (by omega)
    have e2 : IntKind.i64.wrap ((rv : Int) + 1) = (rv : Int) + 1 := IntWalk.i64_in _ (by omega)
    have HN : Hid (∀ v f, strange1 src_ (rv, rf) (port, data) = (v, f) → StrR w5 src_ ms (.int .i64 (v : Nat)) (.bool f) (.int .i64 ((k : Int) + 1)) (wr.alloc (.cells #[.int .i64 port, .slice D data.length cc] 68))) := Lib.hid fun v f h => ⟨k + 1, by rw [Hlen.out]; exact hlt, by go_num, by rw [hst, h], by rw [hst, h], hbr.trans (((Below.refl _ _).alloc (Nat.le_refl _) _).mono hbr.size)⟩
    unfold strange1 at HN
    have m0 := cell_at (heap_alloc_new wr (.cells #[.int .i64 port, .slice D data.length cc] 68)) 0 rfl
    have m1 := cell_at (heap_alloc_new wr (.cells #[.int .i64 port, .slice D data.length cc] 68)) 1 rfl
    clear hst ok hi hy hbr hBr HS5 HB5 HC
    generalize data.length = dl at *
    by_cases hs : src_ = 0
    case neg =>
      have p0 : (src_ != 0) = true := by simp [hs]
      have HR := Lib.hid (HN.out rv rf (by rw [if_pos hs]))
      clear HN hs
      go_wp2_with fail
      go_roundw
      case rel => exact HR.out
      case measure => simp [intOf]; omega
    have p0 : (src_ != 0) = false := by simp [hs]
    by_cases hp0 : port = 0
    case pos =>
      have p1 : (port == 0) = true := by simp [hp0]
      have p2 : (port == 2) = false := by simp [hp0]
      by_cases hd1 : dl ≤ 1
      case pos =>
        have p3 : decide ((dl : Int) ≤ 1) = true := decide_eq_true (by omega)
        have p3' : decide (dl ≤ 1) = true := decide_eq_true hd1
        cases rf with
        | false =>
          have HR : Hid (StrR w5 src_ ms (.int .i64 ((rv : Int) + 1)) (.bool true) (.int .i64 ((k : Int) + 1)) (wr.alloc (.cells #[.int .i64 port, .slice D dl cc] 68))) := Lib.hid (by have := HN.out (rv + 1) true (by rw [if_neg (fun e => e hs), if_pos ⟨hp0, hd1, rfl⟩]); rw [show (((rv + 1 : Nat)) : Int) = (rv : Int) + 1 by omega] at this; exact this)
          clear HN hs hp0 hd1
          go_wp2_with fail
          go_roundw
          case rel => exact HR.out
          case measure => simp [intOf]; omega
        | true =>
          have HR := Lib.hid (HN.out rv true (by rw [if_neg (fun e => e hs), if_neg (fun e => by cases e.2.2), if_neg (fun e => by have := e.1; omega)]))
          clear HN hs hp0 hd1
          go_wp2_with fail
          go_roundw
          case rel => exact HR.out
          case measure => simp [intOf]; omega
      case neg =>
        have p3 : decide ((dl : Int) ≤ 1) = false := decide_eq_false (by omega)
        have p3' : decide (dl ≤ 1) = false := decide_eq_false hd1
        have HR := Lib.hid (HN.out rv rf (by rw [if_neg (fun e => e hs), if_neg (fun e => hd1 e.2.1), if_neg (fun e => by have := e.1; omega)]))
        clear HN hs hp0 hd1
        go_wp2_with fail
        go_roundw
        case rel => exact HR.out
        case measure => simp [intOf]; omega
    case neg =>
      have p1 : (port == 0) = false := by simp [hp0]
      by_cases hp2 : port = 2
      case pos =>
        have p2 : (port == 2) = true := by simp [hp2]
        by_cases hd4 : dl ≤ 4
        case pos =>
          have p3 : decide ((dl : Int) ≤ 4) = true := decide_eq_true (by omega)
          have p3' : decide (dl ≤ 4) = true := decide_eq_true hd4
          have HR : Hid (StrR w5 src_ ms (.int .i64 ((rv : Int) + 1)) (.bool rf) (.int .i64 ((k : Int) + 1)) (wr.alloc (.cells #[.int .i64 port, .slice D dl cc] 68))) := Lib.hid (by have := HN.out (rv + 1) rf (by rw [if_neg (fun e => e hs), if_neg (fun e => hp0 e.1), if_pos ⟨hp2, hd4⟩]); rw [show (((rv + 1 : Nat)) : Int) = (rv : Int) + 1 by omega] at this; exact this)
          clear HN hs hp0 hp2 hd4
          go_wp2_with fail
          go_roundw
          case rel => exact HR.out
          case measure => simp [intOf]; omega
        case neg =>
          have p3 : decide ((dl : Int) ≤ 4) = false := decide_eq_false (by omega)
          have p3' : decide (dl ≤ 4) = false := decide_eq_false hd4
          have HR := Lib.hid (HN.out rv rf (by rw [if_neg (fun e => e hs), if_neg (fun e => hp0 e.1), if_neg (fun e => hd4 e.2)]))
          clear HN hs hp0 hp2 hd4
          go_wp2_with fail
          go_roundw
          case rel => exact HR.out
          case measure => simp [intOf]; omega
      case neg =>
        have p2 : (port == 2) = false := by simp [hp2]
        have HR := Lib.hid (HN.out rv rf (by rw [if_neg (fun e => e hs), if_neg (fun e => hp0 e.1), if_neg (fun e => hp2 e.1)]))
        clear HN hs hp0 hp2
        go_wp2_with fail
        go_roundw
        case rel => exact HR.out
        case measure => simp [intOf]; omega
end Go.Proofs.Ytdeodoppcflgfaa
