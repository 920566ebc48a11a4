/- Contracts of Image, Seal, Age and Clear. Conditions: where the ports lie, tables that are allowed. -/
import Derived.Test.YtdeodoppcflgfaaPorG
namespace Go.Proofs.Ytdeodoppcflgfaa
open Go.RowKit PorP
set_option maxRecDepth 100000

/-- The messages of the first k boxes (program: boxes of other nodes hold nothing). -/
def plainK : Nat → List El → List FrameP.Msg
  | _, [] => []
  | i, e :: es => plainsT i e.msgs ++ plainK (i + 1) es
theorem plainK_snoc (e : El) : ∀ (es : List El) (i : Nat), plainK i (es ++ [e]) = plainK i es ++ plainsT (i + es.length) e.msgs
  | [], i => by simp [plainK]
  | a :: es, i => by
    simp only [List.cons_append, plainK, plainK_snoc e es (i + 1), List.length_cons]
    rw [show i + 1 + es.length = i + (es.length + 1) by omega, List.append_assoc]
theorem plainK_take {es : List El} {k : Nat} {e : El} (h : es[k]? = some e) : plainK 0 (es.take (k + 1)) = plainK 0 (es.take k) ++ plainsT k e.msgs := by
  have hk := (List.getElem?_eq_some_iff.1 h).1
  rw [List.take_add_one, h]
  show plainK 0 (es.take k ++ [e]) = _
  rw [plainK_snoc, Nat.zero_add, List.length_take, Nat.min_eq_left (by omega)]
theorem plainK_len : ∀ (es : List El) (i : Nat), (∀ e ∈ es, e.msgs.length ≤ 4) → (plainK i es).length ≤ 4 * es.length
  | [], _, _ => by simp [plainK]
  | e :: es, i, h => by
    have h1 := plainK_len es (i + 1) (fun x hx => h x (List.mem_cons_of_mem _ hx))
    have h2 := h e (by simp)
    simp only [plainK, List.length_append, plainsT, List.length_map, List.length_cons]
    omega
def ImageP (w : World) (B : Nat) (c : TableP.Cfg) (x : PC) (ps : List FrameP.Msg) (e : Ending) (w' : World) : Prop :=
  ∃ (A : Option Addr) (n cap : Nat) (ys : List MsgC), e = .returned (.slice A n cap) ∧ ys.length = n ∧ OutM w' w.heap.size (.slice A n cap) ys ∧ ys.map MsgC.plain = ps ∧ PIn w' B c x ∧ Below w.heap.size w w'
def ImgR (w : World) (B : Nat) (c : TableP.Cfg) (x : PC) (v i : Value) (wr : World) : Prop :=
  ∃ k ys, k ≤ x.es.length ∧ i = .int .i64 (k : Nat) ∧ OutM wr w.heap.size v ys ∧ ys.map MsgC.plain = plainK 0 (x.es.take k) ∧ PIn wr B c x ∧ Below w.heap.size w wr

set_option maxHeartbeats 4000000 in
theorem pimage_any (w : World) (B : Nat) (c : TableP.Cfg) (x : PC) (h : PIn w B c x) (ha : c.ports.length ≤ 24) :
    Calls Try.prog 32 #[pv x] w (ImageP w B c x (plainK 0 x.es)) := by
  have k1 := cell_at h.hd 1 rfl
  have HL : Hid (x.es.length ≤ 24) := Lib.hid (by rw [h.len]; exact ha)
  have HS : Hid (ImgR w B c x (.slice none 0 0) (.int .i64 0) w) := Lib.hid ⟨0, [], Nat.zero_le _, rfl, OutM.nil _ _, rfl, h, Below.refl _ _⟩
  unfold pv
  clear h ha
  go_enter Try.func32, Try.ntmps32
  go_wp2_with fail
  clear k1
  go_loopw [3, 12] (ImgR w B c x) (fun _ j _ => (x.es.length + 1 - intOf j).toNat)
  case atStart => exact HS.out
  case round =>
    clear HS
    obtain ⟨k, ys, hk, rfl, ho, hp, hpin, hb⟩ := hrel
    obtain ⟨A, cap, rfl, -, -⟩ := ho.reads
    have hl24 := HL.out
    by_cases hlt : k < x.es.length
    case neg =>
      obtain rfl : k = x.es.length := by omega
      have q1 : decide ((x.es.length : Int) < (x.es.length : Int)) = false := decide_eq_false (by omega)
      have HF : Hid (ImageP w B c x (plainK 0 x.es) (.returned (.slice A ys.length cap)) wr) := Lib.hid ⟨A, _, cap, ys, rfl, rfl, ho, by rw [hp, List.take_length], hpin, hb⟩
      clear ho hp hpin hb
      go_wp2_with fail
      go_ret
      exact HF.out
    have q1 : decide ((k : Int) < (x.es.length : Int)) = true := decide_eq_true (by omega)
    have hkz : (k : Int) < (x.es.length : Int) := by omega
    obtain ⟨e, he⟩ : ∃ e, x.es[k]? = some e := ⟨_, List.getElem?_eq_getElem hlt⟩
    obtain ⟨p, hq⟩ := hpin.port he
    have hyl : ys.length ≤ 1000 := by
      have h1 := congrArg List.length hp
      have h2 := plainK_len (x.es.take k) 0 (fun e he => (hpin.els.ok e (List.mem_of_mem_take he)).1)
      rw [List.length_map] at h1
      rw [List.length_take] at h2
      omega
    have HT := Lib.hid (bxtell_any wr B w.heap.size c x hpin hb.size k (by omega) p hq e he _ ys ho hyl)
    have HR : Hid (∀ v w2, TellQ wr B w.heap.size c x (.slice A ys.length cap) ys (plainsT k e.msgs) v w2 → ImgR w B c x v (.int .i64 ((k : Int) + 1)) w2) := Lib.hid fun v w2 hT => by
      obtain ⟨⟨zs, h1, h2⟩, h3, h4, h5⟩ := hT
      refine ⟨k + 1, ys ++ zs, hlt, by go_num, h1, by rw [List.map_append, hp, h2, plainK_take he], h3, hb.trans (Apart.below h4 hb.size fun q hq => (ho.row.lt q hq).1)⟩
    have HV : Hid (∀ v w2, TellQ wr B w.heap.size c x (.slice A ys.length cap) ys (plainsT k e.msgs) v w2 → ∃ A n cap, v = .slice A n cap) := Lib.hid fun v w2 hT => by
      obtain ⟨⟨zs, h1, h2⟩, h3, h4, h5⟩ := hT
      obtain ⟨A, cap, e1, -⟩ := h1.reads
      exact ⟨_, _, _, e1⟩
    have kh := cell_at hpin.hd 1 rfl
    have e1 : IntKind.i64.wrap ((k : Int) + 1) = (k : Int) + 1 := IntWalk.i64_in _ (by omega)
    generalize plainsT k e.msgs = P at *
    unfold bxv at HT
    clear ho hp hpin hb he hq
    go_wp2_with fail
    refine HT.out.mono ?_
    rintro e2 w2 ⟨v, rfl, hT⟩
    have HR2 := Lib.hid (HR.out v w2 hT)
    obtain ⟨A2, n2, cap2, rfl⟩ := HV.out v w2 hT
    clear hT HR HT HV kh
    go_wp2_with fail
    go_roundw
    case rel => exact HR2.out
    case measure => simp [intOf]; omega

def NilP (w : World) (e : Ending) (w' : World) : Prop := e = .returned (.slice none 0 0) ∧ w' = w
theorem pseal_nil (w : World) : Calls Try.prog 17 #[.pointer none] w (NilP w) := by
  go_enter Try.func17, Try.ntmps17
  go_wp2_with fail
  go_ret
  exact ⟨rfl, rfl⟩
theorem pwrite_nil (part port : Int) (v : Value) (w : World) : Calls Try.prog 18 #[.pointer none, .int .i64 part, .int .i64 port, v] w (fun e w' => e = .returned (.iface 75 (.int .i64 1)) ∧ w' = w) := by
  go_enter Try.func18, Try.ntmps18
  go_wp2_with fail
  go_ret
  exact ⟨rfl, rfl⟩
end Go.Proofs.Ytdeodoppcflgfaa
