/- The queue of bytes in memory; contracts of inGap and of bytes.Clone. Conditions: numbers in their ranges, where the bytes lie. -/
import Derived.Test.YtodkcenoljpgoaaGrdA
import Derived.Test.YtodkcenoljpgoaaTbY
import Derived.Test.YtodkcenoljpgoaaSeg
import Derived.Test.YtodkcenoljpgoaaHeldL
import Derived.Lib.SliceRun
namespace Go.Proofs.Ytodkcenoljpgoaa
open Go.RowKit
set_option maxRecDepth 100000

def bestV (Q : Nat) : Value := .pointer (some ⟨Q, 0, none⟩)
/-- The blocks of queues of bytes. -/
def BTag (w : World) (B k : Nat) : Prop := B ≤ k ∧ ∃ cs t, w.heap[k]? = some (.cells cs t (0, 0)) ∧ (t = 51 ∨ t = 53)
/-- Nothing but queues of bytes (of the call's own) is written. -/
def BOnly (B : Nat) (w w' : World) : Prop := Apart (BTag w B) w w'
theorem BOnly.of_below {B : Nat} {w w' : World} (h : Below w.heap.size w w') : BOnly B w w' := Apart.of_below' h
theorem BOnly.trans {B : Nat} {a b c : World} (h : BOnly B a b) (k : BOnly B b c) : BOnly B a c := by
  refine Apart.trans h k fun i hi => ?_
  by_cases hlt : i < a.heap.size
  · by_cases hF : BTag a B i
    · exact .inl hF
    · obtain ⟨h1, cs, t, h2, h3⟩ := hi
      exact .inl ⟨h1, cs, t, by rw [← h.block i hlt hF]; exact h2, h3⟩
  · exact .inr (by omega)
theorem BOnly.below {B : Nat} {w w' : World} (h : BOnly B w w') (hB : B ≤ w.heap.size) : Below B w w' := Apart.below h hB fun _ hk => hk.1
theorem BOnly.block {B : Nat} {w w' : World} (h : BOnly B w w') {k : Nat} {cs : Array Value} {t : TypeId} (hk : w.heap[k]? = some (.cells cs t (0, 0))) (h1 : t ≠ 51) (h2 : t ≠ 53) : w'.heap[k]? = some (.cells cs t (0, 0)) :=
  (Apart.block h k (lt_of_block hk) (fun ⟨_, cs', t', e1, e2⟩ => by
    rw [hk] at e1
    simp only [Option.some.injEq, Obj.cells.injEq] at e1
    obtain ⟨-, rfl, -⟩ := e1
    rcases e2 with rfl | rfl
    · exact h1 rfl
    · exact h2 rfl)).trans hk
theorem BOnly.seg {B : Nat} {w w' : World} (h : BOnly B w w') {B' e size n : Nat} {v : Value} {xs : List Value} (ho : Seg w B' e size v n xs) (h1 : e ≠ 51) (h2 : e ≠ 53) : Seg w' B' e size v n xs :=
  Seg.apart ho h fun k hk ⟨_, cs, t, e1, e2⟩ => by
    obtain ⟨cur, h3⟩ := Seg.block ho k hk
    rw [h3] at e1
    simp only [Option.some.injEq, Obj.cells.injEq] at e1
    obtain ⟨-, rfl, -⟩ := e1
    rcases e2 with e2 | e2
    · exact h1 e2
    · exact h2 e2

theorem own_base {w : World} {B B' e size n : Nat} {v : Value} {xs : List Value} (h : w.ownsRow B e size v n xs) (hb : B' ≤ B) : w.ownsRow B' e size v n xs :=
  ⟨h.1, h.2.imp id fun ⟨g, cap, cur, h1, h2, h3⟩ => ⟨g, cap, cur, h1, Nat.le_trans hb h2, h3⟩⟩

/-- What waits: the slices es, that hold the bytes q. -/
structure BestIn (W : World) (B Q : Nat) (v : Value) (es : List Value) (q : List (List UInt8)) : Prop where
  hd : W.heap[Q]? = some (.cells #[v] 51 (0, 0))
  own : W.ownsRow B 53 1 v es.length es
  len : es.length = q.length
  each : ∀ (i : Nat) (e : Value) (l : List UInt8), es[i]? = some e → q[i]? = some l → W.ownsRow B 5 1 e l.length (bytesV l)
  base : B ≤ Q
section
variable {W W' : World} {B Q : Nat} {v : Value} {es : List Value} {q : List (List UInt8)}
theorem BestIn.apart {F : Nat → Prop} (h : BestIn W B Q v es q) (ha : Apart F W W') (h1 : ¬ F Q) (h2 : ∀ k, v.ownBlock = some k → ¬ F k) (h3 : ∀ k cs, W.heap[k]? = some (.cells cs 5 (0, 0)) → ¬ F k) : BestIn W' B Q v es q :=
  ⟨(ha.block Q (lt_of_block h.hd) h1).trans h.hd, own_apart h.own ha h2, h.len, fun i e l he hl => own_apart (h.each i e l he hl) ha (fun k hk => by
    rcases (h.each i e l he hl).2 with ⟨rfl, -⟩ | ⟨g, cap, cur, rfl, -, hg, -⟩
    · simp [Value.ownBlock] at hk
    · simp [Value.ownBlock] at hk
      subst hk
      exact h3 _ _ hg), h.base⟩
theorem BestIn.keep (h : BestIn W B Q v es q) (hb : Below W.heap.size W W') : BestIn W' B Q v es q := h.apart (F := fun _ => False) (Apart.of_below' hb) (fun h => h) (fun _ _ h => h) (fun _ _ _ h => h)
/-- What is written beside it, of other types. -/
theorem BestIn.beside {F : Nat → Prop} (h : BestIn W B Q v es q) (ha : Apart F W W') (hF : ∀ k cs t, W.heap[k]? = some (.cells cs t (0, 0)) → (t = 51 ∨ t = 53 ∨ t = 5) → ¬ F k) : BestIn W' B Q v es q := by
  refine h.apart ha (hF _ _ _ h.hd (.inl rfl)) (fun k hk => ?_) (fun k cs hk => hF _ _ _ hk (.inr (.inr rfl)))
  rcases h.own.2 with ⟨rfl, -⟩ | ⟨g, cap, cur, rfl, hb, hg, -⟩
  · simp [Value.ownBlock] at hk
  · simp [Value.ownBlock] at hk
    subst hk
    exact hF _ _ _ hg (.inr (.inl rfl))
theorem BestIn.ne (h : BestIn W B Q v es q) (k : Nat) (hk : v.ownBlock = some k) : k ≠ Q := own_off h.own h.hd (by decide) k hk
theorem BestIn.only (h : BestIn W B Q v es q) (ha : Apart (fun k => k = Q ∨ v.ownBlock = some k) W W') : BOnly B W W' := ha.mono fun k _ hf => by
  rcases hf with rfl | hf
  · exact ⟨h.base, _, _, h.hd, .inl rfl⟩
  · rcases h.own.2 with ⟨rfl, -⟩ | ⟨g, cap, cur, rfl, hb, hg, -⟩
    · simp [Value.ownBlock] at hf
    · simp [Value.ownBlock] at hf
      subst hf
      exact ⟨hb, _, _, hg, .inr rfl⟩
theorem BestIn.slice (h : BestIn W B Q v es q) : ∃ A cap, v = .slice A q.length cap ∧ q.length ≤ cap := by
  have := own_slice h.own
  rwa [h.len] at this
end
/-- A queue of bytes that holds q. -/
def BestS (W : World) (B Q : Nat) (q : List (List UInt8)) : Prop := ∃ v es, BestIn W B Q v es q
theorem BestS.keep {W W' : World} {B Q : Nat} {q : List (List UInt8)} (h : BestS W B Q q) (hb : Below W.heap.size W W') : BestS W' B Q q := by
  obtain ⟨v, es, h1⟩ := h
  exact ⟨v, es, h1.keep hb⟩
theorem BestS.beside {W W' : World} {B Q : Nat} {q : List (List UInt8)} {F : Nat → Prop} (h : BestS W B Q q) (ha : Apart F W W') (hF : ∀ k cs t, W.heap[k]? = some (.cells cs t (0, 0)) → (t = 51 ∨ t = 53 ∨ t = 5) → ¬ F k) : BestS W' B Q q := by
  obtain ⟨v, es, h1⟩ := h
  exact ⟨v, es, h1.beside ha hF⟩
theorem BestS.new (w : World) : BestS (w.alloc (.cells #[.slice none 0 0] 51)) w.heap.size w.heap.size [] :=
  ⟨.slice none 0 0, [], heap_alloc_new w _, World.ownsRow_nil _ _ _ _, rfl, fun i e l he _ => by simp at he, Nat.le_refl _⟩

/-- Is a local time in the gap? -/
def gapB (c : TableP.Cfg) (a : Int) : Bool := decide (c.nodes * c.slot ≤ a) && decide (a < SndP.roundT c)
theorem gap_any (x : CfgC) (a : Int) (w : World) (hh : TableP.headOk x.plain) : Calls Try.prog 30 #[x.value, .int .i64 a] w (BoolPost (gapB x.plain a) w) := by
  have C0 := Lib.hid (fun W => round_any x W hh)
  have hn := SndP.nums_in hh
  have hsl : 0 ≤ x.nodes * x.slot ∧ x.nodes * x.slot ≤ 117440512 := hn.slots
  have e0 : IntKind.i64.wrap (x.nodes * x.slot) = x.nodes * x.slot := IntWalk.i64_in _ (by omega)
  have eG : gapB x.plain a = (decide (x.nodes * x.slot ≤ a) && decide (a < SndP.roundT x.plain)) := rfl
  rw [eG]
  generalize SndP.roundT x.plain = rd at *
  have HST := Lib.hid (BoxS.start w x)
  clear hh hn hsl eG
  obtain ⟨nodes, faulty, slot, gap, rho, dmin, dmax, margin, PA, pn, pcap, parts, QA, qn, qcap, ports, RA, rn, rcap, routes⟩ := x
  have d0 := fun W (hW : BoxS w ⟨nodes, faulty, slot, gap, rho, dmin, dmax, margin, PA, pn, pcap, parts, QA, qn, qcap, ports, RA, rn, rcap, routes⟩ W) => hW.cells.c0
  have d1 := fun W (hW : BoxS w ⟨nodes, faulty, slot, gap, rho, dmin, dmax, margin, PA, pn, pcap, parts, QA, qn, qcap, ports, RA, rn, rcap, routes⟩ W) => hW.cells.c1
  have d2 := fun W (hW : BoxS w ⟨nodes, faulty, slot, gap, rho, dmin, dmax, margin, PA, pn, pcap, parts, QA, qn, qcap, ports, RA, rn, rcap, routes⟩ W) => hW.cells.c2
  have d3 := fun W (hW : BoxS w ⟨nodes, faulty, slot, gap, rho, dmin, dmax, margin, PA, pn, pcap, parts, QA, qn, qcap, ports, RA, rn, rcap, routes⟩ W) => hW.cells.c3
  have d4 := fun W (hW : BoxS w ⟨nodes, faulty, slot, gap, rho, dmin, dmax, margin, PA, pn, pcap, parts, QA, qn, qcap, ports, RA, rn, rcap, routes⟩ W) => hW.cells.c4
  have d5 := fun W (hW : BoxS w ⟨nodes, faulty, slot, gap, rho, dmin, dmax, margin, PA, pn, pcap, parts, QA, qn, qcap, ports, RA, rn, rcap, routes⟩ W) => hW.cells.c5
  have d6 := fun W (hW : BoxS w ⟨nodes, faulty, slot, gap, rho, dmin, dmax, margin, PA, pn, pcap, parts, QA, qn, qcap, ports, RA, rn, rcap, routes⟩ W) => hW.cells.c6
  have d7 := fun W (hW : BoxS w ⟨nodes, faulty, slot, gap, rho, dmin, dmax, margin, PA, pn, pcap, parts, QA, qn, qcap, ports, RA, rn, rcap, routes⟩ W) => hW.cells.c7
  have d8 := fun W (hW : BoxS w ⟨nodes, faulty, slot, gap, rho, dmin, dmax, margin, PA, pn, pcap, parts, QA, qn, qcap, ports, RA, rn, rcap, routes⟩ W) => hW.cells.c8
  have d9 := fun W (hW : BoxS w ⟨nodes, faulty, slot, gap, rho, dmin, dmax, margin, PA, pn, pcap, parts, QA, qn, qcap, ports, RA, rn, rcap, routes⟩ W) => hW.cells.c9
  have d10 := fun W (hW : BoxS w ⟨nodes, faulty, slot, gap, rho, dmin, dmax, margin, PA, pn, pcap, parts, QA, qn, qcap, ports, RA, rn, rcap, routes⟩ W) => hW.cells.c10
  have hst := HST.out
  have k0 := d0 _ hst
  have k1 := d1 _ hst
  have k2 := d2 _ hst
  have k3 := d3 _ hst
  have k4 := d4 _ hst
  have k5 := d5 _ hst
  have k6 := d6 _ hst
  have k7 := d7 _ hst
  have k8 := d8 _ hst
  have k9 := d9 _ hst
  have k10 := d10 _ hst
  simp only [boxC, cfgCells] at HST k0 k1 k2 k3 k4 k5 k6 k7 k8 k9 k10
  simp only at d0 d1 d2 d3 d4 d5 d6 d7 d8 d9 d10 k0 k1 k2 k3 k4 k5 k6 k7 k8 k9 k10 e0 ⊢
  simp only [CfgC.value] at C0 ⊢
  clear hst
  by_cases h1 : nodes * slot ≤ a
  · have q1 : decide (nodes * slot ≤ a) = true := decide_eq_true h1
    rw [q1, Bool.true_and]
    clear h1
    go_enter Try.func30, Try.ntmps30
    go_wp2_with fail
    refine (C0.out _).mono ?_
    rintro e w1 ⟨rfl, hb1⟩
    have HF := Lib.hid (HST.out.step hb1).below
    clear hb1
    go_wp2_with fail
    go_ret
    exact ⟨rfl, HF.out⟩
  · have q1 : decide (nodes * slot ≤ a) = false := decide_eq_false h1
    rw [q1, Bool.false_and]
    have HF := Lib.hid HST.out.below
    clear h1
    go_enter Try.func30, Try.ntmps30
    go_wp2_with fail
    go_ret
    exact ⟨rfl, HF.out⟩

theorem infoU9 : (Try.prog.info? 5).map (fun i => (i.zero, i.size, i.bytes)) = some (some (.int .u8 0), 1, 1) := by kernel_rfl
/-- A copy of bytes, in memory of its own. -/
def CloneP (l : List UInt8) (w : World) (e : Ending) (w' : World) : Prop := ∃ v, e = .returned v ∧ w'.ownsRow w.heap.size 5 1 v l.length (bytesV l) ∧ Below w.heap.size w w'
theorem clone_any (g o n cap : Nat) (l : List UInt8) (hl : l.length = n) (hn : n ≤ 1000000) (w : World) (h : Bytes w w.heap.size (some ⟨g, o, none⟩) l) :
    Calls Try.prog 29 #[.slice (some ⟨g, o, none⟩) n cap] w (CloneP l w) := by
  have Hb := Lib.hid h
  have Hl := Lib.hid hl
  have HO := Lib.hid (own_empty w w.heap.size w.heap.size 1 5 rfl (Nat.le_refl _))
  have HB1 := Lib.hid (fun o => (Below.refl w.heap.size w).alloc (Nat.le_refl _) o)
  have kn := fun W => Lib.run_eql_slice_nil (P := Try.prog) W 53 5 (some ⟨g, o, none⟩) n cap 0 0 Try.underlying53
  simp only [Option.isNone_some] at kn
  clear h hl
  go_enter Try.func29, Try.ntmps29
  go_wp2_with (at_builtin
               refine wpList_append_r rfl (.tmp 5) (.tmp 6) _ rfl w.heap.size 5 (.int .u8 0) Try.underlying53 infoU9 rfl _ (some w.heap.size) [] rfl ⟨rfl, HO.out⟩ w.heap.size (some ⟨g, o, none⟩) n cap l rfl Hl.out (Hb.out.below (HB1.out _) (Nat.le_refl _)) (by simp; omega) (by simp) ?_
               intro v1 w1 g1 h1 h2 h3
               have HF : Hid (CloneP l w (.returned v1) w1) := Lib.hid ⟨v1, rfl, by simpa using h1.2, ((HB1.out _).trans (h3.below (by simp) (fun k e => by simp only [Option.some.injEq] at e; omega)))⟩
               clear h1 h2 h3)
  go_ret
  exact HF.out
end Go.Proofs.Ytodkcenoljpgoaa
