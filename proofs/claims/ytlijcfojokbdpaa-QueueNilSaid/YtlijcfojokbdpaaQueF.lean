/- What a queue holds (QueS), and contracts of New, Len and Put. Conditions: where the queue lies; at most a million puts. -/
import Derived.Test.YtlijcfojokbdpaaQueE
import Derived.Test.YtlijcfojokbdpaaItn
namespace Go.Proofs.Ytlijcfojokbdpaa
open Go.RowKit
set_option maxRecDepth 100000

def evV (e : QueP.Ev) : Value := .agg #[.int .i64 e.at_, .int .i64 e.rank, .int .i64 e.what]
def evVals (e : QueP.Ev) : List Value := [.int .i64 e.at_, .int .i64 e.rank, .int .i64 e.what]
theorem evVals_len (e : QueP.Ev) : (evVals e).length = 3 := rfl
theorem evVals_one (e : QueP.Ev) : ∀ u ∈ evVals e, u.oneCell' = true := by
  intro u hu
  simp only [evVals, List.mem_cons, List.not_mem_nil, or_false] at hu
  rcases hu with rfl | rfl | rfl <;> rfl
def queV (Q : Nat) : Value := .pointer (some ⟨Q, 0, none⟩)

/-- The blocks of queues. -/
def QTag (w : World) (B k : Nat) : Prop := B ≤ k ∧ ∃ cs t, w.heap[k]? = some (.cells cs t (0, 0)) ∧ (t = 46 ∨ t = 49)
/-- Nothing but queues (of the call's own) is written. -/
def QOnly (B : Nat) (w w' : World) : Prop := Apart (QTag w B) w w'
theorem QOnly.of_below {B : Nat} {w w' : World} (h : Below w.heap.size w w') : QOnly B w w' := Apart.of_below' h
theorem QOnly.trans {B : Nat} {a b c : World} (h : QOnly B a b) (k : QOnly B b c) : QOnly B a c := by
  refine Apart.trans h k fun i hi => ?_
  by_cases hlt : i < a.heap.size
  · by_cases hF : QTag a B i
    · exact .inl hF
    · obtain ⟨h1, cs, t, h2, h3⟩ := hi
      exact .inl ⟨h1, cs, t, by rw [← h.block i hlt hF]; exact h2, h3⟩
  · exact .inr (by omega)
theorem QOnly.below {B : Nat} {w w' : World} (h : QOnly B w w') (hB : B ≤ w.heap.size) : Below B w w' := Apart.below h hB fun _ hk => hk.1
theorem QOnly.block {B : Nat} {w w' : World} (h : QOnly B w w') {k : Nat} {cs : Array Value} {t : TypeId} (hk : w.heap[k]? = some (.cells cs t (0, 0))) (h1 : t ≠ 46) (h2 : t ≠ 49) : w'.heap[k]? = some (.cells cs t (0, 0)) :=
  (Apart.block h k (lt_of_block hk) (fun ⟨_, cs', t', e1, e2⟩ => by
    rw [hk] at e1
    simp only [Option.some.injEq, Obj.cells.injEq] at e1
    obtain ⟨-, rfl, -⟩ := e1
    rcases e2 with rfl | rfl
    · exact h1 rfl
    · exact h2 rfl)).trans hk
theorem QOnly.own {B : Nat} {w w' : World} (h : QOnly B w w') {B' e size n : Nat} {v : Value} {xs : List Value} (ho : w.ownsRow B' e size v n xs) (h1 : e ≠ 46) (h2 : e ≠ 49) : w'.ownsRow B' e size v n xs := by
  refine ⟨ho.1, ?_⟩
  rcases ho.2 with hn | ⟨b, cap, cur, rfl, hb, hgg, rest⟩
  · exact .inl hn
  · exact .inr ⟨b, cap, cur, rfl, hb, h.block hgg h1 h2, rest⟩
theorem QueIn.only {w w' : World} {B Q : Nat} {v : Value} {es : List QueP.Ent} {puts : Int} (h : QueIn w B Q v es puts) (ha : Apart (fun k => k = Q ∨ v.ownBlock = some k) w w') : QOnly B w w' := ha.mono fun k _ hf => by
  rcases hf with rfl | hf
  · exact ⟨h.base, _, _, h.hd, .inl rfl⟩
  · rcases h.own.2 with ⟨rfl, -⟩ | ⟨g, cap, cur, rfl, hb, hg, -⟩
    · simp [Value.ownBlock] at hf
    · simp [Value.ownBlock] at hf
      subst hf
      exact ⟨hb, _, _, hg, .inr rfl⟩

/-- What a queue holds: events in the order in which they were put; the number of the next one. -/
def QueS (W : World) (B Q : Nat) (want : List QueP.Ev) (next : Int) : Prop :=
  ∃ v es ents, QueIn W B Q v es next ∧ QueP.Heap QueP.le es ∧ es.Perm ents ∧ QueP.Queued want ents next
theorem QueS.keep {W W' : World} {B Q : Nat} {want : List QueP.Ev} {next : Int} (h : QueS W B Q want next) (hb : Below W.heap.size W W') : QueS W' B Q want next := by
  obtain ⟨v, es, ents, h1, h2⟩ := h
  exact ⟨v, es, ents, h1.keep hb, h2⟩
/-- What is written beside a queue, of other types. -/
theorem QueS.beside {W W' : World} {B Q : Nat} {want : List QueP.Ev} {next : Int} {F : Nat → Prop} (h : QueS W B Q want next) (ha : Apart F W W') (hF : ∀ k cs t, W.heap[k]? = some (.cells cs t (0, 0)) → (t = 46 ∨ t = 49) → ¬ F k) : QueS W' B Q want next := by
  obtain ⟨v, es, ents, h1, h2⟩ := h
  refine ⟨v, es, ents, h1.apart ha (hF _ _ _ h1.hd (.inl rfl)) (fun k hk => ?_), h2⟩
  rcases h1.own.2 with ⟨rfl, -⟩ | ⟨g, cap, cur, rfl, hb, hg, -⟩
  · simp [Value.ownBlock] at hk
  · simp [Value.ownBlock] at hk
    subst hk
    exact hF _ _ _ hg (.inr rfl)
theorem queued_length {want : List QueP.Ev} {ents : List QueP.Ent} {next : Int} (h : QueP.Queued want ents next) : ents.length = want.length := by rw [← h.same, List.length_map]

theorem new_any (w : World) : Calls Try.prog 8 #[] w fun e w' => e = .returned (queV w.heap.size) ∧ w' = w.alloc (.cells #[.slice none 0 0, .int .i64 0] 46) := by
  go_enter Try.func8, Try.ntmps8
  go_wp2_with fail
  go_ret
  exact ⟨rfl, rfl⟩
theorem new_holds (w : World) : QueS (w.alloc (.cells #[.slice none 0 0, .int .i64 0] 46)) w.heap.size w.heap.size [] 0 :=
  ⟨.slice none 0 0, [], [], ⟨heap_alloc_new w _, World.ownsRow_nil _ _ _ _, Nat.le_refl _⟩, fun j _ a b ha _ => by simp at ha, List.Perm.refl _, QueP.queued_none 0⟩

theorem len_any (w : World) (B Q : Nat) (want : List QueP.Ev) (next : Int) (h : QueS w B Q want next) : Calls Try.prog 13 #[queV Q] w (QInt (want.length : Nat) w) := by
  obtain ⟨v, es, ents, h1, -, h3, h4⟩ := h
  obtain ⟨A, cap, rfl, -⟩ := own_slice h1.own
  have hl : es.length = want.length := h3.length_eq.trans (queued_length h4)
  have k := h1.head
  rw [hl] at k
  clear h1 h3 h4 hl
  unfold queV
  go_enter Try.func13, Try.ntmps13
  go_wp2_with fail
  go_ret
  exact ⟨rfl, Below.refl _ _⟩
theorem len_nil (w : World) : Calls Try.prog 13 #[.pointer none] w (QInt 0 w) := by
  go_enter Try.func13, Try.ntmps13
  go_wp2_with fail
  go_ret
  exact ⟨rfl, Below.refl _ _⟩

def QRet (v : Value) (w : World) (e : Ending) (w' : World) : Prop := e = .returned v ∧ Below w.heap.size w w'
theorem put_nil (ev : QueP.Ev) (w : World) : Calls Try.prog 9 #[.pointer none, evV ev] w (QRet (.iface 47 (.int .i64 1)) w) := by
  unfold evV
  go_enter Try.func9, Try.ntmps9
  go_wp2_with fail
  go_ret
  exact ⟨rfl, (Below.refl _ _).alloc (Nat.le_refl _) _⟩
theorem put_full (w : World) (B Q : Nat) (want : List QueP.Ev) (next : Int) (h : QueS w B Q want next) (hl : want.length = 4096) (ev : QueP.Ev) :
    Calls Try.prog 9 #[queV Q, evV ev] w (QRet (.iface 47 (.int .i64 11)) w) := by
  obtain ⟨v, es, ents, h1, -, h3, h4⟩ := h
  obtain ⟨A, cap, rfl, -⟩ := own_slice h1.own
  have hl : es.length = 4096 := (h3.length_eq.trans (queued_length h4)).trans hl
  have k := (h1.keep ((Below.refl w.heap.size w).alloc (Nat.le_refl _) (.cells #[.int .i64 ev.at_, .int .i64 ev.rank, .int .i64 ev.what] 28))).head
  rw [hl] at k
  clear h1 h3 h4 hl
  unfold queV evV
  go_enter Try.func9, Try.ntmps9
  go_wp2_with fail
  go_ret
  exact ⟨rfl, (Below.refl _ _).alloc (Nat.le_refl _) _⟩
end Go.Proofs.Ytlijcfojokbdpaa
