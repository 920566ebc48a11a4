/- Contract of fault.Trail at an error in memory: a new slice of its numbers. Conditions: errors.errorType holds the type error; where the faults lie; at most 1000000 links. -/
import Derived.Test.YtabndibenffngaaDoorErrI
namespace Go.Proofs.YtabndibenffngaaDoor
open Go.RowKit Go.Extern.Stop Go.Stop Go.Extern

def LastR (t : Option Int) (q : Nat) (r : Bool) (w1 : World) : Prop := r = t.isSome ∧ w1.heap[q]? = some (.cells #[.int .i64 (t.getD 0)] 30 (0, 0))

theorem enters28 (args : Array Value) (w : World) : (callFunc 52 args).run Tryd.prog w = .ok (.enter 52 args) w :=
  enters Tryd.func52 (by kernel_rfl) rfl args w

theorem own_ne {w : World} {B B' e e' n n' : Nat} {v v' : Value} {xs xs' : List Value} (h : w.ownsRow B e 1 v n xs) (h' : w.ownsRow B' e' 1 v' n' xs') (hne : e ≠ e') : v.ownBlock = none ∨ v.ownBlock ≠ v'.ownBlock := by
  rcases h.2 with ⟨rfl, -⟩ | ⟨g, cap, cur, rfl, -, hg, -⟩
  · exact .inl rfl
  · rcases h'.2 with ⟨rfl, -⟩ | ⟨g', cap', cur', rfl, -, hg', -⟩
    · exact .inr (by simp [Value.ownBlock])
    · refine .inr fun h => ?_
      simp [Value.ownBlock] at h
      subst h
      rw [hg] at hg'
      simp at hg'
      exact hne hg'.2

theorem own_below {w w' : World} {B e n : Nat} {v : Value} {xs : List Value} (h : w.ownsRow B e 1 v n xs) (hb : Below w.heap.size w w') : w'.ownsRow B e 1 v n xs :=
  h.kept (row := none) ⟨hb.os, hb.tape, hb.output, hb.size, fun k hk _ => hb.block k hk⟩ (by cases v.ownBlock <;> simp)

/-- append of one value to a slice that the call owns: what is behind it. -/
theorem wpList_append1 {P : Program} {w0 : World} {ops : Array Oper} {rest : List Oper} {o : Oper} {a : Act} {Q : Exit → Act → World → Prop} (hgd : o.guard = none) (s x : Operand) (t : TypeId)
    (ho : o.op = .call { callee := .builtin .append, args := #[s, x], argTypes := #[t, t] }) (base : Nat) (e : TypeId) (z : Value) (bytes : Nat)
    (ht : P.underlying t = some (.slice e)) (hinfo : (P.info? e).map (fun i => (i.zero, i.size, i.bytes)) = some (some z, 1, bytes)) (hzs : z.cells.size = 1)
    (v : Value) (n : Nat) (xs : List Value) (hs : a.eval s = v) (hown : w0.ownsRow base e 1 v n xs) (c : Nat) (u : Value) (hx : a.eval x = .slice (some ⟨w0.heap.size, 0, none⟩) 1 c) (h1 : u.oneCell' = true)
    (h63 : n + 1 ≤ maxLen) (hby : (n + 1) * bytes ≤ 140737488355328) (hbase : base ≤ w0.heap.size)
    (h : ∀ v' w', w'.ownsRow base e 1 v' (n + 1) (xs ++ [u]) → Below base w0 w' → (∀ B' e' v'' n'' xs'', e' ≠ e → w0.ownsRow B' e' 1 v'' n'' xs'' → w'.ownsRow B' e' 1 v'' n'' xs'') → wpList P ops Q rest (a.put o.dst v') w') :
    wpList P ops Q (o :: rest) a (w0.alloc (.cells #[u] e)) := by
  obtain ⟨i, hi, hz, hsize, hbytes⟩ := info_parts hinfo
  have hown' : (w0.alloc (.cells #[u] e)).ownsRow base e 1 v n xs := hown.alloc _
  refine wpList_append_own _ hgd s x t ho base e i z 1 bytes ht hi hz hsize hbytes hzs (by decide) v n xs hs (hown.alloc _) ⟨w0.heap.size, 0, none⟩ 1 c [u] hx rfl ?_ ?_ h63 hby (by simp; omega) ?_
  · intro j u' hj
    match j, hj with
    | 0, hj => simp at hj; subst hj; simp [Addr.add]
  · intro u' hu; simp at hu; subst hu; exact h1
  · intro v' w' ho' hg _
    refine h v' w' ho' (((Below.refl base w0).alloc hbase _).grown hg (by simp; omega) (fun k hk => (hown'.lt k hk).1)) ?_
    intro B' e' v'' n'' xs'' hne h''
    exact (h''.alloc _).kept hg (own_ne (h''.alloc _) hown' hne)

theorem ptrOf_drop {l : List (Nat × Int × Int)} {n : Nat} (h : n < l.length) : ptrOf (l.drop n) = .pointer (some ⟨(nd l n).1, 0, none⟩) := by
  unfold nd
  rw [List.drop_eq_getElem_cons h, List.getD_eq_getElem?_getD, List.getElem?_eq_getElem h]
  rfl
theorem errAt_drop {l : List (Nat × Int × Int)} {t : Option Int} {n : Nat} (h : n ≤ l.length) : errAt l t n = errV (l.drop n) t := by simp [errAt, h]
theorem take_nd {l : List (Nat × Int × Int)} {n : Nat} (h : n < l.length) : l.take (n + 1) = l.take n ++ [nd l n] := by
  rw [List.take_succ_eq_append_getElem h]
  simp [nd, List.getD_eq_getElem?_getD, List.getElem?_eq_getElem h]

theorem infoP : (Tryd.prog.info? 80).map (fun i => (i.zero, i.size, i.bytes)) = some (some (.pointer none), 1, 8) := by kernel_rfl
theorem infoN : (Tryd.prog.info? 30).map (fun i => (i.zero, i.size, i.bytes)) = some (some (.int .i64 0), 1, 8) := by kernel_rfl

def ptrs (l : List (Nat × Int × Int)) : List Value := l.map fun x => .pointer (some ⟨x.1, 0, none⟩)
def nums (l : List (Nat × Int × Int)) : List Value := l.map fun x => .int .i64 x.2.1

theorem codes_nums (l : List (Nat × Int × Int)) (t : Option Int) : (codes l t).map (Value.int .i64) = nums l ++ t.toList.map (Value.int .i64) := by simp [codes, nums, Function.comp_def]
theorem codes_len (l : List (Nat × Int × Int)) (t : Option Int) : (codes l t).length = l.length + t.toList.length := by simp [codes]

def TrailRel (l : List (Nat × Int × Int)) (t : Option Int) (W : World) (v3 v4 v6 : Value) (wr : World) : Prop :=
  ∃ n, n ≤ l.length ∧ v6 = ptrOf (l.drop n) ∧ wr.ownsRow (W.heap.size + 1) 30 1 v3 n (nums (l.take n)) ∧ wr.ownsRow (W.heap.size + 1) 80 1 v4 n (ptrs (l.take n)) ∧
    wr.heap[W.heap.size]? = some (.cells #[errAt l t n] 25 (0, 0)) ∧ Below W.heap.size W wr

def TrailPost (l : List (Nat × Int × Int)) (t : Option Int) (W : World) (e : Ending) (w' : World) : Prop :=
  ∃ v, e = .returned v ∧ w'.ownsRow (W.heap.size + 1) 30 1 v (codes l t).length ((codes l t).map (.int .i64)) ∧ Below W.heap.size W w'

/-- The measure: how much of the chain is left, by the block of the fault in hand. -/
def ptrM : Value → Nat
  | .pointer (some a) => a.block + 1
  | _ => 0

end Go.Proofs.YtabndibenffngaaDoor
