/- A copy of bytes handed in (append to an empty literal, guarded or not); one node's calls; PortsWrong. Conditions: where the bytes lie. -/
import Derived.Test.YtdeodoppcflgfaaPorO
namespace Go.Proofs.Ytdeodoppcflgfaa
open Go.RowKit PorP
set_option maxRecDepth 100000

theorem wpList_copy {w0 : World} {ops : Array Oper} {rest : List Oper} {o : Oper} {a : Act} {Q : Exit → Act → World → Prop} (hw : Region.wanted o (yielded ops a.tmps) = true) (s x : Operand)
    (ho : o.op = .call { callee := .builtin .append, args := #[s, x], argTypes := #[44, 44] }) (hs : a.eval s = .slice (some ⟨w0.heap.size, 0, none⟩) 0 0) (A : Option Addr) (m c : Nat) (l : List UInt8) (hx : a.eval x = .slice A m c) (hm : l.length = m) (hr : Bytes w0 w0.heap.size A l) (hn : m ≤ 140737488355328)
    (h : ∀ A' c' w', w'.ownsRow w0.heap.size 5 1 (.slice A' l.length c') l.length (bytesV l) → Bytes w' w'.heap.size A' l → ByteBlock w' A' l → Below w0.heap.size w0 w' → wpList Try.prog ops Q rest (a.put o.dst (.slice A' l.length c')) w') :
    wpList Try.prog ops Q (o :: rest) a (w0.alloc (.cells #[] 5)) := by
  have hb0 : Below w0.heap.size w0 (w0.alloc (.cells #[] 5)) := (Below.refl _ _).alloc (Nat.le_refl _) _
  unfold wpList
  rw [if_pos hw]
  refine .inl (wp_append_r s x 44 ho w0.heap.size 5 (.int .u8 0) Try.underlying44 infoU12 rfl _ (some w0.heap.size) [] hs (Row.lit w0 w0.heap.size 5 (Nat.le_refl _)) w0.heap.size A m c l hx hm (hr.below hb0 (Nat.le_refl _)) (by simp; omega) (by simp) ?_)
  intro v' w' g' h1 h2 h3
  simp only [List.nil_append] at h1
  obtain ⟨A', c', rfl, -, hg, hby⟩ := h1.bytes
  refine h A' c' w' h1.2 hby (fun _ k hk => ?_) (hb0.trans (h3.below (by simp) (fun k e => by simp only [Option.some.injEq] at e; omega)))
  obtain ⟨cur, hc⟩ := (Seg.of_own h1.2).block k (by rw [ownBlock_slice]; exact hk)
  exact ⟨_, _, hc⟩
theorem errin_touch {w w' : World} {t : Option Int} {B0 : Nat} (ht : Touch B0 w w') : ∀ {l : List (Nat × Int × Int)} {B : Nat}, ErrIn w t B l → ErrIn w' t B l
  | [], _, _ => trivial
  | (_, _, _) :: _, _, ⟨h1, h2, h3⟩ => ⟨h1, ht.off h2 (by decide) (by decide), errin_touch ht h3⟩
theorem ErrText.touch {w w' : World} {B0 : Nat} {v : Value} {x : List UInt8} (h : ErrText w v x) (ht : Touch B0 w w') : ErrText w' v x := by
  obtain ⟨l, t, h1, h2, h3, h4, h5⟩ := h
  exact ⟨l, t, h1, h2, (errin_touch ht h3).mono ht.size, h4, h5⟩
section
variable {W : World} {B : Nat} {c : TableP.Cfg} {a : Nat} {node : Int} {st : St}
theorem solo_write (h : SoloE W B c a node st) (ha : SndP.Allowed c) (part port : Int) (hport : port ≤ 9223372036854775807) (A : Option Addr) (n cap : Nat) (l : List UInt8) (hl : l.length = n) (hby : Bytes W W.heap.size A l) (hoff : ByteBlock W A l) (o : Option Nat) (st' : St) (hr : writeP c node st part port l = (o, st')) :
    Calls Try.prog 18 #[.pointer (some ⟨a, 0, none⟩), .int .i64 part, .int .i64 port, .slice A n cap] W (fun e w' => ∃ v, e = .returned v ∧ ErrV w' o port v ∧ SoloE w' B c a node st' ∧ Touch B W w') := by
  obtain ⟨hB, x, rfl, rfl, rfl, h⟩ := h
  refine (pwrite_any W B c x h hB ha part port hport A n cap l hl hby (hoff.off h)).mono ?_
  rw [hr]
  rintro e w' ⟨v, rfl, h1, h2⟩
  obtain ⟨h3, h4⟩ := SoloE.left hB h h2
  exact ⟨v, rfl, h1, h3, h4⟩
theorem solo_read (h : SoloE W B c a node st) (ha : SndP.Allowed c) (part port : Int) (hport : port ≤ 9223372036854775807) (d : List UInt8) (f : Bool) (o : Option Nat) (st' : St) (hr : readT c node st part port = ((d, f, o), st')) :
    Calls Try.prog 21 #[.pointer (some ⟨a, 0, none⟩), .int .i64 part, .int .i64 port] W (fun e w' => ∃ A cap ev, e = .returned (.tuple #[.slice A d.length cap, .bool f, ev]) ∧ w'.ownsRow B 5 1 (.slice A d.length cap) d.length (bytesV d) ∧ ErrV w' o port ev ∧ SoloE w' B c a node st' ∧ Touch B W w') := by
  obtain ⟨hB, x, rfl, rfl, rfl, h⟩ := h
  refine (pread_any W B c x h hB ha part port hport).mono ?_
  rw [hr]
  rintro e w' ⟨A, cap, ev, rfl, h1⟩
  obtain ⟨h3, h4⟩ := SoloE.left hB h h1.left
  exact ⟨A, cap, ev, rfl, h1.own, h1.err, h3, h4⟩
theorem solo_image (h : SoloE W B c a node st) (ha : SndP.Allowed c) (ps : List FrameP.Msg) (h1 : imgP c (fun p => !false || p.out) st c.ports.length = ps) :
    Calls Try.prog 32 #[.pointer (some ⟨a, 0, none⟩)] W (fun e w' => ∃ A n cap ys, e = .returned (.slice A n cap) ∧ ys.length = n ∧ OutM w' W.heap.size (.slice A n cap) ys ∧ ys.map MsgC.plain = ps ∧ Below W.heap.size W w') := by
  obtain ⟨hB, x, rfl, rfl, rfl, h⟩ := h
  refine (pimage_any W B c x h ha.ports).mono ?_
  rintro e w' ⟨A, n, cap, ys, rfl, q1, q2, q3, -, q5⟩
  rw [image_st x.es c h.len, h1] at q3
  exact ⟨A, n, cap, ys, rfl, q1, q2, q3, q5⟩
end
def keepT : List UInt8 := [107, 101, 101, 112]
theorem wired_has {part port : Int} (h : ¬ (part = 0 ∧ (port = 0 ∨ port = 2))) : hasB (wired 1 1 2 1 1) 0 part port = false := by
  unfold hasB
  by_cases h0 : 0 ≤ port
  · obtain ⟨k, rfl⟩ := Int.eq_ofNat_of_zero_le h0
    rw [Int.toNat_natCast]
    match k, h with
    | 0, h => simp [wired, mineB, nodeOf]; omega
    | 1, h => simp [wired, mineB, nodeOf]
    | 2, h => simp [wired, mineB, nodeOf]; omega
    | 3, h => simp [wired, mineB, nodeOf]
    | k + 4, h => simp [wired]
  · rw [decide_eq_false h0]; rfl
theorem wrong_read {part port : Int} (h : ¬ (part = 0 ∧ (port = 0 ∨ port = 2))) (st : St) : readT (wired 1 1 2 1 1) 0 st part port = (([], false, some 17), st) := by unfold readT; rw [find_has, wired_has h]; rfl
theorem wrong_write {part port : Int} (h : ¬ (part = 0 ∧ (port = 0 ∨ port = 2))) (st : St) (d : List UInt8) : writeP (wired 1 1 2 1 1) 0 st part port d = (some 17, st) := by unfold writeP; rw [find_has, wired_has h]; rfl

end Go.Proofs.Ytdeodoppcflgfaa
