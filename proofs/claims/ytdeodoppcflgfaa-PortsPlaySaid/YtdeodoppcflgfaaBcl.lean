/- Contract of bytes.Clone; a message's copy (OwnMsg). Conditions: where the bytes lie. -/
import Derived.Test.YtdeodoppcflgfaaFraL
import Derived.Lib.SliceRun
namespace Go.Proofs.Ytdeodoppcflgfaa
open Go.RowKit
set_option maxRecDepth 100000

theorem infoU12 : (Try.prog.info? 5).map (fun i => (i.zero, i.size, i.bytes)) = some (some (.int .u8 0), 1, 1) := by kernel_rfl
/-- A copy of bytes, in memory of its own. -/
def BCloneP (l : List UInt8) (w : World) (e : Ending) (w' : World) : Prop := ∃ A c, e = .returned (.slice A l.length c) ∧ w'.ownsRow w.heap.size 5 1 (.slice A l.length c) l.length (bytesV l) ∧ Below w.heap.size w w'
theorem bclone_any (A : Option Addr) (n cap : Nat) (l : List UInt8) (hl : l.length = n) (hn : n ≤ 140737488355328) (w : World) (h : Bytes w w.heap.size A l) :
    Calls Try.prog 59 #[.slice A n cap] w (BCloneP l w) := by
  have Hb := Lib.hid h
  have Hl := Lib.hid hl
  have HO := Lib.hid (own_empty4 w w.heap.size w.heap.size 1 5 rfl (Nat.le_refl _))
  have HB1 := Lib.hid (fun o => (Below.refl w.heap.size w).alloc (Nat.le_refl _) o)
  have kn := fun W => Lib.run_eql_slice_nil (P := Try.prog) W 44 5 A n cap 0 0 Try.underlying44
  cases A with
  | none =>
    have h0 : l = [] := by
      rcases Nat.eq_zero_or_pos l.length with h0 | h0
      · exact List.eq_nil_of_length_eq_zero h0
      · obtain ⟨_, _, h, _⟩ := h h0
        cases h
    subst h0
    simp only [Option.isNone_none] at kn
    have HF : Hid (BCloneP [] w (.returned (.slice none 0 0)) w) := Lib.hid ⟨none, 0, rfl, ⟨rfl, .inl ⟨rfl, rfl⟩⟩, Below.refl _ _⟩
    clear h hl HB1 HO Hb
    go_enter Try.func59, Try.ntmps59
    go_wp2_with fail
    go_ret
    exact HF.out
  | some ad =>
    simp only [Option.isNone_some] at kn
    clear h hl
    go_enter Try.func59, Try.ntmps59
    go_wp2_with (at_builtin
                 refine wpList_append_r rfl (.tmp 5) (.tmp 6) _ rfl w.heap.size 5 (.int .u8 0) Try.underlying44 infoU12 rfl _ (some w.heap.size) [] rfl ⟨rfl, HO.out⟩ w.heap.size (some ad) n cap l rfl Hl.out (Hb.out.below (HB1.out _) (Nat.le_refl _)) (by simp; omega) (by simp) ?_
                 intro v1 w1 g1 h1 h2 h3
                 have h4 : w1.ownsRow w.heap.size 5 1 v1 l.length (bytesV l) := by simpa using h1.2
                 obtain ⟨A1, c1, rfl, -⟩ := own_slice h4
                 have HF : Hid (BCloneP l w (.returned (.slice A1 l.length c1)) w1) := Lib.hid ⟨A1, c1, rfl, h4, ((HB1.out _).trans (h3.below (by simp) (fun k e => by simp only [Option.some.injEq] at e; omega)))⟩
                 clear h1 h2 h3 h4)
    go_ret
    exact HF.out

/-- What a message's copy is. -/
structure OwnMsg (W : World) (B : Nat) (y : MsgC) : Prop where
  row : W.ownsRow B 5 1 (.slice y.A y.m y.cap) y.m (bytesV y.data)
  most : y.m ≤ 140737488355328
  ports : -9223372036854775808 ≤ y.port ∧ y.port ≤ 9223372036854775807
theorem OwnMsg.ok {W : World} {B : Nat} {y : MsgC} (h : OwnMsg W B y) : MsgOk W y ∧ (0 < y.data.length → ∀ k, blockOf y.A = some k → B ≤ k) := by
  obtain ⟨A, cap, e, h1, h2, h3, h4⟩ := own_bytes h.row
  injection e with e1 e2 e3
  rw [← e1] at h3 h4
  refine ⟨⟨h1, by rw [e3]; exact h2, h.most, h3, h.ports⟩, fun hn k hk => ?_⟩
  rcases h4 with h4 | ⟨g, h4, h5⟩
  · rw [h4] at hk; cases hk
  · rw [h4] at hk; obtain rfl : g = k := Option.some.inj hk; exact h5
theorem OwnMsg.apart {W W' : World} {B : Nat} {y : MsgC} {F : Nat → Prop} (h : OwnMsg W B y) (ha : Apart F W W') (hF : ∀ k, (Value.slice y.A y.m y.cap).ownBlock = some k → ¬ F k) : OwnMsg W' B y := ⟨own_apart h.row ha hF, h.most, h.ports⟩
end Go.Proofs.Ytdeodoppcflgfaa
