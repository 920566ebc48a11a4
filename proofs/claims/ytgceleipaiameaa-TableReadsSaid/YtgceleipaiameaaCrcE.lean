/- Contract of the document's Open at bytes in memory. Conditions: where the bytes lie; at most 100000000 of them. -/
import Derived.Test.YtgceleipaiameaaCrcD
import Derived.Deep.RegionWith
namespace Go.Proofs.Ytgceleipaiameaa
open Go.RowKit
set_option maxRecDepth 100000

theorem own_below {w w' : World} {B e n : Nat} {v : Value} {xs : List Value} (h : w.ownsRow B e 1 v n xs) (hb : Below w.heap.size w w') : w'.ownsRow B e 1 v n xs :=
  h.kept (row := none) ⟨hb.os, hb.tape, hb.output, hb.size, fun i hi _ => hb.block i hi⟩ (by
    cases hv : v.ownBlock with
    | none => exact .inl rfl
    | some k => exact .inr (by simp))

set_option maxHeartbeats 400000 in
theorem refopen_short (A : Option Addr) (l : List UInt8) (n cap : Nat) (hn : l.length = n) (w : World) (hl : n < 4) :
    Calls Try.prog 41 #[.slice A n cap] w (OpenPost l w) := by
  have HF : Hid (OpenPost l w (.returned (.tuple #[.slice none 0 0, .bool false])) w) := Lib.hid (.inr ⟨fun h => by have := sealed_len h; omega, rfl, Below.refl _ _⟩)
  clear hn
  go_enter Try.func41, Try.ntmps41
  go_wp2_with fail
  go_ret2
  exact HF.out

def strB (l : List UInt8) : ByteArray := ⟨l.toArray⟩
theorem strB_toList (l : List UInt8) : (strB l).toList = l := by simp [strB]
theorem strB_beq (x y : List UInt8) : ((strB x).toList == (strB y).toList) = decide (x = y) := by
  rw [strB_toList, strB_toList, Bool.eq_iff_iff]; simp
theorem sealed_iff {p q : List UInt8} (hq : q.length = 4) : isSealed (p ++ q) ↔ CrcP.seal4 p = p ++ q := by
  constructor
  · rintro ⟨p', e⟩
    unfold CrcP.seal4 at e
    have hl : p.length = p'.length := by
      have := congrArg List.length e
      simp [CrcP.bytes_length] at this
      omega
    obtain ⟨rfl, rfl⟩ := List.append_inj e hl
    rfl
  · intro e; exact ⟨p, e.symm⟩

theorem run_conv {W : World} {B : Nat} {A : Option Addr} {l : List UInt8} {n cap : Nat} (hn : l.length = n) (h : Bytes W B A l) :
    (convert 30 9 (.slice A n cap)).run Try.prog W = .ok (.string (strB l)) W :=
  run_convert_b W 30 5 Try.underlying30 Try.underlying5 B A l n cap hn h 9 Try.underlying9

set_option maxHeartbeats 400000 in
theorem refopen_long (A : Option Addr) (p q : List UInt8) (m cap : Nat) (hm : p.length = m) (hq : q.length = 4) (w : World) (hl : m ≤ 10000000) (hcap : m + 4 ≤ cap) (h : Bytes w w.heap.size A (p ++ q)) :
    Calls Try.prog 41 #[.slice A ((m + 4 : Nat)) cap] w (OpenPost (p ++ q) w) := by
  have hp : Bytes w w.heap.size A p := by simpa using h.take p.length
  have hsl := fun W => run_slice_to (P := Try.prog) W 30 5 Try.underlying30 (fun w => by kernel_rfl) A (m + 4) cap (m : Int) (by omega) (by omega)
  simp only [Int.toNat_natCast] at hsl
  have Hb1 := Lib.hid ((Below.refl w.heap.size w).alloc (Nat.le_refl _) (.cells #[] 5))
  have Ho1 := Lib.hid (World.ownsRow_lit (base := w.heap.size) (e := 5) (size := 1) w #[] 0 (Nat.le_refl _) (by unfold maxLen; omega) rfl)
  have Hm := Lib.hid hm
  have Hq := Lib.hid hq
  have Hlen : Hid ((p ++ q).length = m + 4) := Lib.hid (by simp; omega)
  have Hp := Lib.hid hp
  have H := Lib.hid h
  clear hm hq h hp
  go_enter Try.func41, Try.ntmps41
  go_wp2_with (at_builtin
               refine wpList_append_b rfl (.tmp 8) (.tmp 13) _ rfl w.heap.size 5 (.int .u8 0) Try.underlying30 infoB2 rfl _ 0 [] rfl Ho1.out w.heap.size A m cap p rfl Hm.out (Hp.out.below Hb1.out (Nat.le_refl _)) (by omega) Hb1.out.size ?_
               intro v1 w1 hown1 _ hb1
               obtain ⟨A1, cap1, rfl, hl1, hc1, hby1, -⟩ := own_bytes (l := p) (by simpa using hown1)
               have Ho2 : Hid (w1.ownsRow w.heap.size 5 1 (.slice A1 (0 + m) cap1) m (bytesV p)) := Lib.hid (by simpa using hown1)
               have Hb2 := Lib.hid (Hb1.out.trans hb1)
               have Hby1 := Lib.hid hby1
               clear hown1 hb1 hl1 hc1 hby1)
  have HSeal : Hid (∀ W, Below w1.heap.size w1 W → Calls Try.prog 27 #[.slice A1 m cap1] W (SealPost p W)) := Lib.hid fun W hW => refseal_any A1 p m cap1 Hm.out W (by omega) ((Hby1.out.below hW (Nat.le_refl _)).more hW.size)
  have Hcv : Hid (∀ W, Below w1.heap.size w1 W → (convert 30 9 (.slice A (m + 4) cap)).run Try.prog W = .ok (.string (strB (p ++ q))) W) := Lib.hid fun W hW => run_conv Hlen.out ((H.out.below Hb2.out (Nat.le_refl _)).below hW Hb2.out.size)
  have c1 := Hcv.out w1.drew (Below.drew (Below.refl _ _))
  have HYes : Hid (∀ W2, (!(strB (CrcP.seal4 p)).toList == (strB (p ++ q)).toList) = false → Below w1.heap.size w1 W2 → OpenPost (p ++ q) w (.returned (.tuple #[.slice A1 m cap1, .bool true])) W2) := Lib.hid fun W2 h hb => by
    rw [strB_beq, Bool.not_eq_false', decide_eq_true_eq] at h
    refine .inl ⟨p, _, h.symm, rfl, ?_, Hb2.out.trans (hb.mono Hb2.out.size)⟩
    have := own_below Ho2.out hb
    simpa [Hm.out] using this
  have HNo : Hid (∀ W2, (!(strB (CrcP.seal4 p)).toList == (strB (p ++ q)).toList) = true → Below w1.heap.size w1 W2 → OpenPost (p ++ q) w (.returned (.tuple #[.slice none 0 0, .bool false])) W2) := Lib.hid fun W2 h hb => by
    rw [strB_beq, Bool.not_eq_true', decide_eq_false_iff_not] at h
    exact .inr ⟨fun hs => h ((sealed_iff Hq.out).1 hs), rfl, Hb2.out.trans (hb.mono Hb2.out.size)⟩
  have hd := (Below.refl w1.heap.size w1).drew
  go_region_with (go_at_call 27
                  refine (HSeal.out _ hd).mono ?_
                  rintro e w2 ⟨v2, rfl, ho2, hb2⟩
                  obtain ⟨A2, cap2, rfl, hl2, hc2, hby2, -⟩ := own_bytes ho2
                  have c2 := Hcv.out w2 (hd.trans hb2)
                  have c3 := run_conv (cap := cap2) hl2 hby2
                  have Hb4 := Lib.hid (hd.trans hb2)
                  clear ho2 hb2 hl2 hc2 hby2)
  all_goals go_wp2_with fail
  all_goals
    go_ret2
    first
      | exact HYes.out _ (by assumption) Hb4.out
      | exact HNo.out _ (by assumption) Hb4.out

/-- The document's Open: of any bytes. -/
theorem refopen_any (A : Option Addr) (l : List UInt8) (n cap : Nat) (hn : l.length = n) (w : World) (hl : n ≤ 10000000) (hcap : n ≤ cap) (h : Bytes w w.heap.size A l) :
    Calls Try.prog 41 #[.slice A n cap] w (OpenPost l w) := by
  rcases Nat.lt_or_ge n 4 with h4 | h4
  · exact refopen_short A l n cap hn w h4
  · obtain ⟨m, rfl⟩ : ∃ m, n = m + 4 := ⟨n - 4, by omega⟩
    have e : l = l.take m ++ l.drop m := (List.take_append_drop m l).symm
    rw [e] at h ⊢
    exact refopen_long A (l.take m) (l.drop m) m cap (by simp; omega) (by simp; omega) w (by omega) hcap h
end Go.Proofs.Ytgceleipaiameaa
