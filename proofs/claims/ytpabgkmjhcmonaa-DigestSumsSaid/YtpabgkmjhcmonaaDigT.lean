/- DigestSums: the walk of the law at bytes in memory. Conditions: where the bytes lie. -/
import Derived.Test.YtpabgkmjhcmonaaDigN
import Derived.Lib.AppendStr
import Derived.Test.YtpabgkmjhcmonaaDigEq
namespace Go.Proofs.Ytpabgkmjhcmonaa
open Go.RowKit
set_option maxRecDepth 100000

theorem spare_bytes (l : List UInt8) : (⟨(l ++ [115, 112, 97, 114, 101]).toArray⟩ : ByteArray) = (⟨l.toArray⟩ : ByteArray) ++ (⟨#[115, 112, 97, 114, 101]⟩ : ByteArray) := by
  apply ByteArray.ext
  rw [ByteArray.data_append]
  simp

section
variable {P : Program}
/-- append of a text to bytes that the call gathers. -/
theorem wpList_append_os {w0 : World} {ops : Array Oper} {rest : List Oper} {o : Oper} {a : Act} {Q : Exit → Act → World → Prop} (hgd : o.guard = none) (s x : Operand) (t u : TypeId)
    (ho : o.op = .call { callee := .builtin .append, args := #[s, x], argTypes := #[t, u] }) (B : Nat) (e : TypeId) (W : World) (hBW : B ≤ W.heap.size)
    (ht : P.underlying t = some (.slice e)) (hu : P.underlying u = some .string) (hinfo : (P.info? e).map (fun i => (i.zero, i.size, i.bytes)) = some (some (.int .u8 0), 1, 1))
    (v : Value) (xs : List UInt8) (hs : a.eval s = v) (hown : OutIn B e W xs v w0) (l : List UInt8) (hx : a.eval x = .string ⟨l.toArray⟩)
    (hn : xs.length + l.length ≤ 1000000000000)
    (h : ∀ v' w', OutIn B e W (xs ++ l) v' w' → wpList P ops Q rest (a.put o.dst v') w') : wpList P ops Q (o :: rest) a w0 := by
  obtain ⟨g, h1, h2⟩ := hown
  obtain ⟨i, hi, hz, hsize, hby⟩ := info_parts hinfo
  have hsz : (⟨l.toArray⟩ : ByteArray).size = l.length := by show l.toArray.size = _; rw [List.size_toArray]
  refine Lib.wpList_append_own_string (w := w0) hgd s x t u ho B e i ht hu hi hz hsize hby v xs.length (bytesV xs) hs h1.2 ⟨l.toArray⟩ hx (by rw [hsz]; unfold maxLen; omega) (by rw [hsz]; omega) (Nat.le_trans hBW h2.size) ?_
  intro v' w' h3 h4 _
  refine h v' w' ⟨v'.ownBlock, ⟨rfl, ?_⟩, h2.trans ((Below.refl B w0).grown h4 (Nat.le_trans hBW h2.size) (fun k hk => (h1.2.lt k hk).1))⟩
  rw [hsz] at h3
  rw [List.length_append, bytesV_append]
  exact h3
end

theorem Row.cap {w : World} {B : Nat} {e : TypeId} {g : Option Nat} {A : Option Addr} {n c : Nat} {l : List UInt8} (h : Row w B e g (.slice A n c) l) : c ≤ 9223372036854775807 := by
  rcases h.2.2 with ⟨h1, -⟩ | ⟨g', cap, cur, h1, -, -, -, h5, -⟩
  · cases h1; omega
  · cases h1; unfold maxLen at h5; omega

set_option maxHeartbeats 2000000 in
theorem dsums_law (A : Option Addr) (l : List UInt8) (n cap : Nat) (hl : l.length = n) (w : World) (h : Bytes w w.heap.size A l) :
    Calls Try.prog 3 #[.slice A n cap] w (DTrue w) := by
  have HAw := Lib.hid (fun W => awake18_any W)
  have HH := Lib.hid h
  have Hl := Lib.hid hl
  clear h hl
  by_cases hn : n ≤ 3000
  case neg =>
    have q0 : decide ((3000 : Int) < (n : Int)) = true := decide_eq_true (by omega)
    have q1 : decide (3000 < n) = true := decide_eq_true (by omega)
    clear hn
    go_enter Try.func3, Try.ntmps3
    go_wp2_with fail
    refine (HAw.out _).mono ?_
    rintro e w2 ⟨rfl, hb2⟩
    have HB2 := Lib.hid hb2
    clear hb2
    go_wp2_with fail
    go_ret
    exact ⟨rfl, HB2.out⟩
  have q0 : decide ((3000 : Int) < (n : Int)) = false := decide_eq_false (by omega)
  have q1 : decide (3000 < n) = false := decide_eq_false (by omega)
  have e1 : IntKind.i64.wrap ((n : Int) + 9) = (n : Int) + 9 := IntWalk.i64_in _ (by omega)
  have hmk : ∀ W, (Instr.makeSlice 22 (.int .i64 0) (.int .i64 ((n : Int) + 9))).run Try.prog W = .ok (.slice (some ⟨W.heap.size, 0, none⟩) 0 (n + 9)) (W.alloc (.cells (madeCells #[.int .u8 0] (n + 9)) 5)) := fun W => by
    have h := make_cap W (n + 9) (by omega)
    rw [show ((n + 9 : Nat) : Int) = (n : Int) + 9 by omega] at h
    exact h
  have Hn := Lib.hid hn
  clear hn
  go_enter Try.func3, Try.ntmps3
  go_wp2_with fail
  refine (HAw.out _).mono ?_
  rintro e w2 ⟨rfl, hb2⟩
  have HB2 := Lib.hid hb2
  have HH2 := Lib.hid ((HH.out.below hb2 (Nat.le_refl _)).more hb2.size)
  clear hb2 HAw
  have HO := Lib.hid (OutIn.made w2 (n + 9) (by have := Hn.out; omega))
  have HB0 : Hid (Bytes (w2.alloc (.cells (madeCells #[.int .u8 0] (n + 9)) 5)) w2.heap.size A l) := Lib.hid (HH2.out.alloc (Nat.le_refl _) _)
  go_upto_region 6 with (first | (at_builtin; refine wpList_append_o rfl (.tmp 12) (.tmp 13) _ rfl w2.heap.size 5 (.int .u8 0) w2 (Nat.le_refl _) Try.underlying22 infoU8d rfl _ [] rfl HO.out _ A n cap l rfl Hl.out HB0.out (by have := Hn.out; simp only [List.length_nil]; omega) ?_; intro v4 w4 ho4) | (at_builtin; refine wpList_append_os rfl (.tmp 14) (.const (.string ⟨#[115, 112, 97, 114, 101]⟩)) _ _ rfl w2.heap.size 5 w2 (Nat.le_refl _) Try.underlying22 Try.underlying9 infoU8d v4 _ rfl ho4 [115, 112, 97, 114, 101] rfl (by have := Hn.out; have := Hl.out; simp only [List.nil_append, List.length_cons, List.length_nil]; omega) ?_; intro v5 w5 ho5; clear ho4) | fail)
  obtain ⟨g5, hr5, hbl5⟩ := ho5
  obtain ⟨A5, c5, rfl, hc5, -, hby5⟩ := hr5.bytes
  have hcm := hr5.cap
  have hlen : (([] ++ l) ++ [115, 112, 97, 114, 101]).length = n + 5 := by simp [Hl.out]
  rw [hlen] at hc5 ⊢
  have HB5 := Lib.hid (HB2.out.trans (hbl5.mono HB2.out.size))
  have HH5 := Lib.hid ((HH.out.below HB5.out (Nat.le_refl _)).more HB5.out.size)
  have htk : (([] ++ l) ++ [115, 112, 97, 114, 101]).take n = l := by rw [List.nil_append, ← Hl.out, List.take_left]
  have HOf := Lib.hid (of_any l A5 n c5 Hl.out (by omega) hcm (by have := Hn.out; omega) w5 (by have := hby5.take n; rw [htk] at this; exact this))
  have hs1 : ∀ W, (Instr.slice 22 (.slice A5 (n + 5) c5) none (some (.int .i64 (n : Nat))) none).run Try.prog W = .ok (.slice A5 n c5) W := fun W => run_slice_front W 22 5 1 Try.underlying22 (fun w => by kernel_rfl) A5 (n + 5) c5 n n rfl (by omega)
  have Hby5 := Lib.hid hby5
  have HEq := Lib.hid (fun W => equal_32 (DigP.ofT l) (DigP.of_len l) 24 Try.underlying24 W)
  have HEq2 := Lib.hid (fun W => eql_32 (DigP.ofT l) (DigP.of_len l) 24 Try.underlying24 W)
  generalize hO : bytesV (DigP.ofT l) = O at HOf HEq HEq2
  have HO2 := Lib.hid hO
  clear hO
  clear hr5 hbl5 hby5 hlen htk hcm hmk
  go_wp2_with fail
  refine HOf.out.mono ?_
  rintro e w6 ⟨rfl, hb6⟩
  have HB6 := Lib.hid (HB5.out.trans (hb6.mono HB5.out.size))
  have HH6 := Lib.hid ((HH.out.below HB6.out (Nat.le_refl _)).more HB6.out.size)
  have HR := Lib.hid (refof_any l A n cap Hl.out (by have := Hn.out; omega) w6 HH6.out)
  go_wp2_with fail
  refine HR.out.mono ?_
  rintro e w7 ⟨rfl, hb7⟩
  rw [HO2.out]
  have HB7 := Lib.hid (HB6.out.trans (hb7.mono HB6.out.size))
  have hl1 : Bytes w7 w7.heap.size A l := (HH.out.below HB7.out (Nat.le_refl _)).more HB7.out.size
  have hl2 : Bytes w7 w7.heap.size A5 (([] ++ l) ++ [115, 112, 97, 114, 101]) := by
    have hb67 := hb6.trans (hb7.mono hb6.size)
    exact (Hby5.out.below hb67 (Nat.le_refl _)).more hb67.size
  have k1 := run_convert_b (P := Try.prog) w7 22 5 Try.underlying22 Try.underlying5 w7.heap.size A l n cap Hl.out hl1 9 Try.underlying9
  have k2 := run_convert_b (P := Try.prog) w7 22 5 Try.underlying22 Try.underlying5 w7.heap.size A5 (([] ++ l) ++ [115, 112, 97, 114, 101]) (n + 5) c5 (by simp [Hl.out]) hl2 9 Try.underlying9
  rw [List.nil_append, spare_bytes] at k2
  have he1 := HEq.out
  have he2 := HEq2.out
  have hq : ¬ 9223372036854775807 < (⟨l.toArray⟩ : ByteArray).size + 5 := by
    have h1 : (⟨l.toArray⟩ : ByteArray).size = l.length := by show l.toArray.size = _; rw [List.size_toArray]
    rw [h1, Hl.out]
    have := Hn.out
    omega
  generalize (⟨l.toArray⟩ : ByteArray) = sl at *
  clear HR HOf hl1 hl2 hb6 hb7
  go_wp2_with fail
  go_ret
  exact ⟨rfl, HB7.out⟩
end Go.Proofs.Ytpabgkmjhcmonaa
