/- Contract of Sum.Hex. Conditions: none. -/
import Derived.Test.YtpabgkmjhcmonaaDigJ
namespace Go.Proofs.Ytpabgkmjhcmonaa
open Go.RowKit
set_option maxRecDepth 100000

def digitsV : Value := .string ⟨#[48, 49, 50, 51, 52, 53, 54, 55, 56, 57, 97, 98, 99, 100, 101, 102]⟩
theorem digit_at (v : Nat) (hv : v < 16) (W : World) : (Instr.index 9 (.string ⟨#[48, 49, 50, 51, 52, 53, 54, 55, 56, 57, 97, 98, 99, 100, 101, 102]⟩) (.int .u8 (v : Nat))).run Try.prog W = .ok (.int .u8 ((DigP.digit v).toNat : Nat)) W := by
  have h : v = 0 ∨ v = 1 ∨ v = 2 ∨ v = 3 ∨ v = 4 ∨ v = 5 ∨ v = 6 ∨ v = 7 ∨ v = 8 ∨ v = 9 ∨ v = 10 ∨ v = 11 ∨ v = 12 ∨ v = 13 ∨ v = 14 ∨ v = 15 := by omega
  rcases h with rfl | rfl | rfl | rfl | rfl | rfl | rfl | rfl | rfl | rfl | rfl | rfl | rfl | rfl | rfl | rfl <;> rfl
theorem low4 : ∀ c : Fin 256, bits BinOp.and IntKind.u8 (c.val : Int) 15 = ((c.val % 16 : Nat) : Int) := by decide +kernel
theorem hex_len (l : List UInt8) : (DigP.hexT l).length = 2 * l.length := by
  induction l with
  | nil => rfl
  | cons a l ih =>
    unfold DigP.hexT at ih ⊢
    rw [List.flatMap_cons, List.length_append, ih]
    simp
    omega
theorem hex_snoc (l : List UInt8) (c : UInt8) : DigP.hexT (l ++ [c]) = DigP.hexT l ++ [DigP.digit (c.toNat / 16), DigP.digit (c.toNat % 16)] := by
  unfold DigP.hexT
  rw [List.flatMap_append]
  rfl

theorem make_cap (W : World) (c : Nat) (hc : c ≤ 2000000000000) : (Instr.makeSlice 22 (.int .i64 0) (.int .i64 (c : Nat))).run Try.prog W = .ok (.slice (some ⟨W.heap.size, 0, none⟩) 0 c) (W.alloc (.cells (madeCells #[.int .u8 0] c) 5)) := by
  obtain ⟨i, hi, hz, hs, hb⟩ := info_parts infoU8d
  have hr := run_make (P := Try.prog) W 22 5 i _ Try.underlying22 hi hz .i64 .i64 0 c (Int.le_refl _) (by omega) (by rw [hb]; omega) (by omega)
  simp only [Int.toNat_zero, Int.toNat_natCast, hs, Nat.mul_one] at hr
  exact hr
theorem OutIn.made (w : World) (c : Nat) (hc : c ≤ 2000000000000) : OutIn w.heap.size 5 w [] (.slice (some ⟨w.heap.size, 0, none⟩) 0 c) (w.alloc (.cells (madeCells #[.int .u8 0] c) 5)) :=
  ⟨_, ⟨rfl, World.ownsRow_made w _ c (Nat.le_refl _) (by unfold maxLen; omega) (by rw [size_madeCells]; simp)⟩, (Below.refl _ _).alloc (Nat.le_refl _) _⟩

set_option maxHeartbeats 2000000 in
theorem hex_any (s : List UInt8) (hs : s.length = 32) (w : World) :
    Calls Try.prog 10 #[.agg (bytesV s).toArray] w fun e w' => e = .returned (.string ⟨(DigP.hexT s).toArray⟩) ∧ Below w.heap.size w w' := by
  have HL : Hid ((bytesV s).length = 32) := Lib.hid (by rw [bytesV_length, hs])
  have HX : Hid (∀ k, k < 32 → ∃ c : UInt8, s[k]? = some c ∧ (bytesV s)[k]? = some (.int .u8 (c.toNat : Nat))) := Lib.hid fun k hk => by
    have h1 : s[k]? = some (s[k]'(by omega)) := List.getElem?_eq_getElem _
    exact ⟨_, h1, bytesV_get h1⟩
  have Hs := Lib.hid hs
  have HA0 := Lib.hid (ArrIn.new w (bytesV s) 25)
  generalize bytesV s = M at HL HX HA0 ⊢
  clear hs
  go_enter Try.func10, Try.ntmps10
  go_upto_region 1 with (fail)
  have hb0 : Below w.heap.size w (w.alloc (.cells M.toArray 25)) := (Below.refl _ _).alloc (Nat.le_refl _) _
  generalize w.alloc (.cells M.toArray 25) = w1 at *
  have hmk := fun W => make_cap W 64 (by omega)
  simp only [show ((64 : Nat) : Int) = 64 from rfl] at hmk
  go_upto_region 2 with (fail)
  clear hmk
  have HO : Hid (OutIn w1.heap.size 5 w1 (DigP.hexT (s.take 0)) (.slice (some ⟨w1.heap.size, 0, none⟩) 0 64) (w1.alloc (.cells (madeCells #[.int .u8 0] 64) 5))) := Lib.hid (OutIn.made w1 64 (by omega))
  have HA1 := Lib.hid (HA0.out.keep ((Below.refl w1.heap.size w1).alloc (Nat.le_refl _) (.cells (madeCells #[.int .u8 0] 64) 5)) HA0.out.lt)
  have HB0 := Lib.hid hb0
  clear hb0
  generalize w1.alloc (.cells (madeCells #[.int .u8 0] 64) 5) = w2 at *
  refine wp_region_lit ?_
  refine wpList_load_row rfl _ (.tmp 1) rfl w.heap.size rfl _ M.toArray (0, 0) _ HA1.out Try.underlying25 rfl (by simp only [List.size_toArray, HL.out]; kernel_rfl) ?_
  clear HA1 HA0
  go_wp2_with fail
  go_loopw [3, 8] (fun v i W => ∃ k, k ≤ 32 ∧ i = .int .i64 (k : Nat) ∧ OutIn w1.heap.size 5 w1 (DigP.hexT (s.take k)) v W) (fun _ i _ => (33 - intOf i).toNat)
  case atStart => exact ⟨0, by omega, rfl, HO.out⟩
  case round =>
    clear HO
    obtain ⟨k, hk, rfl, ho⟩ := hrel
    by_cases hlt : k < 32
    case pos =>
      obtain ⟨c, hc, hcM⟩ := HX.out k hlt
      have hix := fun W => index_arr Try.underlying25 (fun w => by kernel_rfl) (fun w => by kernel_rfl) hlt (show M.toArray[k]? = some (.int .u8 (c.toNat : Nat)) by rw [List.getElem?_toArray]; exact hcM) W
      have hc256 : c.toNat < 256 := c.toNat_lt
      have ea : ((c.toNat : Nat) : Int) / 16 = ((c.toNat / 16 : Nat) : Int) := by omega
      have eb : bits BinOp.and IntKind.u8 ((c.toNat : Nat) : Int) 15 = ((c.toNat % 16 : Nat) : Int) := low4 ⟨c.toNat, hc256⟩
      have d1 := fun W => digit_at (c.toNat / 16) (by omega) W
      have d2 := fun W => digit_at (c.toNat % 16) (by omega) W
      have hnx : DigP.hexT (s.take (k + 1)) = DigP.hexT (s.take k) ++ [DigP.digit (c.toNat / 16), DigP.digit (c.toNat % 16)] := by
        rw [List.take_add_one, hc]
        exact hex_snoc _ c
      have Hnx := Lib.hid hnx
      have Hlen : Hid ((DigP.hexT (s.take k)).length + 2 ≤ 140737488355328) := Lib.hid (by rw [hex_len, List.length_take, Hs.out]; omega)
      have HO := Lib.hid ho
      clear hnx ho hc hcM hc256
      generalize c.toNat / 16 = va at *
      generalize c.toNat % 16 = vb at *
      generalize c.toNat = cv at *
      go_wp2_with fail
      refine wp_region_held_drew (S := fun _ => True) (by kernel_rfl) trivial (fun _ => ?_)
      refine tkH 0 (by simp only [tkA]; rfl) (by kernel_rfl) (by exact fun _ _ _ h => h) (by rfl) (by intro W hW; go_simp <;> with_reducible rfl) trivial ?_
      try simp only [Act.put, tkT, tk0, tkS]
      refine tkH 1 (by simp only [tkA, tkG]; rfl) (by kernel_rfl) (by exact fun _ _ _ h => h) (by rfl) (by intro W hW; go_simp <;> with_reducible rfl) trivial ?_
      try simp only [Act.put, tkT, tk0, tkS]
      refine tkH 2 (by simp only [tkA, tkG]; rfl) (by kernel_rfl) (by exact fun _ _ _ h => h) (by rfl) (by intro W hW; go_simp <;> with_reducible rfl) trivial ?_
      try simp only [Act.put, tkT, tk0, tkS]
      refine tkH 3 (by simp only [tkA, tkG]; rfl) (by kernel_rfl) (by exact fun _ _ _ h => h) (by rfl) (by intro W hW; go_simp <;> with_reducible rfl) trivial ?_
      try simp only [Act.put, tkT, tk0, tkS]
      refine tkH 4 (by simp only [tkA, tkG]; rfl) (by kernel_rfl) (by exact fun _ _ _ h => h) (by rfl) (by intro W hW; go_simp <;> with_reducible rfl) trivial ?_
      try simp only [Act.put, tkT, tk0, tkS]
      refine tkH 5 (by simp only [tkA, tkG]; rfl) (by kernel_rfl) (by exact fun _ _ _ h => h) (by rfl) (by intro W hW; go_simp <;> with_reducible rfl) trivial ?_
      try simp only [Act.put, tkT, tk0, tkS]
      refine tkH 6 (by simp only [tkA, tkG]; rfl) (by kernel_rfl) (by exact fun _ _ _ h => h) (by rfl) (by intro W hW; go_simp <;> with_reducible rfl) trivial ?_
      try simp only [Act.put, tkT, tk0, tkS]
      have HO2 : Hid (OutIn w1.heap.size 5 w1 (DigP.hexT (s.take k)) u3 wr.drew) := Lib.hid HO.out.drew
      clear HO
      generalize wr.drew = w4 at *
      refine clH 7 (by kernel_rfl) (by simp only [tkA, tkG]; rfl) (fun K hK => ?_)
      go_simp
      go_wp2_with fail
      refine hK.out _ _ trivial (fun _ => ?_)
      clear hK K
      refine clH 8 (by kernel_rfl) (by simp only [tkA, tkG]; rfl) (fun K hK => ?_)
      refine step_append_ok rfl (.tmp 11) (.tmp 18) _ rfl w1.heap.size 5 (.int .u8 0) w1 (Nat.le_refl _) Try.underlying22 infoU8d rfl u3 _ rfl HO2.out w4.heap.size 2 2 _ [DigP.digit va, DigP.digit vb] rfl rfl rfl rfl Hlen.out ?_
      intro v5 w5 ho5
      have HO5 := Lib.hid ho5
      clear ho5
      rw [← Hnx.out] at HO5
      refine hK.out _ _ trivial (fun _ => ?_)
      clear hK K
      refine tkH 9 (by simp only [tkA, tkG]; rfl) (by kernel_rfl) (by exact fun _ _ _ h => h) (by rfl) (by intro W hW; go_simp <;> with_reducible rfl) trivial ?_
      try simp only [Act.put, tkT, tk0, tkS]
      refine wpAnyH_done (by kernel_rfl) ?_ _
      go_wp2_with fail
      exact ⟨⟨k + 1, by omega, rfl, HO5.out⟩, by simp [intOf]; omega⟩
    have hk8 : k = 32 := by omega
    have hki : (k : Int) = 32 := by omega
    rw [hk8, List.take_of_length_le (by rw [Hs.out]; exact Nat.le_refl _)] at ho
    obtain ⟨gq, hrow, hbl⟩ := ho
    obtain ⟨A, c, rfl, hc, -, hby⟩ := hrow.bytes
    have hcv := run_convert_b (P := Try.prog) wr 22 5 Try.underlying22 Try.underlying5 wr.heap.size A (DigP.hexT s) _ c rfl hby 9 Try.underlying9
    have HF := Lib.hid (HB0.out.trans (hbl.mono HB0.out.size))
    rw [hki]
    clear hrow hbl hk8 hki hk hlt hby
    go_wp2_with fail
    go_ret
    exact ⟨rfl, HF.out⟩
end Go.Proofs.Ytpabgkmjhcmonaa
