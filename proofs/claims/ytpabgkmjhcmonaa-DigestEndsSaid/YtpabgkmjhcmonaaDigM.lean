/- The document's numbers; plain facts of its walk. Conditions: none beyond those that each states. -/
import Derived.Test.YtpabgkmjhcmonaaDigL
namespace Go.Proofs.Ytpabgkmjhcmonaa
open Go.RowKit
set_option maxRecDepth 100000

/-- Cells that lie at the head of a block. -/
def HeadIn (w : World) (b : Nat) (vs : List Value) : Prop := b < w.heap.size ∧ ∀ (i : Nat) (u : Value), vs[i]? = some u → w.cell? ⟨b, i, none⟩ = some u
theorem ArrIn.head {w : World} {b : Nat} {t : TypeId} {vs : List Value} (h : ArrIn w b t vs) : HeadIn w b vs := ⟨h.lt, fun _ _ hu => h.cell hu⟩
theorem HeadIn.keep {w w' : World} {b B : Nat} {vs : List Value} (h : HeadIn w b vs) (hb : Below B w w') (hB : b < B) : HeadIn w' b vs :=
  ⟨Nat.lt_of_lt_of_le h.1 hb.size, fun i u hu => (hb.cell (p := ⟨b, i, none⟩) hB).trans (h.2 i u hu)⟩
theorem HeadIn.apart {F : Nat → Prop} {w w' : World} {b : Nat} {vs : List Value} (h : HeadIn w b vs) (ha : Apart F w w') (hF : ¬ F b) : HeadIn w' b vs :=
  ⟨Nat.lt_of_lt_of_le h.1 ha.size, fun i u hu => (World.cell?_of_block (ha.block b h.1 hF)).trans (h.2 i u hu)⟩

theorem numbers_any (w : World) : Calls Try.prog 17 #[] w fun e w' => e = .returned (.slice (some ⟨w.heap.size, 0, none⟩) 64 64) ∧ w' = w.alloc (.cells (u32V DigP.ks).toArray 37) := by
  have HK : Hid (u32V DigP.ks = [.int .u32 1116352408, .int .u32 1899447441, .int .u32 3049323471, .int .u32 3921009573, .int .u32 961987163, .int .u32 1508970993, .int .u32 2453635748, .int .u32 2870763221, .int .u32 3624381080, .int .u32 310598401, .int .u32 607225278, .int .u32 1426881987, .int .u32 1925078388, .int .u32 2162078206, .int .u32 2614888103, .int .u32 3248222580, .int .u32 3835390401, .int .u32 4022224774, .int .u32 264347078, .int .u32 604807628, .int .u32 770255983, .int .u32 1249150122, .int .u32 1555081692, .int .u32 1996064986, .int .u32 2554220882, .int .u32 2821834349, .int .u32 2952996808, .int .u32 3210313671, .int .u32 3336571891, .int .u32 3584528711, .int .u32 113926993, .int .u32 338241895, .int .u32 666307205, .int .u32 773529912, .int .u32 1294757372, .int .u32 1396182291, .int .u32 1695183700, .int .u32 1986661051, .int .u32 2177026350, .int .u32 2456956037, .int .u32 2730485921, .int .u32 2820302411, .int .u32 3259730800, .int .u32 3345764771, .int .u32 3516065817, .int .u32 3600352804, .int .u32 4094571909, .int .u32 275423344, .int .u32 430227734, .int .u32 506948616, .int .u32 659060556, .int .u32 883997877, .int .u32 958139571, .int .u32 1322822218, .int .u32 1537002063, .int .u32 1747873779, .int .u32 1955562222, .int .u32 2024104815, .int .u32 2227730452, .int .u32 2361852424, .int .u32 2428436474, .int .u32 2756734187, .int .u32 3204031479, .int .u32 3329325298]) := Lib.hid rfl
  go_enter Try.func17, Try.ntmps17
  go_wp2_with fail
  go_ret
  refine ⟨rfl, ?_⟩
  rw [HK.out]
/-- A byte of the bits' number. -/
theorem bits_byte (N k : Nat) (hk : k < 8) : ((DigP.be8 N).take (k + 1)) = (DigP.be8 N).take k ++ [UInt8.ofNat (N / 256 ^ (7 - k))] := by
  have h := be8_at N (k := 7 - k) (by omega)
  rw [show 7 - (7 - k) = k by omega] at h
  rw [List.take_add_one, h]
  rfl
theorem pad_zero {l : List UInt8} {k : Nat} : (l ++ (0x80 : UInt8) :: List.replicate k 0) ++ [0] = l ++ (0x80 : UInt8) :: List.replicate (k + 1) 0 := by
  rw [List.append_assoc, List.cons_append, ← List.replicate_succ']
theorem pad_all (l : List UInt8) : (l ++ (0x80 : UInt8) :: List.replicate (DigP.lackT l.length) 0) ++ (DigP.be8 (8 * l.length)).take 8 = DigP.padT l := by
  unfold DigP.padT
  rw [List.append_assoc, List.cons_append]
  rfl
theorem head_not_byte {w : World} {b g o : Nat} {t : TypeId} {l : List Nat} {x : UInt8} (h : ArrIn w b t (u32V l)) (hc : w.cell? ⟨g, o, none⟩ = some (.int .u8 (x.toNat : Nat))) : g ≠ b := by
  rintro rfl
  have h1 : w.cell? ⟨g, o, none⟩ = (u32V l).toArray[o]? := by
    unfold World.cell?
    rw [h]
    rfl
  rw [h1, List.getElem?_toArray] at hc
  simp only [u32V, List.getElem?_map] at hc
  cases hq : l[o]? with
  | none => rw [hq] at hc; cases hc
  | some y => rw [hq] at hc; simp at hc
/-- What a round of the document's Of reads: the registers, the numbers, the block's bytes. -/
structure RdR (g o hb kb : Nat) (P : List UInt8) (j : Nat) (W : World) : Prop where
  regs : ArrIn W hb 37 (u32V (DigP.blocksT P j).list)
  nums : ArrIn W kb 37 (u32V DigP.ks)
  lt : g < W.heap.size
  bys : ∀ i, i < 64 → ∃ c, P[64 * j + i]? = some c ∧ W.cell? ⟨g, o + (64 * j + i), none⟩ = some (.int .u8 (c.toNat : Nat))
theorem RdR.keep {g o hb kb j : Nat} {P : List UInt8} {W W' : World} {B : Nat} (h : RdR g o hb kb P j W) (hB : Below B W W') (h1 : hb < B) (h2 : kb < B) (h3 : g < B) : RdR g o hb kb P j W' :=
  ⟨h.regs.keep hB h1, h.nums.keep hB h2, Nat.lt_of_lt_of_le h.lt hB.size, fun i hi => by
    obtain ⟨c, e1, e2⟩ := h.bys i hi
    exact ⟨c, e1, (hB.cell (p := ⟨g, o + (64 * j + i), none⟩) h3).trans e2⟩⟩
/-- Four bytes, one by one. -/
def partT (P : List UInt8) (a q : Nat) : Nat := DigP.beT ((P.drop a).take q)
theorem part_zero (P : List UInt8) (a : Nat) : partT P a 0 = 0 := rfl
theorem part_next {P : List UInt8} {a q : Nat} {c : UInt8} (h : P[a + q]? = some c) : partT P a (q + 1) = partT P a q * 256 + c.toNat := by
  unfold partT
  rw [List.take_add_one, List.getElem?_drop, h]
  exact DigP.be_snoc _ c
theorem part_lt (P : List UInt8) (a q : Nat) : partT P a q < 256 ^ q := by
  have h := DigP.be_lt ((P.drop a).take q)
  have h2 : ((P.drop a).take q).length ≤ q := by rw [List.length_take]; omega
  exact Nat.lt_of_lt_of_le h (Nat.pow_le_pow_right (by decide) h2)
theorem part_four (P : List UInt8) (a : Nat) : partT P a 4 = DigP.wordT P a := rfl
theorem or_byte (x c : Nat) (hx : x < 16777216) (hc : c < 256) : bits BinOp.or IntKind.u32 ((x : Int) * 256 % 4294967296) (c : Int) = ((x * 256 + c : Nat) : Int) := by
  have e : (x : Int) * 256 % 4294967296 = ((x * 256 : Nat) : Int) := by omega
  rw [e, u32_or_nat (x * 256) c (by omega) (by omega), DigP.shift_or hc]
end Go.Proofs.Ytpabgkmjhcmonaa
