/- Contract of the document's Of at bytes in memory. Conditions: where the bytes lie. -/
import Derived.Test.YtpabgkmjhcmonaaDigM
namespace Go.Proofs.Ytpabgkmjhcmonaa
open Go.RowKit
set_option maxRecDepth 100000

/-- What does not turn while the bytes are laid. -/
structure RfA (w : World) (kb : Nat) (W : World) : Prop where
  out : ArrIn W w.heap.size 24 (bytesV (List.replicate 32 0))
  h : ArrIn W (w.heap.size + 1) 37 (u32V DigP.Reg.start.list)
  k : ArrIn W kb 37 (u32V DigP.ks)
  below : Below w.heap.size w W
  lt : w.heap.size + 1 < kb
theorem RfA.start (w : World) : RfA w (w.heap.size + 2) (((w.alloc (.cells (bytesV (List.replicate 32 0)).toArray 24)).alloc (.cells (u32V DigP.Reg.start.list).toArray 37)).alloc (.cells (u32V DigP.ks).toArray 37)) := by
  have b1 : Below w.heap.size w (w.alloc (.cells (bytesV (List.replicate 32 0)).toArray 24)) := (Below.refl _ _).alloc (Nat.le_refl _) _
  have a1 := ArrIn.new w (bytesV (List.replicate 32 0)) 24
  have s1 : (w.alloc (.cells (bytesV (List.replicate 32 0)).toArray 24)).heap.size = w.heap.size + 1 := World.size_alloc _ _
  generalize w.alloc (.cells (bytesV (List.replicate 32 0)).toArray 24) = w1 at *
  have b2 := (Below.refl w1.heap.size w1).alloc (Nat.le_refl _) (.cells (u32V DigP.Reg.start.list).toArray 37)
  have a2 := ArrIn.new w1 (u32V DigP.Reg.start.list) 37
  have s2 : (w1.alloc (.cells (u32V DigP.Reg.start.list).toArray 37)).heap.size = w1.heap.size + 1 := World.size_alloc _ _
  generalize w1.alloc (.cells (u32V DigP.Reg.start.list).toArray 37) = w2 at *
  have b3 := (Below.refl w2.heap.size w2).alloc (Nat.le_refl _) (.cells (u32V DigP.ks).toArray 37)
  have a3 := ArrIn.new w2 (u32V DigP.ks) 37
  generalize w2.alloc (.cells (u32V DigP.ks).toArray 37) = w3 at *
  rw [s1] at a2 s2 b2
  rw [s2] at a3 b3
  exact ⟨(a1.keep b2 (by omega)).keep b3 (by omega), a2.keep b3 (by omega), a3, (b1.trans (b2.mono (by omega))).trans (b3.mono (by omega)), by omega⟩

theorem OutIn.form {B : Nat} {e : TypeId} {W w : World} {l : List UInt8} {v : Value} (h : OutIn B e W l v w) : ∃ A c, v = .slice A l.length c ∧ l.length ≤ c ∧ Bytes w w.heap.size A l := by
  obtain ⟨g, h1, -⟩ := h
  obtain ⟨A, c, e1, e2, -, e3⟩ := h1.bytes
  exact ⟨A, c, e1, e2, e3⟩
/-- While bytes 0 are put behind. -/
def PadR (B : Nat) (W0 : World) (l : List UInt8) (v : Value) (W : World) : Prop := ∃ k, k ≤ DigP.lackT l.length ∧ OutIn B 5 W0 (l ++ (0x80 : UInt8) :: List.replicate k 0) v W

/-- While the bits' number is put behind. -/
def LenR (B : Nat) (W0 : World) (l : List UInt8) (v i : Value) (W : World) : Prop := ∃ k : Nat, k ≤ 8 ∧ i = .int .i64 (7 - (k : Int)) ∧ OutIn B 5 W0 ((l ++ (0x80 : UInt8) :: List.replicate (DigP.lackT l.length) 0) ++ (DigP.be8 (8 * l.length)).take k) v W

/-- While the blocks are taken. -/
def BlkR (W1 : World) (hb : Nat) (P : List UInt8) (i : Value) (W : World) : Prop := ∃ j : Nat, 64 * j ≤ P.length ∧ i = .int .i64 (64 * (j : Int)) ∧ ArrIn W hb 37 (u32V (DigP.blocksT P j).list) ∧ Apart (fun b => b = hb) W1 W
theorem infoU32 : (Try.prog.info? 37).map (fun i => (i.zero, i.size, i.bytes)) = some (some (.int .u32 0), 1, 4) := by kernel_rfl
theorem made_words : madeCells #[.int .u32 0] 64 = (u32V (fillN 64 [])).toArray := by
  have e := toList_madeCells_one (.int .u32 0) 64
  have e2 : u32V (fillN 64 []) = List.replicate 64 (.int .u32 0) := rfl
  rw [e2, ← e]

/-- While a block's words are made, at the block that the round's world makes next. -/
structure WdR (Wr : World) (P : List UInt8) (j k : Nat) (W : World) : Prop where
  le : k ≤ 64
  row : ArrIn W Wr.heap.size 37 (u32V (fillN 64 (DigP.wordsT P (64 * j) k)))
  below : Below Wr.heap.size Wr W
/-- While one word is put together. -/
structure PtR (Wr : World) (P : List UInt8) (j k q : Nat) (W : World) : Prop where
  le : q ≤ 4
  row : ArrIn W Wr.heap.size 37 ((u32V (fillN 64 (DigP.wordsT P (64 * j) k))).set k (.int .u32 (partT P (64 * j + 4 * k) q : Nat)))
  below : Below Wr.heap.size Wr W
theorem PtR.drew {Wr W : World} {P : List UInt8} {j k q : Nat} (h : PtR Wr P j k q W) : PtR Wr P j k q W.drew := ⟨h.le, h.row, h.below.drew⟩
theorem WdR.drew {Wr W : World} {P : List UInt8} {j k : Nat} (h : WdR Wr P j k W) : WdR Wr P j k W.drew := ⟨h.le, h.row, h.below.drew⟩
theorem WdR.drewN {Wr W : World} {P : List UInt8} {j k : Nat} (h : WdR Wr P j k W) (m : Nat) : WdR Wr P j k (W.drewN m) := ⟨h.le, h.row, below_drewNc h.below m⟩
theorem WdR.at_ {Wr W : World} {P : List UInt8} {j k i : Nat} (h : WdR Wr P j k W) (hi : i < k) : ∃ x, (DigP.wordsT P (64 * j) k).getD i 0 = x ∧ x < 4294967296 ∧ ∀ m, (W.drewN m).cell? ⟨Wr.heap.size, i, none⟩ = some (.int .u32 (x : Nat)) := by
  obtain ⟨x, h1, h2, h3⟩ := DigP.words_get (b := P) (at_ := 64 * j) hi
  exact ⟨x, h2, h3, fun _ => h.row.cell (fillN_at h1)⟩
theorem WdR.next {Wr W W2 : World} {P : List UInt8} {j k x : Nat} (h : WdR Wr P j k W) (hk : k < 64) (hx : DigP.wordsT P (64 * j) (k + 1) = DigP.wordsT P (64 * j) k ++ [x]) (h2 : ∃ m, W2 = W.drewN m) : WdR Wr P j (k + 1) (W2.setCell ⟨Wr.heap.size, k, none⟩ (.int .u32 (x : Nat))) := by
  obtain ⟨m, rfl⟩ := h2
  have h1 := (h.drewN m).row.set k (.int .u32 (x : Nat))
  have e2 := fillN_set (N := 64) (l := DigP.wordsT P (64 * j) k) (by rw [DigP.words_len]; exact hk) x
  rw [DigP.words_len, ← hx] at e2
  rw [e2] at h1
  exact ⟨hk, h1, (h.drewN m).below.setCell (Nat.le_refl _) _⟩
/-- The round's world, whatever was drawn. -/
def DrN (u W : World) : Prop := ∃ m, W = u.drewN m
theorem DrN.refl (u : World) : DrN u u.drew := ⟨1, rfl⟩
theorem DrN.more {u W : World} (h : DrN u W) (m : Nat) : DrN u (W.drewN m) := by
  obtain ⟨q, rfl⟩ := h
  exact ⟨q + m, by rw [World.drewN_drewN]⟩
/-- While a block's steps are taken. -/
structure VR (wq : World) (wd : List Nat) (r : DigP.Reg) (k : Nat) (v : Value) (W : World) : Prop where
  le : k ≤ 64
  sl : ∃ vb c, v = .slice (some ⟨vb, 0, none⟩) 8 c ∧ 8 ≤ c ∧ wq.heap.size ≤ vb ∧ HeadIn W vb (u32V (DigP.roundsT wd r k).list)
  below : Below wq.heap.size wq W
theorem set_self_of {α : Type} {l : List α} {k : Nat} {x : α} (h : l[k]? = some x) : l.set k x = l := by
  refine List.ext_getElem? fun i => ?_
  by_cases e : k = i
  · subst e
    rw [List.getElem?_set_self (List.getElem?_eq_some_iff.1 h).1, h]
  · rw [List.getElem?_set_ne e]

theorem zero32 : (Try.prog.info? 24).map (fun i => (i.zero, i.size)) = some (some (.agg (bytesV (List.replicate 32 0)).toArray), 32) := by kernel_rfl
theorem built32 : Try.prog.built 24 [] = some (bytesV (List.replicate 32 0)).toArray := by kernel_rfl

theorem wpList_build0 {P : Program} {ops : Array Oper} {rest : List Oper} {o : Oper} {a : Act} {w : World} {Q : Exit → Act → World → Prop} (hg : o.guard = none) (t : TypeId) (ho : o.op = .build t #[]) (cs : Array Value) (hb : P.built t [] = some cs)
    (h : wpList P ops Q rest (a.put o.dst (.agg cs)) w) : wpList P ops Q (o :: rest) a w := by
  refine wpList_build hg t #[] ho ?_ ?_
  · simp [hb]
  · simpa [hb] using h

set_option maxHeartbeats 100000000 in
theorem refof_any (l : List UInt8) (A : Option Addr) (n cap : Nat) (hl : l.length = n) (hn : n ≤ 1000000000) (w : World) (h : Bytes w w.heap.size A l) :
    Calls Try.prog 9 #[.slice A n cap] w fun e w' => e = .returned (.agg (bytesV (DigP.ofT l)).toArray) ∧ Below w.heap.size w w' := by
  have HH := Lib.hid h
  have Hl := Lib.hid hl
  have HN := Lib.hid hn
  have HNum := Lib.hid numbers_any
  have HA := Lib.hid (RfA.start w)
  clear h hl hn
  go_enter Try.func9, Try.ntmps9
  go_upto_region 2 with (fail)
  show Code.wp _ _ _ _ ((w.alloc (.cells (bytesV (List.replicate 32 0)).toArray 24)).alloc (.cells (u32V DigP.Reg.start.list).toArray 37))
  have hs2 : ((w.alloc (.cells (bytesV (List.replicate 32 0)).toArray 24)).alloc (.cells (u32V DigP.Reg.start.list).toArray 37)).heap.size = w.heap.size + 2 := by rw [World.size_alloc, World.size_alloc]
  generalize (w.alloc (.cells (bytesV (List.replicate 32 0)).toArray 24)).alloc (.cells (u32V DigP.Reg.start.list).toArray 37) = w2 at *
  go_wp2_with fail
  refine (HNum.out _).mono ?_
  rintro e w3 ⟨rfl, h3⟩
  rw [hs2]
  rw [← h3] at HA
  clear HNum h3 hs2 w2
  generalize w.heap.size + 2 = kb at *
  have HO : Hid (OutIn w3.heap.size 5 w3 [] (.slice (some ⟨w3.heap.size, 0, none⟩) 0 0) (w3.alloc (.cells #[] 5))) := Lib.hid (OutIn.first w3 #[] 5 [] 0 rfl rfl (by unfold maxLen; omega))
  have HB0 : Hid (Bytes (w3.alloc (.cells #[] 5)) (w3.alloc (.cells #[] 5)).heap.size A l) := Lib.hid (((HH.out.below HA.out.below (Nat.le_refl _)).more HA.out.below.size).alloc (Nat.le_refl _) _ |>.more (by rw [World.size_alloc]; omega))
  go_upto_region 4 with (first | (at_builtin; refine wpList_append_o rfl (.tmp 24) (.tmp 25) _ rfl w3.heap.size 5 (.int .u8 0) w3 (Nat.le_refl _) Try.underlying22 infoU8d rfl _ [] rfl HO.out _ A n cap l rfl Hl.out HB0.out (by have := HN.out; simp only [List.length_nil]; omega) ?_; intro v4 w4 ho4) | fail)
  have HO4 := Lib.hid ho4
  clear ho4 HO HB0
  have HQ : Hid (∀ v W, OutIn w3.heap.size 5 w3 (([] ++ l) ++ [(0x80 : UInt8)]) v W → PadR w3.heap.size w3 l v W) := Lib.hid fun v W h => ⟨0, Nat.zero_le _, by simpa using h⟩
  go_wp2_with (first | (at_builtin; refine wpList_append_ok rfl (.tmp 27) (.tmp 28) _ rfl w3.heap.size 5 (.int .u8 0) w3 (Nat.le_refl _) Try.underlying22 infoU8d rfl v4 _ rfl HO4.out w4.heap.size 1 1 _ [(0x80 : UInt8)] rfl rfl rfl rfl (by have h1 := HN.out; have h2 := Hl.out; simp only [List.nil_append]; omega) ?_; intro v5 w5 ho5) | fail)
  have HR5 := Lib.hid (HQ.out v5 w5 ho5)
  clear HO4 HQ ho5
  go_loopw [5] (PadR w3.heap.size w3 l) (fun v _ => n + 200 - sliceLen v)
  case atStart => exact HR5.out
  case round =>
    clear HR5
    obtain ⟨k, hk, ho⟩ := hrel
    obtain ⟨A5, c5, rfl, hc5, -⟩ := ho.form
    have hlen : (l ++ (0x80 : UInt8) :: List.replicate k 0).length = n + 1 + k := by rw [List.length_append, List.length_cons, List.length_replicate, Hl.out]; omega
    have hle := DigP.lack_end (n := n) (k := k) (by rw [← Hl.out]; exact hk)
    have hlk := (DigP.lack_is n).2
    by_cases hend : k = DigP.lackT n
    case neg =>
      --<A1
      as_aux_lemma =>
      have h56 : ¬ (n + 1 + k) % 64 = 56 := fun e => hend (hle.1 e)
      have HO5 := Lib.hid ho
      have HR6 : Hid (∀ v W, OutIn w3.heap.size 5 w3 ((l ++ (0x80 : UInt8) :: List.replicate k 0) ++ [0]) v W → PadR w3.heap.size w3 l v W ∧ n + 200 - sliceLen v < n + 200 - (n + 1 + k)) := Lib.hid fun v W h => by
        rw [pad_zero] at h
        refine ⟨⟨k + 1, by rw [← Hl.out] at hend; omega, h⟩, ?_⟩
        obtain ⟨A6, c6, rfl, -, -⟩ := h.form
        have : (l ++ (0x80 : UInt8) :: List.replicate (k + 1) 0).length = n + 1 + (k + 1) := by rw [List.length_append, List.length_cons, List.length_replicate, Hl.out]; omega
        simp only [sliceLen, this]
        rw [Hl.out] at hk
        omega
      have Hb : Hid ((l ++ (0x80 : UInt8) :: List.replicate k 0).length + 1 ≤ 140737488355328) := Lib.hid (by have := HN.out; rw [Hl.out] at hk; omega)
      rw [hlen]
      rw [hlen] at HO5
      have q0 : (((n + 1 + k : Nat) : Int) % 64 != 56) = true := by simp only [bne_iff_ne, ne_eq]; omega
      have q1 : ((n + 1 + k : Nat) : Int) % 64 = (((n + 1 + k) % 64 : Nat) : Int) := by omega
      have HSl : Hid (sliceLen (.slice A5 (n + 1 + k) c5) = n + 1 + k) := Lib.hid rfl
      generalize (l ++ (0x80 : UInt8) :: List.replicate k 0) = lk at *
      clear ho hle hlk hend hlen hc5 q1 h56 hk
      generalize n + 1 + k = m at *
      go_wp2_with (first | (at_builtin; refine wpList_append_ok rfl (.tmp 34) (.tmp 35) _ rfl w3.heap.size 5 (.int .u8 0) w3 (Nat.le_refl _) Try.underlying22 infoU8d rfl (.slice A5 m c5) _ rfl HO5.out wr.heap.size 1 1 _ [(0 : UInt8)] rfl rfl rfl rfl Hb.out ?_; intro v7 w7 ho7) | fail)
      have HR7 := HR6.out v7 w7 ho7
      exact ⟨HR7.1, HR7.2⟩
      -->A1
    have h56 : (n + 1 + k) % 64 = 56 := hle.2 hend
    have q0 : (((n + 1 + k : Nat) : Int) % 64 != 56) = false := by simp only [bne_eq_false_iff_eq]; omega
    rw [hend] at ho
    have HL0 : Hid (LenR w3.heap.size w3 l (.slice A5 (n + 1 + k) c5) (.int .i64 7) wr) := Lib.hid (by
      rw [← hlen]
      refine ⟨0, by omega, rfl, ?_⟩
      rw [List.take_zero, List.append_nil, Hl.out]
      rw [← hend] at ho ⊢
      exact ho)
    rw [hlen]
    clear ho hle hlk hend hlen hc5 h56 hk
    generalize n + 1 + k = m at *
    go_wp2_with fail
    go_loopw [5, 6] (LenR w3.heap.size w3 l) (fun _ i _ => (intOf i + 1).toNat)
    case atStart => exact HL0.out
    case round =>
      clear HL0
      obtain ⟨k, hk, rfl, ho⟩ := hrel
      obtain ⟨A6, c6, rfl, hc6, hby6⟩ := ho.form
      have hlen : ((l ++ (0x80 : UInt8) :: List.replicate (DigP.lackT l.length) 0) ++ (DigP.be8 (8 * l.length)).take k).length = n + 1 + DigP.lackT n + k := by
        rw [List.length_append, List.length_append, List.length_cons, List.length_replicate, List.length_take, be8_len, Hl.out]; omega
      have hlk := (DigP.lack_is n).2
      by_cases hlt : k < 8
      case pos =>
        --<A2
        as_aux_lemma =>
        obtain ⟨j, hj⟩ : ∃ j, 7 - k = j := ⟨_, rfl⟩
        have e7 : (7 : Int) - (k : Int) = (j : Int) := by omega
        have HO6 := Lib.hid ho
        have HB8 := bits_byte (8 * l.length) k hlt
        rw [hj, Hl.out] at HB8
        have HR6 : Hid (∀ v W, OutIn w3.heap.size 5 w3 (((l ++ (0x80 : UInt8) :: List.replicate (DigP.lackT l.length) 0) ++ (DigP.be8 (8 * l.length)).take k) ++ [UInt8.ofNat (8 * n / 256 ^ j)]) v W → LenR w3.heap.size w3 l v (.int .i64 ((j : Int) - 1)) W) := Lib.hid fun v W h => ⟨k + 1, by omega, by rw [show (7 : Int) - ((k + 1 : Nat) : Int) = (j : Int) - 1 by omega], by
          rw [Hl.out] at h ⊢
          rw [HB8, ← List.append_assoc]
          exact h⟩
        have Hb : Hid (((l ++ (0x80 : UInt8) :: List.replicate (DigP.lackT l.length) 0) ++ (DigP.be8 (8 * l.length)).take k).length + 1 ≤ 140737488355328) := Lib.hid (by have := HN.out; rw [hlen]; omega)
        have e8 : IntKind.i64.wrap (8 * (n : Int)) = 8 * (n : Int) := IntWalk.i64_in _ (by have := HN.out; omega)
        have e9 : IntKind.u64.wrap (8 * (n : Int)) = ((8 * n : Nat) : Int) := by rw [show 8 * (n : Int) = ((8 * n : Nat) : Int) by omega, u64_lit _ (by have := HN.out; omega)]
        have e10 := shr_byte (8 * n) j
        have e11 : IntKind.i64.wrap ((j : Int) - 1) = (j : Int) - 1 := IntWalk.i64_in _ (by omega)
        have q0 : decide ((0 : Int) ≤ (j : Int)) = true := decide_eq_true (by omega)
        have hj8 : j ≤ 7 := by omega
        rw [e7]
        generalize ((l ++ (0x80 : UInt8) :: List.replicate (DigP.lackT l.length) 0) ++ (DigP.be8 (8 * l.length)).take k) = lk at *
        generalize 8 * n = N at *
        generalize UInt8.ofNat (N / 256 ^ j) = bt at *
        clear ho hc6 hby6 hlk HB8 hj hk e7 hlt hlen
        generalize n + 1 + DigP.lackT n + k = m at *
        go_wp2_with (first | (at_builtin; refine wpList_append_ok rfl (.tmp 41) (.tmp 50) _ rfl w3.heap.size 5 (.int .u8 0) w3 (Nat.le_refl _) Try.underlying22 infoU8d rfl _ _ rfl HO6.out wr.heap.size 1 1 _ [bt] rfl rfl rfl rfl Hb.out ?_; intro v7 w7 ho7) | fail)
        exact ⟨HR6.out v7 w7 ho7, by simp [intOf]⟩
        -->A2
      have hk8 : k = 8 := by omega
      rw [hk8, pad_all] at ho hby6
      have hlen8 : ((l ++ (0x80 : UInt8) :: List.replicate (DigP.lackT l.length) 0) ++ (DigP.be8 (8 * l.length)).take k).length = (DigP.padT l).length := by rw [hk8, pad_all]
      have hki : (7 : Int) - (k : Int) = -1 := by omega
      rw [hlen8, hki]
      have HP1 : Hid ((DigP.padT l).length % 64 = 0 ∧ (DigP.padT l).length ≤ 1000000200) := Lib.hid ⟨(DigP.pad_len l).2, by rw [← hlen8, hlen]; have := HN.out; omega⟩
      have HBy : Hid (Bytes wr wr.heap.size A6 (DigP.padT l)) := Lib.hid hby6
      have HBl := Lib.hid ho.of
      have HOf : Hid (DigP.ofT l = DigP.outT (DigP.blocksT (DigP.padT l) ((DigP.padT l).length / 64))) := Lib.hid rfl
      have HA1 : Hid (RfA w kb wr) := Lib.hid (by
        have h0 := HA.out
        have hb := HBl.out
        exact ⟨h0.out.keep hb h0.out.lt, h0.h.keep hb h0.h.lt, h0.k.keep hb h0.k.lt, h0.below.trans (hb.mono h0.below.size), h0.lt⟩)
      clear ho hc6 hby6 hlk hk8 hlen8 hki hlen hk hlt HA HBl
      generalize DigP.padT l = P at *
      obtain ⟨M, hM⟩ : ∃ M, P.length = M := ⟨_, rfl⟩
      rw [hM] at HP1 HOf ⊢
      have HM := Lib.hid hM
      clear hM
      have HAh := Lib.hid HA1.out.h
      have HAk := Lib.hid HA1.out.k
      have HAb := Lib.hid HA1.out.below
      have HAo := Lib.hid HA1.out.out
      have HAl : Hid (w.heap.size < w.heap.size + 1 ∧ w.heap.size + 1 < kb) := Lib.hid ⟨by omega, HA1.out.lt⟩
      clear HA1
      generalize w.heap.size + 1 = hb at *
      go_wp2_with fail
      generalize wr = W1 at *
      have HB0 : Hid (BlkR W1 hb P (.int .i64 0) W1) := Lib.hid ⟨0, by omega, rfl, HAh.out, Apart.refl _ _⟩
      go_loopw [7] (BlkR W1 hb P) (fun i _ => (M + 1 - intOf i).toNat)
      case atStart => exact HB0.out
      case round =>
        clear HB0
        obtain ⟨j, hj, rfl, hh, hap⟩ := hrel
        by_cases hend : 64 * j < M
        case neg =>
          --<A9
          as_aux_lemma =>
          have hjM : 64 * j = M := by have := HM.out; omega
          have hjd : M / 64 = j := by omega
          have q0 : decide (64 * (j : Int) < (M : Int)) = false := decide_eq_false (by omega)
          rw [hjd] at HOf
          generalize DigP.blocksT P j = r at hh HOf
          have n1 : w.heap.size ≠ hb := by have := HAl.out.1; omega
          have hz := HAo.out.apart hap n1
          have hbw : Below w.heap.size w wr := HAb.out.trans (hap.below HAb.out.size (fun k hk => by subst hk; exact Nat.le_of_lt HAl.out.1))
          have HZ := Lib.hid hz
          have HBw := Lib.hid hbw
          have HRg := Lib.hid hh
          clear hh hap hz hbw hjM hjd hend hj n1 HBy HP1 HAh HAk HAb HAo
          go_upto_region 37 with (fail)
          have HBt : Hid (Try.prog.built 24 [] = some (bytesV (List.replicate 32 0)).toArray) := Lib.hid built32
          have hzs : (bytesV (List.replicate 32 0)).toArray.size = 32 := rfl
          have hzo := all_oneCell_toArray (bytesV_one (List.replicate 32 0))
          have ha0 : ArrIn (wr.alloc (.cells (bytesV (List.replicate 32 0)).toArray 24)) wr.heap.size 24 (bytesV (List.replicate 32 0)) := ArrIn.new wr _ _
          have hb0 : Below wr.heap.size wr (wr.alloc (.cells (bytesV (List.replicate 32 0)).toArray 24)) := (Below.refl _ _).alloc (Nat.le_refl _) _
          have Hzi : Hid ((Try.prog.info? 24).map (fun i => (i.zero, i.size)) = some (some (.agg (bytesV (List.replicate 32 0)).toArray), 32)) := Lib.hid zero32
          generalize (bytesV (List.replicate 32 0)).toArray = ZA at HBt hzs hzo ha0 hb0 Hzi
          refine wp_region_lit ?_
          refine wpList_build0 rfl 24 rfl ZA HBt.out ?_
          refine wpList_new_arr rfl rfl _ (.tmp 20) (.tmp 249) rfl rfl 32 ZA ZA Hzi.out hzs hzs rfl rfl hzo ?_
          refine wpList_nil ?_
          generalize wr.alloc (.cells ZA 24) = w9 at *
          clear HBt hzs hzo Hzi
          generalize wr = wt at *
          have HS0 : Hid (ArrIn w9 wt.heap.size 24 (bytesV ((DigP.outT r).take 0 ++ (List.replicate 32 0).drop 0)) ∧ Below wt.heap.size wt w9) := Lib.hid ⟨ha0, hb0⟩
          clear ha0 hb0
          go_wp2_with fail
          go_loopw [21] (fun i W => ∃ k, k ≤ 32 ∧ i = .int .i64 (k : Nat) ∧ ArrIn W wt.heap.size 24 (bytesV ((DigP.outT r).take k ++ (List.replicate 32 0).drop k)) ∧ Below wt.heap.size wt W) (fun i _ => (33 - intOf i).toNat)
          case atStart => exact ⟨0, by omega, rfl, HS0.out⟩
          case round =>
            clear HS0
            obtain ⟨k, hk, rfl, ha, hbl⟩ := hrel
            by_cases hlt : k < 32
            case pos =>
              obtain ⟨x, hx, hox⟩ := out_at r hlt
              have hcx : wr.cell? ⟨hb, k / 4, none⟩ = some (.int .u32 (x : Nat)) := (HRg.out.keep hbl HRg.out.lt).cell (u32V_get hx)
              have hc0 : wr.cell? ⟨wt.heap.size, k, none⟩ = some (.int .u8 0) := ha.cell (bytesV_get (c := 0) (mix_at (by rw [List.getElem?_replicate, if_pos hlt]) (by rw [DigP.out_len, List.length_replicate])))
              have hf0 := ha.free k
              have HN8 : Hid (ArrIn (wr.setCell ⟨wt.heap.size, k, none⟩ (.int .u8 ((UInt8.ofNat (x / 2 ^ (24 - k % 4 * 8))).toNat : Nat))) wt.heap.size 24 (bytesV ((DigP.outT r).take (k + 1) ++ (List.replicate 32 0).drop (k + 1))) ∧ Below wt.heap.size wt (wr.setCell ⟨wt.heap.size, k, none⟩ (.int .u8 ((UInt8.ofNat (x / 2 ^ (24 - k % 4 * 8))).toNat : Nat)))) := Lib.hid (by
                have h4 := ha.set k (.int .u8 ((UInt8.ofNat (x / 2 ^ (24 - k % 4 * 8))).toNat : Nat))
                rw [bytesV_set, take_set (R := List.replicate 32 0) hox (by rw [DigP.out_len, List.length_replicate])] at h4
                exact ⟨h4, hbl.setCell (Nat.le_refl _) _⟩)
              obtain ⟨e, he⟩ : ∃ e, 24 - k % 4 * 8 = e := ⟨_, rfl⟩
              rw [he] at HN8
              have he2 : 24 - 8 * (k % 4) = e := by omega
              have hb8 := byte_of x e
              have ik : (k : Int) < 32 := by omega
              have q1 : decide ((k : Int) < 32) = true := decide_eq_true ik
              have ik4 : k / 4 < 8 := by omega
              have ik4' : (k : Int) / 4 < 8 := by omega
              generalize UInt8.ofNat (x / 2 ^ e) = bt at *
              clear ha hbl hx hox
              go_wp2_with fail
              exact ⟨⟨k + 1, by omega, rfl, HN8.out⟩, by simp [intOf]; omega⟩
            have hk8 : k = 32 := by omega
            have hki : (k : Int) = 32 := by omega
            rw [hk8, show (DigP.outT r).take 32 ++ (List.replicate 32 (0 : UInt8)).drop 32 = DigP.outT r from rfl] at ha
            have HA8 := Lib.hid ha
            have HZ8 := Lib.hid (HZ.out.keep hbl HZ.out.lt)
            have hz2 := HZ8.out.setRow (bytesV (DigP.outT r))
            have hb2 : Below w.heap.size w (wr.setRow w.heap.size (bytesV (DigP.outT r)).toArray) := (HBw.out.trans (hbl.mono HBw.out.size)).trans (setRow_below (Nat.le_refl _))
            have HZ2 := Lib.hid hz2
            have HB2 := Lib.hid hb2
            have HL8 : Hid ((bytesV (DigP.outT r)).length = 32) := Lib.hid (by rw [bytesV_length]; rfl)
            have HL81 := Lib.hid (bytesV_one (DigP.outT r))
            have HOf2 : Hid (bytesV (DigP.ofT l) = bytesV (DigP.outT r)) := Lib.hid (by rw [HOf.out])
            rw [hki]
            clear ha hbl hz2 hb2 hk8 hki hk hlt HZ HBw HOf
            generalize bytesV (DigP.outT r) = O at *
            go_upto_region 42 with (fail)
            refine wp_region_lit ?_
            refine wpList_load_row rfl _ (.tmp 20) rfl wt.heap.size rfl _ O.toArray (0, 0) _ HA8.out Try.underlying24 rfl (by simp only [List.size_toArray, HL8.out]; kernel_rfl) ?_
            refine wpList_store_row rfl _ (.tmp 2) (.tmp 267) rfl w.heap.size O.toArray rfl rfl _ _ HZ8.out (by simp only [List.size_toArray, HL8.out]; kernel_rfl) (by simp only [List.size_toArray, HL8.out, bytesV_length]; rfl) (all_oneCell_toArray HL81.out) (wpList_nil ?_)
            generalize wr.setRow w.heap.size O.toArray = wz at *
            go_wp2_with fail
            show bodyPost _ _ _ _ _ _
            refine bodyPost_ret (v := .agg O.toArray) (results_cell_row rfl _ _ _ _ _ (0, 0) _ rfl HZ2.out Try.underlying24 rfl (by simp only [List.size_toArray, HL8.out]; kernel_rfl)) rfl ⟨by rw [HOf2.out], HB2.out⟩
          -->A9
        have q0 : decide (64 * (j : Int) < (M : Int)) = true := decide_eq_true (by omega)
        obtain ⟨g, o, rfl, hg, hcs⟩ := HBy.out (by rw [HM.out]; omega)
        have hj64 : 64 * j + 64 ≤ M := by have := HP1.out.1; omega
        have hRd : RdR g o hb kb P j wr := by
          have n1 : kb ≠ hb := by have := HAl.out.2; omega
          have hx : ∀ i, i < M → ∃ c, P[i]? = some c ∧ W1.cell? ⟨g, o + i, none⟩ = some (.int .u8 (c.toNat : Nat)) := fun i hi => by
            have h1 : P[i]? = some (P[i]'(by rw [HM.out]; exact hi)) := List.getElem?_eq_getElem _
            exact ⟨_, h1, hcs i _ h1⟩
          have n2 : g ≠ hb := by
            obtain ⟨c, _, h2⟩ := hx 0 (by omega)
            exact head_not_byte HAh.out h2
          exact ⟨hh, HAk.out.apart hap n1, Nat.lt_of_lt_of_le hg hap.size, fun i hi => by
            obtain ⟨c, h1, h2⟩ := hx (64 * j + i) (by omega)
            exact ⟨c, h1, (World.cell?_of_block (hap.block g hg n2)).trans h2⟩⟩
        have hmk : ∀ W, (Instr.makeSlice 48 (.int .i64 64) (.int .i64 64)).run Try.prog W = .ok (.slice (some ⟨W.heap.size, 0, none⟩) 64 64) (W.alloc (.cells (madeCells #[.int .u32 0] 64) 37)) := fun W => run_make_row' (P := Try.prog) 48 37 (.int .u32 0) 4 Try.underlying48 infoU32 rfl .i64 .i64 64 (by omega) (by omega) W
        rw [made_words] at hmk
        go_upto_region 15 with (fail)
        clear hmk
        have hwd0 : WdR wr P j 0 (wr.alloc (.cells (u32V (fillN 64 [])).toArray 37)) := ⟨Nat.zero_le _, ArrIn.new wr _ _, (Below.refl _ _).alloc (Nat.le_refl _) _⟩
        have HRd := Lib.hid hRd
        have HWd0 := Lib.hid hwd0
        have HAp := Lib.hid hap
        have Hj64 := Lib.hid hj64
        have hbw : hb < wr.heap.size := hRd.regs.lt
        have hkw : kb < wr.heap.size := hRd.nums.lt
        have hgw : g < wr.heap.size := hRd.lt
        have Hlt : Hid (hb < wr.heap.size ∧ kb < wr.heap.size ∧ g < wr.heap.size) := Lib.hid ⟨hbw, hkw, hgw⟩
        have HMb : Hid (M ≤ 1000000200) := Lib.hid HP1.out.2
        clear hRd hwd0 hap hj64 hcs hg hh hj hbw hkw hgw
        generalize wr.alloc (.cells (u32V (fillN 64 [])).toArray 37) = w2 at *
        generalize wr = Wr at *
        go_wp2_with fail
        go_loopw [9] (fun i W => ∃ k, i = .int .i64 (k : Nat) ∧ WdR Wr P j k W) (fun i _ => (65 - intOf i).toNat)
        case atStart => exact ⟨0, rfl, HWd0.out⟩
        case round =>
          clear HWd0
          obtain ⟨k, rfl, hwd⟩ := hrel
          have hk64 := hwd.le
          by_cases hk : k < 64
          case pos =>
            by_cases hk16 : k < 16
            case pos =>
              --<A3
              as_aux_lemma =>
              have q1 : decide ((k : Int) < 64) = true := decide_eq_true (by omega)
              have q2 : decide ((k : Int) < 16) = true := decide_eq_true (by omega)
              have hq0 : PtR Wr P j k 0 wr := by
                refine ⟨by omega, ?_, hwd.below⟩
                have z := fillN_zero (N := 64) (l := DigP.wordsT P (64 * j) k) (i := k) (by rw [DigP.words_len]; exact Nat.le_refl _) hk
                rw [part_zero, show ((0 : Nat) : Int) = 0 from rfl, set_self_of z]
                exact hwd.row
              have HQ0 := Lib.hid hq0
              have HWd := Lib.hid hwd
              clear hq0 hwd
              go_wp2_with fail
              go_loopw [10] (fun i W => ∃ q, i = .int .i64 (q : Nat) ∧ PtR Wr P j k q W) (fun i _ => (5 - intOf i).toNat)
              case atStart => exact ⟨0, rfl, HQ0.out⟩
              case round =>
                clear HQ0
                obtain ⟨q, rfl, hpt⟩ := hrel
                by_cases hq : q < 4
                case pos =>
                  obtain ⟨c, hc1, hc2⟩ := (HRd.out.keep hpt.below Hlt.out.1 Hlt.out.2.1 Hlt.out.2.2).bys (4 * k + q) (by omega)
                  have q3 : decide ((q : Int) < 4) = true := decide_eq_true (by omega)
                  have hc256 : c.toNat < 256 := c.toNat_lt
                  have hpl := part_lt P (64 * j + 4 * k) q
                  have hpl2 : partT P (64 * j + 4 * k) q < 16777216 := Nat.lt_of_lt_of_le hpl (Nat.le_trans (Nat.pow_le_pow_right (by decide) (show q ≤ 3 by omega)) (by decide))
                  have hnx := part_next (P := P) (a := 64 * j + 4 * k) (q := q) (c := c) (by rw [Nat.add_assoc]; exact hc1)
                  have hor := or_byte (partT P (64 * j + 4 * k) q) c.toNat hpl2 hc256
                  rw [← hnx] at hor
                  have k1 : wr.cell? ⟨Wr.heap.size, k, none⟩ = some (.int .u32 (partT P (64 * j + 4 * k) q : Nat)) := hpt.row.cell (by rw [List.getElem?_set_self (by rw [u32V_len, fillN_len (by rw [DigP.words_len]; omega)]; exact hk)])
                  have f1 := hpt.row.free k
                  have e1 : IntKind.i64.wrap (4 * (k : Int)) = 4 * (k : Int) := IntWalk.i64_in _ (by omega)
                  have e2 : IntKind.i64.wrap (64 * (j : Int) + 4 * (k : Int)) = 64 * (j : Int) + 4 * (k : Int) := IntWalk.i64_in _ (by have := Hj64.out; have := HMb.out; omega)
                  have e3 : IntKind.i64.wrap (64 * (j : Int) + 4 * (k : Int) + (q : Int)) = ((64 * j + (4 * k + q) : Nat) : Int) := by rw [IntWalk.i64_in _ (by have := Hj64.out; have := HMb.out; omega)]; omega
                  have i1 : ((64 * j + (4 * k + q) : Nat) : Int) < (M : Int) := by have := Hj64.out; omega
                  have i2 : 64 * j + (4 * k + q) < M := by have := Hj64.out; omega
                  have HN : Hid (PtR Wr P j k (q + 1) (wr.setCell ⟨Wr.heap.size, k, none⟩ (.int .u32 (partT P (64 * j + 4 * k) (q + 1) : Nat)))) := Lib.hid ⟨by omega, by
                    have h1 := hpt.row.set k (.int .u32 (partT P (64 * j + 4 * k) (q + 1) : Nat))
                    rw [List.set_set] at h1
                    exact h1, hpt.below.setCell (Nat.le_refl _) _⟩
                  generalize 64 * j + (4 * k + q) = D at *
                  generalize partT P (64 * j + 4 * k) q = x at *
                  generalize partT P (64 * j + 4 * k) (q + 1) = y at *
                  have e5 : ((c.toNat : Nat) : Int) % 4294967296 = ((c.toNat : Nat) : Int) := by omega
                  generalize c.toNat = cv at *
                  clear hpt hc1 hpl hnx hpl2 hc256
                  go_wp2_with fail
                  go_region
                  go_wp2_with fail
                  exact ⟨⟨q + 1, rfl, HN.out.drew⟩, by simp [intOf]; omega⟩
                have hq4 : q = 4 := by have := hpt.le; omega
                have hqi : (q : Int) = 4 := by omega
                have hnw : WdR Wr P j (k + 1) wr := ⟨by omega, by
                  have h1 := hpt.row
                  rw [hq4, part_four] at h1
                  have h2 := fillN_set (N := 64) (l := DigP.wordsT P (64 * j) k) (by rw [DigP.words_len]; exact hk) (DigP.wordT P (64 * j + 4 * k))
                  rw [DigP.words_len, ← DigP.words_low hk16] at h2
                  rw [h2] at h1
                  exact h1, hpt.below⟩
                have HNw := Lib.hid hnw
                rw [hqi]
                clear hpt hnw hq4 hqi hq
                go_wp2_with fail
                exact ⟨⟨k + 1, rfl, HNw.out⟩, by simp [intOf]; omega⟩
              -->A3
            --<A4
            as_aux_lemma =>
            have hk16' : 16 ≤ k := by omega
            obtain ⟨x, gx, lx, cx⟩ := hwd.at_ (i := k - 15) (by omega)
            obtain ⟨y, gy, ly, cy⟩ := hwd.at_ (i := k - 2) (by omega)
            obtain ⟨z, gz, lz, cz⟩ := hwd.at_ (i := k - 16) (by omega)
            obtain ⟨v, gv, lv, cv⟩ := hwd.at_ (i := k - 7) (by omega)
            have e15 : IntKind.i64.wrap ((k : Int) - 15) = ((k - 15 : Nat) : Int) := by rw [IntWalk.i64_in _ (by omega)]; omega
            have e2 : IntKind.i64.wrap ((k : Int) - 2) = ((k - 2 : Nat) : Int) := by rw [IntWalk.i64_in _ (by omega)]; omega
            have e16 : IntKind.i64.wrap ((k : Int) - 16) = ((k - 16 : Nat) : Int) := by rw [IntWalk.i64_in _ (by omega)]; omega
            have e7 : IntKind.i64.wrap ((k : Int) - 7) = ((k - 7 : Nat) : Int) := by rw [IntWalk.i64_in _ (by omega)]; omega
            have H7 := Lib.hid (fun W => refright_any x 7 lx (by decide) (by decide) W)
            have H18 := Lib.hid (fun W => refright_any x 18 lx (by decide) (by decide) W)
            have H17 := Lib.hid (fun W => refright_any y 17 ly (by decide) (by decide) W)
            have H19 := Lib.hid (fun W => refright_any y 19 ly (by decide) (by decide) W)
            simp only [show ((7 : Nat) : Int) = 7 from rfl, show ((18 : Nat) : Int) = 18 from rfl, show ((17 : Nat) : Int) = 17 from rfl, show ((19 : Nat) : Int) = 19 from rfl] at H7 H18 H17 H19
            have hwds := DigP.words_up (b := P) (at_ := 64 * j) hk16'
            unfold DigP.nextW at hwds
            rw [gx, gy, gz, gv] at hwds
            have q0 := low0_is x lx
            have q1 := low1_is y ly
            have m0 := DigP.low0_lt lx
            have m1 := DigP.low1_lt ly
            generalize DigP.low0 x = lo0 at *
            generalize DigP.low1 y = lo1 at *
            have q2 : ((z : Int) + (lo0 : Int) + (v : Int) + (lo1 : Int)) % 4294967296 = (((z + lo0 + v + lo1) % 4294967296 : Nat) : Int) := by omega
            obtain ⟨N, hN⟩ : ∃ N, (z + lo0 + v + lo1) % 4294967296 = N := ⟨_, rfl⟩
            rw [hN] at hwds q2
            have q5 : ((((z : Int) + (lo0 : Int)) % 4294967296 + (v : Int)) % 4294967296 + (lo1 : Int)) % 4294967296 = (N : Int) := by omega
            have HNx : Hid (∀ W2, (∃ m, W2 = wr.drewN m) → WdR Wr P j (k + 1) (W2.setCell ⟨Wr.heap.size, k, none⟩ (.int .u32 (N : Nat)))) := Lib.hid fun W2 hW => hwd.next hk hwds hW
            have q3 : decide ((k : Int) < 64) = true := decide_eq_true (by omega)
            have q4 : decide ((k : Int) < 16) = false := decide_eq_false (by omega)
            have c0 : ∀ m, (wr.drewN m).cell? ⟨Wr.heap.size, k, none⟩ = some (.int .u32 0) := fun m => hwd.row.cell (fillN_zero (by rw [DigP.words_len]; exact Nat.le_refl _) hk)
            have f0 : ∀ m, (wr.drewN m).frozen? ⟨Wr.heap.size, k, none⟩ = false := fun m => hwd.row.free k
            have cx0 : wr.cell? ⟨Wr.heap.size, k - 15, none⟩ = some (.int .u32 (x : Nat)) := cx 0
            have cy0 : wr.cell? ⟨Wr.heap.size, k - 2, none⟩ = some (.int .u32 (y : Nat)) := cy 0
            have ik : (k : Int) < 64 := by omega
            have i15 : k - 15 < 64 := by omega
            have i2 : k - 2 < 64 := by omega
            have i16 : k - 16 < 64 := by omega
            have i7 : k - 7 < 64 := by omega
            have i15' : ((k - 15 : Nat) : Int) < 64 := by omega
            have i2' : ((k - 2 : Nat) : Int) < 64 := by omega
            have i16' : ((k - 16 : Nat) : Int) < 64 := by omega
            have i7' : ((k - 7 : Nat) : Int) < 64 := by omega
            generalize k - 15 = a15 at *
            generalize k - 2 = a2 at *
            generalize k - 16 = a16 at *
            generalize k - 7 = a7 at *
            clear hwd hwds hN gx gy gz gv hk16' hk64 hk16
            go_wp2_with fail
            go_quiet (fail)
            go_wp2_with fail
            have d0 : ∀ W, DrN wr W → W.cell? ⟨Wr.heap.size, k, none⟩ = some (.int .u32 0) := fun W ⟨m, hW⟩ => by rw [hW]; exact c0 m
            have g0 : ∀ W, DrN wr W → W.frozen? ⟨Wr.heap.size, k, none⟩ = false := fun W ⟨m, hW⟩ => by rw [hW]; exact f0 m
            have d1 : ∀ W, DrN wr W → W.cell? ⟨Wr.heap.size, a16, none⟩ = some (.int .u32 (z : Nat)) := fun W ⟨m, hW⟩ => by rw [hW]; exact cz m
            have d2 : ∀ W, DrN wr W → W.cell? ⟨Wr.heap.size, a7, none⟩ = some (.int .u32 (v : Nat)) := fun W ⟨m, hW⟩ => by rw [hW]; exact cv m
            have s1 : DrN wr (wr.drewN nq).drew := ⟨nq + 1, rfl⟩
            clear cx cy cz cv c0 f0 cx0 cy0
            refine wp_region_L_drew (st := 32) (S := fun W => DrN wr W) (by kernel_rfl) s1 (fun _ => ?_)
            refine tkL 0 (by simp only [tkA]; rfl) (by kernel_rfl) (by exact fun _ _ _ h => h) (by rfl) (by intro W hW; go_simp <;> with_reducible rfl) s1 ?_
            try simp only [Act.put, tkT, tk0, tkS]
            refine tkL 1 (by simp only [tkA, tkG]; rfl) (by kernel_rfl) (by exact fun _ _ _ h => h) (by rfl) (by intro W hW; go_simp <;> with_reducible rfl) s1 ?_
            try simp only [Act.put, tkT, tk0, tkS]
            refine tkL 2 (by simp only [tkA, tkG]; rfl) (by kernel_rfl) (by exact fun _ _ _ h => h) (by rfl) (by intro W hW; go_simp <;> with_reducible rfl) s1 ?_
            try simp only [Act.put, tkT, tk0, tkS]
            refine tkL 3 (by simp only [tkA, tkG]; rfl) (by kernel_rfl) (by exact fun _ _ _ h => h) (by rfl) (by intro W hW; go_simp <;> with_reducible rfl) s1 ?_
            try simp only [Act.put, tkT, tk0, tkS]
            refine tkL 4 (by simp only [tkA, tkG]; rfl) (by kernel_rfl) (by exact fun _ _ _ h => h) (by rfl) (by intro W hW; go_simp <;> with_reducible rfl) s1 ?_
            try simp only [Act.put, tkT, tk0, tkS]
            refine tkL 5 (by simp only [tkA, tkG]; rfl) (by kernel_rfl) (by exact fun _ _ _ h => h) (by rfl) (by intro W hW; go_simp <;> with_reducible rfl) s1 ?_
            try simp only [Act.put, tkT, tk0, tkS]
            refine tkL 6 (by simp only [tkA, tkG]; rfl) (by kernel_rfl) (by exact fun _ _ _ h => h) (by rfl) (by intro W hW; go_simp <;> with_reducible rfl) s1 ?_
            try simp only [Act.put, tkT, tk0, tkS]
            refine tkL 7 (by simp only [tkA, tkG]; rfl) (by kernel_rfl) (by exact fun _ _ _ h => h) (by rfl) (by intro W hW; go_simp <;> with_reducible rfl) s1 ?_
            try simp only [Act.put, tkT, tk0, tkS]
            refine tkL 9 (by simp only [tkA, tkG]; rfl) (by kernel_rfl) (by exact fun _ _ _ h => h) (by rfl) (by intro W hW; go_simp <;> with_reducible rfl) s1 ?_
            try simp only [Act.put, tkT, tk0, tkS]
            refine tkL 12 (by simp only [tkA, tkG]; rfl) (by kernel_rfl) (by exact fun _ _ _ h => h) (by rfl) (by intro W hW; go_simp <;> with_reducible rfl) s1 ?_
            try simp only [Act.put, tkT, tk0, tkS]
            refine tkL 13 (by simp only [tkA, tkG]; rfl) (by kernel_rfl) (by exact fun _ _ _ h => h) (by rfl) (by intro W hW; go_simp <;> with_reducible rfl) s1 ?_
            try simp only [Act.put, tkT, tk0, tkS]
            refine tkL 16 (by simp only [tkA, tkG]; rfl) (by kernel_rfl) (by exact fun _ _ _ h => h) (by rfl) (by intro W hW; go_simp <;> with_reducible rfl) s1 ?_
            try simp only [Act.put, tkT, tk0, tkS]
            refine tkL 17 (by simp only [tkA, tkG]; rfl) (by kernel_rfl) (by exact fun _ _ _ h => h) (by rfl) (by intro W hW; go_simp <;> with_reducible rfl) s1 ?_
            try simp only [Act.put, tkT, tk0, tkS]
            refine tkL 18 (by simp only [tkA, tkG]; rfl) (by kernel_rfl) (by exact fun _ _ _ h => h) (by rfl) (by intro W hW; go_simp <;> with_reducible rfl) s1 ?_
            try simp only [Act.put, tkT, tk0, tkS]
            refine tkL 19 (by simp only [tkA, tkG]; rfl) (by kernel_rfl) (by exact fun _ _ _ h => h) (by rfl) (by intro W hW; go_simp <;> with_reducible rfl) s1 ?_
            try simp only [Act.put, tkT, tk0, tkS]
            refine tkL 20 (by simp only [tkA, tkG]; rfl) (by kernel_rfl) (by exact fun _ _ _ h => h) (by rfl) (by intro W hW; go_simp <;> with_reducible rfl) s1 ?_
            try simp only [Act.put, tkT, tk0, tkS]
            refine tkL 22 (by simp only [tkA, tkG]; rfl) (by kernel_rfl) (by exact fun _ _ _ h => h) (by rfl) (by intro W hW; go_simp <;> with_reducible rfl) s1 ?_
            try simp only [Act.put, tkT, tk0, tkS]
            refine tkL 24 (by simp only [tkA, tkG]; rfl) (by kernel_rfl) (by exact fun _ _ _ h => h) (by rfl) (by intro W hW; go_simp <;> with_reducible rfl) s1 ?_
            try simp only [Act.put, tkT, tk0, tkS]
            refine tkL 27 (by simp only [tkA, tkG]; rfl) (by kernel_rfl) (by exact fun _ _ _ h => h) (by rfl) (by intro W hW; go_simp <;> with_reducible rfl) s1 ?_
            try simp only [Act.put, tkT, tk0, tkS]
            refine tkL 28 (by simp only [tkA, tkG]; rfl) (by kernel_rfl) (by exact fun _ _ _ h => h) (by rfl) (by intro W hW; go_simp <;> with_reducible rfl) s1 ?_
            try simp only [Act.put, tkT, tk0, tkS]
            generalize (wr.drewN nq).drew = u1 at *
            refine wpAnyL_one (k := 8) (by kernel_rfl) (by simp only [tkA, tkG]; rfl) (fun K hK => ?_)
            go_simp
            refine (H7.out _).mono ?_
            rintro e w' ⟨rfl, mm, rfl⟩
            have s2 := s1.more mm
            generalize u1.drewN mm = uu2 at *
            go_wp2_with fail
            refine hK.out _ _ (fun _ => s2) ?_
            clear hK K
            clear s1
            refine wpAnyL_one (k := 10) (by kernel_rfl) (by simp only [tkA, tkG]; rfl) (fun K hK => ?_)
            go_simp
            refine (H18.out _).mono ?_
            rintro e w' ⟨rfl, mm, rfl⟩
            have s3 := s2.more mm
            generalize uu2.drewN mm = uu3 at *
            go_wp2_with fail
            refine hK.out _ _ (fun _ => s3) ?_
            clear hK K
            clear s2
            refine tkL 11 (by simp only [tkA, tkG]; rfl) (by kernel_rfl) (by exact fun _ _ _ h => h) (by rfl) (by intro W hW; go_simp <;> with_reducible rfl) s3 ?_
            try simp only [Act.put, tkT, tk0, tkS]
            refine tkL 14 (by simp only [tkA, tkG]; rfl) (by kernel_rfl) (by exact fun _ _ _ h => h) (by rfl) (by intro W hW; go_simp <;> with_reducible rfl) s3 ?_
            try simp only [Act.put, tkT, tk0, tkS]
            refine tkL 15 (by simp only [tkA, tkG]; rfl) (by kernel_rfl) (by exact fun _ _ _ h => h) (by rfl) (by intro W hW; go_simp <;> with_reducible rfl) s3 ?_
            try simp only [Act.put, tkT, tk0, tkS]
            refine tkL 21 (by simp only [tkA, tkG]; rfl) (by kernel_rfl) (by exact fun _ _ _ h => h) (by rfl) (by intro W hW; go_simp <;> with_reducible rfl) s3 ?_
            try simp only [Act.put, tkT, tk0, tkS]
            refine wpAnyL_one (k := 23) (by kernel_rfl) (by simp only [tkA, tkG]; rfl) (fun K hK => ?_)
            go_simp
            refine (H17.out _).mono ?_
            rintro e w' ⟨rfl, mm, rfl⟩
            have s4 := s3.more mm
            generalize uu3.drewN mm = uu4 at *
            go_wp2_with fail
            refine hK.out _ _ (fun _ => s4) ?_
            clear hK K
            clear s3
            refine wpAnyL_one (k := 25) (by kernel_rfl) (by simp only [tkA, tkG]; rfl) (fun K hK => ?_)
            go_simp
            refine (H19.out _).mono ?_
            rintro e w' ⟨rfl, mm, rfl⟩
            have s5 := s4.more mm
            generalize uu4.drewN mm = uu5 at *
            go_wp2_with fail
            refine hK.out _ _ (fun _ => s5) ?_
            clear hK K
            clear s4
            refine tkL 26 (by simp only [tkA, tkG]; rfl) (by kernel_rfl) (by exact fun _ _ _ h => h) (by rfl) (by intro W hW; go_simp <;> with_reducible rfl) s5 ?_
            try simp only [Act.put, tkT, tk0, tkS]
            refine tkL 29 (by simp only [tkA, tkG]; rfl) (by kernel_rfl) (by exact fun _ _ _ h => h) (by rfl) (by intro W hW; go_simp <;> with_reducible rfl) s5 ?_
            try simp only [Act.put, tkT, tk0, tkS]
            refine tkL 30 (by simp only [tkA, tkG]; rfl) (by kernel_rfl) (by exact fun _ _ _ h => h) (by rfl) (by intro W hW; go_simp <;> with_reducible rfl) s5 ?_
            try simp only [Act.put, tkT, tk0, tkS]
            refine tkL 31 (by simp only [tkA, tkG]; rfl) (by kernel_rfl) (by exact fun _ _ _ h => h) (by rfl) (by intro W hW; go_simp <;> with_reducible rfl) s5 ?_
            try simp only [Act.put, tkT, tk0, tkS]
            have HF5 := Lib.hid (HNx.out uu5 s5)
            have d5 := d0 _ s5
            have g5 := g0 _ s5
            refine wpAnyL_last (k := 32) (by kernel_rfl) (by simp only [tkA, tkG]; rfl) (fun K hK => ?_)
            go_simp
            go_wp2_with fail
            refine hK.out _ _ ?_
            clear hK K
            refine wpAnyL_done (by kernel_rfl) ?_ _
            go_wp2_with fail
            refine ⟨⟨k + 1, rfl, ?_⟩, by simp [intOf]; omega⟩
            rw [q5]
            exact HF5.out
            -->A4
          --<A5
          have hki : (k : Int) = 64 := by omega
          obtain ⟨wd, hwdd⟩ : ∃ wd, DigP.wordsT P (64 * j) 64 = wd := ⟨_, rfl⟩
          have hkw : DigP.wordsT P (64 * j) k = wd := by rw [show k = 64 by omega]; exact hwdd
          have hwl : wd.length = 64 := by rw [← hwdd]; exact DigP.words_len _ _ _
          have hrow := hwd.row
          rw [hkw, fillN_full hwl] at hrow
          have HRow := Lib.hid hrow
          have HBw := Lib.hid hwd.below
          have HWx : Hid (∀ k, k < 64 → ∃ x, wd[k]? = some x ∧ wd.getD k 0 = x ∧ x < 4294967296) := Lib.hid fun k hk => by
            rw [← hwdd]
            exact DigP.words_get (b := P) (at_ := 64 * j) hk
          obtain ⟨r, hr⟩ : ∃ r, DigP.blocksT P j = r := ⟨_, rfl⟩
          obtain ⟨v, hv⟩ : ∃ v, DigP.roundsT wd r 64 = v := ⟨_, rfl⟩
          have HBn : Hid (DigP.blocksT P (j + 1) = DigP.addR r v) := Lib.hid (by
            show DigP.addR (DigP.blocksT P j) (DigP.roundsT (DigP.wordsT P (64 * j) 64) (DigP.blocksT P j) 64) = _
            rw [hr, hwdd, hv])
          have HV := Lib.hid hv
          have HRo : Hid (DigP.RegOk r) := Lib.hid (by rw [← hr]; exact DigP.RegOk.blocks P j)
          have hrd := HRd.out.keep hwd.below Hlt.out.1 Hlt.out.2.1 Hlt.out.2.2
          have hregs := hrd.regs
          rw [hr] at hregs
          have HRegs := Lib.hid hregs
          have HNums := Lib.hid hrd.nums
          have hsz := hwd.below.size
          rw [hki]
          clear hwd hk hk64 hkw hwdd hwl hrow hr hv hrd hregs hki HRd
          generalize wr = wq at *
          have HO5 : Hid ((wq.alloc (.cells #[] 37)).ownsRow wq.heap.size 37 1 (.slice (some ⟨wq.heap.size, 0, none⟩) 0 0) 0 []) := Lib.hid (World.ownsRow_lit (base := wq.heap.size) (e := 37) (size := 1) wq #[] 0 (Nat.le_refl _) (by unfold maxLen; omega) rfl)
          have HR5 : Hid (HeadIn (wq.alloc (.cells #[] 37)) hb (u32V r.list)) := Lib.hid (HRegs.out.head.keep ((Below.refl _ _).alloc (Nat.le_refl _) _) HRegs.out.lt)
          have HNw5 : Hid (0 < 8 → ∃ ad, (some ⟨hb, 0, none⟩ : Option Addr) = some ad ∧ ∀ j u, (u32V r.list)[j]? = some u → (wq.alloc (.cells #[] 37)).cell? (ad.add j) = some u) := Lib.hid fun _ => ⟨_, rfl, fun j u hu => by rw [addr_add0, Nat.zero_add]; exact HR5.out.2 j u hu⟩
          go_upto_region 26 with (first | (at_builtin; refine wpList_append_s rfl (.tmp 130) (.tmp 131) _ rfl wq.heap.size 37 (.int .u32 0) 1 4 Try.underlying48 infoU32 rfl (by decide) _ 0 [] rfl HO5.out (some ⟨hb, 0, none⟩) 8 8 (u32V r.list) rfl (by rw [u32V_len]; rfl) HNw5.out (u32V_one _) (by unfold maxLen; omega) (by omega) (by rw [World.size_alloc]; omega) ?_; intro v5' w5' ho5 ha5 hm5) | fail)
          have hb5 : Below wq.heap.size wq w5' := ((Below.refl _ _).alloc (Nat.le_refl _) _).trans (ha5.below (by rw [World.size_alloc]; omega) (fun k e => by have e : some wq.heap.size = some k := e; cases e; exact Nat.le_refl _))
          have HV0 : Hid (VR wq wd r 0 v5' w5') := Lib.hid (by
            refine ⟨Nat.zero_le _, ?_, hb5⟩
            rcases ho5.2 with ⟨-, h0⟩ | ⟨gv, cv, cur, rfl, hB5, hg5, h85, -⟩
            · omega
            · exact ⟨gv, cv, rfl, h85, hB5, (Array.getElem?_eq_some_iff.1 hg5).1, fun i u hu => by
                have hi := (List.getElem?_eq_some_iff.1 hu).1
                rw [u32V_len, reg_len] at hi
                rw [ho5.cellAt i (by omega)]
                exact hu⟩)
          have HRow5 : Hid (∀ W, Below wq.heap.size wq W → HeadIn W Wr.heap.size (u32V wd)) := Lib.hid fun W hW => HRow.out.head.keep hW HRow.out.lt
          have HNum5 : Hid (∀ W, Below wq.heap.size wq W → HeadIn W kb (u32V DigP.ks)) := Lib.hid fun W hW => HNums.out.head.keep hW HNums.out.lt
          clear ho5 ha5 hm5 hb5 HO5 HR5 HNw5
          go_wp2_with fail
          go_loopw [13, 14] (fun v i W => ∃ k, i = .int .i64 (k : Nat) ∧ VR wq wd r k v W) (fun _ i _ => (65 - intOf i).toNat)
          case atStart => exact ⟨0, rfl, HV0.out⟩
          case round =>
            clear HV0
            obtain ⟨k, rfl, hvr⟩ := hrel
            obtain ⟨vb, vc, rfl, hvc, hvb, hhd⟩ := hvr.sl
            have hk64 := hvr.le
            by_cases hk : k < 64
            case pos =>
              --<A6
              obtain ⟨x, gx, gxd, lx⟩ := HWx.out k hk
              obtain ⟨kk, hkk⟩ : ∃ kk, DigP.ks[k]? = some kk := ⟨_, List.getElem?_eq_getElem (by rw [DigP.ks_len]; exact hk)⟩
              have gk : DigP.ks.getD k 0 = kk := by rw [List.getD_eq_getElem?_getD, hkk]; rfl
              have lk := DigP.ks_lt kk (List.mem_of_getElem? hkk)
              have cw : wr.cell? ⟨Wr.heap.size, k, none⟩ = some (.int .u32 (x : Nat)) := (HRow5.out wr hvr.below).2 k _ (u32V_get gx)
              have ck : wr.cell? ⟨kb, k, none⟩ = some (.int .u32 (kk : Nat)) := (HNum5.out wr hvr.below).2 k _ (u32V_get hkk)
              have hro := HRo.out.rounds wd k
              have hst : DigP.roundsT wd r (k + 1) = DigP.stepR (DigP.roundsT wd r k) kk x := by
                rw [← gk, ← gxd]; rfl
              have HBl := Lib.hid hvr.below
              have HHd := Lib.hid hhd
              have Hvb := Lib.hid hvb
              clear hvr hhd hvb gx gxd hkk gk
              generalize DigP.roundsT wd r k = s at *
              obtain ⟨s0, s1, s2, s3, s4, s5, s6, s7⟩ := s
              obtain ⟨l0, l1, l2, l3, l4, l5, l6, l7⟩ := hro
              simp only at l0 l1 l2 l3 l4 l5 l6 l7
              have c0 : wr.cell? ⟨vb, 0, none⟩ = some (.int .u32 (s0 : Nat)) := HHd.out.2 0 _ rfl
              have c1 : wr.cell? ⟨vb, 1, none⟩ = some (.int .u32 (s1 : Nat)) := HHd.out.2 1 _ rfl
              have c2 : wr.cell? ⟨vb, 2, none⟩ = some (.int .u32 (s2 : Nat)) := HHd.out.2 2 _ rfl
              have c3 : wr.cell? ⟨vb, 3, none⟩ = some (.int .u32 (s3 : Nat)) := HHd.out.2 3 _ rfl
              have c4 : wr.cell? ⟨vb, 4, none⟩ = some (.int .u32 (s4 : Nat)) := HHd.out.2 4 _ rfl
              have c5 : wr.cell? ⟨vb, 5, none⟩ = some (.int .u32 (s5 : Nat)) := HHd.out.2 5 _ rfl
              have c6 : wr.cell? ⟨vb, 6, none⟩ = some (.int .u32 (s6 : Nat)) := HHd.out.2 6 _ rfl
              have c7 : wr.cell? ⟨vb, 7, none⟩ = some (.int .u32 (s7 : Nat)) := HHd.out.2 7 _ rfl
              have H6 := Lib.hid (fun W => refright_any s4 6 l4 (by decide) (by decide) W)
              have H11 := Lib.hid (fun W => refright_any s4 11 l4 (by decide) (by decide) W)
              have H25 := Lib.hid (fun W => refright_any s4 25 l4 (by decide) (by decide) W)
              have H2 := Lib.hid (fun W => refright_any s0 2 l0 (by decide) (by decide) W)
              have H13 := Lib.hid (fun W => refright_any s0 13 l0 (by decide) (by decide) W)
              have H22 := Lib.hid (fun W => refright_any s0 22 l0 (by decide) (by decide) W)
              simp only [show ((6 : Nat) : Int) = 6 from rfl, show ((11 : Nat) : Int) = 11 from rfl, show ((25 : Nat) : Int) = 25 from rfl, show ((2 : Nat) : Int) = 2 from rfl, show ((13 : Nat) : Int) = 13 from rfl, show ((22 : Nat) : Int) = 22 from rfl] at H6 H11 H25 H2 H13 H22
              have e1 : ((s7 : Int) + bits BinOp.xor IntKind.u32 (bits BinOp.xor IntKind.u32 ((DigP.rotr s4 6 : Nat) : Int) ((DigP.rotr s4 11 : Nat) : Int)) ((DigP.rotr s4 25 : Nat) : Int) + bits BinOp.xor IntKind.u32 (bits BinOp.and IntKind.u32 (s4 : Int) (s5 : Int)) (bits BinOp.and IntKind.u32 (bits BinOp.xor IntKind.u32 IntKind.u32.max (s4 : Int)) (s6 : Int)) + (kk : Int) + (x : Int)) % 4294967296 = (DigP.oneT ⟨s0, s1, s2, s3, s4, s5, s6, s7⟩ kk x : Nat) := by
                rw [up1_is s4 l4, pick_is s4 s5 s6 l4 l5 l6]
                simp only [DigP.oneT]
                generalize DigP.up1 s4 = u
                generalize DigP.pick s4 s5 s6 = v
                omega
              have e2 : (bits BinOp.xor IntKind.u32 (bits BinOp.xor IntKind.u32 ((DigP.rotr s0 2 : Nat) : Int) ((DigP.rotr s0 13 : Nat) : Int)) ((DigP.rotr s0 22 : Nat) : Int) + bits BinOp.xor IntKind.u32 (bits BinOp.xor IntKind.u32 (bits BinOp.and IntKind.u32 (s0 : Int) (s1 : Int)) (bits BinOp.and IntKind.u32 (s0 : Int) (s2 : Int))) (bits BinOp.and IntKind.u32 (s1 : Int) (s2 : Int))) % 4294967296 = (DigP.twoT ⟨s0, s1, s2, s3, s4, s5, s6, s7⟩ : Nat) := by
                rw [up0_is s0 l0, most_is s0 s1 s2 l0 l1 l2]
                simp only [DigP.twoT]
                generalize DigP.up0 s0 = u
                generalize DigP.most s0 s1 s2 = v
                omega
              have lo : DigP.oneT ⟨s0, s1, s2, s3, s4, s5, s6, s7⟩ kk x < 4294967296 := Nat.mod_lt _ (by decide)
              have lt : DigP.twoT ⟨s0, s1, s2, s3, s4, s5, s6, s7⟩ < 4294967296 := Nat.mod_lt _ (by decide)
              unfold DigP.stepR at hst
              generalize DigP.oneT ⟨s0, s1, s2, s3, s4, s5, s6, s7⟩ kk x = oo at *
              generalize DigP.twoT ⟨s0, s1, s2, s3, s4, s5, s6, s7⟩ = tt at *
              have e3 : ((oo : Int) + (tt : Int)) % 4294967296 = (((oo + tt) % 4294967296 : Nat) : Int) := by omega
              have e4 : ((s3 : Int) + (oo : Int)) % 4294967296 = (((s3 + oo) % 4294967296 : Nat) : Int) := by omega
              have e3w : IntKind.u32.wrap ((oo : Int) + (tt : Int)) = (((oo + tt) % 4294967296 : Nat) : Int) := by rw [IntKind.wrap_u32]; exact e3
              have e4w : IntKind.u32.wrap ((s3 : Int) + (oo : Int)) = (((s3 + oo) % 4294967296 : Nat) : Int) := by rw [IntKind.wrap_u32]; exact e4
              simp only at hst
              generalize (oo + tt) % 4294967296 = na at *
              generalize (s3 + oo) % 4294967296 = ne at *
              have q1 : decide ((k : Int) < 64) = true := decide_eq_true (by omega)
              have ik : (k : Int) < 64 := by omega
              have HN : Hid (∀ U, Below wq.heap.size wq U → VR wq wd r (k + 1) (.slice (some ⟨U.heap.size, 0, none⟩) 8 8) (U.alloc (.cells #[.int .u32 (na : Nat), .int .u32 (s0 : Nat), .int .u32 (s1 : Nat), .int .u32 (s2 : Nat), .int .u32 (ne : Nat), .int .u32 (s4 : Nat), .int .u32 (s5 : Nat), .int .u32 (s6 : Nat)] 37))) := Lib.hid fun U hU =>
                ⟨hk, ⟨U.heap.size, 8, rfl, Nat.le_refl _, hU.size, by
                  rw [hst]
                  exact (ArrIn.new U (u32V (DigP.Reg.list ⟨na, s0, s1, s2, ne, s4, s5, s6⟩)) 37).head⟩, hU.alloc hU.size _⟩
              clear hst l0 l1 l2 l3 l4 l5 l6 l7 lx lk
              go_wp2_with fail
              go_quiet (fail)
              go_wp2_with fail
              have hl1 : Below wq.heap.size wq (wr.drewN nq) := below_drewNc HBl.out _
              have hd1 : HeadIn (wr.drewN nq) vb (u32V (DigP.Reg.list ⟨s0, s1, s2, s3, s4, s5, s6, s7⟩)) := HHd.out
              have cw1 : (wr.drewN nq).cell? ⟨Wr.heap.size, k, none⟩ = some (.int .u32 (x : Nat)) := cw
              have ck1 : (wr.drewN nq).cell? ⟨kb, k, none⟩ = some (.int .u32 (kk : Nat)) := ck
              clear c0 c1 c2 c3 c4 c5 c6 c7 cw ck
              generalize wr.drewN nq = ua1 at *
              have c0 : ua1.cell? ⟨vb, 0, none⟩ = some (.int .u32 (s0 : Nat)) := hd1.2 0 _ rfl
              have c1 : ua1.cell? ⟨vb, 1, none⟩ = some (.int .u32 (s1 : Nat)) := hd1.2 1 _ rfl
              have c2 : ua1.cell? ⟨vb, 2, none⟩ = some (.int .u32 (s2 : Nat)) := hd1.2 2 _ rfl
              have c3 : ua1.cell? ⟨vb, 3, none⟩ = some (.int .u32 (s3 : Nat)) := hd1.2 3 _ rfl
              have c4 : ua1.cell? ⟨vb, 4, none⟩ = some (.int .u32 (s4 : Nat)) := hd1.2 4 _ rfl
              have c5 : ua1.cell? ⟨vb, 5, none⟩ = some (.int .u32 (s5 : Nat)) := hd1.2 5 _ rfl
              have c6 : ua1.cell? ⟨vb, 6, none⟩ = some (.int .u32 (s6 : Nat)) := hd1.2 6 _ rfl
              have c7 : ua1.cell? ⟨vb, 7, none⟩ = some (.int .u32 (s7 : Nat)) := hd1.2 7 _ rfl
              go_quiet ((go_at_call 18; with_reducible first | exact quiet_quiet (H6.out _) | exact quiet_quiet (H11.out _) | exact quiet_quiet (H25.out _)))
              go_wp2_with fail
              have hl2 : Below wq.heap.size wq (ua1.drewN nq) := below_drewNc hl1 _
              have hd2 : HeadIn (ua1.drewN nq) vb (u32V (DigP.Reg.list ⟨s0, s1, s2, s3, s4, s5, s6, s7⟩)) := hd1
              have cw2 : (ua1.drewN nq).cell? ⟨Wr.heap.size, k, none⟩ = some (.int .u32 (x : Nat)) := cw1
              have ck2 : (ua1.drewN nq).cell? ⟨kb, k, none⟩ = some (.int .u32 (kk : Nat)) := ck1
              clear c0 c1 c2 c3 c4 c5 c6 c7 cw1 ck1 hl1 hd1
              generalize ua1.drewN nq = ua2 at *
              have c0 : ua2.cell? ⟨vb, 0, none⟩ = some (.int .u32 (s0 : Nat)) := hd2.2 0 _ rfl
              have c1 : ua2.cell? ⟨vb, 1, none⟩ = some (.int .u32 (s1 : Nat)) := hd2.2 1 _ rfl
              have c2 : ua2.cell? ⟨vb, 2, none⟩ = some (.int .u32 (s2 : Nat)) := hd2.2 2 _ rfl
              have c3 : ua2.cell? ⟨vb, 3, none⟩ = some (.int .u32 (s3 : Nat)) := hd2.2 3 _ rfl
              have c4 : ua2.cell? ⟨vb, 4, none⟩ = some (.int .u32 (s4 : Nat)) := hd2.2 4 _ rfl
              have c5 : ua2.cell? ⟨vb, 5, none⟩ = some (.int .u32 (s5 : Nat)) := hd2.2 5 _ rfl
              have c6 : ua2.cell? ⟨vb, 6, none⟩ = some (.int .u32 (s6 : Nat)) := hd2.2 6 _ rfl
              have c7 : ua2.cell? ⟨vb, 7, none⟩ = some (.int .u32 (s7 : Nat)) := hd2.2 7 _ rfl
              go_quiet ((go_at_call 18; with_reducible first | exact quiet_quiet (H2.out _) | exact quiet_quiet (H13.out _) | exact quiet_quiet (H22.out _)))
              go_wp2_with fail
              have hl3 : Below wq.heap.size wq (ua2.drewN nq) := below_drewNc hl2 _
              have hd3 : HeadIn (ua2.drewN nq) vb (u32V (DigP.Reg.list ⟨s0, s1, s2, s3, s4, s5, s6, s7⟩)) := hd2
              have cw3 : (ua2.drewN nq).cell? ⟨Wr.heap.size, k, none⟩ = some (.int .u32 (x : Nat)) := cw2
              have ck3 : (ua2.drewN nq).cell? ⟨kb, k, none⟩ = some (.int .u32 (kk : Nat)) := ck2
              clear c0 c1 c2 c3 c4 c5 c6 c7 cw2 ck2 hl2 hd2
              generalize ua2.drewN nq = ua3 at *
              have c0 : ua3.cell? ⟨vb, 0, none⟩ = some (.int .u32 (s0 : Nat)) := hd3.2 0 _ rfl
              have c1 : ua3.cell? ⟨vb, 1, none⟩ = some (.int .u32 (s1 : Nat)) := hd3.2 1 _ rfl
              have c2 : ua3.cell? ⟨vb, 2, none⟩ = some (.int .u32 (s2 : Nat)) := hd3.2 2 _ rfl
              have c3 : ua3.cell? ⟨vb, 3, none⟩ = some (.int .u32 (s3 : Nat)) := hd3.2 3 _ rfl
              have c4 : ua3.cell? ⟨vb, 4, none⟩ = some (.int .u32 (s4 : Nat)) := hd3.2 4 _ rfl
              have c5 : ua3.cell? ⟨vb, 5, none⟩ = some (.int .u32 (s5 : Nat)) := hd3.2 5 _ rfl
              have c6 : ua3.cell? ⟨vb, 6, none⟩ = some (.int .u32 (s6 : Nat)) := hd3.2 6 _ rfl
              have c7 : ua3.cell? ⟨vb, 7, none⟩ = some (.int .u32 (s7 : Nat)) := hd3.2 7 _ rfl
              clear c0 c1 c2 c3 c4 c5 c6 c7 cw3 ck3
              have c0 : ∀ W, HeadIn W vb (u32V (DigP.Reg.list ⟨s0, s1, s2, s3, s4, s5, s6, s7⟩)) → W.cell? ⟨vb, 0, none⟩ = some (.int .u32 (s0 : Nat)) := fun W hW => hW.2 0 _ rfl
              have c1 : ∀ W, HeadIn W vb (u32V (DigP.Reg.list ⟨s0, s1, s2, s3, s4, s5, s6, s7⟩)) → W.cell? ⟨vb, 1, none⟩ = some (.int .u32 (s1 : Nat)) := fun W hW => hW.2 1 _ rfl
              have c2 : ∀ W, HeadIn W vb (u32V (DigP.Reg.list ⟨s0, s1, s2, s3, s4, s5, s6, s7⟩)) → W.cell? ⟨vb, 2, none⟩ = some (.int .u32 (s2 : Nat)) := fun W hW => hW.2 2 _ rfl
              have c3 : ∀ W, HeadIn W vb (u32V (DigP.Reg.list ⟨s0, s1, s2, s3, s4, s5, s6, s7⟩)) → W.cell? ⟨vb, 3, none⟩ = some (.int .u32 (s3 : Nat)) := fun W hW => hW.2 3 _ rfl
              have c4 : ∀ W, HeadIn W vb (u32V (DigP.Reg.list ⟨s0, s1, s2, s3, s4, s5, s6, s7⟩)) → W.cell? ⟨vb, 4, none⟩ = some (.int .u32 (s4 : Nat)) := fun W hW => hW.2 4 _ rfl
              have c5 : ∀ W, HeadIn W vb (u32V (DigP.Reg.list ⟨s0, s1, s2, s3, s4, s5, s6, s7⟩)) → W.cell? ⟨vb, 5, none⟩ = some (.int .u32 (s5 : Nat)) := fun W hW => hW.2 5 _ rfl
              have c6 : ∀ W, HeadIn W vb (u32V (DigP.Reg.list ⟨s0, s1, s2, s3, s4, s5, s6, s7⟩)) → W.cell? ⟨vb, 6, none⟩ = some (.int .u32 (s6 : Nat)) := fun W hW => hW.2 6 _ rfl
              have hdd : HeadIn ua3.drew vb (u32V (DigP.Reg.list ⟨s0, s1, s2, s3, s4, s5, s6, s7⟩)) := hd3
              have hld : Below wq.heap.size wq ua3.drew := hl3.drew
              clear hd3 hl3 H6 H11 H25 H2 H13 H22 e1
              refine wp_region_held_drew (S := fun W => HeadIn W vb (u32V (DigP.Reg.list ⟨s0, s1, s2, s3, s4, s5, s6, s7⟩))) (by kernel_rfl) hdd (fun _ => ?_)
              refine tkH 0 (by simp only [tkA]; rfl) (by kernel_rfl) (by exact fun _ _ _ h => h) (by rfl) (by intro W hW; go_simp <;> with_reducible rfl) hdd ?_
              try simp only [Act.put, tkT, tk0, tkS]
              refine tkH 1 (by simp only [tkA, tkG]; rfl) (by kernel_rfl) (by exact fun _ _ _ h => h) (by rfl) (by intro W hW; go_simp <;> with_reducible rfl) hdd ?_
              try simp only [Act.put, tkT, tk0, tkS]
              refine tkH 2 (by simp only [tkA, tkG]; rfl) (by kernel_rfl) (by exact fun _ _ _ h => h) (by rfl) (by intro W hW; go_simp <;> with_reducible rfl) hdd ?_
              try simp only [Act.put, tkT, tk0, tkS]
              refine tkH 3 (by simp only [tkA, tkG]; rfl) (by kernel_rfl) (by exact fun _ _ _ h => h) (by rfl) (by intro W hW; go_simp <;> with_reducible rfl) hdd ?_
              try simp only [Act.put, tkT, tk0, tkS]
              refine tkH 4 (by simp only [tkA, tkG]; rfl) (by kernel_rfl) (by exact fun _ _ _ h => h) (by rfl) (by intro W hW; go_simp <;> with_reducible rfl) hdd ?_
              try simp only [Act.put, tkT, tk0, tkS]
              refine tkH 5 (by simp only [tkA, tkG]; rfl) (by kernel_rfl) (by exact fun _ _ _ h => h) (by rfl) (by intro W hW; go_simp <;> with_reducible rfl) hdd ?_
              try simp only [Act.put, tkT, tk0, tkS]
              refine tkH 6 (by simp only [tkA, tkG]; rfl) (by kernel_rfl) (by exact fun _ _ _ h => h) (by rfl) (by intro W hW; go_simp <;> with_reducible rfl) hdd ?_
              try simp only [Act.put, tkT, tk0, tkS]
              refine tkH 7 (by simp only [tkA, tkG]; rfl) (by kernel_rfl) (by exact fun _ _ _ h => h) (by rfl) (by intro W hW; go_simp <;> with_reducible rfl) hdd ?_
              try simp only [Act.put, tkT, tk0, tkS]
              refine tkH 8 (by simp only [tkA, tkG]; rfl) (by kernel_rfl) (by exact fun _ _ _ h => h) (by rfl) (by intro W hW; go_simp <;> with_reducible rfl) hdd ?_
              try simp only [Act.put, tkT, tk0, tkS]
              refine tkH 9 (by simp only [tkA, tkG]; rfl) (by kernel_rfl) (by exact fun _ _ _ h => h) (by rfl) (by intro W hW; go_simp <;> with_reducible rfl) hdd ?_
              try simp only [Act.put, tkT, tk0, tkS]
              refine tkH 10 (by simp only [tkA, tkG]; rfl) (by kernel_rfl) (by exact fun _ _ _ h => h) (by rfl) (by intro W hW; go_simp <;> with_reducible rfl) hdd ?_
              try simp only [Act.put, tkT, tk0, tkS]
              refine tkH 11 (by simp only [tkA, tkG]; rfl) (by kernel_rfl) (by exact fun _ _ _ h => h) (by rfl) (by intro W hW; go_simp <;> with_reducible rfl) hdd ?_
              try simp only [Act.put, tkT, tk0, tkS]
              refine tkH 12 (by simp only [tkA, tkG]; rfl) (by kernel_rfl) (by exact fun _ _ _ h => h) (by rfl) (by intro W hW; go_simp <;> with_reducible rfl) hdd ?_
              try simp only [Act.put, tkT, tk0, tkS]
              refine tkH 13 (by simp only [tkA, tkG]; rfl) (by kernel_rfl) (by exact fun _ _ _ h => h) (by rfl) (by intro W hW; go_simp <;> with_reducible rfl) hdd ?_
              try simp only [Act.put, tkT, tk0, tkS]
              refine tkH 14 (by simp only [tkA, tkG]; rfl) (by kernel_rfl) (by exact fun _ _ _ h => h) (by rfl) (by intro W hW; go_simp <;> with_reducible rfl) hdd ?_
              try simp only [Act.put, tkT, tk0, tkS]
              refine tkH 15 (by simp only [tkA, tkG]; rfl) (by kernel_rfl) (by exact fun _ _ _ h => h) (by rfl) (by intro W hW; go_simp <;> with_reducible rfl) hdd ?_
              try simp only [Act.put, tkT, tk0, tkS]
              refine tkH 16 (by simp only [tkA, tkG]; rfl) (by kernel_rfl) (by exact fun _ _ _ h => h) (by rfl) (by intro W hW; go_simp <;> with_reducible rfl) hdd ?_
              try simp only [Act.put, tkT, tk0, tkS]
              refine tkH 17 (by simp only [tkA, tkG]; rfl) (by kernel_rfl) (by exact fun _ _ _ h => h) (by rfl) (by intro W hW; go_simp <;> with_reducible rfl) hdd ?_
              try simp only [Act.put, tkT, tk0, tkS]
              refine tkH 18 (by simp only [tkA, tkG]; rfl) (by kernel_rfl) (by exact fun _ _ _ h => h) (by rfl) (by intro W hW; go_simp <;> with_reducible rfl) hdd ?_
              try simp only [Act.put, tkT, tk0, tkS]
              refine tkH 19 (by simp only [tkA, tkG]; rfl) (by kernel_rfl) (by exact fun _ _ _ h => h) (by rfl) (by intro W hW; go_simp <;> with_reducible rfl) hdd ?_
              try simp only [Act.put, tkT, tk0, tkS]
              refine tkH 20 (by simp only [tkA, tkG]; rfl) (by kernel_rfl) (by exact fun _ _ _ h => h) (by rfl) (by intro W hW; go_simp <;> with_reducible rfl) hdd ?_
              try simp only [Act.put, tkT, tk0, tkS]
              refine tkH 21 (by simp only [tkA, tkG]; rfl) (by kernel_rfl) (by exact fun _ _ _ h => h) (by rfl) (by intro W hW; go_simp <;> with_reducible rfl) hdd ?_
              try simp only [Act.put, tkT, tk0, tkS]
              refine tkH 22 (by simp only [tkA, tkG]; rfl) (by kernel_rfl) (by exact fun _ _ _ h => h) (by rfl) (by intro W hW; go_simp <;> with_reducible rfl) hdd ?_
              try simp only [Act.put, tkT, tk0, tkS]
              refine tkH 23 (by simp only [tkA, tkG]; rfl) (by kernel_rfl) (by exact fun _ _ _ h => h) (by rfl) (by intro W hW; go_simp <;> with_reducible rfl) hdd ?_
              try simp only [Act.put, tkT, tk0, tkS]
              refine tkH 24 (by simp only [tkA, tkG]; rfl) (by kernel_rfl) (by exact fun _ _ _ h => h) (by rfl) (by intro W hW; go_simp <;> with_reducible rfl) hdd ?_
              try simp only [Act.put, tkT, tk0, tkS]
              refine tkH 25 (by simp only [tkA, tkG]; rfl) (by kernel_rfl) (by exact fun _ _ _ h => h) (by rfl) (by intro W hW; go_simp <;> with_reducible rfl) hdd ?_
              try simp only [Act.put, tkT, tk0, tkS]
              generalize ua3.drew = ua4 at *
              have HF6 := Lib.hid (HN.out ua4 hld)
              have hd5 : HeadIn (ua4.alloc (.cells #[.int .u32 (na : Nat), .int .u32 (s0 : Nat), .int .u32 (s1 : Nat), .int .u32 (s2 : Nat), .int .u32 (ne : Nat), .int .u32 (s4 : Nat), .int .u32 (s5 : Nat), .int .u32 (s6 : Nat)] 37)) vb (u32V (DigP.Reg.list ⟨s0, s1, s2, s3, s4, s5, s6, s7⟩)) := hdd.keep ((Below.refl _ _).alloc (Nat.le_refl _) _) hdd.1
              refine clH 26 (by kernel_rfl) (by simp only [tkA, tkG]; rfl) (fun K hK => ?_)
              go_simp
              go_wp2_with fail
              refine hK.out _ _ hd5 (fun _ => ?_)
              clear hK K
              refine tkH 27 (by simp only [tkA, tkG]; rfl) (by kernel_rfl) (by exact fun _ _ _ h => h) (by rfl) (by intro W hW; go_simp <;> with_reducible rfl) hd5 ?_
              try simp only [Act.put, tkT, tk0, tkS]
              refine wpAnyH_done (by kernel_rfl) ?_ _
              go_wp2_with fail
              exact ⟨⟨k + 1, rfl, HF6.out⟩, by simp [intOf]; omega⟩
              -->A6
            --<A7
            as_aux_lemma =>
            have hki : (k : Int) = 64 := by omega
            have hkv : DigP.roundsT wd r k = v := by rw [show k = 64 by omega]; exact HV.out
            rw [hkv] at hhd
            have HHd := Lib.hid hhd
            have hbl := hvr.below
            have HRg : Hid (ArrIn wr hb 37 (u32V r.list)) := Lib.hid (HRegs.out.keep hbl HRegs.out.lt)
            have hvn : vb ≠ hb := by have := HRegs.out.lt; omega
            have Hvn := Lib.hid hvn
            have HBl := Lib.hid hbl
            rw [hki]
            clear hvr hhd hbl hvn hkv hki hk hk64 hvb HRow5 HNum5 HWx HNums HRow
            generalize wr = wt at *
            have HM0 : Hid (ArrIn wt hb 37 (u32V ((DigP.addR r v).list.take 0 ++ r.list.drop 0)) ∧ Apart (fun b => b = hb) wt wt) := Lib.hid ⟨HRg.out, Apart.refl _ _⟩
            go_wp2_with fail
            go_loopw [19] (fun i W => ∃ k, k ≤ 8 ∧ i = .int .i64 (k : Nat) ∧ ArrIn W hb 37 (u32V ((DigP.addR r v).list.take k ++ r.list.drop k)) ∧ Apart (fun b => b = hb) wt W) (fun i _ => (9 - intOf i).toNat)
            case atStart => exact ⟨0, by omega, rfl, HM0.out⟩
            case round =>
              clear HM0
              obtain ⟨k, hk, rfl, ht, hap⟩ := hrel
              by_cases hlt : k < 8
              case pos =>
                obtain ⟨x, gx⟩ : ∃ x, v.list[k]? = some x := ⟨_, List.getElem?_eq_getElem (by rw [reg_len]; exact hlt)⟩
                obtain ⟨a, ga⟩ : ∃ a, r.list[k]? = some a := ⟨_, List.getElem?_eq_getElem (by rw [reg_len]; exact hlt)⟩
                have hcv : wr.cell? ⟨vb, k, none⟩ = some (.int .u32 (x : Nat)) := (HHd.out.apart hap Hvn.out).2 k _ (u32V_get gx)
                have hch : wr.cell? ⟨hb, k, none⟩ = some (.int .u32 (a : Nat)) := ht.cell (u32V_get (mix_at ga rfl))
                have hfh := ht.free k
                have q2 : ((a : Int) + (x : Int)) % 4294967296 = (((a + x) % 4294967296 : Nat) : Int) := by omega
                have ik : (k : Int) < 8 := by omega
                have q1 : decide ((k : Int) < 8) = true := decide_eq_true ik
                have HN7 : Hid (ArrIn (wr.setCell ⟨hb, k, none⟩ (.int .u32 (((a + x) % 4294967296 : Nat) : Int))) hb 37 (u32V ((DigP.addR r v).list.take (k + 1) ++ r.list.drop (k + 1))) ∧ Apart (fun b => b = hb) wt (wr.setCell ⟨hb, k, none⟩ (.int .u32 (((a + x) % 4294967296 : Nat) : Int)))) := Lib.hid (by
                  have h1 := ht.set k (.int .u32 (((a + x) % 4294967296 : Nat) : Int))
                  rw [u32V_set, take_set (R := r.list) (addR_at ga gx) rfl] at h1
                  exact ⟨h1, hap.setCell (p := ⟨hb, k, none⟩) (.inl rfl) _⟩)
                generalize (a + x) % 4294967296 = y at *
                clear ht hap gx ga
                go_wp2_with fail
                go_region
                go_wp2_with fail
                exact ⟨⟨k + 1, by omega, rfl, HN7.out.1, HN7.out.2.drew⟩, by simp [intOf]; omega⟩
              have hk8 : k = 8 := by omega
              have hki : (k : Int) = 8 := by omega
              have he : (DigP.addR r v).list.take k ++ r.list.drop k = (DigP.addR r v).list := by rw [hk8]; rfl
              rw [he, ← HBn.out] at ht
              have HNj : Hid (BlkR W1 hb P (.int .i64 (64 * ((j : Int) + 1))) wr) := Lib.hid ⟨j + 1, by have := Hj64.out; rw [HM.out]; omega, rfl, ht, by
                have hl := Hlt.out
                have h1 : Apart (fun b => b = hb) W1 Wr := HAp.out
                have h2 : Below Wr.heap.size Wr wq := HBw.out
                have h3 : Below wq.heap.size wq wt := HBl.out
                have h4 : Below Wr.heap.size Wr wt := h2.trans (h3.mono h2.size)
                exact (h1.trans (Apart.of_below' (F := fun _ => False) h4) (fun _ h => h.elim)).trans hap (fun _ e => .inl e)⟩
              have ej : IntKind.i64.wrap (64 * (j : Int) + 64) = 64 * ((j : Int) + 1) := by rw [IntWalk.i64_in _ (by have := Hj64.out; have := HMb.out; omega)]; omega
              rw [hki]
              clear ht hap hk8 hki he hk hlt HBn
              have hjm : 64 * j + 64 ≤ M := Hj64.out
              go_wp2_with fail
              exact ⟨HNj.out, by simp [intOf]; omega⟩
            -->A7
          -->A5
end Go.Proofs.Ytpabgkmjhcmonaa
