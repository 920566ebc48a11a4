/- From a law's walk to its row: a call that answers true and turns nothing that was there. Conditions: none beyond those that each states. · What an argument of bytes is in memory. Conditions: those of the reading of the argument. · What an argument that is a slice of elements of so many cells each is in memory. Over whatever program. Conditions: those of the reading of the argument. · The program's own knob: none. -/
import Derived.Test.YtpabgkmjhcmonaaRows
import Derived.Below
import Derived.Carry
import Derived.ChangeSame
import Derived.ChangeVars
import Derived.ChangeOld
import Derived.JoinedOf
import Derived.RowKit
import Derived.RowKitTokens
import Derived.Deep.Slices
import Derived.Test.YtpabgkmjhcmonaaMem
import Derived.ChangeSlices
import Derived.OpenShut
import Derived.SizedLaws
import Derived.Test.YtpabgkmjhcmonaaChecked
import Derived.KernelRfl
namespace Go.Proofs.Ytpabgkmjhcmonaa
open Go.ChangeShapes Go.WideShapes Go.RowKit

theorem rowLaidOut : laidOutB Try.prog = true := by kernel_rfl

theorem trodAll_below {H : Type} {enc : TypeId × Value → H} {P : Program} (hl : laidOutB P = true) {W W' : World} (hb : Below W.heap.size W W') :
    ∀ {ts : List TypeId} {vs : List Value} {ds : List (DataW H)} {ps : List MemPlace}, (∀ t ∈ ts, P.readableRec t = true ∧ t < P.types.size) → DataW.TrodAll enc P W 0 (fun _ => true) true ts vs ds ps → (∀ x ∈ ps, x.block < W.heap.size) →
      DataW.TrodAll enc P W' 0 (fun b => decide (b < W.heap.size)) true ts vs ds ps
  | [], [], [], _, _, h, _ => h
  | t :: _, _ :: _, _ :: _, _, hr, ⟨p, q, h1, h2, he⟩, hlt => by
    subst he
    exact ⟨p, q, h1.elim fun f hf => Below.trod hl (hr t (by simp)).1 (hr t (by simp)).2 ⟨f, hf⟩ hb (fun x hx => hlt x (List.mem_append_left _ hx)), trodAll_below hl hb (fun t' ht' => hr t' (by simp [ht'])) h2 (fun x hx => hlt x (List.mem_append_right _ hx)), rfl⟩
  | [], [], _ :: _, _, _, h, _ => absurd h (by simp [DataW.TrodAll])
  | [], _ :: _, _, _, _, h, _ => absurd h (by simp [DataW.TrodAll])
  | _ :: _, [], _, _, _, h, _ => absurd h (by simp [DataW.TrodAll])
  | _ :: _, _ :: _, [], _, _, h, _ => absurd h (by simp [DataW.TrodAll])

theorem law_post {H : Type} {enc : TypeId × Value → H} {P : Program} {f : Func} {s : ChangeSpec} {apart fresh handsOn : Bool} {W W' : World} {args : Array Value} {ds gs : List (DataW H)} {before : List MemPlace} {tb : TypeId}
    (hl : laidOutB P = true) (hr : ∀ t ∈ f.params.toList, P.readableRec t = true ∧ t < P.types.size) (htb : P.underlying tb = some .bool) (hrt : f.resultTypes = #[tb]) (hv : s.vars = [])
    (hfn : s.fn H (ds ++ gs) = { results := [.lit (.bool true)], args := ds })
    (hW : DataW.Whole enc P f.params.toList s.vars apart W args.toList ds gs before) (hb : Below W.heap.size W W') :
    s.post enc P f apart fresh handsOn false W args (.bool true) W' := by
  have hlt := hW.lt
  obtain ⟨p, q, hA, hV, he, h1, h2⟩ := hW
  rw [hv] at hV
  obtain ⟨hgs, hq⟩ := trodVars_none hV
  subst hgs
  subst hq
  refine ⟨ds, [], before, [], p, [], ⟨p, [], hA, by rw [hv]; rfl, he, h1, h2⟩, ?_, ?_, ?_, hb.frame _, fun h => by cases h⟩
  · rw [hrt, hfn]
    exact trodAll_mk1 (shut_bool htb true)
  · rw [hfn]
    exact trodAll_below hl hb hr hA (fun x hx => hlt x (by rw [he]; exact List.mem_append_left _ hx))
  · rw [hv, hfn]
    rfl
end Go.Proofs.Ytpabgkmjhcmonaa
namespace Go.Proofs.Ytpabgkmjhcmonaa
open Go.ChangeShapes Go.WideShapes Go.RowKit Go.Deep
set_option maxRecDepth 100000

theorem cells_u8 : Try.prog.cellsOf 5 = 1 := by kernel_rfl

/-- An argument of bytes: how it reads. -/
def BytesArg (W : World) (v : Value) : Prop := ∃ A l n cap, v = .slice A n cap ∧ l.length = n ∧ n ≤ cap ∧ cap ≤ 9223372036854775807 ∧ Bytes W W.heap.size A l

theorem BytesArg.below {W W' : World} {v : Value} (h : BytesArg W v) (hb : Below W.heap.size W W') : BytesArg W' v := by
  obtain ⟨A, l, n, cap, h1, h2, h3, h4, h5⟩ := h
  exact ⟨A, l, n, cap, h1, h2, h3, h4, (h5.below hb (Nat.le_refl _)).more hb.size⟩

theorem bytes_open {H : Type} {enc : TypeId × Value → H} {w : World} {v : Value} {d : DataW H} {p : List MemPlace} {r : Reach} {b0 : Nat}
    (hv : Value.okWide Try.prog w r b0 22 v) (h : DataW.Trod enc Try.prog w 0 (fun _ => true) true 22 v d p) : BytesArg w v := by
  obtain ⟨a0, len, cap, rfl⟩ := okWide_slice Try.underlying22 hv
  obtain ⟨fuel, hf⟩ := h
  rcases open_ints Try.underlying22 Try.underlying5 cells_u8 hf with ⟨hcs, hx⟩ | ⟨a, len', cap', zs, hcs, hb, hl, hm, hz, hx, hc, hw⟩
  · simp [Value.cells] at hcs
    obtain ⟨rfl, rfl, rfl⟩ := hcs
    exact ⟨none, [], 0, 0, rfl, rfl, by omega, by omega, Bytes.none_⟩
  · simp [Value.cells] at hcs
    obtain ⟨rfl, rfl, rfl⟩ := hcs
    simp only [if_true] at hz
    refine ⟨some a, (zs.take len).map (fun z => UInt8.ofNat z.toNat), len, cap, rfl, by simp; omega, hl, by unfold maxLen at hm; omega, fun hn => ?_⟩
    have hn' : 0 < len := by simpa [hz, Nat.min_eq_left hl] using hn
    obtain ⟨b, off, spot⟩ := a
    have h0 := hc 0 (by omega)
    have hspot : spot = none := by simpa [Addr.add] using World.cell?_spot h0
    subst hspot
    refine ⟨b, off, rfl, by simpa [Addr.add] using World.block_lt_of_cell? w _ h0, fun i c hi => ?_⟩
    have hil : i < len := by
      have := (List.getElem?_eq_some_iff.1 hi).1
      simp at this
      omega
    have hci := hc i (by omega)
    rw [addr_addB] at hci
    rw [hci]
    rw [List.getElem?_map, List.getElem?_take_of_lt hil, List.getElem?_eq_getElem (by omega)] at hi
    simp at hi
    have hzi : zs.getD i 0 = zs[i] := by simp [List.getD, List.getElem?_eq_getElem (show i < zs.length by omega)]
    have hwf := hw zs[i] (List.getElem_mem _)
    have hr : 0 ≤ zs[i] ∧ zs[i] < 256 := by
      have := hwf
      simp [Lit.wf, IntKind.min, IntKind.max, IntKind.signed, IntKind.bits] at this
      omega
    rw [hzi, ← hi]
    congr 2
    simp
    omega

theorem bytes_u8 : Try.prog.bytesOf 5 = 1 := by kernel_rfl

/-- A slice of bytes anywhere in what is read: how it reads, and the form's own reach. -/
theorem bytes_trod {H : Type} {enc : TypeId × Value → H} {w : World} {fuel : Nat} {v : Value} {x : DataW H × List MemPlace}
    (h : DataW.trod enc Try.prog w 0 (fun _ => true) true fuel 22 [v] = some x) (hw : ∀ k ∈ x.1.weights Try.prog 22, k ≤ reachBytes) :
    ∃ A l n cap, v = .slice A n cap ∧ l.length = n ∧ n ≤ cap ∧ cap ≤ 140737488351232 ∧ Bytes w w.heap.size A l := by
  rcases open_ints Try.underlying22 Try.underlying5 cells_u8 h with ⟨hcs, hx⟩ | ⟨a, len, cap, zs, hcs, hb, hl, hm, hz, hx, hc, hwf⟩
  · injection hcs with hcs
    exact ⟨none, [], 0, 0, hcs, rfl, by omega, by omega, Bytes.none_⟩
  · injection hcs with hcs
    simp only [if_true] at hz
    have hcap : cap ≤ 140737488351232 := by
      have := hw ((zs.take len).length * 1 + (zs.drop len).length * 1) (by
        rw [hx]
        simp only [DataW.weights, Try.underlying22, List.mem_cons]
        refine .inl ?_
        rw [bytes_u8]
        simp [lits])
      simp [reachBytes] at this
      omega
    refine ⟨some a, (zs.take len).map (fun z => UInt8.ofNat z.toNat), len, cap, hcs, by simp; omega, hl, hcap, fun hn => ?_⟩
    have hn' : 0 < len := by simpa [hz, Nat.min_eq_left hl] using hn
    obtain ⟨b, off, spot⟩ := a
    have h0 := hc 0 (by omega)
    have hspot : spot = none := by simpa [Addr.add] using World.cell?_spot h0
    subst hspot
    refine ⟨b, off, rfl, by simpa [Addr.add] using World.block_lt_of_cell? w _ h0, fun i c hi => ?_⟩
    have hil : i < len := by
      have := (List.getElem?_eq_some_iff.1 hi).1
      simp at this
      omega
    have hci := hc i (by omega)
    rw [addr_addB] at hci
    rw [hci]
    rw [List.getElem?_map, List.getElem?_take_of_lt hil, List.getElem?_eq_getElem (by omega)] at hi
    simp at hi
    have hzi : zs.getD i 0 = zs[i] := by simp [List.getD, List.getElem?_eq_getElem (show i < zs.length by omega)]
    have hwf := hwf zs[i] (List.getElem_mem _)
    have hr : 0 ≤ zs[i] ∧ zs[i] < 256 := by
      have := hwf
      simp [Lit.wf, IntKind.min, IntKind.max, IntKind.signed, IntKind.bits] at this
      omega
    rw [hzi, ← hi]
    congr 2
    simp
    omega

theorem weights_mem_all {H : Type} {P : Program} {e : TypeId} : ∀ {ds : List (DataW H)} {d : DataW H}, d ∈ ds → ∀ n ∈ d.weights P e, n ∈ DataW.weightsAll P e ds
  | x :: ds, d, h, n, hn => by
    simp only [DataW.weightsAll, List.mem_append]
    rcases List.mem_cons.1 h with rfl | h
    · exact .inl hn
    · exact .inr (weights_mem_all h n hn)
  | [], _, h, _, _ => absurd h (by simp)
end Go.Proofs.Ytpabgkmjhcmonaa
namespace Go.Proofs.Ytpabgkmjhcmonaa
open Go.ChangeShapes Go.WideShapes Go.RowKit Go.Deep
set_option maxRecDepth 100000

section
variable {P : Program} {H : Type} {enc : TypeId × Value → H} {w : World}
theorem items_list {α : Type} (z : α) (n : Nat) (R : Nat → α → Prop) (h : ∀ i, i < n → ∃ y, R i y) : ∃ l : List α, l.length = n ∧ ∀ i x, l[i]? = some x → R i x := by
  have h2 : ∀ i, ∃ y, i < n → R i y := fun i => by
    by_cases hi : i < n
    · obtain ⟨y, hy⟩ := h i hi
      exact ⟨y, fun _ => hy⟩
    · exact ⟨z, fun h' => absurd h' hi⟩
  obtain ⟨f, hf⟩ := Classical.axiomOfChoice h2
  refine ⟨(List.range n).map f, by simp, fun i x hx => ?_⟩
  rw [List.getElem?_map] at hx
  by_cases hi : i < n
  · rw [List.getElem?_range hi] at hx
    simp at hx
    subst hx
    exact hf i hi
  · rw [List.getElem?_eq_none (by simpa using hi)] at hx
    cases hx
/-- How a slice reads, if its elements read so. -/
theorem items_trod {α : Type} (vals : α → List Value) (size bytes : Nat) (z : α) {t e : TypeId} (ht : P.underlying t = some (.slice e)) (hc : P.cellsOf e = size) (hby : P.bytesOf e = bytes) (hv0 : ∀ y, ∃ u, (vals y)[0]? = some u)
    (hat : ∀ (n : Nat) (a : Addr) (cs : List Value) (x : DataW H × List MemPlace), w.cells? 0 a size = some cs → DataW.trod enc P w 0 (fun _ => true) true n e cs = some x → ∃ y : α, ∀ j u, (vals y)[j]? = some u → w.cell? (a.add j) = some u)
    {fuel : Nat} {c : Value} {x : DataW H × List MemPlace} (h : DataW.trod enc P w 0 (fun _ => true) true fuel t [c] = some x) (hw : ∀ k ∈ x.1.weights P t, k ≤ reachBytes) :
    ∃ A l n cap, c = .slice A n cap ∧ l.length = n ∧ n ≤ cap ∧ n * bytes ≤ 140737488355328 ∧ ItemsIn vals size w A l := by
  rcases open_slice ht h with ⟨hcs, hx⟩ | ⟨a, len, cap, m, n, D, Pl, hcs, hb, hl, hm, hmm, hx, hi⟩
  · injection hcs with hcs
    exact ⟨none, [], 0, 0, hcs, rfl, Nat.le_refl _, by omega, fun h => absurd h (by simp)⟩
  · injection hcs with hcs
    simp only [if_true] at hmm
    obtain rfl : cap = m := hmm.symm
    rw [hc] at hi
    have hd : ∃ r, x.1 = .slice ((List.range len).map D) r := ⟨_, by rw [hx]⟩
    obtain ⟨r, hd⟩ := hd
    have hlen : len * bytes ≤ 140737488355328 := by
      have := hw (((List.range len).map D).length * bytes + r.length * bytes) (by
        rw [hd]
        simp only [DataW.weights, ht, List.mem_cons]
        refine .inl ?_
        rw [hby, Nat.add_mul])
      rw [List.length_map, List.length_range] at this
      simp only [reachBytes] at this
      omega
    have hat2 : ∀ i, i < len → ∃ y : α, ∀ j u, (vals y)[j]? = some u → w.cell? ((a.add (i * size)).add j) = some u := fun i hil => by
      obtain ⟨cs', h1, h2⟩ := hi i (by omega)
      exact hat _ _ _ _ h1 h2
    obtain ⟨l, hll, hl2⟩ := items_list z len _ hat2
    refine ⟨some a, l, len, cap, hcs, hll, hl, hlen, fun hn => ?_⟩
    obtain ⟨b, off, spot⟩ := a
    have hpos : 0 < len := by omega
    obtain ⟨y0, hy0⟩ := hat2 0 hpos
    obtain ⟨u0, hu0⟩ := hv0 y0
    have c0 := hy0 0 _ hu0
    have hspot : spot = none := by simpa [Addr.add] using World.cell?_spot c0
    subst hspot
    refine ⟨b, off, rfl, by simpa [Addr.add] using World.block_lt_of_cell? w _ c0, fun i y hy j u hu => ?_⟩
    have h1 := hl2 i y hy j u hu
    simp only [addr_addB] at h1
    exact h1
/-- The same of an argument. -/
theorem items_open {α : Type} (vals : α → List Value) (size bytes : Nat) (z : α) {t e : TypeId} (ht : P.underlying t = some (.slice e)) (hc : P.cellsOf e = size) (hby : P.bytesOf e = bytes) (hv0 : ∀ y, ∃ u, (vals y)[0]? = some u)
    (hat : ∀ (n : Nat) (a : Addr) (cs : List Value) (x : DataW H × List MemPlace), w.cells? 0 a size = some cs → DataW.trod enc P w 0 (fun _ => true) true n e cs = some x → ∃ y : α, ∀ j u, (vals y)[j]? = some u → w.cell? (a.add j) = some u)
    {v : Value} {d : DataW H} {p : List MemPlace} {r : Reach} {b0 : Nat} (hv : Value.okWide P w r b0 t v) (h : DataW.Trod enc P w 0 (fun _ => true) true t v d p) (hw : ∀ k ∈ d.weights P t, k ≤ reachBytes) :
    ∃ A l n cap, v = .slice A n cap ∧ l.length = n ∧ n ≤ cap ∧ n * bytes ≤ 140737488355328 ∧ ItemsIn vals size w A l := by
  obtain ⟨a0, len, cap, rfl⟩ := okWide_slice ht hv
  obtain ⟨fuel, hf⟩ := h
  have hf' : DataW.trod enc P w 0 (fun _ => true) true fuel t [.slice a0 len cap] = some (d, p) := hf
  exact items_trod vals size bytes z ht hc hby hv0 hat hf' hw
end
end Go.Proofs.Ytpabgkmjhcmonaa
namespace Go.Proofs.Ytpabgkmjhcmonaa
theorem own : ownKnob Try.prog.godebug = none := by kernel_rfl
end Go.Proofs.Ytpabgkmjhcmonaa
namespace Go.Proofs.Ytpabgkmjhcmonaa
open Go.RowKit
theorem items_val {α : Type} {Q : α → Prop} (vals : α → List Value) (size : Nat) {W : World} {A : Option Addr} {l : List {x : α // Q x}} (h : ItemsIn (fun y : {x : α // Q x} => vals y.1) size W A l) : ItemsIn vals size W A (l.map Subtype.val) ∧ ∀ x ∈ l.map Subtype.val, Q x := by
  refine ⟨fun h0 => ?_, fun x hx => ?_⟩
  · obtain ⟨b, off, e, hb, hc⟩ := h (by rw [List.length_map] at h0; exact h0)
    refine ⟨b, off, e, hb, fun i x hx j u hu => ?_⟩
    rw [List.getElem?_map] at hx
    obtain ⟨y, hy, rfl⟩ := Option.map_eq_some_iff.1 hx
    exact hc i y hy j u hu
  · obtain ⟨y, -, rfl⟩ := List.mem_map.1 hx
    exact y.2
end Go.Proofs.Ytpabgkmjhcmonaa
