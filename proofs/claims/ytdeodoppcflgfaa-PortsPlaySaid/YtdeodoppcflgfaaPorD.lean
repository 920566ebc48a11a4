/- Contracts of take and tell: the eldest message; a port's messages behind others. Conditions: where the ports and the messages lie, tables that are allowed. -/
import Derived.Test.YtdeodoppcflgfaaPorC
namespace Go.Proofs.Ytdeodoppcflgfaa
open Go.RowKit PorP
set_option maxRecDepth 100000

def tookB (p : TableP.Port) (age : Nat) : Bool := if p.kind = 1 then decide ((age : Int) ≤ p.fresh) else true
def tookS (p : TableP.Port) (st : St) (i age : Nat) (r : List (List UInt8)) : St := if p.kind = 1 then st else st.set i ⟨r, age⟩
structure TakeQ (w : World) (B : Nat) (c : TableP.Cfg) (x : PC) (i : Nat) (p : TableP.Port) (age : Nat) (d : List UInt8) (r : List (List UInt8)) (v : Value) (w' : World) : Prop where
  own : w'.ownsRow B 5 1 v d.length (bytesV d)
  new : p.kind = 1 → (∀ q, v.ownBlock = some q → w.heap.size ≤ q) ∧ Below w.heap.size w w'
  left : ∃ es', PIn w' B c { x with es := es' } ∧ Goes x.g w w' x.es es' ∧ elSt es' = tookS p (elSt x.es) i age r
def TakeP (w : World) (B : Nat) (c : TableP.Cfg) (x : PC) (i : Nat) (p : TableP.Port) (age : Nat) (d : List UInt8) (r : List (List UInt8)) (e : Ending) (w' : World) : Prop :=
  ∃ A cap, e = .returned (.tuple #[.slice A d.length cap, .bool (tookB p age)]) ∧ TakeQ w B c x i p age d r (.slice A d.length cap) w'
def BoxS13 (g o : Nat) (p : TableP.Port) (N : Int) (tv v : Value) (age : Nat) (W : World) : Prop := BoxAt W g o p N tv v age
theorem txt_at {l : List Txt} {k : Nat} {t : Txt} (h : l[k]? = some t) : (itemsV txtVals l)[k]? = some t.1 := by
  have := itemsV_at (size := 1) txtVals_len l k t h 0 (by omega)
  simpa [txtVals] using this

set_option maxHeartbeats 4000000 in
theorem bxtake_any (w : World) (B : Nat) (c : TableP.Cfg) (x : PC) (h : PIn w B c x) (hB : B ≤ w.heap.size) (i : Nat) (p : TableP.Port) (hp : c.ports[i]? = some p) (e : El) (he : x.es[i]? = some e) (t : Txt) (r : List Txt) (hm : e.msgs = t :: r) :
    Calls Try.prog 47 #[bxv x.g (i * 10)] w (TakeP w B c x i p e.age t.2 (r.map Prod.snd)) := by
  have hem := List.mem_of_getElem? he
  obtain ⟨tv, hpre, hbx, -⟩ := h.box he hp
  have hown := h.els.own rfl e hem
  have hrow : w.ownsRow B 5 1 t.1 t.2.length (bytesV t.2) := (h.els.each e hem).rows t (by rw [hm]; simp)
  have hok := h.els.ok e hem
  obtain ⟨At, ct, ht, -⟩ := own_slice hrow
  have hlen : e.msgs.length = r.length + 1 := by rw [hm]; rfl
  rw [hlen] at hown
  obtain ⟨g', c1, hv, -, -⟩ := hown.form (by omega)
  have k0 : w.cell? ⟨g', 0, none⟩ = some (.slice At t.2.length ct) := by
    rw [hv] at hown
    have h1 := hown.cellAt 0 (by omega)
    rw [txt_at (show e.msgs[0]? = some t by rw [hm]; rfl), ht] at h1
    exact h1
  have b1 := hbx.c1
  have b8 := hbx.c8
  rw [hv] at b8
  have hrl : r.length ≤ 3 := by have := hok.1; omega
  have ht16 : t.2.length ≤ 16 := hok.2.1 t (by rw [hm]; simp)
  unfold bxv
  rw [ht] at hrow
  by_cases hk : p.kind = 1
  case pos =>
    have hq : tookB p e.age = decide ((e.age : Int) ≤ p.fresh) := if_pos hk
    have q1 : (((p.kind : Nat) : Int) == 1) = true := by rw [hk]; rfl
    obtain ⟨A0, cap0, hs, -, -, hby, -⟩ := own_bytes hrow
    injection hs with hs1 hs2 hs3
    subst hs1 hs3
    have HC := Lib.hid (bclone_any At t.2.length ct t.2 rfl (by omega) w.drew hby)
    have HF : Hid (∀ A cap w', w'.ownsRow w.heap.size 5 1 (.slice A t.2.length cap) t.2.length (bytesV t.2) → Below w.heap.size w w' → TakeP w B c x i p e.age t.2 (r.map Prod.snd) (.returned (.tuple #[.slice A t.2.length cap, .bool (decide ((e.age : Int) ≤ p.fresh))])) w') := Lib.hid fun A cap w' h1 h2 => by
      refine ⟨A, cap, by rw [hq], low_own h1 hB, fun _ => ⟨fun q hq => (h1.lt q hq).1, h2⟩, x.es, h.below h2, Goes.of_below h2 _ _, ?_⟩
      unfold tookS
      rw [if_pos hk]
    have hd0 : BoxS13 x.g (i * 10) p (nodeOf c p) tv e.v e.age w.drew := hbx.below h.els.lt (Below.refl _ _).drew
    have hlt := h.els.lt
    generalize nodeOf c p = N at *
    generalize e.v = ev at *
    generalize e.age = age at *
    have d5 : ∀ W, BoxS13 x.g (i * 10) p N tv ev age W → W.cell? ⟨x.g, i * 10 + 5, none⟩ = some (.int .i64 p.fresh) := fun W hW => hW.c5
    have d9 : ∀ W, BoxS13 x.g (i * 10) p N tv ev age W → W.cell? ⟨x.g, i * 10 + 9, none⟩ = some (.int .i64 (age : Nat)) := fun W hW => hW.c9
    generalize p.kind = K at *
    clear h he hem hpre hbx hown hrow hok ht hlen hv hq hby hk hp hm
    go_enter Try.func47, Try.ntmps47
    go_wp2_with fail
    clear b1 b8 k0 q1
    refine wp_region_held_drew (S := fun W => BoxS13 x.g (i * 10) p N tv ev age W) (by kernel_rfl) hd0 (fun _ => ?_)
    refine tkH 0 (by simp only [tkA]; rfl) (by kernel_rfl) (by exact fun _ _ _ h => h) (by rfl) (by intro W hW; go_simp <;> with_reducible rfl) hd0 ?_
    try simp only [Act.put, tkT, tk0, tkS]
    refine tkH 2 (by simp only [tkA, tkG]; rfl) (by kernel_rfl) (by exact fun _ _ _ h => h) (by rfl) (by intro W hW; go_simp <;> with_reducible rfl) hd0 ?_
    try simp only [Act.put, tkT, tk0, tkS]
    refine tkH 3 (by simp only [tkA, tkG]; rfl) (by kernel_rfl) (by exact fun _ _ _ h => h) (by rfl) (by intro W hW; go_simp <;> with_reducible rfl) hd0 ?_
    try simp only [Act.put, tkT, tk0, tkS]
    refine tkH 4 (by simp only [tkA, tkG]; rfl) (by kernel_rfl) (by exact fun _ _ _ h => h) (by rfl) (by intro W hW; go_simp <;> with_reducible rfl) hd0 ?_
    try simp only [Act.put, tkT, tk0, tkS]
    refine tkH 5 (by simp only [tkA, tkG]; rfl) (by kernel_rfl) (by exact fun _ _ _ h => h) (by rfl) (by intro W hW; go_simp <;> with_reducible rfl) hd0 ?_
    try simp only [Act.put, tkT, tk0, tkS]
    refine tkH 6 (by simp only [tkA, tkG]; rfl) (by kernel_rfl) (by exact fun _ _ _ h => h) (by rfl) (by intro W hW; go_simp <;> with_reducible rfl) hd0 ?_
    try simp only [Act.put, tkT, tk0, tkS]
    refine tkH 7 (by simp only [tkA, tkG]; rfl) (by kernel_rfl) (by exact fun _ _ _ h => h) (by rfl) (by intro W hW; go_simp <;> with_reducible rfl) hd0 ?_
    try simp only [Act.put, tkT, tk0, tkS]
    refine tkH 8 (by simp only [tkA, tkG]; rfl) (by kernel_rfl) (by exact fun _ _ _ h => h) (by rfl) (by intro W hW; go_simp <;> with_reducible rfl) hd0 ?_
    try simp only [Act.put, tkT, tk0, tkS]
    refine tkH 9 (by simp only [tkA, tkG]; rfl) (by kernel_rfl) (by exact fun _ _ _ h => h) (by rfl) (by intro W hW; go_simp <;> with_reducible rfl) hd0 ?_
    try simp only [Act.put, tkT, tk0, tkS]
    refine tkH 10 (by simp only [tkA, tkG]; rfl) (by kernel_rfl) (by exact fun _ _ _ h => h) (by rfl) (by intro W hW; go_simp <;> with_reducible rfl) hd0 ?_
    try simp only [Act.put, tkT, tk0, tkS]
    refine tkH 11 (by simp only [tkA, tkG]; rfl) (by kernel_rfl) (by exact fun _ _ _ h => h) (by rfl) (by intro W hW; go_simp <;> with_reducible rfl) hd0 ?_
    try simp only [Act.put, tkT, tk0, tkS]
    refine clH 1 (by kernel_rfl) (by simp only [tkA, tkG]; rfl) (fun K hK => ?_)
    go_simp
    refine HC.out.mono ?_
    rintro e6 w6 ⟨A6, c6, rfl, ho6, hb6⟩
    have HR := Lib.hid (HF.out A6 c6 w6 ho6 ((Below.refl w.heap.size w).drew.trans hb6))
    have hd6 : BoxS13 x.g (i * 10) p N tv ev age w6 := BoxAt.below hd0 hlt hb6
    clear ho6 hb6 hd0 HC HF
    go_wp2_with fail
    refine hK.out _ _ hd6 (fun _ => ?_)
    clear hK K
    refine tkH 12 (by simp only [tkA, tkG]; rfl) (by kernel_rfl) (by exact fun _ _ _ h => h) (by rfl) (by intro W hW; go_simp <;> with_reducible rfl) hd6 ?_
    try simp only [Act.put, tkT, tk0, tkS]
    refine tkH 13 (by simp only [tkA, tkG]; rfl) (by kernel_rfl) (by exact fun _ _ _ h => h) (by rfl) (by intro W hW; go_simp <;> with_reducible rfl) hd6 ?_
    try simp only [Act.put, tkT, tk0, tkS]
    refine wpAnyH_done (by kernel_rfl) ?_ _
    clear hd6 d5 d9
    go_wp2_with fail
    go_ret2
    exact HR.out
  case neg =>
    have hq : tookB p e.age = true := if_neg hk
    have q1 : (((p.kind : Nat) : Int) == 1) = false := by rw [beq_eq_false_iff_ne]; omega
    have hone : ∀ u ∈ itemsV txtVals e.msgs, u.oneCell' = true := fun u hu => by
      simp only [itemsV, List.mem_flatMap, txtVals, List.mem_singleton] at hu
      obtain ⟨y, hy, rfl⟩ := hu
      obtain ⟨A, cap, e1, -⟩ := own_slice ((h.els.each e hem).rows y hy)
      have e2 : y.1 = .slice A y.2.length cap := e1
      rw [e2]; rfl
    rw [hv] at hown
    have hdrop : (itemsV txtVals e.msgs).drop 1 = itemsV txtVals r := by rw [hm]; rfl
    have HD := Lib.hid (fun W (hW : W = w) => hW ▸ del_any w B g' r.length c1 _ hown hone)
    have HF : Hid (∀ w', w'.ownsRow B 44 1 (.slice (some ⟨g', 0, none⟩) r.length c1) r.length ((itemsV txtVals e.msgs).drop 1) → Apart (fun k => k = g') w w' → TakeP w B c x i p e.age t.2 (r.map Prod.snd) (.returned (.tuple #[.slice At t.2.length ct, .bool true])) (w'.setCell ⟨x.g, i * 10 + 8, none⟩ (.slice (some ⟨g', 0, none⟩) r.length c1))) := Lib.hid fun w' h1 h2 => by
      rw [hdrop] at h1
      have h3 : Apart (fun q => e.v.ownBlock = some q) w w' := h2.mono fun k _ e1 => by rw [hv, e1]; rfl
      have hrr : ∀ y ∈ r, w'.ownsRow B 5 1 (id y).1 (id y).2.length (bytesV (id y).2) := fun y hy => own_apart ((h.els.each e hem).rows y (by rw [hm]; exact List.mem_cons_of_mem _ hy)) h3 (fun q hq => LIn.bytes_off ((h.els.each e hem).rows y (by rw [hm]; exact List.mem_cons_of_mem _ hy)) (h.els.each e hem).seg (by decide) hq)
      have h4 := h.els.setV (by decide) (by decide) he (v := .slice (some ⟨g', 0, none⟩) r.length c1) (l := r) h3 ⟨Seg.of_own h1, hrr⟩ (fun _ => h1) (fun q hq => .inl (by rw [hv]; exact hq)) (fun y hy => .inl (by rw [hm]; exact List.mem_cons_of_mem _ hy)) ⟨by omega, fun y hy => hok.2.1 y (by rw [hm]; exact List.mem_cons_of_mem _ hy)⟩
      have h5 := h.set he h4 rfl
      have hrow' := own_apart hrow h3 (fun q hq => by
        have := LIn.bytes_off (dat := id) (vals := txtVals) (size := 1) (l := e.msgs) (x := t) (by rw [show (id t).1 = .slice At t.2.length ct from ht]; exact hrow) (h.els.each e hem).seg (by decide) (q := q) (by rw [show (id t).1 = .slice At t.2.length ct from ht]; exact hq)
        exact this)
      have hgT : w'.heap[x.g]? = some (.cells (itemsV elVals x.es).toArray 83 (0, 0)) := (h3.block x.g h.els.lt (fun e1 => (h.els.each e hem).seg.off h.els.row (by decide) x.g e1 rfl)).trans h.els.row
      have hrow2 := own_apart hrow' ((Apart.refl (fun q => q = x.g) w').setCell (p := ⟨x.g, i * 10 + 8, none⟩) (.inl rfl) (.slice (some ⟨g', 0, none⟩) r.length c1)) (fun q hq => own_off hrow' hgT (by decide) q hq)
      refine ⟨At, ct, by rw [hq], hrow2, fun e1 => absurd e1 hk, _, h5, h4.2, ?_⟩
      unfold tookS
      rw [if_neg hk, elSt_set]; rfl
    have HK : Hid (∀ w', Apart (fun k => k = g') w w' → w'.cell? ⟨x.g, i * 10 + 8, none⟩ = some (.slice (some ⟨g', 0, none⟩) ((r.length + 1 : Nat)) c1) ∧ w'.frozen? ⟨x.g, i * 10 + 8, none⟩ = false) := Lib.hid fun w' h2 => by
      have h3 : Apart (fun q => e.v.ownBlock = some q) w w' := h2.mono fun k _ e1 => by rw [hv, e1]; rfl
      have hgT : w'.heap[x.g]? = some (.cells (itemsV elVals x.es).toArray 83 (0, 0)) := (h3.block x.g h.els.lt (fun e1 => (h.els.each e hem).seg.off h.els.row (by decide) x.g e1 rfl)).trans h.els.row
      refine ⟨?_, free_at hgT _⟩
      have := rowV hgT h.els.pres he
      rw [hv] at this
      exact this
    generalize p.kind = K at *
    generalize t.2.length = tl at *
    generalize r.length = m at *
    clear h he hem hpre hbx hown hrow hok ht hlen hv hq hk hp hm hone hdrop
    go_enter Try.func47, Try.ntmps47
    go_wp2_with fail
    refine (HD.out _ rfl).mono ?_
    rintro e6 w6 ⟨rfl, h1, h2⟩
    have HR := Lib.hid (HF.out w6 h1 h2)
    obtain ⟨k8, f8⟩ := HK.out w6 h2
    clear h1 h2 HF HD HK b1 b8 k0
    go_wp2_with fail
    go_ret2
    exact HR.out
end Go.Proofs.Ytdeodoppcflgfaa
