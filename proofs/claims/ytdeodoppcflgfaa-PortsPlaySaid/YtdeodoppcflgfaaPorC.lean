/- Contract of put: a message to a port. Conditions: where the ports and the bytes lie, tables that are allowed. -/
import Derived.Test.YtdeodoppcflgfaaPorB
namespace Go.Proofs.Ytdeodoppcflgfaa
open Go.RowKit PorP
set_option maxRecDepth 100000

/-- What a put answers and leaves. -/
def PutP (w : World) (B : Nat) (c : TableP.Cfg) (x : PC) (r : Nat × St) (e : Ending) (w' : World) : Prop :=
  e = .returned (.bool (decide (r.1 = 1))) ∧ ∃ es', PIn w' B c { x with es := es' } ∧ Goes x.g w w' x.es es' ∧ elSt es' = r.2
theorem elSt_get {es : List El} {i : Nat} {e : El} (h : es[i]? = some e) : (elSt es)[i]? = some e.ps := by unfold elSt; rw [List.getElem?_map, h]; rfl
theorem elSt_set (es : List El) (i : Nat) (e : El) : elSt (es.set i e) = (elSt es).set i e.ps := by unfold elSt; rw [List.map_set]
def PRow (g : Nat) (es : List El) (W : World) : Prop := W.heap[g]? = some (.cells (itemsV elVals es).toArray 83 (0, 0))
theorem rowV {g i : Nat} {es : List El} {W : World} {e : El} (hW : PRow g es W) (hp : ∀ e ∈ es, e.pre.length = 8) (hi : es[i]? = some e) : W.cell? ⟨g, i * 10 + 8, none⟩ = some e.v := by
  refine cell_at hW _ ?_
  rw [List.getElem?_toArray, items_at' es (size := 10) (fun y hy => by simp [elVals, hp y hy]) i e hi 8 (by omega)]
  have := hp e (List.mem_of_getElem? hi)
  rw [elVals, List.getElem?_append_right (by omega), this]; rfl
def bxv (g o : Nat) : Value := .pointer (some ⟨g, o, none⟩)
theorem putOne_at {c : TableP.Cfg} {st : St} {i : Nat} {p : TableP.Port} {s : PS} (hp : c.ports[i]? = some p) (hs : st[i]? = some s) (l : List UInt8) : putOne c l st (i : Int) = if room p s = true then (1, st.set i (putT p s l)) else (0, st) := by
  unfold putOne
  rw [Int.toNat_natCast, hp, hs]
theorem low_own {w : World} {B B' e size n : Nat} {v : Value} {xs : List Value} (h : w.ownsRow B e size v n xs) (hb : B' ≤ B) : w.ownsRow B' e size v n xs :=
  ⟨h.1, h.2.imp id fun ⟨g, cap, cur, h1, h2, h3⟩ => ⟨g, cap, cur, h1, Nat.le_trans hb h2, h3⟩⟩
/-- Ready for the append. -/
structure PutR (w : World) (B : Nat) (c : TableP.Cfg) (x : PC) (r : Nat × St) (i : Nat) (A : Option Addr) (l : List UInt8) (W2 : World) (E2 : List El) (A1 : Option Addr) (m c1 : Nat) (ms : List Value) : Prop where
  pin : PIn W2 B c { x with es := E2 }
  own : W2.ownsRow B 44 1 (.slice A1 m c1) m ms
  low : m ≤ 3
  cell : ∀ W, PRow x.g E2 W → W.cell? ⟨x.g, i * 10 + 8, none⟩ = some (.slice A1 m c1)
  fin : ∀ ve v' w2, w2.ownsRow B 5 1 ve l.length (bytesV l) → Apart (fun k => (Value.slice A1 m c1).ownBlock = some k) W2 w2 → w2.ownsRow B 44 1 v' (m + 1) (ms ++ [ve]) → Moved W2 (Value.slice A1 m c1).ownBlock v'.ownBlock → (∀ q, ve.ownBlock = some q → W2.heap.size ≤ q) →
    PutP w B c x r (.returned (.bool true)) (w2.setCell ⟨x.g, i * 10 + 8, none⟩ v')
  base : B ≤ W2.heap.size
  bytes : Bytes W2 W2.heap.size A l
theorem PutR.of {w W2 : World} {B i : Nat} {c : TableP.Cfg} {x : PC} {A : Option Addr} {l : List UInt8} {E2 : List El} {e2 : El} {p : TableP.Port} {s : PS} (h : PIn W2 B c { x with es := E2 }) (hg : Goes x.g w W2 x.es E2) (hi : E2[i]? = some e2) (h3 : e2.msgs.length ≤ 3) (hl : l.length ≤ 16) (hB : B ≤ W2.heap.size) (hby : Bytes W2 W2.heap.size A l)
    (hst : (elSt E2).set i ⟨e2.ps.msgs ++ [l], e2.age⟩ = (elSt x.es).set i (putT p s l)) : ∃ A1 m c1 ms, PutR w B c x (1, (elSt x.es).set i (putT p s l)) i A l W2 E2 A1 m c1 ms := by
  have hem := List.mem_of_getElem? hi
  have hown := h.els.own rfl e2 hem
  obtain ⟨A1, c1, hv, -⟩ := own_slice hown
  refine ⟨A1, e2.msgs.length, c1, itemsV txtVals e2.msgs, h, by rw [← hv]; exact hown, h3, fun W hW => by rw [← hv]; exact rowV hW h.els.pres hi, fun ve v' w2 q1 q2 q3 q4 q5 => ?_, hB, hby⟩
  rw [← hv] at q2 q4
  have hm := h.els.more (by decide) (by decide) hi (v := v') (ve := ve) (l := l) q2 q1 (Seg.of_own q3) (fun _ => q3) q4 q5 h3 hl
  have h4 := h.set hi hm rfl
  refine ⟨rfl, _, h4, hg.trans hm.2, ?_⟩
  rw [elSt_set, ← hst]
  simp [El.ps]

set_option maxHeartbeats 4000000 in
theorem bxput_any (w : World) (B : Nat) (c : TableP.Cfg) (x : PC) (h : PIn w B c x) (hB : B ≤ w.heap.size) (i : Nat) (p : TableP.Port) (hp : c.ports[i]? = some p) (hok : TableP.portOk c.parts.length p) (A : Option Addr) (n cap : Nat) (l : List UInt8) (hl : l.length = n) (hn : n ≤ 16) (hby : Bytes w w.heap.size A l)
    (hoff : 0 < l.length → ∀ k, blockOf A = some k → ¬ EF x.g x.es k) :
    Calls Try.prog 45 #[bxv x.g (i * 10), .slice A n cap] w (PutP w B c x (putOne c l (elSt x.es) (i : Int))) := by
  obtain ⟨e, he⟩ := h.el hp
  rw [putOne_at hp (elSt_get he)]
  have hem := List.mem_of_getElem? he
  obtain ⟨tv, hpre, hbx, -⟩ := h.box he hp
  have b1 := hbx.c1
  have b4 := hbx.c4
  have b8 := hbx.c8
  have b9 := hbx.c9
  have fr := fun o => h.els.free o
  have h4 := h.els.ok e hem
  unfold bxv
  by_cases hk : p.kind = 1
  case pos =>
    have hr : room p e.ps = true := by unfold room; rw [hk]; rfl
    rw [if_pos hr]
    rw [hk] at b1
    have hs1 := h.els.setNil (by decide) (by decide) he
    have h1 := h.set he hs1 rfl
    have he1 : (x.es.set i ⟨e.pre, .slice none 0 0, [], e.age⟩)[i]? = some ⟨e.pre, .slice none 0 0, [], e.age⟩ := List.getElem?_set_self (List.getElem?_eq_some_iff.1 he).1
    have hs2 := h1.els.setAge (by decide) (by decide) he1 0 (by omega)
    have h2 := h1.set he1 hs2 rfl
    have hg2 := hs1.2.trans hs2.2
    simp only [List.set_set] at h2 hg2
    have he2 : (x.es.set i ⟨e.pre, .slice none 0 0, [], 0⟩)[i]? = some ⟨e.pre, .slice none 0 0, [], 0⟩ := List.getElem?_set_self (List.getElem?_eq_some_iff.1 he).1
    have hRR : ∃ W2, W2 = (w.setCell ⟨x.g, i * 10 + 8, none⟩ (.slice none 0 0)).setCell ⟨x.g, i * 10 + 9, none⟩ (.int .i64 0) ∧ ∃ E2 A1 m c1 ms, PutR w B c x (1, (elSt x.es).set i (putT p e.ps l)) i A l W2 E2 A1 m c1 ms := by
      refine ⟨_, rfl, _, PutR.of h2 hg2 he2 (by simp) (by omega) (Nat.le_trans hB hg2.apart.size) ?_ ?_⟩
      · exact (hby.apart0 hg2.apart (Nat.le_refl _) hoff).more hg2.apart.size
      · rw [elSt_set, List.set_set]
        unfold putT
        rw [if_pos hk]; rfl
    obtain ⟨W2, hW2, E2, A1, m, c1, ms, hR⟩ := hRR
    generalize (1, (elSt x.es).set i (putT p e.ps l)) = R at *
    have HW2 := Lib.hid hW2
    obtain ⟨v0, hv0⟩ : ∃ v0, v0 = e.v := ⟨_, rfl⟩
    rw [← hv0] at b8
    have HR0 := Lib.hid hR
    have Hl := Lib.hid hl
    clear hs1 hs2 h1 he1 h2 hg2 he2 hW2 hv0 hby hoff hr hk hpre hbx h he hem h4 hp hok hR hl
    go_enter Try.func45, Try.ntmps45
    go_wp2_with fail
    rw [← HW2.out]
    clear b1 b4 b8 b9 fr HW2 hB
    obtain ⟨hpin, hown, h3, kd, hfin, hB, hby⟩ := HR0.out
    have hd0 : PRow x.g E2 W2.drew := hpin.els.row
    have HI := Lib.hid hpin
    have HO := Lib.hid hown
    have Hkd := Lib.hid kd
    have HFin := Lib.hid hfin
    have HB := Lib.hid hB
    have HC := Lib.hid (bclone_any A n cap l Hl.out (by omega) W2.drew hby)
    clear hpin hown hfin hB hby HR0
    refine wp_region_L_drew (st := 11) (S := fun W => PRow x.g E2 W) (by kernel_rfl) hd0 (fun _ => ?_)
    refine tkL 0 (by simp only [tkA]; rfl) (by kernel_rfl) (by exact fun _ _ _ h => h) (by rfl) (by intro W hW; go_simp <;> with_reducible rfl) hd0 ?_
    try simp only [Act.put, tkT, tk0, tkS]
    refine tkL 1 (by simp only [tkA, tkG]; rfl) (by kernel_rfl) (by exact fun _ _ _ h => h) (by rfl) (by intro W hW; go_simp <;> with_reducible rfl) hd0 ?_
    try simp only [Act.put, tkT, tk0, tkS]
    refine tkL 2 (by simp only [tkA, tkG]; rfl) (by kernel_rfl) (by exact fun _ _ _ h => h) (by rfl) (by intro W hW; go_simp <;> with_reducible rfl) hd0 ?_
    try simp only [Act.put, tkT, tk0, tkS]
    refine tkL 3 (by simp only [tkA, tkG]; rfl) (by kernel_rfl) (by exact fun _ _ _ h => h) (by rfl) (by intro W hW; go_simp <;> with_reducible rfl) hd0 ?_
    try simp only [Act.put, tkT, tk0, tkS]
    refine tkL 4 (by simp only [tkA, tkG]; rfl) (by kernel_rfl) (by exact fun _ _ _ h => h) (by rfl) (by intro W hW; go_simp <;> with_reducible rfl) hd0 ?_
    try simp only [Act.put, tkT, tk0, tkS]
    refine tkL 5 (by simp only [tkA, tkG]; rfl) (by kernel_rfl) (by exact fun _ _ _ h => h) (by rfl) (by intro W hW; go_simp <;> with_reducible rfl) hd0 ?_
    try simp only [Act.put, tkT, tk0, tkS]
    refine wpAnyL_one (k := 6) (by kernel_rfl) (by simp only [tkA, tkG]; rfl) (fun K hK => ?_)
    go_simp
    refine HC.out.mono ?_
    rintro e w6 ⟨Ae, ce, rfl, he, hb6⟩
    have hb06 : Below W2.heap.size W2 w6 := (Below.refl W2.heap.size W2).drew.trans hb6
    have hI6 := HI.out.below hb06
    have hd6 : PRow x.g E2 w6 := hI6.els.row
    have hown6 : w6.ownsRow B 44 1 (.slice A1 m c1) m ms := own_apart HO.out (Apart.of_below' (F := fun _ => False) hb06) (fun _ _ h => h)
    have hda : PRow x.g E2 (w6.alloc (.cells #[.slice Ae l.length ce] 44)) := (hI6.below ((Below.refl _ _).alloc (Nat.le_refl _) _)).els.row
    have hB6 : B ≤ w6.heap.size := Nat.le_trans HB.out hb06.size
    have Ha6 := Lib.hid (Apart.of_below' (F := fun k => (Value.slice A1 m c1).ownBlock = some k) hb06)
    have Hn6 : Hid (∀ q, (Value.slice Ae l.length ce).ownBlock = some q → W2.heap.size ≤ q) := Lib.hid fun q hq => (he.lt q hq).1
    have He6 := Lib.hid (low_own he HB.out)
    have Ho6 := Lib.hid hown6
    have Hs6 := Lib.hid hb06.size
    have hl16 : l.length ≤ 16 := by have := Hl.out; omega
    clear he hb6 hI6 hd0 HC HI hown6 kd hb06
    go_wp2_with fail
    refine hK.out _ _ (fun _ => hd6) ?_
    clear hK K
    refine wpAnyL_one (k := 7) (by kernel_rfl) (by simp only [tkA, tkG]; rfl) (fun K hK => ?_)
    go_simp
    go_wp2_with fail
    refine hK.out _ _ (fun _ => hda) ?_
    clear hK K
    refine wpAnyL_one (k := 8) (by kernel_rfl) (by simp only [tkA, tkG]; rfl) (fun K hK => ?_)
    refine step_append_m rfl (.tmp 32) (.tmp 35) _ rfl B 44 _ 1 24 Try.underlying59 infoBs9 rfl (by omega) _ m ms rfl (Ho6.out.alloc _) (some ⟨w6.heap.size, 0, none⟩) 1 1 [.slice Ae l.length ce] rfl rfl (fun _ => ⟨_, rfl, fun j u hj => ?c11⟩) (fun u hu => ?c21) (by unfold maxLen; omega) (by omega) (by simp; omega) ?_
    case c11 =>
      have hj0 : j = 0 := by have := (List.getElem?_eq_some_iff.1 hj).1; simp at this; omega
      subst hj0
      simp only [List.getElem?_cons_zero, Option.some.injEq] at hj
      subst hj
      exact cell_at (heap_alloc_new w6 _) 0 rfl
    case c21 =>
      simp only [List.mem_singleton] at hu
      subst hu
      rfl
    intro v8 w8 ho8 ha8 hb8
    have ha80 : Apart (fun k => (Value.slice A1 m c1).ownBlock = some k) w6 w8 := ((Apart.refl _ w6).alloc _).trans ha8 (fun _ e => .inl e)
    have ha81 := Ha6.out.trans ha80 (fun _ e => .inl e)
    have he8 := own_apart He6.out ha80 (fun k hk => own_tag6 He6.out Ho6.out (by decide) k hk)
    have hd8 : PRow x.g E2 w8 := (ha80.block x.g (lt_of_block hd6) (fun e => own_off Ho6.out hd6 (by decide) x.g e rfl)).trans hd6
    have hmv : Moved W2 (Value.slice A1 m c1).ownBlock v8.ownBlock := hb8.imp id fun e => ⟨_, e, by have := Hs6.out; simp; omega⟩
    obtain ⟨g8, c8, rfl, -, -⟩ := ho8.form (by omega)
    have HR := Lib.hid (HFin.out _ _ w8 he8 ha81 ho8 hmv Hn6.out)
    have f8 := free_at hd8 (i * 10 + 8)
    have k8 : w8.cell? ⟨x.g, i * 10 + 8, none⟩ = some (.slice A1 m c1) := Hkd.out w8 hd8
    clear ho8 ha8 hb8 ha80 ha81 he8 HFin He6 Ho6 Ha6 hmv Hn6 Hs6
    go_wp2_with fail
    refine hK.out _ _ (fun _ => hd8) ?_
    clear hK K
    refine tkL 9 (by simp only [tkA, tkG]; rfl) (by kernel_rfl) (by exact fun _ _ _ h => h) (by rfl) (by intro W hW; go_simp <;> with_reducible rfl) hd8 ?_
    try simp only [Act.put, tkT, tk0, tkS]
    refine tkL 10 (by simp only [tkA, tkG]; rfl) (by kernel_rfl) (by exact fun _ _ _ h => h) (by rfl) (by intro W hW; go_simp <;> with_reducible rfl) hd8 ?_
    try simp only [Act.put, tkT, tk0, tkS]
    refine wpAnyL_last (k := 11) (by kernel_rfl) (by simp only [tkA, tkG]; rfl) (fun K hK => ?_)
    go_simp
    go_wp2_with fail
    refine hK.out _ _ ?_
    clear hK K
    refine wpAnyL_done (by kernel_rfl) ?_ _
    clear hd8 hda hd6
    go_wp2_with fail
    go_ret
    exact HR.out
  case neg =>
    have hk2 : p.kind = 2 ∧ TableP.up p.depth 1 4 := by
      rcases hok.2.2 with ⟨h1, -⟩ | ⟨h1, h2, -⟩
      · exact absurd h1 hk
      · exact ⟨h1, h2⟩
    obtain ⟨hk2, hdep⟩ := hk2
    unfold TableP.up at hdep
    rw [hk2] at b1
    have hown0 := h.els.own rfl e hem
    obtain ⟨A0, c0, hv, -⟩ := own_slice hown0
    rw [hv] at b8
    by_cases hd : (e.msgs.length : Int) < p.depth
    case neg =>
      have hr : room p e.ps = false := by
        unfold room
        rw [hk2, decide_eq_false (by simpa [El.ps] using hd)]; rfl
      rw [hr, if_neg (by decide)]
      have q1 : decide (p.depth ≤ (e.msgs.length : Int)) = true := decide_eq_true (by omega)
      have HF : Hid (∀ W', Below w.heap.size w W' → PutP w B c x (0, elSt x.es) (.returned (.bool false)) W') := Lib.hid fun W' hb => ⟨rfl, x.es, h.below hb, Goes.of_below hb _ _, rfl⟩
      generalize e.msgs.length = m at *
      generalize p.depth = D at *
      clear hby hoff hr hk hpre hbx h he hem h4 hp hok hl hd hdep hown0 hk2 hv
      go_enter Try.func45, Try.ntmps45
      go_wp2_with fail
      go_quiet (fail)
      go_wp2_with fail
      go_ret
      exact HF.out _ (by repeat' (first | exact Below.refl _ _ | refine below_drewNc ?_ _))
    have hr : room p e.ps = true := by
      unfold room
      rw [decide_eq_true (by simpa [El.ps] using hd)]; simp
    rw [if_pos hr]
    have q1 : decide (p.depth ≤ (e.msgs.length : Int)) = false := decide_eq_false (by omega)
    have HRR : Hid (∀ W2, Below w.heap.size w W2 → ∃ E2 A1 m c1 ms, PutR w B c x (1, (elSt x.es).set i (putT p e.ps l)) i A l W2 E2 A1 m c1 ms) := Lib.hid fun W2 hb => by
      refine ⟨x.es, PutR.of (h.below hb) (Goes.of_below hb _ _) he (by omega) (by omega) (Nat.le_trans hB hb.size) ((hby.below hb (Nat.le_refl _)).more hb.size) ?_⟩
      unfold putT
      rw [if_neg hk]; rfl
    generalize (1, (elSt x.es).set i (putT p e.ps l)) = R at *
    generalize e.msgs.length = m0 at *
    generalize p.depth = D at *
    have Hl := Lib.hid hl
    clear hby hoff hr hk hpre hbx h he hem h4 hp hok hl hd hdep hown0 hk2 hv hB
    go_enter Try.func45, Try.ntmps45
    go_wp2_with fail
    go_quiet (fail)
    go_wp2_with fail
    obtain ⟨W2, hW2⟩ : ∃ W2, W2 = w.drewN nq := ⟨_, rfl⟩
    rw [← hW2]
    obtain ⟨E2, A1, m, c1, ms, hR⟩ := HRR.out W2 (by rw [hW2]; exact below_drewNc (Below.refl _ _) _)
    have HR0 := Lib.hid hR
    clear b1 b4 b8 b9 fr HRR q1 hW2 hR
    obtain ⟨hpin, hown, h3, kd, hfin, hB, hby⟩ := HR0.out
    have hd0 : PRow x.g E2 W2.drew := hpin.els.row
    have HI := Lib.hid hpin
    have HO := Lib.hid hown
    have Hkd := Lib.hid kd
    have HFin := Lib.hid hfin
    have HB := Lib.hid hB
    have HC := Lib.hid (bclone_any A n cap l Hl.out (by omega) W2.drew hby)
    clear hpin hown hfin hB hby HR0
    refine wp_region_L_drew (st := 11) (S := fun W => PRow x.g E2 W) (by kernel_rfl) hd0 (fun _ => ?_)
    refine tkL 0 (by simp only [tkA]; rfl) (by kernel_rfl) (by exact fun _ _ _ h => h) (by rfl) (by intro W hW; go_simp <;> with_reducible rfl) hd0 ?_
    try simp only [Act.put, tkT, tk0, tkS]
    refine tkL 1 (by simp only [tkA, tkG]; rfl) (by kernel_rfl) (by exact fun _ _ _ h => h) (by rfl) (by intro W hW; go_simp <;> with_reducible rfl) hd0 ?_
    try simp only [Act.put, tkT, tk0, tkS]
    refine tkL 2 (by simp only [tkA, tkG]; rfl) (by kernel_rfl) (by exact fun _ _ _ h => h) (by rfl) (by intro W hW; go_simp <;> with_reducible rfl) hd0 ?_
    try simp only [Act.put, tkT, tk0, tkS]
    refine tkL 3 (by simp only [tkA, tkG]; rfl) (by kernel_rfl) (by exact fun _ _ _ h => h) (by rfl) (by intro W hW; go_simp <;> with_reducible rfl) hd0 ?_
    try simp only [Act.put, tkT, tk0, tkS]
    refine tkL 4 (by simp only [tkA, tkG]; rfl) (by kernel_rfl) (by exact fun _ _ _ h => h) (by rfl) (by intro W hW; go_simp <;> with_reducible rfl) hd0 ?_
    try simp only [Act.put, tkT, tk0, tkS]
    refine tkL 5 (by simp only [tkA, tkG]; rfl) (by kernel_rfl) (by exact fun _ _ _ h => h) (by rfl) (by intro W hW; go_simp <;> with_reducible rfl) hd0 ?_
    try simp only [Act.put, tkT, tk0, tkS]
    refine wpAnyL_one (k := 6) (by kernel_rfl) (by simp only [tkA, tkG]; rfl) (fun K hK => ?_)
    go_simp
    refine HC.out.mono ?_
    rintro e w6 ⟨Ae, ce, rfl, he, hb6⟩
    have hb06 : Below W2.heap.size W2 w6 := (Below.refl W2.heap.size W2).drew.trans hb6
    have hI6 := HI.out.below hb06
    have hd6 : PRow x.g E2 w6 := hI6.els.row
    have hown6 : w6.ownsRow B 44 1 (.slice A1 m c1) m ms := own_apart HO.out (Apart.of_below' (F := fun _ => False) hb06) (fun _ _ h => h)
    have hda : PRow x.g E2 (w6.alloc (.cells #[.slice Ae l.length ce] 44)) := (hI6.below ((Below.refl _ _).alloc (Nat.le_refl _) _)).els.row
    have hB6 : B ≤ w6.heap.size := Nat.le_trans HB.out hb06.size
    have Ha6 := Lib.hid (Apart.of_below' (F := fun k => (Value.slice A1 m c1).ownBlock = some k) hb06)
    have Hn6 : Hid (∀ q, (Value.slice Ae l.length ce).ownBlock = some q → W2.heap.size ≤ q) := Lib.hid fun q hq => (he.lt q hq).1
    have He6 := Lib.hid (low_own he HB.out)
    have Ho6 := Lib.hid hown6
    have Hs6 := Lib.hid hb06.size
    have hl16 : l.length ≤ 16 := by have := Hl.out; omega
    clear he hb6 hI6 hd0 HC HI hown6 kd hb06
    go_wp2_with fail
    refine hK.out _ _ (fun _ => hd6) ?_
    clear hK K
    refine wpAnyL_one (k := 7) (by kernel_rfl) (by simp only [tkA, tkG]; rfl) (fun K hK => ?_)
    go_simp
    go_wp2_with fail
    refine hK.out _ _ (fun _ => hda) ?_
    clear hK K
    refine wpAnyL_one (k := 8) (by kernel_rfl) (by simp only [tkA, tkG]; rfl) (fun K hK => ?_)
    refine step_append_m rfl (.tmp 32) (.tmp 35) _ rfl B 44 _ 1 24 Try.underlying59 infoBs9 rfl (by omega) _ m ms rfl (Ho6.out.alloc _) (some ⟨w6.heap.size, 0, none⟩) 1 1 [.slice Ae l.length ce] rfl rfl (fun _ => ⟨_, rfl, fun j u hj => ?c12⟩) (fun u hu => ?c22) (by unfold maxLen; omega) (by omega) (by simp; omega) ?_
    case c12 =>
      have hj0 : j = 0 := by have := (List.getElem?_eq_some_iff.1 hj).1; simp at this; omega
      subst hj0
      simp only [List.getElem?_cons_zero, Option.some.injEq] at hj
      subst hj
      exact cell_at (heap_alloc_new w6 _) 0 rfl
    case c22 =>
      simp only [List.mem_singleton] at hu
      subst hu
      rfl
    intro v8 w8 ho8 ha8 hb8
    have ha80 : Apart (fun k => (Value.slice A1 m c1).ownBlock = some k) w6 w8 := ((Apart.refl _ w6).alloc _).trans ha8 (fun _ e => .inl e)
    have ha81 := Ha6.out.trans ha80 (fun _ e => .inl e)
    have he8 := own_apart He6.out ha80 (fun k hk => own_tag6 He6.out Ho6.out (by decide) k hk)
    have hd8 : PRow x.g E2 w8 := (ha80.block x.g (lt_of_block hd6) (fun e => own_off Ho6.out hd6 (by decide) x.g e rfl)).trans hd6
    have hmv : Moved W2 (Value.slice A1 m c1).ownBlock v8.ownBlock := hb8.imp id fun e => ⟨_, e, by have := Hs6.out; simp; omega⟩
    obtain ⟨g8, c8, rfl, -, -⟩ := ho8.form (by omega)
    have HR := Lib.hid (HFin.out _ _ w8 he8 ha81 ho8 hmv Hn6.out)
    have f8 := free_at hd8 (i * 10 + 8)
    have k8 : w8.cell? ⟨x.g, i * 10 + 8, none⟩ = some (.slice A1 m c1) := Hkd.out w8 hd8
    clear ho8 ha8 hb8 ha80 ha81 he8 HFin He6 Ho6 Ha6 hmv Hn6 Hs6
    go_wp2_with fail
    refine hK.out _ _ (fun _ => hd8) ?_
    clear hK K
    refine tkL 9 (by simp only [tkA, tkG]; rfl) (by kernel_rfl) (by exact fun _ _ _ h => h) (by rfl) (by intro W hW; go_simp <;> with_reducible rfl) hd8 ?_
    try simp only [Act.put, tkT, tk0, tkS]
    refine tkL 10 (by simp only [tkA, tkG]; rfl) (by kernel_rfl) (by exact fun _ _ _ h => h) (by rfl) (by intro W hW; go_simp <;> with_reducible rfl) hd8 ?_
    try simp only [Act.put, tkT, tk0, tkS]
    refine wpAnyL_last (k := 11) (by kernel_rfl) (by simp only [tkA, tkG]; rfl) (fun K hK => ?_)
    go_simp
    go_wp2_with fail
    refine hK.out _ _ ?_
    clear hK K
    refine wpAnyL_done (by kernel_rfl) ?_ _
    clear hd8 hda hd6
    go_wp2_with fail
    go_ret
    exact HR.out
end Go.Proofs.Ytdeodoppcflgfaa
