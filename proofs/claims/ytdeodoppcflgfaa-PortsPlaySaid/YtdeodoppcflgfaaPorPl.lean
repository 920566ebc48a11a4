/- A node's ports, the program's and the document's, side by side (Play). Conditions: where they and the tables lie, tables that are allowed. -/
import Derived.Test.YtdeodoppcflgfaaPorRh
namespace Go.Proofs.Ytdeodoppcflgfaa
open Go.RowKit PorP
set_option maxRecDepth 100000

/-- Nothing but boxes and lists of ports is written, of either. -/
def TouchP (B : Nat) (W W' : World) : Prop := ∃ F, Apart F W W' ∧ ∀ k, F k → B ≤ k ∧ ∃ cs t, W.heap[k]? = some (.cells cs t (0, 0)) ∧ (t = 83 ∨ t = 44 ∨ t = 101)
section
variable {W W' : World} {B B0 : Nat}
theorem TouchP.of_below (h : Below W.heap.size W W') : TouchP B W W' := ⟨fun _ => False, Apart.of_below' h, fun _ h => h.elim⟩
theorem TouchP.off (h : TouchP B W W') {k : Nat} {cs : Array Value} {t : TypeId} {f : Nat × Nat} (hk : W.heap[k]? = some (.cells cs t f)) (h1 : t ≠ 83) (h2 : t ≠ 44) (h3 : t ≠ 101) : W'.heap[k]? = some (.cells cs t f) := by
  obtain ⟨F, ha, hF⟩ := h
  refine (ha.block k (Array.getElem?_eq_some_iff.1 hk).1 (fun hf => ?_)).trans hk
  obtain ⟨-, cs', t', e1, e2⟩ := hF k hf
  rw [hk] at e1
  simp only [Option.some.injEq, Obj.cells.injEq] at e1
  obtain ⟨-, rfl, -⟩ := e1
  rcases e2 with e2 | e2 | e2
  · exact h1 e2
  · exact h2 e2
  · exact h3 e2
theorem TouchP.own (h : TouchP B0 W W') {B e size n : Nat} {v : Value} {xs : List Value} (ho : W.ownsRow B e size v n xs) (h1 : e ≠ 83) (h2 : e ≠ 44) (h3 : e ≠ 101) : W'.ownsRow B e size v n xs := by
  obtain ⟨F, ha, hF⟩ := h
  refine own_apart ho ha fun k hk hf => ?_
  obtain ⟨-, cs', t', e1, e2⟩ := hF k hf
  have := own_off ho e1 (fun e => by
    subst e
    rcases e2 with e2 | e2 | e2
    · exact h1 e2
    · exact h2 e2
    · exact h3 e2) k hk
  exact this rfl
theorem TouchP.out (h : TouchP B0 W W') {B : Nat} {v : Value} {ys : List MsgC} (ho : OutM W B v ys) : OutM W' B v ys := ⟨h.own ho.row (by decide) (by decide) (by decide), fun y hy => ⟨h.own (ho.each y hy).row (by decide) (by decide) (by decide), (ho.each y hy).most, (ho.each y hy).ports⟩⟩
theorem TouchP.size (h : TouchP B W W') : W.heap.size ≤ W'.heap.size := by
  obtain ⟨F, ha, -⟩ := h
  exact ha.size
theorem TouchP.below (h : TouchP B W W') (hB : B ≤ W.heap.size) : Below B W W' := by
  obtain ⟨F, ha, hF⟩ := h
  exact Apart.below ha hB fun k hk => (hF k hk).1
theorem errin_touchP {t : Option Int} (ht : TouchP B0 W W') : ∀ {l : List (Nat × Int × Int)} {B : Nat}, ErrIn W t B l → ErrIn W' t B l
  | [], _, _ => trivial
  | (_, _, _) :: _, _, ⟨h1, h2, h3⟩ => ⟨h1, ht.off h2 (by decide) (by decide) (by decide), errin_touchP ht h3⟩
theorem ErrText.touchP {v : Value} {x : List UInt8} (h : ErrText W v x) (ht : TouchP B0 W W') : ErrText W' v x := by
  obtain ⟨l, t, h1, h2, h3, h4, h5⟩ := h
  exact ⟨l, t, h1, h2, (errin_touchP ht h3).mono ht.size, h4, h5⟩
end
/-- The two, whatever they hold. -/
structure PlayC (w : World) (x : CfgC) (node : Int) (B pa ra : Nat) (sp sr : St) (y : PC) (rg : Nat) (es : List El) (W : World) : Prop where
  ya : y.a = pa
  yn : y.node = node
  ys : elSt y.es = sp
  rs : elSt es = sr
  py : PIn W B x.plain y
  pr : RIn w W B x node ra rg es
  off : ∀ k, EF y.g y.es k → ¬ EF rg es k
  box : BoxS w x W
  low : (boxC w x).heap.size ≤ B
def Play (w : World) (x : CfgC) (node : Int) (B pa ra : Nat) (sp sr : St) (W : World) : Prop := ∃ y rg es, PlayC w x node B pa ra sp sr y rg es W
section
variable {w W W' : World} {x : CfgC} {node : Int} {B pa ra : Nat} {sp sr st : St} {y : PC} {rg : Nat} {es : List El}
theorem PlayC.leB (h : PlayC w x node B pa ra sp sr y rg es W) : B ≤ W.heap.size := h.pr.leB
theorem PlayC.boxB (h : PlayC w x node B pa ra sp sr y rg es W) (hb : Below B W W') : BoxS w x W' := h.box.trans (hb.mono h.low)
theorem PlayC.below (h : PlayC w x node B pa ra sp sr y rg es W) (hb : Below W.heap.size W W') : PlayC w x node B pa ra sp sr y rg es W' := ⟨h.ya, h.yn, h.ys, h.rs, h.py.below hb, h.pr.below hb, h.off, h.box.step hb, h.low⟩
theorem Play.below (h : Play w x node B pa ra sp sr W) (hb : Below W.heap.size W W') : Play w x node B pa ra sp sr W' := by
  obtain ⟨y, rg, es, h⟩ := h
  exact ⟨y, rg, es, h.below hb⟩
theorem Play.box (h : Play w x node B pa ra sp sr W) : BoxS w x W := by
  obtain ⟨y, rg, es, h⟩ := h
  exact h.box
theorem Play.leB (h : Play w x node B pa ra sp sr W) : B ≤ W.heap.size := by
  obtain ⟨y, rg, es, h⟩ := h
  exact h.leB
theorem PlayC.left (h : PlayC w x node B pa ra sp sr y rg es W) (hL : Left W B x.plain y st W') : Play w x node B pa ra st sr W' ∧ TouchP B W W' := by
  obtain ⟨es', p, g, s⟩ := hL
  have hF : ∀ k, EF y.g y.es k → B ≤ k ∧ ∃ cs t, W.heap[k]? = some (.cells cs t (0, 0)) ∧ (t = 83 ∨ t = 44) := fun k hk => ⟨(h.py.els.fLt hk).1, h.py.els.fTag hk⟩
  refine ⟨⟨{ y with es := es' }, rg, es, h.ya, h.yn, s, h.rs, p, h.pr.beside g.apart (fun k hk => (hF k hk).1) (fun k hk hy => h.off k hy hk) (fun k hk => ?_), fun k hk hr => ?_, h.boxB (Apart.below g.apart h.leB fun k hk => (hF k hk).1), h.low⟩, _, g.apart, fun k hk => ⟨(hF k hk).1, ?_⟩⟩
  · obtain ⟨-, cs, t, e1, e2⟩ := hF k hk
    exact ⟨cs, t, e1, by rcases e2 with rfl | rfl <;> decide, by rcases e2 with rfl | rfl <;> decide⟩
  · rcases g.f k hk with h1 | h1
    · exact h.off k h1 hr
    · have := (h.pr.els.fLt hr).2; omega
  · obtain ⟨-, cs, t, e1, e2⟩ := hF k hk
    exact ⟨cs, t, e1, e2.imp id .inl⟩
theorem PlayC.right (h : PlayC w x node B pa ra sp sr y rg es W) (hL : LeftR w W B x node ra rg es st W') : Play w x node B pa ra sp st W' ∧ TouchP B W W' := by
  obtain ⟨es', p, g, s⟩ := hL
  have hF : ∀ k, EF rg es k → B ≤ k ∧ ∃ cs t, W.heap[k]? = some (.cells cs t (0, 0)) ∧ (t = 101 ∨ t = 44) := fun k hk => ⟨(h.pr.els.fLt hk).1, h.pr.els.fTag hk⟩
  refine ⟨⟨y, rg, es', h.ya, h.yn, h.ys, s, h.py.beside g.apart (fun k hy hk => h.off k hy hk) (fun k hk => ?_), p, fun k hk hr => ?_, h.boxB (Apart.below g.apart h.leB fun k hk => (hF k hk).1), h.low⟩, _, g.apart, fun k hk => ⟨(hF k hk).1, ?_⟩⟩
  · obtain ⟨-, cs, t, e1, e2⟩ := hF k hk
    exact ⟨cs, t, e1, by rcases e2 with rfl | rfl <;> decide, by rcases e2 with rfl | rfl <;> decide, by rcases e2 with rfl | rfl <;> decide⟩
  · rcases g.f k hr with h1 | h1
    · exact h.off k hk h1
    · have := (h.py.els.fLt hk).2; omega
  · obtain ⟨-, cs, t, e1, e2⟩ := hF k hk
    exact ⟨cs, t, e1, by rcases e2 with e2 | e2
                         · exact .inr (.inr e2)
                         · exact .inr (.inl e2)⟩
/-! ### Calls of the program's -/
theorem play_write (h : Play w x node B pa ra sp sr W) (ha : SndP.Allowed x.plain) (part port : Int) (hport : port ≤ 9223372036854775807) (A : Option Addr) (n cap : Nat) (l : List UInt8) (hl : l.length = n) (hby : Bytes W W.heap.size A l) (hoff : ByteBlock W A l) :
    Calls Try.prog 18 #[.pointer (some ⟨pa, 0, none⟩), .int .i64 part, .int .i64 port, .slice A n cap] W (fun e w' => ∃ v, e = .returned v ∧ ErrV w' (writeP x.plain node sp part port l).1 port v ∧ Play w x node B pa ra (writeP x.plain node sp part port l).2 sr w' ∧ TouchP B W w') := by
  obtain ⟨y, rg, es, h⟩ := h
  have h1 := pwrite_any W B x.plain y h.py h.leB ha part port hport A n cap l hl hby (hoff.off h.py)
  rw [h.yn, h.ys] at h1
  unfold pv at h1
  rw [h.ya] at h1
  refine h1.mono ?_
  rintro e w' ⟨v, rfl, h2, h3⟩
  obtain ⟨h4, h5⟩ := h.left h3
  exact ⟨v, rfl, h2, h4, h5⟩
theorem play_read (h : Play w x node B pa ra sp sr W) (ha : SndP.Allowed x.plain) (part port : Int) (hport : port ≤ 9223372036854775807) :
    Calls Try.prog 21 #[.pointer (some ⟨pa, 0, none⟩), .int .i64 part, .int .i64 port] W (fun e w' => ∃ A cap ev, e = .returned (.tuple #[.slice A (readT x.plain node sp part port).1.1.length cap, .bool (readT x.plain node sp part port).1.2.1, ev]) ∧ w'.ownsRow B 5 1 (.slice A (readT x.plain node sp part port).1.1.length cap) (readT x.plain node sp part port).1.1.length (bytesV (readT x.plain node sp part port).1.1) ∧ ErrV w' (readT x.plain node sp part port).1.2.2 port ev ∧ Play w x node B pa ra (readT x.plain node sp part port).2 sr w' ∧ TouchP B W w') := by
  obtain ⟨y, rg, es, h⟩ := h
  have h1 := pread_any W B x.plain y h.py h.leB ha part port hport
  rw [h.yn, h.ys] at h1
  unfold pv at h1
  rw [h.ya] at h1
  refine h1.mono ?_
  rintro e w' ⟨A, cap, ev, rfl, h2⟩
  obtain ⟨h4, h5⟩ := h.left h2.left
  exact ⟨A, cap, ev, rfl, h2.own, h2.err, h4, h5⟩
theorem play_seal (h : Play w x node B pa ra sp sr W) (ha : SndP.Allowed x.plain) :
    Calls Try.prog 17 #[.pointer (some ⟨pa, 0, none⟩)] W (fun e w' => ∃ A n cap ys, e = .returned (.slice A n cap) ∧ ys.length = n ∧ OutM w' B (.slice A n cap) ys ∧ ys.map MsgC.plain = imgP x.plain TableP.Port.out sp x.plain.ports.length ∧ Play w x node B pa ra (List.zipWith outF x.plain.ports sp) sr w' ∧ TouchP B W w') := by
  obtain ⟨y, rg, es, h⟩ := h
  have h1 := pseal_any W B x.plain y h.py ha.ports
  rw [h.ys] at h1
  unfold pv at h1
  rw [h.ya] at h1
  refine h1.mono ?_
  rintro e w' ⟨A, n, cap, ys, rfl, q1, q2, q3, q4⟩
  obtain ⟨h4, h5⟩ := h.left q4
  exact ⟨A, n, cap, ys, rfl, q1, q2.low h.leB, q3, h4, h5⟩
theorem play_image (h : Play w x node B pa ra sp sr W) (ha : SndP.Allowed x.plain) :
    Calls Try.prog 32 #[.pointer (some ⟨pa, 0, none⟩)] W (fun e w' => ∃ A n cap ys, e = .returned (.slice A n cap) ∧ ys.length = n ∧ OutM w' B (.slice A n cap) ys ∧ ys.map MsgC.plain = imgP x.plain (fun p => !false || p.out) sp x.plain.ports.length ∧ Play w x node B pa ra sp sr w') := by
  obtain ⟨y, rg, es, h⟩ := h
  have h1 := pimage_any W B x.plain y h.py ha.ports
  unfold pv at h1
  rw [h.ya] at h1
  refine h1.mono ?_
  rintro e w' ⟨A, n, cap, ys, rfl, q1, q2, q3, -, q5⟩
  rw [image_st y.es x.plain h.py.len, h.ys] at q3
  exact ⟨A, n, cap, ys, rfl, q1, q2.low h.leB, q3, y, rg, es, h.below q5⟩
theorem play_deliver {W1 : World} (h : Play w x node B pa ra sp sr W1) (hb : Below W1.heap.size W1 W) (ha : SndP.Allowed x.plain) (src_ : Int) (A : Option Addr) (n cap : Nat) (ms : List MsgC) (hn : ms.length = n) (hn2 : n ≤ 1000) (hm : MsgsIn W A ms) (hf : ∀ F, (∀ k, F k → k < W1.heap.size) → FarM F A ms) :
    Calls Try.prog 25 #[.pointer (some ⟨pa, 0, none⟩), .int .i64 src_, .slice A n cap] W (fun e w' => e = .returned (.int .i64 ((deliverT x.plain node src_ (pairsT ms) sp).1 : Nat)) ∧ Play w x node B pa ra (deliverT x.plain node src_ (pairsT ms) sp).2 sr w' ∧ TouchP B W w') := by
  obtain ⟨y, rg, es, h⟩ := h
  subst hn
  have h2 := h.below hb
  have h1 := pdeliver_any W B x.plain y h2.py h2.leB ha src_ A cap ms hn2 hm (hf _ fun k hk => (h.py.els.fLt hk).2)
  rw [h.yn, h.ys] at h1
  unfold pv at h1
  rw [h.ya] at h1
  refine h1.mono ?_
  rintro e w' ⟨rfl, h3⟩
  obtain ⟨h4, h5⟩ := h2.left h3
  exact ⟨rfl, h4, h5⟩
theorem play_age (h : Play w x node B pa ra sp sr W) (ha : SndP.Allowed x.plain) :
    Calls Try.prog 28 #[.pointer (some ⟨pa, 0, none⟩)] W (fun e w' => e = .returned (.tuple #[]) ∧ Play w x node B pa ra (List.zipWith ageF x.plain.ports sp) sr w') := by
  obtain ⟨y, rg, es, h⟩ := h
  have h1 := page_any W B x.plain y h.py ha.ports
  unfold pv at h1
  rw [h.ya] at h1
  refine h1.mono ?_
  rintro e w' ⟨rfl, h2⟩
  rw [h.ys] at h2
  exact ⟨rfl, (h.left h2).1⟩
theorem play_clear (h : Play w x node B pa ra sp sr W) (ha : SndP.Allowed x.plain) (part : Int) :
    Calls Try.prog 30 #[.pointer (some ⟨pa, 0, none⟩), .int .i64 part] W (fun e w' => e = .returned (.tuple #[]) ∧ Play w x node B pa ra (List.zipWith (clrF part) x.plain.ports sp) sr w' ∧ TouchP B W w') := by
  obtain ⟨y, rg, es, h⟩ := h
  have h1 := pclear_any W B x.plain y h.py ha.ports part
  unfold pv at h1
  rw [h.ya] at h1
  refine h1.mono ?_
  rintro e w' ⟨rfl, h2⟩
  rw [h.ys] at h2
  exact ⟨rfl, (h.left h2).1, (h.left h2).2⟩
/-! ### Calls of the document's -/
theorem rplay_write (h : Play w x node B pa ra sp sr W) (ha : SndP.Allowed x.plain) (part port : Int) (hport : port ≤ 9223372036854775807) (A : Option Addr) (n cap : Nat) (l : List UInt8) (hl : l.length = n) (hn : n ≤ 140737488355328) (hby : Bytes W W.heap.size A l) :
    Calls Try.prog 20 #[.pointer (some ⟨ra, 0, none⟩), .int .i64 part, .int .i64 port, .slice A n cap] W (fun e w' => e = .returned (strV (errO (writeT x.plain node sr part port l).1 port)) ∧ Play w x node B pa ra sp (writeT x.plain node sr part port l).2 w' ∧ TouchP B W w') := by
  obtain ⟨y, rg, es, h⟩ := h
  have h1 := rwrite_any w W B x node ra rg es h.pr ha part port hport A n cap l hl hn hby
  rw [h.rs] at h1
  refine h1.mono ?_
  rintro e w' ⟨rfl, h2⟩
  exact ⟨rfl, (h.right h2).1, (h.right h2).2⟩
theorem rplay_read (h : Play w x node B pa ra sp sr W) (ha : SndP.Allowed x.plain) (part port : Int) (hport : port ≤ 9223372036854775807) :
    Calls Try.prog 22 #[.pointer (some ⟨ra, 0, none⟩), .int .i64 part, .int .i64 port] W (fun e w' => ∃ D cc, e = .returned (.tuple #[.slice D (readT x.plain node sr part port).1.1.length cc, .bool (readT x.plain node sr part port).1.2.1, strV (errO (readT x.plain node sr part port).1.2.2 port)]) ∧ Bytes w' w'.heap.size D (readT x.plain node sr part port).1.1 ∧ Play w x node B pa ra sp (readT x.plain node sr part port).2 w' ∧ TouchP B W w') := by
  obtain ⟨y, rg, es, h⟩ := h
  have h1 := rread_any w W B x node ra rg es h.pr ha part port hport
  rw [h.rs] at h1
  refine h1.mono ?_
  rintro e w' ⟨D, cc, rfl, h2, h3⟩
  exact ⟨D, cc, rfl, h2, (h.right h3).1, (h.right h3).2⟩
theorem rplay_seal (h : Play w x node B pa ra sp sr W) (ha : SndP.Allowed x.plain) :
    Calls Try.prog 24 #[.pointer (some ⟨ra, 0, none⟩)] W (fun e w' => ∃ A n cap ys, e = .returned (.slice A n cap) ∧ ys.length = n ∧ MsgsIn w' A ys ∧ ys.map MsgC.plain = imgP x.plain (shown x.plain node true) sr x.plain.ports.length ∧ Play w x node B pa ra sp (PorP.sealS x.plain node sr) w' ∧ TouchP B W w') := by
  obtain ⟨y, rg, es, h⟩ := h
  have h1 := rseal_any w W B x node ra rg es h.pr ha
  rw [h.rs] at h1
  refine h1.mono ?_
  rintro e w' ⟨v, ys, rfl, h2, h3⟩
  obtain ⟨A, cap, rfl, -, h4⟩ := h2.reads
  exact ⟨A, _, cap, ys, rfl, rfl, h4, h2.plain, (h.right h3).1, (h.right h3).2⟩
theorem rplay_image (h : Play w x node B pa ra sp sr W) (ha : SndP.Allowed x.plain) :
    Calls Try.prog 33 #[.pointer (some ⟨ra, 0, none⟩), .bool false] W (fun e w' => ∃ A n cap ys, e = .returned (.slice A n cap) ∧ ys.length = n ∧ MsgsIn w' A ys ∧ ys.map MsgC.plain = imgP x.plain (shown x.plain node false) sr x.plain.ports.length ∧ Play w x node B pa ra sp sr w' ∧ Below W.heap.size W w') := by
  obtain ⟨y, rg, es, h⟩ := h
  have h1 := rimage_any w W B x node ra rg es h.pr ha false
  rw [h.rs] at h1
  refine h1.mono ?_
  rintro e w' ⟨v, rfl, ys, hY⟩
  obtain ⟨A, cap, rfl, -, h4⟩ := MsgsIn.own hY.row (fun y hy => ((hY.each y hy).ok).1)
  exact ⟨A, _, cap, ys, rfl, rfl, h4, hY.plain, ⟨y, rg, es, h.below hY.bel⟩, hY.bel⟩
theorem rplay_deliver (h : Play w x node B pa ra sp sr W) (ha : SndP.Allowed x.plain) (src_ : Int) (A : Option Addr) (n cap : Nat) (ms : List MsgC) (hn : ms.length = n) (hn2 : n ≤ 100) (hm : MsgsIn w A ms) :
    Calls Try.prog 27 #[.pointer (some ⟨ra, 0, none⟩), .int .i64 src_, .slice A n cap] W (fun e w' => e = .returned (.int .i64 ((deliverT x.plain node src_ (pairsT ms) sr).1 : Nat)) ∧ Play w x node B pa ra sp (deliverT x.plain node src_ (pairsT ms) sr).2 w' ∧ TouchP B W w') := by
  obtain ⟨y, rg, es, h⟩ := h
  subst hn
  have h1 := rdeliver_any w W B x node ra rg es h.pr ha src_ A cap ms hn2 hm
  rw [h.rs] at h1
  refine h1.mono ?_
  rintro e w' ⟨rfl, h2⟩
  exact ⟨rfl, (h.right h2).1, (h.right h2).2⟩
theorem rplay_grow (h : Play w x node B pa ra sp sr W) (ha : SndP.Allowed x.plain) :
    Calls Try.prog 29 #[.pointer (some ⟨ra, 0, none⟩)] W (fun e w' => e = .returned (.tuple #[]) ∧ Play w x node B pa ra sp (List.zipWith ageF x.plain.ports sr) w') := by
  obtain ⟨y, rg, es, h⟩ := h
  have h1 := rgrow_any w W B x node ra rg es h.pr ha
  refine h1.mono ?_
  rintro e w' ⟨rfl, h2⟩
  rw [h.rs] at h2
  exact ⟨rfl, (h.right h2).1⟩
theorem rplay_clear (h : Play w x node B pa ra sp sr W) (ha : SndP.Allowed x.plain) (part : Int) :
    Calls Try.prog 31 #[.pointer (some ⟨ra, 0, none⟩), .int .i64 part] W (fun e w' => e = .returned (.tuple #[]) ∧ Play w x node B pa ra sp (List.zipWith (clrF part) x.plain.ports sr) w') := by
  obtain ⟨y, rg, es, h⟩ := h
  have h1 := rclear_any w W B x node ra rg es h.pr ha part
  refine h1.mono ?_
  rintro e w' ⟨rfl, h2⟩
  rw [h.rs] at h2
  exact ⟨rfl, (h.right h2).1⟩
end
end Go.Proofs.Ytdeodoppcflgfaa
