/- Two nodes' ports side by side (Duo); Awake. Conditions: where they lie. -/
import Derived.Test.YtdeodoppcflgfaaPorM
import Derived.Lib.SlBytesConst
namespace Go.Proofs.Ytdeodoppcflgfaa
open Go.RowKit PorP
set_option maxRecDepth 100000

theorem wired_ok : SndP.chk6 (wired 1 1 2 1 1) = none := by kernel_rfl
theorem wiredP_write0 {z0 z1 d0 d1 fr : Int} {s0 s1 s2 s3 : PS} (d : List UInt8) : writeP (wired z0 z1 d0 d1 fr) 0 [s0, s1, s2, s3] 0 0 d = if z0 < (d.length : Int) then (some 12, [s0, s1, s2, s3]) else if (s0.msgs.length : Int) < d0 then (none, [⟨s0.msgs ++ [d], s0.age⟩, s1, s2, s3]) else (some 11, [s0, s1, s2, s3]) := by
  simp [writeP, findT, wired, mineB, nodeOf, room, putT]
theorem wiredP_write2 {z0 z1 d0 d1 fr : Int} {s0 s1 s2 s3 : PS} (d : List UInt8) : writeP (wired z0 z1 d0 d1 fr) 0 [s0, s1, s2, s3] 0 2 d = if 4 < d.length then (some 12, [s0, s1, s2, s3]) else (none, [s0, s1, ⟨[d], 0⟩, s3]) := by
  simp [writeP, findT, wired, mineB, nodeOf, room, putT]
  split <;> split <;> first | rfl | omega
/-- Two nodes' ports. -/
structure Duo (W : World) (B : Nat) (c : TableP.Cfg) (x y : PC) (sx sy : St) : Prop where
  px : PIn W B c x
  py : PIn W B c y
  nx : x.node = 0
  ny : y.node = 1
  sx : elSt x.es = sx
  sy : elSt y.es = sy
  off : ∀ k, EF x.g x.es k → ¬ EF y.g y.es k
section
variable {W W' : World} {B : Nat} {c : TableP.Cfg} {x y : PC} {sx sy st : St}
theorem Duo.below (h : Duo W B c x y sx sy) (hb : Below W.heap.size W W') : Duo W' B c x y sx sy := ⟨h.px.below hb, h.py.below hb, h.nx, h.ny, h.sx, h.sy, h.off⟩
theorem PIn.tags (h : PIn W B c x) : ∀ k, EF x.g x.es k → ∃ cs t, W.heap[k]? = some (.cells cs t (0, 0)) ∧ t ≠ 5 ∧ t ≠ 3 ∧ t ≠ 87 := fun k hk => by
  obtain ⟨cs, t, h1, h2⟩ := h.els.fTag hk
  refine ⟨cs, t, h1, ?_⟩
  rcases h2 with rfl | rfl
  · exact ⟨by decide, by decide, by decide⟩
  · exact ⟨by decide, by decide, by decide⟩
theorem Duo.left (h : Duo W B c x y sx sy) (hL : Left W B c x st W') : ∃ es', Duo W' B c { x with es := es' } y st sy ∧ Goes x.g W W' x.es es' := by
  obtain ⟨es', p, g, s⟩ := hL
  refine ⟨es', ⟨p, h.py.beside g.apart (fun k hy hx => h.off k hx hy) h.px.tags, h.nx, h.ny, s, h.sy, fun k hx hy => ?_⟩, g⟩
  rcases g.f k hx with h1 | h1
  · exact h.off k h1 hy
  · have := (h.py.els.fLt hy).2; omega
theorem Duo.right (h : Duo W B c x y sx sy) (hL : Left W B c y st W') : ∃ es', Duo W' B c x { y with es := es' } sx st ∧ Goes y.g W W' y.es es' := by
  obtain ⟨es', p, g, s⟩ := hL
  refine ⟨es', ⟨h.px.beside g.apart (fun k hx hy => h.off k hx hy) h.py.tags, p, h.nx, h.ny, h.sx, s, fun k hx hy => ?_⟩, g⟩
  rcases g.f k hy with h1 | h1
  · exact h.off k hx h1
  · have := (h.px.els.fLt hx).2; omega
theorem Duo.swapped (h : PIn W B c x) (k : PIn W' B c y) (hb : Below W.heap.size W W') (hx : x.node = 0) (hy : y.node = 1) (hg : ∀ q, EF y.g y.es q → W.heap.size ≤ q) : Duo W' B c x y (elSt x.es) (elSt y.es) :=
  ⟨h.below hb, k, hx, hy, rfl, rfl, fun q h1 h2 => by have := (h.els.fLt h1).2; have := hg q h2; omega⟩
end
theorem PIn.low {W : World} {B B' : Nat} {c : TableP.Cfg} {x : PC} (h : PIn W B c x) (hb : B' ≤ B) : PIn W B' c x :=
  ⟨h.hd, ⟨h.els.row, h.els.pres, fun e he => (h.els.each e he).low hb, h.els.apart, fun hz e he => low_own (h.els.own hz e he) hb, Nat.le_trans hb h.els.base, h.els.ok⟩, h.len, fun i e p hi hp => by
    obtain ⟨tv, h1, h2⟩ := h.shape i e p hi hp
    refine ⟨tv, h1, h2.1, ?_⟩
    rcases h2.2 with h3 | ⟨g, off, cap, cur, h3, h4, h5⟩
    · exact .inl h3
    · exact .inr ⟨g, off, cap, cur, h3, Nat.le_trans hb h4, h5⟩, Nat.le_trans hb h.base⟩
def AwakeP (w : World) (e : Ending) (w' : World) : Prop := e = .returned (.bool true) ∧ Below w.heap.size w w'
theorem start_wired (z0 z1 d0 d1 fr : Int) : PorP.start (wired z0 z1 d0 d1 fr) = [PS.empty, PS.empty, PS.empty, PS.empty] := rfl
/-- New of one of the two. -/
def WNew (w : World) (c : TableP.Cfg) (node : Int) (e : Ending) (w' : World) : Prop := ∃ y : PC, e = .returned (.tuple #[pv y, .nilIface]) ∧ y.node = node ∧ PIn w' w.heap.size c y ∧ elSt y.es = PorP.start c ∧ Below w.heap.size w w'
theorem wnew_any (z0 z1 d0 d1 fr : Int) (hok : SndP.chk6 (wired z0 z1 d0 d1 fr) = none) (N : Nat) (node : Int) (hn : 0 ≤ node ∧ node < 2) (W : World) (h : WirIn W N z0 z1 d0 d1 fr) : Calls Try.prog 12 #[(wC N z0 z1 d0 d1 fr).value, .int .i64 node] W (WNew W (wired z0 z1 d0 d1 fr) node) :=
  pornew_good (wC N z0 z1 d0 d1 fr) node W h.cfg hok hn
theorem PIn.hi {W : World} {B : Nat} {c : TableP.Cfg} {x : PC} (h : PIn W B c x) : ∀ q, EF x.g x.es q → B ≤ q := fun _ hq => (h.els.fLt hq).1
theorem far_out {W : World} {B B' : Nat} {c : TableP.Cfg} {x : PC} {A : Option Addr} {n cap : Nat} {ys : List MsgC} (h : PIn W B c x) (ho : OutM W B' (.slice A n cap) ys) : FarM (EF x.g x.es) A ys := by
  refine ⟨fun hl k hk hf => ?_, fun y hy hd k hk hf => ?_⟩
  · obtain ⟨cs, t, e1, -, -, -, e5, e6⟩ := ho.tag k (by rw [ownBlock_slice]; exact hk)
    exact h.els.fOff e1 e5 e6 hf
  · have h1 := (ho.each y hy).row
    obtain ⟨cur, hc⟩ := (Seg.of_own h1).block k (by rw [ownBlock_slice]; exact hk)
    exact h.els.fOff hc (by decide) (by decide) hf
theorem pairs_plain {ys : List MsgC} {l : List FrameP.Msg} (h : ys.map MsgC.plain = l) : pairsT ys = l.map (fun m => (m.port, m.data)) := by
  rw [← h, List.map_map]; rfl
/-! ### Calls of one of the two -/
/-- Nothing but boxes and lists of ports is written. -/
def Touch (B : Nat) (W W' : World) : Prop := ∃ F, Apart F W W' ∧ ∀ k, F k → B ≤ k ∧ ∃ cs t, W.heap[k]? = some (.cells cs t (0, 0)) ∧ (t = 83 ∨ t = 44)
theorem Touch.of_below {W W' : World} {B : Nat} (h : Below W.heap.size W W') : Touch B W W' := ⟨fun _ => False, Apart.of_below' h, fun _ h => h.elim⟩
theorem Touch.of_goes {W W' : World} {B : Nat} {c : TableP.Cfg} {x : PC} {es' : List El} (h : PIn W B c x) (hg : Goes x.g W W' x.es es') : Touch B W W' := ⟨_, hg.apart, fun _ hk => ⟨(h.els.fLt hk).1, h.els.fTag hk⟩⟩
theorem Touch.below {W W' : World} {B : Nat} (h : Touch B W W') (hB : B ≤ W.heap.size) : Below B W W' := by
  obtain ⟨F, ha, hF⟩ := h
  exact Apart.below ha hB fun k hk => (hF k hk).1
theorem Touch.off {W W' : World} {B : Nat} (h : Touch B W W') {k : Nat} {cs : Array Value} {t : TypeId} {f : Nat × Nat} (hk : W.heap[k]? = some (.cells cs t f)) (h1 : t ≠ 83) (h2 : t ≠ 44) : W'.heap[k]? = some (.cells cs t f) := by
  obtain ⟨F, ha, hF⟩ := h
  refine (ha.block k (Array.getElem?_eq_some_iff.1 hk).1 (fun hf => ?_)).trans hk
  obtain ⟨-, cs', t', e1, e2⟩ := hF k hf
  rw [hk] at e1
  simp only [Option.some.injEq, Obj.cells.injEq] at e1
  obtain ⟨-, rfl, -⟩ := e1
  rcases e2 with e2 | e2
  · exact h1 e2
  · exact h2 e2
theorem Touch.own {W W' : World} {B0 : Nat} (h : Touch B0 W W') {B e size n : Nat} {v : Value} {xs : List Value} (ho : W.ownsRow B e size v n xs) (h1 : e ≠ 83) (h2 : e ≠ 44) : W'.ownsRow B e size v n xs := by
  obtain ⟨F, ha, hF⟩ := h
  refine own_apart ho ha fun k hk hf => ?_
  obtain ⟨-, cs', t', e1, e2⟩ := hF k hf
  have := own_off ho e1 (fun e => by
    subst e
    rcases e2 with e2 | e2
    · exact h1 e2
    · exact h2 e2) k hk
  exact this rfl
theorem Touch.out {W W' : World} {B0 : Nat} (h : Touch B0 W W') {B : Nat} {v : Value} {ys : List MsgC} (ho : OutM W B v ys) : OutM W' B v ys := ⟨h.own ho.row (by decide) (by decide), fun y hy => ⟨h.own (ho.each y hy).row (by decide) (by decide), (ho.each y hy).most, (ho.each y hy).ports⟩⟩
theorem Touch.size {W W' : World} {B : Nat} (h : Touch B W W') : W.heap.size ≤ W'.heap.size := by
  obtain ⟨F, ha, -⟩ := h
  exact ha.size
/-- The two, whatever they hold. -/
def DuoE (W : World) (B : Nat) (c : TableP.Cfg) (a b : Nat) (sx sy : St) : Prop := B ≤ W.heap.size ∧ ∃ x y, x.a = a ∧ y.a = b ∧ Duo W B c x y sx sy
def ByteBlock (W : World) (A : Option Addr) (l : List UInt8) : Prop := 0 < l.length → ∀ k, blockOf A = some k → ∃ cs f, W.heap[k]? = some (.cells cs 5 f)
theorem ByteBlock.off {W : World} {A : Option Addr} {l : List UInt8} {B : Nat} {c : TableP.Cfg} {x : PC} (h : ByteBlock W A l) (hx : PIn W B c x) : 0 < l.length → ∀ k, blockOf A = some k → ¬ EF x.g x.es k := fun hl k hk hf => by
  obtain ⟨cs, f, e1⟩ := h hl k hk
  obtain ⟨cs', t', e2, e3⟩ := hx.els.fTag hf
  rw [e1] at e2
  simp only [Option.some.injEq, Obj.cells.injEq] at e2
  obtain ⟨-, rfl, -⟩ := e2
  rcases e3 with e3 | e3
  · cases e3
  · cases e3
section
variable {W W' : World} {B : Nat} {c : TableP.Cfg} {a b : Nat} {sx sy : St}
theorem DuoE.below (h : DuoE W B c a b sx sy) (hb : Below W.heap.size W W') : DuoE W' B c a b sx sy := by
  obtain ⟨h0, x, y, h1, h2, h3⟩ := h
  exact ⟨Nat.le_trans h0 hb.size, x, y, h1, h2, h3.below hb⟩
theorem duo_write (h : DuoE W B c a b sx sy) (ha : SndP.Allowed c) (part port : Int) (hport : port ≤ 9223372036854775807) (A : Option Addr) (n cap : Nat) (l : List UInt8) (hl : l.length = n) (hby : Bytes W W.heap.size A l) (hoff : ByteBlock W A l) (r : Option Nat × St) (hr : writeP c 0 sx part port l = r) :
    Calls Try.prog 18 #[.pointer (some ⟨a, 0, none⟩), .int .i64 part, .int .i64 port, .slice A n cap] W (fun e w' => ∃ v, e = .returned v ∧ ErrV w' r.1 port v ∧ DuoE w' B c a b r.2 sy ∧ Touch B W w') := by
  obtain ⟨hB, x, y, rfl, rfl, h⟩ := h
  refine (pwrite_any W B c x h.px hB ha part port hport A n cap l hl hby (hoff.off h.px)).mono ?_
  rintro e w' ⟨v, rfl, h1, h2⟩
  rw [h.nx, h.sx, hr] at h1 h2
  obtain ⟨es', h3, h4⟩ := h.left h2
  exact ⟨v, rfl, h1, ⟨Nat.le_trans hB h4.apart.size, { x with es := es' }, y, rfl, rfl, h3⟩, Touch.of_goes h.px h4⟩
theorem duo_seal (h : DuoE W B c a b sx sy) (ha : SndP.Allowed c) (ps : List FrameP.Msg) (st : St) (h1 : imgP c TableP.Port.out sx c.ports.length = ps) (h2 : List.zipWith outF c.ports sx = st) :
    Calls Try.prog 17 #[.pointer (some ⟨a, 0, none⟩)] W (fun e w' => ∃ A n cap ys, e = .returned (.slice A n cap) ∧ ys.length = n ∧ OutM w' W.heap.size (.slice A n cap) ys ∧ ys.map MsgC.plain = ps ∧ DuoE w' B c a b st sy ∧ Touch B W w') := by
  obtain ⟨hB, x, y, rfl, rfl, h⟩ := h
  refine (pseal_any W B c x h.px ha.ports).mono ?_
  rintro e w' ⟨A, n, cap, ys, rfl, q1, q2, q3, q4⟩
  rw [h.sx, h1] at q3
  rw [h.sx, h2] at q4
  obtain ⟨es', h3, h4⟩ := h.left q4
  exact ⟨A, n, cap, ys, rfl, q1, q2, q3, ⟨Nat.le_trans hB h4.apart.size, { x with es := es' }, y, rfl, rfl, h3⟩, Touch.of_goes h.px h4⟩
theorem duo_read (h : DuoE W B c a b sx sy) (ha : SndP.Allowed c) (part port : Int) (hport : port ≤ 9223372036854775807) (d : List UInt8) (f : Bool) (o : Option Nat) (st : St) (hr : readT c 1 sy part port = ((d, f, o), st)) :
    Calls Try.prog 21 #[.pointer (some ⟨b, 0, none⟩), .int .i64 part, .int .i64 port] W (fun e w' => ∃ A cap ev, e = .returned (.tuple #[.slice A d.length cap, .bool f, ev]) ∧ w'.ownsRow B 5 1 (.slice A d.length cap) d.length (bytesV d) ∧ ErrV w' o port ev ∧ DuoE w' B c a b sx st ∧ Touch B W w') := by
  obtain ⟨hB, x, y, rfl, rfl, h⟩ := h
  refine (pread_any W B c y h.py hB ha part port hport).mono ?_
  rw [h.ny, h.sy, hr]
  rintro e w' ⟨A, cap, ev, rfl, h1⟩
  obtain ⟨es', h3, h4⟩ := h.right h1.left
  exact ⟨A, cap, ev, rfl, h1.own, h1.err, ⟨Nat.le_trans hB h4.apart.size, x, { y with es := es' }, rfl, rfl, h3⟩, Touch.of_goes h.py h4⟩
theorem duo_deliver (h : DuoE W B c a b sx sy) (ha : SndP.Allowed c) (src_ : Int) (A : Option Addr) (n cap : Nat) (ms : List MsgC) (hn : ms.length = n) (hn2 : n ≤ 1000) {B' : Nat} (ho : OutM W B' (.slice A n cap) ms) (l : List FrameP.Msg) (hl : ms.map MsgC.plain = l) (k : Nat) (st : St) (hr : deliverT c 1 src_ (l.map (fun m => (m.port, m.data))) sy = (k, st)) :
    Calls Try.prog 25 #[.pointer (some ⟨b, 0, none⟩), .int .i64 src_, .slice A n cap] W (fun e w' => e = .returned (.int .i64 (k : Nat)) ∧ DuoE w' B c a b sx st ∧ Touch B W w') := by
  obtain ⟨hB, x, y, rfl, rfl, h⟩ := h
  subst hn
  obtain ⟨A', cap', e1, -, hm⟩ := ho.reads
  injection e1 with e11 e12 e13
  subst e11
  refine (pdeliver_any W B c y h.py hB ha src_ A cap ms hn2 hm (far_out h.py ho)).mono ?_
  rw [pairs_plain hl, h.ny, h.sy, hr]
  rintro e w' ⟨rfl, h1⟩
  obtain ⟨es', h3, h4⟩ := h.right h1
  exact ⟨rfl, ⟨Nat.le_trans hB h4.apart.size, x, { y with es := es' }, rfl, rfl, h3⟩, Touch.of_goes h.py h4⟩
theorem image_st (es : List El) (c : TableP.Cfg) (hl : es.length = c.ports.length) : plainK 0 es = imgP c (fun p => !false || p.out) (elSt es) c.ports.length := by
  have h1 := plainK_img c es hl es.length (Nat.le_refl _)
  rw [List.take_length] at h1
  rw [h1, hl]
theorem duo_image (h : DuoE W B c a b sx sy) (ha : SndP.Allowed c) (ps : List FrameP.Msg) (h1 : imgP c (fun p => !false || p.out) sy c.ports.length = ps) :
    Calls Try.prog 32 #[.pointer (some ⟨b, 0, none⟩)] W (fun e w' => ∃ A n cap ys, e = .returned (.slice A n cap) ∧ ys.length = n ∧ OutM w' W.heap.size (.slice A n cap) ys ∧ ys.map MsgC.plain = ps ∧ Below W.heap.size W w') := by
  obtain ⟨hB, x, y, rfl, rfl, h⟩ := h
  refine (pimage_any W B c y h.py ha.ports).mono ?_
  rintro e w' ⟨A, n, cap, ys, rfl, q1, q2, q3, -, q5⟩
  rw [image_st y.es c h.py.len, h.sy, h1] at q3
  exact ⟨A, n, cap, ys, rfl, q1, q2, q3, q5⟩
/-- Both made. -/
theorem duo_news {w2 w3 w4 : World} {a b : PC} (ha : a.node = 0) (pa : PIn w2 B c a) (hb : b.node = 1) (pb : PIn w4 w3.heap.size c b) (h23 : Below w2.heap.size w2 w3) (h34 : Below w3.heap.size w3 w4) (hB : B ≤ w2.heap.size) : DuoE w4 B c a.a b.a (elSt a.es) (elSt b.es) := by
  have h24 := h23.trans (h34.mono h23.size)
  exact ⟨Nat.le_trans hB h24.size, a, b, rfl, rfl, Duo.swapped pa (pb.low (Nat.le_trans hB h23.size)) h24 ha hb (fun q hq => Nat.le_trans h23.size (pb.hi q hq))⟩
end
theorem lit_new (w : World) (l : List UInt8) (cs : Array Value) (f : Nat × Nat) (hcs : cs = (bytesV l).toArray) : Bytes (w.alloc (.cells cs 5 f)) (w.alloc (.cells cs 5 f)).heap.size (some ⟨w.heap.size, 0, none⟩) l ∧ ByteBlock (w.alloc (.cells cs 5 f)) (some ⟨w.heap.size, 0, none⟩) l ∧ Below w.heap.size w (w.alloc (.cells cs 5 f)) := by
  subst hcs
  refine ⟨fun _ => ⟨w.heap.size, 0, rfl, by simp, fun i c hi => ?_⟩, fun _ k hk => ?_, (Below.refl _ _).alloc (Nat.le_refl _) _⟩
  · have h : (w.alloc (.cells (bytesV l).toArray 5 f)).cell? ⟨w.heap.size, i, none⟩ = (bytesV l).toArray[i]? := by simp only [World.cell?, World.alloc]; simp
    rw [Nat.zero_add, h]
    simp [bytesV, hi]
  · have hk' : w.heap.size = k := by simpa [blockOf] using hk
    subst hk'
    exact ⟨_, _, heap_alloc_new w _⟩

def wst (a b : List (List UInt8)) : St := [⟨a, 0⟩, PS.empty, ⟨b, 0⟩, PS.empty]
set_option maxHeartbeats 8000000 in
theorem awake13_any (w : World) : Calls Try.prog 10 #[] w (AwakeP w) := by
  have HAl := Lib.hid (SndP.works wired_ok).allowed
  have kc := fun (w : World) (C : Array Value) (n c : Nat) => Lib.run_convert_bytes_const (P := Try.prog) w 44 5 C n c Try.underlying44 Try.underlying5
  go_enter Try.func10, Try.ntmps10
  go_wp2_with fail
  refine (wired_any w).mono ?_
  rintro e w1 ⟨rfl, h1, hb1⟩
  have H1 := Lib.hid h1
  have Hb1 := Lib.hid hb1
  clear h1 hb1
  go_wp2_with fail
  refine (wnew_any 1 1 2 1 1 wired_ok _ 0 (by omega) w1 H1.out).mono ?_
  rintro e w2 ⟨a, rfl, na, pa, sa, hb2⟩
  have Ha := Lib.hid (And.intro na (And.intro (pa.low Hb1.out.size) sa))
  have Hb2 := Lib.hid (Hb1.out.trans (hb2.mono Hb1.out.size))
  unfold pv
  clear na pa sa hb2 H1 Hb1
  go_wp2_with fail
  refine (wired_any w2).mono ?_
  rintro e w3 ⟨rfl, h3, hb3⟩
  have H3 := Lib.hid h3
  have Hb3 := Lib.hid hb3
  clear h3 hb3
  go_wp2_with fail
  refine (wnew_any 1 1 2 1 1 wired_ok _ 1 (by omega) w3 H3.out).mono ?_
  rintro e w4 ⟨b, rfl, nb, pb, sb, hb4⟩
  have HD : Hid (DuoE w4 w.heap.size (wired 1 1 2 1 1) a.a b.a (wst [] []) (wst [] [])) := Lib.hid (by
    have h := duo_news Ha.out.1 Ha.out.2.1 nb pb Hb3.out hb4 Hb2.out.size
    rw [Ha.out.2.2, sb] at h
    exact h)
  have HT : Hid (Below w.heap.size w w4) := Lib.hid (Hb2.out.trans ((Hb3.out.trans (hb4.mono Hb3.out.size)).mono Hb2.out.size))
  unfold pv
  generalize a.a = aa at *
  generalize b.a = ba at *
  clear nb pb sb hb4 H3 Hb3 Ha Hb2
  go_wp2_with fail
  obtain ⟨hy5, hk5, hb5⟩ := lit_new w4 [97] #[.int .u8 97] (1, 2) rfl
  refine (duo_write (HD.out.below hb5) HAl.out 0 0 (by omega) (some ⟨w4.heap.size, 0, none⟩) 1 1 [97] rfl hy5 hk5 (none, wst [[97]] []) (by rfl)).mono ?_
  rintro e w6 ⟨v, rfl, hv6, hD6, hT6⟩
  obtain rfl : v = .nilIface := hv6.form
  have HD6 := Lib.hid hD6
  have HT6 := Lib.hid (HT.out.trans ((hb5.mono HT.out.size).trans (hT6.below (Nat.le_trans HT.out.size hb5.size))))
  clear hy5 hk5 hb5 hv6 hD6 hT6 HD HT
  go_wp2_with fail
  obtain ⟨hy7, hk7, hb7⟩ := lit_new w6 [98] #[.int .u8 98] (1, 2) rfl
  refine (duo_write (HD6.out.below hb7) HAl.out 0 0 (by omega) (some ⟨w6.heap.size, 0, none⟩) 1 1 [98] rfl hy7 hk7 (none, wst [[97], [98]] []) (by rfl)).mono ?_
  rintro e w8 ⟨v, rfl, hv8, hD8, hT8⟩
  obtain rfl : v = .nilIface := hv8.form
  have HD8 := Lib.hid hD8
  have HT8 := Lib.hid (HT6.out.trans ((hb7.mono HT6.out.size).trans (hT8.below (Nat.le_trans HT6.out.size hb7.size))))
  clear hy7 hk7 hb7 hv8 hD8 hT8 HD6 HT6
  go_wp2_with fail
  obtain ⟨hy9, hk9, hb9⟩ := lit_new w8 [99] #[.int .u8 99] (1, 2) rfl
  refine (duo_write (HD8.out.below hb9) HAl.out 0 0 (by omega) (some ⟨w8.heap.size, 0, none⟩) 1 1 [99] rfl hy9 hk9 (some 11, wst [[97], [98]] []) (by rfl)).mono ?_
  rintro e w10 ⟨v, rfl, hv10, hD10, hT10⟩
  have HD10 := Lib.hid hD10
  have HT10 := Lib.hid (HT8.out.trans ((hb9.mono HT8.out.size).trans (hT10.below (Nat.le_trans HT8.out.size hb9.size))))
  obtain ⟨bf, rfl⟩ : ∃ bf, v = .iface 89 (.pointer (some ⟨bf, 0, none⟩)) := hv10.form
  have HV := Lib.hid hv10.text
  clear hy9 hk9 hb9 hv10 hD10 hT10 HD8 HT8
  go_wp2_with fail
  refine HV.out.read.mono ?_
  rintro e w11 ⟨rfl, hb11⟩
  have HD11 := Lib.hid (HD10.out.below hb11)
  have HT11 := Lib.hid (HT10.out.trans (hb11.mono HT10.out.size))
  clear hb11 HV HD10 HT10
  rw [show errO (some 11) 0 = [49, 49, 64, 48] by decide]
  unfold strV
  go_wp2_with fail
  refine (duo_seal HD11.out HAl.out [msgOf 0 [97], msgOf 0 [98]] (wst [] []) (by rfl) (by rfl)).mono ?_
  rintro e w12 ⟨A, n, cap, ys, rfl, hyn, hO, hpl, hD12, hT12⟩
  have hn2 : n = 2 := by rw [← hyn, ← List.length_map (f := MsgC.plain), hpl]; rfl
  subst hn2
  have HD12 := Lib.hid hD12
  have HO12 := Lib.hid hO
  have Hpl := Lib.hid (And.intro hyn hpl)
  have HT12 := Lib.hid (HT11.out.trans (hT12.below HT11.out.size))
  clear hyn hO hpl hD12 hT12 HD11 HT11
  go_wp2_with fail
  refine (duo_read HD12.out HAl.out 1 1 (by omega) [] false (some 10) (wst [] []) (by rfl)).mono ?_
  rintro e w13 ⟨A3, c3, ev, rfl, -, -, hD13, hT13⟩
  have HD13 := Lib.hid hD13
  have HO13 := Lib.hid (hT13.out HO12.out)
  have HT13 := Lib.hid (HT12.out.trans (hT13.below HT12.out.size))
  clear hD13 hT13 HD12 HO12 HT12
  simp only [List.length_nil]
  go_wp2_with fail
  refine (duo_deliver HD13.out HAl.out 0 A 2 cap ys Hpl.out.1 (by omega) HO13.out _ Hpl.out.2 1 [PS.empty, ⟨[[97]], 0⟩, PS.empty, PS.empty] (by rfl)).mono ?_
  rintro e w14 ⟨rfl, hD14, hT14⟩
  have HD14 := Lib.hid hD14
  have HT14 := Lib.hid (HT13.out.trans (hT14.below HT13.out.size))
  clear hD14 hT14 HD13 HO13 HT13
  go_wp2_with fail
  refine (duo_image HD14.out HAl.out [msgOf 1 [97]] (by rfl)).mono ?_
  rintro e w15 ⟨A5, n5, c5, ys5, rfl, hyn5, -, hpl5, hb15⟩
  have hn1 : n5 = 1 := by rw [← hyn5, ← List.length_map (f := MsgC.plain), hpl5]; rfl
  subst hn1
  have HF := Lib.hid (HT14.out.trans (hb15.mono HT14.out.size))
  clear hb15 HT14 HD14 hpl5 hyn5
  go_wp2_with fail
  go_ret
  exact ⟨rfl, HF.out⟩
end Go.Proofs.Ytdeodoppcflgfaa
