/- Bytes of the call's own, xored; one of two read; PortsOwn. Conditions: where the bytes lie. -/
import Derived.Test.YtdeodoppcflgfaaPorW
namespace Go.Proofs.Ytdeodoppcflgfaa
open Go.RowKit PorP
set_option maxRecDepth 100000

/-- Bytes of the call's own, xored one after another. -/
def XorR (w0 : World) (B : Nat) (v : Value) (n : Nat) (i : Value) (wr : World) : Prop :=
  ∃ (k : Nat) (l : List UInt8), k ≤ n ∧ i = .int .i64 (k : Nat) ∧ l.length = n ∧ wr.ownsRow B 5 1 v n (bytesV l) ∧ Apart (fun q => v.ownBlock = some q) w0 wr
theorem xor_step {w0 wr : World} {B n k : Nat} {v : Value} {l : List UInt8} (hk : k < n) (hl : l.length = n) (h : wr.ownsRow B 5 1 v n (bytesV l)) (ha : Apart (fun q => v.ownBlock = some q) w0 wr) :
    ∃ g cap c, v = .slice (some ⟨g, 0, none⟩) n cap ∧ wr.cell? ⟨g, k, none⟩ = some (.int .u8 (c : Nat)) ∧ wr.frozen? ⟨g, k, none⟩ = false ∧ ∀ y : Nat, y < 256 → XorR w0 B v n (.int .i64 ((k : Int) + 1)) (wr.setCell ⟨g, k, none⟩ (.int .u8 (bits .xor .u8 (c : Int) (y : Int)))) := by
  subst hl
  obtain ⟨g, cap, rfl, -, -⟩ := h.form (by omega)
  have hcell := h.cellAt k (by omega)
  rw [show (bytesV l)[k]? = some (.int .u8 (l[k].toNat : Nat)) from by simp [bytesV, hk]] at hcell
  refine ⟨g, cap, l[k].toNat, rfl, hcell, h.frozenAt k, fun y hy => ?_⟩
  have hx : l[k].toNat < 256 := l[k].toNat_lt
  have hxy : l[k].toNat ^^^ y < 256 := Nat.xor_lt_two_pow (n := 8) hx hy
  rw [u8_xor_nat _ _ hx hy]
  have hs := (h.stored k (.int .u8 ((l[k].toNat ^^^ y : Nat) : Int))).1
  have e : (bytesV l).set k (.int .u8 ((l[k].toNat ^^^ y : Nat) : Int)) = bytesV (l.set k (UInt8.ofNat (l[k].toNat ^^^ y))) := by
    unfold bytesV
    rw [List.map_set, UInt8.toNat_ofNat', Nat.mod_eq_of_lt hxy]
  rw [e] at hs
  exact ⟨k + 1, _, hk, by go_num, by simp, hs, ha.setCell (p := ⟨g, k, none⟩) (.inl rfl) _⟩
section
variable {W W' : World} {B B' n : Nat} {c : TableP.Cfg} {x y : PC} {v : Value} {xs : List Value} {sx sy st : St}
/-- Bytes that are none of its own are written. -/
theorem PIn.bytes (h : PIn W B c x) (hv : W.ownsRow B' 5 1 v n xs) (ha : Apart (fun q => v.ownBlock = some q) W W') (hD : ∀ q, v.ownBlock = some q → ¬ ED x.es q) : PIn W' B c x := by
  refine h.away ha (fun k hk hf => ?_) (fun k hk hf => hD k hf hk) (fun hf => own_off hv h.hd (by decide) _ hf rfl) (fun k cs hk hf => own_off hv hk (by decide) _ hf rfl)
  obtain ⟨cur, hc⟩ := (Seg.of_own hv).block k hf
  exact h.els.fOff hc (by decide) (by decide) hk
theorem Duo.bytes (h : Duo W B c x y sx sy) (hv : W.ownsRow B' 5 1 v n xs) (ha : Apart (fun q => v.ownBlock = some q) W W') (hD : ∀ q, v.ownBlock = some q → ¬ ED x.es q ∧ ¬ ED y.es q) : Duo W' B c x y sx sy :=
  ⟨h.px.bytes hv ha (fun q hq => (hD q hq).1), h.py.bytes hv ha (fun q hq => (hD q hq).2), h.nx, h.ny, h.sx, h.sy, h.off⟩
theorem own_below' (hv : W.ownsRow B' 5 1 v n xs) (ha : Below W.heap.size W W') : W'.ownsRow B' 5 1 v n xs := own_apart (F := fun _ => False) hv (Apart.of_below' ha) (fun _ _ h => h)
theorem xor_below {w0 : World} {i : Value} (h : XorR w0 B v n i W) {B0 : Nat} (h0 : B0 ≤ B) (h1 : B0 ≤ w0.heap.size) : Below B0 w0 W := by
  obtain ⟨k, l, -, -, -, ho, ha⟩ := h
  exact ha.below h1 fun q hq => Nat.le_trans h0 (ho.lt q hq).1
end
/-- One node's port that keeps its message, read: nothing changes. -/
theorem keep_read {W : World} {B : Nat} {c : TableP.Cfg} {y : PC} (h : PIn W B c y) (hB : B ≤ W.heap.size) (ha : SndP.Allowed c) (part : Int) (port : Nat) (hport : port ≤ 24) {p : TableP.Port} (hp : c.ports[port]? = some p) (hk : p.kind = 1) (d : List UInt8) (f : Bool) (st : St) (hr : readT c y.node (elSt y.es) part port = ((d, f, none), st)) :
    Calls Try.prog 21 #[.pointer (some ⟨y.a, 0, none⟩), .int .i64 part, .int .i64 (port : Nat)] W (fun e w' => ∃ A cap, e = .returned (.tuple #[.slice A d.length cap, .bool f, .nilIface]) ∧ w'.ownsRow W.heap.size 5 1 (.slice A d.length cap) d.length (bytesV d) ∧ Below W.heap.size W w') := by
  refine (pread_any W B c y h hB ha part port (by omega)).mono ?_
  rw [hr]
  rintro e w' ⟨A, cap, ev, rfl, h1⟩
  obtain rfl : ev = .nilIface := h1.err.form
  obtain ⟨h2, h3⟩ := h1.new port p rfl hp hk
  have h4 := h1.own
  simp only at h4 h2
  refine ⟨A, cap, rfl, ⟨h4.1, h4.2.imp id fun ⟨g, cp, cur, e1, e2, e3⟩ => ⟨g, cp, cur, e1, h2 g (by rw [e1]; rfl), e3⟩⟩, h3⟩
theorem ByteBlock.below {W W' : World} {A : Option Addr} {l : List UInt8} (h : ByteBlock W A l) (hb : Below W.heap.size W W') : ByteBlock W' A l := fun hl k hk => by
  obtain ⟨cs, f, h1⟩ := h hl k hk
  exact ⟨cs, f, (hb.block _ (Array.getElem?_eq_some_iff.1 h1).1).trans h1⟩
/-- Two nodes' ports; where their messages' bytes lie. -/
def DuoG (W : World) (B : Nat) (c : TableP.Cfg) (a b : Nat) (sx sy : St) (D : Nat → Prop) : Prop := B ≤ W.heap.size ∧ ∃ x y, x.a = a ∧ y.a = b ∧ Duo W B c x y sx sy ∧ (∀ k, ED x.es k → D k) ∧ ∀ k, ED y.es k → D k
/-- One node's. -/
def SoloG (W : World) (B : Nat) (c : TableP.Cfg) (b : Nat) (sy : St) (D : Nat → Prop) : Prop := B ≤ W.heap.size ∧ ∃ y, y.a = b ∧ y.node = 1 ∧ elSt y.es = sy ∧ PIn W B c y ∧ ∀ k, ED y.es k → D k
section
variable {W W' : World} {B B' n : Nat} {c : TableP.Cfg} {a b : Nat} {sx sy st : St} {D : Nat → Prop} {v : Value} {xs : List Value}
theorem DuoG.below (h : DuoG W B c a b sx sy D) (hb : Below W.heap.size W W') : DuoG W' B c a b sx sy D := by
  obtain ⟨h0, x, y, h1, h2, h3, h4, h5⟩ := h
  exact ⟨Nat.le_trans h0 hb.size, x, y, h1, h2, h3.below hb, h4, h5⟩
theorem DuoG.lt (h : DuoG W B c a b sx sy D) : DuoG W B c a b sx sy (fun k => k < W.heap.size) := by
  obtain ⟨h0, x, y, h1, h2, h3, h4, h5⟩ := h
  exact ⟨h0, x, y, h1, h2, h3, fun k hk => (h3.px.els.dLt hk).2, fun k hk => (h3.py.els.dLt hk).2⟩
theorem DuoG.bytes (h : DuoG W B c a b sx sy D) (hv : W.ownsRow B' 5 1 v n xs) (ha : Apart (fun q => v.ownBlock = some q) W W') (hD : ∀ q, v.ownBlock = some q → ¬ D q) : DuoG W' B c a b sx sy D := by
  obtain ⟨h0, x, y, h1, h2, h3, h4, h5⟩ := h
  exact ⟨Nat.le_trans h0 ha.size, x, y, h1, h2, h3.bytes hv ha (fun q hq => ⟨fun h => hD q hq (h4 q h), fun h => hD q hq (h5 q h)⟩), h4, h5⟩
theorem g_write (h : DuoG W B c a b sx sy (fun k => B ≤ k)) (ha : SndP.Allowed c) (part port : Int) (hport : port ≤ 9223372036854775807) (A : Option Addr) (n cap : Nat) (l : List UInt8) (hl : l.length = n) (hby : Bytes W W.heap.size A l) (hoff : ByteBlock W A l) (st : St) (hr : writeP c 0 sx part port l = (none, st)) :
    Calls Try.prog 18 #[.pointer (some ⟨a, 0, none⟩), .int .i64 part, .int .i64 port, .slice A n cap] W (fun e w' => e = .returned .nilIface ∧ DuoG w' B c a b st sy (fun k => B ≤ k) ∧ Below B W w') := by
  obtain ⟨hB, x, y, rfl, rfl, h, h4, h5⟩ := h
  refine (pwrite_any W B c x h.px hB ha part port hport A n cap l hl hby (hoff.off h.px)).mono ?_
  rintro e w' ⟨v, rfl, h1, h2⟩
  rw [h.nx, h.sx, hr] at h1 h2
  obtain rfl : v = .nilIface := h1.form
  obtain ⟨es', h3, hg⟩ := h.left h2
  exact ⟨rfl, ⟨Nat.le_trans hB hg.apart.size, { x with es := es' }, y, rfl, rfl, h3, fun k hk => (h3.px.els.dLt hk).1, h5⟩, (Touch.of_goes h.px hg).below hB⟩
theorem g_image (h : DuoG W B c a b sx sy D) (ha : SndP.Allowed c) (ps : List FrameP.Msg) (h1 : imgP c (fun p => !false || p.out) sx c.ports.length = ps) :
    Calls Try.prog 32 #[.pointer (some ⟨a, 0, none⟩)] W (fun e w' => ∃ A n cap ys, e = .returned (.slice A n cap) ∧ ys.length = n ∧ OutM w' W.heap.size (.slice A n cap) ys ∧ ys.map MsgC.plain = ps ∧ Below W.heap.size W w') := by
  obtain ⟨hB, x, y, rfl, rfl, h, -, -⟩ := h
  refine (pimage_any W B c x h.px ha.ports).mono ?_
  rintro e w' ⟨A, n, cap, ys, rfl, q1, q2, q3, -, q5⟩
  rw [image_st x.es c h.px.len, h.sx, h1] at q3
  exact ⟨A, n, cap, ys, rfl, q1, q2, q3, q5⟩
theorem g_seal (h : DuoG W B c a b sx sy D) (ha : SndP.Allowed c) (ps : List FrameP.Msg) (h1 : imgP c TableP.Port.out sx c.ports.length = ps) :
    Calls Try.prog 17 #[.pointer (some ⟨a, 0, none⟩)] W (fun e w' => ∃ A n cap ys, e = .returned (.slice A n cap) ∧ ys.length = n ∧ OutM w' W.heap.size (.slice A n cap) ys ∧ ys.map MsgC.plain = ps ∧ SoloG w' B c b sy D ∧ Below B W w') := by
  obtain ⟨hB, x, y, rfl, rfl, h, h4, h5⟩ := h
  refine (pseal_any W B c x h.px ha.ports).mono ?_
  rintro e w' ⟨A, n, cap, ys, rfl, q1, q2, q3, q4⟩
  rw [h.sx, h1] at q3
  obtain ⟨es', h3, hg⟩ := h.left q4
  exact ⟨A, n, cap, ys, rfl, q1, q2, q3, ⟨Nat.le_trans hB hg.apart.size, y, rfl, h3.ny, h3.sy, h3.py, h5⟩, (Touch.of_goes h.px hg).below hB⟩
theorem s_deliver (h : SoloG W B c b sy D) (ha : SndP.Allowed c) (src_ : Int) (A : Option Addr) (n cap : Nat) (ms : List MsgC) (hn : ms.length = n) (hn2 : n ≤ 1000) (ho : OutM W B' (.slice A n cap) ms) (l : List FrameP.Msg) (hl : ms.map MsgC.plain = l) (k : Nat) (st : St) (hr : deliverT c 1 src_ (l.map (fun m => (m.port, m.data))) sy = (k, st)) :
    Calls Try.prog 25 #[.pointer (some ⟨b, 0, none⟩), .int .i64 src_, .slice A n cap] W (fun e w' => e = .returned (.int .i64 (k : Nat)) ∧ SoloG w' B c b st (fun k => D k ∨ W.heap.size ≤ k) ∧ OutM w' B' (.slice A n cap) ms ∧ Below B W w') := by
  obtain ⟨hB, y, rfl, hn1, hs, h, h5⟩ := h
  subst hn
  obtain ⟨A', cap', e1, -, hm⟩ := ho.reads
  injection e1 with e11 e12 e13
  subst e11
  refine (pdeliver_any W B c y h hB ha src_ A cap ms hn2 hm (far_out h ho)).mono ?_
  rw [pairs_plain hl, hn1, hs, hr]
  rintro e w' ⟨rfl, es', p, g, s⟩
  have ht := Touch.of_goes h g
  refine ⟨rfl, ⟨Nat.le_trans hB g.apart.size, { y with es := es' }, rfl, hn1, s, p, fun k hk => ?_⟩, ht.out ho, ht.below hB⟩
  rcases g.d k hk with h1 | h1
  · exact .inl (h5 k h1)
  · exact .inr h1
theorem SoloG.below (h : SoloG W B c b sy D) (hb : Below W.heap.size W W') : SoloG W' B c b sy D := by
  obtain ⟨h0, y, h1, h2, h3, h4, h5⟩ := h
  exact ⟨Nat.le_trans h0 hb.size, y, h1, h2, h3, h4.below hb, h5⟩
theorem SoloG.lt (h : SoloG W B c b sy D) : SoloG W B c b sy (fun k => k < W.heap.size) := by
  obtain ⟨h0, y, h1, h2, h3, h4, h5⟩ := h
  exact ⟨h0, y, h1, h2, h3, h4, fun k hk => (h4.els.dLt hk).2⟩
theorem SoloG.bytes (h : SoloG W B c b sy D) (hv : W.ownsRow B' 5 1 v n xs) (ha : Apart (fun q => v.ownBlock = some q) W W') (hD : ∀ q, v.ownBlock = some q → ¬ D q) : SoloG W' B c b sy D := by
  obtain ⟨h0, y, h1, h2, h3, h4, h5⟩ := h
  exact ⟨Nat.le_trans h0 ha.size, y, h1, h2, h3, h4.bytes hv ha (fun q hq h => hD q hq (h5 q h)), h5⟩
theorem s_read (h : SoloG W B c b sy D) (ha : SndP.Allowed c) (part : Int) (port : Nat) (hport : port ≤ 24) {p : TableP.Port} (hp : c.ports[port]? = some p) (hk : p.kind = 1) (d : List UInt8) (f : Bool) (st : St) (hr : readT c 1 sy part port = ((d, f, none), st)) :
    Calls Try.prog 21 #[.pointer (some ⟨b, 0, none⟩), .int .i64 part, .int .i64 (port : Nat)] W (fun e w' => ∃ A cap, e = .returned (.tuple #[.slice A d.length cap, .bool f, .nilIface]) ∧ w'.ownsRow W.heap.size 5 1 (.slice A d.length cap) d.length (bytesV d) ∧ SoloG w' B c b sy D ∧ Below W.heap.size W w') := by
  obtain ⟨hB, y, rfl, hn1, hs, h, h5⟩ := h
  refine (keep_read h hB ha part port hport hp hk d f st (by rw [hn1, hs, hr])).mono ?_
  rintro e w' ⟨A, cap, rfl, h1, h2⟩
  exact ⟨A, cap, rfl, h1, ⟨Nat.le_trans hB h2.size, y, rfl, hn1, hs, h.below h2, h5⟩, h2⟩
end
end Go.Proofs.Ytdeodoppcflgfaa
