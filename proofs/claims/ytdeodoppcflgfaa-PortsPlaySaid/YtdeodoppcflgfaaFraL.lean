/- Contract of the document's Copied at a frame in memory: a frame that reads alike, with lists of its own. Conditions: where its lists lie. -/
import Derived.Test.YtdeodoppcflgfaaFraK
import Derived.Test.YtdeodoppcflgfaaFraD
namespace Go.Proofs.Ytdeodoppcflgfaa
open Go.RowKit
set_option maxRecDepth 100000

theorem own_empty4 (W : World) (B N size : Nat) (e : TypeId) (hN : N = W.heap.size) (hB : B ≤ W.heap.size) : (W.alloc (.cells #[] e)).ownsRow B e size (.slice (some ⟨N, 0, none⟩) 0 0) 0 [] := by
  subst hN
  exact World.ownsRow_lit (base := B) (e := e) (size := size) W #[] 0 hB (by unfold maxLen; omega) (by simp)
theorem heap_new_at (W : World) (o : Obj) (N : Nat) (hN : N = W.heap.size) : (W.alloc o).heap[N]? = some o := by
  subst hN
  exact heap_alloc_new W o
theorem heap_set_at {W : World} {b : Nat} {cs : Array Value} {t : TypeId} (h : W.heap[b]? = some (.cells cs t (0, 0))) (i : Nat) (u : Value) : (W.setCell ⟨b, i, none⟩ u).heap[b]? = some (.cells (cs.setIfInBounds i u) t (0, 0)) :=
  heap_setCell_same W b i cs t u h
theorem heap_set_other {W : World} {b k : Nat} (i : Nat) (u : Value) (h : k ≠ b) : (W.setCell ⟨b, i, none⟩ u).heap[k]? = W.heap[k]? := Below.heap_setCell _ _ _ _ (by simpa using h)

def CopiedPost4 (f : FrameP.Fr) (w : World) (e : Ending) (w' : World) : Prop := ∃ v, e = .returned v ∧ FrameAt w' v f ∧ Below w.heap.size w w'

/-- What keeps a message's bytes out of block g. -/
def Clear (g : Nat) (x : MsgC) : Prop := 0 < x.data.length → blockOf x.A ≠ some g

/-- Behind k of the messages: they lie in a row of the call's own, each with its bytes elsewhere. -/
structure CopyIn (B bx : Nat) (W : World) (cs : Option Addr → Nat → Array Value) (t : TypeId) (zs : Array Value) (P : List FrameP.Msg) (n g cap : Nat) (k : Nat) (l : List MsgC) (wr : World) : Prop where
  own : wr.ownsRow B 68 2 (.slice (some ⟨g, 0, none⟩) n cap) n (msgVals l)
  plain : l.map MsgC.plain = P
  ok : ∀ x ∈ l, MsgOk wr x ∧ Clear g x ∧ Clear bx x ∧ Clear (bx + 1) x
  box : wr.heap[bx]? = some (.cells (cs (some ⟨g, 0, none⟩) cap) t (0, 0))
  res : wr.heap[bx + 1]? = some (.cells zs t (0, 0))
  low : bx + 1 < B
  below : Below bx W wr
  hi : ∀ i y, i < k → l[i]? = some y → 0 < y.data.length → ∀ q, blockOf y.A = some q → bx ≤ q

theorem MsgOk.set {W : World} {y : MsgC} {g i : Nat} {u : Value} (h : MsgOk W y) (hc : Clear g y) : MsgOk (W.setCell ⟨g, i, none⟩ u) y := by
  refine ⟨h.len, h.cap_, h.most, fun hn => ?_, h.ports⟩
  obtain ⟨b, o, e, hb, hi⟩ := h.bytes hn
  refine ⟨b, o, e, by simpa [World.setCell] using hb, fun j c hj => ?_⟩
  rw [World.cell?_setCell_other W ⟨g, i, none⟩ ⟨b, o + j, none⟩ u (by
    intro e2
    injection e2 with e2 _ _
    exact hc hn (by rw [e, blockOf, e2]))]
  exact hi j c hj

theorem CopyIn.step {bx n g cap k : Nat} {W wr w2 : World} {cs : Option Addr → Nat → Array Value} {t : TypeId} {zs : Array Value} {P : List FrameP.Msg} {l : List MsgC} {port : Int} {A A2 : Option Addr} {m c c2 : Nat} {data : List UInt8} {g2 : Option Nat}
    (h : CopyIn (bx + 2) bx W cs t zs P n g cap k l wr) (hk : l[k]? = some ⟨port, A, m, c, data⟩) (hb : Below wr.heap.size wr w2) (hr : Row w2 (bx + 2) 5 g2 (.slice A2 data.length c2) data) (hg2 : ∀ q, g2 = some q → wr.heap.size ≤ q) (hd : data.length ≤ 140737488355328) :
    CopyIn (bx + 2) bx W cs t zs P n g cap (k + 1) (l.set k ⟨port, A2, data.length, c2, data⟩) (w2.setCell ⟨g, k * 2 + 1, none⟩ (.slice A2 data.length c2)) := by
  have hgl := h.own.lt g rfl
  have ho2 := own_apart (F := fun _ => False) h.own (Apart.of_below' hb) (fun _ _ h => h)
  have hst := (ho2.stored (k * 2 + 1) (.slice A2 data.length c2)).1
  rw [msgVals_set l k _ A2 data.length c2 data hk] at hst
  have hbyt : ∃ cap, c2 = cap ∧ data.length ≤ cap ∧ blockOf A2 = g2 ∧ Bytes w2 w2.heap.size A2 data := by
    obtain ⟨A', cap', e, h1, h2, h3⟩ := hr.bytes
    injection e with e1 e2 e3
    subst e1 e3
    exact ⟨_, rfl, h1, h2, h3⟩
  obtain ⟨_, rfl, hle, hbk, hby⟩ := hbyt
  have hok := h.ok _ (List.mem_of_getElem? hk)
  have hlow := h.low
  refine ⟨hst, by rw [plain_set l k _ A2 data.length c2 hk]; exact h.plain, fun y hy => ?_, ?_, ?_, h.low, ?_, ?_⟩
  · rcases List.mem_or_eq_of_mem_set hy with hy | rfl
    · obtain ⟨h1, h2, h3, h4⟩ := h.ok y hy
      exact ⟨(h1.below hb).set h2, h2, h3, h4⟩
    · have hcl : ∀ q, q < wr.heap.size → Clear q ⟨port, A2, data.length, c2, data⟩ := fun q hq _ e => by
        simp only at e
        rw [hbk] at e
        have := hg2 q e
        omega
      exact ⟨MsgOk.set ⟨rfl, hle, hd, hby, hok.1.ports⟩ (hcl g hgl.2), hcl g hgl.2, hcl bx (by omega), hcl (bx + 1) (by omega)⟩
  · rw [heap_set_other _ _ (by omega)]
    exact (hb.block bx (by omega)).trans h.box
  · rw [heap_set_other _ _ (by omega)]
    exact (hb.block (bx + 1) (by omega)).trans h.res
  · exact (h.below.trans (hb.mono (by omega))).setCell (by show bx ≤ g; omega) _
  · intro i y hi hy hd2 q hq
    by_cases hik : i = k
    · subst hik
      rw [List.getElem?_set_self (List.getElem?_eq_some_iff.1 hk).1] at hy
      obtain rfl := Option.some.inj hy
      simp only at hq
      rw [hbk] at hq
      have := hg2 q hq
      omega
    · rw [List.getElem?_set_ne (Ne.symm hik)] at hy
      exact h.hi i y (by omega) hy hd2 q hq

def CopyRel (bx : Nat) (W : World) (cs : Option Addr → Nat → Array Value) (t : TypeId) (zs : Array Value) (P : List FrameP.Msg) (n : Nat) (i : Value) (wr : World) : Prop :=
  ∃ k l g cap, k ≤ n ∧ i = .int .i64 (k : Nat) ∧ CopyIn (bx + 2) bx W cs t zs P n g cap k l wr
theorem row_empty (W : World) (B N : Nat) (e : TypeId) (hN : N = W.heap.size) (hB : B ≤ W.heap.size) : Row (W.alloc (.cells #[] e)) B e (some N) (.slice (some ⟨N, 0, none⟩) 0 0) [] := by
  subst hN
  exact Row.lit W B e hB

/-- .. in memory of its own. -/
def CopiedHi (f : FrameP.Fr) (w : World) (e : Ending) (w' : World) : Prop := ∃ y : FrameC, e = .returned y.value ∧ FrameIn w' y ∧ y.plain = f ∧ FrameHi w.heap.size y ∧ Below w.heap.size w w'
set_option maxHeartbeats 2000000 in
theorem copied_hi (x : FrameC) (w : World) (h : FrameIn w x) :
    Calls Try.prog 50 #[x.value] w (CopiedHi x.plain w) := by
  have HM := Lib.hid h.msgs
  have HR := Lib.hid h.recs
  have Hml := Lib.hid h.mlen
  have Hrl := Lib.hid h.rlen
  have Hty := Lib.hid h.typed
  have hm := h.mmost
  have hr := h.rmost
  have HF : Hid (∀ (MA : Option Addr) (mcap : Nat) (l : List MsgC) (RA : Option Addr) (rcap : Nat) (W : World), l.map MsgC.plain = x.msgs.map MsgC.plain → MsgsIn W MA l → RecsIn W RA x.recs → x.mn ≤ mcap → x.rn ≤ rcap → FrameHi w.heap.size ⟨x.sender, x.round, x.members, MA, x.mn, mcap, l, x.kind, x.key, x.val, x.old, RA, x.rn, rcap, x.recs⟩ → Below w.heap.size w W →
      CopiedHi x.plain w (.returned (FrameC.value ⟨x.sender, x.round, x.members, MA, x.mn, mcap, l, x.kind, x.key, x.val, x.old, RA, x.rn, rcap, x.recs⟩)) W) := Lib.hid fun MA mcap l RA rcap W hl h1 h2 h3 h4 h6 h5 => by
    have hp : FrameC.plain ⟨x.sender, x.round, x.members, MA, x.mn, mcap, l, x.kind, x.key, x.val, x.old, RA, x.rn, rcap, x.recs⟩ = x.plain := by simp only [FrameC.plain, hl]
    refine ⟨_, rfl, ⟨h1, ?_, h3, h.mmost, h2, h.rlen, h4, h.rmost, by rw [hp]; exact h.typed⟩, hp, h6, h5⟩
    have := congrArg List.length hl
    have h9 := h.mlen
    simp only [List.length_map] at this
    simp only
    omega
  clear h
  obtain ⟨sender, round, members, MA, mn, mcap, msgs, kind, key, val, old, RA, rn, rcap, recs⟩ := x
  simp only [FrameC.value] at HF ⊢
  simp only at HM HR Hml Hrl hm hr HF
  go_enter Try.func50, Try.ntmps50
  go_wp2_with (at_builtin
               refine wpList_append_s rfl (.tmp 4) (.tmp 6) _ rfl (w.heap.size + 2) 68 _ 2 32 Try.underlying39 infoM rfl (by omega) _ 0 [] rfl (own_empty4 _ (w.heap.size + 2) _ 2 _ (by simp) (by simp)) MA mn mcap (msgVals msgs) rfl (by rw [msgVals_length, Hml.out]) ?n1 (msgVals_one _) (by unfold maxLen; omega) (by omega) (by simp) ?_
               case n1 => go_loud (exact fun hn => (HM.out.below ((((Below.refl w.heap.size w).alloc (Nat.le_refl _) _).alloc (by simp) _).alloc (by simp <;> omega) _)).news (by rw [Hml.out]; exact hn))
               go_loud (intro v1 w1 ho1 ha1 hb1)
               have hz1 := ha1.size
               have ha2 : Apart (fun k => w.heap.size + 1 + 1 = k) _ w1 := ha1.mono (fun k _ e => Option.some.inj e)
               have hg1 : ∃ g, v1.ownBlock = some g ∧ w.heap.size + 2 ≤ g := by
                 rcases hb1 with e | e
                 · go_loud (exact ⟨_, e, by simp⟩)
                 · go_loud (exact ⟨_, e, by simp <;> omega⟩)
               obtain ⟨g, hg, hg2⟩ := hg1
               go_loud (obtain ⟨cap1, rfl, hcap, hgB, hgl⟩ := own_form ho1 hg)
               go_loud (have hbx := (ha2.block w.heap.size (by simp <;> omega) (by omega)).trans ((Below.heap_alloc _ _ _ (by simp <;> omega)).trans ((Below.heap_alloc _ _ _ (by simp)).trans (heap_alloc_new w _))))
               go_loud (have hrs := (ha2.block (w.heap.size + 1) (by simp) (by omega)).trans ((Below.heap_alloc _ _ _ (by simp)).trans (heap_new_at _ _ _ (by simp))))
               go_loud (have kb := cell_at hbx 3 rfl)
               have fb := free_at hbx 3
               go_loud (have hbl : Below w.heap.size w w1 := ((((Below.refl w.heap.size w).alloc (Nat.le_refl _) _).alloc (by simp) _).alloc (by simp <;> omega) _).trans (ha2.below (by simp <;> omega) (fun k hk => by omega)))
               have HC : Hid (CopyIn (w.heap.size + 2) w.heap.size w (fun A c => #[.int .u8 (sender : Nat), .int .u32 (round : Nat), .int .u8 (members : Nat), .slice A mn c, .int .u8 (kind : Nat), .int .u8 (key : Nat), .int .u16 (val : Nat), .int .u16 (old : Nat), .slice RA rn rcap]) 116 #[.int .u8 0, .int .u32 0, .int .u8 0, .slice none 0 0, .int .u8 0, .int .u8 0, .int .u16 0, .int .u16 0, .slice none 0 0] (msgs.map MsgC.plain) mn g cap1 0 msgs (w1.setCell ⟨w.heap.size, 3, none⟩ (.slice (some ⟨g, 0, none⟩) (0 + mn) cap1))) := Lib.hid (by
                 have hap : Below w.heap.size w (w1.setCell ⟨w.heap.size, 3, none⟩ (.slice (some ⟨g, 0, none⟩) (0 + mn) cap1)) := hbl.setCell (by simp) _
                 refine ⟨?_, rfl, fun y hy => ?_, ?_, ?_, by omega, hap, fun i y hi => by omega⟩
                 · have h9 := ownsRow_setCell_other ho1 (a := ⟨w.heap.size, 3, none⟩) (by simp [Value.ownBlock]; omega) (.slice (some ⟨g, 0, none⟩) (0 + mn) cap1)
                   simpa only [Nat.zero_add, List.nil_append] using h9
                 · obtain ⟨i, hi⟩ := List.getElem?_of_mem hy
                   obtain ⟨b, off, -, hb, hat⟩ := HM.out (List.length_pos_of_mem hy)
                   have ok := (hat i y hi).ok
                   have hcl : ∀ k, w.heap.size ≤ k → Clear k y := fun k hk hd e => by
                     obtain ⟨b2, o2, e2, hb2, _⟩ := ok.bytes hd
                     rw [e2] at e
                     simp [blockOf] at e
                     omega
                   exact ⟨ok.below hap, hcl g (by omega), hcl _ (by omega), hcl _ (by omega)⟩
                 · rw [heap_set_at hbx]
                   simp
                 · rw [heap_set_other _ _ (by omega), hrs])
               clear hbx hrs hbl ho1 ha1 ha2 hb1)
  go_loopw [3] (CopyRel w.heap.size w (fun A c => #[.int .u8 (sender : Nat), .int .u32 (round : Nat), .int .u8 (members : Nat), .slice A mn c, .int .u8 (kind : Nat), .int .u8 (key : Nat), .int .u16 (val : Nat), .int .u16 (old : Nat), .slice RA rn rcap]) 116 #[.int .u8 0, .int .u32 0, .int .u8 0, .slice none 0 0, .int .u8 0, .int .u8 0, .int .u16 0, .int .u16 0, .slice none 0 0] (msgs.map MsgC.plain) mn) (fun i _ => (mn + 1 - intOf i).toNat)
  case atStart => exact ⟨0, msgs, g, cap1, Nat.zero_le _, rfl, by have h9 := HC.out; rw [Nat.zero_add] at h9; exact h9⟩
  case round =>
    clear HC kb fb hg
    obtain ⟨k, l, g, cap, hk, rfl, hc⟩ := hrel
    have kb := cell_at hc.box 3 rfl
    have HC := Lib.hid hc
    have hll : l.length = mn := by have h9 := hc.own.1; rw [msgVals_length] at h9; omega
    clear hc
    by_cases hlt : k < mn
    · obtain ⟨⟨port, A, m, c, data⟩, hmk⟩ : ∃ y, l[k]? = some y := ⟨_, List.getElem?_eq_getElem (by omega)⟩
      have kd := (World.ownsRow.cellAt HC.out.own (k * 2 + 1) (by omega)).trans (msgVals_at l k _ hmk).2
      have fd := World.ownsRow.frozenAt HC.out.own (k * 2 + 1)
      obtain ⟨⟨ok1, ok2, ok3, ok4, ok5⟩, -⟩ := HC.out.ok _ (List.mem_of_getElem? hmk)
      simp only at kd ok1 ok2 ok3 ok4 ok5
      have Hok1 := Lib.hid ok1
      have Hok4 := Lib.hid ok4
      have Hmk := Lib.hid hmk
      have Hll := Lib.hid hll
      have hlow := HC.out.low
      have hgl := (HC.out.own.lt g rfl)
      have hbs : w.heap.size < wr.heap.size := by omega
      have hgs : g < wr.heap.size := hgl.2
      clear ok1 ok4 hmk hll
      go_wp2_with fail
      have Hdm : Hid (data.length ≤ 140737488355328) := Lib.hid (by rw [Hok1.out]; exact ok3)
      go_region_law (
                     refine step_append_r rfl (.tmp 19) (.tmp 25) _ rfl (w.heap.size + 2) 5 (.int .u8 0) Try.underlying44 infoB rfl _ _ [] rfl (row_empty wr (w.heap.size + 2) wr.heap.size _ rfl (by omega)).drew _ A m c data rfl Hok1.out (Hok4.out.alloc (Nat.le_refl _) _).drew (by simp; omega) (by simp; omega) ?_
                     intro v2 w2 g2 hr2 hm2 ha2
                     rw [List.nil_append] at hr2
                     obtain ⟨A2, c2, rfl, -, -, -⟩ := hr2.bytes
                     have hb2 : Below wr.heap.size wr w2 := ((Below.refl wr.heap.size wr).alloc (Nat.le_refl _) _).drew.trans (ha2.below (by simp) (fun q e => Nat.le_of_eq (Option.some.inj e)))
                     have k2 := (hb2.cell (p := ⟨w.heap.size, 3, none⟩) hbs).trans kb
                     have kd2 := (hb2.cell (p := ⟨g, k * 2 + 1, none⟩) hgs).trans kd
                     have fd2 := (hb2.frozen (p := ⟨g, k * 2 + 1, none⟩) hgs).trans fd
                     have HN := Lib.hid (HC.out.step Hmk.out hb2 hr2 (fun q hq => by
                       rcases hm2 with e | ⟨q', e, hq'⟩
                       · rw [e] at hq
                         exact Nat.le_of_eq (Option.some.inj hq)
                       · rw [e] at hq
                         have h7 := Option.some.inj hq
                         simp at hq'
                         omega) Hdm.out)
                     clear hr2 hm2 ha2 hb2)
      all_goals
        go_wp2_with fail
        go_roundw
        case rel => exact ⟨k + 1, _, g, cap, by omega, by go_num, HN.out⟩
        case measure => simp [intOf]; omega
    · have hkn : mn = k := by omega
      subst hkn
      have hgl := HC.out.own.lt g rfl
      have hlow := HC.out.low
      have hbs : w.heap.size < wr.heap.size := by omega
      have hbs1 : w.heap.size + 1 < wr.heap.size := by omega
      have Hll := Lib.hid hll
      have kb8 := cell_at HC.out.box 8 rfl
      clear hll
      go_wp2_with (at_builtin
                   refine wpList_append_s rfl (.tmp 29) (.tmp 31) _ rfl (w.heap.size + 2) 150 _ 5 8 Try.underlying114 infoR4 rfl (by omega) _ 0 [] rfl (own_empty4 wr (w.heap.size + 2) wr.heap.size 5 _ rfl (by omega)) RA rn rcap (recsVals recs) rfl (by rw [recsVals_length, Hrl.out]) ?n2 (recsVals_one _) (by unfold maxLen; omega) (by omega) (by simp; omega) ?_
                   case n2 => exact fun hn => (HR.out.below ((HC.out.below.alloc (Nat.le_of_lt hbs) _))).news (by rw [Hrl.out]; exact hn)
                   intro v3 w3 ho3 ha3 hb3
                   have hb4 : Below wr.heap.size wr w3 := ((Below.refl wr.heap.size wr).alloc (Nat.le_refl _) _).trans (ha3.below (by simp) (fun q e => Nat.le_of_eq (Option.some.inj e)))
                   rw [Nat.zero_add, List.nil_append] at ho3
                   have hg3 : ∃ g3, v3.ownBlock = some g3 ∧ wr.heap.size ≤ g3 := by
                     rcases hb3 with e | e
                     · exact ⟨wr.heap.size, e, Nat.le_refl _⟩
                     · exact ⟨_, e, by simp⟩
                   obtain ⟨g3, hg3, hg4⟩ := hg3
                   obtain ⟨cap3, rfl, hcap3, -, hgl3⟩ := own_form ho3 hg3
                   have hbx3 := (hb4.block w.heap.size hbs).trans HC.out.box
                   have hrs3 := (hb4.block (w.heap.size + 1) hbs1).trans HC.out.res
                   have b0 := cell_at hbx3 0 rfl
                   have b1 := cell_at hbx3 1 rfl
                   have b2 := cell_at hbx3 2 rfl
                   have b3 := cell_at hbx3 3 rfl
                   have b4 := cell_at hbx3 4 rfl
                   have b5 := cell_at hbx3 5 rfl
                   have b6 := cell_at hbx3 6 rfl
                   have b7 := cell_at hbx3 7 rfl
                   have b8 := cell_at hbx3 8 rfl
                   have fb := fun i => free_at hbx3 i
                   have r0 := cell_at hrs3 0 rfl
                   have r1 := cell_at hrs3 1 rfl
                   have r2 := cell_at hrs3 2 rfl
                   have r3 := cell_at hrs3 3 rfl
                   have r4 := cell_at hrs3 4 rfl
                   have r5 := cell_at hrs3 5 rfl
                   have r6 := cell_at hrs3 6 rfl
                   have r7 := cell_at hrs3 7 rfl
                   have r8 := cell_at hrs3 8 rfl
                   have fr := fun i => free_at hrs3 i
                   have Ho3 := Lib.hid ho3
                   have Hrs3 := Lib.hid hrs3
                   have Hb4 := Lib.hid hb4
                   clear ho3 ha3 hb3 hb4 hbx3 hrs3 hg3)
      clear b0 b1 b2 b3 b4 b5 b6 b7 b8 r0 r1 r2 r3 r4 r5 r6 r7 r8 fb fr
      show bodyPost _ _ _ _ _ (storeAll (w3.setCell ⟨w.heap.size, 8, none⟩ (.slice (some ⟨g3, 0, none⟩) rn cap3)) (w.heap.size + 1) [.int .u8 (sender : Nat), .int .u32 (round : Nat), .int .u8 (members : Nat), .slice (some ⟨g, 0, none⟩) mn cap, .int .u8 (kind : Nat), .int .u8 (key : Nat), .int .u16 (val : Nat), .int .u16 (old : Nat), .slice (some ⟨g3, 0, none⟩) rn cap3] 0)
      have hfin := storeAll_heap (b := w.heap.size + 1) (t := 116) [.int .u8 (sender : Nat), .int .u32 (round : Nat), .int .u8 (members : Nat), .slice (some ⟨g, 0, none⟩) mn cap, .int .u8 (kind : Nat), .int .u8 (key : Nat), .int .u16 (val : Nat), .int .u16 (old : Nat), .slice (some ⟨g3, 0, none⟩) rn cap3] 0 (w3.setCell ⟨w.heap.size, 8, none⟩ (.slice (some ⟨g3, 0, none⟩) rn cap3)) [] _ ((heap_set_other 8 _ (by omega)).trans Hrs3.out) rfl rfl
      have hap : Apart (fun k => k = w.heap.size ∨ k = w.heap.size + 1) w3 _ := ((Apart.refl _ w3).setCell (p := ⟨w.heap.size, 8, none⟩) (.inl (.inl rfl)) (.slice (some ⟨g3, 0, none⟩) rn cap3)).trans (storeAll_apart (w.heap.size + 1) [.int .u8 (sender : Nat), .int .u32 (round : Nat), .int .u8 (members : Nat), .slice (some ⟨g, 0, none⟩) mn cap, .int .u8 (kind : Nat), .int .u8 (key : Nat), .int .u16 (val : Nat), .int .u16 (old : Nat), .slice (some ⟨g3, 0, none⟩) rn cap3] 0 _) (fun k e => .inl (.inr e))
      generalize storeAll (w3.setCell ⟨w.heap.size, 8, none⟩ (.slice (some ⟨g3, 0, none⟩) rn cap3)) (w.heap.size + 1) [.int .u8 (sender : Nat), .int .u32 (round : Nat), .int .u8 (members : Nat), .slice (some ⟨g, 0, none⟩) mn cap, .int .u8 (kind : Nat), .int .u8 (key : Nat), .int .u16 (val : Nat), .int .u16 (old : Nat), .slice (some ⟨g3, 0, none⟩) rn cap3] 0 = Wf at *
      rw [List.nil_append] at hfin
      have r0 := cell_at hfin 0 rfl
      have r1 := cell_at hfin 1 rfl
      have r2 := cell_at hfin 2 rfl
      have r3 := cell_at hfin 3 rfl
      have r4 := cell_at hfin 4 rfl
      have r5 := cell_at hfin 5 rfl
      have r6 := cell_at hfin 6 rfl
      have r7 := cell_at hfin 7 rfl
      have r8 := cell_at hfin 8 rfl
      have HFin : Hid (CopiedHi (FrameC.plain ⟨sender, round, members, MA, mn, mcap, msgs, kind, key, val, old, RA, rn, rcap, recs⟩) w (.returned (FrameC.value ⟨sender, round, members, some ⟨g, 0, none⟩, mn, cap, l, kind, key, val, old, some ⟨g3, 0, none⟩, rn, cap3, recs⟩)) Wf) := Lib.hid (by
        have hbw : Below w.heap.size w Wf := (HC.out.below.trans (Hb4.out.mono (by omega))).trans (hap.below (by have := Hb4.out.size; omega) (fun k e => by rcases e with e | e <;> omega))
        have hw3 : Below wr.heap.size wr w3 := Hb4.out
        have ho4 := own_apart (own_apart (F := fun _ => False) HC.out.own (Apart.of_below' hw3) (fun _ _ h => h)) hap (fun q e => by have h7 : g = q := Option.some.inj e; omega)
        have ho5 := own_apart Ho3.out hap (fun q e => by have h7 : g3 = q := Option.some.inj e; omega)
        have hl9 := Hll.out
        have hr9 := Hrl.out
        subst hl9
        subst hr9
        obtain ⟨A6, c6, e6, hle6, hin6⟩ := MsgsIn.own ho4 (fun y hy => by
          obtain ⟨h1, h2, h3, h4⟩ := HC.out.ok y hy
          have h5 := h1.below hw3
          refine ⟨h5.len, h5.cap_, h5.most, ?_, h5.ports⟩
          refine (h5.bytes.apart0 hap (Nat.le_refl _) (fun hn q hq e => ?_)).more hap.size
          rcases e with e | e
          · exact h3 hn (by rw [hq, e])
          · exact h4 hn (by rw [hq, e]))
        obtain ⟨A7, c7, e7, hle7, hin7⟩ := RecsIn.own ho5
        injection e6 with e61 e62 e63
        injection e7 with e71 e72 e73
        subst e61 e63 e71 e73
        refine HF.out _ _ _ _ _ Wf HC.out.plain hin6 hin7 hle6 hle7 ⟨fun hn q hq => ?_, fun y hy hn q hq => ?_, fun hn q hq => ?_⟩ hbw
        · have := (ho4.lt q hq).1; omega
        · obtain ⟨i, hi⟩ := List.getElem?_of_mem hy
          exact HC.out.hi i y (List.getElem?_eq_some_iff.1 hi).1 hi hn q hq
        · have := (ho5.lt q hq).1; omega)
      refine bodyPost_ret (v := FrameC.value ⟨sender, round, members, some ⟨g, 0, none⟩, mn, cap, l, kind, key, val, old, some ⟨g3, 0, none⟩, rn, cap3, recs⟩) (by simp [results, Try.results50, go_sem, FrameC.value, r0, r1, r2, r3, r4, r5, r6, r7, r8]) rfl ?_
      exact HFin.out
theorem copied_all (x : FrameC) (w : World) (h : FrameIn w x) : Calls Try.prog 50 #[x.value] w (CopiedPost4 x.plain w) :=
  (copied_hi x w h).mono fun _ _ ⟨y, h1, h2, h3, _, h5⟩ => ⟨_, h1, ⟨y, rfl, h2, h3⟩, h5⟩
theorem copied_any4 (x : FrameC) (w : World) (h : FrameIn w x) (_ : x.mn ≤ 1000000) (_ : x.rn ≤ 1000000) : Calls Try.prog 50 #[x.value] w (CopiedPost4 x.plain w) := copied_all x w h
end Go.Proofs.Ytdeodoppcflgfaa
