/- Puts into a Writer, one behind the other (PutIn); the contract of table's closure that puts numbers. Conditions: where the Writer lies; it holds at most 100000000 bytes. · Contract of table's Encode at tables in memory. Conditions: where its lists lie. -/
import Derived.Test.YtgceleipaiameaaTbD
import Derived.Test.YtgceleipaiameaaErrA1
import Derived.Test.YtgceleipaiameaaCrcE
import Derived.Test.YtgceleipaiameaaTxtO
namespace Go.Proofs.Ytgceleipaiameaa
open Go.RowKit
set_option maxRecDepth 100000

/-- Behind puts into a Writer: what it holds then. -/
def PutIn (B bw : Nat) (g : Option Nat) (l d : List UInt8) (w w' : World) : Prop :=
  ∃ g', WriterAt w' B bw g' (l ++ d) ∧ Moved w g g' ∧ Apart (WF bw g) w w'

theorem WriterAt.alloc {w : World} {B bw : Nat} {g : Option Nat} {l : List UInt8} (h : WriterAt w B bw g l) (o : Obj) : WriterAt (w.alloc o) B bw g l :=
  h.apart (F := fun _ => False) ((Apart.refl _ _).alloc o) (fun h => h) (fun _ _ h => h)
theorem PutIn.start {B bw : Nat} {g : Option Nat} {l : List UInt8} {w : World} (h : WriterAt w B bw g l) : PutIn B bw g l [] w w :=
  ⟨g, by simpa using h, Moved.refl _ _, Apart.refl _ _⟩
theorem PutIn.join {B bw : Nat} {g g1 : Option Nat} {l d1 d2 : List UInt8} {w w1 w2 : World} (hm : Moved w g g1) (ha : Apart (WF bw g) w w1) (h : PutIn B bw g1 (l ++ d1) d2 w1 w2) : PutIn B bw g l (d1 ++ d2) w w2 := by
  obtain ⟨g', h2, h3, h4⟩ := h
  refine ⟨g', by rw [← List.append_assoc]; exact h2, hm.trans h3 ha.size, ha.trans h4 ?_⟩
  rintro k (rfl | rfl)
  · exact .inl (.inl rfl)
  · rcases hm with e1 | ⟨k', e1, e2⟩
    · exact .inl (.inr e1.symm)
    · injection e1 with e1
      exact .inr (by omega)
theorem PutIn.unalloc {B bw : Nat} {g : Option Nat} {l d : List UInt8} {w w2 : World} {o : Obj} (hi : PutIn B bw g l d (w.alloc o) w2) : PutIn B bw g l d w w2 := by
  have h := PutIn.join (l := l) (d1 := []) (w := w) (w1 := w.alloc o) (Moved.refl w g) ((Apart.refl _ _).alloc o) (by simpa using hi)
  simpa using h
theorem PutIn.done {B bw : Nat} {g : Option Nat} {l d more : List UInt8} {w w2 : World} {o : Obj} (hi : PutIn B bw g l d (w.alloc o) w2) (he : d = more) : PutPost B bw g l more w (.returned (.tuple #[])) w2 := by
  subst he
  have h := PutIn.join (l := l) (d1 := []) (w := w) (w1 := w.alloc o) (Moved.refl w g) ((Apart.refl _ _).alloc o) (by simpa using hi)
  obtain ⟨g', h1, h2, h3⟩ := h
  exact ⟨g', rfl, by simpa using h1, h2, h3⟩
theorem PutIn.post {B bw : Nat} {g : Option Nat} {l d more : List UInt8} {w w2 : World} (hi : PutIn B bw g l d w w2) (he : d = more) : PutPost B bw g l more w (.returned (.tuple #[])) w2 := by
  subst he
  obtain ⟨g', h1, h2, h3⟩ := hi
  exact ⟨g', rfl, h1, h2, h3⟩
theorem PutIn.below {B bw : Nat} {g : Option Nat} {l d : List UInt8} {w w' : World} (hi : PutIn B bw g l d w w') (h : WriterAt w B bw g l) (hB : B ≤ w.heap.size) : Below B w w' := by
  obtain ⟨g', _, _, h3⟩ := hi
  refine h3.below hB ?_
  rintro k (rfl | e)
  · exact h.1
  · exact (h.glt k e).1
theorem PutIn.size {B bw : Nat} {g : Option Nat} {l d : List UInt8} {w w' : World} (hi : PutIn B bw g l d w w') : w.heap.size ≤ w'.heap.size := by
  obtain ⟨g', _, _, h3⟩ := hi
  exact h3.size
/-- What was boxed ahead of the puts. -/
theorem box_keep {B bw : Nat} {g : Option Nat} {l d : List UInt8} {w w' : World} {cs : Array Value} {t : TypeId} (h : WriterAt w B bw g l) (hi : PutIn B bw g l d (w.alloc (.cells cs t)) w') (i : Nat) {v : Value} (hv : cs[i]? = some v) : w'.cell? ⟨w.heap.size, i, none⟩ = some v := by
  obtain ⟨g', _, _, h3⟩ := hi
  have h0 : (w.alloc (.cells cs t)).heap[w.heap.size]? = some (.cells cs t (0, 0)) := heap_alloc_new w _
  refine (h3.cell (p := ⟨w.heap.size, i, none⟩) (by simp) ?_).trans ?_
  · rintro (e | e)
    · have := h.lt
      simp at e
      omega
    · have := (h.glt _ e).2
      simp at this
  · unfold World.cell?
    simp only [h0]
    exact hv

theorem PutIn.put {B bw : Nat} {g : Option Nat} {l d : List UInt8} {W w : World} (h : PutIn B bw g l d W w) (n : Nat) (s : Int) (hn : n < 4294967296) (hlen : l.length + d.length ≤ 100000000) (hB : B ≤ W.heap.size) :
    Calls Try.prog 22 #[.pointer (some ⟨bw, 0, none⟩), .int .u32 n, .int .i64 s] w fun e w' => e = .returned (.tuple #[]) ∧ PutIn B bw g l (d ++ WireP.put n s) W w' := by
  obtain ⟨g1, h1, h2, h3⟩ := h
  refine (put_any bw B g1 (l ++ d) n s hn w (by rw [List.length_append]; omega) (Nat.le_trans hB h3.size) h1).mono ?_
  rintro e w' ⟨g2, rfl, h4, h5, h6⟩
  exact ⟨rfl, PutIn.join h2 h3 ⟨g2, h4, h5, h6⟩⟩

theorem PutIn.call {B bw : Nat} {g : Option Nat} {l d more : List UInt8} {W w : World} {K : FuncId} {args : Array Value} (h : PutIn B bw g l d W w) (hc : ∀ g1, WriterAt w B bw g1 (l ++ d) → Calls Try.prog K args w (PutPost B bw g1 (l ++ d) more w)) :
    Calls Try.prog K args w fun e w' => e = .returned (.tuple #[]) ∧ PutIn B bw g l (d ++ more) W w' := by
  obtain ⟨g1, h1, h2, h3⟩ := h
  refine (hc g1 h1).mono ?_
  rintro e w' ⟨g2, rfl, h4, h5, h6⟩
  exact ⟨rfl, PutIn.join h2 h3 ⟨g2, h4, h5, h6⟩⟩

theorem put_num (n s : Nat) (hs : s = 1 ∨ s = 4) : WireP.put n (s : Int) = WireP.num n s := by
  unfold WireP.put
  rw [if_pos (by omega), Int.toNat_natCast]
/-- Numbers' bytes, in so many each. -/
def nums (s : Nat) (l : List Nat) : List UInt8 := l.flatMap (fun x => WireP.num x s)
theorem nums_take {s : Nat} {l : List Nat} {k x : Nat} (h : l[k]? = some x) : nums s (l.take (k + 1)) = nums s (l.take k) ++ WireP.num x s := by
  rw [List.take_add_one, h]
  simp [nums]
theorem nums_length (s : Nat) : ∀ (l : List Nat), (nums s l).length = l.length * s
  | [] => by simp [nums]
  | x :: l => by
    have := nums_length s l
    simp only [nums, List.flatMap_cons, List.length_append, List.length_cons, WireP.num_length] at this ⊢
    rw [this, Nat.succ_mul, Nat.add_comm]

def AllRel (B bw : Nat) (g : Option Nat) (l : List UInt8) (s : Nat) (xs : List Nat) (n : Nat) (w1 : World) (i : Value) (wr : World) : Prop :=
  ∃ k, k ≤ n ∧ i = .int .i64 (k : Nat) ∧ PutIn B bw g l (nums s (xs.take k)) w1 wr

set_option maxHeartbeats 1000000 in
theorem putAll_at (B bw : Nat) (g : Option Nat) (l : List UInt8) (s : Nat) (hs : s = 1 ∨ s = 4) (xs : List Nat) (hx : ∀ x ∈ xs, x < 4294967296) (n cap N : Nat) (hn : xs.length = n) (w w1 : World) (hN : N = w.heap.size) (cs : Array Value) (t : TypeId) (hcs : cs = (xs.map (fun x => Value.int .i64 (x : Nat))).toArray) (hw1 : w1 = w.alloc (.cells cs t))
    (hlen : l.length + 4 * n ≤ 100000000) (hB : B ≤ w.heap.size) (h : WriterAt w B bw g l) :
    Calls Try.prog 21 #[.int .i64 (s : Nat), .slice (some ⟨N, 0, none⟩) n cap, .pointer (some ⟨bw, 0, none⟩)] w1 (PutPost B bw g l (nums s xs) w1) := by
  have h1 : WriterAt w1 B bw g l := by rw [hw1]; exact h.alloc _
  have hb1 : B ≤ w1.heap.size := by rw [hw1]; simp; omega
  have hc : w1.heap[N]? = some (.cells cs t (0, 0)) := by rw [hw1, hN]; exact heap_alloc_new w _
  have hnb : ∀ k, WF bw g k → k ≠ N := by
    rintro k (rfl | e) e2
    · have := h.lt; omega
    · have := (h.glt k e).2; omega
  have hNl : N < w1.heap.size := lt_of_block hc
  have HCell : Hid (∀ wr d, PutIn B bw g l d w1 wr → ∀ k x, xs[k]? = some x → wr.cell? ⟨N, k, none⟩ = some (.int .i64 (x : Nat))) := Lib.hid fun wr d hi k x hk => by
    obtain ⟨g', _, _, ha⟩ := hi
    refine cell_at ((ha.block N hNl (fun e => hnb N e rfl)).trans hc) k ?_
    rw [hcs]
    simp [hk]
  have H := Lib.hid h1
  have HB := Lib.hid hb1
  have Hx := Lib.hid hx
  have Hn := Lib.hid hn
  have h0 := Lib.hid (PutIn.start h1)
  have hN0 := Lib.hid hN
  clear hw1 hcs h h1 hc hnb hNl hx hn hN hb1
  go_enter Try.func21, Try.ntmps21
  go_wp2_with fail
  go_loopw [9] (AllRel B bw g l s xs n w1) (fun i _ => (n + 1 - intOf i).toNat)
  case atStart => exact ⟨0, Nat.zero_le _, rfl, h0.out⟩
  case round =>
    clear h0
    obtain ⟨k, hk, rfl, hi⟩ := hrel
    have HI := Lib.hid hi
    clear hi
    by_cases hlt : k < n
    · obtain ⟨x, hxk⟩ : ∃ x, xs[k]? = some x := ⟨_, List.getElem?_eq_getElem (by rw [Hn.out]; exact hlt)⟩
      have kc := HCell.out wr _ HI.out k x hxk
      have hx4 := Hx.out x (List.mem_of_getElem? hxk)
      have hxm : (x : Int) % 4294967296 = x := by omega
      have HT := Lib.hid (nums_take (s := s) hxk)
      have HP := Lib.hid (HI.out.put x (s : Nat) hx4 (by
        rw [nums_length, List.length_take]
        have : min k xs.length * s ≤ n * 4 := Nat.mul_le_mul (by rw [Hn.out]; omega) (by omega)
        omega) HB.out)
      clear hxk hx4
      go_wp2_with fail
      refine HP.out.mono ?_
      rintro e w2 ⟨rfl, hi2⟩
      have HI2 : Hid (PutIn B bw g l (nums s (xs.take (k + 1))) w1 w2) := Lib.hid (by rw [HT.out, ← put_num x s hs]; exact hi2)
      clear hi2
      go_wp2_with fail
      go_roundw
      case rel => exact ⟨k + 1, by omega, by go_num, HI2.out⟩
      case measure => simp [intOf]; omega
    · have hkn : n = k := by omega
      subst hkn
      have HF : Hid (PutPost B bw g l (nums s xs) w1 (.returned (.tuple #[])) wr) := Lib.hid (HI.out.post (by rw [List.take_of_length_le (by rw [Hn.out]; exact Nat.le_refl _)]))
      go_wp2_with fail
      go_end0
      exact HF.out

/-- The closure, over what was put before; its numbers just laid. -/
theorem PutIn.all {B bw : Nat} {g : Option Nat} {l d : List UInt8} {W w : World} (h : PutIn B bw g l d W w) (s : Nat) (hs : s = 1 ∨ s = 4) (xs : List Nat) (hx : ∀ x ∈ xs, x < 4294967296) (n cap N : Nat) (hn : xs.length = n) (hN : N = w.heap.size) (cs : Array Value) (t : TypeId) (hcs : cs = (xs.map (fun x => Value.int .i64 (x : Nat))).toArray)
    (hlen : l.length + d.length + 4 * n ≤ 100000000) (hB : B ≤ W.heap.size) :
    Calls Try.prog 21 #[.int .i64 (s : Nat), .slice (some ⟨N, 0, none⟩) n cap, .pointer (some ⟨bw, 0, none⟩)] (w.alloc (.cells cs t)) fun e w' => e = .returned (.tuple #[]) ∧ PutIn B bw g l (d ++ nums s xs) W w' := by
  obtain ⟨g1, h1, h2, h3⟩ := h
  refine (putAll_at B bw g1 (l ++ d) s hs xs hx n cap N hn w _ hN cs t hcs rfl (by rw [List.length_append]; omega) (Nat.le_trans hB h3.size) h1).mono ?_
  rintro e w' ⟨g2, rfl, h4, h5, h6⟩
  have h7 : PutIn B bw g1 (l ++ d) (nums s xs) w w' := PutIn.unalloc ⟨g2, h4, h5, h6⟩
  exact ⟨rfl, PutIn.join h2 h3 h7⟩
end Go.Proofs.Ytgceleipaiameaa
namespace Go.Proofs.Ytgceleipaiameaa
open Go.RowKit
set_option maxRecDepth 100000

/-- What is told of tables that may not be. -/
def EncBad (c : FrameP.Wrong) (w : World) (e : Ending) (w' : World) : Prop :=
  ∃ b, e = .returned (.tuple #[.slice none 0 0, .iface 71 (.pointer (some ⟨b, 0, none⟩))]) ∧ ErrTextK 5 w' (.iface 71 (.pointer (some ⟨b, 0, none⟩))) (overT 60 (-1) (wrongT (some c))) ∧ Below w.heap.size w w'
/-- An image, sealed, in new memory. -/
def EncGood (f : TableP.Cfg) (w : World) (e : Ending) (w' : World) : Prop :=
  ∃ v g, e = .returned (.tuple #[v, .nilIface]) ∧ Row w' w.heap.size 5 g v (CrcP.seal4 (TableP.enc f)) ∧ Below w.heap.size w w'

theorem SealPost.row {l : List UInt8} {W w' : World} {e : Ending} (h : SealPost l W e w') : ∃ v g, e = .returned v ∧ Row w' W.heap.size 5 g v (CrcP.seal4 l) ∧ Below W.heap.size W w' := by
  obtain ⟨v, h1, h2, h3⟩ := h
  exact ⟨v, _, h1, ⟨rfl, by rw [seal4_len]; exact h2⟩, h3⟩
theorem wrongT_ne (c : FrameP.Wrong) : wrongT (some c) ≠ [] := by
  simp [wrongT, atT]

theorem encode_bad (x : CfgC) (w : World) (h : CfgIn w x) (c : FrameP.Wrong) (hc : TableP.chk x.plain = some c) :
    Calls Try.prog 11 #[x.value] w (EncBad c w) := by
  have HB0 := Lib.hid (boxC_below w x)
  have HS0 := Lib.hid (boxC_size w x)
  have HC : Hid (∀ W, CfgIn W x → Calls Try.prog 14 #[x.value] W (CheckPost (some c) W)) := Lib.hid fun W hW => by rw [← hc]; exact check_any x W hW
  have HFr := Lib.hid (h.below (boxC_below w x))
  clear h hc
  obtain ⟨nodes, faulty, slot, gap, rho, dmin, dmax, margin, PA, pn, pcap, parts, QA, qn, qcap, ports, RA, rn, rcap, routes⟩ := x
  simp only [CfgC.value] at HC ⊢
  simp only [boxC, cfgCells] at HB0 HS0 HFr
  go_enter Try.func11, Try.ntmps11
  go_wp2_with fail
  refine (HC.out _ HFr.out).mono ?_
  rintro e w1 ⟨v, rfl, h1, ⟨b, rfl⟩, h3⟩
  have HF : Hid (EncBad c w (.returned (.tuple #[.slice none 0 0, .iface 71 (.pointer (some ⟨w1.heap.size, 0, none⟩))])) (w1.alloc (.cells #[.int .i64 60, .int .i64 (-1), .iface 71 (.pointer (some ⟨b, 0, none⟩))] 73))) := Lib.hid (by
    refine ⟨_, rfl, ?_, (HB0.out.trans (h3.mono (by rw [HS0.out]; omega))).alloc (by have := h3.size; rw [HS0.out] at this; omega) _⟩
    have h4 := ErrTextK.wrap h1 60 (-1) (by omega) (by omega)
    rw [overT, if_neg (wrongT_ne c)]
    exact h4)
  have HW := Lib.hid (wrap_F 60 (-1) b w1 rfl)
  rw [place_of (-1) (by omega)] at HW
  clear h1 h3
  go_wp2_with fail
  refine HW.out.mono ?_
  rintro e w2 ⟨rfl, rfl⟩
  go_wp2_with fail
  go_ret2
  exact HF.out

theorem PutIn.alloc {B bw : Nat} {g : Option Nat} {l d : List UInt8} {W w : World} (h : PutIn B bw g l d W w) (o : Obj) : PutIn B bw g l d W (w.alloc o) := by
  obtain ⟨g1, h1, h2, h3⟩ := h
  exact ⟨g1, h1.alloc o, h2, h3.alloc o⟩
theorem partsB_take {l : List TableP.Part} {k : Nat} {x : TableP.Part} (h : l[k]? = some x) : TableP.partsB (l.take (k + 1)) = TableP.partsB (l.take k) ++ TableP.partB x := by
  have snoc : ∀ (l : List TableP.Part) (m : TableP.Part), TableP.partsB (l ++ [m]) = TableP.partsB l ++ TableP.partB m := fun l m => by
    induction l with
    | nil => simp [TableP.partsB]
    | cons x l ih => simp [TableP.partsB, ih]
  rw [List.take_add_one, h]
  exact snoc _ _
theorem portsB_take {l : List TableP.Port} {k : Nat} {x : TableP.Port} (h : l[k]? = some x) : TableP.portsB (l.take (k + 1)) = TableP.portsB (l.take k) ++ TableP.portB x := by
  have snoc : ∀ (l : List TableP.Port) (m : TableP.Port), TableP.portsB (l ++ [m]) = TableP.portsB l ++ TableP.portB m := fun l m => by
    induction l with
    | nil => simp [TableP.portsB]
    | cons x l ih => simp [TableP.portsB, ih]
  rw [List.take_add_one, h]
  exact snoc _ _
theorem routesB_take {l : List TableP.Route} {k : Nat} {x : TableP.Route} (h : l[k]? = some x) : TableP.routesB (l.take (k + 1)) = TableP.routesB (l.take k) ++ TableP.routeB x := by
  have snoc : ∀ (l : List TableP.Route) (m : TableP.Route), TableP.routesB (l ++ [m]) = TableP.routesB l ++ TableP.routeB m := fun l m => by
    induction l with
    | nil => simp [TableP.routesB]
    | cons x l ih => simp [TableP.routesB, ih]
  rw [List.take_add_one, h]
  exact snoc _ _

/-- What the image begins with. -/
def headB (nodes faulty slot gap rho dmin dmax margin pn qn rn : Nat) : List UInt8 := nums 4 [1163084593] ++ (nums 1 [nodes, faulty] ++ (nums 4 [slot, gap, rho, dmin, dmax, margin] ++ nums 1 [pn, qn, rn]))
theorem headB_len (a b c d e f g h i j k : Nat) : (headB a b c d e f g h i j k).length = 33 := by
  simp [headB, nums_length]
/-- Fields that fit, as natural numbers. -/
theorem b1_nat {x : Int} (h : TableP.B1 x) : ∃ n : Nat, x = (n : Int) ∧ n < 4294967296 := by
  obtain ⟨h0, h1⟩ := h
  obtain ⟨n, rfl⟩ := Int.eq_ofNat_of_zero_le h0
  exact ⟨n, rfl, by omega⟩
theorem b4_nat {x : Int} (h : TableP.B4 x) : ∃ n : Nat, x = (n : Int) ∧ n < 4294967296 := by
  obtain ⟨h0, h1⟩ := h
  obtain ⟨n, rfl⟩ := Int.eq_ofNat_of_zero_le h0
  exact ⟨n, rfl, by omega⟩
def PartsRel (B bw : Nat) (h : List UInt8) (parts : List TableP.Part) (n : Nat) (W : World) (i : Value) (wr : World) : Prop :=
  ∃ k, k ≤ n ∧ i = .int .i64 (k : Nat) ∧ PutIn B bw none [] (h ++ TableP.partsB (parts.take k)) W wr
def PortsRel (B bw : Nat) (h : List UInt8) (ports : List TableP.Port) (n : Nat) (W : World) (i : Value) (wr : World) : Prop :=
  ∃ k, k ≤ n ∧ i = .int .i64 (k : Nat) ∧ PutIn B bw none [] (h ++ TableP.portsB (ports.take k)) W wr
def RoutesRel (B bw : Nat) (h : List UInt8) (routes : List TableP.Route) (n : Nat) (W : World) (i : Value) (wr : World) : Prop :=
  ∃ k, k ≤ n ∧ i = .int .i64 (k : Nat) ∧ PutIn B bw none [] (h ++ TableP.routesB (routes.take k)) W wr
end Go.Proofs.Ytgceleipaiameaa
