/- Contract of table's Encode at tables in memory. Conditions: where its lists lie. -/
import Derived.Test.YtgceleipaiameaaTbH
import Derived.Test.YtgceleipaiameaaErrA1
import Derived.Test.YtgceleipaiameaaCrcE
import Derived.Test.YtgceleipaiameaaTxtO
namespace Go.Proofs.Ytgceleipaiameaa
open Go.RowKit
set_option maxRecDepth 100000

/-- What is told of tables that may not be. -/
def EncBad (c : FrameP.Wrong) (w : World) (e : Ending) (w' : World) : Prop :=
  ∃ b, e = .returned (.tuple #[.slice none 0 0, .iface 71 (.pointer (some ⟨b, 0, none⟩))]) ∧ ErrTextK 5 w' (.iface 71 (.pointer (some ⟨b, 0, none⟩))) (overT 60 (-1) (wrongT (some c))) ∧ Below w.heap.size w w'
/-- An image, sealed, in new memory. -/
def EncGood (f : TableP.Cfg) (w : World) (e : Ending) (w' : World) : Prop :=
  ∃ v g, e = .returned (.tuple #[v, .nilIface]) ∧ Row w' w.heap.size 5 g v (CrcP.seal4 (TableP.enc f)) ∧ Below w.heap.size w w'

theorem SealPost.row {l : List UInt8} {W w' : World} {e : Ending} (h : SealPost l W e w') : ∃ v g, e = .returned v ∧ Row w' W.heap.size 5 g v (CrcP.seal4 l) ∧ Below W.heap.size W w' := by
  obtain ⟨v, h1, h2, h3⟩ := h
  exact ⟨v, _, h1, ⟨rfl, by rw [seal4_len]; exact h2⟩, h3⟩
theorem wrongT_ne (c : FrameP.Wrong) : wrongT (some c) ≠ [] := by
  simp [wrongT, atT]

theorem encode_bad (x : CfgC) (w : World) (h : CfgIn w x) (c : FrameP.Wrong) (hc : TableP.chk x.plain = some c) :
    Calls Try.prog 11 #[x.value] w (EncBad c w) := by
  have HB0 := Lib.hid (boxC_below w x)
  have HS0 := Lib.hid (boxC_size w x)
  have HC : Hid (∀ W, CfgIn W x → Calls Try.prog 14 #[x.value] W (CheckPost (some c) W)) := Lib.hid fun W hW => by rw [← hc]; exact check_any x W hW
  have HFr := Lib.hid (h.below (boxC_below w x))
  clear h hc
  obtain ⟨nodes, faulty, slot, gap, rho, dmin, dmax, margin, PA, pn, pcap, parts, QA, qn, qcap, ports, RA, rn, rcap, routes⟩ := x
  simp only [CfgC.value] at HC ⊢
  simp only [boxC, cfgCells] at HB0 HS0 HFr
  go_enter Try.func11, Try.ntmps11
  go_wp2_with fail
  refine (HC.out _ HFr.out).mono ?_
  rintro e w1 ⟨v, rfl, h1, ⟨b, rfl⟩, h3⟩
  have HF : Hid (EncBad c w (.returned (.tuple #[.slice none 0 0, .iface 71 (.pointer (some ⟨w1.heap.size, 0, none⟩))])) (w1.alloc (.cells #[.int .i64 60, .int .i64 (-1), .iface 71 (.pointer (some ⟨b, 0, none⟩))] 73))) := Lib.hid (by
    refine ⟨_, rfl, ?_, (HB0.out.trans (h3.mono (by rw [HS0.out]; omega))).alloc (by have := h3.size; rw [HS0.out] at this; omega) _⟩
    have h4 := ErrTextK.wrap h1 60 (-1) (by omega) (by omega)
    rw [overT, if_neg (wrongT_ne c)]
    exact h4)
  have HW := Lib.hid (wrap_F 60 (-1) b w1 rfl)
  rw [place_of (-1) (by omega)] at HW
  clear h1 h3
  go_wp2_with fail
  refine HW.out.mono ?_
  rintro e w2 ⟨rfl, rfl⟩
  go_wp2_with fail
  go_ret2
  exact HF.out

theorem PutIn.alloc {B bw : Nat} {g : Option Nat} {l d : List UInt8} {W w : World} (h : PutIn B bw g l d W w) (o : Obj) : PutIn B bw g l d W (w.alloc o) := by
  obtain ⟨g1, h1, h2, h3⟩ := h
  exact ⟨g1, h1.alloc o, h2, h3.alloc o⟩
theorem partsB_take {l : List TableP.Part} {k : Nat} {x : TableP.Part} (h : l[k]? = some x) : TableP.partsB (l.take (k + 1)) = TableP.partsB (l.take k) ++ TableP.partB x := by
  have snoc : ∀ (l : List TableP.Part) (m : TableP.Part), TableP.partsB (l ++ [m]) = TableP.partsB l ++ TableP.partB m := fun l m => by
    induction l with
    | nil => simp [TableP.partsB]
    | cons x l ih => simp [TableP.partsB, ih]
  rw [List.take_add_one, h]
  exact snoc _ _
theorem portsB_take {l : List TableP.Port} {k : Nat} {x : TableP.Port} (h : l[k]? = some x) : TableP.portsB (l.take (k + 1)) = TableP.portsB (l.take k) ++ TableP.portB x := by
  have snoc : ∀ (l : List TableP.Port) (m : TableP.Port), TableP.portsB (l ++ [m]) = TableP.portsB l ++ TableP.portB m := fun l m => by
    induction l with
    | nil => simp [TableP.portsB]
    | cons x l ih => simp [TableP.portsB, ih]
  rw [List.take_add_one, h]
  exact snoc _ _
theorem routesB_take {l : List TableP.Route} {k : Nat} {x : TableP.Route} (h : l[k]? = some x) : TableP.routesB (l.take (k + 1)) = TableP.routesB (l.take k) ++ TableP.routeB x := by
  have snoc : ∀ (l : List TableP.Route) (m : TableP.Route), TableP.routesB (l ++ [m]) = TableP.routesB l ++ TableP.routeB m := fun l m => by
    induction l with
    | nil => simp [TableP.routesB]
    | cons x l ih => simp [TableP.routesB, ih]
  rw [List.take_add_one, h]
  exact snoc _ _

/-- What the image begins with. -/
def headB (nodes faulty slot gap rho dmin dmax margin pn qn rn : Nat) : List UInt8 := nums 4 [1163084593] ++ (nums 1 [nodes, faulty] ++ (nums 4 [slot, gap, rho, dmin, dmax, margin] ++ nums 1 [pn, qn, rn]))
theorem headB_len (a b c d e f g h i j k : Nat) : (headB a b c d e f g h i j k).length = 33 := by
  simp [headB, nums_length]
/-- Fields that fit, as natural numbers. -/
theorem b1_nat {x : Int} (h : TableP.B1 x) : ∃ n : Nat, x = (n : Int) ∧ n < 4294967296 := by
  obtain ⟨h0, h1⟩ := h
  obtain ⟨n, rfl⟩ := Int.eq_ofNat_of_zero_le h0
  exact ⟨n, rfl, by omega⟩
theorem b4_nat {x : Int} (h : TableP.B4 x) : ∃ n : Nat, x = (n : Int) ∧ n < 4294967296 := by
  obtain ⟨h0, h1⟩ := h
  obtain ⟨n, rfl⟩ := Int.eq_ofNat_of_zero_le h0
  exact ⟨n, rfl, by omega⟩
def PartsRel (B bw : Nat) (h : List UInt8) (parts : List TableP.Part) (n : Nat) (W : World) (i : Value) (wr : World) : Prop :=
  ∃ k, k ≤ n ∧ i = .int .i64 (k : Nat) ∧ PutIn B bw none [] (h ++ TableP.partsB (parts.take k)) W wr
def PortsRel (B bw : Nat) (h : List UInt8) (ports : List TableP.Port) (n : Nat) (W : World) (i : Value) (wr : World) : Prop :=
  ∃ k, k ≤ n ∧ i = .int .i64 (k : Nat) ∧ PutIn B bw none [] (h ++ TableP.portsB (ports.take k)) W wr
def RoutesRel (B bw : Nat) (h : List UInt8) (routes : List TableP.Route) (n : Nat) (W : World) (i : Value) (wr : World) : Prop :=
  ∃ k, k ≤ n ∧ i = .int .i64 (k : Nat) ∧ PutIn B bw none [] (h ++ TableP.routesB (routes.take k)) W wr
end Go.Proofs.Ytgceleipaiameaa
