/- Contract of sound's joins. Conditions: the tables are allowed. -/
import Derived.Test.YtodkcenoljpgoaaSndC
import Derived.Deep.DeepCutAuto
namespace Go.Proofs.Ytodkcenoljpgoaa
open Go.RowKit
set_option maxRecDepth 100000

set_option maxHeartbeats 4000000 in
theorem joins_any (x : CfgC) (w : World) (h : CfgIn w x) (ha : SndP.Allowed x.plain) (k : Nat) (r : TableP.Route) (hk : x.routes[k]? = some r) :
    Calls Try.prog 38 #[x.value, .int .i64 (k : Nat)] w (BoolPost (SndP.joinB x.plain k r) w) := by
  have hlt : k < x.rn := by have := (List.getElem?_eq_some_iff.1 hk).1; have := h.rlen; omega
  have hr24 : x.rn ≤ 24 := by have h1 : x.routes.length ≤ 24 := ha.routes; have := h.rlen; omega
  obtain ⟨hr1, hr2⟩ := ha.route r (List.mem_of_getElem? hk)
  have hql := h.qlen
  have hq24 : x.qn ≤ 24 := by have h1 : x.ports.length ≤ 24 := ha.ports; omega
  unfold TableP.up at hr1 hr2
  obtain ⟨src, dst⟩ := r
  simp only [CfgC.plain] at hr1 hr2
  obtain ⟨s, rfl⟩ := Int.eq_ofNat_of_zero_le hr1.1
  obtain ⟨d, rfl⟩ := Int.eq_ofNat_of_zero_le hr2.1
  have hs : s < x.qn := by omega
  have hd : d < x.qn := by omega
  obtain ⟨pa, ea⟩ : ∃ y, x.ports[s]? = some y := ⟨_, List.getElem?_eq_getElem (by omega)⟩
  obtain ⟨pb, eb⟩ : ∃ y, x.ports[d]? = some y := ⟨_, List.getElem?_eq_getElem (by omega)⟩
  have CC := Lib.hid (fun W (hW : Below w.heap.size w W) N hN => containsR_any ⟨(s : Int), (d : Int)⟩ (x.routes.take k) x.RA k x.rcap N W ((h.routes.below hW).take k) (by rw [List.length_take]; have := h.rlen; omega) (by omega) hN)
  have HJ : Hid (SndP.joinB x.plain k ⟨(s : Int), (d : Int)⟩ = (pa.out && !pb.out && decide (pa.kind = pb.kind) && decide (pa.size ≤ pb.size) && !(x.routes.take k).any (SndP.leads ⟨(s : Int), (d : Int)⟩))) := Lib.hid (by
    simp only [SndP.joinB, CfgC.plain, Int.toNat_natCast, ea, eb])
  have PA_ := fun W (hW : Below w.heap.size w W) => ports_at (h.ports.below hW) ea
  have PB_ := fun W (hW : Below w.heap.size w W) => ports_at (h.ports.below hW) eb
  obtain ⟨bq, oq, eq, -, -⟩ := PA_ w (Below.refl _ _)
  obtain ⟨b, off, e, hbl, c0, c1⟩ := routes_at (h.routes.below (boxC_below w x)) hk
  have hrc := h.rcap_
  have hqc := h.qcap_
  clear h ha hk hr1 hr2 ea eb hql
  generalize SndP.joinB x.plain k ⟨(s : Int), (d : Int)⟩ = J at *
  obtain ⟨nodes, faulty, slot, gap, rho, dmin, dmax, margin, PA, pn, pcap, parts, QA, qn, qcap, ports, RA, rn, rcap, routes⟩ := x
  simp only [boxC, cfgCells] at c0 c1 e hbl
  simp only [CfgC.value] at CC PA_ PB_ HJ hs hd hlt hr24 hq24 hrc hqc eq ⊢
  subst e eq
  have PA2 : ∀ W, Box2 w ⟨nodes, faulty, slot, gap, rho, dmin, dmax, margin, PA, pn, pcap, parts, some ⟨bq, oq, none⟩, qn, qcap, ports, some ⟨b, off, none⟩, rn, rcap, routes⟩ #[.int .i64 (s : Nat), .int .i64 (d : Nat)] 76 W → PortAt W bq (oq + s * 6) pa := fun W hW => by
    obtain ⟨b', o', e1, -, h2⟩ := PA_ W (Box2.below hW)
    cases e1
    exact h2
  have PB2 : ∀ W, Box2 w ⟨nodes, faulty, slot, gap, rho, dmin, dmax, margin, PA, pn, pcap, parts, some ⟨bq, oq, none⟩, qn, qcap, ports, some ⟨b, off, none⟩, rn, rcap, routes⟩ #[.int .i64 (s : Nat), .int .i64 (d : Nat)] 76 W → PortAt W bq (oq + d * 6) pb := fun W hW => by
    obtain ⟨b', o', e1, -, h2⟩ := PB_ W (Box2.below hW)
    cases e1
    exact h2
  obtain ⟨part, kind, out, size, depth, fresh⟩ := pa
  obtain ⟨part', kind', out', size', depth', fresh'⟩ := pb
  simp only at HJ
  have hd0 := (Box2.start w ⟨nodes, faulty, slot, gap, rho, dmin, dmax, margin, PA, pn, pcap, parts, some ⟨bq, oq, none⟩, qn, qcap, ports, some ⟨b, off, none⟩, rn, rcap, routes⟩ #[.int .i64 (s : Nat), .int .i64 (d : Nat)] 76).drew
  have d0 := fun W (hW : Box2 w ⟨nodes, faulty, slot, gap, rho, dmin, dmax, margin, PA, pn, pcap, parts, some ⟨bq, oq, none⟩, qn, qcap, ports, some ⟨b, off, none⟩, rn, rcap, routes⟩ #[.int .i64 (s : Nat), .int .i64 (d : Nat)] 76 W) => (BoxS.cells (Box2.one hW)).c0
  have d1 := fun W (hW : Box2 w ⟨nodes, faulty, slot, gap, rho, dmin, dmax, margin, PA, pn, pcap, parts, some ⟨bq, oq, none⟩, qn, qcap, ports, some ⟨b, off, none⟩, rn, rcap, routes⟩ #[.int .i64 (s : Nat), .int .i64 (d : Nat)] 76 W) => (BoxS.cells (Box2.one hW)).c1
  have d2 := fun W (hW : Box2 w ⟨nodes, faulty, slot, gap, rho, dmin, dmax, margin, PA, pn, pcap, parts, some ⟨bq, oq, none⟩, qn, qcap, ports, some ⟨b, off, none⟩, rn, rcap, routes⟩ #[.int .i64 (s : Nat), .int .i64 (d : Nat)] 76 W) => (BoxS.cells (Box2.one hW)).c2
  have d3 := fun W (hW : Box2 w ⟨nodes, faulty, slot, gap, rho, dmin, dmax, margin, PA, pn, pcap, parts, some ⟨bq, oq, none⟩, qn, qcap, ports, some ⟨b, off, none⟩, rn, rcap, routes⟩ #[.int .i64 (s : Nat), .int .i64 (d : Nat)] 76 W) => (BoxS.cells (Box2.one hW)).c3
  have d4 := fun W (hW : Box2 w ⟨nodes, faulty, slot, gap, rho, dmin, dmax, margin, PA, pn, pcap, parts, some ⟨bq, oq, none⟩, qn, qcap, ports, some ⟨b, off, none⟩, rn, rcap, routes⟩ #[.int .i64 (s : Nat), .int .i64 (d : Nat)] 76 W) => (BoxS.cells (Box2.one hW)).c4
  have d5 := fun W (hW : Box2 w ⟨nodes, faulty, slot, gap, rho, dmin, dmax, margin, PA, pn, pcap, parts, some ⟨bq, oq, none⟩, qn, qcap, ports, some ⟨b, off, none⟩, rn, rcap, routes⟩ #[.int .i64 (s : Nat), .int .i64 (d : Nat)] 76 W) => (BoxS.cells (Box2.one hW)).c5
  have d6 := fun W (hW : Box2 w ⟨nodes, faulty, slot, gap, rho, dmin, dmax, margin, PA, pn, pcap, parts, some ⟨bq, oq, none⟩, qn, qcap, ports, some ⟨b, off, none⟩, rn, rcap, routes⟩ #[.int .i64 (s : Nat), .int .i64 (d : Nat)] 76 W) => (BoxS.cells (Box2.one hW)).c6
  have d7 := fun W (hW : Box2 w ⟨nodes, faulty, slot, gap, rho, dmin, dmax, margin, PA, pn, pcap, parts, some ⟨bq, oq, none⟩, qn, qcap, ports, some ⟨b, off, none⟩, rn, rcap, routes⟩ #[.int .i64 (s : Nat), .int .i64 (d : Nat)] 76 W) => (BoxS.cells (Box2.one hW)).c7
  have d8 := fun W (hW : Box2 w ⟨nodes, faulty, slot, gap, rho, dmin, dmax, margin, PA, pn, pcap, parts, some ⟨bq, oq, none⟩, qn, qcap, ports, some ⟨b, off, none⟩, rn, rcap, routes⟩ #[.int .i64 (s : Nat), .int .i64 (d : Nat)] 76 W) => (BoxS.cells (Box2.one hW)).c8
  have d9 := fun W (hW : Box2 w ⟨nodes, faulty, slot, gap, rho, dmin, dmax, margin, PA, pn, pcap, parts, some ⟨bq, oq, none⟩, qn, qcap, ports, some ⟨b, off, none⟩, rn, rcap, routes⟩ #[.int .i64 (s : Nat), .int .i64 (d : Nat)] 76 W) => (BoxS.cells (Box2.one hW)).c9
  have d10 := fun W (hW : Box2 w ⟨nodes, faulty, slot, gap, rho, dmin, dmax, margin, PA, pn, pcap, parts, some ⟨bq, oq, none⟩, qn, qcap, ports, some ⟨b, off, none⟩, rn, rcap, routes⟩ #[.int .i64 (s : Nat), .int .i64 (d : Nat)] 76 W) => (BoxS.cells (Box2.one hW)).c10
  have g0 := fun W (hW : Box2 w ⟨nodes, faulty, slot, gap, rho, dmin, dmax, margin, PA, pn, pcap, parts, some ⟨bq, oq, none⟩, qn, qcap, ports, some ⟨b, off, none⟩, rn, rcap, routes⟩ #[.int .i64 (s : Nat), .int .i64 (d : Nat)] 76 W) => cell_at (Box2.two hW) 0 rfl
  have g1 := fun W (hW : Box2 w ⟨nodes, faulty, slot, gap, rho, dmin, dmax, margin, PA, pn, pcap, parts, some ⟨bq, oq, none⟩, qn, qcap, ports, some ⟨b, off, none⟩, rn, rcap, routes⟩ #[.int .i64 (s : Nat), .int .i64 (d : Nat)] 76 W) => cell_at (Box2.two hW) 1 rfl
  have u0 := fun W (hW : Box2 w ⟨nodes, faulty, slot, gap, rho, dmin, dmax, margin, PA, pn, pcap, parts, some ⟨bq, oq, none⟩, qn, qcap, ports, some ⟨b, off, none⟩, rn, rcap, routes⟩ #[.int .i64 (s : Nat), .int .i64 (d : Nat)] 76 W) => (PA2 W hW).c0
  have v0 := fun W (hW : Box2 w ⟨nodes, faulty, slot, gap, rho, dmin, dmax, margin, PA, pn, pcap, parts, some ⟨bq, oq, none⟩, qn, qcap, ports, some ⟨b, off, none⟩, rn, rcap, routes⟩ #[.int .i64 (s : Nat), .int .i64 (d : Nat)] 76 W) => (PB2 W hW).c0
  have u1 := fun W (hW : Box2 w ⟨nodes, faulty, slot, gap, rho, dmin, dmax, margin, PA, pn, pcap, parts, some ⟨bq, oq, none⟩, qn, qcap, ports, some ⟨b, off, none⟩, rn, rcap, routes⟩ #[.int .i64 (s : Nat), .int .i64 (d : Nat)] 76 W) => (PA2 W hW).c1
  have v1 := fun W (hW : Box2 w ⟨nodes, faulty, slot, gap, rho, dmin, dmax, margin, PA, pn, pcap, parts, some ⟨bq, oq, none⟩, qn, qcap, ports, some ⟨b, off, none⟩, rn, rcap, routes⟩ #[.int .i64 (s : Nat), .int .i64 (d : Nat)] 76 W) => (PB2 W hW).c1
  have u2 := fun W (hW : Box2 w ⟨nodes, faulty, slot, gap, rho, dmin, dmax, margin, PA, pn, pcap, parts, some ⟨bq, oq, none⟩, qn, qcap, ports, some ⟨b, off, none⟩, rn, rcap, routes⟩ #[.int .i64 (s : Nat), .int .i64 (d : Nat)] 76 W) => (PA2 W hW).c2
  have v2 := fun W (hW : Box2 w ⟨nodes, faulty, slot, gap, rho, dmin, dmax, margin, PA, pn, pcap, parts, some ⟨bq, oq, none⟩, qn, qcap, ports, some ⟨b, off, none⟩, rn, rcap, routes⟩ #[.int .i64 (s : Nat), .int .i64 (d : Nat)] 76 W) => (PB2 W hW).c2
  have u3 := fun W (hW : Box2 w ⟨nodes, faulty, slot, gap, rho, dmin, dmax, margin, PA, pn, pcap, parts, some ⟨bq, oq, none⟩, qn, qcap, ports, some ⟨b, off, none⟩, rn, rcap, routes⟩ #[.int .i64 (s : Nat), .int .i64 (d : Nat)] 76 W) => (PA2 W hW).c3
  have v3 := fun W (hW : Box2 w ⟨nodes, faulty, slot, gap, rho, dmin, dmax, margin, PA, pn, pcap, parts, some ⟨bq, oq, none⟩, qn, qcap, ports, some ⟨b, off, none⟩, rn, rcap, routes⟩ #[.int .i64 (s : Nat), .int .i64 (d : Nat)] 76 W) => (PB2 W hW).c3
  have u4 := fun W (hW : Box2 w ⟨nodes, faulty, slot, gap, rho, dmin, dmax, margin, PA, pn, pcap, parts, some ⟨bq, oq, none⟩, qn, qcap, ports, some ⟨b, off, none⟩, rn, rcap, routes⟩ #[.int .i64 (s : Nat), .int .i64 (d : Nat)] 76 W) => (PA2 W hW).c4
  have v4 := fun W (hW : Box2 w ⟨nodes, faulty, slot, gap, rho, dmin, dmax, margin, PA, pn, pcap, parts, some ⟨bq, oq, none⟩, qn, qcap, ports, some ⟨b, off, none⟩, rn, rcap, routes⟩ #[.int .i64 (s : Nat), .int .i64 (d : Nat)] 76 W) => (PB2 W hW).c4
  have u5 := fun W (hW : Box2 w ⟨nodes, faulty, slot, gap, rho, dmin, dmax, margin, PA, pn, pcap, parts, some ⟨bq, oq, none⟩, qn, qcap, ports, some ⟨b, off, none⟩, rn, rcap, routes⟩ #[.int .i64 (s : Nat), .int .i64 (d : Nat)] 76 W) => (PA2 W hW).c5
  have v5 := fun W (hW : Box2 w ⟨nodes, faulty, slot, gap, rho, dmin, dmax, margin, PA, pn, pcap, parts, some ⟨bq, oq, none⟩, qn, qcap, ports, some ⟨b, off, none⟩, rn, rcap, routes⟩ #[.int .i64 (s : Nat), .int .i64 (d : Nat)] 76 W) => (PB2 W hW).c5
  simp only at d0 d1 d2 d3 d4 d5 d6 d7 d8 d9 d10 u0 v0 u1 v1 u2 v2 u3 v3 u4 v4 u5 v5
  have hsl := fun W => run_slice_tos (P := Try.prog) W 24 76 2 Try.underlying24 (fun w => by kernel_rfl) (some ⟨b, off, none⟩) rn rcap (k : Int) (by omega) (by omega)
  simp only [Int.toNat_natCast] at hsl
  generalize (routes.take k).any (SndP.leads ⟨(s : Int), (d : Int)⟩) = bb at *
  clear PA_ PB_ PA2 PB2 hbl
  go_enter Try.func38, Try.ntmps38
  go_upto_region 2 with (fail)
  clear c0 c1
  go_cut [6, 7] (fun v6 v7 wx => TwoPorts w ⟨nodes, faulty, slot, gap, rho, dmin, dmax, margin, PA, pn, pcap, parts, some ⟨bq, oq, none⟩, qn, qcap, ports, some ⟨b, off, none⟩, rn, rcap, routes⟩ #[.int .i64 (s : Nat), .int .i64 (d : Nat)] 76 #[.int .i64 part, .int .u8 (kind : Nat), .bool out, .int .i64 size, .int .i64 depth, .int .i64 fresh] #[.int .i64 part', .int .u8 (kind' : Nat), .bool out', .int .i64 size', .int .i64 depth', .int .i64 fresh'] v6 v7 wx)
  case first =>
    clear CC HJ hsl
    have HTa : Hid (TwoPorts w ⟨nodes, faulty, slot, gap, rho, dmin, dmax, margin, PA, pn, pcap, parts, some ⟨bq, oq, none⟩, qn, qcap, ports, some ⟨b, off, none⟩, rn, rcap, routes⟩ #[.int .i64 (s : Nat), .int .i64 (d : Nat)] 76 #[.int .i64 part, .int .u8 (kind : Nat), .bool out, .int .i64 size, .int .i64 depth, .int .i64 fresh] #[.int .i64 part', .int .u8 (kind' : Nat), .bool out', .int .i64 size', .int .i64 depth', .int .i64 fresh'] (.pointer (some ⟨w.heap.size + 1 + 1, 0, none⟩)) (.pointer (some ⟨w.heap.size + 1 + 1 + 1, 0, none⟩)) (((((w.alloc (.cells #[.int .i64 nodes, .int .i64 faulty, .int .i64 slot, .int .i64 gap, .int .i64 rho, .int .i64 dmin, .int .i64 dmax, .int .i64 margin, .slice PA pn pcap, .slice (some ⟨bq, oq, none⟩) qn qcap, .slice (some ⟨b, off, none⟩) rn rcap] 26)).alloc (.cells #[.int .i64 (s : Nat), .int .i64 (d : Nat)] 76)).alloc (.cells #[.int .i64 part, .int .u8 (kind : Nat), .bool out, .int .i64 size, .int .i64 depth, .int .i64 fresh] 74)).alloc (.cells #[.int .i64 part', .int .u8 (kind' : Nat), .bool out', .int .i64 size', .int .i64 depth', .int .i64 fresh'] 74)).drew)) := by
      have h := twoPorts w ⟨nodes, faulty, slot, gap, rho, dmin, dmax, margin, PA, pn, pcap, parts, some ⟨bq, oq, none⟩, qn, qcap, ports, some ⟨b, off, none⟩, rn, rcap, routes⟩ #[.int .i64 (s : Nat), .int .i64 (d : Nat)] 76 #[.int .i64 part, .int .u8 (kind : Nat), .bool out, .int .i64 size, .int .i64 depth, .int .i64 fresh] #[.int .i64 part', .int .u8 (kind' : Nat), .bool out', .int .i64 size', .int .i64 depth', .int .i64 fresh']
      exact Lib.hid ⟨_, _, rfl, rfl, h.1, h.2.1, h.2.2⟩
    have HTb : Hid (TwoPorts w ⟨nodes, faulty, slot, gap, rho, dmin, dmax, margin, PA, pn, pcap, parts, some ⟨bq, oq, none⟩, qn, qcap, ports, some ⟨b, off, none⟩, rn, rcap, routes⟩ #[.int .i64 (s : Nat), .int .i64 (d : Nat)] 76 #[.int .i64 part, .int .u8 (kind : Nat), .bool out, .int .i64 size, .int .i64 depth, .int .i64 fresh] #[.int .i64 part', .int .u8 (kind' : Nat), .bool out', .int .i64 size', .int .i64 depth', .int .i64 fresh'] (.pointer (some ⟨w.heap.size + 1 + 1 + 1, 0, none⟩)) (.pointer (some ⟨w.heap.size + 1 + 1, 0, none⟩)) (((((w.alloc (.cells #[.int .i64 nodes, .int .i64 faulty, .int .i64 slot, .int .i64 gap, .int .i64 rho, .int .i64 dmin, .int .i64 dmax, .int .i64 margin, .slice PA pn pcap, .slice (some ⟨bq, oq, none⟩) qn qcap, .slice (some ⟨b, off, none⟩) rn rcap] 26)).alloc (.cells #[.int .i64 (s : Nat), .int .i64 (d : Nat)] 76)).alloc (.cells #[.int .i64 part', .int .u8 (kind' : Nat), .bool out', .int .i64 size', .int .i64 depth', .int .i64 fresh'] 74)).alloc (.cells #[.int .i64 part, .int .u8 (kind : Nat), .bool out, .int .i64 size, .int .i64 depth, .int .i64 fresh] 74)).drew)) := by
      have h := twoPorts w ⟨nodes, faulty, slot, gap, rho, dmin, dmax, margin, PA, pn, pcap, parts, some ⟨bq, oq, none⟩, qn, qcap, ports, some ⟨b, off, none⟩, rn, rcap, routes⟩ #[.int .i64 (s : Nat), .int .i64 (d : Nat)] 76 #[.int .i64 part', .int .u8 (kind' : Nat), .bool out', .int .i64 size', .int .i64 depth', .int .i64 fresh'] #[.int .i64 part, .int .u8 (kind : Nat), .bool out, .int .i64 size, .int .i64 depth, .int .i64 fresh]
      exact Lib.hid ⟨_, _, rfl, rfl, h.1, h.2.2, h.2.1⟩
    go_wp2_with fail
    refine wp_region_held_drew (S := fun W => Box2 w ⟨nodes, faulty, slot, gap, rho, dmin, dmax, margin, PA, pn, pcap, parts, some ⟨bq, oq, none⟩, qn, qcap, ports, some ⟨b, off, none⟩, rn, rcap, routes⟩ #[.int .i64 (s : Nat), .int .i64 (d : Nat)] 76 W) (by kernel_rfl) hd0 (fun _ => ?_)
    refine wpAnyH_take (i := 0) (oi := ?oo1) (v := ?vv1) ?ii1 (by kernel_rfl) ?ff1 (by kernel_rfl) ?qq1 (Or.inl ⟨?ww1, ?yy1⟩) hd0 ?rr1
    case ii1 => simp only [List.getElem?_toArray, List.getElem?_cons_zero]; rfl
    case ff1 => kernel_rfl
    case qq1 => exact fun _ _ _ h => h
    case ww1 => rfl
    case yy1 => intro W hW; go_simp <;> with_reducible rfl
    try simp only [Act.put, List.setIfInBounds_toArray, List.set_cons_zero, List.set_cons_succ]
    refine wpAnyH_take (i := 1) (oi := ?oo2) (v := ?vv2) ?ii2 (by kernel_rfl) ?ff2 (by kernel_rfl) ?qq2 (Or.inl ⟨?ww2, ?yy2⟩) hd0 ?rr2
    case ii2 => simp only [List.getElem?_toArray, List.getElem?_cons_succ, List.getElem?_cons_zero]; rfl
    case ff2 => kernel_rfl
    case qq2 => exact fun _ _ _ h => h
    case ww2 => rfl
    case yy2 => intro W hW; go_simp <;> with_reducible rfl
    try simp only [Act.put, List.setIfInBounds_toArray, List.set_cons_zero, List.set_cons_succ]
    refine wpAnyH_take (i := 2) (oi := ?oo3) (v := ?vv3) ?ii3 (by kernel_rfl) ?ff3 (by kernel_rfl) ?qq3 (Or.inl ⟨?ww3, ?yy3⟩) hd0 ?rr3
    case ii3 => simp only [List.getElem?_toArray, List.getElem?_cons_succ, List.getElem?_cons_zero]; rfl
    case ff3 => kernel_rfl
    case qq3 => exact fun _ _ _ h => h
    case ww3 => rfl
    case yy3 => intro W hW; go_simp <;> with_reducible rfl
    try simp only [Act.put, List.setIfInBounds_toArray, List.set_cons_zero, List.set_cons_succ]
    refine wpAnyH_take (i := 3) (oi := ?oo4) (v := ?vv4) ?ii4 (by kernel_rfl) ?ff4 (by kernel_rfl) ?qq4 (Or.inl ⟨?ww4, ?yy4⟩) hd0 ?rr4
    case ii4 => simp only [List.getElem?_toArray, List.getElem?_cons_succ, List.getElem?_cons_zero]; rfl
    case ff4 => kernel_rfl
    case qq4 => exact fun _ _ _ h => h
    case ww4 => rfl
    case yy4 => intro W hW; go_simp <;> with_reducible rfl
    try simp only [Act.put, List.setIfInBounds_toArray, List.set_cons_zero, List.set_cons_succ]
    refine wpAnyH_take (i := 4) (oi := ?oo5) (v := ?vv5) ?ii5 (by kernel_rfl) ?ff5 (by kernel_rfl) ?qq5 (Or.inl ⟨?ww5, ?yy5⟩) hd0 ?rr5
    case ii5 => simp only [List.getElem?_toArray, List.getElem?_cons_succ, List.getElem?_cons_zero]; rfl
    case ff5 => kernel_rfl
    case qq5 => exact fun _ _ _ h => h
    case ww5 => rfl
    case yy5 => intro W hW; go_simp <;> with_reducible rfl
    try simp only [Act.put, List.setIfInBounds_toArray, List.set_cons_zero, List.set_cons_succ]
    refine wpAnyH_take (i := 5) (oi := ?oo6) (v := ?vv6) ?ii6 (by kernel_rfl) ?ff6 (by kernel_rfl) ?qq6 (Or.inl ⟨?ww6, ?yy6⟩) hd0 ?rr6
    case ii6 => simp only [List.getElem?_toArray, List.getElem?_cons_succ, List.getElem?_cons_zero]; rfl
    case ff6 => kernel_rfl
    case qq6 => exact fun _ _ _ h => h
    case ww6 => rfl
    case yy6 => intro W hW; go_simp <;> with_reducible rfl
    try simp only [Act.put, List.setIfInBounds_toArray, List.set_cons_zero, List.set_cons_succ]
    refine wpAnyH_take (i := 6) (oi := ?oo7) (v := ?vv7) ?ii7 (by kernel_rfl) ?ff7 (by kernel_rfl) ?qq7 (Or.inl ⟨?ww7, ?yy7⟩) hd0 ?rr7
    case ii7 => simp only [List.getElem?_toArray, List.getElem?_cons_succ, List.getElem?_cons_zero]; rfl
    case ff7 => kernel_rfl
    case qq7 => exact fun _ _ _ h => h
    case ww7 => rfl
    case yy7 => intro W hW; go_simp <;> with_reducible rfl
    try simp only [Act.put, List.setIfInBounds_toArray, List.set_cons_zero, List.set_cons_succ]
    refine wpAnyH_take (i := 7) (oi := ?oo8) (v := ?vv8) ?ii8 (by kernel_rfl) ?ff8 (by kernel_rfl) ?qq8 (Or.inl ⟨?ww8, ?yy8⟩) hd0 ?rr8
    case ii8 => simp only [List.getElem?_toArray, List.getElem?_cons_succ, List.getElem?_cons_zero]; rfl
    case ff8 => kernel_rfl
    case qq8 => exact fun _ _ _ h => h
    case ww8 => rfl
    case yy8 => intro W hW; go_simp <;> with_reducible rfl
    try simp only [Act.put, List.setIfInBounds_toArray, List.set_cons_zero, List.set_cons_succ]
    refine wpAnyH_take (i := 8) (oi := ?oo9) (v := ?vv9) ?ii9 (by kernel_rfl) ?ff9 (by kernel_rfl) ?qq9 (Or.inl ⟨?ww9, ?yy9⟩) hd0 ?rr9
    case ii9 => simp only [List.getElem?_toArray, List.getElem?_cons_succ, List.getElem?_cons_zero]; rfl
    case ff9 => kernel_rfl
    case qq9 => exact fun _ _ _ h => h
    case ww9 => rfl
    case yy9 => intro W hW; go_simp <;> with_reducible rfl
    try simp only [Act.put, List.setIfInBounds_toArray, List.set_cons_zero, List.set_cons_succ]
    refine wpAnyH_take (i := 9) (oi := ?oo10) (v := ?vv10) ?ii10 (by kernel_rfl) ?ff10 (by kernel_rfl) ?qq10 (Or.inl ⟨?ww10, ?yy10⟩) hd0 ?rr10
    case ii10 => simp only [List.getElem?_toArray, List.getElem?_cons_succ, List.getElem?_cons_zero]; rfl
    case ff10 => kernel_rfl
    case qq10 => exact fun _ _ _ h => h
    case ww10 => rfl
    case yy10 => intro W hW; go_simp <;> with_reducible rfl
    try simp only [Act.put, List.setIfInBounds_toArray, List.set_cons_zero, List.set_cons_succ]
    refine wpAnyH_take (i := 10) (oi := ?oo11) (v := ?vv11) ?ii11 (by kernel_rfl) ?ff11 (by kernel_rfl) ?qq11 (Or.inl ⟨?ww11, ?yy11⟩) hd0 ?rr11
    case ii11 => simp only [List.getElem?_toArray, List.getElem?_cons_succ, List.getElem?_cons_zero]; rfl
    case ff11 => kernel_rfl
    case qq11 => exact fun _ _ _ h => h
    case ww11 => rfl
    case yy11 => intro W hW; go_simp <;> with_reducible rfl
    try simp only [Act.put, List.setIfInBounds_toArray, List.set_cons_zero, List.set_cons_succ]
    refine wpAnyH_take (i := 11) (oi := ?oo12) (v := ?vv12) ?ii12 (by kernel_rfl) ?ff12 (by kernel_rfl) ?qq12 (Or.inl ⟨?ww12, ?yy12⟩) hd0 ?rr12
    case ii12 => simp only [List.getElem?_toArray, List.getElem?_cons_succ, List.getElem?_cons_zero]; rfl
    case ff12 => kernel_rfl
    case qq12 => exact fun _ _ _ h => h
    case ww12 => rfl
    case yy12 => intro W hW; go_simp <;> with_reducible rfl
    try simp only [Act.put, List.setIfInBounds_toArray, List.set_cons_zero, List.set_cons_succ]
    refine wpAnyH_ready (rs := [12, 13]) (by kernel_rfl) (by simp) ?_
    refine AllReadyH.cons (o := ?o1) ?i1 (fun K hK => ?_) (AllReadyH.cons (o := ?o2) ?i2 (fun K hK => ?_) AllReadyH.nil)
    case i1 => simp only [List.getElem?_toArray, List.getElem?_cons_succ, List.getElem?_cons_zero]; rfl
    case i2 => simp only [List.getElem?_toArray, List.getElem?_cons_succ, List.getElem?_cons_zero]; rfl
    · go_simp
      refine hK.out _ _ ?ha1 (fun _ => ?_)
      case ha1 => exact (Box2.start w ⟨nodes, faulty, slot, gap, rho, dmin, dmax, margin, PA, pn, pcap, parts, some ⟨bq, oq, none⟩, qn, qcap, ports, some ⟨b, off, none⟩, rn, rcap, routes⟩ #[.int .i64 (s : Nat), .int .i64 (d : Nat)] 76).alloc1 _
      clear hK K
      refine wpAnyH_ready (rs := [13]) (by kernel_rfl) (by simp) ?_
      refine AllReadyH.cons (o := ?oa3) ?ia3 (fun K hK => ?_) AllReadyH.nil
      case ia3 => simp only [List.getElem?_toArray, List.getElem?_cons_succ, List.getElem?_cons_zero]; rfl
      go_simp
      refine hK.out _ _ ?ha2 (fun _ => ?_)
      case ha2 => exact (Box2.start w ⟨nodes, faulty, slot, gap, rho, dmin, dmax, margin, PA, pn, pcap, parts, some ⟨bq, oq, none⟩, qn, qcap, ports, some ⟨b, off, none⟩, rn, rcap, routes⟩ #[.int .i64 (s : Nat), .int .i64 (d : Nat)] 76).alloc2 _ _
      clear hK K
      refine wpAnyH_ready (rs := [14]) (by kernel_rfl) (by simp) ?_
      refine AllReadyH.cons (o := ?oa4) ?ia4 (fun K hK => ?_) AllReadyH.nil
      case ia4 => simp only [List.getElem?_toArray, List.getElem?_cons_succ, List.getElem?_cons_zero]; rfl
      go_simp
      refine hK.out _ _ ?ha5 (fun _ => ?_)
      case ha5 => exact (Box2.start w ⟨nodes, faulty, slot, gap, rho, dmin, dmax, margin, PA, pn, pcap, parts, some ⟨bq, oq, none⟩, qn, qcap, ports, some ⟨b, off, none⟩, rn, rcap, routes⟩ #[.int .i64 (s : Nat), .int .i64 (d : Nat)] 76).alloc2 _ _
      clear hK K
      refine wpAnyH_ready (rs := [15]) (by kernel_rfl) (by simp) ?_
      refine AllReadyH.cons (o := ?oa6) ?ia6 (fun K hK => ?_) AllReadyH.nil
      case ia6 => simp only [List.getElem?_toArray, List.getElem?_cons_succ, List.getElem?_cons_zero]; rfl
      go_simp
      refine hK.out _ _ ?ha7 (fun _ => ?_)
      case ha7 => exact (Box2.start w ⟨nodes, faulty, slot, gap, rho, dmin, dmax, margin, PA, pn, pcap, parts, some ⟨bq, oq, none⟩, qn, qcap, ports, some ⟨b, off, none⟩, rn, rcap, routes⟩ #[.int .i64 (s : Nat), .int .i64 (d : Nat)] 76).alloc2 _ _
      clear hK K
      refine wpAnyH_done (by kernel_rfl) ?_ _
      go_wp2_with fail
      go_meet
      exact HTa.out
    · go_simp
      refine hK.out _ _ ?hb1 (fun _ => ?_)
      case hb1 => exact (Box2.start w ⟨nodes, faulty, slot, gap, rho, dmin, dmax, margin, PA, pn, pcap, parts, some ⟨bq, oq, none⟩, qn, qcap, ports, some ⟨b, off, none⟩, rn, rcap, routes⟩ #[.int .i64 (s : Nat), .int .i64 (d : Nat)] 76).alloc1 _
      clear hK K
      refine wpAnyH_ready (rs := [12]) (by kernel_rfl) (by simp) ?_
      refine AllReadyH.cons (o := ?ob3) ?ib3 (fun K hK => ?_) AllReadyH.nil
      case ib3 => simp only [List.getElem?_toArray, List.getElem?_cons_succ, List.getElem?_cons_zero]; rfl
      go_simp
      refine hK.out _ _ ?hb2 (fun _ => ?_)
      case hb2 => exact (Box2.start w ⟨nodes, faulty, slot, gap, rho, dmin, dmax, margin, PA, pn, pcap, parts, some ⟨bq, oq, none⟩, qn, qcap, ports, some ⟨b, off, none⟩, rn, rcap, routes⟩ #[.int .i64 (s : Nat), .int .i64 (d : Nat)] 76).alloc2 _ _
      clear hK K
      refine wpAnyH_ready (rs := [14]) (by kernel_rfl) (by simp) ?_
      refine AllReadyH.cons (o := ?ob4) ?ib4 (fun K hK => ?_) AllReadyH.nil
      case ib4 => simp only [List.getElem?_toArray, List.getElem?_cons_succ, List.getElem?_cons_zero]; rfl
      go_simp
      refine hK.out _ _ ?hb5 (fun _ => ?_)
      case hb5 => exact (Box2.start w ⟨nodes, faulty, slot, gap, rho, dmin, dmax, margin, PA, pn, pcap, parts, some ⟨bq, oq, none⟩, qn, qcap, ports, some ⟨b, off, none⟩, rn, rcap, routes⟩ #[.int .i64 (s : Nat), .int .i64 (d : Nat)] 76).alloc2 _ _
      clear hK K
      refine wpAnyH_ready (rs := [15]) (by kernel_rfl) (by simp) ?_
      refine AllReadyH.cons (o := ?ob6) ?ib6 (fun K hK => ?_) AllReadyH.nil
      case ib6 => simp only [List.getElem?_toArray, List.getElem?_cons_succ, List.getElem?_cons_zero]; rfl
      go_simp
      refine hK.out _ _ ?hb7 (fun _ => ?_)
      case hb7 => exact (Box2.start w ⟨nodes, faulty, slot, gap, rho, dmin, dmax, margin, PA, pn, pcap, parts, some ⟨bq, oq, none⟩, qn, qcap, ports, some ⟨b, off, none⟩, rn, rcap, routes⟩ #[.int .i64 (s : Nat), .int .i64 (d : Nat)] 76).alloc2 _ _
      clear hK K
      refine wpAnyH_done (by kernel_rfl) ?_ _
      go_wp2_with fail
      go_meet
      exact HTb.out
  case rest =>
    obtain ⟨F, T, rfl, rfl, hB2, hF, hT⟩ := hcut
    have a0 := cell_at hF 0 rfl
    have b0 := cell_at hT 0 rfl
    have a1 := cell_at hF 1 rfl
    have b1 := cell_at hT 1 rfl
    have a2 := cell_at hF 2 rfl
    have b2 := cell_at hT 2 rfl
    have a3 := cell_at hF 3 rfl
    have b3 := cell_at hT 3 rfl
    have a4 := cell_at hF 4 rfl
    have b4 := cell_at hT 4 rfl
    have a5 := cell_at hF 5 rfl
    have b5 := cell_at hT 5 rfl
    have k10 := d10 _ hB2
    have CD := Lib.hid (CC.out _ hB2.below _ (Box2.two hB2))
    have HB := Lib.hid hB2.below
    have HBad : Hid (J = false → BoolPost J w (.returned (.bool false)) wc) := Lib.hid fun e => ⟨by rw [e], HB.out⟩
    clear hB2 hF hT CC d0 d1 d2 d3 d4 d5 d6 d7 d8 d9 d10 u0 v0 u1 v1 u2 v2 u3 v3 u4 v4 u5 v5 g0 g1 hd0
    cases out with
    | false =>
      have HE := Lib.hid (HBad.out (by rw [HJ.out]; rfl))
      clear HBad HJ
      go_wp2_with fail
      go_ret
      exact HE.out
    | true =>
    cases out' with
    | true =>
      have HE := Lib.hid (HBad.out (by rw [HJ.out]; rfl))
      clear HBad HJ
      go_wp2_with fail
      go_ret
      exact HE.out
    | false =>
    by_cases h3 : kind = kind'
    case neg =>
      have HE := Lib.hid (HBad.out (by rw [HJ.out, decide_eq_false h3]; rfl))
      have q3 : ((kind : Int) != kind') = true := by rw [bne_iff_ne]; omega
      clear HBad HJ h3
      go_wp2_with fail
      go_ret
      exact HE.out
    have q3 : ((kind : Int) != kind') = false := by rw [bne_eq_false_iff_eq]; omega
    by_cases h4 : size ≤ size'
    case neg =>
      have HE := Lib.hid (HBad.out (by rw [HJ.out, decide_eq_false h4]; simp))
      have q4 : decide (size' < size) = true := decide_eq_true (by omega)
      clear HBad HJ h3 h4
      go_wp2_with fail
      go_ret
      exact HE.out
    have q4 : decide (size' < size) = false := decide_eq_false (by omega)
    have hJ : J = !bb := by rw [HJ.out, decide_eq_true h3, decide_eq_true h4]; rfl
    subst hJ
    clear HBad HJ h3 h4
    go_wp2_with fail
    refine CD.out.mono ?_
    rintro e w2 ⟨rfl, hb2⟩
    have HF2 : Hid (BoolPost (!bb) w (.returned (.bool (!bb))) w2) := Lib.hid ⟨rfl, HB.out.trans (hb2.mono HB.out.size)⟩
    clear hb2
    go_wp2_with fail
    go_ret
    exact HF2.out
end Go.Proofs.Ytodkcenoljpgoaa
