/- Contract of table's Encode at tables that may be. Conditions: where its lists lie. -/
import Derived.Test.YtgceleipaiameaaTbH
import Derived.Deep.RegionHeld3
namespace Go.Proofs.Ytgceleipaiameaa
open Go.RowKit
set_option maxRecDepth 100000

theorem inum_n (n s : Nat) (h : n < 4294967296) : TableP.inum (n : Int) s = WireP.num n s := TableP.inum_nat n s h
theorem nums_cons (s x : Nat) (l : List Nat) : nums s (x :: l) = WireP.num x s ++ nums s l := by simp [nums]
theorem nums_nil (s : Nat) : nums s [] = [] := rfl

theorem WriterAt.drew {w : World} {B bw : Nat} {g : Option Nat} {l : List UInt8} (h : WriterAt w B bw g l) : WriterAt w.drew B bw g l :=
  h.apart (F := fun _ => False) (Apart.refl _ w).drew (fun h => h) (fun _ _ h => h)
theorem drew_alloc (w : World) (o : Obj) : (w.alloc o).drew = w.drew.alloc o := rfl
theorem PutIn.undrew {B bw : Nat} {g : Option Nat} {l d : List UInt8} {w w2 : World} (hi : PutIn B bw g l d w.drew w2) : PutIn B bw g l d w w2 := by
  obtain ⟨g', h1, h2, h3⟩ := hi
  exact ⟨g', h1, h2.undrew, h3.undrew⟩
/-- What was boxed ahead of the puts, as a block. -/
theorem block_keep {B bw : Nat} {g : Option Nat} {l d : List UInt8} {w w' : World} {cs : Array Value} {t : TypeId} (h : WriterAt w B bw g l) (hi : PutIn B bw g l d (w.alloc (.cells cs t)).drew w') : w'.heap[w.heap.size]? = some (.cells cs t (0, 0)) := by
  obtain ⟨g', _, _, h3⟩ := hi
  have h0 : (w.alloc (.cells cs t)).drew.heap[w.heap.size]? = some (.cells cs t (0, 0)) := heap_alloc_new w _
  refine (h3.block w.heap.size (by simp) ?_).trans h0
  rintro (e | e)
  · have := h.lt
    omega
  · have := (h.glt _ e).2
    omega

set_option maxHeartbeats 4000000 in
theorem encode_good (x : CfgC) (w : World) (h : CfgIn w x) (hc : TableP.chk x.plain = none) :
    Calls Try.prog 11 #[x.value] w (EncGood x.plain w) := by
  have HB0 := Lib.hid (boxC_below w x)
  have HS0 := Lib.hid (boxC_size w x)
  have HC : Hid (∀ W, CfgIn W x → Calls Try.prog 14 #[x.value] W (CheckPost none W)) := Lib.hid fun W hW => by rw [← hc]; exact check_any x W hW
  have HFr := Lib.hid (h.below (boxC_below w x))
  have HBOX := Lib.hid (fun wr hb => box11 (w := w) (wr := wr) (x := x) (t := 26) hb)
  obtain ⟨hfit, hp12, hq24, hr24⟩ := TableP.chk_fits hc
  have hpl := h.plen
  have hql := h.qlen
  have hrl := h.rlen
  clear h hc
  generalize hP : x.plain = P at *
  obtain ⟨nodes, faulty, slot, gap, rho, dmin, dmax, margin, PA, pn, pcap, parts, QA, qn, qcap, ports, RA, rn, rcap, routes⟩ := x
  subst hP
  simp only [CfgC.plain] at hfit hp12 hq24 hr24
  obtain ⟨f0, f1, f2, f3, f4, f5, f6, f7, -, -, -, fp, fq, fr⟩ := hfit
  simp only at f0 f1 f2 f3 f4 f5 f6 f7 fp fq fr hpl hql hrl
  obtain ⟨n0, rfl, l0⟩ := b1_nat f0
  obtain ⟨n1, rfl, l1⟩ := b1_nat f1
  obtain ⟨n2, rfl, l2⟩ := b4_nat f2
  obtain ⟨n3, rfl, l3⟩ := b4_nat f3
  obtain ⟨n4, rfl, l4⟩ := b4_nat f4
  obtain ⟨n5, rfl, l5⟩ := b4_nat f5
  obtain ⟨n6, rfl, l6⟩ := b4_nat f6
  obtain ⟨n7, rfl, l7⟩ := b4_nat f7
  have Hfp := Lib.hid fp
  have Hfq := Lib.hid fq
  have Hfr := Lib.hid fr
  clear f0 f1 f2 f3 f4 f5 f6 f7 fp fq fr
  have hp12 : pn ≤ 12 := by omega
  have hq24 : qn ≤ 24 := by omega
  have hr24 : rn ≤ 24 := by omega
  have Henc : Hid (TableP.enc (CfgC.plain ⟨n0, n1, n2, n3, n4, n5, n6, n7, PA, pn, pcap, parts, QA, qn, qcap, ports, RA, rn, rcap, routes⟩) = headB n0 n1 n2 n3 n4 n5 n6 n7 pn qn rn ++ (TableP.partsB parts ++ (TableP.portsB ports ++ TableP.routesB routes))) := Lib.hid (by
    simp only [TableP.enc, CfgC.plain, headB, nums_cons, nums_nil, inum_n _ _ l0, inum_n _ _ l1, inum_n _ _ l2, inum_n _ _ l3, inum_n _ _ l4, inum_n _ _ l5, inum_n _ _ l6, inum_n _ _ l7, hpl, hql, hrl, TableP.magic, List.append_assoc, List.append_nil])
  have hmf : ∀ (fn : Fn) (first cap : Array Value) (w : World), (Instr.makeFunc fn first cap).run Try.prog w = .ok (.func fn first cap) w := fun _ _ _ _ => rfl
  simp only [CfgC.value] at HC ⊢
  simp only [boxC, cfgCells] at HB0 HS0 HFr HBOX
  go_enter Try.func11, Try.ntmps11
  go_wp2_with fail
  refine (HC.out _ HFr.out).mono ?_
  rintro e w1 ⟨v, rfl, h1, rfl, h3⟩
  have Hb1 := Lib.hid h3
  have Hfr1 := Lib.hid (HFr.out.below h3)
  have hz : w.heap.size < w1.heap.size := by have := h3.size; rw [HS0.out] at this; omega
  have HS := Lib.hid (PutIn.start (WriterAt.new w1 w1.heap.size (Nat.le_refl _)))
  have HN := Lib.hid (WriterAt.new w1 w1.heap.size (Nat.le_refl _))
  have HBx : Hid (∀ d w2, PutIn w1.heap.size w1.heap.size none [] d (w1.alloc (.cells #[.slice none 0 0] 52)) w2 → Below w1.heap.size w1 w2) := Lib.hid fun d w2 hi => ((Below.refl _ _).alloc (Nat.le_refl _) _).trans (hi.below HN.out (by simp))
  have HsN : Hid (w1.heap.size ≤ (w1.alloc (.cells #[.slice none 0 0] 52)).heap.size) := Lib.hid (by simp)
  clear h1 h3 HC
  go_wp2_with fail
  refine Calls.mono (HS.out.all 4 ?hs2 [1163084593] ?hx2 1 _ _ ?hn2 ?hN2 _ _ ?hcs2 ?hl2 HsN.out) ?hr2
  case hs2 => omega
  case hx2 => simp only [List.mem_cons, List.not_mem_nil, or_false, forall_eq]; omega
  case hn2 => rfl
  case hN2 => simp
  case hcs2 => rfl
  case hl2 => simp
  rintro e w2 ⟨rfl, hi2⟩
  obtain ⟨b0, b1, b2, b3, b4, b5, b6, b7, b8, b9, b10⟩ := HBOX.out w2 (Hb1.out.trans ((HBx.out _ _ hi2).mono Hb1.out.size))
  simp only at b0 b1 b2 b3 b4 b5 b6 b7 b8 b9 b10
  have HI2 := Lib.hid hi2
  clear hi2
  go_wp2_with fail
  refine Calls.mono (HI2.out.all 1 ?hs3 [n0, n1] ?hx3 2 _ _ ?hn3 ?hN3 _ _ ?hcs3 ?hl3 HsN.out) ?hr3
  case hs3 => omega
  case hx3 => simp only [List.mem_cons, List.not_mem_nil, or_false, forall_eq_or_imp, forall_eq]; omega
  case hn3 => rfl
  case hN3 => simp
  case hcs3 => rfl
  case hl3 => simp [nums_length]
  rintro e w3 ⟨rfl, hi3⟩
  obtain ⟨b0, b1, b2, b3, b4, b5, b6, b7, b8, b9, b10⟩ := HBOX.out w3 (Hb1.out.trans ((HBx.out _ _ hi3).mono Hb1.out.size))
  simp only at b0 b1 b2 b3 b4 b5 b6 b7 b8 b9 b10
  have HI3 := Lib.hid hi3
  clear hi3
  go_wp2_with fail
  refine Calls.mono (HI3.out.all 4 ?hs4 [n2, n3, n4, n5, n6, n7] ?hx4 6 _ _ ?hn4 ?hN4 _ _ ?hcs4 ?hl4 HsN.out) ?hr4
  case hs4 => omega
  case hx4 => simp only [List.mem_cons, List.not_mem_nil, or_false, forall_eq_or_imp, forall_eq]; omega
  case hn4 => rfl
  case hN4 => simp
  case hcs4 => rfl
  case hl4 => simp [nums_length]
  rintro e w4 ⟨rfl, hi4⟩
  obtain ⟨b0, b1, b2, b3, b4, b5, b6, b7, b8, b9, b10⟩ := HBOX.out w4 (Hb1.out.trans ((HBx.out _ _ hi4).mono Hb1.out.size))
  simp only at b0 b1 b2 b3 b4 b5 b6 b7 b8 b9 b10
  have HI4 := Lib.hid hi4
  clear hi4
  go_wp2_with fail
  refine Calls.mono (HI4.out.all 1 ?hs5 [pn, qn, rn] ?hx5 3 _ _ ?hn5 ?hN5 _ _ ?hcs5 ?hl5 HsN.out) ?hr5
  case hs5 => omega
  case hx5 => simp only [List.mem_cons, List.not_mem_nil, or_false, forall_eq_or_imp, forall_eq]; omega
  case hn5 => rfl
  case hN5 => simp
  case hcs5 => rfl
  case hl5 => simp [nums_length]
  rintro e w5 ⟨rfl, hi5⟩
  obtain ⟨b0, b1, b2, b3, b4, b5, b6, b7, b8, b9, b10⟩ := HBOX.out w5 (Hb1.out.trans ((HBx.out _ _ hi5).mono Hb1.out.size))
  simp only at b0 b1 b2 b3 b4 b5 b6 b7 b8 b9 b10
  have HI5 := Lib.hid hi5
  clear hi5
  go_wp2_with fail
  have hh : [] ++ nums 4 [1163084593] ++ nums 1 [n0, n1] ++ nums 4 [n2, n3, n4, n5, n6, n7] ++ nums 1 [pn, qn, rn] = headB n0 n1 n2 n3 n4 n5 n6 n7 pn qn rn := by
    simp only [headB, List.nil_append, List.append_assoc]
  have hst := HI5.out
  rw [hh] at hst
  have hl33 := headB_len n0 n1 n2 n3 n4 n5 n6 n7 pn qn rn
  generalize headB n0 n1 n2 n3 n4 n5 n6 n7 pn qn rn = hd at *
  have HST := Lib.hid hst
  clear hst hh HI2 HI3 HI4 HI5 HS
  go_loopw [62] (PartsRel w1.heap.size w1.heap.size hd parts pn (w1.alloc (.cells #[.slice none 0 0] 52))) (fun i _ => (pn + 1 - intOf i).toNat)
  case atStart => exact ⟨0, Nat.zero_le _, rfl, by simpa [TableP.partsB] using HST.out⟩
  case round =>
    clear HST b0 b1 b2 b3 b4 b5 b6 b7 b8 b9 b10
    obtain ⟨k, hk, rfl, hi⟩ := hrel
    have HI := Lib.hid hi
    have hbw := HBx.out _ _ hi
    have Hbw := Lib.hid hbw
    have Hfk := Lib.hid (Hfr1.out.below hbw)
    obtain ⟨b0, b1, b2, b3, b4, b5, b6, b7, b8, b9, b10⟩ := HBOX.out wr (Hb1.out.trans (hbw.mono Hb1.out.size))
    simp only at b0 b1 b2 b3 b4 b5 b6 b7 b8 b9 b10
    clear hi hbw
    by_cases hlt : k < pn
    · obtain ⟨y, hmk⟩ : ∃ y, parts[k]? = some y := ⟨_, List.getElem?_eq_getElem (by omega)⟩
      obtain ⟨b, off, e, hbl, c0, c1, c2, c3, c4, c5, c6, c7, c8⟩ := parts_at Hfk.out.parts hmk
      have hft := Hfp.out y (List.mem_of_getElem? hmk)
      have Hsn := Lib.hid (partsB_take hmk)
      obtain ⟨node, start, length, budget, words, r0, r1, r2, r3⟩ := y
      simp only at e c0 c1 c2 c3 c4 c5 c6 c7 c8
      obtain ⟨t0, t1, t2, t3, t4, t5, t6, t7, t8⟩ := hft
      simp only at t0 t1 t2 t3 t4 t5 t6 t7 t8
      obtain ⟨m0, rfl, u0⟩ := b1_nat t0
      obtain ⟨m1, rfl, u1⟩ := b4_nat t1
      obtain ⟨m2, rfl, u2⟩ := b4_nat t2
      obtain ⟨m3, rfl, u3'⟩ := b1_nat t3
      obtain ⟨m4, rfl, u4'⟩ := b1_nat t4
      clear t0 t1 t2 t3 t4
      have Hpb : Hid (TableP.partB ⟨m0, m1, m2, m3, m4, r0, r1, r2, r3⟩ = nums 1 [m0] ++ nums 4 [m1, m2] ++ nums 1 [m3, m4] ++ nums 1 [r0, r1, r2, r3]) := Lib.hid (by
        simp only [TableP.partB, nums_cons, nums_nil, inum_n _ _ u0, inum_n _ _ u1, inum_n _ _ u2, inum_n _ _ u3', inum_n _ _ u4', List.append_assoc, List.append_nil])
      obtain ⟨g1, hw1, hm1, ha1⟩ := HI.out
      have HW1 := Lib.hid hw1
      have HS2 := Lib.hid (fun o => PutIn.start (hw1.alloc o))
      have HB2 := Lib.hid (show ∀ o, w1.heap.size ≤ (wr.alloc o).heap.size from fun o => by have := Hbw.out.size; simp; omega)
      have Hlen : Hid (([] ++ (hd ++ TableP.partsB (parts.take k))).length ≤ 1000) := Lib.hid (by
        simp only [List.nil_append, List.length_append, TableP.partsB_length, List.length_take]; omega)
      have Hend : Hid (∀ w3 t, t = nums 1 [m0] ++ nums 4 [m1, m2] ++ nums 1 [m3, m4] ++ nums 1 [r0, r1, r2, r3] → PutIn w1.heap.size w1.heap.size g1 ([] ++ (hd ++ TableP.partsB (parts.take k))) t wr w3 → PartsRel w1.heap.size w1.heap.size hd parts pn (w1.alloc (.cells #[.slice none 0 0] 52)) (.int .i64 ((k : Int) + 1)) w3) := Lib.hid fun w3 t ht hi => by
        subst ht
        refine ⟨k + 1, by omega, by go_num, ?_⟩
        have h9 := PutIn.join hm1 ha1 hi
        rw [Hsn.out, Hpb.out]
        simpa only [List.append_assoc] using h9
      clear hw1 hm1 ha1 Hsn Hpb hmk HI Hfk
      generalize [] ++ (hd ++ TableP.partsB (parts.take k)) = lk at *
      subst e
      have i0 : ∀ w : World, (Instr.index 58 (.agg #[.int .u8 (r0 : Nat), .int .u8 (r1 : Nat), .int .u8 (r2 : Nat), .int .u8 (r3 : Nat)]) (.int .i64 0)).run Try.prog w = .ok (.int .u8 (r0 : Nat)) w := fun _ => by kernel_rfl
      have i1 : ∀ w : World, (Instr.index 58 (.agg #[.int .u8 (r0 : Nat), .int .u8 (r1 : Nat), .int .u8 (r2 : Nat), .int .u8 (r3 : Nat)]) (.int .i64 1)).run Try.prog w = .ok (.int .u8 (r1 : Nat)) w := fun _ => by kernel_rfl
      have i2 : ∀ w : World, (Instr.index 58 (.agg #[.int .u8 (r0 : Nat), .int .u8 (r1 : Nat), .int .u8 (r2 : Nat), .int .u8 (r3 : Nat)]) (.int .i64 2)).run Try.prog w = .ok (.int .u8 (r2 : Nat)) w := fun _ => by kernel_rfl
      have i3 : ∀ w : World, (Instr.index 58 (.agg #[.int .u8 (r0 : Nat), .int .u8 (r1 : Nat), .int .u8 (r2 : Nat), .int .u8 (r3 : Nat)]) (.int .i64 3)).run Try.prog w = .ok (.int .u8 (r3 : Nat)) w := fun _ => by kernel_rfl
      go_wp2_with fail
      refine Calls.mono ((HS2.out _).all 1 ?hs6 [m0] ?hx6 1 _ _ ?hn6 ?hN6 _ _ ?hcs6 ?hl6 (HB2.out _)) ?hr6
      case hs6 => omega
      case hx6 => simp only [List.mem_cons, List.not_mem_nil, or_false, forall_eq]; omega
      case hn6 => rfl
      case hN6 => simp
      case hcs6 => rfl
      case hl6 => have := Hlen.out; simp; omega
      rintro e w6 ⟨rfl, hi6⟩
      have d1 := box_keep HW1.out hi6 1 rfl
      have d2 := box_keep HW1.out hi6 2 rfl
      have HI6 := Lib.hid hi6
      clear hi6
      go_wp2_with fail
      refine Calls.mono (HI6.out.all 4 ?hs7 [m1, m2] ?hx7 2 _ _ ?hn7 ?hN7 _ _ ?hcs7 ?hl7 (HB2.out _)) ?hr7
      case hs7 => omega
      case hx7 => simp only [List.mem_cons, List.not_mem_nil, or_false, forall_eq_or_imp, forall_eq]; omega
      case hn7 => rfl
      case hN7 => simp
      case hcs7 => rfl
      case hl7 => have := Hlen.out; simp [nums_length]; omega
      rintro e w7 ⟨rfl, hi7⟩
      have d3 := box_keep HW1.out hi7 3 rfl
      have d4 := box_keep HW1.out hi7 4 rfl
      have HI7 := Lib.hid hi7
      clear hi7
      go_wp2_with fail
      refine Calls.mono (HI7.out.all 1 ?hs8 [m3, m4] ?hx8 2 _ _ ?hn8 ?hN8 _ _ ?hcs8 ?hl8 (HB2.out _)) ?hr8
      case hs8 => omega
      case hx8 => simp only [List.mem_cons, List.not_mem_nil, or_false, forall_eq_or_imp, forall_eq]; omega
      case hn8 => rfl
      case hN8 => simp
      case hcs8 => rfl
      case hl8 => have := Hlen.out; simp [nums_length]; omega
      rintro e w8 ⟨rfl, hi8⟩
      have d5 := box_keep HW1.out hi8 5 rfl
      have d6 := box_keep HW1.out hi8 6 rfl
      have d7 := box_keep HW1.out hi8 7 rfl
      have d8 := box_keep HW1.out hi8 8 rfl
      have HI8 := Lib.hid hi8
      clear hi8
      go_wp2_with fail
      go_loopw [87] (fun i wx => ∃ q : Nat, q ≤ 4 ∧ i = .int .i64 (q : Nat) ∧ PutIn w1.heap.size w1.heap.size g1 lk ([] ++ nums 1 [m0] ++ nums 4 [m1, m2] ++ nums 1 [m3, m4] ++ nums 1 ([r0, r1, r2, r3].take q)) (wr.alloc (.cells #[.int .i64 (m0 : Nat), .int .i64 (m1 : Nat), .int .i64 (m2 : Nat), .int .i64 (m3 : Nat), .int .i64 (m4 : Nat), .int .u8 (r0 : Nat), .int .u8 (r1 : Nat), .int .u8 (r2 : Nat), .int .u8 (r3 : Nat)] 60)) wx) (fun i _ => (5 - intOf i).toNat)
      case atStart => exact ⟨0, by omega, rfl, by simpa [nums_nil] using HI8.out⟩
      case round =>
        clear HI8 d5 d6 d7 d8
        obtain ⟨q, hq, rfl, hiq⟩ := hrel
        have HIq := Lib.hid hiq
        clear hiq
        have hq5 : q = 0 ∨ q = 1 ∨ q = 2 ∨ q = 3 ∨ q = 4 := by omega
        rcases hq5 with rfl | rfl | rfl | rfl | rfl
        · go_wp2_with fail
          refine Calls.mono (HIq.out.all 1 ?hs90 [r0] ?hx90 1 _ _ ?hn90 ?hN90 _ _ ?hcs90 ?hl90 (HB2.out _)) ?hr90
          case hs90 => omega
          case hx90 => simp only [List.mem_cons, List.not_mem_nil, or_false, forall_eq]; omega
          case hn90 => rfl
          case hN90 => simp
          case hcs90 => rfl
          case hl90 => have := Hlen.out; simp [nums_length]; omega
          rintro e w9 ⟨rfl, hi9⟩
          have HI9 := Lib.hid hi9
          clear hi9
          go_wp2_with fail
          go_roundw
          case rel => exact ⟨1, by omega, rfl, by have h9 := HI9.out; simpa [nums] using h9⟩
          case measure => simp [intOf]
        · go_wp2_with fail
          refine Calls.mono (HIq.out.all 1 ?hs91 [r1] ?hx91 1 _ _ ?hn91 ?hN91 _ _ ?hcs91 ?hl91 (HB2.out _)) ?hr91
          case hs91 => omega
          case hx91 => simp only [List.mem_cons, List.not_mem_nil, or_false, forall_eq]; omega
          case hn91 => rfl
          case hN91 => simp
          case hcs91 => rfl
          case hl91 => have := Hlen.out; simp [nums_length]; omega
          rintro e w9 ⟨rfl, hi9⟩
          have HI9 := Lib.hid hi9
          clear hi9
          go_wp2_with fail
          go_roundw
          case rel => exact ⟨2, by omega, rfl, by have h9 := HI9.out; simpa [nums] using h9⟩
          case measure => simp [intOf]
        · go_wp2_with fail
          refine Calls.mono (HIq.out.all 1 ?hs92 [r2] ?hx92 1 _ _ ?hn92 ?hN92 _ _ ?hcs92 ?hl92 (HB2.out _)) ?hr92
          case hs92 => omega
          case hx92 => simp only [List.mem_cons, List.not_mem_nil, or_false, forall_eq]; omega
          case hn92 => rfl
          case hN92 => simp
          case hcs92 => rfl
          case hl92 => have := Hlen.out; simp [nums_length]; omega
          rintro e w9 ⟨rfl, hi9⟩
          have HI9 := Lib.hid hi9
          clear hi9
          go_wp2_with fail
          go_roundw
          case rel => exact ⟨3, by omega, rfl, by have h9 := HI9.out; simpa [nums] using h9⟩
          case measure => simp [intOf]
        · go_wp2_with fail
          refine Calls.mono (HIq.out.all 1 ?hs93 [r3] ?hx93 1 _ _ ?hn93 ?hN93 _ _ ?hcs93 ?hl93 (HB2.out _)) ?hr93
          case hs93 => omega
          case hx93 => simp only [List.mem_cons, List.not_mem_nil, or_false, forall_eq]; omega
          case hn93 => rfl
          case hN93 => simp
          case hcs93 => rfl
          case hl93 => have := Hlen.out; simp [nums_length]; omega
          rintro e w9 ⟨rfl, hi9⟩
          have HI9 := Lib.hid hi9
          clear hi9
          go_wp2_with fail
          go_roundw
          case rel => exact ⟨4, by omega, rfl, by have h9 := HI9.out; simpa [nums] using h9⟩
          case measure => simp [intOf]
        · go_wp2_with fail
          go_roundw
          case rel => exact Hend.out _ _ (by simp [nums]) HIq.out.unalloc
          case measure => simp [intOf]; omega
    have hkn : pn = k := by omega
    have HST : Hid (PutIn w1.heap.size w1.heap.size none [] (hd ++ TableP.partsB parts) (w1.alloc (.cells #[.slice none 0 0] 52)) wr) := Lib.hid (by
      have h9 := HI.out
      rwa [List.take_of_length_le (by omega)] at h9)
    clear HI Hfk
    subst hkn
    go_wp2_with fail
    go_loopw [100] (PortsRel w1.heap.size w1.heap.size (hd ++ TableP.partsB parts) ports qn (w1.alloc (.cells #[.slice none 0 0] 52))) (fun i _ => (qn + 1 - intOf i).toNat)
    case atStart => exact ⟨0, Nat.zero_le _, rfl, by simpa [TableP.portsB] using HST.out⟩
    case round =>
      clear HST b0 b1 b2 b3 b4 b5 b6 b7 b8 b9 b10
      obtain ⟨k, hk, rfl, hi⟩ := hrel
      have HI := Lib.hid hi
      have hbw := HBx.out _ _ hi
      have Hbw := Lib.hid hbw
      have Hfk := Lib.hid (Hfr1.out.below hbw)
      obtain ⟨b0, b1, b2, b3, b4, b5, b6, b7, b8, b9, b10⟩ := HBOX.out wr (Hb1.out.trans (hbw.mono Hb1.out.size))
      simp only at b0 b1 b2 b3 b4 b5 b6 b7 b8 b9 b10
      clear hi hbw
      by_cases hlt : k < qn
      · obtain ⟨y, hmk⟩ : ∃ y, ports[k]? = some y := ⟨_, List.getElem?_eq_getElem (by omega)⟩
        obtain ⟨b, off, e, hbl, c0, c1, c2, c3, c4, c5⟩ := ports_at Hfk.out.ports hmk
        have hft := Hfq.out y (List.mem_of_getElem? hmk)
        have Hsn := Lib.hid (portsB_take hmk)
        obtain ⟨part, kind, out, size, depth, fresh⟩ := y
        simp only at e c0 c1 c2 c3 c4 c5
        obtain ⟨t0, t1, t3, t4, t5⟩ := hft
        simp only at t0 t1 t3 t4 t5
        obtain ⟨m0, rfl, u0⟩ := b1_nat t0
        obtain ⟨m3, rfl, u3'⟩ := b1_nat t3
        obtain ⟨m4, rfl, u4'⟩ := b1_nat t4
        obtain ⟨m5, rfl, u5'⟩ := b1_nat t5
        clear t0 t3 t4 t5
        have hbit := TableP.bit_lt out
        have hkm : (kind : Int) % 256 = kind := by omega
        have hwk : IntKind.i64.wrap (kind : Int) = kind := IntWalk.i64_in _ (by omega)
        have Hpb : Hid (TableP.portB ⟨m0, kind, out, m3, m4, m5⟩ = nums 1 [m0, kind, TableP.bit out, m3, m4, m5]) := Lib.hid (by
          simp only [TableP.portB, nums_cons, nums_nil, inum_n _ _ u0, inum_n _ _ u3', inum_n _ _ u4', inum_n _ _ u5', List.append_nil])
        obtain ⟨g1, hw1, hm1, ha1⟩ := HI.out
        have HW1 := Lib.hid hw1
        have HS2 := Lib.hid (fun o => PutIn.start (hw1.alloc o))
        have HS3 := Lib.hid (fun o => PutIn.start (hw1.alloc o).drew)
        have HB3 := Lib.hid (show ∀ o, w1.heap.size ≤ (wr.alloc o).drew.heap.size from fun o => by have := Hbw.out.size; simp; omega)
        have HB2 := Lib.hid (show ∀ o, w1.heap.size ≤ (wr.alloc o).heap.size from fun o => by have := Hbw.out.size; simp; omega)
        have Hlen : Hid (([] ++ (hd ++ TableP.partsB parts ++ TableP.portsB (ports.take k))).length ≤ 1000) := Lib.hid (by
          simp only [List.nil_append, List.length_append, TableP.partsB_length, TableP.portsB_length, List.length_take]; omega)
        have Hend : Hid (∀ w3 t, t = nums 1 [m0, kind, TableP.bit out, m3, m4, m5] → PutIn w1.heap.size w1.heap.size g1 ([] ++ (hd ++ TableP.partsB parts ++ TableP.portsB (ports.take k))) t wr w3 → PortsRel w1.heap.size w1.heap.size (hd ++ TableP.partsB parts) ports qn (w1.alloc (.cells #[.slice none 0 0] 52)) (.int .i64 ((k : Int) + 1)) w3) := Lib.hid fun w3 t ht hi => by
          subst ht
          refine ⟨k + 1, by omega, by go_num, ?_⟩
          have h9 := PutIn.join hm1 ha1 hi
          rw [Hsn.out, Hpb.out]
          simpa only [List.append_assoc] using h9
        clear hw1 hm1 ha1 Hsn Hpb hmk HI Hfk
        generalize [] ++ (hd ++ TableP.partsB parts ++ TableP.portsB (ports.take k)) = lk at *
        subst e
        have HWay := Lib.hid (fun W => way_any out W)
        generalize TableP.bit out = bt at *
        go_wp2_with fail
        have hd : ((wr.alloc (.cells #[.int .i64 (m0 : Nat), .int .u8 (kind : Nat), .bool out, .int .i64 (m3 : Nat), .int .i64 (m4 : Nat), .int .i64 (m5 : Nat)] 63)).drew).heap[wr.heap.size]? = some (.cells #[.int .i64 (m0 : Nat), .int .u8 (kind : Nat), .bool out, .int .i64 (m3 : Nat), .int .i64 (m4 : Nat), .int .i64 (m5 : Nat)] 63 (0, 0)) := heap_alloc_new wr _
        have d0 := fun (W : World) (hW : W.heap[wr.heap.size]? = some (.cells #[.int .i64 (m0 : Nat), .int .u8 (kind : Nat), .bool out, .int .i64 (m3 : Nat), .int .i64 (m4 : Nat), .int .i64 (m5 : Nat)] 63 (0, 0))) => cell_at hW 0 rfl
        have d1 := fun (W : World) (hW : W.heap[wr.heap.size]? = some (.cells #[.int .i64 (m0 : Nat), .int .u8 (kind : Nat), .bool out, .int .i64 (m3 : Nat), .int .i64 (m4 : Nat), .int .i64 (m5 : Nat)] 63 (0, 0))) => cell_at hW 1 rfl
        have d2 := fun (W : World) (hW : W.heap[wr.heap.size]? = some (.cells #[.int .i64 (m0 : Nat), .int .u8 (kind : Nat), .bool out, .int .i64 (m3 : Nat), .int .i64 (m4 : Nat), .int .i64 (m5 : Nat)] 63 (0, 0))) => cell_at hW 2 rfl
        have d3 := fun (W : World) (hW : W.heap[wr.heap.size]? = some (.cells #[.int .i64 (m0 : Nat), .int .u8 (kind : Nat), .bool out, .int .i64 (m3 : Nat), .int .i64 (m4 : Nat), .int .i64 (m5 : Nat)] 63 (0, 0))) => cell_at hW 3 rfl
        have d4 := fun (W : World) (hW : W.heap[wr.heap.size]? = some (.cells #[.int .i64 (m0 : Nat), .int .u8 (kind : Nat), .bool out, .int .i64 (m3 : Nat), .int .i64 (m4 : Nat), .int .i64 (m5 : Nat)] 63 (0, 0))) => cell_at hW 4 rfl
        have d5 := fun (W : World) (hW : W.heap[wr.heap.size]? = some (.cells #[.int .i64 (m0 : Nat), .int .u8 (kind : Nat), .bool out, .int .i64 (m3 : Nat), .int .i64 (m4 : Nat), .int .i64 (m5 : Nat)] 63 (0, 0))) => cell_at hW 5 rfl
        have hbl : wr.heap.size < (wr.alloc (.cells #[.int .i64 (m0 : Nat), .int .u8 (kind : Nat), .bool out, .int .i64 (m3 : Nat), .int .i64 (m4 : Nat), .int .i64 (m5 : Nat)] 63)).drew.heap.size := by simp
        clear c0 c1 c2 c3 c4 c5
        refine wp_region_held_drew (S := fun W => W.heap[wr.heap.size]? = some (.cells #[.int .i64 (m0 : Nat), .int .u8 (kind : Nat), .bool out, .int .i64 (m3 : Nat), .int .i64 (m4 : Nat), .int .i64 (m5 : Nat)] 63 (0, 0))) (by kernel_rfl) hd (fun _ => ?_)
        refine wpAnyH_take (i := 0) (oi := ?oo1) (v := ?vv1) ?ii1 (by kernel_rfl) ?ff1 (by kernel_rfl) ?qq1 (Or.inl ⟨?ww1, ?yy1⟩) hd ?rr1
        case ii1 => simp only [List.getElem?_toArray, List.getElem?_cons_zero]; rfl
        case ff1 => kernel_rfl
        case qq1 => exact fun _ _ _ h => h
        case ww1 => rfl
        case yy1 => intro W hW; go_simp <;> with_reducible rfl
        try simp only [Act.put, List.setIfInBounds_toArray, List.set_cons_zero, List.set_cons_succ]
        refine wpAnyH_take (i := 1) (oi := ?oo2) (v := ?vv2) ?ii2 (by kernel_rfl) ?ff2 (by kernel_rfl) ?qq2 (Or.inl ⟨?ww2, ?yy2⟩) hd ?rr2
        case ii2 => simp only [List.getElem?_toArray, List.getElem?_cons_succ, List.getElem?_cons_zero]; rfl
        case ff2 => kernel_rfl
        case qq2 => exact fun _ _ _ h => h
        case ww2 => rfl
        case yy2 => intro W hW; go_simp <;> with_reducible rfl
        try simp only [Act.put, List.setIfInBounds_toArray, List.set_cons_zero, List.set_cons_succ]
        refine wpAnyH_take (i := 2) (oi := ?oo3) (v := ?vv3) ?ii3 (by kernel_rfl) ?ff3 (by kernel_rfl) ?qq3 (Or.inl ⟨?ww3, ?yy3⟩) hd ?rr3
        case ii3 => simp only [List.getElem?_toArray, List.getElem?_cons_succ, List.getElem?_cons_zero]; rfl
        case ff3 => kernel_rfl
        case qq3 => exact fun _ _ _ h => h
        case ww3 => rfl
        case yy3 => intro W hW; go_simp <;> with_reducible rfl
        try simp only [Act.put, List.setIfInBounds_toArray, List.set_cons_zero, List.set_cons_succ]
        refine wpAnyH_take (i := 3) (oi := ?oo4) (v := ?vv4) ?ii4 (by kernel_rfl) ?ff4 (by kernel_rfl) ?qq4 (Or.inl ⟨?ww4, ?yy4⟩) hd ?rr4
        case ii4 => simp only [List.getElem?_toArray, List.getElem?_cons_succ, List.getElem?_cons_zero]; rfl
        case ff4 => kernel_rfl
        case qq4 => exact fun _ _ _ h => h
        case ww4 => rfl
        case yy4 => intro W hW; go_simp <;> with_reducible rfl
        try simp only [Act.put, List.setIfInBounds_toArray, List.set_cons_zero, List.set_cons_succ]
        refine wpAnyH_take (i := 4) (oi := ?oo5) (v := ?vv5) ?ii5 (by kernel_rfl) ?ff5 (by kernel_rfl) ?qq5 (Or.inl ⟨?ww5, ?yy5⟩) hd ?rr5
        case ii5 => simp only [List.getElem?_toArray, List.getElem?_cons_succ, List.getElem?_cons_zero]; rfl
        case ff5 => kernel_rfl
        case qq5 => exact fun _ _ _ h => h
        case ww5 => rfl
        case yy5 => intro W hW; go_simp <;> with_reducible rfl
        try simp only [Act.put, List.setIfInBounds_toArray, List.set_cons_zero, List.set_cons_succ]
        refine wpAnyH_take (i := 5) (oi := ?oo6) (v := ?vv6) ?ii6 (by kernel_rfl) ?ff6 (by kernel_rfl) ?qq6 (Or.inl ⟨?ww6, ?yy6⟩) hd ?rr6
        case ii6 => simp only [List.getElem?_toArray, List.getElem?_cons_succ, List.getElem?_cons_zero]; rfl
        case ff6 => kernel_rfl
        case qq6 => exact fun _ _ _ h => h
        case ww6 => rfl
        case yy6 => intro W hW; go_simp <;> with_reducible rfl
        try simp only [Act.put, List.setIfInBounds_toArray, List.set_cons_zero, List.set_cons_succ]
        refine wpAnyH_take (i := 6) (oi := ?oo7) (v := ?vv7) ?ii7 (by kernel_rfl) ?ff7 (by kernel_rfl) ?qq7 (Or.inl ⟨?ww7, ?yy7⟩) hd ?rr7
        case ii7 => simp only [List.getElem?_toArray, List.getElem?_cons_succ, List.getElem?_cons_zero]; rfl
        case ff7 => kernel_rfl
        case qq7 => exact fun _ _ _ h => h
        case ww7 => rfl
        case yy7 => intro W hW; go_simp <;> with_reducible rfl
        try simp only [Act.put, List.setIfInBounds_toArray, List.set_cons_zero, List.set_cons_succ]
        refine wpAnyH_take (i := 7) (oi := ?oo8) (v := ?vv8) ?ii8 (by kernel_rfl) ?ff8 (by kernel_rfl) ?qq8 (Or.inl ⟨?ww8, ?yy8⟩) hd ?rr8
        case ii8 => simp only [List.getElem?_toArray, List.getElem?_cons_succ, List.getElem?_cons_zero]; rfl
        case ff8 => kernel_rfl
        case qq8 => exact fun _ _ _ h => h
        case ww8 => rfl
        case yy8 => intro W hW; go_simp <;> with_reducible rfl
        try simp only [Act.put, List.setIfInBounds_toArray, List.set_cons_zero, List.set_cons_succ]
        refine wpAnyH_take (i := 9) (oi := ?oo9) (v := ?vv9) ?ii9 (by kernel_rfl) ?ff9 (by kernel_rfl) ?qq9 (Or.inl ⟨?ww9, ?yy9⟩) hd ?rr9
        case ii9 => simp only [List.getElem?_toArray, List.getElem?_cons_succ, List.getElem?_cons_zero]; rfl
        case ff9 => kernel_rfl
        case qq9 => exact fun _ _ _ h => h
        case ww9 => rfl
        case yy9 => intro W hW; go_simp <;> with_reducible rfl
        try simp only [Act.put, List.setIfInBounds_toArray, List.set_cons_zero, List.set_cons_succ]
        refine wpAnyH_take (i := 10) (oi := ?oo10) (v := ?vv10) ?ii10 (by kernel_rfl) ?ff10 (by kernel_rfl) ?qq10 (Or.inl ⟨?ww10, ?yy10⟩) hd ?rr10
        case ii10 => simp only [List.getElem?_toArray, List.getElem?_cons_succ, List.getElem?_cons_zero]; rfl
        case ff10 => kernel_rfl
        case qq10 => exact fun _ _ _ h => h
        case ww10 => rfl
        case yy10 => intro W hW; go_simp <;> with_reducible rfl
        try simp only [Act.put, List.setIfInBounds_toArray, List.set_cons_zero, List.set_cons_succ]
        refine wpAnyH_take (i := 11) (oi := ?oo11) (v := ?vv11) ?ii11 (by kernel_rfl) ?ff11 (by kernel_rfl) ?qq11 (Or.inl ⟨?ww11, ?yy11⟩) hd ?rr11
        case ii11 => simp only [List.getElem?_toArray, List.getElem?_cons_succ, List.getElem?_cons_zero]; rfl
        case ff11 => kernel_rfl
        case qq11 => exact fun _ _ _ h => h
        case ww11 => rfl
        case yy11 => intro W hW; go_simp <;> with_reducible rfl
        try simp only [Act.put, List.setIfInBounds_toArray, List.set_cons_zero, List.set_cons_succ]
        refine wpAnyH_take (i := 12) (oi := ?oo12) (v := ?vv12) ?ii12 (by kernel_rfl) ?ff12 (by kernel_rfl) ?qq12 (Or.inl ⟨?ww12, ?yy12⟩) hd ?rr12
        case ii12 => simp only [List.getElem?_toArray, List.getElem?_cons_succ, List.getElem?_cons_zero]; rfl
        case ff12 => kernel_rfl
        case qq12 => exact fun _ _ _ h => h
        case ww12 => rfl
        case yy12 => intro W hW; go_simp <;> with_reducible rfl
        try simp only [Act.put, List.setIfInBounds_toArray, List.set_cons_zero, List.set_cons_succ]
        refine wpAnyH_take (i := 13) (oi := ?oo13) (v := ?vv13) ?ii13 (by kernel_rfl) ?ff13 (by kernel_rfl) ?qq13 (Or.inl ⟨?ww13, ?yy13⟩) hd ?rr13
        case ii13 => simp only [List.getElem?_toArray, List.getElem?_cons_succ, List.getElem?_cons_zero]; rfl
        case ff13 => kernel_rfl
        case qq13 => exact fun _ _ _ h => h
        case ww13 => rfl
        case yy13 => intro W hW; go_simp <;> with_reducible rfl
        try simp only [Act.put, List.setIfInBounds_toArray, List.set_cons_zero, List.set_cons_succ]
        refine wpAnyH_take (i := 14) (oi := ?oo14) (v := ?vv14) ?ii14 (by kernel_rfl) ?ff14 (by kernel_rfl) ?qq14 (Or.inl ⟨?ww14, ?yy14⟩) hd ?rr14
        case ii14 => simp only [List.getElem?_toArray, List.getElem?_cons_succ, List.getElem?_cons_zero]; rfl
        case ff14 => kernel_rfl
        case qq14 => exact fun _ _ _ h => h
        case ww14 => rfl
        case yy14 => intro W hW; go_simp <;> with_reducible rfl
        try simp only [Act.put, List.setIfInBounds_toArray, List.set_cons_zero, List.set_cons_succ]
        refine wpAnyH_ready (rs := [8]) (by kernel_rfl) (by simp) ?_
        refine AllReadyH.cons (o := ?oo15) ?ii15 (fun K hK => ?_) AllReadyH.nil
        case ii15 => simp only [List.getElem?_toArray, List.getElem?_cons_succ, List.getElem?_cons_zero]; rfl
        go_simp
        refine (HWay.out _).mono ?_
        rintro e w6 ⟨rfl, rfl⟩
        go_wp2_with fail
        refine hK.out _ _ hd (fun _ => ?_)
        clear hK K
        refine wpAnyH_ready (rs := [15]) (by kernel_rfl) (by simp) ?_
        refine AllReadyH.cons (o := ?oo16) ?ii16 (fun K hK => ?_) AllReadyH.nil
        case ii16 => simp only [List.getElem?_toArray, List.getElem?_cons_succ, List.getElem?_cons_zero]; rfl
        go_simp
        have hd1 : ((wr.alloc (.cells #[.int .i64 (m0 : Nat), .int .u8 (kind : Nat), .bool out, .int .i64 (m3 : Nat), .int .i64 (m4 : Nat), .int .i64 (m5 : Nat)] 63)).alloc (.cells #[.int .i64 (m0 : Nat), .int .i64 (kind : Nat), .int .i64 (bt : Nat), .int .i64 (m3 : Nat), .int .i64 (m4 : Nat), .int .i64 (m5 : Nat)] 3)).drew.heap[wr.heap.size]? = some (.cells #[.int .i64 (m0 : Nat), .int .u8 (kind : Nat), .bool out, .int .i64 (m3 : Nat), .int .i64 (m4 : Nat), .int .i64 (m5 : Nat)] 63 (0, 0)) := (Below.heap_alloc _ _ _ (by simp)).trans (heap_alloc_new wr _)
        refine hK.out _ _ hd1 (fun _ => ?_)
        clear hK K
        refine wpAnyH_ready (rs := [16]) (by kernel_rfl) (by simp) ?_
        refine AllReadyH.cons (o := ?oo17) ?ii17 (fun K hK => ?_) AllReadyH.nil
        case ii17 => simp only [List.getElem?_toArray, List.getElem?_cons_succ, List.getElem?_cons_zero]; rfl
        go_simp
        rw [drew_alloc (wr.alloc _)]
        refine Calls.mono ((HS3.out _).all 1 ?hs16 [m0, kind, bt, m3, m4, m5] ?hx16 6 _ _ ?hn16 ?hN16 _ _ ?hcs16 ?hl16 (HB3.out _)) ?hr16
        case hs16 => omega
        case hx16 => simp only [List.mem_cons, List.not_mem_nil, or_false, forall_eq_or_imp, forall_eq]; omega
        case hn16 => rfl
        case hN16 => simp
        case hcs16 => rfl
        case hl16 => have := Hlen.out; simp; omega
        rintro e w16 ⟨rfl, hi16⟩
        have hd16 := block_keep HW1.out hi16
        have HI16 := Lib.hid hi16
        clear hi16
        go_wp2_with fail
        refine hK.out _ _ hd16 (fun _ => ?_)
        clear hK K
        refine wpAnyH_done (by kernel_rfl) ?_ _
        go_wp2_with fail
        go_roundw
        case rel => exact Hend.out _ _ rfl (by have h9 := HI16.out.undrew.unalloc; rwa [List.nil_append] at h9)
        case measure => simp [intOf]; omega
      have hkn : qn = k := by omega
      have HST : Hid (PutIn w1.heap.size w1.heap.size none [] ((hd ++ TableP.partsB parts) ++ TableP.portsB ports) (w1.alloc (.cells #[.slice none 0 0] 52)) wr) := Lib.hid (by
        have h9 := HI.out
        rwa [List.take_of_length_le (by omega)] at h9)
      clear HI Hfk
      subst hkn
      go_wp2_with fail
      go_loopw [125] (RoutesRel w1.heap.size w1.heap.size (hd ++ TableP.partsB parts ++ TableP.portsB ports) routes rn (w1.alloc (.cells #[.slice none 0 0] 52))) (fun i _ => (rn + 1 - intOf i).toNat)
      case atStart => exact ⟨0, Nat.zero_le _, rfl, by simpa [TableP.routesB] using HST.out⟩
      case round =>
        clear HST b0 b1 b2 b3 b4 b5 b6 b7 b8 b9 b10
        obtain ⟨k, hk, rfl, hi⟩ := hrel
        have HI := Lib.hid hi
        have hbw := HBx.out _ _ hi
        have Hbw := Lib.hid hbw
        have Hfk := Lib.hid (Hfr1.out.below hbw)
        obtain ⟨b0, b1, b2, b3, b4, b5, b6, b7, b8, b9, b10⟩ := HBOX.out wr (Hb1.out.trans (hbw.mono Hb1.out.size))
        simp only at b0 b1 b2 b3 b4 b5 b6 b7 b8 b9 b10
        clear hi hbw
        by_cases hlt : k < rn
        · obtain ⟨y, hmk⟩ : ∃ y, routes[k]? = some y := ⟨_, List.getElem?_eq_getElem (by omega)⟩
          obtain ⟨b, off, e, hbl, c0, c1⟩ := routes_at Hfk.out.routes hmk
          have hft := Hfr.out y (List.mem_of_getElem? hmk)
          have Hsn := Lib.hid (routesB_take hmk)
          obtain ⟨src, dst⟩ := y
          simp only at e c0 c1
          obtain ⟨t0, t1⟩ := hft
          simp only at t0 t1
          obtain ⟨m0, rfl, u0⟩ := b1_nat t0
          obtain ⟨m1, rfl, u1⟩ := b1_nat t1
          clear t0 t1
          have Hpb : Hid (TableP.routeB ⟨m0, m1⟩ = nums 1 [m0, m1]) := Lib.hid (by
            simp only [TableP.routeB, nums_cons, nums_nil, inum_n _ _ u0, inum_n _ _ u1, List.append_nil])
          obtain ⟨g1, hw1, hm1, ha1⟩ := HI.out
          have HW1 := Lib.hid hw1
          have HS2 := Lib.hid (fun o => PutIn.start (hw1.alloc o))
          have HB2 := Lib.hid (show ∀ o, w1.heap.size ≤ (wr.alloc o).heap.size from fun o => by have := Hbw.out.size; simp; omega)
          have Hlen : Hid (([] ++ (hd ++ TableP.partsB parts ++ TableP.portsB ports ++ TableP.routesB (routes.take k))).length ≤ 1000) := Lib.hid (by
            simp only [List.nil_append, List.length_append, TableP.partsB_length, TableP.portsB_length, TableP.routesB_length, List.length_take]; omega)
          have Hend : Hid (∀ w3 t, t = nums 1 [m0, m1] → PutIn w1.heap.size w1.heap.size g1 ([] ++ (hd ++ TableP.partsB parts ++ TableP.portsB ports ++ TableP.routesB (routes.take k))) t wr w3 → RoutesRel w1.heap.size w1.heap.size (hd ++ TableP.partsB parts ++ TableP.portsB ports) routes rn (w1.alloc (.cells #[.slice none 0 0] 52)) (.int .i64 ((k : Int) + 1)) w3) := Lib.hid fun w3 t ht hi => by
            subst ht
            refine ⟨k + 1, by omega, by go_num, ?_⟩
            have h9 := PutIn.join hm1 ha1 hi
            rw [Hsn.out, Hpb.out]
            simpa only [List.append_assoc] using h9
          clear hw1 hm1 ha1 Hsn Hpb hmk HI Hfk
          generalize [] ++ (hd ++ TableP.partsB parts ++ TableP.portsB ports ++ TableP.routesB (routes.take k)) = lk at *
          subst e
          go_wp2_with fail
          refine Calls.mono ((HS2.out _).all 1 ?hs26 [m0, m1] ?hx26 2 _ _ ?hn26 ?hN26 _ _ ?hcs26 ?hl26 (HB2.out _)) ?hr26
          case hs26 => omega
          case hx26 => simp only [List.mem_cons, List.not_mem_nil, or_false, forall_eq_or_imp, forall_eq]; omega
          case hn26 => rfl
          case hN26 => simp
          case hcs26 => rfl
          case hl26 => have := Hlen.out; simp; omega
          rintro e w26 ⟨rfl, hi26⟩

          have HI26 := Lib.hid hi26
          clear hi26
          go_wp2_with fail
          go_roundw
          case rel => exact Hend.out _ _ rfl (by have h9 := HI26.out.unalloc; rwa [List.nil_append] at h9)
          case measure => simp [intOf]; omega
        have hkn : rn = k := by omega
        have HST : Hid (PutIn w1.heap.size w1.heap.size none [] ((hd ++ TableP.partsB parts ++ TableP.portsB ports) ++ TableP.routesB routes) (w1.alloc (.cells #[.slice none 0 0] 52)) wr) := Lib.hid (by
          have h9 := HI.out
          rwa [List.take_of_length_le (by omega)] at h9)
        clear HI Hfk
        subst hkn
        go_wp2_with fail
        have Hb6 := Lib.hid Hbw.out
        obtain ⟨g6, hw6, -, -⟩ := HST.out
        have hw6' : WriterAt wr w1.heap.size w1.heap.size g6 (TableP.enc (CfgC.plain ⟨n0, n1, n2, n3, n4, n5, n6, n7, PA, pn, pcap, parts, QA, qn, qcap, ports, RA, rn, rcap, routes⟩)) := by
          rw [Henc.out]
          simpa only [List.nil_append, List.append_assoc] using hw6
        have Hw6 := Lib.hid hw6'
        have hlen : Hid ((TableP.enc (CfgC.plain ⟨n0, n1, n2, n3, n4, n5, n6, n7, PA, pn, pcap, parts, QA, qn, qcap, ports, RA, rn, rcap, routes⟩)).length ≤ 30000) := Lib.hid (by
          rw [TableP.enc_length]; simp only [CfgC.plain]; omega)
        clear hw6 hw6' Henc HST Hfp Hfq Hfr Hfr1 b0 b1 b2 b3 b4 b5 b6 b7 b8 b9 b10
        generalize (CfgC.plain ⟨n0, n1, n2, n3, n4, n5, n6, n7, PA, pn, pcap, parts, QA, qn, qcap, ports, RA, rn, rcap, routes⟩) = FR at *
        obtain ⟨P, hP⟩ : ∃ P, TableP.enc FR = P := ⟨_, rfl⟩
        have HFR := Lib.hid hP
        rw [hP] at Hw6 hlen
        clear hP
        refine (bytes_any w1.heap.size w1.heap.size g6 P wr (by have := hlen.out; omega) Hw6.out).mono ?_
        rintro e w7 ⟨v7, g7, rfl, hr7, hb7⟩
        obtain ⟨A7, cap7, rfl, hc7, -, hby7⟩ := hr7.bytes
        have Hby7 := Lib.hid hby7
        have Hb7 := Lib.hid (Hb6.out.trans (hb7.mono Hb6.out.size))
        have HSe := Lib.hid (seal_any A7 P P.length cap7 rfl w7 (by have := hlen.out; omega) hby7)
        clear hr7 hby7 hb7 Hw6 Hb6
        go_wp2_with fail
        refine HSe.out.mono ?_
        rintro e w8 hs8
        obtain ⟨v8, g8, rfl, hr8, hb8⟩ := hs8.row
        have HF : Hid (EncGood FR w (.returned (.tuple #[v8, .nilIface])) w8) := Lib.hid ⟨v8, g8, rfl, by rw [HFR.out]; exact hr8.base (fun k hk => by have := (hr8.lt k hk).1; have h2 := Hb7.out.size; omega), (HB0.out.trans (Hb1.out.mono (by rw [HS0.out]; omega))).trans (((Hb7.out.trans (hb8.mono Hb7.out.size))).mono (Nat.le_of_lt hz))⟩
        clear hs8 hr8 hb8
        go_wp2_with fail
        go_ret2
        exact HF.out
end Go.Proofs.Ytgceleipaiameaa
