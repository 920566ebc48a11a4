/- Contracts of health's nothing, hasOne and Kind at an error in memory. Conditions: where the faults lie; at most a million links. -/
import Derived.Test.YtabndibenffngaaDoorErrK
import Derived.Test.YtabndibenffngaaDoorMem
namespace Go.Proofs.YtabndibenffngaaDoor
open Go.RowKit Go.Extern.Stop Go.Stop Go.Extern
set_option maxRecDepth 100000

theorem hnothing_nil (w : World) : Calls Tryd.prog 30 #[.nilIface] w fun e w' => e = .returned (.bool true) ∧ w = w' := by
  go_enter Tryd.func30, Tryd.ntmps30
  go_wp2
  go_ret
  exact ⟨rfl, rfl⟩
theorem hnothing_not (v : Value) (h : isErr v) (w : World) : Calls Tryd.prog 30 #[v] w fun e w' => e = .returned (.bool false) ∧ w = w' := by
  have h1 := asFault_E
  have h2 := asFault_F
  rcases h with ⟨n, rfl⟩ | ⟨b, rfl⟩
  · go_enter Tryd.func30, Tryd.ntmps30
    go_wp2
    go_ret
    exact ⟨rfl, rfl⟩
  · go_enter Tryd.func30, Tryd.ntmps30
    go_wp2
    go_ret
    exact ⟨rfl, rfl⟩

def BoolH (b : Bool) (w : World) (e : Ending) (w' : World) : Prop := e = .returned (.bool b) ∧ Below w.heap.size w w'
/-- The closure: is a number among the error's? -/
theorem hone_any (B : Nat) (l : List (Nat × Int × Int)) (t : Option Int) (code : Int) (N : Nat) (w : World) (hl : l.length ≤ 1000000) (hB : B ≤ w.heap.size) (hin : ErrIn w t B l) (hN : w.heap[N]? = some (.cells #[errV l t] 25 (0, 0))) :
    Calls Tryd.prog 37 #[.int .i64 code, .pointer (some ⟨N, 0, none⟩)] w (BoolH (decide (code ∈ codes l t)) w) := by
  have H := Lib.hid (has_any B l t code w hl hB hin)
  obtain ⟨k0, -⟩ := cell0 hN
  have hv := errV_cases l t
  clear hin hN
  generalize errV l t = v at *
  generalize decide (code ∈ codes l t) = d at *
  rcases hv with rfl | ⟨m, rfl⟩ | ⟨b, rfl⟩
  all_goals
    go_enter Tryd.func37, Tryd.ntmps37
    go_wp2_with fail
    refine H.out.mono ?_
    rintro e w' ⟨rfl, hb⟩
    have Hb := Lib.hid hb
    clear hb
    go_wp2_with fail
    go_ret
    exact ⟨rfl, Hb.out⟩

/-- Which of the numbers are among the error's. -/
def anyOf (l : List (Nat × Int × Int)) (t : Option Int) (cs : List Int) : Bool := cs.any fun c => decide (c ∈ codes l t)
def IdxH (b : Bool) (w : World) (e : Ending) (w' : World) : Prop := ∃ r : Int, e = .returned (.int .i64 r) ∧ decide (0 ≤ r) = b ∧ Below w.heap.size w w'
def IdxHR (p : Int → Bool) (cs : List Int) (n : Nat) (W : World) (i : Value) (wr : World) : Prop := ∃ k, k ≤ n ∧ i = .int .i64 (k : Nat) ∧ (cs.take k).any p = false ∧ Below W.heap.size W wr
theorem any_takeH {α : Type} {l : List α} {p : α → Bool} {k : Nat} {y : α} (h : l[k]? = some y) : (l.take (k + 1)).any p = ((l.take k).any p || p y) := by
  rw [List.take_add_one, h, List.any_append]
  simp
set_option maxHeartbeats 1000000 in
theorem hindex_any (B : Nat) (l : List (Nat × Int × Int)) (t : Option Int) (cs : List Int) (n M N : Nat) (w : World) (hl : l.length ≤ 1000000) (hB : B ≤ w.heap.size) (hin : ErrIn w t B l) (hN : w.heap[N]? = some (.cells #[errV l t] 25 (0, 0)))
    (hn : cs.length = n) (hn9 : n ≤ 9) (hM : w.heap[M]? = some (.cells (cs.map (Value.int .i64)).toArray 30 (0, 0))) :
    Calls Tryd.prog 40 #[.slice (some ⟨M, 0, none⟩) n n, .func (.func 37) #[] #[.pointer (some ⟨N, 0, none⟩)]] w (IdxH (anyOf l t cs) w) := by
  have hlt := lt_of_block hN
  have hmt := lt_of_block hM
  have HC : Hid (∀ W c, Below w.heap.size w W → Calls Tryd.prog 37 #[.int .i64 c, .pointer (some ⟨N, 0, none⟩)] W (BoolH (decide (c ∈ codes l t)) W)) := Lib.hid fun W c hb =>
    hone_any B l t c N W hl (Nat.le_trans hB hb.size) (hin.below hb hB) ((hb.block N hlt).trans hN)
  have HK : Hid (∀ W k c, Below w.heap.size w W → cs[k]? = some c → W.cell? ⟨M, k, none⟩ = some (.int .i64 c)) := Lib.hid fun W k c hb hc =>
    cell_at ((hb.block M hmt).trans hM) k (by rw [List.getElem?_toArray, List.getElem?_map, hc]; rfl)
  have HST := Lib.hid (Below.refl w.heap.size w)
  unfold anyOf
  clear hin hN hM hlt hmt hB hl
  generalize hpr : (fun c => decide (c ∈ codes l t)) = pr at *
  have hpd : ∀ c, decide (c ∈ codes l t) = pr c := fun c => by rw [← hpr]
  simp only [hpd] at HC
  clear hpr hpd
  go_enter Tryd.func40, Tryd.ntmps40
  go_wp2_with fail
  go_loopw [8] (IdxHR pr cs n w) (fun i _ => (n + 1 - intOf i).toNat)
  case atStart => exact ⟨0, Nat.zero_le _, rfl, rfl, HST.out⟩
  case round =>
    clear HST
    obtain ⟨k, hk, rfl, hnone, hb⟩ := hrel
    have Hb := Lib.hid hb
    have Hno := Lib.hid hnone
    clear hb hnone
    by_cases hlt : k < n
    · obtain ⟨y, hmk⟩ : ∃ y, cs[k]? = some y := ⟨_, List.getElem?_eq_getElem (by omega)⟩
      have c0 := HK.out wr k y Hb.out hmk
      have HP := Lib.hid (HC.out wr y Hb.out)
      have Hta := Lib.hid (any_takeH (p := pr) hmk)
      have Hmem := Lib.hid (List.mem_of_getElem? hmk)
      clear hmk
      by_cases hy : pr y = true
      case pos =>
        have HF : Hid (∀ W, Below wr.heap.size wr W → IdxH (cs.any pr) w (.returned (.int .i64 (k : Nat))) W) := Lib.hid fun W hW => ⟨k, rfl, by rw [List.any_eq_true.2 ⟨y, Hmem.out, hy⟩]; simp, Hb.out.trans (hW.mono Hb.out.size)⟩
        rw [hy] at HP
        clear hy Hta Hmem
        go_wp2_with fail
        refine HP.out.mono ?_
        rintro e w1 ⟨rfl, hb1⟩
        have HF2 := Lib.hid (HF.out _ hb1)
        clear hb1
        go_wp2_with fail
        go_ret
        exact HF2.out
      have hy2 : pr y = false := by simpa using hy
      have HR : Hid (∀ W, Below wr.heap.size wr W → IdxHR pr cs n w (.int .i64 ((k : Int) + 1)) W) := Lib.hid fun W hW => by
        refine ⟨k + 1, by omega, by go_num, ?_, Hb.out.trans (hW.mono Hb.out.size)⟩
        rw [Hta.out, Hno.out, hy2]; rfl
      rw [hy2] at HP
      clear hy hy2 Hta Hmem
      go_wp2_with fail
      refine HP.out.mono ?_
      rintro e w1 ⟨rfl, hb1⟩
      have HR2 := Lib.hid (HR.out _ hb1)
      clear hb1
      go_wp2_with fail
      go_roundw
      case rel => exact HR2.out
      case measure => simp [intOf]; omega
    have hkn : n = k := by omega
    have HF : Hid (IdxH (cs.any pr) w (.returned (.int .i64 (-1))) wr) := Lib.hid ⟨-1, rfl, by
      have h0 := Hno.out
      rw [List.take_of_length_le (by omega)] at h0
      rw [h0]; rfl, Hb.out⟩
    subst hkn
    go_wp2_with fail
    go_ret
    exact HF.out
theorem hcontains_any (B : Nat) (l : List (Nat × Int × Int)) (t : Option Int) (cs : List Int) (n M N : Nat) (w : World) (hl : l.length ≤ 1000000) (hB : B ≤ w.heap.size) (hin : ErrIn w t B l) (hN : w.heap[N]? = some (.cells #[errV l t] 25 (0, 0)))
    (hn : cs.length = n) (hn9 : n ≤ 9) (hM : w.heap[M]? = some (.cells (cs.map (Value.int .i64)).toArray 30 (0, 0))) :
    Calls Tryd.prog 36 #[.slice (some ⟨M, 0, none⟩) n n, .func (.func 37) #[] #[.pointer (some ⟨N, 0, none⟩)]] w (BoolH (anyOf l t cs) w) := by
  have HC := Lib.hid (hindex_any B l t cs n M N w hl hB hin hN hn hn9 hM)
  clear hin hN hM
  generalize anyOf l t cs = bb at *
  go_enter Tryd.func36, Tryd.ntmps36
  go_wp2_with fail
  refine HC.out.mono ?_
  rintro e w1 ⟨r, rfl, rfl, hb1⟩
  have Hb := Lib.hid hb1
  clear hb1
  go_wp2_with fail
  go_ret
  exact ⟨rfl, Hb.out⟩
theorem hhasOne_any (B : Nat) (l : List (Nat × Int × Int)) (t : Option Int) (cs : List Int) (n M : Nat) (w : World) (hl : l.length ≤ 1000000) (hB : B ≤ w.heap.size) (hin : ErrIn w t B l)
    (hn : cs.length = n) (hn9 : n ≤ 9) (hM : w.heap[M]? = some (.cells (cs.map (Value.int .i64)).toArray 30 (0, 0))) :
    Calls Tryd.prog 31 #[errV l t, .slice (some ⟨M, 0, none⟩) n n] w (BoolH (anyOf l t cs) w) := by
  have hmf : ∀ (fn : Fn) (first cap : Array Value) (w : World), (Instr.makeFunc fn first cap).run Tryd.prog w = .ok (.func fn first cap) w := fun _ _ _ _ => rfl
  have hb1 : Below w.heap.size w (w.alloc (.cells #[errV l t] 25)) := (Below.refl _ _).alloc (Nat.le_refl _) _
  have HC := Lib.hid (hcontains_any B l t cs n M w.heap.size (w.alloc (.cells #[errV l t] 25)) hl (Nat.le_trans hB hb1.size) (hin.below hb1 hB) (heap_alloc_new w _) hn hn9 ((hb1.block M (lt_of_block hM)).trans hM))
  have HB1 := Lib.hid hb1
  have hv := errV_cases l t
  clear hin hM hb1
  generalize anyOf l t cs = bb at *
  generalize errV l t = v at *
  rcases hv with rfl | ⟨m, rfl⟩ | ⟨b, rfl⟩
  all_goals
    go_enter Tryd.func31, Tryd.ntmps31
    go_wp2_with fail
    refine HC.out.mono ?_
    rintro e w1 ⟨rfl, hb2⟩
    have Hb := Lib.hid (HB1.out.trans (hb2.mono HB1.out.size))
    clear hb2
    go_wp2_with fail
    go_ret
    exact ⟨rfl, Hb.out⟩

/-- Kind's answer for an error that has these numbers; none: nothing is reported. -/
def kindI (cs : List Int) : Option Nat :=
  if cs = [] then none
  else if 151 ∈ cs then some 0
  else if 150 ∈ cs then some 1
  else if 17 ∈ cs ∨ 13 ∈ cs ∨ 12 ∈ cs then some 3
  else if 10 ∈ cs ∨ 11 ∈ cs ∨ 14 ∈ cs then none
  else some 2
theorem kindI_le {cs : List Int} {k : Nat} (h : kindI cs = some k) : k ≤ 3 := by
  unfold kindI at h
  repeat' split at h
  all_goals first | (cases h; done) | (obtain rfl := Option.some.inj h; decide)
def kindV (o : Option Nat) : Value := .tuple #[.int .u8 (o.getD 0 : Nat), .bool o.isSome]
def KindP (o : Option Nat) (w : World) (e : Ending) (w' : World) : Prop := e = .returned (kindV o) ∧ Below w.heap.size w w'

theorem codes_empty (l : List (Nat × Int × Int)) (t : Option Int) : codes l t = [] ↔ errV l t = .nilIface := by
  match l, t with
  | [], none => simp [codes, errV]
  | [], some m => simp [codes, errV]
  | (b, c, a) :: r, t => simp [codes, errV]
/-- hasOne of numbers that were just laid, at any world behind. -/
theorem hlaid_any (B : Nat) (l : List (Nat × Int × Int)) (t : Option Int) (cs : List Int) (n : Nat) (w : World) (hl : l.length ≤ 1000000) (hB : B ≤ w.heap.size) (hin : ErrIn w t B l) (hn : cs.length = n) (hn9 : n ≤ 9) (W : World) (hW : Below w.heap.size w W) (M : Nat) (hM : M = W.heap.size) (vs : Array Value) (hvs : vs = (cs.map (Value.int .i64)).toArray) :
    Calls Tryd.prog 31 #[errV l t, .slice (some ⟨M, 0, none⟩) n n] (W.alloc (.cells vs 30)) (fun e w' => e = .returned (.bool (anyOf l t cs)) ∧ Below w.heap.size w w') := by
  subst hM hvs
  have hb : Below w.heap.size w (W.alloc (.cells (cs.map (Value.int .i64)).toArray 30)) := hW.alloc hW.size _
  refine (hhasOne_any B l t cs n W.heap.size _ hl (Nat.le_trans hB hb.size) (hin.below hb hB) hn hn9 (heap_alloc_new W _)).mono ?_
  rintro e w1 ⟨rfl, h1⟩
  exact ⟨rfl, hb.trans (h1.mono hb.size)⟩

set_option maxHeartbeats 1000000 in
theorem hkind_any (B : Nat) (l : List (Nat × Int × Int)) (t : Option Int) (w : World) (hl : l.length ≤ 1000000) (hB : B ≤ w.heap.size) (hin : ErrIn w t B l) :
    Calls Tryd.prog 15 #[errV l t] w (KindP (kindI (codes l t)) w) := by
  by_cases he : codes l t = []
  · have hk : kindI (codes l t) = none := by unfold kindI; rw [if_pos he]
    rw [hk]
    have hv := (codes_empty l t).1 he
    have HF : Hid (KindP none w (.returned (.tuple #[.int .u8 0, .bool false])) w) := Lib.hid ⟨rfl, Below.refl _ _⟩
    rw [hv]
    clear he hk hv hin
    go_enter Tryd.func15, Tryd.ntmps15
    go_wp2_with fail
    refine (hnothing_nil _).mono ?_
    rintro e w1 ⟨rfl, rfl⟩
    go_wp2_with fail
    go_ret2
    exact HF.out
  have HE : Hid (isErr (errV l t)) := Lib.hid (by
    rcases errV_cases l t with h | ⟨m, h⟩ | ⟨b, h⟩
    · exact absurd ((codes_empty l t).2 h) he
    · exact .inl ⟨_, h⟩
    · exact .inr ⟨_, h⟩)
  have H1 := Lib.hid (hlaid_any B l t [151] 1 w hl hB hin rfl (by omega))
  have H2 := Lib.hid (hlaid_any B l t [150] 1 w hl hB hin rfl (by omega))
  have H3 := Lib.hid (hlaid_any B l t [17, 13, 12] 3 w hl hB hin rfl (by omega))
  have H4 := Lib.hid (hlaid_any B l t [10, 11, 14] 3 w hl hB hin rfl (by omega))
  have hk : kindI (codes l t) = if anyOf l t [151] = true then some 0 else if anyOf l t [150] = true then some 1 else if anyOf l t [17, 13, 12] = true then some 3 else if anyOf l t [10, 11, 14] = true then none else some 2 := by
    unfold kindI anyOf
    rw [if_neg he]
    simp only [List.any_cons, List.any_nil, Bool.or_false, Bool.or_eq_true, decide_eq_true_eq]
  have hv := errV_cases l t
  rw [hk]
  clear hk he hin
  generalize anyOf l t [151] = d1 at *
  generalize anyOf l t [150] = d2 at *
  generalize anyOf l t [17, 13, 12] = d3 at *
  generalize anyOf l t [10, 11, 14] = d4 at *
  generalize errV l t = v at *
  have HN := Lib.hid (hnothing_not v HE.out w)
  have HB0 := Lib.hid (Below.refl w.heap.size w)
  have HF : Hid (∀ o x b W, kindV o = .tuple #[x, b] → Below w.heap.size w W → KindP o w (.returned (.tuple #[x, b])) W) := Lib.hid fun o x b W h1 h2 => ⟨by rw [h1], h2⟩
  rcases hv with rfl | ⟨m, rfl⟩ | ⟨b, rfl⟩
  · rcases HE.out with ⟨n, h⟩ | ⟨b, h⟩ <;> cases h
  all_goals
    clear HE
    cases d1
    case true =>
      go_enter Tryd.func15, Tryd.ntmps15
      go_wp2_with fail
      refine HN.out.mono ?_
      rintro e w1 ⟨rfl, rfl⟩
      go_wp2_with fail
      refine (H1.out _ HB0.out _ rfl _ rfl).mono ?_
      rintro e w2 ⟨rfl, hb2⟩
      have Hb := Lib.hid hb2
      clear hb2
      go_wp2_with fail
      go_ret2
      exact HF.out (some 0) _ _ _ rfl Hb.out
    cases d2
    case true =>
      go_enter Tryd.func15, Tryd.ntmps15
      go_wp2_with fail
      refine HN.out.mono ?_
      rintro e w1 ⟨rfl, rfl⟩
      go_wp2_with fail
      refine (H1.out _ HB0.out _ rfl _ rfl).mono ?_
      rintro e w2 ⟨rfl, hb2⟩
      have Hb2 := Lib.hid hb2
      clear hb2
      go_wp2_with fail
      refine (H2.out _ Hb2.out _ rfl _ rfl).mono ?_
      rintro e w3 ⟨rfl, hb3⟩
      have Hb := Lib.hid hb3
      clear hb3
      go_wp2_with fail
      go_ret2
      exact HF.out (some 1) _ _ _ rfl Hb.out
    cases d3
    case true =>
      go_enter Tryd.func15, Tryd.ntmps15
      go_wp2_with fail
      refine HN.out.mono ?_
      rintro e w1 ⟨rfl, rfl⟩
      go_wp2_with fail
      refine (H1.out _ HB0.out _ rfl _ rfl).mono ?_
      rintro e w2 ⟨rfl, hb2⟩
      have Hb2 := Lib.hid hb2
      clear hb2
      go_wp2_with fail
      refine (H2.out _ Hb2.out _ rfl _ rfl).mono ?_
      rintro e w3 ⟨rfl, hb3⟩
      have Hb3 := Lib.hid hb3
      clear hb3
      go_wp2_with fail
      refine (H3.out _ Hb3.out _ rfl _ rfl).mono ?_
      rintro e w4 ⟨rfl, hb4⟩
      have Hb := Lib.hid hb4
      clear hb4
      go_wp2_with fail
      go_ret2
      exact HF.out (some 3) _ _ _ rfl Hb.out
    cases d4
    case true =>
      go_enter Tryd.func15, Tryd.ntmps15
      go_wp2_with fail
      refine HN.out.mono ?_
      rintro e w1 ⟨rfl, rfl⟩
      go_wp2_with fail
      refine (H1.out _ HB0.out _ rfl _ rfl).mono ?_
      rintro e w2 ⟨rfl, hb2⟩
      have Hb2 := Lib.hid hb2
      clear hb2
      go_wp2_with fail
      refine (H2.out _ Hb2.out _ rfl _ rfl).mono ?_
      rintro e w3 ⟨rfl, hb3⟩
      have Hb3 := Lib.hid hb3
      clear hb3
      go_wp2_with fail
      refine (H3.out _ Hb3.out _ rfl _ rfl).mono ?_
      rintro e w4 ⟨rfl, hb4⟩
      have Hb4 := Lib.hid hb4
      clear hb4
      go_wp2_with fail
      refine (H4.out _ Hb4.out _ rfl _ rfl).mono ?_
      rintro e w5 ⟨rfl, hb5⟩
      have Hb := Lib.hid hb5
      clear hb5
      go_wp2_with fail
      go_ret2
      exact HF.out none _ _ _ rfl Hb.out
    go_enter Tryd.func15, Tryd.ntmps15
    go_wp2_with fail
    refine HN.out.mono ?_
    rintro e w1 ⟨rfl, rfl⟩
    go_wp2_with fail
    refine (H1.out _ HB0.out _ rfl _ rfl).mono ?_
    rintro e w2 ⟨rfl, hb2⟩
    have Hb2 := Lib.hid hb2
    clear hb2
    go_wp2_with fail
    refine (H2.out _ Hb2.out _ rfl _ rfl).mono ?_
    rintro e w3 ⟨rfl, hb3⟩
    have Hb3 := Lib.hid hb3
    clear hb3
    go_wp2_with fail
    refine (H3.out _ Hb3.out _ rfl _ rfl).mono ?_
    rintro e w4 ⟨rfl, hb4⟩
    have Hb4 := Lib.hid hb4
    clear hb4
    go_wp2_with fail
    refine (H4.out _ Hb4.out _ rfl _ rfl).mono ?_
    rintro e w5 ⟨rfl, hb5⟩
    have Hb := Lib.hid hb5
    clear hb5
    go_wp2_with fail
    go_ret2
    exact HF.out (some 2) _ _ _ rfl Hb.out
end Go.Proofs.YtabndibenffngaaDoor
