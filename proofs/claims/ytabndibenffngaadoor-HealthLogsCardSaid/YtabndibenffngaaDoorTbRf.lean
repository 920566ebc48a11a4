/- Contract of the document's Over (texts of errors). Conditions: sizes that each states. · Contract of the document's Check at tables in memory: what stands ahead of the lists. Conditions: where its lists lie. · Contract of the document's Check at tables in memory: the lists. Conditions: where its lists lie. -/
import Derived.Test.YtabndibenffngaaDoorErrM
import Derived.Test.YtabndibenffngaaDoorTbM
import Derived.Deep.DeepCutAuto
namespace Go.Proofs.YtabndibenffngaaDoor
open Go.RowKit Go.Extern.Stop Go.Stop Go.Extern

def overT (c : Nat) (a : Int) (x : List UInt8) : List UInt8 := if x = [] then [] else atT c a ++ 62 :: x

set_option maxRecDepth 100000 in
theorem over_any (c : Nat) (a : Int) (x : List UInt8) (w : World) (hc : c ≤ 1000000) (ha : a ≤ 9223372036854775807) (hx : x.length ≤ 1000000) :
    Calls Tryd.prog 14 #[.int .i64 c, .int .i64 a, strV x] w fun e w' => e = .returned (strV (overT c a x)) ∧ Below w.heap.size w w' := by
  by_cases h : x = []
  · subst h
    have e : overT c a [] = [] := rfl
    rw [e]
    unfold strV
    clear hc ha hx
    go_enter Tryd.func14, Tryd.ntmps14
    go_wp2_with fail
    go_ret
    exact ⟨rfl, Below.refl _ _⟩
  · have H1 := Lib.hid (at_any c a w hc ha)
    have hl := atT_len c a
    have hcat : Hid (ByteArray.mk (atT c a).toArray ++ ByteArray.mk #[62] ++ ByteArray.mk x.toArray = ByteArray.mk (overT c a x).toArray) := Lib.hid (by
      refine (cat3 (atT c a) [62] x).trans ?_
      simp [overT, h])
    have hne : x.isEmpty = false := by simpa using h
    clear hc ha
    have Hh := Lib.hid h
    clear h
    generalize atT c a = y at *
    generalize overT c a x = z at *
    unfold strV at *
    go_enter Tryd.func14, Tryd.ntmps14
    go_wp2_with fail
    refine H1.out.mono ?_
    rintro e w1 ⟨rfl, hb⟩
    have Hb := Lib.hid hb
    clear hb
    go_wp2_with fail
    go_ret
    refine ⟨?_, Hb.out⟩
    rw [← hcat.out]; rfl
end Go.Proofs.YtabndibenffngaaDoor
namespace Go.Proofs.YtabndibenffngaaDoor
open Go.RowKit
set_option maxRecDepth 100000

def RefChkPost (r : Option FrameP.Wrong) (w : World) (e : Ending) (w' : World) : Prop := e = .returned (strV (wrongT r)) ∧ Below w.heap.size w w'

end Go.Proofs.YtabndibenffngaaDoor
namespace Go.Proofs.YtabndibenffngaaDoor
open Go.RowKit
set_option maxRecDepth 100000

theorem nat_pred {n : Nat} (h : n ≤ 1000) : IntKind.i64.wrap ((n : Int) - 1) = (n : Int) - 1 := IntWalk.i64_in _ (by omega)

end Go.Proofs.YtabndibenffngaaDoor
