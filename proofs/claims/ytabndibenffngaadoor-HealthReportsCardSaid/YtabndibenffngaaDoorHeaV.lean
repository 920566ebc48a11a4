/- The elements of the laws' arguments, as cells. No conditions. -/
import Derived.Test.YtabndibenffngaaDoorMem
import Derived.Test.YtabndibenffngaaDoorFraA
namespace Go.Proofs.YtabndibenffngaaDoor
open Go.RowKit
def u32s (v : Nat) : List Value := [.int .u32 (v : Nat)]
def lnkVals (x : Int × Int) : List Value := [.int .i64 x.1, .int .i64 x.2]
structure Act15 where
  shut : Bool
  round : Nat
  part : Int
  kind : Int
def actVals (x : Act15) : List Value := [.bool x.shut, .int .u32 (x.round : Nat), .int .i64 x.part, .int .i64 x.kind]
structure Four where
  a : Nat
  b : Nat
  c : Nat
  d : Nat
def fourVals (x : Four) : List Value := [.int .u8 (x.a : Nat), .int .u8 (x.b : Nat), .int .u8 (x.c : Nat), .int .u8 (x.d : Nat)]
theorem recs_in {W : World} {A : Option Addr} {l : List FrameP.Rec} (h : ItemsIn recVals 5 W A l) : RecsIn W A l := fun hn => by
  obtain ⟨b, off, e, hb, hi⟩ := h hn
  exact ⟨b, off, e, hb, fun i x hx => ⟨hi i x hx 0 _ rfl, hi i x hx 1 _ rfl, hi i x hx 2 _ rfl, hi i x hx 3 _ rfl, hi i x hx 4 _ rfl⟩⟩
end Go.Proofs.YtabndibenffngaaDoor
