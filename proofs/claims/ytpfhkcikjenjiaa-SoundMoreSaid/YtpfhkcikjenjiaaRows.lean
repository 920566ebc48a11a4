/-
  No cell of these rows narrows 'for every input' (looked for: loops, veiled, ifaces, maps, wideKeys, modest, calm, conditions, laid).
  DERIVED. THE GIVEN ROWS OF THIS SEAT. 7 by the template 'for every input the law returns true; each argument reads behind the call as it read before'; 0 by the template 'total and deterministic' (their statements: YtpfhkcikjenjiaaTotals.lean).
  GIVEN WITH THE SEED: the statements are not yours to turn. If you find one false, say at which input.
  Laid BY PROGRAM, IN A SANDBOX (cutbox-rows.mjs): the forced cells as the released guide's own fill.sh prints them over the translation bcb384e310a76064… (all of the seat's roots in one cut). By AI agents, Wed Nov 11 2026. No macro, syntax, notation, axiom, sorry.
-/
import Derived.Test.YtpfhkcikjenjiaaChecked
import GoSem.Claim
import GoSem.ClaimJoined
import GoSem.ClaimMapViews
import Derived.JoinedTies
import Derived.KernelRfl
namespace Go.Proofs.Ytpfhkcikjenjiaa
/- THE CELL 'sum', in the pinned program and in every row, IS THE sha256 OF THE DUMP (.gsa) THAT YtpfhkcikjenjiaaProg.lean LOADS. Nothing in Lean hashes anything: it is a label: what it is worth is what the hold of that sum in a sandbox is worth. -/
noncomputable def Try.pinned : Pinned := { name := "ytpfhkcikjenjiaa", sum := "bcb384e310a76064127d9592a78eee1f6f92e28e9e4ccfae41e5204ab05d77bc", checked := Try.checked }
namespace Rows
def none {H : Type} : Left H := { results := [], args := [] }

/-- 'escapementlaw06.SoundChecks': WHATEVER THE INPUT: true; the input reads as it did. -/
def soundChecksSpec : ChangeSpec := { name := "soundChecks", fn := fun _ => fun
  | [d] => { results := [.lit (.bool true)], args := [d] }
  | _ => none }
def soundChecksRow : OpenClaim := { program := "ytpfhkcikjenjiaa", sum := "bcb384e310a76064127d9592a78eee1f6f92e28e9e4ccfae41e5204ab05d77bc", func := "escapement/escapementlaw06.SoundChecks", spec := "soundChecks", unfollowed := true, recurses := true, apart := false }
def SoundChecksSaid : Prop := soundChecksRow.holds Try.pinned (OpenSpec.ofChange soundChecksSpec)

/-- ITS FALSE NEIGHBOUR: 'it returns false'. Refute it at one input. -/
def soundChecksWrong : ChangeSpec := { name := "soundChecks", fn := fun _ => fun
  | [d] => { results := [.lit (.bool false)], args := [d] }
  | _ => none }
def SoundChecksWrongFalsely : Prop := soundChecksRow.holds Try.pinned (OpenSpec.ofChange soundChecksWrong)

/-- 'escapementlaw06.SoundReckons': WHATEVER THE INPUT: true; the input reads as it did. -/
def soundReckonsSpec : ChangeSpec := { name := "soundReckons", fn := fun _ => fun
  | [d1, d2, d3] => { results := [.lit (.bool true)], args := [d1, d2, d3] }
  | _ => none }
def soundReckonsRow : OpenClaim := { program := "ytpfhkcikjenjiaa", sum := "bcb384e310a76064127d9592a78eee1f6f92e28e9e4ccfae41e5204ab05d77bc", func := "escapement/escapementlaw06.SoundReckons", spec := "soundReckons", unfollowed := true, recurses := true, apart := false }
def SoundReckonsSaid : Prop := soundReckonsRow.holds Try.pinned (OpenSpec.ofChange soundReckonsSpec)

/-- ITS FALSE NEIGHBOUR: 'it returns false'. Refute it at one input. -/
def soundReckonsWrong : ChangeSpec := { name := "soundReckons", fn := fun _ => fun
  | [d1, d2, d3] => { results := [.lit (.bool false)], args := [d1, d2, d3] }
  | _ => none }
def SoundReckonsWrongFalsely : Prop := soundReckonsRow.holds Try.pinned (OpenSpec.ofChange soundReckonsWrong)

/-- 'escapementlaw06.SoundApart': WHATEVER THE INPUT: true; the input reads as it did. -/
def soundApartSpec : ChangeSpec := { name := "soundApart", fn := fun _ => fun
  | [d] => { results := [.lit (.bool true)], args := [d] }
  | _ => none }
def soundApartRow : OpenClaim := { program := "ytpfhkcikjenjiaa", sum := "bcb384e310a76064127d9592a78eee1f6f92e28e9e4ccfae41e5204ab05d77bc", func := "escapement/escapementlaw06.SoundApart", spec := "soundApart", unfollowed := true, recurses := true, apart := false }
def SoundApartSaid : Prop := soundApartRow.holds Try.pinned (OpenSpec.ofChange soundApartSpec)

/-- ITS FALSE NEIGHBOUR: 'it returns false'. Refute it at one input. -/
def soundApartWrong : ChangeSpec := { name := "soundApart", fn := fun _ => fun
  | [d] => { results := [.lit (.bool false)], args := [d] }
  | _ => none }
def SoundApartWrongFalsely : Prop := soundApartRow.holds Try.pinned (OpenSpec.ofChange soundApartWrong)

/-- 'escapementlaw06.SoundReach': WHATEVER THE INPUT: true; the input reads as it did. -/
def soundReachSpec : ChangeSpec := { name := "soundReach", fn := fun _ => fun
  | [d1, d2] => { results := [.lit (.bool true)], args := [d1, d2] }
  | _ => none }
def soundReachRow : OpenClaim := { program := "ytpfhkcikjenjiaa", sum := "bcb384e310a76064127d9592a78eee1f6f92e28e9e4ccfae41e5204ab05d77bc", func := "escapement/escapementlaw06.SoundReach", spec := "soundReach", unfollowed := true, recurses := true, apart := false }
def SoundReachSaid : Prop := soundReachRow.holds Try.pinned (OpenSpec.ofChange soundReachSpec)

/-- ITS FALSE NEIGHBOUR: 'it returns false'. Refute it at one input. -/
def soundReachWrong : ChangeSpec := { name := "soundReach", fn := fun _ => fun
  | [d1, d2] => { results := [.lit (.bool false)], args := [d1, d2] }
  | _ => none }
def SoundReachWrongFalsely : Prop := soundReachRow.holds Try.pinned (OpenSpec.ofChange soundReachWrong)

/-- 'escapementlaw06.SoundWider': WHATEVER THE INPUT: true; the input reads as it did. -/
def soundWiderSpec : ChangeSpec := { name := "soundWider", fn := fun _ => fun
  | [d1, d2] => { results := [.lit (.bool true)], args := [d1, d2] }
  | _ => none }
def soundWiderRow : OpenClaim := { program := "ytpfhkcikjenjiaa", sum := "bcb384e310a76064127d9592a78eee1f6f92e28e9e4ccfae41e5204ab05d77bc", func := "escapement/escapementlaw06.SoundWider", spec := "soundWider", unfollowed := true, recurses := true, apart := false }
def SoundWiderSaid : Prop := soundWiderRow.holds Try.pinned (OpenSpec.ofChange soundWiderSpec)

/-- ITS FALSE NEIGHBOUR: 'it returns false'. Refute it at one input. -/
def soundWiderWrong : ChangeSpec := { name := "soundWider", fn := fun _ => fun
  | [d1, d2] => { results := [.lit (.bool false)], args := [d1, d2] }
  | _ => none }
def SoundWiderWrongFalsely : Prop := soundWiderRow.holds Try.pinned (OpenSpec.ofChange soundWiderWrong)

/-- 'escapementlaw06.SoundOrders': WHATEVER THE INPUT: true; the input reads as it did. -/
def soundOrdersSpec : ChangeSpec := { name := "soundOrders", fn := fun _ => fun
  | [d] => { results := [.lit (.bool true)], args := [d] }
  | _ => none }
def soundOrdersRow : OpenClaim := { program := "ytpfhkcikjenjiaa", sum := "bcb384e310a76064127d9592a78eee1f6f92e28e9e4ccfae41e5204ab05d77bc", func := "escapement/escapementlaw06.SoundOrders", spec := "soundOrders", unfollowed := true, recurses := true, apart := false }
def SoundOrdersSaid : Prop := soundOrdersRow.holds Try.pinned (OpenSpec.ofChange soundOrdersSpec)

/-- ITS FALSE NEIGHBOUR: 'it returns false'. Refute it at one input. -/
def soundOrdersWrong : ChangeSpec := { name := "soundOrders", fn := fun _ => fun
  | [d] => { results := [.lit (.bool false)], args := [d] }
  | _ => none }
def SoundOrdersWrongFalsely : Prop := soundOrdersRow.holds Try.pinned (OpenSpec.ofChange soundOrdersWrong)

/-- 'escapementlaw06.SoundMore': WHATEVER THE INPUT: true; the input reads as it did. -/
def soundMoreSpec : ChangeSpec := { name := "soundMore", fn := fun _ => fun
  | [d1, d2] => { results := [.lit (.bool true)], args := [d1, d2] }
  | _ => none }
def soundMoreRow : OpenClaim := { program := "ytpfhkcikjenjiaa", sum := "bcb384e310a76064127d9592a78eee1f6f92e28e9e4ccfae41e5204ab05d77bc", func := "escapement/escapementlaw06.SoundMore", spec := "soundMore", unfollowed := true, recurses := true, apart := false }
def SoundMoreSaid : Prop := soundMoreRow.holds Try.pinned (OpenSpec.ofChange soundMoreSpec)

/-- ITS FALSE NEIGHBOUR: 'it returns false'. Refute it at one input. -/
def soundMoreWrong : ChangeSpec := { name := "soundMore", fn := fun _ => fun
  | [d1, d2] => { results := [.lit (.bool false)], args := [d1, d2] }
  | _ => none }
def SoundMoreWrongFalsely : Prop := soundMoreRow.holds Try.pinned (OpenSpec.ofChange soundMoreWrong)

/- THE SECOND FORM. 'bulk': how many values and letters a reading holds, each counted each time it is reached (what is shared counts as often as it is met; a slice's spare places count too). A statement '..UptoSaid' is the law's where the arguments, and the package variables that the reading takes, are together of bulk at most 1048576: NARROWER than '..Said'. Prove '..Said' where nothing that the law and all that it calls make is longer than what came in: it says more and counts as full. Else prove '..UptoSaid'. A law counts once. -/
mutual
def uptoBulk {H : Type} : DataW H → Nat
  | .lit (.string bytes) => bytes.length + 1
  | .lit _ => 1
  | .nil => 1
  | .ptr d => uptoBulk d + 1
  | .slice elems spare => uptoBulkAll elems + uptoBulkAll spare + 1
  | .agg parts => uptoBulkAll parts + 1
  | .iface _ d => uptoBulk d + 1
  | .map entries => uptoBulkEntries entries + 1
  | .held _ => 1
def uptoBulkAll {H : Type} : List (DataW H) → Nat
  | [] => 0
  | d :: r => uptoBulk d + uptoBulkAll r
def uptoBulkEntries {H : Type} : List (Lit × DataW H) → Nat
  | [] => 0
  | x :: r => uptoBulkEntry x + uptoBulkEntries r
def uptoBulkEntry {H : Type} : Lit × DataW H → Nat
  | (.string bytes, d) => bytes.length + uptoBulk d + 1
  | (_, d) => uptoBulk d + 1
 end
def uptoSmall : (H : Type) → List (DataW H) → Bool := fun _ ds => decide (uptoBulkAll ds ≤ 1048576)
def OpenSpec.upto (s : _root_.Go.ChangeSpec) : _root_.Go.OpenSpec := { _root_.Go.OpenSpec.ofChange s with cond := some uptoSmall }

/-- 'escapementlaw06.SoundChecks', WHERE WHAT IT READS IS OF BULK AT MOST 1048576: true; the input reads as it did. -/
def soundChecksUptoRow : OpenClaim := { program := "ytpfhkcikjenjiaa", sum := "bcb384e310a76064127d9592a78eee1f6f92e28e9e4ccfae41e5204ab05d77bc", func := "escapement/escapementlaw06.SoundChecks", spec := "soundChecks", unfollowed := true, recurses := true, apart := false, narrowed := true }
def SoundChecksUptoSaid : Prop := soundChecksUptoRow.holds Try.pinned (OpenSpec.upto soundChecksSpec)

/-- 'escapementlaw06.SoundReckons', WHERE WHAT IT READS IS OF BULK AT MOST 1048576: true; the input reads as it did. -/
def soundReckonsUptoRow : OpenClaim := { program := "ytpfhkcikjenjiaa", sum := "bcb384e310a76064127d9592a78eee1f6f92e28e9e4ccfae41e5204ab05d77bc", func := "escapement/escapementlaw06.SoundReckons", spec := "soundReckons", unfollowed := true, recurses := true, apart := false, narrowed := true }
def SoundReckonsUptoSaid : Prop := soundReckonsUptoRow.holds Try.pinned (OpenSpec.upto soundReckonsSpec)

/-- 'escapementlaw06.SoundApart', WHERE WHAT IT READS IS OF BULK AT MOST 1048576: true; the input reads as it did. -/
def soundApartUptoRow : OpenClaim := { program := "ytpfhkcikjenjiaa", sum := "bcb384e310a76064127d9592a78eee1f6f92e28e9e4ccfae41e5204ab05d77bc", func := "escapement/escapementlaw06.SoundApart", spec := "soundApart", unfollowed := true, recurses := true, apart := false, narrowed := true }
def SoundApartUptoSaid : Prop := soundApartUptoRow.holds Try.pinned (OpenSpec.upto soundApartSpec)

/-- 'escapementlaw06.SoundReach', WHERE WHAT IT READS IS OF BULK AT MOST 1048576: true; the input reads as it did. -/
def soundReachUptoRow : OpenClaim := { program := "ytpfhkcikjenjiaa", sum := "bcb384e310a76064127d9592a78eee1f6f92e28e9e4ccfae41e5204ab05d77bc", func := "escapement/escapementlaw06.SoundReach", spec := "soundReach", unfollowed := true, recurses := true, apart := false, narrowed := true }
def SoundReachUptoSaid : Prop := soundReachUptoRow.holds Try.pinned (OpenSpec.upto soundReachSpec)

/-- 'escapementlaw06.SoundWider', WHERE WHAT IT READS IS OF BULK AT MOST 1048576: true; the input reads as it did. -/
def soundWiderUptoRow : OpenClaim := { program := "ytpfhkcikjenjiaa", sum := "bcb384e310a76064127d9592a78eee1f6f92e28e9e4ccfae41e5204ab05d77bc", func := "escapement/escapementlaw06.SoundWider", spec := "soundWider", unfollowed := true, recurses := true, apart := false, narrowed := true }
def SoundWiderUptoSaid : Prop := soundWiderUptoRow.holds Try.pinned (OpenSpec.upto soundWiderSpec)

/-- 'escapementlaw06.SoundOrders', WHERE WHAT IT READS IS OF BULK AT MOST 1048576: true; the input reads as it did. -/
def soundOrdersUptoRow : OpenClaim := { program := "ytpfhkcikjenjiaa", sum := "bcb384e310a76064127d9592a78eee1f6f92e28e9e4ccfae41e5204ab05d77bc", func := "escapement/escapementlaw06.SoundOrders", spec := "soundOrders", unfollowed := true, recurses := true, apart := false, narrowed := true }
def SoundOrdersUptoSaid : Prop := soundOrdersUptoRow.holds Try.pinned (OpenSpec.upto soundOrdersSpec)

/-- 'escapementlaw06.SoundMore', WHERE WHAT IT READS IS OF BULK AT MOST 1048576: true; the input reads as it did. -/
def soundMoreUptoRow : OpenClaim := { program := "ytpfhkcikjenjiaa", sum := "bcb384e310a76064127d9592a78eee1f6f92e28e9e4ccfae41e5204ab05d77bc", func := "escapement/escapementlaw06.SoundMore", spec := "soundMore", unfollowed := true, recurses := true, apart := false, narrowed := true }
def SoundMoreUptoSaid : Prop := soundMoreUptoRow.holds Try.pinned (OpenSpec.upto soundMoreSpec)

end Rows
end Go.Proofs.Ytpfhkcikjenjiaa
