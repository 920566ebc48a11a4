/- WireNil: the walk of the law. No conditions. -/
import Derived.Test.YtnjkfkfanjkajaaWirH
namespace Go.Proofs.Ytnjkfkfanjkajaa
open Go.RowKit Go.Extern.Stop Go.Stop Go.Extern

set_option maxHeartbeats 1000000 in
theorem nil_law (n s : Int) (b : Value) (w : World) :
    Calls Try.prog 6 #[.int .u32 n, .int .i64 s, b] w (AwakePost w) := by
  have HA := Lib.hid (awake_any w)
  have HE : Hid (∀ W, Calls Try.prog 24 #[.int .i64 1, .int .i64 (-1)] W fun e w' => e = .returned (strV (atT 1 (-1))) ∧ Below W.heap.size W w') := Lib.hid fun W => at_any 1 (-1) W (by omega) (by omega)
  have HX := Lib.hid err_nil
  generalize atT 1 (-1) = x at *
  go_enter Try.func6, Try.ntmps6
  go_wp2_with fail
  refine HA.out.mono ?_
  rintro e w1 ⟨rfl, hb1⟩
  have Hb1 := Lib.hid hb1
  clear hb1 HA
  go_wp2_with fail
  refine (put_nil _ _ w1).mono ?_
  rintro e w2 ⟨rfl, rfl⟩
  go_wp2_with fail
  refine (text_nil _ w1).mono ?_
  rintro e w2 ⟨rfl, rfl⟩
  go_wp2_with fail
  refine (bytes_nil w1).mono ?_
  rintro e w2 ⟨rfl, rfl⟩
  go_wp2_with fail
  refine (take_nil s w1).mono ?_
  rintro e w2 ⟨rfl, rfl⟩
  go_wp2_with fail
  refine (tell_nil w1).mono ?_
  rintro e w2 ⟨rfl, rfl⟩
  go_wp2_with fail
  refine (at_nil w1).mono ?_
  rintro e w2 ⟨rfl, rfl⟩
  go_wp2_with fail
  refine (HX.out w1).mono ?_
  rintro e w2 ⟨v2, rfl, hv2, -, hb2⟩
  have Hb2 := Lib.hid (Hb1.out.trans (hb2.mono Hb1.out.size))
  have Hv2 := Lib.hid hv2
  clear hb2 hv2 Hb1
  go_wp2_with fail
  refine Hv2.out.read.mono ?_
  rintro e w3 ⟨rfl, hb3⟩
  have Hb3 := Lib.hid (Hb2.out.trans (hb3.mono Hb2.out.size))
  clear hb3 Hb2
  unfold strV at *
  go_wp2_with fail
  refine (HE.out w3).mono ?_
  rintro e w4 ⟨rfl, hb4⟩
  have Hb4 := Lib.hid (Hb3.out.trans (hb4.mono Hb3.out.size))
  clear hb4 Hb3
  go_wp2_with fail
  go_ret
  exact ⟨rfl, Hb4.out⟩
end Go.Proofs.Ytnjkfkfanjkajaa
