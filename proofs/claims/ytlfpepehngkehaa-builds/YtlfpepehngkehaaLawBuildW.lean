/-
  Builds: the law's own walk.
-/
import Derived.Test.YtlfpepehngkehaaLawBuild
namespace Go.Proofs.Ytlfpepehngkehaa
set_option linter.unusedSimpArgs false
set_option linter.unusedVariables false
open Go.RowKit

set_option maxHeartbeats 1000000 in
set_option maxRecDepth 20000 in
theorem builds_walk (w : World) (a : Option Addr) (cap : Nat) (ss : List ByteArray) (s : ByteArray) (hA : StrsAt w a ss) (hn : ss.length * 16 ≤ 140737488351232) (hs : s.size ≤ maxLen) :
    Calls Try.prog 4 #[.slice a ss.length cap, .string s] w fun e w' => e = .returned (.bool true) ∧ Below w.heap.size w w' := by
  go_enter Try.func4, Try.ntmps4
  go_wp2_with fail
  refine (built_any w a cap ss hA hn).mono ?_
  rintro e w1 ⟨hbe, hb1⟩
  rcases hbe with rfl | ⟨P, D, rfl, hP⟩
  · go_wp2
    go_ret
    exact ⟨rfl, hb1⟩
  · have HP : Hid (PairAt w1 P D) := hP.pair
    clear hP
    go_wp2_with fail
    refine (begun_any w1 P D s hs HP.out).mono ?_
    rintro e w2 ⟨v, rfl, -, hb2⟩
    have HP2 : Hid (PairAt w2 P D) := HP.out.below hb2
    go_wp2_with fail
    refine (sized_any w2 P D HP2.out).mono ?_
    rintro e w3 ⟨rfl, rfl⟩
    go_wp2
    go_ret
    exact ⟨rfl, hb1.trans (hb2.mono hb1.size)⟩

end Go.Proofs.Ytlfpepehngkehaa
