/-
  Cuts: the law's own walk.
-/
import Derived.Test.YtlfpepehngkehaaLawCut
namespace Go.Proofs.Ytlfpepehngkehaa
set_option linter.unusedSimpArgs false
set_option linter.unusedVariables false
open Go.RowKit

set_option maxHeartbeats 1000000 in
set_option maxRecDepth 20000 in
theorem cuts_walk (HC : CutOk) (HL : CutLongOk) (w : World) (a : Option Addr) (cap : Nat) (ss : List ByteArray) (s : ByteArray) (hA : StrsAt w a ss) (hn : ss.length * 16 ≤ 140737488351232) (hs : s.size ≤ maxLen) :
    Calls Try.prog 7 #[.slice a ss.length cap, .string s] w fun e w' => e = .returned (.bool true) ∧ Below w.heap.size w w' := by
  have HCC : Hid CutOk := HC
  have HLL : Hid CutLongOk := HL
  clear HC HL
  go_enter Try.func7, Try.ntmps7
  go_wp2_with fail
  refine (built_any w a cap ss hA hn).mono ?_
  rintro e w1 ⟨hbe, hb1⟩
  rcases hbe with rfl | ⟨P, D, rfl, hP⟩
  · go_wp2
    go_ret
    exact ⟨rfl, hb1⟩
  · have HP : Hid (PairAt w1 P D) := hP.pair
    clear hP
    go_wp2_with fail
    refine (lawCut_any HCC.out HLL.out w1 P D s hs HP.out).mono ?_
    rintro e w2 ⟨v, n, rfl, -, hb2⟩
    go_wp2
    go_ret
    exact ⟨rfl, hb1.trans (hb2.mono hb1.size)⟩

end Go.Proofs.Ytlfpepehngkehaa
