/-
  Images, Loads: the laws' own walks.
-/
import Derived.Test.YtlfpepehngkehaaLawImage
namespace Go.Proofs.Ytlfpepehngkehaa
set_option linter.unusedSimpArgs false
set_option linter.unusedVariables false
open Go.RowKit

set_option maxHeartbeats 1000000 in
set_option maxRecDepth 20000 in
theorem images_walk (w : World) (a : Option Addr) (cap : Nat) (ss : List ByteArray) (hA : StrsAt w a ss) (hn : ss.length * 16 ≤ 140737488351232) :
    Calls Try.prog 5 #[.slice a ss.length cap] w fun e w' => e = .returned (.bool true) ∧ Below w.heap.size w w' := by
  go_enter Try.func5, Try.ntmps5
  go_wp2_with fail
  refine (built_any w a cap ss hA hn).mono ?_
  rintro e w1 ⟨hbe, hb1⟩
  rcases hbe with rfl | ⟨P, D, rfl, hP⟩
  · go_wp2
    go_ret
    exact ⟨rfl, hb1⟩
  · have HP : Hid (PairAt w1 P D) := hP.pair
    clear hP
    go_wp2_with fail
    refine (imaged_any w1 P D HP.out).mono ?_
    rintro e w2 ⟨S, rfl, hb2⟩
    go_wp2
    go_ret
    exact ⟨rfl, hb1.trans (hb2.mono hb1.size)⟩

set_option maxHeartbeats 1000000 in
set_option maxRecDepth 20000 in
theorem loads_walk (w : World) (s t : ByteArray) (hs : s.size ≤ 1048576) (ht : t.size ≤ maxLen) :
    Calls Try.prog 6 #[.string s, .string t] w fun e w' => e = .returned (.bool true) ∧ Below w.heap.size w w' := by
  go_enter Try.func6, Try.ntmps6
  go_wp2_with fail
  refine (loaded_any w s hs).mono ?_
  rintro e w1 ⟨hbe, hb1⟩
  rcases hbe with rfl | ⟨P, D, rfl, hP⟩
  · go_wp2
    go_ret
    exact ⟨rfl, hb1⟩
  · have HP : Hid (PairAt w1 P D) := hP.pair
    clear hP
    go_wp2_with fail
    refine (begun_any w1 P D t ht HP.out).mono ?_
    rintro e w2 ⟨v, rfl, -, hb2⟩
    have HP2 : Hid (PairAt w2 P D) := HP.out.below hb2
    go_wp2_with fail
    refine (imaged_any w2 P D HP2.out).mono ?_
    rintro e w3 ⟨S, rfl, hb3⟩
    have HP3 : Hid (PairAt w3 P D) := HP2.out.below hb3
    go_wp2_with fail
    refine (sized_any w3 P D HP3.out).mono ?_
    rintro e w4 ⟨rfl, rfl⟩
    have hbel := (hb1.trans (hb2.mono hb1.size)).trans (hb3.mono (by have := hb1.size; have := hb2.size; omega))
    go_wp2
    go_ret
    exact ⟨rfl, hbel⟩

end Go.Proofs.Ytlfpepehngkehaa
