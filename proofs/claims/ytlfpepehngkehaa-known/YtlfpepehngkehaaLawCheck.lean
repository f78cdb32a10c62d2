/-
  Check on both sides.
-/
import Derived.Test.YtlfpepehngkehaaReadB
import Derived.Test.YtlfpepehngkehaaFormC
import Derived.Test.YtlfpepehngkehaaMaths
namespace Go.Proofs.Ytlfpepehngkehaa
set_option linter.unusedSimpArgs false
set_option linter.unusedVariables false
open Go.RowKit

set_option maxHeartbeats 1000000 in
theorem check_any (s : ByteArray) (w : World) (hs : s.size ≤ maxLen) :
    Calls Try.prog 23 #[.string s] w fun e w' => ∃ a p : Int, e = .returned (.tuple #[.int .i64 a, .int .i64 p]) ∧ RefRes s a p ∧ Below w.heap.size w w' := by
  go_enter Try.func23, Try.ntmps23
  go_wp2_with fail
  refine (read_any s _ hs).mono ?_
  rintro e w1 ⟨hres, hb⟩
  rcases hres with ⟨h, rfl⟩ | ⟨h, p, rfl, hbad⟩ | ⟨h, E, k, hk, rfl, hg, hc, hall⟩ | ⟨h, E, v, rfl, hg, hall, _, _⟩
  · go_wp2
    go_ret2
    exact ⟨1, 0, rfl, .inl ⟨h, rfl, rfl⟩, hb⟩
  · have H := badList_res h hbad
    clear hbad
    go_wp2
    go_ret2
    exact ⟨2, p, rfl, H, hb⟩
  · have H := goodList_cost h hg k hk hc hall
    clear hg hc hall
    generalize E[k].dig = d at *
    go_wp2
    go_ret2
    exact ⟨3, d, rfl, H, hb⟩
  · have H := goodList_ok h hg hall
    clear hg hall
    go_wp2
    go_ret2
    exact ⟨0, 0, rfl, H, hb⟩

set_option maxHeartbeats 1000000 in
theorem checked_any (s : ByteArray) (w : World) (hs : s.size ≤ maxLen) :
    Calls Try.prog 10 #[.string s] w fun e w' => e = .returned (.bool true) ∧ Below w.heap.size w w' := by
  go_enter Try.func10, Try.ntmps10
  go_wp2_with fail
  refine (check_any s _ hs).mono ?_
  rintro e w1 ⟨a, p, rfl, hr, hb⟩
  go_wp2_with fail
  refine (refCheck_any s _ hs).mono ?_
  rintro e w2 ⟨a', p', rfl, hr', hb'⟩
  obtain ⟨rfl, rfl⟩ := hr.unique hr'
  have ta : (a == a) = true := beq_self_eq_true a
  have tp : (p == p) = true := beq_self_eq_true p
  clear hr hr'
  go_wp2
  go_ret
  exact ⟨rfl, hb.trans (hb'.mono hb.size)⟩

end Go.Proofs.Ytlfpepehngkehaa
