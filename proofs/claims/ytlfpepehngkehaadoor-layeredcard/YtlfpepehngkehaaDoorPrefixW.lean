/-
  Walks: Prefixes of both sides, and that they are the same.
-/
import Derived.Test.YtlfpepehngkehaaDoorPrefixS
namespace Go.Proofs.YtlfpepehngkehaaDoor
set_option linter.unusedSimpArgs false
set_option linter.unusedVariables false
open Go.RowKit

set_option maxHeartbeats 1000000 in
set_option maxRecDepth 20000 in
theorem dictPrefixes_any (w : World) (b : Nat) (v : Value) (D : Dic) (s : ByteArray) (hs : s.size ≤ maxLen) (hS : SetAt w 95 b v D) (hsrt : Srt D) (hD : D.length ≤ 150) (hw : ∀ p ∈ D, 1 ≤ p.1.size ∧ p.1.size ≤ 12) :
    Calls Tryd.prog 23 #[.pointer (some ⟨b, 0, none⟩), .string s] w fun e w' => ∃ v' H, e = .returned v' ∧ Hits D s H ∧ H.length ≤ 12 ∧ w'.ownsRow w.heap.size 56 2 v' H.length (hitCells H) ∧ Below w.heap.size w w' := by
  go_enter Tryd.func23, Tryd.ntmps23
  go_wp2_with fail
  refine (setPrefixes_any w b v D s hs hS hsrt hD hw).mono ?_
  rintro e w1 ⟨v', H, rfl, h1, h2, h3, h4⟩
  go_wp2
  go_ret
  first | exact ⟨_, H, rfl, h1, h2, h3, h4⟩ | exact ⟨_, rfl, H, h1, h2, h3, h4⟩

set_option maxHeartbeats 1000000 in
set_option maxRecDepth 20000 in
theorem dictSize_any (w : World) (b : Nat) (v : Value) (D : Dic) (hS : SetAt w 95 b v D) :
    Calls Tryd.prog 25 #[.pointer (some ⟨b, 0, none⟩)] w fun e w' => e = .returned (.int .i64 D.length) ∧ w' = w := by
  go_enter Tryd.func25, Tryd.ntmps25
  go_wp2_with fail
  refine (size_any w b v D hS).mono ?_
  rintro e w1 ⟨rfl, rfl⟩
  go_wp2
  go_ret
  exact ⟨rfl, rfl⟩

end Go.Proofs.YtlfpepehngkehaaDoor
