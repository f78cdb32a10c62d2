/-
  Walks: the walk on both sides.
-/
import Derived.Test.YtlfpepehngkehaaGreatLawCut
import Derived.Test.YtlfpepehngkehaaGreatRefWalkC
import Derived.Test.YtlfpepehngkehaaGreatWalkJ
namespace Go.Proofs.YtlfpepehngkehaaGreat
set_option linter.unusedSimpArgs false
set_option linter.unusedVariables false
open Go.RowKit

theorem MoveIs.other {D : Dic} {t : ByteArray} {l : List Nat} {a a' : Nat} {kind k r : Int} (h : MoveIs D t l a 0 0 r a') (h1 : ¬ kind = 1) (h2 : ¬ kind = 2) (h3 : ¬ kind = 3) (h4 : ¬ kind = 4) (h5 : ¬ kind = 5) (h6 : ¬ kind = 6) (h7 : ¬ kind = 7) (h8 : ¬ kind = 8) : MoveIs D t l a kind k r a' := by
  rcases h with ⟨h, -⟩ | ⟨-, x, hx, ha, hr⟩
  · cases h
  · refine .inr ⟨h8, x, ?_, ?_, ?_⟩
    · unfold WantsTo at hx ⊢
      simp [h1, h2, h3, h4, h5, h6, h7] at hx ⊢
      exact hx
    · unfold goesTo at ha ⊢
      simp [h5, h6, h7] at ha ⊢
      exact ha
    · rw [if_neg h7]
      simpa using hr

theorem MoveIs.free {D : Dic} {t : ByteArray} {l : List Nat} {a a' : Nat} {kind r : Int} (k : Int) (hk : kind = 1 ∨ kind = 2 ∨ kind = 3 ∨ kind = 4 ∨ kind = 8) (h : MoveIs D t l a kind 0 r a') : MoveIs D t l a kind k r a' := by
  rcases h with h | ⟨h8, x, hx, ha, hr⟩
  · exact .inl h
  · refine .inr ⟨h8, x, ?_, ha, ?_⟩
    · unfold WantsTo at hx ⊢
      rcases hk with rfl | rfl | rfl | rfl | rfl <;> simpa using hx
    · rcases hk with rfl | rfl | rfl | rfl | rfl <;> simpa using hr

theorem MoveGot.free {WI : WalkIf} {w w' : World} {p : Nat} {F : Nat → Prop} {D : Dic} {t : ByteArray} {l : List Nat} {a : Nat} {kind : Int} {e : Ending} (k : Int) (hk : kind = 1 ∨ kind = 2 ∨ kind = 3 ∨ kind = 4 ∨ kind = 8) (h : MoveGot WI.At w w' p F D t l a kind 0 e) : MoveGot WI.At w w' p F D t l a kind k e := by
  obtain ⟨r, a', rfl, hm, hA, hK⟩ := h
  exact ⟨r, a', rfl, hm.free k hk, hA, hK⟩

set_option maxHeartbeats 4000000 in
set_option maxRecDepth 20000 in
theorem moved_any (WI : WalkIfAll) (w : World) (p : Nat) (F : Nat → Prop) (D : Dic) (t : ByteArray) (l : List Nat) (a : Nat) (kind k : Int) (hk0 : -9223372036854775808 ≤ k) (hk1 : k ≤ 9223372036854775807) (hA : WI.At w p F D t l a) (hG : GoodDic D) (ht : t.size ≤ 500) (hL : CutRes D t l) :
    Calls Tryz.prog 22 #[.pointer (some ⟨p, 0, none⟩), .int .i64 kind, .int .i64 k] w fun e w' => MoveGot WI.At w w' p F D t l a kind k e := by
  by_cases k1 : kind = 1
  · subst k1
    have HC := WI.first w p F D t l a hA hG ht hL
    clear hA hG hL
    go_enter Tryz.func22, Tryz.ntmps22
    go_wp2_with fail
    refine HC.mono ?_
    rintro e w1 hM
    have HR : Hid (MoveGot WI.At w w1 p F D t l a 1 k e) := hM.free k (by decide)
    obtain ⟨r, a', rfl, -, -, -⟩ := hM
    clear HC
    go_wp2
    go_ret
    exact HR.out
  by_cases k2 : kind = 2
  · subst k2
    have HC := WI.last w p F D t l a hA hG ht hL
    clear hA hG hL
    go_enter Tryz.func22, Tryz.ntmps22
    go_wp2_with fail
    refine HC.mono ?_
    rintro e w1 hM
    have HR : Hid (MoveGot WI.At w w1 p F D t l a 2 k e) := hM.free k (by decide)
    obtain ⟨r, a', rfl, -, -, -⟩ := hM
    clear HC
    go_wp2
    go_ret
    exact HR.out
  by_cases k3 : kind = 3
  · subst k3
    have HC := WI.next w p F D t l a hA hG ht hL
    clear hA hG hL
    go_enter Tryz.func22, Tryz.ntmps22
    go_wp2_with fail
    refine HC.mono ?_
    rintro e w1 hM
    have HR : Hid (MoveGot WI.At w w1 p F D t l a 3 k e) := hM.free k (by decide)
    obtain ⟨r, a', rfl, -, -, -⟩ := hM
    clear HC
    go_wp2
    go_ret
    exact HR.out
  by_cases k4 : kind = 4
  · subst k4
    have HC := WI.previous w p F D t l a hA hG ht hL
    clear hA hG hL
    go_enter Tryz.func22, Tryz.ntmps22
    go_wp2_with fail
    refine HC.mono ?_
    rintro e w1 hM
    have HR : Hid (MoveGot WI.At w w1 p F D t l a 4 k e) := hM.free k (by decide)
    obtain ⟨r, a', rfl, -, -, -⟩ := hM
    clear HC
    go_wp2
    go_ret
    exact HR.out
  by_cases k5 : kind = 5
  · subst k5
    have HC := WI.following w p F D t l a k hk0 hk1 hA hG ht hL
    clear hA hG hL
    go_enter Tryz.func22, Tryz.ntmps22
    go_wp2_with fail
    refine HC.mono ?_
    rintro e w1 hM
    have HR : Hid (MoveGot WI.At w w1 p F D t l a 5 k e) := hM
    obtain ⟨r, a', rfl, -, -, -⟩ := hM
    clear HC
    go_wp2
    go_ret
    exact HR.out
  by_cases k6 : kind = 6
  · subst k6
    have HC := WI.preceding w p F D t l a k hk0 hk1 hA hG ht hL
    clear hA hG hL
    go_enter Tryz.func22, Tryz.ntmps22
    go_wp2_with fail
    refine HC.mono ?_
    rintro e w1 hM
    have HR : Hid (MoveGot WI.At w w1 p F D t l a 6 k e) := hM
    obtain ⟨r, a', rfl, -, -, -⟩ := hM
    clear HC
    go_wp2
    go_ret
    exact HR.out
  by_cases k7 : kind = 7
  · subst k7
    have HC := WI.is w p F D t l a k hk0 hk1 hA hG ht hL
    clear hA hG hL
    go_enter Tryz.func22, Tryz.ntmps22
    go_wp2_with fail
    refine HC.mono ?_
    rintro e w1 ⟨y, a', rfl, hm, hA, hK⟩
    have HR : Hid (MoveGot WI.At w w1 p F D t l a 7 k (.returned (.int .i64 (if y then 1 else 0)))) := ⟨_, a', rfl, hm, hA, hK⟩
    clear hm hA hK HC
    cases y with
    | true =>
      go_wp2
      go_ret
      exact HR.out
    | false =>
      go_wp2
      go_ret
      exact HR.out
  by_cases k8 : kind = 8
  · subst k8
    have HC := WI.kind w p F D t l a hA hG ht hL
    clear hA hG hL
    go_enter Tryz.func22, Tryz.ntmps22
    go_wp2_with fail
    refine HC.mono ?_
    rintro e w1 hM
    have HR : Hid (MoveGot WI.At w w1 p F D t l a 8 k e) := hM.free k (by decide)
    obtain ⟨r, a', rfl, -, -, -⟩ := hM
    clear HC
    go_wp2
    go_ret
    exact HR.out
  have HC := WI.place w p F D t l a hA hG ht hL
  have b1 := beqf k1
  have b2 := beqf k2
  have b3 := beqf k3
  have b4 := beqf k4
  have b5 := beqf k5
  have b6 := beqf k6
  have b7 := beqf k7
  have b8 := beqf k8
  have HM : Hid (∀ r a', MoveIs D t l a 0 0 r a' → MoveIs D t l a kind k r a') := fun r a' h => h.other k1 k2 k3 k4 k5 k6 k7 k8
  clear hA hG hL k1 k2 k3 k4 k5 k6 k7 k8
  go_enter Tryz.func22, Tryz.ntmps22
  go_wp2_with fail
  refine HC.mono ?_
  rintro e w1 ⟨r, a', rfl, hm, hA, hK⟩
  have HR : Hid (MoveGot WI.At w w1 p F D t l a kind k (.returned (.int .i64 r))) := ⟨_, a', rfl, HM.out _ _ hm, hA, hK⟩
  clear hm hA hK HC HM
  go_wp2
  go_ret
  exact HR.out

end Go.Proofs.YtlfpepehngkehaaGreat
