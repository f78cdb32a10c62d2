/-
  What the program's walks must answer: the other calls.
-/
import Derived.Test.YtlfpepehngkehaaWalkI
namespace Go.Proofs.Ytlfpepehngkehaa
set_option linter.unusedSimpArgs false
set_option linter.unusedVariables false
open Go.RowKit

/-- the walks of the program with Kind, First and Last. -/
structure WalkIfAll extends WalkIf where
  kind : ∀ (w : World) (p : Nat) (F : Nat → Prop) (D : Dic) (t : ByteArray) (l : List Nat) (a : Nat), toWalkIf.At w p F D t l a → GoodDic D → t.size ≤ 500 → CutRes D t l → Calls Try.prog 49 #[.pointer (some ⟨p, 0, none⟩)] w fun e w' => MoveGot toWalkIf.At w w' p F D t l a 8 0 e
  first : ∀ (w : World) (p : Nat) (F : Nat → Prop) (D : Dic) (t : ByteArray) (l : List Nat) (a : Nat), toWalkIf.At w p F D t l a → GoodDic D → t.size ≤ 500 → CutRes D t l → Calls Try.prog 74 #[.pointer (some ⟨p, 0, none⟩)] w fun e w' => MoveGot toWalkIf.At w w' p F D t l a 1 0 e
  last : ∀ (w : World) (p : Nat) (F : Nat → Prop) (D : Dic) (t : ByteArray) (l : List Nat) (a : Nat), toWalkIf.At w p F D t l a → GoodDic D → t.size ≤ 500 → CutRes D t l → Calls Try.prog 75 #[.pointer (some ⟨p, 0, none⟩)] w fun e w' => MoveGot toWalkIf.At w w' p F D t l a 2 0 e

end Go.Proofs.Ytlfpepehngkehaa
