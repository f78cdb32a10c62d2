/-
  What the program's walks must answer.
-/
import Derived.Test.YtlfpepehngkehaaCutI
import Derived.Test.YtlfpepehngkehaaKeptW
namespace Go.Proofs.Ytlfpepehngkehaa
set_option linter.unusedSimpArgs false
set_option linter.unusedVariables false
open Go.RowKit

/-- a call of a walk that answers a number: p: the walk's block, F: the blocks that it reads. -/
def MoveGot (At : World → Nat → (Nat → Prop) → Dic → ByteArray → List Nat → Nat → Prop) (w w' : World) (p : Nat) (F : Nat → Prop) (D : Dic) (t : ByteArray) (l : List Nat) (a : Nat) (kind k : Int) (e : Ending) : Prop :=
  ∃ (r : Int) (a' : Nat), e = .returned (.int .i64 r) ∧ MoveIs D t l a kind k r a' ∧ At w' p F D t l a' ∧ Kept w w' (fun j => j = p)

def IsGot (At : World → Nat → (Nat → Prop) → Dic → ByteArray → List Nat → Nat → Prop) (w w' : World) (p : Nat) (F : Nat → Prop) (D : Dic) (t : ByteArray) (l : List Nat) (a : Nat) (k : Int) (e : Ending) : Prop :=
  ∃ (y : Bool) (a' : Nat), e = .returned (.bool y) ∧ MoveIs D t l a 7 k (if y then 1 else 0) a' ∧ At w' p F D t l a' ∧ Kept w w' (fun j => j = p)

/-- the walks of the program, as a law may know them (given for each commit in WalkP). -/
structure WalkIf where
  At : World → Nat → (Nat → Prop) → Dic → ByteArray → List Nat → Nat → Prop
  kept : ∀ {w w' : World} {p : Nat} {F S : Nat → Prop} {D : Dic} {t : ByteArray} {l : List Nat} {a : Nat}, At w p F D t l a → Kept w w' S → (∀ j, F j → ¬ S j) → At w' p F D t l a
  lt : ∀ {w : World} {p : Nat} {F : Nat → Prop} {D : Dic} {t : ByteArray} {l : List Nat} {a : Nat}, At w p F D t l a → ∀ j, F j → j < w.heap.size
  own : ∀ {w : World} {p : Nat} {F : Nat → Prop} {D : Dic} {t : ByteArray} {l : List Nat} {a : Nat}, At w p F D t l a → F p ∧ a ≤ t.size
  begin : ∀ (w : World) (b : Nat) (v : Value) (D : Dic) (s : ByteArray), s.size ≤ 500 → GoodDic D → SetAt w 149 b v D →
    Calls Try.prog 44 #[.pointer (some ⟨b, 0, none⟩), .string s] w fun e w' => ∃ p F l, e = .returned (.tuple #[.pointer (some ⟨p, 0, none⟩), .int .i64 0]) ∧ CutRes D s l ∧ At w' p F D s l 0 ∧ w.heap.size ≤ p ∧ (∀ j, F j → w.heap.size ≤ j ∨ j = b ∨ v.ownBlock = some j) ∧ Below w.heap.size w w'
  beginLong : ∀ (w : World) (b : Nat) (v : Value) (D : Dic) (s : ByteArray), 500 < s.size → s.size ≤ maxLen → SetAt w 149 b v D →
    Calls Try.prog 44 #[.pointer (some ⟨b, 0, none⟩), .string s] w fun e w' => e = .returned (.tuple #[.pointer none, .int .i64 1]) ∧ Below w.heap.size w w'
  place : ∀ (w : World) (p : Nat) (F : Nat → Prop) (D : Dic) (t : ByteArray) (l : List Nat) (a : Nat), At w p F D t l a → GoodDic D → t.size ≤ 500 → CutRes D t l → Calls Try.prog 53 #[.pointer (some ⟨p, 0, none⟩)] w fun e w' => MoveGot At w w' p F D t l a 0 0 e
  next : ∀ (w : World) (p : Nat) (F : Nat → Prop) (D : Dic) (t : ByteArray) (l : List Nat) (a : Nat), At w p F D t l a → GoodDic D → t.size ≤ 500 → CutRes D t l → Calls Try.prog 50 #[.pointer (some ⟨p, 0, none⟩)] w fun e w' => MoveGot At w w' p F D t l a 3 0 e
  previous : ∀ (w : World) (p : Nat) (F : Nat → Prop) (D : Dic) (t : ByteArray) (l : List Nat) (a : Nat), At w p F D t l a → GoodDic D → t.size ≤ 500 → CutRes D t l → Calls Try.prog 51 #[.pointer (some ⟨p, 0, none⟩)] w fun e w' => MoveGot At w w' p F D t l a 4 0 e
  following : ∀ (w : World) (p : Nat) (F : Nat → Prop) (D : Dic) (t : ByteArray) (l : List Nat) (a : Nat) (k : Int), -9223372036854775808 ≤ k → k ≤ 9223372036854775807 → At w p F D t l a → GoodDic D → t.size ≤ 500 → CutRes D t l → Calls Try.prog 52 #[.pointer (some ⟨p, 0, none⟩), .int .i64 k] w fun e w' => MoveGot At w w' p F D t l a 5 k e
  preceding : ∀ (w : World) (p : Nat) (F : Nat → Prop) (D : Dic) (t : ByteArray) (l : List Nat) (a : Nat) (k : Int), -9223372036854775808 ≤ k → k ≤ 9223372036854775807 → At w p F D t l a → GoodDic D → t.size ≤ 500 → CutRes D t l → Calls Try.prog 54 #[.pointer (some ⟨p, 0, none⟩), .int .i64 k] w fun e w' => MoveGot At w w' p F D t l a 6 k e
  is : ∀ (w : World) (p : Nat) (F : Nat → Prop) (D : Dic) (t : ByteArray) (l : List Nat) (a : Nat) (k : Int), -9223372036854775808 ≤ k → k ≤ 9223372036854775807 → At w p F D t l a → GoodDic D → t.size ≤ 500 → CutRes D t l → Calls Try.prog 55 #[.pointer (some ⟨p, 0, none⟩), .int .i64 k] w fun e w' => IsGot At w w' p F D t l a k e

end Go.Proofs.Ytlfpepehngkehaa
