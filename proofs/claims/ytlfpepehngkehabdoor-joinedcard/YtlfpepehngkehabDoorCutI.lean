/-
  What the program's Cut must answer.
-/
import Derived.Test.YtlfpepehngkehabDoorBuildA
import Derived.Test.YtlfpepehngkehabDoorRowsW
import Derived.Test.YtlfpepehngkehabDoorMaths
namespace Go.Proofs.YtlfpepehngkehabDoor
set_option linter.unusedSimpArgs false
set_option linter.unusedVariables false
open Go.RowKit

def CutRes (D : Dic) (s : ByteArray) (L : List Nat) : Prop := CutTo D s s.size L

theorem CutRes.one {D : Dic} {s : ByteArray} {L M : List Nat} (h : CutRes D s L) (k : CutRes D s M) : L = M := CutTo.unique h k

theorem bounds_length {l : List Nat} {n : Nat} (h : Bounds l n) : l.length ≤ n + 1 := by
  have key : ∀ (l : List Nat) (m : Nat), l.Pairwise (· < ·) → (∀ x ∈ l, m ≤ x ∧ x ≤ n) → l.length + m ≤ n + 1 ∨ l = [] := by
    intro l
    induction l with
    | nil => intro m _ _; exact .inr rfl
    | cons a l ih =>
      intro m hp hx
      obtain ⟨h1, h2⟩ := List.pairwise_cons.1 hp
      have ha := hx a List.mem_cons_self
      rcases ih (a + 1) h2 (fun x hxl => ⟨h1 x hxl, (hx x (List.mem_cons_of_mem _ hxl)).2⟩) with h | h
      · exact .inl (by simp only [List.length_cons]; omega)
      · subst h; exact .inl (by simp; omega)
  rcases key l 0 h.srt (fun x hx => ⟨Nat.zero_le _, h.le x hx⟩) with h | h
  · omega
  · subst h; simp

theorem CutRes.bounds {D : Dic} {s : ByteArray} {L : List Nat} (hg : GoodDic D) (h : CutRes D s L) : Bounds L s.size := CutTo.bounds hg h
theorem CutRes.length {D : Dic} {s : ByteArray} {L : List Nat} (hg : GoodDic D) (h : CutRes D s L) (hs : s.size ≤ 500) : L.length ≤ 501 := by
  have := bounds_length (h.bounds hg)
  omega

def CutGot (w w' : World) (D : Dic) (s : ByteArray) (e : Ending) : Prop :=
  ∃ v L, e = .returned (.tuple #[v, .int .i64 0]) ∧ CutRes D s L ∧ w'.ownsRow w.heap.size 3 1 v L.length (intCells L) ∧ Below w.heap.size w w'

/-- the program's Cut does so (proved of each commit in CutP). -/
def CutOk : Prop := ∀ (w : World) (b : Nat) (v : Value) (D : Dic) (s : ByteArray), s.size ≤ 500 → GoodDic D → SetAt w 94 b v D →
  Calls Tryd.prog 7 #[.pointer (some ⟨b, 0, none⟩), .string s] w fun e w' => CutGot w w' D s e

def CutLongOk : Prop := ∀ (w : World) (b : Nat) (v : Value) (D : Dic) (s : ByteArray), 500 < s.size → s.size ≤ maxLen → SetAt w 94 b v D →
  Calls Tryd.prog 7 #[.pointer (some ⟨b, 0, none⟩), .string s] w fun e w' => e = .returned (.tuple #[.slice none 0 0, .int .i64 1]) ∧ Below w.heap.size w w'

end Go.Proofs.YtlfpepehngkehabDoor
