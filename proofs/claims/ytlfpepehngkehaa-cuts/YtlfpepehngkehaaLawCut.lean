/-
  Walks: Cut on both sides.
-/
import Derived.Test.YtlfpepehngkehaaLawBuild
import Derived.Test.YtlfpepehngkehaaCutI
import Derived.Test.YtlfpepehngkehaaRefLong
namespace Go.Proofs.Ytlfpepehngkehaa
set_option linter.unusedSimpArgs false
set_option linter.unusedVariables false
open Go.RowKit

def SameRelL (L : List Nat) (w : World) (g : Nat) (y : Value) (wr : World) : Prop := ∃ i : Nat, g = L.length - i ∧ i ≤ L.length ∧ y = .int .i64 i ∧ Same w wr

set_option maxHeartbeats 1000000 in
theorem lawSame_any (w : World) (B1 B2 : Nat) (v1 v2 : Value) (L : List Nat) (h1 : w.ownsRow B1 3 1 v1 L.length (intCells L)) (h2 : w.ownsRow B2 3 1 v2 L.length (intCells L)) (hn1 : L.length ≤ 1000) :
    Calls Try.prog 43 #[v1, v2] w fun e w' => e = .returned (.bool true) ∧ Same w w' := by
  have t0 : ((L.length : Int) != (L.length : Int)) = false := by simp
  obtain ⟨a1, c1, rfl, hg1⟩ := row_form h1
  obtain ⟨a2, c2, rfl, hg2⟩ := row_form h2
  go_enter Try.func43, Try.ntmps43
  go_wp2_with fail
  go_loopg [5] L.length (fun g y wr => SameRelL L w g y wr)
  case atStart => exact ⟨0, rfl, Nat.zero_le _, rfl, Same.refl _⟩
  case round =>
    obtain ⟨i, rfl, hi, rfl, hs⟩ := hrel
    by_cases hlt : i < L.length
    · have hlt' : (i : Int) < (L.length : Int) := by omega
      obtain ⟨g1, rfl⟩ := hg1 (by omega)
      obtain ⟨g2, rfl⟩ := hg2 (by omega)
      have hx := own_int (hs.row h1) rfl hlt
      have hy := own_int (hs.row h2) rfl hlt
      obtain ⟨x, hxd⟩ : ∃ x, x = L[i] := ⟨_, rfl⟩
      rw [← hxd] at hx hy
      have hxx : ((x : Int) != (x : Int)) = false := by simp
      clear hxd h1 h2
      go_wp2_with fail
      go_quiet (fail)
      go_wp2_with fail
      go_roundg (L.length - (i + 1))
      case measure => omega
      case rel => exact ⟨i + 1, rfl, hlt, by go_num, Kept.drewN hs _⟩
    · go_wp2_with fail
      go_ret
      exact ⟨rfl, hs⟩

/-- what the law's cut gives: a list of the caller's own. -/
def LawCutEnd (w w' : World) (e : Ending) : Prop := ∃ v n, e = .returned (.tuple #[v, .bool true]) ∧ (∃ xs, w'.ownsRow w.heap.size 3 1 v n xs) ∧ Below w.heap.size w w'

set_option maxHeartbeats 2000000 in
set_option maxRecDepth 20000 in
theorem lawCut_any (HC : CutOk) (HL : CutLongOk) (w : World) (P : Nat) (D : Dic) (s : ByteArray) (hs : s.size ≤ maxLen) (hP : PairAt w P D) :
    Calls Try.prog 16 #[.pointer (some ⟨P, 0, none⟩), .string s] w fun e w' => LawCutEnd w w' e := by
  obtain ⟨⟨b, B, v, Wv, Cv, h1, h2, h3, h4⟩, hg⟩ := hP
  have HS : Hid (SetAt w 149 b v D) := h3
  have HB : Hid (BookAt w B D Wv Cv) := h4
  have HG : Hid (GoodDic D) := hg
  by_cases h500 : s.size ≤ 500
  · have HCC : Hid (Calls Try.prog 26 #[.pointer (some ⟨b, 0, none⟩), .string s] w fun e w' => CutGot w w' D s e) := HC w b v D s h500 hg h3
    clear h3 h4 hg HC HL
    go_enter Try.func16, Try.ntmps16
    go_wp2_with fail
    refine HCC.out.mono ?_
    rintro e w1 ⟨v1, L, rfl, hL, ho1, hb1⟩
    have hLl := hL.length HG.out h500
    have HLr : Hid (CutRes D s L) := hL
    have h1' : w1.cell? ⟨P, 0, none⟩ = some (.pointer (some ⟨b, 0, none⟩)) := (hb1.cell (p := ⟨P, 0, none⟩) (cell_lt h1)).trans h1
    have h2' : w1.cell? ⟨P, 1, none⟩ = some (.pointer (some ⟨B, 0, none⟩)) := (hb1.cell (p := ⟨P, 1, none⟩) (cell_lt h2)).trans h2
    have HB1 : Hid (BookAt w1 B D Wv Cv) := HB.out.kept (Kept.of_below hb1 (fun _ => False)) id (fun _ _ e => e) (fun _ _ e => e)
    clear h1 h2 hL HCC
    go_wp2_with fail
    refine (refCut_any w1 B D Wv Cv HB1.out HG.out s h500).mono ?_
    rintro e w2 ⟨⟨v2, L', rfl, hL', ho2⟩, hb2⟩
    obtain rfl : L' = L := CutTo.unique hL' HLr.out
    have ho1' := ownsRow_below' ho1 hb2
    have hbel : Below w.heap.size w w2 := hb1.trans (hb2.mono hb1.size)
    obtain ⟨a1, c1, rfl, _⟩ := row_form ho1'
    have HO : Hid (w2.ownsRow w.heap.size 3 1 (.slice a1 L'.length c1) L'.length (intCells L')) := ho1'
    clear hL' ho1 hb2 hb1
    go_wp2_with fail
    refine (lawSame_any w2 _ _ _ v2 L' ho1' ho2 (by omega)).mono ?_
    rintro e w3 ⟨rfl, hs3⟩
    have HO3 : Hid (w3.ownsRow w.heap.size 3 1 (.slice a1 L'.length c1) L'.length (intCells L')) := hs3.row HO.out
    have HB3 : Hid (Below w.heap.size w w3) := Same.below hs3 hbel hbel.size
    clear ho1' ho2 hs3 hbel
    go_wp2
    go_ret2
    exact ⟨_, L'.length, rfl, ⟨_, HO3.out⟩, HB3.out⟩
  · have HCC : Hid (Calls Try.prog 26 #[.pointer (some ⟨b, 0, none⟩), .string s] w fun e w' => e = .returned (.tuple #[.slice none 0 0, .int .i64 1]) ∧ Below w.heap.size w w') := HL w b v D s (by omega) hs h3
    clear h3 h4 hg HC HL
    go_enter Try.func16, Try.ntmps16
    go_wp2_with fail
    refine HCC.out.mono ?_
    rintro e w1 ⟨rfl, hb1⟩
    have h1' : w1.cell? ⟨P, 0, none⟩ = some (.pointer (some ⟨b, 0, none⟩)) := (hb1.cell (p := ⟨P, 0, none⟩) (cell_lt h1)).trans h1
    have h2' : w1.cell? ⟨P, 1, none⟩ = some (.pointer (some ⟨B, 0, none⟩)) := (hb1.cell (p := ⟨P, 1, none⟩) (cell_lt h2)).trans h2
    clear h1 h2 HCC
    go_wp2_with fail
    refine (refCutLong_any w1 B s (by omega) hs).mono ?_
    rintro e w2 ⟨rfl, rfl⟩
    have hnil := fun W : World => run_eql_nil_slice (P := Try.prog) W 37 3 none 0 0 0 0 Try.underlying37
    go_wp2
    go_ret2
    exact ⟨_, 0, rfl, ⟨[], World.ownsRow_nil _ _ _ _⟩, hb1⟩

end Go.Proofs.Ytlfpepehngkehaa
