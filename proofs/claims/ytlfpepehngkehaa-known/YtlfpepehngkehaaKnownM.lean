/-
  The document's examples: the dictionary D, and what it cuts.
-/
import Derived.Test.YtlfpepehngkehaaRows
import Derived.Test.YtlfpepehngkehaaMaths
namespace Go.Proofs.Ytlfpepehngkehaa
set_option linter.unusedSimpArgs false
set_option linter.unusedVariables false

/-- ab=20,abc=30,c=10,cd=40,de=10,d=500 -/
def exA : ByteArray := ⟨#[97, 98, 61, 50, 48, 44, 97, 98, 99, 61, 51, 48, 44, 99, 61, 49, 48, 44, 99, 100, 61, 52, 48, 44, 100, 101, 61, 49, 48, 44, 100, 61, 53, 48, 48]⟩
def exAL : List (Nat × Nat) := [(2, 2), (3, 2), (1, 2), (2, 2), (2, 2), (1, 3)]
theorem exA_ok : okB exA exAL = true := by kernel_rfl
/-- NOW=1,HERE=1,NO=1,WHERE=1,NOWHERE!,IS=1,AB=0,ABC=9,CD=9 -/
def exB : ByteArray := ⟨#[78, 79, 87, 61, 49, 44, 72, 69, 82, 69, 61, 49, 44, 78, 79, 61, 49, 44, 87, 72, 69, 82, 69, 61, 49, 44, 78, 79, 87, 72, 69, 82, 69, 33, 44, 73, 83, 61, 49, 44, 65, 66, 61, 48, 44, 65, 66, 67, 61, 57, 44, 67, 68, 61, 57]⟩
def exBL : List (Nat × Nat) := [(3, 1), (4, 1), (2, 1), (5, 1), (7, 0), (2, 1), (2, 1), (3, 1), (2, 1)]
theorem exB_ok : okB exB exBL = true := by kernel_rfl
/-- ab=300,abc=7 -/
def exC : ByteArray := ⟨#[97, 98, 61, 51, 48, 48, 44, 97, 98, 99, 61, 55]⟩
def exCL : List (Nat × Nat) := [(2, 3), (3, 1)]
theorem exC_ok : okB exC exCL = true := by kernel_rfl

def exE : List Ent := entsF exA 0 exAL ++ entsF exB 0 exBL
def exD : Dic := [(⟨#[65, 66]⟩, 0), (⟨#[65, 66, 67]⟩, 9), (⟨#[67, 68]⟩, 9), (⟨#[72, 69, 82, 69]⟩, 1), (⟨#[73, 83]⟩, 1), (⟨#[78, 79]⟩, 1), (⟨#[78, 79, 87]⟩, 1), (⟨#[87, 72, 69, 82, 69]⟩, 1), (⟨#[97, 98]⟩, 20), (⟨#[97, 98, 99]⟩, 30), (⟨#[99]⟩, 10), (⟨#[99, 100]⟩, 40), (⟨#[100]⟩, 500), (⟨#[100, 101]⟩, 10)]
theorem exD_eq : dicF exE = exD := by kernel_rfl
def exF : Dic := [(⟨#[97, 98]⟩, 300), (⟨#[97, 98, 99]⟩, 7)]
theorem exF_eq : dicF (entsF exC 0 exCL) = exF := by kernel_rfl

def exT0 : ByteArray := ⟨#[97, 98, 99, 100, 101]⟩
theorem exT0_cut : cutB exD exT0 0 [0] [⟨0, 5, [2, 3, 5], [(1, 2, 40), (2, 2, 520), (3, 3, 20), (4, 5, 10), (5, 5, 500), (0, 0, 0)]⟩] = some [0, 2, 3, 5] := by kernel_rfl
def exT1 : ByteArray := ⟨#[97, 98, 99, 100]⟩
theorem exT1_cut : cutB exD exT1 0 [0] [⟨0, 4, [2, 4], [(1, 2, 60), (2, 2, 540), (3, 4, 40), (4, 4, 500), (0, 0, 0)]⟩] = some [0, 2, 4] := by kernel_rfl
def exT2 : ByteArray := ⟨#[120, 97, 98]⟩
theorem exT2_cut : cutB exD exT2 0 [0] [⟨0, 3, [1, 3], [(1, 1, 520), (2, 3, 20), (3, 3, 500), (0, 0, 0)]⟩] = some [0, 1, 3] := by kernel_rfl
def exT3 : ByteArray := ⟨#[97, 98, 126]⟩
theorem exT3_cut : cutB exD exT3 0 [0] [⟨0, 3, [1, 3], [(1, 1, 1000), (3, 3, 500), (0, 0, 0), (0, 0, 0)]⟩] = some [0, 1, 3] := by kernel_rfl
def exT4 : ByteArray := ⟨#[78, 79, 87, 72, 69, 82, 69]⟩
theorem exT4_cut : cutB exD exT4 0 [0] [⟨0, 7, [3, 7], []⟩] = some [0, 3, 7] := by kernel_rfl
def exT5 : ByteArray := ⟨#[65, 66, 67, 68]⟩
theorem exT5_cut : cutB exD exT5 0 [0] [⟨0, 4, [2, 4], []⟩] = some [0, 2, 4] := by kernel_rfl
def exT6 : ByteArray := ⟨#[88, 89, 78, 79, 73, 83]⟩
theorem exT6_cut : cutB exD exT6 0 [0] [⟨0, 6, [2, 4, 6], []⟩] = some [0, 2, 4, 6] := by kernel_rfl
def exT7 : ByteArray := ⟨#[97, 98, 49, 50, 32, 32, 44, 44, 78, 79]⟩
theorem exT7_cut : cutB exD exT7 0 [0] [⟨0, 2, [2], [(1, 2, 20), (2, 2, 500), (0, 0, 0)]⟩, ⟨2, 4, [2], []⟩, ⟨4, 6, [2], []⟩, ⟨6, 7, [1], []⟩, ⟨7, 8, [1], []⟩, ⟨8, 10, [2], []⟩] = some [0, 2, 4, 6, 7, 8, 10] := by kernel_rfl
def exT8 : ByteArray := ⟨#[]⟩
theorem exT8_cut : cutB exD exT8 0 [0] [] = some [0] := by kernel_rfl
def exT9 : ByteArray := ⟨#[97, 98, 32, 49, 50]⟩
theorem exT9_cut : cutB exD exT9 0 [0] [⟨0, 2, [2], [(1, 2, 20), (2, 2, 500), (0, 0, 0)]⟩, ⟨2, 3, [1], []⟩, ⟨3, 5, [2], []⟩] = some [0, 2, 3, 5] := by kernel_rfl

end Go.Proofs.Ytlfpepehngkehaa
