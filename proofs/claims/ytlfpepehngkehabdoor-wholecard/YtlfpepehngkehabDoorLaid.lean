/-
  The library's numerals in the worlds of the keep statements; slices of numbers as they come in.
-/
import Derived.Test.YtlfpepehngkehabDoorKeepE
import Derived.Test.YtlfpepehngkehabDoorShelf
import Derived.Test.YtlfpepehngkehabDoorRows
import Derived.Lib.LaidTab
import Derived.Lib.AppendIntMem
import Derived.ChangeSlices
import Derived.ProofKit
import Derived.OpenShut
import Derived.SizedLaws
namespace Go.Proofs.YtlfpepehngkehabDoor
set_option linter.unusedSimpArgs false
set_option linter.unusedVariables false
open Go.RowKit Go.ChangeShapes Go.WideShapes Go.ChangeAt

theorem itoa_in {w : World} (ht : Lib.TabIs Tryd.prog w "internal/strconv.uint64pow10" .u64 Lib.pow10Tab) : ItoaIn w.heap.size w := by
  intro w1 n hb hn
  refine (Tryd.strconv_Itoa n (by omega) (by omega) w1 (Lib.tabBelow_of_tabIs ht w1 hb)).mono ?_
  rintro e w2 ⟨rfl, k, os, rfl⟩
  refine ⟨?_, Lib.below_grow w1.heap.size w1 (Nat.le_refl _) k os⟩
  have : Lib.itoa (n : Int) = Lib.decDigits n := by
    unfold Lib.itoa
    rw [if_neg (by omega)]
    simp
  rw [this]

theorem ItoaIn.on {b0 : Nat} {w w1 : World} (h : ItoaIn b0 w) (hb : Below b0 w w1) (hz : b0 ≤ w1.heap.size) : ItoaIn w1.heap.size w1 := fun w' n hb' hn => h w' n (hb.trans (hb'.mono hz)) hn

theorem gPow : (Tryd.prog.globalNamed "internal/strconv.uint64pow10").bind (fun g => (Tryd.prog.globals[g]?).map (·.type)) = some 114 := by kernel_rfl
theorem cellsPow : Tryd.prog.cellsOf 114 = 20 := by kernel_rfl
theorem cellsU64 : Tryd.prog.cellsOf 108 = 1 := by kernel_rfl

theorem pow_laid {W : World} {a b : String × DataW Unit} (h : laidMet Tryd.prog [a, b, ("internal/strconv.uint64pow10", Lib.tabData .u64 Lib.pow10Tab)] W) : Lib.TabIs Tryd.prog W "internal/strconv.uint64pow10" .u64 Lib.pow10Tab := by
  obtain ⟨a1, a2⟩ := a
  obtain ⟨b1, b2⟩ := b
  obtain ⟨ps, ⟨_, _, _, _, _, _, _, _, _, _, ⟨_, _, _, _, _, _, _, _, _, _, ⟨g, t, cs, fuel, p, q, k1, k2, k3, k4, _⟩, _⟩, _⟩, _⟩ := h
  have hg := gPow
  rw [k1] at hg
  simp only [Option.bind_some] at hg
  rw [k2] at hg
  obtain rfl := Option.some.inj hg
  unfold Lib.TabIs
  rw [k3, ← Lib.cells_of_tab Tryd.underlying114 Tryd.underlying108 cellsU64 cellsPow k4]

theorem cells_int : Tryd.prog.cellsOf 3 = 1 := by kernel_rfl

/-- a slice of numbers, as it comes in. -/
theorem ints_open {H : Type} {enc : TypeId × Value → H} {W : World} {base : Nat} {spare : Nat → Bool} {held : Bool} {fuel : Nat} {a0 : Option Addr} {len cap : Nat} {x : DataW H × List MemPlace}
    (h : DataW.trod enc Tryd.prog W base spare held fuel 22 (Value.cells (.slice a0 len cap)).toList = some x) : ∃ zs : List Int, zs.length = len ∧ IntsAt W a0 zs ∧ zs.length ≤ 9223372036854775807 := by
  rcases open_ints Tryd.underlying22 Tryd.underlying3 cells_int h with ⟨hcs, _⟩ | ⟨a, len', cap', zs, hcs, _, hl, hm, hz, _, hcell, hws⟩
  · simp [Value.cells] at hcs
    obtain ⟨rfl, rfl, rfl⟩ := hcs
    exact ⟨[], rfl, ⟨by simp, .inl rfl⟩, by simp⟩
  · simp [Value.cells] at hcs
    obtain ⟨rfl, rfl, rfl⟩ := hcs
    have hlz : len ≤ zs.length := by rw [hz]; split <;> omega
    have hlen : (zs.take len).length = len := by simp; omega
    refine ⟨zs.take len, hlen, ⟨fun z hzm => ?_, ?_⟩, by rw [hlen]; unfold maxLen at hm; omega⟩
    · have := hws z (List.mem_of_mem_take hzm)
      simpa [Lit.wf, IntKind.min, IntKind.max, IntKind.signed, IntKind.bits] using this
    · by_cases hl0 : len = 0
      · subst hl0; exact .inl (by simp)
      · obtain ⟨b, off, spot⟩ := a
        have hspot : spot = none := by simpa [Addr.add] using World.cell?_spot (hcell 0 (by omega))
        subst hspot
        refine .inr ⟨b, off, rfl, fun i hi => ?_⟩
        rw [hlen] at hi
        have := hcell i (by omega)
        have e : (⟨b, off, none⟩ : Addr).add i = ⟨b, off + i, none⟩ := by first | (simp [Addr.add]; done) | (simp [Addr.add]; omega)
        rw [e] at this
        rw [this]
        simp [List.getD_eq_getElem?_getD, List.getElem?_eq_getElem (show i < zs.length by omega)]

end Go.Proofs.YtlfpepehngkehabDoor
