/-
  Walks: the keep statements' dictionary.
-/
import Derived.Test.YtlfpepehngkehabDoorKeepF
import Derived.Test.YtlfpepehngkehabDoorKeepH
import Derived.Test.YtlfpepehngkehabDoorMaths
import Derived.Test.YtlfpepehngkehabDoorBuildA
namespace Go.Proofs.YtlfpepehngkehabDoor
set_option linter.unusedSimpArgs false
set_option linter.unusedVariables false
open Go.RowKit

/-- the dictionary of raw numbers, and its table. -/
structure MadeAt (raw : List Int) (w' : World) (b : Nat) (v : Value) (D : Dic) (B : Nat) (Wv Cv : Value) : Prop where
  rp : Rep D (eAB raw)
  gd : GoodDic D
  st : SetAt w' 94 b v D
  tb : TabAt w' B (tabTo raw (nE raw)) Wv Cv

theorem MadeAt.below {raw : List Int} {w w' : World} {b : Nat} {v : Value} {D : Dic} {B : Nat} {Wv Cv : Value} (h : MadeAt raw w b v D B Wv Cv) (hb : Below w.heap.size w w') : MadeAt raw w' b v D B Wv Cv :=
  ⟨h.rp, h.gd, h.st.below hb, h.tb.same (Kept.of_below hb _)⟩

theorem MadeAt.tl {raw : List Int} {w' : World} {b : Nat} {v : Value} {D : Dic} {B : Nat} {Wv Cv : Value} (_ : MadeAt raw w' b v D B Wv Cv) : (tabTo raw (nE raw)).length ≤ 40 := by
  have := tabTo_length raw (nE raw)
  have := (nE_le raw).1
  omega

theorem MadeAt.size {raw : List Int} {w' : World} {b : Nat} {v : Value} {D : Dic} {B : Nat} {Wv Cv : Value} (h : MadeAt raw w' b v D B Wv Cv) : D.length ≤ 40 := by
  have := dic_words (eAB_tab raw) h.rp
  have := h.tl
  omega

def MadeEnd (raw : List Int) (w w' : World) (e : Ending) : Prop :=
  ∃ b v D Wv Cv, e = .returned (.tuple #[.pointer (some ⟨b, 0, none⟩), .pointer (some ⟨w.heap.size, 0, none⟩)]) ∧ MadeAt raw w' b v D w.heap.size Wv Cv ∧ Below w.heap.size w w'

theorem build_raw (raw : List Int) (err : Int) : ¬ BuildNo [sA raw, sB raw] err := by
  refine build_ok (E := eAB raw) (by simp) (eAB_ok raw) (fun D hR => ?_) err
  have := dic_words (eAB_tab raw) hR
  have := tabTo_length raw (nE raw)
  have := (nE_le raw).1
  omega

theorem yes_raw {raw : List Int} {D : Dic} (h : BuildYes [sA raw, sB raw] D) : Rep D (eAB raw) := by
  obtain ⟨_, E, h1, h2, _⟩ := h
  rw [OkUpTo.one (eAB_ok raw) h1]
  exact h2

theorem strs_two {w : World} {B G : Nat} {t : TypeId} {x y : ByteArray} (h : w.ownsRow B t 1 (.slice (some ⟨G, 0, none⟩) 2 2) 2 [.string x, .string y]) (hx : x.size ≤ 400) (hy : y.size ≤ 400) : StrsAt w (some ⟨G, 0, none⟩) [x, y] := by
  refine ⟨fun s hs => ?_, .inr ⟨G, 0, rfl, fun i hi => ?_⟩⟩
  · simp at hs
    unfold maxLen
    rcases hs with rfl | rfl <;> omega
  · rw [Nat.zero_add, h.cellAt i (by simpa using hi)]
    match i, hi with
    | 0, _ => rfl
    | 1, _ => rfl

set_option maxHeartbeats 1000000 in
set_option maxRecDepth 20000 in
theorem made_any (w : World) (ap : Option Addr) (cp : Nat) (raw : List Int) (HI : ItoaIn w.heap.size w) (hR : IntsAt w ap raw) (hlen : raw.length ≤ 9223372036854775807) :
    Calls Tryd.prog 6 #[.slice ap raw.length cp] w fun e w' => MadeEnd raw w w' e := by
  have HL : Hid (Calls Tryd.prog 18 #[.slice ap raw.length cp] w fun e w' => ListsEnd raw w w' e) := lists_any w ap cp raw HI hR hlen
  clear HI hR
  go_enter Tryd.func6, Tryd.ntmps6
  go_wp2_with fail
  refine HL.out.mono ?_
  rintro e w1 ⟨G, Wv, Cv, rfl, hG, hrow, hT, hb1⟩
  have hz1 := hb1.size
  have HT : Hid (TabAt w1 w.heap.size (tabTo raw (nE raw)) Wv Cv) := hT
  have HST : Hid (StrsAt w1 (some ⟨G, 0, none⟩) [sA raw, sB raw]) := strs_two hrow (sA_size raw) (sB_size raw)
  clear hT hrow HL
  go_wp2_with fail
  refine (build_any w1 (some ⟨G, 0, none⟩) 2 [sA raw, sB raw] HST.out (by simp)).mono ?_
  rintro e w2 ⟨hbe, hb2⟩
  rcases hbe with ⟨err, rfl, hno⟩ | ⟨b, v, D, rfl, hyes, hS, hbb, hvb⟩
  · exact absurd hno (build_raw raw err)
  · have HM : Hid (MadeAt raw w2 b v D w.heap.size Wv Cv) := ⟨yes_raw hyes, hyes.good, hS, HT.out.same (Kept.of_below hb2 _)⟩
    have HB : Hid (Below w.heap.size w w2) := hb1.trans (hb2.mono hz1)
    clear hyes hS hvb hb2 hb1
    go_wp2
    go_ret2
    exact ⟨b, v, D, Wv, Cv, rfl, HM.out, HB.out⟩

end Go.Proofs.YtlfpepehngkehabDoor
