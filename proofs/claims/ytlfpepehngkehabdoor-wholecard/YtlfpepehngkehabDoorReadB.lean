/-
  Walks: entries.Read.
-/
import Derived.Test.YtlfpepehngkehabDoorReadA
import Derived.BigQuiet
import Derived.Deep.QuietTactic
namespace Go.Proofs.YtlfpepehngkehabDoor
set_option linter.unusedSimpArgs false
set_option linter.unusedVariables false
open Go.RowKit

theorem entsCells_length (E : List Ent) : (entsCells E).length = E.length * 4 := by
  induction E with
  | nil => rfl
  | cons x E ih => simp only [entsCells, List.flatMap_cons, List.length_append] at ih ⊢; rw [ih]; simp [entCells]; omega

theorem entsCells_at (E : List Ent) (k : Nat) (h : k < E.length) : ∀ i, i < 4 → (entsCells E)[k * 4 + i]? = (entCells E[k])[i]? := by
  induction E generalizing k with
  | nil => simp at h
  | cons x E ih =>
    intro i hi
    have e : entsCells (x :: E) = entCells x ++ entsCells E := by simp [entsCells]
    rw [e]
    cases k with
    | zero => rw [List.getElem?_append_left (by simp [entCells]; omega)]; simp
    | succ k =>
      rw [List.getElem?_append_right (by simp [entCells]; omega)]
      have h2 : (k + 1) * 4 + i - (entCells x).length = k * 4 + i := by simp [entCells]; omega
      rw [h2, ih k (by simpa using h) i hi]
      simp

theorem own_ent {w : World} {B g cap : Nat} {t : TypeId} {E : List Ent} (h : w.ownsRow B t 4 (.slice (some ⟨g, 0, none⟩) E.length cap) E.length (entsCells E)) {k : Nat} (hk : k < E.length) :
    w.cell? ⟨g, k * 4, none⟩ = some (.string E[k].word) ∧ w.cell? ⟨g, k * 4 + 1, none⟩ = some (.bool E[k].inn) ∧ w.cell? ⟨g, k * 4 + 2, none⟩ = some (.int .i64 E[k].cost) ∧ w.cell? ⟨g, k * 4 + 3, none⟩ = some (.int .i64 E[k].dig) := by
  have h0 := entsCells_at E k hk 0 (by omega)
  have h1 := entsCells_at E k hk 1 (by omega)
  have h2 := entsCells_at E k hk 2 (by omega)
  have h3 := entsCells_at E k hk 3 (by omega)
  refine ⟨?_, ?_, ?_, ?_⟩
  · rw [h.cellAt (k * 4) (by omega)]; simpa [entCells] using h0
  · rw [h.cellAt (k * 4 + 1) (by omega), h1]; simp [entCells]
  · rw [h.cellAt (k * 4 + 2) (by omega), h2]; simp [entCells]
  · rw [h.cellAt (k * 4 + 3) (by omega), h3]; simp [entCells]

def ReadRes (s : ByteArray) (B : Nat) (e : Ending) (w' : World) : Prop :=
  (2000 < s.size ∧ e = .returned (.tuple #[.slice none 0 0, .int .i64 1, .int .i64 0])) ∨
  (s.size ≤ 2000 ∧ ∃ p : Nat, e = .returned (.tuple #[.slice none 0 0, .int .i64 2, .int .i64 p]) ∧ BadList s p) ∨
  (s.size ≤ 2000 ∧ ∃ (E : List Ent) (k : Nat) (h : k < E.length), e = .returned (.tuple #[.slice none 0 0, .int .i64 3, .int .i64 E[k].dig]) ∧ GoodList s E ∧ 1000 < E[k].cost ∧ (∀ j (hj : j < k), E[j].cost ≤ 1000)) ∨
  (s.size ≤ 2000 ∧ ∃ (E : List Ent) (v : Value), e = .returned (.tuple #[v, .int .i64 0, .int .i64 0]) ∧ GoodList s E ∧ (∀ j (hj : j < E.length), E[j].cost ≤ 1000) ∧ E.length ≤ s.size ∧ w'.ownsRow B 80 4 v E.length (entsCells E))

set_option maxHeartbeats 1000000 in
theorem read_any (s : ByteArray) (w : World) (hs : s.size ≤ maxLen) :
    Calls Tryd.prog 29 #[.string s] w fun e w' => ReadRes s w.heap.size e w' ∧ Below w.heap.size w w' := by
  by_cases hb : s.size ≤ 2000
  · have hs' := hs
    unfold maxLen at hs
    go_enter Tryd.func29, Tryd.ntmps29
    go_wp2_with fail
    refine (readAll_any s _ hs' hb).mono ?_
    rintro e w1 ⟨hres, hb1⟩
    rcases hres with ⟨v, p, rfl, hbad⟩ | ⟨E, v, p, rfl, hgood, hle, hown⟩
    · go_wp2
      go_ret3
      exact ⟨.inr (.inl ⟨hb, p, rfl, hbad⟩), hb1⟩
    · have HG : Hid (GoodList s E) := hgood
      clear hgood
      have hown0 := hown
      obtain ⟨hl, hsh⟩ := hown
      rcases hsh with ⟨rfl, h0⟩ | ⟨g, cap, cur, rfl, hg1, hg2, hg3, hg4, hg5, hg6⟩
      · go_wp2_with fail
        refine wp_loop_rounds 1 ?_
        rw [rounds_succ]
        go_wp2
        go_ret3
        exact ⟨.inr (.inr (.inr ⟨hb, E, _, rfl, HG.out, fun j hj => by omega, hle, hown0⟩)), hb1⟩
      · clear hg2 hg6 hl
        go_wp2_with fail
        go_loopw [24] (fun i wr => ∃ k : Nat, k ≤ E.length ∧ i = .int .i64 k ∧ (∀ j (hj : j < k) (hj' : j < E.length), E[j].cost ≤ 1000) ∧ Below w1.heap.size w1 wr) (fun i _ => E.length - (intOf i).toNat)
        case atStart => exact ⟨0, by omega, rfl, fun j hj => by omega, Below.refl _ _⟩
        case round =>
          obtain ⟨k, hk, rfl, hall, hbel⟩ := hrel
          have HA : Hid (∀ j (hj : j < k) (hj' : j < E.length), E[j].cost ≤ 1000) := hall
          clear hall
          by_cases hlt : k < E.length
          · obtain ⟨hc0, hc1, hc2, hc3⟩ := own_ent (ownsRow_below hown0 hbel) hlt
            obtain ⟨x, hx⟩ : ∃ x, x = E[k] := ⟨_, rfl⟩
            have HX : Hid (x = E[k]) := hx
            rw [← hx] at hc0 hc1 hc2 hc3
            clear hx
            have hsz := hbel.size
            have hsz1 := hb1.size
            by_cases hcost : 1000 < x.cost
            · have hci : (1000 : Int) < (x.cost : Int) := by omega
              go_wp2_with fail
              go_quiet (fail)
              go_wp2
              go_ret3
              have hk' : k < E.length := hlt
              refine ⟨.inr (.inr (.inl ⟨hb, E, k, hlt, by rw [← HX.out]; rfl, HG.out, by rw [← HX.out]; exact hcost, fun j hj => HA.out j hj (by omega)⟩)), ?_⟩
              exact below_drewN ((hb1.trans (hbel.mono hb1.size)).alloc (by omega) _) _
            · have hci : ¬ (1000 : Int) < (x.cost : Int) := by omega
              go_wp2
              go_roundw
              case rel =>
                refine ⟨k + 1, by omega, by go_num, fun j hj hj' => ?_, hbel.alloc hsz _⟩
                by_cases e : j = k
                · subst e; rw [← HX.out]; omega
                · exact HA.out j (by omega) hj'
              case measure => simp [intOf]; omega
          · go_wp2
            go_ret3
            have hke : k = E.length := by omega
            subst hke
            exact ⟨.inr (.inr (.inr ⟨hb, E, _, rfl, HG.out, fun j hj => HA.out j hj hj, hle, ownsRow_below hown0 hbel⟩)), hb1.trans (hbel.mono hb1.size)⟩
  · have hgt : (2000 : Int) < (s.size : Int) := by omega
    unfold maxLen at hs
    go_enter Tryd.func29, Tryd.ntmps29
    go_wp2
    go_ret3
    exact ⟨.inl ⟨by omega, rfl⟩, Below.refl _ _⟩

end Go.Proofs.YtlfpepehngkehabDoor
