/-
  Walks: the reference's Build.
-/
import Derived.Test.YtlfpepehngkehaaRefSettled
import Derived.Test.YtlfpepehngkehaaStrsW
import Derived.Test.YtlfpepehngkehaaMaths
import Derived.Test.YtlfpepehngkehaaFormC
namespace Go.Proofs.Ytlfpepehngkehaa
set_option linter.unusedSimpArgs false
set_option linter.unusedVariables false
open Go.RowKit

/-- the entries of the first i lists, list by list. -/
def pre (F : Nat → List Ent) (i : Nat) : List Ent := (List.range i).flatMap F
theorem pre_succ (F : Nat → List Ent) (i : Nat) : pre F (i + 1) = pre F i ++ F i := by simp [pre, List.range_succ]

theorem pre_congr {F G : Nat → List Ent} {n : Nat} (h : ∀ i, i < n → F i = G i) : pre F n = pre G n := by
  unfold pre
  induction n with
  | zero => rfl
  | succ n ih => rw [List.range_succ, List.flatMap_append, List.flatMap_append, ih fun i hi => h i (by omega)]; simp [h n (by omega)]

theorem OkUpTo.parts {ss : List ByteArray} : ∀ {n : Nat} {E : List Ent}, OkUpTo ss n E → ∃ F : Nat → List Ent, (∀ i (h : i < n), ∃ hl : i < ss.length, OkList ss[i] (F i)) ∧ E = pre F n
  | 0, E, h => ⟨fun _ => [], fun i h => by omega, h⟩
  | n + 1, E, h => by
    obtain ⟨E1, E2, h1, h2, rfl⟩ := h
    obtain ⟨F, hF, rfl⟩ := h1.parts
    refine ⟨fun i => if i = n then E2 else F i, fun i hi => ?_, ?_⟩
    · by_cases e : i = n
      · subst e; simp only [if_true]; exact h2
      · simp only [if_neg e]; exact hF i (by omega)
    · rw [pre_succ]
      simp only [if_true]
      have e := pre_congr (F := fun i => if i = n then E2 else F i) (G := F) (n := n) (fun i hi => by simp only [if_neg (show i ≠ n by omega)])
      rw [e]

theorem pre_length {ss : List ByteArray} {F : Nat → List Ent} {n : Nat} (h : ∀ i (h : i < n), ∃ hl : i < ss.length, OkList ss[i] (F i)) : (pre F n).length ≤ n * 2000 := by
  induction n with
  | zero => simp [pre]
  | succ n ih =>
    rw [pre_succ, List.length_append]
    have := ih fun i hi => h i (by omega)
    obtain ⟨_, a⟩ := h n (by omega)
    have := a.2.2.2
    have := a.1
    omega

def RefBuildEnd (b0 : Nat) (w' : World) (E : List Ent) (e : Ending) : Prop :=
  ∃ D, Rep D E ∧ ((150 < D.length ∧ e = .returned (.tuple #[.pointer none, .int .i64 4])) ∨
    (D.length ≤ 150 ∧ ∃ B Wv Cv, e = .returned (.tuple #[.pointer (some ⟨B, 0, none⟩), .int .i64 0]) ∧ BookAt w' B D Wv Cv ∧ b0 ≤ B))

def RefBuildRes (b0 : Nat) (w' : World) (ss : List ByteArray) (m : Nat) (E : List Ent) (e : Ending) : Prop :=
  (∃ h : m < ss.length, ∃ err p, RefRes ss[m] err p ∧ err ≠ 0 ∧ e = .returned (.tuple #[.pointer none, .int .i64 err])) ∨ (m = ss.length ∧ RefBuildEnd b0 w' E e)

theorem one_ref (E : List Ent) : ∀ u ∈ refCells E, u.oneCell' = true := by
  intro u hu; simp [refCells] at hu; obtain ⟨x, _, rfl | rfl⟩ := hu <;> rfl

set_option maxHeartbeats 2000000 in
set_option maxRecDepth 20000 in
theorem refBuild_any (w : World) (a : Option Addr) (cap : Nat) (ss : List ByteArray) (hA : StrsAt w a ss) (h8 : ss.length ≤ 8) (m : Nat) (F : Nat → List Ent) (hm : m ≤ ss.length) (hF : ∀ i (h : i < m), ∃ hl : i < ss.length, OkList ss[i] (F i))
    (hend : m = ss.length ∨ ∃ h : m < ss.length, ∃ err p, RefRes ss[m] err p ∧ err ≠ 0) :
    Calls Try.prog 31 #[.slice a ss.length cap] w fun e w' => RefBuildRes w.heap.size w' ss m (pre F m) e ∧ Below w.heap.size w w' := by
  obtain ⟨i0, hi, hz0, hz1, hz2⟩ := info_parts Try.infoRefEntry
  have hle : ¬ (8 : Int) < (ss.length : Int) := by omega
  have HA : Hid (StrsAt w a ss) := hA
  have HF : Hid (∀ i (h : i < m), ∃ hl : i < ss.length, OkList ss[i] (F i)) := hF
  have HE : Hid (m = ss.length ∨ ∃ h : m < ss.length, ∃ err p, RefRes ss[m] err p ∧ err ≠ 0) := hend
  clear hA hF hend
  go_enter Try.func31, Try.ntmps31
  go_wp2_with fail
  go_loopw [4, 5] (fun av x wr => ∃ k : Nat, k ≤ m ∧ x = .int .i64 k ∧ wr.ownsRow w.heap.size 145 2 av (pre F k).length (refCells (pre F k)) ∧ Below w.heap.size w wr) (fun _ x _ => ss.length - (intOf x).toNat)
  case atStart => exact ⟨0, by omega, rfl, World.ownsRow_nil _ _ _ _, Below.refl _ _⟩
  case round =>
    obtain ⟨k, hk, rfl, hown, hbel⟩ := hrel
    have hpl := pre_length (n := k) fun i h => HF.out i (by omega)
    by_cases hlt : k < ss.length
    · have hA := (HA.out.below hbel)
      obtain ⟨hmx, hA⟩ := hA
      have hsz : ss[k].size ≤ maxLen := hmx _ (List.getElem_mem hlt)
      rcases hA with hA | ⟨ab, off, rfl, hA⟩
      · rw [hA] at hlt; simp at hlt
      · have hc := hA k hlt
        obtain ⟨s, hs⟩ : ∃ s, s = ss[k] := ⟨_, rfl⟩
        have HSi : Hid (s = ss[k]) := hs
        rw [← hs] at hc hsz
        clear hs hA hmx
        go_wp2_with fail
        refine (refCheck_any s _ hsz).mono ?_
        rintro e w1 ⟨er, p, rfl, hres, hb1⟩
        have hbel1 := hbel.trans (hb1.mono hbel.size)
        by_cases hkm : k < m
        · obtain ⟨_, hok⟩ := HF.out k hkm
          rw [← HSi.out] at hok
          obtain ⟨rfl, _⟩ := hres.unique hok.res
          have hc1 : w1.cell? ⟨ab, off + k, none⟩ = some (.string s) := (hb1.cell (p := ⟨ab, off + k, none⟩) (cell_lt hc)).trans hc
          have HOK : Hid (OkList s (F k)) := hok
          have hown1 := ownsRow_below' hown hb1
          clear hres hok
          go_wp2_with fail
          refine (refEntries_any s w1 HOK.out.1 (F k) HOK.out.2.1).mono ?_
          rintro e w2 ⟨lv, rfl, hl2, hb2⟩
          have hbel2 := hbel1.trans (hb2.mono hbel1.size)
          have hown2 := ownsRow_below' hown1 hb2
          have hsz2 := hbel2.size
          have hfl := HOK.out.2.2.2
          have hfs := HOK.out.1
          have HP : Hid (refCells (pre F (k + 1)) = refCells (pre F k) ++ refCells (F k)) := by show _ = _; rw [pre_succ, refCells_append]
          have HPL : Hid ((pre F (k + 1)).length = (pre F k).length + (F k).length) := by show _ = _; rw [pre_succ, List.length_append]
          have hl2' := hl2
          obtain ⟨_, hsh⟩ := hl2
          rcases hsh with ⟨rfl, h0⟩ | ⟨g, cp, cur, rfl, hg1, hg2, hg3, hg4, hg5, hg6⟩
          · have hF0 : F k = [] := List.eq_nil_of_length_eq_zero h0
            have e1 : (pre F (k + 1)).length = (pre F k).length := by rw [HPL.out, hF0]; simp
            have e2 : refCells (pre F (k + 1)) = refCells (pre F k) := by rw [HP.out, hF0]; simp [refCells]
            have E1 : Hid ((pre F (k + 1)).length = (pre F k).length) := e1
            have E2 : Hid (refCells (pre F (k + 1)) = refCells (pre F k)) := e2
            clear hl2' hown1 e1 e2 hF0 h0
            go_wp2_with (at_builtin; refine wpList_append_own_none rfl _ _ 113 rfl w.heap.size 145 i0 2 Try.underlying113 hi _ _ _ rfl hown2 rfl ?_)
            go_roundw
            case rel => exact ⟨k + 1, by omega, by go_num, by rw [E1.out, E2.out]; exact hown2, hbel2⟩
            case measure => simp [intOf]; omega
          · clear hg2 hg6 hg5 hown1
            go_wp2_with (at_builtin; refine wpList_append_own _ rfl _ _ 113 rfl w.heap.size 145 i0 _ 2 24 Try.underlying113 hi hz0 hz1 hz2 rfl (by decide) _ _ _ rfl hown2 ⟨g, 0, none⟩ (F k).length cp (refCells (F k)) rfl (refCells_length _) (hl2'.cells (g := g) rfl) (one_ref _) (by unfold maxLen; omega) (by omega) (by omega) ?_)
            intro v' w3 hown' hgrow _
            have hb3 : Below w.heap.size w w3 := hbel2.grown hgrow (by omega) (fun g hg => (hown2.lt g hg).1)
            rw [← HP.out, ← HPL.out] at hown'
            clear hgrow hown2 hl2'
            go_wp2
            go_roundw
            case rel => exact ⟨k + 1, by omega, by go_num, hown', hb3⟩
            case measure => simp [intOf]; omega
        · obtain rfl : k = m := by omega
          rcases HE.out with h | ⟨hl, err, p', hr, hne⟩
          · omega
          · rw [← HSi.out] at hr
            obtain ⟨rfl, rfl⟩ := hres.unique hr
            have hne' : (er != 0) = true := by simpa using hne
            have HR : Hid (RefRes s er p) := hres
            clear hres hr
            go_wp2
            go_ret2
            exact ⟨.inl ⟨hlt, er, p, by rw [← HSi.out]; exact HR.out, hne, rfl⟩, hbel1⟩
    · have hkm : k = m := by omega
      have hms : m = ss.length := by omega
      subst hkm
      have HMS : Hid (k = ss.length) := hms
      clear hms
      go_wp2_with fail
      refine (settled_any wr _ w.heap.size (pre F k) hown (by omega)).mono ?_
      rintro e w1 ⟨rfl, D, Wv, Cv, hR, hB, hb1⟩
      have hbel1 := hbel.trans (hb1.mono hbel.size)
      have hc0 := hB.c0
      obtain ⟨aw, cw, rfl, _⟩ := row_form hB.ow
      have HB : Hid (BookAt w1 wr.heap.size D (.slice aw D.length cw) Cv) := hB
      have HR : Hid (Rep D (pre F k)) := hR
      clear hB hR
      by_cases h150 : D.length ≤ 150
      · have h150' : ¬ (150 : Int) < (D.length : Int) := by omega
        go_wp2
        go_ret2
        exact ⟨.inr ⟨HMS.out, D, HR.out, .inr ⟨h150, wr.heap.size, _, Cv, rfl, HB.out, hbel.size⟩⟩, hbel1⟩
      · have h150' : (150 : Int) < (D.length : Int) := by omega
        go_wp2
        go_ret2
        exact ⟨.inr ⟨HMS.out, D, HR.out, .inl ⟨by omega, rfl⟩⟩, hbel1⟩

end Go.Proofs.Ytlfpepehngkehaa
