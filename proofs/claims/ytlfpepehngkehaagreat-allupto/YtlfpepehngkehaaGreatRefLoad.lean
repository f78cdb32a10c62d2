/-
  Walks: the reference's Load.
-/
import Derived.Test.YtlfpepehngkehaaGreatRefValid
import Derived.Test.YtlfpepehngkehaaGreatRefImage
import Derived.Test.YtlfpepehngkehaaGreatRefGuess
import Derived.BigQuiet
namespace Go.Proofs.YtlfpepehngkehaaGreat
set_option linter.unusedSimpArgs false
set_option linter.unusedVariables false
open Go.RowKit

theorem guessG_size (s : ByteArray) : ∀ (f k : Nat) (last : ByteArray), ∀ p ∈ guessG s f k last, p.1.size ≤ 510 ∧ p.2 ≤ 65535
  | 0, _, _, p, h => by simp [guessG] at h
  | f + 1, k, last, p, h => by
    simp only [guessG] at h
    split at h
    · rcases List.mem_cons.1 h with rfl | h
      · have h1 := bt_lt s k
        have h2 := bt_lt s (k + 1)
        have h3 := bt_lt s (k + 2 + bt s (k + 1))
        have h4 := bt_lt s (k + 2 + bt s (k + 1) + 1)
        simp
        omega
      · exact guessG_size s f _ _ p h
    · simp at h

/-- the first i words are words, in order, and cost no more than they may. -/
def OkTo (D : Dic) (i : Nat) : Prop := ∀ j (h : j < D.length), j < i → IsWord D[j].1 ∧ D[j].2 ≤ 1000 ∧ ∀ k, j = k + 1 → wl (D.getD k (ByteArray.empty, 0)).1 D[j].1 = true

theorem OkTo.good {D : Dic} (h : OkTo D D.length) (hl : D.length ≤ 150) : GoodDic D := by
  refine ⟨hl, srt_of_rises fun i hi => ?_, fun p hp => ?_⟩
  · have := (h (i + 1) hi hi).2.2 i rfl
    rwa [List.getD_eq_getElem?_getD, List.getElem?_eq_getElem (show i < D.length by omega), Option.getD_some] at this
  · obtain ⟨j, hj, rfl⟩ := List.mem_iff_getElem.1 hp
    exact ⟨(h j hj hj).1, (h j hj hj).2.1⟩

theorem OkTo.of_good {D : Dic} (h : GoodDic D) (i : Nat) : OkTo D i := fun j hj _ => by
  obtain ⟨a, b⟩ := h.2.2 D[j] (List.getElem_mem hj)
  refine ⟨a, b, fun k e => ?_⟩
  subst e
  rw [List.getD_eq_getElem?_getD, List.getElem?_eq_getElem (show k < D.length by omega), Option.getD_some]
  exact rises_of_srt h.2.1 k hj

theorem OkTo.step {D : Dic} {i : Nat} (h : OkTo D i) (hi : i < D.length) (h1 : IsWord D[i].1) (h2 : D[i].2 ≤ 1000) (h3 : ∀ k, i = k + 1 → wl (D.getD k (ByteArray.empty, 0)).1 D[i].1 = true) : OkTo D (i + 1) := fun j hj hji => by
  by_cases e : j = i
  · subst e; exact ⟨h1, h2, h3⟩
  · exact h j hj (by omega)

theorem loadNo_of {s : ByteArray} {D : Dic} (hD : D = guessD s) (h : ¬ GoodDic D) : LoadNo s := fun D' hg hi => h (by rw [hD, ← (LoadYes.guess ⟨hg, hi⟩)]; exact hg)
theorem loadNo_im {s : ByteArray} {D : Dic} (hD : D = guessD s) (h : imageL D ≠ s.toList) : LoadNo s := fun D' hg hi => h (by rw [hD, ← (LoadYes.guess ⟨hg, hi⟩)]; exact hi)

theorem below_drewN {B : Nat} {a w : World} (h : Below B a w) (n : Nat) : Below B a (w.drewN n) := ⟨h.os, h.tape, h.output, h.size, h.block⟩

def RefLoadRes (s : ByteArray) (B : Nat) (e : Ending) (w' : World) : Prop :=
  (LoadNo s ∧ e = .returned (.tuple #[.pointer none, .int .i64 5])) ∨
  (∃ D B' Wv Cv, LoadYes s D ∧ e = .returned (.tuple #[.pointer (some ⟨B', 0, none⟩), .int .i64 0]) ∧ BookAt w' B' D Wv Cv ∧ B ≤ B')

set_option maxHeartbeats 4000000 in
theorem refLoad_any (w : World) (s : ByteArray) (hs : s.size ≤ 1048576) :
    Calls Tryz.prog 21 #[.string s] w fun e w' => RefLoadRes s w.heap.size e w' ∧ Below w.heap.size w w' := by
  go_enter Tryz.func21, Tryz.ntmps21
  go_wp2_with fail
  refine (guess_any w s hs).mono ?_
  rintro e w1 ⟨rfl, ⟨Wv, Cv, hB⟩, hb1⟩
  have hsize := guessG_size s s.size 4 ByteArray.empty
  change ∀ p ∈ guessD s, _ at hsize
  obtain ⟨D, hD⟩ : ∃ D, D = guessD s := ⟨_, rfl⟩
  have HD : Hid (D = guessD s) := hD
  rw [← hD] at hB hsize
  clear hD
  obtain ⟨pw, capw, rfl, hgw⟩ := row_form hB.ow
  obtain ⟨pc, capc, rfl, hgc⟩ := row_form hB.oc
  have hb0 := hB.c0
  have HB : Hid (BookAt w1 w.heap.size D (.slice pw D.length capw) (.slice pc D.length capc)) := hB
  have HSZ : Hid (∀ p ∈ D, p.1.size ≤ 510 ∧ p.2 ≤ 65535) := hsize
  clear hB hsize
  by_cases h150 : D.length ≤ 150
  · have h150' : ¬ (150 : Int) < (D.length : Int) := by omega
    go_wp2_with fail
    go_loopw [5] (fun x wr => ∃ i : Nat, i ≤ D.length ∧ x = .int .i64 i ∧ OkTo D i ∧ Same w1 wr) (fun x _ => D.length - (intOf x).toNat)
    case atStart => exact ⟨0, by omega, rfl, fun j _ h => by omega, Same.refl _⟩
    case round =>
      obtain ⟨i, hi, rfl, hok, hsame⟩ := hrel
      have HOK : Hid (OkTo D i) := hok
      clear hok
      have hB1 := hsame.book HB.out
      have hx0 := hB1.c0
      have hx1 := hB1.c1
      by_cases hlt : i < D.length
      · obtain ⟨gw, rfl⟩ := hgw (by omega)
        obtain ⟨gc, rfl⟩ := hgc (by omega)
        have hw0 := own_str hB1.ow (by simp) (k := i) (by simpa using hlt)
        have hc0 := own_int hB1.oc (by simp) (k := i) (by simpa using hlt)
        simp only [List.getElem_map] at hw0 hc0
        obtain ⟨p, hp⟩ : ∃ p, p = D[i] := ⟨_, rfl⟩
        have HP : Hid (p = D[i]) := hp
        have hpz := HSZ.out D[i] (List.getElem_mem hlt)
        rw [← hp] at hw0 hc0 hpz
        obtain ⟨hp1, hp2⟩ := hpz
        have HB1 : Hid (BookAt wr w.heap.size D (.slice (some ⟨gw, 0, none⟩) D.length capw) (.slice (some ⟨gc, 0, none⟩) D.length capc)) := hB1
        have hli : (i : Int) < (D.length : Int) := by omega
        clear hp hB1
        go_wp2_with fail
        refine (valid_any p.1 wr (by unfold maxLen; omega)).mono ?_
        rintro e w2 ⟨⟨ok, rfl, hval⟩, hb2⟩
        have HV : Hid (ok = true ↔ IsWord p.1) := hval
        have hs2 : Same wr w2 := Kept.of_below hb2 _
        have hsame2 : Same w1 w2 := Kept.trans hsame hs2 (fun _ h => h.elim)
        have hy0 := hs2.cell hx0
        have hy1 := hs2.cell hx1
        have hyw := hs2.cell hw0
        have hyc := hs2.cell hc0
        have HRES : Hid (∀ e, (e = .returned (.tuple #[.pointer none, .int .i64 5])) → ∀ w', ¬ GoodDic D → RefLoadRes s w.heap.size e w') := fun e he w' hn => .inl ⟨loadNo_of HD.out hn, he⟩
        have hbel2 := hsame2.below hb1 hb1.size
        clear hval hx0 hx1 hw0 hc0 hb2
        cases i with
        | zero =>
          cases ok with
          | false =>
            have HN : Hid (¬ GoodDic D) := fun h => by
              have := (h.2.2 D[0] (List.getElem_mem hlt)).1
              rw [← HP.out, ← HV.out] at this
              cases this
            go_wp2_with fail
            go_quiet (fail)
            go_wp2_with fail
            go_ret2
            exact ⟨HRES.out _ rfl _ HN.out, below_drewN hbel2 _⟩
          | true =>
            by_cases hc : p.2 ≤ 1000
            · have hc' : ¬ (1000 : Int) < (p.2 : Int) := by omega
              go_wp2_with fail
              go_quiet (fail)
              go_wp2_with fail
              go_roundw
              case rel => exact ⟨0 + 1, by omega, by go_num, HOK.out.step hlt (by rw [← HP.out]; exact HV.out.1 (by trivial)) (by rw [← HP.out]; exact hc) (fun k e => by omega), Kept.drewN hsame2 _⟩
              case measure => simp [intOf]; omega
            · have hc' : (1000 : Int) < (p.2 : Int) := by omega
              have HN : Hid (¬ GoodDic D) := fun h => by
                have := (h.2.2 D[0] (List.getElem_mem hlt)).2
                rw [← HP.out] at this
                exact hc this
              go_wp2_with fail
              go_quiet (fail)
              go_wp2_with fail
              go_ret2
              exact ⟨HRES.out _ rfl _ HN.out, below_drewN hbel2 _⟩
        | succ j =>
          have hj : j < D.length := by omega
          have hq0 := own_str (hs2.row HB1.out.ow) (by simp) (k := j) (by simpa using hj)
          simp only [List.getElem_map] at hq0
          obtain ⟨q, hq⟩ : ∃ q, q = D[j].1 := ⟨_, rfl⟩
          rw [← hq] at hq0
          have HQ : Hid (q = D[j].1) := hq
          have hji : ((j : Int) + 1) - 1 = j := by omega
          have hjl : (j : Int) < (D.length : Int) := by omega
          have hjn : (0 : Int) ≤ (j : Int) + 1 := by omega
          have hjm : (j : Int) + 1 < (D.length : Int) := by omega
          have hwj : IntKind.i64.wrap (j : Int) = (j : Int) := by rw [IntKind.wrap_i64]; omega
          obtain ⟨r, hr⟩ : ∃ r, r = wl q p.1 := ⟨_, rfl⟩
          have HR : Hid (r = wl q p.1) := hr
          have hr' : Op.bytesLess q.toList p.1.toList = r := hr.symm
          clear hq hr
          have HG : Hid (GoodDic D → ok = true ∧ r = true ∧ p.2 ≤ 1000) := fun h => by
            have h1 := h.2.2 D[j + 1] (List.getElem_mem hlt)
            have h2 := rises_of_srt h.2.1 j hlt
            rw [← HP.out] at h1 h2
            rw [← HQ.out] at h2
            exact ⟨HV.out.2 h1.1, by rw [HR.out]; exact h2, h1.2⟩
          cases ok with
          | false =>
            have HN : Hid (¬ GoodDic D) := fun h => by have := (HG.out h).1; cases this
            go_wp2_with fail
            go_quiet (fail)
            go_wp2_with fail
            go_ret2
            exact ⟨HRES.out _ rfl _ HN.out, below_drewN hbel2 _⟩
          | true =>
            cases r with
            | false =>
              have HN : Hid (¬ GoodDic D) := fun h => by have := (HG.out h).2.1; cases this
              go_wp2_with fail
              go_quiet (fail)
              go_wp2_with fail
              go_ret2
              exact ⟨HRES.out _ rfl _ HN.out, below_drewN hbel2 _⟩
            | true =>
              by_cases hc : p.2 ≤ 1000
              · have hc' : ¬ (1000 : Int) < (p.2 : Int) := by omega
                go_wp2_with fail
                go_quiet (fail)
                go_wp2_with fail
                go_roundw
                case rel =>
                  refine ⟨j + 1 + 1, by omega, by go_num, HOK.out.step hlt (by rw [← HP.out]; exact HV.out.1 (by trivial)) (by rw [← HP.out]; exact hc) (fun k e => ?_), Kept.drewN hsame2 _⟩
                  obtain rfl : k = j := by omega
                  rw [List.getD_eq_getElem?_getD, List.getElem?_eq_getElem hj, Option.getD_some, ← HP.out, ← HQ.out, ← HR.out]
                case measure => simp [intOf]; omega
              · have hc' : (1000 : Int) < (p.2 : Int) := by omega
                have HN : Hid (¬ GoodDic D) := fun h => hc (HG.out h).2.2
                go_wp2_with fail
                go_quiet (fail)
                go_wp2_with fail
                go_ret2
                exact ⟨HRES.out _ rfl _ HN.out, below_drewN hbel2 _⟩
      · obtain rfl : i = D.length := by omega
        have hgood := HOK.out.good h150
        have HG : Hid (GoodDic D) := hgood
        have hwc : ∀ p ∈ D, p.1.size ≤ 12 ∧ p.2 ≤ 1000 := fun p hp => ⟨(hgood.2.2 p hp).1.2.1, (hgood.2.2 p hp).2⟩
        have HB1 : Hid (BookAt wr w.heap.size D (.slice pw D.length capw) (.slice pc D.length capc)) := hB1
        have hbel1 := hsame.below hb1 hb1.size
        clear hB1 hgood
        go_wp2_with fail
        refine (image_any wr _ _ _ D HB1.out h150 hwc).mono ?_
        rintro e w2 ⟨S, rfl, hS, hb2⟩
        have HS : Hid (S.toList = imageL D) := hS
        have hbel2 := hbel1.trans (hb2.mono hbel1.size)
        have HB2 : Hid (BookAt w2 w.heap.size D (.slice pw D.length capw) (.slice pc D.length capc)) := Same.book (Kept.of_below hb2 (fun _ => False)) HB1.out
        clear hS hwc hb2
        by_cases hE : S = s
        · subst hE
          have ht : (S.toList == S.toList) = true := by simp
          go_wp2
          go_ret2
          exact ⟨.inr ⟨D, w.heap.size, _, _, ⟨HG.out, HS.out.symm⟩, rfl, HB2.out, Nat.le_refl _⟩, hbel2⟩
        · have ht : (S.toList == s.toList) = false := beq_eq_false_iff_ne.2 fun e => hE (ba_ext e)
          go_wp2
          go_ret2
          exact ⟨.inl ⟨loadNo_im HD.out (fun e => hE (ba_ext (by rw [HS.out, e]))), rfl⟩, hbel2⟩
  · have h150' : (150 : Int) < (D.length : Int) := by omega
    go_wp2_with fail
    go_ret2
    exact ⟨.inl ⟨loadNo_of HD.out (fun h => h150 h.1), rfl⟩, hb1⟩

end Go.Proofs.YtlfpepehngkehaaGreat
