/-
  Walks: the keep statements' prices and sums.
-/
import Derived.Test.YtlfpepehngkehaaDoorKeepJ
import Derived.Test.YtlfpepehngkehaaDoorKeepI
import Derived.Test.YtlfpepehngkehaaDoorKeepT
namespace Go.Proofs.YtlfpepehngkehaaDoor
set_option linter.unusedSimpArgs false
set_option linter.unusedVariables false
open Go.RowKit

def tbest (T : Tab) (t : ByteArray) (i j : Nat) : Int := if TStands T t i j then tcost T (t.extract i j) else -1
/-- what a step from i to j costs; -1: it is none. -/
noncomputable def prc (T : Tab) (t : ByteArray) (i j : Nat) : Int :=
  open Classical in if AfterIs t i j ∧ (tbest T t i j < 0 ∨ 500 < tbest T t i j) then 500 else tbest T t i j

theorem prc_after {T : Tab} {t : ByteArray} {i j : Nat} (h : AfterIs t i j) (h2 : tbest T t i j < 0 ∨ 500 < tbest T t i j) : prc T t i j = 500 := by unfold prc; rw [if_pos ⟨h, h2⟩]
theorem prc_low {T : Tab} {t : ByteArray} {i j : Nat} (h2 : ¬ (tbest T t i j < 0 ∨ 500 < tbest T t i j)) : prc T t i j = tbest T t i j := by unfold prc; rw [if_neg (fun h => h2 h.2)]
theorem prc_not {T : Tab} {t : ByteArray} {i j : Nat} (h : ¬ AfterIs t i j) : prc T t i j = tbest T t i j := by unfold prc; rw [if_neg (fun k => h k.1)]

set_option maxHeartbeats 2000000 in
theorem priced_any (w : World) (B : Nat) (T : Tab) (Wv Cv : Value) (hB : TabAt w B T Wv Cv) (hT : T.length ≤ 1000) (t : ByteArray) (ht : t.size ≤ 500) (i j : Nat) (hi : i < t.size) (hj9 : j ≤ 1000) :
    Calls Tryd.prog 31 #[.pointer (some ⟨B, 0, none⟩), .string t, .int .i64 i, .int .i64 j] w fun e w' => e = .returned (.int .i64 (prc T t i j)) ∧ w' = w := by
  have HB : Hid (TabAt w B T Wv Cv) := hB
  clear hB
  obtain ⟨b, hb⟩ : ∃ b, b = tbest T t i j := ⟨_, rfl⟩
  have HBB : Hid (b = tbest T t i j) := hb
  obtain ⟨r, hr⟩ : ∃ r, r = prc T t i j := ⟨_, rfl⟩
  rw [← hr]
  have HR : Hid (r = prc T t i j) := hr
  clear hb hr
  have HEND : Hid (∀ p : Nat, AfterIs t i p → r = if p = j ∧ (b < 0 ∨ 500 < b) then 500 else b) := fun p hp => by
    rw [HR.out]
    by_cases e : p = j
    · subst e
      by_cases h2 : b < 0 ∨ 500 < b
      · rw [if_pos ⟨rfl, h2⟩]; exact prc_after hp (by rw [← HBB.out]; exact h2)
      · rw [if_neg (fun h => h2 h.2), HBB.out]; exact prc_low (by rw [← HBB.out]; exact h2)
    · rw [if_neg (fun h => e h.1), HBB.out]; exact prc_not (fun h => e (hp.unique h))
  by_cases hs : TStands T t i j
  · have hd : decide (TStands T t i j) = true := decide_eq_true hs
    have hjt : (j : Int) ≤ (t.size : Int) := by have := hs.1; omega
    have hij : (i : Int) ≤ (j : Int) := by have := hs.2.1; omega
    have HC : Hid (tcost T (t.extract i j) = b) := by show _ = _; rw [HBB.out]; unfold tbest; rw [if_pos hs]
    clear hs
    go_enter Tryd.func31, Tryd.ntmps31
    go_wp2_with fail
    refine (tstands_any w B T Wv Cv HB.out hT t ht i j hj9).mono ?_
    rintro e w ⟨rfl, rfl⟩
    rw [hd]
    go_wp2_with fail
    refine (cost_any w B T Wv Cv HB.out hT (t.extract i j)).mono ?_
    rintro e w ⟨rfl, rfl⟩
    rw [HC.out]
    go_wp2_with fail
    refine (after_any t i w ht hi).mono ?_
    rintro e w ⟨⟨p, rfl, hp⟩, rfl⟩
    have hrr := HEND.out p hp
    clear hp
    by_cases h1 : p = j
    · have e1 : ((p : Int) == (j : Int)) = true := by rw [h1]; simp
      by_cases h2 : b < 0
      · have hr : r = 500 := by rw [hrr, if_pos ⟨h1, .inl h2⟩]
        subst hr
        clear hrr h1
        go_wp2_with fail
        go_ret
        exact ⟨rfl, rfl⟩
      · by_cases h3 : 500 < b
        · have hr : r = 500 := by rw [hrr, if_pos ⟨h1, .inr h3⟩]
          subst hr
          clear hrr h1
          go_wp2_with fail
          go_ret
          exact ⟨rfl, rfl⟩
        · have hr : r = b := by rw [hrr, if_neg (fun h => by rcases h.2 with k | k; exact h2 k; exact h3 k)]
          subst hr
          clear hrr h1
          go_wp2_with fail
          go_ret
          exact ⟨rfl, rfl⟩
    · have e1 : ((p : Int) == (j : Int)) = false := by rw [beq_eq_false_iff_ne]; omega
      have hr : r = b := by rw [hrr, if_neg (fun h => h1 h.1)]
      subst hr
      clear hrr h1
      go_wp2_with fail
      go_ret
      exact ⟨rfl, rfl⟩
  · have hd : decide (TStands T t i j) = false := decide_eq_false hs
    have hb : b = -1 := by rw [HBB.out]; unfold tbest; rw [if_neg hs]
    clear hs
    subst hb
    go_enter Tryd.func31, Tryd.ntmps31
    go_wp2_with fail
    refine (tstands_any w B T Wv Cv HB.out hT t ht i j hj9).mono ?_
    rintro e w ⟨rfl, rfl⟩
    rw [hd]
    go_wp2_with fail
    refine (after_any t i w ht hi).mono ?_
    rintro e w ⟨⟨p, rfl, hp⟩, rfl⟩
    have hrr := HEND.out p hp
    clear hp
    by_cases h1 : p = j
    · have e1 : ((p : Int) == (j : Int)) = true := by rw [h1]; simp
      have hr : r = 500 := by rw [hrr, if_pos ⟨h1, .inl (by omega)⟩]
      subst hr
      clear hrr h1
      go_wp2_with fail
      go_ret
      exact ⟨rfl, rfl⟩
    · have e1 : ((p : Int) == (j : Int)) = false := by rw [beq_eq_false_iff_ne]; omega
      have hr : r = -1 := by rw [hrr, if_neg (fun h => h1 h.1)]
      subst hr
      clear hrr h1
      go_wp2_with fail
      go_ret
      exact ⟨rfl, rfl⟩

/-- the sum of the first k steps; none: one of them is no step. -/
noncomputable def totTo (T : Tab) (t : ByteArray) (l : List Nat) : Nat → Option Int
  | 0 => some 0
  | k + 1 => match totTo T t l k with
    | none => none
    | some n => if Edge t (l.getD k 0) ∧ 0 ≤ prc T t (l.getD k 0) (l.getD (k + 1) 0) then some (n + prc T t (l.getD k 0) (l.getD (k + 1) 0)) else none
noncomputable def tot (T : Tab) (t : ByteArray) (l : List Nat) : Int := match totTo T t l (l.length - 1) with | none => -1 | some n => n

theorem tbest_le {T : Tab} (hT : ∀ p ∈ T, p.2 ≤ 1000) (t : ByteArray) (i j : Nat) : tbest T t i j ≤ 1000 := by
  have hc : ∀ x, tcost T x ≤ 1000 := fun x => by
    induction T with
    | nil => simp [tcost]
    | cons p T ih =>
      simp only [tcost]
      split
      · exact hT p List.mem_cons_self
      · exact ih (fun q hq => hT q (List.mem_cons_of_mem _ hq))
  unfold tbest
  split
  · exact hc _
  · omega

theorem prc_le {T : Tab} (hT : ∀ p ∈ T, p.2 ≤ 1000) (t : ByteArray) (i j : Nat) : prc T t i j ≤ 1000 := by
  unfold prc
  split
  · omega
  · exact tbest_le hT t i j

theorem totTo_le {T : Tab} (hT : ∀ p ∈ T, p.2 ≤ 1000) (t : ByteArray) (l : List Nat) : ∀ k n, totTo T t l k = some n → 0 ≤ n ∧ n ≤ 1000 * k
  | 0, n, h => by simp [totTo] at h; subst h; omega
  | k + 1, n, h => by
    simp only [totTo] at h
    cases e : totTo T t l k with
    | none => rw [e] at h; simp at h
    | some m =>
      rw [e] at h
      simp only at h
      split at h
      · rename_i hc
        have h1 := totTo_le hT t l k m e
        have h2 := prc_le hT t (l.getD k 0) (l.getD (k + 1) 0)
        have h := Option.some.inj h
        omega
      · cases h

theorem totTo_none {T : Tab} {t : ByteArray} {l : List Nat} {k m : Nat} (h : totTo T t l k = none) (hm : k ≤ m) : totTo T t l m = none := by
  induction hm with
  | refl => exact h
  | step _ ih => simp only [Nat.succ_eq_add_one, totTo, ih]

def TotRel (T : Tab) (t : ByteArray) (l : List Nat) (w : World) (g : Nat) (x y : Value) (wr : World) : Prop :=
  ∃ (k : Nat) (n : Int), g = l.length - (k + 1) ∧ k + 1 ≤ l.length ∧ y = .int .i64 ((k + 1 : Nat) : Int) ∧ x = .int .i64 n ∧ totTo T t l k = some n ∧ Same w wr

theorem Same.tab {w w' : World} {B : Nat} {T : Tab} {Wv Cv : Value} (hs : Same w w') (h : TabAt w B T Wv Cv) : TabAt w' B T Wv Cv := h.same hs

set_option maxHeartbeats 2000000 in
theorem total_any (w : World) (B base : Nat) (T : Tab) (Wv Cv v : Value) (l : List Nat) (hB : TabAt w B T Wv Cv) (hT : T.length ≤ 1000) (hT2 : ∀ p ∈ T, p.2 ≤ 1000) (t : ByteArray) (ht : t.size ≤ 500) (hr : w.ownsRow base 3 1 v l.length (intCells l)) (hb : Bounds l t.size) (hl : l.length ≤ 1000) :
    Calls Tryd.prog 12 #[.pointer (some ⟨B, 0, none⟩), .string t, v] w fun e w' => e = .returned (.int .i64 (tot T t l)) ∧ Same w w' := by
  obtain ⟨ap, cp, rfl, hg⟩ := row_form hr
  have hpos : 0 < l.length := List.length_pos_of_mem hb.zero
  obtain ⟨g, rfl⟩ := hg (by omega)
  have HR : Hid (w.ownsRow base 3 1 (.slice (some ⟨g, 0, none⟩) l.length cp) l.length (intCells l)) := hr
  have HB : Hid (TabAt w B T Wv Cv) := hB
  have HBD : Hid (Bounds l t.size) := hb
  have HT2 : Hid (∀ p ∈ T, p.2 ≤ 1000) := hT2
  clear hr hB hb hg hT2
  go_enter Tryd.func12, Tryd.ntmps12
  go_wp2_with fail
  go_loopg [7, 8] (l.length - 1) (fun g x y wr => TotRel T t l w g x y wr)
  case atStart => exact ⟨0, 0, rfl, hpos, rfl, rfl, rfl, Same.refl _⟩
  case round =>
    obtain ⟨k, n, rfl, hk, rfl, rfl, htot, hs⟩ := hrel
    have hnb := totTo_le HT2.out t l k n htot
    have HTOT : Hid (totTo T t l k = some n) := htot
    obtain ⟨hn0, hn1⟩ := hnb
    obtain ⟨k1, hk1⟩ : ∃ k1, k1 = k + 1 := ⟨_, rfl⟩
    rw [← hk1]
    have HK1 : Hid (k1 = k + 1) := hk1
    have hkk : (k1 : Int) - 1 = (k : Int) := by omega
    have hwk : IntKind.i64.wrap (k : Int) = (k : Int) := by rw [IntKind.wrap_i64]; omega
    clear htot
    by_cases hlt : k + 1 < l.length
    · have hlt1 : (k1 : Int) < (l.length : Int) := by omega
      have hlt0 : (k : Int) < (l.length : Int) := by omega
      have hk0 : k < l.length := by omega
      have hx := own_int (hs.row HR.out) rfl hk0
      have hy := own_int (hs.row HR.out) rfl hlt
      have hxy : l[k] < l[k + 1] := List.pairwise_iff_getElem.1 HBD.out.srt k (k + 1) hk0 hlt (by omega)
      have hyt : l[k + 1] ≤ t.size := HBD.out.le _ (List.getElem_mem hlt)
      have hgx : l.getD k 0 = l[k] := by rw [List.getD_eq_getElem?_getD, List.getElem?_eq_getElem hk0, Option.getD_some]
      have hgy : l.getD (k + 1) 0 = l[k + 1] := by rw [List.getD_eq_getElem?_getD, List.getElem?_eq_getElem hlt, Option.getD_some]
      obtain ⟨x, hxd⟩ : ∃ x, x = l[k] := ⟨_, rfl⟩
      obtain ⟨y, hyd⟩ : ∃ y, y = l[k + 1] := ⟨_, rfl⟩
      rw [← hxd] at hx hxy hgx
      rw [← hyd] at hy hxy hyt hgy
      rw [← hk1] at hy
      have hxt : x < t.size := by omega
      have hxt' : x ≤ t.size := by omega
      have hy9 : y ≤ 1000 := by omega
      obtain ⟨c, hc⟩ : ∃ c, c = prc T t x y := ⟨_, rfl⟩
      have HC : Hid (c = prc T t x y) := hc
      have hc9 : c ≤ 1000 := by rw [hc]; exact prc_le HT2.out t x y
      have HNX : Hid (totTo T t l (k + 1) = if Edge t x ∧ 0 ≤ c then some (n + c) else none) := by
        show _ = _
        simp only [totTo]
        rw [HTOT.out, hgx, hgy, ← hc]
      have HTB : Hid (TabAt wr B T Wv Cv) := hs.tab HB.out
      have HTBd : Hid (TabAt wr.drew B T Wv Cv) := Same.tab (Kept.drew hs) HB.out
      clear hxd hyd hgx hgy hc hk1
      by_cases he : Edge t x
      · have hd : decide (Edge t x) = true := decide_eq_true he
        by_cases hcp : 0 ≤ c
        · have HN2 : Hid (totTo T t l (k + 1) = some (n + c)) := by show _ = _; rw [HNX.out, if_pos ⟨he, hcp⟩]
          have hsum : IntKind.i64.wrap (n + c) = n + c := by rw [IntKind.wrap_i64]; omega
          have hneg : ¬ c < 0 := by omega
          clear he
          go_wp2_with fail
          refine (keepEdge_any t x _ ht hxt').mono ?_
          rintro e wr ⟨rfl, rfl⟩
          rw [hd]
          go_upto_region 8 with fail
          go_cut [10] (fun v wx => v = .int .i64 c ∧ Same wr wx)
          case first =>
            go_region_with (go_at_call 31; go_must (refine (priced_any wr.drew B T Wv Cv HTBd.out hT t ht x y hxt hy9).mono ?_); rintro e w2 ⟨rfl, rfl⟩; rw [← HC.out])
            all_goals
              go_wp2_with fail
              go_meet
              exact ⟨rfl, Kept.drew (Same.refl wr)⟩
          case rest =>
            obtain ⟨rfl, hs2⟩ := hcut
            have HN3 : Hid (TotRel T t l w (l.length - (k + 1 + 1)) (.int .i64 (n + c)) (.int .i64 ((k1 : Int) + 1)) wc) := ⟨k + 1, n + c, rfl, hlt, by rw [HK1.out]; go_num, rfl, HN2.out, Kept.trans hs hs2 fun _ e => e.elim⟩
            clear hs2 hx hy
            go_wp2_with fail
            go_roundg (l.length - (k + 1 + 1))
            case measure => omega
            case rel => exact HN3.out
        · have HEND : Hid (tot T t l = -1) := by
            show _ = _
            have h1 : totTo T t l (k + 1) = none := by rw [HNX.out, if_neg (fun h => hcp h.2)]
            unfold tot
            rw [totTo_none h1 (by omega)]
          have hneg : c < 0 := by omega
          clear he
          go_wp2_with fail
          refine (keepEdge_any t x _ ht hxt').mono ?_
          rintro e wr ⟨rfl, rfl⟩
          rw [hd]
          go_upto_region 8 with fail
          go_cut [10] (fun v wx => v = .int .i64 c ∧ Same wr wx)
          case first =>
            go_region_with (go_at_call 31; go_must (refine (priced_any wr.drew B T Wv Cv HTBd.out hT t ht x y hxt hy9).mono ?_); rintro e w2 ⟨rfl, rfl⟩; rw [← HC.out])
            all_goals
              go_wp2_with fail
              go_meet
              exact ⟨rfl, Kept.drew (Same.refl wr)⟩
          case rest =>
            obtain ⟨rfl, hs2⟩ := hcut
            have HS3 : Hid (Same w wc) := Kept.trans hs hs2 fun _ e => e.elim
            clear hs2 hx hy
            go_wp2_with fail
            go_ret
            exact ⟨by rw [HEND.out]; rfl, HS3.out⟩
      · have hd : decide (Edge t x) = false := decide_eq_false he
        have HEND : Hid (tot T t l = -1) := by
          show _ = _
          have h1 : totTo T t l (k + 1) = none := by rw [HNX.out, if_neg (fun h => he h.1)]
          unfold tot
          rw [totTo_none h1 (by omega)]
        clear he
        go_wp2_with fail
        refine (keepEdge_any t x _ ht hxt').mono ?_
        rintro e wr ⟨rfl, rfl⟩
        rw [hd]
        go_wp2_with fail
        go_ret
        exact ⟨by rw [HEND.out]; rfl, hs⟩
    · have hkl : ¬ (k1 : Int) < (l.length : Int) := by omega
      have HEND : Hid (tot T t l = n) := by
        show _ = _
        unfold tot
        rw [show l.length - 1 = k by omega, HTOT.out]
      clear hk1
      go_wp2_with fail
      go_ret
      exact ⟨by rw [HEND.out]; rfl, hs⟩

end Go.Proofs.YtlfpepehngkehaaDoor
