/-
  Walks: the reference's Cut.
-/
import Derived.Test.YtlfpepehngkehaaRefCutD
import Derived.Test.YtlfpepehngkehaaRefCutG
import Derived.Test.YtlfpepehngkehaaMaths
namespace Go.Proofs.Ytlfpepehngkehaa
set_option linter.unusedSimpArgs false
set_option linter.unusedVariables false
open Go.RowKit

/-- where the loop over the text is. -/
def CutRel (D : Dic) (t : ByteArray) (w : World) (g : Nat) (o x y : Value) (wr : World) : Prop :=
  ∃ (lo h : Nat) (l : List Nat), g = t.size + 1 - h ∧ lo < h ∧ h ≤ t.size + 1 ∧ x = .int .i64 lo ∧ y = .int .i64 h ∧ CutTo D t lo l ∧ (lo = 0 ∨ IsEnd t lo) ∧ (∀ j, lo < j → j < h → ¬ IsEnd t j) ∧
    wr.ownsRow w.heap.size 3 1 o l.length (intCells l) ∧ Below w.heap.size w wr

def AheadLoop (D : Dic) (t : ByteArray) (w : World) (lo hi : Nat) (l : List Nat) (g : Nat) (o x : Value) (wr : World) : Prop :=
  ∃ (i : Nat) (l1 : List Nat), g = hi - i ∧ lo ≤ i ∧ i ≤ hi ∧ x = .int .i64 i ∧ (∀ r, AheadRun D t hi i r → AheadRun D t hi lo (l1 ++ r)) ∧ l1.length + lo ≤ i ∧ wr.ownsRow w.heap.size 3 1 o (l ++ l1).length (intCells (l ++ l1)) ∧ Below w.heap.size w wr

def CutEnd (D : Dic) (t : ByteArray) (w w' : World) (e : Ending) : Prop :=
  (∃ v l, e = .returned (.tuple #[v, .int .i64 0]) ∧ CutTo D t t.size l ∧ w'.ownsRow w.heap.size 3 1 v l.length (intCells l)) ∧ Below w.heap.size w w'

theorem CutRel.next {D : Dic} {t : ByteArray} {w w' : World} {lo h : Nat} {l l1 : List Nat} {o x y : Value} (hc : CutTo D t lo l) (hr : RunAt t lo h) (h1 : RunCut D t lo h l1) (hx : x = .int .i64 h) (hy : y = .int .i64 ((h + 1 : Nat) : Int)) (hrow : w'.ownsRow w.heap.size 3 1 o (l ++ l1).length (intCells (l ++ l1))) (hb : Below w.heap.size w w') :
    CutRel D t w (t.size + 1 - (h + 1)) o x y w' :=
  ⟨h, h + 1, l ++ l1, rfl, by omega, by have := hr.2.1; omega, hx, hy, .run hc hr h1, .inr hr.2.2.2.1, fun j a b => by omega, hrow, hb⟩

theorem own_one (w : World) (x : Value) (t : TypeId) : (w.alloc (.cells #[x] t)).ownsRow w.heap.size t 1 (.slice (some ⟨w.heap.size, 0, none⟩) 1 1) 1 [x] := by
  refine ⟨rfl, .inr ⟨w.heap.size, 1, #[x], rfl, Nat.le_refl _, ?_, Nat.le_refl _, by unfold maxLen; omega, rfl, rfl⟩⟩
  show (w.heap.push _)[w.heap.size]? = _
  simp

theorem AheadLoop.next {D : Dic} {t : ByteArray} {w w' : World} {lo hi i p : Nat} {l l1 : List Nat} {o x : Value} (hli : lo ≤ i) (hih : i < hi) (hp : i < p ∧ p ≤ hi) (hpre : ∀ r, AheadRun D t hi i r → AheadRun D t hi lo (l1 ++ r)) (hok : AheadOk D t i hi p) (hl : l1.length + lo ≤ i) (hx : x = .int .i64 p)
    (hrow : w'.ownsRow w.heap.size 3 1 o ((l ++ l1).length + 1) (intCells (l ++ l1) ++ [.int .i64 p])) (hb : Below w.heap.size w w') : AheadLoop D t w lo hi l (hi - p) o x w' := by
  refine ⟨p, l1 ++ [p], rfl, by omega, hp.2, hx, fun r hr => ?_, by simp; omega, ?_, hb⟩
  · have := hpre (p :: r) (.step hih hok hr)
    simpa using this
  · have e1 : l ++ (l1 ++ [p]) = (l ++ l1) ++ [p] := by simp
    rw [e1, intCells_append, List.length_append]
    exact hrow

theorem AheadLoop.fin {D : Dic} {t : ByteArray} {w w' : World} {lo hi : Nat} {l l1 : List Nat} {o x y : Value} (hc : CutTo D t lo l) (hr : RunAt t lo hi) (hs : sortC (bt t lo) = 99) (hpre : ∀ r, AheadRun D t hi hi r → AheadRun D t hi lo (l1 ++ r)) (hx : x = .int .i64 hi) (hy : y = .int .i64 ((hi + 1 : Nat) : Int))
    (hrow : w'.ownsRow w.heap.size 3 1 o (l ++ l1).length (intCells (l ++ l1))) (hb : Below w.heap.size w w') : CutRel D t w (t.size + 1 - (hi + 1)) o x y w' := by
  have := hpre [] .done
  rw [List.append_nil] at this
  exact CutRel.next hc hr (.inr (.inl ⟨hs, this⟩)) hx hy hrow hb

theorem grown_below {w w2 w3 : World} {o : Value} {n : Nat} {xs : List Value} {t : TypeId} (hb : Below w.heap.size w w2) (hg : w2.grownBy w3 o.ownBlock) (hrow : w2.ownsRow w.heap.size t 1 o n xs) : Below w.heap.size w w3 :=
  hb.grown hg hb.size (fun g hg' => (hrow.lt g hg').1)

theorem run_in {D : Dic} {t : ByteArray} {lo h : Nat} (hD : GoodDic D) (hr : RunAt t lo h) : ∀ i k, lo ≤ i → i < h → k < D.length → Stands t i (wd D k) → i + (wd D k).size ≤ h := fun i k _ h2 h3 h4 =>
  stands_run (by rw [wd_eq h3]; exact (hD.2.2 _ (List.getElem_mem h3)).1) h4 h2 hr.2.2.2.1

set_option maxHeartbeats 8000000 in
set_option maxRecDepth 100000 in
theorem refCut_any (w : World) (B : Nat) (D : Dic) (Wv Cv : Value) (hB : BookAt w B D Wv Cv) (hD : GoodDic D) (t : ByteArray) (ht : t.size ≤ 500) :
    Calls Try.prog 42 #[.pointer (some ⟨B, 0, none⟩), .string t] w fun e w' => CutEnd D t w w' e := by
  obtain ⟨ii, hii, hi0, hi1, hi2⟩ := info_parts Try.infoIntE
  have ht' : ¬ (500 : Int) < (t.size : Int) := by omega
  have HB : Hid (BookAt w B D Wv Cv) := hB
  have HD : Hid (GoodDic D) := hD
  have HDS : Hid (Small D) := hD.small
  clear hB hD
  go_enter Try.func42, Try.ntmps42
  go_wp2_with fail
  go_loopg [6, 7, 8] t.size (fun g o x y wr => CutRel D t w g o x y wr)
  case atStart => exact ⟨0, 1, [0], by omega, by omega, by omega, rfl, rfl, .zero, .inl rfl, fun j a b => by omega, own_one _ _ _, (Below.refl _ _).alloc (Nat.le_refl _) _⟩
  case round =>
    obtain ⟨lo, h, l, rfl, hlh, hh, rfl, rfl, hcut, hlo, hno, hrow, hbel⟩ := hrel
    have HC : Hid (CutTo D t lo l) := hcut
    have HLO : Hid (lo = 0 ∨ IsEnd t lo) := hlo
    have HNO : Hid (∀ j, lo < j → j < h → ¬ IsEnd t j) := hno
    obtain ⟨ao, co, rfl, _⟩ := row_form hrow
    have HROW : Hid (wr.ownsRow w.heap.size 3 1 (.slice ao l.length co) l.length (intCells l)) := hrow
    have HBEL : Hid (Below w.heap.size w wr) := hbel
    have HBK : Hid (BookAt wr B D Wv Cv) := Same.book (Kept.of_below hbel (fun _ => False)) HB.out
    have hsz := hbel.size
    have hll : l.length ≤ 501 := by have := hcut.len HD.out; omega
    clear hcut hlo hno hrow hbel
    by_cases hhs : h ≤ t.size
    · have hhs' : (h : Int) ≤ (t.size : Int) := by omega
      by_cases hE : IsEnd t h
      · have HRUN : Hid (RunAt t lo h) := ⟨hlh, hhs, HLO.out, hE, HNO.out⟩
        have hlos : lo < t.size := by omega
        have hbt := bt_get t lo hlos
        have hblt := bt_lt t lo
        go_upto_if 25 with fail
        go_cut [7] (fun x wx => x = .int .i64 lo ∧ wx = wr)
        case first =>
          by_cases hlt : h < t.size
          · have hlt' : (h : Int) < (t.size : Int) := by omega
            have hd : decide (Parts t h) = true := decide_eq_true (by rcases hE with e | e; omega; exact e)
            have h0 : 0 < h := by omega
            clear hE
            go_wp2_with fail
            refine (parts_any t h _ ht hlt h0).mono ?_
            rintro e wr ⟨rfl, rfl⟩
            rw [hd]
            go_wp2_with fail
            go_meet
            exact ⟨rfl, rfl⟩
          · have hlt' : ¬ (h : Int) < (t.size : Int) := by omega
            clear hE
            go_wp2_with fail
            go_meet
            exact ⟨rfl, rfl⟩
        case rest =>
          obtain ⟨rfl, rfl⟩ := hcut
          clear hE
          have hm0 : l.length + 1 ≤ maxLen := by unfold maxLen; omega
          have hm1 : (l.length + 1) * 8 ≤ 140737488355328 := by omega
          have hsz1 : w.heap.size ≤ wc.heap.size + 1 := by omega
          by_cases hs : sortC (bt t lo) = 115
          · have hsv : ((sortC (bt t lo) : Nat) : Int) = 115 := by omega
            have HS : Hid (sortC (bt t lo) = 115) := hs
            clear hs
            go_wp2_with fail
            refine (sort_any (bt t lo) _ hblt).mono ?_
            rintro e wc ⟨rfl, rfl⟩
            rw [hsv]
            go_wp2_with fail
            refine (cheapest_any wc B D Wv Cv HBK.out HDS.out t ht lo h hlh hhs HRUN.out.edges.1 HRUN.out.edges.2 (run_in HD.out HRUN.out)).mono ?_
            rintro e w2 ⟨⟨v, l1, rfl, hbest, hrow1, hl1⟩, hbw2⟩
            have hrow2 : w2.ownsRow w.heap.size 3 1 (.slice ao l.length co) l.length (intCells l) := ownsRow_below' HROW.out hbw2
            have hb2 : Below w.heap.size w w2 := HBEL.out.trans (hbw2.mono hsz)
            have HBEST : Hid (IsBest D t lo h l1) := hbest
            have HROW1 := hrow1
            clear hbest hbw2
            obtain ⟨_, hsh⟩ := hrow1
            rcases hsh with ⟨rfl, h0⟩ | ⟨g, cp, cur, rfl, _⟩
            · have hl0 : l1 = [] := List.eq_nil_of_length_eq_zero h0
              subst hl0
              have HN2 : Hid (CutRel D t w (t.size + 1 - (h + 1)) (.slice ao l.length co) (.int .i64 h) (.int .i64 ((h : Int) + 1)) w2) := CutRel.next HC.out HRUN.out (.inl ⟨HS.out, HBEST.out⟩) rfl (by go_num) (by simpa using hrow2) hb2
              clear HROW1
              go_wp2_with (at_builtin; refine wpList_append_own_none rfl _ _ 37 rfl w.heap.size 3 ii 1 Try.underlying37 hii _ _ _ rfl hrow2 rfl ?_)
              go_roundg (t.size + 1 - (h + 1))
              case measure => omega
              case rel => exact HN2.out
            · have hm2 : l.length + l1.length ≤ maxLen := by unfold maxLen; omega
              have hm3 : (l.length + l1.length) * 8 ≤ 140737488355328 := by omega
              have hb2s := hb2.size
              go_wp2_with (at_builtin; refine wpList_append_own _ rfl _ _ 37 rfl w.heap.size 3 ii _ 1 8 Try.underlying37 hii hi0 hi1 hi2 rfl (by decide) _ _ _ rfl hrow2 ⟨g, 0, none⟩ l1.length cp (intCells l1) rfl (by simp [intCells_length]) (HROW1.cells (g := g) rfl) (one1E _) hm2 hm3 hb2s ?_)
              intro v' w3 hown' hgrow _
              have hb3 := grown_below hb2 hgrow hrow2
              have HN2 : Hid (CutRel D t w (t.size + 1 - (h + 1)) v' (.int .i64 h) (.int .i64 ((h : Int) + 1)) w3) := CutRel.next HC.out HRUN.out (.inl ⟨HS.out, HBEST.out⟩) rfl (by go_num) (by rw [intCells_append, List.length_append]; exact hown') hb3
              clear hown' hgrow hb3 hrow2 HROW1
              go_wp2_with fail
              go_roundg (t.size + 1 - (h + 1))
              case measure => omega
              case rel => exact HN2.out
          · by_cases hs2 : sortC (bt t lo) = 99
            · have hsv : ((sortC (bt t lo) : Nat) : Int) = 99 := by omega
              have HS : Hid (sortC (bt t lo) = 99) := hs2
              clear hs hs2
              go_wp2_with fail
              refine (sort_any (bt t lo) _ hblt).mono ?_
              rintro e wc ⟨rfl, rfl⟩
              rw [hsv]
              go_wp2_with fail
              go_loopg [6, 11] (h - lo) (fun g o x wx => AheadLoop D t w lo h l g o x wx)
              case atStart => exact ⟨lo, [], rfl, Nat.le_refl _, Nat.le_of_lt hlh, rfl, fun r hr => hr, by simp, by simpa using HROW.out, HBEL.out⟩
              case round =>
                obtain ⟨i, l1, rfl, hli, hih, rfl, hpre, hl1, hrow1, hbel1⟩ := hrel
                obtain ⟨n1, hn1⟩ : ∃ n1, n1 = (l ++ l1).length := ⟨_, rfl⟩
                obtain ⟨ao1, co1, hv1, _⟩ := row_form hrow1
                have HPRE : Hid (∀ r, AheadRun D t h i r → AheadRun D t h lo (l1 ++ r)) := hpre
                have HBK1 : Hid (BookAt wr B D Wv Cv) := Same.book (Kept.of_below hbel1 (fun _ => False)) HB.out
                have hn9 : n1 ≤ 1100 := by rw [hn1]; simp; omega
                subst hv1
                rw [← hn1] at hrow1 ⊢
                have HROW1 : Hid (wr.ownsRow w.heap.size 3 1 (.slice ao1 n1 co1) n1 (intCells (l ++ l1))) := hrow1
                have HBEL1 : Hid (Below w.heap.size w wr) := hbel1
                have HN1 : Hid (n1 = (l ++ l1).length) := hn1
                have hszr : w.heap.size ≤ wr.heap.size + 1 := by have := hbel1.size; omega
                have hm4 : n1 + 1 ≤ maxLen := by unfold maxLen; omega
                have hm5 : (n1 + 1) * 8 ≤ 140737488355328 := by omega
                clear hpre hrow1 hbel1 hn1
                by_cases hlt : i < h
                · have hlt' : (i : Int) < (h : Int) := by omega
                  go_wp2_with fail
                  refine (ahead_any wr B D Wv Cv HBK1.out HDS.out t ht i h hhs hlt).mono ?_
                  rintro e wr ⟨⟨p, rfl, hok⟩, rfl⟩
                  have hp := hok.lt HD.out hlt HRUN.out.2.2.2.1
                  have HOK : Hid (AheadOk D t i h p) := hok
                  clear hok
                  go_wp2_with (at_builtin; refine wpList_append_own _ rfl _ _ 37 rfl w.heap.size 3 ii _ 1 8 Try.underlying37 hii hi0 hi1 hi2 rfl (by decide) _ _ _ rfl (HROW1.out.alloc _) ⟨wr.heap.size, 0, none⟩ 1 1 [.int .i64 p] rfl rfl (news1E _ _ _ _ rfl) (one1E [p]) hm4 hm5 (by simpa using hszr) ?_)
                  intro v' w3 hown' hgrow _
                  have hb3 := grown_below (HBEL1.out.alloc HBEL1.out.size _) hgrow (HROW1.out.alloc _)
                  have HN2 : Hid (AheadLoop D t w lo h l (h - p) v' (.int .i64 p) w3) := AheadLoop.next hli hlt hp HPRE.out HOK.out hl1 rfl (by rw [← HN1.out]; exact hown') hb3
                  clear hown' hgrow hb3
                  go_wp2_with fail
                  go_roundg (h - p)
                  case measure => omega
                  case rel => exact HN2.out
                · obtain rfl : i = h := by omega
                  have HN2 : Hid (CutRel D t w (t.size + 1 - (i + 1)) (.slice ao1 n1 co1) (.int .i64 i) (.int .i64 ((i : Int) + 1)) wr) := AheadLoop.fin HC.out HRUN.out HS.out HPRE.out rfl (by go_num) (by rw [← HN1.out]; exact HROW1.out) HBEL1.out
                  go_wp2_with fail
                  go_roundg (t.size + 1 - (i + 1))
                  case measure => omega
                  case rel => exact HN2.out
            · have hs1' : ((sortC (bt t lo) : Int) == 115) = false := by rw [beq_eq_false_iff_ne]; omega
              have hs2' : ((sortC (bt t lo) : Int) == 99) = false := by rw [beq_eq_false_iff_ne]; omega
              obtain ⟨s, hsd⟩ : ∃ s, s = sortC (bt t lo) := ⟨_, rfl⟩
              rw [← hsd] at hs1' hs2'
              have HSD : Hid (s = sortC (bt t lo)) := hsd
              have HRC : Hid (RunCut D t lo h [h]) := .inr (.inr ⟨hs, hs2, rfl⟩)
              clear hs hs2 hsd
              go_wp2_with fail
              refine (sort_any (bt t lo) _ hblt).mono ?_
              rintro e wc ⟨rfl, rfl⟩
              rw [← HSD.out]
              go_wp2_with (at_builtin; refine wpList_append_own _ rfl _ _ 37 rfl w.heap.size 3 ii _ 1 8 Try.underlying37 hii hi0 hi1 hi2 rfl (by decide) _ _ _ rfl (HROW.out.alloc _) ⟨wc.heap.size, 0, none⟩ 1 1 [.int .i64 h] rfl rfl (news1E _ _ _ _ rfl) (one1E [h]) hm0 hm1 (by simpa using hsz1) ?_)
              intro v' w3 hown' hgrow _
              have hb3 := grown_below (HBEL.out.alloc HBEL.out.size _) hgrow (HROW.out.alloc _)
              have HN2 : Hid (CutRel D t w (t.size + 1 - (h + 1)) v' (.int .i64 h) (.int .i64 ((h : Int) + 1)) w3) := CutRel.next HC.out HRUN.out HRC.out rfl (by go_num) (by rw [intCells_append, List.length_append]; exact hown') hb3
              clear hown' hgrow hb3
              go_wp2_with fail
              go_roundg (t.size + 1 - (h + 1))
              case measure => omega
              case rel => exact HN2.out
      · have hlt : h < t.size := by
          rcases Nat.lt_or_ge h t.size with e | e
          · exact e
          · exact absurd (.inl (by omega)) hE
        have hlt' : (h : Int) < (t.size : Int) := by omega
        have hd : decide (Parts t h) = false := decide_eq_false fun e => hE (.inr e)
        have h0 : 0 < h := by omega
        have HN2 : Hid (CutRel D t w (t.size + 1 - (h + 1)) (.slice ao l.length co) (.int .i64 lo) (.int .i64 ((h : Int) + 1)) wr) := ⟨lo, h + 1, l, rfl, by omega, by omega, rfl, by go_num, HC.out, HLO.out, (fun j a b => by
          by_cases e : j = h
          · subst e; exact hE
          · exact HNO.out j a (by omega)), HROW.out, HBEL.out⟩
        clear hE
        go_wp2_with fail
        refine (parts_any t h _ ht hlt h0).mono ?_
        rintro e wr ⟨rfl, rfl⟩
        rw [hd]
        go_wp2_with fail
        go_roundg (t.size + 1 - (h + 1))
        case measure => omega
        case rel => exact HN2.out
    · have hhs' : ¬ (h : Int) ≤ (t.size : Int) := by omega
      have HEND : Hid (CutEnd D t w wr (.returned (.tuple #[.slice ao l.length co, .int .i64 0]))) := by
        refine ⟨⟨_, l, rfl, ?_, HROW.out⟩, HBEL.out⟩
        by_cases e : lo = t.size
        · rw [← e]; exact HC.out
        · exact absurd (.inl rfl) (HNO.out t.size (by omega) (by omega))
      go_wp2_with fail
      go_ret2
      exact HEND.out

end Go.Proofs.Ytlfpepehngkehaa
