/-
  Walks: the reference's settled.
-/
import Derived.Test.YtlfpepehngkehaaGreatBookW
import Derived.Test.YtlfpepehngkehaaGreatMaths
import Derived.Laws.AppendOwnNone
namespace Go.Proofs.YtlfpepehngkehaaGreat
set_option linter.unusedSimpArgs false
set_option linter.unusedVariables false
open Go.RowKit

theorem Tryz.infoString : (Tryz.prog.info? 9).map (fun i => (i.zero, i.size, i.bytes)) = some (some (.string ByteArray.empty), 1, 16) := by kernel_rfl
theorem Tryz.infoInt : (Tryz.prog.info? 3).map (fun i => (i.zero, i.size, i.bytes)) = some (some (.int .i64 0), 1, 8) := by kernel_rfl

theorem one1 (x : ByteArray) : ∀ u ∈ [Value.string x], u.oneCell' = true := by
  intro u hu; simp at hu; subst hu; rfl

theorem one1i (c : Int) : ∀ u ∈ [Value.int .i64 c], u.oneCell' = true := by
  intro u hu; simp at hu; subst hu; rfl
theorem one_str (L : List ByteArray) : ∀ u ∈ strCells L, u.oneCell' = true := by
  intro u hu; simp [strCells] at hu; obtain ⟨s, _, rfl⟩ := hu; rfl
theorem one_int (L : List Nat) : ∀ u ∈ intCells L, u.oneCell' = true := by
  intro u hu; simp [intCells] at hu; obtain ⟨s, _, rfl⟩ := hu; rfl

theorem book_news {w : World} {B g cap a : Nat} {t : TypeId} {D : Dic} (h : w.ownsRow B t 1 (.slice (some ⟨g, 0, none⟩) D.length cap) D.length (strCells (D.map (·.1)))) (ha : a ≤ D.length) :
    ∀ j u, (strCells ((D.take a).map (·.1)))[j]? = some u → w.cell? ((⟨g, 0, none⟩ : Addr).add j) = some u := by
  intro j u hj
  have hja : j < a := by
    have := (List.getElem?_eq_some_iff.1 hj).1
    simp [strCells] at this; omega
  refine h.cells (g := g) rfl j u ?_
  rw [← hj]
  simp [strCells, List.getElem?_take, hja]

theorem book_news_int {w : World} {B g cap a : Nat} {t : TypeId} {D : Dic} (h : w.ownsRow B t 1 (.slice (some ⟨g, 0, none⟩) D.length cap) D.length (intCells (D.map (·.2)))) (ha : a ≤ D.length) :
    ∀ j u, (intCells ((D.take a).map (·.2)))[j]? = some u → w.cell? ((⟨g, 0, none⟩ : Addr).add j) = some u := by
  intro j u hj
  have hja : j < a := by
    have := (List.getElem?_eq_some_iff.1 hj).1
    simp [intCells] at this; omega
  refine h.cells (g := g) rfl j u ?_
  rw [← hj]
  simp [intCells, List.getElem?_take, hja]

theorem book_news_drop {w : World} {B g cap a : Nat} {t : TypeId} {D : Dic} (h : w.ownsRow B t 1 (.slice (some ⟨g, 0, none⟩) D.length cap) D.length (strCells (D.map (·.1)))) :
    ∀ j u, (strCells ((D.drop a).map (·.1)))[j]? = some u → w.cell? ((⟨g, a, none⟩ : Addr).add j) = some u := by
  intro j u hj
  have hja : a + j < D.length := by
    have := (List.getElem?_eq_some_iff.1 hj).1
    simp [strCells] at this; omega
  have e : (⟨g, a, none⟩ : Addr).add j = ⟨g, a + j, none⟩ := by first | (simp [Addr.add]; done) | (simp [Addr.add]; omega)
  rw [e, h.cellAt (a + j) (by omega), ← hj]
  simp [strCells, List.getElem?_drop]

theorem book_news_drop_int {w : World} {B g cap a : Nat} {t : TypeId} {D : Dic} (h : w.ownsRow B t 1 (.slice (some ⟨g, 0, none⟩) D.length cap) D.length (intCells (D.map (·.2)))) :
    ∀ j u, (intCells ((D.drop a).map (·.2)))[j]? = some u → w.cell? ((⟨g, a, none⟩ : Addr).add j) = some u := by
  intro j u hj
  have hja : a + j < D.length := by
    have := (List.getElem?_eq_some_iff.1 hj).1
    simp [intCells] at this; omega
  have e : (⟨g, a, none⟩ : Addr).add j = ⟨g, a + j, none⟩ := by first | (simp [Addr.add]; done) | (simp [Addr.add]; omega)
  rw [e, h.cellAt (a + j) (by omega), ← hj]
  simp [intCells, List.getElem?_drop]

theorem news_nil {D : Dic} {a : Nat} {P : Nat → Value → Prop} (h : D.length ≤ a) : ∀ j u, (strCells ((D.drop a).map (·.1)))[j]? = some u → P j u := by
  intro j u hj
  rw [List.drop_of_length_le h] at hj
  simp [strCells] at hj
theorem news_nil_int {D : Dic} {a : Nat} {P : Nat → Value → Prop} (h : D.length ≤ a) : ∀ j u, (intCells ((D.drop a).map (·.2)))[j]? = some u → P j u := by
  intro j u hj
  rw [List.drop_of_length_le h] at hj
  simp [intCells] at hj

theorem hole_words (D : Dic) (a : Nat) (p : ByteArray × Nat) : strCells ((hole D a p).map (·.1)) = strCells ((D.take a).map (·.1)) ++ [.string p.1] ++ strCells ((D.drop a).map (·.1)) := by
  simp [hole, strCells]
theorem hole_costs (D : Dic) (a : Nat) (p : ByteArray × Nat) : intCells ((hole D a p).map (·.2)) = intCells ((D.take a).map (·.2)) ++ [.int .i64 p.2] ++ intCells ((D.drop a).map (·.2)) := by
  simp [hole, intCells]

theorem news1 (w : World) (x : Value) (t : TypeId) (n : Nat) (hn : n = w.heap.size) : ∀ j u, [x][j]? = some u → (w.alloc (.cells #[x] t)).cell? ((⟨n, 0, none⟩ : Addr).add j) = some u := by
  subst hn; exact cell_one_new _ _ _

theorem at_step {D : Dic} {x : ByteArray} {a : Nat} (ha : a < D.length) (h : ∀ j (h : j < D.length), j < a → wl D[j].1 x = true) (hy : wl D[a].1 x = true) : ∀ j (h : j < D.length), j < a + 1 → wl D[j].1 x = true := by
  intro j hj hja
  by_cases e : j = a
  · subst e; exact hy
  · exact h j hj (by omega)

set_option maxHeartbeats 4000000 in
set_option maxRecDepth 100000 in
theorem settled_any (w : World) (rv : Value) (base : Nat) (E : List Ent) (hown : w.ownsRow base 127 2 rv E.length (refCells E)) (hlen : E.length ≤ 100000) :
    Calls Tryz.prog 37 #[rv] w fun e w' => e = .returned (.pointer (some ⟨w.heap.size, 0, none⟩)) ∧ ∃ D Wv Cv, Rep D E ∧ BookAt w' w.heap.size D Wv Cv ∧ Below w.heap.size w w' := by
  obtain ⟨is, his, hs0, hs1, hs2⟩ := info_parts Tryz.infoString
  obtain ⟨ii, hii, hi0, hi1, hi2⟩ := info_parts Tryz.infoInt
  by_cases hE0 : E.length = 0
  · have hE : E = [] := List.eq_nil_of_length_eq_zero hE0
    subst hE
    obtain ⟨ar, capr, rfl, _⟩ := row_form hown
    go_enter Tryz.func37, Tryz.ntmps37
    go_wp2_with fail
    refine wp_loop_rounds 1 ?_
    rw [rounds_succ]
    go_wp2
    go_ret
    refine ⟨rfl, [], .slice none 0 0, .slice none 0 0, Rep.nil, ⟨?_, ?_, ?_, World.ownsRow_nil _ _ _ _, World.ownsRow_nil _ _ _ _, (fun k hk => by cases hk), fun _ => ⟨rfl, rfl⟩⟩, (Below.refl _ _).alloc (Nat.le_refl _) _⟩
    · simp
    · simp
    · simp
  · obtain ⟨gr, capr, rfl, hgr1, hgr2, hgr3, hgr4⟩ := row_shape hown hE0
    have HO : Hid (w.ownsRow base 127 2 (.slice (some ⟨gr, 0, none⟩) E.length capr) E.length (refCells E)) := hown
    clear hown
    go_enter Tryz.func37, Tryz.ntmps37
    go_wp2_with fail
    go_loopw [4, 5] (fun mv xv wr => SettRel w wr E mv xv) (fun _ xv _ => (intOf xv + 1).toNat)
    case atStart =>
      refine ⟨E.length, [], [], .slice none 0 0, .slice none 0 0, Nat.le_refl _, by go_num, by rw [List.drop_length]; exact Rep.nil, fun y => by simp [Has], by simp, by simp, ⟨?_, ?_, ?_, World.ownsRow_nil _ _ _ _, World.ownsRow_nil _ _ _ _, (fun k hk => by cases hk), fun _ => ⟨rfl, rfl⟩⟩, World.ownsRow_nil _ _ _ _, (fun k hk => by cases hk), (fun k hk => by cases hk), (Below.refl _ _).alloc (Nat.le_refl _) _⟩
      · simp
      · simp
      · simp
    case round =>
      obtain ⟨k, D, M, Wv, Cv, hk, rfl, hR, hM, hMl, hDl, hB, hmo, ham, hac, hbel⟩ := hrel
      obtain ⟨w0, rfl⟩ : ∃ w0, w0 = wr := ⟨_, rfl⟩
      cases k with
      | zero =>
        go_wp2
        go_ret
        exact ⟨rfl, D, Wv, Cv, by simpa using hR, hB, hbel⟩
      | succ j =>
        have hj : j < E.length := by omega
        obtain ⟨hx0, hx1⟩ := own_ref (Kept.row HO.out ((Kept.of_below (hbel.mono (Nat.le_refl _)) (fun _ => False))) (fun _ _ e => e)) rfl hj
        rw [show ((j + 1 : Nat) : Int) - 1 = (j : Int) from by omega]
        obtain ⟨am, cm, rfl, hgm⟩ := row_form hmo
        obtain ⟨x, hx⟩ : ∃ x, x = E[j] := ⟨_, rfl⟩
        rw [← hx] at hx0 hx1
        have HXE : Hid (x = E[j]) := hx
        have HR : Hid (Rep D (E.drop (j + 1))) := hR
        have HM : Hid (∀ y, y ∈ M ↔ Has (E.drop (j + 1)) y) := hM
        have HB : Hid (BookAt w0 w.heap.size D Wv Cv) := hB
        have HMO : Hid (w0.ownsRow (w.heap.size + 1) 9 1 (.slice am M.length cm) M.length (strCells M)) := hmo
        have HAM : Hid (Apart (.slice am M.length cm) Wv) := ham
        have HAC : Hid (Apart (.slice am M.length cm) Cv) := hac
        clear hx hR hM hB hmo ham hac
        go_wp2_with fail
        go_loopw [6, 7] (fun ov kv wx => OldRel w0 wx M (E.drop (j + 1)) x.word ov kv) (fun _ kv _ => M.length - (intOf kv).toNat)
        case atStart => exact ⟨0, false, by omega, rfl, rfl, (fun _ j h h' => by omega), (fun h => by cases h), Same.refl _⟩
        case round =>
          obtain ⟨i, o, hi, rfl, rfl, ho1, ho2, hsame⟩ := hrel
          have HO1 : Hid (o = false → ∀ j (h : j < M.length), j < i → M[j] ≠ x.word) := ho1
          have HO2 : Hid (o = true → Has (E.drop (j + 1)) x.word) := ho2
          have hy0 := hsame.cell hx0
          have hy1 := hsame.cell hx1
          clear ho1 ho2
          cases o with
          | true =>
            have HSR := sett_met (mv := .slice am M.length cm) hj HR.out HM.out hMl hDl (hsame.book HB.out) (hsame.row HMO.out) HAM.out HAC.out (hsame.below hbel hbel.size) (by rw [← HXE.out]; exact HO2.out rfl)
            have HSR' : Hid (SettRel w wr E (.slice am M.length cm) (.int .i64 ((j : Int) - 1))) := HSR
            clear HSR
            by_cases him : i < M.length
            all_goals
              go_wp2
              go_roundw
              case rel => exact HSR'.out
              case measure => simp [intOf]
          | false =>
            have HO1' : Hid (∀ j (h : j < M.length), j < i → M[j] ≠ x.word) := HO1.out rfl
            clear HO1 HO2
            by_cases him : i < M.length
            · obtain ⟨gm, rfl⟩ := hgm (by omega)
              have hm0 := own_str (hsame.row HMO.out) rfl him
              obtain ⟨y, hy⟩ : ∃ y, y = M[i] := ⟨_, rfl⟩
              rw [← hy] at hm0
              have HY : Hid (y = M[i]) := hy
              clear hy
              go_wp2_with fail
              go_quiet (fail)
              go_wp2
              go_roundw
              case rel => exact (by have := old_step (nq := nq) him HO1'.out HM.out hsame (kv := .int .i64 ((i : Int) + 1)) (by go_num); rw [← HY.out] at this; exact this)
              case measure => simp [intOf]; omega
            · have HNH : Hid (¬ Has (E.drop (j + 1)) x.word) := fun hh => by
                obtain ⟨z, hz, e⟩ := List.mem_iff_getElem.1 ((HM.out _).2 hh)
                exact HO1'.out z hz (by omega) e
              have hB1 := hsame.book HB.out
              have hmo1 := hsame.row HMO.out
              have hbel1 := hsame.below hbel hbel.size
              have hsz1 := hbel1.size
              have HB1 : Hid (BookAt wr w.heap.size D Wv Cv) := hB1
              clear hB1 HO1'
              cases hin : x.inn with
              | false =>
                have e1 : refC x = -1 := by simp [refC, hin]
                rw [e1] at hx1 hy1
                have HIN : Hid (x.inn = false) := hin
                clear e1 hin
                go_wp2_with (at_builtin; refine wpList_append_own_at _ rfl _ _ 30 rfl (w.heap.size + 1) 9 is _ 1 16 Tryz.underlying30 his hs0 hs1 hs2 rfl (by decide) _ _ _ rfl (hmo1.alloc _) ⟨wr.heap.size, 0, none⟩ 1 1 [.string x.word] rfl rfl (cell_one_new _ _ _) (one1 _) (by unfold maxLen; omega) (by omega) (by have := cell_lt HB1.out.c0; simp; omega) ?_)
                intro v' w2 hown' hgrow _ hat
                obtain ⟨g1, g2, g3, g4, g5⟩ := met_grown HB1.out hmo1 HAM.out HAC.out hbel1 hown' hgrow hat
                have hz1 : w2.cell? ⟨gr, j * 2 + 1, none⟩ = some (.int .i64 (-1)) := (g5.cell (p := ⟨gr, j * 2 + 1, none⟩) hgr4).trans ((hbel.cell (p := ⟨gr, j * 2 + 1, none⟩) hgr4).symm.trans hx1)
                have HSR : Hid (SettRel w w2 E v' (.int .i64 ((j : Int) - 1))) := sett_out hj HR.out HM.out hMl hDl g1 (by rw [← HXE.out]; exact g2) g3 g4 g5 (by rw [← HXE.out]; exact HIN.out)
                clear g1 g2 g3 g4 g5 hown' hgrow hat hmo1 hy0 hy1
                go_wp2
                go_roundw
                case rel => exact HSR.out
                case measure => simp [intOf]
              | true =>
                have e1 : refC x = (x.cost : Int) := by simp [refC, hin]
                rw [e1] at hx1 hy1
                have HIN : Hid (x.inn = true) := hin
                clear e1 hin
                go_wp2_with (at_builtin; refine wpList_append_own_at _ rfl _ _ 30 rfl (w.heap.size + 1) 9 is _ 1 16 Tryz.underlying30 his hs0 hs1 hs2 rfl (by decide) _ _ _ rfl (hmo1.alloc _) ⟨wr.heap.size, 0, none⟩ 1 1 [.string x.word] rfl rfl (cell_one_new _ _ _) (one1 _) (by unfold maxLen; omega) (by omega) (by have := cell_lt HB1.out.c0; simp; omega) ?_)
                intro v' w2 hown' hgrow _ hat
                obtain ⟨g1, g2, g3, g4, g5⟩ := met_grown HB1.out hmo1 HAM.out HAC.out hbel1 hown' hgrow hat
                have hz0 : w2.cell? ⟨gr, j * 2, none⟩ = some (.string x.word) := (g5.cell (p := ⟨gr, j * 2, none⟩) hgr4).trans ((hbel.cell (p := ⟨gr, j * 2, none⟩) hgr4).symm.trans hx0)
                have hz1 : w2.cell? ⟨gr, j * 2 + 1, none⟩ = some (.int .i64 x.cost) := (g5.cell (p := ⟨gr, j * 2 + 1, none⟩) hgr4).trans ((hbel.cell (p := ⟨gr, j * 2 + 1, none⟩) hgr4).symm.trans hx1)
                clear hown' hgrow hat hmo1 hy0 hy1 hx0 hx1
                by_cases hD0 : D = []
                · obtain ⟨hwn, hcn⟩ := g1.nl hD0
                  subst hwn hcn hD0
                  have G1 : Hid (BookAt w2 w.heap.size [] (.slice none 0 0) (.slice none 0 0)) := g1
                  have G2 : Hid (w2.ownsRow (w.heap.size + 1) 9 1 v' (M ++ [x.word]).length (strCells (M ++ [x.word]))) := g2
                  have hb0 := G1.out.c0
                  have hb1 := G1.out.c1
                  clear g1 g2 g3 g4 HAM HAC HMO HB1 HB hsame hbel1 hsz1
                  go_wp2_with fail
                  refine wp_loop_rounds 1 ?_
                  rw [rounds_succ]
                  go_wp2_with fail
                  go_quiet (fail)
                  generalize hW : w2.drewN nq = W
                  have hsame4 : Same w2 W := by rw [← hW]; exact Kept.drewN (Kept.refl _ _) nq
                  clear hW hb0 hb1
                  have HB4 : Hid (BookAt W w.heap.size [] (.slice none 0 0) (.slice none 0 0)) := hsame4.book G1.out
                  have hb0 := HB4.out.c0
                  have hb1 := HB4.out.c1
                  have hBW : w.heap.size < W.heap.size := cell_lt hb0
                  have hy0 := hsame4.cell hz0
                  have hy1 := hsame4.cell hz1
                  go_wp2_with (at_builtin; refine wpList_append_own_at _ rfl (.tmp 87) (.tmp 93) 30 rfl W.heap.size 9 is _ 1 16 Tryz.underlying30 his hs0 hs1 hs2 rfl (by decide) _ _ _ rfl ((World.ownsRow_nil W _ _ _).alloc _) ⟨W.heap.size, 0, none⟩ 1 1 [.string x.word] rfl rfl (cell_one_new _ _ _) (one1 _) (by unfold maxLen; omega) (by omega) (by simp) ?_)
                  intro v2 W2 hown2 hgr2' _ _
                  have hs2' : Same W W2 := ((Kept.refl W _).alloc _).grown hgr2' (fun k hk => by cases hk)
                  have hz2s := hs2'.size
                  obtain ⟨g3, cap3, rfl, hg31, hg32, hg33, hg34⟩ := row_shape hown2 (by omega)
                  have hown3 : W2.ownsRow W.heap.size 9 1 (.slice (some ⟨g3, 0, none⟩) 1 cap3) (([] : Dic).length + 1) (strCells ((hole [] 0 (x.word, x.cost)).map (·.1))) := by simpa [hole, strCells] using hown2
                  have hb02 := hs2'.cell HB4.out.c0
                  have hf3 : W2.frozen? ⟨w.heap.size, 0, none⟩ = false := (Kept.frozen hs2' (p := ⟨w.heap.size, 0, none⟩) hBW id).trans (HB4.out.fz 0)
                  obtain ⟨X, hX⟩ : ∃ X, X = W2.setCell ⟨w.heap.size, 0, none⟩ (.slice (some ⟨g3, 0, none⟩) 1 cap3) := ⟨_, rfl⟩
                  have hK3 : Kept W X (fun k => k = w.heap.size) := by rw [hX]; exact (hs2'.mono (T := fun k => k = w.heap.size) (fun _ e => e.elim)).setCell _ _ (.inl rfl)
                  have hb13 : X.cell? ⟨w.heap.size, 1, none⟩ = some (.slice none 0 0) := by rw [hX]; exact (World.cell?_setCell_other _ _ _ _ (by intro e; simp at e)).trans (hs2'.cell HB4.out.c1)
                  have hq13 : X.cell? ⟨gr, j * 2 + 1, none⟩ = some (.int .i64 x.cost) := (hK3.cell (p := ⟨gr, j * 2 + 1, none⟩) (by show gr < _; omega) (fun e => by have e' : gr = w.heap.size := e; omega)).trans (hsame4.cell hz1)
                  have hzX : X.heap.size = W2.heap.size := by rw [hX]; simp [World.setCell]
                  have HX : Hid (X = W2.setCell ⟨w.heap.size, 0, none⟩ (.slice (some ⟨g3, 0, none⟩) 1 cap3)) := hX
                  have HB13 : Hid (X.cell? ⟨w.heap.size, 1, none⟩ = some (.slice none 0 0)) := hb13
                  clear hgr2' hown2 hK3 hy0 hy1 hb0 hb1
                  have hX' := hX.symm
                  clear hX
                  go_wp2_with (first | (at_builtin; refine wpList_append_own_at _ rfl (.tmp 114) (.tmp 120) 48 rfl W2.heap.size 3 ii _ 1 8 Tryz.underlying48 hii hi0 hi1 hi2 rfl (by decide) _ _ _ rfl ((World.ownsRow_nil X _ _ _).alloc _) ⟨W2.heap.size, 0, none⟩ 1 1 [.int .i64 x.cost] rfl rfl (news1 _ _ _ _ hzX.symm) (one1i _) (by unfold maxLen; omega) (by omega) (by simp; omega) ?_) | (at_builtin; refine wpList_append_own_none rfl (.tmp 96) (.tmp 102) 30 rfl W.heap.size 9 is 1 Tryz.underlying30 his _ _ _ rfl hown3 rfl ?_))
                  intro v5 W5 hown5 hgr5' _ _
                  have hs5' : Same X W5 := ((Kept.refl X _).alloc _).grown hgr5' (fun k hk => by cases hk)
                  obtain ⟨g6, cap6, rfl, _, _, _, _⟩ := row_shape hown5 (by omega)
                  have hown6 : W5.ownsRow W2.heap.size 3 1 (.slice (some ⟨g6, 0, none⟩) 1 cap6) (([] : Dic).length + 1) (intCells ((hole [] 0 (x.word, x.cost)).map (·.2))) := by simpa [hole, intCells] using hown5
                  have hb16 := hs5'.cell HB13.out
                  have hf6 : W5.frozen? ⟨w.heap.size, 1, none⟩ = false := (Kept.frozen hs5' (p := ⟨w.heap.size, 1, none⟩) (cell_lt HB13.out) id).trans (by rw [HX.out]; simp only [World.frozen?_setCell]; exact (Kept.frozen hs2' (p := ⟨w.heap.size, 1, none⟩) hBW id).trans (HB4.out.fz 1))
                  have HSR : Hid (SettRel w (W5.setCell ⟨w.heap.size, 1, none⟩ (.slice (some ⟨g6, 0, none⟩) 1 cap6)) E v' (.int .i64 ((j : Int) - 1))) := sett_in (a := 0) (D := []) hj HR.out HM.out hMl hDl HB4.out (by rw [← HXE.out]; exact hsame4.row G2.out) (hsame4.below g5 g5.size) (by rw [← HXE.out]; exact HIN.out) (by rw [← HXE.out]; exact HNH.out) ⟨by simp, fun j h => by simp at h, fun j h => by simp at h⟩ hs2' (by rw [← HXE.out]; exact hown3) HX.out hs5' (by rw [← HXE.out]; exact hown6)
                  clear hgr5' hown6 hown5 hown3 HB4 HX hX' hb13 hq13
                  go_wp2
                  go_roundw
                  case rel => exact HSR.out
                  case measure => simp [intOf]
                · have hDn : D.length ≠ 0 := fun e => hD0 (List.eq_nil_of_length_eq_zero e)
                  obtain ⟨gw, capw, rfl, hgw1, hgw2, hgw3, hgw4⟩ := row_shape g1.ow hDn
                  obtain ⟨gc, capc, rfl, hgc1, hgc2, hgc3, hgc4⟩ := row_shape g1.oc hDn
                  have G1 : Hid (BookAt w2 w.heap.size D (.slice (some ⟨gw, 0, none⟩) D.length capw) (.slice (some ⟨gc, 0, none⟩) D.length capc)) := g1
                  have G2 : Hid (w2.ownsRow (w.heap.size + 1) 9 1 v' (M ++ [x.word]).length (strCells (M ++ [x.word]))) := g2
                  have G3 : Hid (Apart v' (.slice (some ⟨gw, 0, none⟩) D.length capw)) := g3
                  have G4 : Hid (Apart v' (.slice (some ⟨gc, 0, none⟩) D.length capc)) := g4
                  clear g1 g2 g3 g4 HAM HAC HMO HB1 HB hsame hbel1 hsz1
                  go_wp2_with fail
                  go_loopw [8] (fun av wx => ∃ a : Nat, a ≤ D.length ∧ av = .int .i64 a ∧ (∀ j (h : j < D.length), j < a → wl D[j].1 x.word = true) ∧ Same w2 wx) (fun av _ => D.length - (intOf av).toNat)
                  case atStart => exact ⟨0, by omega, rfl, (fun j h h' => by omega), Same.refl _⟩
                  case round =>
                    obtain ⟨a, ha, rfl, hlt, hsame3⟩ := hrel
                    obtain ⟨w3, rfl⟩ : ∃ w3, w3 = wr := ⟨_, rfl⟩
                    have HLT : Hid (∀ j (h : j < D.length), j < a → wl D[j].1 x.word = true) := hlt
                    have hB3 := hsame3.book G1.out
                    have hb0 := hB3.c0
                    have hb1 := hB3.c1
                    have hbf := hB3.fz
                    have hy0 := hsame3.cell hz0
                    have hy1 := hsame3.cell hz1
                    have HB3 : Hid (BookAt w3 w.heap.size D (.slice (some ⟨gw, 0, none⟩) D.length capw) (.slice (some ⟨gc, 0, none⟩) D.length capc)) := hB3
                    clear hlt hB3
                    by_cases had : a < D.length
                    · have hw0 := own_str (HB3.out.ow) (by simp) (k := a) (by simpa using had)
                      simp only [List.getElem_map] at hw0
                      obtain ⟨y, hy⟩ : ∃ y, y = D[a].1 := ⟨_, rfl⟩
                      rw [← hy] at hw0
                      have HY : Hid (y = D[a].1) := hy
                      clear hy
                      have hai : (a : Int) < (D.length : Int) := by omega
                      cases hb : Op.bytesLess y.toList x.word.toList with
                      | true =>
                        go_wp2_with fail
                        go_quiet (fail)
                        go_wp2
                        go_roundw
                        case rel => exact ⟨a + 1, by omega, by go_num, (at_step had HLT.out (by rw [← HY.out]; exact hb)), Kept.drewN hsame3 _⟩
                        case measure => simp [intOf]; omega
                      | false =>
                        have HSP : Hid (SplitAt D x.word a) := ⟨ha, HLT.out, find_down HR.out.1 had (by rw [← HY.out]; exact hb)⟩
                        go_wp2_with fail
                        go_quiet (fail)
                        generalize hW : w3.drewN nq = W
                        have hsame4 : Same w2 W := by rw [← hW]; exact Kept.drewN hsame3 nq
                        clear hW hsame3 hb0 hb1 hbf hy0 hy1 HB3
                        have HB4 : Hid (BookAt W w.heap.size D (.slice (some ⟨gw, 0, none⟩) D.length capw) (.slice (some ⟨gc, 0, none⟩) D.length capc)) := hsame4.book G1.out
                        have hb0 := HB4.out.c0
                        have hBW : w.heap.size < W.heap.size := cell_lt hb0
                        have hgwW : gw < W.heap.size := (HB4.out.ow.lt gw rfl).2
                        have hgcW : gc < W.heap.size := (HB4.out.oc.lt gc rfl).2
                        have hy0 := hsame4.cell hz0
                        have hy1 := hsame4.cell hz1
                        have hzz1 := hz1
                        go_wp2_with (at_builtin; refine wpList_append_own_at _ rfl (.tmp 79) (.tmp 85) 30 rfl W.heap.size 9 is _ 1 16 Tryz.underlying30 his hs0 hs1 hs2 rfl (by decide) _ _ _ rfl (World.ownsRow_nil _ _ _ _) ⟨gw, 0, none⟩ a capw (strCells ((D.take a).map (·.1))) rfl (by simp [strCells]; omega) (book_news HB4.out.ow ha) (one_str _) (by unfold maxLen; omega) (by omega) (Nat.le_refl _) ?_)
                        intro v1 W1 hown1 hgr1' _ _
                        have hs1' : Same W W1 := (Kept.refl W _).grown hgr1' (fun k hk => by cases hk)
                        have hown1 : W1.ownsRow W.heap.size 9 1 v1 a (strCells ((D.take a).map (·.1))) := by simpa using hown1
                        have hz1s := hs1'.size
                        have hq0 := hs1'.cell hy0
                        have hq1 := hs1'.cell hy1
                        have hb01 := hs1'.cell hb0
                        clear hgr1' hy0 hy1 hb0
                        go_wp2_with (at_builtin; refine wpList_append_own_at _ rfl (.tmp 87) (.tmp 93) 30 rfl W.heap.size 9 is _ 1 16 Tryz.underlying30 his hs0 hs1 hs2 rfl (by decide) _ _ _ rfl (hown1.alloc _) ⟨W1.heap.size, 0, none⟩ 1 1 [.string x.word] rfl rfl (cell_one_new _ _ _) (one1 _) (by unfold maxLen; omega) (by omega) (by simp; omega) ?_)
                        intro v2 W2 hown2 hgr2' _ _
                        have hs2' : Same W W2 := ((hs1' : Kept W W1 _).alloc _).grown hgr2' (fun k hk => .inr (hown1.lt k hk).1)
                        have hz2s := hs2'.size
                        have hb02 : W2.cell? ⟨w.heap.size, 0, none⟩ = some (.slice (some ⟨gw, 0, none⟩) D.length capw) := hs2'.cell HB4.out.c0
                        clear hgr2' hb01 hq0 hq1 hown1
                        have hown2 : W2.ownsRow W.heap.size 9 1 v2 (a + 1) (strCells ((D.take a).map (·.1)) ++ [.string x.word]) := by simpa using hown2
                        go_wp2_with (at_builtin; refine wpList_append_own_at _ rfl (.tmp 96) (.tmp 102) 30 rfl W.heap.size 9 is _ 1 16 Tryz.underlying30 his hs0 hs1 hs2 rfl (by decide) _ _ _ rfl hown2 ⟨gw, a, none⟩ (D.length - a) (capw - a) (strCells ((D.drop a).map (·.1))) rfl (by simp [strCells]) (book_news_drop (hs2'.row HB4.out.ow)) (one_str _) (by unfold maxLen; omega) (by omega) (by omega) ?_)
                        intro v3 W3 hown3 hgr3' _ _
                        have hs3' : Same W W3 := (hs2' : Kept W W2 _).grown hgr3' (fun k hk => .inr (hown2.lt k hk).1)
                        have hz3 := hs3'.size
                        have hown3 : W3.ownsRow W.heap.size 9 1 v3 (D.length + 1) (strCells ((hole D a (x.word, x.cost)).map (·.1))) := by
                          have e : a + 1 + (D.length - a) = D.length + 1 := by omega
                          rw [e] at hown3
                          simpa [hole, strCells] using hown3
                        obtain ⟨g3, cap3, rfl, hg31, hg32, hg33, hg34⟩ := row_shape hown3 (by omega)
                        have hb03 : W3.cell? ⟨w.heap.size, 0, none⟩ = some (.slice (some ⟨gw, 0, none⟩) D.length capw) := hs3'.cell HB4.out.c0
                        have hf3 : W3.frozen? ⟨w.heap.size, 0, none⟩ = false := (Kept.frozen hs3' (p := ⟨w.heap.size, 0, none⟩) hBW id).trans (HB4.out.fz 0)
                        obtain ⟨X, hX⟩ : ∃ X, X = W3.setCell ⟨w.heap.size, 0, none⟩ (.slice (some ⟨g3, 0, none⟩) (D.length + 1) cap3) := ⟨_, rfl⟩
                        have hK3 : Kept W (W3.setCell ⟨w.heap.size, 0, none⟩ (.slice (some ⟨g3, 0, none⟩) (D.length + 1) cap3)) (fun k => k = w.heap.size) := (hs3'.mono (T := fun k => k = w.heap.size) (fun _ e => e.elim)).setCell _ _ (.inl rfl)
                        have hb13 : (W3.setCell ⟨w.heap.size, 0, none⟩ (.slice (some ⟨g3, 0, none⟩) (D.length + 1) cap3)).cell? ⟨w.heap.size, 1, none⟩ = some (.slice (some ⟨gc, 0, none⟩) D.length capc) := (World.cell?_setCell_other _ _ _ _ (by intro e; simp at e)).trans (hs3'.cell HB4.out.c1)
                        have hq13 : (W3.setCell ⟨w.heap.size, 0, none⟩ (.slice (some ⟨g3, 0, none⟩) (D.length + 1) cap3)).cell? ⟨gr, j * 2 + 1, none⟩ = some (.int .i64 x.cost) := (hK3.cell (p := ⟨gr, j * 2 + 1, none⟩) (by show gr < _; omega) (fun e => by have e' : gr = w.heap.size := e; omega)).trans (hsame4.cell hzz1)
                        have hrow3 : (W3.setCell ⟨w.heap.size, 0, none⟩ (.slice (some ⟨g3, 0, none⟩) (D.length + 1) cap3)).ownsRow (w.heap.size + 1) 3 1 (.slice (some ⟨gc, 0, none⟩) D.length capc) D.length (intCells (D.map (·.2))) := Kept.row HB4.out.oc hK3 (fun k hk e => by cases hk; have e' : gc = w.heap.size := e; omega)
                        have hzX : X.heap.size = W3.heap.size := by rw [hX]; simp [World.setCell]
                        rw [← hX] at hK3 hb13 hq13 hrow3
                        have HX : Hid (X = W3.setCell ⟨w.heap.size, 0, none⟩ (.slice (some ⟨g3, 0, none⟩) (D.length + 1) cap3)) := hX
                        have HK3 : Hid (Kept W X (fun k => k = w.heap.size)) := hK3
                        clear hgr3' hb02 hown2 hK3
                        have hX' := hX.symm
                        clear hX
                        go_wp2_with (at_builtin; refine wpList_append_own_at _ rfl (.tmp 106) (.tmp 112) 48 rfl W3.heap.size 3 ii _ 1 8 Tryz.underlying48 hii hi0 hi1 hi2 rfl (by decide) _ _ _ rfl (World.ownsRow_nil _ _ _ _) ⟨gc, 0, none⟩ a capc (intCells ((D.take a).map (·.2))) rfl (by simp [intCells]; omega) (book_news_int hrow3 ha) (one_int _) (by unfold maxLen; omega) (by omega) (by omega) ?_)
                        intro v4 W4 hown4 hgr4' _ _
                        have hs4' : Same X W4 := (Kept.refl X _).grown hgr4' (fun k hk => by cases hk)
                        have hown4 : W4.ownsRow W3.heap.size 3 1 v4 a (intCells ((D.take a).map (·.2))) := by simpa using hown4
                        have hz4s := hs4'.size
                        have hq14 := hs4'.cell hq13
                        have hb14 := hs4'.cell hb13
                        have HB13 : Hid (X.cell? ⟨w.heap.size, 1, none⟩ = some (.slice (some ⟨gc, 0, none⟩) D.length capc)) := hb13
                        clear hgr4' hq13 hb13 hX'
                        go_wp2_with (at_builtin; refine wpList_append_own_at _ rfl (.tmp 114) (.tmp 120) 48 rfl W3.heap.size 3 ii _ 1 8 Tryz.underlying48 hii hi0 hi1 hi2 rfl (by decide) _ _ _ rfl (hown4.alloc _) ⟨W4.heap.size, 0, none⟩ 1 1 [.int .i64 x.cost] rfl rfl (cell_one_new _ _ _) (one1i _) (by unfold maxLen; omega) (by omega) (by simp; omega) ?_)
                        intro v5 W5 hown5 hgr5' _ _
                        have hs5' : Same X W5 := ((hs4' : Kept X W4 _).alloc _).grown hgr5' (fun k hk => .inr (by have := (hown4.lt k hk).1; omega))
                        have hown5 : W5.ownsRow W3.heap.size 3 1 v5 (a + 1) (intCells ((D.take a).map (·.2)) ++ [.int .i64 x.cost]) := by simpa using hown5
                        have hz5s := hs5'.size
                        have hb15 := hs5'.cell HB13.out
                        clear hgr5' hq14 hb14 hown4
                        go_wp2_with (at_builtin; refine wpList_append_own_at _ rfl (.tmp 123) (.tmp 129) 48 rfl W3.heap.size 3 ii _ 1 8 Tryz.underlying48 hii hi0 hi1 hi2 rfl (by decide) _ _ _ rfl hown5 ⟨gc, a, none⟩ (D.length - a) (capc - a) (intCells ((D.drop a).map (·.2))) rfl (by simp [intCells]) (book_news_drop_int (hs5'.row hrow3)) (one_int _) (by unfold maxLen; omega) (by omega) (by omega) ?_)
                        intro v6 W6 hown6 hgr6' _ _
                        have hs6' : Same X W6 := (hs5' : Kept X W5 _).grown hgr6' (fun k hk => .inr (by have := (hown5.lt k hk).1; omega))
                        have hown6 : W6.ownsRow W3.heap.size 3 1 v6 (D.length + 1) (intCells ((hole D a (x.word, x.cost)).map (·.2))) := by
                          have e : a + 1 + (D.length - a) = D.length + 1 := by omega
                          rw [e] at hown6
                          simpa [hole, intCells] using hown6
                        obtain ⟨g6, cap6, rfl, _, _, _, _⟩ := row_shape hown6 (by omega)
                        have hb16 := hs6'.cell HB13.out
                        have hf6 : W6.frozen? ⟨w.heap.size, 1, none⟩ = false := (Kept.frozen hs6' (p := ⟨w.heap.size, 1, none⟩) (cell_lt HB13.out) id).trans (by rw [HX.out]; simp only [World.frozen?_setCell]; exact (Kept.frozen hs3' (p := ⟨w.heap.size, 1, none⟩) hBW id).trans (HB4.out.fz 1))
                        have HSR : Hid (SettRel w (W6.setCell ⟨w.heap.size, 1, none⟩ (.slice (some ⟨g6, 0, none⟩) (D.length + 1) cap6)) E v' (.int .i64 ((j : Int) - 1))) := sett_in (a := a) hj HR.out HM.out hMl hDl HB4.out (by rw [← HXE.out]; exact hsame4.row G2.out) (hsame4.below g5 g5.size) (by rw [← HXE.out]; exact HIN.out) (by rw [← HXE.out]; exact HNH.out) (by rw [← HXE.out]; exact HSP.out) hs3' (by rw [← HXE.out]; exact hown3) HX.out hs6' (by rw [← HXE.out]; exact hown6)
                        clear hgr6' hown6 hown5 hown3 hb15 HB4 HX HK3 hrow3
                        go_wp2
                        go_roundw
                        case rel => exact HSR.out
                        case measure => simp [intOf]
                    · have hai : decide ((a : Int) < (D.length : Int)) = false := by simp; omega
                      have HSP : Hid (SplitAt D x.word a) := ⟨ha, HLT.out, fun j h h' => by omega⟩
                      obtain rfl : a = D.length := by omega
                      rcases Nat.lt_or_ge D.length capw with hcw | hcw
                      · have hcw' : ¬ capw = D.length := by omega
                        rcases Nat.lt_or_ge D.length capc with hcc | hcc
                        · have hcc' : ¬ capc = D.length := by omega
                          go_wp2_with fail
                          go_quiet (fail)
                          generalize hW : w3.drewN nq = W
                          have hsame4 : Same w2 W := by rw [← hW]; exact Kept.drewN hsame3 nq
                          clear hW hsame3 hb0 hb1 hbf hy0 hy1 HB3
                          have HB4 : Hid (BookAt W w.heap.size D (.slice (some ⟨gw, 0, none⟩) D.length capw) (.slice (some ⟨gc, 0, none⟩) D.length capc)) := hsame4.book G1.out
                          have hb0 := HB4.out.c0
                          have hBW : w.heap.size < W.heap.size := cell_lt hb0
                          have hgwW : gw < W.heap.size := (HB4.out.ow.lt gw rfl).2
                          have hgcW : gc < W.heap.size := (HB4.out.oc.lt gc rfl).2
                          have hy0 := hsame4.cell hz0
                          have hy1 := hsame4.cell hz1
                          have hzz1 := hz1
                          go_wp2_with (at_builtin; refine wpList_append_own_at _ rfl (.tmp 79) (.tmp 85) 30 rfl W.heap.size 9 is _ 1 16 Tryz.underlying30 his hs0 hs1 hs2 rfl (by decide) _ _ _ rfl (World.ownsRow_nil _ _ _ _) ⟨gw, 0, none⟩ D.length capw (strCells ((D.take D.length).map (·.1))) rfl (by simp [strCells]) (book_news HB4.out.ow ha) (one_str _) (by unfold maxLen; omega) (by omega) (Nat.le_refl _) ?_)
                          intro v1 W1 hown1 hgr1' _ _
                          have hs1' : Same W W1 := (Kept.refl W _).grown hgr1' (fun k hk => by cases hk)
                          have hown1 : W1.ownsRow W.heap.size 9 1 v1 D.length (strCells ((D.take D.length).map (·.1))) := by simpa using hown1
                          have hz1s := hs1'.size
                          have hq0 := hs1'.cell hy0
                          have hq1 := hs1'.cell hy1
                          have hb01 := hs1'.cell hb0
                          clear hgr1' hy0 hy1 hb0
                          go_wp2_with (at_builtin; refine wpList_append_own_at _ rfl (.tmp 87) (.tmp 93) 30 rfl W.heap.size 9 is _ 1 16 Tryz.underlying30 his hs0 hs1 hs2 rfl (by decide) _ _ _ rfl (hown1.alloc _) ⟨W1.heap.size, 0, none⟩ 1 1 [.string x.word] rfl rfl (cell_one_new _ _ _) (one1 _) (by unfold maxLen; omega) (by omega) (by simp; omega) ?_)
                          intro v2 W2 hown2 hgr2' _ _
                          have hs2' : Same W W2 := ((hs1' : Kept W W1 _).alloc _).grown hgr2' (fun k hk => .inr (hown1.lt k hk).1)
                          have hz2s := hs2'.size
                          have hb02 : W2.cell? ⟨w.heap.size, 0, none⟩ = some (.slice (some ⟨gw, 0, none⟩) D.length capw) := hs2'.cell HB4.out.c0
                          clear hgr2' hb01 hq0 hq1 hown1
                          have hown2 : W2.ownsRow W.heap.size 9 1 v2 (D.length + 1) (strCells ((D.take D.length).map (·.1)) ++ [.string x.word]) := by simpa using hown2
                          go_wp2_with (at_builtin; refine wpList_append_own_at _ rfl (.tmp 96) (.tmp 102) 30 rfl W.heap.size 9 is _ 1 16 Tryz.underlying30 his hs0 hs1 hs2 rfl (by decide) _ _ _ rfl hown2 _ 0 _ [] rfl rfl (fun j u h => by simp at h) (fun u h => by cases h) (by unfold maxLen; omega) (by omega) (by omega) ?_)
                          intro v3 W3 hown3 hgr3' _ _
                          have hs3' : Same W W3 := (hs2' : Kept W W2 _).grown hgr3' (fun k hk => .inr (hown2.lt k hk).1)
                          have hz3 := hs3'.size
                          have hown3 : W3.ownsRow W.heap.size 9 1 v3 (D.length + 1) (strCells ((hole D D.length (x.word, x.cost)).map (·.1))) := by
                            simpa [hole, strCells] using hown3
                          obtain ⟨g3, cap3, rfl, hg31, hg32, hg33, hg34⟩ := row_shape hown3 (by omega)
                          have hb03 : W3.cell? ⟨w.heap.size, 0, none⟩ = some (.slice (some ⟨gw, 0, none⟩) D.length capw) := hs3'.cell HB4.out.c0
                          have hf3 : W3.frozen? ⟨w.heap.size, 0, none⟩ = false := (Kept.frozen hs3' (p := ⟨w.heap.size, 0, none⟩) hBW id).trans (HB4.out.fz 0)
                          obtain ⟨X, hX⟩ : ∃ X, X = W3.setCell ⟨w.heap.size, 0, none⟩ (.slice (some ⟨g3, 0, none⟩) (D.length + 1) cap3) := ⟨_, rfl⟩
                          have hK3 : Kept W (W3.setCell ⟨w.heap.size, 0, none⟩ (.slice (some ⟨g3, 0, none⟩) (D.length + 1) cap3)) (fun k => k = w.heap.size) := (hs3'.mono (T := fun k => k = w.heap.size) (fun _ e => e.elim)).setCell _ _ (.inl rfl)
                          have hb13 : (W3.setCell ⟨w.heap.size, 0, none⟩ (.slice (some ⟨g3, 0, none⟩) (D.length + 1) cap3)).cell? ⟨w.heap.size, 1, none⟩ = some (.slice (some ⟨gc, 0, none⟩) D.length capc) := (World.cell?_setCell_other _ _ _ _ (by intro e; simp at e)).trans (hs3'.cell HB4.out.c1)
                          have hq13 : (W3.setCell ⟨w.heap.size, 0, none⟩ (.slice (some ⟨g3, 0, none⟩) (D.length + 1) cap3)).cell? ⟨gr, j * 2 + 1, none⟩ = some (.int .i64 x.cost) := (hK3.cell (p := ⟨gr, j * 2 + 1, none⟩) (by show gr < _; omega) (fun e => by have e' : gr = w.heap.size := e; omega)).trans (hsame4.cell hzz1)
                          have hrow3 : (W3.setCell ⟨w.heap.size, 0, none⟩ (.slice (some ⟨g3, 0, none⟩) (D.length + 1) cap3)).ownsRow (w.heap.size + 1) 3 1 (.slice (some ⟨gc, 0, none⟩) D.length capc) D.length (intCells (D.map (·.2))) := Kept.row HB4.out.oc hK3 (fun k hk e => by cases hk; have e' : gc = w.heap.size := e; omega)
                          have hzX : X.heap.size = W3.heap.size := by rw [hX]; simp [World.setCell]
                          rw [← hX] at hK3 hb13 hq13 hrow3
                          have HX : Hid (X = W3.setCell ⟨w.heap.size, 0, none⟩ (.slice (some ⟨g3, 0, none⟩) (D.length + 1) cap3)) := hX
                          have HK3 : Hid (Kept W X (fun k => k = w.heap.size)) := hK3
                          clear hgr3' hb02 hown2 hK3
                          have hX' := hX.symm
                          clear hX
                          go_wp2_with (at_builtin; refine wpList_append_own_at _ rfl (.tmp 106) (.tmp 112) 48 rfl W3.heap.size 3 ii _ 1 8 Tryz.underlying48 hii hi0 hi1 hi2 rfl (by decide) _ _ _ rfl (World.ownsRow_nil _ _ _ _) ⟨gc, 0, none⟩ D.length capc (intCells ((D.take D.length).map (·.2))) rfl (by simp [intCells]) (book_news_int hrow3 ha) (one_int _) (by unfold maxLen; omega) (by omega) (by omega) ?_)
                          intro v4 W4 hown4 hgr4' _ _
                          have hs4' : Same X W4 := (Kept.refl X _).grown hgr4' (fun k hk => by cases hk)
                          have hown4 : W4.ownsRow W3.heap.size 3 1 v4 D.length (intCells ((D.take D.length).map (·.2))) := by simpa using hown4
                          have hz4s := hs4'.size
                          have hq14 := hs4'.cell hq13
                          have hb14 := hs4'.cell hb13
                          have HB13 : Hid (X.cell? ⟨w.heap.size, 1, none⟩ = some (.slice (some ⟨gc, 0, none⟩) D.length capc)) := hb13
                          clear hgr4' hq13 hb13 hX'
                          go_wp2_with (at_builtin; refine wpList_append_own_at _ rfl (.tmp 114) (.tmp 120) 48 rfl W3.heap.size 3 ii _ 1 8 Tryz.underlying48 hii hi0 hi1 hi2 rfl (by decide) _ _ _ rfl (hown4.alloc _) ⟨W4.heap.size, 0, none⟩ 1 1 [.int .i64 x.cost] rfl rfl (cell_one_new _ _ _) (one1i _) (by unfold maxLen; omega) (by omega) (by simp; omega) ?_)
                          intro v5 W5 hown5 hgr5' _ _
                          have hs5' : Same X W5 := ((hs4' : Kept X W4 _).alloc _).grown hgr5' (fun k hk => .inr (by have := (hown4.lt k hk).1; omega))
                          have hown5 : W5.ownsRow W3.heap.size 3 1 v5 (D.length + 1) (intCells ((D.take D.length).map (·.2)) ++ [.int .i64 x.cost]) := by simpa using hown5
                          have hz5s := hs5'.size
                          have hb15 := hs5'.cell HB13.out
                          clear hgr5' hq14 hb14 hown4
                          go_wp2_with (at_builtin; refine wpList_append_own_at _ rfl (.tmp 123) (.tmp 129) 48 rfl W3.heap.size 3 ii _ 1 8 Tryz.underlying48 hii hi0 hi1 hi2 rfl (by decide) _ _ _ rfl hown5 _ 0 _ [] rfl rfl (fun j u h => by simp at h) (fun u h => by cases h) (by unfold maxLen; omega) (by omega) (by omega) ?_)
                          intro v6 W6 hown6 hgr6' _ _
                          have hs6' : Same X W6 := (hs5' : Kept X W5 _).grown hgr6' (fun k hk => .inr (by have := (hown5.lt k hk).1; omega))
                          have hown6 : W6.ownsRow W3.heap.size 3 1 v6 (D.length + 1) (intCells ((hole D D.length (x.word, x.cost)).map (·.2))) := by
                            simpa [hole, intCells] using hown6
                          obtain ⟨g6, cap6, rfl, _, _, _, _⟩ := row_shape hown6 (by omega)
                          have hb16 := hs6'.cell HB13.out
                          have hf6 : W6.frozen? ⟨w.heap.size, 1, none⟩ = false := (Kept.frozen hs6' (p := ⟨w.heap.size, 1, none⟩) (cell_lt HB13.out) id).trans (by rw [HX.out]; simp only [World.frozen?_setCell]; exact (Kept.frozen hs3' (p := ⟨w.heap.size, 1, none⟩) hBW id).trans (HB4.out.fz 1))
                          have HSR : Hid (SettRel w (W6.setCell ⟨w.heap.size, 1, none⟩ (.slice (some ⟨g6, 0, none⟩) (D.length + 1) cap6)) E v' (.int .i64 ((j : Int) - 1))) := sett_in (a := D.length) hj HR.out HM.out hMl hDl HB4.out (by rw [← HXE.out]; exact hsame4.row G2.out) (hsame4.below g5 g5.size) (by rw [← HXE.out]; exact HIN.out) (by rw [← HXE.out]; exact HNH.out) (by rw [← HXE.out]; exact HSP.out) hs3' (by rw [← HXE.out]; exact hown3) HX.out hs6' (by rw [← HXE.out]; exact hown6)
                          clear hgr6' hown6 hown5 hown3 hb15 HB4 HX HK3 hrow3
                          go_wp2
                          go_roundw
                          case rel => exact HSR.out
                          case measure => simp [intOf]
                        · obtain rfl : capc = D.length := by omega
                          go_wp2_with fail
                          go_quiet (fail)
                          generalize hW : w3.drewN nq = W
                          have hsame4 : Same w2 W := by rw [← hW]; exact Kept.drewN hsame3 nq
                          clear hW hsame3 hb0 hb1 hbf hy0 hy1 HB3
                          have HB4 : Hid (BookAt W w.heap.size D (.slice (some ⟨gw, 0, none⟩) D.length capw) (.slice (some ⟨gc, 0, none⟩) D.length D.length)) := hsame4.book G1.out
                          have hb0 := HB4.out.c0
                          have hBW : w.heap.size < W.heap.size := cell_lt hb0
                          have hgwW : gw < W.heap.size := (HB4.out.ow.lt gw rfl).2
                          have hgcW : gc < W.heap.size := (HB4.out.oc.lt gc rfl).2
                          have hy0 := hsame4.cell hz0
                          have hy1 := hsame4.cell hz1
                          have hzz1 := hz1
                          go_wp2_with (at_builtin; refine wpList_append_own_at _ rfl (.tmp 79) (.tmp 85) 30 rfl W.heap.size 9 is _ 1 16 Tryz.underlying30 his hs0 hs1 hs2 rfl (by decide) _ _ _ rfl (World.ownsRow_nil _ _ _ _) ⟨gw, 0, none⟩ D.length capw (strCells ((D.take D.length).map (·.1))) rfl (by simp [strCells]) (book_news HB4.out.ow ha) (one_str _) (by unfold maxLen; omega) (by omega) (Nat.le_refl _) ?_)
                          intro v1 W1 hown1 hgr1' _ _
                          have hs1' : Same W W1 := (Kept.refl W _).grown hgr1' (fun k hk => by cases hk)
                          have hown1 : W1.ownsRow W.heap.size 9 1 v1 D.length (strCells ((D.take D.length).map (·.1))) := by simpa using hown1
                          have hz1s := hs1'.size
                          have hq0 := hs1'.cell hy0
                          have hq1 := hs1'.cell hy1
                          have hb01 := hs1'.cell hb0
                          clear hgr1' hy0 hy1 hb0
                          go_wp2_with (at_builtin; refine wpList_append_own_at _ rfl (.tmp 87) (.tmp 93) 30 rfl W.heap.size 9 is _ 1 16 Tryz.underlying30 his hs0 hs1 hs2 rfl (by decide) _ _ _ rfl (hown1.alloc _) ⟨W1.heap.size, 0, none⟩ 1 1 [.string x.word] rfl rfl (cell_one_new _ _ _) (one1 _) (by unfold maxLen; omega) (by omega) (by simp; omega) ?_)
                          intro v2 W2 hown2 hgr2' _ _
                          have hs2' : Same W W2 := ((hs1' : Kept W W1 _).alloc _).grown hgr2' (fun k hk => .inr (hown1.lt k hk).1)
                          have hz2s := hs2'.size
                          have hb02 : W2.cell? ⟨w.heap.size, 0, none⟩ = some (.slice (some ⟨gw, 0, none⟩) D.length capw) := hs2'.cell HB4.out.c0
                          clear hgr2' hb01 hq0 hq1 hown1
                          have hown2 : W2.ownsRow W.heap.size 9 1 v2 (D.length + 1) (strCells ((D.take D.length).map (·.1)) ++ [.string x.word]) := by simpa using hown2
                          go_wp2_with (at_builtin; refine wpList_append_own_at _ rfl (.tmp 96) (.tmp 102) 30 rfl W.heap.size 9 is _ 1 16 Tryz.underlying30 his hs0 hs1 hs2 rfl (by decide) _ _ _ rfl hown2 _ 0 _ [] rfl rfl (fun j u h => by simp at h) (fun u h => by cases h) (by unfold maxLen; omega) (by omega) (by omega) ?_)
                          intro v3 W3 hown3 hgr3' _ _
                          have hs3' : Same W W3 := (hs2' : Kept W W2 _).grown hgr3' (fun k hk => .inr (hown2.lt k hk).1)
                          have hz3 := hs3'.size
                          have hown3 : W3.ownsRow W.heap.size 9 1 v3 (D.length + 1) (strCells ((hole D D.length (x.word, x.cost)).map (·.1))) := by
                            simpa [hole, strCells] using hown3
                          obtain ⟨g3, cap3, rfl, hg31, hg32, hg33, hg34⟩ := row_shape hown3 (by omega)
                          have hb03 : W3.cell? ⟨w.heap.size, 0, none⟩ = some (.slice (some ⟨gw, 0, none⟩) D.length capw) := hs3'.cell HB4.out.c0
                          have hf3 : W3.frozen? ⟨w.heap.size, 0, none⟩ = false := (Kept.frozen hs3' (p := ⟨w.heap.size, 0, none⟩) hBW id).trans (HB4.out.fz 0)
                          obtain ⟨X, hX⟩ : ∃ X, X = W3.setCell ⟨w.heap.size, 0, none⟩ (.slice (some ⟨g3, 0, none⟩) (D.length + 1) cap3) := ⟨_, rfl⟩
                          have hK3 : Kept W (W3.setCell ⟨w.heap.size, 0, none⟩ (.slice (some ⟨g3, 0, none⟩) (D.length + 1) cap3)) (fun k => k = w.heap.size) := (hs3'.mono (T := fun k => k = w.heap.size) (fun _ e => e.elim)).setCell _ _ (.inl rfl)
                          have hb13 : (W3.setCell ⟨w.heap.size, 0, none⟩ (.slice (some ⟨g3, 0, none⟩) (D.length + 1) cap3)).cell? ⟨w.heap.size, 1, none⟩ = some (.slice (some ⟨gc, 0, none⟩) D.length D.length) := (World.cell?_setCell_other _ _ _ _ (by intro e; simp at e)).trans (hs3'.cell HB4.out.c1)
                          have hq13 : (W3.setCell ⟨w.heap.size, 0, none⟩ (.slice (some ⟨g3, 0, none⟩) (D.length + 1) cap3)).cell? ⟨gr, j * 2 + 1, none⟩ = some (.int .i64 x.cost) := (hK3.cell (p := ⟨gr, j * 2 + 1, none⟩) (by show gr < _; omega) (fun e => by have e' : gr = w.heap.size := e; omega)).trans (hsame4.cell hzz1)
                          have hrow3 : (W3.setCell ⟨w.heap.size, 0, none⟩ (.slice (some ⟨g3, 0, none⟩) (D.length + 1) cap3)).ownsRow (w.heap.size + 1) 3 1 (.slice (some ⟨gc, 0, none⟩) D.length D.length) D.length (intCells (D.map (·.2))) := Kept.row HB4.out.oc hK3 (fun k hk e => by cases hk; have e' : gc = w.heap.size := e; omega)
                          have hzX : X.heap.size = W3.heap.size := by rw [hX]; simp [World.setCell]
                          rw [← hX] at hK3 hb13 hq13 hrow3
                          have HX : Hid (X = W3.setCell ⟨w.heap.size, 0, none⟩ (.slice (some ⟨g3, 0, none⟩) (D.length + 1) cap3)) := hX
                          have HK3 : Hid (Kept W X (fun k => k = w.heap.size)) := hK3
                          clear hgr3' hb02 hown2 hK3
                          have hX' := hX.symm
                          clear hX
                          go_wp2_with (at_builtin; refine wpList_append_own_at _ rfl (.tmp 106) (.tmp 112) 48 rfl W3.heap.size 3 ii _ 1 8 Tryz.underlying48 hii hi0 hi1 hi2 rfl (by decide) _ _ _ rfl (World.ownsRow_nil _ _ _ _) ⟨gc, 0, none⟩ D.length D.length (intCells ((D.take D.length).map (·.2))) rfl (by simp [intCells]) (book_news_int hrow3 ha) (one_int _) (by unfold maxLen; omega) (by omega) (by omega) ?_)
                          intro v4 W4 hown4 hgr4' _ _
                          have hs4' : Same X W4 := (Kept.refl X _).grown hgr4' (fun k hk => by cases hk)
                          have hown4 : W4.ownsRow W3.heap.size 3 1 v4 D.length (intCells ((D.take D.length).map (·.2))) := by simpa using hown4
                          have hz4s := hs4'.size
                          have hq14 := hs4'.cell hq13
                          have hb14 := hs4'.cell hb13
                          have HB13 : Hid (X.cell? ⟨w.heap.size, 1, none⟩ = some (.slice (some ⟨gc, 0, none⟩) D.length D.length)) := hb13
                          clear hgr4' hq13 hb13 hX'
                          go_wp2_with (at_builtin; refine wpList_append_own_at _ rfl (.tmp 114) (.tmp 120) 48 rfl W3.heap.size 3 ii _ 1 8 Tryz.underlying48 hii hi0 hi1 hi2 rfl (by decide) _ _ _ rfl (hown4.alloc _) ⟨W4.heap.size, 0, none⟩ 1 1 [.int .i64 x.cost] rfl rfl (cell_one_new _ _ _) (one1i _) (by unfold maxLen; omega) (by omega) (by simp; omega) ?_)
                          intro v5 W5 hown5 hgr5' _ _
                          have hs5' : Same X W5 := ((hs4' : Kept X W4 _).alloc _).grown hgr5' (fun k hk => .inr (by have := (hown4.lt k hk).1; omega))
                          have hown5 : W5.ownsRow W3.heap.size 3 1 v5 (D.length + 1) (intCells ((D.take D.length).map (·.2)) ++ [.int .i64 x.cost]) := by simpa using hown5
                          have hz5s := hs5'.size
                          have hb15 := hs5'.cell HB13.out
                          clear hgr5' hq14 hb14 hown4
                          go_wp2_with (at_builtin; refine wpList_append_own_at _ rfl (.tmp 123) (.tmp 129) 48 rfl W3.heap.size 3 ii _ 1 8 Tryz.underlying48 hii hi0 hi1 hi2 rfl (by decide) _ _ _ rfl hown5 _ 0 _ [] rfl rfl (fun j u h => by simp at h) (fun u h => by cases h) (by unfold maxLen; omega) (by omega) (by omega) ?_)
                          intro v6 W6 hown6 hgr6' _ _
                          have hs6' : Same X W6 := (hs5' : Kept X W5 _).grown hgr6' (fun k hk => .inr (by have := (hown5.lt k hk).1; omega))
                          have hown6 : W6.ownsRow W3.heap.size 3 1 v6 (D.length + 1) (intCells ((hole D D.length (x.word, x.cost)).map (·.2))) := by
                            simpa [hole, intCells] using hown6
                          obtain ⟨g6, cap6, rfl, _, _, _, _⟩ := row_shape hown6 (by omega)
                          have hb16 := hs6'.cell HB13.out
                          have hf6 : W6.frozen? ⟨w.heap.size, 1, none⟩ = false := (Kept.frozen hs6' (p := ⟨w.heap.size, 1, none⟩) (cell_lt HB13.out) id).trans (by rw [HX.out]; simp only [World.frozen?_setCell]; exact (Kept.frozen hs3' (p := ⟨w.heap.size, 1, none⟩) hBW id).trans (HB4.out.fz 1))
                          have HSR : Hid (SettRel w (W6.setCell ⟨w.heap.size, 1, none⟩ (.slice (some ⟨g6, 0, none⟩) (D.length + 1) cap6)) E v' (.int .i64 ((j : Int) - 1))) := sett_in (a := D.length) hj HR.out HM.out hMl hDl HB4.out (by rw [← HXE.out]; exact hsame4.row G2.out) (hsame4.below g5 g5.size) (by rw [← HXE.out]; exact HIN.out) (by rw [← HXE.out]; exact HNH.out) (by rw [← HXE.out]; exact HSP.out) hs3' (by rw [← HXE.out]; exact hown3) HX.out hs6' (by rw [← HXE.out]; exact hown6)
                          clear hgr6' hown6 hown5 hown3 hb15 HB4 HX HK3 hrow3
                          go_wp2
                          go_roundw
                          case rel => exact HSR.out
                          case measure => simp [intOf]
                      · obtain rfl : capw = D.length := by omega
                        rcases Nat.lt_or_ge D.length capc with hcc | hcc
                        · have hcc' : ¬ capc = D.length := by omega
                          go_wp2_with fail
                          go_quiet (fail)
                          generalize hW : w3.drewN nq = W
                          have hsame4 : Same w2 W := by rw [← hW]; exact Kept.drewN hsame3 nq
                          clear hW hsame3 hb0 hb1 hbf hy0 hy1 HB3
                          have HB4 : Hid (BookAt W w.heap.size D (.slice (some ⟨gw, 0, none⟩) D.length D.length) (.slice (some ⟨gc, 0, none⟩) D.length capc)) := hsame4.book G1.out
                          have hb0 := HB4.out.c0
                          have hBW : w.heap.size < W.heap.size := cell_lt hb0
                          have hgwW : gw < W.heap.size := (HB4.out.ow.lt gw rfl).2
                          have hgcW : gc < W.heap.size := (HB4.out.oc.lt gc rfl).2
                          have hy0 := hsame4.cell hz0
                          have hy1 := hsame4.cell hz1
                          have hzz1 := hz1
                          go_wp2_with (at_builtin; refine wpList_append_own_at _ rfl (.tmp 79) (.tmp 85) 30 rfl W.heap.size 9 is _ 1 16 Tryz.underlying30 his hs0 hs1 hs2 rfl (by decide) _ _ _ rfl (World.ownsRow_nil _ _ _ _) ⟨gw, 0, none⟩ D.length D.length (strCells ((D.take D.length).map (·.1))) rfl (by simp [strCells]) (book_news HB4.out.ow ha) (one_str _) (by unfold maxLen; omega) (by omega) (Nat.le_refl _) ?_)
                          intro v1 W1 hown1 hgr1' _ _
                          have hs1' : Same W W1 := (Kept.refl W _).grown hgr1' (fun k hk => by cases hk)
                          have hown1 : W1.ownsRow W.heap.size 9 1 v1 D.length (strCells ((D.take D.length).map (·.1))) := by simpa using hown1
                          have hz1s := hs1'.size
                          have hq0 := hs1'.cell hy0
                          have hq1 := hs1'.cell hy1
                          have hb01 := hs1'.cell hb0
                          clear hgr1' hy0 hy1 hb0
                          go_wp2_with (at_builtin; refine wpList_append_own_at _ rfl (.tmp 87) (.tmp 93) 30 rfl W.heap.size 9 is _ 1 16 Tryz.underlying30 his hs0 hs1 hs2 rfl (by decide) _ _ _ rfl (hown1.alloc _) ⟨W1.heap.size, 0, none⟩ 1 1 [.string x.word] rfl rfl (cell_one_new _ _ _) (one1 _) (by unfold maxLen; omega) (by omega) (by simp; omega) ?_)
                          intro v2 W2 hown2 hgr2' _ _
                          have hs2' : Same W W2 := ((hs1' : Kept W W1 _).alloc _).grown hgr2' (fun k hk => .inr (hown1.lt k hk).1)
                          have hz2s := hs2'.size
                          have hb02 : W2.cell? ⟨w.heap.size, 0, none⟩ = some (.slice (some ⟨gw, 0, none⟩) D.length D.length) := hs2'.cell HB4.out.c0
                          clear hgr2' hb01 hq0 hq1 hown1
                          have hown2 : W2.ownsRow W.heap.size 9 1 v2 (D.length + 1) (strCells ((D.take D.length).map (·.1)) ++ [.string x.word]) := by simpa using hown2
                          go_wp2_with (at_builtin; refine wpList_append_own_at _ rfl (.tmp 96) (.tmp 102) 30 rfl W.heap.size 9 is _ 1 16 Tryz.underlying30 his hs0 hs1 hs2 rfl (by decide) _ _ _ rfl hown2 _ 0 _ [] rfl rfl (fun j u h => by simp at h) (fun u h => by cases h) (by unfold maxLen; omega) (by omega) (by omega) ?_)
                          intro v3 W3 hown3 hgr3' _ _
                          have hs3' : Same W W3 := (hs2' : Kept W W2 _).grown hgr3' (fun k hk => .inr (hown2.lt k hk).1)
                          have hz3 := hs3'.size
                          have hown3 : W3.ownsRow W.heap.size 9 1 v3 (D.length + 1) (strCells ((hole D D.length (x.word, x.cost)).map (·.1))) := by
                            simpa [hole, strCells] using hown3
                          obtain ⟨g3, cap3, rfl, hg31, hg32, hg33, hg34⟩ := row_shape hown3 (by omega)
                          have hb03 : W3.cell? ⟨w.heap.size, 0, none⟩ = some (.slice (some ⟨gw, 0, none⟩) D.length D.length) := hs3'.cell HB4.out.c0
                          have hf3 : W3.frozen? ⟨w.heap.size, 0, none⟩ = false := (Kept.frozen hs3' (p := ⟨w.heap.size, 0, none⟩) hBW id).trans (HB4.out.fz 0)
                          obtain ⟨X, hX⟩ : ∃ X, X = W3.setCell ⟨w.heap.size, 0, none⟩ (.slice (some ⟨g3, 0, none⟩) (D.length + 1) cap3) := ⟨_, rfl⟩
                          have hK3 : Kept W (W3.setCell ⟨w.heap.size, 0, none⟩ (.slice (some ⟨g3, 0, none⟩) (D.length + 1) cap3)) (fun k => k = w.heap.size) := (hs3'.mono (T := fun k => k = w.heap.size) (fun _ e => e.elim)).setCell _ _ (.inl rfl)
                          have hb13 : (W3.setCell ⟨w.heap.size, 0, none⟩ (.slice (some ⟨g3, 0, none⟩) (D.length + 1) cap3)).cell? ⟨w.heap.size, 1, none⟩ = some (.slice (some ⟨gc, 0, none⟩) D.length capc) := (World.cell?_setCell_other _ _ _ _ (by intro e; simp at e)).trans (hs3'.cell HB4.out.c1)
                          have hq13 : (W3.setCell ⟨w.heap.size, 0, none⟩ (.slice (some ⟨g3, 0, none⟩) (D.length + 1) cap3)).cell? ⟨gr, j * 2 + 1, none⟩ = some (.int .i64 x.cost) := (hK3.cell (p := ⟨gr, j * 2 + 1, none⟩) (by show gr < _; omega) (fun e => by have e' : gr = w.heap.size := e; omega)).trans (hsame4.cell hzz1)
                          have hrow3 : (W3.setCell ⟨w.heap.size, 0, none⟩ (.slice (some ⟨g3, 0, none⟩) (D.length + 1) cap3)).ownsRow (w.heap.size + 1) 3 1 (.slice (some ⟨gc, 0, none⟩) D.length capc) D.length (intCells (D.map (·.2))) := Kept.row HB4.out.oc hK3 (fun k hk e => by cases hk; have e' : gc = w.heap.size := e; omega)
                          have hzX : X.heap.size = W3.heap.size := by rw [hX]; simp [World.setCell]
                          rw [← hX] at hK3 hb13 hq13 hrow3
                          have HX : Hid (X = W3.setCell ⟨w.heap.size, 0, none⟩ (.slice (some ⟨g3, 0, none⟩) (D.length + 1) cap3)) := hX
                          have HK3 : Hid (Kept W X (fun k => k = w.heap.size)) := hK3
                          clear hgr3' hb02 hown2 hK3
                          have hX' := hX.symm
                          clear hX
                          go_wp2_with (at_builtin; refine wpList_append_own_at _ rfl (.tmp 106) (.tmp 112) 48 rfl W3.heap.size 3 ii _ 1 8 Tryz.underlying48 hii hi0 hi1 hi2 rfl (by decide) _ _ _ rfl (World.ownsRow_nil _ _ _ _) ⟨gc, 0, none⟩ D.length capc (intCells ((D.take D.length).map (·.2))) rfl (by simp [intCells]) (book_news_int hrow3 ha) (one_int _) (by unfold maxLen; omega) (by omega) (by omega) ?_)
                          intro v4 W4 hown4 hgr4' _ _
                          have hs4' : Same X W4 := (Kept.refl X _).grown hgr4' (fun k hk => by cases hk)
                          have hown4 : W4.ownsRow W3.heap.size 3 1 v4 D.length (intCells ((D.take D.length).map (·.2))) := by simpa using hown4
                          have hz4s := hs4'.size
                          have hq14 := hs4'.cell hq13
                          have hb14 := hs4'.cell hb13
                          have HB13 : Hid (X.cell? ⟨w.heap.size, 1, none⟩ = some (.slice (some ⟨gc, 0, none⟩) D.length capc)) := hb13
                          clear hgr4' hq13 hb13 hX'
                          go_wp2_with (at_builtin; refine wpList_append_own_at _ rfl (.tmp 114) (.tmp 120) 48 rfl W3.heap.size 3 ii _ 1 8 Tryz.underlying48 hii hi0 hi1 hi2 rfl (by decide) _ _ _ rfl (hown4.alloc _) ⟨W4.heap.size, 0, none⟩ 1 1 [.int .i64 x.cost] rfl rfl (cell_one_new _ _ _) (one1i _) (by unfold maxLen; omega) (by omega) (by simp; omega) ?_)
                          intro v5 W5 hown5 hgr5' _ _
                          have hs5' : Same X W5 := ((hs4' : Kept X W4 _).alloc _).grown hgr5' (fun k hk => .inr (by have := (hown4.lt k hk).1; omega))
                          have hown5 : W5.ownsRow W3.heap.size 3 1 v5 (D.length + 1) (intCells ((D.take D.length).map (·.2)) ++ [.int .i64 x.cost]) := by simpa using hown5
                          have hz5s := hs5'.size
                          have hb15 := hs5'.cell HB13.out
                          clear hgr5' hq14 hb14 hown4
                          go_wp2_with (at_builtin; refine wpList_append_own_at _ rfl (.tmp 123) (.tmp 129) 48 rfl W3.heap.size 3 ii _ 1 8 Tryz.underlying48 hii hi0 hi1 hi2 rfl (by decide) _ _ _ rfl hown5 _ 0 _ [] rfl rfl (fun j u h => by simp at h) (fun u h => by cases h) (by unfold maxLen; omega) (by omega) (by omega) ?_)
                          intro v6 W6 hown6 hgr6' _ _
                          have hs6' : Same X W6 := (hs5' : Kept X W5 _).grown hgr6' (fun k hk => .inr (by have := (hown5.lt k hk).1; omega))
                          have hown6 : W6.ownsRow W3.heap.size 3 1 v6 (D.length + 1) (intCells ((hole D D.length (x.word, x.cost)).map (·.2))) := by
                            simpa [hole, intCells] using hown6
                          obtain ⟨g6, cap6, rfl, _, _, _, _⟩ := row_shape hown6 (by omega)
                          have hb16 := hs6'.cell HB13.out
                          have hf6 : W6.frozen? ⟨w.heap.size, 1, none⟩ = false := (Kept.frozen hs6' (p := ⟨w.heap.size, 1, none⟩) (cell_lt HB13.out) id).trans (by rw [HX.out]; simp only [World.frozen?_setCell]; exact (Kept.frozen hs3' (p := ⟨w.heap.size, 1, none⟩) hBW id).trans (HB4.out.fz 1))
                          have HSR : Hid (SettRel w (W6.setCell ⟨w.heap.size, 1, none⟩ (.slice (some ⟨g6, 0, none⟩) (D.length + 1) cap6)) E v' (.int .i64 ((j : Int) - 1))) := sett_in (a := D.length) hj HR.out HM.out hMl hDl HB4.out (by rw [← HXE.out]; exact hsame4.row G2.out) (hsame4.below g5 g5.size) (by rw [← HXE.out]; exact HIN.out) (by rw [← HXE.out]; exact HNH.out) (by rw [← HXE.out]; exact HSP.out) hs3' (by rw [← HXE.out]; exact hown3) HX.out hs6' (by rw [← HXE.out]; exact hown6)
                          clear hgr6' hown6 hown5 hown3 hb15 HB4 HX HK3 hrow3
                          go_wp2
                          go_roundw
                          case rel => exact HSR.out
                          case measure => simp [intOf]
                        · obtain rfl : capc = D.length := by omega
                          go_wp2_with fail
                          go_quiet (fail)
                          generalize hW : w3.drewN nq = W
                          have hsame4 : Same w2 W := by rw [← hW]; exact Kept.drewN hsame3 nq
                          clear hW hsame3 hb0 hb1 hbf hy0 hy1 HB3
                          have HB4 : Hid (BookAt W w.heap.size D (.slice (some ⟨gw, 0, none⟩) D.length D.length) (.slice (some ⟨gc, 0, none⟩) D.length D.length)) := hsame4.book G1.out
                          have hb0 := HB4.out.c0
                          have hBW : w.heap.size < W.heap.size := cell_lt hb0
                          have hgwW : gw < W.heap.size := (HB4.out.ow.lt gw rfl).2
                          have hgcW : gc < W.heap.size := (HB4.out.oc.lt gc rfl).2
                          have hy0 := hsame4.cell hz0
                          have hy1 := hsame4.cell hz1
                          have hzz1 := hz1
                          go_wp2_with (at_builtin; refine wpList_append_own_at _ rfl (.tmp 79) (.tmp 85) 30 rfl W.heap.size 9 is _ 1 16 Tryz.underlying30 his hs0 hs1 hs2 rfl (by decide) _ _ _ rfl (World.ownsRow_nil _ _ _ _) ⟨gw, 0, none⟩ D.length D.length (strCells ((D.take D.length).map (·.1))) rfl (by simp [strCells]) (book_news HB4.out.ow ha) (one_str _) (by unfold maxLen; omega) (by omega) (Nat.le_refl _) ?_)
                          intro v1 W1 hown1 hgr1' _ _
                          have hs1' : Same W W1 := (Kept.refl W _).grown hgr1' (fun k hk => by cases hk)
                          have hown1 : W1.ownsRow W.heap.size 9 1 v1 D.length (strCells ((D.take D.length).map (·.1))) := by simpa using hown1
                          have hz1s := hs1'.size
                          have hq0 := hs1'.cell hy0
                          have hq1 := hs1'.cell hy1
                          have hb01 := hs1'.cell hb0
                          clear hgr1' hy0 hy1 hb0
                          go_wp2_with (at_builtin; refine wpList_append_own_at _ rfl (.tmp 87) (.tmp 93) 30 rfl W.heap.size 9 is _ 1 16 Tryz.underlying30 his hs0 hs1 hs2 rfl (by decide) _ _ _ rfl (hown1.alloc _) ⟨W1.heap.size, 0, none⟩ 1 1 [.string x.word] rfl rfl (cell_one_new _ _ _) (one1 _) (by unfold maxLen; omega) (by omega) (by simp; omega) ?_)
                          intro v2 W2 hown2 hgr2' _ _
                          have hs2' : Same W W2 := ((hs1' : Kept W W1 _).alloc _).grown hgr2' (fun k hk => .inr (hown1.lt k hk).1)
                          have hz2s := hs2'.size
                          have hb02 : W2.cell? ⟨w.heap.size, 0, none⟩ = some (.slice (some ⟨gw, 0, none⟩) D.length D.length) := hs2'.cell HB4.out.c0
                          clear hgr2' hb01 hq0 hq1 hown1
                          have hown2 : W2.ownsRow W.heap.size 9 1 v2 (D.length + 1) (strCells ((D.take D.length).map (·.1)) ++ [.string x.word]) := by simpa using hown2
                          go_wp2_with (at_builtin; refine wpList_append_own_at _ rfl (.tmp 96) (.tmp 102) 30 rfl W.heap.size 9 is _ 1 16 Tryz.underlying30 his hs0 hs1 hs2 rfl (by decide) _ _ _ rfl hown2 _ 0 _ [] rfl rfl (fun j u h => by simp at h) (fun u h => by cases h) (by unfold maxLen; omega) (by omega) (by omega) ?_)
                          intro v3 W3 hown3 hgr3' _ _
                          have hs3' : Same W W3 := (hs2' : Kept W W2 _).grown hgr3' (fun k hk => .inr (hown2.lt k hk).1)
                          have hz3 := hs3'.size
                          have hown3 : W3.ownsRow W.heap.size 9 1 v3 (D.length + 1) (strCells ((hole D D.length (x.word, x.cost)).map (·.1))) := by
                            simpa [hole, strCells] using hown3
                          obtain ⟨g3, cap3, rfl, hg31, hg32, hg33, hg34⟩ := row_shape hown3 (by omega)
                          have hb03 : W3.cell? ⟨w.heap.size, 0, none⟩ = some (.slice (some ⟨gw, 0, none⟩) D.length D.length) := hs3'.cell HB4.out.c0
                          have hf3 : W3.frozen? ⟨w.heap.size, 0, none⟩ = false := (Kept.frozen hs3' (p := ⟨w.heap.size, 0, none⟩) hBW id).trans (HB4.out.fz 0)
                          obtain ⟨X, hX⟩ : ∃ X, X = W3.setCell ⟨w.heap.size, 0, none⟩ (.slice (some ⟨g3, 0, none⟩) (D.length + 1) cap3) := ⟨_, rfl⟩
                          have hK3 : Kept W (W3.setCell ⟨w.heap.size, 0, none⟩ (.slice (some ⟨g3, 0, none⟩) (D.length + 1) cap3)) (fun k => k = w.heap.size) := (hs3'.mono (T := fun k => k = w.heap.size) (fun _ e => e.elim)).setCell _ _ (.inl rfl)
                          have hb13 : (W3.setCell ⟨w.heap.size, 0, none⟩ (.slice (some ⟨g3, 0, none⟩) (D.length + 1) cap3)).cell? ⟨w.heap.size, 1, none⟩ = some (.slice (some ⟨gc, 0, none⟩) D.length D.length) := (World.cell?_setCell_other _ _ _ _ (by intro e; simp at e)).trans (hs3'.cell HB4.out.c1)
                          have hq13 : (W3.setCell ⟨w.heap.size, 0, none⟩ (.slice (some ⟨g3, 0, none⟩) (D.length + 1) cap3)).cell? ⟨gr, j * 2 + 1, none⟩ = some (.int .i64 x.cost) := (hK3.cell (p := ⟨gr, j * 2 + 1, none⟩) (by show gr < _; omega) (fun e => by have e' : gr = w.heap.size := e; omega)).trans (hsame4.cell hzz1)
                          have hrow3 : (W3.setCell ⟨w.heap.size, 0, none⟩ (.slice (some ⟨g3, 0, none⟩) (D.length + 1) cap3)).ownsRow (w.heap.size + 1) 3 1 (.slice (some ⟨gc, 0, none⟩) D.length D.length) D.length (intCells (D.map (·.2))) := Kept.row HB4.out.oc hK3 (fun k hk e => by cases hk; have e' : gc = w.heap.size := e; omega)
                          have hzX : X.heap.size = W3.heap.size := by rw [hX]; simp [World.setCell]
                          rw [← hX] at hK3 hb13 hq13 hrow3
                          have HX : Hid (X = W3.setCell ⟨w.heap.size, 0, none⟩ (.slice (some ⟨g3, 0, none⟩) (D.length + 1) cap3)) := hX
                          have HK3 : Hid (Kept W X (fun k => k = w.heap.size)) := hK3
                          clear hgr3' hb02 hown2 hK3
                          have hX' := hX.symm
                          clear hX
                          go_wp2_with (at_builtin; refine wpList_append_own_at _ rfl (.tmp 106) (.tmp 112) 48 rfl W3.heap.size 3 ii _ 1 8 Tryz.underlying48 hii hi0 hi1 hi2 rfl (by decide) _ _ _ rfl (World.ownsRow_nil _ _ _ _) ⟨gc, 0, none⟩ D.length D.length (intCells ((D.take D.length).map (·.2))) rfl (by simp [intCells]) (book_news_int hrow3 ha) (one_int _) (by unfold maxLen; omega) (by omega) (by omega) ?_)
                          intro v4 W4 hown4 hgr4' _ _
                          have hs4' : Same X W4 := (Kept.refl X _).grown hgr4' (fun k hk => by cases hk)
                          have hown4 : W4.ownsRow W3.heap.size 3 1 v4 D.length (intCells ((D.take D.length).map (·.2))) := by simpa using hown4
                          have hz4s := hs4'.size
                          have hq14 := hs4'.cell hq13
                          have hb14 := hs4'.cell hb13
                          have HB13 : Hid (X.cell? ⟨w.heap.size, 1, none⟩ = some (.slice (some ⟨gc, 0, none⟩) D.length D.length)) := hb13
                          clear hgr4' hq13 hb13 hX'
                          go_wp2_with (at_builtin; refine wpList_append_own_at _ rfl (.tmp 114) (.tmp 120) 48 rfl W3.heap.size 3 ii _ 1 8 Tryz.underlying48 hii hi0 hi1 hi2 rfl (by decide) _ _ _ rfl (hown4.alloc _) ⟨W4.heap.size, 0, none⟩ 1 1 [.int .i64 x.cost] rfl rfl (cell_one_new _ _ _) (one1i _) (by unfold maxLen; omega) (by omega) (by simp; omega) ?_)
                          intro v5 W5 hown5 hgr5' _ _
                          have hs5' : Same X W5 := ((hs4' : Kept X W4 _).alloc _).grown hgr5' (fun k hk => .inr (by have := (hown4.lt k hk).1; omega))
                          have hown5 : W5.ownsRow W3.heap.size 3 1 v5 (D.length + 1) (intCells ((D.take D.length).map (·.2)) ++ [.int .i64 x.cost]) := by simpa using hown5
                          have hz5s := hs5'.size
                          have hb15 := hs5'.cell HB13.out
                          clear hgr5' hq14 hb14 hown4
                          go_wp2_with (at_builtin; refine wpList_append_own_at _ rfl (.tmp 123) (.tmp 129) 48 rfl W3.heap.size 3 ii _ 1 8 Tryz.underlying48 hii hi0 hi1 hi2 rfl (by decide) _ _ _ rfl hown5 _ 0 _ [] rfl rfl (fun j u h => by simp at h) (fun u h => by cases h) (by unfold maxLen; omega) (by omega) (by omega) ?_)
                          intro v6 W6 hown6 hgr6' _ _
                          have hs6' : Same X W6 := (hs5' : Kept X W5 _).grown hgr6' (fun k hk => .inr (by have := (hown5.lt k hk).1; omega))
                          have hown6 : W6.ownsRow W3.heap.size 3 1 v6 (D.length + 1) (intCells ((hole D D.length (x.word, x.cost)).map (·.2))) := by
                            simpa [hole, intCells] using hown6
                          obtain ⟨g6, cap6, rfl, _, _, _, _⟩ := row_shape hown6 (by omega)
                          have hb16 := hs6'.cell HB13.out
                          have hf6 : W6.frozen? ⟨w.heap.size, 1, none⟩ = false := (Kept.frozen hs6' (p := ⟨w.heap.size, 1, none⟩) (cell_lt HB13.out) id).trans (by rw [HX.out]; simp only [World.frozen?_setCell]; exact (Kept.frozen hs3' (p := ⟨w.heap.size, 1, none⟩) hBW id).trans (HB4.out.fz 1))
                          have HSR : Hid (SettRel w (W6.setCell ⟨w.heap.size, 1, none⟩ (.slice (some ⟨g6, 0, none⟩) (D.length + 1) cap6)) E v' (.int .i64 ((j : Int) - 1))) := sett_in (a := D.length) hj HR.out HM.out hMl hDl HB4.out (by rw [← HXE.out]; exact hsame4.row G2.out) (hsame4.below g5 g5.size) (by rw [← HXE.out]; exact HIN.out) (by rw [← HXE.out]; exact HNH.out) (by rw [← HXE.out]; exact HSP.out) hs3' (by rw [← HXE.out]; exact hown3) HX.out hs6' (by rw [← HXE.out]; exact hown6)
                          clear hgr6' hown6 hown5 hown3 hb15 HB4 HX HK3 hrow3
                          go_wp2
                          go_roundw
                          case rel => exact HSR.out
                          case measure => simp [intOf]

end Go.Proofs.YtlfpepehngkehaaGreat
