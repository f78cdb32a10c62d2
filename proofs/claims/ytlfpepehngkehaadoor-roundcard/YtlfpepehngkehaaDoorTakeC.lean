/-
  Walks: the program's Load and Image.
-/
import Derived.Test.YtlfpepehngkehaaDoorTakeB
namespace Go.Proofs.YtlfpepehngkehaaDoor
set_option linter.unusedSimpArgs false
set_option linter.unusedVariables false
open Go.RowKit

/-- as readWords begins: the result, the set, the reader. -/
def rwWorld (w : World) (s : ByteArray) : World := ((w.alloc (.cells #[.slice none 0 0] 62)).alloc (.cells #[.slice none 0 0] 62)).alloc (.cells #[.string s, .int .i64 2, .bool false] 103)

theorem rwWorld_size (w : World) (s : ByteArray) : (rwWorld w s).heap.size = w.heap.size + 3 := by simp [rwWorld]

theorem rd_new (w : World) (s : ByteArray) : RdAt (rwWorld w s) (w.heap.size + 2) s 2 false := by
  unfold rwWorld
  refine ⟨?_, ?_, ?_, ?_, ?_⟩
  · rw [World.cell?_alloc_at _ _ _ _ (by simp)]; rfl
  · rw [World.cell?_alloc_at _ _ _ _ (by simp)]; rfl
  · rw [World.cell?_alloc_at _ _ _ _ (by simp)]; rfl
  · rw [World.frozen?_alloc_at _ _ _ _ (by simp)]
  · rw [World.frozen?_alloc_at _ _ _ _ (by simp)]

structure RwCells (w wr : World) (v : Value) : Prop where
  c1 : wr.cell? ⟨w.heap.size + 1, 0, none⟩ = some v
  f1 : wr.frozen? ⟨w.heap.size + 1, 0, none⟩ = false
  c0 : wr.cell? ⟨w.heap.size, 0, none⟩ = some (.slice none 0 0)
  f0 : wr.frozen? ⟨w.heap.size, 0, none⟩ = false
  bl : Below w.heap.size w wr
  sz : w.heap.size + 2 < wr.heap.size

theorem rw_new (w : World) (s : ByteArray) : RwCells w (rwWorld w s) (.slice none 0 0) := by
  have hz := rwWorld_size w s
  refine ⟨?_, ?_, ?_, ?_, ?_, by omega⟩
  · unfold rwWorld
    rw [World.cell?_alloc_past _ _ _ (by simp), World.cell?_alloc_at _ _ _ _ (by simp)]; rfl
  · unfold rwWorld
    rw [World.frozen?_alloc_past _ _ _ (by simp), World.frozen?_alloc_at _ _ _ _ (by simp)]
  · unfold rwWorld
    rw [World.cell?_alloc_past _ _ _ (by simp; omega), World.cell?_alloc_past _ _ _ (by simp), World.cell?_alloc_at _ _ _ _ rfl]; rfl
  · unfold rwWorld
    rw [World.frozen?_alloc_past _ _ _ (by simp; omega), World.frozen?_alloc_past _ _ _ (by simp), World.frozen?_alloc_at _ _ _ _ rfl]
  · exact (((Below.refl w.heap.size w).alloc (Nat.le_refl _) _).alloc (by simp) _).alloc (by simp; omega) _

theorem RwCells.kept {w wr w' : World} {v : Value} (h : RwCells w wr v) (hk : Kept wr w' (fun j => j = w.heap.size + 2)) : RwCells w w' v := by
  have hz := h.sz
  exact ⟨(hk.cell (p := ⟨w.heap.size + 1, 0, none⟩) (show w.heap.size + 1 < _ by omega) (show ¬ w.heap.size + 1 = w.heap.size + 2 by omega)).trans h.c1,
    (hk.frozen (p := ⟨w.heap.size + 1, 0, none⟩) (show w.heap.size + 1 < _ by omega) (show ¬ w.heap.size + 1 = w.heap.size + 2 by omega)).trans h.f1,
    (hk.cell (p := ⟨w.heap.size, 0, none⟩) (show w.heap.size < _ by omega) (show ¬ w.heap.size = w.heap.size + 2 by omega)).trans h.c0,
    (hk.frozen (p := ⟨w.heap.size, 0, none⟩) (show w.heap.size < _ by omega) (show ¬ w.heap.size = w.heap.size + 2 by omega)).trans h.f0,
    h.bl.trans (hk.below (by omega) (fun j e => by omega)), by have := hk.size; omega⟩

theorem RwAt.cells {w wr : World} {s : ByteArray} {i k : Nat} {p : ByteArray} {a : Option Addr} {cap : Nat} {D : Dic} {E : List Ent} (h : RwAt w wr s i k p a cap D E) : RwCells w wr (.slice a D.length cap) :=
  ⟨h.st.cell, h.st.frz, h.c0, h.f0, h.bl, cell_lt h.rd.c0⟩

theorem RwCells.ends {w wr : World} {v : Value} (h : RwCells w wr v) (u : Value) : Below w.heap.size w (wr.setCell ⟨w.heap.size, 0, none⟩ u) := by
  have hz := h.sz
  exact h.bl.trans (((Kept.refl wr (fun j => j = w.heap.size)).setCell ⟨w.heap.size, 0, none⟩ u (.inl rfl)).below (by omega) (fun j e => by omega))

/-- as the loop begins. -/
theorem RwAt.start {w w3 : World} {s : ByteArray} (hr : RdRes (rwWorld w s) w3 (w.heap.size + 2) s 4 false) (hs : 4 ≤ s.size) : RwAt w w3 s 0 4 ByteArray.empty none 0 [] [] := by
  have hc := (rw_new w s).kept hr.kp
  exact ⟨by decide, reads_start s, (fun x hx => by cases hx), Rep.nil, Nat.le_refl _, by omega, ⟨hc.c1, hc.f1, World.ownsRow_nil _ _ _ _, fun j hj => by simp [Value.ownBlock] at hj⟩, fun j hj => (by simp [Value.ownBlock] at hj), hr.rd, hc.c0, hc.f0, hc.bl⟩

theorem RwAt.set_kept {w wr w1 : World} {s : ByteArray} {i k : Nat} {p : ByteArray} {a : Option Addr} {cap : Nat} {D : Dic} {E : List Ent} (h : RwAt w wr s i k p a cap D E) (hk : Kept wr w1 (fun j => j = w.heap.size + 2)) : SetAt w1 95 (w.heap.size + 1) (.slice a D.length cap) D := by
  have hc := h.cells.kept hk
  exact ⟨hc.c1, hc.f1, Kept.row h.st.own hk (fun j hj e => by have := h.ob j hj; omega), h.st.ne⟩

theorem RwAt.yes {w wr : World} {s : ByteArray} {i k : Nat} {p : ByteArray} {a : Option Addr} {cap : Nat} {D : Dic} {E : List Ent} (h : RwAt w wr s i k p a cap D E) (hi : i ≤ 150) (hn : ∀ D, GoodDic D → imageL D = s.toList → i = D.length) (u : Value) :
    GoodDic D ∧ (imageL D ≠ s.toList → LoadNo s) ∧ (wr.setCell ⟨w.heap.size, 0, none⟩ u).ownsRow w.heap.size 95 2 (.slice a D.length cap) D.length (pairCells D) := by
  refine ⟨rep_goodE h.es h.rp (by have := h.dl; omega), fun hne => reads_end h.rs hn h.rp hne, ?_⟩
  exact Kept.row (own_raise h.st.own (fun j hj => by have := h.ob j hj; omega)) ((Kept.refl wr (fun j => j = w.heap.size)).setCell ⟨w.heap.size, 0, none⟩ u (.inl rfl)) (fun j hj e => by have := h.ob j hj; omega)

set_option maxHeartbeats 4000000 in
set_option maxRecDepth 20000 in
theorem readWords_any (w : World) (s : ByteArray) (hs : s.size ≤ 1048576) :
    Calls Tryd.prog 50 #[.string s] w fun e w' => RwEnd w w' s e ∧ Below w.heap.size w w' := by
  go_enter Tryd.func50, Tryd.ntmps50
  go_wp2_with fail
  refine (takeNumber_any (rwWorld w s) (w.heap.size + 2) s 2 false hs (by omega) (rd_new w s)).mono ?_
  rintro e w3 ⟨c, k', f', rfl, hT, hr⟩
  obtain ⟨hc3, -⟩ := hT.le (by omega)
  have HT : Hid ((f' = false → 4 ≤ s.size ∧ c = bt s 2 + 256 * bt s 3 ∧ k' = 4) ∧ (f' = true → s.size < 4)) := hT.head
  have HR : Hid (RdRes (rwWorld w s) w3 (w.heap.size + 2) s k' f') := hr
  have HC : Hid (RwCells w w3 (.slice none 0 0)) := (rw_new w s).kept hr.kp
  have hc2 := hr.rd.c2
  clear hT hr
  cases f' with
  | true =>
    have HN : Hid (LoadNo s) := head_no (HT.out.2 rfl)
    have hb1 := HC.out.c1
    have hb0 := HC.out.c0
    have hf0 := HC.out.f0
    go_wp2
    refine bodyPost_ret (v := .tuple #[.agg #[.slice none 0 0], .bool false]) (by simp [results, Tryd.results50, go_sem, hb0]) rfl ⟨.inl ⟨none, 0, 0, rfl, HN.out⟩, HC.out.ends _⟩
  | false =>
    obtain ⟨h4, hcc, rfl⟩ := HT.out.1 rfl
    have HCC : Hid (c = bt s 2 + 256 * bt s 3) := hcc
    clear hcc
    by_cases h150 : c ≤ 150
    · have t150 : ¬ (150 : Int) < (c : Int) := by omega
      have HLn : Hid (∀ D, GoodDic D → imageL D = s.toList → c = D.length) := fun D hD he => by rw [HCC.out]; exact (image_head hD he).2
      have HS : Hid (RwAt w w3 s 0 4 ByteArray.empty none 0 [] []) := RwAt.start HR.out h4
      clear HR HC
      go_wp2_with fail
      go_loopg [7, 8] c (fun g av iv wr => RwLoop w s c g av iv wr)
      case atStart => exact ⟨0, 4, ByteArray.empty, none, 0, [], [], by omega, rfl, rfl, rfl, HS.out⟩
      case round =>
        obtain ⟨i, k, p, a, cap, D, E, hi, rfl, rfl, rfl, hA⟩ := hrel
        have HA : Hid (RwAt w wr s i k p a cap D E) := hA
        have hps := hA.ps
        have hkl := hA.kl
        have hdl := hA.dl
        clear hA HS
        by_cases hlt : i < c
        · have HLi : Hid (∀ D, GoodDic D → imageL D = s.toList → i < D.length) := fun D hD he => by have := HLn.out D hD he; omega
          go_wp2_with fail
          refine (takeWord_any wr (w.heap.size + 2) s k p hps hs hkl HA.out.rd).mono ?_
          rintro e w5 ⟨x, c5, k5, f5, g5, rfl, hTE, hk5, hr5, hfg⟩
          have HTE : Hid (TakeEnd s k p x c5 k5 f5) := hTE
          have HR5 : Hid (RdRes wr w5 (w.heap.size + 2) s k5 g5) := hr5
          have HC5 : Hid (RwCells w w5 (.slice a D.length cap)) := HA.out.cells.kept hr5.kp
          clear hTE hr5
          cases f5 with
          | false =>
            have HN : Hid (LoadNo s) := by
              rcases HTE.out with ⟨e, _⟩ | ⟨_, h⟩
              · cases e
              · exact reads_word HA.out.rs HLi.out h
            have hb1 := HC5.out.c1
            have hb0 := HC5.out.c0
            have hf0 := HC5.out.f0
            clear hfg
            go_wp2
            refine bodyPost_ret (v := .tuple #[.agg #[.slice a D.length cap], .bool false]) (by simp [results, Tryd.results50, go_sem, hb0]) rfl ⟨.inl ⟨a, D.length, cap, rfl, HN.out⟩, HC5.out.ends _⟩
          | true =>
            obtain rfl := hfg rfl
            have HW : Hid (WordHere s k p x c5 k5) := by
              rcases HTE.out with ⟨_, h⟩ | ⟨e, _⟩
              · exact h
              · cases e
            have hx12 : x.size ≤ 12 := HW.out.is.2.1
            have hc1000 : c5 ≤ 1000 := HW.out.low
            clear hfg HTE
            go_wp2_with fail
            refine (putE_any w5 (w.heap.size + 1) (.slice a D.length cap) D E ⟨x, true, c5, 0⟩ rfl (by show x.size ≤ 2000; omega) (by show c5 ≤ 9999; omega) (HA.out.set_kept HR5.out.kp) HA.out.rp (by omega)).mono ?_
            rintro e w6 ⟨rfl, hto⟩
            obtain ⟨a6, cap6, D6, hA6⟩ := HA.out.step HW.out hk5 HLi.out HR5.out hto
            have HA6 : Hid (RwAt w w6 s (i + 1) k5 x a6 cap6 D6 (E ++ [⟨x, true, c5, 0⟩])) := hA6
            clear hto hA6
            go_wp2
            go_roundg (c - (i + 1))
            case measure => omega
            case rel => exact ⟨i + 1, k5, x, a6, cap6, D6, _, by omega, rfl, by go_num, rfl, HA6.out⟩
        · obtain rfl : i = c := by omega
          have hb1 := HA.out.cells.c1
          have hb0 := HA.out.cells.c0
          have hf0 := HA.out.cells.f0
          have HY : Hid _ := HA.out.yes h150 HLn.out (.slice a D.length cap)
          have HB : Hid _ := HA.out.cells.ends (.slice a D.length cap)
          go_wp2
          refine bodyPost_ret (v := .tuple #[.agg #[.slice a D.length cap], .bool true]) (by simp [results, Tryd.results50, go_sem, hb0]) rfl ⟨.inr ⟨a, cap, D, rfl, HY.out⟩, HB.out⟩
    · have t150 : (150 : Int) < (c : Int) := by omega
      have HN : Hid (LoadNo s) := head_many HCC.out (by omega)
      have hb1 := HC.out.c1
      have hb0 := HC.out.c0
      have hf0 := HC.out.f0
      go_wp2
      refine bodyPost_ret (v := .tuple #[.agg #[.slice none 0 0], .bool false]) (by simp [results, Tryd.results50, go_sem, hb0]) rfl ⟨.inl ⟨none, 0, 0, rfl, HN.out⟩, HC.out.ends _⟩


def ReadEnd (w w' : World) (s : ByteArray) (e : Ending) : Prop :=
  (∃ a n cap, e = .returned (.tuple #[.agg #[.slice a n cap], .bool false]) ∧ LoadNo s) ∨
  (∃ a cap D, e = .returned (.tuple #[.agg #[.slice a D.length cap], .bool true]) ∧ LoadYes s D ∧ w'.ownsRow w.heap.size 95 2 (.slice a D.length cap) D.length (pairCells D))

/-- a set that is copied into a new block. -/
theorem set_new {w : World} {B : Nat} {t t' : TypeId} {v : Value} {D : Dic} (h : w.ownsRow B t 2 v D.length (pairCells D)) : SetAt (w.alloc (.cells #[v] t')) t w.heap.size v D := by
  refine ⟨?_, ?_, ?_, fun k hk => ?_⟩
  · rw [World.cell?_alloc_at _ _ _ _ rfl]; rfl
  · rw [World.frozen?_alloc_at _ _ _ _ rfl]
  · exact own_raise (h.alloc _) (fun _ _ => Nat.zero_le _)
  · have := (h.lt k hk).2; omega

theorem set_new' {w : World} {B : Nat} {t t' : TypeId} {v : Value} {D : Dic} {b : Nat} (h : w.ownsRow B t 2 v D.length (pairCells D)) (hb : b = w.heap.size) : SetAt (w.alloc (.cells #[v] t')) t b v D := by subst hb; exact set_new h

theorem res_end {w w2 : World} (hb : Below w.heap.size w w2) (hlt : w.heap.size < w2.heap.size) (u : Value) : Below w.heap.size w (w2.setCell ⟨w.heap.size, 0, none⟩ u) :=
  hb.trans (((Kept.refl w2 (fun j => j = w.heap.size)).setCell ⟨w.heap.size, 0, none⟩ u (.inl rfl)).below (by omega) (fun j e => by omega))

set_option maxHeartbeats 4000000 in
set_option maxRecDepth 20000 in
theorem imagesRead_any (w : World) (s : ByteArray) (hs : s.size ≤ 1048576) :
    Calls Tryd.prog 35 #[.string s] w fun e w' => ReadEnd w w' s e ∧ Below w.heap.size w w' := by
  go_enter Tryd.func35, Tryd.ntmps35
  go_wp2_with fail
  obtain ⟨w1, hw1⟩ : ∃ w1, w1 = w.alloc (.cells #[.slice none 0 0] 62) := ⟨_, rfl⟩
  have hc0 : w1.cell? ⟨w.heap.size, 0, none⟩ = some (.slice none 0 0) := by rw [hw1, World.cell?_alloc_at _ _ _ _ rfl]; rfl
  have hf0 : w1.frozen? ⟨w.heap.size, 0, none⟩ = false := by rw [hw1, World.frozen?_alloc_at _ _ _ _ rfl]
  have hb1 : Below w.heap.size w w1 := by rw [hw1]; exact (Below.refl _ _).alloc (Nat.le_refl _) _
  have hz1 : w1.heap.size = w.heap.size + 1 := by rw [hw1]; simp
  rw [← hw1]
  clear hw1
  refine (readWords_any w1 s hs).mono ?_
  rintro e w2 ⟨hre, hb2⟩
  have hz2 := hb2.size
  have hc2 : w2.cell? ⟨w.heap.size, 0, none⟩ = some (.slice none 0 0) := (hb2.cell (p := ⟨w.heap.size, 0, none⟩) (show w.heap.size < _ by omega)).trans hc0
  have hf2 : w2.frozen? ⟨w.heap.size, 0, none⟩ = false := (hb2.frozen (p := ⟨w.heap.size, 0, none⟩) (show w.heap.size < _ by omega)).trans hf0
  have hB2 : Below w.heap.size w w2 := hb1.trans (hb2.mono (by omega))
  have hlt2 : w.heap.size < w2.heap.size := by omega
  clear hc0 hf0 hb1 hb2
  rcases hre with ⟨a, n, cap, rfl, hN⟩ | ⟨a, cap, D, rfl, hG, hI, hO⟩
  · have HN : Hid (LoadNo s) := hN
    have HB2 : Hid (Below w.heap.size w w2) := hB2
    clear hN hB2
    have hcx : ((w2.setCell ⟨w.heap.size, 0, none⟩ (.slice none 0 0)).alloc (.cells #[.slice a n cap] 62)).cell? ⟨w.heap.size, 0, none⟩ = some (.slice none 0 0) := by
      rw [World.cell?_alloc_past _ _ _ (by simp [World.setCell]; omega)]
      apply World.cell?_setCell_same; exact hc2
    go_wp2
    exact bodyPost_ret (v := .tuple #[.agg #[.slice none 0 0], .bool false]) (by simp [results, Tryd.results35, go_sem, hcx]) rfl ⟨.inl ⟨none, 0, 0, rfl, HN.out⟩, (res_end HB2.out hlt2 _).alloc (by simp [World.setCell]; omega) _⟩
  · have HG : Hid (GoodDic D) := hG
    have HI : Hid (imageL D ≠ s.toList → LoadNo s) := hI
    have HO : Hid (w2.ownsRow w1.heap.size 95 2 (.slice a D.length cap) D.length (pairCells D)) := hO
    have hS3 : SetAt (w2.alloc (.cells #[.slice a D.length cap] 62)) 95 w2.heap.size (.slice a D.length cap) D := set_new hO
    obtain ⟨w3, hw3⟩ : ∃ w3, w3 = w2.alloc (.cells #[.slice a D.length cap] 62) := ⟨_, rfl⟩
    have hb3 : Below w2.heap.size w2 w3 := by rw [hw3]; exact (Below.refl _ _).alloc (Nat.le_refl _) _
    have hz3 : w3.heap.size = w2.heap.size + 1 := by rw [hw3]; simp
    go_wp2_with fail
    rw [← hw3] at hS3 ⊢
    have HS3 : Hid (SetAt w3 95 w2.heap.size (.slice a D.length cap) D) := hS3
    clear hw3 hS3 hG hI hO
    refine (write_any w3 w2.heap.size (.slice a D.length cap) D HS3.out HG.out.1 (fun p hp => ⟨(HG.out.2.2 p hp).1.2.1, (HG.out.2.2 p hp).2⟩)).mono ?_
    rintro e w4 ⟨S, rfl, hS, hb4⟩
    have hz4 := hb4.size
    have hb34 : Below w2.heap.size w2 w4 := hb3.trans (hb4.mono (by omega))
    have hc4 : w4.cell? ⟨w.heap.size, 0, none⟩ = some (.slice none 0 0) := (hb34.cell (p := ⟨w.heap.size, 0, none⟩) hlt2).trans hc2
    have hf4 : w4.frozen? ⟨w.heap.size, 0, none⟩ = false := (hb34.frozen (p := ⟨w.heap.size, 0, none⟩) hlt2).trans hf2
    have hs4 : w4.cell? ⟨w2.heap.size, 0, none⟩ = some (.slice a D.length cap) := (hb4.cell (p := ⟨w2.heap.size, 0, none⟩) (show w2.heap.size < _ by omega)).trans HS3.out.cell
    have HO4 : Hid (w4.ownsRow w1.heap.size 95 2 (.slice a D.length cap) D.length (pairCells D)) := ownsRow_below' HO.out hb34
    have HB4 : Hid (Below w.heap.size w w4) := hB2.trans (hb34.mono (by omega))
    have hlt4 : w.heap.size < w4.heap.size := by omega
    have HS : Hid (S.toList = imageL D) := hS
    clear hb3 hb4 hb34 hB2 hS HS3 HO hc2 hf2
    by_cases hE : S.toList = s.toList
    · have ht : (S.toList == s.toList) = true := beq_iff_eq.2 hE
      have HY : Hid (LoadYes s D) := ⟨HG.out, by rw [← HS.out, hE]⟩
      have HO5 : Hid ((w4.setCell ⟨w.heap.size, 0, none⟩ (.slice a D.length cap)).ownsRow w.heap.size 95 2 (.slice a D.length cap) D.length (pairCells D)) :=
        Kept.row (own_raise HO4.out (fun j hj => by have := (HO4.out.lt j hj).1; omega)) ((Kept.refl w4 (fun j => j = w.heap.size)).setCell ⟨w.heap.size, 0, none⟩ _ (.inl rfl)) (fun j hj e => by have := (HO4.out.lt j hj).1; omega)
      clear hE
      go_wp2
      exact bodyPost_ret (v := .tuple #[.agg #[.slice a D.length cap], .bool true]) (by simp [results, Tryd.results35, go_sem, hc4]) rfl ⟨.inr ⟨a, cap, D, rfl, HY.out, HO5.out⟩, res_end HB4.out hlt4 _⟩
    · have ht : (S.toList == s.toList) = false := beq_eq_false_iff_ne.2 hE
      have HN : Hid (LoadNo s) := HI.out (by rw [← HS.out]; exact hE)
      clear hE
      go_wp2
      exact bodyPost_ret (v := .tuple #[.agg #[.slice none 0 0], .bool false]) (by simp [results, Tryd.results35, go_sem, hc4]) rfl ⟨.inl ⟨none, 0, 0, rfl, HN.out⟩, res_end HB4.out hlt4 _⟩

def LoadEnd (w w' : World) (s : ByteArray) (e : Ending) : Prop :=
  (e = .returned (.tuple #[.pointer none, .int .i64 5]) ∧ LoadNo s) ∨
  (∃ (b : Nat) (v : Value) (D : Dic), e = .returned (.tuple #[.pointer (some ⟨b, 0, none⟩), .int .i64 0]) ∧ LoadYes s D ∧ SetAt w' 95 b v D ∧ w.heap.size ≤ b ∧ ∀ k, v.ownBlock = some k → w.heap.size ≤ k)

set_option maxHeartbeats 4000000 in
set_option maxRecDepth 20000 in
theorem load_any (w : World) (s : ByteArray) (hs : s.size ≤ 1048576) :
    Calls Tryd.prog 17 #[.string s] w fun e w' => LoadEnd w w' s e ∧ Below w.heap.size w w' := by
  go_enter Tryd.func17, Tryd.ntmps17
  go_wp2_with fail
  refine (imagesRead_any w s hs).mono ?_
  rintro e w2 ⟨hre, hb2⟩
  have hz2 := hb2.size
  rcases hre with ⟨a, n, cap, rfl, hN⟩ | ⟨a, cap, D, rfl, hY, hO⟩
  · have HN : Hid (LoadNo s) := hN
    clear hN
    go_wp2
    go_ret2
    exact ⟨.inl ⟨rfl, HN.out⟩, hb2.alloc hz2 _⟩
  · have HY : Hid (LoadYes s D) := hY
    have HO : Hid (w2.ownsRow w.heap.size 95 2 (.slice a D.length cap) D.length (pairCells D)) := hO
    clear hY hO
    go_wp2
    go_ret2
    refine ⟨.inr ⟨_, .slice a D.length cap, D, rfl, HY.out, set_new' (HO.out.alloc _) (by first | rfl | (simp; done) | (trace_state; fail)), by first | omega | (simp; omega), fun k hk => (HO.out.lt k hk).1⟩, (hb2.alloc hz2 _).alloc (by simp; omega) _⟩

set_option maxHeartbeats 1000000 in
set_option maxRecDepth 20000 in
theorem dictImage_any (w : World) (b : Nat) (v : Value) (D : Dic) (hS : SetAt w 95 b v D) (hD : D.length ≤ 150) (hw : ∀ p ∈ D, p.1.size ≤ 12 ∧ p.2 ≤ 1000) :
    Calls Tryd.prog 15 #[.pointer (some ⟨b, 0, none⟩)] w fun e w' => ∃ S : ByteArray, e = .returned (.string S) ∧ S.toList = imageL D ∧ Below w.heap.size w w' := by
  have HS : Hid (SetAt w 95 b v D) := hS
  have HW : Hid (∀ p ∈ D, p.1.size ≤ 12 ∧ p.2 ≤ 1000) := hw
  clear hS hw
  go_enter Tryd.func15, Tryd.ntmps15
  go_wp2_with fail
  refine (write_any w b v D HS.out hD HW.out).mono ?_
  rintro e w1 ⟨S, rfl, hS, hb⟩
  have HI : Hid (S.toList = imageL D) := hS
  clear hS
  go_wp2
  go_ret
  exact ⟨S, rfl, HI.out, hb⟩

end Go.Proofs.YtlfpepehngkehaaDoor
