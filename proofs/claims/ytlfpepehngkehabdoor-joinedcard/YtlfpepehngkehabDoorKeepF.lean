/-
  Walks: the keep statements' lists of raw numbers.
-/
import Derived.Test.YtlfpepehngkehabDoorKeepE
import Derived.Deep.LoopGhost
namespace Go.Proofs.YtlfpepehngkehabDoor
set_option linter.unusedSimpArgs false
set_option linter.unusedVariables false
open Go.RowKit

def ListsRel (raw : List Int) (w : World) (g : Nat) (a b y : Value) (wr : World) : Prop :=
  ∃ (j : Nat) (Wv Cv : Value), g = nE raw - j ∧ j ≤ nE raw ∧ y = .int .i64 ((2 * j : Nat) : Int) ∧ LS wr w.heap.size (txA raw j) (txB raw j) (tabTo raw j) a b Wv Cv ∧ Below w.heap.size w wr

/-- what lists gives: two texts, and the table. -/
def ListsEnd (raw : List Int) (w w' : World) (e : Ending) : Prop :=
  ∃ (G : Nat) (Wv Cv : Value), e = .returned (.tuple #[.slice (some ⟨G, 0, none⟩) 2 2, .pointer (some ⟨w.heap.size, 0, none⟩)]) ∧ w.heap.size < G ∧
    w'.ownsRow (w.heap.size + 1) 9 1 (.slice (some ⟨G, 0, none⟩) 2 2) 2 [.string (joinTo (txA raw (nE raw)) (txA raw (nE raw)).length), .string (joinTo (txB raw (nE raw)) (txB raw (nE raw)).length)] ∧
    TabAt w' w.heap.size (tabTo raw (nE raw)) Wv Cv ∧ Below w.heap.size w w'

theorem two_cells (w : World) (x y : Value) (t : TypeId) (B : Nat) (hB : B ≤ w.heap.size) : (w.alloc (.cells #[x, y] t)).ownsRow B t 1 (.slice (some ⟨w.heap.size, 0, none⟩) 2 2) 2 [x, y] := by
  refine ⟨rfl, .inr ⟨w.heap.size, 2, #[x, y], rfl, hB, ?_, Nat.le_refl _, by unfold maxLen; omega, rfl, rfl⟩⟩
  show (w.heap.push _)[w.heap.size]? = _
  simp

theorem tab_new (w : World) (t : TypeId) : TabAt (w.alloc (.cells #[.slice none 0 0, .slice none 0 0] t)) w.heap.size [] (.slice none 0 0) (.slice none 0 0) := by
  refine ⟨?_, ?_, fun o => by simp, World.ownsRow_nil _ _ _ _, World.ownsRow_nil _ _ _ _, (fun k hk => by cases hk)⟩
  · rw [World.cell?_alloc_at _ _ _ _ rfl]; rfl
  · rw [World.cell?_alloc_at _ _ _ _ rfl]; rfl

theorem apart_nil (v : Value) : Apart (.slice none 0 0) v := fun k hk => by cases hk

theorem ls_new (w : World) (t : TypeId) : LS (w.alloc (.cells #[.slice none 0 0, .slice none 0 0] t)) w.heap.size [] [] [] (.slice none 0 0) (.slice none 0 0) (.slice none 0 0) (.slice none 0 0) :=
  ⟨World.ownsRow_nil _ _ _ _, World.ownsRow_nil _ _ _ _, tab_new w t, apart_nil _, apart_nil _, apart_nil _, apart_nil _, apart_nil _⟩

theorem nE_le (raw : List Int) : nE raw ≤ 40 ∧ 2 * nE raw ≤ raw.length := by unfold nE; omega

theorem rw_get {raw : List Int} {j : Nat} (h : j < nE raw) : ∃ (h1 : 2 * j < raw.length) (h2 : 2 * j + 1 < raw.length), rw1 raw j = raw[2 * j] ∧ rw2 raw j = raw[2 * j + 1] := by
  have := (nE_le raw).2
  refine ⟨by omega, by omega, ?_, ?_⟩
  · unfold rw1; rw [List.getD_eq_getElem?_getD, List.getElem?_eq_getElem (show 2 * j < raw.length by omega), Option.getD_some]
  · unfold rw2; rw [List.getD_eq_getElem?_getD, List.getElem?_eq_getElem (show 2 * j + 1 < raw.length by omega), Option.getD_some]

theorem listsRel_A {raw : List Int} {w w' : World} {j : Nat} {a b Wv Cv y : Value} (hj : j < nE raw) (h20 : j < 20) (h : LS w' w.heap.size (txA raw j ++ [txt raw j]) (txB raw j) (tabTo raw (j + 1)) a b Wv Cv) (hy : y = .int .i64 ((2 * (j + 1) : Nat) : Int)) (hb : Below w.heap.size w w') : ListsRel raw w (nE raw - (j + 1)) a b y w' :=
  ⟨j + 1, Wv, Cv, rfl, hj, hy, by simp only [txA, txB]; rw [if_pos h20, if_pos h20]; exact h, hb⟩
theorem listsRel_B {raw : List Int} {w w' : World} {j : Nat} {a b Wv Cv y : Value} (hj : j < nE raw) (h20 : ¬ j < 20) (h : LS w' w.heap.size (txA raw j) (txB raw j ++ [txt raw j]) (tabTo raw (j + 1)) a b Wv Cv) (hy : y = .int .i64 ((2 * (j + 1) : Nat) : Int)) (hb : Below w.heap.size w w') : ListsRel raw w (nE raw - (j + 1)) a b y w' :=
  ⟨j + 1, Wv, Cv, rfl, hj, hy, by simp only [txA, txB]; rw [if_neg h20, if_neg h20]; exact h, hb⟩

def EntCut (raw : List Int) (j : Nat) (w : World) (a b v : Value) (wx : World) : Prop :=
  v = .string (txt raw j) ∧ ∃ Wv Cv, LS wx w.heap.size (txA raw j) (txB raw j) (tabTo raw (j + 1)) a b Wv Cv ∧ Below w.heap.size w wx

theorem ent_cut {raw : List Int} {j : Nat} {w wr w2 : World} {a b Wv Cv : Value} (h : LS wr w.heap.size (txA raw j) (txB raw j) (tabTo raw j) a b Wv Cv) (hb : Below w.heap.size w wr) (hp : PutRes wr w2 w.heap.size (tput (tabTo raw j) (wordOf (rw1 raw j)) (entCost (rw2 raw j))) Wv Cv) : EntCut raw j w a b (.string (txt raw j)) w2 := by
  obtain ⟨Wv', Cv', h'⟩ := h.put hp
  exact ⟨rfl, Wv', Cv', h', hp.below h.tb hb (Nat.le_refl _)⟩

set_option maxHeartbeats 4000000 in
set_option maxRecDepth 100000 in
theorem lists_any (w : World) (ap : Option Addr) (cp : Nat) (raw : List Int) (HI : ItoaIn w.heap.size w) (hR : IntsAt w ap raw) (hlen : raw.length ≤ 9223372036854775807) :
    Calls Tryd.prog 18 #[.slice ap raw.length cp] w fun e w' => ListsEnd raw w w' e := by
  obtain ⟨is, his, hs0, hs1, hs2⟩ := info_partsK Tryd.infoStrK
  have hne := nE_le raw
  have HIT : Hid (ItoaIn w.heap.size w) := HI
  have HR : Hid (IntsAt w ap raw) := hR
  clear HI hR
  go_enter Tryd.func18, Tryd.ntmps18
  go_wp2_with fail
  go_loopg [5, 6, 7] (nE raw) (fun g a b y wr => ListsRel raw w g a b y wr)
  case atStart => exact ⟨0, _, _, rfl, Nat.zero_le _, rfl, ls_new w _, (Below.refl _ _).alloc (Nat.le_refl _) _⟩
  case round =>
    obtain ⟨j, Wv, Cv, rfl, hj, rfl, hls, hbel⟩ := hrel
    obtain ⟨aa, ca, hva, _⟩ := row_form hls.ra
    obtain ⟨ab, cb, hvb, _⟩ := row_form hls.rb
    obtain ⟨na, hna⟩ : ∃ na, na = (txA raw j).length := ⟨_, rfl⟩
    obtain ⟨nb, hnb⟩ : ∃ nb, nb = (txB raw j).length := ⟨_, rfl⟩
    rw [← hna] at hva
    rw [← hnb] at hvb
    subst hva hvb
    have hna9 : na ≤ 40 := by rw [hna]; have := txA_length raw j; omega
    have hnb9 : nb ≤ 40 := by rw [hnb]; have := txB_length raw j; omega
    have HNA : Hid (na = (txA raw j).length) := hna
    have HNB : Hid (nb = (txB raw j).length) := hnb
    have HLS : Hid (LS wr w.heap.size (txA raw j) (txB raw j) (tabTo raw j) (.slice aa na ca) (.slice ab nb cb) Wv Cv) := hls
    have HBEL : Hid (Below w.heap.size w wr) := hbel
    obtain ⟨i, hi⟩ : ∃ i, i = 2 * j := ⟨_, rfl⟩
    rw [← hi]
    obtain ⟨i1, hid1⟩ : ∃ i1, i1 = i + 1 := ⟨_, rfl⟩
    have hi1 : (i : Int) + 1 = (i1 : Int) := by omega
    have hwi1 : IntKind.i64.wrap (i1 : Int) = (i1 : Int) := by rw [IntKind.wrap_i64]; omega
    have HI2 : Hid (i = 2 * j) := hi
    have HI1 : Hid (i1 = i + 1) := hid1
    clear hls hbel hna hnb hi hid1
    by_cases hlt : j < nE raw
    · obtain ⟨hr1, hr2, hx1, hx2⟩ := rw_get hlt
      have hl1 : (i1 : Int) < (raw.length : Int) := by have := HI1.out; have := HI2.out; omega
      have hl0 : (i : Int) < (raw.length : Int) := by have := HI2.out; omega
      have hl80 : (i : Int) < 80 := by have := HI2.out; omega
      obtain ⟨hrng, hcel⟩ := HR.out.below HBEL.out
      have hrg1 := hrng _ (List.getElem_mem hr1)
      have hrg2 := hrng _ (List.getElem_mem hr2)
      rcases hcel with hcel | ⟨pb, off, rfl, hcel⟩
      · rw [hcel] at hr1; simp at hr1
      have hc1 := hcel _ hr1
      have hc2 := hcel _ hr2
      rw [← hx1] at hc1 hrg1
      rw [← hx2] at hc2 hrg2
      rw [← HI2.out] at hc1
      rw [show 2 * j + 1 = i1 by rw [HI1.out, HI2.out]] at hc2
      obtain ⟨hg1, hg2⟩ := hrg1
      obtain ⟨hg3, hg4⟩ := hrg2
      obtain ⟨x1, hx1d⟩ : ∃ x1, x1 = rw1 raw j := ⟨_, rfl⟩
      obtain ⟨x2, hx2d⟩ : ∃ x2, x2 = rw2 raw j := ⟨_, rfl⟩
      rw [← hx1d] at hc1 hg1 hg2
      rw [← hx2d] at hc2 hg3 hg4
      have HX1 : Hid (x1 = rw1 raw j) := hx1d
      have HX2 : Hid (x2 = rw2 raw j) := hx2d
      have hTl : (tabTo raw j).length ≤ 900 := by have := tabTo_length raw j; omega
      have HBD : Hid (Below w.heap.size w wr.drew) := Same.below (Kept.drew (Same.refl wr)) HBEL.out HBEL.out.size
      have HTD : Hid (TabAt wr.drew w.heap.size (tabTo raw j) Wv Cv) := HLS.out.tb.same (Kept.drew (Same.refl wr))
      have HTX : Hid (entText x1 x2 = txt raw j) := by show _ = _; rw [hx1d, hx2d]; rfl
      have hj40 : ((i : Int) < 40) ↔ j < 20 := by have := HI2.out; omega
      obtain ⟨i2, hi2d⟩ : ∃ i2, i2 = i + 2 := ⟨_, rfl⟩
      have hi2 : (i : Int) + 2 = (i2 : Int) := by omega
      have hwi2 : IntKind.i64.wrap (i2 : Int) = (i2 : Int) := by rw [IntKind.wrap_i64]; have := HI2.out; omega
      have HI22 : Hid (i2 = 2 * (j + 1)) := by show i2 = 2 * (j + 1); have := HI2.out; omega
      have hi1n : (0 : Int) ≤ (i1 : Int) := by omega
      clear hcel hrng hx1 hx2 hx1d hx2d hr1 hr2 hi2d
      go_upto_region 7 with fail
      go_cut [8] (fun v wx => EntCut raw j w (.slice aa na ca) (.slice ab nb cb) v wx)
      case first =>
        go_region_with (go_at_call 27; go_must (refine (entry_any w wr.drew w.heap.size w.heap.size (tabTo raw j) Wv Cv HIT.out HBD.out (Nat.le_refl _) HTD.out hTl x1 x2 hg1 hg2 hg3 hg4).mono ?_); rintro e w2 ⟨rfl, hput⟩)
        all_goals
          have HP : Hid (EntCut raw j w (.slice aa na ca) (.slice ab nb cb) (.string (entText x1 x2)) w2) := by
            show EntCut _ _ _ _ _ _ _
            rw [HTX.out]
            refine ent_cut HLS.out HBEL.out ?_
            rw [← HX1.out, ← HX2.out]
            exact hput.behind (Kept.drew (Same.refl wr))
          clear hput
          go_wp2_with fail
          go_meet
          exact HP.out
      case rest =>
        obtain ⟨hv8, Wv', Cv', hls2, hb2⟩ := hcut
        obtain ⟨tx, htx⟩ : ∃ tx, tx = txt raw j := ⟨_, rfl⟩
        rw [← htx] at hv8
        subst hv8
        have HTXT : Hid (tx = txt raw j) := htx
        have HLS2 : Hid (LS wc w.heap.size (txA raw j) (txB raw j) (tabTo raw (j + 1)) (.slice aa na ca) (.slice ab nb cb) Wv' Cv') := hls2
        have HB2 : Hid (Below w.heap.size w wc) := hb2
        have hra : wc.ownsRow (w.heap.size + 1) 9 1 (.slice aa na ca) na (strCells (txA raw j)) := by have := hls2.ra; rw [← HNA.out] at this; exact this
        have hrb : wc.ownsRow (w.heap.size + 1) 9 1 (.slice ab nb cb) nb (strCells (txB raw j)) := by have := hls2.rb; rw [← HNB.out] at this; exact this
        have hbs : w.heap.size + 1 ≤ wc.heap.size + 1 := by have := hb2.size; omega
        have hma : na + 1 ≤ maxLen := by unfold maxLen; omega
        have hmb : nb + 1 ≤ maxLen := by unfold maxLen; omega
        have hma2 : (na + 1) * 16 ≤ 140737488355328 := by omega
        have hmb2 : (nb + 1) * 16 ≤ 140737488355328 := by omega
        clear hc1 hc2 htx hls2 hb2 HLS HBEL HTD HBD hi1n
        by_cases h20 : j < 20
        · have h40 : (i : Int) < 40 := hj40.2 h20
          clear hj40 hrb
          go_wp2_with (at_builtin; refine wpList_append_lies _ rfl _ _ 42 rfl (w.heap.size + 1) 9 is _ 1 16 Tryd.underlying42 his hs0 hs1 hs2 rfl (by decide) _ _ _ rfl (hra.alloc _) ⟨wc.heap.size, 0, none⟩ 1 1 [.string tx] rfl rfl (news1K _ _ _ _ rfl) (fun u hu => by simp at hu; subst hu; rfl) (by decide) hma hma2 (by simpa using hbs) (wc.heap.size + 1) (by simp) ?_)
          intro g1 cap1 W1 hown1 hgrow1 hat1 hlt1
          have hK1 : Kept wc W1 (fun k => (Value.slice aa na ca).ownBlock = some k) := ((Kept.refl wc _).alloc _).grown hgrow1 (fun k hk => .inl hk)
          have HN2 : Hid (ListsRel raw w (nE raw - (j + 1)) (.slice (some ⟨g1, 0, none⟩) (na + 1) cap1) (.slice ab nb cb) (.int .i64 i2) W1) := by
            refine listsRel_A (Wv := Wv') (Cv := Cv') hlt h20 (HLS2.out.addA hK1 ?_ (fun k hk => own_slice_at hat1 hk (Nat.le_succ _))) (by rw [HI22.out]) ?_
            · rw [← HNA.out, ← HTXT.out]; exact hown1
            · exact HB2.out.trans (Kept.below hK1 HB2.out.size fun k e => by have := (hra.lt k e).1; omega)
          clear hown1 hgrow1 hat1 hK1 hra
          go_wp2_with fail
          go_roundg (nE raw - (j + 1))
          case measure => exact Nat.sub_lt_sub_left hlt (Nat.lt_succ_self j)
          case rel => exact HN2.out
        · have h40 : ¬ (i : Int) < 40 := fun h => h20 (hj40.1 h)
          clear hj40 hra
          go_wp2_with (at_builtin; refine wpList_append_lies _ rfl _ _ 42 rfl (w.heap.size + 1) 9 is _ 1 16 Tryd.underlying42 his hs0 hs1 hs2 rfl (by decide) _ _ _ rfl (hrb.alloc _) ⟨wc.heap.size, 0, none⟩ 1 1 [.string tx] rfl rfl (news1K _ _ _ _ rfl) (fun u hu => by simp at hu; subst hu; rfl) (by decide) hmb hmb2 (by simpa using hbs) (wc.heap.size + 1) (by simp) ?_)
          intro g1 cap1 W1 hown1 hgrow1 hat1 hlt1
          have hK1 : Kept wc W1 (fun k => (Value.slice ab nb cb).ownBlock = some k) := ((Kept.refl wc _).alloc _).grown hgrow1 (fun k hk => .inl hk)
          have HN2 : Hid (ListsRel raw w (nE raw - (j + 1)) (.slice aa na ca) (.slice (some ⟨g1, 0, none⟩) (nb + 1) cap1) (.int .i64 i2) W1) := by
            refine listsRel_B (Wv := Wv') (Cv := Cv') hlt h20 (HLS2.out.addB hK1 ?_ (fun k hk => own_slice_at hat1 hk (Nat.le_succ _))) (by rw [HI22.out]) ?_
            · rw [← HNB.out, ← HTXT.out]; exact hown1
            · exact HB2.out.trans (Kept.below hK1 HB2.out.size fun k e => by have := (hrb.lt k e).1; omega)
          clear hown1 hgrow1 hat1 hK1 hrb
          go_wp2_with fail
          go_roundg (nE raw - (j + 1))
          case measure => exact Nat.sub_lt_sub_left hlt (Nat.lt_succ_self j)
          case rel => exact HN2.out
    · obtain rfl : j = nE raw := by omega
      have hra := HLS.out.ra
      have hrb := HLS.out.rb
      rw [← HNA.out] at hra
      rw [← HNB.out] at hrb
      have hgo : ¬ (i1 : Int) < (raw.length : Int) ∨ ((i1 : Int) < (raw.length : Int) ∧ ¬ (i : Int) < 80) := by
        have := HI1.out
        have := HI2.out
        have : nE raw = min (raw.length / 2) 40 := rfl
        omega
      have HJA : Hid (∀ W : World, W = wr → Calls Tryd.prog 28 #[.slice aa na ca] W fun e w' => e = .returned (.string (joinTo (txA raw (nE raw)) (txA raw (nE raw)).length)) ∧ w' = W) := fun W hW => by
        subst hW
        have := joined_any W _ (.slice aa na ca) (txA raw (nE raw)) (by rw [← HNA.out]; exact hra) (by rw [← HNA.out]; omega) (txA_size raw _)
        exact this
      have HJB : Hid (∀ W : World, W = wr → Calls Tryd.prog 28 #[.slice ab nb cb] W fun e w' => e = .returned (.string (joinTo (txB raw (nE raw)) (txB raw (nE raw)).length)) ∧ w' = W) := fun W hW => by
        subst hW
        have := joined_any W _ (.slice ab nb cb) (txB raw (nE raw)) (by rw [← HNB.out]; exact hrb) (by rw [← HNB.out]; omega) (txB_size raw _)
        exact this
      obtain ⟨sa, hsa⟩ : ∃ sa, sa = joinTo (txA raw (nE raw)) (txA raw (nE raw)).length := ⟨_, rfl⟩
      obtain ⟨sb, hsb⟩ : ∃ sb, sb = joinTo (txB raw (nE raw)) (txB raw (nE raw)).length := ⟨_, rfl⟩
      have HSA : Hid (sa = joinTo (txA raw (nE raw)) (txA raw (nE raw)).length) := hsa
      have HSB : Hid (sb = joinTo (txB raw (nE raw)) (txB raw (nE raw)).length) := hsb
      have HEND : Hid (ListsEnd raw w (wr.alloc (.cells #[.string sa, .string sb] 9)) (.returned (.tuple #[.slice (some ⟨wr.heap.size, 0, none⟩) 2 2, .pointer (some ⟨w.heap.size, 0, none⟩)]))) := by
        have hs : Same wr (wr.alloc (.cells #[.string sa, .string sb] 9)) := (Same.refl wr).alloc _
        have hlt : w.heap.size < wr.heap.size := cell_lt HLS.out.tb.c0
        refine ⟨wr.heap.size, Wv, Cv, rfl, hlt, ?_, HLS.out.tb.same hs, HBEL.out.alloc HBEL.out.size _⟩
        rw [← hsa, ← hsb]
        exact two_cells wr (.string sa) (.string sb) _ _ hlt
      clear hra hrb hsa hsb
      rcases hgo with hgo | ⟨hgo, hgo2⟩
      all_goals
        go_wp2_with fail
        refine (HJA.out wr rfl).mono ?_
        rintro e wr ⟨rfl, rfl⟩
        rw [← HSA.out]
        go_wp2_with fail
        refine (HJB.out wr rfl).mono ?_
        rintro e wr ⟨rfl, rfl⟩
        rw [← HSB.out]
        go_wp2_with fail
        go_ret2
        exact HEND.out

end Go.Proofs.YtlfpepehngkehabDoor
