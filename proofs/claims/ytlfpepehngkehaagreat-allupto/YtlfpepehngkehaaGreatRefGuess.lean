/-
  Walks: the reference's guess.
-/
import Derived.Test.YtlfpepehngkehaaGreatRows
import Derived.Test.YtlfpepehngkehaaGreatBookW
import Derived.Test.YtlfpepehngkehaaGreatMaths
import Derived.Deep.AppendLies
import Derived.Deep.RegionLaw
import Derived.Deep.LoopGhost
import Derived.WalkSpells
import Derived.WalkLawsBesides
namespace Go.Proofs.YtlfpepehngkehaaGreat
set_option linter.unusedSimpArgs false
set_option linter.unusedVariables false
open Go.RowKit

theorem Tryz.infoStringG : (Tryz.prog.info? 9).map (fun i => (i.zero, i.size, i.bytes)) = some (some (.string ByteArray.empty), 1, 16) := by kernel_rfl
theorem Tryz.infoIntG : (Tryz.prog.info? 3).map (fun i => (i.zero, i.size, i.bytes)) = some (some (.int .i64 0), 1, 8) := by kernel_rfl

theorem one1G (x : ByteArray) : ∀ u ∈ [Value.string x], u.oneCell' = true := by
  intro u hu; simp at hu; subst hu; rfl
theorem one1iG (c : Int) : ∀ u ∈ [Value.int .i64 c], u.oneCell' = true := by
  intro u hu; simp at hu; subst hu; rfl

theorem wrap_cost {ca cb : Nat} (ha : ca < 256) (hb : cb < 256) : IntKind.i64.wrap (IntKind.i64.wrap (ca : Int) + IntKind.i64.wrap (256 * IntKind.i64.wrap (cb : Int))) = ((ca + 256 * cb : Nat) : Int) := by
  have h1 : IntKind.i64.wrap (ca : Int) = ca := by rw [IntKind.wrap_i64]; omega
  have h2 : IntKind.i64.wrap (cb : Int) = cb := by rw [IntKind.wrap_i64]; omega
  have h3 : IntKind.i64.wrap (256 * (cb : Int)) = 256 * cb := by rw [IntKind.wrap_i64]; omega
  rw [h1, h2, h3, IntKind.wrap_i64]
  omega

theorem news1d (w : World) (x : Value) (t : TypeId) (n : Nat) (hn : n = w.heap.size) : ∀ j u, [x][j]? = some u → ((w.alloc (.cells #[x] t)).drew).cell? ((⟨n, 0, none⟩ : Addr).add j) = some u := by
  subst hn; exact cell_one_new _ _ _

/-- a word more: behind both stores. -/
theorem book_push {w0 W1 X W3 : World} {B : Nat} {D : Dic} {Wv Cv : Value} {x : ByteArray} {c g1 cap1 g3 cap3 : Nat} (hB : BookAt w0 B D Wv Cv)
    (hK1 : Kept w0 W1 (fun k => Wv.ownBlock = some k)) (h1 : W1.ownsRow (B + 1) 9 1 (.slice (some ⟨g1, 0, none⟩) (D.length + 1) cap1) (D.length + 1) (strCells (D.map (·.1)) ++ [.string x])) (ha1 : Wv.ownBlock = some g1 ∨ w0.heap.size ≤ g1)
    (hX : X = W1.setCell ⟨B, 0, none⟩ (.slice (some ⟨g1, 0, none⟩) (D.length + 1) cap1))
    (hK3 : Kept X W3 (fun k => Cv.ownBlock = some k)) (h3 : W3.ownsRow (B + 1) 3 1 (.slice (some ⟨g3, 0, none⟩) (D.length + 1) cap3) (D.length + 1) (intCells (D.map (·.2)) ++ [.int .i64 c])) (ha3 : Cv.ownBlock = some g3 ∨ X.heap.size ≤ g3) :
    BookAt (W3.setCell ⟨B, 1, none⟩ (.slice (some ⟨g3, 0, none⟩) (D.length + 1) cap3)) B (D ++ [(x, c)]) (.slice (some ⟨g1, 0, none⟩) (D.length + 1) cap1) (.slice (some ⟨g3, 0, none⟩) (D.length + 1) cap3) ∧ (∀ w, Below B w w0 → B ≤ w0.heap.size → Below B w (W3.setCell ⟨B, 1, none⟩ (.slice (some ⟨g3, 0, none⟩) (D.length + 1) cap3))) := by
  have hb : B < w0.heap.size := cell_lt hB.c0
  have hwB : ¬ (Wv.ownBlock = some B) := fun e => by have := (hB.ow.lt _ e).1; omega
  have hcB : ¬ (Cv.ownBlock = some B) := fun e => by have := (hB.oc.lt _ e).1; omega
  have hz1 := hK1.size
  have hKX : Kept W1 X (fun k => k = B) := by rw [hX]; exact (Kept.refl _ _).setCell _ _ (.inl rfl)
  have hzX := hKX.size
  have hKF : Kept W3 (W3.setCell ⟨B, 1, none⟩ (.slice (some ⟨g3, 0, none⟩) (D.length + 1) cap3)) (fun k => k = B) := (Kept.refl _ _).setCell _ _ (.inl rfl)
  have hX0 : X.cell? ⟨B, 0, none⟩ = some (.slice (some ⟨g1, 0, none⟩) (D.length + 1) cap1) := by rw [hX]; apply World.cell?_setCell_same; exact (hK1.cell (p := ⟨B, 0, none⟩) hb hwB).trans hB.c0
  have hX1 : X.cell? ⟨B, 1, none⟩ = some Cv := by rw [hX]; exact (World.cell?_setCell_other _ _ _ _ (by intro e; simp at e)).trans ((hK1.cell (p := ⟨B, 1, none⟩) hb hwB).trans hB.c1)
  have hXf : ∀ o, X.frozen? ⟨B, o, none⟩ = false := fun o => by
    rw [hX]; simp only [World.frozen?_setCell]; exact (hK1.frozen (p := ⟨B, o, none⟩) hb hwB).trans (hB.fz o)
  have hBX : B < X.heap.size := cell_lt hX0
  have hl1 := h1.lt
  have hl3 := h3.lt
  have hg1 := hl1 g1 rfl
  have hg3 := hl3 g3 rfl
  have hg13 : Cv.ownBlock ≠ some g1 := by
    intro e
    rcases ha1 with a | a
    · exact hB.ap g1 a e
    · have := (hB.oc.lt _ e).2; omega
  have hne : g1 ≠ g3 := by
    intro e
    subst e
    rcases ha3 with a | a
    · exact hg13 a
    · omega
  refine ⟨⟨?_, ?_, ?_, ?_, ?_, ?_, ?_⟩, ?_⟩
  · exact (World.cell?_setCell_other _ _ _ _ (by intro e; simp at e)).trans ((hK3.cell (p := ⟨B, 0, none⟩) hBX hcB).trans hX0)
  · apply World.cell?_setCell_same; exact (hK3.cell (p := ⟨B, 1, none⟩) hBX hcB).trans hX1
  · intro o
    simp only [World.frozen?_setCell]
    exact (hK3.frozen (p := ⟨B, o, none⟩) hBX hcB).trans (hXf o)
  · have r1 := Kept.row h1 hKX (fun k hk e => by have := (hl1 k hk).1; omega)
    have r2 := Kept.row r1 hK3 (fun k hk e => by cases hk; exact hg13 e)
    have r3 := Kept.row r2 hKF (fun k hk e => by have := (hl1 k hk).1; omega)
    simpa [strCells] using r3
  · have r3 := Kept.row h3 hKF (fun k hk e => by have := (hl3 k hk).1; omega)
    simpa [intCells] using r3
  · intro k hk e
    cases hk; cases e
    exact hne rfl
  · intro h0; simp at h0
  · intro w hbel _
    have b1 : Below B w0 W1 := hK1.below (by omega) (fun k hk => by have := (hB.ow.lt _ hk).1; omega)
    have b2 : Below B W1 X := hKX.below (by omega) (fun k hk => by omega)
    have b3 : Below B X W3 := hK3.below (by omega) (fun k hk => by have := (hB.oc.lt _ hk).1; omega)
    have hz3 := hK3.size
    have b4 := hKF.below (B := B) (by omega) (fun k hk => by omega)
    exact ((((hbel.trans b1).trans b2).trans b3).trans b4)

def GuessRel (s : ByteArray) (w : World) (g : Nat) (lv kv : Value) (wr : World) : Prop :=
  ∃ (k f : Nat) (last : ByteArray) (D : Dic) (Wv Cv : Value), g = s.size - k ∧ lv = .string last ∧ kv = .int .i64 k ∧ k ≤ s.size + 4 ∧ 4 * D.length + 4 ≤ k ∧ s.size ≤ f + k ∧ D ++ guessG s f k last = guessD s ∧ BookAt wr w.heap.size D Wv Cv ∧ Below w.heap.size w wr

theorem guess_next {s : ByteArray} {w w0 W1 X W3 : World} {k f en kp mo ca cb g1 cap1 g3 cap3 : Nat} {last nx : ByteArray} {D : Dic} {Wv Cv kv : Value}
    (hf : s.size ≤ f + k) (h1 : k + 5 ≤ s.size) (hkp : kp = bt s k) (hmo : mo = bt s (k + 1)) (hen : en = k + 2 + mo) (h2 : kp ≤ last.size) (hes : en + 3 ≤ s.size) (hDk : 4 * D.length + 4 ≤ k)
    (hca : ca = bt s en) (hcb : cb = bt s (en + 1)) (hnx : nx = last.extract 0 kp ++ s.extract (k + 2) en) (hG : D ++ guessG s f k last = guessD s)
    (hB : BookAt w0 w.heap.size D Wv Cv) (hbel : Below w.heap.size w w0)
    (hK1 : Kept w0 W1 (fun k => Wv.ownBlock = some k)) (h1' : W1.ownsRow (w.heap.size + 1) 9 1 (.slice (some ⟨g1, 0, none⟩) (D.length + 1) cap1) (D.length + 1) (strCells (D.map (·.1)) ++ [.string nx])) (ha1 : Wv.ownBlock = some g1 ∨ w0.heap.size ≤ g1)
    (hX : X = W1.setCell ⟨w.heap.size, 0, none⟩ (.slice (some ⟨g1, 0, none⟩) (D.length + 1) cap1))
    (hK3 : Kept X W3 (fun k => Cv.ownBlock = some k)) (h3 : W3.ownsRow (w.heap.size + 1) 3 1 (.slice (some ⟨g3, 0, none⟩) (D.length + 1) cap3) (D.length + 1) (intCells (D.map (·.2)) ++ [.int .i64 (IntKind.i64.wrap (IntKind.i64.wrap (ca : Int) + IntKind.i64.wrap (256 * IntKind.i64.wrap (cb : Int))))])) (ha3 : Cv.ownBlock = some g3 ∨ g3 = X.heap.size + 1)
    (hkv : kv = .int .i64 ((en + 2 : Nat) : Int)) :
    GuessRel s w (s.size - (en + 2)) (.string nx) kv (W3.setCell ⟨w.heap.size, 1, none⟩ (.slice (some ⟨g3, 0, none⟩) (D.length + 1) cap3)) := by
  have hl2 : ca < 256 := hca ▸ bt_lt _ _
  have hl3 : cb < 256 := hcb ▸ bt_lt _ _
  rw [wrap_cost hl2 hl3] at h3
  obtain ⟨f', hf', hgs⟩ := guessG_step hf h1 (by rw [← hkp]; exact h2) (by rw [← hmo, ← hen]; exact hes)
  rw [← hkp, ← hmo, ← hen, ← hnx, ← hca, ← hcb] at hgs
  rw [← hmo, ← hen] at hf'
  obtain ⟨p1, p2⟩ := book_push hB hK1 h1' ha1 hX hK3 h3 (by rcases ha3 with a | a; exact .inl a; exact .inr (by omega))
  refine ⟨en + 2, f', nx, D ++ [(nx, ca + 256 * cb)], _, _, rfl, rfl, hkv, by omega, by simp; omega, hf', ?_, p1, p2 w hbel hbel.size⟩
  rw [List.append_assoc, ← hG, hgs]
  rfl

set_option maxHeartbeats 2000000 in
set_option maxRecDepth 100000 in
theorem guess_any (w : World) (s : ByteArray) (hs : s.size ≤ 1048576) :
    Calls Tryz.prog 40 #[.string s] w fun e w' => e = .returned (.pointer (some ⟨w.heap.size, 0, none⟩)) ∧ (∃ Wv Cv, BookAt w' w.heap.size (guessD s) Wv Cv) ∧ Below w.heap.size w w' := by
  obtain ⟨is, his, hs0, hs1, hs2⟩ := info_parts Tryz.infoStringG
  obtain ⟨ii, hii, hi0, hi1, hi2⟩ := info_parts Tryz.infoIntG
  go_enter Tryz.func40, Tryz.ntmps40
  go_wp2_with fail
  go_loopg [4, 5] (s.size - 4) (fun g lv kv wr => GuessRel s w g lv kv wr)
  case atStart =>
    refine ⟨4, s.size, ByteArray.empty, [], .slice none 0 0, .slice none 0 0, rfl, rfl, rfl, by omega, by simp, by omega, rfl, ⟨?_, ?_, ?_, World.ownsRow_nil _ _ _ _, World.ownsRow_nil _ _ _ _, (fun k hk => by cases hk), fun _ => ⟨rfl, rfl⟩⟩, (Below.refl _ _).alloc (Nat.le_refl _) _⟩
    · simp
    · simp
    · simp
  case round =>
    obtain ⟨k, f, last, D, Wv, Cv, rfl, rfl, rfl, hk4, hDk, hf, hG, hB, hbel⟩ := hrel
    obtain ⟨w0, rfl⟩ : ∃ w0, w0 = wr := ⟨_, rfl⟩
    have HG : Hid (D ++ guessG s f k last = guessD s) := hG
    have HB : Hid (BookAt w0 w.heap.size D Wv Cv) := hB
    have HBL : Hid (Below w.heap.size w w0) := hbel
    clear hG hB hbel
    by_cases h1 : k + 5 ≤ s.size
    · have h1' : (k : Int) + 4 ≤ (s.size : Int) - 1 := by omega
      have hbt0 := bt_get s k (by omega)
      have hbt1 := bt_get s (k + 1) (by omega)
      have hl0 := bt_lt s k
      have hl1 := bt_lt s (k + 1)
      obtain ⟨kp, hkp⟩ : ∃ kp, kp = bt s k := ⟨_, rfl⟩
      obtain ⟨mo, hmo⟩ : ∃ mo, mo = bt s (k + 1) := ⟨_, rfl⟩
      have HKP : Hid (kp = bt s k) := hkp
      have HMO : Hid (mo = bt s (k + 1)) := hmo
      rw [← hkp] at hbt0 hl0
      rw [← hmo] at hbt1 hl1
      clear hkp hmo
      by_cases h2 : kp ≤ last.size
      · by_cases h3 : k + 2 + mo + 3 ≤ s.size
        · obtain ⟨en, hen'⟩ : ∃ en, en = k + 2 + mo := ⟨_, rfl⟩
          have hen : (k : Int) + 2 + mo = (en : Int) := by omega
          have HEN : Hid (en = k + 2 + mo) := hen'
          have hek : k + 2 ≤ en := by omega
          have hes : en + 3 ≤ s.size := by omega
          have h3' : (en : Int) + 2 ≤ (s.size : Int) - 1 := by omega
          have hem : en - (k + 2) = mo := by omega
          have hes0 : en < s.size := by omega
          have hes1 : en + 1 < s.size := by omega
          have hes2 : (0 : Int) ≤ (en : Int) + 1 := by omega
          have hes3 : (en : Int) + 1 < (s.size : Int) := by omega
          clear hen' h3
          have hbt2 := bt_get s en hes0
          have hbt3 := bt_get s (en + 1) hes1
          have hl2 := bt_lt s en
          have hl3 := bt_lt s (en + 1)
          obtain ⟨ca, hca⟩ : ∃ ca, ca = bt s en := ⟨_, rfl⟩
          obtain ⟨cb, hcb⟩ : ∃ cb, cb = bt s (en + 1) := ⟨_, rfl⟩
          have HCA : Hid (ca = bt s en) := hca
          have HCB : Hid (cb = bt s (en + 1)) := hcb
          rw [← hca] at hbt2 hl2
          rw [← hcb] at hbt3 hl3
          clear hca hcb
          have hlim : ¬ 9223372036854775807 < kp + mo := by omega
          have hwe : IntKind.i64.wrap ((en : Int) + 1) = (en : Int) + 1 := by rw [IntKind.wrap_i64]; omega
          have hwm : IntKind.i64.wrap (256 * (cb : Int)) = 256 * (cb : Int) := by rw [IntKind.wrap_i64]; omega
          have hwa : IntKind.i64.wrap ((ca : Int) + 256 * (cb : Int)) = (ca : Int) + 256 * (cb : Int) := by rw [IntKind.wrap_i64]; omega
          have hb0 := HB.out.c0
          have hb1 := HB.out.c1
          have hbw : w.heap.size < w0.heap.size := cell_lt hb0
          obtain ⟨nx, hnx⟩ : ∃ nx, nx = last.extract 0 kp ++ s.extract (k + 2) en := ⟨_, rfl⟩
          have HNX : Hid (nx = last.extract 0 kp ++ s.extract (k + 2) en) := hnx
          have hnx' := hnx.symm
          clear hnx
          go_wp2_with fail
          go_region
          go_wp2_with (at_builtin; refine wpList_append_lies _ rfl (.tmp 56) (.tmp 58) 30 rfl (w.heap.size + 1) 9 is _ 1 16 Tryz.underlying30 his hs0 hs1 hs2 rfl (by decide) Wv D.length (strCells (D.map (·.1))) rfl (Same.row ((Kept.alloc (Same.refl w0) _).drew) HB.out.ow) ⟨w0.heap.size, 0, none⟩ 1 1 [.string nx] rfl rfl (news1d _ _ _ _ rfl) (one1G _) (by decide) (by unfold maxLen; omega) (by omega) (by simp; omega) (w0.heap.size + 1) (by simp) ?_)
          intro g1 cap1 W1 hown1 hgrow1 hat1 hlt1
          have hwB : ¬ (Wv.ownBlock = some w.heap.size) := fun e => by have := (HB.out.ow.lt _ e).1; omega
          have hcB : ¬ (Cv.ownBlock = some w.heap.size) := fun e => by have := (HB.out.oc.lt _ e).1; omega
          have hK1 : Kept w0 W1 (fun k => Wv.ownBlock = some k) := (((Kept.refl w0 _).alloc _).drew).grown hgrow1 (fun k hk => .inl hk)
          have hc0 : W1.cell? ⟨w.heap.size, 0, none⟩ = some Wv := (hK1.cell (p := ⟨w.heap.size, 0, none⟩) hbw hwB).trans HB.out.c0
          have hc1 : W1.cell? ⟨w.heap.size, 1, none⟩ = some Cv := (hK1.cell (p := ⟨w.heap.size, 1, none⟩) hbw hwB).trans HB.out.c1
          have hff0 : W1.frozen? ⟨w.heap.size, 0, none⟩ = false := (hK1.frozen (p := ⟨w.heap.size, 0, none⟩) hbw hwB).trans (HB.out.fz 0)
          have hff1 : W1.frozen? ⟨w.heap.size, 1, none⟩ = false := (hK1.frozen (p := ⟨w.heap.size, 1, none⟩) hbw hwB).trans (HB.out.fz 1)
          have hbw1 : w.heap.size < W1.heap.size := cell_lt hc0
          obtain ⟨X, hX⟩ : ∃ X, X = W1.setCell ⟨w.heap.size, 0, none⟩ (.slice (some ⟨g1, 0, none⟩) (D.length + 1) cap1) := ⟨_, rfl⟩
          have HX : Hid (X = W1.setCell ⟨w.heap.size, 0, none⟩ (.slice (some ⟨g1, 0, none⟩) (D.length + 1) cap1)) := hX
          have hKX : Kept W1 X (fun k => k = w.heap.size) := by rw [hX]; exact (Kept.refl _ _).setCell _ _ (.inl rfl)
          have hx1 : X.cell? ⟨w.heap.size, 1, none⟩ = some Cv := by rw [hX]; exact (World.cell?_setCell_other _ _ _ _ (by intro e; simp at e)).trans hc1
          have hxf : X.frozen? ⟨w.heap.size, 1, none⟩ = false := by rw [hX]; simp only [World.frozen?_setCell]; exact hff1
          have hbX : w.heap.size < X.heap.size := cell_lt hx1
          have hcap : ∀ k, Cv.ownBlock = some k → ¬ (Wv.ownBlock = some k) := fun k hk e => HB.out.ap k e hk
          have HXO : Hid (X.ownsRow (w.heap.size + 1) 3 1 Cv D.length (intCells (D.map (·.2)))) := Kept.row (Kept.row HB.out.oc hK1 hcap) hKX (fun k hk e => by have := (HB.out.oc.lt _ hk).1; omega)
          have HO1 : Hid (W1.ownsRow (w.heap.size + 1) 9 1 (.slice (some ⟨g1, 0, none⟩) (D.length + 1) cap1) (D.length + 1) (strCells (D.map (·.1)) ++ [.string nx])) := hown1
          have HA1 : Hid (Wv.ownBlock = some g1 ∨ w0.heap.size ≤ g1) := by rcases hat1 with a | a; exact .inl a; exact .inr (by omega)
          have HK1 : Hid (Kept w0 W1 (fun k => Wv.ownBlock = some k)) := hK1
          have HCB2 : Hid (¬ (Cv.ownBlock = some w.heap.size)) := hcB
          have hX' := hX.symm
          clear hX hown1 hgrow1 hat1 hK1 hKX hcap hc1 hff1 hb0 hb1 hwB hcB
          go_wp2_with fail
          go_region_law ((refine step_append_lies _ rfl (.tmp 66) (.tmp 78) 48 rfl (w.heap.size + 1) 3 ii _ 1 8 Tryz.underlying48 hii hi0 hi1 hi2 rfl (by decide) Cv D.length (intCells (D.map (·.2))) (by simp [Act.eval, Act.put]) (Same.row ((Kept.alloc (Same.refl X) _).drew) HXO.out) ⟨X.heap.size, 0, none⟩ 1 1 [.int .i64 (IntKind.i64.wrap (IntKind.i64.wrap (ca : Int) + IntKind.i64.wrap (256 * IntKind.i64.wrap (cb : Int))))] (by simp [Act.eval, Act.put]) rfl (news1d _ _ _ _ rfl) (one1iG _) (by decide) (by unfold maxLen; omega) (by omega) (by simp; omega) (X.heap.size + 1) (by simp) ?_; intro g3 cap3 W3 hown3 hgrow3 hat3 hlt3; have hK3 : Kept X W3 (fun k => Cv.ownBlock = some k) := (((Kept.refl X _).alloc _).drew).grown hgrow3 (fun k hk => .inl hk); have hd1 := (hK3.cell (p := ⟨w.heap.size, 1, none⟩) hbX HCB2.out).trans hx1; have hdf := (hK3.frozen (p := ⟨w.heap.size, 1, none⟩) hbX HCB2.out).trans hxf))
          all_goals
            have HSR : Hid (GuessRel s w (s.size - (en + 2)) (.string nx) (.int .i64 ((en : Int) + 2)) (W3.setCell ⟨w.heap.size, 1, none⟩ (.slice (some ⟨g3, 0, none⟩) (D.length + 1) cap3))) :=
              guess_next hf h1 HKP.out HMO.out HEN.out h2 hes hDk HCA.out HCB.out HNX.out HG.out HB.out HBL.out HK1.out HO1.out HA1.out HX.out hK3 hown3 hat3 rfl
            clear hown3 hgrow3 hat3 hK3 hd1 hdf hwe hwm hwa hX'
            go_wp2_with fail
            go_roundg (s.size - (en + 2))
            case measure => omega
            case rel => exact HSR.out
        · have HE : Hid (D = guessD s) := by
            have := HG.out
            rw [guessG_stop (fun h => h3 (by rw [HMO.out]; exact h.2.2)), List.append_nil] at this
            exact this
          have h3' : (s.size : Int) - 1 < (k : Int) + 2 + mo + 2 := by omega
          go_wp2_with fail
          go_ret
          exact ⟨rfl, ⟨Wv, Cv, by rw [← HE.out]; exact HB.out⟩, HBL.out⟩
      · have HE : Hid (D = guessD s) := by
          have := HG.out
          rw [guessG_stop (fun h => h2 (by rw [HKP.out]; exact h.2.1)), List.append_nil] at this
          exact this
        have h2' : (last.size : Int) < (kp : Int) := by omega
        go_wp2_with fail
        go_ret
        exact ⟨rfl, ⟨Wv, Cv, by rw [← HE.out]; exact HB.out⟩, HBL.out⟩
    · have HE : Hid (D = guessD s) := by
        have := HG.out
        rw [guessG_stop (fun h => h1 h.1), List.append_nil] at this
        exact this
      have h1' : ¬ (k : Int) + 4 ≤ (s.size : Int) - 1 := by omega
      go_wp2_with fail
      go_ret
      exact ⟨rfl, ⟨Wv, Cv, by rw [← HE.out]; exact HB.out⟩, HBL.out⟩

end Go.Proofs.YtlfpepehngkehaaGreat
