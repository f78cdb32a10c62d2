/-
  Walks: the law's own helpers: what is handed over, and that it reads as it did.
-/
import Derived.Test.YtlfpepehngkehaaGreatStrsW
import Derived.Test.YtlfpepehngkehaaGreatBookW
import Derived.Laws.CopyOwn
namespace Go.Proofs.YtlfpepehngkehaaGreat
set_option linter.unusedSimpArgs false
set_option linter.unusedVariables false
open Go.RowKit

def markB : ByteArray := ⟨#[109, 97, 114, 107, 61, 49]⟩

theorem Tryz.infoString' : (Tryz.prog.info? 9).map (fun i => (i.zero, i.size, i.bytes)) = some (some (.string ByteArray.empty), 1, 16) := by kernel_rfl

theorem one_str' (L : List ByteArray) : ∀ u ∈ strCells L, u.oneCell' = true := by
  intro u hu; simp [strCells] at hu; obtain ⟨s, _, rfl⟩ := hu; rfl

theorem made_block {w1 : World} {B n : Nat} {xs : List Value} (h : w1.ownsRow B 9 1 (.slice (some ⟨B, 0, none⟩) n n) n xs) : ∃ ys : List Value, ys.length = n ∧ w1.heap[B]? = some (.cells ys.toArray 9 (0, 0)) := by
  obtain ⟨h1, h2⟩ := h
  rcases h2 with ⟨a, _⟩ | ⟨g, cap, cur, a, _, hh, _, _, hs, ht⟩
  · cases a
  · cases a
    have hc : cur.toList.length = n := by simpa using hs
    rw [List.take_of_length_le (by omega)] at ht
    refine ⟨xs, by simpa using h1, by rw [hh, ← ht]⟩

theorem strs_src {w w1 : World} {a : Option Addr} {ss : List ByteArray} (hA : StrsAt w a ss) (hb : Below w.heap.size w w1) : 0 < (strCells ss).length → (some ⟨w.heap.size, 0, none⟩ : Option Addr) = some ⟨w.heap.size, 0, none⟩ ∧ ∃ ad, a = some ad ∧ ∀ j v, (strCells ss)[j]? = some v → w1.cell? (ad.add j) = some v := by
  intro hpos
  obtain ⟨_, h⟩ := hA.below hb
  rcases h with h | ⟨b, off, rfl, h⟩
  · rw [h] at hpos; simp [strCells] at hpos
  · refine ⟨rfl, _, rfl, fun j v hj => ?_⟩
    have hjl : j < ss.length := by have := (List.getElem?_eq_some_iff.1 hj).1; simpa [strCells] using this
    have e : (⟨b, off, none⟩ : Addr).add j = ⟨b, off + j, none⟩ := by simp [Addr.add]; try omega
    rw [e, h j hjl, ← hj]
    simp [strCells, List.getElem?_eq_getElem hjl]

theorem spliced_row {w2 : World} {B : Nat} {xs : List Value} {ss : List ByteArray} (h : w2.heap[B]? = some (.cells (splice xs 0 (strCells ss)).toArray 9 (0, 0))) (hl : xs.length = ss.length + 2) (hm : ss.length + 2 ≤ maxLen) :
    ∃ y z, w2.ownsRow B 9 1 (.slice (some ⟨B, 0, none⟩) (ss.length + 2) (ss.length + 2)) (ss.length + 2) (strCells ss ++ [y, z]) := by
  have hd : (xs.drop ss.length).length = 2 := by simp; omega
  match hx : xs.drop ss.length, hd with
  | [y, z], _ =>
    refine ⟨y, z, by simp [strCells], .inr ⟨B, ss.length + 2, (splice xs 0 (strCells ss)).toArray, rfl, Nat.le_refl _, h, Nat.le_refl _, ?_, ?_, ?_⟩⟩
    · exact hm
    · rw [List.size_toArray, length_splice _ _ _ (by rw [strCells_length]; omega)]; omega
    · simp [splice, strCells_length, hx]
      rw [List.take_of_length_le (by simp [strCells])]

set_option maxHeartbeats 1000000 in
theorem handed_any (w : World) (a : Option Addr) (cap : Nat) (ss : List ByteArray) (hA : StrsAt w a ss) (hn : ss.length * 16 ≤ 140737488351232) :
    Calls Tryz.prog 15 #[.slice a ss.length cap] w fun e w' => e = .returned (.slice (some ⟨w.heap.size, 0, none⟩) ss.length (ss.length + 2)) ∧
      w'.ownsRow w.heap.size 9 1 (.slice (some ⟨w.heap.size, 0, none⟩) (ss.length + 2) (ss.length + 2)) (ss.length + 2) (strCells (ss ++ [markB, markB])) ∧ Below w.heap.size w w' := by
  obtain ⟨is, his, hs0, hs1, hs2⟩ := info_parts Tryz.infoString'
  go_enter Tryz.func15, Tryz.ntmps15
  go_wp2_with (at_make; refine wpList_make_full _ rfl (.tmp 8) (.tmp 8) 30 rfl w.heap.size 9 is _ 1 Tryz.underlying30 his hs0 hs1 .i64 .i64 _ _ (ss.length + 2) rfl rfl (by omega) (by omega) (by rw [hs2]; omega) (by unfold maxLen; omega) (Nat.le_refl _) ?_)
  intro w1 hown1 hgr1
  have hbel1 : Below w.heap.size w w1 := (Below.refl _ _).grown hgr1 (Nat.le_refl _) (fun k hk => by cases hk)
  obtain ⟨xs, hmade, hblk⟩ := made_block hown1
  clear hown1 hgr1
  have hn1 : (strCells ss).length = Nat.min ss.length (ss.length + 2) := by rw [strCells_length]; exact (Nat.min_eq_left (by omega)).symm
  have hp1 : 0 < (strCells ss).length → (some ⟨w.heap.size, 0, none⟩ : Option Addr) = some ⟨w.heap.size, 0, none⟩ ∧ ∃ ad, a = some ad ∧ ∀ j v, (strCells ss)[j]? = some v → w1.cell? (ad.add j) = some v := strs_src hA hbel1
  have hf1 : 0 + (strCells ss).length ≤ xs.length := by rw [strCells_length]; omega
  have HXS : Hid (xs.length = ss.length + 2) := hmade
  clear hmade
  go_wp2_with (refine wpList_copy_splice rfl (.tmp 10) (.tmp 11) 30 30 rfl 9 Tryz.underlying30 (by rw [his]; simp [hs1]) _ _ _ _ _ _ rfl rfl w.heap.size 0 xs 9 hblk (strCells ss) hn1 hp1 hf1 (one_str' _) w.heap.size w hbel1 (Nat.le_refl _) ?_)
  intro w2 hblk2 hbel2
  obtain ⟨y, z, hown2⟩ := spliced_row hblk2.out HXS.out (by unfold maxLen; omega)
  have hc0 := hown2.cellAt ss.length (by omega)
  have hc1 := hown2.cellAt (ss.length + 1) (by omega)
  have hc0' : w2.cell? ⟨w.heap.size, ss.length, none⟩ = some y := by rw [hc0]; simp [strCells]
  have hc1' : w2.cell? ⟨w.heap.size, ss.length + 1, none⟩ = some z := by rw [hc1]; simp [strCells]
  have hf0 := hown2.frozenAt ss.length
  have hf1' := hown2.frozenAt (ss.length + 1)
  have HOWN : Hid (w2.ownsRow w.heap.size 9 1 (.slice (some ⟨w.heap.size, 0, none⟩) (ss.length + 2) (ss.length + 2)) (ss.length + 2) (strCells ss ++ [y, z])) := hown2
  clear hc0 hc1 hblk hblk2 hn1 hp1 hf1 hown2
  go_wp2
  go_ret
  refine ⟨rfl, ?_, (hbel2.setCell (by simp) _).setCell (by simp) _⟩
  have h2 := ((HOWN.out.stored ss.length (.string markB)).1.stored (ss.length + 1) (.string markB)).1
  have e : ((strCells ss ++ [y, z]).set ss.length (.string markB)).set (ss.length + 1) (.string markB) = strCells (ss ++ [markB, markB]) := by
    rw [List.set_append_right _ _ (by simp [strCells]), List.set_append_right _ _ (by simp [strCells]), strCells_append]
    simp [strCells]
  rw [e] at h2
  exact h2

theorem StrsAt.cells {w : World} {a : Option Addr} {ss : List ByteArray} (h : StrsAt w a ss) (hn : ss.length ≠ 0) : ∃ b off, a = some ⟨b, off, none⟩ ∧ ∀ i (h : i < ss.length), w.cell? ⟨b, off + i, none⟩ = some (.string ss[i]) := by
  rcases h.2 with h | h
  · rw [h] at hn; exact absurd rfl hn
  · exact h

theorem StrsAt.same {w w' : World} {a : Option Addr} {ss : List ByteArray} (h : StrsAt w a ss) (hs : Same w w') : StrsAt w' a ss := h.below (Same.below hs (Below.refl _ _) (Nat.le_refl _))

set_option maxHeartbeats 1000000 in
theorem sameTexts_any (w : World) (a1 a2 : Option Addr) (c1 c2 : Nat) (ss : List ByteArray) (h1 : StrsAt w a1 ss) (h2 : StrsAt w a2 ss) (hn : ss.length * 16 ≤ 140737488351232) :
    Calls Tryz.prog 38 #[.slice a1 ss.length c1, .slice a2 ss.length c2] w fun e w' => e = .returned (.bool true) ∧ Same w w' := by
  have t0 : ((ss.length : Int) != (ss.length : Int)) = false := by simp
  go_enter Tryz.func38, Tryz.ntmps38
  go_wp2_with fail
  go_loopw [5] (fun x wr => ∃ i : Nat, i ≤ ss.length ∧ x = .int .i64 i ∧ Same w wr) (fun x _ => ss.length - (intOf x).toNat)
  case atStart => exact ⟨0, by omega, rfl, Same.refl _⟩
  case round =>
    obtain ⟨i, hi, rfl, hsame⟩ := hrel
    by_cases hlt : i < ss.length
    · obtain ⟨b1, o1, rfl, hc1⟩ := (h1.same hsame).cells (by omega)
      obtain ⟨b2, o2, rfl, hc2⟩ := (h2.same hsame).cells (by omega)
      have hx1 := hc1 i hlt
      have hx2 := hc2 i hlt
      generalize ss[i] = s at hx1 hx2
      have hs : (s.toList == s.toList) = true := by simp
      have hli : (i : Int) < (ss.length : Int) := by omega
      clear hc1 hc2 h1 h2
      go_wp2_with fail
      go_quiet (fail)
      go_wp2
      go_roundw
      case rel => exact ⟨i + 1, by omega, by go_num, Kept.drewN hsame _⟩
      case measure => simp [intOf]; omega
    · go_wp2
      go_ret
      exact ⟨rfl, hsame⟩

theorem mark_eq : (markB.toList == [109, 97, 114, 107, 61, 49]) = true := by
  have h : markB.toList = [109, 97, 114, 107, 61, 49] := by rw [ByteArray.toList_eq]; rfl
  rw [h]; rfl

theorem handed_strs {w : World} {B : Nat} {ss : List ByteArray} (h : w.ownsRow B 9 1 (.slice (some ⟨B, 0, none⟩) (ss.length + 2) (ss.length + 2)) (ss.length + 2) (strCells (ss ++ [markB, markB]))) (hs : ∀ s ∈ ss, s.size ≤ maxLen) : StrsAt w (some ⟨B, 0, none⟩) ss := by
  refine ⟨hs, ?_⟩
  by_cases h0 : ss = []
  · exact .inl h0
  · refine .inr ⟨B, 0, rfl, fun i hi => ?_⟩
    rw [Nat.zero_add, h.cellAt i (by omega)]
    simp [strCells, List.getElem?_append_left, hi]

set_option maxHeartbeats 1000000 in
theorem still_any (w : World) (B : Nat) (a2 : Option Addr) (c2 : Nat) (ss : List ByteArray) (h1 : w.ownsRow B 9 1 (.slice (some ⟨B, 0, none⟩) (ss.length + 2) (ss.length + 2)) (ss.length + 2) (strCells (ss ++ [markB, markB]))) (h2 : StrsAt w a2 ss) (hn : ss.length * 16 ≤ 140737488351232) :
    Calls Tryz.prog 18 #[.slice (some ⟨B, 0, none⟩) ss.length (ss.length + 2), .slice a2 ss.length c2] w fun e w' => e = .returned (.bool true) ∧ Same w w' := by
  go_enter Tryz.func18, Tryz.ntmps18
  go_wp2_with fail
  refine (sameTexts_any w (some ⟨B, 0, none⟩) a2 _ c2 ss (handed_strs h1 h2.1) h2 hn).mono ?_
  rintro e w1 ⟨rfl, hsame⟩
  have h3 := hsame.row h1
  have hc0 : w1.cell? ⟨B, ss.length, none⟩ = some (.string markB) := by rw [h3.cellAt ss.length (by omega)]; simp [strCells]
  have hc1 : w1.cell? ⟨B, ss.length + 1, none⟩ = some (.string markB) := by rw [h3.cellAt (ss.length + 1) (by omega)]; simp [strCells]
  have hmk := mark_eq
  clear h1 h2 h3
  go_wp2
  go_ret
  exact ⟨rfl, hsame⟩

set_option maxHeartbeats 1000000 in
theorem over_any (w : World) (B n c : Nat) (xs : List Value) (m : Nat) (hm : n ≤ m) (h1 : w.ownsRow B 9 1 (.slice (some ⟨B, 0, none⟩) m c) m xs) (hn : n * 16 ≤ 140737488351232) :
    Calls Tryz.prog 19 #[.slice (some ⟨B, 0, none⟩) n c] w fun e w' => e = .returned (.tuple #[]) ∧ Kept w w' (fun k => k = B) := by
  go_enter Tryz.func19, Tryz.ntmps19
  go_wp2_with fail
  go_loopw [2] (fun x wr => ∃ (i : Nat) (ys : List Value), i ≤ n ∧ x = .int .i64 i ∧ Kept w wr (fun k => k = B) ∧ wr.ownsRow B 9 1 (.slice (some ⟨B, 0, none⟩) m c) m ys) (fun x _ => n - (intOf x).toNat)
  case atStart => exact ⟨0, xs, by omega, rfl, Kept.refl _ _, h1⟩
  case round =>
    obtain ⟨i, ys, hi, rfl, hK, hown⟩ := hrel
    by_cases hlt : i < n
    · have hy : i < ys.length := by have := hown.1; omega
      have hc : wr.cell? ⟨B, i, none⟩ = some ys[i] := by rw [hown.cellAt i (by omega), List.getElem?_eq_getElem hy]
      have hf := hown.frozenAt i
      have HS := (hown.stored i (.string markB)).1
      have HS' : Hid (World.ownsRow _ B 9 1 (.slice (some ⟨B, 0, none⟩) m c) m (ys.set i (.string markB))) := HS
      clear HS
      go_wp2
      go_roundw
      case rel => exact ⟨i + 1, _, by omega, by go_num, hK.setCell _ _ (.inl rfl), HS'.out⟩
      case measure => simp [intOf]; omega
    · go_wp2
      go_end0
      exact ⟨rfl, hK⟩

end Go.Proofs.YtlfpepehngkehaaGreat
