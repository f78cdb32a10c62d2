/-
  Walks: a word taken out of a set.
-/
import Derived.Test.YtlfpepehngkehabDoorSetPut
namespace Go.Proofs.YtlfpepehngkehabDoor
set_option linter.unusedSimpArgs false
set_option linter.unusedVariables false
open Go.RowKit

theorem row_cut {w : World} {B g cap n : Nat} {t : TypeId} {D : Dic} {p : ByteArray × Nat} (h : w.ownsRow B t 2 (.slice (some ⟨g, 0, none⟩) (n + 1) cap) (n + 1) (pairCells (D ++ [p]))) (hn : D.length = n) :
    w.ownsRow B t 2 (.slice (some ⟨g, 0, none⟩) n cap) n (pairCells D) := by
  obtain ⟨h1, h2⟩ := h
  refine ⟨by rw [pairCells_length, hn], ?_⟩
  rcases h2 with ⟨a, _⟩ | ⟨g', cap', cur, a, hb, hh, hc, hm, hs, ht⟩
  · cases a
  · cases a
    refine .inr ⟨g, cap, cur, rfl, hb, hh, by omega, hm, hs, ?_⟩
    have : (cur.toList.take ((n + 1) * 2)).take (n * 2) = cur.toList.take (n * 2) := by rw [List.take_take]; congr 1; omega
    rw [← this, ht, pairCells_append, List.take_append_of_le_length (by rw [pairCells_length]; omega), List.take_of_length_le (by rw [pairCells_length]; omega)]

theorem set_cut {w : World} {t : TypeId} {b g cap n : Nat} {D : Dic} {p : ByteArray × Nat} (h : SetAt w t b (.slice (some ⟨g, 0, none⟩) (n + 1) cap) (D ++ [p])) (hn : D.length = n) (hbg : b ≠ g) :
    SetAt (w.setCell ⟨b, 0, none⟩ (.slice (some ⟨g, 0, none⟩) n cap)) t b (.slice (some ⟨g, 0, none⟩) n cap) D := by
  obtain ⟨h1, h2, h3, h5⟩ := h
  have h3' : w.ownsRow 0 t 2 (.slice (some ⟨g, 0, none⟩) (n + 1) cap) (n + 1) (pairCells (D ++ [p])) := by simpa [hn] using h3
  have h4 := row_cut h3' hn
  refine ⟨?_, by simp [h2], ?_, fun k hk => by simp [Value.ownBlock] at hk; omega⟩
  · apply World.cell?_setCell_same; exact h1
  · rw [hn]
    exact Kept.row h4 ((Kept.refl w (fun k => k = b)).setCell ⟨b, 0, none⟩ _ (.inl rfl)) (fun k hk e => by simp [Value.ownBlock] at hk; omega)

set_option maxHeartbeats 1000000 in
set_option maxRecDepth 20000 in
theorem drop_any (w : World) (b : Nat) (v : Value) (D : Dic) (x : ByteArray) (hx : x.size ≤ 2000) (hS : SetAt w 94 b v D) (hsrt : Srt D) (hlen : D.length ≤ 100000) :
    Calls Tryd.prog 46 #[.pointer (some ⟨b, 0, none⟩), .string x] w fun e w' => e = .returned (.tuple #[]) ∧
      ((∃ k, ∃ h : k < D.length, D[k].1 = x ∧ SetRes w w' 94 b v (del D k)) ∨ (∃ k, SplitAt D x k ∧ (∀ (h : k < D.length), D[k].1 ≠ x) ∧ SetRes w w' 94 b v D)) := by
  have HS := hS
  obtain ⟨hcell, hfrz, hown, -⟩ := hS
  go_enter Tryd.func46, Tryd.ntmps46
  go_wp2_with fail
  refine (find_any _ b v D x HS hsrt (by omega)).mono ?_
  rintro e w1 ⟨⟨k, f, rfl, hsp, hf⟩, rfl⟩
  have HSP : Hid (SplitAt D x k) := hsp
  have hk := hsp.1
  clear hsp
  cases f with
  | false =>
    have hnf : ∀ (h : k < D.length), D[k].1 ≠ x := fun h e => by have := hf.2 ⟨h, e⟩; cases this
    have HN : Hid (∀ (h : k < D.length), D[k].1 ≠ x) := hnf
    clear hf hnf
    go_wp2
    exact bodyPost_ret (v := .tuple #[]) (by simp [results, Tryd.results46, go_sem]) rfl ⟨rfl, .inr ⟨k, HSP.out, HN.out, v, HS, Kept.refl _ _, fun k hk => .inl hk⟩⟩
  | true =>
    obtain ⟨hkl, hkx⟩ := hf.1 rfl
    have HK : Hid (D[k].1 = x) := hkx
    clear hf hkx
    rcases HS.shape with ⟨rfl, rfl⟩ | ⟨g, cap, rfl, hbg, hcap, hmax, hgs⟩
    · simp at hkl
    · obtain ⟨m, hm⟩ : ∃ m, D.length = m + 1 := ⟨D.length - 1, by omega⟩
      have HM : Hid (D.length = m + 1) := hm
      have HKL : Hid (k < D.length) := hkl
      have hS0 : SetAt w1 94 b (.slice (some ⟨g, 0, none⟩) (m + 1) cap) (shl D k k) := by rw [shl_start hkl, ← hm]; exact HS
      rw [hm] at hk hkl hlen hcap hcell
      have HS0 : Hid _ := hS0
      clear hS0 HS hown hm
      go_wp2_with fail
      go_loopw [7] (fun a wr => ∃ i : Nat, k ≤ i ∧ i ≤ m ∧ a = .int .i64 i ∧ SetAt wr 94 b (.slice (some ⟨g, 0, none⟩) (m + 1) cap) (shl D k i) ∧ Kept w1 wr (fun j => j = b ∨ some g = some j)) (fun a _ => m - (intOf a).toNat)
      case atStart => exact ⟨k, by omega, by omega, rfl, HS0.out, Kept.refl _ _⟩
      case round =>
        obtain ⟨i, hki, him, rfl, hS4, hK4⟩ := hrel
        have hS4' := hS4
        obtain ⟨hcell', hfrz', hown', -⟩ := hS4
        have hlen' := shl_length (D := D) (k := k) (i := i) HKL.out (by have := HM.out; omega)
        rw [HM.out] at hlen'
        have HL' : Hid _ := hlen'
        rw [hlen'] at hown'
        have HS4 : Hid _ := hS4'
        have HK4 : Hid _ := hK4
        clear hS4' hK4 HS0 hlen' hcell hfrz
        by_cases hgt : i < m
        · obtain ⟨hc0, hc1⟩ := own_pair hown' (k := i + 1) HL'.out.symm (by rw [HL'.out]; omega)
          obtain ⟨hd0, hd1⟩ := own_pair hown' (k := i) HL'.out.symm (by rw [HL'.out]; omega)
          have hz0 := hown'.frozenAt (i * 2)
          have hz1 := hown'.frozenAt (i * 2 + 1)
          rw [shl_next HKL.out (by have := HM.out; omega)] at hc0 hc1
          have hid : i + 1 < D.length := by have := HM.out; omega
          obtain ⟨q, hq⟩ : ∃ q, q = D[i + 1] := ⟨_, rfl⟩
          rw [← hq] at hc0 hc1
          have HR := set_store2 HS4.out HL'.out.symm hbg (k := i) (by rw [HL'.out]; omega) q
          rw [hq, shl_step HKL.out hki hid, ← hq] at HR
          have HR' : Hid _ := HR
          clear hq HR hid
          go_wp2_with fail
          go_region
          all_goals
            go_wp2
            go_roundw
            case rel => exact ⟨i + 1, by omega, by omega, by go_num, HR'.out.drew, ((HK4.out.setCell _ _ (.inl (.inr rfl))).setCell _ _ (.inl (.inr rfl))).drew⟩
            case measure => simp [intOf]; omega
        · obtain rfl : i = m := by omega
          obtain ⟨hd0, hd1⟩ := own_pair hown' (k := i) HL'.out.symm (by rw [HL'.out]; omega)
          have hz0 := hown'.frozenAt (i * 2)
          have hz1 := hown'.frozenAt (i * 2 + 1)
          have HR := set_store2 HS4.out HL'.out.symm hbg (k := i) (by rw [HL'.out]; omega) (ByteArray.empty, 0)
          rw [shl_end HKL.out HM.out] at HR
          have HR2 := set_cut HR (by rw [del_length HKL.out, HM.out]; rfl) hbg
          have HR' : Hid _ := HR2
          clear HR HR2
          go_wp2
          go_end0
          refine ⟨rfl, .inl ⟨k, ⟨HKL.out, HK.out⟩, _, HR'.out, ((HK4.out.setCell _ _ (.inl (.inr rfl))).setCell _ _ (.inl (.inr rfl))).setCell _ _ (.inl (.inl rfl)), fun j hj => .inl hj⟩⟩

end Go.Proofs.YtlfpepehngkehabDoor
