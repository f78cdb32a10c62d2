/-
  Known: the walk of the statement.
-/
import Derived.Test.YtlfpepehngkehaaKnownB
import Derived.Test.YtlfpepehngkehaaKnownC
import Derived.Test.YtlfpepehngkehaaKnownD
import Derived.Test.YtlfpepehngkehaaKeepRS
import Derived.Test.YtlfpepehngkehaaCutI
namespace Go.Proofs.Ytlfpepehngkehaa
set_option linter.unusedSimpArgs false
set_option linter.unusedVariables false
open Go.RowKit

theorem golds_ex (w : World) (t : TypeId) (k : Nat) (h : k < 12) : ∃ (s : ByteArray) (e p : Nat), (w.alloc (.cells goldCells t)).cell? ⟨w.heap.size, k * 3, none⟩ = some (.string s) ∧ (w.alloc (.cells goldCells t)).cell? ⟨w.heap.size, k * 3 + 1, none⟩ = some (.int .i64 e) ∧
    (w.alloc (.cells goldCells t)).cell? ⟨w.heap.size, k * 3 + 2, none⟩ = some (.int .i64 p) ∧ RefRes s e p ∧ s.size ≤ 2000 := by
  have hk : k < goldL.length := h
  obtain ⟨h1, h2, h3⟩ := golds_at w t k hk
  have h5 := List.all_eq_true.1 goldL_small _ (List.getElem_mem hk)
  exact ⟨_, _, _, h1, h2, h3, gold_res (List.getElem_mem hk), of_decide_eq_true h5⟩

theorem cuts_ex (hD : GoodDic exD) (ti tp : TypeId) (w : World) (j : Nat) (h : j < 9) : ∃ (t : ByteArray) (L : List Nat) (g : Nat), (cutsW ti tp w).cell? ⟨w.heap.size + 9, j * 2, none⟩ = some (.string t) ∧ (cutsW ti tp w).cell? ⟨w.heap.size + 9, j * 2 + 1, none⟩ = some (.slice (some ⟨g, 0, none⟩) L.length L.length) ∧
    (cutsW ti tp w).ownsRow w.heap.size ti 1 (.slice (some ⟨g, 0, none⟩) L.length L.length) L.length (intCells L) ∧ CutTo exD t t.size L ∧ t.size ≤ 500 ∧ L.length ≤ 1000 := by
  have hj : j < cutL.length := h
  obtain ⟨h1, h2, h3⟩ := cuts_at ti tp w j hj
  have h4 := cutL_small j hj
  exact ⟨_, _, _, h1, h2, h3, cutL_cut hD j hj, h4.1, h4.2⟩

set_option maxHeartbeats 8000000 in
set_option maxRecDepth 20000 in
theorem known_walk (WI : WalkIfAll) (HCO : CutOk) (w : World) (c : Int) (hc0 : -9223372036854775808 ≤ c) (hc1 : c ≤ 9223372036854775807) :
    Calls Try.prog 9 #[.int .i64 c] w fun e w' => e = .returned (.bool true) ∧ Below w.heap.size w w' := by
  have HC : Hid CutOk := HCO
  clear HCO
  obtain ⟨W1, hW1⟩ : ∃ W1, W1 = w.alloc (.cells goldCells 59) := ⟨_, rfl⟩
  obtain ⟨W2, hW2⟩ : ∃ W2, W2 = cutsW 3 62 W1 := ⟨_, rfl⟩
  have hz1 : W1.heap.size = w.heap.size + 1 := by rw [hW1]; simp
  have hs1 : Same w W1 := by rw [hW1]; exact (Same.refl w).alloc _
  have hs2 : Same W1 W2 := by rw [hW2]; exact cutsW_same _ _ _
  have HG : Hid (∀ k, k < 12 → ∃ (s : ByteArray) (e p : Nat), W1.cell? ⟨w.heap.size, k * 3, none⟩ = some (.string s) ∧ W1.cell? ⟨w.heap.size, k * 3 + 1, none⟩ = some (.int .i64 e) ∧ W1.cell? ⟨w.heap.size, k * 3 + 2, none⟩ = some (.int .i64 p) ∧ RefRes s e p ∧ s.size ≤ 2000) := fun k h => by rw [hW1]; exact golds_ex w _ k h
  have HCT : Hid (GoodDic exD → ∀ j, j < 9 → ∃ (t : ByteArray) (L : List Nat) (g : Nat), W2.cell? ⟨W1.heap.size + 9, j * 2, none⟩ = some (.string t) ∧ W2.cell? ⟨W1.heap.size + 9, j * 2 + 1, none⟩ = some (.slice (some ⟨g, 0, none⟩) L.length L.length) ∧
      W2.ownsRow W1.heap.size 3 1 (.slice (some ⟨g, 0, none⟩) L.length L.length) L.length (intCells L) ∧ CutTo exD t t.size L ∧ t.size ≤ 500 ∧ L.length ≤ 1000) := fun hD j h => by rw [hW2]; exact cuts_ex hD _ _ W1 j h
  have HS1 : Hid (Same w W1) := hs1
  have HS2 : Hid (Same W1 W2) := hs2
  have HW1 : Hid (W1 = w.alloc (.cells goldCells 59)) := hW1
  have HW2 : Hid (W2 = cutsW 3 62 W1) := hW2
  have HZ1 : Hid (W1.heap.size = w.heap.size + 1) := hz1
  clear hW1 hW2 hs1 hs2 hz1
  go_enter Try.func9, Try.ntmps9
  go_wp2_with fail
  refine (golds_any w).mono ?_
  rintro e w1 ⟨rfl, hw1⟩
  obtain rfl : w1 = W1 := by rw [hw1, HW1.out]
  clear hw1
  go_wp2_with fail
  refine (cuts_any' w1).mono ?_
  rintro e w2 ⟨rfl, hw2⟩
  obtain rfl : w2 = W2 := by rw [hw2, HW2.out]
  clear hw2
  obtain ⟨G2, hG2⟩ : ∃ G2, G2 = w1.heap.size + 9 := ⟨_, rfl⟩
  rw [← hG2]
  rw [← hG2] at HCT
  have HG2 : Hid (G2 = w1.heap.size + 9) := hG2
  clear hG2
  go_wp2_with fail
  refine (example_any w2).mono ?_
  rintro e w3 ⟨b, v, rfl, hSet, hgd, hb3⟩
  have HSet : Hid (SetAt w3 149 b v exD) := hSet
  have HGD : Hid (GoodDic exD) := hgd
  have HB3 : Hid (Below w2.heap.size w2 w3) := hb3
  have hz3 := hb3.size
  have HBW : Hid (Below w.heap.size w w3) := by
    have h1 : Below w.heap.size w w2 := Kept.below (Kept.trans HS1.out HS2.out (fun _ e => e.elim)) (Nat.le_refl _) (fun _ e => e.elim)
    exact h1.trans (hb3.mono h1.size)
  have hzw := HBW.out.size
  clear hSet hgd hb3
  go_wp2_with fail
  refine (knownPick_any w3 c hc0 hc1).mono ?_
  rintro e w4 ⟨⟨k, hk, rfl⟩, rfl⟩
  by_cases k1 : k < 12
  · have k1' : (k : Int) < 12 := by omega
    obtain ⟨s, ee, pp, g0, g1, g2, hres, hsz⟩ := HG.out k k1
    have f0 := (HB3.out.cell (p := ⟨w.heap.size, k * 3, none⟩) (cell_lt (HS2.out.cell g0))).trans (HS2.out.cell g0)
    have f1 := (HB3.out.cell (p := ⟨w.heap.size, k * 3 + 1, none⟩) (cell_lt (HS2.out.cell g1))).trans (HS2.out.cell g1)
    have f2 := (HB3.out.cell (p := ⟨w.heap.size, k * 3 + 2, none⟩) (cell_lt (HS2.out.cell g2))).trans (HS2.out.cell g2)
    have HRS : Hid (RefRes s ee pp) := hres
    have hgz := cell_lt f0
    clear g0 g1 g2 hres
    go_wp2_with fail
    refine (check_any s w4 (by unfold maxLen; omega)).mono ?_
    rintro e w5 ⟨x, y, rfl, hr, hb5⟩
    obtain ⟨rfl, rfl⟩ := hr.unique HRS.out
    have f1' := (hb5.cell (p := ⟨w.heap.size, k * 3 + 1, none⟩) hgz).trans f1
    have f2' := (hb5.cell (p := ⟨w.heap.size, k * 3 + 2, none⟩) hgz).trans f2
    have hee : ((ee : Int) == (ee : Int)) = true := by simp
    have hpp : ((pp : Int) == (pp : Int)) = true := by simp
    have HB5 : Hid (Below w.heap.size w w5) := HBW.out.trans (hb5.mono hzw)
    clear hr hb5 f0 f1 f2
    go_wp2
    go_ret
    exact ⟨rfl, HB5.out⟩
  · have k1' : ¬ (k : Int) < 12 := by omega
    by_cases k2 : k = 12
    · subst k2
      go_wp2_with fail
      refine (written_any w4 b v HSet.out HGD.out).mono ?_
      rintro e w5 ⟨rfl, hb5⟩
      have HB5 : Hid (Below w.heap.size w w5) := HBW.out.trans (hb5.mono hzw)
      clear hb5
      go_wp2
      go_ret
      exact ⟨rfl, HB5.out⟩
    · have b2 : ((k : Int) == 12) = false := by rw [beq_eq_false_iff_ne]; omega
      by_cases k3 : k = 13
      · subst k3
        go_wp2_with fail
        refine (walked_any WI w4 b v HSet.out HGD.out).mono ?_
        rintro e w5 ⟨rfl, hb5⟩
        have HB5 : Hid (Below w.heap.size w w5) := HBW.out.trans (hb5.mono hzw)
        clear hb5
        go_wp2
        go_ret
        exact ⟨rfl, HB5.out⟩
      · have b3 : ((k : Int) == 13) = false := by rw [beq_eq_false_iff_ne]; omega
        obtain ⟨j, hj⟩ : ∃ j, j = k - 14 := ⟨_, rfl⟩
        have hj9 : j < 9 := by omega
        have hj1 : (k : Int) - 12 = ((j + 2 : Nat) : Int) := by omega
        have hj2 : ((j + 2 : Nat) : Int) - 2 = (j : Int) := by omega
        have hw1 : IntKind.i64.wrap ((j + 2 : Nat) : Int) = ((j + 2 : Nat) : Int) := by rw [IntKind.wrap_i64]; omega
        have hw2 : IntKind.i64.wrap (j : Int) = (j : Int) := by rw [IntKind.wrap_i64]; omega
        have hj9' : (j : Int) < 9 := by omega
        obtain ⟨t, L, ga, c0, c1, hrow, hcut, hsm⟩ := HCT.out HGD.out j hj9
        have d0 := (HB3.out.cell (p := ⟨G2, j * 2, none⟩) (cell_lt c0)).trans c0
        have d1 := (HB3.out.cell (p := ⟨G2, j * 2 + 1, none⟩) (cell_lt c1)).trans c1
        have hro := ownsRow_below' hrow HB3.out
        have HRO : Hid (w4.ownsRow w1.heap.size 3 1 (.slice (some ⟨ga, 0, none⟩) L.length L.length) L.length (intCells L)) := hro
        have HCU : Hid (CutTo exD t t.size L) := hcut
        obtain ⟨hsm1, hsm2⟩ := hsm
        have hgz := cell_lt d0
        clear c0 c1 hrow hro hcut hj
        obtain ⟨wx, hwx⟩ : ∃ wx, wx = w4.alloc (.cells #[.string t, .slice (some ⟨ga, 0, none⟩) L.length L.length] 62) := ⟨_, rfl⟩
        have hx1 : wx.cell? ⟨w4.heap.size, 1, none⟩ = some (.slice (some ⟨ga, 0, none⟩) L.length L.length) := by rw [hwx, World.cell?_alloc_at _ _ _ _ rfl]; rfl
        have hbx : Below w4.heap.size w4 wx := by rw [hwx]; exact (Below.refl _ _).alloc (Nat.le_refl _) _
        have HCX : Hid (Calls Try.prog 26 #[.pointer (some ⟨b, 0, none⟩), .string t] wx fun e w' => CutGot wx w' exD t e) := HC.out wx b v exD t hsm1 HGD.out (HSet.out.below hbx)
        have HRX : Hid (wx.ownsRow w1.heap.size 3 1 (.slice (some ⟨ga, 0, none⟩) L.length L.length) L.length (intCells L)) := ownsRow_below' HRO.out hbx
        have HBX : Hid (Below w.heap.size w wx) := HBW.out.trans (hbx.mono hzw)
        have HWX : Hid (wx = w4.alloc (.cells #[.string t, .slice (some ⟨ga, 0, none⟩) L.length L.length] 62)) := hwx
        clear hwx hbx
        go_wp2_with fail
        rw [← HWX.out]
        refine HCX.out.mono ?_
        rintro e w5 ⟨v5, L5, rfl, hL5, hr5, hb5⟩
        obtain rfl : L5 = L := CutTo.unique hL5 HCU.out
        have hx1' := (hb5.cell (p := ⟨w4.heap.size, 1, none⟩) (cell_lt hx1)).trans hx1
        have HR5 : Hid (w5.ownsRow wx.heap.size 3 1 v5 L5.length (intCells L5)) := hr5
        have HR6 : Hid (w5.ownsRow w1.heap.size 3 1 (.slice (some ⟨ga, 0, none⟩) L5.length L5.length) L5.length (intCells L5)) := ownsRow_below' HRX.out hb5
        have HB5 : Hid (Below w.heap.size w w5) := HBX.out.trans (hb5.mono HBX.out.size)
        have hz5 := HB5.out.size
        clear hL5 hr5 hb5 hx1
        go_wp2_with fail
        refine (keepSame_any w5 _ _ v5 _ L5 L5 HR5.out HR6.out rfl hsm2).mono ?_
        rintro e w6 ⟨rfl, hs6⟩
        have HB6 : Hid (Below w.heap.size w w6) := hs6.below HB5.out hz5
        clear hs6
        go_wp2
        go_ret
        exact ⟨rfl, HB6.out⟩

end Go.Proofs.Ytlfpepehngkehaa
