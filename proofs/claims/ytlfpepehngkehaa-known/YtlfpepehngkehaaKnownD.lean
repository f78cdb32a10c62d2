/-
  Known: the example of a walk.
-/
import Derived.Test.YtlfpepehngkehaaKnownA
import Derived.Test.YtlfpepehngkehaaWalkJ
import Derived.Laws.OwnMore
import Derived.Deep.LoopGhost
namespace Go.Proofs.Ytlfpepehngkehaa
set_option linter.unusedSimpArgs false
set_option linter.unusedVariables false
open Go.RowKit

def wkL : List Nat := [0, 2, 3, 5]
def wkK : List Nat := [3, 2, 1]

theorem wk_cut (hD : GoodDic exD) : CutRes exD exT9 wkL := cutB_cut hD .zero exT9_cut

theorem wk_next (i : Nat) (h : i < 3) : MoveIs exD exT9 wkL (wkL.getD i 0) 3 0 (wkL.getD (i + 1) 0 : Nat) (wkL.getD (i + 1) 0) := by
  match i, h with
  | 0, _ => exact move_abv (by kernel_rfl) (by decide)
  | 1, _ => exact move_abv (by kernel_rfl) (by decide)
  | 2, _ => exact move_abv (by kernel_rfl) (by decide)

theorem wk_kind (i : Nat) (h : i < 3) : MoveIs exD exT9 wkL (wkL.getD (i + 1) 0) 8 0 (wkK.getD i 0 : Nat) (wkL.getD (i + 1) 0) := by
  match i, h with
  | 0, _ => exact kind_at (f := 0) (by decide) (by kernel_rfl) (by kernel_rfl)
  | 1, _ => exact kind_at (f := 2) (by decide) (by kernel_rfl) (by kernel_rfl)
  | 2, _ => exact kind_at (f := 3) (by decide) (by kernel_rfl) (by kernel_rfl)

theorem wk_done : MoveIs exD exT9 wkL 5 3 0 (-1) 5 := move_abv (by kernel_rfl) (by decide)
theorem wk_prev : MoveIs exD exT9 wkL 5 4 0 3 3 := move_blw (by kernel_rfl) (by decide)
theorem wk_fol : MoveIs exD exT9 wkL 3 5 (-7) 0 0 := move_fol (by kernel_rfl) (by decide)
theorem wk_fol5 : MoveIs exD exT9 wkL 0 5 5 (-1) 5 := move_fol (by kernel_rfl) (by decide)
theorem wk_pre : MoveIs exD exT9 wkL 5 6 3 2 2 := move_pre (by kernel_rfl) (by decide)
theorem wk_is : MoveIs exD exT9 wkL 2 7 4 0 5 := move_is (x := 5) (by decide) (by kernel_rfl) (by decide) (by decide)

/-- the two tables. -/
theorem tab3 (w : World) (x y z : Value) (t : TypeId) (n : Nat) (hn : n = w.heap.size) : (w.alloc (.cells #[x, y, z] t)).cell? ⟨n, 0, none⟩ = some x ∧ (w.alloc (.cells #[x, y, z] t)).cell? ⟨n, 1, none⟩ = some y ∧ (w.alloc (.cells #[x, y, z] t)).cell? ⟨n, 2, none⟩ = some z := by
  subst hn
  refine ⟨?_, ?_, ?_⟩
  all_goals (rw [World.cell?_alloc_at _ _ _ _ rfl]; rfl)

def WlkRel (WI : WalkIfAll) (w : World) (p : Nat) (F : Nat → Prop) (T1 T2 g : Nat) (x : Value) (wr : World) : Prop :=
  ∃ i : Nat, g = 3 - i ∧ i ≤ 3 ∧ x = .int .i64 i ∧ WI.At wr p F exD exT9 wkL (wkL.getD i 0) ∧ (∀ j, j < 3 → wr.cell? ⟨T1, j, none⟩ = some (.int .i64 (wkL.getD (j + 1) 0 : Nat)) ∧ wr.cell? ⟨T2, j, none⟩ = some (.int .i64 (wkK.getD j 0 : Nat))) ∧ Below w.heap.size w wr

theorem wlk_num {WI : WalkIfAll} {w wr : World} {p : Nat} {F : Nat → Prop} {T1 T2 g : Nat} {x y : Value} (h : WlkRel WI w p F T1 T2 g x wr) (e : y = x) : WlkRel WI w p F T1 T2 g y wr := by rw [e]; exact h

theorem below_p {w a b : World} {p : Nat} (h : Below w.heap.size w a) (hp : w.heap.size ≤ p) (hk : Kept a b (fun j => j = p)) : Below w.heap.size w b := h.trans (hk.below h.size (fun j e => by omega))

theorem wk_tab (w : World) (t : TypeId) : ∀ j, j < 3 → ((w.alloc (.cells #[.int .i64 2, .int .i64 3, .int .i64 5] t)).alloc (.cells #[.int .i64 3, .int .i64 2, .int .i64 1] t)).cell? ⟨w.heap.size, j, none⟩ = some (.int .i64 (wkL.getD (j + 1) 0 : Nat)) ∧
    ((w.alloc (.cells #[.int .i64 2, .int .i64 3, .int .i64 5] t)).alloc (.cells #[.int .i64 3, .int .i64 2, .int .i64 1] t)).cell? ⟨w.heap.size + 1, j, none⟩ = some (.int .i64 (wkK.getD j 0 : Nat)) := by
  intro j hj
  obtain ⟨a0, a1, a2⟩ := tab3 w (.int .i64 2) (.int .i64 3) (.int .i64 5) t w.heap.size rfl
  obtain ⟨b0, b1, b2⟩ := tab3 (w.alloc (.cells #[.int .i64 2, .int .i64 3, .int .i64 5] t)) (.int .i64 3) (.int .i64 2) (.int .i64 1) t (w.heap.size + 1) (by simp)
  have hk : ∀ k x, (w.alloc (.cells #[.int .i64 2, .int .i64 3, .int .i64 5] t)).cell? ⟨w.heap.size, k, none⟩ = some x → ((w.alloc (.cells #[.int .i64 2, .int .i64 3, .int .i64 5] t)).alloc (.cells #[.int .i64 3, .int .i64 2, .int .i64 1] t)).cell? ⟨w.heap.size, k, none⟩ = some x := fun k x h => (Kept.cell ((Same.refl _).alloc _) (p := ⟨w.heap.size, k, none⟩) (cell_lt h) id).trans h
  match j, hj with
  | 0, _ => exact ⟨hk _ _ a0, b0⟩
  | 1, _ => exact ⟨hk _ _ a1, b1⟩
  | 2, _ => exact ⟨hk _ _ a2, b2⟩

set_option maxHeartbeats 8000000 in
set_option maxRecDepth 20000 in
theorem walked_any (WI : WalkIfAll) (w : World) (b : Nat) (v : Value) (hS : SetAt w 149 b v exD) (hD : GoodDic exD) :
    Calls Try.prog 25 #[.pointer (some ⟨b, 0, none⟩)] w fun e w' => e = .returned (.bool true) ∧ Below w.heap.size w w' := by
  have HS : Hid (SetAt w 149 b v exD) := hS
  have HD : Hid (GoodDic exD) := hD
  have HC : Hid (CutRes exD exT9 wkL) := wk_cut hD
  have h5 : exT9.size ≤ 500 := by decide
  clear hS hD
  go_enter Try.func25, Try.ntmps25
  go_wp2_with fail
  refine (WI.begin w b v exD exT9 h5 HD.out HS.out).mono ?_
  rintro e w1 ⟨p, F, l, rfl, hl, hat, hp, _, hb1⟩
  obtain rfl : l = wkL := CutTo.unique hl HC.out
  have HA1 : Hid (WI.At w1 p F exD exT9 wkL 0) := hat
  have HB1 : Hid (Below w.heap.size w w1) := hb1
  clear hl hat hb1
  go_wp2_with fail
  refine (WI.kind w1 p F exD exT9 wkL 0 HA1.out HD.out h5 HC.out).mono ?_
  rintro e w2 ⟨r, a, rfl, hm, hat, hk⟩
  obtain ⟨rfl, rfl⟩ := hm.unique (kind_zero exD exT9 wkL)
  have HA2 : Hid (WI.At w2 p F exD exT9 wkL 0) := hat
  have HB2 : Hid (Below w.heap.size w w2) := below_p HB1.out hp hk
  have hz2 := HB2.out.size
  have hpz := WI.lt hat p (WI.own hat).1
  clear hm hat hk HA1 HB1
  have hR0 : WlkRel WI w p F w2.heap.size (w2.heap.size + 1) 3 (.int .i64 0) ((w2.alloc (.cells #[.int .i64 2, .int .i64 3, .int .i64 5] 3)).alloc (.cells #[.int .i64 3, .int .i64 2, .int .i64 1] 3)) :=
    ⟨0, rfl, by omega, rfl, WI.kept HA2.out (S := fun _ => False) (((Same.refl w2).alloc _).alloc _) (fun _ _ e => e), wk_tab w2 _, (HB2.out.alloc hz2 _).alloc (by simp; omega) _⟩
  have HR0 : Hid (WlkRel WI w p F w2.heap.size (w2.heap.size + 1) 3 (.int .i64 0) ((w2.alloc (.cells #[.int .i64 2, .int .i64 3, .int .i64 5] 3)).alloc (.cells #[.int .i64 3, .int .i64 2, .int .i64 1] 3))) := hR0
  clear hR0
  go_wp2_with fail
  go_loopg [8] 3 (fun g x wr => WlkRel WI w p F w2.heap.size (w2.heap.size + 1) g x wr)
  case atStart => exact HR0.out
  case round =>
    obtain ⟨i, rfl, hi, rfl, hat, htab, hb⟩ := hrel
    have HAT : Hid (WI.At wr p F exD exT9 wkL (wkL.getD i 0)) := hat
    have HTB : Hid (∀ j, j < 3 → wr.cell? ⟨w2.heap.size, j, none⟩ = some (.int .i64 (wkL.getD (j + 1) 0 : Nat)) ∧ wr.cell? ⟨w2.heap.size + 1, j, none⟩ = some (.int .i64 (wkK.getD j 0 : Nat))) := htab
    have HB : Hid (Below w.heap.size w wr) := hb
    clear hat htab hb
    by_cases hlt : i < 3
    · have hlt' : (i : Int) < 3 := by omega
      obtain ⟨y, hy⟩ : ∃ y, y = wkL.getD (i + 1) 0 := ⟨_, rfl⟩
      obtain ⟨z, hz⟩ : ∃ z, z = wkK.getD i 0 := ⟨_, rfl⟩
      have hMN : MoveIs exD exT9 wkL (wkL.getD i 0) 3 0 (y : Int) y := by rw [hy]; exact wk_next i hlt
      have hMK : MoveIs exD exT9 wkL y 8 0 (z : Int) y := by rw [hy, hz]; exact wk_kind i hlt
      have HMN : Hid (MoveIs exD exT9 wkL (wkL.getD i 0) 3 0 (y : Int) y) := hMN
      have HMK : Hid (MoveIs exD exT9 wkL y 8 0 (z : Int) y) := hMK
      have HY : Hid (y = wkL.getD (i + 1) 0) := hy
      have HZ : Hid (z = wkK.getD i 0) := hz
      clear hy hz hMN hMK
      go_wp2_with fail
      refine (WI.next wr p F exD exT9 wkL _ HAT.out HD.out h5 HC.out).mono ?_
      rintro e w3 ⟨r, a, rfl, hm, hat3, hk3⟩
      obtain ⟨rfl, ha3⟩ := hm.unique HMN.out
      rw [ha3] at hat3
      clear hm ha3
      go_wp2_with fail
      refine (WI.kind w3 p F exD exT9 wkL _ hat3 HD.out h5 HC.out).mono ?_
      rintro e w4 ⟨r, a, rfl, hm, hat4, hk4⟩
      obtain ⟨rfl, ha4⟩ := hm.unique HMK.out
      rw [ha4] at hat4
      clear ha4
      have htab4 : ∀ j, j < 3 → w4.cell? ⟨w2.heap.size, j, none⟩ = some (.int .i64 (wkL.getD (j + 1) 0 : Nat)) ∧ w4.cell? ⟨w2.heap.size + 1, j, none⟩ = some (.int .i64 (wkK.getD j 0 : Nat)) := fun j hj => by
        obtain ⟨c1, c2⟩ := HTB.out j hj
        have d1 := (Kept.cell hk3 (p := ⟨w2.heap.size, j, none⟩) (cell_lt c1) (fun e => by simp at e; omega)).trans c1
        have d2 := (Kept.cell hk3 (p := ⟨w2.heap.size + 1, j, none⟩) (cell_lt c2) (fun e => by simp at e; omega)).trans c2
        exact ⟨(Kept.cell hk4 (p := ⟨w2.heap.size, j, none⟩) (cell_lt d1) (fun e => by simp at e; omega)).trans d1, (Kept.cell hk4 (p := ⟨w2.heap.size + 1, j, none⟩) (cell_lt d2) (fun e => by simp at e; omega)).trans d2⟩
      obtain ⟨c1, c2⟩ := htab4 i hlt
      have HN : Hid (WlkRel WI w p F w2.heap.size (w2.heap.size + 1) (3 - (i + 1)) (.int .i64 ((i + 1 : Nat) : Int)) w4) := ⟨i + 1, rfl, by omega, rfl, by rw [← HY.out]; exact hat4, htab4, below_p (below_p HB.out hp hk3) hp hk4⟩
      rw [← HY.out] at c1
      rw [← HZ.out] at c2
      have hyy : ((y : Int) != (y : Int)) = false := by simp
      have hzz : ((z : Int) != (z : Int)) = false := by simp
      clear hm hat3 hk3 hat4 hk4 htab4
      go_wp2
      go_roundg (3 - (i + 1))
      case measure => omega
      case rel => exact wlk_num HN.out (by go_num)
    · have hlt' : ¬ (i : Int) < 3 := by omega
      have hi3 : i = 3 := by omega
      have HA : Hid (WI.At wr p F exD exT9 wkL 5) := by have := HAT.out; rw [hi3] at this; exact this
      clear HAT HTB hi3
      go_wp2_with fail
      refine (WI.next wr p F exD exT9 wkL 5 HA.out HD.out h5 HC.out).mono ?_
      rintro e w3 ⟨r, a, rfl, hm, hat3, hk3⟩
      obtain ⟨rfl, rfl⟩ := hm.unique wk_done
      have HB3 : Hid (Below w.heap.size w w3) := below_p HB.out hp hk3
      clear hm hk3
      go_wp2_with fail
      refine (WI.previous w3 p F exD exT9 wkL 5 hat3 HD.out h5 HC.out).mono ?_
      rintro e w4 ⟨r, a, rfl, hm, hat4, hk4⟩
      obtain ⟨rfl, rfl⟩ := hm.unique wk_prev
      have HB4 : Hid (Below w.heap.size w w4) := below_p HB3.out hp hk4
      clear hm hk4
      go_wp2_with fail
      refine (WI.following w4 p F exD exT9 wkL 3 (-7) (by decide) (by decide) hat4 HD.out h5 HC.out).mono ?_
      rintro e w5 ⟨r, a, rfl, hm, hat5, hk5⟩
      obtain ⟨rfl, rfl⟩ := hm.unique wk_fol
      have HB5 : Hid (Below w.heap.size w w5) := below_p HB4.out hp hk5
      clear hm hk5
      go_wp2_with fail
      refine (WI.following w5 p F exD exT9 wkL 0 5 (by decide) (by decide) hat5 HD.out h5 HC.out).mono ?_
      rintro e w6 ⟨r, a, rfl, hm, hat6, hk6⟩
      obtain ⟨rfl, rfl⟩ := hm.unique wk_fol5
      have HB6 : Hid (Below w.heap.size w w6) := below_p HB5.out hp hk6
      clear hm hk6
      go_wp2_with fail
      refine (WI.place w6 p F exD exT9 wkL 5 hat6 HD.out h5 HC.out).mono ?_
      rintro e w7 ⟨r, a, rfl, hm, hat7, hk7⟩
      obtain ⟨rfl, rfl⟩ := hm.unique (move_place exD exT9 wkL 5)
      have HB7 : Hid (Below w.heap.size w w7) := below_p HB6.out hp hk7
      clear hm hk7
      go_wp2_with fail
      refine (WI.preceding w7 p F exD exT9 wkL 5 3 (by decide) (by decide) hat7 HD.out h5 HC.out).mono ?_
      rintro e w8 ⟨r, a, rfl, hm, hat8, hk8⟩
      obtain ⟨rfl, rfl⟩ := hm.unique wk_pre
      have HB8 : Hid (Below w.heap.size w w8) := below_p HB7.out hp hk8
      clear hm hk8
      go_wp2_with fail
      refine (WI.is w8 p F exD exT9 wkL 2 4 (by decide) (by decide) hat8 HD.out h5 HC.out).mono ?_
      rintro e w9 ⟨y, a, rfl, hm, hat9, hk9⟩
      obtain ⟨hy, rfl⟩ := hm.unique wk_is
      have hyf : y = false := by cases y with | false => rfl | true => simp at hy
      subst hyf
      have HB9 : Hid (Below w.heap.size w w9) := below_p HB8.out hp hk9
      clear hm hk9 hy
      go_wp2_with fail
      refine (WI.place w9 p F exD exT9 wkL 5 hat9 HD.out h5 HC.out).mono ?_
      rintro e w10 ⟨r, a, rfl, hm, hat10, hk10⟩
      obtain ⟨rfl, rfl⟩ := hm.unique (move_place exD exT9 wkL 5)
      have HB10 : Hid (Below w.heap.size w w10) := below_p HB9.out hp hk10
      clear hm hk10
      go_wp2
      go_ret
      exact ⟨rfl, HB10.out⟩

end Go.Proofs.Ytlfpepehngkehaa
