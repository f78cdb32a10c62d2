/-
  Walks: the reference's automaton, a step; Check.
-/
import Derived.Test.YtlfpepehngkehaaFormA
namespace Go.Proofs.Ytlfpepehngkehaa
set_option linter.unusedSimpArgs false
set_option linter.unusedVariables false
open Go.RowKit

theorem bcell {W w1 : World} (hb : Below W.heap.size W w1) : (∀ b o, b < W.heap.size → w1.cell? ⟨b, o, none⟩ = W.cell? ⟨b, o, none⟩) ∧ (∀ b o, b < W.heap.size → w1.frozen? ⟨b, o, none⟩ = W.frozen? ⟨b, o, none⟩) :=
  ⟨fun b o h => hb.cell (p := ⟨b, o, none⟩) h, fun b o h => hb.frozen (p := ⟨b, o, none⟩) h⟩

set_option maxHeartbeats 4000000 in
theorem next_any (f : St) (c : Nat) (w : World) (hc : c < 256) (hs : f.st ≤ 5) (hn : f.n ≤ 100) (hk : f.cost ≤ 100000) :
    Calls Try.prog 57 #[stV f, .int .u8 c] w fun e w' => e = .returned (.tuple #[stV (nxt f c).1, .bool (nxt f c).2]) ∧ Below w.heap.size w w' := by
  obtain ⟨st, n, sm, cost⟩ := f
  have hn' : n ≤ 100 := hn
  have hk' : cost ≤ 100000 := hk
  have hs' : st ≤ 5 := hs
  clear hn hk hs
  have hst : st = 0 ∨ st = 1 ∨ st = 2 ∨ st = 5 ∨ st = 3 ∨ st = 4 := by omega
  rcases hst with rfl | rfl | rfl | rfl | rfl | rfl
  · generalize hl : nxt _ c = r
    simp [nxt] at hl
    subst hl
    simp only [stV]
    cases h1 : smB c
    all_goals
      go_enter Try.func57, Try.ntmps57
      go_wp2_with (first | (go_at_call 86; refine (smallB _ _ hc).mono ?_; rintro e w' ⟨rfl, rfl⟩) | (go_at_call 87; refine (capitalB _ _ hc).mono ?_; rintro e w' ⟨rfl, rfl⟩))
      refine bodyPost_ret (v := .tuple #[.agg #[.int .i64 _, .int .i64 _, .bool _, .int .i64 _], .bool _]) (by simp [results, Try.results57, go_sem]; first | done | rfl | exact ⟨rfl, rfl, rfl⟩) rfl ⟨rfl, ?_⟩
      repeat (first | exact Below.refl _ _ | refine Below.alloc ?_ (by simp) _ | refine Below.setCell ?_ (by simp) _)
  · generalize hl : nxt _ c = r
    simp [nxt] at hl
    subst hl
    simp only [stV]
    cases h1 : smB c
    all_goals
      go_enter Try.func57, Try.ntmps57
      go_wp2_with (first | (go_at_call 86; refine (smallB _ _ hc).mono ?_; rintro e w' ⟨rfl, rfl⟩) | (go_at_call 87; refine (capitalB _ _ hc).mono ?_; rintro e w' ⟨rfl, rfl⟩))
      refine bodyPost_ret (v := .tuple #[.agg #[.int .i64 _, .int .i64 _, .bool _, .int .i64 _], .bool _]) (by simp [results, Try.results57, go_sem]; first | done | rfl | exact ⟨rfl, rfl, rfl⟩) rfl ⟨rfl, ?_⟩
      repeat (first | exact Below.refl _ _ | refine Below.alloc ?_ (by simp) _ | refine Below.setCell ?_ (by simp) _)
  · have hl : nxt ⟨2, n, sm, cost⟩ c = lts ⟨2, n, sm, cost⟩ c := by simp [nxt]
    rw [hl]
    clear hl
    obtain ⟨r, hr⟩ : ∃ r, r = lts ⟨2, n, sm, cost⟩ c := ⟨_, rfl⟩
    rw [← hr]
    have HR : Hid (r = lts ⟨2, n, sm, cost⟩ c) := hr
    clear hr
    simp only [stV]
    go_enter Try.func57, Try.ntmps57
    go_wp2_with fail
    have hcon := letters_any ⟨2, n, sm, cost⟩ c
    rw [← HR.out] at hcon
    simp only [stV] at hcon
    refine (hcon _ hc hn').mono ?_
    clear hcon
    rintro e w1 ⟨rfl, hb1⟩
    obtain ⟨hcc, hff⟩ := bcell hb1
    have hz : w.heap.size + 1 < w1.heap.size := by have := hb1.size; simp at this; omega
    go_wp2
    have hb2 : Below w.heap.size w w1 := (((Below.refl _ _).alloc (Nat.le_refl _) _).alloc (by simp) _).trans (hb1.mono (by simp; omega))
    refine bodyPost_ret (v := .tuple #[.agg #[.int .i64 r.1.st, .int .i64 r.1.n, .bool r.1.sm, .int .i64 r.1.cost], .bool r.2]) (by simp [results, Try.results57, go_sem, hcc, hz]) rfl ⟨rfl, ?_⟩
    repeat (first | exact hb2 | refine Below.setCell ?_ (by simp) _)
  · generalize hl : nxt _ c = r
    simp [nxt] at hl
    subst hl
    simp only [stV]
    go_enter Try.func57, Try.ntmps57
    go_wp2
    refine bodyPost_ret (v := .tuple #[.agg #[.int .i64 _, .int .i64 _, .bool _, .int .i64 _], .bool _]) (by simp [results, Try.results57, go_sem]; first | done | rfl | exact ⟨rfl, rfl, rfl⟩) rfl ⟨rfl, ?_⟩
    repeat (first | exact Below.refl _ _ | refine Below.alloc ?_ (by simp) _ | refine Below.setCell ?_ (by simp) _)
  all_goals
    cases h1 : dgB c
    · generalize hl : nxt _ c = r
      simp [nxt, h1] at hl
      subst hl
      simp only [stV]
      go_enter Try.func57, Try.ntmps57
      go_wp2_with (go_at_call 89; refine (digitB _ _ hc).mono ?_; rintro e w' ⟨rfl, rfl⟩)
      refine bodyPost_ret (v := .tuple #[.agg #[.int .i64 _, .int .i64 _, .bool _, .int .i64 _], .bool _]) (by simp [results, Try.results57, go_sem]; first | done | rfl | exact ⟨rfl, rfl, rfl⟩) rfl ⟨rfl, ?_⟩
      repeat (first | exact Below.refl _ _ | refine Below.alloc ?_ (by simp) _ | refine Below.setCell ?_ (by simp) _)
    · have hd : 48 ≤ c ∧ c ≤ 57 := by simpa [dgB] using h1
      obtain ⟨hd1, hd2⟩ := hd
      by_cases h4 : n < 4
      · generalize hl : nxt _ c = r
        simp [nxt, h1, h4] at hl
        subst hl
        simp only [stV]
        rw [show ((n + 1 : Nat) : Int) = (n : Int) + 1 from by omega, show ((10 * cost + (c - 48) : Nat) : Int) = 10 * (cost : Int) + ((c : Int) - 48) from by omega]
        go_enter Try.func57, Try.ntmps57
        go_wp2_with (go_at_call 89; refine (digitB _ _ hc).mono ?_; rintro e w' ⟨rfl, rfl⟩)
        refine bodyPost_ret (v := .tuple #[.agg #[.int .i64 _, .int .i64 _, .bool _, .int .i64 _], .bool _]) (by simp [results, Try.results57, go_sem]; first | done | rfl | exact ⟨rfl, rfl, rfl⟩) rfl ⟨rfl, ?_⟩
        repeat (first | exact Below.refl _ _ | refine Below.alloc ?_ (by simp) _ | refine Below.setCell ?_ (by simp) _)
      · generalize hl : nxt _ c = r
        simp [nxt, h1, h4] at hl
        subst hl
        simp only [stV]
        go_enter Try.func57, Try.ntmps57
        go_wp2_with (go_at_call 89; refine (digitB _ _ hc).mono ?_; rintro e w' ⟨rfl, rfl⟩)
        refine bodyPost_ret (v := .tuple #[.agg #[.int .i64 _, .int .i64 _, .bool _, .int .i64 _], .bool _]) (by simp [results, Try.results57, go_sem]; first | done | rfl | exact ⟨rfl, rfl, rfl⟩) rfl ⟨rfl, ?_⟩
        repeat (first | exact Below.refl _ _ | refine Below.alloc ?_ (by simp) _ | refine Below.setCell ?_ (by simp) _)

end Go.Proofs.Ytlfpepehngkehaa
