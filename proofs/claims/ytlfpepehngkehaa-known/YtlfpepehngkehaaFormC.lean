/-
  Walks: the reference's Check.
-/
import Derived.Test.YtlfpepehngkehaaFormB
import Derived.Test.YtlfpepehngkehaaFormW
import Derived.BigQuiet
import Derived.Deep.QuietTactic
import Derived.Deep.RegionWith
import Derived.Deep.CutRange
namespace Go.Proofs.Ytlfpepehngkehaa
set_option linter.unusedSimpArgs false
set_option linter.unusedVariables false
open Go.RowKit

theorem next_atC (f : St) (c : Nat) (g : St) (ok : Bool) (hr : Hid ((g, ok) = nxt f c)) (w : World) (hc : c < 256) (hs : f.st ≤ 5) (hn : f.n ≤ 100) (hk : f.cost ≤ 100000) :
    Calls Try.prog 57 #[.agg #[.int .i64 f.st, .int .i64 f.n, .bool f.sm, .int .i64 f.cost], .int .u8 c] w fun e w' =>
      e = .returned (.tuple #[.agg #[.int .i64 g.st, .int .i64 g.n, .bool g.sm, .int .i64 g.cost], .bool ok]) ∧ Below w.heap.size w w' := by
  have h := next_any f c w hc hs hn hk
  rw [← hr.out] at h
  exact h

set_option maxHeartbeats 4000000 in
theorem refCheck_any (s : ByteArray) (w : World) (hs : s.size ≤ maxLen) :
    Calls Try.prog 28 #[.string s] w fun e w' => ∃ a p : Int, e = .returned (.tuple #[.int .i64 a, .int .i64 p]) ∧ RefRes s a p ∧ Below w.heap.size w w' := by
  by_cases hb : s.size ≤ 2000
  · have hs' := hs
    unfold maxLen at hs
    have hle : ¬ (2000 : Int) < (s.size : Int) := by omega
    go_enter Try.func28, Try.ntmps28
    go_wp2
    go_loopw [5, 6] (fun h i wr => ∃ (k : Nat) (f : St), k ≤ s.size ∧ i = .int .i64 k ∧ stp s k = some f ∧ h = .int .i64 (hgh s k) ∧ Below w.heap.size w wr ∧ w.heap.size < wr.heap.size ∧ FormAt wr w.heap.size f)
      (fun _ i _ => s.size - (intOf i).toNat)
    case atStart =>
      refine ⟨0, ⟨0, 0, false, 0⟩, by omega, rfl, rfl, rfl, (Below.refl _ _).alloc (Nat.le_refl _) _, by simp, FormAt.new w ⟨0, 0, false, 0⟩ _⟩
    case round =>
      obtain ⟨k, f, hk, rfl, hst, rfl, hbel, hsz, hfm⟩ := hrel
      have HS : Hid (stp s k = some f) := hst
      have hinv := stp_inv s k f hst
      obtain ⟨hi1, hi2, hi3⟩ : f.st ≤ 5 ∧ f.n ≤ 100 ∧ f.cost ≤ 100000 := by have := hinv.cost_le; have := hinv.1; have := hinv.2.1; omega
      have HF : Hid (FormAt wr w.heap.size f) := hfm
      obtain ⟨⟨hc0, hc1, hc2, hc3⟩, hfr⟩ := hfm
      clear hst hinv
      by_cases hlt : k < s.size
      · have hbt := bt_get s k hlt
        have hb2 := bt_lt s k
        obtain ⟨g, ok, hr⟩ : ∃ g ok, (g, ok) = nxt f (bt s k) := ⟨_, _, rfl⟩
        have HR : Hid ((g, ok) = nxt f (bt s k)) := hr
        clear hr
        go_upto_region 8 with fail
        go_cut [7, 8] from 13 to 42 (fun p o wx => ∃ b : Nat, p = .pointer (some ⟨b, 0, none⟩) ∧ o = .bool ok ∧ Met w wx b g f)
        case first =>
          go_region_with (go_at_call 57; refine (next_atC f _ g ok HR _ hb2 hi1 hi2 hi3).mono ?_; rintro e w1 ⟨rfl, hb1⟩; have hbc := bcell hb1; obtain ⟨hcc, hff⟩ := hbc; have hz1 := hb1.size; simp at hz1)
          all_goals
            go_wp2_with fail
            go_meet
            clear hcc hff
          all_goals first
            | (refine ⟨w1.heap.size, rfl, rfl, ?_⟩; exact met_a (wr := wr) (w1 := w1) (r := g) (f := f) hbel hsz HF.out ((Below.refl _ _).drew.trans hb1))
            | (refine ⟨wr.heap.size, rfl, rfl, ?_⟩; exact met_b (wr := wr) (w1 := w1) (r := g) (f := f) hbel hsz HF.out (((Below.refl _ _).drew.trans hb1).mono (by simp)))
        case rest =>
          obtain ⟨b, rfl, rfl, hbb, hbel', hsz', hg, hf'⟩ := hcut
          obtain ⟨⟨hg0, hg1, hg2, hg3⟩, _⟩ := hg
          have HF' : Hid (FormAt wc w.heap.size f) := hf'
          obtain ⟨⟨hf0, hf1, hf2, hf3⟩, hff⟩ := hf'
          clear hc0 hc1 hc2 hc3 hfr HF
          cases ok with
          | false =>
            have HN : Hid (stp s (k + 1) = none) := by
              have h := stp_succ HS.out
              rw [← HR.out] at h
              show _ = _
              simpa using h
            go_wp2
            go_ret2
            exact ⟨2, k, rfl, .inr (.inl ⟨hb, k, f, hlt, HS.out, HN.out, rfl, rfl⟩), hbel'⟩
          | true =>
            have HN : Hid (stp s (k + 1) = some g) := by
              have h := stp_succ HS.out
              rw [← HR.out] at h
              show _ = _
              simpa using h
            have hinv := stp_inv s _ g HN.out
            obtain ⟨hj2, hj3⟩ : g.n ≤ 12 ∧ g.cost ≤ 9999 := by have := hinv.cost_le; have := hinv.2.1; omega
            clear hinv
            have HH : Hid (hgh s (k + 1) = if 1000 < g.cost ∧ hgh s k < 0 then (k : Int) - g.n + 1 else hgh s k) := hgh_succ HN.out
            by_cases hcost : 1000 < g.cost
            · have hci : (1000 : Int) < (g.cost : Int) := by omega
              by_cases hneg : hgh s k < 0
              · go_wp2
                go_roundw
                case rel => exact ⟨k + 1, g, by omega, by go_num, HN.out, by rw [HH.out, if_pos ⟨hcost, hneg⟩], below_set4 hbel' (Nat.le_refl _) _ _ _ _, by simpa [World.setCell] using hsz', HF'.out.set g⟩
                case measure => simp [intOf]; omega
              · go_wp2
                go_roundw
                case rel => exact ⟨k + 1, g, by omega, by go_num, HN.out, by rw [HH.out, if_neg (fun h => hneg h.2)], below_set4 hbel' (Nat.le_refl _) _ _ _ _, by simpa [World.setCell] using hsz', HF'.out.set g⟩
                case measure => simp [intOf]; omega
            · have hci : ¬ (1000 : Int) < (g.cost : Int) := by omega
              go_wp2
              go_roundw
              case rel => exact ⟨k + 1, g, by omega, by go_num, HN.out, by rw [HH.out, if_neg (fun h => hcost h.1)], below_set4 hbel' (Nat.le_refl _) _ _ _ _, by simpa [World.setCell] using hsz', HF'.out.set g⟩
              case measure => simp [intOf]; omega
      · have hks : k = s.size := by omega
        subst hks
        by_cases h0 : f.st = 0
        · have HA : Hid (acc f) := .inl h0
          have t0 := srt_cast_eq (a := f.st) (b := 0) (by omega)
          clear h0
          by_cases hneg : hgh s s.size < 0
          all_goals
            go_wp2
            go_ret2
          · exact ⟨0, 0, rfl, .inr (.inr (.inr (.inr ⟨hb, f, HS.out, HA.out, hneg, rfl, rfl⟩))), hbel⟩
          · exact ⟨3, _, rfl, .inr (.inr (.inr (.inl ⟨hb, f, HS.out, HA.out, by omega, rfl, rfl⟩))), hbel⟩
        · have t0 := srt_cast_ne (a := f.st) (b := 0) (by omega)
          by_cases h4 : f.st = 4
          · have HA : Hid (acc f) := .inr (.inl h4)
            have t4 := srt_cast_eq (a := f.st) (b := 4) (by omega)
            clear h0 h4
            by_cases hneg : hgh s s.size < 0
            all_goals
              go_wp2
              go_ret2
            · exact ⟨0, 0, rfl, .inr (.inr (.inr (.inr ⟨hb, f, HS.out, HA.out, hneg, rfl, rfl⟩))), hbel⟩
            · exact ⟨3, _, rfl, .inr (.inr (.inr (.inl ⟨hb, f, HS.out, HA.out, by omega, rfl, rfl⟩))), hbel⟩
          · have t4 := srt_cast_ne (a := f.st) (b := 4) (by omega)
            by_cases h5 : f.st = 5
            · have HA : Hid (acc f) := .inr (.inr h5)
              have t5 := srt_cast_eq (a := f.st) (b := 5) (by omega)
              clear h0 h4 h5
              by_cases hneg : hgh s s.size < 0
              all_goals
                go_wp2
                go_ret2
              · exact ⟨0, 0, rfl, .inr (.inr (.inr (.inr ⟨hb, f, HS.out, HA.out, hneg, rfl, rfl⟩))), hbel⟩
              · exact ⟨3, _, rfl, .inr (.inr (.inr (.inl ⟨hb, f, HS.out, HA.out, by omega, rfl, rfl⟩))), hbel⟩
            · have HA : Hid (¬ acc f) := fun h => by rcases h with h | h | h <;> omega
              have t5 := srt_cast_ne (a := f.st) (b := 5) (by omega)
              clear h0 h4 h5
              go_wp2
              go_ret2
              exact ⟨2, s.size, rfl, .inr (.inr (.inl ⟨hb, f, HS.out, HA.out, rfl, rfl⟩)), hbel⟩
  · have hgt : (2000 : Int) < (s.size : Int) := by omega
    unfold maxLen at hs
    go_enter Try.func28, Try.ntmps28
    go_wp2
    go_ret2
    exact ⟨1, 0, rfl, .inl ⟨by omega, rfl, rfl⟩, Below.refl _ _⟩

end Go.Proofs.Ytlfpepehngkehaa
