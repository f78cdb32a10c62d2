/-
  Walks: the reference's Valid.
-/
import Derived.Test.YtlfpepehngkehaaGreatFormB
import Derived.Test.YtlfpepehngkehaaGreatFormW
import Derived.Test.YtlfpepehngkehaaGreatMaths
import Derived.BigQuiet
import Derived.Deep.QuietTactic
import Derived.Deep.RegionWith
import Derived.Deep.CutRange
namespace Go.Proofs.YtlfpepehngkehaaGreat
set_option linter.unusedSimpArgs false
set_option linter.unusedVariables false
open Go.RowKit

theorem next_atV (f : St) (c : Nat) (g : St) (ok : Bool) (hr : Hid ((g, ok) = nxt f c)) (w : World) (hc : c < 256) (hs : f.st ≤ 5) (hn : f.n ≤ 100) (hk : f.cost ≤ 100000) :
    Calls Tryz.prog 33 #[.agg #[.int .i64 f.st, .int .i64 f.n, .bool f.sm, .int .i64 f.cost], .int .u8 c] w fun e w' =>
      e = .returned (.tuple #[.agg #[.int .i64 g.st, .int .i64 g.n, .bool g.sm, .int .i64 g.cost], .bool ok]) ∧ Below w.heap.size w w' := by
  have h := next_any f c w hc hs hn hk
  rw [← hr.out] at h
  exact h

theorem WordPre.mono {x : ByteArray} {n m : Nat} (h : WordPre x n) (h1 : 1 ≤ m) (h2 : m ≤ n) : WordPre x m := by
  obtain ⟨a, b, c, d, e⟩ := h
  exact ⟨h1, by omega, by omega, d, fun j u v => e j u (by omega)⟩

def ValidRes (x : ByteArray) (e : Ending) : Prop := ∃ b : Bool, e = .returned (.bool b) ∧ (b = true ↔ IsWord x)

theorem ValidRes.no {x : ByteArray} {e : Ending} (h : e = .returned (.bool false)) (hn : ¬ IsWord x) : ValidRes x e := ⟨false, h, ⟨fun h => Bool.noConfusion h, fun h => absurd h hn⟩⟩
theorem ValidRes.yes {x : ByteArray} {e : Ending} (h : e = .returned (.bool true)) (hn : IsWord x) : ValidRes x e := ⟨true, h, ⟨fun _ => hn, fun _ => rfl⟩⟩

set_option maxHeartbeats 4000000 in
theorem valid_any (x : ByteArray) (w : World) (hs : x.size ≤ maxLen) :
    Calls Tryz.prog 41 #[.string x] w fun e w' => ValidRes x e ∧ Below w.heap.size w w' := by
  unfold maxLen at hs
  go_enter Tryz.func41, Tryz.ntmps41
  go_wp2
  go_loopw [4] (fun i wr => ∃ k : Nat, k ≤ x.size ∧ i = .int .i64 k ∧ (k = 0 ∨ WordPre x k) ∧ Below w.heap.size w wr ∧ w.heap.size < wr.heap.size ∧ FormAt wr w.heap.size (wordSt x k))
    (fun i _ => x.size - (intOf i).toNat)
  case atStart =>
    refine ⟨0, by omega, rfl, .inl rfl, (Below.refl _ _).alloc (Nat.le_refl _) _, by simp, FormAt.new w ⟨0, 0, false, 0⟩ _⟩
  case round =>
    obtain ⟨k, hk, rfl, hp, hbel, hsz, hfm⟩ := hrel
    obtain ⟨f, hfd⟩ : ∃ f, f = wordSt x k := ⟨_, rfl⟩
    rw [← hfd] at hfm
    have HFD : Hid (f = wordSt x k) := hfd
    have HP : Hid (k = 0 ∨ WordPre x k) := hp
    obtain ⟨hi1, hi2, hi3⟩ : f.st ≤ 5 ∧ f.n ≤ 100 ∧ f.cost ≤ 100000 := by
      rw [hfd]; unfold wordSt
      rcases hp with rfl | hp
      · simp
      · have := hp.2.1
        split <;> simp <;> omega
    have HF : Hid (FormAt wr w.heap.size f) := hfm
    obtain ⟨⟨hc0, hc1, hc2, hc3⟩, hfr⟩ := hfm
    clear hp hfd
    by_cases hlt : k < x.size
    · have hbt := bt_get x k hlt
      have hb2 := bt_lt x k
      obtain ⟨g, ok, hr⟩ : ∃ g ok, (g, ok) = nxt f (bt x k) := ⟨_, _, rfl⟩
      have HR : Hid ((g, ok) = nxt f (bt x k)) := hr
      have HST : Hid ((ok = true ∧ g.st = 2 ↔ WordPre x (k + 1)) ∧ (WordPre x (k + 1) → g = wordSt x (k + 1))) := by
        have := wordSt_step hlt HP.out
        rw [← HFD.out, ← hr] at this
        exact this
      clear hr
      go_upto_region 5 with fail
      go_cut [5, 6] from 8 to 29 (fun p o wx => ∃ b : Nat, p = .pointer (some ⟨b, 0, none⟩) ∧ o = .bool ok ∧ Met w wx b g f)
      case first =>
        go_region_with (go_at_call 33; refine (next_atV f _ g ok HR _ hb2 hi1 hi2 hi3).mono ?_; rintro e w1 ⟨rfl, hb1⟩; have hbc := bcell hb1; obtain ⟨hcc, hff⟩ := hbc; have hz1 := hb1.size; simp at hz1)
        all_goals
          go_wp2_with fail
          go_meet
          clear hcc hff
        all_goals first
          | (refine ⟨w1.heap.size, rfl, rfl, ?_⟩; exact met_a (wr := wr) (w1 := w1) (r := g) (f := f) hbel hsz HF.out ((Below.refl _ _).drew.trans hb1))
          | (refine ⟨wr.heap.size, rfl, rfl, ?_⟩; exact met_b (wr := wr) (w1 := w1) (r := g) (f := f) hbel hsz HF.out (((Below.refl _ _).drew.trans hb1).mono (by simp)))
      case rest =>
        obtain ⟨b, rfl, rfl, hbb, hbel', hsz', hg, hf'⟩ := hcut
        obtain ⟨⟨hg0, hg1, hg2, hg3⟩, _⟩ := hg
        have HF' : Hid (FormAt wc w.heap.size f) := hf'
        obtain ⟨⟨hf0, hf1, hf2, hf3⟩, hff⟩ := hf'
        clear hc0 hc1 hc2 hc3 hfr HF
        cases ok with
        | false =>
          have HN : Hid (¬ IsWord x) := fun h => by
            have := HST.out.1.2 (h.mono (by omega) hlt)
            exact Bool.noConfusion this.1
          go_wp2
          go_ret
          exact ⟨.no rfl HN.out, hbel'⟩
        | true =>
          by_cases h2 : g.st = 2
          · have t2 := srt_cast_eq (a := g.st) (b := 2) (by omega)
            have HW : Hid (WordPre x (k + 1)) := HST.out.1.1 ⟨rfl, h2⟩
            have HG : Hid (g = wordSt x (k + 1)) := HST.out.2 HW.out
            clear h2
            go_wp2
            go_roundw
            case rel => exact ⟨k + 1, by omega, by go_num, .inr HW.out, below_set4 hbel' (Nat.le_refl _) _ _ _ _, by simpa [World.setCell] using hsz', by rw [← HG.out]; exact HF'.out.set g⟩
            case measure => simp [intOf]; omega
          · have t2 := srt_cast_ne (a := g.st) (b := 2) (by omega)
            have HN : Hid (¬ IsWord x) := fun h => h2 (HST.out.1.2 (h.mono (by omega) hlt)).2
            clear h2
            go_wp2
            go_ret
            exact ⟨.no rfl HN.out, hbel'⟩
    · have hks : k = x.size := by omega
      subst hks
      by_cases h0 : x.size = 0
      · have t0 : f.st = 0 := by rw [HFD.out, h0]; rfl
        rw [t0] at hc0
        go_wp2
        go_ret
        exact ⟨.no rfl (fun h => by have := h.1; omega), hbel⟩
      · have t0 : f.st = 2 := by rw [HFD.out]; simp [wordSt, h0]
        rw [t0] at hc0
        go_wp2
        go_ret
        exact ⟨.yes rfl (by rcases HP.out with h | h; exact absurd h h0; exact h), hbel⟩

end Go.Proofs.YtlfpepehngkehaaGreat
