/-
  Walks: the program's reader; words.Is.
-/
import Derived.Test.YtlfpepehngkehaaDoorLeafA
import Derived.Test.YtlfpepehngkehaaDoorRowsW
import Derived.Test.YtlfpepehngkehaaDoorMaths
import Derived.BigQuiet
import Derived.Deep.RegionWith
import Derived.Deep.LoopGhost
namespace Go.Proofs.YtlfpepehngkehaaDoor
set_option linter.unusedSimpArgs false
set_option linter.unusedVariables false
open Go.RowKit

/-- the reader at b: its text, the place, was it too short? -/
structure RdAt (w : World) (b : Nat) (s : ByteArray) (k : Nat) (f : Bool) : Prop where
  c0 : w.cell? ⟨b, 0, none⟩ = some (.string s)
  c1 : w.cell? ⟨b, 1, none⟩ = some (.int .i64 k)
  c2 : w.cell? ⟨b, 2, none⟩ = some (.bool f)
  f1 : w.frozen? ⟨b, 1, none⟩ = false
  f2 : w.frozen? ⟨b, 2, none⟩ = false

theorem RdAt.drewN {w : World} {b : Nat} {s : ByteArray} {k : Nat} {f : Bool} (h : RdAt w b s k f) (n : Nat) : RdAt (w.drewN n) b s k f := ⟨h.c0, h.c1, h.c2, h.f1, h.f2⟩
theorem RdAt.set1 {w : World} {b : Nat} {s : ByteArray} {k k' : Nat} {f : Bool} (h : RdAt w b s k f) {n : Int} (hn : n = (k' : Int)) : RdAt (w.setCell ⟨b, 1, none⟩ (.int .i64 n)) b s k' f := by
  subst hn
  refine ⟨?_, ?_, ?_, by simp [h.f1], by simp [h.f2]⟩
  · rw [World.cell?_setCell_other _ _ _ _ (by simp)]; exact h.c0
  · apply World.cell?_setCell_same; exact h.c1
  · rw [World.cell?_setCell_other _ _ _ _ (by simp)]; exact h.c2
theorem RdAt.set2 {w : World} {b : Nat} {s : ByteArray} {k : Nat} {f f' : Bool} (h : RdAt w b s k f) : RdAt (w.setCell ⟨b, 2, none⟩ (.bool f')) b s k f' := by
  refine ⟨?_, ?_, ?_, by simp [h.f1], by simp [h.f2]⟩
  · rw [World.cell?_setCell_other _ _ _ _ (by simp)]; exact h.c0
  · rw [World.cell?_setCell_other _ _ _ _ (by simp)]; exact h.c1
  · apply World.cell?_setCell_same; exact h.c2
theorem RdAt.kept {w w' : World} {b : Nat} {s : ByteArray} {k : Nat} {f : Bool} {S : Nat → Prop} (h : RdAt w b s k f) (hk : Kept w w' S) (hS : ¬ S b) : RdAt w' b s k f :=
  have hl := cell_lt h.c0
  ⟨(hk.cell (p := ⟨b, 0, none⟩) hl hS).trans h.c0, (hk.cell (p := ⟨b, 1, none⟩) hl hS).trans h.c1, (hk.cell (p := ⟨b, 2, none⟩) hl hS).trans h.c2, (hk.frozen (p := ⟨b, 1, none⟩) hl hS).trans h.f1, (hk.frozen (p := ⟨b, 2, none⟩) hl hS).trans h.f2⟩

/-- behind a call on the reader. -/
structure RdRes (w w' : World) (b : Nat) (s : ByteArray) (k : Nat) (f : Bool) : Prop where
  rd : RdAt w' b s k f
  kp : Kept w w' (fun j => j = b)

theorem RdRes.trans {a w w' : World} {b : Nat} {s : ByteArray} {k : Nat} {f : Bool} (ha : Kept a w (fun j => j = b)) (h : RdRes w w' b s k f) : RdRes a w' b s k f := ⟨h.rd, ha.trans h.kp (fun _ e => .inl e)⟩

def ByteEnd (w w' : World) (b : Nat) (s : ByteArray) (k : Nat) (f : Bool) (e : Ending) : Prop := ∃ n k' f', e = .returned (.int .i64 ((n : Nat) : Int)) ∧ TB s k f n k' f' ∧ RdRes w w' b s k' f'
def NumEnd (w w' : World) (b : Nat) (s : ByteArray) (k : Nat) (f : Bool) (e : Ending) : Prop := ∃ c k' f', e = .returned (.int .i64 ((c : Nat) : Int)) ∧ TN s k f c k' f' ∧ RdRes w w' b s k' f'
def TextEnd (w w' : World) (b : Nat) (s : ByteArray) (k : Nat) (f : Bool) (n : Nat) (e : Ending) : Prop := ∃ x k' f', e = .returned (.string x) ∧ TX s k f n x k' f' ∧ RdRes w w' b s k' f'

set_option maxHeartbeats 1000000 in
set_option maxRecDepth 20000 in
theorem takeByte_any (w : World) (b : Nat) (s : ByteArray) (k : Nat) (f : Bool) (hs : s.size ≤ 1048576) (hk : k ≤ s.size + 2) (hR : RdAt w b s k f) :
    Calls Tryd.prog 73 #[.pointer (some ⟨b, 0, none⟩)] w fun e w' => ByteEnd w w' b s k f e := by
  have HR : Hid (RdAt w b s k f) := hR
  obtain ⟨c0, c1, c2, f1, f2⟩ := hR
  by_cases hlt : k < s.size
  · have hge : ¬ (s.size : Int) ≤ (k : Int) := by omega
    have hge' : decide ((s.size : Int) ≤ (k : Int)) = false := decide_eq_false hge
    have hbt := bt_get s k hlt
    have hb2 := bt_lt s k
    go_enter Tryd.func73, Tryd.ntmps73
    go_wp2_with fail
    go_quiet (fail)
    go_wp2_with fail
    go_quiet (fail)
    go_wp2
    go_ret
    exact ⟨bt s k, k + 1, f, rfl, .inl ⟨hlt, rfl, rfl, rfl⟩, (HR.out.drewN _).set1 (by go_num), ((Kept.refl w (fun j => j = b)).drewN _).setCell _ _ (.inl rfl)⟩
  · have hge : (s.size : Int) ≤ (k : Int) := by omega
    have hge' : decide ((s.size : Int) ≤ (k : Int)) = true := decide_eq_true hge
    go_enter Tryd.func73, Tryd.ntmps73
    go_wp2_with fail
    go_quiet (fail)
    go_wp2
    go_ret
    exact ⟨0, k, true, rfl, .inr ⟨by omega, rfl, rfl, rfl⟩, (HR.out.drewN _).set2, ((Kept.refl w (fun j => j = b)).drewN _).setCell _ _ (.inl rfl)⟩

set_option maxHeartbeats 1000000 in
set_option maxRecDepth 20000 in
theorem takeNumber_any (w : World) (b : Nat) (s : ByteArray) (k : Nat) (f : Bool) (hs : s.size ≤ 1048576) (hk : k ≤ s.size + 2) (hR : RdAt w b s k f) :
    Calls Tryd.prog 63 #[.pointer (some ⟨b, 0, none⟩)] w fun e w' => NumEnd w w' b s k f e := by
  have HR : Hid (RdAt w b s k f) := hR
  clear hR
  go_enter Tryd.func63, Tryd.ntmps63
  go_wp2_with fail
  refine (takeByte_any w b s k f hs hk HR.out).mono ?_
  rintro e w1 ⟨n1, k1, f1, rfl, hT1, hr1, hk1⟩
  obtain ⟨hn1, hle1⟩ := hT1.le hk
  have HT1 : Hid (TB s k f n1 k1 f1) := hT1
  have HR1 : Hid (RdAt w1 b s k1 f1) := hr1
  have HK1 : Hid (Kept w w1 (fun j => j = b)) := hk1
  clear hT1 hr1 hk1
  go_wp2_with fail
  refine (takeByte_any w1 b s k1 f1 hs hle1 HR1.out).mono ?_
  rintro e w2 ⟨n2, k2, f2, rfl, hT2, hr2⟩
  obtain ⟨hn2, hle2⟩ := hT2.le hle1
  have HT2 : Hid (TB s k1 f1 n2 k2 f2) := hT2
  have HR2 : Hid (RdRes w w2 b s k2 f2) := hr2.trans HK1.out
  clear hT2 hr2
  go_wp2
  go_ret
  exact ⟨n1 + 256 * n2, k2, f2, ret_int (by first | omega | (simp; omega)), ⟨n1, k1, f1, n2, HT1.out, HT2.out, rfl⟩, HR2.out⟩

set_option maxHeartbeats 1000000 in
set_option maxRecDepth 20000 in
theorem takeText_any (w : World) (b : Nat) (s : ByteArray) (k : Nat) (f : Bool) (n : Nat) (hn : n ≤ 255) (hs : s.size ≤ 1048576) (hk : k ≤ s.size + 2) (hR : RdAt w b s k f) :
    Calls Tryd.prog 74 #[.pointer (some ⟨b, 0, none⟩), .int .i64 n] w fun e w' => TextEnd w w' b s k f n e := by
  have HR : Hid (RdAt w b s k f) := hR
  obtain ⟨c0, c1, c2, f1, f2⟩ := hR
  by_cases hlt : k + n ≤ s.size
  · have hge : ¬ ((s.size : Int) - (k : Int)) < (n : Int) := by omega
    obtain ⟨e, he⟩ : ∃ e : Nat, e = k + n := ⟨_, rfl⟩
    have he1 : (k : Int) + (n : Int) = (e : Int) := by omega
    have hke : k ≤ e := by omega
    have hes : e ≤ s.size := by omega
    have HX : Hid (k + n = e) := he.symm
    clear he
    go_enter Tryd.func74, Tryd.ntmps74
    go_wp2_with fail
    go_quiet (fail)
    go_wp2
    go_ret
    exact ⟨s.extract k e, e, f, rfl, .inl ⟨hlt, by rw [HX.out], HX.out.symm, rfl⟩, (HR.out.set1 rfl).drewN _, ((Kept.refl w (fun j => j = b)).setCell _ _ (.inl rfl)).drewN _⟩
  · have hge : ((s.size : Int) - (k : Int)) < (n : Int) := by omega
    go_enter Tryd.func74, Tryd.ntmps74
    go_wp2
    go_ret
    exact ⟨ByteArray.empty, k, true, rfl, .inr ⟨by omega, rfl, rfl, rfl⟩, HR.out.set2, (Kept.refl w (fun j => j = b)).setCell _ _ (.inl rfl)⟩

theorem wordEnd_zero (s : ByteArray) (w : World) (hb : s.size ≤ 2000) :
    Calls Tryd.prog 77 #[.string s, .int .i64 0] w fun e w' => ∃ n : Nat, e = .returned (.int .i64 (n : Int)) ∧ WordAt s 0 n ∧ w' = w := by
  have := wordEnd_any s 0 w (by unfold maxLen; omega) (Nat.zero_le _) hb
  simpa using this

def WordAns (s : ByteArray) (e : Ending) : Prop := ∃ f : Bool, e = .returned (.bool f) ∧ (f = true ↔ IsWord s)

set_option maxHeartbeats 1000000 in
set_option maxRecDepth 20000 in
theorem is_any (s : ByteArray) (w : World) (hb : s.size ≤ 2000) :
    Calls Tryd.prog 75 #[.string s] w fun e w' => WordAns s e ∧ w' = w := by
  by_cases h0 : s.toList = []
  · have HN : Hid (¬ IsWord s) := fun h => by have := h.1; rw [← toList_length, h0] at this; exact absurd this (by decide)
    have te : s.toList.isEmpty = true := by rw [h0]; rfl
    go_enter Tryd.func75, Tryd.ntmps75
    go_wp2
    go_ret
    exact ⟨⟨false, rfl, by simpa using HN.out⟩, rfl⟩
  · have hz : 1 ≤ s.size := by
      rcases Nat.eq_zero_or_pos s.size with h | h
      · exact absurd (List.eq_nil_of_length_eq_zero (by rw [toList_length]; exact h)) h0
      · exact h
    have te : s.toList.isEmpty = false := by simpa using h0
    have hE := wordEnd_zero s w hb
    go_enter Tryd.func75, Tryd.ntmps75
    go_wp2_with fail
    refine hE.mono ?_
    rintro e w1 ⟨n, rfl, hW, rfl⟩
    have HU : Hid (n = s.size ↔ IsWord s) := word_unique hW hz
    clear hW hE
    by_cases hn : n = s.size
    · have tq : ((n : Int) == (s.size : Int)) = true := beq_iff_eq.2 (by omega)
      have HI : Hid (IsWord s) := HU.out.1 hn
      clear hn
      go_wp2
      go_ret
      exact ⟨⟨true, rfl, by simpa using HI.out⟩, rfl⟩
    · have tq : ((n : Int) == (s.size : Int)) = false := beq_eq_false_iff_ne.2 (by omega)
      have HI : Hid (¬ IsWord s) := fun h => hn (HU.out.2 h)
      clear hn
      go_wp2
      go_ret
      exact ⟨⟨false, rfl, by simpa using HI.out⟩, rfl⟩

end Go.Proofs.YtlfpepehngkehaaDoor
