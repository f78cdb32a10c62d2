import Derived.Test.YtlfpepehngkehaaGreatLeafA
import Derived.Test.YtlfpepehngkehaaGreatRowsW
import Derived.Test.YtlfpepehngkehaaGreatMaths
import Derived.BigQuiet
import Derived.Deep.RegionWith
import Derived.Deep.LoopGhost
import Derived.Test.YtlfpepehngkehaaGreatWriteB
/-
  Walks: the program's reader; words.Is.
-/
namespace Go.Proofs.YtlfpepehngkehaaGreat
set_option linter.unusedSimpArgs false
set_option linter.unusedVariables false
open Go.RowKit

/-- the reader at b: its text, the place, was it too short? -/
structure RdAt (w : World) (b : Nat) (s : ByteArray) (k : Nat) (f : Bool) : Prop where
  c0 : w.cell? ⟨b, 0, none⟩ = some (.string s)
  c1 : w.cell? ⟨b, 1, none⟩ = some (.int .i64 k)
  c2 : w.cell? ⟨b, 2, none⟩ = some (.bool f)
  f1 : w.frozen? ⟨b, 1, none⟩ = false
  f2 : w.frozen? ⟨b, 2, none⟩ = false

theorem RdAt.drewN {w : World} {b : Nat} {s : ByteArray} {k : Nat} {f : Bool} (h : RdAt w b s k f) (n : Nat) : RdAt (w.drewN n) b s k f := ⟨h.c0, h.c1, h.c2, h.f1, h.f2⟩
theorem RdAt.set1 {w : World} {b : Nat} {s : ByteArray} {k k' : Nat} {f : Bool} (h : RdAt w b s k f) {n : Int} (hn : n = (k' : Int)) : RdAt (w.setCell ⟨b, 1, none⟩ (.int .i64 n)) b s k' f := by
  subst hn
  refine ⟨?_, ?_, ?_, by simp [h.f1], by simp [h.f2]⟩
  · rw [World.cell?_setCell_other _ _ _ _ (by simp)]; exact h.c0
  · apply World.cell?_setCell_same; exact h.c1
  · rw [World.cell?_setCell_other _ _ _ _ (by simp)]; exact h.c2
theorem RdAt.set2 {w : World} {b : Nat} {s : ByteArray} {k : Nat} {f f' : Bool} (h : RdAt w b s k f) : RdAt (w.setCell ⟨b, 2, none⟩ (.bool f')) b s k f' := by
  refine ⟨?_, ?_, ?_, by simp [h.f1], by simp [h.f2]⟩
  · rw [World.cell?_setCell_other _ _ _ _ (by simp)]; exact h.c0
  · rw [World.cell?_setCell_other _ _ _ _ (by simp)]; exact h.c1
  · apply World.cell?_setCell_same; exact h.c2
theorem RdAt.kept {w w' : World} {b : Nat} {s : ByteArray} {k : Nat} {f : Bool} {S : Nat → Prop} (h : RdAt w b s k f) (hk : Kept w w' S) (hS : ¬ S b) : RdAt w' b s k f :=
  have hl := cell_lt h.c0
  ⟨(hk.cell (p := ⟨b, 0, none⟩) hl hS).trans h.c0, (hk.cell (p := ⟨b, 1, none⟩) hl hS).trans h.c1, (hk.cell (p := ⟨b, 2, none⟩) hl hS).trans h.c2, (hk.frozen (p := ⟨b, 1, none⟩) hl hS).trans h.f1, (hk.frozen (p := ⟨b, 2, none⟩) hl hS).trans h.f2⟩

/-- behind a call on the reader. -/
structure RdRes (w w' : World) (b : Nat) (s : ByteArray) (k : Nat) (f : Bool) : Prop where
  rd : RdAt w' b s k f
  kp : Kept w w' (fun j => j = b)

theorem RdRes.trans {a w w' : World} {b : Nat} {s : ByteArray} {k : Nat} {f : Bool} (ha : Kept a w (fun j => j = b)) (h : RdRes w w' b s k f) : RdRes a w' b s k f := ⟨h.rd, ha.trans h.kp (fun _ e => .inl e)⟩

def ByteEnd (w w' : World) (b : Nat) (s : ByteArray) (k : Nat) (f : Bool) (e : Ending) : Prop := ∃ n k' f', e = .returned (.int .i64 ((n : Nat) : Int)) ∧ TB s k f n k' f' ∧ RdRes w w' b s k' f'
def NumEnd (w w' : World) (b : Nat) (s : ByteArray) (k : Nat) (f : Bool) (e : Ending) : Prop := ∃ c k' f', e = .returned (.int .i64 ((c : Nat) : Int)) ∧ TN s k f c k' f' ∧ RdRes w w' b s k' f'
def TextEnd (w w' : World) (b : Nat) (s : ByteArray) (k : Nat) (f : Bool) (n : Nat) (e : Ending) : Prop := ∃ x k' f', e = .returned (.string x) ∧ TX s k f n x k' f' ∧ RdRes w w' b s k' f'

set_option maxHeartbeats 1000000 in
set_option maxRecDepth 20000 in
theorem takeByte_any (w : World) (b : Nat) (s : ByteArray) (k : Nat) (f : Bool) (hs : s.size ≤ 1048576) (hk : k ≤ s.size + 2) (hR : RdAt w b s k f) :
    Calls Tryz.prog 108 #[.pointer (some ⟨b, 0, none⟩)] w fun e w' => ByteEnd w w' b s k f e := by
  have HR : Hid (RdAt w b s k f) := hR
  obtain ⟨c0, c1, c2, f1, f2⟩ := hR
  by_cases hlt : k < s.size
  · have hge : ¬ (s.size : Int) ≤ (k : Int) := by omega
    have hge' : decide ((s.size : Int) ≤ (k : Int)) = false := decide_eq_false hge
    have hbt := bt_get s k hlt
    have hb2 := bt_lt s k
    go_enter Tryz.func108, Tryz.ntmps108
    go_wp2_with fail
    go_quiet (fail)
    go_wp2_with fail
    go_quiet (fail)
    go_wp2
    go_ret
    exact ⟨bt s k, k + 1, f, rfl, .inl ⟨hlt, rfl, rfl, rfl⟩, (HR.out.drewN _).set1 (by go_num), ((Kept.refl w (fun j => j = b)).drewN _).setCell _ _ (.inl rfl)⟩
  · have hge : (s.size : Int) ≤ (k : Int) := by omega
    have hge' : decide ((s.size : Int) ≤ (k : Int)) = true := decide_eq_true hge
    go_enter Tryz.func108, Tryz.ntmps108
    go_wp2_with fail
    go_quiet (fail)
    go_wp2
    go_ret
    exact ⟨0, k, true, rfl, .inr ⟨by omega, rfl, rfl, rfl⟩, (HR.out.drewN _).set2, ((Kept.refl w (fun j => j = b)).drewN _).setCell _ _ (.inl rfl)⟩

set_option maxHeartbeats 1000000 in
set_option maxRecDepth 20000 in
theorem takeNumber_any (w : World) (b : Nat) (s : ByteArray) (k : Nat) (f : Bool) (hs : s.size ≤ 1048576) (hk : k ≤ s.size + 2) (hR : RdAt w b s k f) :
    Calls Tryz.prog 89 #[.pointer (some ⟨b, 0, none⟩)] w fun e w' => NumEnd w w' b s k f e := by
  have HR : Hid (RdAt w b s k f) := hR
  clear hR
  go_enter Tryz.func89, Tryz.ntmps89
  go_wp2_with fail
  refine (takeByte_any w b s k f hs hk HR.out).mono ?_
  rintro e w1 ⟨n1, k1, f1, rfl, hT1, hr1, hk1⟩
  obtain ⟨hn1, hle1⟩ := hT1.le hk
  have HT1 : Hid (TB s k f n1 k1 f1) := hT1
  have HR1 : Hid (RdAt w1 b s k1 f1) := hr1
  have HK1 : Hid (Kept w w1 (fun j => j = b)) := hk1
  clear hT1 hr1 hk1
  go_wp2_with fail
  refine (takeByte_any w1 b s k1 f1 hs hle1 HR1.out).mono ?_
  rintro e w2 ⟨n2, k2, f2, rfl, hT2, hr2⟩
  obtain ⟨hn2, hle2⟩ := hT2.le hle1
  have HT2 : Hid (TB s k1 f1 n2 k2 f2) := hT2
  have HR2 : Hid (RdRes w w2 b s k2 f2) := hr2.trans HK1.out
  clear hT2 hr2
  go_wp2
  go_ret
  exact ⟨n1 + 256 * n2, k2, f2, ret_int (by first | omega | (simp; omega)), ⟨n1, k1, f1, n2, HT1.out, HT2.out, rfl⟩, HR2.out⟩

set_option maxHeartbeats 1000000 in
set_option maxRecDepth 20000 in
theorem takeText_any (w : World) (b : Nat) (s : ByteArray) (k : Nat) (f : Bool) (n : Nat) (hn : n ≤ 255) (hs : s.size ≤ 1048576) (hk : k ≤ s.size + 2) (hR : RdAt w b s k f) :
    Calls Tryz.prog 109 #[.pointer (some ⟨b, 0, none⟩), .int .i64 n] w fun e w' => TextEnd w w' b s k f n e := by
  have HR : Hid (RdAt w b s k f) := hR
  obtain ⟨c0, c1, c2, f1, f2⟩ := hR
  by_cases hlt : k + n ≤ s.size
  · have hge : ¬ ((s.size : Int) - (k : Int)) < (n : Int) := by omega
    obtain ⟨e, he⟩ : ∃ e : Nat, e = k + n := ⟨_, rfl⟩
    have he1 : (k : Int) + (n : Int) = (e : Int) := by omega
    have hke : k ≤ e := by omega
    have hes : e ≤ s.size := by omega
    have HX : Hid (k + n = e) := he.symm
    clear he
    go_enter Tryz.func109, Tryz.ntmps109
    go_wp2_with fail
    go_quiet (fail)
    go_wp2
    go_ret
    exact ⟨s.extract k e, e, f, rfl, .inl ⟨hlt, by rw [HX.out], HX.out.symm, rfl⟩, (HR.out.set1 rfl).drewN _, ((Kept.refl w (fun j => j = b)).setCell _ _ (.inl rfl)).drewN _⟩
  · have hge : ((s.size : Int) - (k : Int)) < (n : Int) := by omega
    go_enter Tryz.func109, Tryz.ntmps109
    go_wp2
    go_ret
    exact ⟨ByteArray.empty, k, true, rfl, .inr ⟨by omega, rfl, rfl, rfl⟩, HR.out.set2, (Kept.refl w (fun j => j = b)).setCell _ _ (.inl rfl)⟩

theorem wordEnd_zero (s : ByteArray) (w : World) (hb : s.size ≤ 2000) :
    Calls Tryz.prog 105 #[.string s, .int .i64 0] w fun e w' => ∃ n : Nat, e = .returned (.int .i64 (n : Int)) ∧ WordAt s 0 n ∧ w' = w := by
  have := wordEnd_any s 0 w (by unfold maxLen; omega) (Nat.zero_le _) hb
  simpa using this

def WordAns (s : ByteArray) (e : Ending) : Prop := ∃ f : Bool, e = .returned (.bool f) ∧ (f = true ↔ IsWord s)

set_option maxHeartbeats 1000000 in
set_option maxRecDepth 20000 in
theorem is_any (s : ByteArray) (w : World) (hb : s.size ≤ 2000) :
    Calls Tryz.prog 110 #[.string s] w fun e w' => WordAns s e ∧ w' = w := by
  by_cases h0 : s.toList = []
  · have HN : Hid (¬ IsWord s) := fun h => by have := h.1; rw [← toList_length, h0] at this; exact absurd this (by decide)
    have te : s.toList.isEmpty = true := by rw [h0]; rfl
    go_enter Tryz.func110, Tryz.ntmps110
    go_wp2
    go_ret
    exact ⟨⟨false, rfl, by simpa using HN.out⟩, rfl⟩
  · have hz : 1 ≤ s.size := by
      rcases Nat.eq_zero_or_pos s.size with h | h
      · exact absurd (List.eq_nil_of_length_eq_zero (by rw [toList_length]; exact h)) h0
      · exact h
    have te : s.toList.isEmpty = false := by simpa using h0
    have hE := wordEnd_zero s w hb
    go_enter Tryz.func110, Tryz.ntmps110
    go_wp2_with fail
    refine hE.mono ?_
    rintro e w1 ⟨n, rfl, hW, rfl⟩
    have HU : Hid (n = s.size ↔ IsWord s) := word_unique hW hz
    clear hW hE
    by_cases hn : n = s.size
    · have tq : ((n : Int) == (s.size : Int)) = true := beq_iff_eq.2 (by omega)
      have HI : Hid (IsWord s) := HU.out.1 hn
      clear hn
      go_wp2
      go_ret
      exact ⟨⟨true, rfl, by simpa using HI.out⟩, rfl⟩
    · have tq : ((n : Int) == (s.size : Int)) = false := beq_eq_false_iff_ne.2 (by omega)
      have HI : Hid (¬ IsWord s) := fun h => hn (HU.out.2 h)
      clear hn
      go_wp2
      go_ret
      exact ⟨⟨false, rfl, by simpa using HI.out⟩, rfl⟩

end Go.Proofs.YtlfpepehngkehaaGreat
/-
  Walks: the program's reading of an image; Load and Image.
-/
namespace Go.Proofs.YtlfpepehngkehaaGreat
set_option linter.unusedSimpArgs false
set_option linter.unusedVariables false
open Go.RowKit

def WordEndW (w w' : World) (b : Nat) (s : ByteArray) (k : Nat) (ahead : ByteArray) (e : Ending) : Prop :=
  ∃ x c k' f g, e = .returned (.tuple #[.string x, .int .i64 ((c : Nat) : Int), .bool f]) ∧ TakeEnd s k ahead x c k' f ∧ k' ≤ s.size + 2 ∧ RdRes w w' b s k' g ∧ (f = true → g = false)

set_option maxHeartbeats 2000000 in
set_option maxRecDepth 20000 in
theorem takeWord_any (w : World) (b : Nat) (s : ByteArray) (k : Nat) (ahead : ByteArray) (ha : ahead.size ≤ 12) (hs : s.size ≤ 1048576) (hk : k ≤ s.size + 2) (hR : RdAt w b s k false) :
    Calls Tryz.prog 90 #[.pointer (some ⟨b, 0, none⟩), .string ahead] w fun e w' => WordEndW w w' b s k ahead e := by
  have HR : Hid (RdAt w b s k false) := hR
  clear hR
  go_enter Tryz.func90, Tryz.ntmps90
  go_wp2_with fail
  refine (takeByte_any w b s k false hs hk HR.out).mono ?_
  rintro e w1 ⟨n1, k1, f1, rfl, hT1, hr1, hk1⟩
  obtain ⟨hn1, hle1⟩ := hT1.le hk
  have HT1 : Hid (TB s k false n1 k1 f1) := hT1
  have HR1 : Hid (RdAt w1 b s k1 f1) := hr1
  have HK1 : Hid (Kept w w1 (fun j => j = b)) := hk1
  clear hT1 hr1 hk1 HR
  go_wp2_with fail
  refine (takeByte_any w1 b s k1 f1 hs hle1 HR1.out).mono ?_
  rintro e w2 ⟨n2, k2, f2, rfl, hT2, hr2, hk2⟩
  obtain ⟨hn2, hle2⟩ := hT2.le hle1
  have HT2 : Hid (TB s k1 f1 n2 k2 f2) := hT2
  have HR2 : Hid (RdAt w2 b s k2 f2) := hr2
  have HK2 : Hid (Kept w w2 (fun j => j = b)) := HK1.out.trans hk2 (fun _ e => .inl e)
  clear hT2 hr2 hk2 HR1 HK1
  go_wp2_with fail
  refine (takeText_any w2 b s k2 f2 n2 hn2 hs hle2 HR2.out).mono ?_
  rintro e w3 ⟨x, k3, f3, rfl, hT3, hr3, hk3⟩
  obtain ⟨hx3, hle3⟩ := hT3.le hle2
  have HT3 : Hid (TX s k2 f2 n2 x k3 f3) := hT3
  have HR3 : Hid (RdAt w3 b s k3 f3) := hr3
  have HK3 : Hid (Kept w w3 (fun j => j = b)) := HK2.out.trans hk3 (fun _ e => .inl e)
  clear hT3 hr3 hk3 HR2 HK2
  go_wp2_with fail
  refine (takeNumber_any w3 b s k3 f3 hs hle3 HR3.out).mono ?_
  rintro e w4 ⟨c, k4, f4, rfl, hT4, hr4, hk4⟩
  obtain ⟨hc4, hle4⟩ := hT4.le hle3
  have HT4 : Hid (TN s k3 f3 c k4 f4) := hT4
  have HR4 : Hid (RdRes w w4 b s k4 f4) := ⟨hr4, HK3.out.trans hk4 (fun _ e => .inl e)⟩
  have hc2 := hr4.c2
  clear hT4 hr4 hk4 HR3 HK3
  have zero : ((0 : Nat) : Int) = 0 := rfl
  cases f4 with
  | true =>
    have HB : Hid (∀ x c k', ¬ WordHere s k ahead x c k') := took_bad HT1.out HT2.out HT3.out HT4.out (.inl rfl)
    go_wp2
    go_ret3
    exact ⟨ByteArray.empty, 0, k4, false, true, rfl, .inr ⟨rfl, HB.out⟩, hle4, HR4.out, fun e => by cases e⟩
  | false =>
    by_cases h1 : n1 ≤ ahead.size
    · have t1 : ¬ (ahead.size : Int) < (n1 : Int) := by omega
      by_cases h2 : c ≤ 1000
      · have t2 : ¬ (1000 : Int) < (c : Int) := by omega
        obtain ⟨y, hy⟩ : ∃ y, y = ahead.extract 0 n1 ++ x := ⟨_, rfl⟩
        have hys : y.size ≤ 2000 := by rw [hy]; simp [ByteArray.size_append]; omega
        have HW : Hid (∀ f, (f = true ↔ IsWord y) → TakeEnd s k ahead y c k4 f) := fun f hf => by rw [hy] at hf ⊢; exact took_word HT1.out HT2.out HT3.out HT4.out h1 h2 hf
        go_wp2_with fail
        rw [← hy]
        refine (is_any y _ hys).mono ?_
        rintro e w5 ⟨⟨f, rfl, hf⟩, rfl⟩
        have HE : Hid (TakeEnd s k ahead y c k4 f) := HW.out f hf
        clear hf hy HW
        go_wp2
        go_ret3
        exact ⟨y, c, k4, f, false, rfl, HE.out, hle4, HR4.out, fun _ => rfl⟩
      · have t2 : (1000 : Int) < (c : Int) := by omega
        have HB : Hid (∀ x c k', ¬ WordHere s k ahead x c k') := took_bad HT1.out HT2.out HT3.out HT4.out (.inr (.inr (by omega)))
        go_wp2
        go_ret3
        exact ⟨ByteArray.empty, 0, k4, false, false, rfl, .inr ⟨rfl, HB.out⟩, hle4, HR4.out, fun e => by cases e⟩
    · have t1 : (ahead.size : Int) < (n1 : Int) := by omega
      have HB : Hid (∀ x c k', ¬ WordHere s k ahead x c k') := took_bad HT1.out HT2.out HT3.out HT4.out (.inr (.inl (by omega)))
      go_wp2
      go_ret3
      exact ⟨ByteArray.empty, 0, k4, false, false, rfl, .inr ⟨rfl, HB.out⟩, hle4, HR4.out, fun e => by cases e⟩

/-- how the loop of readWords stands: B: the first block of the call's own. -/
structure RwAt (w wr : World) (s : ByteArray) (i k : Nat) (p : ByteArray) (a : Option Addr) (cap : Nat) (D : Dic) (E : List Ent) : Prop where
  ps : p.size ≤ 12
  rs : Reads s i k p E
  es : ∀ x ∈ E, IsWord x.word ∧ x.cost ≤ 1000
  rp : Rep D E
  dl : D.length ≤ i
  kl : k ≤ s.size + 2
  st : SetAt wr 148 (w.heap.size + 1) (.slice a D.length cap) D
  ob : ∀ k, (Value.slice a D.length cap).ownBlock = some k → w.heap.size + 3 ≤ k
  rd : RdAt wr (w.heap.size + 2) s k false
  c0 : wr.cell? ⟨w.heap.size, 0, none⟩ = some (.slice none 0 0)
  f0 : wr.frozen? ⟨w.heap.size, 0, none⟩ = false
  bl : Below w.heap.size w wr

def RwLoop (w : World) (s : ByteArray) (n g : Nat) (av iv : Value) (wr : World) : Prop :=
  ∃ i k p a cap D E, i ≤ n ∧ g = n - i ∧ iv = .int .i64 ((i : Nat) : Int) ∧ av = .string p ∧ RwAt w wr s i k p a cap D E

def RwEnd (w w' : World) (s : ByteArray) (e : Ending) : Prop :=
  (∃ a n cap, e = .returned (.tuple #[.agg #[.slice a n cap], .bool false]) ∧ LoadNo s) ∨
  (∃ a cap D, e = .returned (.tuple #[.agg #[.slice a D.length cap], .bool true]) ∧ GoodDic D ∧ (imageL D ≠ s.toList → LoadNo s) ∧ w'.ownsRow w.heap.size 148 2 (.slice a D.length cap) D.length (pairCells D))

theorem set_slice {w : World} {t : TypeId} {b : Nat} {v : Value} {D : Dic} (h : SetAt w t b v D) : ∃ a cap, v = .slice a D.length cap := by
  obtain ⟨a, cap, e, _⟩ := row_form h.own
  exact ⟨a, cap, e⟩

theorem own_raise {w : World} {B B' : Nat} {t : TypeId} {sz n : Nat} {v : Value} {xs : List Value} (h : w.ownsRow B t sz v n xs) (hb : ∀ k, v.ownBlock = some k → B' ≤ k) : w.ownsRow B' t sz v n xs := by
  obtain ⟨h1, h2⟩ := h
  refine ⟨h1, ?_⟩
  rcases h2 with h2 | ⟨g, cap, cur, h3, h4, h5⟩
  · exact .inl h2
  · exact .inr ⟨g, cap, cur, h3, hb g (by rw [h3]; rfl), h5⟩

theorem head_no {s : ByteArray} (h : s.size < 4) : LoadNo s := fun D hD he => by have := (image_head hD he).1; omega
theorem head_many {s : ByteArray} {c : Nat} (hc : c = bt s 2 + 256 * bt s 3) (h : 150 < c) : LoadNo s := fun D hD he => by have := (image_head hD he).2; have := hD.1; omega

/-- the set has one word more. -/
theorem RwAt.step {w wr w1 w2 : World} {s : ByteArray} {i k k' : Nat} {p : ByteArray} {a : Option Addr} {cap : Nat} {D : Dic} {E : List Ent} {x : ByteArray} {c : Nat} (h : RwAt w wr s i k p a cap D E) (hw : WordHere s k p x c k') (hk' : k' ≤ s.size + 2)
    (hn : ∀ D, GoodDic D → imageL D = s.toList → i < D.length) (hr : RdRes wr w1 (w.heap.size + 2) s k' false) (ht : TookOne w1 w2 (w.heap.size + 1) (.slice a D.length cap) D (E ++ [⟨x, true, c, 0⟩])) :
    ∃ a' cap' D', RwAt w w2 s (i + 1) k' x a' cap' D' (E ++ [⟨x, true, c, 0⟩]) := by
  obtain ⟨D', hR', hl', v', hS', hK', ho'⟩ := ht
  obtain ⟨a', cap', rfl⟩ := set_slice hS'
  have hz0 : w.heap.size + 2 < wr.heap.size := cell_lt h.rd.c0
  have hz1 := hr.kp.size
  have hob : ∀ j, (Value.slice a D.length cap).ownBlock = some j → w.heap.size + 3 ≤ j := h.ob
  have hB1 : Below w.heap.size w w1 := h.bl.trans (hr.kp.below (by omega) (fun j e => by omega))
  have hB2 : Below w.heap.size w w2 := hB1.trans (hK'.below (by omega) (fun j e => by
    rcases e with e | e
    · omega
    · have := hob j e; omega))
  have ne : ∀ q, q < w.heap.size + 3 → q ≠ w.heap.size + 1 → ¬ (q = w.heap.size + 1 ∨ (Value.slice a D.length cap).ownBlock = some q) := fun q hq hq1 e => by
    rcases e with e | e
    · exact hq1 e
    · have := hob q e; omega
  refine ⟨a', cap', D', hw.is.2.1, reads_step h.rs hn hw, snoc_ents h.es ⟨hw.is, hw.low⟩, hR', by have := h.dl; omega, hk', hS', fun j hj => ?_, hr.rd.kept hK' (ne _ (by omega) (by omega)), ?_, ?_, hB2⟩
  · rcases ho' j hj with e | e
    · exact hob j e
    · omega
  · exact ((hK'.cell (p := ⟨w.heap.size, 0, none⟩) (show w.heap.size < w1.heap.size by omega) (ne w.heap.size (by omega) (by omega))).trans (hr.kp.cell (p := ⟨w.heap.size, 0, none⟩) (show w.heap.size < wr.heap.size by omega) (show ¬ w.heap.size = w.heap.size + 2 by omega))).trans h.c0
  · exact ((hK'.frozen (p := ⟨w.heap.size, 0, none⟩) (show w.heap.size < w1.heap.size by omega) (ne w.heap.size (by omega) (by omega))).trans (hr.kp.frozen (p := ⟨w.heap.size, 0, none⟩) (show w.heap.size < wr.heap.size by omega) (show ¬ w.heap.size = w.heap.size + 2 by omega))).trans h.f0

end Go.Proofs.YtlfpepehngkehaaGreat
/-
  Walks: the program's Load and Image.
-/
namespace Go.Proofs.YtlfpepehngkehaaGreat
set_option linter.unusedSimpArgs false
set_option linter.unusedVariables false
open Go.RowKit

/-- as readWords begins: the result, the set, the reader. -/
def rwWorld (w : World) (s : ByteArray) : World := ((w.alloc (.cells #[.slice none 0 0] 90)).alloc (.cells #[.slice none 0 0] 90)).alloc (.cells #[.string s, .int .i64 2, .bool false] 150)

theorem rwWorld_size (w : World) (s : ByteArray) : (rwWorld w s).heap.size = w.heap.size + 3 := by simp [rwWorld]

theorem rd_new (w : World) (s : ByteArray) : RdAt (rwWorld w s) (w.heap.size + 2) s 2 false := by
  unfold rwWorld
  refine ⟨?_, ?_, ?_, ?_, ?_⟩
  · rw [World.cell?_alloc_at _ _ _ _ (by simp)]; rfl
  · rw [World.cell?_alloc_at _ _ _ _ (by simp)]; rfl
  · rw [World.cell?_alloc_at _ _ _ _ (by simp)]; rfl
  · rw [World.frozen?_alloc_at _ _ _ _ (by simp)]
  · rw [World.frozen?_alloc_at _ _ _ _ (by simp)]

structure RwCells (w wr : World) (v : Value) : Prop where
  c1 : wr.cell? ⟨w.heap.size + 1, 0, none⟩ = some v
  f1 : wr.frozen? ⟨w.heap.size + 1, 0, none⟩ = false
  c0 : wr.cell? ⟨w.heap.size, 0, none⟩ = some (.slice none 0 0)
  f0 : wr.frozen? ⟨w.heap.size, 0, none⟩ = false
  bl : Below w.heap.size w wr
  sz : w.heap.size + 2 < wr.heap.size

theorem rw_new (w : World) (s : ByteArray) : RwCells w (rwWorld w s) (.slice none 0 0) := by
  have hz := rwWorld_size w s
  refine ⟨?_, ?_, ?_, ?_, ?_, by omega⟩
  · unfold rwWorld
    rw [World.cell?_alloc_past _ _ _ (by simp), World.cell?_alloc_at _ _ _ _ (by simp)]; rfl
  · unfold rwWorld
    rw [World.frozen?_alloc_past _ _ _ (by simp), World.frozen?_alloc_at _ _ _ _ (by simp)]
  · unfold rwWorld
    rw [World.cell?_alloc_past _ _ _ (by simp; omega), World.cell?_alloc_past _ _ _ (by simp), World.cell?_alloc_at _ _ _ _ rfl]; rfl
  · unfold rwWorld
    rw [World.frozen?_alloc_past _ _ _ (by simp; omega), World.frozen?_alloc_past _ _ _ (by simp), World.frozen?_alloc_at _ _ _ _ rfl]
  · exact (((Below.refl w.heap.size w).alloc (Nat.le_refl _) _).alloc (by simp) _).alloc (by simp; omega) _

theorem RwCells.kept {w wr w' : World} {v : Value} (h : RwCells w wr v) (hk : Kept wr w' (fun j => j = w.heap.size + 2)) : RwCells w w' v := by
  have hz := h.sz
  exact ⟨(hk.cell (p := ⟨w.heap.size + 1, 0, none⟩) (show w.heap.size + 1 < _ by omega) (show ¬ w.heap.size + 1 = w.heap.size + 2 by omega)).trans h.c1,
    (hk.frozen (p := ⟨w.heap.size + 1, 0, none⟩) (show w.heap.size + 1 < _ by omega) (show ¬ w.heap.size + 1 = w.heap.size + 2 by omega)).trans h.f1,
    (hk.cell (p := ⟨w.heap.size, 0, none⟩) (show w.heap.size < _ by omega) (show ¬ w.heap.size = w.heap.size + 2 by omega)).trans h.c0,
    (hk.frozen (p := ⟨w.heap.size, 0, none⟩) (show w.heap.size < _ by omega) (show ¬ w.heap.size = w.heap.size + 2 by omega)).trans h.f0,
    h.bl.trans (hk.below (by omega) (fun j e => by omega)), by have := hk.size; omega⟩

theorem RwAt.cells {w wr : World} {s : ByteArray} {i k : Nat} {p : ByteArray} {a : Option Addr} {cap : Nat} {D : Dic} {E : List Ent} (h : RwAt w wr s i k p a cap D E) : RwCells w wr (.slice a D.length cap) :=
  ⟨h.st.cell, h.st.frz, h.c0, h.f0, h.bl, cell_lt h.rd.c0⟩

theorem RwCells.ends {w wr : World} {v : Value} (h : RwCells w wr v) (u : Value) : Below w.heap.size w (wr.setCell ⟨w.heap.size, 0, none⟩ u) := by
  have hz := h.sz
  exact h.bl.trans (((Kept.refl wr (fun j => j = w.heap.size)).setCell ⟨w.heap.size, 0, none⟩ u (.inl rfl)).below (by omega) (fun j e => by omega))

/-- as the loop begins. -/
theorem RwAt.start {w w3 : World} {s : ByteArray} (hr : RdRes (rwWorld w s) w3 (w.heap.size + 2) s 4 false) (hs : 4 ≤ s.size) : RwAt w w3 s 0 4 ByteArray.empty none 0 [] [] := by
  have hc := (rw_new w s).kept hr.kp
  exact ⟨by decide, reads_start s, (fun x hx => by cases hx), Rep.nil, Nat.le_refl _, by omega, ⟨hc.c1, hc.f1, World.ownsRow_nil _ _ _ _, fun j hj => by simp [Value.ownBlock] at hj⟩, fun j hj => (by simp [Value.ownBlock] at hj), hr.rd, hc.c0, hc.f0, hc.bl⟩

theorem RwAt.set_kept {w wr w1 : World} {s : ByteArray} {i k : Nat} {p : ByteArray} {a : Option Addr} {cap : Nat} {D : Dic} {E : List Ent} (h : RwAt w wr s i k p a cap D E) (hk : Kept wr w1 (fun j => j = w.heap.size + 2)) : SetAt w1 148 (w.heap.size + 1) (.slice a D.length cap) D := by
  have hc := h.cells.kept hk
  exact ⟨hc.c1, hc.f1, Kept.row h.st.own hk (fun j hj e => by have := h.ob j hj; omega), h.st.ne⟩

theorem RwAt.yes {w wr : World} {s : ByteArray} {i k : Nat} {p : ByteArray} {a : Option Addr} {cap : Nat} {D : Dic} {E : List Ent} (h : RwAt w wr s i k p a cap D E) (hi : i ≤ 150) (hn : ∀ D, GoodDic D → imageL D = s.toList → i = D.length) (u : Value) :
    GoodDic D ∧ (imageL D ≠ s.toList → LoadNo s) ∧ (wr.setCell ⟨w.heap.size, 0, none⟩ u).ownsRow w.heap.size 148 2 (.slice a D.length cap) D.length (pairCells D) := by
  refine ⟨rep_goodE h.es h.rp (by have := h.dl; omega), fun hne => reads_end h.rs hn h.rp hne, ?_⟩
  exact Kept.row (own_raise h.st.own (fun j hj => by have := h.ob j hj; omega)) ((Kept.refl wr (fun j => j = w.heap.size)).setCell ⟨w.heap.size, 0, none⟩ u (.inl rfl)) (fun j hj e => by have := h.ob j hj; omega)

set_option maxHeartbeats 4000000 in
set_option maxRecDepth 20000 in
theorem readWords_any (w : World) (s : ByteArray) (hs : s.size ≤ 1048576) :
    Calls Tryz.prog 72 #[.string s] w fun e w' => RwEnd w w' s e ∧ Below w.heap.size w w' := by
  go_enter Tryz.func72, Tryz.ntmps72
  go_wp2_with fail
  refine (takeNumber_any (rwWorld w s) (w.heap.size + 2) s 2 false hs (by omega) (rd_new w s)).mono ?_
  rintro e w3 ⟨c, k', f', rfl, hT, hr⟩
  obtain ⟨hc3, -⟩ := hT.le (by omega)
  have HT : Hid ((f' = false → 4 ≤ s.size ∧ c = bt s 2 + 256 * bt s 3 ∧ k' = 4) ∧ (f' = true → s.size < 4)) := hT.head
  have HR : Hid (RdRes (rwWorld w s) w3 (w.heap.size + 2) s k' f') := hr
  have HC : Hid (RwCells w w3 (.slice none 0 0)) := (rw_new w s).kept hr.kp
  have hc2 := hr.rd.c2
  clear hT hr
  cases f' with
  | true =>
    have HN : Hid (LoadNo s) := head_no (HT.out.2 rfl)
    have hb1 := HC.out.c1
    have hb0 := HC.out.c0
    have hf0 := HC.out.f0
    go_wp2
    refine bodyPost_ret (v := .tuple #[.agg #[.slice none 0 0], .bool false]) (by simp [results, Tryz.results72, go_sem, hb0]) rfl ⟨.inl ⟨none, 0, 0, rfl, HN.out⟩, HC.out.ends _⟩
  | false =>
    obtain ⟨h4, hcc, rfl⟩ := HT.out.1 rfl
    have HCC : Hid (c = bt s 2 + 256 * bt s 3) := hcc
    clear hcc
    by_cases h150 : c ≤ 150
    · have t150 : ¬ (150 : Int) < (c : Int) := by omega
      have HLn : Hid (∀ D, GoodDic D → imageL D = s.toList → c = D.length) := fun D hD he => by rw [HCC.out]; exact (image_head hD he).2
      have HS : Hid (RwAt w w3 s 0 4 ByteArray.empty none 0 [] []) := RwAt.start HR.out h4
      clear HR HC
      go_wp2_with fail
      go_loopg [7, 8] c (fun g av iv wr => RwLoop w s c g av iv wr)
      case atStart => exact ⟨0, 4, ByteArray.empty, none, 0, [], [], by omega, rfl, rfl, rfl, HS.out⟩
      case round =>
        obtain ⟨i, k, p, a, cap, D, E, hi, rfl, rfl, rfl, hA⟩ := hrel
        have HA : Hid (RwAt w wr s i k p a cap D E) := hA
        have hps := hA.ps
        have hkl := hA.kl
        have hdl := hA.dl
        clear hA HS
        by_cases hlt : i < c
        · have HLi : Hid (∀ D, GoodDic D → imageL D = s.toList → i < D.length) := fun D hD he => by have := HLn.out D hD he; omega
          go_wp2_with fail
          refine (takeWord_any wr (w.heap.size + 2) s k p hps hs hkl HA.out.rd).mono ?_
          rintro e w5 ⟨x, c5, k5, f5, g5, rfl, hTE, hk5, hr5, hfg⟩
          have HTE : Hid (TakeEnd s k p x c5 k5 f5) := hTE
          have HR5 : Hid (RdRes wr w5 (w.heap.size + 2) s k5 g5) := hr5
          have HC5 : Hid (RwCells w w5 (.slice a D.length cap)) := HA.out.cells.kept hr5.kp
          clear hTE hr5
          cases f5 with
          | false =>
            have HN : Hid (LoadNo s) := by
              rcases HTE.out with ⟨e, _⟩ | ⟨_, h⟩
              · cases e
              · exact reads_word HA.out.rs HLi.out h
            have hb1 := HC5.out.c1
            have hb0 := HC5.out.c0
            have hf0 := HC5.out.f0
            clear hfg
            go_wp2
            refine bodyPost_ret (v := .tuple #[.agg #[.slice a D.length cap], .bool false]) (by simp [results, Tryz.results72, go_sem, hb0]) rfl ⟨.inl ⟨a, D.length, cap, rfl, HN.out⟩, HC5.out.ends _⟩
          | true =>
            obtain rfl := hfg rfl
            have HW : Hid (WordHere s k p x c5 k5) := by
              rcases HTE.out with ⟨_, h⟩ | ⟨e, _⟩
              · exact h
              · cases e
            have hx12 : x.size ≤ 12 := HW.out.is.2.1
            have hc1000 : c5 ≤ 1000 := HW.out.low
            clear hfg HTE
            go_wp2_with fail
            refine (putE_any w5 (w.heap.size + 1) (.slice a D.length cap) D E ⟨x, true, c5, 0⟩ rfl (by show x.size ≤ 2000; omega) (by show c5 ≤ 9999; omega) (HA.out.set_kept HR5.out.kp) HA.out.rp (by omega)).mono ?_
            rintro e w6 ⟨rfl, hto⟩
            obtain ⟨a6, cap6, D6, hA6⟩ := HA.out.step HW.out hk5 HLi.out HR5.out hto
            have HA6 : Hid (RwAt w w6 s (i + 1) k5 x a6 cap6 D6 (E ++ [⟨x, true, c5, 0⟩])) := hA6
            clear hto hA6
            go_wp2
            go_roundg (c - (i + 1))
            case measure => omega
            case rel => exact ⟨i + 1, k5, x, a6, cap6, D6, _, by omega, rfl, by go_num, rfl, HA6.out⟩
        · obtain rfl : i = c := by omega
          have hb1 := HA.out.cells.c1
          have hb0 := HA.out.cells.c0
          have hf0 := HA.out.cells.f0
          have HY : Hid _ := HA.out.yes h150 HLn.out (.slice a D.length cap)
          have HB : Hid _ := HA.out.cells.ends (.slice a D.length cap)
          go_wp2
          refine bodyPost_ret (v := .tuple #[.agg #[.slice a D.length cap], .bool true]) (by simp [results, Tryz.results72, go_sem, hb0]) rfl ⟨.inr ⟨a, cap, D, rfl, HY.out⟩, HB.out⟩
    · have t150 : (150 : Int) < (c : Int) := by omega
      have HN : Hid (LoadNo s) := head_many HCC.out (by omega)
      have hb1 := HC.out.c1
      have hb0 := HC.out.c0
      have hf0 := HC.out.f0
      go_wp2
      refine bodyPost_ret (v := .tuple #[.agg #[.slice none 0 0], .bool false]) (by simp [results, Tryz.results72, go_sem, hb0]) rfl ⟨.inl ⟨none, 0, 0, rfl, HN.out⟩, HC.out.ends _⟩


def ReadEnd (w w' : World) (s : ByteArray) (e : Ending) : Prop :=
  (∃ a n cap, e = .returned (.tuple #[.agg #[.slice a n cap], .bool false]) ∧ LoadNo s) ∨
  (∃ a cap D, e = .returned (.tuple #[.agg #[.slice a D.length cap], .bool true]) ∧ LoadYes s D ∧ w'.ownsRow w.heap.size 148 2 (.slice a D.length cap) D.length (pairCells D))

/-- a set that is copied into a new block. -/
theorem set_new {w : World} {B : Nat} {t t' : TypeId} {v : Value} {D : Dic} (h : w.ownsRow B t 2 v D.length (pairCells D)) : SetAt (w.alloc (.cells #[v] t')) t w.heap.size v D := by
  refine ⟨?_, ?_, ?_, fun k hk => ?_⟩
  · rw [World.cell?_alloc_at _ _ _ _ rfl]; rfl
  · rw [World.frozen?_alloc_at _ _ _ _ rfl]
  · exact own_raise (h.alloc _) (fun _ _ => Nat.zero_le _)
  · have := (h.lt k hk).2; omega

theorem set_new' {w : World} {B : Nat} {t t' : TypeId} {v : Value} {D : Dic} {b : Nat} (h : w.ownsRow B t 2 v D.length (pairCells D)) (hb : b = w.heap.size) : SetAt (w.alloc (.cells #[v] t')) t b v D := by subst hb; exact set_new h

theorem res_end {w w2 : World} (hb : Below w.heap.size w w2) (hlt : w.heap.size < w2.heap.size) (u : Value) : Below w.heap.size w (w2.setCell ⟨w.heap.size, 0, none⟩ u) :=
  hb.trans (((Kept.refl w2 (fun j => j = w.heap.size)).setCell ⟨w.heap.size, 0, none⟩ u (.inl rfl)).below (by omega) (fun j e => by omega))

set_option maxHeartbeats 4000000 in
set_option maxRecDepth 20000 in
theorem imagesRead_any (w : World) (s : ByteArray) (hs : s.size ≤ 1048576) :
    Calls Tryz.prog 39 #[.string s] w fun e w' => ReadEnd w w' s e ∧ Below w.heap.size w w' := by
  go_enter Tryz.func39, Tryz.ntmps39
  go_wp2_with fail
  obtain ⟨w1, hw1⟩ : ∃ w1, w1 = w.alloc (.cells #[.slice none 0 0] 90) := ⟨_, rfl⟩
  have hc0 : w1.cell? ⟨w.heap.size, 0, none⟩ = some (.slice none 0 0) := by rw [hw1, World.cell?_alloc_at _ _ _ _ rfl]; rfl
  have hf0 : w1.frozen? ⟨w.heap.size, 0, none⟩ = false := by rw [hw1, World.frozen?_alloc_at _ _ _ _ rfl]
  have hb1 : Below w.heap.size w w1 := by rw [hw1]; exact (Below.refl _ _).alloc (Nat.le_refl _) _
  have hz1 : w1.heap.size = w.heap.size + 1 := by rw [hw1]; simp
  rw [← hw1]
  clear hw1
  refine (readWords_any w1 s hs).mono ?_
  rintro e w2 ⟨hre, hb2⟩
  have hz2 := hb2.size
  have hc2 : w2.cell? ⟨w.heap.size, 0, none⟩ = some (.slice none 0 0) := (hb2.cell (p := ⟨w.heap.size, 0, none⟩) (show w.heap.size < _ by omega)).trans hc0
  have hf2 : w2.frozen? ⟨w.heap.size, 0, none⟩ = false := (hb2.frozen (p := ⟨w.heap.size, 0, none⟩) (show w.heap.size < _ by omega)).trans hf0
  have hB2 : Below w.heap.size w w2 := hb1.trans (hb2.mono (by omega))
  have hlt2 : w.heap.size < w2.heap.size := by omega
  clear hc0 hf0 hb1 hb2
  rcases hre with ⟨a, n, cap, rfl, hN⟩ | ⟨a, cap, D, rfl, hG, hI, hO⟩
  · have HN : Hid (LoadNo s) := hN
    have HB2 : Hid (Below w.heap.size w w2) := hB2
    clear hN hB2
    have hcx : ((w2.setCell ⟨w.heap.size, 0, none⟩ (.slice none 0 0)).alloc (.cells #[.slice a n cap] 90)).cell? ⟨w.heap.size, 0, none⟩ = some (.slice none 0 0) := by
      rw [World.cell?_alloc_past _ _ _ (by simp [World.setCell]; omega)]
      apply World.cell?_setCell_same; exact hc2
    go_wp2
    exact bodyPost_ret (v := .tuple #[.agg #[.slice none 0 0], .bool false]) (by simp [results, Tryz.results39, go_sem, hcx]) rfl ⟨.inl ⟨none, 0, 0, rfl, HN.out⟩, (res_end HB2.out hlt2 _).alloc (by simp [World.setCell]; omega) _⟩
  · have HG : Hid (GoodDic D) := hG
    have HI : Hid (imageL D ≠ s.toList → LoadNo s) := hI
    have HO : Hid (w2.ownsRow w1.heap.size 148 2 (.slice a D.length cap) D.length (pairCells D)) := hO
    have hS3 : SetAt (w2.alloc (.cells #[.slice a D.length cap] 90)) 148 w2.heap.size (.slice a D.length cap) D := set_new hO
    obtain ⟨w3, hw3⟩ : ∃ w3, w3 = w2.alloc (.cells #[.slice a D.length cap] 90) := ⟨_, rfl⟩
    have hb3 : Below w2.heap.size w2 w3 := by rw [hw3]; exact (Below.refl _ _).alloc (Nat.le_refl _) _
    have hz3 : w3.heap.size = w2.heap.size + 1 := by rw [hw3]; simp
    go_wp2_with fail
    rw [← hw3] at hS3 ⊢
    have HS3 : Hid (SetAt w3 148 w2.heap.size (.slice a D.length cap) D) := hS3
    clear hw3 hS3 hG hI hO
    refine (write_any w3 w2.heap.size (.slice a D.length cap) D HS3.out HG.out.1 (fun p hp => ⟨(HG.out.2.2 p hp).1.2.1, (HG.out.2.2 p hp).2⟩)).mono ?_
    rintro e w4 ⟨S, rfl, hS, hb4⟩
    have hz4 := hb4.size
    have hb34 : Below w2.heap.size w2 w4 := hb3.trans (hb4.mono (by omega))
    have hc4 : w4.cell? ⟨w.heap.size, 0, none⟩ = some (.slice none 0 0) := (hb34.cell (p := ⟨w.heap.size, 0, none⟩) hlt2).trans hc2
    have hf4 : w4.frozen? ⟨w.heap.size, 0, none⟩ = false := (hb34.frozen (p := ⟨w.heap.size, 0, none⟩) hlt2).trans hf2
    have hs4 : w4.cell? ⟨w2.heap.size, 0, none⟩ = some (.slice a D.length cap) := (hb4.cell (p := ⟨w2.heap.size, 0, none⟩) (show w2.heap.size < _ by omega)).trans HS3.out.cell
    have HO4 : Hid (w4.ownsRow w1.heap.size 148 2 (.slice a D.length cap) D.length (pairCells D)) := ownsRow_below' HO.out hb34
    have HB4 : Hid (Below w.heap.size w w4) := hB2.trans (hb34.mono (by omega))
    have hlt4 : w.heap.size < w4.heap.size := by omega
    have HS : Hid (S.toList = imageL D) := hS
    clear hb3 hb4 hb34 hB2 hS HS3 HO hc2 hf2
    by_cases hE : S.toList = s.toList
    · have ht : (S.toList == s.toList) = true := beq_iff_eq.2 hE
      have HY : Hid (LoadYes s D) := ⟨HG.out, by rw [← HS.out, hE]⟩
      have HO5 : Hid ((w4.setCell ⟨w.heap.size, 0, none⟩ (.slice a D.length cap)).ownsRow w.heap.size 148 2 (.slice a D.length cap) D.length (pairCells D)) :=
        Kept.row (own_raise HO4.out (fun j hj => by have := (HO4.out.lt j hj).1; omega)) ((Kept.refl w4 (fun j => j = w.heap.size)).setCell ⟨w.heap.size, 0, none⟩ _ (.inl rfl)) (fun j hj e => by have := (HO4.out.lt j hj).1; omega)
      clear hE
      go_wp2
      exact bodyPost_ret (v := .tuple #[.agg #[.slice a D.length cap], .bool true]) (by simp [results, Tryz.results39, go_sem, hc4]) rfl ⟨.inr ⟨a, cap, D, rfl, HY.out, HO5.out⟩, res_end HB4.out hlt4 _⟩
    · have ht : (S.toList == s.toList) = false := beq_eq_false_iff_ne.2 hE
      have HN : Hid (LoadNo s) := HI.out (by rw [← HS.out]; exact hE)
      clear hE
      go_wp2
      exact bodyPost_ret (v := .tuple #[.agg #[.slice none 0 0], .bool false]) (by simp [results, Tryz.results39, go_sem, hc4]) rfl ⟨.inl ⟨none, 0, 0, rfl, HN.out⟩, res_end HB4.out hlt4 _⟩

def LoadEnd (w w' : World) (s : ByteArray) (e : Ending) : Prop :=
  (e = .returned (.tuple #[.pointer none, .int .i64 5]) ∧ LoadNo s) ∨
  (∃ (b : Nat) (v : Value) (D : Dic), e = .returned (.tuple #[.pointer (some ⟨b, 0, none⟩), .int .i64 0]) ∧ LoadYes s D ∧ SetAt w' 148 b v D ∧ w.heap.size ≤ b ∧ ∀ k, v.ownBlock = some k → w.heap.size ≤ k)

set_option maxHeartbeats 4000000 in
set_option maxRecDepth 20000 in
theorem load_any (w : World) (s : ByteArray) (hs : s.size ≤ 1048576) :
    Calls Tryz.prog 20 #[.string s] w fun e w' => LoadEnd w w' s e ∧ Below w.heap.size w w' := by
  go_enter Tryz.func20, Tryz.ntmps20
  go_wp2_with fail
  refine (imagesRead_any w s hs).mono ?_
  rintro e w2 ⟨hre, hb2⟩
  have hz2 := hb2.size
  rcases hre with ⟨a, n, cap, rfl, hN⟩ | ⟨a, cap, D, rfl, hY, hO⟩
  · have HN : Hid (LoadNo s) := hN
    clear hN
    go_wp2
    go_ret2
    exact ⟨.inl ⟨rfl, HN.out⟩, hb2.alloc hz2 _⟩
  · have HY : Hid (LoadYes s D) := hY
    have HO : Hid (w2.ownsRow w.heap.size 148 2 (.slice a D.length cap) D.length (pairCells D)) := hO
    clear hY hO
    go_wp2
    go_ret2
    refine ⟨.inr ⟨_, .slice a D.length cap, D, rfl, HY.out, set_new' (HO.out.alloc _) (by first | rfl | (simp; done) | (trace_state; fail)), by first | omega | (simp; omega), fun k hk => (HO.out.lt k hk).1⟩, (hb2.alloc hz2 _).alloc (by simp; omega) _⟩

set_option maxHeartbeats 1000000 in
set_option maxRecDepth 20000 in
theorem dictImage_any (w : World) (b : Nat) (v : Value) (D : Dic) (hS : SetAt w 148 b v D) (hD : D.length ≤ 150) (hw : ∀ p ∈ D, p.1.size ≤ 12 ∧ p.2 ≤ 1000) :
    Calls Tryz.prog 59 #[.pointer (some ⟨b, 0, none⟩)] w fun e w' => ∃ S : ByteArray, e = .returned (.string S) ∧ S.toList = imageL D ∧ Below w.heap.size w w' := by
  have HS : Hid (SetAt w 148 b v D) := hS
  have HW : Hid (∀ p ∈ D, p.1.size ≤ 12 ∧ p.2 ≤ 1000) := hw
  clear hS hw
  go_enter Tryz.func59, Tryz.ntmps59
  go_wp2_with fail
  refine (write_any w b v D HS.out hD HW.out).mono ?_
  rintro e w1 ⟨S, rfl, hS, hb⟩
  have HI : Hid (S.toList = imageL D) := hS
  clear hS
  go_wp2
  go_ret
  exact ⟨S, rfl, HI.out, hb⟩

end Go.Proofs.YtlfpepehngkehaaGreat
