/-
  Walks: the program's reading of an image; Load and Image.
-/
import Derived.Test.YtlfpepehngkehaaDoorTakeA
import Derived.Test.YtlfpepehngkehaaDoorWriteB
namespace Go.Proofs.YtlfpepehngkehaaDoor
set_option linter.unusedSimpArgs false
set_option linter.unusedVariables false
open Go.RowKit

def WordEndW (w w' : World) (b : Nat) (s : ByteArray) (k : Nat) (ahead : ByteArray) (e : Ending) : Prop :=
  ∃ x c k' f g, e = .returned (.tuple #[.string x, .int .i64 ((c : Nat) : Int), .bool f]) ∧ TakeEnd s k ahead x c k' f ∧ k' ≤ s.size + 2 ∧ RdRes w w' b s k' g ∧ (f = true → g = false)

set_option maxHeartbeats 2000000 in
set_option maxRecDepth 20000 in
theorem takeWord_any (w : World) (b : Nat) (s : ByteArray) (k : Nat) (ahead : ByteArray) (ha : ahead.size ≤ 12) (hs : s.size ≤ 1048576) (hk : k ≤ s.size + 2) (hR : RdAt w b s k false) :
    Calls Tryd.prog 64 #[.pointer (some ⟨b, 0, none⟩), .string ahead] w fun e w' => WordEndW w w' b s k ahead e := by
  have HR : Hid (RdAt w b s k false) := hR
  clear hR
  go_enter Tryd.func64, Tryd.ntmps64
  go_wp2_with fail
  refine (takeByte_any w b s k false hs hk HR.out).mono ?_
  rintro e w1 ⟨n1, k1, f1, rfl, hT1, hr1, hk1⟩
  obtain ⟨hn1, hle1⟩ := hT1.le hk
  have HT1 : Hid (TB s k false n1 k1 f1) := hT1
  have HR1 : Hid (RdAt w1 b s k1 f1) := hr1
  have HK1 : Hid (Kept w w1 (fun j => j = b)) := hk1
  clear hT1 hr1 hk1 HR
  go_wp2_with fail
  refine (takeByte_any w1 b s k1 f1 hs hle1 HR1.out).mono ?_
  rintro e w2 ⟨n2, k2, f2, rfl, hT2, hr2, hk2⟩
  obtain ⟨hn2, hle2⟩ := hT2.le hle1
  have HT2 : Hid (TB s k1 f1 n2 k2 f2) := hT2
  have HR2 : Hid (RdAt w2 b s k2 f2) := hr2
  have HK2 : Hid (Kept w w2 (fun j => j = b)) := HK1.out.trans hk2 (fun _ e => .inl e)
  clear hT2 hr2 hk2 HR1 HK1
  go_wp2_with fail
  refine (takeText_any w2 b s k2 f2 n2 hn2 hs hle2 HR2.out).mono ?_
  rintro e w3 ⟨x, k3, f3, rfl, hT3, hr3, hk3⟩
  obtain ⟨hx3, hle3⟩ := hT3.le hle2
  have HT3 : Hid (TX s k2 f2 n2 x k3 f3) := hT3
  have HR3 : Hid (RdAt w3 b s k3 f3) := hr3
  have HK3 : Hid (Kept w w3 (fun j => j = b)) := HK2.out.trans hk3 (fun _ e => .inl e)
  clear hT3 hr3 hk3 HR2 HK2
  go_wp2_with fail
  refine (takeNumber_any w3 b s k3 f3 hs hle3 HR3.out).mono ?_
  rintro e w4 ⟨c, k4, f4, rfl, hT4, hr4, hk4⟩
  obtain ⟨hc4, hle4⟩ := hT4.le hle3
  have HT4 : Hid (TN s k3 f3 c k4 f4) := hT4
  have HR4 : Hid (RdRes w w4 b s k4 f4) := ⟨hr4, HK3.out.trans hk4 (fun _ e => .inl e)⟩
  have hc2 := hr4.c2
  clear hT4 hr4 hk4 HR3 HK3
  have zero : ((0 : Nat) : Int) = 0 := rfl
  cases f4 with
  | true =>
    have HB : Hid (∀ x c k', ¬ WordHere s k ahead x c k') := took_bad HT1.out HT2.out HT3.out HT4.out (.inl rfl)
    go_wp2
    go_ret3
    exact ⟨ByteArray.empty, 0, k4, false, true, rfl, .inr ⟨rfl, HB.out⟩, hle4, HR4.out, fun e => by cases e⟩
  | false =>
    by_cases h1 : n1 ≤ ahead.size
    · have t1 : ¬ (ahead.size : Int) < (n1 : Int) := by omega
      by_cases h2 : c ≤ 1000
      · have t2 : ¬ (1000 : Int) < (c : Int) := by omega
        obtain ⟨y, hy⟩ : ∃ y, y = ahead.extract 0 n1 ++ x := ⟨_, rfl⟩
        have hys : y.size ≤ 2000 := by rw [hy]; simp [ByteArray.size_append]; omega
        have HW : Hid (∀ f, (f = true ↔ IsWord y) → TakeEnd s k ahead y c k4 f) := fun f hf => by rw [hy] at hf ⊢; exact took_word HT1.out HT2.out HT3.out HT4.out h1 h2 hf
        go_wp2_with fail
        rw [← hy]
        refine (is_any y _ hys).mono ?_
        rintro e w5 ⟨⟨f, rfl, hf⟩, rfl⟩
        have HE : Hid (TakeEnd s k ahead y c k4 f) := HW.out f hf
        clear hf hy HW
        go_wp2
        go_ret3
        exact ⟨y, c, k4, f, false, rfl, HE.out, hle4, HR4.out, fun _ => rfl⟩
      · have t2 : (1000 : Int) < (c : Int) := by omega
        have HB : Hid (∀ x c k', ¬ WordHere s k ahead x c k') := took_bad HT1.out HT2.out HT3.out HT4.out (.inr (.inr (by omega)))
        go_wp2
        go_ret3
        exact ⟨ByteArray.empty, 0, k4, false, false, rfl, .inr ⟨rfl, HB.out⟩, hle4, HR4.out, fun e => by cases e⟩
    · have t1 : (ahead.size : Int) < (n1 : Int) := by omega
      have HB : Hid (∀ x c k', ¬ WordHere s k ahead x c k') := took_bad HT1.out HT2.out HT3.out HT4.out (.inr (.inl (by omega)))
      go_wp2
      go_ret3
      exact ⟨ByteArray.empty, 0, k4, false, false, rfl, .inr ⟨rfl, HB.out⟩, hle4, HR4.out, fun e => by cases e⟩

/-- how the loop of readWords stands: B: the first block of the call's own. -/
structure RwAt (w wr : World) (s : ByteArray) (i k : Nat) (p : ByteArray) (a : Option Addr) (cap : Nat) (D : Dic) (E : List Ent) : Prop where
  ps : p.size ≤ 12
  rs : Reads s i k p E
  es : ∀ x ∈ E, IsWord x.word ∧ x.cost ≤ 1000
  rp : Rep D E
  dl : D.length ≤ i
  kl : k ≤ s.size + 2
  st : SetAt wr 95 (w.heap.size + 1) (.slice a D.length cap) D
  ob : ∀ k, (Value.slice a D.length cap).ownBlock = some k → w.heap.size + 3 ≤ k
  rd : RdAt wr (w.heap.size + 2) s k false
  c0 : wr.cell? ⟨w.heap.size, 0, none⟩ = some (.slice none 0 0)
  f0 : wr.frozen? ⟨w.heap.size, 0, none⟩ = false
  bl : Below w.heap.size w wr

def RwLoop (w : World) (s : ByteArray) (n g : Nat) (av iv : Value) (wr : World) : Prop :=
  ∃ i k p a cap D E, i ≤ n ∧ g = n - i ∧ iv = .int .i64 ((i : Nat) : Int) ∧ av = .string p ∧ RwAt w wr s i k p a cap D E

def RwEnd (w w' : World) (s : ByteArray) (e : Ending) : Prop :=
  (∃ a n cap, e = .returned (.tuple #[.agg #[.slice a n cap], .bool false]) ∧ LoadNo s) ∨
  (∃ a cap D, e = .returned (.tuple #[.agg #[.slice a D.length cap], .bool true]) ∧ GoodDic D ∧ (imageL D ≠ s.toList → LoadNo s) ∧ w'.ownsRow w.heap.size 95 2 (.slice a D.length cap) D.length (pairCells D))

theorem set_slice {w : World} {t : TypeId} {b : Nat} {v : Value} {D : Dic} (h : SetAt w t b v D) : ∃ a cap, v = .slice a D.length cap := by
  obtain ⟨a, cap, e, _⟩ := row_form h.own
  exact ⟨a, cap, e⟩

theorem own_raise {w : World} {B B' : Nat} {t : TypeId} {sz n : Nat} {v : Value} {xs : List Value} (h : w.ownsRow B t sz v n xs) (hb : ∀ k, v.ownBlock = some k → B' ≤ k) : w.ownsRow B' t sz v n xs := by
  obtain ⟨h1, h2⟩ := h
  refine ⟨h1, ?_⟩
  rcases h2 with h2 | ⟨g, cap, cur, h3, h4, h5⟩
  · exact .inl h2
  · exact .inr ⟨g, cap, cur, h3, hb g (by rw [h3]; rfl), h5⟩

theorem head_no {s : ByteArray} (h : s.size < 4) : LoadNo s := fun D hD he => by have := (image_head hD he).1; omega
theorem head_many {s : ByteArray} {c : Nat} (hc : c = bt s 2 + 256 * bt s 3) (h : 150 < c) : LoadNo s := fun D hD he => by have := (image_head hD he).2; have := hD.1; omega

/-- the set has one word more. -/
theorem RwAt.step {w wr w1 w2 : World} {s : ByteArray} {i k k' : Nat} {p : ByteArray} {a : Option Addr} {cap : Nat} {D : Dic} {E : List Ent} {x : ByteArray} {c : Nat} (h : RwAt w wr s i k p a cap D E) (hw : WordHere s k p x c k') (hk' : k' ≤ s.size + 2)
    (hn : ∀ D, GoodDic D → imageL D = s.toList → i < D.length) (hr : RdRes wr w1 (w.heap.size + 2) s k' false) (ht : TookOne w1 w2 (w.heap.size + 1) (.slice a D.length cap) D (E ++ [⟨x, true, c, 0⟩])) :
    ∃ a' cap' D', RwAt w w2 s (i + 1) k' x a' cap' D' (E ++ [⟨x, true, c, 0⟩]) := by
  obtain ⟨D', hR', hl', v', hS', hK', ho'⟩ := ht
  obtain ⟨a', cap', rfl⟩ := set_slice hS'
  have hz0 : w.heap.size + 2 < wr.heap.size := cell_lt h.rd.c0
  have hz1 := hr.kp.size
  have hob : ∀ j, (Value.slice a D.length cap).ownBlock = some j → w.heap.size + 3 ≤ j := h.ob
  have hB1 : Below w.heap.size w w1 := h.bl.trans (hr.kp.below (by omega) (fun j e => by omega))
  have hB2 : Below w.heap.size w w2 := hB1.trans (hK'.below (by omega) (fun j e => by
    rcases e with e | e
    · omega
    · have := hob j e; omega))
  have ne : ∀ q, q < w.heap.size + 3 → q ≠ w.heap.size + 1 → ¬ (q = w.heap.size + 1 ∨ (Value.slice a D.length cap).ownBlock = some q) := fun q hq hq1 e => by
    rcases e with e | e
    · exact hq1 e
    · have := hob q e; omega
  refine ⟨a', cap', D', hw.is.2.1, reads_step h.rs hn hw, snoc_ents h.es ⟨hw.is, hw.low⟩, hR', by have := h.dl; omega, hk', hS', fun j hj => ?_, hr.rd.kept hK' (ne _ (by omega) (by omega)), ?_, ?_, hB2⟩
  · rcases ho' j hj with e | e
    · exact hob j e
    · omega
  · exact ((hK'.cell (p := ⟨w.heap.size, 0, none⟩) (show w.heap.size < w1.heap.size by omega) (ne w.heap.size (by omega) (by omega))).trans (hr.kp.cell (p := ⟨w.heap.size, 0, none⟩) (show w.heap.size < wr.heap.size by omega) (show ¬ w.heap.size = w.heap.size + 2 by omega))).trans h.c0
  · exact ((hK'.frozen (p := ⟨w.heap.size, 0, none⟩) (show w.heap.size < w1.heap.size by omega) (ne w.heap.size (by omega) (by omega))).trans (hr.kp.frozen (p := ⟨w.heap.size, 0, none⟩) (show w.heap.size < wr.heap.size by omega) (show ¬ w.heap.size = w.heap.size + 2 by omega))).trans h.f0

end Go.Proofs.YtlfpepehngkehaaDoor
