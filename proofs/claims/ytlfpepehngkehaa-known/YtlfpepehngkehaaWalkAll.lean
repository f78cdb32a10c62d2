import Derived.Test.YtlfpepehngkehaaWalkI
import Derived.Test.YtlfpepehngkehaaMaths
import Derived.Test.YtlfpepehngkehaaPrefix
import Derived.WalkKit
import Derived.WalkSpells
import Derived.WalkLawsBesides
import Derived.Deep.LoopGhost
import Derived.BigQuiet
import Derived.Deep.QuietTactic
import Derived.BigRegion
import Derived.Test.YtlfpepehngkehaaSetFind
import Derived.Test.YtlfpepehngkehaaCutAll
import Derived.Deep.RegionWith
import Derived.Deep.CutRange
import Derived.Deep.DeepCutAuto
import Derived.Test.YtlfpepehngkehaaWalkJ
/-
  A walk of the program: its stops (the boundaries with the kinds of the pieces that end there), and which of them it is at.
-/
namespace Go.Proofs.Ytlfpepehngkehaa
set_option linter.unusedSimpArgs false
set_option linter.unusedVariables false
open Go.RowKit

/-- the stops of a text that is cut into l, the first of them. -/
def StopsTo (D : Dic) (t : ByteArray) (l : List Nat) (K : List (Nat × Nat)) : Prop := K.length ≤ l.length ∧ ∀ j (h : j < K.length) (h' : j < l.length), K[j].1 = l[j] ∧ KindIs D t l l[j] (K[j].2 : Nat)

theorem StopsTo.nil (D : Dic) (t : ByteArray) (l : List Nat) : StopsTo D t l [] := ⟨Nat.zero_le _, fun j h => by simp at h⟩

theorem StopsTo.more {D : Dic} {t : ByteArray} {l : List Nat} {K : List (Nat × Nat)} (h : StopsTo D t l K) {m r : Nat} (hm : m = K.length) (hl : m < l.length) (hk : KindIs D t l l[m] (r : Nat)) : StopsTo D t l (K ++ [(l[m], r)]) := by
  subst hm
  refine ⟨by simp; omega, fun j hj hj' => ?_⟩
  simp at hj
  by_cases x : j < K.length
  · rw [List.getElem_append_left x]; exact h.2 j x hj'
  · obtain rfl : j = K.length := by omega
    simp
    exact hk

/-- which kind a piece has, by the piece alone. -/
noncomputable def kdp (D : Dic) (q : ByteArray) : Nat :=
  open Classical in
  if q.size = 0 then 0 else if sortC (bt q 0) = 100 then 1 else if sortC (bt q 0) = 98 then 2 else if sortC (bt q 0) = 111 then 0 else if ∃ p ∈ D, p.1 = q then 3 else 4

theorem kdp_le (D : Dic) (q : ByteArray) : kdp D q ≤ 4 := by
  unfold kdp
  repeat (split <;> try omega)

theorem kdp_kd {D : Dic} {t : ByteArray} {f a : Nat} (h : f < a) (ha : a ≤ t.size) : kd D t f a = (kdp D (t.extract f a) : Nat) := by
  have hz : (t.extract f a).size = a - f := by simp; omega
  have hb : bt (t.extract f a) 0 = bt t f := by
    have := bt_extract t f a 0 (by omega) ha
    simpa using this
  unfold kd kdp
  rw [hb, if_neg (show ¬ (t.extract f a).size = 0 by omega)]
  repeat' split
  all_goals first
    | rfl
    | omega

/-- the piece that ends at a boundary has this kind. -/
theorem kind_first {D : Dic} {t : ByteArray} {l : List Nat} (hb : Bounds l t.size) (h : 0 < l.length) : KindIs D t l l[0] (kdp D (t.extract 0 l[0]) : Nat) := by
  have h0 := bounds_first hb h
  rw [h0]
  refine .inl ⟨rfl, ?_⟩
  unfold kdp
  rw [if_pos (by simp)]
  rfl

theorem kind_next {D : Dic} {t : ByteArray} {l : List Nat} (hb : Bounds l t.size) {i : Nat} (hi : i + 1 < l.length) : KindIs D t l l[i + 1] (kdp D (t.extract (l[i]'(by omega)) l[i + 1]) : Nat) := by
  have hlt := bounds_mono hb (show i < l.length by omega) hi (by omega)
  have hle := hb.le _ (List.getElem_mem hi)
  rw [← kdp_kd hlt hle]
  rcases mv_kind (D := D) hb hi with ⟨_, h, _⟩ | ⟨h, _⟩
  · exact h
  · exact absurd rfl h

/-- where the piece that ends at the place m of the list begins. -/
def fromOf (l : List Nat) (m : Nat) : Nat := if m = 0 then 0 else l[m - 1]?.getD 0

theorem fromOf_zero (l : List Nat) : fromOf l 0 = 0 := rfl
theorem fromOf_succ {l : List Nat} {m : Nat} (h : m < l.length) : fromOf l (m + 1) = l[m] := by
  unfold fromOf
  rw [if_neg (by omega)]
  simp [h]

theorem fromOf_le {l : List Nat} {n : Nat} (hb : Bounds l n) {m : Nat} (h : m < l.length) : fromOf l m ≤ l[m] := by
  cases m with
  | zero => exact Nat.zero_le _
  | succ i =>
    rw [fromOf_succ (by omega)]
    exact Nat.le_of_lt (bounds_mono hb (show i < l.length by omega) h (by omega))

theorem kind_from {D : Dic} {t : ByteArray} {l : List Nat} (hb : Bounds l t.size) {m : Nat} (h : m < l.length) : KindIs D t l l[m] (kdp D (t.extract (fromOf l m) l[m]) : Nat) := by
  cases m with
  | zero => exact kind_first hb h
  | succ i =>
    rw [fromOf_succ (show i < l.length by omega)]
    exact kind_next hb h

/-! the walk -/
/-- the blocks that a walk reads. -/
def stopF (p : Nat) (pv : Value) (j : Nat) : Prop := j = p ∨ pv.ownBlock = some j

structure StAt (w : World) (p : Nat) (pv : Value) (K : List (Nat × Nat)) (i : Nat) : Prop where
  c0 : w.cell? ⟨p, 0, none⟩ = some pv
  c1 : w.cell? ⟨p, 1, none⟩ = some (.int .i64 i)
  fz : ∀ o, w.frozen? ⟨p, o, none⟩ = false
  row : w.ownsRow 0 130 2 pv K.length (hitCells K)
  lt : i < K.length
  np : pv.ownBlock ≠ some p

theorem StAt.kept {w w' : World} {p : Nat} {pv : Value} {K : List (Nat × Nat)} {i : Nat} {S : Nat → Prop} (h : StAt w p pv K i) (hk : Kept w w' S) (hS : ∀ j, stopF p pv j → ¬ S j) : StAt w' p pv K i := by
  have hp : p < w.heap.size := cell_lt h.c0
  have hSp : ¬ S p := hS p (.inl rfl)
  exact ⟨(hk.cell (p := ⟨p, 0, none⟩) hp hSp).trans h.c0, (hk.cell (p := ⟨p, 1, none⟩) hp hSp).trans h.c1,
    fun o => (hk.frozen (p := ⟨p, o, none⟩) hp hSp).trans (h.fz o), Kept.row h.row hk (fun k e => hS k (.inr e)), h.lt, h.np⟩

theorem StAt.same {w w' : World} {p : Nat} {pv : Value} {K : List (Nat × Nat)} {i : Nat} (h : StAt w p pv K i) (hk : Same w w') : StAt w' p pv K i := h.kept hk (fun _ _ e => e)

/-- the walk goes to another stop. -/
theorem StAt.go {w : World} {p : Nat} {pv : Value} {K : List (Nat × Nat)} {i : Nat} (h : StAt w p pv K i) {i' : Nat} (hi : i' < K.length) : StAt (w.setCell ⟨p, 1, none⟩ (.int .i64 i')) p pv K i' ∧ Kept w (w.setCell ⟨p, 1, none⟩ (.int .i64 i')) (fun j => j = p) := by
  have hk : Kept w (w.setCell ⟨p, 1, none⟩ (.int .i64 i')) (fun j => j = p) := (Kept.refl w _).setCell _ _ (.inl rfl)
  refine ⟨⟨(World.cell?_setCell_other _ _ _ _ (by simp)).trans h.c0, World.cell?_setCell_same _ _ _ h.c1, fun o => by simp [h.fz], Kept.row h.row hk (fun k e e2 => h.np (by rw [← e2]; exact e)), hi, h.np⟩, hk⟩

/-- the walk of a law: at the boundary a. -/
def StWalk (w : World) (p : Nat) (F : Nat → Prop) (D : Dic) (t : ByteArray) (l : List Nat) (a : Nat) : Prop :=
  ∃ pv K i, StAt w p pv K i ∧ F = stopF p pv ∧ StopsTo D t l K ∧ K.length = l.length ∧ (∃ h : i < l.length, l[i] = a) ∧ a ≤ t.size

/-- behind a call: the walk at the stop i'. -/
structure StRes (w w' : World) (p : Nat) (pv : Value) (K : List (Nat × Nat)) (i' : Nat) : Prop where
  st : StAt w' p pv K i'
  kp : Kept w w' (fun j => j = p)

theorem StRes.same {w w' w2 : World} {p : Nat} {pv : Value} {K : List (Nat × Nat)} {i : Nat} (h : StRes w w' p pv K i) (hs : Same w' w2) : StRes w w2 p pv K i := ⟨h.st.same hs, h.kp.trans hs (fun _ e => e.elim)⟩
theorem StRes.stay {w w' : World} {p : Nat} {pv : Value} {K : List (Nat × Nat)} {i : Nat} (h : StAt w p pv K i) (hs : Same w w') : StRes w w' p pv K i := ⟨h.same hs, Kept.mono hs (fun _ e => e.elim)⟩
theorem StRes.to {a w w' : World} {p : Nat} {pv : Value} {K : List (Nat × Nat)} {i : Nat} (ha : Kept a w (fun j => j = p)) (h : StRes w w' p pv K i) : StRes a w' p pv K i := ⟨h.st, ha.trans h.kp (fun _ e => .inl e)⟩
theorem StRes.to' {a w w' : World} {p : Nat} {pv : Value} {K : List (Nat × Nat)} {i : Nat} (ha : Same a w) (h : StRes w w' p pv K i) : StRes a w' p pv K i := h.to (Kept.mono ha (fun _ e => e.elim))

theorem StRes.got {w w' : World} {p : Nat} {D : Dic} {t : ByteArray} {l : List Nat} {pv : Value} {K : List (Nat × Nat)} {i' a : Nat} {kind k r : Int} (h : StRes w w' p pv K i') (hb : Bounds l t.size) (hS : StopsTo D t l K) (hl : K.length = l.length) (hm : ∀ h : i' < l.length, MoveIs D t l a kind k r l[i']) :
    MoveGot StWalk w w' p (stopF p pv) D t l a kind k (.returned (.int .i64 r)) := by
  have hi : i' < l.length := by have := h.st.lt; omega
  exact ⟨r, l[i'], rfl, hm hi, ⟨pv, K, i', h.st, rfl, hS, hl, ⟨hi, rfl⟩, hb.le _ (List.getElem_mem hi)⟩, h.kp⟩

theorem StRes.gotIs {w w' : World} {p : Nat} {D : Dic} {t : ByteArray} {l : List Nat} {pv : Value} {K : List (Nat × Nat)} {i' a : Nat} {k : Int} {y : Bool} (h : StRes w w' p pv K i') (hb : Bounds l t.size) (hS : StopsTo D t l K) (hl : K.length = l.length) (hm : ∀ h : i' < l.length, MoveIs D t l a 7 k (if y then 1 else 0) l[i']) :
    IsGot StWalk w w' p (stopF p pv) D t l a k (.returned (.bool y)) := by
  have hi : i' < l.length := by have := h.st.lt; omega
  exact ⟨y, l[i'], rfl, hm hi, ⟨pv, K, i', h.st, rfl, hS, hl, ⟨hi, rfl⟩, hb.le _ (List.getElem_mem hi)⟩, h.kp⟩

end Go.Proofs.Ytlfpepehngkehaa
/-
  Walks: the program's inner calls: here, visit, below, upTo.
-/
namespace Go.Proofs.Ytlfpepehngkehaa
set_option linter.unusedSimpArgs false
set_option linter.unusedVariables false
open Go.RowKit

set_option maxHeartbeats 1000000 in
set_option maxRecDepth 20000 in
theorem here_any (w : World) (p : Nat) (pv : Value) (K : List (Nat × Nat)) (i : Nat) (h : StAt w p pv K i) (hl : K.length ≤ 501) :
    Calls Try.prog 80 #[.pointer (some ⟨p, 0, none⟩)] w fun e w' => e = .returned (.agg #[.int .i64 (K[i]'h.lt).1, .int .i64 (K[i]'h.lt).2]) ∧ Same w w' := by
  have hlt := h.lt
  obtain ⟨a, c, rfl, hg⟩ := row_form h.row
  obtain ⟨g, rfl⟩ := hg (by omega)
  obtain ⟨hc0, hc1⟩ := own_hit h.row rfl hlt
  obtain ⟨x, hx⟩ : ∃ x, x = (K[i]'h.lt).1 := ⟨_, rfl⟩
  obtain ⟨y, hy⟩ : ∃ y, y = (K[i]'h.lt).2 := ⟨_, rfl⟩
  rw [← hx, ← hy]
  rw [← hx] at hc0
  rw [← hy] at hc1
  have c0 := h.c0
  have c1 := h.c1
  have hi' : (i : Int) < (K.length : Int) := by omega
  have hi2 : ¬ (K.length : Int) ≤ (i : Int) := by omega
  have hi3 : decide ((K.length : Int) ≤ (i : Int)) = false := decide_eq_false hi2
  have hi0 : ¬ (i : Int) < 0 := by omega
  have hpz := cell_lt c0
  have hgz := cell_lt hc0
  clear h hx hy
  go_enter Try.func80, Try.ntmps80
  go_wp2_with fail
  go_quiet (fail)
  go_wp2_with fail
  go_region
  all_goals
    go_wp2
    refine bodyPost_ret (v := .agg #[.int .i64 x, .int .i64 y]) (by simp [results, Try.results80, go_sem]) rfl ⟨rfl, ?_⟩
    exact (((Kept.alloc (Same.refl w) _).drewN _).setCell _ _ (.inr (Nat.le_refl _))).setCell _ _ (.inr (Nat.le_refl _))

set_option maxHeartbeats 1000000 in
set_option maxRecDepth 20000 in
theorem visit_no (w : World) (p : Nat) (pv : Value) (K : List (Nat × Nat)) (i : Nat) (n : Int) (h : StAt w p pv K i) (hl : K.length ≤ 501) (hn : n < 0 ∨ (K.length : Int) ≤ n) :
    Calls Try.prog 81 #[.pointer (some ⟨p, 0, none⟩), .int .i64 n] w fun e w' => e = .returned (.int .i64 (-1)) ∧ Same w w' := by
  obtain ⟨a, c, rfl, -⟩ := row_form h.row
  have c0 := h.c0
  clear h
  by_cases hn0 : n < 0
  · go_enter Try.func81, Try.ntmps81
    go_wp2
    go_ret
    exact ⟨rfl, Same.refl _⟩
  · have hn1 : (K.length : Int) ≤ n := by omega
    clear hn
    go_enter Try.func81, Try.ntmps81
    go_wp2
    go_ret
    exact ⟨rfl, Same.refl _⟩

set_option maxHeartbeats 1000000 in
set_option maxRecDepth 20000 in
theorem visit_any (w : World) (p : Nat) (pv : Value) (K : List (Nat × Nat)) (i j : Nat) (h : StAt w p pv K i) (hl : K.length ≤ 501) (hj : j < K.length) :
    Calls Try.prog 81 #[.pointer (some ⟨p, 0, none⟩), .int .i64 j] w fun e w' => e = .returned (.int .i64 K[j].1) ∧ StRes w w' p pv K j := by
  obtain ⟨a, c, rfl, hg⟩ := row_form h.row
  obtain ⟨g, rfl⟩ := hg (by omega)
  obtain ⟨hgo, hkp⟩ := h.go hj
  have HR : Hid (StRes w (w.setCell ⟨p, 1, none⟩ (.int .i64 j)) p (.slice (some ⟨g, 0, none⟩) K.length c) K j) := ⟨hgo, hkp⟩
  obtain ⟨hc0, -⟩ := own_hit h.row rfl hj
  have hgp : ¬ g = p := fun e => h.np (by rw [e]; rfl)
  obtain ⟨x, hx⟩ : ∃ x, x = K[j].1 := ⟨_, rfl⟩
  rw [← hx]
  rw [← hx] at hc0
  have c0 := h.c0
  have c1 := h.c1
  have fz := h.fz 1
  have hi' : (j : Int) < (K.length : Int) := by omega
  have hi2 : ¬ (K.length : Int) ≤ (j : Int) := by omega
  have hi0 : ¬ (j : Int) < 0 := by omega
  clear h hx hgo hkp
  go_enter Try.func81, Try.ntmps81
  go_wp2_with fail
  go_ret
  exact ⟨rfl, HR.out⟩

/-- so many stops are below k. -/
def BelowN (K : List (Nat × Nat)) (k : Int) (c : Nat) : Prop := c ≤ K.length ∧ (∀ j (h : j < K.length), j < c → (K[j].1 : Int) < k) ∧ ∀ h : c < K.length, k ≤ (K[c].1 : Int)
/-- so many stops are not above k. -/
def UpToN (K : List (Nat × Nat)) (k : Int) (c : Nat) : Prop := c ≤ K.length ∧ (∀ j (h : j < K.length), j < c → (K[j].1 : Int) ≤ k) ∧ ∀ h : c < K.length, k < (K[c].1 : Int)

def BelRel (K : List (Nat × Nat)) (k : Int) (w : World) (g : Nat) (v : Value) (wr : World) : Prop := ∃ c : Nat, g = K.length - c ∧ c ≤ K.length ∧ v = .int .i64 c ∧ (∀ j (h : j < K.length), j < c → (K[j].1 : Int) < k) ∧ Same w wr
def UpRel (K : List (Nat × Nat)) (k : Int) (w : World) (g : Nat) (v : Value) (wr : World) : Prop := ∃ c : Nat, g = K.length - c ∧ c ≤ K.length ∧ v = .int .i64 c ∧ (∀ j (h : j < K.length), j < c → (K[j].1 : Int) ≤ k) ∧ Same w wr

theorem BelRel.num {K : List (Nat × Nat)} {k : Int} {w wr : World} {g : Nat} {v z : Value} (h : BelRel K k w g v wr) (e : z = v) : BelRel K k w g z wr := by rw [e]; exact h
theorem UpRel.num {K : List (Nat × Nat)} {k : Int} {w wr : World} {g : Nat} {v z : Value} (h : UpRel K k w g v wr) (e : z = v) : UpRel K k w g z wr := by rw [e]; exact h

theorem below_more {K : List (Nat × Nat)} {k : Int} {c : Nat} (h : ∀ j (h : j < K.length), j < c → (K[j].1 : Int) < k) (hc : c < K.length) (hk : (K[c].1 : Int) < k) : ∀ j (h : j < K.length), j < c + 1 → (K[j].1 : Int) < k := by
  intro j hj hlt
  by_cases x : j = c
  · subst x; exact hk
  · exact h j hj (by omega)
theorem upTo_more {K : List (Nat × Nat)} {k : Int} {c : Nat} (h : ∀ j (h : j < K.length), j < c → (K[j].1 : Int) ≤ k) (hc : c < K.length) (hk : (K[c].1 : Int) ≤ k) : ∀ j (h : j < K.length), j < c + 1 → (K[j].1 : Int) ≤ k := by
  intro j hj hlt
  by_cases x : j = c
  · subst x; exact hk
  · exact h j hj (by omega)

set_option maxHeartbeats 2000000 in
set_option maxRecDepth 20000 in
theorem belowS_any (w : World) (p : Nat) (pv : Value) (K : List (Nat × Nat)) (i : Nat) (k : Int) (h : StAt w p pv K i) (hl : K.length ≤ 501) :
    Calls Try.prog 83 #[.pointer (some ⟨p, 0, none⟩), .int .i64 k] w fun e w' => (∃ c : Nat, e = .returned (.int .i64 c) ∧ BelowN K k c) ∧ Same w w' := by
  have hlt := h.lt
  obtain ⟨a, c, rfl, hg⟩ := row_form h.row
  obtain ⟨g, rfl⟩ := hg (by omega)
  have HST : Hid (StAt w p (.slice (some ⟨g, 0, none⟩) K.length c) K i) := h
  clear h
  go_enter Try.func83, Try.ntmps83
  go_wp2_with fail
  go_loopg [5] K.length (fun g v wr => BelRel K k w g v wr)
  case atStart => exact ⟨0, rfl, Nat.zero_le _, rfl, fun j _ h => by omega, Same.refl _⟩
  case round =>
    obtain ⟨m, rfl, hm, rfl, hall, hsm⟩ := hrel
    have HA : Hid (∀ j (h : j < K.length), j < m → (K[j].1 : Int) < k) := hall
    have HS : Hid (Same w wr) := hsm
    have hst := HST.out.same hsm
    have c0 := hst.c0
    clear hall
    by_cases hml : m < K.length
    · have hml' : (m : Int) < (K.length : Int) := by omega
      obtain ⟨hc0, -⟩ := own_hit hst.row rfl hml
      clear hst hsm
      by_cases hk : (K[m].1 : Int) < k
      · have HN : Hid (BelRel K k w (K.length - (m + 1)) (.int .i64 ((m + 1 : Nat) : Int)) wr) := ⟨m + 1, rfl, hml, rfl, below_more HA.out hml hk, HS.out⟩
        obtain ⟨x, hx⟩ : ∃ x, x = K[m].1 := ⟨_, rfl⟩
        rw [← hx] at hc0 hk
        clear hx
        go_wp2
        go_roundg (K.length - (m + 1))
        case measure => omega
        case rel => exact HN.out.num (by go_num)
      · have HE : Hid (BelowN K k m) := ⟨hm, HA.out, fun _ => by omega⟩
        obtain ⟨x, hx⟩ : ∃ x, x = K[m].1 := ⟨_, rfl⟩
        rw [← hx] at hc0 hk
        clear hx
        go_wp2
        go_ret
        exact ⟨⟨m, rfl, HE.out⟩, HS.out⟩
    · have hml' : ¬ (m : Int) < (K.length : Int) := by omega
      have HE : Hid (BelowN K k m) := ⟨hm, HA.out, fun h => absurd h hml⟩
      clear hst hsm
      go_wp2
      go_ret
      exact ⟨⟨m, rfl, HE.out⟩, HS.out⟩

set_option maxHeartbeats 2000000 in
set_option maxRecDepth 20000 in
theorem upToS_any (w : World) (p : Nat) (pv : Value) (K : List (Nat × Nat)) (i : Nat) (k : Int) (h : StAt w p pv K i) (hl : K.length ≤ 501) :
    Calls Try.prog 82 #[.pointer (some ⟨p, 0, none⟩), .int .i64 k] w fun e w' => (∃ c : Nat, e = .returned (.int .i64 c) ∧ UpToN K k c) ∧ Same w w' := by
  have hlt := h.lt
  obtain ⟨a, c, rfl, hg⟩ := row_form h.row
  obtain ⟨g, rfl⟩ := hg (by omega)
  have HST : Hid (StAt w p (.slice (some ⟨g, 0, none⟩) K.length c) K i) := h
  clear h
  go_enter Try.func82, Try.ntmps82
  go_wp2_with fail
  go_loopg [5] K.length (fun g v wr => UpRel K k w g v wr)
  case atStart => exact ⟨0, rfl, Nat.zero_le _, rfl, fun j _ h => by omega, Same.refl _⟩
  case round =>
    obtain ⟨m, rfl, hm, rfl, hall, hsm⟩ := hrel
    have HA : Hid (∀ j (h : j < K.length), j < m → (K[j].1 : Int) ≤ k) := hall
    have HS : Hid (Same w wr) := hsm
    have hst := HST.out.same hsm
    have c0 := hst.c0
    clear hall
    by_cases hml : m < K.length
    · have hml' : (m : Int) < (K.length : Int) := by omega
      obtain ⟨hc0, -⟩ := own_hit hst.row rfl hml
      clear hst hsm
      by_cases hk : (K[m].1 : Int) ≤ k
      · have HN : Hid (UpRel K k w (K.length - (m + 1)) (.int .i64 ((m + 1 : Nat) : Int)) wr) := ⟨m + 1, rfl, hml, rfl, upTo_more HA.out hml hk, HS.out⟩
        obtain ⟨x, hx⟩ : ∃ x, x = K[m].1 := ⟨_, rfl⟩
        rw [← hx] at hc0 hk
        clear hx
        go_wp2
        go_roundg (K.length - (m + 1))
        case measure => omega
        case rel => exact HN.out.num (by go_num)
      · have HE : Hid (UpToN K k m) := ⟨hm, HA.out, fun _ => by omega⟩
        obtain ⟨x, hx⟩ : ∃ x, x = K[m].1 := ⟨_, rfl⟩
        rw [← hx] at hc0 hk
        clear hx
        go_wp2
        go_ret
        exact ⟨⟨m, rfl, HE.out⟩, HS.out⟩
    · have hml' : ¬ (m : Int) < (K.length : Int) := by omega
      have HE : Hid (UpToN K k m) := ⟨hm, HA.out, fun h => absurd h hml⟩
      clear hst hsm
      go_wp2
      go_ret
      exact ⟨⟨m, rfl, HE.out⟩, HS.out⟩

end Go.Proofs.Ytlfpepehngkehaa
/-
  Walks: the program's walks: the calls that go from boundary to boundary.
-/
namespace Go.Proofs.Ytlfpepehngkehaa
set_option linter.unusedSimpArgs false
set_option linter.unusedVariables false
open Go.RowKit

/-! what the program's steps answer, by its stops -/
theorem stops_fst {D : Dic} {t : ByteArray} {l : List Nat} {K : List (Nat × Nat)} (hS : StopsTo D t l K) {j : Nat} (hj : j < K.length) (hj' : j < l.length) : K[j].1 = l[j] := (hS.2 j hj hj').1

set_option maxHeartbeats 1000000 in
set_option maxRecDepth 20000 in
theorem placeS_any (w : World) (p : Nat) (pv : Value) (K : List (Nat × Nat)) (i : Nat) (h : StAt w p pv K i) (hl : K.length ≤ 501) :
    Calls Try.prog 53 #[.pointer (some ⟨p, 0, none⟩)] w fun e w' => e = .returned (.int .i64 (K[i]'h.lt).1) ∧ StRes w w' p pv K i := by
  have HH := here_any w p pv K i h hl
  have HS : Hid (∀ w', Same w w' → StRes w w' p pv K i) := fun w' hs => .stay h hs
  obtain ⟨x, hx⟩ : ∃ x, x = (K[i]'h.lt).1 := ⟨_, rfl⟩
  obtain ⟨y, hy⟩ : ∃ y, y = (K[i]'h.lt).2 := ⟨_, rfl⟩
  rw [← hx]
  rw [← hx, ← hy] at HH
  have HC : Hid (Calls Try.prog 80 #[.pointer (some ⟨p, 0, none⟩)] w fun e w' => e = .returned (.agg #[.int .i64 x, .int .i64 y]) ∧ Same w w') := HH
  clear h hx hy HH
  have hfd : ∀ w : World, (Instr.field 130 (.agg #[.int .i64 x, .int .i64 y]) 0).run Try.prog w = .ok (.int .i64 x) w := fun _ => by kernel_rfl
  go_enter Try.func53, Try.ntmps53
  go_wp2_with fail
  refine HC.out.mono ?_
  rintro e w' ⟨rfl, hs⟩
  have HE := HS.out w' hs
  clear hs HC HS
  go_wp2
  go_ret
  exact ⟨rfl, HE⟩

def VisitEnd (w w' : World) (p : Nat) (pv : Value) (K : List (Nat × Nat)) (i : Nat) (n : Int) (e : Ending) : Prop :=
  (∃ (j : Nat) (h : j < K.length), n = (j : Int) ∧ e = .returned (.int .i64 K[j].1) ∧ StRes w w' p pv K j) ∨ ((n < 0 ∨ (K.length : Int) ≤ n) ∧ e = .returned (.int .i64 (-1)) ∧ StRes w w' p pv K i)

theorem visit_all (w : World) (p : Nat) (pv : Value) (K : List (Nat × Nat)) (i : Nat) (n : Int) (h : StAt w p pv K i) (hl : K.length ≤ 501) :
    Calls Try.prog 81 #[.pointer (some ⟨p, 0, none⟩), .int .i64 n] w fun e w' => VisitEnd w w' p pv K i n e := by
  by_cases hn : n < 0 ∨ (K.length : Int) ≤ n
  · refine (visit_no w p pv K i n h hl hn).mono ?_
    rintro e w' ⟨rfl, hs⟩
    exact .inr ⟨hn, rfl, .stay h hs⟩
  · obtain ⟨j, rfl⟩ : ∃ j : Nat, n = (j : Int) := ⟨n.toNat, by omega⟩
    refine (visit_any w p pv K i j h hl (by omega)).mono ?_
    rintro e w' ⟨rfl, hs⟩
    exact .inl ⟨j, by omega, rfl, rfl, hs⟩

set_option maxHeartbeats 1000000 in
set_option maxRecDepth 20000 in
theorem nextS_any (w : World) (p : Nat) (pv : Value) (K : List (Nat × Nat)) (i : Nat) (h : StAt w p pv K i) (hl : K.length ≤ 501) :
    Calls Try.prog 50 #[.pointer (some ⟨p, 0, none⟩)] w fun e w' => VisitEnd w w' p pv K i ((i + 1 : Nat) : Int) e := by
  have hlt := h.lt
  have HC : Hid (Calls Try.prog 81 #[.pointer (some ⟨p, 0, none⟩), .int .i64 ((i + 1 : Nat) : Int)] w fun e w' => VisitEnd w w' p pv K i ((i + 1 : Nat) : Int) e) := visit_all w p pv K i _ h hl
  have c1 := h.c1
  obtain ⟨q, hq⟩ : ∃ q, q = i + 1 := ⟨_, rfl⟩
  rw [← hq] at HC ⊢
  have hq1 : (i : Int) + 1 = (q : Int) := by omega
  have hwq : IntKind.i64.wrap (q : Int) = (q : Int) := by rw [IntKind.wrap_i64]; omega
  clear h hq
  go_enter Try.func50, Try.ntmps50
  go_wp2_with fail
  refine HC.out.mono ?_
  intro e w' hE
  have HE : Hid (VisitEnd w w' p pv K i q e) := hE
  obtain ⟨r, rfl⟩ : ∃ r : Int, e = .returned (.int .i64 r) := by
    rcases hE with ⟨j, _, _, rfl, _⟩ | ⟨_, rfl, _⟩ <;> exact ⟨_, rfl⟩
  clear hE HC
  go_wp2
  go_ret
  exact HE.out

set_option maxHeartbeats 1000000 in
set_option maxRecDepth 20000 in
theorem previousS_any (w : World) (p : Nat) (pv : Value) (K : List (Nat × Nat)) (i : Nat) (h : StAt w p pv K i) (hl : K.length ≤ 501) :
    Calls Try.prog 51 #[.pointer (some ⟨p, 0, none⟩)] w fun e w' => VisitEnd w w' p pv K i ((i : Int) - 1) e := by
  have hlt := h.lt
  have HC : Hid (Calls Try.prog 81 #[.pointer (some ⟨p, 0, none⟩), .int .i64 ((i : Int) - 1)] w fun e w' => VisitEnd w w' p pv K i ((i : Int) - 1) e) := visit_all w p pv K i _ h hl
  have c1 := h.c1
  have hwq : IntKind.i64.wrap ((i : Int) - 1) = (i : Int) - 1 := by rw [IntKind.wrap_i64]; omega
  clear h
  go_enter Try.func51, Try.ntmps51
  go_wp2_with fail
  refine HC.out.mono ?_
  intro e w' hE
  have HE : Hid (VisitEnd w w' p pv K i ((i : Int) - 1) e) := hE
  obtain ⟨r, rfl⟩ : ∃ r : Int, e = .returned (.int .i64 r) := by
    rcases hE with ⟨j, _, _, rfl, _⟩ | ⟨_, rfl, _⟩ <;> exact ⟨_, rfl⟩
  clear hE HC
  go_wp2
  go_ret
  exact HE.out

set_option maxHeartbeats 1000000 in
set_option maxRecDepth 20000 in
theorem firstS_any (w : World) (p : Nat) (pv : Value) (K : List (Nat × Nat)) (i : Nat) (h : StAt w p pv K i) (hl : K.length ≤ 501) :
    Calls Try.prog 74 #[.pointer (some ⟨p, 0, none⟩)] w fun e w' => e = .returned (.int .i64 (K[0]'(by have := h.lt; omega)).1) ∧ StRes w w' p pv K 0 := by
  have hlt := h.lt
  have hc := visit_any w p pv K i 0 h hl (by omega)
  obtain ⟨x, hx⟩ : ∃ x, x = (K[0]'(by omega)).1 := ⟨_, rfl⟩
  rw [← hx] at hc ⊢
  have HC : Hid (Calls Try.prog 81 #[.pointer (some ⟨p, 0, none⟩), .int .i64 0] w fun e w' => e = .returned (.int .i64 x) ∧ StRes w w' p pv K 0) := hc
  clear h hx hc
  go_enter Try.func74, Try.ntmps74
  go_wp2_with fail
  refine HC.out.mono ?_
  rintro e w' ⟨rfl, hE⟩
  have HE : Hid (StRes w w' p pv K 0) := hE
  clear hE HC
  go_wp2
  go_ret
  exact ⟨rfl, HE.out⟩

set_option maxHeartbeats 1000000 in
set_option maxRecDepth 20000 in
theorem lastS_any (w : World) (p : Nat) (pv : Value) (K : List (Nat × Nat)) (i : Nat) (h : StAt w p pv K i) (hl : K.length ≤ 501) :
    Calls Try.prog 75 #[.pointer (some ⟨p, 0, none⟩)] w fun e w' => e = .returned (.int .i64 (K[K.length - 1]'(by have := h.lt; omega)).1) ∧ StRes w w' p pv K (K.length - 1) := by
  have hlt := h.lt
  have hc := visit_any w p pv K i (K.length - 1) h hl (by omega)
  obtain ⟨x, hx⟩ : ∃ x, x = (K[K.length - 1]'(by omega)).1 := ⟨_, rfl⟩
  rw [← hx] at hc ⊢
  obtain ⟨m, hm⟩ : ∃ m, m = K.length - 1 := ⟨_, rfl⟩
  rw [← hm] at hc ⊢
  have HC : Hid (Calls Try.prog 81 #[.pointer (some ⟨p, 0, none⟩), .int .i64 (m : Int)] w fun e w' => e = .returned (.int .i64 x) ∧ StRes w w' p pv K m) := hc
  obtain ⟨a, c, rfl, -⟩ := row_form h.row
  have c0 := h.c0
  have hm1 : (K.length : Int) - 1 = (m : Int) := by omega
  have hwm : IntKind.i64.wrap (m : Int) = (m : Int) := by rw [IntKind.wrap_i64]; omega
  clear h hx hc hm
  go_enter Try.func75, Try.ntmps75
  go_wp2_with fail
  refine HC.out.mono ?_
  rintro e w' ⟨rfl, hE⟩
  have HE : Hid (StRes w w' p (.slice a K.length c) K m) := hE
  clear hE HC
  go_wp2
  go_ret
  exact ⟨rfl, HE.out⟩

/-- how Following ends. -/
def FolEnd (w w' : World) (p : Nat) (pv : Value) (K : List (Nat × Nat)) (k : Int) (e : Ending) : Prop := ∃ c : Nat, UpToN K k c ∧
  ((∃ h : c < K.length, e = .returned (.int .i64 K[c].1) ∧ StRes w w' p pv K c) ∨ (c = K.length ∧ e = .returned (.int .i64 (-1)) ∧ StRes w w' p pv K (K.length - 1)))

set_option maxHeartbeats 1000000 in
set_option maxRecDepth 20000 in
theorem followingS_any (w : World) (p : Nat) (pv : Value) (K : List (Nat × Nat)) (i : Nat) (k : Int) (h : StAt w p pv K i) (hl : K.length ≤ 501) :
    Calls Try.prog 52 #[.pointer (some ⟨p, 0, none⟩), .int .i64 k] w fun e w' => FolEnd w w' p pv K k e := by
  obtain ⟨a, ca, rfl, -⟩ := row_form h.row
  have HST : Hid (StAt w p (.slice a K.length ca) K i) := h
  have HU : Hid (Calls Try.prog 82 #[.pointer (some ⟨p, 0, none⟩), .int .i64 k] w fun e w' => (∃ c : Nat, e = .returned (.int .i64 c) ∧ UpToN K k c) ∧ Same w w') := upToS_any w p _ K i k h hl
  clear h
  go_enter Try.func52, Try.ntmps52
  go_wp2_with fail
  refine HU.out.mono ?_
  rintro e w1 ⟨⟨c, rfl, hc⟩, hs⟩
  have hcl := hc.1
  have HC : Hid (UpToN K k c) := hc
  have HS : Hid (Same w w1) := hs
  have hst := HST.out.same hs
  have c0 := hst.c0
  by_cases hlt : c < K.length
  · have ht : ¬ (K.length : Int) ≤ (c : Int) := by omega
    have hv := visit_any w1 p _ K i c hst hl hlt
    have HE : Hid (∀ w', StRes w1 w' p (.slice a K.length ca) K c → FolEnd w w' p (.slice a K.length ca) K k (.returned (.int .i64 K[c].1))) := fun w' hr => ⟨c, HC.out, .inl ⟨hlt, rfl, hr.to' HS.out⟩⟩
    obtain ⟨x, hx⟩ : ∃ x, x = K[c].1 := ⟨_, rfl⟩
    rw [← hx] at hv HE
    have HV : Hid (Calls Try.prog 81 #[.pointer (some ⟨p, 0, none⟩), .int .i64 (c : Int)] w1 fun e w' => e = .returned (.int .i64 x) ∧ StRes w1 w' p (.slice a K.length ca) K c) := hv
    clear hv hx hc hs hst HU
    go_wp2_with fail
    refine HV.out.mono ?_
    rintro e w' ⟨rfl, hr⟩
    have HF := HE.out w' hr
    clear hr HE HV
    go_wp2
    go_ret
    exact HF
  · have ht : (K.length : Int) ≤ (c : Int) := by omega
    have hv := lastS_any w1 p _ K i hst hl
    have hlt0 := hst.lt
    have HE : Hid (∀ w', StRes w1 w' p (.slice a K.length ca) K (K.length - 1) → FolEnd w w' p (.slice a K.length ca) K k (.returned (.int .i64 (-1)))) := fun w' hr => ⟨c, HC.out, .inr ⟨by omega, rfl, hr.to' HS.out⟩⟩
    obtain ⟨x, hx⟩ : ∃ x, x = (K[K.length - 1]'(by omega)).1 := ⟨_, rfl⟩
    rw [← hx] at hv
    have HV : Hid (Calls Try.prog 75 #[.pointer (some ⟨p, 0, none⟩)] w1 fun e w' => e = .returned (.int .i64 x) ∧ StRes w1 w' p (.slice a K.length ca) K (K.length - 1)) := hv
    clear hv hx hc hs hst HU
    go_wp2_with fail
    refine HV.out.mono ?_
    rintro e w' ⟨rfl, hr⟩
    have HF := HE.out w' hr
    clear hr HE HV
    go_wp2
    go_ret
    exact HF

/-- how Preceding ends. -/
def PreEnd (w w' : World) (p : Nat) (pv : Value) (K : List (Nat × Nat)) (k : Int) (e : Ending) : Prop := ∃ c : Nat, BelowN K k c ∧
  ((∃ (m : Nat) (h : m < K.length), c = m + 1 ∧ e = .returned (.int .i64 K[m].1) ∧ StRes w w' p pv K m) ∨ (c = 0 ∧ e = .returned (.int .i64 (-1)) ∧ StRes w w' p pv K 0))

set_option maxHeartbeats 1000000 in
set_option maxRecDepth 20000 in
theorem precedingS_any (w : World) (p : Nat) (pv : Value) (K : List (Nat × Nat)) (i : Nat) (k : Int) (h : StAt w p pv K i) (hl : K.length ≤ 501) :
    Calls Try.prog 54 #[.pointer (some ⟨p, 0, none⟩), .int .i64 k] w fun e w' => PreEnd w w' p pv K k e := by
  have HST : Hid (StAt w p pv K i) := h
  have HU : Hid (Calls Try.prog 83 #[.pointer (some ⟨p, 0, none⟩), .int .i64 k] w fun e w' => (∃ c : Nat, e = .returned (.int .i64 c) ∧ BelowN K k c) ∧ Same w w') := belowS_any w p _ K i k h hl
  clear h
  go_enter Try.func54, Try.ntmps54
  go_wp2_with fail
  refine HU.out.mono ?_
  rintro e w1 ⟨⟨c, rfl, hc⟩, hs⟩
  have hcl := hc.1
  have HC : Hid (BelowN K k c) := hc
  have HS : Hid (Same w w1) := hs
  have hst := HST.out.same hs
  rcases Nat.eq_zero_or_pos c with h0 | h0
  · subst h0
    have hv := firstS_any w1 p _ K i hst hl
    have hlt0 := hst.lt
    have HE : Hid (∀ w', StRes w1 w' p pv K 0 → PreEnd w w' p pv K k (.returned (.int .i64 (-1)))) := fun w' hr => ⟨0, HC.out, .inr ⟨rfl, rfl, hr.to' HS.out⟩⟩
    obtain ⟨x, hx⟩ : ∃ x, x = (K[0]'(by omega)).1 := ⟨_, rfl⟩
    rw [← hx] at hv
    have HV : Hid (Calls Try.prog 74 #[.pointer (some ⟨p, 0, none⟩)] w1 fun e w' => e = .returned (.int .i64 x) ∧ StRes w1 w' p pv K 0) := hv
    clear hv hx hc hs hst HU
    go_wp2_with fail
    refine HV.out.mono ?_
    rintro e w' ⟨rfl, hr⟩
    have HF := HE.out w' hr
    clear hr HE HV
    go_wp2
    go_ret
    exact HF
  · obtain ⟨m, rfl⟩ : ∃ m, c = m + 1 := ⟨c - 1, by omega⟩
    have hm : m < K.length := by omega
    have hv := visit_any w1 p _ K i m hst hl hm
    have HE : Hid (∀ w', StRes w1 w' p pv K m → PreEnd w w' p pv K k (.returned (.int .i64 K[m].1))) := fun w' hr => ⟨m + 1, HC.out, .inl ⟨m, hm, rfl, rfl, hr.to' HS.out⟩⟩
    obtain ⟨x, hx⟩ : ∃ x, x = K[m].1 := ⟨_, rfl⟩
    rw [← hx] at hv HE
    have HV : Hid (Calls Try.prog 81 #[.pointer (some ⟨p, 0, none⟩), .int .i64 (m : Int)] w1 fun e w' => e = .returned (.int .i64 x) ∧ StRes w1 w' p pv K m) := hv
    obtain ⟨q, hq⟩ : ∃ q, q = m + 1 := ⟨_, rfl⟩
    have hq1 : (q : Int) - 1 = (m : Int) := by omega
    have hwm : IntKind.i64.wrap (m : Int) = (m : Int) := by rw [IntKind.wrap_i64]; omega
    have hq0 : ((q : Int) == 0) = false := by rw [beq_eq_false_iff_ne]; omega
    rw [← hq]
    clear hv hx hc hs hst HU hq hcl
    go_wp2_with fail
    refine HV.out.mono ?_
    rintro e w' ⟨rfl, hr⟩
    have HF := HE.out w' hr
    clear hr HE HV
    go_wp2
    go_ret
    exact HF

/-- how Is ends. -/
def IsEndS (w w' : World) (p : Nat) (pv : Value) (K : List (Nat × Nat)) (k : Int) (e : Ending) : Prop := ∃ c : Nat, BelowN K k c ∧
  ((∃ h : c < K.length, e = .returned (.bool ((K[c].1 : Int) == k)) ∧ StRes w w' p pv K c) ∨ (c = K.length ∧ e = .returned (.bool false) ∧ StRes w w' p pv K (K.length - 1)))

set_option maxHeartbeats 1000000 in
set_option maxRecDepth 20000 in
theorem isS_any (w : World) (p : Nat) (pv : Value) (K : List (Nat × Nat)) (i : Nat) (k : Int) (h : StAt w p pv K i) (hl : K.length ≤ 501) :
    Calls Try.prog 55 #[.pointer (some ⟨p, 0, none⟩), .int .i64 k] w fun e w' => IsEndS w w' p pv K k e := by
  obtain ⟨a, ca, rfl, -⟩ := row_form h.row
  have HST : Hid (StAt w p (.slice a K.length ca) K i) := h
  have HU : Hid (Calls Try.prog 83 #[.pointer (some ⟨p, 0, none⟩), .int .i64 k] w fun e w' => (∃ c : Nat, e = .returned (.int .i64 c) ∧ BelowN K k c) ∧ Same w w') := belowS_any w p _ K i k h hl
  clear h
  go_enter Try.func55, Try.ntmps55
  go_wp2_with fail
  refine HU.out.mono ?_
  rintro e w1 ⟨⟨c, rfl, hc⟩, hs⟩
  have hcl := hc.1
  have HC : Hid (BelowN K k c) := hc
  have HS : Hid (Same w w1) := hs
  have hst := HST.out.same hs
  have c0 := hst.c0
  by_cases hlt : c < K.length
  · have ht : ¬ (K.length : Int) ≤ (c : Int) := by omega
    have hv := visit_any w1 p _ K i c hst hl hlt
    have HE : Hid (∀ w', StRes w1 w' p (.slice a K.length ca) K c → IsEndS w w' p (.slice a K.length ca) K k (.returned (.bool ((K[c].1 : Int) == k)))) := fun w' hr => ⟨c, HC.out, .inl ⟨hlt, rfl, hr.to' HS.out⟩⟩
    obtain ⟨x, hx⟩ : ∃ x, x = K[c].1 := ⟨_, rfl⟩
    rw [← hx] at hv HE
    have HV : Hid (Calls Try.prog 81 #[.pointer (some ⟨p, 0, none⟩), .int .i64 (c : Int)] w1 fun e w' => e = .returned (.int .i64 x) ∧ StRes w1 w' p (.slice a K.length ca) K c) := hv
    clear hv hx hc hs hst HU
    go_wp2_with fail
    refine HV.out.mono ?_
    rintro e w' ⟨rfl, hr⟩
    have HF := HE.out w' hr
    clear hr HE HV
    go_wp2
    go_ret
    exact HF
  · have ht : (K.length : Int) ≤ (c : Int) := by omega
    have hv := lastS_any w1 p _ K i hst hl
    have hlt0 := hst.lt
    have HE : Hid (∀ w', StRes w1 w' p (.slice a K.length ca) K (K.length - 1) → IsEndS w w' p (.slice a K.length ca) K k (.returned (.bool false))) := fun w' hr => ⟨c, HC.out, .inr ⟨by omega, rfl, hr.to' HS.out⟩⟩
    obtain ⟨x, hx⟩ : ∃ x, x = (K[K.length - 1]'(by omega)).1 := ⟨_, rfl⟩
    rw [← hx] at hv
    have HV : Hid (Calls Try.prog 75 #[.pointer (some ⟨p, 0, none⟩)] w1 fun e w' => e = .returned (.int .i64 x) ∧ StRes w1 w' p (.slice a K.length ca) K (K.length - 1)) := hv
    clear hv hx hc hs hst HU
    go_wp2_with fail
    refine HV.out.mono ?_
    rintro e w' ⟨rfl, hr⟩
    have HF := HE.out w' hr
    clear hr HE HV
    go_wp2
    go_ret
    exact HF

end Go.Proofs.Ytlfpepehngkehaa
/-
  Walks: the kind of a piece.
-/
namespace Go.Proofs.Ytlfpepehngkehaa
set_option linter.unusedSimpArgs false
set_option linter.unusedVariables false
open Go.RowKit

theorem found_iff {D : Dic} {x : ByteArray} {k : Nat} {f : Bool} (hs : Srt D) (h : SplitAt D x k) (hf : f = true ↔ ∃ h : k < D.length, D[k].1 = x) : f = true ↔ ∃ p ∈ D, p.1 = x := by
  rw [hf]
  constructor
  · rintro ⟨h, e⟩
    exact ⟨_, List.getElem_mem h, e⟩
  · rintro ⟨p, hp, e⟩
    obtain ⟨j, hj, rfl⟩ := List.mem_iff_getElem.1 hp
    obtain ⟨_, h1, h2⟩ := h
    have hjk : ¬ j < k := fun hlt => by have := h1 j hj hlt; rw [e] at this; simp [wl_irrefl] at this
    by_cases ejk : j = k
    · subst ejk; exact ⟨hj, e⟩
    · have hkd : k < D.length := by omega
      have h3 := srt_before hs hj (show k < j by omega)
      rw [e] at h3
      have := h2 k hkd (Nat.le_refl _)
      rw [h3] at this
      cases this

set_option maxHeartbeats 1000000 in
theorem has_any (w : World) (b : Nat) (v : Value) (D : Dic) (x : ByteArray) (hS : SetAt w 149 b v D) (hD : GoodDic D) :
    Calls Try.prog 117 #[.pointer (some ⟨b, 0, none⟩), .string x] w fun e w' => (∃ f : Bool, e = .returned (.bool f) ∧ (f = true ↔ ∃ p ∈ D, p.1 = x)) ∧ w' = w := by
  have HS : Hid (Srt D) := hD.2.1
  have HF : Hid (Calls Try.prog 92 #[.pointer (some ⟨b, 0, none⟩), .string x] w fun e w' => FindEnd D x e ∧ w' = w) := find_any w b v D x hS hD.2.1 (by have := hD.1; omega)
  clear hS hD
  go_enter Try.func117, Try.ntmps117
  go_wp2_with fail
  refine HF.out.mono ?_
  rintro e w' ⟨⟨k, f, rfl, hsp, hf⟩, rfl⟩
  have HI : Hid (f = true ↔ ∃ p ∈ D, p.1 = x) := found_iff HS.out hsp hf
  clear hsp hf HF
  go_wp2
  go_ret
  exact ⟨⟨f, rfl, HI.out⟩, rfl⟩

def LetEnd (D : Dic) (q : ByteArray) (e : Ending) : Prop := ∃ r : Nat, e = .returned (.int .i64 r) ∧ ((r = 3 ∧ ∃ p ∈ D, p.1 = q) ∨ (r = 4 ∧ ¬ ∃ p ∈ D, p.1 = q))

set_option maxHeartbeats 1000000 in
theorem ofLetters_any (w : World) (b : Nat) (v : Value) (D : Dic) (x : ByteArray) (hS : SetAt w 149 b v D) (hD : GoodDic D) :
    Calls Try.prog 105 #[.string x, .pointer (some ⟨b, 0, none⟩)] w fun e w' => LetEnd D x e ∧ w' = w := by
  have HF : Hid (Calls Try.prog 117 #[.pointer (some ⟨b, 0, none⟩), .string x] w fun e w' => (∃ f : Bool, e = .returned (.bool f) ∧ (f = true ↔ ∃ p ∈ D, p.1 = x)) ∧ w' = w) := has_any w b v D x hS hD
  clear hS hD
  go_enter Try.func105, Try.ntmps105
  go_wp2_with fail
  refine HF.out.mono ?_
  rintro e w' ⟨⟨f, rfl, hf⟩, rfl⟩
  clear HF
  cases f with
  | true =>
    have HE : Hid (LetEnd D x (.returned (.int .i64 3))) := ⟨3, rfl, .inl ⟨rfl, hf.1 rfl⟩⟩
    clear hf
    go_wp2
    go_ret
    exact ⟨HE.out, rfl⟩
  | false =>
    have HE : Hid (LetEnd D x (.returned (.int .i64 4))) := ⟨4, rfl, .inr ⟨rfl, fun h => by have := hf.2 h; cases this⟩⟩
    clear hf
    go_wp2
    go_ret
    exact ⟨HE.out, rfl⟩

set_option maxHeartbeats 400000 in
theorem cluster_none (t : ByteArray) (w : World) (ht : t.size = 0) :
    Calls Try.prog 104 #[.string t, .int .i64 0] w fun e w' => e = .returned (.tuple #[.int .i64 0, .int .i64 0]) ∧ w' = w := by
  have h0 : (t.size : Int) ≤ 0 := by omega
  go_enter Try.func104, Try.ntmps104
  go_wp2
  go_ret2
  exact ⟨rfl, rfl⟩

theorem kdp_zero {D : Dic} {q : ByteArray} (h : q.size = 0) : kdp D q = 0 := by unfold kdp; rw [if_pos h]
theorem kdp_num {D : Dic} {q : ByteArray} (h : 0 < q.size) (hs : sn (bt q 0) = 3) : kdp D q = 1 := by
  have := sn_cases (bt q 0)
  unfold kdp
  rw [if_neg (by omega), if_pos (by omega)]
theorem kdp_blank {D : Dic} {q : ByteArray} (h : 0 < q.size) (hs : sn (bt q 0) = 5) : kdp D q = 2 := by
  have := sn_cases (bt q 0)
  unfold kdp
  rw [if_neg (by omega), if_neg (by omega), if_pos (by omega)]
theorem kdp_other {D : Dic} {q : ByteArray} (h : 0 < q.size) (hs : sn (bt q 0) = 0) : kdp D q = 0 := by
  have := sn_cases (bt q 0)
  unfold kdp
  rw [if_neg (by omega), if_neg (by omega), if_neg (by omega), if_pos (by omega)]
theorem kdp_let {D : Dic} {q : ByteArray} {e : Ending} (h : 0 < q.size) (hs : sn (bt q 0) = 1 ∨ sn (bt q 0) = 2) (he : LetEnd D q e) : e = .returned (.int .i64 (kdp D q : Nat)) := by
  have := sn_cases (bt q 0)
  obtain ⟨r, rfl, hr⟩ := he
  have : kdp D q = r := by
    unfold kdp
    rw [if_neg (by omega), if_neg (by omega), if_neg (by omega), if_neg (by omega)]
    rcases hr with ⟨rfl, h⟩ | ⟨rfl, h⟩
    · rw [if_pos h]
    · rw [if_neg h]
  rw [this]

set_option maxHeartbeats 1000000 in
theorem kindOf_any (w : World) (b : Nat) (v : Value) (D : Dic) (q : ByteArray) (hq : q.size ≤ 500) (hS : SetAt w 149 b v D) (hD : GoodDic D) :
    Calls Try.prog 73 #[.string q, .pointer (some ⟨b, 0, none⟩)] w fun e w' => e = .returned (.int .i64 (kdp D q : Nat)) ∧ w' = w := by
  have HL : Hid (Calls Try.prog 105 #[.string q, .pointer (some ⟨b, 0, none⟩)] w fun e w' => LetEnd D q e ∧ w' = w) := ofLetters_any w b v D q hS hD
  clear hS hD
  rcases Nat.eq_zero_or_pos q.size with h0 | h0
  · rw [kdp_zero h0]
    have HC : Hid (Calls Try.prog 104 #[.string q, .int .i64 0] w fun e w' => e = .returned (.tuple #[.int .i64 0, .int .i64 0]) ∧ w' = w) := cluster_none q w h0
    clear h0 HL
    go_enter Try.func73, Try.ntmps73
    go_wp2_with fail
    refine HC.out.mono ?_
    rintro e w' ⟨rfl, rfl⟩
    go_wp2
    go_ret
    exact ⟨rfl, rfl⟩
  · have HC : Hid (Calls Try.prog 104 #[.string q, .int .i64 0] w fun e w' => ClusEnd q 0 e ∧ w' = w) := cluster_any q 0 w (by omega) h0
    have hcs : sn (bt q 0) = 1 ∨ sn (bt q 0) = 2 ∨ sn (bt q 0) = 3 ∨ sn (bt q 0) = 5 ∨ sn (bt q 0) = 0 := by
      have := sn_cases (bt q 0); omega
    have HK : Hid ((sn (bt q 0) = 3 → kdp D q = 1) ∧ (sn (bt q 0) = 5 → kdp D q = 2) ∧ (sn (bt q 0) = 0 → kdp D q = 0) ∧ ∀ e, (sn (bt q 0) = 1 ∨ sn (bt q 0) = 2) → LetEnd D q e → e = .returned (.int .i64 (kdp D q : Nat))) :=
      ⟨fun h => kdp_num h0 h, fun h => kdp_blank h0 h, fun h => kdp_other h0 h, fun e h he => kdp_let h0 h he⟩
    have HC2 : Hid (Calls Try.prog 104 #[.string q, .int .i64 0] w fun e w' => (∃ hi : Nat, e = .returned (.tuple #[.int .i64 (sn (bt q 0)), .int .i64 hi])) ∧ w' = w) := by
      refine HC.out.mono ?_
      rintro e w' ⟨⟨hi, rfl, _⟩, rfl⟩
      exact ⟨⟨hi, rfl⟩, rfl⟩
    clear HC h0
    generalize sn (bt q 0) = c at hcs HK HC2
    rcases hcs with rfl | rfl | rfl | rfl | rfl
    · have HK1 : Hid (∀ e, LetEnd D q e → e = .returned (.int .i64 (kdp D q : Nat))) := fun e he => HK.out.2.2.2 e (.inl rfl) he
      clear HK
      go_enter Try.func73, Try.ntmps73
      go_wp2_with fail
      refine HC2.out.mono ?_
      rintro e w' ⟨⟨hi, rfl⟩, rfl⟩
      go_wp2_with fail
      refine HL.out.mono ?_
      rintro e w2 ⟨he, rfl⟩
      obtain rfl := HK1.out e he
      clear he HL HK1
      go_wp2
      go_ret
      exact ⟨rfl, rfl⟩
    · have HK1 : Hid (∀ e, LetEnd D q e → e = .returned (.int .i64 (kdp D q : Nat))) := fun e he => HK.out.2.2.2 e (.inr rfl) he
      clear HK
      go_enter Try.func73, Try.ntmps73
      go_wp2_with fail
      refine HC2.out.mono ?_
      rintro e w' ⟨⟨hi, rfl⟩, rfl⟩
      go_wp2_with fail
      refine HL.out.mono ?_
      rintro e w2 ⟨he, rfl⟩
      obtain rfl := HK1.out e he
      clear he HL HK1
      go_wp2
      go_ret
      exact ⟨rfl, rfl⟩
    · rw [HK.out.1 rfl]
      clear HK HL
      go_enter Try.func73, Try.ntmps73
      go_wp2_with fail
      refine HC2.out.mono ?_
      rintro e w' ⟨⟨hi, rfl⟩, rfl⟩
      go_wp2
      go_ret
      exact ⟨rfl, rfl⟩
    · rw [HK.out.2.1 rfl]
      clear HK HL
      go_enter Try.func73, Try.ntmps73
      go_wp2_with fail
      refine HC2.out.mono ?_
      rintro e w' ⟨⟨hi, rfl⟩, rfl⟩
      go_wp2
      go_ret
      exact ⟨rfl, rfl⟩
    · rw [HK.out.2.2.1 rfl]
      clear HK HL
      go_enter Try.func73, Try.ntmps73
      go_wp2_with fail
      refine HC2.out.mono ?_
      rintro e w' ⟨⟨hi, rfl⟩, rfl⟩
      go_wp2
      go_ret
      exact ⟨rfl, rfl⟩

end Go.Proofs.Ytlfpepehngkehaa
/-
  Walks: how the program begins a walk.
-/
namespace Go.Proofs.Ytlfpepehngkehaa
set_option linter.unusedSimpArgs false
set_option linter.unusedVariables false
open Go.RowKit

theorem Try.infoStop : (Try.prog.info? 130).map (fun i => (i.zero, i.size, i.bytes)) = some (some (.agg #[.int .i64 0, .int .i64 0]), 2, 16) := by kernel_rfl

/-- a walk that is being made: the stops K so far. -/
structure MkAt (w wr : World) (p : Nat) (sv pv : Value) (l : List Nat) (K : List (Nat × Nat)) : Prop where
  c0 : wr.cell? ⟨p, 0, none⟩ = some sv
  c1 : wr.cell? ⟨p, 1, none⟩ = some (.int .i64 0)
  fz : ∀ o, wr.frozen? ⟨p, o, none⟩ = false
  row : wr.ownsRow (p + 1) 130 2 sv K.length (hitCells K)
  pl : wr.ownsRow w.heap.size 3 1 pv l.length (intCells l)
  lo : ∀ k, pv.ownBlock = some k → k < p
  wp : w.heap.size ≤ p
  pz : p < wr.heap.size
  bl : Below w.heap.size w wr

theorem MkAt.start {w w1 : World} {pv : Value} {l : List Nat} (hr : w1.ownsRow w.heap.size 3 1 pv l.length (intCells l)) (hb : Below w.heap.size w w1) : MkAt w (w1.alloc (.cells #[.slice none 0 0, .int .i64 0] 127)) w1.heap.size (.slice none 0 0) pv l [] := by
  have hz := hb.size
  refine ⟨?_, ?_, fun o => ?_, World.ownsRow_nil _ _ _ _, hr.alloc _, fun k hk => (hr.lt k hk).2, hz, by simp, hb.alloc hz _⟩
  · rw [World.cell?_alloc_at _ _ _ _ rfl]; rfl
  · rw [World.cell?_alloc_at _ _ _ _ rfl]; rfl
  · rw [World.frozen?_alloc_at _ _ _ _ rfl]

theorem MkAt.same {w wr wx : World} {p : Nat} {sv pv : Value} {l : List Nat} {K : List (Nat × Nat)} (h : MkAt w wr p sv pv l K) (hs : Same wr wx) : MkAt w wx p sv pv l K := by
  have hp := h.pz
  have hz := h.wp
  exact ⟨(Kept.cell hs (p := ⟨p, 0, none⟩) hp id).trans h.c0, (Kept.cell hs (p := ⟨p, 1, none⟩) hp id).trans h.c1, fun o => (Kept.frozen hs (p := ⟨p, o, none⟩) hp id).trans (h.fz o), hs.row h.row, hs.row h.pl, h.lo, h.wp, by have := hs.size; omega, hs.below h.bl (by omega)⟩

/-- one more stop. -/
theorem MkAt.put {w wr w2 : World} {p : Nat} {sv pv v' : Value} {l : List Nat} {K : List (Nat × Nat)} {x y : Nat} {o : Obj} (h : MkAt w wr p sv pv l K) (hown : w2.ownsRow (p + 1) 130 2 v' (K.length + 1) (hitCells K ++ [.int .i64 x, .int .i64 y])) (hg : (wr.alloc o).grownBy w2 sv.ownBlock) :
    MkAt w (w2.setCell ⟨p, 0, none⟩ v') p v' pv l (K ++ [(x, y)]) := by
  have hz := h.pz
  have hwp := h.wp
  have hk : Kept wr w2 (fun k => sv.ownBlock = some k) := ((Kept.refl wr _).alloc o).grown hg (fun k e => .inl e)
  have hnp : ¬ sv.ownBlock = some p := fun e => by have := (h.row.lt p e).1; omega
  have hk2 : Kept w2 (w2.setCell ⟨p, 0, none⟩ v') (fun j => j = p) := (Kept.refl w2 _).setCell _ _ (.inl rfl)
  have hz2 := hk.size
  have d0 : w2.cell? ⟨p, 0, none⟩ = some sv := (hk.cell (p := ⟨p, 0, none⟩) hz hnp).trans h.c0
  have d1 : w2.cell? ⟨p, 1, none⟩ = some (.int .i64 0) := (hk.cell (p := ⟨p, 1, none⟩) hz hnp).trans h.c1
  have hpl : w2.ownsRow w.heap.size 3 1 pv l.length (intCells l) := Kept.row h.pl hk (fun k e1 e2 => by have := h.lo k e1; have := (h.row.lt k e2).1; omega)
  refine ⟨World.cell?_setCell_same _ _ _ d0, (World.cell?_setCell_other _ _ _ _ (by simp)).trans d1, fun o => ?_, ?_, Kept.row hpl hk2 (fun k e1 e2 => by have := h.lo k e1; omega), h.lo, hwp, by have := hk2.size; omega, ?_⟩
  · rw [World.frozen?_setCell]
    exact (hk.frozen (p := ⟨p, o, none⟩) hz hnp).trans (h.fz o)
  · rw [hitCells_append, List.length_append]
    exact Kept.row hown hk2 (fun k e1 e2 => by have := (hown.lt k e1).1; omega)
  · exact (h.bl.trans (hk.below (by omega) (fun k e => by have := (h.row.lt k e).1; omega))).trans (hk2.below (by omega) (fun k e => by omega))

theorem MkAt.grown_cell {w wr w2 : World} {p : Nat} {sv pv : Value} {l : List Nat} {K : List (Nat × Nat)} {o : Obj} (h : MkAt w wr p sv pv l K) (hg : (wr.alloc o).grownBy w2 sv.ownBlock) : w2.cell? ⟨p, 0, none⟩ = some sv := by
  have hk : Kept wr w2 (fun k => sv.ownBlock = some k) := ((Kept.refl wr _).alloc o).grown hg (fun k e => .inl e)
  exact (hk.cell (p := ⟨p, 0, none⟩) h.pz (fun e => by have := (h.row.lt p e).1; omega)).trans h.c0

theorem MkAt.grown_frz {w wr w2 : World} {p : Nat} {sv pv : Value} {l : List Nat} {K : List (Nat × Nat)} {o : Obj} (h : MkAt w wr p sv pv l K) (hg : (wr.alloc o).grownBy w2 sv.ownBlock) : w2.frozen? ⟨p, 0, none⟩ = false := by
  have hk : Kept wr w2 (fun k => sv.ownBlock = some k) := ((Kept.refl wr _).alloc o).grown hg (fun k e => .inl e)
  exact (hk.frozen (p := ⟨p, 0, none⟩) h.pz (fun e => by have := (h.row.lt p e).1; omega)).trans (h.fz 0)

def BegRel (w : World) (D : Dic) (t : ByteArray) (l : List Nat) (p : Nat) (pv : Value) (g : Nat) (fv iv : Value) (wr : World) : Prop :=
  ∃ (m : Nat) (sv : Value) (K : List (Nat × Nat)), g = l.length - m ∧ m ≤ l.length ∧ K.length = m ∧ fv = .int .i64 (fromOf l m : Nat) ∧ iv = .int .i64 m ∧ StopsTo D t l K ∧ MkAt w wr p sv pv l K

theorem BegRel.num {w wr : World} {D : Dic} {t : ByteArray} {l : List Nat} {p g : Nat} {pv fv iv jv : Value} (h : BegRel w D t l p pv g fv iv wr) (e : jv = iv) : BegRel w D t l p pv g fv jv wr := by rw [e]; exact h

theorem BegRel.next {w wr w2 : World} {D : Dic} {t : ByteArray} {l : List Nat} {p m : Nat} {sv pv v' : Value} {K : List (Nat × Nat)} {o : Obj} (hb : Bounds l t.size) (hm : m < l.length) (hK : K.length = m) (hS : StopsTo D t l K) (h : MkAt w wr p sv pv l K)
    (hown : w2.ownsRow (p + 1) 130 2 v' (K.length + 1) (hitCells K ++ [.int .i64 (l[m] : Nat), .int .i64 (kdp D (t.extract (fromOf l m) l[m]) : Nat)])) (hg : (wr.alloc o).grownBy w2 sv.ownBlock) :
    BegRel w D t l p pv (l.length - (m + 1)) (.int .i64 (l[m] : Nat)) (.int .i64 ((m + 1 : Nat) : Int)) (w2.setCell ⟨p, 0, none⟩ v') :=
  ⟨m + 1, v', K ++ [(l[m], kdp D (t.extract (fromOf l m) l[m]))], rfl, hm, by simp [hK], by rw [fromOf_succ hm], rfl, hS.more hK.symm hm (kind_from hb hm), h.put hown hg⟩

def BegEnd (w w' : World) (D : Dic) (s : ByteArray) (b : Nat) (v : Value) (e : Ending) : Prop := ∃ p F l, e = .returned (.tuple #[.pointer (some ⟨p, 0, none⟩), .int .i64 0]) ∧ CutRes D s l ∧ StWalk w' p F D s l 0 ∧ w.heap.size ≤ p ∧ (∀ j, F j → w.heap.size ≤ j ∨ j = b ∨ v.ownBlock = some j) ∧ Below w.heap.size w w'

theorem MkAt.done {w wr : World} {D : Dic} {s : ByteArray} {p b : Nat} {v sv pv : Value} {l : List Nat} {K : List (Nat × Nat)} (h : MkAt w wr p sv pv l K) (hS : StopsTo D s l K) (hK : K.length = l.length) (hC : CutRes D s l) (hb : Bounds l s.size) : BegEnd w wr D s b v (.returned (.tuple #[.pointer (some ⟨p, 0, none⟩), .int .i64 0])) := by
  have hl : 0 < l.length := by
    obtain ⟨j, hj, _⟩ := List.mem_iff_getElem.1 hb.zero
    omega
  have hwp := h.wp
  refine ⟨p, stopF p sv, l, rfl, hC, ⟨sv, K, 0, ⟨h.c0, h.c1, h.fz, row_base h.row (Nat.zero_le _), by omega, fun e => by have := (h.row.lt p e).1; omega⟩, rfl, hS, hK, ⟨hl, bounds_first hb hl⟩, Nat.zero_le _⟩, h.wp, fun j hj => ?_, h.bl⟩
  rcases hj with rfl | hj
  · exact .inl hwp
  · have := (h.row.lt j hj).1
    exact .inl (by omega)

set_option maxHeartbeats 4000000 in
set_option maxRecDepth 20000 in
theorem begin_walk (w : World) (b : Nat) (v : Value) (D : Dic) (s : ByteArray) (hs : s.size ≤ 500) (hD : GoodDic D) (hS : SetAt w 149 b v D) :
    Calls Try.prog 44 #[.pointer (some ⟨b, 0, none⟩), .string s] w fun e w' => BegEnd w w' D s b v e := by
  obtain ⟨i0, hi, hz0, hz1, hz2⟩ := info_parts Try.infoStop
  have HS : Hid (SetAt w 149 b v D) := hS
  have HD : Hid (GoodDic D) := hD
  have HC : Hid (Calls Try.prog 26 #[.pointer (some ⟨b, 0, none⟩), .string s] w fun e w' => CutGot w w' D s e) := cutOk w b v D s hs hD hS
  clear hS hD
  go_enter Try.func44, Try.ntmps44
  go_wp2_with fail
  refine HC.out.mono ?_
  rintro e w1 ⟨pv, l, rfl, hC, hr, hb⟩
  have hB := hC.bounds HD.out
  have hll := hC.length HD.out hs
  have HB : Hid (Bounds l s.size) := hB
  have HCR : Hid (CutRes D s l) := hC
  have HM0 : Hid (MkAt w (w1.alloc (.cells #[.slice none 0 0, .int .i64 0] 127)) w1.heap.size (.slice none 0 0) pv l []) := MkAt.start hr hb
  obtain ⟨ap, cp, rfl, hgp⟩ := row_form hr
  clear hC hr hb hB HC
  obtain ⟨p, hp⟩ : ∃ p, p = w1.heap.size := ⟨_, rfl⟩
  go_wp2_with fail
  go_loopg [9, 26] l.length (fun g fv iv wr => BegRel w D s l w1.heap.size (.slice ap l.length cp) g fv iv wr)
  case atStart => exact ⟨0, _, [], rfl, Nat.zero_le _, rfl, rfl, rfl, StopsTo.nil _ _ _, HM0.out⟩
  case round =>
    obtain ⟨m, sv, K, rfl, hm, hK, rfl, rfl, hSt, hM⟩ := hrel
    have HK : Hid (K.length = m) := hK
    have hKl : K.length ≤ 501 := by omega
    have HST : Hid (StopsTo D s l K) := hSt
    have HM : Hid (MkAt w wr w1.heap.size sv (.slice ap l.length cp) l K) := hM
    have hpz := hM.pz
    have hwp := hM.wp
    have hc0 := hM.c0
    have hf0 := hM.fz 0
    by_cases hml : m < l.length
    · have hml' : (m : Int) < (l.length : Int) := by omega
      obtain ⟨gp, rfl⟩ := hgp (by omega)
      have hcm := own_int hM.pl rfl hml
      have hle := HB.out.le _ (List.getElem_mem hml)
      have hfl := fromOf_le HB.out hml
      have HNX : Hid (∀ (w2 : World) (v' : Value) (o : Obj), w2.ownsRow (w1.heap.size + 1) 130 2 v' (K.length + 1) (hitCells K ++ [.int .i64 (l[m] : Nat), .int .i64 (kdp D (s.extract (fromOf l m) l[m]) : Nat)]) → (wr.drew.alloc o).grownBy w2 sv.ownBlock → BegRel w D s l w1.heap.size (.slice (some ⟨gp, 0, none⟩) l.length cp) (l.length - (m + 1)) (.int .i64 (l[m] : Nat)) (.int .i64 ((m + 1 : Nat) : Int)) (w2.setCell ⟨w1.heap.size, 0, none⟩ v')) :=
        fun w2 v' o k1 k2 => BegRel.next HB.out hml HK.out HST.out (HM.out.same (Kept.drew (Same.refl wr))) k1 k2
      have HNC : Hid (∀ (w2 : World) (o : Obj), (wr.drew.alloc o).grownBy w2 sv.ownBlock → w2.cell? ⟨w1.heap.size, 0, none⟩ = some sv) := fun w2 o k2 => (HM.out.same (Kept.drew (Same.refl wr))).grown_cell k2
      have HNF : Hid (∀ (w2 : World) (o : Obj), (wr.drew.alloc o).grownBy w2 sv.ownBlock → w2.frozen? ⟨w1.heap.size, 0, none⟩ = false) := fun w2 o k2 => (HM.out.same (Kept.drew (Same.refl wr))).grown_frz k2
      have hrow : wr.drew.ownsRow (w1.heap.size + 1) 130 2 sv K.length (hitCells K) := (HM.out.same (Kept.drew (Same.refl wr))).row
      have HKO : Hid (Calls Try.prog 73 #[.string (s.extract (fromOf l m) l[m]), .pointer (some ⟨b, 0, none⟩)] wr.drew fun e w' => e = .returned (.int .i64 (kdp D (s.extract (fromOf l m) l[m]) : Nat)) ∧ w' = wr.drew) :=
        kindOf_any wr.drew b v D _ (by simp; omega) ((HS.out.below hM.bl).drew) HD.out
      obtain ⟨x, hx⟩ : ∃ x, x = l[m] := ⟨_, rfl⟩
      obtain ⟨f, hf⟩ : ∃ f, f = fromOf l m := ⟨_, rfl⟩
      rw [← hx] at hcm hle hfl HNX HKO
      rw [← hf] at hfl HNX HKO ⊢
      obtain ⟨y, hy⟩ : ∃ y, y = kdp D (s.extract f x) := ⟨_, rfl⟩
      rw [← hy] at HNX HKO
      have hfx : (f : Int) ≤ (x : Int) := by omega
      have hxs : (x : Int) ≤ (s.size : Int) := by omega
      clear hx hf hy hSt hM hK
      go_upto_region 9 with fail
      go_cut [12] (fun u wx => u = .int .i64 y ∧ wx = wr.drew)
      case first =>
        go_region_with (go_at_call 73; go_must (refine HKO.out.mono ?_); rintro e w2 ⟨rfl, rfl⟩)
        all_goals
          go_wp2_with fail
          go_meet
          exact ⟨rfl, rfl⟩
      case rest =>
        obtain ⟨rfl, rfl⟩ := hcut
        go_wp2_with (at_builtin; refine wpList_append_own _ rfl _ _ 125 rfl (w1.heap.size + 1) 130 i0 _ 2 16 Try.underlying125 hi hz0 hz1 hz2 rfl (by decide) _ _ _ rfl (hrow.alloc _) ⟨wr.heap.size, 0, none⟩ 1 1 [.int .i64 x, .int .i64 y] rfl rfl (news2i _ _ _ _ _ rfl) (one2i _ _) (by unfold maxLen; omega) (by omega) (by simp; omega) ?_)
        intro v' w3 hown' hgrow _
        have HN : Hid _ := HNX.out w3 v' _ hown' hgrow
        have hc3 : w3.cell? ⟨w1.heap.size, 0, none⟩ = some sv := HNC.out w3 _ hgrow
        have hf3 : w3.frozen? ⟨w1.heap.size, 0, none⟩ = false := HNF.out w3 _ hgrow
        obtain ⟨a', c', rfl, -⟩ := row_form hown'
        clear hown' hgrow hrow
        go_wp2
        go_roundg (l.length - (m + 1))
        case measure => omega
        case rel => exact BegRel.num HN.out (by go_num)
    · have hml' : ¬ (m : Int) < (l.length : Int) := by omega
      have HE : Hid (BegEnd w wr D s b v (.returned (.tuple #[.pointer (some ⟨w1.heap.size, 0, none⟩), .int .i64 0]))) := HM.out.done HST.out (by have := HK.out; omega) HCR.out HB.out
      clear hM hSt hK
      go_wp2
      go_ret2
      exact HE.out

end Go.Proofs.Ytlfpepehngkehaa
/-
  The program's walks answer as WalkIf asks.
-/
namespace Go.Proofs.Ytlfpepehngkehaa
set_option linter.unusedSimpArgs false
set_option linter.unusedVariables false
open Go.RowKit

theorem StWalk.kept {w w' : World} {p : Nat} {F S : Nat → Prop} {D : Dic} {t : ByteArray} {l : List Nat} {a : Nat} (h : StWalk w p F D t l a) (hk : Kept w w' S) (hS : ∀ j, F j → ¬ S j) : StWalk w' p F D t l a := by
  obtain ⟨pv, K, i, h1, rfl, h2, h3, h4, h5⟩ := h
  exact ⟨pv, K, i, h1.kept hk hS, rfl, h2, h3, h4, h5⟩

theorem StWalk.lt {w : World} {p : Nat} {F : Nat → Prop} {D : Dic} {t : ByteArray} {l : List Nat} {a : Nat} (h : StWalk w p F D t l a) (j : Nat) (hj : F j) : j < w.heap.size := by
  obtain ⟨pv, K, i, h1, rfl, h2, h3, h4, h5⟩ := h
  rcases hj with rfl | hj
  · exact cell_lt h1.c0
  · exact (h1.row.lt j hj).2

theorem StWalk.own {w : World} {p : Nat} {F : Nat → Prop} {D : Dic} {t : ByteArray} {l : List Nat} {a : Nat} (h : StWalk w p F D t l a) : F p ∧ a ≤ t.size := by
  obtain ⟨pv, K, i, h1, rfl, h2, h3, h4, h5⟩ := h
  exact ⟨.inl rfl, h5⟩

/-! what the calls answer, by the boundaries -/
section
variable {w w' : World} {p : Nat} {D : Dic} {t : ByteArray} {l : List Nat} {pv : Value} {K : List (Nat × Nat)} {i : Nat}

theorem got_place (hb : Bounds l t.size) (hS : StopsTo D t l K) (hl : K.length = l.length) (hi : i < l.length) (hk : i < K.length) (h : StRes w w' p pv K i) : MoveGot StWalk w w' p (stopF p pv) D t l l[i] 0 0 (.returned (.int .i64 K[i].1)) := by
  rw [stops_fst hS hk hi]
  exact h.got hb hS hl (fun _ => mv_place _)

theorem got_next (hb : Bounds l t.size) (hS : StopsTo D t l K) (hl : K.length = l.length) (hi : i < l.length) {e : Ending} (h : VisitEnd w w' p pv K i ((i + 1 : Nat) : Int) e) : MoveGot StWalk w w' p (stopF p pv) D t l l[i] 3 0 e := by
  rcases h with ⟨j, hj, e1, rfl, h⟩ | ⟨e1, rfl, h⟩
  · obtain rfl : j = i + 1 := by omega
    rw [stops_fst hS hj (by omega)]
    exact h.got hb hS hl (fun h' => mv_next hb h')
  · exact h.got hb hS hl (fun h' => mv_next_no hb h' (by omega))

theorem got_previous (hb : Bounds l t.size) (hS : StopsTo D t l K) (hl : K.length = l.length) (hi : i < l.length) {e : Ending} (h : VisitEnd w w' p pv K i ((i : Int) - 1) e) : MoveGot StWalk w w' p (stopF p pv) D t l l[i] 4 0 e := by
  rcases h with ⟨j, hj, e1, rfl, h⟩ | ⟨e1, rfl, h⟩
  · obtain rfl : i = j + 1 := by omega
    rw [stops_fst hS hj (by omega)]
    exact h.got hb hS hl (fun h' => mv_prev hb hi)
  · obtain rfl : i = 0 := by omega
    exact h.got hb hS hl (fun h' => mv_prev_no hb h')

theorem got_first (hb : Bounds l t.size) (hS : StopsTo D t l K) (hl : K.length = l.length) (a : Nat) (hk : 0 < K.length) (h : StRes w w' p pv K 0) : MoveGot StWalk w w' p (stopF p pv) D t l a 1 0 (.returned (.int .i64 K[0].1)) := by
  rw [stops_fst hS hk (by omega), bounds_first hb (by omega)]
  exact h.got hb hS hl (fun h' => by rw [bounds_first hb h']; exact mv_first _)

theorem got_last (hb : Bounds l t.size) (hS : StopsTo D t l K) (hl : K.length = l.length) (a : Nat) (hk : K.length - 1 < K.length) (h : StRes w w' p pv K (K.length - 1)) : MoveGot StWalk w w' p (stopF p pv) D t l a 2 0 (.returned (.int .i64 K[K.length - 1].1)) := by
  have he : ∀ h : K.length - 1 < l.length, l[K.length - 1] = t.size := fun h => by
    have := bounds_end hb (show 0 < l.length by omega)
    simp only [hl]
    exact this
  rw [stops_fst hS hk (by omega), he]
  exact h.got hb hS hl (fun h' => by rw [he]; exact mv_last _)

theorem got_following (hb : Bounds l t.size) (hS : StopsTo D t l K) (hl : K.length = l.length) (a : Nat) {k : Int} {e : Ending} (h : FolEnd w w' p pv K k e) : MoveGot StWalk w w' p (stopF p pv) D t l a 5 k e := by
  obtain ⟨c, ⟨hc, h1, h2⟩, ⟨h3, rfl, h⟩ | ⟨rfl, rfl, h⟩⟩ := h
  · have e0 := stops_fst hS h3 (by omega)
    have h4 := h2 h3
    rw [e0] at h4 ⊢
    refine h.got hb hS hl (fun h' => mv_fol hb a h' (fun j hj hlt => ?_) h4)
    have := h1 j (by omega) hlt
    rwa [stops_fst hS (by omega) hj] at this
  · refine h.got hb hS hl (fun h' => ?_)
    have he : l[K.length - 1] = t.size := by
      have := bounds_end hb (show 0 < l.length by omega)
      simp only [hl]
      exact this
    rw [he]
    refine mv_fol_no a (fun j hj => ?_)
    have := h1 j (by omega) (by omega)
    rwa [stops_fst hS (by omega) hj] at this

theorem got_preceding (hb : Bounds l t.size) (hS : StopsTo D t l K) (hl : K.length = l.length) (a : Nat) {k : Int} {e : Ending} (h : PreEnd w w' p pv K k e) : MoveGot StWalk w w' p (stopF p pv) D t l a 6 k e := by
  have key : ∀ c, BelowN K k c → ∀ j (h : j < l.length), c ≤ j → k ≤ (l[j] : Int) := by
    intro c ⟨hc, h1, h2⟩ j hj hle
    have h3 := h2 (by omega)
    rw [stops_fst hS (by omega) (by omega)] at h3
    rcases Nat.lt_or_ge c j with x | x
    · have := bounds_mono hb (show c < l.length by omega) hj x; omega
    · obtain rfl : c = j := by omega
      exact h3
  obtain ⟨c, hB, ⟨m, h3, rfl, rfl, h⟩ | ⟨rfl, rfl, h⟩⟩ := h
  · have e0 := stops_fst hS h3 (by omega)
    have h4 := hB.2.1 m h3 (by omega)
    rw [e0] at h4 ⊢
    exact h.got hb hS hl (fun h' => mv_pre hb a h' (fun j hj hlt => key _ hB j hj (by omega)) h4)
  · refine h.got hb hS hl (fun h' => ?_)
    rw [bounds_first hb h']
    exact mv_pre_no a (fun j hj => key 0 hB j hj (by omega))

theorem got_is (hb : Bounds l t.size) (hS : StopsTo D t l K) (hl : K.length = l.length) (a : Nat) {k : Int} {e : Ending} (h : IsEndS w w' p pv K k e) : IsGot StWalk w w' p (stopF p pv) D t l a k e := by
  obtain ⟨c, ⟨hc, h1, h2⟩, ⟨h3, rfl, h⟩ | ⟨rfl, rfl, h⟩⟩ := h
  · have e0 := stops_fst hS h3 (by omega)
    have h4 := h2 h3
    rw [e0] at h4 ⊢
    refine h.gotIs hb hS hl (fun h' => ?_)
    have hm := mv_is (D := D) (t := t) hb a h' (fun j hj hlt => by
      have := h1 j (by omega) hlt
      rwa [stops_fst hS (by omega) hj] at this) h4
    have e1 : ((l[c] : Int) == k) = decide ((l[c] : Int) = k) := by by_cases x : (l[c] : Int) = k <;> simp [x]
    rw [e1]
    exact hm
  · refine h.gotIs hb hS hl (fun h' => ?_)
    have he : l[K.length - 1] = t.size := by
      have := bounds_end hb (show 0 < l.length by omega)
      simp only [hl]
      exact this
    rw [he]
    refine mv_is_no hb a (fun j hj => ?_)
    have := h1 j (by omega) (by omega)
    rwa [stops_fst hS (by omega) hj] at this
end

set_option maxHeartbeats 1000000 in
set_option maxRecDepth 20000 in
theorem begin_long (w : World) (b : Nat) (v : Value) (D : Dic) (s : ByteArray) (hs : 500 < s.size) (hm : s.size ≤ maxLen) (hS : SetAt w 149 b v D) :
    Calls Try.prog 44 #[.pointer (some ⟨b, 0, none⟩), .string s] w fun e w' => e = .returned (.tuple #[.pointer none, .int .i64 1]) ∧ Below w.heap.size w w' := by
  have HC : Hid (Calls Try.prog 26 #[.pointer (some ⟨b, 0, none⟩), .string s] w fun e w' => e = .returned (.tuple #[.slice none 0 0, .int .i64 1]) ∧ Below w.heap.size w w') := cutLongOk w b v D s hs hm hS
  clear hS hm hs
  go_enter Try.func44, Try.ntmps44
  go_wp2_with fail
  refine HC.out.mono ?_
  rintro e w1 ⟨rfl, hb⟩
  have HB : Hid (Below w.heap.size w w1) := hb
  clear hb HC
  go_wp2
  go_ret2
  exact ⟨rfl, HB.out⟩

def walkIf : WalkIf where
  At := StWalk
  kept := fun h hk hS => StWalk.kept h hk hS
  lt := fun h j hj => StWalk.lt h j hj
  own := fun h => StWalk.own h
  begin := fun w b v D s hs hD hS => begin_walk w b v D s hs hD hS
  beginLong := fun w b v D s hs hm hS => begin_long w b v D s hs hm hS
  place := fun w p F D t l a h hD ht hC => by
    obtain ⟨pv, K, i, h1, rfl, h2, h3, ⟨h4, rfl⟩, h5⟩ := h
    refine (placeS_any w p pv K i h1 (by rw [h3]; exact hC.length hD ht)).mono ?_
    rintro e w' ⟨rfl, hr⟩
    exact got_place (hC.bounds hD) h2 h3 h4 h1.lt hr
  next := fun w p F D t l a h hD ht hC => by
    obtain ⟨pv, K, i, h1, rfl, h2, h3, ⟨h4, rfl⟩, h5⟩ := h
    exact (nextS_any w p pv K i h1 (by rw [h3]; exact hC.length hD ht)).mono fun e w' hE => got_next (hC.bounds hD) h2 h3 h4 hE
  previous := fun w p F D t l a h hD ht hC => by
    obtain ⟨pv, K, i, h1, rfl, h2, h3, ⟨h4, rfl⟩, h5⟩ := h
    exact (previousS_any w p pv K i h1 (by rw [h3]; exact hC.length hD ht)).mono fun e w' hE => got_previous (hC.bounds hD) h2 h3 h4 hE
  following := fun w p F D t l a k _ _ h hD ht hC => by
    obtain ⟨pv, K, i, h1, rfl, h2, h3, ⟨h4, rfl⟩, h5⟩ := h
    exact (followingS_any w p pv K i k h1 (by rw [h3]; exact hC.length hD ht)).mono fun e w' hE => got_following (hC.bounds hD) h2 h3 _ hE
  preceding := fun w p F D t l a k _ _ h hD ht hC => by
    obtain ⟨pv, K, i, h1, rfl, h2, h3, ⟨h4, rfl⟩, h5⟩ := h
    exact (precedingS_any w p pv K i k h1 (by rw [h3]; exact hC.length hD ht)).mono fun e w' hE => got_preceding (hC.bounds hD) h2 h3 _ hE
  is := fun w p F D t l a k _ _ h hD ht hC => by
    obtain ⟨pv, K, i, h1, rfl, h2, h3, ⟨h4, rfl⟩, h5⟩ := h
    exact (isS_any w p pv K i k h1 (by rw [h3]; exact hC.length hD ht)).mono fun e w' hE => got_is (hC.bounds hD) h2 h3 _ hE

end Go.Proofs.Ytlfpepehngkehaa
/-
  The program's walks answer as WalkIfAll asks: with Kind, First and Last.
-/
namespace Go.Proofs.Ytlfpepehngkehaa
set_option linter.unusedSimpArgs false
set_option linter.unusedVariables false
open Go.RowKit

set_option maxHeartbeats 1000000 in
set_option maxRecDepth 20000 in
theorem kindS_any (w : World) (p : Nat) (pv : Value) (K : List (Nat × Nat)) (i : Nat) (h : StAt w p pv K i) (hl : K.length ≤ 501) :
    Calls Try.prog 49 #[.pointer (some ⟨p, 0, none⟩)] w fun e w' => e = .returned (.int .i64 (K[i]'h.lt).2) ∧ StRes w w' p pv K i := by
  have HH := here_any w p pv K i h hl
  have HS : Hid (∀ w', Same w w' → StRes w w' p pv K i) := fun w' hs => .stay h hs
  obtain ⟨x, hx⟩ : ∃ x, x = (K[i]'h.lt).1 := ⟨_, rfl⟩
  obtain ⟨y, hy⟩ : ∃ y, y = (K[i]'h.lt).2 := ⟨_, rfl⟩
  rw [← hy]
  rw [← hx, ← hy] at HH
  have HC : Hid (Calls Try.prog 80 #[.pointer (some ⟨p, 0, none⟩)] w fun e w' => e = .returned (.agg #[.int .i64 x, .int .i64 y]) ∧ Same w w') := HH
  clear h hx hy HH
  have hfd : ∀ w : World, (Instr.field 130 (.agg #[.int .i64 x, .int .i64 y]) 1).run Try.prog w = .ok (.int .i64 y) w := fun _ => by kernel_rfl
  go_enter Try.func49, Try.ntmps49
  go_wp2_with fail
  refine HC.out.mono ?_
  rintro e w' ⟨rfl, hs⟩
  have HE := HS.out w' hs
  clear hs HC HS
  go_wp2
  go_ret
  exact ⟨rfl, HE⟩

theorem got_kind {w w' : World} {p : Nat} {D : Dic} {t : ByteArray} {l : List Nat} {pv : Value} {K : List (Nat × Nat)} {i : Nat} (hb : Bounds l t.size) (hS : StopsTo D t l K) (hl : K.length = l.length) (hi : i < l.length) (hk : i < K.length) (h : StRes w w' p pv K i) : MoveGot StWalk w w' p (stopF p pv) D t l l[i] 8 0 (.returned (.int .i64 K[i].2)) :=
  h.got hb hS hl (fun _ => .inl ⟨rfl, (hS.2 i hk hi).2, rfl⟩)

def walkIfAll : WalkIfAll where
  toWalkIf := walkIf
  kind := fun w p F D t l a h hD ht hC => by
    obtain ⟨pv, K, i, h1, rfl, h2, h3, ⟨h4, rfl⟩, h5⟩ := h
    refine (kindS_any w p pv K i h1 (by rw [h3]; exact hC.length hD ht)).mono ?_
    rintro e w' ⟨rfl, hr⟩
    exact got_kind (hC.bounds hD) h2 h3 h4 h1.lt hr
  first := fun w p F D t l a h hD ht hC => by
    obtain ⟨pv, K, i, h1, rfl, h2, h3, ⟨h4, rfl⟩, h5⟩ := h
    refine (firstS_any w p pv K i h1 (by rw [h3]; exact hC.length hD ht)).mono ?_
    rintro e w' ⟨rfl, hr⟩
    exact got_first (hC.bounds hD) h2 h3 _ (by omega) hr
  last := fun w p F D t l a h hD ht hC => by
    obtain ⟨pv, K, i, h1, rfl, h2, h3, ⟨h4, rfl⟩, h5⟩ := h
    refine (lastS_any w p pv K i h1 (by rw [h3]; exact hC.length hD ht)).mono ?_
    rintro e w' ⟨rfl, hr⟩
    exact got_last (hC.bounds hD) h2 h3 _ (by omega) hr

end Go.Proofs.Ytlfpepehngkehaa
