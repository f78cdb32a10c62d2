import Derived.Test.YtlfpepehngkehaaGreatRowsW
import Derived.Test.YtlfpepehngkehaaGreatLeafR
import Derived.Test.YtlfpepehngkehaaGreatLeafP
import Derived.Test.YtlfpepehngkehaaGreatPrefix
import Derived.Laws.OwnMore
import Derived.OwnWalk
import Derived.Deep.LoopGhost
import Derived.Deep.CutBlock
import Derived.Deep.DeepCutAuto
import Derived.Test.YtlfpepehngkehaaGreatLawWalkB
import Derived.Test.YtlfpepehngkehaaGreatLawImage
import Derived.Test.YtlfpepehngkehaaGreatLawCheck
import Derived.Test.YtlfpepehngkehaaGreatBytesW
import Derived.Test.YtlfpepehngkehaaGreatMaths
import Derived.BigQuiet
import Derived.Deep.QuietTactic
import Derived.Deep.RegionWith
/-
  All: which of n things; the lists that came out.
-/
namespace Go.Proofs.YtlfpepehngkehaaGreat
set_option linter.unusedSimpArgs false
set_option linter.unusedVariables false
open Go.RowKit

theorem pick_nat (c : Int) (n : Nat) (hn : 0 < n) : ∃ r : Nat, r < n ∧ Int.tmod (if c < 0 then -(c + 1) else c) n = (r : Int) := by
  have h0 : 0 ≤ (if c < 0 then -(c + 1) else c) := by split <;> omega
  refine ⟨((if c < 0 then -(c + 1) else c) % (n : Int)).toNat, ?_, ?_⟩
  · have := Int.emod_lt_of_pos (if c < 0 then -(c + 1) else c) (show (0 : Int) < n by omega)
    have := Int.emod_nonneg (if c < 0 then -(c + 1) else c) (show (n : Int) ≠ 0 by omega)
    omega
  · rw [Int.tmod_eq_emod_of_nonneg h0]
    have := Int.emod_nonneg (if c < 0 then -(c + 1) else c) (show (n : Int) ≠ 0 by omega)
    omega

set_option maxHeartbeats 1000000 in
theorem lawPick_any (w : World) (c : Int) (n : Nat) (hn : 0 < n) (hn1 : n ≤ 1000000000000) (hc0 : -9223372036854775808 ≤ c) (hc1 : c ≤ 9223372036854775807) :
    Calls Tryz.prog 10 #[.int .i64 c, .int .i64 n] w fun e w' => (∃ r : Nat, r < n ∧ e = .returned (.int .i64 r)) ∧ w' = w := by
  obtain ⟨r, hr, he⟩ := pick_nat c n hn
  have hr9 : IntKind.i64.wrap (r : Int) = (r : Int) := by rw [IntKind.wrap_i64]; omega
  by_cases h : c < 0
  · rw [if_pos h] at he
    obtain ⟨d, hd⟩ : ∃ d : Int, d = c + 1 := ⟨_, rfl⟩
    obtain ⟨x, hx⟩ : ∃ x : Int, x = -d := ⟨_, rfl⟩
    rw [← hd, ← hx] at he
    have hd9 : IntKind.i64.wrap d = d := by rw [IntKind.wrap_i64]; omega
    have hx9 : IntKind.i64.wrap x = x := by rw [IntKind.wrap_i64]; omega
    have hd' := hd.symm
    have hx' := hx.symm
    have hnz : ((n : Int) == 0) = false := by rw [beq_eq_false_iff_ne]; omega
    clear hd hx
    go_enter Tryz.func10, Tryz.ntmps10
    go_wp2
    go_ret
    exact ⟨⟨r, hr, rfl⟩, rfl⟩
  · rw [if_neg h] at he
    have hnz : ((n : Int) == 0) = false := by rw [beq_eq_false_iff_ne]; omega
    go_enter Tryz.func10, Tryz.ntmps10
    go_wp2
    go_ret
    exact ⟨⟨r, hr, rfl⟩, rfl⟩

end Go.Proofs.YtlfpepehngkehaaGreat
/-
  All: the lists of numbers that came out.
-/
namespace Go.Proofs.YtlfpepehngkehaaGreat
set_option linter.unusedSimpArgs false
set_option linter.unusedVariables false
open Go.RowKit

theorem Tryz.infoInts : (Tryz.prog.info? 48).map (fun i => (i.zero, i.size, i.bytes)) = some (some (.slice none 0 0), 1, 24) := by kernel_rfl

/-- a list with its spare room. -/
def fullOf : Value → Value
  | .slice a _ c => .slice a c c
  | v => v

theorem row_full {w : World} {B : Nat} {t : TypeId} {sz n c : Nat} {a : Option Addr} {xs : List Value} (h : w.ownsRow B t sz (.slice a n c) n xs) : c ≤ maxLen ∧ ∃ ys, w.ownsRow B t sz (.slice a c c) c ys := by
  obtain ⟨_, h2⟩ := h
  rcases h2 with ⟨h, _⟩ | ⟨g, cap, cur, h, h3, h4, h5, h6, h7, h8⟩
  · cases h
    exact ⟨by unfold maxLen; omega, [], World.ownsRow_nil _ _ _ _⟩
  · cases h
    exact ⟨h6, cur.toList, by rw [Array.length_toList]; exact h7, .inr ⟨g, c, cur, rfl, h3, h4, Nat.le_refl _, h6, h7, by rw [List.take_of_length_le (by rw [Array.length_toList, h7]; exact Nat.le_refl _)]⟩⟩

theorem one1s (a : Option Addr) (n c : Nat) : ∀ u ∈ [Value.slice a n c], u.oneCell' = true := by
  intro u hu
  simp at hu
  subst hu
  rfl

theorem set_fill {α : Type} (xs : List α) (x : α) (i : Nat) (h : i < xs.length) : (List.replicate i x ++ xs.drop i).set i x = List.replicate (i + 1) x ++ xs.drop (i + 1) := by
  rw [List.set_append_right i x (by simp)]
  simp only [List.length_replicate, Nat.sub_self]
  rw [List.drop_eq_getElem_cons h, List.set_cons_zero, List.replicate_succ', List.append_assoc]
  rfl

/-- what takeInts and takeHits leave: the list written full, and laid down as the last of the World's (off: the World's field; te: of what it is a slice; tl, sz: of what the list is, in how many cells). -/
structure Took (w w' : World) (Z off : Nat) (te tl : TypeId) (sz : Nat) (vi lv vi' : Value) (base lo n : Nat) (vs : List Value) (full : Nat → List Value) : Prop where
  cell : w'.cell? ⟨Z, off, none⟩ = some vi'
  row : w'.ownsRow base te 1 vi' (n + 1) (vs ++ [fullOf lv])
  list : ∃ c, w'.ownsRow lo tl sz (fullOf lv) c (full c)
  at_ : vi'.ownBlock = vi.ownBlock ∨ ∃ k, vi'.ownBlock = some k ∧ w.heap.size ≤ k
  kept : Kept w w' (fun j => j = Z ∨ vi.ownBlock = some j ∨ lv.ownBlock = some j)
  other : ∀ o, o ≠ off → w'.cell? ⟨Z, o, none⟩ = w.cell? ⟨Z, o, none⟩
  frz : ∀ o, w'.frozen? ⟨Z, o, none⟩ = w.frozen? ⟨Z, o, none⟩

def fullI (n c : Nat) : List Value := List.replicate c (.int .i64 (-1 - (n : Int)))

def FillRel (w : World) (lo c : Nat) (v x : Value) (ys : List Value) (gh : Nat) (iv : Value) (wr : World) : Prop :=
  ∃ i : Nat, gh = c - i ∧ i ≤ c ∧ iv = .int .i64 i ∧ wr.ownsRow lo 3 1 v c (List.replicate i x ++ ys.drop i) ∧ Kept w wr (fun j => v.ownBlock = some j)

theorem fill_next {w wr : World} {lo c g : Nat} {x iv : Value} {ys : List Value} {i : Nat} (hi : i < c) (hy : ys.length = c) (hr : wr.ownsRow lo 3 1 (.slice (some ⟨g, 0, none⟩) c c) c (List.replicate i x ++ ys.drop i)) (hk : Kept w wr (fun j => (Value.slice (some ⟨g, 0, none⟩) c c).ownBlock = some j)) (h : iv = .int .i64 ((i + 1 : Nat) : Int)) :
    FillRel w lo c (.slice (some ⟨g, 0, none⟩) c c) x ys (c - (i + 1)) iv (wr.setCell ⟨g, i, none⟩ x) :=
  ⟨i + 1, rfl, hi, h, by rw [← set_fill ys x i (by omega)]; exact (hr.stored i x).1, hk.setCell _ _ (.inl rfl)⟩

theorem took_end {w wr w2 : World} {Z off base lo n m ci cl : Nat} {te tl : TypeId} {sz : Nat} {full : Nat → List Value} {ai al : Option Addr} {v' : Value} {vs : List Value} {o : Obj} (hZ : Z < w.heap.size) (hc : w.cell? ⟨Z, off, none⟩ = some (.slice ai n ci)) (hf : w.frozen? ⟨Z, off, none⟩ = false)
    (d1 : (Value.slice al cl cl).ownBlock ≠ some Z) (d2 : (Value.slice ai n ci).ownBlock ≠ some Z) (d3 : ∀ k, (Value.slice ai n ci).ownBlock = some k → ¬ (Value.slice al cl cl).ownBlock = some k)
    (hk : Kept w wr (fun j => (Value.slice al cl cl).ownBlock = some j)) (hr : wr.ownsRow lo tl sz (.slice al cl cl) cl (full cl))
    (hown : w2.ownsRow base te 1 v' (n + 1) (vs ++ [.slice al cl cl])) (hg : (wr.alloc o).grownBy w2 (Value.slice ai n ci).ownBlock) (hat : v'.ownBlock = (Value.slice ai n ci).ownBlock ∨ v'.ownBlock = some (wr.alloc o).heap.size) :
    w2.cell? ⟨Z, off, none⟩ = some (.slice ai n ci) ∧ w2.frozen? ⟨Z, off, none⟩ = false ∧ Took w (w2.setCell ⟨Z, off, none⟩ v') Z off te tl sz (.slice ai n ci) (.slice al m cl) v' base lo n vs full := by
  have hk2 : Kept w w2 (fun j => (Value.slice ai n ci).ownBlock = some j ∨ (Value.slice al cl cl).ownBlock = some j) := ((hk.mono (fun _ e => .inl (.inr e))).alloc o).grown hg (fun k e => .inl (.inl e))
  have hNZ : ¬ ((Value.slice ai n ci).ownBlock = some Z ∨ (Value.slice al cl cl).ownBlock = some Z) := fun e => e.elim d2 d1
  have hcell : ∀ x, w2.cell? ⟨Z, x, none⟩ = w.cell? ⟨Z, x, none⟩ := fun x => hk2.cell (p := ⟨Z, x, none⟩) hZ hNZ
  have hfrz : ∀ x, w2.frozen? ⟨Z, x, none⟩ = w.frozen? ⟨Z, x, none⟩ := fun x => hk2.frozen (p := ⟨Z, x, none⟩) hZ hNZ
  have hc2 : w2.cell? ⟨Z, off, none⟩ = some (.slice ai n ci) := (hcell off).trans hc
  have hat' : v'.ownBlock = (Value.slice ai n ci).ownBlock ∨ ∃ k, v'.ownBlock = some k ∧ w.heap.size ≤ k := by
    rcases hat with h | h
    · exact .inl h
    · exact .inr ⟨_, h, by have := hk.size; simp; omega⟩
  have hkr : Kept wr (w2.setCell ⟨Z, off, none⟩ v') (fun j => j = Z ∨ (Value.slice ai n ci).ownBlock = some j) := (((Kept.refl wr _).alloc o).grown hg (fun k e => .inl (.inr e))).setCell _ _ (.inl (.inl rfl))
  refine ⟨hc2, (hfrz off).trans hf, ⟨?_, ?_, ⟨cl, ?_⟩, hat', ?_, fun x hx => ?_, fun x => ?_⟩⟩
  · exact World.cell?_setCell_same _ _ _ hc2
  · refine Kept.row hown ((Kept.refl w2 (fun j => j = Z)).setCell _ _ (.inl rfl)) (fun k e e2 => ?_)
    subst e2
    rcases hat' with h | ⟨k', h, hlt⟩
    · exact d2 (h ▸ e)
    · rw [h] at e; cases e; omega
  · exact Kept.row hr hkr (fun k e e2 => by rcases e2 with rfl | e2; exact d1 e; exact d3 k e2 e)
  · refine (hk2.mono (fun j e => ?_)).setCell _ _ (.inl (.inl rfl))
    rcases e with e | e
    · exact .inl (.inr (.inl e))
    · refine .inl (.inr (.inr ?_))
      cases al with
      | none => cases e
      | some a => exact e
  · rw [World.cell?_setCell_other _ _ _ _ (by simp [hx])]
    exact hcell x
  · simp [hfrz]

set_option maxHeartbeats 2000000 in
set_option maxRecDepth 20000 in
theorem takeInts_any (w : World) (Z base lo n m : Nat) (vi lv : Value) (vs xs : List Value) (hc : w.cell? ⟨Z, 3, none⟩ = some vi) (hf : w.frozen? ⟨Z, 3, none⟩ = false) (hv : w.ownsRow base 48 1 vi n vs) (hl : w.ownsRow lo 3 1 lv m xs)
    (hn : n ≤ 1000000000000) (hb : base ≤ w.heap.size) (d1 : lv.ownBlock ≠ some Z) (d2 : vi.ownBlock ≠ some Z) (d3 : ∀ k, lv.ownBlock = some k → vi.ownBlock ≠ some k) :
    Calls Tryz.prog 30 #[.pointer (some ⟨Z, 0, none⟩), lv] w fun e w' => e = .returned (.tuple #[]) ∧ ∃ vi', Took w w' Z 3 48 3 1 vi lv vi' base lo n vs (fullI n) := by
  obtain ⟨al, cl, rfl, _⟩ := row_form hl
  obtain ⟨ai, ci, rfl, _⟩ := row_form hv
  obtain ⟨hcm, ys, hfull⟩ := row_full hl
  obtain ⟨i0, hi, hz0, hz1, hz2⟩ := info_parts Tryz.infoInts
  have hZ := cell_lt hc
  have hyl : ys.length = cl := by have := hfull.1; omega
  have hal : cl ≠ 0 → ∃ g, al = some ⟨g, 0, none⟩ := by obtain ⟨a, c, e, h⟩ := row_form hfull; cases e; exact h
  have HV : Hid (w.ownsRow base 48 1 (.slice ai n ci) n vs) := hv
  have HF : Hid (w.ownsRow lo 3 1 (.slice al cl cl) cl ys) := hfull
  have HD1 : Hid ((Value.slice al cl cl).ownBlock ≠ some Z) := fun e => d1 (by cases al with | none => cases e | some a => exact e)
  have HD3 : Hid (∀ k, (Value.slice ai n ci).ownBlock = some k → ¬ (Value.slice al cl cl).ownBlock = some k) := fun k h1 h2 => d3 k (by cases al with | none => cases h2 | some a => exact h2) h1
  have HD2 : Hid ((Value.slice ai n ci).ownBlock ≠ some Z) := d2
  have HC : Hid (w.cell? ⟨Z, 3, none⟩ = some (.slice ai n ci)) := hc
  have HFZ : Hid (w.frozen? ⟨Z, 3, none⟩ = false) := hf
  obtain ⟨q, hq⟩ : ∃ q : Int, q = -1 - (n : Int) := ⟨_, rfl⟩
  have hq' := hq.symm
  have hq9 : IntKind.i64.wrap q = q := by rw [IntKind.wrap_i64]; omega
  have hclI : (cl : Int) ≤ 9223372036854775807 := by unfold maxLen at hcm; omega
  clear hl hv hfull d1 d2 d3 hc hf hq
  go_enter Tryz.func30, Tryz.ntmps30
  go_wp2_with fail
  go_loopg [5] cl (fun gh iv wr => FillRel w lo cl (.slice al cl cl) (.int .i64 q) ys gh iv wr)
  case atStart => exact ⟨0, rfl, Nat.zero_le _, rfl, by simpa using HF.out, Kept.refl _ _⟩
  case round =>
    obtain ⟨i, rfl, hi', rfl, hrow, hk⟩ := hrel
    have hc3 : wr.cell? ⟨Z, 3, none⟩ = some (.slice ai n ci) := (hk.cell (p := ⟨Z, 3, none⟩) hZ HD1.out).trans HC.out
    have HK : Hid (Kept w wr (fun j => (Value.slice al cl cl).ownBlock = some j)) := hk
    have HR : Hid (wr.ownsRow lo 3 1 (.slice al cl cl) cl (List.replicate i (.int .i64 q) ++ ys.drop i)) := hrow
    by_cases hlt : i < cl
    · have hlt' : (i : Int) < (cl : Int) := by omega
      obtain ⟨g, rfl⟩ := hal (by omega)
      have hfr := hrow.frozenAt i
      have hcx : ∃ y, wr.cell? ⟨g, i, none⟩ = some y := by
        have := hrow.cellAt i (by omega)
        rw [this, List.getElem?_eq_getElem (by simp; omega)]
        exact ⟨_, rfl⟩
      obtain ⟨y, hcx⟩ := hcx
      clear hk hrow
      go_wp2_with fail
      go_roundg (cl - (i + 1))
      case measure => omega
      case rel => exact fill_next hlt hyl HR.out HK.out (by go_num)
    · have hlt' : ¬ (i : Int) < (cl : Int) := by omega
      obtain rfl : i = cl := by omega
      have hvr := Kept.row HV.out hk HD3.out
      have HRR : Hid (wr.ownsRow lo 3 1 (.slice al i i) i (fullI n i)) := by
        have := HR.out
        rw [List.drop_of_length_le (by omega), List.append_nil, ← hq'] at this
        exact this
      have hbw := hk.size
      clear hk hrow
      go_wp2_with (at_builtin; refine wpList_append_own_at _ rfl _ _ 27 rfl base 48 i0 _ 1 24 Tryz.underlying27 hi hz0 hz1 hz2 rfl (by decide) _ _ _ rfl (hvr.alloc _) ⟨wr.heap.size, 0, none⟩ 1 1 [.slice al i i] rfl rfl (cell_one_new _ _ _) (one1s _ _ _) (by unfold maxLen; omega) (by omega) (by first | omega | (simp; omega)) ?_)
      intro v' w2 hown' hgrow _ hat
      obtain ⟨hc2, hf2, hres⟩ := took_end (m := m) hZ HC.out HFZ.out HD1.out HD2.out HD3.out HK.out HRR.out hown' hgrow (by simpa using hat)
      obtain ⟨a', cap', rfl, _⟩ := row_form hown'
      have HE : Hid (Took w (w2.setCell ⟨Z, 3, none⟩ (.slice a' (n + 1) cap')) Z 3 48 3 1 (.slice ai n ci) (.slice al m i) (.slice a' (n + 1) cap') base lo n vs (fullI n)) := hres
      clear hres hown' hgrow hat hvr hc3
      go_wp2
      go_end0
      exact ⟨rfl, _, HE.out⟩

end Go.Proofs.YtlfpepehngkehaaGreat
/-
  All: the lists of hits that came out.
-/
namespace Go.Proofs.YtlfpepehngkehaaGreat
set_option linter.unusedSimpArgs false
set_option linter.unusedVariables false
open Go.RowKit

theorem Tryz.infoHits : (Tryz.prog.info? 45).map (fun i => (i.zero, i.size, i.bytes)) = some (some (.slice none 0 0), 1, 24) := by kernel_rfl

def twos (x y : Value) : Nat → List Value
  | 0 => []
  | c + 1 => x :: y :: twos x y c

theorem twos_length (x y : Value) (c : Nat) : (twos x y c).length = c * 2 := by
  induction c with
  | zero => rfl
  | succ c ih => simp [twos, ih]; omega

theorem twos_snoc (x y : Value) (c : Nat) : twos x y (c + 1) = twos x y c ++ [x, y] := by
  induction c with
  | zero => rfl
  | succ c ih =>
    show x :: y :: twos x y (c + 1) = (x :: y :: twos x y c) ++ [x, y]
    rw [ih]
    rfl

theorem set_twos (xs : List Value) (x y : Value) (i : Nat) (h : i * 2 + 1 < xs.length) : ((twos x y i ++ xs.drop (i * 2)).set (i * 2) x).set (i * 2 + 1) y = twos x y (i + 1) ++ xs.drop ((i + 1) * 2) := by
  have e1 : (twos x y i).length = i * 2 := twos_length x y i
  rw [List.set_append_right (i * 2) x (by omega), e1, Nat.sub_self, List.drop_eq_getElem_cons (by omega), List.set_cons_zero, List.set_append_right (i * 2 + 1) y (by omega), e1, show i * 2 + 1 - i * 2 = 0 + 1 by omega, List.set_cons_succ,
    List.drop_eq_getElem_cons h, List.set_cons_zero, twos_snoc, List.append_assoc, show (i + 1) * 2 = i * 2 + 1 + 1 by omega]
  rfl

def fullH (n c : Nat) : List Value := twos (.int .i64 (-1 - (n : Int))) (.int .i64 0) c

def FillRelH (w : World) (lo c : Nat) (v x : Value) (ys : List Value) (gh : Nat) (iv : Value) (wr : World) : Prop :=
  ∃ i : Nat, gh = c - i ∧ i ≤ c ∧ iv = .int .i64 i ∧ wr.ownsRow lo 47 2 v c (twos x (.int .i64 0) i ++ ys.drop (i * 2)) ∧ Kept w wr (fun j => v.ownBlock = some j)

theorem fill_nextH {w wr : World} {lo c g : Nat} {x iv : Value} {ys : List Value} {i : Nat} (hi : i < c) (hy : ys.length = c * 2) (hr : wr.ownsRow lo 47 2 (.slice (some ⟨g, 0, none⟩) c c) c (twos x (.int .i64 0) i ++ ys.drop (i * 2))) (hk : Kept w wr (fun j => (Value.slice (some ⟨g, 0, none⟩) c c).ownBlock = some j)) (h : iv = .int .i64 ((i + 1 : Nat) : Int)) :
    FillRelH w lo c (.slice (some ⟨g, 0, none⟩) c c) x ys (c - (i + 1)) iv ((wr.setCell ⟨g, i * 2, none⟩ x).setCell ⟨g, i * 2 + 1, none⟩ (.int .i64 0)) :=
  ⟨i + 1, rfl, hi, h, by rw [← set_twos ys x (.int .i64 0) i (by omega)]; exact ((hr.stored (i * 2) x).1.stored (i * 2 + 1) _).1, (hk.setCell ⟨g, i * 2, none⟩ x (.inl rfl)).setCell ⟨g, i * 2 + 1, none⟩ (.int .i64 0) (.inl rfl)⟩

set_option maxHeartbeats 2000000 in
set_option maxRecDepth 20000 in
theorem takeHits_any (w : World) (Z base lo n m : Nat) (vi lv : Value) (vs xs : List Value) (hc : w.cell? ⟨Z, 2, none⟩ = some vi) (hf : w.frozen? ⟨Z, 2, none⟩ = false) (hv : w.ownsRow base 45 1 vi n vs) (hl : w.ownsRow lo 47 2 lv m xs)
    (hn : n ≤ 1000000000000) (hb : base ≤ w.heap.size) (d1 : lv.ownBlock ≠ some Z) (d2 : vi.ownBlock ≠ some Z) (d3 : ∀ k, lv.ownBlock = some k → vi.ownBlock ≠ some k) :
    Calls Tryz.prog 26 #[.pointer (some ⟨Z, 0, none⟩), lv] w fun e w' => e = .returned (.tuple #[]) ∧ ∃ vi', Took w w' Z 2 45 47 2 vi lv vi' base lo n vs (fullH n) := by
  obtain ⟨al, cl, rfl, _⟩ := row_form hl
  obtain ⟨ai, ci, rfl, _⟩ := row_form hv
  obtain ⟨hcm, ys, hfull⟩ := row_full hl
  obtain ⟨i0, hi, hz0, hz1, hz2⟩ := info_parts Tryz.infoHits
  have hZ := cell_lt hc
  have hyl : ys.length = cl * 2 := hfull.1
  have hal : cl ≠ 0 → ∃ g, al = some ⟨g, 0, none⟩ := by obtain ⟨a, c, e, h⟩ := row_form hfull; cases e; exact h
  have HV : Hid (w.ownsRow base 45 1 (.slice ai n ci) n vs) := hv
  have HF : Hid (w.ownsRow lo 47 2 (.slice al cl cl) cl ys) := hfull
  have HD1 : Hid ((Value.slice al cl cl).ownBlock ≠ some Z) := fun e => d1 (by cases al with | none => cases e | some a => exact e)
  have HD3 : Hid (∀ k, (Value.slice ai n ci).ownBlock = some k → ¬ (Value.slice al cl cl).ownBlock = some k) := fun k h1 h2 => d3 k (by cases al with | none => cases h2 | some a => exact h2) h1
  have HD2 : Hid ((Value.slice ai n ci).ownBlock ≠ some Z) := d2
  have HC : Hid (w.cell? ⟨Z, 2, none⟩ = some (.slice ai n ci)) := hc
  have HFZ : Hid (w.frozen? ⟨Z, 2, none⟩ = false) := hf
  obtain ⟨q, hq⟩ : ∃ q : Int, q = -1 - (n : Int) := ⟨_, rfl⟩
  have hq' := hq.symm
  have hq9 : IntKind.i64.wrap q = q := by rw [IntKind.wrap_i64]; omega
  have hclI : (cl : Int) ≤ 9223372036854775807 := by unfold maxLen at hcm; omega
  have HY : Hid (ys.length = cl * 2) := hyl
  clear hl hv hfull d1 d2 d3 hc hf hq hyl
  go_enter Tryz.func26, Tryz.ntmps26
  go_wp2_with fail
  go_loopg [5] cl (fun gh iv wr => FillRelH w lo cl (.slice al cl cl) (.int .i64 q) ys gh iv wr)
  case atStart => exact ⟨0, rfl, Nat.zero_le _, rfl, by simpa [twos] using HF.out, Kept.refl _ _⟩
  case round =>
    obtain ⟨i, rfl, hi', rfl, hrow, hk⟩ := hrel
    have hc3 : wr.cell? ⟨Z, 2, none⟩ = some (.slice ai n ci) := (hk.cell (p := ⟨Z, 2, none⟩) hZ HD1.out).trans HC.out
    have HK : Hid (Kept w wr (fun j => (Value.slice al cl cl).ownBlock = some j)) := hk
    have HR : Hid (wr.ownsRow lo 47 2 (.slice al cl cl) cl (twos (.int .i64 q) (.int .i64 0) i ++ ys.drop (i * 2))) := hrow
    by_cases hlt : i < cl
    · have hlt' : (i : Int) < (cl : Int) := by omega
      obtain ⟨g, rfl⟩ := hal (by omega)
      have hfr := hrow.frozenAt (i * 2)
      have hfr2 := hrow.frozenAt (i * 2 + 1)
      have hcell : ∀ j, j < cl * 2 → ∃ y, wr.cell? ⟨g, j, none⟩ = some y := by
        intro j hj
        have := hrow.cellAt j hj
        rw [this, List.getElem?_eq_getElem (by have := hrow.1; omega)]
        exact ⟨_, rfl⟩
      obtain ⟨y, hcx⟩ := hcell (i * 2) (by omega)
      obtain ⟨y2, hcx2⟩ := hcell (i * 2 + 1) (by omega)
      clear hk hrow hcell
      go_wp2_with fail
      go_roundg (cl - (i + 1))
      case measure => omega
      case rel => exact fill_nextH hlt HY.out HR.out HK.out (by go_num)
    · have hlt' : ¬ (i : Int) < (cl : Int) := by omega
      obtain rfl : i = cl := by omega
      have hvr := Kept.row HV.out hk HD3.out
      have HRR : Hid (wr.ownsRow lo 47 2 (.slice al i i) i (fullH n i)) := by
        have := HR.out
        rw [List.drop_of_length_le (by have := HY.out; omega), List.append_nil, ← hq'] at this
        exact this
      have hbw := hk.size
      clear hk hrow
      go_wp2_with (at_builtin; refine wpList_append_own_at _ rfl _ _ 26 rfl base 45 i0 _ 1 24 Tryz.underlying26 hi hz0 hz1 hz2 rfl (by decide) _ _ _ rfl (hvr.alloc _) ⟨wr.heap.size, 0, none⟩ 1 1 [.slice al i i] rfl rfl (cell_one_new _ _ _) (one1s _ _ _) (by unfold maxLen; omega) (by omega) (by first | omega | (simp; omega)) ?_)
      intro v' w2 hown' hgrow _ hat
      obtain ⟨hc2, hf2, hres⟩ := took_end (m := m) hZ HC.out HFZ.out HD1.out HD2.out HD3.out HK.out HRR.out hown' hgrow (by simpa using hat)
      obtain ⟨a', cap', rfl, _⟩ := row_form hown'
      have HE : Hid (Took w (w2.setCell ⟨Z, 2, none⟩ (.slice a' (n + 1) cap')) Z 2 45 47 2 (.slice ai n ci) (.slice al m i) (.slice a' (n + 1) cap') base lo n vs (fullH n)) := hres
      clear hres hown' hgrow hat hvr hc3
      go_wp2
      go_end0
      exact ⟨rfl, _, HE.out⟩

end Go.Proofs.YtlfpepehngkehaaGreat
/-
  All: does all that came out read as its owner left it?
-/
namespace Go.Proofs.YtlfpepehngkehaaGreat
set_option linter.unusedSimpArgs false
set_option linter.unusedVariables false
open Go.RowKit

/-- the lists that came out: each as its owner wrote it. -/
def ListsAt (w : World) (base : Nat) (te tl : TypeId) (sz : Nat) (v : Value) (n : Nat) (vs : List Value) (full : Nat → Nat → List Value) : Prop :=
  w.ownsRow base te 1 v n vs ∧ ∀ k (h : k < vs.length), ∃ lo c, w.ownsRow lo tl sz vs[k] c (full k c)

theorem twos_at (x y : Value) (c i : Nat) (h : i < c) : (twos x y c)[i * 2]? = some x ∧ (twos x y c)[i * 2 + 1]? = some y := by
  induction c generalizing i with
  | zero => omega
  | succ c ih =>
    cases i with
    | zero => exact ⟨rfl, rfl⟩
    | succ i =>
      have := ih i (by omega)
      rw [show (i + 1) * 2 = i * 2 + 1 + 1 by omega]
      simpa [twos] using this

theorem row_slice {w : World} {base : Nat} {te : TypeId} {a : Option Addr} {n cap : Nat} {vs : List Value} (h : w.ownsRow base te 1 (.slice a n cap) n vs) {k : Nat} (hk : k < n) (hv : k < vs.length) : ∃ g, a = some ⟨g, 0, none⟩ ∧ w.cell? ⟨g, k, none⟩ = some vs[k] := by
  obtain ⟨a', c', e, hg⟩ := row_form h
  cases e
  obtain ⟨g, rfl⟩ := hg (by omega)
  exact ⟨g, rfl, by rw [h.cellAt k (by omega), List.getElem?_eq_getElem hv]⟩

theorem row_len {w : World} {B : Nat} {t : TypeId} {sz n : Nat} {v : Value} {xs : List Value} (h : w.ownsRow B t sz v n xs) : n ≤ 9223372036854775807 := by
  obtain ⟨_, ⟨_, h⟩ | ⟨g, cap, cur, _, _, _, h1, h2, _⟩⟩ := h
  · omega
  · unfold maxLen at h2; omega

set_option maxHeartbeats 4000000 in
set_option maxRecDepth 20000 in
theorem looks_any (w : World) (Z bh bi nh ni : Nat) (vh vi : Value) (hs is : List Value) (hc2 : w.cell? ⟨Z, 2, none⟩ = some vh) (hc3 : w.cell? ⟨Z, 3, none⟩ = some vi)
    (hh : ListsAt w bh 45 47 2 vh nh hs fullH) (hi : ListsAt w bi 48 3 1 vi ni is fullI) (hn1 : nh ≤ 1000000000000) (hn2 : ni ≤ 1000000000000) :
    Calls Tryz.prog 5 #[.pointer (some ⟨Z, 0, none⟩)] w fun e w' => e = .returned (.bool true) ∧ w' = w := by
  have HH : Hid (∀ k (h : k < hs.length), ∃ lo c, w.ownsRow lo 47 2 hs[k] c (fullH k c)) := hh.2
  have HI : Hid (∀ k (h : k < is.length), ∃ lo c, w.ownsRow lo 3 1 is[k] c (fullI k c)) := hi.2
  have hr1 := hh.1
  have hr2 := hi.1
  obtain ⟨ah, ch, rfl, _⟩ := row_form hr1
  obtain ⟨ai, ci, rfl, _⟩ := row_form hr2
  have HR1 : Hid (w.ownsRow bh 45 1 (.slice ah nh ch) nh hs) := hr1
  have HR2 : Hid (w.ownsRow bi 48 1 (.slice ai ni ci) ni is) := hr2
  have hl1 : hs.length = nh := by have := hr1.1; omega
  have hl2 : is.length = ni := by have := hr2.1; omega
  clear hh hi hr1 hr2
  go_enter Tryz.func5, Tryz.ntmps5
  go_upto_block 0 with fail
  go_cut [3, 4] (fun _ _ wx => wx = w)
  case first =>
    go_wp2_with fail
    go_loopg [3, 4] nh (fun gh kv _ wr => ∃ k : Nat, gh = nh - k ∧ k ≤ nh ∧ kv = .int .i64 k ∧ wr = w)
    case atStart => exact ⟨0, rfl, Nat.zero_le _, rfl, rfl⟩
    case round =>
      obtain ⟨k, rfl, hk, rfl, rfl⟩ := hrel
      by_cases hlt : k < nh
      · have hlt' : (k : Int) < (nh : Int) := by omega
        obtain ⟨lo, c, hrow⟩ := HH.out k (by omega)
        obtain ⟨gh', rfl, hcell⟩ := row_slice HR1.out hlt (by omega)
        obtain ⟨x, hx⟩ : ∃ x, x = hs[k]'(by omega) := ⟨_, rfl⟩
        rw [← hx] at hrow hcell
        obtain ⟨ax, cx, rfl, hax⟩ := row_form hrow
        obtain ⟨q, hq⟩ : ∃ q : Int, q = -1 - (k : Int) := ⟨_, rfl⟩
        have hq' := hq.symm
        have hq9 : IntKind.i64.wrap q = q := by rw [IntKind.wrap_i64]; omega
        have HRW : Hid (wr.ownsRow lo 47 2 (.slice ax c cx) c (twos (.int .i64 q) (.int .i64 0) c)) := by rw [hq]; exact hrow
        clear hx hrow hq
        go_wp2_with fail
        go_loopg [4] c (fun gi iv wr2 => ∃ i : Nat, gi = c - i ∧ i ≤ c ∧ iv = .int .i64 i ∧ wr2 = wr)
        case atStart => exact ⟨0, rfl, Nat.zero_le _, rfl, rfl⟩
        case round =>
          obtain ⟨i, rfl, hic, rfl, rfl⟩ := hrel
          by_cases hi : i < c
          · have hi' : (i : Int) < (c : Int) := by omega
            obtain ⟨gx, rfl⟩ := hax (by omega)
            obtain ⟨t0, t1⟩ := twos_at (.int .i64 q) (.int .i64 0) c i hi
            have m0 := (HRW.out.cellAt (i * 2) (by omega)).trans t0
            have m1 := (HRW.out.cellAt (i * 2 + 1) (by omega)).trans t1
            have hc9 := row_len HRW.out
            clear t0 t1
            go_wp2_with fail
            go_roundg (c - (i + 1))
            case measure => omega
            case rel => exact ⟨i + 1, rfl, hi, by go_num, rfl⟩
          · have hi' : ¬ (i : Int) < (c : Int) := by omega
            go_wp2_with fail
            go_roundg (nh - (k + 1))
            case measure => omega
            case rel => exact ⟨k + 1, rfl, hlt, by go_num, rfl⟩
      · have hlt' : ¬ (k : Int) < (nh : Int) := by omega
        go_wp2_with fail
        go_meet
        rfl
  case rest =>
    obtain rfl := hcut
    go_wp2_with fail
    go_loopg [5, 6] ni (fun gh kv _ wr => ∃ k : Nat, gh = ni - k ∧ k ≤ ni ∧ kv = .int .i64 k ∧ wr = wc)
    case atStart => exact ⟨0, rfl, Nat.zero_le _, rfl, rfl⟩
    case round =>
      obtain ⟨k, rfl, hk, rfl, rfl⟩ := hrel
      by_cases hlt : k < ni
      · have hlt' : (k : Int) < (ni : Int) := by omega
        obtain ⟨lo, c, hrow⟩ := HI.out k (by omega)
        obtain ⟨gh', rfl, hcell⟩ := row_slice HR2.out hlt (by omega)
        obtain ⟨x, hx⟩ : ∃ x, x = is[k]'(by omega) := ⟨_, rfl⟩
        rw [← hx] at hrow hcell
        obtain ⟨ax, cx, rfl, hax⟩ := row_form hrow
        obtain ⟨q, hq⟩ : ∃ q : Int, q = -1 - (k : Int) := ⟨_, rfl⟩
        have hq' := hq.symm
        have hq9 : IntKind.i64.wrap q = q := by rw [IntKind.wrap_i64]; omega
        have HRW : Hid (wr.ownsRow lo 3 1 (.slice ax c cx) c (List.replicate c (.int .i64 q))) := by rw [hq]; exact hrow
        clear hx hrow hq
        go_wp2_with fail
        go_loopg [6] c (fun gi iv wr2 => ∃ i : Nat, gi = c - i ∧ i ≤ c ∧ iv = .int .i64 i ∧ wr2 = wr)
        case atStart => exact ⟨0, rfl, Nat.zero_le _, rfl, rfl⟩
        case round =>
          obtain ⟨i, rfl, hic, rfl, rfl⟩ := hrel
          by_cases hi : i < c
          · have hi' : (i : Int) < (c : Int) := by omega
            obtain ⟨gx, rfl⟩ := hax (by omega)
            have m0 : wr.cell? ⟨gx, i, none⟩ = some (.int .i64 q) := (HRW.out.cellAt i (by omega)).trans (by rw [List.getElem?_replicate, if_pos hi])
            have hc9 := row_len HRW.out
            have tq : (q != q) = false := by simp
            go_wp2_with fail
            go_roundg (c - (i + 1))
            case measure => omega
            case rel => exact ⟨i + 1, rfl, hi, by go_num, rfl⟩
          · have hi' : ¬ (i : Int) < (c : Int) := by omega
            go_wp2_with fail
            go_roundg (ni - (k + 1))
            case measure => omega
            case rel => exact ⟨k + 1, rfl, hlt, by go_num, rfl⟩
      · have hlt' : ¬ (k : Int) < (ni : Int) := by omega
        go_wp2_with fail
        go_ret
        exact ⟨rfl, rfl⟩

end Go.Proofs.YtlfpepehngkehaaGreat
/-
  All: the World: dictionaries, walks, the lists that came out; what lies where.
-/
namespace Go.Proofs.YtlfpepehngkehaaGreat
set_option linter.unusedSimpArgs false
set_option linter.unusedVariables false
open Go.RowKit

/-- a dictionary. -/
structure DT where
  P : Nat
  b : Nat
  B : Nat
  v : Value
  Wv : Value
  Cv : Value
  D : Dic

def DT.reads (d : DT) (j : Nat) : Prop := j = d.P ∨ j = d.b ∨ d.v.ownBlock = some j ∨ j = d.B ∨ d.Wv.ownBlock = some j ∨ d.Cv.ownBlock = some j
def DT.ok (d : DT) (w : World) : Prop := PairIn w d.P d.D d.b d.B d.v d.Wv d.Cv

theorem DT.ok.kept {d : DT} {w w' : World} {S : Nat → Prop} (h : d.ok w) (hk : Kept w w' S) (hS : ∀ j, d.reads j → ¬ S j) : d.ok w' :=
  ⟨(hk.cell (p := ⟨d.P, 0, none⟩) (cell_lt h.c0) (hS _ (.inl rfl))).trans h.c0, (hk.cell (p := ⟨d.P, 1, none⟩) (cell_lt h.c1) (hS _ (.inl rfl))).trans h.c1,
    set_kept h.st hk (hS _ (.inr (.inl rfl))) (fun k e => hS _ (.inr (.inr (.inl e)))),
    h.bk.kept hk (hS _ (.inr (.inr (.inr (.inl rfl))))) (fun k e => hS _ (.inr (.inr (.inr (.inr (.inl e)))))) (fun k e => hS _ (.inr (.inr (.inr (.inr (.inr e)))))), h.gd⟩

theorem DT.ok.lt {d : DT} {w : World} (h : d.ok w) : ∀ j, d.reads j → j < w.heap.size := by
  intro j hj
  rcases hj with rfl | rfl | hj | rfl | hj | hj
  · exact cell_lt h.c0
  · exact cell_lt h.st.cell
  · exact (h.st.own.lt j hj).2
  · exact cell_lt h.bk.c0
  · exact (h.bk.ow.lt j hj).2
  · exact (h.bk.oc.lt j hj).2

/-- a walk. -/
structure WT where
  X : Nat
  p : Nat
  P : Nat
  B : Nat
  F : Nat → Prop
  D : Dic
  Wv : Value
  Cv : Value
  lv : Value
  t : ByteArray
  l : List Nat

def WT.reads (x : WT) (j : Nat) : Prop := j = x.X ∨ x.F j ∨ j = x.P ∨ j = x.B ∨ x.Wv.ownBlock = some j ∨ x.Cv.ownBlock = some j ∨ x.lv.ownBlock = some j
def WT.moves (x : WT) (j : Nat) : Prop := j = x.p ∨ j = x.P
def WT.ok (x : WT) (WI : WalkIfAll) (w : World) : Prop := ∃ a, BothAt WI w x.X x.p x.P x.B x.F x.D x.Wv x.Cv x.lv x.t x.l a

theorem WT.ok.kept {x : WT} {WI : WalkIfAll} {w w' : World} {S : Nat → Prop} (h : x.ok WI w) (hk : Kept w w' S) (hS : ∀ j, x.reads j → ¬ S j) : x.ok WI w' := by
  obtain ⟨a, h⟩ := h
  exact ⟨a, (hk.cell (p := ⟨x.X, 0, none⟩) (cell_lt h.c0) (hS _ (.inl rfl))).trans h.c0, (hk.cell (p := ⟨x.X, 1, none⟩) (cell_lt h.c1) (hS _ (.inl rfl))).trans h.c1, WI.kept h.at_ hk (fun j hj => hS _ (.inr (.inl hj))),
    h.ref.kept hk (hS _ (.inr (.inr (.inl rfl)))) (hS _ (.inr (.inr (.inr (.inl rfl))))) (fun k e => hS _ (.inr (.inr (.inr (.inr (.inl e)))))) (fun k e => hS _ (.inr (.inr (.inr (.inr (.inr (.inl e))))))) (fun k e => hS _ (.inr (.inr (.inr (.inr (.inr (.inr e))))))),
    h.gd, h.ts, h.cr, h.fP, h.pB, h.pW, h.pC, h.pl, h.xp, h.xP⟩

theorem WT.ok.lt {x : WT} {WI : WalkIfAll} {w : World} (h : x.ok WI w) : ∀ j, x.reads j → j < w.heap.size := by
  obtain ⟨a, h⟩ := h
  intro j hj
  rcases hj with rfl | hj | rfl | rfl | hj | hj | hj
  · exact cell_lt h.c0
  · exact WI.lt h.at_ j hj
  · exact cell_lt h.ref.c0
  · exact cell_lt h.ref.bk.c0
  · exact (h.ref.bk.ow.lt j hj).2
  · exact (h.ref.bk.oc.lt j hj).2
  · exact (h.ref.row.lt j hj).2

theorem WT.ok.moves {x : WT} {WI : WalkIfAll} {w : World} (h : x.ok WI w) : ∀ j, x.moves j → x.reads j := by
  obtain ⟨a, h⟩ := h
  intro j hj
  rcases hj with rfl | rfl
  · exact .inr (.inl (WI.own h.at_).1)
  · exact .inr (.inr (.inl rfl))

/-- nothing below lo has turned but the World itself. -/
def BelowZ (lo Z : Nat) (w w' : World) : Prop := Kept w w' (fun j => j = Z ∨ lo ≤ j)

theorem BelowZ.trans {lo Z : Nat} {a b c : World} (h : BelowZ lo Z a b) (k : BelowZ lo Z b c) : BelowZ lo Z a c := Kept.trans h k (fun _ e => .inl e)
theorem BelowZ.below {lo Z : Nat} {w w' : World} (h : Below w.heap.size w w') : BelowZ lo Z w w' := Kept.of_below h _
theorem BelowZ.same {lo Z : Nat} {w w' : World} (h : Same w w') : BelowZ lo Z w w' := Kept.mono h (fun _ e => e.elim)
theorem BelowZ.kept {lo Z : Nat} {w w' : World} {S : Nat → Prop} (h : Kept w w' S) (hS : ∀ j, S j → j = Z ∨ lo ≤ j) : BelowZ lo Z w w' := Kept.mono h (fun j e => .inl (hS j e))

/-- the World's own blocks. -/
def Own (Z : Nat) (vd vw vh vi : Value) (j : Nat) : Prop := j = Z ∨ vd.ownBlock = some j ∨ vw.ownBlock = some j ∨ vh.ownBlock = some j ∨ vi.ownBlock = some j

structure AllInv (WI : WalkIfAll) (lo : Nat) (w : World) (Z : Nat) (vd vw vh vi : Value) (ds : List DT) (ws : List WT) (hs is : List Value) : Prop where
  c0 : w.cell? ⟨Z, 0, none⟩ = some vd
  c1 : w.cell? ⟨Z, 1, none⟩ = some vw
  c2 : w.cell? ⟨Z, 2, none⟩ = some vh
  c3 : w.cell? ⟨Z, 3, none⟩ = some vi
  fz : ∀ o, w.frozen? ⟨Z, o, none⟩ = false
  rd : w.ownsRow lo 37 1 vd ds.length (ds.map fun d => .pointer (some ⟨d.P, 0, none⟩))
  rw_ : w.ownsRow lo 42 1 vw ws.length (ws.map fun x => .pointer (some ⟨x.X, 0, none⟩))
  rh : ListsAt w lo 45 47 2 vh hs.length hs fullH
  ri : ListsAt w lo 48 3 1 vi is.length is fullI
  zlo : lo ≤ w.heap.size
  nd : vd.ownBlock ≠ some Z
  nw : vw.ownBlock ≠ some Z
  nh : vh.ownBlock ≠ some Z
  ni : vi.ownBlock ≠ some Z
  ndw : ∀ k, vd.ownBlock = some k → vw.ownBlock ≠ some k
  ndh : ∀ k, vd.ownBlock = some k → vh.ownBlock ≠ some k
  ndi : ∀ k, vd.ownBlock = some k → vi.ownBlock ≠ some k
  nwh : ∀ k, vw.ownBlock = some k → vh.ownBlock ≠ some k
  nwi : ∀ k, vw.ownBlock = some k → vi.ownBlock ≠ some k
  nhi : ∀ k, vh.ownBlock = some k → vi.ownBlock ≠ some k
  dok : ∀ d ∈ ds, d.ok w
  dsep : ∀ d ∈ ds, ∀ j, d.reads j → ¬ Own Z vd vw vh vi j ∧ ∀ x ∈ ws, ¬ x.moves j
  wok : ∀ x ∈ ws, x.ok WI w
  wsep : ∀ x ∈ ws, ∀ j, x.reads j → ¬ Own Z vd vw vh vi j
  wpair : ws.Pairwise fun x y => (∀ j, x.reads j → ¬ y.moves j) ∧ ∀ j, y.reads j → ¬ x.moves j
  wlo : ∀ x ∈ ws, ∀ j, x.moves j → lo ≤ j
  lsep : ∀ x, x ∈ hs ∨ x ∈ is → ∀ j, x.ownBlock = some j → ¬ Own Z vd vw vh vi j ∧ ∀ y ∈ ws, ¬ y.moves j

theorem ListsAt.kept {w w' : World} {base : Nat} {te tl : TypeId} {sz : Nat} {v : Value} {n : Nat} {vs : List Value} {full : Nat → Nat → List Value} {S : Nat → Prop} (h : ListsAt w base te tl sz v n vs full) (hk : Kept w w' S) (h1 : ∀ k, v.ownBlock = some k → ¬ S k) (h2 : ∀ x ∈ vs, ∀ k, x.ownBlock = some k → ¬ S k) : ListsAt w' base te tl sz v n vs full :=
  ⟨Kept.row h.1 hk h1, fun k hk' => by obtain ⟨lo, c, hr⟩ := h.2 k hk'; exact ⟨lo, c, Kept.row hr hk (h2 _ (List.getElem_mem hk'))⟩⟩

/-- what is written lies elsewhere: the World stands. -/
theorem AllInv.kept {WI : WalkIfAll} {lo : Nat} {w w' : World} {Z : Nat} {vd vw vh vi : Value} {ds : List DT} {ws : List WT} {hs is : List Value} {S : Nat → Prop} (h : AllInv WI lo w Z vd vw vh vi ds ws hs is) (hk : Kept w w' S)
    (h1 : ∀ j, Own Z vd vw vh vi j → ¬ S j) (h2 : ∀ d ∈ ds, ∀ j, d.reads j → ¬ S j) (h3 : ∀ x ∈ ws, ∀ j, x.reads j → ¬ S j) (h4 : ∀ x, x ∈ hs ∨ x ∈ is → ∀ j, x.ownBlock = some j → ¬ S j) : AllInv WI lo w' Z vd vw vh vi ds ws hs is := by
  have hZ : Z < w.heap.size := cell_lt h.c0
  have hSZ : ¬ S Z := h1 Z (.inl rfl)
  exact { h with
    c0 := (hk.cell (p := ⟨Z, 0, none⟩) hZ hSZ).trans h.c0
    c1 := (hk.cell (p := ⟨Z, 1, none⟩) hZ hSZ).trans h.c1
    c2 := (hk.cell (p := ⟨Z, 2, none⟩) hZ hSZ).trans h.c2
    c3 := (hk.cell (p := ⟨Z, 3, none⟩) hZ hSZ).trans h.c3
    fz := fun o => (hk.frozen (p := ⟨Z, o, none⟩) hZ hSZ).trans (h.fz o)
    zlo := Nat.le_trans h.zlo hk.size
    rd := Kept.row h.rd hk (fun k e => h1 k (.inr (.inl e)))
    rw_ := Kept.row h.rw_ hk (fun k e => h1 k (.inr (.inr (.inl e))))
    rh := h.rh.kept hk (fun k e => h1 k (.inr (.inr (.inr (.inl e))))) (fun x hx => h4 x (.inl hx))
    ri := h.ri.kept hk (fun k e => h1 k (.inr (.inr (.inr (.inr e))))) (fun x hx => h4 x (.inr hx))
    dok := fun d hd => (h.dok d hd).kept hk (h2 d hd)
    wok := fun x hx => (h.wok x hx).kept hk (h3 x hx) }

theorem AllInv.below {WI : WalkIfAll} {lo : Nat} {w w' : World} {Z : Nat} {vd vw vh vi : Value} {ds : List DT} {ws : List WT} {hs is : List Value} (h : AllInv WI lo w Z vd vw vh vi ds ws hs is) (hb : Below w.heap.size w w') : AllInv WI lo w' Z vd vw vh vi ds ws hs is :=
  h.kept (Kept.of_below hb (fun _ => False)) (fun _ _ e => e) (fun _ _ _ _ e => e) (fun _ _ _ _ e => e) (fun _ _ _ _ e => e)

end Go.Proofs.YtlfpepehngkehaaGreat
/-
  All: a dictionary more, a walk more.
-/
namespace Go.Proofs.YtlfpepehngkehaaGreat
set_option linter.unusedSimpArgs false
set_option linter.unusedVariables false
open Go.RowKit

theorem Tryz.infoPairP : (Tryz.prog.info? 37).map (fun i => (i.zero, i.size, i.bytes)) = some (some (.pointer none), 1, 8) := by kernel_rfl

theorem one1p (a : Option Addr) : ∀ u ∈ [Value.pointer a], u.oneCell' = true := by
  intro u hu
  simp at hu
  subst hu
  rfl

/-- one of the World's rows has grown by x. -/
structure Grew (w w' : World) (Z off : Nat) (te : TypeId) (v v' : Value) (lo n : Nat) (xs : List Value) (x : Value) : Prop where
  cell : w'.cell? ⟨Z, off, none⟩ = some v'
  row : w'.ownsRow lo te 1 v' (n + 1) (xs ++ [x])
  at_ : v'.ownBlock = v.ownBlock ∨ ∃ k, v'.ownBlock = some k ∧ w.heap.size ≤ k
  kept : Kept w w' (fun j => j = Z ∨ v.ownBlock = some j)
  other : ∀ o, o ≠ off → w'.cell? ⟨Z, o, none⟩ = w.cell? ⟨Z, o, none⟩
  frz : ∀ o, w'.frozen? ⟨Z, o, none⟩ = w.frozen? ⟨Z, o, none⟩

theorem grew_end {w w2 : World} {Z off lo n : Nat} {te : TypeId} {v v' x : Value} {xs : List Value} {o : Obj} (hZ : Z < w.heap.size) (hc : w.cell? ⟨Z, off, none⟩ = some v) (d2 : v.ownBlock ≠ some Z)
    (hown : w2.ownsRow lo te 1 v' (n + 1) (xs ++ [x])) (hg : (w.alloc o).grownBy w2 v.ownBlock) (hat : v'.ownBlock = v.ownBlock ∨ v'.ownBlock = some (w.alloc o).heap.size) :
    w2.cell? ⟨Z, off, none⟩ = some v ∧ (∀ y, w2.frozen? ⟨Z, y, none⟩ = w.frozen? ⟨Z, y, none⟩) ∧ Grew w (w2.setCell ⟨Z, off, none⟩ v') Z off te v v' lo n xs x := by
  have hk2 : Kept w w2 (fun j => v.ownBlock = some j) := ((Kept.refl w _).alloc o).grown hg (fun k e => .inl e)
  have hcell : ∀ y, w2.cell? ⟨Z, y, none⟩ = w.cell? ⟨Z, y, none⟩ := fun y => hk2.cell (p := ⟨Z, y, none⟩) hZ d2
  have hfrz : ∀ y, w2.frozen? ⟨Z, y, none⟩ = w.frozen? ⟨Z, y, none⟩ := fun y => hk2.frozen (p := ⟨Z, y, none⟩) hZ d2
  have hc2 : w2.cell? ⟨Z, off, none⟩ = some v := (hcell off).trans hc
  have hat' : v'.ownBlock = v.ownBlock ∨ ∃ k, v'.ownBlock = some k ∧ w.heap.size ≤ k := by
    rcases hat with h | h
    · exact .inl h
    · exact .inr ⟨_, h, by simp⟩
  refine ⟨hc2, hfrz, ⟨World.cell?_setCell_same _ _ _ hc2, ?_, hat', (hk2.mono (fun j e => .inl (.inr e))).setCell _ _ (.inl (.inl rfl)), fun y hy => ?_, fun y => ?_⟩⟩
  · refine Kept.row hown ((Kept.refl w2 (fun j => j = Z)).setCell _ _ (.inl rfl)) (fun k e e2 => ?_)
    subst e2
    rcases hat' with h | ⟨k', h, hlt⟩
    · exact d2 (h ▸ e)
    · rw [h] at e; cases e; omega
  · rw [World.cell?_setCell_other _ _ _ _ (by simp [hy])]
    exact hcell y
  · simp [hfrz]

set_option maxHeartbeats 1000000 in
theorem joins_nil (w : World) (Z : Nat) (ok : Bool) :
    Calls Tryz.prog 8 #[.pointer (some ⟨Z, 0, none⟩), .pointer none, .bool ok] w fun e w' => e = .returned (.bool ok) ∧ w' = w := by
  go_enter Tryz.func8, Tryz.ntmps8
  go_wp2
  go_ret
  exact ⟨rfl, rfl⟩

set_option maxHeartbeats 1000000 in
theorem joins_any (w : World) (Z P lo n : Nat) (ok : Bool) (v : Value) (xs : List Value) (hc : w.cell? ⟨Z, 0, none⟩ = some v) (hf : w.frozen? ⟨Z, 0, none⟩ = false) (hr : w.ownsRow lo 37 1 v n xs) (hd : v.ownBlock ≠ some Z) (hn : n ≤ 1000000000000) (hlo : lo ≤ w.heap.size) :
    Calls Tryz.prog 8 #[.pointer (some ⟨Z, 0, none⟩), .pointer (some ⟨P, 0, none⟩), .bool ok] w fun e w' => e = .returned (.bool ok) ∧ ∃ v', Grew w w' Z 0 37 v v' lo n xs (.pointer (some ⟨P, 0, none⟩)) := by
  obtain ⟨i0, hi, hz0, hz1, hz2⟩ := info_parts Tryz.infoPairP
  have hZ := cell_lt hc
  have HD : Hid (v.ownBlock ≠ some Z) := hd
  clear hd
  go_enter Tryz.func8, Tryz.ntmps8
  go_wp2_with (at_builtin; refine wpList_append_own_at _ rfl _ _ 24 rfl lo 37 i0 _ 1 8 Tryz.underlying24 hi hz0 hz1 hz2 rfl (by decide) _ _ _ rfl (hr.alloc _) ⟨w.heap.size, 0, none⟩ 1 1 [.pointer (some ⟨P, 0, none⟩)] rfl rfl (cell_one_new _ _ _) (one1p _) (by unfold maxLen; omega) (by omega) (by first | omega | (simp; omega)) ?_)
  intro v' w2 hown' hgrow _ hat
  obtain ⟨hc2, hf2, hres⟩ := grew_end hZ hc HD.out hown' hgrow (by simpa using hat)
  have hf3 := (hf2 0).trans hf
  obtain ⟨a', cap', rfl, _⟩ := row_form hown'
  have HE : Hid (Grew w (w2.setCell ⟨Z, 0, none⟩ (.slice a' (n + 1) cap')) Z 0 37 v (.slice a' (n + 1) cap') lo n xs (.pointer (some ⟨P, 0, none⟩))) := hres
  clear hres hown' hgrow hat hf2
  go_wp2
  go_ret
  exact ⟨rfl, _, HE.out⟩

end Go.Proofs.YtlfpepehngkehaaGreat
/-
  All: the World with a dictionary more, a walk more, a list more.
-/
namespace Go.Proofs.YtlfpepehngkehaaGreat
set_option linter.unusedSimpArgs false
set_option linter.unusedVariables false
open Go.RowKit

theorem at_sep {v v' : Value} {n j : Nat} (hat : v'.ownBlock = v.ownBlock ∨ ∃ k, v'.ownBlock = some k ∧ n ≤ k) (hj : j < n) (h : ¬ v.ownBlock = some j) : ¬ v'.ownBlock = some j := by
  intro e
  rcases hat with a | ⟨k, a, hk⟩
  · exact h (a ▸ e)
  · rw [a] at e; cases e; omega

theorem at_ne {v v' u : Value} {w : World} {B : Nat} {t : TypeId} {sz m : Nat} {xs : List Value} (hat : v'.ownBlock = v.ownBlock ∨ ∃ k, v'.ownBlock = some k ∧ w.heap.size ≤ k) (hu : w.ownsRow B t sz u m xs) (h : ∀ k, v.ownBlock = some k → u.ownBlock ≠ some k) : ∀ k, v'.ownBlock = some k → u.ownBlock ≠ some k := by
  intro k e e2
  exact at_sep hat (hu.lt k e2).2 (fun e3 => h k e3 e2) e

theorem at_Z {v v' : Value} {n Z : Nat} (hat : v'.ownBlock = v.ownBlock ∨ ∃ k, v'.ownBlock = some k ∧ n ≤ k) (hZ : Z < n) (h : v.ownBlock ≠ some Z) : v'.ownBlock ≠ some Z := at_sep hat hZ h

variable {WI : WalkIfAll} {lo : Nat} {w w' : World} {Z : Nat} {vd vw vh vi : Value} {ds : List DT} {ws : List WT} {hs is : List Value}

theorem AllInv.dict (h : AllInv WI lo w Z vd vw vh vi ds ws hs is) (d : DT) (hd : d.ok w) (hsep : ∀ j, d.reads j → ¬ Own Z vd vw vh vi j ∧ ∀ x ∈ ws, ¬ x.moves j) {v' : Value}
    (hg : Grew w w' Z 0 37 vd v' lo ds.length (ds.map fun d => .pointer (some ⟨d.P, 0, none⟩)) (.pointer (some ⟨d.P, 0, none⟩))) : AllInv WI lo w' Z v' vw vh vi (ds ++ [d]) ws hs is := by
  have hZ : Z < w.heap.size := cell_lt h.c0
  have ho : ∀ j, j < w.heap.size → ¬ Own Z vd vw vh vi j → ¬ Own Z v' vw vh vi j := fun j hj h1 h2 => by
    rcases h2 with e | e | e
    · exact h1 (.inl e)
    · exact at_sep hg.at_ hj (fun e2 => h1 (.inr (.inl e2))) e
    · exact h1 (.inr (.inr e))
  have hS : ∀ j, ¬ Own Z vd vw vh vi j → ¬ (j = Z ∨ vd.ownBlock = some j) := fun j h1 h2 => h2.elim (fun e => h1 (.inl e)) (fun e => h1 (.inr (.inl e)))
  exact {
    c0 := hg.cell
    c1 := (hg.other 1 (by decide)).trans h.c1
    c2 := (hg.other 2 (by decide)).trans h.c2
    c3 := (hg.other 3 (by decide)).trans h.c3
    fz := fun o => (hg.frz o).trans (h.fz o)
    rd := by rw [List.length_append, List.map_append]; exact hg.row
    rw_ := Kept.row h.rw_ hg.kept (fun k e e2 => by rcases e2 with rfl | e2; exact h.nw e; exact h.ndw k e2 e)
    rh := h.rh.kept hg.kept (fun k e e2 => by rcases e2 with rfl | e2; exact h.nh e; exact h.ndh k e2 e) (fun x hx k e => hS k (h.lsep x (.inl hx) k e).1)
    ri := h.ri.kept hg.kept (fun k e e2 => by rcases e2 with rfl | e2; exact h.ni e; exact h.ndi k e2 e) (fun x hx k e => hS k (h.lsep x (.inr hx) k e).1)
    zlo := Nat.le_trans h.zlo hg.kept.size
    nd := at_Z hg.at_ hZ h.nd
    nw := h.nw
    nh := h.nh
    ni := h.ni
    ndw := at_ne hg.at_ h.rw_ h.ndw
    ndh := at_ne hg.at_ h.rh.1 h.ndh
    ndi := at_ne hg.at_ h.ri.1 h.ndi
    nwh := h.nwh
    nwi := h.nwi
    nhi := h.nhi
    dok := fun e he => by
      rcases List.mem_append.1 he with he | he
      · exact (h.dok e he).kept hg.kept (fun j hj => hS j (h.dsep e he j hj).1)
      · obtain rfl := List.mem_singleton.1 he
        exact hd.kept hg.kept (fun j hj => hS j (hsep j hj).1)
    dsep := fun e he j hj => by
      rcases List.mem_append.1 he with he | he
      · exact ⟨ho j ((h.dok e he).lt j hj) (h.dsep e he j hj).1, (h.dsep e he j hj).2⟩
      · obtain rfl := List.mem_singleton.1 he
        exact ⟨ho j (hd.lt j hj) (hsep j hj).1, (hsep j hj).2⟩
    wok := fun x hx => (h.wok x hx).kept hg.kept (fun j hj => hS j (h.wsep x hx j hj))
    wsep := fun x hx j hj => ho j ((h.wok x hx).lt j hj) (h.wsep x hx j hj)
    wpair := h.wpair
    wlo := h.wlo
    lsep := fun x hx j hj => by
      refine ⟨ho j ?_ (h.lsep x hx j hj).1, (h.lsep x hx j hj).2⟩
      rcases hx with hx | hx
      · obtain ⟨k, hk, rfl⟩ := List.mem_iff_getElem.1 hx
        obtain ⟨_, _, hr⟩ := h.rh.2 k hk
        exact (hr.lt j hj).2
      · obtain ⟨k, hk, rfl⟩ := List.mem_iff_getElem.1 hx
        obtain ⟨_, _, hr⟩ := h.ri.2 k hk
        exact (hr.lt j hj).2 }

end Go.Proofs.YtlfpepehngkehaaGreat
/-
  All: the World with a walk more, with a walk moved.
-/
namespace Go.Proofs.YtlfpepehngkehaaGreat
set_option linter.unusedSimpArgs false
set_option linter.unusedVariables false
open Go.RowKit

variable {WI : WalkIfAll} {lo : Nat} {w w' : World} {Z : Nat} {vd vw vh vi : Value} {ds : List DT} {ws : List WT} {hs is : List Value}

theorem AllInv.list_lt (h : AllInv WI lo w Z vd vw vh vi ds ws hs is) (x : Value) (hx : x ∈ hs ∨ x ∈ is) (j : Nat) (hj : x.ownBlock = some j) : j < w.heap.size := by
  rcases hx with hx | hx
  · obtain ⟨k, hk, rfl⟩ := List.mem_iff_getElem.1 hx
    obtain ⟨_, _, hr⟩ := h.rh.2 k hk
    exact (hr.lt j hj).2
  · obtain ⟨k, hk, rfl⟩ := List.mem_iff_getElem.1 hx
    obtain ⟨_, _, hr⟩ := h.ri.2 k hk
    exact (hr.lt j hj).2

theorem AllInv.own_lt (h : AllInv WI lo w Z vd vw vh vi ds ws hs is) (j : Nat) (hj : Own Z vd vw vh vi j) : j < w.heap.size := by
  rcases hj with rfl | e | e | e | e
  · exact cell_lt h.c0
  · exact (h.rd.lt j e).2
  · exact (h.rw_.lt j e).2
  · exact (h.rh.1.lt j e).2
  · exact (h.ri.1.lt j e).2

theorem AllInv.walk (h : AllInv WI lo w Z vd vw vh vi ds ws hs is) (x : WT) (hx : x.ok WI w) (hown : ∀ j, x.reads j → ¬ Own Z vd vw vh vi j) (hmv : ∀ y ∈ ws, (∀ j, y.reads j → ¬ x.moves j) ∧ ∀ j, x.reads j → ¬ y.moves j)
    (hdm : ∀ d ∈ ds, ∀ j, d.reads j → ¬ x.moves j) (hlm : ∀ z, z ∈ hs ∨ z ∈ is → ∀ j, z.ownBlock = some j → ¬ x.moves j) (hxl : ∀ j, x.moves j → lo ≤ j) {v' : Value}
    (hg : Grew w w' Z 1 42 vw v' lo ws.length (ws.map fun x => .pointer (some ⟨x.X, 0, none⟩)) (.pointer (some ⟨x.X, 0, none⟩))) : AllInv WI lo w' Z vd v' vh vi ds (ws ++ [x]) hs is := by
  have hZ : Z < w.heap.size := cell_lt h.c0
  have ho : ∀ j, j < w.heap.size → ¬ Own Z vd vw vh vi j → ¬ Own Z vd v' vh vi j := fun j hj h1 h2 => by
    rcases h2 with e | e | e | e
    · exact h1 (.inl e)
    · exact h1 (.inr (.inl e))
    · exact at_sep hg.at_ hj (fun e2 => h1 (.inr (.inr (.inl e2)))) e
    · exact h1 (.inr (.inr (.inr e)))
  have hS : ∀ j, ¬ Own Z vd vw vh vi j → ¬ (j = Z ∨ vw.ownBlock = some j) := fun j h1 h2 => h2.elim (fun e => h1 (.inl e)) (fun e => h1 (.inr (.inr (.inl e))))
  have hall : ∀ (Q : WT → Prop), (∀ y ∈ ws, Q y) → Q x → ∀ y ∈ ws ++ [x], Q y := fun Q h1 h2 y hy => by
    rcases List.mem_append.1 hy with hy | hy
    · exact h1 y hy
    · obtain rfl := List.mem_singleton.1 hy
      exact h2
  exact {
    c0 := (hg.other 0 (by decide)).trans h.c0
    c1 := hg.cell
    c2 := (hg.other 2 (by decide)).trans h.c2
    c3 := (hg.other 3 (by decide)).trans h.c3
    fz := fun o => (hg.frz o).trans (h.fz o)
    rd := Kept.row h.rd hg.kept (fun k e e2 => by rcases e2 with rfl | e2; exact h.nd e; exact h.ndw k e e2)
    rw_ := by rw [List.length_append, List.map_append]; exact hg.row
    rh := h.rh.kept hg.kept (fun k e e2 => by rcases e2 with rfl | e2; exact h.nh e; exact h.nwh k e2 e) (fun x hx k e => hS k (h.lsep x (.inl hx) k e).1)
    ri := h.ri.kept hg.kept (fun k e e2 => by rcases e2 with rfl | e2; exact h.ni e; exact h.nwi k e2 e) (fun x hx k e => hS k (h.lsep x (.inr hx) k e).1)
    zlo := Nat.le_trans h.zlo hg.kept.size
    nd := h.nd
    nw := at_Z hg.at_ hZ h.nw
    nh := h.nh
    ni := h.ni
    ndw := fun k e e2 => at_ne hg.at_ h.rd (fun k e e2 => h.ndw k e2 e) k e2 e
    ndh := h.ndh
    ndi := h.ndi
    nwh := at_ne hg.at_ h.rh.1 h.nwh
    nwi := at_ne hg.at_ h.ri.1 h.nwi
    nhi := h.nhi
    dok := fun d hd => (h.dok d hd).kept hg.kept (fun j hj => hS j (h.dsep d hd j hj).1)
    dsep := fun d hd j hj => ⟨ho j ((h.dok d hd).lt j hj) (h.dsep d hd j hj).1, hall (fun y => ¬ y.moves j) (h.dsep d hd j hj).2 (hdm d hd j hj)⟩
    wok := hall (fun y => y.ok WI w') (fun y hy => (h.wok y hy).kept hg.kept (fun j hj => hS j (h.wsep y hy j hj))) (hx.kept hg.kept (fun j hj => hS j (hown j hj)))
    wsep := hall (fun y => ∀ j, y.reads j → ¬ Own Z vd v' vh vi j) (fun y hy j hj => ho j ((h.wok y hy).lt j hj) (h.wsep y hy j hj)) (fun j hj => ho j (hx.lt j hj) (hown j hj))
    wpair := by
      refine List.pairwise_append.2 ⟨h.wpair, List.pairwise_singleton _ _, fun y hy z hz => ?_⟩
      obtain rfl := List.mem_singleton.1 hz
      exact hmv y hy
    wlo := hall (fun y => ∀ j, y.moves j → lo ≤ j) h.wlo hxl
    lsep := fun z hz j hj => ⟨ho j (h.list_lt z hz j hj) (h.lsep z hz j hj).1, hall (fun y => ¬ y.moves j) (h.lsep z hz j hj).2 (hlm z hz j hj)⟩ }

/-- a walk has moved. -/
theorem AllInv.moved (h : AllInv WI lo w Z vd vw vh vi ds ws hs is) {i : Nat} (hi : i < ws.length) (hk : Kept w w' (fun j => ws[i].moves j)) (hx : ws[i].ok WI w') : AllInv WI lo w' Z vd vw vh vi ds ws hs is := by
  have hm : ws[i] ∈ ws := List.getElem_mem hi
  have hZ : Z < w.heap.size := cell_lt h.c0
  have hO : ∀ j, Own Z vd vw vh vi j → ¬ ws[i].moves j := fun j h1 h2 => h.wsep _ hm j ((h.wok _ hm).moves j h2) h1
  exact { h with
    c0 := (hk.cell (p := ⟨Z, 0, none⟩) hZ (hO Z (.inl rfl))).trans h.c0
    c1 := (hk.cell (p := ⟨Z, 1, none⟩) hZ (hO Z (.inl rfl))).trans h.c1
    c2 := (hk.cell (p := ⟨Z, 2, none⟩) hZ (hO Z (.inl rfl))).trans h.c2
    c3 := (hk.cell (p := ⟨Z, 3, none⟩) hZ (hO Z (.inl rfl))).trans h.c3
    fz := fun o => (hk.frozen (p := ⟨Z, o, none⟩) hZ (hO Z (.inl rfl))).trans (h.fz o)
    zlo := Nat.le_trans h.zlo hk.size
    rd := Kept.row h.rd hk (fun k e => hO k (.inr (.inl e)))
    rw_ := Kept.row h.rw_ hk (fun k e => hO k (.inr (.inr (.inl e))))
    rh := h.rh.kept hk (fun k e => hO k (.inr (.inr (.inr (.inl e))))) (fun x hx k e => (h.lsep x (.inl hx) k e).2 _ hm)
    ri := h.ri.kept hk (fun k e => hO k (.inr (.inr (.inr (.inr e))))) (fun x hx k e => (h.lsep x (.inr hx) k e).2 _ hm)
    dok := fun d hd => (h.dok d hd).kept hk (fun j hj => (h.dsep d hd j hj).2 _ hm)
    wok := fun y hy => by
      obtain ⟨k, hk', rfl⟩ := List.mem_iff_getElem.1 hy
      rcases Nat.lt_trichotomy k i with c | c | c
      · exact (h.wok _ hy).kept hk (List.pairwise_iff_getElem.1 h.wpair k i hk' hi c).1
      · subst c; exact hx
      · exact (h.wok _ hy).kept hk (List.pairwise_iff_getElem.1 h.wpair i k hi hk' c).2 }

end Go.Proofs.YtlfpepehngkehaaGreat
/-
  All: the World with a list more.
-/
namespace Go.Proofs.YtlfpepehngkehaaGreat
set_option linter.unusedSimpArgs false
set_option linter.unusedVariables false
open Go.RowKit

variable {WI : WalkIfAll} {lo : Nat} {w w' : World} {Z : Nat} {vd vw vh vi : Value} {ds : List DT} {ws : List WT} {hs is : List Value}

theorem fullOf_own (v : Value) : (fullOf v).ownBlock = v.ownBlock := by
  cases v with
  | slice a n c => cases a <;> rfl
  | _ => rfl

/-- a list that came out just now lies in nothing of the World. -/
def Fresh (Z : Nat) (vd vw vh vi : Value) (ds : List DT) (ws : List WT) (hs is : List Value) (lv : Value) : Prop :=
  ∀ k, lv.ownBlock = some k → ¬ Own Z vd vw vh vi k ∧ (∀ d ∈ ds, ¬ d.reads k) ∧ (∀ x ∈ ws, ¬ x.reads k) ∧ ∀ z, z ∈ hs ∨ z ∈ is → z.ownBlock ≠ some k

theorem AllInv.fresh (h : AllInv WI lo w Z vd vw vh vi ds ws hs is) {lv : Value} (hl : ∀ k, lv.ownBlock = some k → w.heap.size ≤ k) : Fresh Z vd vw vh vi ds ws hs is lv := fun k hk => by
  have := hl k hk
  exact ⟨fun e => by have := h.own_lt k e; omega, fun d hd e => by have := (h.dok d hd).lt k e; omega, fun x hx e => by have := (h.wok x hx).lt k e; omega, fun z hz e => by have := h.list_lt z hz k e; omega⟩

theorem lists_more {te tl : TypeId} {sz : Nat} {v v' lv : Value} {off lo2 : Nat} {vs : List Value} {full : Nat → Nat → List Value} (h : ListsAt w lo te tl sz v vs.length vs full) (ht : Took w w' Z off te tl sz v lv v' lo lo2 vs.length vs (full vs.length))
    (hS : ∀ x ∈ vs, ∀ k, x.ownBlock = some k → ¬ (k = Z ∨ v.ownBlock = some k ∨ lv.ownBlock = some k)) : ListsAt w' lo te tl sz v' (vs ++ [fullOf lv]).length (vs ++ [fullOf lv]) full := by
  refine ⟨by rw [List.length_append]; exact ht.row, fun k hk => ?_⟩
  by_cases hlt : k < vs.length
  · obtain ⟨l1, c, hr⟩ := h.2 k hlt
    refine ⟨l1, c, ?_⟩
    rw [List.getElem_append_left hlt]
    exact Kept.row hr ht.kept (hS _ (List.getElem_mem hlt))
  · have e : k = vs.length := by simp at hk; omega
    subst e
    obtain ⟨c, hr⟩ := ht.list
    refine ⟨lo2, c, ?_⟩
    rw [List.getElem_append_right (Nat.le_refl _)]
    simpa using hr

theorem AllInv.ints (h : AllInv WI lo w Z vd vw vh vi ds ws hs is) {lv v' : Value} {lo2 : Nat} (hf : Fresh Z vd vw vh vi ds ws hs is lv) (ht : Took w w' Z 3 48 3 1 vi lv v' lo lo2 is.length is (fullI is.length)) (hl : ∀ k, lv.ownBlock = some k → k < w.heap.size) :
    AllInv WI lo w' Z vd vw vh v' ds ws hs (is ++ [fullOf lv]) := by
  have hZ : Z < w.heap.size := cell_lt h.c0
  have ho : ∀ j, j < w.heap.size → ¬ Own Z vd vw vh vi j → ¬ Own Z vd vw vh v' j := fun j hj h1 h2 => by
    rcases h2 with e | e | e | e | e
    · exact h1 (.inl e)
    · exact h1 (.inr (.inl e))
    · exact h1 (.inr (.inr (.inl e)))
    · exact h1 (.inr (.inr (.inr (.inl e))))
    · exact at_sep ht.at_ hj (fun e2 => h1 (.inr (.inr (.inr (.inr e2))))) e
  have hS : ∀ j, ¬ Own Z vd vw vh vi j → ¬ lv.ownBlock = some j → ¬ (j = Z ∨ vi.ownBlock = some j ∨ lv.ownBlock = some j) := fun j h1 h3 h2 => by
    rcases h2 with e | e | e
    · exact h1 (.inl e)
    · exact h1 (.inr (.inr (.inr (.inr e))))
    · exact h3 e
  have hL : ∀ x, x ∈ hs ∨ x ∈ is → ∀ k, x.ownBlock = some k → ¬ (k = Z ∨ vi.ownBlock = some k ∨ lv.ownBlock = some k) := fun x hx k e => hS k (h.lsep x hx k e).1 (fun e2 => (hf k e2).2.2.2 x hx e)
  have hD : ∀ d ∈ ds, ∀ j, d.reads j → ¬ (j = Z ∨ vi.ownBlock = some j ∨ lv.ownBlock = some j) := fun d hd j hj => hS j (h.dsep d hd j hj).1 (fun e2 => (hf j e2).2.1 d hd hj)
  have hW : ∀ x ∈ ws, ∀ j, x.reads j → ¬ (j = Z ∨ vi.ownBlock = some j ∨ lv.ownBlock = some j) := fun x hx j hj => hS j (h.wsep x hx j hj) (fun e2 => (hf j e2).2.2.1 x hx hj)
  exact {
    c0 := (ht.other 0 (by decide)).trans h.c0
    c1 := (ht.other 1 (by decide)).trans h.c1
    c2 := (ht.other 2 (by decide)).trans h.c2
    c3 := ht.cell
    fz := fun o => (ht.frz o).trans (h.fz o)
    rd := Kept.row h.rd ht.kept (fun k e e2 => by rcases e2 with rfl | e2 | e2; exact h.nd e; exact h.ndi k e e2; exact (hf k e2).1 (.inr (.inl e)))
    rw_ := Kept.row h.rw_ ht.kept (fun k e e2 => by rcases e2 with rfl | e2 | e2; exact h.nw e; exact h.nwi k e e2; exact (hf k e2).1 (.inr (.inr (.inl e))))
    rh := h.rh.kept ht.kept (fun k e e2 => by rcases e2 with rfl | e2 | e2; exact h.nh e; exact h.nhi k e e2; exact (hf k e2).1 (.inr (.inr (.inr (.inl e))))) (fun x hx => hL x (.inl hx))
    ri := lists_more h.ri ht (fun x hx => hL x (.inr hx))
    zlo := Nat.le_trans h.zlo ht.kept.size
    nd := h.nd
    nw := h.nw
    nh := h.nh
    ni := at_Z ht.at_ hZ h.ni
    ndw := h.ndw
    ndh := h.ndh
    ndi := fun k e e2 => at_ne ht.at_ h.rd (fun k e e2 => h.ndi k e2 e) k e2 e
    nwh := h.nwh
    nwi := fun k e e2 => at_ne ht.at_ h.rw_ (fun k e e2 => h.nwi k e2 e) k e2 e
    nhi := fun k e e2 => at_ne ht.at_ h.rh.1 (fun k e e2 => h.nhi k e2 e) k e2 e
    dok := fun d hd => (h.dok d hd).kept ht.kept (hD d hd)
    dsep := fun d hd j hj => ⟨ho j ((h.dok d hd).lt j hj) (h.dsep d hd j hj).1, (h.dsep d hd j hj).2⟩
    wok := fun x hx => (h.wok x hx).kept ht.kept (hW x hx)
    wsep := fun x hx j hj => ho j ((h.wok x hx).lt j hj) (h.wsep x hx j hj)
    wpair := h.wpair
    wlo := h.wlo
    lsep := fun z hz j hj => by
      have hnew : lv.ownBlock = some j → ¬ Own Z vd vw vh v' j ∧ ∀ y ∈ ws, ¬ y.moves j := fun e => ⟨ho j (hl j e) (hf j e).1, fun y hy hm => (hf j e).2.2.1 y hy ((h.wok y hy).moves j hm)⟩
      have hold : z ∈ hs ∨ z ∈ is → ¬ Own Z vd vw vh v' j ∧ ∀ y ∈ ws, ¬ y.moves j := fun hz => ⟨ho j (h.list_lt z hz j hj) (h.lsep z hz j hj).1, (h.lsep z hz j hj).2⟩
      rcases hz with hz | hz
      · exact hold (.inl hz)
      · rcases List.mem_append.1 hz with hz | hz
        · exact hold (.inr hz)
        · obtain rfl := List.mem_singleton.1 hz
          exact hnew (by rw [← fullOf_own]; exact hj) }

theorem AllInv.hits (h : AllInv WI lo w Z vd vw vh vi ds ws hs is) {lv v' : Value} {lo2 : Nat} (hf : Fresh Z vd vw vh vi ds ws hs is lv) (ht : Took w w' Z 2 45 47 2 vh lv v' lo lo2 hs.length hs (fullH hs.length)) (hl : ∀ k, lv.ownBlock = some k → k < w.heap.size) :
    AllInv WI lo w' Z vd vw v' vi ds ws (hs ++ [fullOf lv]) is := by
  have hZ : Z < w.heap.size := cell_lt h.c0
  have ho : ∀ j, j < w.heap.size → ¬ Own Z vd vw vh vi j → ¬ Own Z vd vw v' vi j := fun j hj h1 h2 => by
    rcases h2 with e | e | e | e | e
    · exact h1 (.inl e)
    · exact h1 (.inr (.inl e))
    · exact h1 (.inr (.inr (.inl e)))
    · exact at_sep ht.at_ hj (fun e2 => h1 (.inr (.inr (.inr (.inl e2))))) e
    · exact h1 (.inr (.inr (.inr (.inr e))))
  have hS : ∀ j, ¬ Own Z vd vw vh vi j → ¬ lv.ownBlock = some j → ¬ (j = Z ∨ vh.ownBlock = some j ∨ lv.ownBlock = some j) := fun j h1 h3 h2 => by
    rcases h2 with e | e | e
    · exact h1 (.inl e)
    · exact h1 (.inr (.inr (.inr (.inl e))))
    · exact h3 e
  have hL : ∀ x, x ∈ hs ∨ x ∈ is → ∀ k, x.ownBlock = some k → ¬ (k = Z ∨ vh.ownBlock = some k ∨ lv.ownBlock = some k) := fun x hx k e => hS k (h.lsep x hx k e).1 (fun e2 => (hf k e2).2.2.2 x hx e)
  have hD : ∀ d ∈ ds, ∀ j, d.reads j → ¬ (j = Z ∨ vh.ownBlock = some j ∨ lv.ownBlock = some j) := fun d hd j hj => hS j (h.dsep d hd j hj).1 (fun e2 => (hf j e2).2.1 d hd hj)
  have hW : ∀ x ∈ ws, ∀ j, x.reads j → ¬ (j = Z ∨ vh.ownBlock = some j ∨ lv.ownBlock = some j) := fun x hx j hj => hS j (h.wsep x hx j hj) (fun e2 => (hf j e2).2.2.1 x hx hj)
  exact {
    c0 := (ht.other 0 (by decide)).trans h.c0
    c1 := (ht.other 1 (by decide)).trans h.c1
    c2 := ht.cell
    c3 := (ht.other 3 (by decide)).trans h.c3
    fz := fun o => (ht.frz o).trans (h.fz o)
    rd := Kept.row h.rd ht.kept (fun k e e2 => by rcases e2 with rfl | e2 | e2; exact h.nd e; exact h.ndh k e e2; exact (hf k e2).1 (.inr (.inl e)))
    rw_ := Kept.row h.rw_ ht.kept (fun k e e2 => by rcases e2 with rfl | e2 | e2; exact h.nw e; exact h.nwh k e e2; exact (hf k e2).1 (.inr (.inr (.inl e))))
    rh := lists_more h.rh ht (fun x hx => hL x (.inl hx))
    ri := h.ri.kept ht.kept (fun k e e2 => by rcases e2 with rfl | e2 | e2; exact h.ni e; exact h.nhi k e2 e; exact (hf k e2).1 (.inr (.inr (.inr (.inr e))))) (fun x hx => hL x (.inr hx))
    zlo := Nat.le_trans h.zlo ht.kept.size
    nd := h.nd
    nw := h.nw
    nh := at_Z ht.at_ hZ h.nh
    ni := h.ni
    ndw := h.ndw
    ndh := fun k e e2 => at_ne ht.at_ h.rd (fun k e e2 => h.ndh k e2 e) k e2 e
    ndi := h.ndi
    nwh := fun k e e2 => at_ne ht.at_ h.rw_ (fun k e e2 => h.nwh k e2 e) k e2 e
    nwi := h.nwi
    nhi := at_ne ht.at_ h.ri.1 h.nhi
    dok := fun d hd => (h.dok d hd).kept ht.kept (hD d hd)
    dsep := fun d hd j hj => ⟨ho j ((h.dok d hd).lt j hj) (h.dsep d hd j hj).1, (h.dsep d hd j hj).2⟩
    wok := fun x hx => (h.wok x hx).kept ht.kept (hW x hx)
    wsep := fun x hx j hj => ho j ((h.wok x hx).lt j hj) (h.wsep x hx j hj)
    wpair := h.wpair
    wlo := h.wlo
    lsep := fun z hz j hj => by
      have hnew : lv.ownBlock = some j → ¬ Own Z vd vw v' vi j ∧ ∀ y ∈ ws, ¬ y.moves j := fun e => ⟨ho j (hl j e) (hf j e).1, fun y hy hm => (hf j e).2.2.1 y hy ((h.wok y hy).moves j hm)⟩
      have hold : z ∈ hs ∨ z ∈ is → ¬ Own Z vd vw v' vi j ∧ ∀ y ∈ ws, ¬ y.moves j := fun hz => ⟨ho j (h.list_lt z hz j hj) (h.lsep z hz j hj).1, (h.lsep z hz j hj).2⟩
      rcases hz with hz | hz
      · rcases List.mem_append.1 hz with hz | hz
        · exact hold (.inl hz)
        · obtain rfl := List.mem_singleton.1 hz
          exact hnew (by rw [← fullOf_own]; exact hj)
      · exact hold (.inr hz) }

end Go.Proofs.YtlfpepehngkehaaGreat
/-
  All: an image with a byte that is another.
-/
namespace Go.Proofs.YtlfpepehngkehaaGreat
set_option linter.unusedSimpArgs false
set_option linter.unusedVariables false
open Go.RowKit

set_option maxHeartbeats 2000000 in
set_option maxRecDepth 20000 in
theorem turned_any (w : World) (P : Nat) (D : Dic) (b B : Nat) (v Wv Cv : Value) (hP : PairIn w P D b B v Wv Cv) (pos byte : Int) (ha0 : -9223372036854775808 ≤ pos) (ha1 : pos ≤ 9223372036854775807) :
    Calls Tryz.prog 24 #[.pointer (some ⟨P, 0, none⟩), .int .i64 pos, .int .i64 byte] w fun e w' => ∃ S : ByteArray, e = .returned (.string S) ∧ S.size ≤ 3000 ∧ Below w.heap.size w w' := by
  obtain ⟨h1, h2, h3, h4, hg⟩ := hP
  obtain ⟨-, h6, h7, h8⟩ := good_words hg
  have HB : Hid (BookAt w B D Wv Cv) := h4
  have HG : Hid (GoodDic D) := hg
  have HW : Hid (∀ p ∈ D, p.1.size ≤ 12 ∧ p.2 ≤ 1000) := fun p hp => ⟨(h7 p hp).2, h8 p hp⟩
  clear h1 h3 h4 hg h7 h8
  go_enter Tryz.func24, Tryz.ntmps24
  go_wp2_with fail
  refine (image_any w B Wv Cv D HB.out h6 HW.out).mono ?_
  rintro e w1 ⟨S, rfl, hS, hb1⟩
  obtain ⟨hS5, hS3⟩ := image_size HG.out hS.symm
  have hz1 := hb1.size
  clear hS h2
  have hcv := run_bytes_of_string (P := Tryz.prog) w1 9 108 5 S Tryz.underlying9 Tryz.underlying108 Tryz.underlying5
  have HBY := bytes_new w1 S (grownCap w1 S.size 0 5) 5
  obtain ⟨cap, hcap⟩ : ∃ cap, cap = grownCap w1 S.size 0 5 := ⟨_, rfl⟩
  rw [← hcap] at hcv HBY
  obtain ⟨w2, hw2⟩ : ∃ w2, w2 = w1.drew.alloc (.cells (bytesRow S cap) 5 ((bytesRow S cap).size, (bytesRow S cap).size + 1)) := ⟨_, rfl⟩
  have hB2 : Below w.heap.size w w2 := by rw [hw2]; exact (⟨hb1.os, hb1.tape, hb1.output, hb1.size, hb1.block⟩ : Below w.heap.size w w1.drew).alloc hz1 _
  have hz2 : w2.heap.size = w1.heap.size + 1 := by rw [hw2]; simp
  rw [← hw2] at hcv HBY
  have HB2 : Hid (BytesAt w2 w1.heap.size S.toList) := HBY
  clear hcap hw2 HBY hb1
  go_wp2_with fail
  refine (lawPick_any w2 pos S.size (by omega) (by omega) ha0 ha1).mono ?_
  rintro e w3 ⟨⟨k, hk, rfl⟩, rfl⟩
  have hck := HB2.out.cell k (by rw [toList_length]; exact hk)
  have hfk := HB2.out.frz k (by rw [toList_length]; exact hk)
  have hkS : (k : Int) < (S.size : Int) := by omega
  obtain ⟨z, hz⟩ : ∃ z : Nat, IntKind.u8.wrap byte = (z : Int) ∧ z < 256 := ⟨(IntKind.u8.wrap byte).toNat, by rw [IntKind.wrap_u8]; omega, by rw [IntKind.wrap_u8]; omega⟩
  obtain ⟨hzw, hz256⟩ := hz
  have hs := HB2.out.set (k := k) (by rw [toList_length]; exact hk) (UInt8.ofNat z)
  rw [u8_of hz256] at hs
  have hcv2 := bytes_conv cap S.size hs (by rw [List.length_set, toList_length])
  have hB3 : Below w.heap.size w (w3.setCell ⟨w1.heap.size, k, none⟩ (.int .u8 (z : Int))) := hB2.trans (((Kept.refl w3 (fun j => j = w1.heap.size)).setCell ⟨w1.heap.size, k, none⟩ _ (.inl rfl)).below (by omega) (fun j e => by omega))
  have hsz : (⟨(S.toList.set k (UInt8.ofNat z)).toArray⟩ : ByteArray).size ≤ 3000 := by
    rw [← toList_length, ByteArray.toList_eq]
    show (S.toList.set k (UInt8.ofNat z)).length ≤ _
    rw [List.length_set, toList_length]
    exact hS3
  obtain ⟨T, hT⟩ : ∃ T, T = (⟨(S.toList.set k (UInt8.ofNat z)).toArray⟩ : ByteArray) := ⟨_, rfl⟩
  rw [← hT] at hcv2 hsz
  clear hT hs
  go_wp2
  go_ret
  exact ⟨T, rfl, hsz, hB3⟩

end Go.Proofs.YtlfpepehngkehaaGreat
/-
  All: what a step leaves; a dictionary that was made joins.
-/
namespace Go.Proofs.YtlfpepehngkehaaGreat
set_option linter.unusedSimpArgs false
set_option linter.unusedVariables false
open Go.RowKit

/-- what a step leaves: c dictionaries more. -/
def AllStep (WI : WalkIfAll) (lo c : Nat) (w w' : World) (Z nd nw nh ni : Nat) : Prop :=
  ∃ vd vw vh vi ds ws hs is, AllInv WI lo w' Z vd vw vh vi ds ws hs is ∧ ds.length = nd + c ∧ ws.length ≤ nw + 1 ∧ hs.length ≤ nh + 1 ∧ is.length ≤ ni + 1 ∧ BelowZ lo Z w w'

variable {WI : WalkIfAll} {lo : Nat} {w w' : World} {Z : Nat} {vd vw vh vi : Value} {ds : List DT} {ws : List WT} {hs is : List Value}

theorem AllInv.lo_le (h : AllInv WI lo w Z vd vw vh vi ds ws hs is) : lo ≤ w.heap.size := h.zlo

theorem AllInv.still (h : AllInv WI lo w Z vd vw vh vi ds ws hs is) (hb : Below w.heap.size w w') : AllStep WI lo 0 w w' Z ds.length ws.length hs.length is.length :=
  ⟨vd, vw, vh, vi, ds, ws, hs, is, h.below hb, rfl, by omega, by omega, by omega, BelowZ.below hb⟩

theorem AllInv.moves_lt (h : AllInv WI lo w Z vd vw vh vi ds ws hs is) {x : WT} (hx : x ∈ ws) {j : Nat} (hj : x.moves j) : j < w.heap.size := (h.wok x hx).lt j ((h.wok x hx).moves j hj)

theorem dict_from {P b B : Nat} {v Wv Cv : Value} {D : Dic} {n : Nat} (hI : PairIn w P D b B v Wv Cv) (hP : n ≤ P) (hb : n ≤ b) (hv : ∀ k, v.ownBlock = some k → n ≤ k) (hB : n ≤ B) : ∀ j, (DT.mk P b B v Wv Cv D).reads j → n ≤ j := by
  intro j hj
  rcases hj with rfl | rfl | hj | rfl | hj | hj
  · exact hP
  · exact hb
  · exact hv j hj
  · exact hB
  · have e : Wv.ownBlock = some j := hj
    have := (hI.bk.ow.lt j e).1; omega
  · have e : Cv.ownBlock = some j := hj
    have := (hI.bk.oc.lt j e).1; omega

theorem joined_step {w1 : World} (h : AllInv WI lo w Z vd vw vh vi ds ws hs is) (hb : Below w.heap.size w w1) (hn : ds.length ≤ 1000000000) {P : Nat} {D : Dic} (hP : PairNew w.heap.size w1 P D) :
    Calls Tryz.prog 8 #[.pointer (some ⟨Z, 0, none⟩), .pointer (some ⟨P, 0, none⟩), .bool true] w1 fun e w' => e = .returned (.bool true) ∧ AllStep WI lo 1 w w' Z ds.length ws.length hs.length is.length := by
  obtain ⟨b, B, v, Wv, Cv, hI, hP, hbb, hv, hB⟩ := hP
  have h1 := h.below hb
  have hf := dict_from hI hP hbb hv hB
  have hlo := h.lo_le
  have hz := hb.size
  refine (joins_any w1 Z P lo ds.length true vd _ h1.c0 (h1.fz 0) h1.rd h1.nd (by omega) (by omega)).mono ?_
  rintro e w2 ⟨rfl, v', hg⟩
  refine ⟨rfl, v', vw, vh, vi, ds ++ [⟨P, b, B, v, Wv, Cv, D⟩], ws, hs, is, h1.dict ⟨P, b, B, v, Wv, Cv, D⟩ hI (fun j hj => ⟨fun e => ?_, fun x hx e => ?_⟩) hg, by simp, by omega, by omega, by omega, ?_⟩
  · have := h.own_lt j e; have := hf j hj; omega
  · have := h.moves_lt hx e; have := hf j hj; omega
  · exact (BelowZ.below hb).trans (BelowZ.kept hg.kept (fun j e => by
      rcases e with rfl | e
      · exact .inl rfl
      · exact .inr (h1.rd.lt j e).1))

/-- the list of hits of the World's that came out just now is taken. -/
theorem hits_step {w1 : World} (h : AllInv WI lo w Z vd vw vh vi ds ws hs is) (hb : Below w.heap.size w w1) (hn : hs.length ≤ 1000000000) {lv : Value} {n : Nat} {xs : List Value} (hr : w1.ownsRow w.heap.size 47 2 lv n xs) :
    Calls Tryz.prog 26 #[.pointer (some ⟨Z, 0, none⟩), lv] w1 fun e w' => e = .returned (.tuple #[]) ∧ AllStep WI lo 0 w w' Z ds.length ws.length hs.length is.length := by
  have h1 := h.below hb
  have hlo := h.lo_le
  have hz := hb.size
  have hf : Fresh Z vd vw vh vi ds ws hs is lv := h.fresh (fun k e => (hr.lt k e).1)
  refine (takeHits_any w1 Z lo w.heap.size hs.length n vh lv hs xs h1.c2 (h1.fz 2) h1.rh.1 hr (by omega) (by omega) (fun e => (hf Z e).1 (.inl rfl)) h1.nh (fun k e e2 => (hf k e).1 (.inr (.inr (.inr (.inl e2)))))).mono ?_
  rintro e w2 ⟨rfl, v', ht⟩
  refine ⟨rfl, vd, vw, v', vi, ds, ws, hs ++ [fullOf lv], is, h1.hits hf ht (fun k e => (hr.lt k e).2), rfl, by omega, by simp, by omega, ?_⟩
  exact (BelowZ.below hb).trans (BelowZ.kept ht.kept (fun j e => by
      rcases e with rfl | e | e
      · exact .inl rfl
      · exact .inr (h1.rh.1.lt j e).1
      · have := (hr.lt j e).1; exact .inr (by omega)))

theorem ints_step {w1 : World} (h : AllInv WI lo w Z vd vw vh vi ds ws hs is) (hb : Below w.heap.size w w1) (hn : is.length ≤ 1000000000) {lv : Value} {n : Nat} {xs : List Value} (hr : w1.ownsRow w.heap.size 3 1 lv n xs) :
    Calls Tryz.prog 30 #[.pointer (some ⟨Z, 0, none⟩), lv] w1 fun e w' => e = .returned (.tuple #[]) ∧ AllStep WI lo 0 w w' Z ds.length ws.length hs.length is.length := by
  have h1 := h.below hb
  have hlo := h.lo_le
  have hz := hb.size
  have hf : Fresh Z vd vw vh vi ds ws hs is lv := h.fresh (fun k e => (hr.lt k e).1)
  refine (takeInts_any w1 Z lo w.heap.size is.length n vi lv is xs h1.c3 (h1.fz 3) h1.ri.1 hr (by omega) (by omega) (fun e => (hf Z e).1 (.inl rfl)) h1.ni (fun k e e2 => (hf k e).1 (.inr (.inr (.inr (.inr e2)))))).mono ?_
  rintro e w2 ⟨rfl, v', ht⟩
  refine ⟨rfl, vd, vw, vh, v', ds, ws, hs, is ++ [fullOf lv], h1.ints hf ht (fun k e => (hr.lt k e).2), rfl, by omega, by omega, by simp, ?_⟩
  exact (BelowZ.below hb).trans (BelowZ.kept ht.kept (fun j e => by
      rcases e with rfl | e | e
      · exact .inl rfl
      · exact .inr (h1.ri.1.lt j e).1
      · have := (hr.lt j e).1; exact .inr (by omega)))

end Go.Proofs.YtlfpepehngkehaaGreat
/-
  All: a step on a dictionary.
-/
namespace Go.Proofs.YtlfpepehngkehaaGreat
set_option linter.unusedSimpArgs false
set_option linter.unusedVariables false
open Go.RowKit

variable {WI : WalkIfAll} {lo : Nat} {w w' : World} {Z : Nat} {vd vw vh vi : Value} {ds : List DT} {ws : List WT} {hs is : List Value}

theorem cells6 (w : World) (x0 x1 x2 x3 x4 x5 : Value) (t : TypeId) : let W := w.alloc (.cells #[x0, x1, x2, x3, x4, x5] t)
    W.cell? ⟨w.heap.size, 0, none⟩ = some x0 ∧ W.cell? ⟨w.heap.size, 1, none⟩ = some x1 ∧ W.cell? ⟨w.heap.size, 2, none⟩ = some x2 ∧ W.cell? ⟨w.heap.size, 3, none⟩ = some x3 ∧ W.cell? ⟨w.heap.size, 4, none⟩ = some x4 ∧ W.cell? ⟨w.heap.size, 5, none⟩ = some x5 := by
  refine ⟨?_, ?_, ?_, ?_, ?_, ?_⟩
  all_goals (rw [World.cell?_alloc_at _ _ _ _ rfl]; rfl)

/-- an op, in its block. -/
def opRow (kind A B C : Int) (S : ByteArray) (lv : Value) : Array Value := #[.int .i64 kind, .int .i64 A, .int .i64 B, .int .i64 C, .string S, lv]

theorem AllStep.from {w0 : World} {c nd nw nh ni : Nat} (hb : BelowZ lo Z w0 w) (h : AllStep WI lo c w w' Z nd nw nh ni) : AllStep WI lo c w0 w' Z nd nw nh ni := by
  obtain ⟨vd, vw, vh, vi, ds, ws, hs, is, h1, h2, h4, h5, h6, h7⟩ := h
  exact ⟨vd, vw, vh, vi, ds, ws, hs, is, h1, h2, h4, h5, h6, hb.trans h7⟩

/-- what a step on a dictionary leaves. -/
def DictStep (WI : WalkIfAll) (lo : Nat) (kind : Int) (w w' : World) (Z nd nw nh ni : Nat) : Prop := ∃ c, c ≤ 1 ∧ (kind ≠ 4 → c = 0) ∧ AllStep WI lo c w w' Z nd nw nh ni

theorem AllStep.same {kind : Int} {nd nw nh ni : Nat} (h : AllStep WI lo 0 w w' Z nd nw nh ni) : DictStep WI lo kind w w' Z nd nw nh ni := ⟨0, by omega, fun _ => rfl, h⟩

theorem Tryz.infoBothP : (Tryz.prog.info? 42).map (fun i => (i.zero, i.size, i.bytes)) = some (some (.pointer none), 1, 8) := by kernel_rfl

theorem AllInv.begun {w3 w4 : World} (h : AllInv WI lo w Z vd vw vh vi ds ws hs is) (hb : Below w.heap.size w w3) {d : DT} (hd : d ∈ ds) {t : ByteArray} {X p P : Nat} {F : Nat → Prop} {lv : Value} {l : List Nat} (hB : Begun WI w w3 d.b d.B d.v d.Wv d.Cv d.D t X p P F lv l) {v' : Value}
    (hg : Grew w3 w4 Z 1 42 vw v' lo ws.length (ws.map fun x => .pointer (some ⟨x.X, 0, none⟩)) (.pointer (some ⟨X, 0, none⟩))) : AllStep WI lo 0 w w4 Z ds.length ws.length hs.length is.length := by
  have h1 := h.below hb
  have hlo := h.lo_le
  have hz := hb.size
  have hr : ∀ j, (WT.mk X p P d.B F d.D d.Wv d.Cv lv t l).reads j → w.heap.size ≤ j ∨ d.reads j := by
    intro j hj
    rcases hj with rfl | hj | rfl | rfl | hj | hj | hj
    · exact .inl hB.X0
    · rcases hB.F0 j hj with e | e | e
      · exact .inl e
      · exact .inr (.inr (.inl e))
      · exact .inr (.inr (.inr (.inl e)))
    · exact .inl hB.P0
    · exact .inr (.inr (.inr (.inr (.inl rfl))))
    · exact .inr (.inr (.inr (.inr (.inr (.inl hj)))))
    · exact .inr (.inr (.inr (.inr (.inr (.inr hj)))))
    · exact .inl (hB.l0 j hj)
  have hm : ∀ j, (WT.mk X p P d.B F d.D d.Wv d.Cv lv t l).moves j → w.heap.size ≤ j := by
    intro j hj
    rcases hj with rfl | rfl
    · exact hB.p0
    · exact hB.P0
  refine ⟨vd, v', vh, vi, ds, ws ++ [⟨X, p, P, d.B, F, d.D, d.Wv, d.Cv, lv, t, l⟩], hs, is, h1.walk ⟨X, p, P, d.B, F, d.D, d.Wv, d.Cv, lv, t, l⟩ ⟨0, hB.both⟩ (fun j hj e => ?_) (fun y hy => ⟨fun j hj e => ?_, fun j hj e => ?_⟩) (fun d' hd' j hj e => ?_) (fun z hz j hj e => ?_) (fun j hj => ?_) hg, rfl, by simp, by omega, by omega, ?_⟩
  · rcases hr j hj with c | c
    · have := h.own_lt j e; omega
    · exact (h.dsep d hd j c).1 e
  · have := (h.wok y hy).lt j hj; have := hm j e; omega
  · rcases hr j hj with c | c
    · have := h.moves_lt hy e; omega
    · exact (h.dsep d hd j c).2 y hy e
  · have := (h.dok d' hd').lt j hj; have := hm j e; omega
  · have := h.list_lt z hz j hj; have := hm j e; omega
  · have := hm j hj; omega
  · exact (BelowZ.below hb).trans (BelowZ.kept hg.kept (fun j e => by
      rcases e with rfl | e
      · exact .inl rfl
      · exact .inr (h1.rw_.lt j e).1))

set_option maxHeartbeats 8000000 in
set_option maxRecDepth 20000 in
theorem dicts_any (HC : CutOk) (HL : CutLongOk) (h : AllInv WI lo w Z vd vw vh vi ds ws hs is) (hds : 0 < ds.length) (hn1 : ds.length ≤ 1000000000) (hn2 : ws.length ≤ 1000000000) (hn3 : hs.length ≤ 1000000000) (hn4 : is.length ≤ 1000000000)
    (kind A B C : Int) (S : ByteArray) (lv : Value) (hA0 : -9223372036854775808 ≤ A) (hA1 : A ≤ 9223372036854775807) (hB0 : -9223372036854775808 ≤ B) (hB1 : B ≤ 9223372036854775807) (hS : S.size ≤ maxLen) :
    Calls Tryz.prog 12 #[.pointer (some ⟨Z, 0, none⟩), .agg (opRow kind A B C S lv)] w fun e w' => e = .returned (.bool true) ∧ DictStep WI lo kind w w' Z ds.length ws.length hs.length is.length := by
  have HCC : Hid CutOk := HC
  have HLL : Hid CutLongOk := HL
  have HH : Hid (AllInv WI lo w Z vd vw vh vi ds ws hs is) := h
  have hc0 := h.c0
  have hZ := cell_lt hc0
  obtain ⟨ad, cd, rfl, hgd⟩ := row_form h.rd
  obtain ⟨gd, rfl⟩ := hgd (by omega)
  have hcell : ∀ i (hi : i < ds.length), w.cell? ⟨gd, i, none⟩ = some (.pointer (some ⟨ds[i].P, 0, none⟩)) := fun i hi => by
    rw [h.rd.cellAt i (by omega), List.getElem?_eq_getElem (by simpa using hi)]
    simp
  clear h HC HL
  unfold opRow
  go_enter Tryz.func12, Tryz.ntmps12
  go_upto_region 1 with fail
  obtain ⟨o0, o1, o2, o3, o4, -⟩ := cells6 w (.int .i64 kind) (.int .i64 A) (.int .i64 B) (.int .i64 C) (.string S) lv 32
  obtain ⟨wo, hwo⟩ : ∃ wo, wo = w.alloc (.cells #[.int .i64 kind, .int .i64 A, .int .i64 B, .int .i64 C, .string S, lv] 32) := ⟨_, rfl⟩
  have hbo : Below w.heap.size w wo := by rw [hwo]; exact (Below.refl _ _).alloc (Nat.le_refl _) _
  rw [← hwo] at o0 o1 o2 o3 o4 ⊢
  have HO : Hid (AllInv WI lo wo Z (.slice (some ⟨gd, 0, none⟩) ds.length cd) vw vh vi ds ws hs is) := HH.out.below hbo
  have hc0' := HO.out.c0
  have hcell' : ∀ i (hi : i < ds.length), wo.cell? ⟨gd, i, none⟩ = some (.pointer (some ⟨ds[i].P, 0, none⟩)) := fun i hi => (hbo.cell (p := ⟨gd, i, none⟩) (cell_lt (hcell i hi))).trans (hcell i hi)
  have hPk : ∀ W : World, Calls Tryz.prog 10 #[.int .i64 A, .int .i64 ds.length] W fun e w' => (∃ r : Nat, r < ds.length ∧ e = .returned (.int .i64 r)) ∧ w' = W := fun W => lawPick_any W A ds.length hds (by omega) hA0 hA1
  clear hwo hcell hc0
  go_cut [5] (fun y wx => ∃ i, ∃ hi : i < ds.length, y = .pointer (some ⟨ds[i].P, 0, none⟩) ∧ Same wo wx)
  case first =>
    go_region_with (go_at_call 10; go_must (refine (hPk _).mono ?_); rintro e w5 ⟨⟨r, hr, rfl⟩, rfl⟩; have hrl : (r : Int) < (ds.length : Int) := Int.ofNat_lt.mpr hr; have hcr := hcell' r hr)
    all_goals
      go_wp2_with fail
      go_meet
      exact ⟨r, hr, rfl, Kept.drew (Same.refl _)⟩
  case rest =>
    obtain ⟨i, hi, rfl, hsm⟩ := hcut
    have hI : AllInv WI lo wc Z (.slice (some ⟨gd, 0, none⟩) ds.length cd) vw vh vi ds ws hs is := HO.out.kept hsm (fun _ _ e => e) (fun _ _ _ _ e => e) (fun _ _ _ _ e => e) (fun _ _ _ _ e => e)
    have HI : Hid (AllInv WI lo wc Z (.slice (some ⟨gd, 0, none⟩) ds.length cd) vw vh vi ds ws hs is) := hI
    have q0 := (Kept.cell hsm (p := ⟨w.heap.size, 0, none⟩) (cell_lt o0) id).trans o0
    have q2 := (Kept.cell hsm (p := ⟨w.heap.size, 2, none⟩) (cell_lt o2) id).trans o2
    have q3 := (Kept.cell hsm (p := ⟨w.heap.size, 3, none⟩) (cell_lt o3) id).trans o3
    have q4 := (Kept.cell hsm (p := ⟨w.heap.size, 4, none⟩) (cell_lt o4) id).trans o4
    have hlo := HH.out.lo_le
    have hBw : BelowZ lo Z w wc := (BelowZ.below hbo).trans (BelowZ.same hsm)
    have HBW : Hid (BelowZ lo Z w wc) := hBw
    have hdok := hI.dok ds[i] (List.getElem_mem hi)
    obtain ⟨d, hdd⟩ : ∃ d, d = ds[i] := ⟨_, rfl⟩
    have HDM : Hid (d ∈ ds) := by rw [hdd]; exact List.getElem_mem hi
    rw [← hdd] at hdok ⊢
    have HD : Hid (PairIn wc d.P d.D d.b d.B d.v d.Wv d.Cv) := hdok
    clear hdd hdok hI hsm o0 o1 o2 o3 o4 hc0' hcell' hPk hbo HO hBw
    by_cases k4 : kind = 4
    · subst k4
      go_wp2_with fail
      refine (turned_any wc d.P d.D d.b d.B d.v d.Wv d.Cv HD.out B C hB0 hB1).mono ?_
      rintro e w3 ⟨T, rfl, hT, hb3⟩
      have HI3 : Hid (AllInv WI lo w3 Z (.slice (some ⟨gd, 0, none⟩) ds.length cd) vw vh vi ds ws hs is) := HI.out.below hb3
      have HB3 : Hid (BelowZ lo Z w w3) := HBW.out.trans (BelowZ.below hb3)
      clear hb3
      go_wp2_with fail
      refine (loaded_any w3 T (by omega)).mono ?_
      rintro e w4 ⟨hbe, hb4⟩
      have HB4 : Hid (Below w3.heap.size w3 w4) := hb4
      clear hb4
      rcases hbe with rfl | ⟨P2, D2, rfl, hP2⟩
      · go_wp2_with fail
        refine (joins_nil w4 Z true).mono ?_
        rintro e w5 ⟨rfl, rfl⟩
        go_wp2
        go_ret
        exact ⟨rfl, ((HI3.out.still HB4.out).from HB3.out).same⟩
      · have HP2 : Hid (PairNew w3.heap.size w4 P2 D2) := hP2
        clear hP2
        go_wp2_with fail
        refine (joined_step HI3.out HB4.out hn1 HP2.out).mono ?_
        rintro e w5 ⟨rfl, hst⟩
        have HST : Hid (AllStep WI lo 1 w3 w5 Z ds.length ws.length hs.length is.length) := hst
        clear hst
        go_wp2
        go_ret
        exact ⟨rfl, 1, Nat.le_refl _, fun e => absurd rfl e, HST.out.from HB3.out⟩
    have b4 := beqf k4
    by_cases k5 : kind = 5
    · subst k5
      go_wp2_with fail
      refine (begun_any wc d.P d.D S hS HD.out.pair).mono ?_
      rintro e w3 ⟨lv3, rfl, ⟨n3, xs3, hr3⟩, hb3⟩
      have hC := hits_step HI.out hb3 hn3 hr3
      clear hr3 hb3
      go_wp2_with fail
      refine hC.mono ?_
      rintro e w4 ⟨rfl, hst⟩
      have HST : Hid (AllStep WI lo 0 wc w4 Z ds.length ws.length hs.length is.length) := hst
      clear hst hC
      go_wp2
      go_ret
      exact ⟨rfl, (HST.out.from HBW.out).same⟩
    have b5 := beqf k5
    by_cases k11 : kind = 11
    · subst k11
      go_wp2_with fail
      refine (sized_any wc d.P d.D HD.out.pair).mono ?_
      rintro e w3 ⟨rfl, rfl⟩
      go_wp2
      go_ret
      exact ⟨rfl, ((HI.out.still (Below.refl _ _)).from HBW.out).same⟩
    have b11 := beqf k11
    by_cases k6 : kind = 6
    · subst k6
      go_wp2_with fail
      refine (imaged_any wc d.P d.D HD.out.pair).mono ?_
      rintro e w3 ⟨T, rfl, hb3⟩
      go_wp2
      go_ret
      exact ⟨rfl, ((HI.out.still hb3).from HBW.out).same⟩
    have b6 := beqf k6
    by_cases k7 : kind = 7
    · subst k7
      go_wp2_with fail
      refine (lawCut_any HCC.out HLL.out wc d.P d.D S hS HD.out.pair).mono ?_
      rintro e w3 ⟨lv3, n3, rfl, ⟨xs3, hr3⟩, hb3⟩
      have hC := ints_step HI.out hb3 hn4 hr3
      clear hr3 hb3
      go_wp2_with fail
      refine hC.mono ?_
      rintro e w4 ⟨rfl, hst⟩
      have HST : Hid (AllStep WI lo 0 wc w4 Z ds.length ws.length hs.length is.length) := hst
      clear hst hC
      go_wp2
      go_ret
      exact ⟨rfl, (HST.out.from HBW.out).same⟩
    have b7 := beqf k7
    by_cases k8 : kind = 8
    · subst k8
      go_wp2_with fail
      refine (lawBegin_any WI wc d.P d.D d.b d.B d.v d.Wv d.Cv S hS HD.out).mono ?_
      rintro e w3 ⟨hbe, hb3⟩
      rcases hbe with rfl | ⟨X, p, P, F, lv3, l3, rfl, hBg⟩
      · go_wp2
        go_ret
        exact ⟨rfl, ((HI.out.still hb3).from HBW.out).same⟩
      · have hI3 := HI.out.below hb3
        have HBG : Hid (Begun WI wc w3 d.b d.B d.v d.Wv d.Cv d.D S X p P F lv3 l3) := hBg
        have HB3 : Hid (Below wc.heap.size wc w3) := hb3
        have hlo3 := hI3.lo_le
        have hc1 := hI3.c1
        have hf1 := hI3.fz 1
        have hr1 := hI3.rw_
        have HNW : Hid (vw.ownBlock ≠ some Z) := hI3.nw
        have hZ3 := cell_lt hc1
        obtain ⟨i0, hi0, hz0, hz1, hz2⟩ := info_parts Tryz.infoBothP
        clear hI3 hBg hb3
        go_wp2_with (at_builtin; refine wpList_append_own_at _ rfl _ _ 25 rfl lo 42 i0 _ 1 8 Tryz.underlying25 hi0 hz0 hz1 hz2 rfl (by decide) _ _ _ rfl (hr1.alloc _) ⟨w3.heap.size, 0, none⟩ 1 1 [.pointer (some ⟨X, 0, none⟩)] rfl rfl (cell_one_new _ _ _) (one1p _) (by unfold maxLen; omega) (by omega) (by first | omega | (simp; omega)) ?_)
        intro v' w4 hown' hgrow _ hat
        obtain ⟨hc2, hf2, hres⟩ := grew_end hZ3 hc1 HNW.out hown' hgrow (by simpa using hat)
        have hf3 := (hf2 1).trans hf1
        obtain ⟨a', cap', rfl, _⟩ := row_form hown'
        have HST : Hid (AllStep WI lo 0 wc (w4.setCell ⟨Z, 1, none⟩ (.slice a' (ws.length + 1) cap')) Z ds.length ws.length hs.length is.length) := HI.out.begun HB3.out HDM.out HBG.out hres
        clear hres hown' hgrow hat hf2
        go_wp2
        go_ret
        exact ⟨rfl, (HST.out.from HBW.out).same⟩
    have b8 := beqf k8
    go_wp2
    go_ret
    exact ⟨rfl, ((HI.out.still (Below.refl _ _)).from HBW.out).same⟩

end Go.Proofs.YtlfpepehngkehaaGreat
/-
  All: a step.
-/
namespace Go.Proofs.YtlfpepehngkehaaGreat
set_option linter.unusedSimpArgs false
set_option linter.unusedVariables false
open Go.RowKit

variable {WI : WalkIfAll} {lo : Nat} {w w' : World} {Z : Nat} {vd vw vh vi : Value} {ds : List DT} {ws : List WT} {hs is : List Value}

/-- what a step leaves. -/
def StepEndA (WI : WalkIfAll) (lo : Nat) (kind : Int) (ss : List ByteArray) (w w' : World) (Z nd nw nh ni : Nat) : Prop :=
  ∃ c, c ≤ 1 ∧ (kind = 7 ∨ kind = 8 → c = 0) ∧ (kind = 2 → (∀ err, ¬ BuildNo ss err) → c = 1) ∧ AllStep WI lo c w w' Z nd nw nh ni

theorem AllStep.quiet {kind : Int} {ss : List ByteArray} {nd nw nh ni : Nat} (hk : kind ≠ 2) (h : AllStep WI lo 0 w w' Z nd nw nh ni) : StepEndA WI lo kind ss w w' Z nd nw nh ni := ⟨0, by omega, fun _ => rfl, fun e => absurd e hk, h⟩
theorem AllStep.joined {kind : Int} {ss : List ByteArray} {nd nw nh ni : Nat} (h7 : kind ≠ 7) (h8 : kind ≠ 8) (h : AllStep WI lo 1 w w' Z nd nw nh ni) : StepEndA WI lo kind ss w w' Z nd nw nh ni := ⟨1, by omega, fun e => by rcases e with e | e; exact absurd e h7; exact absurd e h8, fun _ _ => rfl, h⟩
theorem DictStep.step {kind : Int} {ss : List ByteArray} {nd nw nh ni : Nat} (hk : kind ≠ 2) (h : DictStep WI lo kind w w' Z nd nw nh ni) : StepEndA WI lo kind ss w w' Z nd nw nh ni := by
  obtain ⟨c, h1, h2, h3⟩ := h
  exact ⟨c, h1, fun e => h2 (by omega), fun e => absurd e hk, h3⟩

def CheckRel (w1 : World) (n g : Nat) (x : Value) (wr : World) : Prop := ∃ i : Nat, g = n - i ∧ i ≤ n ∧ x = .int .i64 i ∧ Below w1.heap.size w1 wr

set_option maxHeartbeats 8000000 in
set_option maxRecDepth 20000 in
theorem allStep_any (HC : CutOk) (HL : CutLongOk) (h : AllInv WI lo w Z vd vw vh vi ds ws hs is) (hn1 : ds.length ≤ 1000000000) (hn2 : ws.length ≤ 1000000000) (hn3 : hs.length ≤ 1000000000) (hn4 : is.length ≤ 1000000000)
    (kind A B C : Int) (S : ByteArray) (a : Option Addr) (cap : Nat) (ss : List ByteArray) (hA0 : -9223372036854775808 ≤ A) (hA1 : A ≤ 9223372036854775807) (hB0 : -9223372036854775808 ≤ B) (hB1 : B ≤ 9223372036854775807) (hC0 : -9223372036854775808 ≤ C) (hC1 : C ≤ 9223372036854775807) (hS : S.size ≤ 1048576) (hL : StrsAt w a ss) (hss : ss.length ≤ 1048576) :
    Calls Tryz.prog 4 #[.pointer (some ⟨Z, 0, none⟩), .agg (opRow kind A B C S (.slice a ss.length cap))] w fun e w' => e = .returned (.bool true) ∧ StepEndA WI lo kind ss w w' Z ds.length ws.length hs.length is.length := by
  have HCC : Hid CutOk := HC
  have HLL : Hid CutLongOk := HL
  have HH : Hid (AllInv WI lo w Z vd vw vh vi ds ws hs is) := h
  have hSm : S.size ≤ maxLen := by unfold maxLen; omega
  have hlo := h.lo_le
  clear h HC HL
  unfold opRow
  go_enter Tryz.func4, Tryz.ntmps4
  go_upto_region 1 with fail
  obtain ⟨o0, o1, o2, o3, o4, o5⟩ := cells6 w (.int .i64 kind) (.int .i64 A) (.int .i64 B) (.int .i64 C) (.string S) (.slice a ss.length cap) 32
  obtain ⟨wo, hwo⟩ : ∃ wo, wo = w.alloc (.cells #[.int .i64 kind, .int .i64 A, .int .i64 B, .int .i64 C, .string S, .slice a ss.length cap] 32) := ⟨_, rfl⟩
  have hbo : Below w.heap.size w wo := by rw [hwo]; exact (Below.refl _ _).alloc (Nat.le_refl _) _
  rw [← hwo] at o0 o1 o2 o3 o4 o5 ⊢
  have HO : Hid (AllInv WI lo wo Z vd vw vh vi ds ws hs is) := HH.out.below hbo
  have HLo : Hid (StrsAt wo a ss) := hL.below hbo
  have HB : Hid (BelowZ lo Z w wo) := BelowZ.below hbo
  clear hwo hbo hL HH
  by_cases k1 : kind = 1
  · subst k1
    go_wp2_with fail
    refine (checked_any S wo hSm).mono ?_
    rintro e w1 ⟨rfl, hb1⟩
    have HST : Hid (AllStep WI lo 0 w w1 Z ds.length ws.length hs.length is.length) := (HO.out.still hb1).from HB.out
    clear hb1
    go_wp2
    go_ret
    exact ⟨rfl, HST.out.quiet (by omega)⟩
  have b1 := beqf k1
  by_cases k2 : kind = 2
  · subst k2
    go_wp2_with fail
    refine (built_more wo a cap ss HLo.out (by omega)).mono ?_
    rintro e w1 ⟨hbe, hb1⟩
    have HB1 : Hid (Below wo.heap.size wo w1) := hb1
    clear hb1
    rcases hbe with ⟨rfl, err, hno⟩ | ⟨P2, D2, rfl, hP2⟩
    · have HNO : Hid (BuildNo ss err) := hno
      clear hno
      go_wp2_with fail
      refine (joins_nil w1 Z true).mono ?_
      rintro e w5 ⟨rfl, rfl⟩
      go_wp2
      go_ret
      exact ⟨rfl, 0, by omega, fun _ => rfl, fun _ h => absurd HNO.out (h err), (HO.out.still HB1.out).from HB.out⟩
    · have HP2 : Hid (PairNew wo.heap.size w1 P2 D2) := hP2
      clear hP2
      go_wp2_with fail
      refine (joined_step HO.out HB1.out hn1 HP2.out).mono ?_
      rintro e w5 ⟨rfl, hst⟩
      have HST : Hid (AllStep WI lo 1 wo w5 Z ds.length ws.length hs.length is.length) := hst
      clear hst
      go_wp2
      go_ret
      exact ⟨rfl, (HST.out.from HB.out).joined (by omega) (by omega)⟩
  have b2 := beqf k2
  by_cases k3 : kind = 3
  · subst k3
    go_wp2_with fail
    refine (loaded_any wo S hS).mono ?_
    rintro e w1 ⟨hbe, hb1⟩
    have HB1 : Hid (Below wo.heap.size wo w1) := hb1
    clear hb1
    rcases hbe with rfl | ⟨P2, D2, rfl, hP2⟩
    · go_wp2_with fail
      refine (joins_nil w1 Z true).mono ?_
      rintro e w5 ⟨rfl, rfl⟩
      go_wp2
      go_ret
      exact ⟨rfl, ((HO.out.still HB1.out).from HB.out).quiet (by omega)⟩
    · have HP2 : Hid (PairNew wo.heap.size w1 P2 D2) := hP2
      clear hP2
      go_wp2_with fail
      refine (joined_step HO.out HB1.out hn1 HP2.out).mono ?_
      rintro e w5 ⟨rfl, hst⟩
      have HST : Hid (AllStep WI lo 1 wo w5 Z ds.length ws.length hs.length is.length) := hst
      clear hst
      go_wp2
      go_ret
      exact ⟨rfl, (HST.out.from HB.out).joined (by omega) (by omega)⟩
  have b3 := beqf k3
  by_cases k9 : kind = 9
  · subst k9
    obtain ⟨aw, cw, rfl, hgw⟩ := row_form HO.out.rw_
    have hc1 := HO.out.c1
    by_cases hw0 : ws.length = 0
    · have hw0' : ((ws.length : Int) == 0) = true := by rw [beq_iff_eq]; omega
      go_wp2
      go_ret
      exact ⟨rfl, ((HO.out.still (Below.refl _ _)).from HB.out).quiet (by omega)⟩
    · have hw0' : ((ws.length : Int) == 0) = false := by rw [beq_eq_false_iff_ne]; omega
      obtain ⟨gw, rfl⟩ := hgw hw0
      have hcell : ∀ i (hi : i < ws.length), wo.cell? ⟨gw, i, none⟩ = some (.pointer (some ⟨ws[i].X, 0, none⟩)) := fun i hi => by
        rw [HO.out.rw_.cellAt i (by omega), List.getElem?_eq_getElem (by simpa using hi)]
        simp
      have hPk : ∀ W : World, Calls Tryz.prog 10 #[.int .i64 A, .int .i64 ws.length] W fun e w' => (∃ r : Nat, r < ws.length ∧ e = .returned (.int .i64 r)) ∧ w' = W := fun W => lawPick_any W A ws.length (by omega) (by omega) hA0 hA1
      go_upto_region 13 with fail
      go_cut [9] (fun y wx => ∃ i, ∃ hi : i < ws.length, y = .pointer (some ⟨ws[i].X, 0, none⟩) ∧ Same wo wx)
      case first =>
        go_region_with (go_at_call 10; go_must (refine (hPk _).mono ?_); rintro e w5 ⟨⟨r, hr, rfl⟩, rfl⟩; have hrl : (r : Int) < (ws.length : Int) := Int.ofNat_lt.mpr hr; have hcr := hcell r hr)
        all_goals
          go_wp2_with fail
          go_meet
          exact ⟨r, hr, rfl, Kept.drew (Same.refl _)⟩
      case rest =>
        obtain ⟨i, hi, rfl, hsm⟩ := hcut
        have hI : AllInv WI lo wc Z vd (.slice (some ⟨gw, 0, none⟩) ws.length cw) vh vi ds ws hs is := HO.out.kept hsm (fun _ _ e => e) (fun _ _ _ _ e => e) (fun _ _ _ _ e => e) (fun _ _ _ _ e => e)
        have HI : Hid (AllInv WI lo wc Z vd (.slice (some ⟨gw, 0, none⟩) ws.length cw) vh vi ds ws hs is) := hI
        have q2 := (Kept.cell hsm (p := ⟨w.heap.size, 2, none⟩) (cell_lt o2) id).trans o2
        have q3 := (Kept.cell hsm (p := ⟨w.heap.size, 3, none⟩) (cell_lt o3) id).trans o3
        have HBW : Hid (BelowZ lo Z w wc) := HB.out.trans (BelowZ.same hsm)
        obtain ⟨ap, hBA⟩ := hI.wok ws[i] (List.getElem_mem hi)
        have hM := lawMove_any WI wc ws[i].X ws[i].p ws[i].P ws[i].B ws[i].F ws[i].D ws[i].Wv ws[i].Cv ws[i].lv ws[i].t ws[i].l ap B C hC0 hC1 hBA
        have HST : Hid (∀ w3, Kept wc w3 (fun j => ws[i].moves j) → ws[i].ok WI w3 → AllStep WI lo 0 w w3 Z ds.length ws.length hs.length is.length) := fun w3 hk hok =>
          ⟨vd, _, vh, vi, ds, ws, hs, is, HI.out.moved hi hk hok, rfl, by omega, by omega, by omega, HBW.out.trans (BelowZ.kept hk (fun j hj => .inr (HI.out.wlo _ (List.getElem_mem hi) j hj)))⟩
        obtain ⟨x, hx⟩ : ∃ x, x = ws[i] := ⟨_, rfl⟩
        rw [← hx] at hM HST ⊢
        clear hx hBA hI hsm hcell hPk o0 o1 o2 o3 o4 o5 hc1
        go_wp2_with fail
        refine hM.mono ?_
        rintro e w3 ⟨rfl, hok, hk⟩
        have HS3 : Hid (AllStep WI lo 0 w w3 Z ds.length ws.length hs.length is.length) := HST.out w3 hk hok
        clear hok hk hM
        go_wp2
        go_ret
        exact ⟨rfl, HS3.out.quiet (by omega)⟩
  have b9 := beqf k9
  by_cases k10 : kind = 10
  · subst k10
    go_wp2_with fail
    go_loopg [10] ss.length (fun g x wr => CheckRel wo ss.length g x wr)
    case atStart => exact ⟨0, rfl, Nat.zero_le _, rfl, Below.refl _ _⟩
    case round =>
      obtain ⟨i, rfl, hi, rfl, hbel⟩ := hrel
      have q5 := (hbel.cell (p := ⟨w.heap.size, 5, none⟩) (cell_lt o5)).trans o5
      have HBL : Hid (Below wo.heap.size wo wr) := hbel
      have hzr := hbel.size
      by_cases hlt : i < ss.length
      · have hlt' : (i : Int) < (ss.length : Int) := by omega
        obtain ⟨hmx, hA⟩ := HLo.out.below hbel
        have hsz : ss[i].size ≤ maxLen := hmx _ (List.getElem_mem hlt)
        rcases hA with hA | ⟨ab, off, rfl, hA⟩
        · rw [hA] at hlt; simp at hlt
        · have hc := hA i hlt
          obtain ⟨s, hs⟩ : ∃ s, s = ss[i] := ⟨_, rfl⟩
          rw [← hs] at hc hsz
          clear hs hA hmx hbel
          go_wp2_with fail
          refine (checked_any s wr hsz).mono ?_
          rintro e w1 ⟨rfl, hb1⟩
          have HB1 : Hid (Below wo.heap.size wo w1) := HBL.out.trans (hb1.mono hzr)
          clear hb1
          go_wp2
          go_roundg (ss.length - (i + 1))
          case measure => omega
          case rel => exact ⟨i + 1, rfl, hlt, by go_num, HB1.out⟩
      · have hlt' : ¬ (i : Int) < (ss.length : Int) := by omega
        clear hbel
        go_wp2
        go_ret
        exact ⟨rfl, ((HO.out.still HBL.out).from HB.out).quiet (by omega)⟩
  have b10 := beqf k10
  obtain ⟨ad, cd, rfl, _⟩ := row_form HO.out.rd
  have hc0 := HO.out.c0
  by_cases hd0 : ds.length = 0
  · have hd0' : ((ds.length : Int) == 0) = true := by rw [beq_iff_eq]; omega
    go_wp2
    go_ret
    exact ⟨rfl, ((HO.out.still (Below.refl _ _)).from HB.out).quiet k2⟩
  · have hd0' : ((ds.length : Int) == 0) = false := by rw [beq_eq_false_iff_ne]; omega
    have hD := dicts_any HCC.out HLL.out HO.out (by omega) hn1 hn2 hn3 hn4 kind A B C S (.slice a ss.length cap) hA0 hA1 hB0 hB1 hSm
    unfold opRow at hD
    go_wp2_with fail
    refine hD.mono ?_
    rintro e w1 ⟨rfl, hst⟩
    have HST : Hid (StepEndA WI lo kind ss w w1 Z ds.length ws.length hs.length is.length) := by
      obtain ⟨c, x1, x2, x3⟩ := hst
      exact DictStep.step k2 ⟨c, x1, x2, x3.from HB.out⟩
    clear hst hD
    go_wp2
    go_ret
    exact ⟨rfl, HST.out⟩

end Go.Proofs.YtlfpepehngkehaaGreat
/-
  All: the head, and the script.
-/
namespace Go.Proofs.YtlfpepehngkehaaGreat
set_option linter.unusedSimpArgs false
set_option linter.unusedVariables false
open Go.RowKit

/-- ab=20,abc=30,c=10,de=10 -/
def headA : ByteArray := ⟨#[97, 98, 61, 50, 48, 44, 97, 98, 99, 61, 51, 48, 44, 99, 61, 49, 48, 44, 100, 101, 61, 49, 48]⟩
/-- ab=30,AB=1 -/
def headB : ByteArray := ⟨#[97, 98, 61, 51, 48, 44, 65, 66, 61, 49]⟩
/-- abcdeAB 7 -/
def headT : ByteArray := ⟨#[97, 98, 99, 100, 101, 65, 66, 32, 55]⟩

theorem headA_ok : okB headA [(2, 2), (3, 2), (1, 2), (2, 2)] = true := by kernel_rfl
theorem headB_ok : okB headB [(2, 2), (2, 1)] = true := by kernel_rfl
theorem head_len : Nat.ble (dicF (entsF headA 0 [(2, 2), (3, 2), (1, 2), (2, 2)] ++ entsF headB 0 [(2, 2), (2, 1)])).length 150 = true := by kernel_rfl

theorem head_builds (err : Int) : ¬ BuildNo [headA, headB] err :=
  build_ok (E := entsF headA 0 [(2, 2), (3, 2), (1, 2), (2, 2)] ++ entsF headB 0 [(2, 2), (2, 1)]) (by simp) (ok_two headA_ok headB_ok) (fun D hR => by rw [hR.unique (dicF_rep _)]; exact Nat.le_of_ble_eq_true head_len) err

variable {WI : WalkIfAll} {lo : Nat} {w w' : World} {Z : Nat} {vd vw vh vi : Value} {ds : List DT} {ws : List WT} {hs is : List Value}

theorem AllInv.start (WI : WalkIfAll) {w : World} {lo Z : Nat} (h0 : w.cell? ⟨Z, 0, none⟩ = some (.slice none 0 0)) (h1 : w.cell? ⟨Z, 1, none⟩ = some (.slice none 0 0)) (h2 : w.cell? ⟨Z, 2, none⟩ = some (.slice none 0 0)) (h3 : w.cell? ⟨Z, 3, none⟩ = some (.slice none 0 0))
    (hf : ∀ o, w.frozen? ⟨Z, o, none⟩ = false) (hl : lo ≤ w.heap.size) : AllInv WI lo w Z (.slice none 0 0) (.slice none 0 0) (.slice none 0 0) (.slice none 0 0) [] [] [] [] :=
  { c0 := h0
    c1 := h1
    c2 := h2
    c3 := h3
    fz := hf
    rd := World.ownsRow_nil _ _ _ _
    rw_ := World.ownsRow_nil _ _ _ _
    rh := ⟨World.ownsRow_nil _ _ _ _, fun k hk => by simp at hk⟩
    ri := ⟨World.ownsRow_nil _ _ _ _, fun k hk => by simp at hk⟩
    zlo := hl
    nd := fun e => by cases e
    nw := fun e => by cases e
    nh := fun e => by cases e
    ni := fun e => by cases e
    ndw := fun k e => by cases e
    ndh := fun k e => by cases e
    ndi := fun k e => by cases e
    nwh := fun k e => by cases e
    nwi := fun k e => by cases e
    nhi := fun k e => by cases e
    dok := fun d hd => by cases hd
    dsep := fun d hd => by cases hd
    wok := fun d hd => by cases hd
    wsep := fun d hd => by cases hd
    wpair := List.Pairwise.nil
    wlo := fun d hd => by cases hd
    lsep := fun x hx => by rcases hx with hx | hx <;> cases hx }

def HeadRel (WI : WalkIfAll) (lo : Nat) (W : World) (Z g : Nat) (x : Value) (wr : World) : Prop :=
  ∃ (i : Nat) (vd vw vh vi : Value) (ds : List DT) (ws : List WT) (hs is : List Value), g = 3 - i ∧ i ≤ 3 ∧ x = .int .i64 i ∧ AllInv WI lo wr Z vd vw vh vi ds ws hs is ∧ ds.length = min i 1 ∧ ws.length ≤ i ∧ hs.length ≤ i ∧ is.length ≤ i ∧ BelowZ lo Z W wr

theorem head_step {W wr : World} {i : Nat} {kind : Int} {ss : List ByteArray} (hi : i < 3) (h1 : ds.length = min i 1) (h2 : ws.length ≤ i) (h3 : hs.length ≤ i) (h4 : is.length ≤ i) (hb : BelowZ lo Z W wr)
    (hk : (i = 0 ∧ kind = 2 ∧ ∀ err, ¬ BuildNo ss err) ∨ (1 ≤ i ∧ (kind = 7 ∨ kind = 8))) (h : StepEndA WI lo kind ss wr w' Z ds.length ws.length hs.length is.length) :
    (∃ a cap, w'.cell? ⟨Z, 0, none⟩ = some (.slice a 1 cap)) ∧ ∀ x, x = .int .i64 ((i + 1 : Nat) : Int) → HeadRel WI lo W Z (3 - (i + 1)) x w' := by
  obtain ⟨c, c1, c2, c3, vd', vw', vh', vi', ds', ws', hs', is', hI, l1, l2, l3, l4, hb'⟩ := h
  have hd : ds'.length = 1 := by
    rcases hk with ⟨e1, e2, e3⟩ | ⟨e1, e2⟩
    · have := c3 e2 e3; omega
    · have := c2 e2; omega
  constructor
  · obtain ⟨a, cap, e, _⟩ := row_form hI.rd
    exact ⟨a, cap, by rw [hI.c0, e, hd]⟩
  · intro x hx
    exact ⟨i + 1, vd', vw', vh', vi', ds', ws', hs', is', rfl, by omega, hx, hI, by omega, by omega, by omega, by omega, hb.trans hb'⟩

/-- a step of the script. -/
structure OpD where
  kind : Int
  A : Int
  B : Int
  C : Int
  S : ByteArray
  a : Option Addr
  cap : Nat
  ss : List ByteArray

structure OpAt (w : World) (b off : Nat) (o : OpD) : Prop where
  c0 : w.cell? ⟨b, off, none⟩ = some (.int .i64 o.kind)
  c1 : w.cell? ⟨b, off + 1, none⟩ = some (.int .i64 o.A)
  c2 : w.cell? ⟨b, off + 2, none⟩ = some (.int .i64 o.B)
  c3 : w.cell? ⟨b, off + 3, none⟩ = some (.int .i64 o.C)
  c4 : w.cell? ⟨b, off + 4, none⟩ = some (.string o.S)
  c5 : w.cell? ⟨b, off + 5, none⟩ = some (.slice o.a o.ss.length o.cap)
  A0 : -9223372036854775808 ≤ o.A ∧ o.A ≤ 9223372036854775807
  B0 : -9223372036854775808 ≤ o.B ∧ o.B ≤ 9223372036854775807
  C0 : -9223372036854775808 ≤ o.C ∧ o.C ≤ 9223372036854775807
  S0 : o.S.size ≤ 1048576
  L0 : o.ss.length ≤ 1048576
  L : StrsAt w o.a o.ss

def OpsAt (w : World) (a : Option Addr) (ops : List OpD) : Prop := ops = [] ∨ ∃ b off, a = some ⟨b, off, none⟩ ∧ ∀ i (h : i < ops.length), OpAt w b (off + i * 6) ops[i]

theorem OpAt.below {b off : Nat} {o : OpD} (h : OpAt w b off o) (hb : Below w.heap.size w w') : OpAt w' b off o :=
  { h with
    c0 := (hb.cell (p := ⟨b, off, none⟩) (cell_lt h.c0)).trans h.c0
    c1 := (hb.cell (p := ⟨b, off + 1, none⟩) (cell_lt h.c1)).trans h.c1
    c2 := (hb.cell (p := ⟨b, off + 2, none⟩) (cell_lt h.c2)).trans h.c2
    c3 := (hb.cell (p := ⟨b, off + 3, none⟩) (cell_lt h.c3)).trans h.c3
    c4 := (hb.cell (p := ⟨b, off + 4, none⟩) (cell_lt h.c4)).trans h.c4
    c5 := (hb.cell (p := ⟨b, off + 5, none⟩) (cell_lt h.c5)).trans h.c5
    L := h.L.below hb }

def RunRelA (WI : WalkIfAll) (lo : Nat) (W : World) (Z n g : Nat) (x : Value) (wr : World) : Prop :=
  ∃ (i : Nat) (vd vw vh vi : Value) (ds : List DT) (ws : List WT) (hs is : List Value), g = n - i ∧ i ≤ n ∧ x = .int .i64 i ∧ AllInv WI lo wr Z vd vw vh vi ds ws hs is ∧ ds.length ≤ i + 1 ∧ ws.length ≤ i + 3 ∧ hs.length ≤ i + 3 ∧ is.length ≤ i + 3 ∧ BelowZ lo Z W wr

theorem run_step {W wr : World} {i n : Nat} {kind : Int} {ss : List ByteArray} (hi : i < n) (h1 : ds.length ≤ i + 1) (h2 : ws.length ≤ i + 3) (h3 : hs.length ≤ i + 3) (h4 : is.length ≤ i + 3) (hb : BelowZ lo Z W wr) (h : StepEndA WI lo kind ss wr w' Z ds.length ws.length hs.length is.length) :
    ∃ (vd vw vh vi : Value) (ds : List DT) (ws : List WT) (hs is : List Value), AllInv WI lo w' Z vd vw vh vi ds ws hs is ∧ hs.length ≤ i + 4 ∧ is.length ≤ i + 4 ∧ ∀ x, x = .int .i64 ((i + 1 : Nat) : Int) → RunRelA WI lo W Z n (n - (i + 1)) x w' := by
  obtain ⟨c, c1, _, _, vd', vw', vh', vi', ds', ws', hs', is', hI, l1, l2, l3, l4, hb'⟩ := h
  refine ⟨vd', vw', vh', vi', ds', ws', hs', is', hI, by omega, by omega, fun x hx => ?_⟩
  exact ⟨i + 1, vd', vw', vh', vi', ds', ws', hs', is', rfl, by omega, hx, hI, by omega, by omega, by omega, by omega, hb.trans hb'⟩

def headOps (n : Nat) : List OpD := [⟨2, 0, 0, 0, ⟨#[]⟩, some ⟨n + 1, 0, none⟩, 2, [headA, headB]⟩, ⟨7, 0, 0, 0, headT, none, 0, []⟩, ⟨8, 0, 0, 0, headT, none, 0, []⟩]

/-- the world that the head lays. -/
def headW (w : World) (t1 t2 t3 : TypeId) : World :=
  ((w.alloc (.cells #[.slice none 0 0, .slice none 0 0, .slice none 0 0, .slice none 0 0] t1)).alloc (.cells #[.string headA, .string headB] t2)).alloc
    (.cells #[.int .i64 2, .int .i64 0, .int .i64 0, .int .i64 0, .string ⟨#[]⟩, .slice (some ⟨w.heap.size + 1, 0, none⟩) 2 2, .int .i64 7, .int .i64 0, .int .i64 0, .int .i64 0, .string headT, .slice none 0 0, .int .i64 8, .int .i64 0, .int .i64 0, .int .i64 0, .string headT, .slice none 0 0] t3)

theorem headW_size (w : World) (t1 t2 t3 : TypeId) : (headW w t1 t2 t3).heap.size = w.heap.size + 3 := by simp [headW]
theorem headW_same (w : World) (t1 t2 t3 : TypeId) : Same w (headW w t1 t2 t3) := (((Same.refl w).alloc _).alloc _).alloc _

theorem headW_z (w : World) (t1 t2 t3 : TypeId) (k : Nat) (hk : k < 4) : (headW w t1 t2 t3).cell? ⟨w.heap.size, k, none⟩ = some (.slice none 0 0) := by
  have h : (w.alloc (.cells #[Value.slice none 0 0, .slice none 0 0, .slice none 0 0, .slice none 0 0] t1)).cell? ⟨w.heap.size, k, none⟩ = some (.slice none 0 0) := by
    rw [World.cell?_alloc_at _ _ _ _ rfl]
    match k, hk with
    | 0, _ => rfl
    | 1, _ => rfl
    | 2, _ => rfl
    | 3, _ => rfl
  exact (Kept.cell (((Same.refl _).alloc _).alloc _) (p := ⟨w.heap.size, k, none⟩) (by simp) id).trans h

theorem headW_frz (w : World) (t1 t2 t3 : TypeId) (o : Nat) : (headW w t1 t2 t3).frozen? ⟨w.heap.size, o, none⟩ = false := by
  have h : (w.alloc (.cells #[Value.slice none 0 0, .slice none 0 0, .slice none 0 0, .slice none 0 0] t1)).frozen? ⟨w.heap.size, o, none⟩ = false := by simp
  exact (Kept.frozen (((Same.refl _).alloc _).alloc _) (p := ⟨w.heap.size, o, none⟩) (by simp) id).trans h

theorem headW_strs (w : World) (t1 t2 t3 : TypeId) (i : Nat) (hi : i < 2) : (headW w t1 t2 t3).cell? ⟨w.heap.size + 1, i, none⟩ = some (.string [headA, headB][i]) := by
  have h : ((w.alloc (.cells #[Value.slice none 0 0, .slice none 0 0, .slice none 0 0, .slice none 0 0] t1)).alloc (.cells #[.string headA, .string headB] t2)).cell? ⟨w.heap.size + 1, i, none⟩ = some (.string [headA, headB][i]) := by
    rw [World.cell?_alloc_at _ _ _ _ (by simp)]
    match i, hi with
    | 0, _ => rfl
    | 1, _ => rfl
  exact (Kept.cell ((Same.refl _).alloc _) (p := ⟨w.heap.size + 1, i, none⟩) (by simp) id).trans h

theorem headW_op (w : World) (t1 t2 t3 : TypeId) (k : Nat) (x : Value) (hx : #[Value.int .i64 2, .int .i64 0, .int .i64 0, .int .i64 0, .string ⟨#[]⟩, .slice (some ⟨w.heap.size + 1, 0, none⟩) 2 2, .int .i64 7, .int .i64 0, .int .i64 0, .int .i64 0, .string headT, .slice none 0 0, .int .i64 8, .int .i64 0, .int .i64 0, .int .i64 0, .string headT, .slice none 0 0][k]? = some x) :
    (headW w t1 t2 t3).cell? ⟨w.heap.size + 1 + 1, k, none⟩ = some x := by
  unfold headW
  rw [World.cell?_alloc_at _ _ _ _ (by simp)]
  exact hx

theorem zero_ok : (-9223372036854775808 : Int) ≤ 0 ∧ (0 : Int) ≤ 9223372036854775807 := by decide

/-- an op of the head, as long as nothing but the World has turned. -/
theorem headOp_at {w wr : World} {t1 t2 t3 : TypeId} (hb : BelowZ (w.heap.size + 3) w.heap.size (headW w t1 t2 t3) wr) {i : Nat} (hi : i < 3) :
    ∃ o, OpAt wr (w.heap.size + 1 + 1) (i * 6) o ∧ ((i = 0 ∧ o.kind = 2 ∧ ∀ err, ¬ BuildNo o.ss err) ∨ (1 ≤ i ∧ (o.kind = 7 ∨ o.kind = 8))) := by
  have hz := headW_size w t1 t2 t3
  have hc : ∀ k x, (headW w t1 t2 t3).cell? ⟨w.heap.size + 1 + 1, k, none⟩ = some x → wr.cell? ⟨w.heap.size + 1 + 1, k, none⟩ = some x := fun k x h => (Kept.cell hb (p := ⟨w.heap.size + 1 + 1, k, none⟩) (cell_lt h) (by rintro (e | e) <;> simp at e <;> omega)).trans h
  have hs : ∀ k x, (headW w t1 t2 t3).cell? ⟨w.heap.size + 1, k, none⟩ = some x → wr.cell? ⟨w.heap.size + 1, k, none⟩ = some x := fun k x h => (Kept.cell hb (p := ⟨w.heap.size + 1, k, none⟩) (cell_lt h) (by rintro (e | e) <;> simp at e <;> omega)).trans h
  have hop := fun k x hx => hc k x (headW_op w t1 t2 t3 k x hx)
  match i, hi with
  | 0, _ =>
    refine ⟨⟨2, 0, 0, 0, ⟨#[]⟩, some ⟨w.heap.size + 1, 0, none⟩, 2, [headA, headB]⟩, ⟨hop _ _ rfl, hop _ _ rfl, hop _ _ rfl, hop _ _ rfl, hop _ _ rfl, hop _ _ rfl, zero_ok, zero_ok, zero_ok, Nat.zero_le _, (by show (2 : Nat) ≤ 1048576; decide), ?_⟩, .inl ⟨rfl, rfl, head_builds⟩⟩
    refine ⟨fun s hs => ?_, .inr ⟨_, _, rfl, fun i hi => ?_⟩⟩
    · simp at hs
      unfold maxLen
      rcases hs with rfl | rfl <;> decide
    · rw [Nat.zero_add]
      exact hs _ _ (headW_strs w t1 t2 t3 i hi)
  | 1, _ => exact ⟨⟨7, 0, 0, 0, headT, none, 0, []⟩, ⟨hop _ _ rfl, hop _ _ rfl, hop _ _ rfl, hop _ _ rfl, hop _ _ rfl, hop _ _ rfl, by decide, by decide, by decide, by decide, by decide, ⟨fun s hs => (by cases hs), .inl rfl⟩⟩, .inr ⟨by omega, .inl rfl⟩⟩
  | 2, _ => exact ⟨⟨8, 0, 0, 0, headT, none, 0, []⟩, ⟨hop _ _ rfl, hop _ _ rfl, hop _ _ rfl, hop _ _ rfl, hop _ _ rfl, hop _ _ rfl, by decide, by decide, by decide, by decide, by decide, ⟨fun s hs => (by cases hs), .inl rfl⟩⟩, .inr ⟨by omega, .inr rfl⟩⟩

theorem headW_below {w wr : World} {t1 t2 t3 : TypeId} (hb : BelowZ (w.heap.size + 3) w.heap.size (headW w t1 t2 t3) wr) : Below w.heap.size w wr :=
  Kept.below (Kept.trans (S := fun j => w.heap.size ≤ j) (Kept.mono (headW_same w t1 t2 t3) (fun _ e => e.elim)) hb (fun j e => .inl (by rcases e with e | e <;> omega))) (Nat.le_refl _) (fun _ e => e)

set_option maxHeartbeats 8000000 in
set_option maxRecDepth 20000 in
theorem all_walk (WI : WalkIfAll) (HC : CutOk) (HL : CutLongOk) (w : World) (a : Option Addr) (cap : Nat) (ops : List OpD) (hO : OpsAt w a ops) (hn : ops.length ≤ 1048576) :
    Calls Tryz.prog 3 #[.slice a ops.length cap] w fun e w' => e = .returned (.bool true) ∧ Below w.heap.size w w' := by
  have HCC : Hid CutOk := HC
  have HLL : Hid CutLongOk := HL
  have HO : Hid (OpsAt w a ops) := hO
  obtain ⟨W, hW⟩ : ∃ W, W = headW w 29 9 32 := ⟨_, rfl⟩
  have HW : Hid (W = headW w 29 9 32) := hW
  have hH0 : HeadRel WI (w.heap.size + 3) W w.heap.size 3 (.int .i64 0) W := by
    refine ⟨0, .slice none 0 0, .slice none 0 0, .slice none 0 0, .slice none 0 0, [], [], [], [], rfl, by omega, rfl, ?_, rfl, by simp, by simp, by simp, Kept.refl _ _⟩
    rw [hW]
    exact AllInv.start WI (headW_z w _ _ _ 0 (by omega)) (headW_z w _ _ _ 1 (by omega)) (headW_z w _ _ _ 2 (by omega)) (headW_z w _ _ _ 3 (by omega)) (headW_frz w _ _ _) (by rw [headW_size]; omega)
  have HH0 : Hid (HeadRel WI (w.heap.size + 3) W w.heap.size 3 (.int .i64 0) W) := hH0
  clear hO HC HL hH0
  go_enter Tryz.func3, Tryz.ntmps3
  go_wp2_with fail
  have hWe : (((w.alloc (.cells #[.slice none 0 0, .slice none 0 0, .slice none 0 0, .slice none 0 0] 29)).alloc (.cells #[.string ⟨#[97, 98, 61, 50, 48, 44, 97, 98, 99, 61, 51, 48, 44, 99, 61, 49, 48, 44, 100, 101, 61, 49, 48]⟩, .string ⟨#[97, 98, 61, 51, 48, 44, 65, 66, 61, 49]⟩] 9)).alloc
    (.cells #[.int .i64 2, .int .i64 0, .int .i64 0, .int .i64 0, .string ⟨#[]⟩, .slice (some ⟨w.heap.size + 1, 0, none⟩) 2 2, .int .i64 7, .int .i64 0, .int .i64 0, .int .i64 0, .string ⟨#[97, 98, 99, 100, 101, 65, 66, 32, 55]⟩, .slice none 0 0, .int .i64 8, .int .i64 0, .int .i64 0, .int .i64 0, .string ⟨#[97, 98, 99, 100, 101, 65, 66, 32, 55]⟩, .slice none 0 0] 32)) = W := HW.out.symm
  rw [hWe]
  clear hWe hW
  go_loopg [5] 3 (fun g x wr => HeadRel WI (w.heap.size + 3) W w.heap.size g x wr)
  case atStart => exact HH0.out
  case round =>
    obtain ⟨i, vd, vw, vh, vi, ds, ws, hs, is, rfl, hi, rfl, hI, l1, l2, l3, l4, hb⟩ := hrel
    by_cases hlt : i < 3
    · have hlt' : (i : Int) < 3 := by omega
      obtain ⟨o, hop, hcond⟩ := headOp_at (by rw [← HW.out]; exact hb) hlt
      have HCD : Hid ((i = 0 ∧ o.kind = 2 ∧ ∀ err, ¬ BuildNo o.ss err) ∨ (1 ≤ i ∧ (o.kind = 7 ∨ o.kind = 8))) := hcond
      have hC := allStep_any HCC.out HLL.out hI (by omega) (by omega) (by omega) (by omega) o.kind o.A o.B o.C o.S o.a o.cap o.ss hop.A0.1 hop.A0.2 hop.B0.1 hop.B0.2 hop.C0.1 hop.C0.2 hop.S0 hop.L hop.L0
      have HST : Hid (∀ w', StepEndA WI (w.heap.size + 3) o.kind o.ss wr w' w.heap.size ds.length ws.length hs.length is.length → (∃ a cap, w'.cell? ⟨w.heap.size, 0, none⟩ = some (.slice a 1 cap)) ∧ ∀ x, x = .int .i64 ((i + 1 : Nat) : Int) → HeadRel WI (w.heap.size + 3) W w.heap.size (3 - (i + 1)) x w') := fun w' h => head_step hlt l1 l2 l3 l4 hb HCD.out h
      obtain ⟨c0, c1, c2, c3, c4, c5, -⟩ := hop
      unfold opRow at hC
      clear hI l1 l2 l3 l4 hb hcond
      go_wp2_with fail
      refine hC.mono ?_
      rintro e w1 ⟨rfl, hst⟩
      obtain ⟨⟨ad, cd, hcd⟩, hnx⟩ := HST.out w1 hst
      have HNX : Hid (∀ x, x = .int .i64 ((i + 1 : Nat) : Int) → HeadRel WI (w.heap.size + 3) W w.heap.size (3 - (i + 1)) x w1) := hnx
      clear hst hnx hC c0 c1 c2 c3 c4 c5
      go_wp2
      go_roundg (3 - (i + 1))
      case measure => omega
      case rel => exact HNX.out _ (by go_num)
    · have hlt' : ¬ (i : Int) < 3 := by omega
      have HR0 : Hid (RunRelA WI (w.heap.size + 3) W w.heap.size ops.length ops.length (.int .i64 0) wr) := ⟨0, vd, vw, vh, vi, ds, ws, hs, is, by omega, by omega, rfl, hI, by omega, by omega, by omega, by omega, hb⟩
      clear hI l1 l2 l3 l4 hb
      go_wp2_with fail
      go_loopg [7] ops.length (fun g x wr => RunRelA WI (w.heap.size + 3) W w.heap.size ops.length g x wr)
      case atStart => exact HR0.out
      case round =>
        obtain ⟨k, vd, vw, vh, vi, ds, ws, hs, is, rfl, hk, rfl, hI, l1, l2, l3, l4, hb⟩ := hrel
        have hbw : Below w.heap.size w wr := headW_below (by rw [← HW.out]; exact hb)
        by_cases hkl : k < ops.length
        · have hkl' : (k : Int) < (ops.length : Int) := by omega
          rcases HO.out with h0 | ⟨b, off, rfl, hall⟩
          · rw [h0] at hkl; simp at hkl
          · have hop := (hall k hkl).below hbw
            obtain ⟨o, ho⟩ : ∃ o, o = ops[k] := ⟨_, rfl⟩
            rw [← ho] at hop
            have hC := allStep_any HCC.out HLL.out hI (by omega) (by omega) (by omega) (by omega) o.kind o.A o.B o.C o.S o.a o.cap o.ss hop.A0.1 hop.A0.2 hop.B0.1 hop.B0.2 hop.C0.1 hop.C0.2 hop.S0 hop.L hop.L0
            have HST : Hid (∀ w', StepEndA WI (w.heap.size + 3) o.kind o.ss wr w' w.heap.size ds.length ws.length hs.length is.length → ∃ (vd vw vh vi : Value) (ds : List DT) (ws : List WT) (hs is : List Value), AllInv WI (w.heap.size + 3) w' w.heap.size vd vw vh vi ds ws hs is ∧ hs.length ≤ k + 4 ∧ is.length ≤ k + 4 ∧ ∀ x, x = .int .i64 ((k + 1 : Nat) : Int) → RunRelA WI (w.heap.size + 3) W w.heap.size ops.length (ops.length - (k + 1)) x w') := fun w' h => run_step hkl l1 l2 l3 l4 hb h
            obtain ⟨c0, c1, c2, c3, c4, c5, -⟩ := hop
            unfold opRow at hC
            clear hI l1 l2 l3 l4 hb hall ho hbw
            go_wp2_with fail
            refine hC.mono ?_
            rintro e w1 ⟨rfl, hst⟩
            obtain ⟨vd1, vw1, vh1, vi1, ds1, ws1, hs1, is1, hI1, m1, m2, hnx⟩ := HST.out w1 hst
            have HNX : Hid (∀ x, x = .int .i64 ((k + 1 : Nat) : Int) → RunRelA WI (w.heap.size + 3) W w.heap.size ops.length (ops.length - (k + 1)) x w1) := hnx
            have hLk := looks_any w1 w.heap.size _ _ hs1.length is1.length vh1 vi1 hs1 is1 hI1.c2 hI1.c3 hI1.rh hI1.ri (by omega) (by omega)
            clear hst hnx hC c0 c1 c2 c3 c4 c5 hI1
            go_wp2_with fail
            refine hLk.mono ?_
            rintro e w2 ⟨rfl, rfl⟩
            clear hLk
            go_wp2
            go_roundg (ops.length - (k + 1))
            case measure => omega
            case rel => exact HNX.out _ (by go_num)
        · have hkl' : ¬ (k : Int) < (ops.length : Int) := by omega
          have HBW : Hid (Below w.heap.size w wr) := hbw
          clear hI l1 l2 l3 l4 hb hbw
          go_wp2
          go_ret
          exact ⟨rfl, HBW.out⟩

end Go.Proofs.YtlfpepehngkehaaGreat
