/-
  Walks: the reference's walk: the nearest boundaries, and the kind of a piece.
-/
import Derived.Test.YtlfpepehngkehaaGreatRefCutAll
import Derived.Test.YtlfpepehngkehaaGreatMaths
import Derived.BigQuiet
import Derived.Deep.QuietTactic
import Derived.Deep.RegionWith
import Derived.Deep.LoopGhost
import Derived.Deep.DeepCutAuto
namespace Go.Proofs.YtlfpepehngkehaaGreat
set_option linter.unusedSimpArgs false
set_option linter.unusedVariables false
open Go.RowKit

structure RWalk (w : World) (P B : Nat) (D : Dic) (Wv Cv lv : Value) (t : ByteArray) (l : List Nat) (a : Nat) : Prop where
  c0 : w.cell? ⟨P, 0, none⟩ = some (.pointer (some ⟨B, 0, none⟩))
  c1 : w.cell? ⟨P, 1, none⟩ = some (.string t)
  c2 : w.cell? ⟨P, 2, none⟩ = some lv
  c3 : w.cell? ⟨P, 3, none⟩ = some (.int .i64 a)
  fz : ∀ o, w.frozen? ⟨P, o, none⟩ = false
  bk : BookAt w B D Wv Cv
  row : w.ownsRow 0 3 1 lv l.length (intCells l)
  pB : P ≠ B
  pW : Wv.ownBlock ≠ some P
  pC : Cv.ownBlock ≠ some P
  pl : lv.ownBlock ≠ some P

theorem RWalk.kept {w w' : World} {P B : Nat} {D : Dic} {Wv Cv lv : Value} {t : ByteArray} {l : List Nat} {a : Nat} {S : Nat → Prop} (h : RWalk w P B D Wv Cv lv t l a) (hk : Kept w w' S) (hP : ¬ S P) (hB : ¬ S B) (hW : ∀ k, Wv.ownBlock = some k → ¬ S k) (hC : ∀ k, Cv.ownBlock = some k → ¬ S k) (hl : ∀ k, lv.ownBlock = some k → ¬ S k) : RWalk w' P B D Wv Cv lv t l a := by
  have hb : P < w.heap.size := cell_lt h.c0
  exact ⟨(hk.cell (p := ⟨P, 0, none⟩) hb hP).trans h.c0, (hk.cell (p := ⟨P, 1, none⟩) hb hP).trans h.c1, (hk.cell (p := ⟨P, 2, none⟩) hb hP).trans h.c2, (hk.cell (p := ⟨P, 3, none⟩) hb hP).trans h.c3,
    fun o => (hk.frozen (p := ⟨P, o, none⟩) hb hP).trans (h.fz o), h.bk.kept hk hB hW hC, Kept.row h.row hk hl, h.pB, h.pW, h.pC, h.pl⟩

theorem RWalk.same {w w' : World} {P B : Nat} {D : Dic} {Wv Cv lv : Value} {t : ByteArray} {l : List Nat} {a : Nat} (h : RWalk w P B D Wv Cv lv t l a) (hs : Same w w') : RWalk w' P B D Wv Cv lv t l a :=
  h.kept hs id (fun e => e) (fun _ _ e => e) (fun _ _ e => e) (fun _ _ e => e)

theorem RWalk.move {w : World} {P B : Nat} {D : Dic} {Wv Cv lv : Value} {t : ByteArray} {l : List Nat} {a : Nat} (h : RWalk w P B D Wv Cv lv t l a) (a' : Nat) : RWalk (w.setCell ⟨P, 3, none⟩ (.int .i64 a')) P B D Wv Cv lv t l a' ∧ Kept w (w.setCell ⟨P, 3, none⟩ (.int .i64 a')) (fun k => k = P) := by
  have hk : Kept w (w.setCell ⟨P, 3, none⟩ (.int .i64 a')) (fun k => k = P) := Kept.setCell (Kept.refl w _) _ _ (.inl rfl)
  refine ⟨⟨(World.cell?_setCell_other _ _ _ _ (by simp)).trans h.c0, (World.cell?_setCell_other _ _ _ _ (by simp)).trans h.c1, (World.cell?_setCell_other _ _ _ _ (by simp)).trans h.c2, World.cell?_setCell_same _ _ _ h.c3, fun o => by simp [h.fz], ?_, ?_, h.pB, h.pW, h.pC, h.pl⟩, hk⟩
  · exact h.bk.kept hk (fun e => h.pB e.symm) (fun k e e2 => h.pW (e2 ▸ e)) (fun k e e2 => h.pC (e2 ▸ e))
  · exact Kept.row h.row hk (fun k e e2 => h.pl (e2 ▸ e))

def FindRes (D : Dic) (x : ByteArray) (e : Ending) : Prop := ∃ r : Int, e = .returned (.int .i64 r) ∧ (0 ≤ r ↔ ∃ p ∈ D, p.1 = x)

theorem take_snoc {α : Type} (l : List α) (i : Nat) (h : i < l.length) : l.take (i + 1) = l.take i ++ [l[i]] := by
  rw [List.take_add_one, List.getElem?_eq_getElem h]
  rfl

def FindRel (D : Dic) (x : ByteArray) (w : World) (y : Value) (wr : World) : Prop := ∃ i : Nat, i ≤ D.length ∧ y = .int .i64 i ∧ (∀ j (h : j < D.length), j < i → D[j].1 ≠ x) ∧ wr = w

set_option maxHeartbeats 1000000 in
theorem bookFind_any (w : World) (B : Nat) (D : Dic) (Wv Cv : Value) (hB : BookAt w B D Wv Cv) (hD : D.length ≤ 150) (x : ByteArray) :
    Calls Tryz.prog 80 #[.pointer (some ⟨B, 0, none⟩), .string x] w fun e w' => FindRes D x e ∧ w' = w := by
  obtain ⟨pw, capw, rfl, hgw⟩ := row_form hB.ow
  have hb0 := hB.c0
  have HB : Hid (BookAt w B D (.slice pw D.length capw) Cv) := hB
  clear hB
  go_enter Tryz.func80, Tryz.ntmps80
  go_wp2_with fail
  go_loopw [5] (fun y wr => FindRel D x w y wr) (fun y _ => D.length - (intOf y).toNat)
  case atStart => exact ⟨0, Nat.zero_le _, rfl, fun j _ h => by omega, rfl⟩
  case round =>
    obtain ⟨i, hi, rfl, hno, rfl⟩ := hrel
    have HNO : Hid (∀ j (h : j < D.length), j < i → D[j].1 ≠ x) := hno
    clear hno
    by_cases hlt : i < D.length
    · have hlt' : (i : Int) < (D.length : Int) := by omega
      obtain ⟨gw, rfl⟩ := hgw (by omega)
      have hw0 := own_str HB.out.ow (by simp) (k := i) (by simpa using hlt)
      simp only [List.getElem_map] at hw0
      obtain ⟨p, hp⟩ : ∃ p, p = D[i].1 := ⟨_, rfl⟩
      rw [← hp] at hw0
      have HP : Hid (p = D[i].1) := hp
      clear hp
      by_cases he : p = x
      · have ht : (p.toList == x.toList) = true := by rw [he]; simp
        have HR : Hid (∃ p ∈ D, p.1 = x) := ⟨D[i], List.getElem_mem hlt, by rw [← HP.out]; exact he⟩
        clear he
        go_wp2
        go_ret
        exact ⟨⟨i, rfl, ⟨fun _ => HR.out, fun _ => by omega⟩⟩, rfl⟩
      · have ht : (p.toList == x.toList) = false := beq_eq_false_iff_ne.2 fun e => he (ba_ext e)
        have HN2 : Hid (∀ j (h : j < D.length), j < i + 1 → D[j].1 ≠ x) := fun j h1 h2 => by
          by_cases e : j = i
          · subst e; rw [← HP.out]; exact he
          · exact HNO.out j h1 (by omega)
        clear he
        go_wp2
        go_roundw
        case rel => exact ⟨i + 1, by omega, by go_num, HN2.out, rfl⟩
        case measure => simp [intOf]; omega
    · have HR : Hid (¬ ∃ p ∈ D, p.1 = x) := fun ⟨p, h1, h2⟩ => by
        obtain ⟨j, hj, rfl⟩ := List.mem_iff_getElem.1 h1
        exact HNO.out j hj (by omega) h2
      go_wp2
      go_ret
      exact ⟨⟨-1, rfl, ⟨fun h => by omega, fun h => absurd h HR.out⟩⟩, rfl⟩

def AbvRel (l : List Nat) (k : Int) (w : World) (b y : Value) (wr : World) : Prop := ∃ (i : Nat) (r : Int), i ≤ l.length ∧ y = .int .i64 i ∧ b = .int .i64 r ∧ IsAbv (l.take i) k r ∧ wr = w
def BlwRel (l : List Nat) (k : Int) (w : World) (b y : Value) (wr : World) : Prop := ∃ (i : Nat) (r : Int), i ≤ l.length ∧ y = .int .i64 i ∧ b = .int .i64 r ∧ IsBlw (l.take i) k r ∧ wr = w
def AbvRes (l : List Nat) (k : Int) (e : Ending) : Prop := ∃ r : Int, e = .returned (.int .i64 r) ∧ IsAbv l k r
def BlwRes (l : List Nat) (k : Int) (e : Ending) : Prop := ∃ r : Int, e = .returned (.int .i64 r) ∧ IsBlw l k r

set_option maxHeartbeats 1000000 in
theorem above_any (w : World) (P B : Nat) (D : Dic) (Wv Cv lv : Value) (t : ByteArray) (l : List Nat) (a : Nat) (h : RWalk w P B D Wv Cv lv t l a) (hl : l.length ≤ 1000) (k : Int) :
    Calls Tryz.prog 53 #[.pointer (some ⟨P, 0, none⟩), .int .i64 k] w fun e w' => AbvRes l k e ∧ w' = w := by
  obtain ⟨ap, cp, rfl, hg⟩ := row_form h.row
  have hc2 := h.c2
  have HR : Hid (w.ownsRow 0 3 1 (.slice ap l.length cp) l.length (intCells l)) := h.row
  clear h
  go_enter Tryz.func53, Tryz.ntmps53
  go_wp2_with fail
  go_loopw [5, 6] (fun b y wr => AbvRel l k w b y wr) (fun _ y _ => l.length - (intOf y).toNat)
  case atStart => exact ⟨0, -1, Nat.zero_le _, rfl, rfl, IsAbv.nil k, rfl⟩
  case round =>
    obtain ⟨i, r, hi, rfl, rfl, hr, rfl⟩ := hrel
    have HA : Hid (IsAbv (l.take i) k r) := hr
    clear hr
    by_cases hlt : i < l.length
    · have hlt' : (i : Int) < (l.length : Int) := by omega
      obtain ⟨g, rfl⟩ := hg (by omega)
      have hx := own_int HR.out rfl hlt
      obtain ⟨x, hxd⟩ : ∃ x, x = l[i] := ⟨_, rfl⟩
      rw [← hxd] at hx
      have HT : Hid (l.take (i + 1) = l.take i ++ [x]) := by show _ = _; rw [take_snoc l i hlt, hxd]
      clear hxd
      by_cases h1 : k < (x : Int)
      · by_cases h2 : r = -1
        · have HN : Hid (IsAbv (l.take (i + 1)) k x) := by show IsAbv _ _ _; rw [HT.out]; exact HA.out.put h1 (.inl h2)
          subst h2
          go_wp2
          go_roundw
          case rel => exact ⟨i + 1, x, by omega, by go_num, rfl, HN.out, rfl⟩
          case measure => simp [intOf]; omega
        · have h2' : (r == -1) = false := by simp [h2]
          by_cases h3 : (x : Int) < r
          · have HN : Hid (IsAbv (l.take (i + 1)) k x) := by show IsAbv _ _ _; rw [HT.out]; exact HA.out.put h1 (.inr h3)
            go_wp2
            go_roundw
            case rel => exact ⟨i + 1, x, by omega, by go_num, rfl, HN.out, rfl⟩
            case measure => simp [intOf]; omega
          · have HN : Hid (IsAbv (l.take (i + 1)) k r) := by show IsAbv _ _ _; rw [HT.out]; exact HA.out.keep (fun h => by rcases h.2 with e | e; exact h2 e; exact h3 e)
            go_wp2
            go_roundw
            case rel => exact ⟨i + 1, r, by omega, by go_num, rfl, HN.out, rfl⟩
            case measure => simp [intOf]; omega
      · have HN : Hid (IsAbv (l.take (i + 1)) k r) := by show IsAbv _ _ _; rw [HT.out]; exact HA.out.keep (fun h => h1 h.1)
        go_wp2
        go_roundw
        case rel => exact ⟨i + 1, r, by omega, by go_num, rfl, HN.out, rfl⟩
        case measure => simp [intOf]; omega
    · have HN : Hid (IsAbv l k r) := by
        have := HA.out
        rw [show i = l.length by omega, List.take_length] at this
        exact this
      go_wp2
      go_ret
      exact ⟨⟨r, rfl, HN.out⟩, rfl⟩

set_option maxHeartbeats 1000000 in
theorem below_any (w : World) (P B : Nat) (D : Dic) (Wv Cv lv : Value) (t : ByteArray) (l : List Nat) (a : Nat) (h : RWalk w P B D Wv Cv lv t l a) (hl : l.length ≤ 1000) (k : Int) :
    Calls Tryz.prog 54 #[.pointer (some ⟨P, 0, none⟩), .int .i64 k] w fun e w' => BlwRes l k e ∧ w' = w := by
  obtain ⟨ap, cp, rfl, hg⟩ := row_form h.row
  have hc2 := h.c2
  have HR : Hid (w.ownsRow 0 3 1 (.slice ap l.length cp) l.length (intCells l)) := h.row
  clear h
  go_enter Tryz.func54, Tryz.ntmps54
  go_wp2_with fail
  go_loopw [5, 6] (fun b y wr => BlwRel l k w b y wr) (fun _ y _ => l.length - (intOf y).toNat)
  case atStart => exact ⟨0, -1, Nat.zero_le _, rfl, rfl, IsBlw.nil k, rfl⟩
  case round =>
    obtain ⟨i, r, hi, rfl, rfl, hr, rfl⟩ := hrel
    have HA : Hid (IsBlw (l.take i) k r) := hr
    clear hr
    by_cases hlt : i < l.length
    · have hlt' : (i : Int) < (l.length : Int) := by omega
      obtain ⟨g, rfl⟩ := hg (by omega)
      have hx := own_int HR.out rfl hlt
      obtain ⟨x, hxd⟩ : ∃ x, x = l[i] := ⟨_, rfl⟩
      rw [← hxd] at hx
      have HT : Hid (l.take (i + 1) = l.take i ++ [x]) := by show _ = _; rw [take_snoc l i hlt, hxd]
      clear hxd
      by_cases h1 : (x : Int) < k
      · by_cases h3 : r < (x : Int)
        · have HN : Hid (IsBlw (l.take (i + 1)) k x) := by show IsBlw _ _ _; rw [HT.out]; exact HA.out.put h1 h3
          go_wp2
          go_roundw
          case rel => exact ⟨i + 1, x, by omega, by go_num, rfl, HN.out, rfl⟩
          case measure => simp [intOf]; omega
        · have HN : Hid (IsBlw (l.take (i + 1)) k r) := by show IsBlw _ _ _; rw [HT.out]; exact HA.out.keep (fun h => h3 h.2)
          go_wp2
          go_roundw
          case rel => exact ⟨i + 1, r, by omega, by go_num, rfl, HN.out, rfl⟩
          case measure => simp [intOf]; omega
      · have HN : Hid (IsBlw (l.take (i + 1)) k r) := by show IsBlw _ _ _; rw [HT.out]; exact HA.out.keep (fun h => h1 h.1)
        go_wp2
        go_roundw
        case rel => exact ⟨i + 1, r, by omega, by go_num, rfl, HN.out, rfl⟩
        case measure => simp [intOf]; omega
    · have HN : Hid (IsBlw l k r) := by
        have := HA.out
        rw [show i = l.length by omega, List.take_length] at this
        exact this
      go_wp2
      go_ret
      exact ⟨⟨r, rfl, HN.out⟩, rfl⟩

end Go.Proofs.YtlfpepehngkehaaGreat
