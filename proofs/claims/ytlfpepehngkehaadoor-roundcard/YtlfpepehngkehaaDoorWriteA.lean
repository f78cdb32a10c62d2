/-
  Walks: an image as it is written: bytes, numbers, texts.
-/
import Derived.Test.YtlfpepehngkehaaDoorRows
import Derived.Test.YtlfpepehngkehaaDoorRowsW
import Derived.Test.YtlfpepehngkehaaDoorLeafP
import Derived.Test.YtlfpepehngkehaaDoorMaths
import Derived.Lib.AppendStr
import Derived.BigQuiet
import Derived.Deep.RegionWith
import Derived.Deep.LoopGhost
import Derived.WalkSpells
import Derived.WalkLawsBesides
namespace Go.Proofs.YtlfpepehngkehaaDoor
set_option linter.unusedSimpArgs false
set_option linter.unusedVariables false
open Go.RowKit

def bCells (L : List UInt8) : List Value := L.map fun b => Value.int .u8 (b.toNat : Int)

theorem bCells_append (L M : List UInt8) : bCells (L ++ M) = bCells L ++ bCells M := by simp [bCells]
theorem bCells_length (L : List UInt8) : (bCells L).length = L.length := by simp [bCells]
theorem bCells_at (L : List UInt8) (i : Nat) (h : i < L.length) : (bCells L)[i]? = some (.int .u8 (L[i].toNat : Int)) := by simp [bCells, h]

theorem Tryd.infoByte : (Tryd.prog.info? 5).map (fun i => (i.zero, i.size, i.bytes)) = some (some (.int .u8 0), 1, 1) := by kernel_rfl

/-- the writer at b: what it has written. -/
structure WrAt (w : World) (b : Nat) (v : Value) (L : List UInt8) : Prop where
  cell : w.cell? ⟨b, 0, none⟩ = some v
  frz : w.frozen? ⟨b, 0, none⟩ = false
  own : w.ownsRow (b + 1) 5 1 v L.length (bCells L)

def WrRes (w w' : World) (b : Nat) (L : List UInt8) : Prop := ∃ v, WrAt w' b v L ∧ Below b w w'

theorem wr_grown {w wx w2 : World} {b n : Nat} {v v' : Value} {L M : List UInt8} (h : WrAt w b v L) (hx : Kept w wx (fun _ => False)) (hg : wx.grownBy w2 v.ownBlock)
    (ho : w2.ownsRow (b + 1) 5 1 v' n (bCells L ++ bCells M)) (hn : n = L.length + M.length) :
    w2.cell? ⟨b, 0, none⟩ = some v ∧ w2.frozen? ⟨b, 0, none⟩ = false ∧ WrRes w (w2.setCell ⟨b, 0, none⟩ v') b (L ++ M) := by
  have hb : b < w.heap.size := cell_lt h.cell
  have hne : ∀ k, v.ownBlock = some k → k ≠ b := fun k hk => by have := (h.own.lt k hk).1; omega
  have hK : Kept w w2 (fun k => v.ownBlock = some k) := (hx.mono (T := fun k => v.ownBlock = some k) (fun _ e => e.elim)).grown hg (fun k hk => .inl hk)
  have hc : w2.cell? ⟨b, 0, none⟩ = some v := (hK.cell (p := ⟨b, 0, none⟩) hb (fun e => hne b e rfl)).trans h.cell
  have hf : w2.frozen? ⟨b, 0, none⟩ = false := (hK.frozen (p := ⟨b, 0, none⟩) hb (fun e => hne b e rfl)).trans h.frz
  refine ⟨hc, hf, v', ⟨?_, by simp [hf], ?_⟩, ?_⟩
  · apply World.cell?_setCell_same; exact hc
  · rw [List.length_append, ← hn, bCells_append]
    exact Kept.row ho ((Kept.refl w2 (fun k => k = b)).setCell ⟨b, 0, none⟩ v' (.inl rfl)) (fun k hk e => by have := (ho.lt k hk).1; omega)
  · have hK2 : Kept w (w2.setCell ⟨b, 0, none⟩ v') (fun k => k = b ∨ v.ownBlock = some k) := (hK.mono (fun k hk => .inl (.inr hk))).setCell _ _ (.inl (.inl rfl))
    refine hK2.below (by omega) (fun k hk => ?_)
    rcases hk with rfl | hk
    · exact Nat.le_refl _
    · have := (h.own.lt k hk).1; omega

theorem WrRes.trans {a w w' : World} {b : Nat} {L : List UInt8} (ha : Below b a w) (h : WrRes w w' b L) : WrRes a w' b L := by
  obtain ⟨v, h1, h2⟩ := h
  exact ⟨v, h1, ha.trans h2⟩

theorem u8_mod (n : Nat) : ((UInt8.ofNat n).toNat : Int) = (n : Int) % 256 := by simp

set_option maxHeartbeats 1000000 in
theorem putByte_any (w : World) (b : Nat) (v : Value) (L : List UInt8) (n : Nat) (hn : n < 256) (hl : L.length ≤ 1000000) (hW : WrAt w b v L) :
    Calls Tryd.prog 61 #[.pointer (some ⟨b, 0, none⟩), .int .i64 n] w fun e w' => e = .returned (.tuple #[]) ∧ WrRes w w' b (L ++ [UInt8.ofNat n]) := by
  have HW : Hid (WrAt w b v L) := hW
  obtain ⟨hcell, hfrz, hown⟩ := hW
  have hbs := cell_lt hcell
  obtain ⟨i0, hi, hz0, hz1, hz2⟩ := info_parts Tryd.infoByte
  have hmm : (n : Int) % 256 = n := by omega
  have HB : Hid (bCells [UInt8.ofNat n] = [.int .u8 (n : Int)]) := by show _ = _; simp [bCells]; omega
  go_enter Tryd.func61, Tryd.ntmps61
  go_wp2_with (at_builtin; refine wpList_append_own_at _ rfl _ _ 42 rfl (b + 1) 5 i0 _ 1 1 Tryd.underlying42 hi hz0 hz1 hz2 rfl (by decide) _ _ _ rfl (hown.alloc _) ⟨w.heap.size, 0, none⟩ 1 1 [.int .u8 (n : Int)] rfl rfl ?c1 ?c2 ?c3 ?c4 ?c5 ?_)
  case c1 => exact cell_one_new _ _ _
  case c2 => intro u hu; simp at hu; subst hu; rfl
  case c3 => unfold maxLen; omega
  case c4 => omega
  case c5 => simp; omega
  intro v' w2 hown' hgrow hnil hat
  rw [← HB.out] at hown'
  obtain ⟨hc2, hf2, hres⟩ := wr_grown HW.out ((Kept.refl w _).alloc _) hgrow hown' rfl
  obtain ⟨a', cap', rfl, _⟩ := row_form hown'
  have HR : Hid (WrRes w (w2.setCell ⟨b, 0, none⟩ (.slice a' (L.length + 1) cap')) b (L ++ [UInt8.ofNat n])) := hres
  clear hres hown' hgrow hnil hat hown hcell hfrz
  go_wp2
  go_end0
  exact ⟨rfl, HR.out⟩

set_option maxHeartbeats 1000000 in
theorem putNumber_any (w : World) (b : Nat) (v : Value) (L : List UInt8) (n : Nat) (hn : n < 65536) (hl : L.length ≤ 900000) (hW : WrAt w b v L) :
    Calls Tryd.prog 46 #[.pointer (some ⟨b, 0, none⟩), .int .i64 n] w fun e w' => e = .returned (.tuple #[]) ∧ WrRes w w' b (L ++ twoL n) := by
  obtain ⟨lo, hlo⟩ : ∃ lo : Nat, lo = n % 256 := ⟨_, rfl⟩
  obtain ⟨hi, hhi⟩ : ∃ hi : Nat, hi = n / 256 := ⟨_, rfl⟩
  have el : Int.tmod (n : Int) 256 = (lo : Int) := by rw [hlo, Int.tmod_eq_emod_of_nonneg (by omega)]; omega
  have eh : Int.tdiv (n : Int) 256 = (hi : Int) := by rw [hhi, Int.tdiv_eq_ediv_of_nonneg (by omega)]; omega
  have el' : (n : Int) % 256 = (lo : Int) := by omega
  have eh' : (n : Int) / 256 = (hi : Int) := by omega
  have HT : Hid (L ++ twoL n = L ++ [UInt8.ofNat lo] ++ [UInt8.ofNat hi]) := by show _ = _; rw [hlo, hhi, twoL_parts, List.append_assoc]
  have h1 : lo < 256 := by omega
  have h2 : hi < 256 := by omega
  clear hlo hhi
  go_enter Tryd.func46, Tryd.ntmps46
  go_wp2_with fail
  refine (putByte_any w b v L lo h1 (by omega) hW).mono ?_
  rintro e w1 ⟨rfl, v1, hW1, hb1⟩
  go_wp2_with fail
  refine (putByte_any w1 b v1 _ hi h2 (by simp; omega) hW1).mono ?_
  rintro e w2 ⟨rfl, hr⟩
  have HR : Hid (WrRes w w2 b (L ++ [UInt8.ofNat lo] ++ [UInt8.ofNat hi])) := hr.trans hb1
  clear hr hW1 hb1
  go_wp2
  go_end0
  exact ⟨rfl, by rw [HT.out]; exact HR.out⟩

set_option maxHeartbeats 1000000 in
theorem putText_any (w : World) (b : Nat) (v : Value) (L : List UInt8) (s : ByteArray) (hs : s.size ≤ 1000) (hl : L.length ≤ 900000) (hW : WrAt w b v L) :
    Calls Tryd.prog 45 #[.pointer (some ⟨b, 0, none⟩), .string s] w fun e w' => e = .returned (.tuple #[]) ∧ WrRes w w' b (L ++ s.toList) := by
  have HW : Hid (WrAt w b v L) := hW
  obtain ⟨hcell, hfrz, hown⟩ := hW
  have hbs := cell_lt hcell
  obtain ⟨i0, hi, hz0, hz1, hz2⟩ := info_parts Tryd.infoByte
  have HB : Hid (bCells s.toList = Lib.strCells s) := by show _ = _; rw [ByteArray.toList_eq]; rfl
  have HL : Hid (s.toList.length = s.size) := toList_length s
  go_enter Tryd.func45, Tryd.ntmps45
  go_wp2_with (at_builtin; refine Lib.wpList_append_own_string _ rfl _ _ 42 9 rfl (b + 1) 5 i0 Tryd.underlying42 Tryd.underlying9 hi hz0 hz1 hz2 _ _ _ rfl hown s rfl ?c3 ?c4 ?c5 ?_)
  case c3 => unfold maxLen; omega
  case c4 => omega
  case c5 => omega
  intro v' w2 hown' hgrow hnil
  rw [← HB.out] at hown'
  obtain ⟨hc2, hf2, hres⟩ := wr_grown HW.out (Kept.refl w _) hgrow hown' (by rw [HL.out])
  obtain ⟨a', cap', rfl, _⟩ := row_form hown'
  have HR : Hid (WrRes w (w2.setCell ⟨b, 0, none⟩ (.slice a' (L.length + s.size) cap')) b (L ++ s.toList)) := hres
  clear hres hown' hgrow hnil hown hcell hfrz
  go_wp2
  go_end0
  exact ⟨rfl, HR.out⟩

set_option maxHeartbeats 2000000 in
theorem inCommon_any (w : World) (x y : ByteArray) (hx : x.size ≤ 1000) (hy : y.size ≤ 1000) :
    Calls Tryd.prog 62 #[.string x, .string y] w fun e w' => e = .returned (.int .i64 (lcpL x.toList y.toList)) ∧ Same w w' := by
  go_enter Tryd.func62, Tryd.ntmps62
  go_wp2_with fail
  go_loopw [5] (fun a wr => ∃ n : Nat, Agree x y n ∧ a = .int .i64 n ∧ Same w wr) (fun a _ => x.size - (intOf a).toNat)
  case atStart => exact ⟨0, ⟨by omega, by omega, fun j h => by omega⟩, rfl, Same.refl _⟩
  case round =>
    obtain ⟨n, hag, rfl, hsame⟩ := hrel
    have HA : Hid (Agree x y n) := hag
    obtain ⟨h1, h2, -⟩ := hag
    by_cases hlx : n < x.size
    · have tx : decide ((n : Int) < (x.size : Int)) = true := decide_eq_true (by omega)
      by_cases hly : n < y.size
      · have ty : decide ((n : Int) < (y.size : Int)) = true := decide_eq_true (by omega)
        have hb1 := bt_get x n hlx
        have hb2 := bt_get y n hly
        have hc1 := bt_lt x n
        have hc2 := bt_lt y n
        by_cases he : bt x n = bt y n
        · have HN : Hid (Agree x y (n + 1)) := agree_next HA.out hlx hly he
          have te : ((bt x n : Int) == (bt y n : Int)) = true := beq_iff_eq.2 (by omega)
          clear he
          go_wp2_with fail
          go_quiet (fail)
          go_wp2
          go_roundw
          case rel => exact ⟨n + 1, HN.out, by go_num, Kept.drewN hsame _⟩
          case measure => simp [intOf]; omega
        · have HN : Hid (n = lcpL x.toList y.toList) := agree_lcp HA.out (.inr (.inr he))
          have te : ((bt x n : Int) == (bt y n : Int)) = false := beq_eq_false_iff_ne.2 (by omega)
          clear he
          go_wp2_with fail
          go_quiet (fail)
          go_wp2
          go_ret
          exact ⟨ret_int (by have := HN.out; omega), Kept.drewN hsame _⟩
      · have HN : Hid (n = lcpL x.toList y.toList) := agree_lcp HA.out (.inr (.inl (by omega)))
        have ty : decide ((n : Int) < (y.size : Int)) = false := decide_eq_false (by omega)
        go_wp2_with fail
        go_quiet (fail)
        go_wp2
        go_ret
        exact ⟨ret_int (by have := HN.out; omega), Kept.drewN hsame _⟩
    · have HN : Hid (n = lcpL x.toList y.toList) := agree_lcp HA.out (.inl (by omega))
      have tx : decide ((n : Int) < (x.size : Int)) = false := decide_eq_false (by omega)
      go_wp2_with fail
      go_quiet (fail)
      go_wp2
      go_ret
      exact ⟨ret_int (by have := HN.out; omega), Kept.drewN hsame _⟩

end Go.Proofs.YtlfpepehngkehaaDoor
