import Derived.Test.YtlfpepehngkehaaGreatRows
import Derived.Test.YtlfpepehngkehaaGreatSetW
import Derived.Test.YtlfpepehngkehaaGreatMaths
import Derived.WalkKit
import Derived.WalkSpells
import Derived.WalkLawsBesides
import Derived.Test.YtlfpepehngkehaaGreatKeptW
import Derived.BigQuiet
import Derived.BigRegion
import Derived.Deep.CutRange
import Derived.Test.YtlfpepehngkehaaGreatReadB
import Derived.Deep.RegionWith
/-
  Walks: where a word stands in a set.
-/
namespace Go.Proofs.YtlfpepehngkehaaGreat
set_option linter.unusedSimpArgs false
set_option linter.unusedVariables false
open Go.RowKit

def FindEnd (D : Dic) (x : ByteArray) (e : Ending) : Prop := ∃ (k : Nat) (f : Bool), e = .returned (.tuple #[.int .i64 k, .bool f]) ∧ SplitAt D x k ∧ (f = true ↔ ∃ h : k < D.length, D[k].1 = x)

set_option maxHeartbeats 1000000 in
theorem find_any (w : World) (b : Nat) (v : Value) (D : Dic) (x : ByteArray) (hS : SetAt w 148 b v D) (hsrt : Srt D) (hlen : D.length ≤ 1000000) :
    Calls Tryz.prog 88 #[.pointer (some ⟨b, 0, none⟩), .string x] w fun e w' => FindEnd D x e ∧ w' = w := by
  have hsh := hS.shape
  obtain ⟨hcell, hfrz, hown, -⟩ := hS
  rcases hsh with ⟨rfl, rfl⟩ | ⟨g, cap, rfl, hbg, hcap, hmax, hgs⟩
  · go_enter Tryz.func88, Tryz.ntmps88
    go_wp2_with fail
    refine wp_loop_rounds 1 ?_
    rw [rounds_succ]
    go_wp2
    go_ret2
    exact ⟨⟨0, false, rfl, ⟨by simp, fun j h => by simp at h, fun j h => by simp at h⟩, by simp⟩, rfl⟩
  · have HS : Hid (Srt D) := hsrt
    clear hsrt
    go_enter Tryz.func88, Tryz.ntmps88
    go_wp2_with fail
    go_loop [6, 7] (fun lo hi => ∃ l h : Nat, l ≤ h ∧ h ≤ D.length ∧ lo = .int .i64 l ∧ hi = .int .i64 h ∧ (∀ j (hj : j < D.length), j < l → wl D[j].1 x = true) ∧ (∀ j (hj : j < D.length), h ≤ j → wl D[j].1 x = false)) (fun lo hi => (intOf hi).toNat - (intOf lo).toNat)
    case atStart => exact ⟨0, D.length, by omega, by omega, rfl, rfl, fun j hj h => by omega, fun j hj h => by omega⟩
    case round =>
      obtain ⟨l, h, hlh, hh, rfl, rfl, h1, h2⟩ := hrel
      have H1 : Hid (∀ j (hj : j < D.length), j < l → wl D[j].1 x = true) := h1
      have H2 : Hid (∀ j (hj : j < D.length), h ≤ j → wl D[j].1 x = false) := h2
      clear h1 h2
      by_cases hlt : l < h
      · have hm1 : l ≤ (l + h) / 2 := by omega
        have hm2 : (l + h) / 2 < h := by omega
        have hmd : (l + h) / 2 < D.length := by omega
        obtain ⟨hc0, _⟩ := own_pair hown (k := (l + h) / 2) rfl hmd
        obtain ⟨y, hy⟩ : ∃ y, y = D[(l + h) / 2].1 := ⟨_, rfl⟩
        rw [← hy] at hc0
        have HY : Hid (y = D[(l + h) / 2].1) := hy
        clear hy
        by_cases hb : Op.bytesLess y.toList x.toList = true
        · go_wp2
          go_round
          case rel => exact ⟨(l + h) / 2 + 1, h, by omega, hh, by go_num, rfl, find_up HS.out (by omega) (by have := HY.out; rw [← this]; exact hb), H2.out⟩
          case measure => simp [intOf]; omega
        · have hb' : Op.bytesLess y.toList x.toList = false := by simpa using hb
          clear hb
          go_wp2
          go_round
          case rel => exact ⟨l, (l + h) / 2, by omega, by omega, rfl, by go_num, H1.out, find_down HS.out (by omega) (by have := HY.out; rw [← this]; exact hb')⟩
          case measure => simp [intOf]; omega
      · have hle : l = h := by omega
        subst hle
        have HSP : Hid (SplitAt D x l) := ⟨hh, H1.out, H2.out⟩
        clear H1 H2
        by_cases hl : l < D.length
        · obtain ⟨hc0, _⟩ := own_pair hown (k := l) rfl hl
          obtain ⟨y, hy⟩ : ∃ y, y = D[l].1 := ⟨_, rfl⟩
          rw [← hy] at hc0
          have HY : Hid (y = D[l].1) := hy
          clear hy
          by_cases hb : y = x
          · have hb' : (y.toList == x.toList) = true := by rw [hb]; simp
            have HB : Hid (y = x) := hb
            clear hb
            go_wp2
            go_ret2
            exact ⟨⟨l, true, rfl, HSP.out, ⟨fun _ => ⟨hl, by rw [← HY.out]; exact HB.out⟩, fun _ => rfl⟩⟩, rfl⟩
          · have hb' : (y.toList == x.toList) = false := beq_eq_false_iff_ne.2 fun e => hb (ba_ext e)
            have HB : Hid (¬ y = x) := hb
            clear hb
            go_wp2
            go_ret2
            exact ⟨⟨l, false, rfl, HSP.out, ⟨(fun h => by cases h), fun ⟨_, h⟩ => absurd (HY.out.trans h) HB.out⟩⟩, rfl⟩
        · go_wp2
          go_ret2
          exact ⟨⟨l, false, rfl, HSP.out, ⟨(fun h => by cases h), fun ⟨h, _⟩ => absurd h hl⟩⟩, rfl⟩

end Go.Proofs.YtlfpepehngkehaaGreat
/-
  Walks: a word put into a set.
-/
namespace Go.Proofs.YtlfpepehngkehaaGreat
set_option linter.unusedSimpArgs false
set_option linter.unusedVariables false
open Go.RowKit

theorem Tryz.infoCosted : (Tryz.prog.info? 148).map (fun i => (i.zero, i.size, i.bytes)) = some (some (.agg #[.string ByteArray.empty, .int .i64 0]), 2, 24) := by kernel_rfl

/-- behind a call on the set at b. -/
def SetRes (w w' : World) (t : TypeId) (b : Nat) (v : Value) (D' : Dic) : Prop :=
  ∃ v', SetAt w' t b v' D' ∧ Kept w w' (fun k => k = b ∨ v.ownBlock = some k) ∧ (∀ k, v'.ownBlock = some k → v.ownBlock = some k ∨ w.heap.size ≤ k)

theorem set_found {w : World} {t : TypeId} {b g cap k c : Nat} {D : Dic} (h : SetAt w t b (.slice (some ⟨g, 0, none⟩) D.length cap) D) (hbg : b ≠ g) (hk : k < D.length) :
    SetRes w (w.setCell ⟨g, k * 2 + 1, none⟩ (.int .i64 c)) t b (.slice (some ⟨g, 0, none⟩) D.length cap) (D.set k (D[k].1, c)) := by
  obtain ⟨h1, h2, h3, h4⟩ := h
  have hne : (⟨g, k * 2 + 1, none⟩ : Addr) ≠ ⟨b, 0, none⟩ := by intro e; simp at e
  refine ⟨.slice (some ⟨g, 0, none⟩) D.length cap, ⟨?_, by simp [h2], ?_, h4⟩, (Kept.refl _ _).setCell _ _ (.inl (.inr rfl)), fun k hk => .inl hk⟩
  · exact (World.cell?_setCell_other _ _ _ _ hne).trans h1
  · rw [List.length_set]
    exact row_set1 h3 k rfl hk c

theorem put_grown {w1 w2 : World} {t : TypeId} {b : Nat} {v v' : Value} {D : Dic} {o : Obj} (h : SetAt w1 t b v D) (hb : b < w1.heap.size)
    (hown' : w2.ownsRow 0 t 2 v' (D.length + 1) (pairCells D ++ [.string ByteArray.empty, .int .i64 0])) (hgrow : (w1.alloc o).grownBy w2 v.ownBlock) (hat : v'.ownBlock = v.ownBlock ∨ v'.ownBlock = some (w1.heap.size + 1)) :
    ∃ g cap, v' = .slice (some ⟨g, 0, none⟩) (D.length + 1) cap ∧ b ≠ g ∧ w2.cell? ⟨b, 0, none⟩ = some v ∧ w2.frozen? ⟨b, 0, none⟩ = false ∧
      SetAt (w2.setCell ⟨b, 0, none⟩ (.slice (some ⟨g, 0, none⟩) (D.length + 1) cap)) t b (.slice (some ⟨g, 0, none⟩) (D.length + 1) cap) (hole D D.length (ByteArray.empty, 0)) ∧
      Kept w1 (w2.setCell ⟨b, 0, none⟩ (.slice (some ⟨g, 0, none⟩) (D.length + 1) cap)) (fun k => k = b ∨ v.ownBlock = some k) ∧ (v.ownBlock = some g ∨ w1.heap.size ≤ g) := by
  have hne := h.ne
  have hne' : ∀ k, v'.ownBlock = some k → k ≠ b := fun k hk => by
    rcases hat with a | a
    · exact hne k (a.symm.trans hk)
    · rw [a] at hk; simp at hk; omega
  have e : pairCells D ++ [.string ByteArray.empty, .int .i64 0] = pairCells (hole D D.length (ByteArray.empty, 0)) := by
    rw [hole_end, pairCells_append]; rfl
  rw [e] at hown'
  have hK : Kept w1 w2 (fun k => k = b ∨ v.ownBlock = some k) := ((Kept.refl w1 _).alloc o).grown hgrow (fun k hk => .inl (.inr hk))
  have hK0 : Kept w1 w2 (fun k => v.ownBlock = some k) := ((Kept.refl w1 _).alloc o).grown hgrow (fun k hk => .inl hk)
  have hc : w2.cell? ⟨b, 0, none⟩ = some v := (hK0.cell (p := ⟨b, 0, none⟩) hb (fun e => hne b e rfl)).trans h.cell
  have hf : w2.frozen? ⟨b, 0, none⟩ = false := (hK0.frozen (p := ⟨b, 0, none⟩) hb (fun e => hne b e rfl)).trans h.frz
  have hlt := hown'.lt
  obtain ⟨h1, h2⟩ := id hown'
  rcases h2 with ⟨_, h0⟩ | ⟨g, cap, cur, rfl, hg, h5, h6⟩
  · omega
  · have hr := Kept.row hown' ((Kept.refl w2 (fun k => k = b)).setCell ⟨b, 0, none⟩ (.slice (some ⟨g, 0, none⟩) (D.length + 1) cap) (.inl rfl)) (fun k hk e => hne' k hk e)
    refine ⟨g, cap, rfl, fun e => hne' g rfl e.symm, hc, hf, ⟨?_, by simp [hf], ?_, hne'⟩, hK.setCell _ _ (.inl (.inl rfl)), ?_⟩
    · apply World.cell?_setCell_same; exact hc
    · rw [hole_length (Nat.le_refl _)]; exact hr
    · rcases hat with a | a
      · exact .inl a.symm
      · simp [Value.ownBlock] at a; exact .inr (by omega)

theorem SetAt.drew {w : World} {t : TypeId} {b : Nat} {v : Value} {D : Dic} (h : SetAt w t b v D) : SetAt w.drew t b v D := ⟨h.cell, h.frz, h.own, h.ne⟩

theorem SetAt.alloc {w : World} {t : TypeId} {b : Nat} {v : Value} {D : Dic} (h : SetAt w t b v D) (o : Obj) : SetAt (w.alloc o) t b v D := by
  have hb : b < w.heap.size := cell_lt h.cell
  have hk := (Kept.refl w (fun _ => False)).alloc o
  exact ⟨(hk.cell (p := ⟨b, 0, none⟩) hb id).trans h.cell, (hk.frozen (p := ⟨b, 0, none⟩) hb id).trans h.frz, h.own.alloc o, h.ne⟩

theorem set_store2 {w : World} {t : TypeId} {b g cap k n : Nat} {D : Dic} (h : SetAt w t b (.slice (some ⟨g, 0, none⟩) n cap) D) (hn : n = D.length) (hbg : b ≠ g) (hk : k < D.length) (p : ByteArray × Nat) :
    SetAt ((w.setCell ⟨g, k * 2, none⟩ (.string p.1)).setCell ⟨g, k * 2 + 1, none⟩ (.int .i64 p.2)) t b (.slice (some ⟨g, 0, none⟩) n cap) (D.set k p) := by
  subst hn
  obtain ⟨h1, h2, h3, h4⟩ := h
  have hne : ∀ o, (⟨g, o, none⟩ : Addr) ≠ ⟨b, 0, none⟩ := fun o e => by simp only [Addr.mk.injEq] at e; exact hbg e.1.symm
  refine ⟨?_, by simp [h2], ?_, h4⟩
  · rw [World.cell?_setCell_other _ _ _ _ (hne _), World.cell?_setCell_other _ _ _ _ (hne _)]; exact h1
  · rw [List.length_set]
    exact row_set2 h3 k rfl hk p

theorem bytesRow_at (W : World) (x : ByteArray) (cap : Nat) (t : TypeId) (fr : Nat × Nat) : ∀ j (hj : j < x.data.toList.length), (W.alloc (.cells (bytesRow x cap) t fr)).cell? ((⟨W.heap.size, 0, none⟩ : Addr).add j) = some (.int .u8 (x.data.toList[j].toNat : Int)) := by
  intro j hj
  have ea : (⟨W.heap.size, 0, none⟩ : Addr).add j = ⟨W.heap.size, j, none⟩ := by simp [Addr.add]; intro h; exact h.symm
  rw [ea, World.cell?_alloc_mark]
  unfold bytesRow
  have hj' : j < x.data.size := by simpa using hj
  rw [Array.getElem?_append_left (by simpa using hj')]
  simp
  exact ⟨_, Array.getElem?_eq_getElem hj', rfl⟩

theorem bytes_back (W : World) (x : ByteArray) (cap cap2 : Nat) (fr : Nat × Nat) :
    (convert 108 9 (.slice (some ⟨W.heap.size, 0, none⟩) x.size cap)).run Tryz.prog (W.alloc (.cells (bytesRow x cap2) 5 fr)).drew.drew = .ok (.string x) (W.alloc (.cells (bytesRow x cap2) 5 fr)).drew.drew := by
  have h := run_convert_bytes_back (P := Tryz.prog) (W.alloc (.cells (bytesRow x cap2) 5 fr)).drew.drew 108 9 5 ⟨W.heap.size, 0, none⟩ cap x.data.toList Tryz.underlying108 Tryz.underlying5 Tryz.underlying9 (bytesRow_at W x cap2 5 fr)
  simpa using h

set_option maxHeartbeats 1000000 in
set_option maxRecDepth 20000 in
theorem put_any (w : World) (b : Nat) (v : Value) (D : Dic) (x : ByteArray) (c : Nat) (hx : x.size ≤ 2000) (hc : c ≤ 9999) (hS : SetAt w 148 b v D) (hsrt : Srt D) (hlen : D.length ≤ 100000) :
    Calls Tryz.prog 70 #[.pointer (some ⟨b, 0, none⟩), .string x, .int .i64 c] w fun e w' => e = .returned (.tuple #[]) ∧
      ((∃ k, ∃ h : k < D.length, D[k].1 = x ∧ SetRes w w' 148 b v (D.set k (x, c))) ∨ (∃ k, SplitAt D x k ∧ (∀ (h : k < D.length), D[k].1 ≠ x) ∧ SetRes w w' 148 b v (hole D k (x, c)))) := by
  have HS := hS
  obtain ⟨hcell, hfrz, hown, -⟩ := hS
  obtain ⟨i0, hi, hz0, hz1, hz2⟩ := info_parts Tryz.infoCosted
  go_enter Tryz.func70, Tryz.ntmps70
  go_wp2_with fail
  refine (find_any _ b v D x HS hsrt (by omega)).mono ?_
  rintro e w1 ⟨⟨k, f, rfl, hsp, hf⟩, rfl⟩
  have HSP : Hid (SplitAt D x k) := hsp
  have hk := hsp.1
  clear hsp
  cases f with
  | true =>
    obtain ⟨hkl, hkx⟩ := hf.1 rfl
    have HK : Hid (D[k].1 = x) := hkx
    clear hf hkx
    rcases HS.shape with ⟨rfl, rfl⟩ | ⟨g, cap, rfl, hbg, hcap, hmax, hgs⟩
    · simp at hkl
    · obtain ⟨hc0, hc1⟩ := own_pair hown rfl hkl
      have hfz := hown.frozenAt (k * 2 + 1)
      have HR := set_found (c := c) HS hbg hkl
      rw [HK.out] at HR
      have HR' : Hid _ := HR
      clear HR HS
      go_wp2
      exact bodyPost_ret (v := .tuple #[]) (by simp [results, Tryz.results70, go_sem]) rfl ⟨rfl, .inl ⟨k, hkl, HK.out, HR'.out⟩⟩
  | false =>
    have hnf : ∀ (h : k < D.length), D[k].1 ≠ x := fun h e => by have := hf.2 ⟨h, e⟩; cases this
    have HN : Hid (∀ (h : k < D.length), D[k].1 ≠ x) := hnf
    have hbs := cell_lt hcell
    clear hf hnf
    go_wp2_with (at_builtin; refine wpList_append_own_at _ rfl _ _ 88 rfl 0 148 i0 _ 2 24 Tryz.underlying88 hi hz0 hz1 hz2 rfl (by decide) _ _ _ rfl (hown.alloc _) ⟨w1.heap.size, 0, none⟩ 1 1 [.string ByteArray.empty, .int .i64 0] rfl rfl ?c1 ?c2 ?c3 ?c4 ?c5 ?_)
    case c1 => exact news2 _ _ _ _ _ rfl
    case c2 => intro u hu; simp at hu; rcases hu with rfl | rfl <;> rfl
    case c3 => unfold maxLen; omega
    case c4 => omega
    case c5 => omega
    intro v' w2 hown' hgrow hnil hat
    obtain ⟨g, cap, rfl, hbg, hb2, hf2, hS3, hK3, hgo⟩ := put_grown HS hbs hown' hgrow hat
    have HBG : Hid (b ≠ g) := hbg
    clear hbg
    clear hown' hgrow hnil hat HS hown hcell hfrz
    have HS3 : Hid _ := hS3
    have HK3 : Hid _ := hK3
    clear hS3 hK3
    go_wp2_with fail
    go_loopw [8] (fun a wr => ∃ (i : Nat) (p : ByteArray × Nat), k ≤ i ∧ i ≤ D.length ∧ a = .int .i64 i ∧ SetAt wr 148 b (.slice (some ⟨g, 0, none⟩) (D.length + 1) cap) (hole D i p) ∧ Kept w1 wr (fun j => j = b ∨ v.ownBlock = some j)) (fun a _ => (intOf a).toNat)
    case atStart => exact ⟨D.length, (ByteArray.empty, 0), hk, Nat.le_refl _, by go_num, HS3.out, HK3.out⟩
    case round =>
      obtain ⟨i, p, hki, hin, rfl, hS4, hK4⟩ := hrel
      have hS4' := hS4
      obtain ⟨hcell, hfrz, hown, -⟩ := hS4
      rw [hole_length hin] at hown
      have HS4 : Hid _ := hS4'
      have HK4 : Hid _ := hK4
      clear hS4' hK4 HS3 HK3
      by_cases hgt : k < i
      · obtain ⟨j, rfl⟩ : ∃ j, i = j + 1 := ⟨i - 1, by omega⟩
        obtain ⟨hc0, hc1⟩ := own_pair hown (k := j) (hole_length hin).symm (by rw [hole_length hin]; omega)
        obtain ⟨hd0, hd1⟩ := own_pair hown (k := j + 1) (hole_length hin).symm (by rw [hole_length hin]; omega)
        have hz0 := hown.frozenAt ((j + 1) * 2)
        have hz1 := hown.frozenAt ((j + 1) * 2 + 1)
        rw [hole_before hin (by omega)] at hc0 hc1
        obtain ⟨q, hq⟩ : ∃ q, q = D[j] := ⟨_, rfl⟩
        rw [← hq] at hc0 hc1
        have HQ : Hid (q = D[j]) := hq
        clear hq
        have HR := set_store2 HS4.out (hole_length hin).symm HBG.out (k := j + 1) (by rw [hole_length hin]; omega) q
        rw [show q = D[j] from HQ.out, hole_step (by omega), ← HQ.out] at HR
        have HR' : Hid _ := HR
        clear HR
        go_wp2_with fail
        go_region
        all_goals
          go_wp2
          go_roundw
          case rel => exact ⟨j, q, by omega, by omega, by go_num, HR'.out.drew, ((HK4.out.setCell _ _ (by rcases hgo with a | a; exact .inl (.inr a); exact .inr a)).setCell _ _ (by rcases hgo with a | a; exact .inl (.inr a); exact .inr a)).drew⟩
          case measure => simp [intOf]
      · obtain rfl : k = i := by omega
        obtain ⟨hd0, hd1⟩ := own_pair hown (k := k) (hole_length hin).symm (by rw [hole_length hin]; omega)
        have hz0 := hown.frozenAt (k * 2)
        have hz1 := hown.frozenAt (k * 2 + 1)
        have hcv := fun W => run_bytes_of_string (P := Tryz.prog) W 9 108 5 x Tryz.underlying9 Tryz.underlying108 Tryz.underlying5
        have hbw := cell_lt hcell
        have hgw := cell_lt hd0
        have hkd : (k : Int) < (D.length : Int) + 1 := by omega
        have hbk1 := fun cap cap2 fr => bytes_back wr x cap cap2 fr
        have HR := set_store2 HS4.out (hole_length hin).symm HBG.out (k := k) (by rw [hole_length hin]; omega) (x, c)
        rw [hole_fill hin] at HR
        have HR' : Hid _ := HR
        clear HR
        go_wp2_with fail
        go_region
        all_goals
          go_wp2
          go_end0
          refine ⟨rfl, .inr ⟨k, HSP.out, HN.out, _, (HR'.out.alloc _).drew.drew, (((HK4.out.setCell _ _ (by rcases hgo with a | a; exact .inl (.inr a); exact .inr a)).setCell _ _ (by rcases hgo with a | a; exact .inl (.inr a); exact .inr a)).alloc _).drew.drew, ?_⟩⟩
          intro i hi
          simp only [Value.ownBlock, Option.some.injEq] at hi
          subst hi
          exact hgo

end Go.Proofs.YtlfpepehngkehaaGreat
/-
  Walks: a word taken out of a set.
-/
namespace Go.Proofs.YtlfpepehngkehaaGreat
set_option linter.unusedSimpArgs false
set_option linter.unusedVariables false
open Go.RowKit

theorem row_cut {w : World} {B g cap n : Nat} {t : TypeId} {D : Dic} {p : ByteArray × Nat} (h : w.ownsRow B t 2 (.slice (some ⟨g, 0, none⟩) (n + 1) cap) (n + 1) (pairCells (D ++ [p]))) (hn : D.length = n) :
    w.ownsRow B t 2 (.slice (some ⟨g, 0, none⟩) n cap) n (pairCells D) := by
  obtain ⟨h1, h2⟩ := h
  refine ⟨by rw [pairCells_length, hn], ?_⟩
  rcases h2 with ⟨a, _⟩ | ⟨g', cap', cur, a, hb, hh, hc, hm, hs, ht⟩
  · cases a
  · cases a
    refine .inr ⟨g, cap, cur, rfl, hb, hh, by omega, hm, hs, ?_⟩
    have : (cur.toList.take ((n + 1) * 2)).take (n * 2) = cur.toList.take (n * 2) := by rw [List.take_take]; congr 1; omega
    rw [← this, ht, pairCells_append, List.take_append_of_le_length (by rw [pairCells_length]; omega), List.take_of_length_le (by rw [pairCells_length]; omega)]

theorem set_cut {w : World} {t : TypeId} {b g cap n : Nat} {D : Dic} {p : ByteArray × Nat} (h : SetAt w t b (.slice (some ⟨g, 0, none⟩) (n + 1) cap) (D ++ [p])) (hn : D.length = n) (hbg : b ≠ g) :
    SetAt (w.setCell ⟨b, 0, none⟩ (.slice (some ⟨g, 0, none⟩) n cap)) t b (.slice (some ⟨g, 0, none⟩) n cap) D := by
  obtain ⟨h1, h2, h3, h5⟩ := h
  have h3' : w.ownsRow 0 t 2 (.slice (some ⟨g, 0, none⟩) (n + 1) cap) (n + 1) (pairCells (D ++ [p])) := by simpa [hn] using h3
  have h4 := row_cut h3' hn
  refine ⟨?_, by simp [h2], ?_, fun k hk => by simp [Value.ownBlock] at hk; omega⟩
  · apply World.cell?_setCell_same; exact h1
  · rw [hn]
    exact Kept.row h4 ((Kept.refl w (fun k => k = b)).setCell ⟨b, 0, none⟩ _ (.inl rfl)) (fun k hk e => by simp [Value.ownBlock] at hk; omega)

set_option maxHeartbeats 1000000 in
set_option maxRecDepth 20000 in
theorem drop_any (w : World) (b : Nat) (v : Value) (D : Dic) (x : ByteArray) (hx : x.size ≤ 2000) (hS : SetAt w 148 b v D) (hsrt : Srt D) (hlen : D.length ≤ 100000) :
    Calls Tryz.prog 71 #[.pointer (some ⟨b, 0, none⟩), .string x] w fun e w' => e = .returned (.tuple #[]) ∧
      ((∃ k, ∃ h : k < D.length, D[k].1 = x ∧ SetRes w w' 148 b v (del D k)) ∨ (∃ k, SplitAt D x k ∧ (∀ (h : k < D.length), D[k].1 ≠ x) ∧ SetRes w w' 148 b v D)) := by
  have HS := hS
  obtain ⟨hcell, hfrz, hown, -⟩ := hS
  go_enter Tryz.func71, Tryz.ntmps71
  go_wp2_with fail
  refine (find_any _ b v D x HS hsrt (by omega)).mono ?_
  rintro e w1 ⟨⟨k, f, rfl, hsp, hf⟩, rfl⟩
  have HSP : Hid (SplitAt D x k) := hsp
  have hk := hsp.1
  clear hsp
  cases f with
  | false =>
    have hnf : ∀ (h : k < D.length), D[k].1 ≠ x := fun h e => by have := hf.2 ⟨h, e⟩; cases this
    have HN : Hid (∀ (h : k < D.length), D[k].1 ≠ x) := hnf
    clear hf hnf
    go_wp2
    exact bodyPost_ret (v := .tuple #[]) (by simp [results, Tryz.results71, go_sem]) rfl ⟨rfl, .inr ⟨k, HSP.out, HN.out, v, HS, Kept.refl _ _, fun k hk => .inl hk⟩⟩
  | true =>
    obtain ⟨hkl, hkx⟩ := hf.1 rfl
    have HK : Hid (D[k].1 = x) := hkx
    clear hf hkx
    rcases HS.shape with ⟨rfl, rfl⟩ | ⟨g, cap, rfl, hbg, hcap, hmax, hgs⟩
    · simp at hkl
    · obtain ⟨m, hm⟩ : ∃ m, D.length = m + 1 := ⟨D.length - 1, by omega⟩
      have HM : Hid (D.length = m + 1) := hm
      have HKL : Hid (k < D.length) := hkl
      have hS0 : SetAt w1 148 b (.slice (some ⟨g, 0, none⟩) (m + 1) cap) (shl D k k) := by rw [shl_start hkl, ← hm]; exact HS
      rw [hm] at hk hkl hlen hcap hcell
      have HS0 : Hid _ := hS0
      clear hS0 HS hown hm
      go_wp2_with fail
      go_loopw [7] (fun a wr => ∃ i : Nat, k ≤ i ∧ i ≤ m ∧ a = .int .i64 i ∧ SetAt wr 148 b (.slice (some ⟨g, 0, none⟩) (m + 1) cap) (shl D k i) ∧ Kept w1 wr (fun j => j = b ∨ some g = some j)) (fun a _ => m - (intOf a).toNat)
      case atStart => exact ⟨k, by omega, by omega, rfl, HS0.out, Kept.refl _ _⟩
      case round =>
        obtain ⟨i, hki, him, rfl, hS4, hK4⟩ := hrel
        have hS4' := hS4
        obtain ⟨hcell', hfrz', hown', -⟩ := hS4
        have hlen' := shl_length (D := D) (k := k) (i := i) HKL.out (by have := HM.out; omega)
        rw [HM.out] at hlen'
        have HL' : Hid _ := hlen'
        rw [hlen'] at hown'
        have HS4 : Hid _ := hS4'
        have HK4 : Hid _ := hK4
        clear hS4' hK4 HS0 hlen' hcell hfrz
        by_cases hgt : i < m
        · obtain ⟨hc0, hc1⟩ := own_pair hown' (k := i + 1) HL'.out.symm (by rw [HL'.out]; omega)
          obtain ⟨hd0, hd1⟩ := own_pair hown' (k := i) HL'.out.symm (by rw [HL'.out]; omega)
          have hz0 := hown'.frozenAt (i * 2)
          have hz1 := hown'.frozenAt (i * 2 + 1)
          rw [shl_next HKL.out (by have := HM.out; omega)] at hc0 hc1
          have hid : i + 1 < D.length := by have := HM.out; omega
          obtain ⟨q, hq⟩ : ∃ q, q = D[i + 1] := ⟨_, rfl⟩
          rw [← hq] at hc0 hc1
          have HR := set_store2 HS4.out HL'.out.symm hbg (k := i) (by rw [HL'.out]; omega) q
          rw [hq, shl_step HKL.out hki hid, ← hq] at HR
          have HR' : Hid _ := HR
          clear hq HR hid
          go_wp2_with fail
          go_region
          all_goals
            go_wp2
            go_roundw
            case rel => exact ⟨i + 1, by omega, by omega, by go_num, HR'.out.drew, ((HK4.out.setCell _ _ (.inl (.inr rfl))).setCell _ _ (.inl (.inr rfl))).drew⟩
            case measure => simp [intOf]; omega
        · obtain rfl : i = m := by omega
          obtain ⟨hd0, hd1⟩ := own_pair hown' (k := i) HL'.out.symm (by rw [HL'.out]; omega)
          have hz0 := hown'.frozenAt (i * 2)
          have hz1 := hown'.frozenAt (i * 2 + 1)
          have HR := set_store2 HS4.out HL'.out.symm hbg (k := i) (by rw [HL'.out]; omega) (ByteArray.empty, 0)
          rw [shl_end HKL.out HM.out] at HR
          have HR2 := set_cut HR (by rw [del_length HKL.out, HM.out]; rfl) hbg
          have HR' : Hid _ := HR2
          clear HR HR2
          go_wp2
          go_end0
          refine ⟨rfl, .inl ⟨k, ⟨HKL.out, HK.out⟩, _, HR'.out, ((HK4.out.setCell _ _ (.inl (.inr rfl))).setCell _ _ (.inl (.inr rfl))).setCell _ _ (.inl (.inl rfl)), fun j hj => .inl hj⟩⟩

end Go.Proofs.YtlfpepehngkehaaGreat
/-
  Walks: entries have their way.
-/
namespace Go.Proofs.YtlfpepehngkehaaGreat
set_option linter.unusedSimpArgs false
set_option linter.unusedVariables false
open Go.RowKit

theorem del_le (D : Dic) (k : Nat) : (del D k).length ≤ D.length + 1 := by simp [del]; omega

def TookOne (w w' : World) (b : Nat) (v : Value) (D : Dic) (E : List Ent) : Prop := ∃ D', Rep D' E ∧ D'.length ≤ D.length + 1 ∧ SetRes w w' 148 b v D'

theorem putE_any (w : World) (b : Nat) (v : Value) (D : Dic) (E : List Ent) (x : Ent) (hi : x.inn = true) (hx : x.word.size ≤ 2000) (hc : x.cost ≤ 9999) (hS : SetAt w 148 b v D) (hR : Rep D E) (hlen : D.length ≤ 100000) :
    Calls Tryz.prog 70 #[.pointer (some ⟨b, 0, none⟩), .string x.word, .int .i64 x.cost] w fun e w' => e = .returned (.tuple #[]) ∧ TookOne w w' b v D (E ++ [x]) := by
  refine (put_any w b v D x.word x.cost hx hc hS hR.1 hlen).mono ?_
  rintro e w' ⟨rfl, h⟩
  refine ⟨rfl, ?_⟩
  rcases h with ⟨k, hk, hw, h⟩ | ⟨k, hs, hn, h⟩
  · exact ⟨_, rep_set hR hi hk hw, by simp, h⟩
  · exact ⟨_, rep_ins hR hi hs hn, by have := hole_length (p := (x.word, x.cost)) hs.1; unfold hole at this; omega, h⟩

theorem dropE_any (w : World) (b : Nat) (v : Value) (D : Dic) (E : List Ent) (x : Ent) (hi : x.inn = false) (hx : x.word.size ≤ 2000) (hS : SetAt w 148 b v D) (hR : Rep D E) (hlen : D.length ≤ 100000) :
    Calls Tryz.prog 71 #[.pointer (some ⟨b, 0, none⟩), .string x.word] w fun e w' => e = .returned (.tuple #[]) ∧ TookOne w w' b v D (E ++ [x]) := by
  refine (drop_any w b v D x.word hx hS hR.1 hlen).mono ?_
  rintro e w' ⟨rfl, h⟩
  refine ⟨rfl, ?_⟩
  rcases h with ⟨k, hk, hw, h⟩ | ⟨k, hs, hn, h⟩
  · exact ⟨_, rep_del hR hi hk hw, del_le _ _, h⟩
  · exact ⟨_, rep_del_none hR hi hs hn, by omega, h⟩

theorem SetRes.step {w w1 w2 : World} {t : TypeId} {b : Nat} {v v1 : Value} {D2 : Dic} (hK : Kept w w1 (fun k => k = b ∨ v.ownBlock = some k)) (ho : ∀ k, v1.ownBlock = some k → v.ownBlock = some k ∨ w.heap.size ≤ k)
    (h : SetRes w1 w2 t b v1 D2) : SetRes w w2 t b v D2 := by
  obtain ⟨v2, h1, h2, h3⟩ := h
  refine ⟨v2, h1, hK.trans h2 (fun i hi => ?_), fun k hk => ?_⟩
  · rcases hi with rfl | hi
    · exact .inl (.inl rfl)
    · rcases ho i hi with a | a
      · exact .inl (.inr a)
      · exact .inr a
  · rcases h3 k hk with a | a
    · exact ho k a
    · exact .inr (by have := hK.size; omega)

theorem took_step {w wr w2 : World} {o : Obj} {b i : Nat} {v v' : Value} {D D' : Dic} {E : List Ent} (hK : Kept w wr (fun k => k = b ∨ v.ownBlock = some k)) (ho : ∀ k, v'.ownBlock = some k → v.ownBlock = some k ∨ w.heap.size ≤ k)
    (h : TookOne (wr.alloc o).drew w2 b v' D' E) (hl : D'.length ≤ D.length + i) : ∃ D'', Rep D'' E ∧ D''.length ≤ D.length + (i + 1) ∧ SetRes w w2 148 b v D'' := by
  obtain ⟨D'', h1, h2, h3⟩ := h
  exact ⟨D'', h1, by omega, SetRes.step (hK.alloc o).drew ho h3⟩

set_option maxHeartbeats 1000000 in
set_option maxRecDepth 20000 in
theorem take_any (w : World) (b : Nat) (v rv : Value) (base : Nat) (D : Dic) (E0 E : List Ent) (hS : SetAt w 148 b v D) (hR : Rep D E0) (hlen : D.length ≤ 50000) (hE : E.length ≤ 2000)
    (hown : w.ownsRow base 121 4 rv E.length (entsCells E)) (hdis : ∀ k, rv.ownBlock = some k → k ≠ b ∧ v.ownBlock ≠ some k) (hxs : ∀ x ∈ E, x.word.size ≤ 2000 ∧ x.cost ≤ 9999) :
    Calls Tryz.prog 34 #[.pointer (some ⟨b, 0, none⟩), rv] w fun e w' => e = .returned (.tuple #[]) ∧ ∃ D', Rep D' (E0 ++ E) ∧ D'.length ≤ D.length + E.length ∧ SetRes w w' 148 b v D' := by
  have hown0 := hown
  obtain ⟨hl, hsh⟩ := hown
  rcases hsh with ⟨rfl, h0⟩ | ⟨g, cap, cur, rfl, hg1, hg2, hg3, hg4, hg5, hg6⟩
  · have hE0 : E = [] := List.eq_nil_of_length_eq_zero h0
    subst hE0
    go_enter Tryz.func34, Tryz.ntmps34
    go_wp2_with fail
    refine wp_loop_rounds 1 ?_
    rw [rounds_succ]
    go_wp2
    go_end0
    exact ⟨rfl, D, by simpa using hR, by simp, v, hS, Kept.refl _ _, fun k hk => .inl hk⟩
  · have HD : Hid _ := hdis
    have HX : Hid _ := hxs
    have HS0 : Hid (SetAt w 148 b v D) := hS
    have HR0 : Hid (Rep D E0) := hR
    clear hg2 hg6 hl hdis hxs hS hR
    go_enter Tryz.func34, Tryz.ntmps34
    go_wp2_with fail
    go_loopw [8] (fun a wr => ∃ i : Nat, i ≤ E.length ∧ a = .int .i64 i ∧ ∃ D', Rep D' (E0 ++ E.take i) ∧ D'.length ≤ D.length + i ∧ SetRes w wr 148 b v D') (fun a _ => E.length - (intOf a).toNat)
    case atStart => exact ⟨0, by omega, rfl, D, by simpa using HR0.out, by omega, v, HS0.out, Kept.refl _ _, fun k hk => .inl hk⟩
    case round =>
      obtain ⟨i, hi, rfl, D', hR', hl', v', hS', hK', ho'⟩ := hrel
      by_cases hlt : i < E.length
      · have hrow := Kept.row hown0 hK' (fun k hk e => by
          have := HD.out k hk
          rcases e with e | e
          · exact this.1 e
          · exact this.2 e)
        obtain ⟨hc0, hc1, hc2, hc3⟩ := own_ent hrow hlt
        obtain ⟨x, hx⟩ : ∃ x, x = E[i] := ⟨_, rfl⟩
        have HXE : Hid (x = E[i]) := hx
        obtain ⟨hxw, hxc⟩ := HX.out E[i] (List.getElem_mem hlt)
        have HT : Hid (E0 ++ E.take (i + 1) = E0 ++ E.take i ++ [x]) := by
          show _ = _
          rw [List.take_succ_eq_append_getElem hlt, ← hx, List.append_assoc]
        rw [← hx] at hc0 hc1 hc2 hc3 hxw hxc
        have HS' : Hid (SetAt wr 148 b v' D') := hS'
        have HR' : Hid (Rep D' (E0 ++ E.take i)) := hR'
        have HK' : Hid (Kept w wr (fun k => k = b ∨ v.ownBlock = some k)) := hK'
        have HO' : Hid (∀ k, v'.ownBlock = some k → v.ownBlock = some k ∨ w.heap.size ≤ k) := ho'
        clear hx hS' hR' hK' ho' hrow
        cases hin : x.inn with
        | true =>
          rw [hin] at hc1
          have HI : Hid (x.inn = true) := hin
          clear hin
          go_wp2_with fail
          go_region_with (go_at_call 70; refine (putE_any _ b v' D' (E0 ++ E.take i) x HI.out hxw hxc (by exact (HS'.out.alloc _).drew) HR'.out (by omega)).mono ?_; rintro e w2 ⟨rfl, hto⟩)
          all_goals
            go_wp2
            go_roundw
            case rel => exact ⟨i + 1, by omega, by go_num, by rw [HT.out]; exact took_step (D := D) HK'.out HO'.out hto (by omega)⟩
            case measure => simp [intOf]; omega
        | false =>
          rw [hin] at hc1
          have HI : Hid (x.inn = false) := hin
          clear hin
          go_wp2_with fail
          go_region_with (go_at_call 71; refine (dropE_any _ b v' D' (E0 ++ E.take i) x HI.out hxw (by exact (HS'.out.alloc _).drew) HR'.out (by omega)).mono ?_; rintro e w2 ⟨rfl, hto⟩)
          all_goals
            go_wp2
            go_roundw
            case rel => exact ⟨i + 1, by omega, by go_num, by rw [HT.out]; exact took_step (D := D) HK'.out HO'.out hto (by omega)⟩
            case measure => simp [intOf]; omega
      · go_wp2
        go_end0
        obtain rfl : i = E.length := by omega
        rw [List.take_length] at hR'
        exact ⟨rfl, D', hR', hl', v', hS', hK', ho'⟩

end Go.Proofs.YtlfpepehngkehaaGreat
