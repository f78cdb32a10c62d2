/-
  Walks: a word put into a set.
-/
import Derived.Test.YtlfpepehngkehabDoorSetFind
import Derived.Test.YtlfpepehngkehabDoorKeptW
import Derived.Test.YtlfpepehngkehabDoorMaths
import Derived.BigQuiet
import Derived.BigRegion
import Derived.Deep.CutRange
namespace Go.Proofs.YtlfpepehngkehabDoor
set_option linter.unusedSimpArgs false
set_option linter.unusedVariables false
open Go.RowKit

theorem Tryd.infoCosted : (Tryd.prog.info? 94).map (fun i => (i.zero, i.size, i.bytes)) = some (some (.agg #[.string ByteArray.empty, .int .i64 0]), 2, 24) := by kernel_rfl

/-- behind a call on the set at b. -/
def SetRes (w w' : World) (t : TypeId) (b : Nat) (v : Value) (D' : Dic) : Prop :=
  ∃ v', SetAt w' t b v' D' ∧ Kept w w' (fun k => k = b ∨ v.ownBlock = some k) ∧ (∀ k, v'.ownBlock = some k → v.ownBlock = some k ∨ w.heap.size ≤ k)

theorem set_found {w : World} {t : TypeId} {b g cap k c : Nat} {D : Dic} (h : SetAt w t b (.slice (some ⟨g, 0, none⟩) D.length cap) D) (hbg : b ≠ g) (hk : k < D.length) :
    SetRes w (w.setCell ⟨g, k * 2 + 1, none⟩ (.int .i64 c)) t b (.slice (some ⟨g, 0, none⟩) D.length cap) (D.set k (D[k].1, c)) := by
  obtain ⟨h1, h2, h3, h4⟩ := h
  have hne : (⟨g, k * 2 + 1, none⟩ : Addr) ≠ ⟨b, 0, none⟩ := by intro e; simp at e
  refine ⟨.slice (some ⟨g, 0, none⟩) D.length cap, ⟨?_, by simp [h2], ?_, h4⟩, (Kept.refl _ _).setCell _ _ (.inl (.inr rfl)), fun k hk => .inl hk⟩
  · exact (World.cell?_setCell_other _ _ _ _ hne).trans h1
  · rw [List.length_set]
    exact row_set1 h3 k rfl hk c

theorem put_grown {w1 w2 : World} {t : TypeId} {b : Nat} {v v' : Value} {D : Dic} {o : Obj} (h : SetAt w1 t b v D) (hb : b < w1.heap.size)
    (hown' : w2.ownsRow 0 t 2 v' (D.length + 1) (pairCells D ++ [.string ByteArray.empty, .int .i64 0])) (hgrow : (w1.alloc o).grownBy w2 v.ownBlock) (hat : v'.ownBlock = v.ownBlock ∨ v'.ownBlock = some (w1.heap.size + 1)) :
    ∃ g cap, v' = .slice (some ⟨g, 0, none⟩) (D.length + 1) cap ∧ b ≠ g ∧ w2.cell? ⟨b, 0, none⟩ = some v ∧ w2.frozen? ⟨b, 0, none⟩ = false ∧
      SetAt (w2.setCell ⟨b, 0, none⟩ (.slice (some ⟨g, 0, none⟩) (D.length + 1) cap)) t b (.slice (some ⟨g, 0, none⟩) (D.length + 1) cap) (hole D D.length (ByteArray.empty, 0)) ∧
      Kept w1 (w2.setCell ⟨b, 0, none⟩ (.slice (some ⟨g, 0, none⟩) (D.length + 1) cap)) (fun k => k = b ∨ v.ownBlock = some k) ∧ (v.ownBlock = some g ∨ w1.heap.size ≤ g) := by
  have hne := h.ne
  have hne' : ∀ k, v'.ownBlock = some k → k ≠ b := fun k hk => by
    rcases hat with a | a
    · exact hne k (a.symm.trans hk)
    · rw [a] at hk; simp at hk; omega
  have e : pairCells D ++ [.string ByteArray.empty, .int .i64 0] = pairCells (hole D D.length (ByteArray.empty, 0)) := by
    rw [hole_end, pairCells_append]; rfl
  rw [e] at hown'
  have hK : Kept w1 w2 (fun k => k = b ∨ v.ownBlock = some k) := ((Kept.refl w1 _).alloc o).grown hgrow (fun k hk => .inl (.inr hk))
  have hK0 : Kept w1 w2 (fun k => v.ownBlock = some k) := ((Kept.refl w1 _).alloc o).grown hgrow (fun k hk => .inl hk)
  have hc : w2.cell? ⟨b, 0, none⟩ = some v := (hK0.cell (p := ⟨b, 0, none⟩) hb (fun e => hne b e rfl)).trans h.cell
  have hf : w2.frozen? ⟨b, 0, none⟩ = false := (hK0.frozen (p := ⟨b, 0, none⟩) hb (fun e => hne b e rfl)).trans h.frz
  have hlt := hown'.lt
  obtain ⟨h1, h2⟩ := id hown'
  rcases h2 with ⟨_, h0⟩ | ⟨g, cap, cur, rfl, hg, h5, h6⟩
  · omega
  · have hr := Kept.row hown' ((Kept.refl w2 (fun k => k = b)).setCell ⟨b, 0, none⟩ (.slice (some ⟨g, 0, none⟩) (D.length + 1) cap) (.inl rfl)) (fun k hk e => hne' k hk e)
    refine ⟨g, cap, rfl, fun e => hne' g rfl e.symm, hc, hf, ⟨?_, by simp [hf], ?_, hne'⟩, hK.setCell _ _ (.inl (.inl rfl)), ?_⟩
    · apply World.cell?_setCell_same; exact hc
    · rw [hole_length (Nat.le_refl _)]; exact hr
    · rcases hat with a | a
      · exact .inl a.symm
      · simp [Value.ownBlock] at a; exact .inr (by omega)

theorem SetAt.drew {w : World} {t : TypeId} {b : Nat} {v : Value} {D : Dic} (h : SetAt w t b v D) : SetAt w.drew t b v D := ⟨h.cell, h.frz, h.own, h.ne⟩

theorem SetAt.alloc {w : World} {t : TypeId} {b : Nat} {v : Value} {D : Dic} (h : SetAt w t b v D) (o : Obj) : SetAt (w.alloc o) t b v D := by
  have hb : b < w.heap.size := cell_lt h.cell
  have hk := (Kept.refl w (fun _ => False)).alloc o
  exact ⟨(hk.cell (p := ⟨b, 0, none⟩) hb id).trans h.cell, (hk.frozen (p := ⟨b, 0, none⟩) hb id).trans h.frz, h.own.alloc o, h.ne⟩

theorem set_store2 {w : World} {t : TypeId} {b g cap k n : Nat} {D : Dic} (h : SetAt w t b (.slice (some ⟨g, 0, none⟩) n cap) D) (hn : n = D.length) (hbg : b ≠ g) (hk : k < D.length) (p : ByteArray × Nat) :
    SetAt ((w.setCell ⟨g, k * 2, none⟩ (.string p.1)).setCell ⟨g, k * 2 + 1, none⟩ (.int .i64 p.2)) t b (.slice (some ⟨g, 0, none⟩) n cap) (D.set k p) := by
  subst hn
  obtain ⟨h1, h2, h3, h4⟩ := h
  have hne : ∀ o, (⟨g, o, none⟩ : Addr) ≠ ⟨b, 0, none⟩ := fun o e => by simp only [Addr.mk.injEq] at e; exact hbg e.1.symm
  refine ⟨?_, by simp [h2], ?_, h4⟩
  · rw [World.cell?_setCell_other _ _ _ _ (hne _), World.cell?_setCell_other _ _ _ _ (hne _)]; exact h1
  · rw [List.length_set]
    exact row_set2 h3 k rfl hk p

theorem bytesRow_at (W : World) (x : ByteArray) (cap : Nat) (t : TypeId) (fr : Nat × Nat) : ∀ j (hj : j < x.data.toList.length), (W.alloc (.cells (bytesRow x cap) t fr)).cell? ((⟨W.heap.size, 0, none⟩ : Addr).add j) = some (.int .u8 (x.data.toList[j].toNat : Int)) := by
  intro j hj
  have ea : (⟨W.heap.size, 0, none⟩ : Addr).add j = ⟨W.heap.size, j, none⟩ := by simp [Addr.add]; intro h; exact h.symm
  rw [ea, World.cell?_alloc_mark]
  unfold bytesRow
  have hj' : j < x.data.size := by simpa using hj
  rw [Array.getElem?_append_left (by simpa using hj')]
  simp
  exact ⟨_, Array.getElem?_eq_getElem hj', rfl⟩

theorem bytes_back (W : World) (x : ByteArray) (cap cap2 : Nat) (fr : Nat × Nat) :
    (convert 87 9 (.slice (some ⟨W.heap.size, 0, none⟩) x.size cap)).run Tryd.prog (W.alloc (.cells (bytesRow x cap2) 5 fr)).drew.drew = .ok (.string x) (W.alloc (.cells (bytesRow x cap2) 5 fr)).drew.drew := by
  have h := run_convert_bytes_back (P := Tryd.prog) (W.alloc (.cells (bytesRow x cap2) 5 fr)).drew.drew 87 9 5 ⟨W.heap.size, 0, none⟩ cap x.data.toList Tryd.underlying87 Tryd.underlying5 Tryd.underlying9 (bytesRow_at W x cap2 5 fr)
  simpa using h

set_option maxHeartbeats 1000000 in
set_option maxRecDepth 20000 in
theorem put_any (w : World) (b : Nat) (v : Value) (D : Dic) (x : ByteArray) (c : Nat) (hx : x.size ≤ 2000) (hc : c ≤ 9999) (hS : SetAt w 94 b v D) (hsrt : Srt D) (hlen : D.length ≤ 100000) :
    Calls Tryd.prog 45 #[.pointer (some ⟨b, 0, none⟩), .string x, .int .i64 c] w fun e w' => e = .returned (.tuple #[]) ∧
      ((∃ k, ∃ h : k < D.length, D[k].1 = x ∧ SetRes w w' 94 b v (D.set k (x, c))) ∨ (∃ k, SplitAt D x k ∧ (∀ (h : k < D.length), D[k].1 ≠ x) ∧ SetRes w w' 94 b v (hole D k (x, c)))) := by
  have HS := hS
  obtain ⟨hcell, hfrz, hown, -⟩ := hS
  obtain ⟨i0, hi, hz0, hz1, hz2⟩ := info_parts Tryd.infoCosted
  go_enter Tryd.func45, Tryd.ntmps45
  go_wp2_with fail
  refine (find_any _ b v D x HS hsrt (by omega)).mono ?_
  rintro e w1 ⟨⟨k, f, rfl, hsp, hf⟩, rfl⟩
  have HSP : Hid (SplitAt D x k) := hsp
  have hk := hsp.1
  clear hsp
  cases f with
  | true =>
    obtain ⟨hkl, hkx⟩ := hf.1 rfl
    have HK : Hid (D[k].1 = x) := hkx
    clear hf hkx
    rcases HS.shape with ⟨rfl, rfl⟩ | ⟨g, cap, rfl, hbg, hcap, hmax, hgs⟩
    · simp at hkl
    · obtain ⟨hc0, hc1⟩ := own_pair hown rfl hkl
      have hfz := hown.frozenAt (k * 2 + 1)
      have HR := set_found (c := c) HS hbg hkl
      rw [HK.out] at HR
      have HR' : Hid _ := HR
      clear HR HS
      go_wp2
      exact bodyPost_ret (v := .tuple #[]) (by simp [results, Tryd.results45, go_sem]) rfl ⟨rfl, .inl ⟨k, hkl, HK.out, HR'.out⟩⟩
  | false =>
    have hnf : ∀ (h : k < D.length), D[k].1 ≠ x := fun h e => by have := hf.2 ⟨h, e⟩; cases this
    have HN : Hid (∀ (h : k < D.length), D[k].1 ≠ x) := hnf
    have hbs := cell_lt hcell
    clear hf hnf
    go_wp2_with (at_builtin; refine wpList_append_own_at _ rfl _ _ 49 rfl 0 94 i0 _ 2 24 Tryd.underlying49 hi hz0 hz1 hz2 rfl (by decide) _ _ _ rfl (hown.alloc _) ⟨w1.heap.size, 0, none⟩ 1 1 [.string ByteArray.empty, .int .i64 0] rfl rfl ?c1 ?c2 ?c3 ?c4 ?c5 ?_)
    case c1 => exact news2 _ _ _ _ _ rfl
    case c2 => intro u hu; simp at hu; rcases hu with rfl | rfl <;> rfl
    case c3 => unfold maxLen; omega
    case c4 => omega
    case c5 => omega
    intro v' w2 hown' hgrow hnil hat
    obtain ⟨g, cap, rfl, hbg, hb2, hf2, hS3, hK3, hgo⟩ := put_grown HS hbs hown' hgrow hat
    have HBG : Hid (b ≠ g) := hbg
    clear hbg
    clear hown' hgrow hnil hat HS hown hcell hfrz
    have HS3 : Hid _ := hS3
    have HK3 : Hid _ := hK3
    clear hS3 hK3
    go_wp2_with fail
    go_loopw [8] (fun a wr => ∃ (i : Nat) (p : ByteArray × Nat), k ≤ i ∧ i ≤ D.length ∧ a = .int .i64 i ∧ SetAt wr 94 b (.slice (some ⟨g, 0, none⟩) (D.length + 1) cap) (hole D i p) ∧ Kept w1 wr (fun j => j = b ∨ v.ownBlock = some j)) (fun a _ => (intOf a).toNat)
    case atStart => exact ⟨D.length, (ByteArray.empty, 0), hk, Nat.le_refl _, by go_num, HS3.out, HK3.out⟩
    case round =>
      obtain ⟨i, p, hki, hin, rfl, hS4, hK4⟩ := hrel
      have hS4' := hS4
      obtain ⟨hcell, hfrz, hown, -⟩ := hS4
      rw [hole_length hin] at hown
      have HS4 : Hid _ := hS4'
      have HK4 : Hid _ := hK4
      clear hS4' hK4 HS3 HK3
      by_cases hgt : k < i
      · obtain ⟨j, rfl⟩ : ∃ j, i = j + 1 := ⟨i - 1, by omega⟩
        obtain ⟨hc0, hc1⟩ := own_pair hown (k := j) (hole_length hin).symm (by rw [hole_length hin]; omega)
        obtain ⟨hd0, hd1⟩ := own_pair hown (k := j + 1) (hole_length hin).symm (by rw [hole_length hin]; omega)
        have hz0 := hown.frozenAt ((j + 1) * 2)
        have hz1 := hown.frozenAt ((j + 1) * 2 + 1)
        rw [hole_before hin (by omega)] at hc0 hc1
        obtain ⟨q, hq⟩ : ∃ q, q = D[j] := ⟨_, rfl⟩
        rw [← hq] at hc0 hc1
        have HQ : Hid (q = D[j]) := hq
        clear hq
        have HR := set_store2 HS4.out (hole_length hin).symm HBG.out (k := j + 1) (by rw [hole_length hin]; omega) q
        rw [show q = D[j] from HQ.out, hole_step (by omega), ← HQ.out] at HR
        have HR' : Hid _ := HR
        clear HR
        go_wp2_with fail
        go_region
        all_goals
          go_wp2
          go_roundw
          case rel => exact ⟨j, q, by omega, by omega, by go_num, HR'.out.drew, ((HK4.out.setCell _ _ (by rcases hgo with a | a; exact .inl (.inr a); exact .inr a)).setCell _ _ (by rcases hgo with a | a; exact .inl (.inr a); exact .inr a)).drew⟩
          case measure => simp [intOf]
      · obtain rfl : k = i := by omega
        obtain ⟨hd0, hd1⟩ := own_pair hown (k := k) (hole_length hin).symm (by rw [hole_length hin]; omega)
        have hz0 := hown.frozenAt (k * 2)
        have hz1 := hown.frozenAt (k * 2 + 1)
        have hcv := fun W => run_bytes_of_string (P := Tryd.prog) W 9 87 5 x Tryd.underlying9 Tryd.underlying87 Tryd.underlying5
        have hbw := cell_lt hcell
        have hgw := cell_lt hd0
        have hkd : (k : Int) < (D.length : Int) + 1 := by omega
        have hbk1 := fun cap cap2 fr => bytes_back wr x cap cap2 fr
        have HR := set_store2 HS4.out (hole_length hin).symm HBG.out (k := k) (by rw [hole_length hin]; omega) (x, c)
        rw [hole_fill hin] at HR
        have HR' : Hid _ := HR
        clear HR
        go_wp2_with fail
        go_region
        all_goals
          go_wp2
          go_end0
          refine ⟨rfl, .inr ⟨k, HSP.out, HN.out, _, (HR'.out.alloc _).drew.drew, (((HK4.out.setCell _ _ (by rcases hgo with a | a; exact .inl (.inr a); exact .inr a)).setCell _ _ (by rcases hgo with a | a; exact .inl (.inr a); exact .inr a)).alloc _).drew.drew, ?_⟩⟩
          intro i hi
          simp only [Value.ownBlock, Option.some.injEq] at hi
          subst hi
          exact hgo

end Go.Proofs.YtlfpepehngkehabDoor
