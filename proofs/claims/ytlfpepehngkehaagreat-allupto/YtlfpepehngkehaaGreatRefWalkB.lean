/-
  Walks: the reference's walk: Kind, Move.
-/
import Derived.Test.YtlfpepehngkehaaGreatRefWalkA
namespace Go.Proofs.YtlfpepehngkehaaGreat
set_option linter.unusedSimpArgs false
set_option linter.unusedVariables false
open Go.RowKit

def KindRel (l : List Nat) (a : Nat) (w : World) (g : Nat) (b y : Value) (wr : World) : Prop :=
  ∃ (i f : Nat), g = l.length - i ∧ i ≤ l.length ∧ y = .int .i64 i ∧ b = .int .i64 f ∧ ((IsBlw (l.take i) a (-1) ∧ f = 0) ∨ IsBlw (l.take i) a f) ∧ Same w wr

theorem kind_put {l : List Nat} {a i f : Nat} (hs : l.Pairwise (· < ·)) (hlt : i < l.length) (hx : l[i] < a) (h : (IsBlw (l.take i) a (-1) ∧ f = 0) ∨ IsBlw (l.take i) a f) : IsBlw (l.take (i + 1)) a l[i] := by
  have hall : ∀ y ∈ l.take i, y < l[i] := fun y hy => by
    obtain ⟨j, hj, rfl⟩ := List.mem_iff_getElem.1 hy
    simp at hj
    rw [List.getElem_take]
    exact List.pairwise_iff_getElem.1 hs j i (by omega) hlt (by omega)
  rw [take_snoc l i hlt]
  rcases h with ⟨h, _⟩ | h
  · exact h.put (by omega) (by omega)
  · obtain ⟨x, hx', e⟩ := h.mem (by omega)
    have := hall x hx'
    exact h.put (by omega) (by omega)

theorem kind_keep {l : List Nat} {a i f : Nat} (hlt : i < l.length) (hx : ¬ l[i] < a) (h : (IsBlw (l.take i) a (-1) ∧ f = 0) ∨ IsBlw (l.take i) a f) : (IsBlw (l.take (i + 1)) a (-1) ∧ f = 0) ∨ IsBlw (l.take (i + 1)) a f := by
  rw [take_snoc l i hlt]
  rcases h with ⟨h, e⟩ | h
  · exact .inl ⟨h.keep (by omega), e⟩
  · exact .inr (h.keep (by omega))

theorem kind_fin {l : List Nat} {n a f : Nat} (hb : Bounds l n) (ha : 0 < a) (h : (IsBlw (l.take l.length) a (-1) ∧ f = 0) ∨ IsBlw (l.take l.length) a f) : IsBlw l a f ∧ f < a := by
  rw [List.take_length] at h
  rcases h with ⟨h, e⟩ | h
  · rcases h with ⟨_, h⟩ | ⟨x, _, e2, _⟩
    · have := h 0 hb.zero; omega
    · omega
  · refine ⟨h, ?_⟩
    rcases h with ⟨e, _⟩ | ⟨x, _, e, h2, _⟩
    · omega
    · omega

def KindRes (D : Dic) (t : ByteArray) (l : List Nat) (a : Nat) (e : Ending) : Prop := ∃ r : Int, e = .returned (.int .i64 r) ∧ KindIs D t l a r

theorem kd_word {D : Dic} {t : ByteArray} {f a : Nat} (h1 : sortC (bt t f) ≠ 100) (h2 : sortC (bt t f) ≠ 98) (h3 : sortC (bt t f) ≠ 111) : ((∃ p ∈ D, p.1 = t.extract f a) → kd D t f a = 3) ∧ ((¬ ∃ p ∈ D, p.1 = t.extract f a) → kd D t f a = 4) := by
  unfold kd
  rw [if_neg h1, if_neg h2, if_neg h3]
  exact ⟨fun h => if_pos h, fun h => if_neg h⟩

set_option maxHeartbeats 4000000 in
set_option maxRecDepth 100000 in
theorem kind_any (w : World) (P B : Nat) (D : Dic) (Wv Cv lv : Value) (t : ByteArray) (l : List Nat) (a : Nat) (h : RWalk w P B D Wv Cv lv t l a) (hD : D.length ≤ 150) (ht : t.size ≤ 500) (hl : l.length ≤ 1000) (hb : Bounds l t.size) (ha : a ≤ t.size) :
    Calls Tryz.prog 52 #[.pointer (some ⟨P, 0, none⟩)] w fun e w' => KindRes D t l a e ∧ Same w w' := by
  obtain ⟨ap, cp, rfl, hg⟩ := row_form h.row
  have hc2 := h.c2
  have hc3 := h.c3
  have HW : Hid (RWalk w P B D Wv Cv (.slice ap l.length cp) t l a) := h
  have HBD : Hid (Bounds l t.size) := hb
  clear h hb
  go_enter Tryz.func52, Tryz.ntmps52
  go_wp2_with fail
  go_loopg [3, 4] l.length (fun g b y wr => KindRel l a w g b y wr)
  case atStart => exact ⟨0, 0, rfl, Nat.zero_le _, rfl, rfl, .inl ⟨by rw [List.take_zero]; exact IsBlw.nil _, rfl⟩, Same.refl _⟩
  case round =>
    obtain ⟨i, f, rfl, hi, rfl, rfl, hr, hs⟩ := hrel
    have HR : Hid ((IsBlw (l.take i) a (-1) ∧ f = 0) ∨ IsBlw (l.take i) a f) := hr
    have hx2 := hs.cell hc2
    have hx3 := hs.cell hc3
    clear hr
    by_cases hlt : i < l.length
    · have hlt' : (i : Int) < (l.length : Int) := by omega
      obtain ⟨g, rfl⟩ := hg (by omega)
      have hx := own_int (hs.row HW.out.row) rfl hlt
      obtain ⟨x, hxd⟩ : ∃ x, x = l[i] := ⟨_, rfl⟩
      by_cases h1 : l[i] < a
      · have HN : Hid (IsBlw (l.take (i + 1)) a x) := by show IsBlw _ _ _; rw [hxd]; exact kind_put HBD.out.srt hlt h1 HR.out
        rw [← hxd] at hx h1
        have h1' : (x : Int) < (a : Int) := by omega
        clear hxd h1
        go_wp2_with fail
        go_quiet (fail)
        go_wp2_with fail
        go_roundg (l.length - (i + 1))
        case measure => omega
        case rel => exact ⟨i + 1, x, rfl, hlt, by go_num, rfl, .inr HN.out, Kept.drewN hs _⟩
      · have HN : Hid ((IsBlw (l.take (i + 1)) a (-1) ∧ f = 0) ∨ IsBlw (l.take (i + 1)) a f) := kind_keep hlt h1 HR.out
        rw [← hxd] at hx h1
        have h1' : ¬ (x : Int) < (a : Int) := by omega
        clear hxd h1
        go_wp2_with fail
        go_quiet (fail)
        go_wp2_with fail
        go_roundg (l.length - (i + 1))
        case measure => omega
        case rel => exact ⟨i + 1, f, rfl, hlt, by go_num, rfl, HN.out, Kept.drewN hs _⟩
    · obtain rfl : i = l.length := by omega
      have hx0 := hs.cell HW.out.c0
      have hx1 := hs.cell HW.out.c1
      by_cases h0 : a = 0
      · subst h0
        go_wp2_with fail
        go_ret
        exact ⟨⟨0, rfl, .inl ⟨rfl, rfl⟩⟩, hs⟩
      · have h0' : ((a : Int) == 0) = false := by rw [beq_eq_false_iff_ne]; omega
        obtain ⟨hf, hfa⟩ := kind_fin HBD.out (by omega) HR.out
        have HF : Hid (∀ r, r = kd D t f a → KindIs D t l a r) := fun r hr => .inr ⟨by omega, f, hf, hr⟩
        have hft : f < t.size := by omega
        have hbt := bt_get t f hft
        have hblt := bt_lt t f
        have hfa' : (f : Int) ≤ (a : Int) := by omega
        have ha' : (a : Int) ≤ (t.size : Int) := by omega
        obtain ⟨s, hsd⟩ : ∃ s, s = sortC (bt t f) := ⟨_, rfl⟩
        have HSD : Hid (s = sortC (bt t f)) := hsd
        have HBK : Hid (BookAt wr B D Wv Cv) := hs.book HW.out.bk
        clear hf hsd HR
        by_cases s1 : s = 100
        · have e1 : ((s : Int) == 100) = true := by rw [s1]; rfl
          have HK : Hid (KindIs D t l a 1) := HF.out 1 (by unfold kd; rw [← HSD.out, if_pos s1])
          clear s1
          go_wp2_with fail
          refine (sort_any (bt t f) _ hblt).mono ?_
          rintro e wr ⟨rfl, rfl⟩
          rw [← HSD.out]
          go_wp2_with fail
          go_ret
          exact ⟨⟨1, rfl, HK.out⟩, hs⟩
        · have e1 : ((s : Int) == 100) = false := by rw [beq_eq_false_iff_ne]; omega
          by_cases s2 : s = 98
          · have e2 : ((s : Int) == 98) = true := by rw [s2]; rfl
            have HK : Hid (KindIs D t l a 2) := HF.out 2 (by unfold kd; rw [← HSD.out, if_neg s1, if_pos s2])
            clear s1 s2
            go_wp2_with fail
            refine (sort_any (bt t f) _ hblt).mono ?_
            rintro e wr ⟨rfl, rfl⟩
            rw [← HSD.out]
            go_wp2_with fail
            go_ret
            exact ⟨⟨2, rfl, HK.out⟩, hs⟩
          · have e2 : ((s : Int) == 98) = false := by rw [beq_eq_false_iff_ne]; omega
            by_cases s3 : s = 111
            · have e3 : ((s : Int) == 111) = true := by rw [s3]; rfl
              have HK : Hid (KindIs D t l a 0) := HF.out 0 (by unfold kd; rw [← HSD.out, if_neg s1, if_neg s2, if_pos s3])
              clear s1 s2 s3
              go_wp2_with fail
              refine (sort_any (bt t f) _ hblt).mono ?_
              rintro e wr ⟨rfl, rfl⟩
              rw [← HSD.out]
              go_wp2_with fail
              go_ret
              exact ⟨⟨0, rfl, HK.out⟩, hs⟩
            · have e3 : ((s : Int) == 111) = false := by rw [beq_eq_false_iff_ne]; omega
              have hkw := kd_word (D := D) (t := t) (f := f) (a := a) (by rw [← HSD.out]; exact s1) (by rw [← HSD.out]; exact s2) (by rw [← HSD.out]; exact s3)
              have HKW : Hid (((∃ p ∈ D, p.1 = t.extract f a) → kd D t f a = 3) ∧ ((¬ ∃ p ∈ D, p.1 = t.extract f a) → kd D t f a = 4)) := hkw
              have HBD2 : Hid (BookAt wr.drew B D Wv Cv) := Same.book (Kept.drew (Same.refl wr)) HBK.out
              clear s1 s2 s3 hkw
              go_wp2_with fail
              refine (sort_any (bt t f) _ hblt).mono ?_
              rintro e wr ⟨rfl, rfl⟩
              rw [← HSD.out]
              go_upto_region 16 with fail
              go_cut [5] (fun kv wx => ∃ r : Int, kv = .int .i64 r ∧ (0 ≤ r ↔ ∃ p ∈ D, p.1 = t.extract f a) ∧ Same wr wx)
              case first =>
                go_region_with (go_at_call 80; go_must (refine (bookFind_any wr.drew B D Wv Cv HBD2.out hD (t.extract f a)).mono ?_); rintro e w2 ⟨⟨r, rfl, hr⟩, rfl⟩)
                all_goals
                  go_wp2_with fail
                  go_meet
                  exact ⟨r, rfl, hr, Kept.drew (Same.refl wr)⟩
              case rest =>
                obtain ⟨r, rfl, hr, hs2⟩ := hcut
                have HS2 : Hid (Same w wc) := Kept.trans hs hs2 fun _ e => e.elim
                by_cases hr0 : 0 ≤ r
                · have HK : Hid (KindIs D t l a 3) := HF.out 3 (HKW.out.1 (hr.1 hr0)).symm
                  clear hr hs2
                  go_wp2_with fail
                  go_ret
                  exact ⟨⟨3, rfl, HK.out⟩, HS2.out⟩
                · have HK : Hid (KindIs D t l a 4) := HF.out 4 (HKW.out.2 (fun h => hr0 (hr.2 h))).symm
                  clear hr hs2
                  go_wp2_with fail
                  go_ret
                  exact ⟨⟨4, rfl, HK.out⟩, HS2.out⟩

end Go.Proofs.YtlfpepehngkehaaGreat
