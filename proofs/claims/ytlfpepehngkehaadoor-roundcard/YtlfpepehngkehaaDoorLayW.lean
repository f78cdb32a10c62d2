/-
  Walks: Layered.
-/
import Derived.Test.YtlfpepehngkehaaDoorKeepU
import Derived.Test.YtlfpepehngkehaaDoorKeepBC
import Derived.Test.YtlfpepehngkehaaDoorKeepV
import Derived.Test.YtlfpepehngkehaaDoorLayM
import Derived.Deep.CutRange
import Derived.Deep.DeepCutAuto
import Derived.Deep.CutBlock
namespace Go.Proofs.YtlfpepehngkehaaDoor
set_option linter.unusedSimpArgs false
set_option linter.unusedVariables false
open Go.RowKit

theorem ItoaIn.next {b0 : Nat} {w w1 : World} (h : ItoaIn b0 w) (hb : Below b0 w w1) (hz : b0 ≤ w1.heap.size) : ItoaIn w1.heap.size w1 := fun w' n hb' hn => h w' n (hb.trans (hb'.mono hz)) hn

theorem strs_one (w : World) (x : ByteArray) (t : TypeId) (hx : x.size ≤ 801) : StrsAt (w.alloc (.cells #[.string x] t)) (some ⟨w.heap.size, 0, none⟩) [x] := by
  refine ⟨fun s hs => ?_, .inr ⟨w.heap.size, 0, rfl, fun i hi => ?_⟩⟩
  · simp at hs
    unfold maxLen
    rw [hs]; omega
  · obtain rfl : i = 0 := by simpa using hi
    rw [World.cell?_alloc_at _ _ _ _ rfl]; rfl

theorem set_same {w w' : World} {t : TypeId} {b : Nat} {v : Value} {D : Dic} (h : SetAt w t b v D) (hs : Same w w') : SetAt w' t b v D :=
  ⟨(Kept.cell hs (p := ⟨b, 0, none⟩) (cell_lt h.cell) id).trans h.cell, (Kept.frozen hs (p := ⟨b, 0, none⟩) (cell_lt h.cell) id).trans h.frz, hs.row h.own, h.ne⟩

theorem MadeAt.same {raw : List Int} {w w' : World} {b : Nat} {v : Value} {D : Dic} {B : Nat} {Wv Cv : Value} (h : MadeAt raw w b v D B Wv Cv) (hs : Same w w') : MadeAt raw w' b v D B Wv Cv :=
  ⟨h.rp, h.gd, set_same h.st hs, h.tb.same hs⟩

/-- what is held as the loop of Layered goes: the dictionary, the table, the hits. -/
structure LayAt (w : World) (b : Nat) (v : Value) (D : Dic) (B : Nat) (T : Tab) (Wv Cv : Value) (G : Nat) (hv : Value) (H : List (Nat × Nat)) : Prop where
  st : SetAt w 95 b v D
  tb : TabAt w B T Wv Cv
  ho : w.ownsRow G 56 2 hv H.length (hitCells H)

def LayLoop (s : ByteArray) (H : List (Nat × Nat)) (g : Nat) (kv nv : Value) (w wr : World) : Prop :=
  ∃ k n : Nat, g = s.size + 1 - n ∧ 1 ≤ n ∧ n ≤ s.size + 1 ∧ nv = .int .i64 n ∧ kv = .int .i64 k ∧ HitsAt H n k ∧ Same w wr

/-- the part of Layered behind like. -/
def LayFacts (D : Dic) (T : Tab) (s : ByteArray) (H : List (Nat × Nat)) : Prop := Hits D s H ∧ (∀ p ∈ D, 1 ≤ p.1.size) ∧ (∀ (x : ByteArray) (c : Nat), (x, c) ∈ D ↔ tcost T x = (c : Int)) ∧ (∀ x : ByteArray, (∀ c, (x, c) ∉ D) ↔ tcost T x < 0) ∧ (inTab T).length = D.length

theorem lay_facts {raw : List Int} {D : Dic} {s : ByteArray} {H : List (Nat × Nat)} (hR : Rep D (eAB raw)) (hg : GoodDic D) (hH : Hits D s H) : LayFacts D (tabTo raw (nE raw)) s H :=
  ⟨hH, fun p hp => (hg.2.2 p hp).1.1, fun x c => tab_dic (eAB_tab raw) hR x c, fun x => tab_none (eAB_tab raw) hR x, inTab_dic (eAB_tab raw) hR⟩

set_option maxHeartbeats 4000000 in
set_option maxRecDepth 20000 in
theorem layered_walk (HC : CutOk) (w : World) (ap : Option Addr) (cp : Nat) (raw : List Int) (c : Int) (HI : ItoaIn w.heap.size w) (hR : IntsAt w ap raw) (hlen : raw.length ≤ 9223372036854775807) (hc0 : -9223372036854775808 ≤ c) (hc1 : c ≤ 9223372036854775807) :
    Calls Tryd.prog 6 #[.slice ap raw.length cp, .int .i64 c] w fun e w' => e = .returned (.bool true) ∧ Below w.heap.size w w' := by
  have HCC : Hid CutOk := HC
  have HIT : Hid (ItoaIn w.heap.size w) := HI
  have HR : Hid (IntsAt w ap raw) := hR
  clear HI hR HC
  go_enter Tryd.func6, Tryd.ntmps6
  go_wp2_with fail
  refine (made_any w ap cp raw HIT.out HR.out hlen).mono ?_
  rintro e w1 ⟨b, v, D, Wv, Cv, rfl, hM, hb1⟩
  have HM1 : Hid (MadeAt raw w1 b v D w.heap.size Wv Cv) := hM
  have hTl := hM.tl
  have hz1 := hb1.size
  clear hM
  go_wp2_with fail
  refine (lists_any w1 ap cp raw (HIT.out.next hb1 hz1) (HR.out.below hb1) hlen).mono ?_
  rintro e w2 ⟨G, Wv2, Cv2, rfl, hG, hrow, -, hb2⟩
  have hB2 : Below w.heap.size w w2 := hb1.trans (hb2.mono hz1)
  have hz2 := hB2.size
  have HM2 : Hid (MadeAt raw w2 b v D w.heap.size Wv Cv) := HM1.out.below hb2
  have hr0 : w2.cell? ⟨G, 0, none⟩ = some (.string (sA raw)) := by rw [hrow.cellAt 0 (by simp)]; rfl
  have hr1 : w2.cell? ⟨G, 1, none⟩ = some (.string (sB raw)) := by rw [hrow.cellAt 1 (by simp)]; rfl
  have HSB : Hid ((sB raw).toList = [] → sA raw = sAll raw) := sB_none
  have HSS : Hid ((sB raw).toList ≠ [] → sA raw ++ comm ++ sB raw = sAll raw) := sB_some
  have HSZ : Hid ((sAll raw).size ≤ 801) := sAll_size raw
  have HNO : Hid (∀ err, ¬ BuildNo [sAll raw] err) := build_all raw
  have HYES : Hid (∀ D', BuildYes [sAll raw] D' → Rep D' (eAB raw)) := fun D' h => yes_all h
  have hA4 : (sA raw).size ≤ 400 := sA_size raw
  have hB4 : (sB raw).size ≤ 400 := sB_size raw
  have HTW : Hid (∀ p ∈ tabTo raw (nE raw), p.1.size ≤ 4) := tabTo_words raw (nE raw)
  obtain ⟨T, hT⟩ : ∃ T, T = tabTo raw (nE raw) := ⟨_, rfl⟩
  have HTE : Hid (T = tabTo raw (nE raw)) := hT
  rw [← hT] at hTl HTW
  obtain ⟨xA, hxA⟩ : ∃ x, x = sA raw := ⟨_, rfl⟩
  obtain ⟨xB, hxB⟩ : ∃ x, x = sB raw := ⟨_, rfl⟩
  obtain ⟨xL, hxL⟩ : ∃ x, x = sAll raw := ⟨_, rfl⟩
  rw [← hxA] at hr0 HSB HSS hA4
  rw [← hxB] at hr1 HSB HSS hB4
  rw [← hxL] at HSB HSS HSZ HNO HYES
  clear hxA hxB hxL hrow hb2 hb1 HM1 hT
  go_upto_if 38 with fail
  go_cut [9] (fun y wx => y = .string xL ∧ wx = w2)
  case first =>
    go_wp2_with fail
    · rename_i hE
      go_meet
      exact ⟨by rw [← HSS.out (by simpa using hE)]; rfl, rfl⟩
    · rename_i hE
      go_meet
      exact ⟨by rw [HSB.out (by simpa using hE)], rfl⟩
  case rest =>
    obtain ⟨rfl, rfl⟩ := hcut
    clear hr0 hr1
    go_wp2_with fail
    refine (build_any _ (some ⟨wc.heap.size, 0, none⟩) 1 [xL] (strs_one wc xL _ HSZ.out) (by simp)).mono ?_
    rintro e w3 ⟨hbe, hb3⟩
    rcases hbe with ⟨err, rfl, hno⟩ | ⟨b2, v2, D2, rfl, hyes, hS2, hbb, hvb⟩
    · exact absurd hno (HNO.out err)
    · obtain rfl : D = D2 := HM2.out.rp.unique (HYES.out D2 hyes)
      have hb23 : Below wc.heap.size wc w3 := ((Below.refl wc.heap.size wc).alloc (Nat.le_refl _) _).trans (hb3.mono (by simp))
      have HS2 : Hid (SetAt w3 95 b2 v2 D) := hS2
      have HM3 : Hid (MadeAt raw w3 b v D w.heap.size Wv Cv) := HM2.out.below hb23
      have hB3 : Below w.heap.size w w3 := hB2.trans (hb23.mono hz2)
      have hz3 := hB3.size
      clear hyes hS2 hbb hvb hb3 hb23 hB2 HM2 HNO HYES HSB HSS
      go_wp2_with fail
      refine (word_any c w3 hc0 hc1).mono ?_
      rintro e w4 ⟨rfl, hb4⟩
      have HS4 : Hid (SetAt w4 95 b2 v2 D) := HS2.out.below hb4
      have HM4 : Hid (MadeAt raw w4 b v D w.heap.size Wv Cv) := HM3.out.below hb4
      have HB4 : Hid (Below w.heap.size w w4) := hB3.trans (hb4.mono hz3)
      have hw4 : (wordOf c).size ≤ 4 := wordOf_size c
      obtain ⟨x0, hx0⟩ : ∃ x, x = wordOf c := ⟨_, rfl⟩
      rw [← hx0] at hw4 ⊢
      have HTB : Hid (TabAt w4 w.heap.size T Wv Cv) := by rw [HTE.out]; exact HM4.out.tb
      obtain ⟨pw, capw, rfl, hgw⟩ := row_form HTB.out.ow
      have hc0' := HTB.out.c0
      clear hx0 hb4 hB3 HS2 HM3
      go_upto_if 64 with fail
      go_cut [12] (fun y wx => ∃ s : ByteArray, y = .string s ∧ s.size ≤ 4 ∧ Same w4 wx)
      case first =>
        by_cases hT0 : T.length = 0
        · have ht : ¬ (0 : Int) < (T.length : Int) := by omega
          go_wp2_with fail
          go_meet
          exact ⟨x0, rfl, hw4, Same.refl _⟩
        · have ht : (0 : Int) < (T.length : Int) := by omega
          obtain ⟨gw, rfl⟩ := hgw (by simpa using hT0)
          have hpk := pk_lt c (n := T.length) (by omega)
          have hcl := own_str HTB.out.ow (by simp) (k := pk c T.length) (by simpa using hpk)
          simp only [List.getElem_map] at hcl
          have hsz := HTW.out T[pk c T.length] (List.getElem_mem hpk)
          obtain ⟨q, hq⟩ : ∃ q, q = T[pk c T.length].1 := ⟨_, rfl⟩
          rw [← hq] at hcl hsz
          obtain ⟨m, hm⟩ : ∃ m, m = pk c T.length := ⟨_, rfl⟩
          have hP : ∀ W : World, Calls Tryd.prog 19 #[.int .i64 c, .int .i64 T.length] W fun e w' => e = .returned (.int .i64 m) ∧ w' = W := fun W => by rw [hm]; exact keepPick_any c T.length W hc0 hc1 (by omega) (by omega)
          rw [← hm] at hcl hpk
          have hml : (m : Int) < (T.length : Int) := by omega
          clear hq hm
          go_wp2_with fail
          go_region_with (go_at_call 19; go_must (refine (hP _).mono ?_); rintro e w5 ⟨rfl, rfl⟩)
          all_goals
            go_wp2_with fail
            go_meet
            exact ⟨q, rfl, hsz, Kept.drew (Same.refl w4)⟩
      case rest =>
        obtain ⟨s, rfl, hs4, hsame⟩ := hcut
        have HS5 : Hid (SetAt wc 95 b2 v2 D) := set_same HS4.out hsame
        have HM5 : Hid (MadeAt raw wc b v D w.heap.size (.slice pw T.length capw) Cv) := HM4.out.same hsame
        have HB5 : Hid (Below w.heap.size w wc) := Same.below hsame HB4.out HB4.out.size
        have hz5 := HB5.out.size
        obtain ⟨s2, hs2⟩ : ∃ s2, s2 = s ++ ByteArray.mk #[97] := ⟨_, rfl⟩
        have hs2z : s2.size ≤ 500 := by rw [hs2, ByteArray.size_append]; have : (ByteArray.mk #[97]).size = 1 := rfl; omega
        have hs4m : s.size ≤ maxLen := by unfold maxLen; omega
        clear hsame hc0' hgw HTB HS4 HM4 HB4
        go_wp2_with fail
        rw [← hs2]
        refine (like_any HCC.out wc b b2 v v2 D s2 hs2z HM5.out.gd HM5.out.st HS5.out).mono ?_
        rintro e w6 ⟨rfl, hb6⟩
        have HM6 : Hid (MadeAt raw w6 b v D w.heap.size (.slice pw T.length capw) Cv) := HM5.out.below hb6
        have HB6 : Hid (Below w.heap.size w w6) := HB5.out.trans (hb6.mono hz5)
        have hz6 := HB6.out.size
        have hgd := HM6.out.gd
        have hlD : D.length ≤ 150 := hgd.1
        clear hb6 HB5 HM5 HS5 hs2
        go_wp2_with fail
        refine (dictPrefixes_any w6 b v D s hs4m HM6.out.st hgd.2.1 hlD (fun p hp => ⟨(hgd.2.2 p hp).1.1, (hgd.2.2 p hp).1.2.1⟩)).mono ?_
        rintro e w7 ⟨hv, H, rfl, hH, hHl, ho7, hb7⟩
        have HF : Hid (LayFacts D T s H) := by rw [HTE.out]; exact lay_facts HM6.out.rp hgd hH
        have HM7 : Hid (MadeAt raw w7 b v D w.heap.size (.slice pw T.length capw) Cv) := HM6.out.below hb7
        have HB7 : Hid (Below w.heap.size w w7) := HB6.out.trans (hb7.mono hz6)
        obtain ⟨ah, caph, rfl, hgh⟩ := row_form ho7
        have HGH : Hid (H.length ≠ 0 → ∃ g, ah = some ⟨g, 0, none⟩) := hgh
        have HO7 : Hid (w7.ownsRow w6.heap.size 56 2 (.slice ah H.length caph) H.length (hitCells H)) := ho7
        have HTB7 : Hid (TabAt w7 w.heap.size T (.slice pw T.length capw) Cv) := by rw [HTE.out]; have := HM7.out.tb; rw [← HTE.out] at this ⊢; exact this
        clear hH ho7 hb7 hgh HB6 HM6 hgd
        go_wp2_with fail
        go_loopg [15, 16] s.size (fun g kv nv wr => LayLoop s H g kv nv w7 wr)
        case atStart => exact ⟨0, 1, by omega, by omega, by omega, rfl, rfl, hits_begin HF.out.1 HF.out.2.1, Same.refl _⟩
        case round =>
          obtain ⟨k, n, rfl, hn1, hns, rfl, rfl, hAt, hsame⟩ := hrel
          have HAT : Hid (HitsAt H n k) := hAt
          have hkl := hAt.1
          have HTBr : Hid (TabAt wr w.heap.size T (.slice pw T.length capw) Cv) := HTB7.out.same hsame
          clear hAt
          by_cases hlt : n ≤ s.size
          · have hle : (n : Int) ≤ (s.size : Int) := by omega
            obtain ⟨y, hy⟩ : ∃ y, y = s.extract 0 n := ⟨_, rfl⟩
            obtain ⟨tc, htc⟩ : ∃ tc, tc = tcost T y := ⟨_, rfl⟩
            have hcost : Calls Tryd.prog 24 #[.pointer (some ⟨w.heap.size, 0, none⟩), .string y] wr fun e w' => e = .returned (.int .i64 tc) ∧ w' = wr := by rw [htc]; exact cost_any wr w.heap.size T _ Cv HTBr.out (by omega) y
            by_cases hneg : tc < 0
            · have HN : Hid (HitsAt H (n + 1) k) := hits_out HF.out.1 HAT.out ((HF.out.2.2.2.1 _).2 (by rw [← hy, ← htc]; exact hneg))
              clear htc
              go_wp2_with fail
              rw [← hy]
              refine hcost.mono ?_
              rintro e w8 ⟨rfl, rfl⟩
              clear hcost hy
              go_wp2_with fail
              go_roundg (s.size + 1 - (n + 1))
              case measure => omega
              case rel => exact ⟨k, n + 1, rfl, by omega, by omega, by go_num, rfl, HN.out, hsame⟩
            · obtain ⟨c0, hc0n⟩ : ∃ c0 : Nat, tc = (c0 : Int) := ⟨tc.toNat, by omega⟩
              obtain ⟨hkh, hk0, hAt2⟩ := hits_in HF.out.1 hlt HAT.out ((HF.out.2.2.1 _ c0).2 (by rw [← hy, ← htc, hc0n]))
              subst hc0n
              have HN : Hid (HitsAt H (n + 1) (k + 1)) := hAt2
              obtain ⟨gh, rfl⟩ := HGH.out (by omega)
              obtain ⟨hx1, hx2⟩ := own_hit (hsame.row HO7.out) rfl hkh
              rw [hk0] at hx1 hx2
              simp only at hx1 hx2
              have hkl1 : ¬ (H.length : Int) ≤ (k : Int) := by omega
              have hkl2 : (k : Int) < (H.length : Int) := by omega
              clear htc hAt2 hk0
              go_wp2_with fail
              rw [← hy]
              refine hcost.mono ?_
              rintro e w8 ⟨rfl, rfl⟩
              clear hcost hy
              go_wp2_with fail
              go_roundg (s.size + 1 - (n + 1))
              case measure => omega
              case rel => exact ⟨k + 1, n + 1, rfl, by omega, by omega, by go_num, by go_num, HN.out, hsame⟩
          · obtain rfl : n = s.size + 1 := by omega
            have hkH : k = H.length := hits_end HF.out.1 HAT.out
            subst hkH
            have hle : ¬ (((s.size + 1 : Nat) : Int) ≤ (s.size : Int)) := by omega
            have HMr : Hid (MadeAt raw wr b v D w.heap.size (.slice pw T.length capw) Cv) := HM7.out.same hsame
            have HBr : Hid (Below w.heap.size w wr) := Same.below hsame HB7.out HB7.out.size
            have hin : (inTab T).length = D.length := HF.out.2.2.2.2
            have t1 : ((H.length : Int) == (H.length : Int)) = true := beq_self_eq_true _
            have t2 : ((D.length : Int) == (D.length : Int)) = true := beq_self_eq_true _
            go_wp2_with fail
            refine (dictSize_any wr b v D HMr.out.st).mono ?_
            rintro e w8 ⟨rfl, rfl⟩
            go_wp2_with fail
            refine (tsize_any w8 w.heap.size T _ Cv HTBr.out (by omega)).mono ?_
            rintro e w9 ⟨rfl, rfl⟩
            rw [hin]
            clear hin
            go_wp2
            go_ret
            exact ⟨rfl, HBr.out⟩

end Go.Proofs.YtlfpepehngkehaaDoor
