/-
  Walks: another way through a text, out of raw numbers.
-/
import Derived.Test.YtlfpepehngkehaaDoorKeepL
namespace Go.Proofs.YtlfpepehngkehaaDoor
set_option linter.unusedSimpArgs false
set_option linter.unusedVariables false
open Go.RowKit

def WayEnd (T : Tab) (t : ByteArray) (w w' : World) (e : Ending) : Prop := (∃ v l, e = .returned v ∧ TW T t t.size l ∧ w'.ownsRow w.heap.size 3 1 v l.length (intCells l)) ∧ Below w.heap.size w w'

theorem wayIn_add {T : Tab} {t : ByteArray} {w wr W1 : World} {q j : Nat} {l L : List Nat} {lv tv tv' y : Value} (hq : q < j) (hj : j + 1 ≤ q + 6) (hL : ∀ p ∈ L, TStands T t q p) (hs : TStands T t q j) (hl : L.length + q + 1 ≤ j) (hrl : wr.ownsRow w.heap.size 3 1 lv l.length (intCells l)) (hrt : wr.ownsRow w.heap.size 3 1 tv L.length (intCells L)) (hap : Apart lv tv) (hbel : Below w.heap.size w wr)
    (hk : Kept wr W1 (fun k => tv.ownBlock = some k)) (hr : W1.ownsRow w.heap.size 3 1 tv' (L.length + 1) (intCells L ++ [.int .i64 (j : Int)])) (hg : ∀ k, tv'.ownBlock = some k → tv.ownBlock = some k ∨ wr.heap.size ≤ k) (hy : y = .int .i64 ((j + 1 : Nat) : Int)) : WayIn T t w q l lv (q + 6 - (j + 1)) tv' y W1 := by
  refine ⟨j + 1, L ++ [j], rfl, by omega, hj, hy, fun p hp => ?_, by simp; omega, by rw [intCells_append, List.length_append]; exact hr, Kept.row hrl hk (fun k e e2 => hap k e e2), apart_grow (m := 0) hap hrl hg, hbel.trans (Kept.below hk hbel.size fun k e => (hrt.lt k e).1)⟩
  rcases List.mem_append.1 hp with hp | hp
  · exact hL p hp
  · simp at hp; subst hp; exact hs

theorem pick_mem {L : List Nat} {i : Nat} (h : i < L.length) {T : Tab} {t : ByteArray} {q a : Nat} {M : List Nat} (hM : M = L) (hL : ∀ p ∈ M, StepT T t q p) : StepT T t q L[i] := hL _ (by rw [hM]; exact List.getElem_mem h)

theorem wayRel_next {T : Tab} {t : ByteArray} {w W3 : World} {q k p : Nat} {l : List Nat} {lv' x y : Value} (htw : TW T t q l) (hq : q < t.size) (hkq : k ≤ q) (hp : StepT T t q p) (hx : x = .int .i64 p) (hy : y = .int .i64 ((k + 1 : Nat) : Int)) (hr : W3.ownsRow w.heap.size 3 1 lv' (l.length + 1) (intCells l ++ [.int .i64 (p : Int)])) (hb : Below w.heap.size w W3) : WayRel T t w (t.size - p) lv' x y W3 := by
  have := hp.lt
  exact ⟨p, k + 1, l ++ [p], rfl, this.2.1, by omega, hx, hy, .snoc htw hq hp, by rw [intCells_append, List.length_append]; exact hr, hb⟩

theorem steps_of {T : Tab} {t : ByteArray} {q a : Nat} {L : List Nat} (hL : ∀ p ∈ L, TStands T t q p) (ha : AfterIs t q a) : ∀ p ∈ L ++ [a], StepT T t q p := fun p hp => by
  rcases List.mem_append.1 hp with hp | hp
  · exact .inl (hL p hp)
  · simp at hp; subst hp; exact .inr ha

theorem tmod_nat {k n : Nat} : Int.tmod (k : Int) (n : Int) = ((k % n : Nat) : Int) := by rw [Int.tmod_eq_emod_of_nonneg (by omega)]; omega

def CutC (W : World) (v : Value) (wx : World) : Prop := ∃ c : Int, v = .int .i64 c ∧ -9223372036854775808 ≤ c ∧ c ≤ 9223372036854775807 ∧ wx = W

set_option maxHeartbeats 8000000 in
set_option maxRecDepth 100000 in
theorem way_any (w : World) (B : Nat) (T : Tab) (Wv Cv : Value) (hB : TabAt w B T Wv Cv) (hT : T.length ≤ 1000) (t : ByteArray) (ht : t.size ≤ 500) (ap : Option Addr) (cp : Nat) (raw : List Int) (hR : IntsAt w ap raw) (hlen : raw.length ≤ 9223372036854775807) :
    Calls Tryd.prog 11 #[.pointer (some ⟨B, 0, none⟩), .string t, .slice ap raw.length cp] w fun e w' => WayEnd T t w w' e := by
  obtain ⟨ii, hii, hi0, hi1, hi2⟩ := info_partsK Tryd.infoIntK
  have HB : Hid (TabAt w B T Wv Cv) := hB
  have HR : Hid (IntsAt w ap raw) := hR
  clear hB hR
  go_enter Tryd.func11, Tryd.ntmps11
  go_wp2_with fail
  go_loopg [7, 8, 9] t.size (fun g lv x y wr => WayRel T t w g lv x y wr)
  case atStart => exact ⟨0, 0, [0], rfl, Nat.zero_le _, Nat.le_refl _, rfl, rfl, .zero, own_oneK _ _ _, (Below.refl _ _).alloc (Nat.le_refl _) _⟩
  case round =>
    obtain ⟨q, k, l, rfl, hq, hkq, rfl, rfl, htw, hrow, hbel⟩ := hrel
    obtain ⟨al, cl, rfl, _⟩ := row_form hrow
    have hfc := htw.facts
    have hll : l.length ≤ 501 := by omega
    have HTW : Hid (TW T t q l) := htw
    have HROW : Hid (wr.ownsRow w.heap.size 3 1 (.slice al l.length cl) l.length (intCells l)) := hrow
    have HBEL : Hid (Below w.heap.size w wr) := hbel
    clear htw hrow hbel hfc
    by_cases hlt : q < t.size
    · have hlt' : (q : Int) < (t.size : Int) := by omega
      obtain ⟨q1, hq1⟩ : ∃ q1, q1 = q + 1 := ⟨_, rfl⟩
      have hq1i : (q : Int) + 1 = (q1 : Int) := by omega
      have hwq1 : IntKind.i64.wrap (q1 : Int) = (q1 : Int) := by rw [IntKind.wrap_i64]; omega
      obtain ⟨q5, hq5⟩ : ∃ q5, q5 = q + 5 := ⟨_, rfl⟩
      have hq5i : (q : Int) + 5 = (q5 : Int) := by omega
      have hwq5 : IntKind.i64.wrap (q5 : Int) = (q5 : Int) := by rw [IntKind.wrap_i64]; omega
      have HQ1 : Hid (q1 = q + 1) := hq1
      have HQ5 : Hid (q5 = q + 5) := hq5
      clear hq1 hq5
      go_wp2_with fail
      go_loopg [10, 11] 5 (fun g tv y wx => WayIn T t w q l (.slice al l.length cl) g tv y wx)
      case atStart => exact ⟨q1, [], by have := HQ1.out; omega, by have := HQ1.out; omega, by have := HQ1.out; omega, rfl, fun p hp => by simp at hp, by have := HQ1.out; simp; omega, World.ownsRow_nil _ _ _ _, HROW.out, (fun k e e2 => by cases e2), HBEL.out⟩
      case round =>
        obtain ⟨j, L, rfl, hj1, hj2, rfl, hL, hLl, hrt, hrl, hap, hbel⟩ := hrel
        obtain ⟨at', ct', rfl, _⟩ := row_form hrt
        have HL : Hid (∀ p ∈ L, TStands T t q p) := hL
        have HRT : Hid (wr.ownsRow w.heap.size 3 1 (.slice at' L.length ct') L.length (intCells L)) := hrt
        have HRL : Hid (wr.ownsRow w.heap.size 3 1 (.slice al l.length cl) l.length (intCells l)) := hrl
        have HAP : Hid (Apart (.slice al l.length cl) (.slice at' L.length ct')) := hap
        have HBL : Hid (Below w.heap.size w wr) := hbel
        have HTB : Hid (TabAt wr B T Wv Cv) := HB.out.same (Kept.of_below hbel (fun _ => False))
        have hszr : w.heap.size ≤ wr.heap.size + 1 := by have := hbel.size; omega
        have hLm : L.length + 1 ≤ maxLen := by unfold maxLen; omega
        have hLm2 : (L.length + 1) * 8 ≤ 140737488355328 := by omega
        have hj9 : j ≤ 1000 := by omega
        clear hL hrt hrl hap hbel
        by_cases hgo : j ≤ q5 ∧ j ≤ t.size
        · have hg1 : (j : Int) ≤ (q5 : Int) := by omega
          have hg2 : (j : Int) ≤ (t.size : Int) := by omega
          have hj6 : j + 1 ≤ q + 6 := by have := HQ5.out; omega
          have hmeas : q + 6 - (j + 1) < q + 6 - j := by omega
          by_cases hs : TStands T t q j
          · have hd : decide (TStands T t q j) = true := decide_eq_true hs
            have HS : Hid (TStands T t q j) := hs
            clear hs
            go_wp2_with fail
            refine (tstands_any wr B T Wv Cv HTB.out hT t ht q j hj9).mono ?_
            rintro e wr ⟨rfl, rfl⟩
            rw [hd]
            go_wp2_with (at_builtin; refine wpList_append_lies _ rfl _ _ 22 rfl w.heap.size 3 ii _ 1 8 Tryd.underlying22 hii hi0 hi1 hi2 rfl (by decide) _ _ _ rfl (HRT.out.alloc _) ⟨wr.heap.size, 0, none⟩ 1 1 [.int .i64 j] rfl rfl (news1K _ _ _ _ rfl) (fun u hu => by simp at hu; subst hu; rfl) (by decide) hLm hLm2 (by simpa using hszr) (wr.heap.size + 1) (by simp) ?_)
            intro g1 cap1 W1 hown1 hgrow1 hat1 hlt1
            have hK1 : Kept wr W1 (fun k => (Value.slice at' L.length ct').ownBlock = some k) := ((Kept.refl wr _).alloc _).grown hgrow1 (fun k hk => .inl hk)
            have HN2 : Hid (WayIn T t w q l (.slice al l.length cl) (q + 6 - (j + 1)) (.slice (some ⟨g1, 0, none⟩) (L.length + 1) cap1) (.int .i64 ((j : Int) + 1)) W1) := wayIn_add hj1 hj6 HL.out HS.out hLl HRL.out HRT.out HAP.out HBL.out hK1 hown1 (fun k hk => own_slice_at hat1 hk (Nat.le_succ _)) (by go_num)
            clear hown1 hgrow1 hat1 hK1
            go_wp2_with fail
            go_roundg (q + 6 - (j + 1))
            case measure => exact hmeas
            case rel => exact HN2.out
          · have hd : decide (TStands T t q j) = false := decide_eq_false hs
            have HN2 : Hid (WayIn T t w q l (.slice al l.length cl) (q + 6 - (j + 1)) (.slice at' L.length ct') (.int .i64 ((j : Int) + 1)) wr) := ⟨j + 1, L, rfl, by omega, hj6, by go_num, HL.out, by omega, HRT.out, HRL.out, HAP.out, HBL.out⟩
            clear hs
            go_wp2_with fail
            refine (tstands_any wr B T Wv Cv HTB.out hT t ht q j hj9).mono ?_
            rintro e wr ⟨rfl, rfl⟩
            rw [hd]
            go_wp2_with fail
            go_roundg (q + 6 - (j + 1))
            case measure => exact hmeas
            case rel => exact HN2.out
        · have hgo' : ¬ (j : Int) ≤ (q5 : Int) ∨ ((j : Int) ≤ (q5 : Int) ∧ ¬ (j : Int) ≤ (t.size : Int)) := by omega
          clear hgo
          rcases hgo' with hgo | ⟨hgo, hgo2⟩
          all_goals
            go_wp2_with fail
            refine (after_any t q wr ht hlt).mono ?_
            rintro e wr ⟨⟨a, rfl, ha⟩, rfl⟩
            have HST : Hid (∀ p ∈ L ++ [a], StepT T t q p) := steps_of HL.out ha
            clear ha
            go_wp2_with (at_builtin; refine wpList_append_lies _ rfl _ _ 22 rfl w.heap.size 3 ii _ 1 8 Tryd.underlying22 hii hi0 hi1 hi2 rfl (by decide) _ _ _ rfl (HRT.out.alloc _) ⟨wr.heap.size, 0, none⟩ 1 1 [.int .i64 a] rfl rfl (news1K _ _ _ _ rfl) (fun u hu => by simp at hu; subst hu; rfl) (by decide) hLm hLm2 (by simpa using hszr) (wr.heap.size + 1) (by simp) ?_)
            intro g1 cap1 W1 hown1 hgrow1 hat1 hlt1
            have hK1 : Kept wr W1 (fun k => (Value.slice at' L.length ct').ownBlock = some k) := ((Kept.refl wr _).alloc _).grown hgrow1 (fun k hk => .inl hk)
            have HRL1 : Hid (W1.ownsRow w.heap.size 3 1 (.slice al l.length cl) l.length (intCells l)) := Kept.row HRL.out hK1 (fun k e e2 => HAP.out k e e2)
            have HB1 : Hid (Below w.heap.size w W1) := HBL.out.trans (Kept.below hK1 HBL.out.size fun k e => (HRT.out.lt k e).1)
            obtain ⟨n1, hn1⟩ : ∃ n1, n1 = L.length + 1 := ⟨_, rfl⟩
            have hnl : n1 = (L ++ [a]).length := by rw [hn1]; simp
            have HRT1 : Hid (W1.ownsRow w.heap.size 3 1 (.slice (some ⟨g1, 0, none⟩) n1 cap1) n1 (intCells (L ++ [a]))) := by show World.ownsRow _ _ _ _ _ _ _; rw [intCells_append, hn1]; exact hown1
            have HI1 : Hid (IntsAt W1 ap raw) := HR.out.below HB1.out
            have hszw : w.heap.size ≤ W1.heap.size + 1 := by have := HB1.out.size; omega
            have hn1p : 0 < n1 := by omega
            have hn1q : n1 ≤ 9223372036854775807 := by omega
            have hl1 : l.length + 1 ≤ maxLen := by unfold maxLen; omega
            have hl2 : (l.length + 1) * 8 ≤ 140737488355328 := by omega
            have HNL : Hid (n1 = (L ++ [a]).length) := hnl
            rw [← hn1]
            clear hown1 hgrow1 hat1 hK1 hn1 hnl
            go_upto_if 55 with fail
            go_cut [14] (fun v wx => CutC W1 v wx)
            case first =>
              by_cases hr0 : 0 < raw.length
              · have hr0' : (0 : Int) < (raw.length : Int) := by omega
                obtain ⟨m, hm⟩ : ∃ m, m = k % raw.length := ⟨_, rfl⟩
                have hmod : Int.tmod (k : Int) (raw.length : Int) = (m : Int) := by rw [tmod_nat, ← hm]
                have hml : m < raw.length := by rw [hm]; exact Nat.mod_lt _ hr0
                have hml' : (m : Int) < (raw.length : Int) := by omega
                have hwm : IntKind.i64.wrap (m : Int) = (m : Int) := by rw [IntKind.wrap_i64]; omega
                have hrz : ((raw.length : Int) == 0) = false := by rw [beq_eq_false_iff_ne]; omega
                have hrz' : ¬ ((raw.length : Int) = 0) := by omega
                obtain ⟨hrng, hcel⟩ := HI1.out
                have hrg := hrng _ (List.getElem_mem hml)
                rcases hcel with hcel | ⟨pb, off, rfl, hcel⟩
                · rw [hcel] at hr0; simp at hr0
                have hc := hcel m hml
                obtain ⟨c, hcd⟩ : ∃ c, c = raw[m] := ⟨_, rfl⟩
                rw [← hcd] at hc hrg
                clear hrng hcel hcd hm
                go_wp2_with fail
                go_meet
                exact ⟨c, rfl, hrg.1, hrg.2, rfl⟩
              · have hr0' : ¬ (0 : Int) < (raw.length : Int) := by omega
                go_wp2_with fail
                go_meet
                exact ⟨0, rfl, by decide, by decide, rfl⟩
            case rest =>
              obtain ⟨c, rfl, hc0, hc1, rfl⟩ := hcut
              have hpl := pk_lt c hn1p
              obtain ⟨m, hm⟩ : ∃ m, m = pk c n1 := ⟨_, rfl⟩
              have HM : Hid (m = pk c n1) := hm
              rw [← hm] at hpl
              have hml : m < (L ++ [a]).length := by rw [← HNL.out]; exact hpl
              have hml' : (m : Int) < (n1 : Int) := by omega
              have hcx := own_int HRT1.out HNL.out hml
              have hst := HST.out _ (List.getElem_mem hml)
              obtain ⟨p, hp⟩ : ∃ p, p = (L ++ [a])[m] := ⟨_, rfl⟩
              rw [← hp] at hcx hst
              have HSP : Hid (StepT T t q p) := hst
              have hpq := hst.lt
              have hmeas : t.size - p < t.size - q := by omega
              clear hm hp hst hpq
              go_wp2_with fail
              refine (keepPick_any c n1 wc hc0 hc1 hn1p hn1q).mono ?_
              rintro e wc ⟨rfl, rfl⟩
              rw [← HM.out]
              go_wp2_with (at_builtin; refine wpList_append_own _ rfl _ _ 22 rfl w.heap.size 3 ii _ 1 8 Tryd.underlying22 hii hi0 hi1 hi2 rfl (by decide) _ _ _ rfl (HRL1.out.alloc _) ⟨wc.heap.size, 0, none⟩ 1 1 [.int .i64 p] rfl rfl (news1K _ _ _ _ rfl) (fun u hu => by simp at hu; subst hu; rfl) hl1 hl2 (by simpa using hszw) ?_)
              intro v' w3 hown' hgrow _
              have hb3 : Below w.heap.size w w3 := (HB1.out.alloc HB1.out.size _).grown hgrow (HB1.out.alloc HB1.out.size _).size (fun g hg => (HRL1.out.lt g hg).1)
              have HN2 : Hid (WayRel T t w (t.size - p) v' (.int .i64 p) (.int .i64 ((k : Int) + 1)) w3) := wayRel_next HTW.out hlt hkq HSP.out rfl (by go_num) hown' hb3
              clear hown' hgrow hb3 hcx
              go_wp2_with fail
              go_roundg (t.size - p)
              case measure => exact hmeas
              case rel => exact HN2.out
    · obtain rfl : q = t.size := by omega
      have HEND : Hid (WayEnd T t w wr (.returned (.slice al l.length cl))) := ⟨⟨_, l, rfl, HTW.out, HROW.out⟩, HBEL.out⟩
      go_wp2_with fail
      go_ret
      exact HEND.out

end Go.Proofs.YtlfpepehngkehaaDoor
