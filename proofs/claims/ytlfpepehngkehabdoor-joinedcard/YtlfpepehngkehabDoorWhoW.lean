/-
  Walks: Whole and Joined.
-/
import Derived.Test.YtlfpepehngkehabDoorKeepU
import Derived.Test.YtlfpepehngkehabDoorKeepJ
import Derived.Test.YtlfpepehngkehabDoorKeepRS
import Derived.Test.YtlfpepehngkehabDoorKeepS
import Derived.Test.YtlfpepehngkehabDoorCutI
import Derived.Test.YtlfpepehngkehabDoorWhoM
import Derived.Test.YtlfpepehngkehabDoorMaths
import Derived.Deep.CutRange
import Derived.Deep.DeepCutAuto
namespace Go.Proofs.YtlfpepehngkehabDoor
set_option linter.unusedSimpArgs false
set_option linter.unusedVariables false
open Go.RowKit

theorem MadeAt.sameW {raw : List Int} {w w' : World} {b : Nat} {v : Value} {D : Dic} {B : Nat} {Wv Cv : Value} (h : MadeAt raw w b v D B Wv Cv) (hs : Same w w') : SetAt w' 94 b v D :=
  ⟨(Kept.cell hs (p := ⟨b, 0, none⟩) (cell_lt h.st.cell) id).trans h.st.cell, (Kept.frozen hs (p := ⟨b, 0, none⟩) (cell_lt h.st.cell) id).trans h.st.frz, hs.row h.st.own, h.st.ne⟩

def WhoRel (s : ByteArray) (L : List Nat) (w : World) (g : Nat) (kv lv iv : Value) (wr : World) : Prop :=
  ∃ i k : Nat, g = s.size - i ∧ i ≤ s.size ∧ iv = .int .i64 i ∧ kv = .int .i64 k ∧ lv = .int .i64 (lastK s i) ∧ BelowK L i k ∧ Same w wr

theorem srt_cast_eqW {a : Nat} {b : Int} (h : (a : Int) = b) : ((a : Int) != b) = false := by subst h; simp

theorem ksort_le (c : Nat) : ksort c ≤ 4 := by unfold ksort; repeat (split <;> try omega)

set_option maxHeartbeats 4000000 in
set_option maxRecDepth 20000 in
theorem whole_walk (HC : CutOk) (HL : CutLongOk) (w : World) (ap : Option Addr) (cp : Nat) (raw : List Int) (s : ByteArray) (HI : ItoaIn w.heap.size w) (hR : IntsAt w ap raw) (hlen : raw.length ≤ 9223372036854775807) (hs : s.size ≤ maxLen) :
    Calls Tryd.prog 3 #[.slice ap raw.length cp, .string s] w fun e w' => e = .returned (.bool true) ∧ Below w.heap.size w w' := by
  have HCC : Hid CutOk := HC
  have HLL : Hid CutLongOk := HL
  have HIT : Hid (ItoaIn w.heap.size w) := HI
  have HR : Hid (IntsAt w ap raw) := hR
  have hs' : s.size ≤ 9223372036854775807 := by unfold maxLen at hs; omega
  clear HI hR HC HL
  go_enter Tryd.func3, Tryd.ntmps3
  go_wp2_with fail
  refine (made_any w ap cp raw HIT.out HR.out hlen).mono ?_
  rintro e w1 ⟨b, v, D, Wv, Cv, rfl, hM, hb1⟩
  have HM1 : Hid (MadeAt raw w1 b v D w.heap.size Wv Cv) := hM
  have hz1 := hb1.size
  clear hM
  by_cases h500 : s.size ≤ 500
  · have t500 : ¬ (500 : Int) < (s.size : Int) := by omega
    go_wp2_with fail
    refine (HCC.out w1 b v D s h500 HM1.out.gd HM1.out.st).mono ?_
    rintro e w2 ⟨lv, L, rfl, hL, ho2, hb2⟩
    have HG : Hid (GoodDic D) := HM1.out.gd
    have HLR : Hid (CutTo D s s.size L) := hL
    have hLl := hL.length HM1.out.gd h500
    have HLB : Hid (Bounds L s.size) := hL.bounds HM1.out.gd
    have hpos : 0 < L.length := List.length_pos_of_mem HLB.out.zero
    have hB2 : Below w.heap.size w w2 := hb1.trans (hb2.mono hz1)
    have hz2 := hB2.size
    obtain ⟨al, cl, rfl, hgl⟩ := row_form ho2
    obtain ⟨gl, rfl⟩ := hgl (by omega)
    have HO2 : Hid (w2.ownsRow w1.heap.size 3 1 (.slice (some ⟨gl, 0, none⟩) L.length cl) L.length (intCells L)) := ho2
    clear hL ho2 hb2 hb1 HM1 hgl
    go_wp2_with fail
    refine (rises_any w2 _ s.size _ L HO2.out HLB.out (by omega) (by omega)).mono ?_
    rintro e w3 ⟨rfl, hs3⟩
    have HB3 : Hid (Below w.heap.size w w3) := Same.below hs3 hB2 hz2
    have HO3 : Hid (w3.ownsRow w1.heap.size 3 1 (.slice (some ⟨gl, 0, none⟩) L.length cl) L.length (intCells L)) := hs3.row HO2.out
    clear hs3 hB2 HO2
    go_wp2_with fail
    go_loopg [10, 11, 12] s.size (fun g kv lv iv wr => WhoRel s L w3 g kv lv iv wr)
    case atStart => exact ⟨0, 0, by omega, by omega, rfl, rfl, rfl, belowK_zero L, Same.refl _⟩
    case round =>
      obtain ⟨i, k, rfl, hi, rfl, rfl, rfl, hBK, hsm⟩ := hrel
      by_cases hlt : i < s.size
      · have hli : (i : Int) < (s.size : Int) := by omega
        have hkl := belowK_lt HLB.out hBK hi
        have hhere := belowK_here HLB.out hBK hkl
        have HBK : Hid (BelowK L i k) := hBK
        have hx := own_int (hsm.row HO3.out) rfl hkl
        have hxle := HLB.out.le L[k] (List.getElem_mem hkl)
        have HIN : Hid (L[k] = i → BelowK L (i + 1) (k + 1)) := fun e => belowK_in HLB.out HBK.out hkl e
        have HOUT : Hid (i ∉ L → BelowK L (i + 1) k) := fun e => belowK_out HBK.out e
        obtain ⟨x, hxd⟩ : ∃ x, x = L[k] := ⟨_, rfl⟩
        rw [← hxd] at hx hhere hxle HIN
        have hbt := bt_get s i hlt
        have hb2 := bt_lt s i
        have hkl' : (k : Int) < (L.length : Int) := by omega
        obtain ⟨o, ho⟩ : ∃ o, o = ksort (bt s i) := ⟨_, rfl⟩
        have hks : ∀ W : World, Calls Tryd.prog 9 #[.int .u8 (bt s i : Nat)] W fun e w' => e = .returned (.int .i64 (o : Nat)) ∧ w' = W := fun W => by rw [ho]; exact ksort_any (bt s i) W hb2
        obtain ⟨la, hla⟩ : ∃ la, la = lastK s i := ⟨_, rfl⟩
        rw [← hla]
        have HO : Hid (o = ksort (bt s i)) := ho
        have HLA : Hid (la = lastK s i) := hla
        clear hBK hxd ho hla
        by_cases hi0 : i = 0
        · subst hi0
          have hx0 : x = 0 := hhere.2 HLB.out.zero
          subst hx0
          have HN : Hid (BelowK L (0 + 1) (k + 1)) := HIN.out rfl
          have HL1 : Hid (lastK s (0 + 1) = o) := by show _ = _; rw [lastK_own (.inl rfl), ← HO.out]
          have te : ((0 : Int) == 0) = true := rfl
          clear hhere
          by_cases hmk : bt s 0 = 126
          · have tm : ((bt s 0 : Int) == 126) = true := beq_iff_eq.2 (by omega)
            clear hmk
            go_wp2_with (go_at_call 9; refine (hks _).mono ?_; rintro e w9 ⟨rfl, rfl⟩)
            go_roundg (s.size - (0 + 1))
            case measure => omega
            case rel => exact ⟨0 + 1, k + 1, rfl, by omega, by go_num, by go_num, by rw [HL1.out], HN.out, hsm⟩
          · have tm : ((bt s 0 : Int) == 126) = false := beq_eq_false_iff_ne.2 (by omega)
            clear hmk
            go_wp2_with (go_at_call 9; refine (hks _).mono ?_; rintro e w9 ⟨rfl, rfl⟩)
            go_roundg (s.size - (0 + 1))
            case measure => omega
            case rel => exact ⟨0 + 1, k + 1, rfl, by omega, by go_num, by go_num, by rw [HL1.out], HN.out, hsm⟩
        · have hip : (0 : Int) < (i : Int) := by omega
          by_cases hmk : bt s i = 126
          · have hno : i ∉ L := mark_out HG.out HLR.out (by omega) hlt hmk
            have HN : Hid (BelowK L (i + 1) k) := HOUT.out hno
            have HL1 : Hid (lastK s (i + 1) = la) := by show _ = _; rw [lastK_mark (by omega) hlt hmk, ← HLA.out]
            have hxi : ¬ x = i := fun e => hno (hhere.1 e)
            have te : ((x : Int) == (i : Int)) = false := beq_eq_false_iff_ne.2 (by omega)
            have tm : ((bt s i : Int) == 126) = true := beq_iff_eq.2 (by omega)
            clear hmk hno hhere hxi
            go_wp2_with (go_at_call 9; refine (hks _).mono ?_; rintro e w9 ⟨rfl, rfl⟩)
            go_roundg (s.size - (i + 1))
            case measure => omega
            case rel => exact ⟨i + 1, k, rfl, by omega, by go_num, rfl, by rw [HL1.out], HN.out, hsm⟩
          · have tm : ((bt s i : Int) == 126) = false := beq_eq_false_iff_ne.2 (by omega)
            obtain ⟨hw1, hw2⟩ := whole_at HG.out HLR.out (show 0 < i by omega) hlt hmk
            have elast : ksort (bt s (frst s (i - 1))) = la := by rw [HLA.out]; unfold lastK; rw [if_neg hi0]
            rw [elast, ← HO.out] at hw1 hw2
            have HL1 : Hid (lastK s (i + 1) = o) := by show _ = _; rw [lastK_own (.inr hmk), ← HO.out]
            clear hmk elast
            by_cases hm : i ∈ L
            · have hxi : x = i := hhere.2 hm
              subst hxi
              have HN : Hid (BelowK L (x + 1) (k + 1)) := HIN.out rfl
              have te : ((x : Int) == (x : Int)) = true := beq_self_eq_true _
              by_cases hol : o = la
              · have h34 := hw2 hm hol
                have t1 : ((o : Int) == (la : Int)) = true := beq_iff_eq.2 (by omega)
                have t2 : ((o : Int) != (la : Int)) = false := srt_cast_eqW (by omega)
                have t3 : ((o : Int) == 3) = false := beq_eq_false_iff_ne.2 (by omega)
                have t4 : ((o : Int) == 4) = false := beq_eq_false_iff_ne.2 (by omega)
                clear h34 hw1 hw2 hol hhere hm
                go_wp2_with (go_at_call 9; refine (hks _).mono ?_; rintro e w9 ⟨rfl, rfl⟩)
                go_roundg (s.size - (x + 1))
                case measure => omega
                case rel => exact ⟨x + 1, k + 1, rfl, by omega, by go_num, by go_num, by rw [HL1.out], HN.out, hsm⟩
              · have t1 : ((o : Int) == (la : Int)) = false := beq_eq_false_iff_ne.2 (by omega)
                clear hw1 hw2 hol hhere hm
                go_wp2_with (go_at_call 9; refine (hks _).mono ?_; rintro e w9 ⟨rfl, rfl⟩)
                go_roundg (s.size - (x + 1))
                case measure => omega
                case rel => exact ⟨x + 1, k + 1, rfl, by omega, by go_num, by go_num, by rw [HL1.out], HN.out, hsm⟩
            · obtain ⟨hol, ho0⟩ := hw1 hm
              have HN : Hid (BelowK L (i + 1) k) := HOUT.out hm
              have hxi : ¬ x = i := fun e => hm (hhere.1 e)
              have te : ((x : Int) == (i : Int)) = false := beq_eq_false_iff_ne.2 (by omega)
              have t2 : ((o : Int) != (la : Int)) = false := srt_cast_eqW (by omega)
              have t0 : ((o : Int) == 0) = false := beq_eq_false_iff_ne.2 (by omega)
              clear hw1 hw2 hol ho0 hhere hm hxi
              go_wp2_with (go_at_call 9; refine (hks _).mono ?_; rintro e w9 ⟨rfl, rfl⟩)
              go_roundg (s.size - (i + 1))
              case measure => omega
              case rel => exact ⟨i + 1, k, rfl, by omega, by go_num, rfl, by rw [HL1.out], HN.out, hsm⟩
      · obtain rfl : i = s.size := by omega
        go_wp2_with fail
        go_ret
        exact ⟨rfl, Same.below hsm HB3.out HB3.out.size⟩
  · have t500 : (500 : Int) < (s.size : Int) := by omega
    go_wp2_with fail
    refine (HLL.out w1 b v D s (by omega) hs HM1.out.st).mono ?_
    rintro e w2 ⟨rfl, hb2⟩
    have hB2 : Below w.heap.size w w2 := hb1.trans (hb2.mono hz1)
    have hnil := fun W : World => run_eql_nil_slice (P := Tryd.prog) W 22 3 none 0 0 0 0 Tryd.underlying22
    go_wp2
    go_ret
    exact ⟨rfl, hB2⟩

end Go.Proofs.YtlfpepehngkehabDoor
