/-
  Walks: the keep statements' entries and lists.
-/
import Derived.Test.YtlfpepehngkehabDoorKeepB
import Derived.Lib.ItoaNum
namespace Go.Proofs.YtlfpepehngkehabDoor
set_option linter.unusedSimpArgs false
set_option linter.unusedVariables false
open Go.RowKit

/-- a cost's digits are written by the library, in every world that the call can come to. -/
def ItoaIn (b0 : Nat) (w0 : World) : Prop := ∀ (w : World) (n : Nat), Below b0 w0 w → n ≤ 1000 → Calls Tryd.prog 43 #[.int .i64 n] w fun e w' => e = .returned (.string ⟨(Lib.decDigits n).toArray⟩) ∧ Below w.heap.size w w'

def entOut (d : Int) : Prop := pk d 1099511627776 % 8 = 7
instance (d : Int) : Decidable (entOut d) := inferInstanceAs (Decidable (_ = _))
def entN (d : Int) : Nat := if 1000 < pk d 1099511627776 / 8 % 60 * 17 then 1000 else pk d 1099511627776 / 8 % 60 * 17
def entCost (d : Int) : Int := if entOut d then -1 else (entN d : Int)
def numB (n : Nat) : ByteArray := ⟨(Lib.decDigits n).toArray⟩
def bang : ByteArray := ⟨#[33]⟩
def equs : ByteArray := ⟨#[61]⟩
def comm : ByteArray := ⟨#[44]⟩
def entText (c d : Int) : ByteArray := if entOut d then wordOf c ++ bang else wordOf c ++ equs ++ numB (entN d)

theorem entN_le (d : Int) : entN d ≤ 1000 := by unfold entN; split <;> omega

theorem decDigits_len {n : Nat} (h : n ≤ 9999) : (Lib.decDigits n).length ≤ 4 := by
  rw [Lib.decDigits]
  split
  · simp
  · rw [Lib.decDigits]
    split
    · simp
    · rw [Lib.decDigits]
      split
      · simp
      · rw [Lib.decDigits]
        rw [dif_pos (by omega)]
        simp

theorem numB_size {n : Nat} (h : n ≤ 1000) : (numB n).size ≤ 4 := by
  have := decDigits_len (n := n) (by omega)
  simp only [numB, ByteArray.size, List.size_toArray]
  exact this

theorem wordOf_size (c : Int) : (wordOf c).size ≤ 4 := by unfold wordOf; rw [wordV_size]; exact (wlen_le _).2

theorem PutRes.behind {w w1 w2 : World} {B : Nat} {T : Tab} {Wv Cv : Value} (hs : Same w w1) (h : PutRes w1 w2 B T Wv Cv) : PutRes w w2 B T Wv Cv := by
  obtain ⟨Wv', Cv', h1, h2, h3, h4⟩ := h
  have := hs.size
  refine ⟨Wv', Cv', h1, Kept.trans (Kept.mono hs fun _ e => e.elim) h2 fun k e => .inl e, fun k e => ?_, fun k e => ?_⟩
  · rcases h3 k e with h | h
    · exact .inl h
    · exact .inr (by omega)
  · rcases h4 k e with h | h
    · exact .inl h
    · exact .inr (by omega)

theorem PutRes.ahead {w w1 w2 : World} {B : Nat} {T : Tab} {Wv Cv : Value} (h : PutRes w w1 B T Wv Cv) (hs : Same w1 w2) : PutRes w w2 B T Wv Cv := by
  obtain ⟨Wv', Cv', h1, h2, h3, h4⟩ := h
  exact ⟨Wv', Cv', h1.same hs, Kept.trans h2 hs fun _ e => e.elim, h3, h4⟩

theorem PutRes.below {w0 w w1 : World} {b0 B : Nat} {T T' : Tab} {Wv Cv : Value} (h : PutRes w w1 B T' Wv Cv) (hT : TabAt w B T Wv Cv) (hb : Below b0 w0 w) (hB : b0 ≤ B) : Below b0 w0 w1 := by
  obtain ⟨Wv', Cv', h1, h2, h3, h4⟩ := h
  have hBl : B < w.heap.size := cell_lt hT.c0
  refine hb.trans (Kept.below h2 (by omega) fun k e => ?_)
  rcases e with e | e | e
  · omega
  · have := (hT.ow.lt k e).1; omega
  · have := (hT.oc.lt k e).1; omega

def EntEnd (w w' : World) (B : Nat) (T : Tab) (Wv Cv : Value) (c d : Int) (e : Ending) : Prop := e = .returned (.string (entText c d)) ∧ PutRes w w' B (tput T (wordOf c) (entCost d)) Wv Cv

set_option maxHeartbeats 2000000 in
theorem entry_any (w0 w : World) (b0 B : Nat) (T : Tab) (Wv Cv : Value) (HI : ItoaIn b0 w0) (hbel : Below b0 w0 w) (hbB : b0 ≤ B) (hB : TabAt w B T Wv Cv) (hT : T.length ≤ 900) (c d : Int)
    (hc0 : -9223372036854775808 ≤ c) (hc1 : c ≤ 9223372036854775807) (hd0 : -9223372036854775808 ≤ d) (hd1 : d ≤ 9223372036854775807) :
    Calls Tryd.prog 27 #[.pointer (some ⟨B, 0, none⟩), .int .i64 c, .int .i64 d] w fun e w' => EntEnd w w' B T Wv Cv c d e := by
  have hv := pk_lt d (n := 1099511627776) (by omega)
  obtain ⟨v, hvd⟩ : ∃ v, v = pk d 1099511627776 := ⟨_, rfl⟩
  have HV : Hid (v = pk d 1099511627776) := hvd
  rw [← hvd] at hv
  obtain ⟨v8, hv8⟩ : ∃ v8, v8 = v % 8 := ⟨_, rfl⟩
  obtain ⟨q8, hq8⟩ : ∃ q8, q8 = v / 8 := ⟨_, rfl⟩
  obtain ⟨q60, hq60⟩ : ∃ q60, q60 = q8 % 60 := ⟨_, rfl⟩
  obtain ⟨m, hm⟩ : ∃ m, m = q60 * 17 := ⟨_, rfl⟩
  have t8 : Int.tmod (v : Int) 8 = (v8 : Int) := by rw [Int.tmod_eq_emod_of_nonneg (by omega)]; omega
  have d8 : Int.tdiv (v : Int) 8 = (q8 : Int) := by rw [Int.tdiv_eq_ediv_of_nonneg (by omega)]; omega
  have t60 : Int.tmod (q8 : Int) 60 = (q60 : Int) := by rw [Int.tmod_eq_emod_of_nonneg (by omega)]; omega
  have m17 : (q60 : Int) * 17 = (m : Int) := by omega
  have w1 : IntKind.i64.wrap (v8 : Int) = (v8 : Int) := by rw [IntKind.wrap_i64]; omega
  have w2 : IntKind.i64.wrap (q8 : Int) = (q8 : Int) := by rw [IntKind.wrap_i64]; omega
  have w3 : IntKind.i64.wrap (q60 : Int) = (q60 : Int) := by rw [IntKind.wrap_i64]; omega
  have w4 : IntKind.i64.wrap (m : Int) = (m : Int) := by rw [IntKind.wrap_i64]; omega
  have HO : Hid (entOut d ↔ v8 = 7) := by show entOut d ↔ v8 = 7; unfold entOut; rw [← hvd, ← hv8]
  have HN : Hid (entN d = if 1000 < m then 1000 else m) := by show _ = _; unfold entN; rw [← hvd, ← hq8, ← hq60, ← hm]
  obtain ⟨x, hx⟩ : ∃ x, x = wordOf c := ⟨_, rfl⟩
  have hxs : x.size ≤ 4 := by rw [hx]; exact wordOf_size c
  have HX : Hid (x = wordOf c) := hx
  have HB : Hid (TabAt w B T Wv Cv) := hB
  have HIT : Hid (ItoaIn b0 w0) := HI
  have HBEL : Hid (Below b0 w0 w) := hbel
  have hT' : T.length ≤ 1000 := by omega
  clear hB HI hbel hvd hv8 hq8 hq60 hm hx
  have l1 : ¬ 9223372036854775807 < x.size + 1 := by omega
  by_cases ho : v8 = 7
  · have e7 : ((v8 : Int) == 7) = true := by rw [ho]; rfl
    have HT1 : Hid (entText c d = x ++ bang) := by show _ = _; unfold entText; rw [if_pos (HO.out.2 ho), HX.out]
    have HT2 : Hid (entCost d = -1) := by show _ = _; unfold entCost; rw [if_pos (HO.out.2 ho)]
    clear ho
    go_enter Tryd.func27, Tryd.ntmps27
    go_wp2_with fail
    refine (word_any c w hc0 hc1).mono ?_
    rintro e wa ⟨rfl, hba⟩
    rw [← HX.out]
    have HSA : Hid (Same w wa) := Kept.of_below hba (fun _ => False)
    clear hba
    go_wp2_with fail
    refine (keepPick_any d 1099511627776 wa hd0 hd1 (by decide) (by decide)).mono ?_
    rintro e wa ⟨rfl, rfl⟩
    rw [← HV.out]
    go_wp2_with fail
    refine (tput_any wa B T Wv Cv (HB.out.same HSA.out) hT' x (-1)).mono ?_
    rintro e wb ⟨rfl, hput⟩
    have HP : Hid (PutRes w wb B (tput T (wordOf c) (entCost d)) Wv Cv) := by show PutRes _ _ _ _ _ _; rw [HT2.out, ← HX.out]; exact hput.behind HSA.out
    clear hput
    go_wp2_with fail
    go_ret
    exact ⟨by rw [HT1.out]; rfl, HP.out⟩
  · have e7 : ((v8 : Int) == 7) = false := by rw [beq_eq_false_iff_ne]; omega
    have hnl := entN_le d
    obtain ⟨n, hn⟩ : ∃ n, n = entN d := ⟨_, rfl⟩
    rw [← hn] at hnl
    have HNN : Hid (n = entN d) := hn
    obtain ⟨S, hS⟩ : ∃ S, S = numB n := ⟨_, rfl⟩
    have hSs : S.size ≤ 4 := by rw [hS]; exact numB_size hnl
    have HS : Hid (S = numB n) := hS
    have HT1 : Hid (entText c d = x ++ equs ++ S) := by show _ = _; unfold entText; rw [if_neg (fun h => ho (HO.out.1 h)), HX.out, hS, hn]
    have HT2 : Hid (entCost d = (n : Int)) := by show _ = _; unfold entCost; rw [if_neg (fun h => ho (HO.out.1 h)), hn]
    have l2 : ¬ 9223372036854775807 < x.size + 1 + S.size := by omega
    have hcase : (1000 < m ∧ n = 1000) ∨ (¬ 1000 < m ∧ n = m) := by
      rw [hn, HN.out]
      by_cases e : 1000 < m
      · exact .inl ⟨e, if_pos e⟩
      · exact .inr ⟨e, if_neg e⟩
    clear ho hn hS
    rcases hcase with ⟨hm1, rfl⟩ | ⟨hm1, rfl⟩
    · have hm2 : (1000 : Int) < (m : Int) := by omega
      go_enter Tryd.func27, Tryd.ntmps27
      go_wp2_with fail
      refine (word_any c w hc0 hc1).mono ?_
      rintro e wa ⟨rfl, hba⟩
      rw [← HX.out]
      have HSA : Hid (Same w wa) := Kept.of_below hba (fun _ => False)
      clear hba
      go_wp2_with fail
      refine (keepPick_any d 1099511627776 wa hd0 hd1 (by decide) (by decide)).mono ?_
      rintro e wa ⟨rfl, rfl⟩
      rw [← HV.out]
      go_wp2_with fail
      refine (tput_any wa B T Wv Cv (HB.out.same HSA.out) hT' x 1000).mono ?_
      rintro e wb ⟨rfl, hput⟩
      have hput := hput.behind HSA.out
      have HBB : Hid (Below b0 w0 wb) := hput.below HB.out HBEL.out hbB
      have HP : Hid (PutRes w wb B (tput T (wordOf c) (entCost d)) Wv Cv) := by show PutRes _ _ _ _ _ _; rw [HT2.out, ← HX.out]; exact hput
      clear hput
      go_wp2_with fail
      refine (HIT.out wb 1000 HBB.out hnl).mono ?_
      rintro e wc ⟨rfl, hbc⟩
      have HSC : Hid (Same wb wc) := Kept.of_below hbc (fun _ => False)
      clear hbc
      rw [show (⟨(Lib.decDigits 1000).toArray⟩ : ByteArray) = S from HS.out.symm]
      go_wp2_with fail
      go_ret
      exact ⟨by rw [HT1.out]; rfl, HP.out.ahead HSC.out⟩
    · have hm2 : ¬ (1000 : Int) < (n : Int) := by omega
      go_enter Tryd.func27, Tryd.ntmps27
      go_wp2_with fail
      refine (word_any c w hc0 hc1).mono ?_
      rintro e wa ⟨rfl, hba⟩
      rw [← HX.out]
      have HSA : Hid (Same w wa) := Kept.of_below hba (fun _ => False)
      clear hba
      go_wp2_with fail
      refine (keepPick_any d 1099511627776 wa hd0 hd1 (by decide) (by decide)).mono ?_
      rintro e wa ⟨rfl, rfl⟩
      rw [← HV.out]
      go_wp2_with fail
      refine (tput_any wa B T Wv Cv (HB.out.same HSA.out) hT' x n).mono ?_
      rintro e wb ⟨rfl, hput⟩
      have hput := hput.behind HSA.out
      have HBB : Hid (Below b0 w0 wb) := hput.below HB.out HBEL.out hbB
      have HP : Hid (PutRes w wb B (tput T (wordOf c) (entCost d)) Wv Cv) := by show PutRes _ _ _ _ _ _; rw [HT2.out, ← HX.out]; exact hput
      clear hput
      go_wp2_with fail
      refine (HIT.out wb n HBB.out hnl).mono ?_
      rintro e wc ⟨rfl, hbc⟩
      have HSC : Hid (Same wb wc) := Kept.of_below hbc (fun _ => False)
      clear hbc
      rw [show (⟨(Lib.decDigits n).toArray⟩ : ByteArray) = S from HS.out.symm]
      go_wp2_with fail
      go_ret
      exact ⟨by rw [HT1.out]; rfl, HP.out.ahead HSC.out⟩

end Go.Proofs.YtlfpepehngkehabDoor
