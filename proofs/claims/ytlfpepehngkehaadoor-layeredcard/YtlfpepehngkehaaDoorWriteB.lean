/-
  Walks: an image as it is written: words, the last byte, the whole.
-/
import Derived.Test.YtlfpepehngkehaaDoorWriteA
import Derived.Test.YtlfpepehngkehaaDoorBuildA
import Derived.Deep.DeepCutAuto
namespace Go.Proofs.YtlfpepehngkehaaDoor
set_option linter.unusedSimpArgs false
set_option linter.unusedVariables false
open Go.RowKit

theorem WrAt.same {w w' : World} {b : Nat} {v : Value} {L : List UInt8} (h : WrAt w b v L) (hs : Kept w w' (fun _ => False)) : WrAt w' b v L :=
  ⟨(Kept.cell hs (p := ⟨b, 0, none⟩) (cell_lt h.cell) id).trans h.cell, (Kept.frozen hs (p := ⟨b, 0, none⟩) (cell_lt h.cell) id).trans h.frz, Kept.row h.own hs fun _ _ e => e⟩

theorem WrAt.below_same {w w' : World} {b : Nat} {v : Value} {L : List UInt8} (h : WrAt w b v L) (hs : Kept w w' (fun _ => False)) : Below b w w' :=
  Kept.below hs (by have := cell_lt h.cell; omega) (fun _ e => e.elim)

theorem enc_begin (D : Dic) : ([] : List UInt8) ++ (ByteArray.mk #[87, 67]).toList ++ twoL D.length = encTo D 0 := by rw [ByteArray.toList_eq]; rfl

theorem enc_word (L : List UInt8) (p x : ByteArray) (c n : Nat) (hn : n = lcpL p.toList x.toList) :
    L ++ [UInt8.ofNat n] ++ [UInt8.ofNat (x.size - n)] ++ (x.extract n x.size).toList ++ twoL c = L ++ encE p.toList x.toList c := by
  rw [encE_parts, ← hn, toList_length, toList_extract]
  have e : (x.toList.drop n).take (x.size - n) = x.toList.drop n := by rw [List.take_of_length_le]; simp [toList_length]
  rw [e]
  simp only [List.append_assoc]

set_option maxHeartbeats 2000000 in
set_option maxRecDepth 20000 in
theorem putWord_any (w : World) (b : Nat) (v : Value) (L : List UInt8) (p x : ByteArray) (c : Nat) (hp : p.size ≤ 255) (hx : x.size ≤ 255) (hc : c < 65536) (hl : L.length ≤ 800000) (hW : WrAt w b v L) :
    Calls Tryd.prog 48 #[.pointer (some ⟨b, 0, none⟩), .string p, .string x, .int .i64 c] w fun e w' => e = .returned (.tuple #[]) ∧ WrRes w w' b (L ++ encE p.toList x.toList c) := by
  obtain ⟨n, hn⟩ : ∃ n, n = lcpL p.toList x.toList := ⟨_, rfl⟩
  have hle := lcpL_le p.toList x.toList
  rw [← hn, toList_length, toList_length] at hle
  obtain ⟨hnp, hnx⟩ := hle
  have HE : Hid _ := enc_word L p x c n hn
  have hin : ∀ w, Calls Tryd.prog 62 #[.string p, .string x] w fun e w' => e = .returned (.int .i64 n) ∧ Same w w' := fun w => by rw [hn]; exact inCommon_any w p x (by omega) (by omega)
  have HW : Hid (WrAt w b v L) := hW
  clear hn hW
  obtain ⟨m, hm⟩ : ∃ m, m = x.size - n := ⟨_, rfl⟩
  have hm' : (x.size : Int) - (n : Int) = (m : Int) := by omega
  obtain ⟨r, hr⟩ : ∃ r, r = x.extract n x.size := ⟨_, rfl⟩
  have hrs : r.size = m := by rw [hr]; simp; omega
  rw [← hm, ← hr] at HE
  go_enter Tryd.func48, Tryd.ntmps48
  go_wp2_with fail
  refine (hin w).mono ?_
  rintro e w1 ⟨rfl, hs1⟩
  clear hin
  have hW1 : WrAt w1 b v L := HW.out.same hs1
  have hb1 : Below b w w1 := HW.out.below_same hs1
  clear hs1
  go_wp2_with fail
  refine (putByte_any w1 b v L n (by omega) (by omega) hW1).mono ?_
  rintro e w2 ⟨rfl, v2, hW2, hb2⟩
  have hB2 := hb1.trans hb2
  clear hW1 hb1 hb2
  go_wp2_with fail
  rw [← hm]
  refine (putByte_any w2 b v2 _ m (by omega) (by simp; omega) hW2).mono ?_
  rintro e w3 ⟨rfl, v3, hW3, hb3⟩
  have hB3 := hB2.trans hb3
  clear hW2 hB2 hb3
  go_wp2_with fail
  rw [← hr]
  refine (putText_any w3 b v3 _ r (by omega) (by simp; omega) hW3).mono ?_
  rintro e w4 ⟨rfl, v4, hW4, hb4⟩
  have hB4 := hB3.trans hb4
  clear hW3 hB3 hb4
  go_wp2_with fail
  refine (putNumber_any w4 b v4 _ c hc (by simp [toList_length]; omega) hW4).mono ?_
  rintro e w5 ⟨rfl, hr5⟩
  have HR : Hid _ := hr5.trans hB4
  clear hW4 hB4 hr5
  go_wp2
  go_end0
  exact ⟨rfl, by rw [← HE.out]; exact HR.out⟩

theorem own_byte {w : World} {B g cap n : Nat} {t : TypeId} {L : List UInt8} (h : w.ownsRow B t 1 (.slice (some ⟨g, 0, none⟩) n cap) n (bCells L)) {k : Nat} (hn : n = L.length) (hk : k < L.length) :
    w.cell? ⟨g, k, none⟩ = some (.int .u8 (L[k].toNat : Int)) := by
  rw [h.cellAt k (by omega), bCells_at L k hk]

set_option maxHeartbeats 2000000 in
set_option maxRecDepth 20000 in
theorem seal_any (w : World) (b : Nat) (v : Value) (L : List UInt8) (hl : L.length ≤ 900000) (hW : WrAt w b v L) :
    Calls Tryd.prog 49 #[.pointer (some ⟨b, 0, none⟩)] w fun e w' => e = .returned (.tuple #[]) ∧ WrRes w w' b (L ++ [sumL L]) := by
  have HW : Hid (WrAt w b v L) := hW
  obtain ⟨hcell, hfrz, hown⟩ := hW
  obtain ⟨a, cap, rfl, ha⟩ := row_form hown
  have HA : Hid (L.length ≠ 0 → ∃ g, a = some ⟨g, 0, none⟩) := ha
  have HO : Hid (w.ownsRow (b + 1) 5 1 (.slice a L.length cap) L.length (bCells L)) := hown
  clear ha hown
  go_enter Tryd.func49, Tryd.ntmps49
  go_wp2_with fail
  go_loop [2, 10] (fun m j => ∃ i : Nat, i ≤ L.length ∧ j = .int .i64 i ∧ m = .int .i64 (totL (L.take i))) (fun _ j => L.length - (intOf j).toNat)
  case atStart => exact ⟨0, by omega, rfl, rfl⟩
  case round =>
    obtain ⟨i, hi, rfl, rfl⟩ := hrel
    by_cases hlt : i < L.length
    · obtain ⟨g, hg⟩ := HA.out (by omega)
      subst hg
      have hc := own_byte HO.out rfl hlt
      have ht := totL_take L i hlt
      have hlim := totL_le (L.take (i + 1))
      have hll : (L.take (i + 1)).length ≤ L.length := by simp; omega
      obtain ⟨t, htt⟩ : ∃ t, t = totL (L.take i) := ⟨_, rfl⟩
      obtain ⟨d, hd⟩ : ∃ d, d = L[i].toNat := ⟨_, rfl⟩
      rw [← htt, ← hd] at ht
      rw [← hd] at hc
      rw [← htt]
      have hd2 : d < 256 := by have := L[i].toNat_lt; omega
      have htd : t + d ≤ 300000000 := by omega
      have HT : Hid (totL (L.take (i + 1)) = t + d) := ht
      clear ht hlim hll htt hd
      go_wp2
      go_round
      case rel => exact ⟨i + 1, by omega, by go_num, by rw [HT.out]; go_num⟩
      case measure => simp [intOf]; omega
    · obtain rfl : i = L.length := by omega
      rw [List.take_length]
      have hlim := totL_le L
      obtain ⟨t, ht⟩ : ∃ t, t = totL L := ⟨_, rfl⟩
      rw [← ht] at hlim
      obtain ⟨q1, hq1⟩ : ∃ q1, q1 = t % 256 := ⟨_, rfl⟩
      obtain ⟨q2, hq2⟩ : ∃ q2, q2 = (256 - q1) % 256 := ⟨_, rfl⟩
      have HS : Hid (sumL L = UInt8.ofNat q2) := by show _ = _; rw [sumL_tot, ← ht, ← hq1, ← hq2]
      have e1 : Int.tmod (t : Int) 256 = (q1 : Int) := by rw [hq1, Int.tmod_eq_emod_of_nonneg (by omega)]; omega
      have e2 : Int.tmod (256 - (q1 : Int)) 256 = (q2 : Int) := by rw [hq2, Int.tmod_eq_emod_of_nonneg (by omega)]; omega
      have e1' : (t : Int) % 256 = (q1 : Int) := by omega
      have e2' : (256 - (q1 : Int)) % 256 = (q2 : Int) := by omega
      have hb1 : q1 < 256 := by omega
      have hb2 : q2 < 256 := by omega
      rw [← ht]
      clear hq1 hq2 ht
      go_wp2_with fail
      refine (putByte_any w b _ L q2 hb2 (by omega) HW.out).mono ?_
      rintro e w1 ⟨rfl, hr⟩
      have HR : Hid _ := hr
      clear hr
      go_wp2
      go_end0
      exact ⟨rfl, by rw [HS.out]; exact HR.out⟩

set_option maxHeartbeats 2000000 in
set_option maxRecDepth 20000 in
theorem at_any (w : World) (b : Nat) (v : Value) (D : Dic) (i : Nat) (hi : i < D.length) (hlen : D.length ≤ 100000) (hS : SetAt w 95 b v D) :
    Calls Tryd.prog 47 #[.pointer (some ⟨b, 0, none⟩), .int .i64 i] w fun e w' => e = .returned (.tuple #[.string D[i].1, .int .i64 D[i].2]) ∧ Same w w' := by
  have hsh := hS.shape
  obtain ⟨hcell, hfrz, hown, -⟩ := hS
  rcases hsh with ⟨rfl, rfl⟩ | ⟨g, cap, rfl, hbg, hcap, hmax, hgs⟩
  · simp at hi
  · obtain ⟨hc0, hc1⟩ := own_pair hown rfl hi
    obtain ⟨q, hq⟩ : ∃ q, q = D[i] := ⟨_, rfl⟩
    rw [← hq] at hc0 hc1 ⊢
    have hi0 : ¬ (i : Int) < 0 := by omega
    have hi1 : ¬ (D.length : Int) ≤ (i : Int) := by omega
    clear hbg hq hown
    go_enter Tryd.func47, Tryd.ntmps47
    go_wp2_with fail
    go_region
    all_goals
      go_wp2
      go_ret2
      exact ⟨rfl, Kept.drew (Same.refl _)⟩

theorem image_bytes (w : World) (t : TypeId) (B g cap : Nat) (L : List UInt8) (h : w.ownsRow B t 1 (.slice (some ⟨g, 0, none⟩) L.length cap) L.length (bCells L)) :
    (convert 42 9 (.slice (some ⟨g, 0, none⟩) L.length cap)).run Tryd.prog w = .ok (.string ⟨L.toArray⟩) w := by
  refine run_convert_bytes_back (P := Tryd.prog) _ 42 9 5 ⟨g, 0, none⟩ cap L Tryd.underlying42 Tryd.underlying5 Tryd.underlying9 (fun j hj => ?_)
  have e : (⟨g, 0, none⟩ : Addr).add j = ⟨g, j, none⟩ := by simp [Addr.add]; try omega
  rw [e]
  exact own_byte h rfl hj

def WrLoop (w : World) (D : Dic) (g : Nat) (av iv : Value) (wr : World) : Prop :=
  ∃ (i : Nat) (p : ByteArray) (v : Value), i ≤ D.length ∧ g = D.length - i ∧ iv = .int .i64 i ∧ av = .string p ∧ p.toList = prevW D i ∧ p.size ≤ 12 ∧ WrAt wr w.heap.size v (encTo D i) ∧ Below w.heap.size w wr

set_option maxHeartbeats 4000000 in
set_option maxRecDepth 20000 in
theorem write_any (w : World) (b : Nat) (v : Value) (D : Dic) (hS : SetAt w 95 b v D) (hD : D.length ≤ 150) (hw : ∀ p ∈ D, p.1.size ≤ 12 ∧ p.2 ≤ 1000) :
    Calls Tryd.prog 34 #[.pointer (some ⟨b, 0, none⟩)] w fun e w' => ∃ S : ByteArray, e = .returned (.string S) ∧ S.toList = imageL D ∧ Below w.heap.size w w' := by
  have HS : Hid (SetAt w 95 b v D) := hS
  have HW : Hid (∀ p ∈ D, p.1.size ≤ 12 ∧ p.2 ≤ 1000) := hw
  clear hS hw
  go_enter Tryd.func34, Tryd.ntmps34
  go_wp2_with fail
  refine (size_any _ b v D (HS.out.alloc _)).mono ?_
  rintro e w1 ⟨rfl, rfl⟩
  obtain ⟨w1, hw1⟩ : ∃ w1, w1 = w.alloc (.cells #[.slice none 0 0] 81) := ⟨_, rfl⟩
  have hW1 : WrAt w1 w.heap.size (.slice none 0 0) [] := by
    rw [hw1]
    exact ⟨by simp, by simp, World.ownsRow_nil _ _ _ _⟩
  have hb1 : Below w.heap.size w w1 := by rw [hw1]; exact (Below.refl _ _).alloc (Nat.le_refl _) _
  rw [← hw1]
  clear hw1
  go_wp2_with fail
  refine (putText_any w1 w.heap.size _ [] ⟨#[87, 67]⟩ (by decide) (by simp) hW1).mono ?_
  rintro e w2 ⟨rfl, v2, hW2, hb2⟩
  have hB2 := hb1.trans hb2
  clear hW1 hb1 hb2
  go_wp2_with fail
  refine (putNumber_any w2 w.heap.size v2 _ D.length (by omega) (by simp [ByteArray.toList_eq]) hW2).mono ?_
  rintro e w3 ⟨rfl, v3, hW3, hb3⟩
  have HW3 : Hid (WrAt w3 w.heap.size v3 (encTo D 0)) := by rw [enc_begin] at hW3; exact hW3
  have HB3 : Hid (Below w.heap.size w w3) := hB2.trans hb3
  clear hW2 hB2 hb3 hW3
  go_wp2_with fail
  go_loopg [5, 6] D.length (fun g av iv wr => WrLoop w D g av iv wr)
  case atStart => exact ⟨0, ByteArray.empty, v3, by omega, rfl, rfl, rfl, by simp [prevW, ByteArray.toList_eq], by decide, HW3.out, HB3.out⟩
  case round =>
    obtain ⟨i, p, v4, hi, rfl, rfl, rfl, hp, hps, hW4, hb4⟩ := hrel
    have HP : Hid (p.toList = prevW D i) := hp
    have HW4 : Hid (WrAt wr w.heap.size v4 (encTo D i)) := hW4
    have HL : Hid ((encTo D i).length ≤ 4 + i * 16) := encTo_length (fun q hq => (HW.out q hq).1) i hi
    clear hp hW4
    by_cases hlt : i < D.length
    · obtain ⟨hqs, hqc⟩ := HW.out D[i] (List.getElem_mem hlt)
      have HN : Hid (encTo D (i + 1) = encTo D i ++ encE p.toList D[i].1.toList D[i].2) := by show _ = _; rw [encTo_next hlt, HP.out]
      have HV : Hid (D[i].1.toList = prevW D (i + 1)) := (prevW_next hlt).symm
      have hat := at_any wr b v D i hlt (by omega) (HS.out.below hb4)
      obtain ⟨q, hq⟩ : ∃ q, q = D[i] := ⟨_, rfl⟩
      rw [← hq] at hqs hqc HN HV hat
      clear hq
      go_wp2_with fail
      refine hat.mono ?_
      rintro e w5 ⟨rfl, hs5⟩
      clear hat
      have hW5 : WrAt w5 w.heap.size v4 (encTo D i) := HW4.out.same hs5
      have hb5 : Below w.heap.size w w5 := hb4.trans (HW4.out.below_same hs5)
      clear hs5
      go_wp2_with fail
      refine (putWord_any w5 w.heap.size v4 (encTo D i) p q.1 q.2 (by omega) (by omega) (by omega) (by have := HL.out; omega) hW5).mono ?_
      rintro e w6 ⟨rfl, v6, hW6, hb6⟩
      have HW6 : Hid (WrAt w6 w.heap.size v6 (encTo D (i + 1))) := by show WrAt _ _ _ _; rw [HN.out]; exact hW6
      have HB6 : Hid (Below w.heap.size w w6) := hb5.trans hb6
      clear hW5 hb5 hW6 hb6
      go_wp2
      go_roundg (D.length - (i + 1))
      case measure => omega
      case rel => exact ⟨i + 1, q.1, v6, by omega, rfl, by go_num, rfl, HV.out, hqs, HW6.out, HB6.out⟩
    · obtain rfl : i = D.length := by omega
      go_wp2_with fail
      refine (seal_any wr w.heap.size v4 _ (by have := HL.out; omega) HW4.out).mono ?_
      rintro e w5 ⟨rfl, v5, hW5, hb5⟩
      have hc5 := hW5.cell
      obtain ⟨a5, cap5, rfl, ha5⟩ := row_form hW5.own
      obtain ⟨g5, rfl⟩ := ha5 (by simp)
      have hcv := image_bytes w5 _ _ g5 cap5 _ hW5.own
      have HI : Hid ((⟨(encTo D D.length ++ [sumL (encTo D D.length)]).toArray⟩ : ByteArray).toList = imageL D) := by show _ = _; rw [ByteArray.toList_eq]; rfl
      have HB5 : Hid (Below w.heap.size w w5) := hb4.trans hb5
      obtain ⟨M, hM⟩ : ∃ M, M = encTo D D.length ++ [sumL (encTo D D.length)] := ⟨_, rfl⟩
      rw [← hM] at hc5 hcv HI
      clear hM hW5 hb5 ha5
      go_wp2
      go_ret
      exact ⟨_, rfl, HI.out, HB5.out⟩

end Go.Proofs.YtlfpepehngkehaaDoor
