/-
  Walks: Round.
-/
import Derived.Test.YtlfpepehngkehaaDoorLayW
import Derived.Test.YtlfpepehngkehaaDoorKeepT
import Derived.Test.YtlfpepehngkehaaDoorMaths
import Derived.Test.YtlfpepehngkehaaDoorBytesW
namespace Go.Proofs.YtlfpepehngkehaaDoor
set_option linter.unusedSimpArgs false
set_option linter.unusedVariables false
open Go.RowKit

theorem load_no (w : World) (s : ByteArray) (hs : s.size ≤ 1048576) (hN : LoadNo s) :
    Calls Tryd.prog 17 #[.string s] w fun e w' => e = .returned (.tuple #[.pointer none, .int .i64 5]) ∧ Below w.heap.size w w' := by
  refine (load_any w s hs).mono ?_
  rintro e w' ⟨h, hb⟩
  rcases h with ⟨rfl, _⟩ | ⟨b, v, D, _, hY, _⟩
  · exact ⟨rfl, hb⟩
  · exact absurd hY.2 (hN D hY.1)

def GotDict (w' : World) (D : Dic) (e : Ending) : Prop := ∃ b v, e = .returned (.tuple #[.pointer (some ⟨b, 0, none⟩), .int .i64 0]) ∧ SetAt w' 95 b v D

theorem load_yes (w : World) (s : ByteArray) (D : Dic) (hs : s.size ≤ 1048576) (hY : LoadYes s D) :
    Calls Tryd.prog 17 #[.string s] w fun e w' => GotDict w' D e ∧ Below w.heap.size w w' := by
  refine (load_any w s hs).mono ?_
  rintro e w' ⟨h, hb⟩
  rcases h with ⟨_, hN⟩ | ⟨b, v, D', rfl, hY', hS, _⟩
  · exact absurd hY.2 (hN D hY.1)
  · obtain rfl := hY.unique hY'
    exact ⟨⟨b, v, rfl, hS⟩, hb⟩

theorem turnL_length (s : ByteArray) (k d : Nat) : (turnL s k d).length = s.size := by simp [turnL, toList_length]

/-- the byte is turned. -/
def TurnRel (w w6 : World) (g : Nat) (S : ByteArray) (k d : Nat) (wx : World) : Prop := BytesAt wx g (turnL S k d) ∧ Below w.heap.size w wx ∧ w6.heap.size ≤ wx.heap.size

theorem turn_num (x m : Nat) (hx : x < 256) (hm : m < 255) : IntKind.u8.wrap ((x : Int) + IntKind.u8.wrap (IntKind.i64.wrap (1 + (m : Int)))) = (((x + (m + 1)) % 256 : Nat) : Int) := by
  have e1 : IntKind.i64.wrap (1 + (m : Int)) = 1 + m := by rw [IntKind.wrap_i64]; omega
  have e2 : IntKind.u8.wrap (1 + (m : Int)) = 1 + m := by rw [IntKind.wrap_u8]; omega
  rw [e1, e2, IntKind.wrap_u8]
  omega

theorem turn_rel {w w6 w7 w8 : World} {S : ByteArray} {k d : Nat} {z : Int} (hB : BytesAt w7 w6.heap.size S.toList) (hb : Below w.heap.size w w7) (hz : w.heap.size ≤ w6.heap.size) (h7 : w7.heap.size = w6.heap.size + 1) (hk : k < S.size) (he : z = (((bt S k + d) % 256 : Nat) : Int))
    (h8 : Same (w7.setCell ⟨w6.heap.size, k, none⟩ (.int .u8 z)) w8) : TurnRel w w6 w6.heap.size S k d w8 := by
  have hs := hB.set (k := k) (by rw [toList_length]; exact hk) (UInt8.ofNat ((bt S k + d) % 256))
  rw [u8_of (Nat.mod_lt _ (by omega))] at hs
  rw [he] at h8
  have hz2 : (w7.setCell ⟨w6.heap.size, k, none⟩ (.int .u8 (((bt S k + d) % 256 : Nat) : Int))).heap.size = w7.heap.size := by simp [World.setCell]
  refine ⟨hs.kept h8 (by rw [hz2]; omega) id, ?_, ?_⟩
  · exact Same.below h8 (hb.trans (((Kept.refl w7 (fun j => j = w6.heap.size)).setCell ⟨w6.heap.size, k, none⟩ _ (.inl rfl)).below (by omega) (fun j e => by omega))) (by rw [hz2]; omega)
  · have := h8.size; omega

set_option maxHeartbeats 4000000 in
set_option maxRecDepth 20000 in
theorem round_walk (HC : CutOk) (w : World) (ap ap2 : Option Addr) (cp cp2 : Nat) (raw letters : List Int) (ca cb : Int) (HI : ItoaIn w.heap.size w) (hR : IntsAt w ap raw) (hlen : raw.length ≤ 9223372036854775807)
    (hR2 : IntsAt w ap2 letters) (hlen2 : letters.length ≤ 9223372036854775807) (ha0 : -9223372036854775808 ≤ ca) (ha1 : ca ≤ 9223372036854775807) (hb0 : -9223372036854775808 ≤ cb) (hb1' : cb ≤ 9223372036854775807) :
    Calls Tryd.prog 5 #[.slice ap raw.length cp, .slice ap2 letters.length cp2, .int .i64 ca, .int .i64 cb] w fun e w' => e = .returned (.bool true) ∧ Below w.heap.size w w' := by
  have HCC : Hid CutOk := HC
  have HIT : Hid (ItoaIn w.heap.size w) := HI
  have HR : Hid (IntsAt w ap raw) := hR
  have HR2 : Hid (IntsAt w ap2 letters) := hR2
  clear HI hR hR2 HC
  go_enter Tryd.func5, Tryd.ntmps5
  go_wp2_with fail
  refine (made_any w ap cp raw HIT.out HR.out hlen).mono ?_
  rintro e w1 ⟨b, v, D, Wv, Cv, rfl, hM, hb1⟩
  have HM1 : Hid (MadeAt raw w1 b v D w.heap.size Wv Cv) := hM
  have hTl := hM.tl
  have hgd := hM.gd
  have HG : Hid (GoodDic D) := hgd
  have hlD : D.length ≤ 150 := hgd.1
  have hD40 := hM.size
  have hz1 := hb1.size
  have hin : (inTab (tabTo raw (nE raw))).length = D.length := inTab_dic (eAB_tab raw) hM.rp
  clear hM
  go_wp2_with fail
  refine (dictImage_any w1 b v D HM1.out.st hlD (fun p hp => ⟨(hgd.2.2 p hp).1.2.1, (hgd.2.2 p hp).2⟩)).mono ?_
  rintro e w2 ⟨S, rfl, hS, hb2⟩
  have HM2 : Hid (MadeAt raw w2 b v D w.heap.size Wv Cv) := HM1.out.below hb2
  have hB2 : Below w.heap.size w w2 := hb1.trans (hb2.mono hz1)
  have hz2 := hB2.size
  obtain ⟨hS5, hS3⟩ := image_size hgd hS.symm
  have HY : Hid (LoadYes S D) := ⟨hgd, hS.symm⟩
  clear hgd hS hb1 hb2 HM1
  go_wp2_with fail
  refine (tsize_any w2 w.heap.size _ Wv Cv HM2.out.tb (by omega)).mono ?_
  rintro e w3 ⟨rfl, rfl⟩
  rw [hin]
  clear hin
  go_wp2_with fail
  refine (load_yes w3 S D (by omega) HY.out).mono ?_
  rintro e w4 ⟨⟨b2, v2, rfl, hS2⟩, hb4⟩
  have HM4 : Hid (MadeAt raw w4 b v D w.heap.size Wv Cv) := HM2.out.below hb4
  have HS4 : Hid (SetAt w4 95 b2 v2 D) := hS2
  have hB4 : Below w.heap.size w w4 := hB2.trans (hb4.mono hz2)
  have hz4 := hB4.size
  have tl : ¬ (S.size : Int) < 5 + 5 * (D.length : Int) := by omega
  clear hb4 hB2 HM2 hS2
  go_wp2_with fail
  refine (text_any w4 ap2 cp2 letters (HR2.out.below hB4) hlen2 97 (by omega)).mono ?_
  rintro e w5 ⟨rfl, hb5⟩
  have HM5 : Hid (MadeAt raw w5 b v D w.heap.size Wv Cv) := HM4.out.below hb5
  have HS5 : Hid (SetAt w5 95 b2 v2 D) := HS4.out.below hb5
  have hB5 : Below w.heap.size w w5 := hB4.trans (hb5.mono hz4)
  have hz5 := hB5.size
  have htx : (textOf letters 97).size ≤ 500 := by rw [textOf_size]; unfold nT; omega
  obtain ⟨tx, htxe⟩ : ∃ tx, tx = textOf letters 97 := ⟨_, rfl⟩
  rw [← htxe] at htx ⊢
  clear hb5 hB4 HM4 HS4 htxe
  go_wp2_with fail
  refine (like_any HCC.out w5 b b2 v v2 D tx htx HG.out HM5.out.st HS5.out).mono ?_
  rintro e w6 ⟨rfl, hb6⟩
  have hB6 : Below w.heap.size w w6 := hB5.trans (hb6.mono hz5)
  have hz6 := hB6.size
  have hcv := run_bytes_of_string (P := Tryd.prog) w6 9 42 5 S Tryd.underlying9 Tryd.underlying42 Tryd.underlying5
  have HBY := bytes_new w6 S (grownCap w6 S.size 0 5) 5
  obtain ⟨cap, hcap⟩ : ∃ cap, cap = grownCap w6 S.size 0 5 := ⟨_, rfl⟩
  rw [← hcap] at hcv HBY
  obtain ⟨w7, hw7⟩ : ∃ w7, w7 = w6.drew.alloc (.cells (bytesRow S cap) 5 ((bytesRow S cap).size, (bytesRow S cap).size + 1)) := ⟨_, rfl⟩
  have hB7 : Below w.heap.size w w7 := by rw [hw7]; exact (⟨hB6.os, hB6.tape, hB6.output, hB6.size, hB6.block⟩ : Below w.heap.size w w6.drew).alloc hz6 _
  have hz7 : w7.heap.size = w6.heap.size + 1 := by rw [hw7]; simp
  rw [← hw7] at hcv HBY
  have HB7 : Hid (BytesAt w7 w6.heap.size S.toList) := HBY
  clear hcap hw7 HBY hb6 hB5 HM5 HS5
  obtain ⟨k, hk⟩ : ∃ k, k = pk ca S.size := ⟨_, rfl⟩
  have hkl : k < S.size := by rw [hk]; exact pk_lt ca (by omega)
  have hP1 : ∀ W : World, Calls Tryd.prog 19 #[.int .i64 ca, .int .i64 S.size] W fun e w' => e = .returned (.int .i64 k) ∧ w' = W := fun W => by rw [hk]; exact keepPick_any ca S.size W ha0 ha1 (by omega) (by omega)
  obtain ⟨m, hm⟩ : ∃ m, m = pk cb 255 := ⟨_, rfl⟩
  have hml : m < 255 := by rw [hm]; exact pk_lt cb (by omega)
  have hP2 : ∀ W : World, Calls Tryd.prog 19 #[.int .i64 cb, .int .i64 255] W fun e w' => e = .returned (.int .i64 m) ∧ w' = W := fun W => by rw [hm]; exact keepPick_any cb 255 W hb0 hb1' (by omega) (by omega)
  clear hk hm
  go_wp2_with fail
  refine (hP1 w7).mono ?_
  rintro e w8 ⟨rfl, rfl⟩
  have hck := HB7.out.cell k (by rw [toList_length]; exact hkl)
  have hfk := HB7.out.frz k (by rw [toList_length]; exact hkl)
  clear hP1 hcv
  obtain ⟨x, hx⟩ : ∃ x, x = bt S k := ⟨_, rfl⟩
  have hxb : S.toList[k]'(by rw [toList_length]; exact hkl) = UInt8.ofNat x := by
    have h := toList_get S k hkl
    rw [List.getElem?_eq_getElem (by rw [toList_length]; exact hkl)] at h
    rw [Option.some.inj h, hx, ← bt_get S k hkl]
    simp
  have hx256 : x < 256 := by rw [hx]; exact bt_lt S k
  rw [hxb, u8_of hx256] at hck
  have HX : Hid (x = bt S k) := hx
  have hkS : (k : Int) < (S.size : Int) := by omega
  clear hx hxb
  go_upto_region 12 with fail
  go_cut [17] (fun y wx => y = .int .i64 k ∧ TurnRel w w6 w6.heap.size S k (m + 1) wx)
  case first =>
    go_region_with (go_at_call 19; go_must (refine (hP2 _).mono ?_); rintro e w9 ⟨rfl, rfl⟩)
    all_goals
      go_wp2_with fail
      go_meet
      refine ⟨rfl, turn_rel HB7.out hB7 hz6 hz7 hkl ?_ (Kept.drew (Same.refl _))⟩
      rw [← HX.out]
      exact turn_num x m hx256 hml
  case rest =>
    obtain ⟨rfl, hTu, hbx, hzx⟩ := hcut
    have hcv2 := bytes_conv cap S.size hTu (turnL_length S k (m + 1)).symm
    have HN1 : Hid (LoadNo ⟨(turnL S k (m + 1)).toArray⟩) := turned_load HY.out.2 hkl (by omega) (by omega)
    have hsz1 : (⟨(turnL S k (m + 1)).toArray⟩ : ByteArray).size ≤ 1048576 := by rw [← toList_length, ByteArray.toList_eq]; show (turnL S k (m + 1)).length ≤ _; rw [turnL_length]; omega
    obtain ⟨bad, hbad⟩ : ∃ bad, bad = (⟨(turnL S k (m + 1)).toArray⟩ : ByteArray) := ⟨_, rfl⟩
    rw [← hbad] at hcv2 HN1 hsz1
    clear hTu hck hfk hP2 HB7 hbad
    go_wp2_with fail
    refine (load_no wc bad hsz1 HN1.out).mono ?_
    rintro e w9 ⟨rfl, hb9⟩
    have hB9 : Below w.heap.size w w9 := hbx.trans (hb9.mono (by omega))
    have hz9 := hB9.size
    obtain ⟨n1, hn1⟩ : ∃ n1, S.size = n1 + 1 := ⟨S.size - 1, by omega⟩
    have HN2 : Hid (LoadNo (S.extract 0 n1)) := less_load HY.out.1 HY.out.2 hn1
    have HN3 : Hid (LoadNo (S ++ ByteArray.mk #[0])) := more_load HY.out.1 HY.out.2
    have hsz2 : (S.extract 0 n1).size ≤ 1048576 := by simp; omega
    have hsz3 : (S ++ ByteArray.mk #[0]).size ≤ 1048576 := by rw [ByteArray.size_append]; have : (ByteArray.mk #[0]).size = 1 := rfl; omega
    have hsub : (S.size : Int) - 1 = (n1 : Int) := by omega
    have hnS : n1 ≤ S.size := by omega
    clear hcv2 hb9 hbx
    go_wp2_with fail
    refine (load_no w9 (S.extract 0 n1) hsz2 HN2.out).mono ?_
    rintro e w10 ⟨rfl, hb10⟩
    have hB10 : Below w.heap.size w w10 := hB9.trans (hb10.mono hz9)
    have hz10 := hB10.size
    clear hb10 hB9
    go_wp2_with fail
    refine (load_no w10 (S ++ ByteArray.mk #[0]) hsz3 HN3.out).mono ?_
    rintro e w11 ⟨rfl, hb11⟩
    have hB11 : Below w.heap.size w w11 := hB10.trans (hb11.mono hz10)
    clear hb11 hB10
    go_wp2
    go_ret
    exact ⟨rfl, hB11⟩

end Go.Proofs.YtlfpepehngkehaaDoor
