/-
  Walks: Steps.
-/
import Derived.Test.YtlfpepehngkehabDoorStepG
import Derived.Test.YtlfpepehngkehabDoorKeepU
import Derived.Test.YtlfpepehngkehabDoorKeepJ
namespace Go.Proofs.YtlfpepehngkehabDoor
set_option linter.unusedSimpArgs false
set_option linter.unusedVariables false
open Go.RowKit

theorem OnWalk.same {WI : WalkIf} {w w' : World} {p : Nat} {F : Nat → Prop} {D : Dic} {t : ByteArray} {L : List Nat} {a base g c : Nat} (h : OnWalk WI w p F D t L a base g c) (hs : Same w w') : OnWalk WI w' p F D t L a base g c :=
  ⟨WI.kept h.at_ hs (fun _ _ e => e), h.gd, h.ts, h.cr, hs.row h.row, h.gp⟩

def ForthRel (WI : WalkIf) (p : Nat) (F : Nat → Prop) (D : Dic) (t : ByteArray) (L : List Nat) (base g c : Nat) (w : World) (gh : Nat) (iv : Value) (wr : World) : Prop :=
  ∃ j : Nat, ∃ hj : j < L.length, gh = L.length - (j + 1) ∧ iv = .int .i64 ((j + 1 : Nat) : Int) ∧ OnWalk WI wr p F D t L L[j] base g c ∧ Kept w wr (fun j => j = p)

def BackRel (WI : WalkIf) (p : Nat) (F : Nat → Prop) (D : Dic) (t : ByteArray) (L : List Nat) (base g c : Nat) (w : World) (gh : Nat) (iv : Value) (wr : World) : Prop :=
  ∃ m : Nat, ∃ hm : m < L.length, m = gh ∧ iv = .int .i64 ((m : Int) - 1) ∧ OnWalk WI wr p F D t L L[m] base g c ∧ Kept w wr (fun j => j = p)

theorem tmod_bounds (k : Int) : -1000 < Int.tmod k 1000 ∧ Int.tmod k 1000 < 1000 := by
  have h := Int.tmod_lt_of_pos k (show (0 : Int) < 1000 by decide)
  have h2 := Int.tmod_lt_of_pos (-k) (show (0 : Int) < 1000 by decide)
  rw [Int.neg_tmod] at h2
  omega

set_option maxHeartbeats 4000000 in
set_option maxRecDepth 20000 in
theorem steps_walk (HC : CutOk) (WI : WalkIf) (w : World) (ap : Option Addr) (cp : Nat) (raw : List Int) (s0 : ByteArray) (k : Int) (HI : ItoaIn w.heap.size w) (hR : IntsAt w ap raw) (hlen : raw.length ≤ 9223372036854775807) (hs : s0.size ≤ maxLen) (hk0 : -9223372036854775808 ≤ k) (hk1 : k ≤ 9223372036854775807) :
    Calls Tryd.prog 5 #[.slice ap raw.length cp, .string s0, .int .i64 k] w fun e w' => e = .returned (.bool true) ∧ Below w.heap.size w w' := by
  have HCC : Hid CutOk := HC
  have HIT : Hid (ItoaIn w.heap.size w) := HI
  have HR : Hid (IntsAt w ap raw) := hR
  have hs' : s0.size ≤ 9223372036854775807 := by unfold maxLen at hs; omega
  clear HI hR HC hs
  go_enter Tryd.func5, Tryd.ntmps5
  go_wp2_with fail
  refine (made_any w ap cp raw HIT.out HR.out hlen).mono ?_
  rintro e w1 ⟨b, v, D, Wv, Cv, rfl, hM, hb1⟩
  have HS1 : Hid (SetAt w1 94 b v D) := hM.st
  have HG : Hid (GoodDic D) := hM.gd
  have hz1 := hb1.size
  clear hM
  go_upto_if 29 with fail
  go_cut [1] (fun y wx => ∃ s : ByteArray, y = .string s ∧ s.size ≤ 500 ∧ w1 = wx)
  case first =>
    by_cases h500 : s0.size ≤ 500
    · have t5 : ¬ (500 : Int) < (s0.size : Int) := by omega
      go_wp2_with fail
      go_meet
      exact ⟨s0, rfl, h500, rfl⟩
    · have t5 : (500 : Int) < (s0.size : Int) := by omega
      have hle : (500 : Int) ≤ (s0.size : Int) := by omega
      have hz : (s0.extract 0 500).size ≤ 500 := by simp; omega
      go_wp2_with fail
      go_meet
      exact ⟨s0.extract 0 500, rfl, hz, rfl⟩
  case rest =>
    obtain ⟨s, rfl, h500, rfl⟩ := hcut
    go_wp2_with fail
    refine (HCC.out w1 b v D s h500 HG.out HS1.out).mono ?_
    rintro e w2 ⟨lv, L, rfl, hL, ho2, hb2⟩
    have HL : Hid (CutRes D s L) := hL
    have HB : Hid (Bounds L s.size) := hL.bounds HG.out
    have hpos : 0 < L.length := List.length_pos_of_mem HB.out.zero
    have hLl := hL.length HG.out h500
    have HS2 : Hid (SetAt w2 94 b v D) := HS1.out.below hb2
    have hB2 : Below w.heap.size w w2 := hb1.trans (hb2.mono hz1)
    have hz2 := hB2.size
    obtain ⟨al, c, rfl, hgl⟩ := row_form ho2
    obtain ⟨g, rfl⟩ := hgl (by omega)
    have hgs := (ho2.lt g rfl).2
    clear hL hb2 hb1 HS1 hgl
    go_wp2_with fail
    refine (WI.begin w2 b v D s h500 HG.out HS2.out).mono ?_
    rintro e w3 ⟨p, F, l, rfl, hl, hAt, hpge, -, hb3⟩
    obtain rfl : l = L := hl.one HL.out
    have HW3 : Hid (OnWalk WI w3 p F D s l 0 w1.heap.size g c) := ⟨hAt, HG.out, h500, HL.out, ownsRow_below' ho2 hb3, by omega⟩
    have hB3 : Below w.heap.size w w3 := hB2.trans (hb3.mono hz2)
    have hz3 := hB3.size
    have hpw : w.heap.size ≤ p := by omega
    clear hl hAt ho2 hb3 hB2 HS2
    go_wp2_with fail
    refine (rises_any w3 _ s.size _ l HW3.out.row HB.out (by omega) (by omega)).mono ?_
    rintro e w4 ⟨rfl, hs4⟩
    have HW4 : Hid (OnWalk WI w4 p F D s l 0 w1.heap.size g c) := HW3.out.same hs4
    have HB4 : Hid (Below w.heap.size w w4) := Same.below hs4 hB3 hz3
    clear hs4 hB3 HW3
    have HEND : Hid (∀ wz : World, Kept w4 wz (fun j => j = p) → Below w.heap.size w wz) := fun wz hk => HB4.out.trans (hk.below HB4.out.size (fun j e => by omega))
    go_upto_block 0 with fail
    go_cut [14] (fun iv wx => OnWalk WI wx p F D s l s.size w1.heap.size g c ∧ Kept w4 wx (fun j => j = p))
    case first =>
      go_wp2_with fail
      go_loopg [14] (l.length - 1) (fun gh iv wr => ForthRel WI p F D s l w1.heap.size g c w4 gh iv wr)
      case atStart => exact ⟨0, hpos, rfl, rfl, by rw [bounds_first HB.out hpos]; exact HW4.out, Kept.refl _ _⟩
      case round =>
        obtain ⟨j, hj, rfl, rfl, hW, hk⟩ := hrel
        have HKr : Hid (Kept w4 wr (fun j => j = p)) := hk
        obtain ⟨m, hmd⟩ : ∃ m, m = j + 1 := ⟨_, rfl⟩
        rw [← hmd]
        by_cases hl : m < l.length
        · have hl' : (m : Int) < (l.length : Int) := by omega
          have hmove : MoveIs D s l l[j] 3 0 (l[m] : Nat) l[m] := by subst hmd; exact next_is D HB.out hl
          have hC := hW.call (WI.next wr p F D s l _ hW.at_ hW.gd hW.ts hW.cr) hmove
          have hmm : l.length - (m + 1) < l.length - (j + 1) := by omega
          have HN : Hid (∀ (iv : Value) (wz : World), iv = .int .i64 ((m + 1 : Nat) : Int) → OnWalk WI wz p F D s l l[m] w1.heap.size g c → Kept w4 wz (fun j => j = p) → ForthRel WI p F D s l w1.heap.size g c w4 (l.length - (m + 1)) iv wz) := fun iv wz h1 h2 h3 => ⟨m, hl, rfl, h1, h2, h3⟩
          obtain ⟨x, hxd⟩ : ∃ x, x = l[m] := ⟨_, rfl⟩
          rw [← hxd] at hC HN
          have HX : Hid (x = l[m]) := hxd
          clear hxd hmove hW hk hmd
          go_wp2_with fail
          refine hC.mono ?_
          rintro e w5 ⟨rfl, hW5, hk5⟩
          have hx := own_int hW5.row rfl hl
          rw [← HX.out] at hx
          have tx : ((x : Int) != (x : Int)) = false := by simp
          have HNX : Hid (∀ iv : Value, iv = .int .i64 ((m + 1 : Nat) : Int) → ForthRel WI p F D s l w1.heap.size g c w4 (l.length - (m + 1)) iv w5) := fun iv h => HN.out iv w5 h hW5 (HKr.out.trans hk5 (fun _ e => .inl e))
          clear hC hW5 hk5 HN
          go_wp2_with fail
          go_roundg (l.length - (m + 1))
          case measure => exact hmm
          case rel => exact HNX.out _ (by go_num)
        · have hl' : ¬ (m : Int) < (l.length : Int) := by omega
          have HF : Hid (OnWalk WI wr p F D s l s.size w1.heap.size g c) := by
            have e : l[j] = s.size := by
              have := bounds_end HB.out hpos
              have e : j = l.length - 1 := by omega
              subst e; exact this
            rw [e] at hW; exact hW
          clear hW hk hmd
          go_wp2_with fail
          go_meet
          exact ⟨HF.out, HKr.out⟩
    case rest =>
      obtain ⟨hW5, hk5⟩ := hcut
      have HK5 : Hid (Kept w4 wc (fun j => j = p)) := hk5
      have hC := hW5.call (WI.next wc p F D s l _ hW5.at_ hW5.gd hW5.ts hW5.cr) (next_end D HB.out)
      clear hW5 hk5
      go_wp2_with fail
      refine hC.mono ?_
      rintro e w5 ⟨rfl, hW6, hk6⟩
      have HK6 : Hid (Kept w4 w5 (fun j => j = p)) := HK5.out.trans hk6 (fun _ e => .inl e)
      have hC2 := hW6.call (WI.place w5 p F D s l _ hW6.at_ hW6.gd hW6.ts hW6.cr) (place_is D s l s.size)
      clear hW6 hk6 hC HK5
      go_wp2_with fail
      refine hC2.mono ?_
      rintro e w6 ⟨rfl, hW7, hk7⟩
      have HW7 : Hid (OnWalk WI w6 p F D s l s.size w1.heap.size g c) := hW7
      have HK7 : Hid (Kept w4 w6 (fun j => j = p)) := HK6.out.trans hk7 (fun _ e => .inl e)
      have tx : ((s.size : Int) != (s.size : Int)) = false := by simp
      clear hW7 hk7 hC2 HK6
      go_upto_block 2 with fail
      go_cut [18] (fun iv wx => OnWalk WI wx p F D s l 0 w1.heap.size g c ∧ Kept w4 wx (fun j => j = p))
      case first =>
        go_wp2_with fail
        go_loopg [16, 18] (l.length - 1) (fun gh _ iv wr => BackRel WI p F D s l w1.heap.size g c w4 gh iv wr)
        case atStart =>
          have e1 : (l.length : Int) - 2 = ((l.length - 1 : Nat) : Int) - 1 := by omega
          exact ⟨l.length - 1, by omega, rfl, congrArg (Value.int .i64) e1, by rw [bounds_end HB.out hpos]; exact HW7.out, HK7.out⟩
        case round =>
          obtain ⟨m, hm, rfl, rfl, hW, hk⟩ := hrel
          have HKr : Hid (Kept w4 wr (fun j => j = p)) := hk
          by_cases hl : 0 < m
          · obtain ⟨j, hmd⟩ : ∃ j, m = j + 1 := ⟨m - 1, by omega⟩
            have hj : j < l.length := by omega
            have hl' : (0 : Int) ≤ (j : Int) := by omega
            have ej : (m : Int) - 1 = (j : Int) := by omega
            have hmove : MoveIs D s l l[m] 4 0 (l[j] : Nat) l[j] := by subst hmd; exact prev_is D HB.out hm
            have hC := hW.call (WI.previous wr p F D s l _ hW.at_ hW.gd hW.ts hW.cr) hmove
            have hmm : j < m := by omega
            have HN : Hid (∀ (iv : Value) (wz : World), iv = .int .i64 ((j : Int) - 1) → OnWalk WI wz p F D s l l[j] w1.heap.size g c → Kept w4 wz (fun j => j = p) → BackRel WI p F D s l w1.heap.size g c w4 j iv wz) := fun iv wz h1 h2 h3 => ⟨j, hj, rfl, h1, h2, h3⟩
            obtain ⟨x, hxd⟩ : ∃ x, x = l[j] := ⟨_, rfl⟩
            rw [← hxd] at hC HN
            have HX : Hid (x = l[j]) := hxd
            rw [ej]
            clear hxd hmove hW hk hmd ej
            go_wp2_with fail
            refine hC.mono ?_
            rintro e w7 ⟨rfl, hW5, hk5⟩
            have hx := own_int hW5.row rfl hj
            rw [← HX.out] at hx
            have tx : ((x : Int) != (x : Int)) = false := by simp
            have HNX : Hid (∀ iv : Value, iv = .int .i64 ((j : Int) - 1) → BackRel WI p F D s l w1.heap.size g c w4 j iv w7) := fun iv h => HN.out iv w7 h hW5 (HKr.out.trans hk5 (fun _ e => .inl e))
            clear hC hW5 hk5 HN
            go_wp2_with fail
            go_roundg j
            case measure => exact hmm
            case rel => exact HNX.out _ (by go_num)
          · obtain rfl : m = 0 := by omega
            have HF : Hid (OnWalk WI wr p F D s l 0 w1.heap.size g c) := by
              rw [bounds_first HB.out hpos] at hW; exact hW
            clear hW hk
            go_wp2_with fail
            go_meet
            exact ⟨HF.out, HKr.out⟩
      case rest =>
        obtain ⟨hW5, hk5⟩ := hcut
        have HK5 : Hid (Kept w4 wc (fun j => j = p)) := hk5
        have hC := hW5.call (WI.previous wc p F D s l _ hW5.at_ hW5.gd hW5.ts hW5.cr) (prev_end D s l)
        clear hW5 hk5
        go_wp2_with fail
        refine hC.mono ?_
        rintro e w7 ⟨rfl, hW6, hk6⟩
        have HK6 : Hid (Kept w4 w7 (fun j => j = p)) := HK5.out.trans hk6 (fun _ e => .inl e)
        have hC2 := hW6.call (WI.place w7 p F D s l _ hW6.at_ hW6.gd hW6.ts hW6.cr) (place_is D s l 0)
        clear hW6 hk6 hC HK5
        go_wp2_with fail
        refine hC2.mono ?_
        rintro e w8 ⟨rfl, hW8, hk8⟩
        have HK8 : Hid (Kept w4 w8 (fun j => j = p)) := HK6.out.trans hk8 (fun _ e => .inl e)
        have hF1 := finds_any WI w8 p F D s l 0 _ g c (Int.tmod k 1000) (by have := tmod_bounds k; omega) (by have := tmod_bounds k; omega) hW8
        clear hW8 hk8 hC2 HK6
        go_wp2_with fail
        refine hF1.mono ?_
        rintro e w9 ⟨rfl, ⟨a9, hW9⟩, hk9⟩
        have HK9 : Hid (Kept w4 w9 (fun j => j = p)) := HK8.out.trans hk9 (fun _ e => .inl e)
        have hF2 := finds_any WI w9 p F D s l a9 _ g c k hk0 hk1 hW9
        clear hW9 hk9 hF1 HK8
        go_wp2_with fail
        refine hF2.mono ?_
        rintro e w10 ⟨rfl, ⟨a10, hW10⟩, hk10⟩
        have HK10 : Hid (Kept w4 w10 (fun j => j = p)) := HK9.out.trans hk10 (fun _ e => .inl e)
        have hF3 := goes_any WI w10 p F D s l a10 _ g c (Int.tmod k 1000) (by have := tmod_bounds k; omega) (by have := tmod_bounds k; omega) hW10
        clear hW10 hk10 hF2 HK9
        go_wp2_with fail
        refine hF3.mono ?_
        rintro e w11 ⟨rfl, -, hk11⟩
        have HK11 : Hid (Kept w4 w11 (fun j => j = p)) := HK10.out.trans hk11 (fun _ e => .inl e)
        clear hk11 hF3 HK10
        go_wp2
        go_ret
        exact ⟨rfl, HEND.out _ HK11.out⟩

end Go.Proofs.YtlfpepehngkehabDoor
