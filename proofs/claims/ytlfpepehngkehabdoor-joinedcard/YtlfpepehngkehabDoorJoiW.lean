/-
  Walks: Joined.
-/
import Derived.Test.YtlfpepehngkehabDoorWhoW
namespace Go.Proofs.YtlfpepehngkehabDoor
set_option linter.unusedSimpArgs false
set_option linter.unusedVariables false
open Go.RowKit

theorem Tryd.infoIntJ : (Tryd.prog.info? 3).map (fun i => (i.zero, i.size, i.bytes)) = some (some (.int .i64 0), 1, 8) := by kernel_rfl

/-- the list that is wanted, i of its second part's boundaries being there. -/
def wantL (L M : List Nat) (d i : Nat) : List Nat := L ++ (M.take i).map (d + ·)

theorem wantL_length {L M : List Nat} {d i : Nat} (h : i ≤ M.length) : (wantL L M d i).length = L.length + i := by simp [wantL]; omega
theorem wantL_next {L M : List Nat} {d i : Nat} (h : i < M.length) : wantL L M d (i + 1) = wantL L M d i ++ [d + M[i]] := by
  unfold wantL
  rw [List.take_succ_eq_append_getElem h, List.map_append, ← List.append_assoc]
  rfl

theorem row_zero {w : World} {B : Nat} {t : TypeId} {sz n : Nat} {v : Value} {xs : List Value} (h : w.ownsRow B t sz v n xs) : w.ownsRow 0 t sz v n xs := by
  obtain ⟨h1, h2⟩ := h
  refine ⟨h1, ?_⟩
  rcases h2 with h2 | ⟨g, cap, cur, h3, _, h5⟩
  · exact .inl h2
  · exact .inr ⟨g, cap, cur, h3, Nat.zero_le _, h5⟩

def JoiRel (L M : List Nat) (d : Nat) (X : Value) (w : World) (g : Nat) (wv iv : Value) (wr : World) : Prop :=
  ∃ i : Nat, g = M.length - i ∧ i ≤ M.length ∧ iv = .int .i64 i ∧ wr.ownsRow 0 3 1 wv (L.length + i) (intCells (wantL L M d i)) ∧ Kept w wr (fun k => X.ownBlock = some k) ∧ (∀ k, wv.ownBlock = some k → X.ownBlock = some k ∨ w.heap.size ≤ k)

theorem joi_next {L M : List Nat} {d i : Nat} {X wv wv' iv : Value} {w wr w' : World} {o : Obj} (hi : i < M.length) (hk : Kept w wr (fun k => X.ownBlock = some k)) (ho : ∀ k, wv.ownBlock = some k → X.ownBlock = some k ∨ w.heap.size ≤ k)
    (hr : w'.ownsRow 0 3 1 wv' (L.length + i + 1) (intCells (wantL L M d i) ++ [.int .i64 ((d + M[i] : Nat) : Int)])) (hg : (wr.alloc o).grownBy w' wv.ownBlock) (hat : wv'.ownBlock = wv.ownBlock ∨ wv'.ownBlock = some (wr.alloc o).heap.size) (hiv : iv = .int .i64 ((i + 1 : Nat) : Int)) :
    JoiRel L M d X w (M.length - (i + 1)) wv' iv w' := by
  have hz := hk.size
  refine ⟨i + 1, rfl, hi, hiv, ?_, (hk.alloc o).grown hg ho, fun k e => ?_⟩
  · rw [wantL_next hi]
    have e : intCells (wantL L M d i ++ [d + M[i]]) = intCells (wantL L M d i) ++ [.int .i64 ((d + M[i] : Nat) : Int)] := by simp [intCells]
    rw [e, ← Nat.add_assoc]
    exact hr
  · rcases hat with a | a
    · exact ho k (a.symm.trans e)
    · rw [a] at e
      have : k = (wr.alloc o).heap.size := by simpa using e.symm
      right
      simp at this
      omega

set_option maxHeartbeats 4000000 in
set_option maxRecDepth 20000 in
theorem joined_walk (HC : CutOk) (w : World) (ap : Option Addr) (cp : Nat) (raw : List Int) (sa sb : ByteArray) (HI : ItoaIn w.heap.size w) (hR : IntsAt w ap raw) (hlen : raw.length ≤ 9223372036854775807) (hsa : sa.size ≤ maxLen) (hsb : sb.size ≤ maxLen) :
    Calls Tryd.prog 4 #[.slice ap raw.length cp, .string sa, .string sb] w fun e w' => e = .returned (.bool true) ∧ Below w.heap.size w w' := by
  have HCC : Hid CutOk := HC
  have HIT : Hid (ItoaIn w.heap.size w) := HI
  have HR : Hid (IntsAt w ap raw) := hR
  have hsa' : sa.size ≤ 9223372036854775807 := by unfold maxLen at hsa; omega
  have hsb' : sb.size ≤ 9223372036854775807 := by unfold maxLen at hsb; omega
  obtain ⟨ii, hii, hi0, hi1, hi2⟩ := info_partsK Tryd.infoIntJ
  clear HI hR HC
  go_enter Tryd.func4, Tryd.ntmps4
  go_wp2_with fail
  refine (made_any w ap cp raw HIT.out HR.out hlen).mono ?_
  rintro e w1 ⟨b, v, D, Wv, Cv, rfl, hM, hb1⟩
  have HS1 : Hid (SetAt w1 94 b v D) := hM.st
  have HG : Hid (GoodDic D) := hM.gd
  have hz1 := hb1.size
  clear hM
  go_wp2_with fail
  refine (stripped_any sa w1 hsa').mono ?_
  rintro e w1' ⟨⟨A, rfl, hA2, hAm⟩, rfl⟩
  go_wp2_with fail
  refine (stripped_any sb w1' hsb').mono ?_
  rintro e w1 ⟨⟨B, rfl, hB2, hBm⟩, rfl⟩
  have HBM : Hid (0 < B.size → bt B 0 ≠ 126) := hBm
  clear hAm hBm
  go_wp2_with fail
  refine (HCC.out w1 b v D A (by omega) HG.out HS1.out).mono ?_
  rintro e w2 ⟨xv, L, rfl, hL, ho2, hb2⟩
  have HL1 : Hid (CutTo D A A.size L) := hL
  have hLl := hL.length HG.out (by omega)
  have HLB : Hid (Bounds L A.size) := hL.bounds HG.out
  have HS2 : Hid (SetAt w2 94 b v D) := HS1.out.below hb2
  have hB2' : Below w.heap.size w w2 := hb1.trans (hb2.mono hz1)
  have hz2 := hB2'.size
  have hz12 := hb2.size
  clear hL hb2 hb1 HS1
  go_wp2_with fail
  refine (HCC.out w2 b v D B (by omega) HG.out HS2.out).mono ?_
  rintro e w3 ⟨yv, M, rfl, hM, ho3, hb3⟩
  have HM1 : Hid (CutTo D B B.size M) := hM
  have hMl := hM.length HG.out (by omega)
  have HMB : Hid (Bounds M B.size) := hM.bounds HG.out
  have HS3 : Hid (SetAt w3 94 b v D) := HS2.out.below hb3
  have ho23 := ownsRow_below' ho2 hb3
  have hB3' : Below w.heap.size w w3 := hB2'.trans (hb3.mono hz2)
  have hz3 := hB3'.size
  have hz23 := hb3.size
  have hx2 := ho2.lt
  clear hM hb3 hB2' HS2 ho2
  obtain ⟨z, hz⟩ : ∃ z, z = A ++ dot ++ B := ⟨_, rfl⟩
  have hzs : z.size ≤ 500 := by rw [hz, ByteArray.size_append, ByteArray.size_append]; have : dot.size = 1 := rfl; omega
  have HZ : Hid (z = A ++ dot ++ B) := hz
  have hz' : A ++ ByteArray.mk #[46] ++ B = z := hz.symm
  clear hz
  go_wp2_with fail
  refine (HCC.out w3 b v D z hzs HG.out HS3.out).mono ?_
  rintro e w4 ⟨zv, N, rfl, hN, ho4, hb4⟩
  have hNl := hN.length HG.out hzs
  have HE : Hid (N = L ++ M.map (A.size + 1 + ·)) := by
    refine joined_holds HG.out HBM.out HL1.out HM1.out ?_
    have h : CutTo D z z.size N := hN
    rw [HZ.out] at h
    exact h
  have ho24 := ownsRow_below' ho23 hb4
  have ho34 := ownsRow_below' ho3 hb4
  have hB4' : Below w.heap.size w w4 := hB3'.trans (hb4.mono hz3)
  have hz4 := hB4'.size
  have hz34 := hb4.size
  have hy3 := ho3.lt
  clear hN hb4 hB3' HS3 ho23 ho3 hz'
  obtain ⟨ax, cx, rfl, _⟩ := row_form ho24
  obtain ⟨ay, cy, rfl, hgy⟩ := row_form ho34
  obtain ⟨az, cz, rfl, _⟩ := row_form ho4
  go_wp2_with fail
  refine (rises_any w4 _ A.size _ L ho24 HLB.out (by omega) (by omega)).mono ?_
  rintro e w5 ⟨rfl, hs5⟩
  have ho25 := hs5.row ho24
  have ho35 := hs5.row ho34
  have ho45 := hs5.row ho4
  have hB5' : Below w.heap.size w w5 := Same.below hs5 hB4' hz4
  have hz45 := hs5.size
  clear ho24 ho34 hs5 hB4'
  go_wp2_with fail
  refine (rises_any w5 _ B.size _ M ho35 HMB.out (by omega) (by omega)).mono ?_
  rintro e w6 ⟨rfl, hs6⟩
  have HOX : Hid (w6.ownsRow w1.heap.size 3 1 (.slice ax L.length cx) L.length (intCells L)) := hs6.row ho25
  have HOY : Hid (w6.ownsRow w2.heap.size 3 1 (.slice ay M.length cy) M.length (intCells M)) := hs6.row ho35
  have HOZ : Hid (w6.ownsRow w3.heap.size 3 1 (.slice az N.length cz) N.length (intCells N)) := hs6.row ho45
  have HB6 : Hid (Below w.heap.size w w6) := Same.below hs6 hB5' hB5'.size
  have HXL : Hid (∀ k, (Value.slice ax L.length cx).ownBlock = some k → w1.heap.size ≤ k ∧ k < w2.heap.size) := fun k hk => ⟨(hx2 k hk).1, (hx2 k hk).2⟩
  have HGY : Hid (M.length ≠ 0 → ∃ g, ay = some ⟨g, 0, none⟩) := hgy
  have hz56 := hs6.size
  clear ho25 ho35 ho45 ho4 hs6 hB5' hx2 hy3 hgy
  have HXN : Hid (∀ k, (Value.slice ay M.length cy).ownBlock = some k → ¬ (Value.slice ax L.length cx).ownBlock = some k) := fun k hk e => by have := (HXL.out k e).2; have := (HOY.out.lt k hk).1; omega
  have HZN : Hid (∀ k, (Value.slice az N.length cz).ownBlock = some k → ¬ (Value.slice ax L.length cx).ownBlock = some k) := fun k hk e => by have := (HXL.out k e).2; have := (HOZ.out.lt k hk).1; omega
  go_wp2_with fail
  go_loopg [17, 18] M.length (fun g wv iv wr => JoiRel L M (A.size + 1) (.slice ax L.length cx) w6 g wv iv wr)
  case atStart => exact ⟨0, rfl, Nat.zero_le _, rfl, by simpa [wantL] using (row_zero HOX.out), Kept.refl _ _, fun k e => .inl e⟩
  case round =>
    obtain ⟨i, rfl, hi, rfl, hrow, hk, ho⟩ := hrel
    have HK : Hid (Kept w6 wr (fun k => (Value.slice ax L.length cx).ownBlock = some k)) := hk
    obtain ⟨aw, cw, rfl, _⟩ := row_form hrow
    have HOW : Hid (∀ k, (Value.slice aw (L.length + i) cw).ownBlock = some k → (Value.slice ax L.length cx).ownBlock = some k ∨ w6.heap.size ≤ k) := ho
    by_cases hlt : i < M.length
    · obtain ⟨gy, rfl⟩ := HGY.out (by omega)
      have hy := own_int (Kept.row HOY.out hk HXN.out) rfl hlt
      have hle := HMB.out.le M[i] (List.getElem_mem hlt)
      have HNX : Hid (∀ (o : Obj) (wv' iv : Value) (w' : World), w'.ownsRow 0 3 1 wv' (L.length + i + 1) (intCells (wantL L M (A.size + 1) i) ++ [.int .i64 ((A.size + 1 + M[i] : Nat) : Int)]) → (wr.alloc o).grownBy w' (Value.slice aw (L.length + i) cw).ownBlock → (wv'.ownBlock = (Value.slice aw (L.length + i) cw).ownBlock ∨ wv'.ownBlock = some (wr.alloc o).heap.size) → iv = .int .i64 ((i + 1 : Nat) : Int) →
          JoiRel L M (A.size + 1) (.slice ax L.length cx) w6 (M.length - (i + 1)) wv' iv w') := fun o wv' iv w' h1 h2 h3 h4 => joi_next hlt HK.out HOW.out h1 h2 h3 h4
      obtain ⟨y, hyd⟩ : ∃ y, y = M[i] := ⟨_, rfl⟩
      rw [← hyd] at hy hle HNX
      have hli : (i : Int) < (M.length : Int) := by omega
      obtain ⟨q, hq⟩ : ∃ q : Nat, q = A.size + 1 + y := ⟨_, rfl⟩
      have hq1 : (y : Int) + (A.size : Int) + 1 = (q : Int) := by omega
      rw [← hq] at HNX
      have hq9 : q ≤ 1000 := by omega
      clear hq
      clear hyd hk ho
      go_wp2_with (at_builtin; refine wpList_append_own_at _ rfl _ _ 22 rfl 0 3 ii _ 1 8 Tryd.underlying22 hii hi0 hi1 hi2 rfl (by decide) _ _ _ rfl (hrow.alloc _) ⟨wr.heap.size, 0, none⟩ 1 1 [.int .i64 (q : Int)] rfl rfl ?c1 ?c2 ?c3 ?c4 ?c5 ?_)
      case c1 => exact cell_one_new _ _ _
      case c2 => intro u hu; simp at hu; subst hu; rfl
      case c3 => unfold maxLen; omega
      case c4 => omega
      case c5 => omega
      intro wv' w7 hown7 hgrow7 _ hat7
      have HN7 : Hid (∀ iv : Value, iv = .int .i64 ((i + 1 : Nat) : Int) → JoiRel L M (A.size + 1) (.slice ax L.length cx) w6 (M.length - (i + 1)) wv' iv w7) := fun iv hiv => HNX.out _ _ _ _ hown7 hgrow7 (by simpa using hat7) hiv
      clear hown7 hgrow7 hat7 HNX
      go_wp2_with fail
      go_roundg (M.length - (i + 1))
      case measure => omega
      case rel => exact HN7.out _ (by go_num)
    · obtain rfl : i = M.length := by omega
      have hz7 := Kept.row HOZ.out hk HZN.out
      have hww : wantL L M (A.size + 1) M.length = N := by rw [HE.out]; simp [wantL]
      have hwl : L.length + M.length = N.length := by rw [HE.out]; simp
      rw [hww, hwl] at hrow
      have HB7 : Hid (Below w.heap.size w wr) := HB6.out.trans (hk.below HB6.out.size (fun k e => by have := (HXL.out k e).1; omega))
      rw [hwl]
      clear hk ho hww hwl
      go_wp2_with fail
      refine (keepSame_any wr _ _ _ _ N N hz7 hrow rfl (by omega)).mono ?_
      rintro e w8 ⟨rfl, hs8⟩
      have HB8 : Hid (Below w.heap.size w w8) := Same.below hs8 HB7.out HB7.out.size
      clear hs8 hz7 hrow
      go_wp2
      go_ret
      exact ⟨rfl, HB8.out⟩

end Go.Proofs.YtlfpepehngkehabDoor
