/-
  Walks: finds and goes.
-/
import Derived.Test.YtlfpepehngkehabDoorWalkI
import Derived.Test.YtlfpepehngkehabDoorMaths
import Derived.Test.YtlfpepehngkehabDoorRows
import Derived.Test.YtlfpepehngkehabDoorRowsW
import Derived.WalkKit
import Derived.WalkSpells
import Derived.WalkLawsBesides
import Derived.Deep.LoopGhost
import Derived.BigQuiet
import Derived.Deep.QuietTactic
import Derived.Deep.CutRange
import Derived.Deep.DeepCutAuto
namespace Go.Proofs.YtlfpepehngkehabDoor
set_option linter.unusedSimpArgs false
set_option linter.unusedVariables false
open Go.RowKit

/-- a walk over the boundaries L, of which the caller holds a list. -/
structure OnWalk (WI : WalkIf) (w : World) (p : Nat) (F : Nat → Prop) (D : Dic) (t : ByteArray) (L : List Nat) (a : Nat) (base g c : Nat) : Prop where
  at_ : WI.At w p F D t L a
  gd : GoodDic D
  ts : t.size ≤ 500
  cr : CutRes D t L
  row : w.ownsRow base 3 1 (.slice (some ⟨g, 0, none⟩) L.length c) L.length (intCells L)
  gp : g ≠ p

theorem OnWalk.bounds {WI : WalkIf} {w : World} {p : Nat} {F : Nat → Prop} {D : Dic} {t : ByteArray} {L : List Nat} {a base g c : Nat} (h : OnWalk WI w p F D t L a base g c) : Bounds L t.size := h.cr.bounds h.gd

theorem OnWalk.moved {WI : WalkIf} {w w' : World} {p : Nat} {F : Nat → Prop} {D : Dic} {t : ByteArray} {L : List Nat} {a a' base g c : Nat} (h : OnWalk WI w p F D t L a base g c) (ha : WI.At w' p F D t L a') (hk : Kept w w' (fun j => j = p)) : OnWalk WI w' p F D t L a' base g c :=
  ⟨ha, h.gd, h.ts, h.cr, Kept.row h.row hk (fun k hk' e => by cases hk'; exact h.gp e), h.gp⟩

/-- a call whose answer is known. -/
theorem OnWalk.call {WI : WalkIf} {w : World} {p : Nat} {F : Nat → Prop} {D : Dic} {t : ByteArray} {L : List Nat} {a a2 base g c : Nat} {kind k r2 : Int} {f : FuncId} {args : Array Value} (h : OnWalk WI w p F D t L a base g c)
    (hc : Calls Tryd.prog f args w fun e w' => MoveGot WI.At w w' p F D t L a kind k e) (hm : MoveIs D t L a kind k r2 a2) :
    Calls Tryd.prog f args w fun e w' => e = .returned (.int .i64 r2) ∧ OnWalk WI w' p F D t L a2 base g c ∧ Kept w w' (fun j => j = p) := by
  refine hc.mono ?_
  rintro e w' ⟨r, a', rfl, hm', ha, hk⟩
  obtain ⟨rfl, rfl⟩ := hm'.unique hm
  exact ⟨rfl, h.moved ha hk, hk⟩

theorem OnWalk.callIs {WI : WalkIf} {w : World} {p : Nat} {F : Nat → Prop} {D : Dic} {t : ByteArray} {L : List Nat} {a a2 base g c : Nat} {k : Int} {y2 : Bool} {f : FuncId} {args : Array Value} (h : OnWalk WI w p F D t L a base g c)
    (hc : Calls Tryd.prog f args w fun e w' => IsGot WI.At w w' p F D t L a k e) (hm : MoveIs D t L a 7 k (if y2 then 1 else 0) a2) :
    Calls Tryd.prog f args w fun e w' => e = .returned (.bool y2) ∧ OnWalk WI w' p F D t L a2 base g c ∧ Kept w w' (fun j => j = p) := by
  refine hc.mono ?_
  rintro e w' ⟨y, a', rfl, hm', ha, hk⟩
  obtain ⟨hr, rfl⟩ := hm'.unique hm
  have : y = y2 := by cases y <;> cases y2 <;> simp at hr <;> rfl
  subst this
  exact ⟨rfl, h.moved ha hk, hk⟩

def FindRel (L : List Nat) (k : Int) (w : World) (g : Nat) (av bv sv iv : Value) (wr : World) : Prop :=
  ∃ (m : Nat) (ab be : Int) (is : Bool), g = m ∧ m ≤ L.length ∧ iv = .int .i64 ((m : Int) - 1) ∧ av = .int .i64 ab ∧ bv = .int .i64 be ∧ sv = .bool is ∧ SeenK L k m ab be is ∧ wr = w

theorem find_next {L : List Nat} {n : Nat} (hb : Bounds L n) {k : Int} {j : Nat} (hj : j < L.length) {ab be ab' be' : Int} {is is' : Bool} {w : World} {av bv sv iv : Value} (h : SeenK L k (j + 1) ab be is)
    (ha : ab' = if k < (L[j] : Int) then (L[j] : Int) else ab) (hbe : be' = if (L[j] : Int) < k ∧ be = -1 then (L[j] : Int) else be) (hs : is' = (is || decide ((L[j] : Int) = k)))
    (h1 : iv = .int .i64 ((j : Int) - 1)) (h2 : av = .int .i64 ab') (h3 : bv = .int .i64 be') (h4 : sv = .bool is') : FindRel L k w j av bv sv iv w :=
  ⟨j, ab', be', is', rfl, by omega, h1, h2, h3, h4, by rw [ha, hbe, hs]; exact seen_step hb hj h, rfl⟩

set_option maxHeartbeats 4000000 in
set_option maxRecDepth 20000 in
theorem finds_any (WI : WalkIf) (w : World) (p : Nat) (F : Nat → Prop) (D : Dic) (t : ByteArray) (L : List Nat) (a base g c : Nat) (k : Int) (hk0 : -9223372036854775808 ≤ k) (hk1 : k ≤ 9223372036854775807) (h : OnWalk WI w p F D t L a base g c) :
    Calls Tryd.prog 16 #[.pointer (some ⟨p, 0, none⟩), .slice (some ⟨g, 0, none⟩) L.length c, .int .i64 k] w fun e w' => e = .returned (.bool true) ∧ (∃ a', OnWalk WI w' p F D t L a' base g c) ∧ Kept w w' (fun j => j = p) := by
  have HW : Hid (OnWalk WI w p F D t L a base g c) := h
  have HB : Hid (Bounds L t.size) := h.bounds
  have hpos : 0 < L.length := List.length_pos_of_mem HB.out.zero
  have hLl := h.cr.length h.gd h.ts
  have hts := h.ts
  have hend := own_int h.row rfl (show L.length - 1 < L.length by omega)
  rw [bounds_end HB.out hpos] at hend
  obtain ⟨e1, he1⟩ : ∃ e1, e1 = L.length - 1 := ⟨_, rfl⟩
  rw [← he1] at hend
  have he1' : (L.length : Int) - 1 = (e1 : Int) := by omega
  have hel : (e1 : Int) < (L.length : Int) := by omega
  have HE1 : Hid (e1 = L.length - 1) := he1
  clear h he1
  go_enter Tryd.func16, Tryd.ntmps16
  go_wp2_with fail
  go_loopg [8, 9, 10, 11] L.length (fun g av bv sv iv wr => FindRel L k w g av bv sv iv wr)
  case atStart => exact ⟨L.length, -1, -1, false, rfl, Nat.le_refl _, by rw [he1'], rfl, rfl, rfl, seen_start L k, rfl⟩
  case round =>
    obtain ⟨m, ab, be, is, hgm, hm, rfl, rfl, rfl, rfl, hS, hwr⟩ := hrel
    obtain rfl : gk = m := hgm
    obtain rfl : wr = w := hwr
    have HS : Hid (SeenK L k gk ab be is) := hS
    clear hS
    cases gk with
    | succ j =>
      have hj : j < L.length := by omega
      have hx := own_int HW.out.row rfl hj
      have HN : Hid (∀ (ab' be' : Int) (is' : Bool) (av bv sv iv : Value), ab' = (if k < (L[j] : Int) then (L[j] : Int) else ab) → be' = (if (L[j] : Int) < k ∧ be = -1 then (L[j] : Int) else be) → is' = (is || decide ((L[j] : Int) = k)) →
        iv = .int .i64 ((j : Int) - 1) → av = .int .i64 ab' → bv = .int .i64 be' → sv = .bool is' → FindRel L k wr j av bv sv iv wr) := fun ab' be' is' av bv sv iv h1 h2 h3 h4 h5 h6 h7 => find_next HB.out hj HS.out h1 h2 h3 h4 h5 h6 h7
      obtain ⟨x, hxd⟩ : ∃ x, x = L[j] := ⟨_, rfl⟩
      rw [← hxd] at hx HN
      have hjj : ((j + 1 : Nat) : Int) - 1 = (j : Int) := by omega
      have hge : (0 : Int) ≤ (j : Int) := by omega
      have hjl : (j : Int) < (L.length : Int) := by omega
      rw [hjj]
      clear hxd
      rcases Int.lt_trichotomy k (x : Int) with hlt | heq | hgt
      · have n1 : ¬ ((x : Int) < k) := by omega
        have n2 : ((x : Int) == k) = false := beq_eq_false_iff_ne.2 (by omega)
        have HX : Hid (∀ iv, iv = .int .i64 ((j : Int) - 1) → FindRel L k wr j (.int .i64 (x : Int)) (.int .i64 be) (.bool is) iv wr) := fun iv hiv => HN.out _ _ _ _ _ _ _ (by rw [if_pos hlt]) (by rw [if_neg (fun e => n1 e.1)]) (by rw [decide_eq_false (by omega), Bool.or_false]) hiv rfl rfl rfl
        clear HN
        cases is
        all_goals
          go_wp2_with fail
          go_roundg j
          case measure => omega
          case rel => exact HX.out _ (by go_num)
      · have n0 : ¬ (k < (x : Int)) := by omega
        have n1 : ¬ ((x : Int) < k) := by omega
        have n2 : ((x : Int) == k) = true := beq_iff_eq.2 heq.symm
        have HX : Hid (∀ iv, iv = .int .i64 ((j : Int) - 1) → FindRel L k wr j (.int .i64 ab) (.int .i64 be) (.bool true) iv wr) := fun iv hiv => HN.out _ _ _ _ _ _ _ (by rw [if_neg n0]) (by rw [if_neg (fun e => n1 e.1)]) (by rw [decide_eq_true heq.symm, Bool.or_true]) hiv rfl rfl rfl
        clear HN heq
        cases is
        all_goals
          go_wp2_with fail
          go_roundg j
          case measure => omega
          case rel => exact HX.out _ (by go_num)
      · have n0 : ¬ (k < (x : Int)) := by omega
        have n2 : ((x : Int) == k) = false := beq_eq_false_iff_ne.2 (by omega)
        by_cases hbe : be = -1
        · subst hbe
          have HX : Hid (∀ iv, iv = .int .i64 ((j : Int) - 1) → FindRel L k wr j (.int .i64 ab) (.int .i64 (x : Int)) (.bool is) iv wr) := fun iv hiv => HN.out _ _ _ _ _ _ _ (by rw [if_neg n0]) (by rw [if_pos ⟨hgt, rfl⟩]) (by rw [decide_eq_false (by omega), Bool.or_false]) hiv rfl rfl rfl
          clear HN
          cases is
          all_goals
            go_wp2_with fail
            go_roundg j
            case measure => omega
            case rel => exact HX.out _ (by go_num)
        · have n3 : (be == -1) = false := beq_eq_false_iff_ne.2 hbe
          have HX : Hid (∀ iv, iv = .int .i64 ((j : Int) - 1) → FindRel L k wr j (.int .i64 ab) (.int .i64 be) (.bool is) iv wr) := fun iv hiv => HN.out _ _ _ _ _ _ _ (by rw [if_neg n0]) (by rw [if_neg (fun e => hbe e.2)]) (by rw [decide_eq_false (by omega), Bool.or_false]) hiv rfl rfl rfl
          clear HN hbe
          cases is
          all_goals
            go_wp2_with fail
            go_roundg j
            case measure => omega
            case rel => exact HX.out _ (by go_num)
    | zero =>
      obtain ⟨hA, hBl, hI⟩ := seen_all HS.out
      have HA : Hid (IsAbv L k ab) := hA
      have HBL : Hid (IsBlw L k be) := hBl
      have HIS : Hid (is = true ↔ ∃ y ∈ L, (y : Int) = k) := hI
      have hge := hA.ge
      have hge2 := hBl.ge
      have FF : ((folTo t.size ab : Nat) : Int) = if 0 ≤ ab then ab else (t.size : Int) := by unfold folTo; split <;> omega
      have PP : ((preTo be : Nat) : Int) = if 0 ≤ be then be else 0 := by unfold preTo; split <;> omega
      have hab : ab = -1 ∨ 0 ≤ ab := by omega
      have hbb : be = -1 ∨ 0 ≤ be := by omega
      have HYES : Hid (is = true → ∃ y : Nat, (y : Int) = k ∧ ∀ a, MoveIs D t L a 7 k (if true then 1 else 0) y) := fun hi => by
        obtain ⟨y, hy, e⟩ := hI.1 hi
        exact ⟨y, e, fun a => by rw [← e]; exact is_yes D HB.out a hy⟩
      have HNOT : Hid (is = false → ∀ a, MoveIs D t L a 7 k (if false then 1 else 0) (folTo t.size ab)) := fun hi a => by
        refine is_no D HB.out a (fun y hy e => ?_) hA
        have := hI.2 ⟨y, hy, e⟩
        rw [hi] at this
        cases this
      clear hge hge2 hA hBl hI HS HIS
      rcases hab with rfl | hab
      all_goals
        rcases hbb with rfl | hbb
      all_goals
        first | rw [if_pos hab] at FF | rw [if_neg (by decide)] at FF
        first | rw [if_pos hbb] at PP | rw [if_neg (by decide)] at PP
        cases is
      all_goals
        have hC1 := HW.out.call (WI.following wr p F D t L a k hk0 hk1 HW.out.at_ HW.out.gd HW.out.ts HW.out.cr) (fol_is D a HA.out)
        go_wp2_with fail
        refine hC1.mono ?_
        rintro e w2 ⟨rfl, hW2, hk2⟩
        have HW2 : Hid _ := hW2
        have HK2 : Hid (Kept wr w2 (fun j => j = p)) := hk2
        have hC2 := hW2.call (WI.place w2 p F D t L _ hW2.at_ hW2.gd hW2.ts hW2.cr) (place_is D t L _)
        clear hC1 hW2 hk2
        go_wp2_with fail
        refine hC2.mono ?_
        rintro e w3 ⟨rfl, hW3, hk3⟩
        have HW3 : Hid _ := hW3
        have HK3 : Hid (Kept wr w3 (fun j => j = p)) := HK2.out.trans hk3 (fun _ e => .inl e)
        have hC3 := hW3.call (WI.preceding w3 p F D t L _ k hk0 hk1 hW3.at_ hW3.gd hW3.ts hW3.cr) (pre_is D _ HBL.out)
        clear hC2 hW3 hk3 HW2 HK2
        rw [FF]
        have q0 : ((t.size : Int) != (t.size : Int)) = false := by simp
        first | (have q1 : (ab == -1) = false := beq_eq_false_iff_ne.2 (by omega)) | skip
        first | (have q2 : (ab != -1) = true := bne_iff_ne.2 (by omega)) | skip
        first | (have q3 : (ab != ab) = false := by simp) | skip
        first | (have q4 : (be == -1) = false := beq_eq_false_iff_ne.2 (by omega)) | skip
        first | (have q5 : (be != -1) = true := bne_iff_ne.2 (by omega)) | skip
        first | (have q6 : (be != be) = false := by simp) | skip
        go_wp2_with fail
        refine hC3.mono ?_
        rintro e w4 ⟨rfl, hW4, hk4⟩
        have HW4 : Hid _ := hW4
        have HK4 : Hid (Kept wr w4 (fun j => j = p)) := HK3.out.trans hk4 (fun _ e => .inl e)
        have hC4 := hW4.call (WI.place w4 p F D t L _ hW4.at_ hW4.gd hW4.ts hW4.cr) (place_is D t L _)
        clear hC3 hW4 hk4 HW3 HK3
        go_wp2_with fail
        refine hC4.mono ?_
        rintro e w5 ⟨rfl, hW5, hk5⟩
        have HW5 : Hid _ := hW5
        have HK5 : Hid (Kept wr w5 (fun j => j = p)) := HK4.out.trans hk5 (fun _ e => .inl e)
        rw [PP]
        clear hC4 hk5 HW4 HK4
      all_goals
        first
          | (obtain ⟨y, hy, hyes⟩ := HYES.out (by trivial)
             have hC5 := HW5.out.callIs (y2 := true) (WI.is w5 p F D t L _ k hk0 hk1 HW5.out.at_ HW5.out.gd HW5.out.ts HW5.out.cr) (hyes _)
             have hyk : ((y : Int) == k) = true := beq_iff_eq.2 hy
             clear hyes
             go_wp2_with fail
             refine hC5.mono ?_
             rintro e w6 ⟨rfl, hW6, hk6⟩
             have HW6 : Hid _ := hW6
             have HK6 : Hid (Kept wr w6 (fun j => j = p)) := HK5.out.trans hk6 (fun _ e => .inl e)
             have hC6 := hW6.call (WI.place w6 p F D t L _ hW6.at_ hW6.gd hW6.ts hW6.cr) (place_is D t L _)
             clear hC5 hk6 hW6 hW5 HW5 HK5
             go_wp2_with fail
             refine hC6.mono ?_
             rintro e w7 ⟨rfl, hW7, hk7⟩
             have HW7 : Hid _ := hW7
             have HK7 : Hid (Kept wr w7 (fun j => j = p)) := HK6.out.trans hk7 (fun _ e => .inl e)
             clear hC6 hk7 hW7 HW6 HK6
             go_wp2
             go_ret
             exact ⟨rfl, ⟨_, HW7.out⟩, HK7.out⟩)
          | (have hno := HNOT.out (by trivial)
             have hC5 := HW5.out.callIs (y2 := false) (WI.is w5 p F D t L _ k hk0 hk1 HW5.out.at_ HW5.out.gd HW5.out.ts HW5.out.cr) (hno _)
             clear hno
             go_wp2_with fail
             refine hC5.mono ?_
             rintro e w6 ⟨rfl, hW6, hk6⟩
             have HW6 : Hid _ := hW6
             have HK6 : Hid (Kept wr w6 (fun j => j = p)) := HK5.out.trans hk6 (fun _ e => .inl e)
             have hC6 := hW6.call (WI.place w6 p F D t L _ hW6.at_ hW6.gd hW6.ts hW6.cr) (place_is D t L _)
             clear hC5 hk6 hW6 hW5 HW5 HK5
             go_wp2_with fail
             refine hC6.mono ?_
             rintro e w7 ⟨rfl, hW7, hk7⟩
             have HW7 : Hid _ := hW7
             have HK7 : Hid (Kept wr w7 (fun j => j = p)) := HK6.out.trans hk7 (fun _ e => .inl e)
             rw [FF]
             have q7 : ((t.size : Int) == (t.size : Int)) = true := beq_self_eq_true _
             first | (have q8 : (ab == ab) = true := beq_self_eq_true _) | skip
             clear hC6 hk7 hW7 HW6 HK6
             go_wp2
             go_ret
             exact ⟨rfl, ⟨_, HW7.out⟩, HK7.out⟩)

end Go.Proofs.YtlfpepehngkehabDoor
