/-
  Walks: the reference's walk: Move, Begin.
-/
import Derived.Test.YtlfpepehngkehaaGreatRefWalkB
import Derived.Test.YtlfpepehngkehaaGreatRefLong
import Derived.Deep.CutBlock
namespace Go.Proofs.YtlfpepehngkehaaGreat
set_option linter.unusedSimpArgs false
set_option linter.unusedVariables false
open Go.RowKit

def MoveRes (D : Dic) (t : ByteArray) (l : List Nat) (a : Nat) (kind k : Int) (P B : Nat) (Wv Cv lv : Value) (w w' : World) (e : Ending) : Prop :=
  ∃ (r : Int) (a' : Nat), e = .returned (.int .i64 r) ∧ MoveIs D t l a kind k r a' ∧ RWalk w' P B D Wv Cv lv t l a' ∧ Kept w w' (fun b => b = P)

def WantRel (l : List Nat) (n a : Nat) (kind k : Int) (w : World) (v : Value) (wx : World) : Prop := ∃ x : Int, v = .int .i64 x ∧ WantsTo l n a kind k x ∧ wx = w

theorem beqf {a b : Int} (h : ¬ a = b) : (a == b) = false := by rw [beq_eq_false_iff_ne]; exact h

theorem goes_pos {n a : Nat} {kind : Int} (y : Nat) : ((y : Nat) : Int) = goesTo n a kind (y : Int) := by unfold goesTo; rw [if_pos (by omega)]
theorem goes_neg {n a : Nat} {kind x : Int} (h : ¬ 0 ≤ x) : goesTo n a kind x = if kind = 5 ∨ kind = 7 then (n : Int) else if kind = 6 then 0 else a := by unfold goesTo; rw [if_neg h]

set_option maxHeartbeats 4000000 in
set_option maxRecDepth 100000 in
theorem move_any (w : World) (P B : Nat) (D : Dic) (Wv Cv lv : Value) (t : ByteArray) (l : List Nat) (a : Nat) (h : RWalk w P B D Wv Cv lv t l a) (hD : D.length ≤ 150) (ht : t.size ≤ 500) (hl : l.length ≤ 1000) (hb : Bounds l t.size) (ha : a ≤ t.size) (kind k : Int) (hk0 : -9223372036854775808 ≤ k) (hk1 : k ≤ 9223372036854775807) :
    Calls Tryz.prog 23 #[.pointer (some ⟨P, 0, none⟩), .int .i64 kind, .int .i64 k] w fun e w' => MoveRes D t l a kind k P B Wv Cv lv w w' e := by
  have hc1 := h.c1
  have hc3 := h.c3
  have hfz := h.fz
  have HW : Hid (RWalk w P B D Wv Cv lv t l a) := h
  clear h
  by_cases k8 : kind = 8
  · subst k8
    go_enter Tryz.func23, Tryz.ntmps23
    go_wp2_with fail
    refine (kind_any w P B D Wv Cv lv t l a HW.out hD ht hl hb ha).mono ?_
    rintro e w2 ⟨⟨r, rfl, hr⟩, hs⟩
    have HR : Hid (MoveRes D t l a 8 k P B Wv Cv lv w w2 (.returned (.int .i64 r))) := ⟨r, a, rfl, .inl ⟨rfl, hr, rfl⟩, HW.out.same hs, Kept.mono hs fun _ e => e.elim⟩
    clear hr hs
    go_wp2_with fail
    go_ret
    exact HR.out
  · have e8 := beqf k8
    go_enter Tryz.func23, Tryz.ntmps23
    go_upto_block 0 with fail
    go_cut [7] (fun v wx => WantRel l t.size a kind k w v wx)
    case first =>
      by_cases k1 : kind = 1
      · subst k1
        go_wp2_with fail
        go_meet
        exact ⟨0, rfl, by unfold WantsTo; simp, rfl⟩
      · have e1 := beqf k1
        by_cases k2 : kind = 2
        · subst k2
          go_wp2_with fail
          go_meet
          exact ⟨t.size, rfl, by unfold WantsTo; simp, rfl⟩
        have e2 := beqf k2
        by_cases k3 : kind = 3
        · subst k3
          go_wp2_with fail
          refine (above_any w P B D Wv Cv lv t l a HW.out hl a).mono ?_
          rintro e w ⟨⟨r, rfl, hr⟩, rfl⟩
          have HR : Hid (WantsTo l t.size a 3 k r) := by show WantsTo _ _ _ _ _ _; unfold WantsTo; simp; exact hr
          clear hr
          go_wp2_with fail
          go_meet
          exact ⟨r, rfl, HR.out, rfl⟩
        have e3 := beqf k3
        by_cases k4 : kind = 4
        · subst k4
          go_wp2_with fail
          refine (below_any w P B D Wv Cv lv t l a HW.out hl a).mono ?_
          rintro e w ⟨⟨r, rfl, hr⟩, rfl⟩
          have HR : Hid (WantsTo l t.size a 4 k r) := by show WantsTo _ _ _ _ _ _; unfold WantsTo; simp; exact hr
          clear hr
          go_wp2_with fail
          go_meet
          exact ⟨r, rfl, HR.out, rfl⟩
        have e4 := beqf k4
        by_cases k5 : kind = 5
        · subst k5
          go_wp2_with fail
          refine (above_any w P B D Wv Cv lv t l a HW.out hl k).mono ?_
          rintro e w ⟨⟨r, rfl, hr⟩, rfl⟩
          have HR : Hid (WantsTo l t.size a 5 k r) := by show WantsTo _ _ _ _ _ _; unfold WantsTo; simp; exact hr
          clear hr
          go_wp2_with fail
          go_meet
          exact ⟨r, rfl, HR.out, rfl⟩
        have e5 := beqf k5
        by_cases k6 : kind = 6
        · subst k6
          go_wp2_with fail
          refine (below_any w P B D Wv Cv lv t l a HW.out hl k).mono ?_
          rintro e w ⟨⟨r, rfl, hr⟩, rfl⟩
          have HR : Hid (WantsTo l t.size a 6 k r) := by show WantsTo _ _ _ _ _ _; unfold WantsTo; simp; exact hr
          clear hr
          go_wp2_with fail
          go_meet
          exact ⟨r, rfl, HR.out, rfl⟩
        have e6 := beqf k6
        by_cases k7 : kind = 7
        · subst k7
          by_cases hp : 0 < k
          · have hw1 : IntKind.i64.wrap (k - 1) = k - 1 := by rw [IntKind.wrap_i64]; omega
            go_wp2_with fail
            refine (above_any w P B D Wv Cv lv t l a HW.out hl (k - 1)).mono ?_
            rintro e w ⟨⟨r, rfl, hr⟩, rfl⟩
            have HR : Hid (WantsTo l t.size a 7 k r) := by show WantsTo _ _ _ _ _ _; unfold WantsTo; simp [hp]; exact hr
            clear hr
            go_wp2_with fail
            go_meet
            exact ⟨r, rfl, HR.out, rfl⟩
          · by_cases hz : k = 0
            · subst hz
              go_wp2_with fail
              refine (above_any w P B D Wv Cv lv t l a HW.out hl 0).mono ?_
              rintro e w ⟨⟨r, rfl, hr⟩, rfl⟩
              clear hr
              go_wp2_with fail
              go_meet
              exact ⟨0, rfl, by unfold WantsTo; simp, rfl⟩
            · have ez := beqf hz
              go_wp2_with fail
              refine (above_any w P B D Wv Cv lv t l a HW.out hl k).mono ?_
              rintro e w ⟨⟨r, rfl, hr⟩, rfl⟩
              have HR : Hid (WantsTo l t.size a 7 k r) := by show WantsTo _ _ _ _ _ _; unfold WantsTo; simp [hz]; rw [if_neg (Int.not_lt.2 hp)]; exact hr
              clear hr
              go_wp2_with fail
              go_meet
              exact ⟨r, rfl, HR.out, rfl⟩
        have e7 := beqf k7
        have HR : Hid (WantsTo l t.size a kind k a) := by show WantsTo _ _ _ _ _ _; unfold WantsTo; simp [k1, k2, k3, k4, k5, k6, k7]
        clear k1 k2 k3 k4 k5 k6 k7 k8
        go_wp2_with fail
        go_meet
        exact ⟨a, rfl, HR.out, rfl⟩
    case rest =>
      obtain ⟨x, rfl, hx, rfl⟩ := hcut
      have HX : Hid (WantsTo l t.size a kind k x) := hx
      clear hx
      by_cases hx0 : 0 ≤ x
      · obtain ⟨y, rfl⟩ : ∃ y : Nat, x = (y : Int) := ⟨x.toNat, by omega⟩
        obtain ⟨m1, m2⟩ := HW.out.move y
        have HM1 : Hid (RWalk (wc.setCell ⟨P, 3, none⟩ (.int .i64 y)) P B D Wv Cv lv t l y) := m1
        have HM2 : Hid (Kept wc (wc.setCell ⟨P, 3, none⟩ (.int .i64 y)) (fun b => b = P)) := m2
        clear m1 m2
        by_cases k7 : kind = 7
        · by_cases hyk : (y : Int) = k
          · have HR : Hid (MoveRes D t l a kind k P B Wv Cv lv wc (wc.setCell ⟨P, 3, none⟩ (.int .i64 y)) (.returned (.int .i64 1))) :=
              ⟨1, y, rfl, .inr ⟨k8, y, HX.out, goes_pos y, by rw [if_pos k7, if_pos ⟨hyk, by omega⟩]⟩, HM1.out, HM2.out⟩
            subst hyk
            subst k7
            go_wp2_with fail
            go_ret
            exact HR.out
          · have eyk := beqf hyk
            have HR : Hid (MoveRes D t l a kind k P B Wv Cv lv wc (wc.setCell ⟨P, 3, none⟩ (.int .i64 y)) (.returned (.int .i64 0))) :=
              ⟨0, y, rfl, .inr ⟨k8, y, HX.out, goes_pos y, by rw [if_pos k7, if_neg (fun h => hyk h.1)]⟩, HM1.out, HM2.out⟩
            subst k7
            go_wp2_with fail
            go_ret
            exact HR.out
        · have e7 := beqf k7
          have HR : Hid (MoveRes D t l a kind k P B Wv Cv lv wc (wc.setCell ⟨P, 3, none⟩ (.int .i64 y)) (.returned (.int .i64 y))) :=
            ⟨y, y, rfl, .inr ⟨k8, y, HX.out, goes_pos y, by rw [if_neg k7]⟩, HM1.out, HM2.out⟩
          clear k7 k8
          go_wp2_with fail
          go_ret
          exact HR.out
      · by_cases k7 : kind = 7
        · obtain ⟨m1, m2⟩ := HW.out.move t.size
          have HR : Hid (MoveRes D t l a kind k P B Wv Cv lv wc (wc.setCell ⟨P, 3, none⟩ (.int .i64 t.size)) (.returned (.int .i64 0))) :=
            ⟨0, t.size, rfl, .inr ⟨k8, x, HX.out, by rw [goes_neg hx0, if_pos (.inr k7)], by rw [if_pos k7, if_neg (fun h => by omega)]⟩, m1, m2⟩
          clear m1 m2
          subst k7
          by_cases hyk : x = k
          · subst hyk
            go_wp2_with fail
            go_ret
            exact HR.out
          · have eyk := beqf hyk
            go_wp2_with fail
            go_ret
            exact HR.out
        · have e7 := beqf k7
          by_cases k5 : kind = 5
          · obtain ⟨m1, m2⟩ := HW.out.move t.size
            have HR : Hid (MoveRes D t l a kind k P B Wv Cv lv wc (wc.setCell ⟨P, 3, none⟩ (.int .i64 t.size)) (.returned (.int .i64 x))) :=
              ⟨x, t.size, rfl, .inr ⟨k8, x, HX.out, by rw [goes_neg hx0, if_pos (.inl k5)], by rw [if_neg k7]⟩, m1, m2⟩
            clear m1 m2
            subst k5
            go_wp2_with fail
            go_ret
            exact HR.out
          · have e5 := beqf k5
            by_cases k6 : kind = 6
            · obtain ⟨m1, m2⟩ := HW.out.move 0
              have HR : Hid (MoveRes D t l a kind k P B Wv Cv lv wc (wc.setCell ⟨P, 3, none⟩ (.int .i64 0)) (.returned (.int .i64 x))) :=
                ⟨x, 0, rfl, .inr ⟨k8, x, HX.out, by rw [goes_neg hx0, if_neg (fun h => by omega), if_pos k6]; rfl, by rw [if_neg k7]⟩, m1, m2⟩
              clear m1 m2
              subst k6
              go_wp2_with fail
              go_ret
              exact HR.out
            · have e6 := beqf k6
              have HR : Hid (MoveRes D t l a kind k P B Wv Cv lv wc wc (.returned (.int .i64 x))) :=
                ⟨x, a, rfl, .inr ⟨k8, x, HX.out, by rw [goes_neg hx0, if_neg (fun h => by omega), if_neg k6], by rw [if_neg k7]⟩, HW.out, Kept.refl _ _⟩
              clear k5 k6 k7 k8
              go_wp2_with fail
              go_ret
              exact HR.out

def BeginRes (D : Dic) (t : ByteArray) (B : Nat) (Wv Cv : Value) (w w' : World) (e : Ending) : Prop :=
  (∃ P lv l, e = .returned (.tuple #[.pointer (some ⟨P, 0, none⟩), .int .i64 0]) ∧ CutTo D t t.size l ∧ RWalk w' P B D Wv Cv lv t l 0 ∧ w.heap.size ≤ P ∧ ∀ k, lv.ownBlock = some k → w.heap.size ≤ k) ∧ Below w.heap.size w w'

theorem cells4 (w : World) (x y z u : Value) (t : TypeId) : let W := w.alloc (.cells #[x, y, z, u] t)
    W.cell? ⟨w.heap.size, 0, none⟩ = some x ∧ W.cell? ⟨w.heap.size, 1, none⟩ = some y ∧ W.cell? ⟨w.heap.size, 2, none⟩ = some z ∧ W.cell? ⟨w.heap.size, 3, none⟩ = some u ∧ ∀ o, W.frozen? ⟨w.heap.size, o, none⟩ = false := by
  refine ⟨?_, ?_, ?_, ?_, fun o => ?_⟩
  · rw [World.cell?_alloc_at _ _ _ _ rfl]; rfl
  · rw [World.cell?_alloc_at _ _ _ _ rfl]; rfl
  · rw [World.cell?_alloc_at _ _ _ _ rfl]; rfl
  · rw [World.cell?_alloc_at _ _ _ _ rfl]; rfl
  · simp

theorem RWalk.new {w w1 : World} {B : Nat} {D : Dic} {Wv Cv lv : Value} {t : ByteArray} {l : List Nat} {base : Nat} (tt : TypeId) (hB : BookAt w1 B D Wv Cv) (hr : w1.ownsRow base 3 1 lv l.length (intCells l)) :
    RWalk (w1.alloc (.cells #[.pointer (some ⟨B, 0, none⟩), .string t, lv, .int .i64 0] tt)) w1.heap.size B D Wv Cv lv t l 0 := by
  obtain ⟨c0, c1, c2, c3, fz⟩ := cells4 w1 (.pointer (some ⟨B, 0, none⟩)) (.string t) lv (.int .i64 0) tt
  have hs : Same w1 (w1.alloc (.cells #[.pointer (some ⟨B, 0, none⟩), .string t, lv, .int .i64 0] tt)) := (Same.refl w1).alloc _
  have hlt : B < w1.heap.size := cell_lt hB.c0
  exact ⟨c0, c1, c2, c3, fz, hs.book hB, row_base (hs.row hr) (Nat.zero_le _), by omega, fun e => by have := (hB.ow.lt _ e).2; omega, fun e => by have := (hB.oc.lt _ e).2; omega, fun e => by have := (hr.lt _ e).2; omega⟩

set_option maxHeartbeats 1000000 in
theorem begin_any (w : World) (B : Nat) (D : Dic) (Wv Cv : Value) (hB : BookAt w B D Wv Cv) (hD : GoodDic D) (t : ByteArray) (ht : t.size ≤ 500) :
    Calls Tryz.prog 64 #[.pointer (some ⟨B, 0, none⟩), .string t] w fun e w' => BeginRes D t B Wv Cv w w' e := by
  have HB : Hid (BookAt w B D Wv Cv) := hB
  clear hB
  go_enter Tryz.func64, Tryz.ntmps64
  go_wp2_with fail
  refine (refCut_any w B D Wv Cv HB.out hD t ht).mono ?_
  rintro e w1 ⟨⟨v, l, rfl, hc, hr⟩, hb⟩
  have HB1 : BookAt w1 B D Wv Cv := Same.book (Kept.of_below hb (fun _ => False)) HB.out
  obtain ⟨av, cv, rfl, _⟩ := row_form hr
  have HR : Hid (BeginRes D t B Wv Cv w (w1.alloc (.cells #[.pointer (some ⟨B, 0, none⟩), .string t, .slice av l.length cv, .int .i64 0] 107)) (.returned (.tuple #[.pointer (some ⟨w1.heap.size, 0, none⟩), .int .i64 0]))) :=
    ⟨⟨w1.heap.size, _, l, rfl, hc, RWalk.new (w := w) _ HB1 hr, hb.size, fun k e => (hr.lt k e).1⟩, hb.alloc hb.size _⟩
  clear hc hr HB1 hb
  go_wp2
  go_ret2
  exact HR.out

set_option maxHeartbeats 1000000 in
theorem beginLong_any (w : World) (B : Nat) (t : ByteArray) (ht : 500 < t.size) (hm : t.size ≤ maxLen) :
    Calls Tryz.prog 64 #[.pointer (some ⟨B, 0, none⟩), .string t] w fun e w' => e = .returned (.tuple #[.pointer none, .int .i64 1]) ∧ w' = w := by
  go_enter Tryz.func64, Tryz.ntmps64
  go_wp2_with fail
  refine (refCutLong_any w B t ht hm).mono ?_
  rintro e w1 ⟨rfl, rfl⟩
  go_wp2
  go_ret2
  exact ⟨rfl, rfl⟩

end Go.Proofs.YtlfpepehngkehaaGreat
