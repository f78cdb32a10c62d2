/-
  Walks: begin, move, and the law's own loop.
-/
import Derived.Test.YtlfpepehngkehaaGreatLawWalk
namespace Go.Proofs.YtlfpepehngkehaaGreat
set_option linter.unusedSimpArgs false
set_option linter.unusedVariables false
open Go.RowKit

/-- a walk on both sides: X: the law's pair; p: the program's walk; P: the reference's. -/
structure BothAt (WI : WalkIfAll) (w : World) (X p P B : Nat) (F : Nat → Prop) (D : Dic) (Wv Cv lv : Value) (t : ByteArray) (l : List Nat) (a : Nat) : Prop where
  c0 : w.cell? ⟨X, 0, none⟩ = some (.pointer (some ⟨p, 0, none⟩))
  c1 : w.cell? ⟨X, 1, none⟩ = some (.pointer (some ⟨P, 0, none⟩))
  at_ : WI.At w p F D t l a
  ref : RWalk w P B D Wv Cv lv t l a
  gd : GoodDic D
  ts : t.size ≤ 500
  cr : CutRes D t l
  fP : ¬ F P
  pB : p ≠ B
  pW : Wv.ownBlock ≠ some p
  pC : Cv.ownBlock ≠ some p
  pl : lv.ownBlock ≠ some p
  xp : X ≠ p
  xP : X ≠ P

def BothGot (WI : WalkIfAll) (w w' : World) (X p P B : Nat) (F : Nat → Prop) (D : Dic) (Wv Cv lv : Value) (t : ByteArray) (l : List Nat) (e : Ending) : Prop :=
  e = .returned (.bool true) ∧ (∃ a, BothAt WI w' X p P B F D Wv Cv lv t l a) ∧ Kept w w' (fun j => j = p ∨ j = P)

set_option maxHeartbeats 1000000 in
theorem lawMove_any (WI : WalkIfAll) (w : World) (X p P B : Nat) (F : Nat → Prop) (D : Dic) (Wv Cv lv : Value) (t : ByteArray) (l : List Nat) (a : Nat) (kind k : Int) (hk0 : -9223372036854775808 ≤ k) (hk1 : k ≤ 9223372036854775807) (h : BothAt WI w X p P B F D Wv Cv lv t l a) :
    Calls Tryz.prog 11 #[.pointer (some ⟨X, 0, none⟩), .int .i64 kind, .int .i64 k] w fun e w' => BothGot WI w w' X p P B F D Wv Cv lv t l e := by
  have hc0 := h.c0
  have HH : Hid (BothAt WI w X p P B F D Wv Cv lv t l a) := h
  have hC := moved_any WI w p F D t l a kind k hk0 hk1 h.at_ h.gd h.ts h.cr
  clear h
  go_enter Tryz.func11, Tryz.ntmps11
  go_wp2_with fail
  refine hC.mono ?_
  rintro e w1 ⟨r, a1, rfl, hm, hA1, hK1⟩
  have hp : p < w.heap.size := WI.lt HH.out.at_ p (WI.own HH.out.at_).1
  have hX : X < w.heap.size := cell_lt hc0
  have hpP : p ≠ P := fun e => HH.out.fP (e ▸ (WI.own HH.out.at_).1)
  have c0' : w1.cell? ⟨X, 0, none⟩ = some (.pointer (some ⟨p, 0, none⟩)) := (hK1.cell (p := ⟨X, 0, none⟩) hX HH.out.xp).trans HH.out.c0
  have c1' : w1.cell? ⟨X, 1, none⟩ = some (.pointer (some ⟨P, 0, none⟩)) := (hK1.cell (p := ⟨X, 1, none⟩) hX HH.out.xp).trans HH.out.c1
  have hR1 : RWalk w1 P B D Wv Cv lv t l a := HH.out.ref.kept hK1 (fun e => hpP e.symm) (fun e => HH.out.pB e.symm) (fun k e e2 => HH.out.pW (e2 ▸ e)) (fun k e e2 => HH.out.pC (e2 ▸ e)) (fun k e e2 => HH.out.pl (e2 ▸ e))
  have hC2 := move_any w1 P B D Wv Cv lv t l a hR1 (good_words HH.out.gd).2.1 HH.out.ts (by have := HH.out.cr.length HH.out.gd HH.out.ts; omega) (HH.out.cr.bounds HH.out.gd) (WI.own HH.out.at_).2 kind k hk0 hk1
  have HM : Hid (MoveIs D t l a kind k r a1) := hm
  have HA : Hid (WI.At w1 p F D t l a1) := hA1
  have HK : Hid (Kept w w1 (fun j => j = p)) := hK1
  clear hC hm hA1 hK1 hR1
  go_wp2_with fail
  refine hC2.mono ?_
  rintro e w2 ⟨r2, a2, rfl, hm2, hR2, hK2⟩
  obtain ⟨e1, e2⟩ := hm2.unique HM.out
  subst e1 e2
  have te : (r2 == r2) = true := beq_self_eq_true _
  have HE : Hid (BothGot WI w w2 X p P B F D Wv Cv lv t l (.returned (.bool true))) := by
    refine ⟨rfl, ⟨a2, ?_⟩, ?_⟩
    · have hX1 : X < w1.heap.size := by have := HK.out.size; omega
      exact ⟨(hK2.cell (p := ⟨X, 0, none⟩) hX1 HH.out.xP).trans c0', (hK2.cell (p := ⟨X, 1, none⟩) hX1 HH.out.xP).trans c1', WI.kept HA.out hK2 (fun j hj e => HH.out.fP (e ▸ hj)), hR2, HH.out.gd, HH.out.ts, HH.out.cr, HH.out.fP, HH.out.pB, HH.out.pW, HH.out.pC, HH.out.pl, HH.out.xp, HH.out.xP⟩
    · exact (HK.out.mono (T := fun j => j = p ∨ j = P) (fun i hi => .inl (.inl hi))).trans hK2 (fun i hi => .inl (.inr hi))
  clear hC2 hm2 hR2 hK2 HM HA HK c0' c1'
  go_wp2
  go_ret
  exact HE.out

/-- a walk has begun: what it lies in is new, or the dictionary's. -/
structure Begun (WI : WalkIfAll) (w w' : World) (b B : Nat) (v Wv Cv : Value) (D : Dic) (t : ByteArray) (X p P : Nat) (F : Nat → Prop) (lv : Value) (l : List Nat) : Prop where
  both : BothAt WI w' X p P B F D Wv Cv lv t l 0
  p0 : w.heap.size ≤ p
  P0 : w.heap.size ≤ P
  X0 : w.heap.size ≤ X
  l0 : ∀ k, lv.ownBlock = some k → w.heap.size ≤ k
  F0 : ∀ j, F j → w.heap.size ≤ j ∨ j = b ∨ v.ownBlock = some j

def BegunGot (WI : WalkIfAll) (w w' : World) (b B : Nat) (v Wv Cv : Value) (D : Dic) (t : ByteArray) (e : Ending) : Prop :=
  (e = .returned (.tuple #[.pointer none, .bool true]) ∨ ∃ X p P F lv l, e = .returned (.tuple #[.pointer (some ⟨X, 0, none⟩), .bool true]) ∧ Begun WI w w' b B v Wv Cv D t X p P F lv l) ∧ Below w.heap.size w w'

theorem cells2 (w : World) (x y : Value) (t : TypeId) : (w.alloc (.cells #[x, y] t)).cell? ⟨w.heap.size, 0, none⟩ = some x ∧ (w.alloc (.cells #[x, y] t)).cell? ⟨w.heap.size, 1, none⟩ = some y := by
  refine ⟨?_, ?_⟩
  · rw [World.cell?_alloc_at _ _ _ _ rfl]; rfl
  · rw [World.cell?_alloc_at _ _ _ _ rfl]; rfl

set_option maxHeartbeats 2000000 in
set_option maxRecDepth 20000 in
theorem lawBegin_any (WI : WalkIfAll) (w : World) (P : Nat) (D : Dic) (b B : Nat) (v Wv Cv : Value) (s : ByteArray) (hs : s.size ≤ maxLen) (hP : PairIn w P D b B v Wv Cv) :
    Calls Tryz.prog 31 #[.pointer (some ⟨P, 0, none⟩), .string s] w fun e w' => BegunGot WI w w' b B v Wv Cv D s e := by
  obtain ⟨h1, h2, h3, h4, hg⟩ := hP
  have HB : Hid (BookAt w B D Wv Cv) := h4
  have HG : Hid (GoodDic D) := hg
  by_cases h500 : s.size ≤ 500
  · have HCC := WI.begin w b v D s h500 hg h3
    clear h3 h4 hg
    go_enter Tryz.func31, Tryz.ntmps31
    go_wp2_with fail
    refine HCC.mono ?_
    rintro e w1 ⟨p, F, l, rfl, hl, hA, hp, hF, hb1⟩
    have h1' : w1.cell? ⟨P, 0, none⟩ = some (.pointer (some ⟨b, 0, none⟩)) := (hb1.cell (p := ⟨P, 0, none⟩) (cell_lt h1)).trans h1
    have h2' : w1.cell? ⟨P, 1, none⟩ = some (.pointer (some ⟨B, 0, none⟩)) := (hb1.cell (p := ⟨P, 1, none⟩) (cell_lt h2)).trans h2
    have HB1 : Hid (BookAt w1 B D Wv Cv) := HB.out.kept (Kept.of_below hb1 (fun _ => False)) id (fun _ _ e => e) (fun _ _ e => e)
    have HL : Hid (CutRes D s l) := hl
    have HA : Hid (WI.At w1 p F D s l 0) := hA
    have HBB : Hid (Below w.heap.size w w1) := hb1
    have HFF : Hid (∀ j, F j → w.heap.size ≤ j ∨ j = b ∨ v.ownBlock = some j) := hF
    clear h1 h2 hl hF hA HCC hb1
    go_wp2_with fail
    refine (begin_any w1 B D Wv Cv HB1.out HG.out s h500).mono ?_
    rintro e w2 ⟨⟨R, lv, l', rfl, hl', hR, hR1, hlv⟩, hb2⟩
    obtain rfl : l' = l := CutTo.unique hl' HL.out
    have HE : Hid (BegunGot WI w (w2.alloc (.cells #[.pointer (some ⟨p, 0, none⟩), .pointer (some ⟨R, 0, none⟩)] 69)) b B v Wv Cv D s (.returned (.tuple #[.pointer (some ⟨w2.heap.size, 0, none⟩), .bool true]))) := by
      have hb : Below w.heap.size w w2 := HBB.out.trans (hb2.mono HBB.out.size)
      have hs2 : Same w2 (w2.alloc (.cells #[.pointer (some ⟨p, 0, none⟩), .pointer (some ⟨R, 0, none⟩)] 69)) := (Same.refl w2).alloc _
      obtain ⟨x0, x1⟩ := cells2 w2 (.pointer (some ⟨p, 0, none⟩)) (.pointer (some ⟨R, 0, none⟩)) 69
      have hpF := (WI.own HA.out).1
      have hp1 : p < w1.heap.size := WI.lt HA.out p hpF
      have hR2 : R < w2.heap.size := cell_lt hR.c0
      have hBw : B < w.heap.size := cell_lt HB.out.c0
      have hz1 := HBB.out.size
      have hz2 := hb2.size
      refine ⟨.inr ⟨w2.heap.size, p, R, F, lv, l', rfl, ⟨⟨x0, x1, WI.kept (WI.kept HA.out (Kept.of_below hb2 (fun _ => False)) (fun _ _ e => e)) hs2 (fun _ _ e => e), hR.same hs2, HG.out, h500, HL.out, fun hF => by have := WI.lt HA.out R hF; omega, by omega, fun e => by have := (HB.out.ow.lt _ e).2; omega, fun e => by have := (HB.out.oc.lt _ e).2; omega, fun e => by have := hlv _ e; omega, by omega, by omega⟩, hp, by omega, by omega, fun k e => by have := hlv k e; omega, HFF.out⟩⟩, hb.alloc hb.size _⟩
    clear hl' hR hlv hb2 HB1 HL HA
    go_wp2
    go_ret2
    exact HE.out
  · have HCC := WI.beginLong w b v D s (by omega) hs h3
    clear h3 h4 hg
    go_enter Tryz.func31, Tryz.ntmps31
    go_wp2_with fail
    refine HCC.mono ?_
    rintro e w1 ⟨rfl, hb1⟩
    have h1' : w1.cell? ⟨P, 0, none⟩ = some (.pointer (some ⟨b, 0, none⟩)) := (hb1.cell (p := ⟨P, 0, none⟩) (cell_lt h1)).trans h1
    have h2' : w1.cell? ⟨P, 1, none⟩ = some (.pointer (some ⟨B, 0, none⟩)) := (hb1.cell (p := ⟨P, 1, none⟩) (cell_lt h2)).trans h2
    clear h1 h2 HCC
    go_wp2_with fail
    refine (beginLong_any w1 B s (by omega) hs).mono ?_
    rintro e w2 ⟨rfl, rfl⟩
    go_wp2
    go_ret2
    exact ⟨.inl rfl, hb1⟩

end Go.Proofs.YtlfpepehngkehaaGreat
