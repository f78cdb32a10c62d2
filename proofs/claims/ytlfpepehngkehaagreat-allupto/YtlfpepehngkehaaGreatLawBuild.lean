/-
  Walks: what was built, on both sides.
-/
import Derived.Test.YtlfpepehngkehaaGreatRefBuild
import Derived.Test.YtlfpepehngkehaaGreatLawW
import Derived.Test.YtlfpepehngkehaaGreatPrefixW
import Derived.Test.YtlfpepehngkehaaGreatRefPrefix
import Derived.Test.YtlfpepehngkehaaGreatMaths
namespace Go.Proofs.YtlfpepehngkehaaGreat
set_option linter.unusedSimpArgs false
set_option linter.unusedVariables false
open Go.RowKit

set_option maxHeartbeats 1000000 in
set_option maxRecDepth 20000 in
theorem refBuild_many (w : World) (a : Option Addr) (cap n : Nat) (h8 : 8 < n) (hn : n ≤ 140737488355328) :
    Calls Tryz.prog 17 #[.slice a n cap] w fun e w' => e = .returned (.tuple #[.pointer none, .int .i64 4]) ∧ w' = w := by
  have hgt : (8 : Int) < (n : Int) := by omega
  go_enter Tryz.func17, Tryz.ntmps17
  go_wp2
  go_ret2
  exact ⟨rfl, rfl⟩

theorem set_kept {w w' : World} {t : TypeId} {b : Nat} {v : Value} {D : Dic} {S : Nat → Prop} (h : SetAt w t b v D) (hk : Kept w w' S) (hb : ¬ S b) (hv : ∀ k, v.ownBlock = some k → ¬ S k) : SetAt w' t b v D := by
  have hl : b < w.heap.size := cell_lt h.cell
  exact ⟨(hk.cell (p := ⟨b, 0, none⟩) hl hb).trans h.cell, (hk.frozen (p := ⟨b, 0, none⟩) hl hb).trans h.frz, Kept.row h.own hk hv, h.ne⟩

theorem refBuild_no (w : World) (a : Option Addr) (cap : Nat) (ss : List ByteArray) (hA : StrsAt w a ss) (hn : ss.length ≤ 140737488355328) (err : Int) (h : BuildNo ss err) :
    Calls Tryz.prog 17 #[.slice a ss.length cap] w fun e w' => err ≠ 0 ∧ e = .returned (.tuple #[.pointer none, .int .i64 err]) ∧ Below w.heap.size w w' := by
  rcases h with ⟨h8, rfl⟩ | ⟨h8, i, E, p, hE, ⟨hl, hr⟩, hne⟩ | ⟨h8, E, D, hE, hR, h150, rfl⟩
  · refine (refBuild_many w a cap ss.length h8 hn).mono ?_
    rintro e w' ⟨rfl, rfl⟩
    exact ⟨by decide, rfl, Below.refl _ _⟩
  · obtain ⟨F, hF, rfl⟩ := hE.parts
    refine (refBuild_any w a cap ss hA h8 i F (by omega) hF (.inr ⟨hl, err, p, hr, hne⟩)).mono ?_
    rintro e w' ⟨hres, hb⟩
    rcases hres with ⟨_, err', p', hr', _, rfl⟩ | ⟨he, _⟩
    · obtain ⟨rfl, _⟩ := hr.unique hr'
      exact ⟨hne, rfl, hb⟩
    · omega
  · obtain ⟨F, hF, rfl⟩ := hE.parts
    refine (refBuild_any w a cap ss hA h8 ss.length F (Nat.le_refl _) hF (.inl rfl)).mono ?_
    rintro e w' ⟨hres, hb⟩
    rcases hres with ⟨hl, _⟩ | ⟨_, D', hR', hx⟩
    · omega
    · obtain rfl := hR.unique hR'
      rcases hx with ⟨_, rfl⟩ | ⟨h, _⟩
      · exact ⟨by decide, rfl, hb⟩
      · omega

theorem refBuild_yes (w : World) (a : Option Addr) (cap : Nat) (ss : List ByteArray) (hA : StrsAt w a ss) (D : Dic) (h : BuildYes ss D) :
    Calls Tryz.prog 17 #[.slice a ss.length cap] w fun e w' => (∃ B Wv Cv, e = .returned (.tuple #[.pointer (some ⟨B, 0, none⟩), .int .i64 0]) ∧ BookAt w' B D Wv Cv ∧ w.heap.size ≤ B) ∧ Below w.heap.size w w' := by
  obtain ⟨h8, E, hE, hR, h150⟩ := h
  obtain ⟨F, hF, rfl⟩ := hE.parts
  refine (refBuild_any w a cap ss hA h8 ss.length F (Nat.le_refl _) hF (.inl rfl)).mono ?_
  rintro e w' ⟨hres, hb⟩
  rcases hres with ⟨hl, _⟩ | ⟨_, D', hR', hx⟩
  · omega
  · obtain rfl := hR.unique hR'
    rcases hx with ⟨h, _⟩ | ⟨_, B, Wv, Cv, rfl, hB, hge⟩
    · omega
    · exact ⟨⟨B, Wv, Cv, rfl, hB, hge⟩, hb⟩

theorem good_words {D : Dic} (h : GoodDic D) : Srt D ∧ D.length ≤ 150 ∧ (∀ p ∈ D, 1 ≤ p.1.size ∧ p.1.size ≤ 12) ∧ ∀ p ∈ D, p.2 ≤ 1000 :=
  ⟨h.2.1, h.1, fun p hp => ⟨(h.2.2 p hp).1.1, (h.2.2 p hp).1.2.1⟩, fun p hp => (h.2.2 p hp).2⟩

structure PairAt (w : World) (P : Nat) (D : Dic) : Prop where
  ex : ∃ (b B : Nat) (v Wv Cv : Value), w.cell? ⟨P, 0, none⟩ = some (.pointer (some ⟨b, 0, none⟩)) ∧ w.cell? ⟨P, 1, none⟩ = some (.pointer (some ⟨B, 0, none⟩)) ∧ SetAt w 148 b v D ∧ BookAt w B D Wv Cv
  gd : GoodDic D

theorem PairAt.below {w w' : World} {P : Nat} {D : Dic} (h : PairAt w P D) (hb : Below w.heap.size w w') : PairAt w' P D := by
  obtain ⟨⟨b, B, v, Wv, Cv, h1, h2, h3, h4⟩, hg⟩ := h
  refine ⟨⟨b, B, v, Wv, Cv, ?_, ?_, h3.below hb, h4.kept (Kept.of_below hb (fun _ => False)) id (fun _ _ e => e) (fun _ _ e => e)⟩, hg⟩
  · exact (hb.cell (p := ⟨P, 0, none⟩) (cell_lt h1)).trans h1
  · exact (hb.cell (p := ⟨P, 1, none⟩) (cell_lt h2)).trans h2

theorem yes_words {ss : List ByteArray} {D : Dic} (h : BuildYes ss D) : Srt D ∧ D.length ≤ 150 ∧ (∀ p ∈ D, 1 ≤ p.1.size ∧ p.1.size ≤ 12) ∧ ∀ p ∈ D, p.2 ≤ 1000 := good_words h.good

/-- a dictionary on both sides, with the blocks that it lies in: b, v's row: the program's; B, Wv's and Cv's rows: the reference's. -/
structure PairIn (w : World) (P : Nat) (D : Dic) (b B : Nat) (v Wv Cv : Value) : Prop where
  c0 : w.cell? ⟨P, 0, none⟩ = some (.pointer (some ⟨b, 0, none⟩))
  c1 : w.cell? ⟨P, 1, none⟩ = some (.pointer (some ⟨B, 0, none⟩))
  st : SetAt w 148 b v D
  bk : BookAt w B D Wv Cv
  gd : GoodDic D

theorem PairIn.pair {w : World} {P : Nat} {D : Dic} {b B : Nat} {v Wv Cv : Value} (h : PairIn w P D b B v Wv Cv) : PairAt w P D := ⟨⟨b, B, v, Wv, Cv, h.c0, h.c1, h.st, h.bk⟩, h.gd⟩

/-- all of its blocks are new. -/
def PairNew (lo : Nat) (w : World) (P : Nat) (D : Dic) : Prop := ∃ b B v Wv Cv, PairIn w P D b B v Wv Cv ∧ lo ≤ P ∧ lo ≤ b ∧ (∀ k, v.ownBlock = some k → lo ≤ k) ∧ lo ≤ B

theorem PairNew.pair {lo : Nat} {w : World} {P : Nat} {D : Dic} (h : PairNew lo w P D) : PairAt w P D := by
  obtain ⟨b, B, v, Wv, Cv, h, _⟩ := h
  exact h.pair

def BuiltEnd (w w' : World) (e : Ending) : Prop := e = .returned (.tuple #[.pointer none, .bool true]) ∨ ∃ P D, e = .returned (.tuple #[.pointer (some ⟨P, 0, none⟩), .bool true]) ∧ PairNew w.heap.size w' P D

/-- and: where it is refused, it must be. -/
def BuiltMore (ss : List ByteArray) (w w' : World) (e : Ending) : Prop := (e = .returned (.tuple #[.pointer none, .bool true]) ∧ ∃ err, BuildNo ss err) ∨ ∃ P D, e = .returned (.tuple #[.pointer (some ⟨P, 0, none⟩), .bool true]) ∧ PairNew w.heap.size w' P D

set_option maxHeartbeats 2000000 in
set_option maxRecDepth 20000 in
theorem built_more (w : World) (a : Option Addr) (cap : Nat) (ss : List ByteArray) (hA : StrsAt w a ss) (hn : ss.length * 16 ≤ 140737488351232) :
    Calls Tryz.prog 7 #[.slice a ss.length cap] w fun e w' => BuiltMore ss w w' e ∧ Below w.heap.size w w' := by
  have HA : Hid (StrsAt w a ss) := hA
  clear hA
  go_enter Tryz.func7, Tryz.ntmps7
  go_wp2_with fail
  refine (handed_any w a cap ss HA.out hn).mono ?_
  rintro e w1 ⟨rfl, hrow1, hb1⟩
  have HR1 : Hid (w1.ownsRow w.heap.size 9 1 (.slice (some ⟨w.heap.size, 0, none⟩) (ss.length + 2) (ss.length + 2)) (ss.length + 2) (strCells (ss ++ [markB, markB]))) := hrow1
  have hB1 : w.heap.size < w1.heap.size := (hrow1.lt w.heap.size rfl).2
  clear hrow1
  go_wp2_with fail
  refine (build_any w1 (some ⟨w.heap.size, 0, none⟩) _ ss (handed_strs HR1.out HA.out.1) (by omega)).mono ?_
  rintro e w2 ⟨hbe, hb2⟩
  have hz2 := hb2.size
  have HA2 : Hid (StrsAt w2 a ss) := (HA.out.below hb1).below hb2
  have HR2 : Hid (w2.ownsRow w.heap.size 9 1 (.slice (some ⟨w.heap.size, 0, none⟩) (ss.length + 2) (ss.length + 2)) (ss.length + 2) (strCells (ss ++ [markB, markB]))) := ownsRow_below' HR1.out hb2
  rcases hbe with ⟨err, rfl, hno⟩ | ⟨b, v, D, rfl, hyes, hS, hbb, hvb⟩
  · go_wp2_with fail
    refine (refBuild_no w2 a cap ss HA2.out (by omega) err hno).mono ?_
    rintro e w3 ⟨hne, rfl, hb3⟩
    have hz3 := hb3.size
    have HR3 : Hid (w3.ownsRow w.heap.size 9 1 (.slice (some ⟨w.heap.size, 0, none⟩) (ss.length + 2) (ss.length + 2)) (ss.length + 2) (strCells (ss ++ [markB, markB]))) := ownsRow_below' HR2.out hb3
    go_wp2_with fail
    refine (still_any w3 w.heap.size a cap ss HR3.out (HA2.out.below hb3) hn).mono ?_
    rintro e w4 ⟨rfl, hs4⟩
    have hz4 := hs4.size
    have te : (err != err) = false := by simp
    have tn : (err != 0) = true := by simpa using hne
    have HNO : Hid (BuildNo ss err) := hno
    clear hno hne
    go_wp2_with fail
    refine (over_any w4 w.heap.size ss.length (ss.length + 2) _ (ss.length + 2) (by omega) (hs4.row HR3.out) hn).mono ?_
    rintro e w5 ⟨rfl, hk5⟩
    have hbel : Below w.heap.size w w5 := ((hb1.trans (hb2.mono hb1.size)).trans ((hb3.mono (by omega)).trans (Kept.below hs4 (by omega) (fun _ e => e.elim)))).trans (hk5.below (by omega) (fun k hk => by omega))
    go_wp2
    go_ret2
    exact ⟨.inl ⟨rfl, err, HNO.out⟩, hbel⟩
  · have HD : Hid (GoodDic D) := hyes.good
    have HVB : Hid (∀ k, v.ownBlock = some k → w1.heap.size ≤ k) := hvb
    have HY : Hid (BuildYes ss D) := hyes
    have HS : Hid (SetAt w2 148 b v D) := hS
    clear hyes hS hvb
    go_wp2_with fail
    refine (refBuild_yes w2 a cap ss HA2.out D HY.out).mono ?_
    rintro e w3 ⟨⟨B, Wv, Cv, rfl, hB, hBge⟩, hb3⟩
    have hz3 := hb3.size
    have HB : Hid (BookAt w3 B D Wv Cv) := hB
    have HR3 : Hid (w3.ownsRow w.heap.size 9 1 (.slice (some ⟨w.heap.size, 0, none⟩) (ss.length + 2) (ss.length + 2)) (ss.length + 2) (strCells (ss ++ [markB, markB]))) := ownsRow_below' HR2.out hb3
    clear hB
    go_wp2_with fail
    refine (still_any w3 w.heap.size a cap ss HR3.out (HA2.out.below hb3) hn).mono ?_
    rintro e w4 ⟨rfl, hs4⟩
    have hz4 := hs4.size
    go_wp2_with fail
    refine (over_any w4 w.heap.size ss.length (ss.length + 2) _ (ss.length + 2) (by omega) (hs4.row HR3.out) hn).mono ?_
    rintro e w5 ⟨rfl, hk5⟩
    have hz5 := hk5.size
    have hbel : Below w.heap.size w w5 := ((hb1.trans (hb2.mono hb1.size)).trans ((hb3.mono (by omega)).trans (Kept.below hs4 (by omega) (fun _ e => e.elim)))).trans (hk5.below (by omega) (fun k hk => by omega))
    have HS5 : Hid (SetAt w5 148 b v D) := set_kept (set_kept (HS.out.below hb3) hs4 id (fun _ _ e => e)) hk5 (fun e => by omega) (fun k hk e => by have := HVB.out k hk; omega)
    have HB5 : Hid (BookAt w5 B D Wv Cv) := (hs4.book HB.out).kept hk5 (fun e => by omega) (fun k hk e => by have := (HB.out.ow.lt k hk).1; omega) (fun k hk e => by have := (HB.out.oc.lt k hk).1; omega)
    clear hk5
    go_wp2
    go_ret2
    refine ⟨.inr ⟨w5.heap.size, D, rfl, b, B, v, Wv, Cv, ⟨?_, ?_, HS5.out.alloc _, HB5.out.kept ((Kept.refl w5 (fun _ => False)).alloc _) id (fun _ _ e => e) (fun _ _ e => e), HD.out⟩, by omega, by omega, fun k hk => by have := HVB.out k hk; omega, by omega⟩, hbel.alloc (by omega) _⟩
    · rw [World.cell?_alloc_at _ _ _ _ rfl]; rfl
    · rw [World.cell?_alloc_at _ _ _ _ rfl]; rfl

theorem built_any (w : World) (a : Option Addr) (cap : Nat) (ss : List ByteArray) (hA : StrsAt w a ss) (hn : ss.length * 16 ≤ 140737488351232) :
    Calls Tryz.prog 7 #[.slice a ss.length cap] w fun e w' => BuiltEnd w w' e ∧ Below w.heap.size w w' := by
  refine (built_more w a cap ss hA hn).mono ?_
  rintro e w' ⟨h, hb⟩
  rcases h with ⟨h, _⟩ | h
  · exact ⟨.inl h, hb⟩
  · exact ⟨.inr h, hb⟩

set_option maxHeartbeats 1000000 in
set_option maxRecDepth 20000 in
theorem begun_any (w : World) (P : Nat) (D : Dic) (s : ByteArray) (hs : s.size ≤ maxLen) (hP : PairAt w P D) :
    Calls Tryz.prog 25 #[.pointer (some ⟨P, 0, none⟩), .string s] w fun e w' => ∃ v, e = .returned (.tuple #[v, .bool true]) ∧ (∃ n xs, w'.ownsRow w.heap.size 47 2 v n xs) ∧ Below w.heap.size w w' := by
  have HP : Hid (PairAt w P D) := hP
  obtain ⟨⟨b, B, v, Wv, Cv, h1, h2, h3, h4⟩, hg⟩ := hP
  obtain ⟨h5, h6, h7, -⟩ := good_words hg
  clear hg
  have HS : Hid (SetAt w 148 b v D) := h3
  have HB : Hid (BookAt w B D Wv Cv) := h4
  have H5 : Hid (Srt D) := h5
  have H7 : Hid (∀ p ∈ D, 1 ≤ p.1.size ∧ p.1.size ≤ 12) := h7
  clear h3 h4 h5 h7
  go_enter Tryz.func25, Tryz.ntmps25
  go_wp2_with fail
  refine (dictPrefixes_any w b v D s hs HS.out H5.out h6 H7.out).mono ?_
  rintro e w1 ⟨v1, H, rfl, hH, hl, ho1, hb1⟩
  have h1' : w1.cell? ⟨P, 0, none⟩ = some (.pointer (some ⟨b, 0, none⟩)) := (hb1.cell (p := ⟨P, 0, none⟩) (cell_lt h1)).trans h1
  have h2' : w1.cell? ⟨P, 1, none⟩ = some (.pointer (some ⟨B, 0, none⟩)) := (hb1.cell (p := ⟨P, 1, none⟩) (cell_lt h2)).trans h2
  have HH : Hid (Hits D s H) := hH
  clear hH h1 h2
  go_wp2_with fail
  refine (bookPrefixes_any w1 B Wv Cv D s hs (HB.out.kept (Kept.of_below hb1 (fun _ => False)) id (fun _ _ e => e) (fun _ _ e => e)) H5.out h6 (fun p hp => (H7.out p hp).2)).mono ?_
  rintro e w2 ⟨v2, rfl, ho2, hb2⟩
  have e : hitsOf D s = H := (hits_of H5.out s).unique HH.out
  rw [e] at ho2
  have ho1' := ownsRow_below' ho1 hb2
  clear e ho1
  go_wp2_with fail
  refine (sameHits_any w2 _ _ v1 v2 H ho1' ho2 (by omega)).mono ?_
  rintro e w3 ⟨rfl, hs3⟩
  have hbel : Below w.heap.size w w3 := (hb1.trans (hb2.mono hb1.size)).trans (Kept.below hs3 (by have := hb1.size; have := hb2.size; omega) (fun _ e => e.elim))
  have HO : Hid (∃ n xs, w3.ownsRow w.heap.size 47 2 v1 n xs) := ⟨_, _, hs3.row ho1'⟩
  clear ho1' ho2
  go_wp2
  go_ret2
  exact ⟨_, rfl, HO.out, hbel⟩

set_option maxHeartbeats 1000000 in
set_option maxRecDepth 20000 in
theorem sized_any (w : World) (P : Nat) (D : Dic) (hP : PairAt w P D) :
    Calls Tryz.prog 27 #[.pointer (some ⟨P, 0, none⟩)] w fun e w' => e = .returned (.bool true) ∧ w' = w := by
  obtain ⟨⟨b, B, v, Wv, Cv, h1, h2, h3, h4⟩, hg⟩ := hP
  obtain ⟨h5, h6, h7, -⟩ := good_words hg
  clear hg
  have hc0 := h4.c0
  obtain ⟨aw, cw, rfl, _⟩ := row_form h4.ow
  have HS : Hid (SetAt w 148 b v D) := h3
  have te : ((D.length : Int) == (D.length : Int)) = true := beq_self_eq_true _
  clear h3 h4 h5 h7
  go_enter Tryz.func27, Tryz.ntmps27
  go_wp2_with fail
  refine (dictSize_any w b v D HS.out).mono ?_
  rintro e w1 ⟨rfl, rfl⟩
  go_wp2
  go_ret
  exact ⟨rfl, rfl⟩

end Go.Proofs.YtlfpepehngkehaaGreat
