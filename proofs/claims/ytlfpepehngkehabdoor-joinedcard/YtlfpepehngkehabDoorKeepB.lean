/-
  Walks: the keep statements' table.
-/
import Derived.Test.YtlfpepehngkehabDoorKeepA
import Derived.Test.YtlfpepehngkehabDoorMaths
import Derived.Test.YtlfpepehngkehabDoorRowsW
import Derived.Deep.AppendLies
import Derived.Deep.DeepCutAuto
import Derived.Deep.CutRange
namespace Go.Proofs.YtlfpepehngkehabDoor
set_option linter.unusedSimpArgs false
set_option linter.unusedVariables false
open Go.RowKit

def iCells (L : List Int) : List Value := L.map fun c => .int .i64 c
theorem iCells_length (L : List Int) : (iCells L).length = L.length := by simp [iCells]
theorem iCells_append (L M : List Int) : iCells (L ++ M) = iCells L ++ iCells M := by simp [iCells]
theorem own_i {w : World} {B g cap n : Nat} {t : TypeId} {L : List Int} (h : w.ownsRow B t 1 (.slice (some ⟨g, 0, none⟩) n cap) n (iCells L)) {k : Nat} (hn : n = L.length) (hk : k < L.length) :
    w.cell? ⟨g, k, none⟩ = some (.int .i64 L[k]) := by
  rw [h.cellAt k (by omega)]; simp [iCells, List.getElem?_eq_getElem hk]

structure TabAt (w : World) (B : Nat) (T : Tab) (Wv Cv : Value) : Prop where
  c0 : w.cell? ⟨B, 0, none⟩ = some Wv
  c1 : w.cell? ⟨B, 1, none⟩ = some Cv
  fz : ∀ o, w.frozen? ⟨B, o, none⟩ = false
  ow : w.ownsRow (B + 1) 9 1 Wv T.length (strCells (T.map (·.1)))
  oc : w.ownsRow (B + 1) 3 1 Cv T.length (iCells (T.map (·.2)))
  ap : Apart Wv Cv

theorem TabAt.kept {w w' : World} {B : Nat} {T : Tab} {Wv Cv : Value} {S : Nat → Prop} (h : TabAt w B T Wv Cv) (hk : Kept w w' S) (hB : ¬ S B) (hW : ∀ k, Wv.ownBlock = some k → ¬ S k) (hC : ∀ k, Cv.ownBlock = some k → ¬ S k) : TabAt w' B T Wv Cv := by
  have hb : B < w.heap.size := cell_lt h.c0
  exact ⟨(hk.cell (p := ⟨B, 0, none⟩) hb hB).trans h.c0, (hk.cell (p := ⟨B, 1, none⟩) hb hB).trans h.c1, fun o => (hk.frozen (p := ⟨B, o, none⟩) hb hB).trans (h.fz o), Kept.row h.ow hk hW, Kept.row h.oc hk hC, h.ap⟩

theorem TabAt.same {w w' : World} {B : Nat} {T : Tab} {Wv Cv : Value} (h : TabAt w B T Wv Cv) (hk : Same w w') : TabAt w' B T Wv Cv := h.kept hk id (fun _ _ e => e) (fun _ _ e => e)

def CostRel (T : Tab) (x : ByteArray) (w : World) (y : Value) (wr : World) : Prop := ∃ i : Nat, i ≤ T.length ∧ y = .int .i64 i ∧ (∀ j (h : j < T.length), j < i → T[j].1 ≠ x) ∧ wr = w

def PutMay (B : Nat) (Wv Cv : Value) (k : Nat) : Prop := k = B ∨ Wv.ownBlock = some k ∨ Cv.ownBlock = some k
def PutRes (w w' : World) (B : Nat) (T : Tab) (Wv Cv : Value) : Prop :=
  ∃ Wv' Cv', TabAt w' B T Wv' Cv' ∧ Kept w w' (PutMay B Wv Cv) ∧ (∀ k, Wv'.ownBlock = some k → Wv.ownBlock = some k ∨ w.heap.size ≤ k) ∧ (∀ k, Cv'.ownBlock = some k → Cv.ownBlock = some k ∨ w.heap.size ≤ k)

theorem put_found {w : World} {B g cap i : Nat} {T : Tab} {Wv : Value} {c : Int} (h : TabAt w B T Wv (.slice (some ⟨g, 0, none⟩) T.length cap)) (hi : i < T.length) : PutRes w (w.setCell ⟨g, i, none⟩ (.int .i64 c)) B (T.set i (T[i].1, c)) Wv (.slice (some ⟨g, 0, none⟩) T.length cap) := by
  have hgB : B + 1 ≤ g := (h.oc.lt g rfl).1
  have hk : Kept w (w.setCell ⟨g, i, none⟩ (.int .i64 c)) (fun k => k = g) := Kept.setCell (Kept.refl w _) _ _ (.inl rfl)
  have hb : B < w.heap.size := cell_lt h.c0
  have hoc : (w.setCell ⟨g, i, none⟩ (.int .i64 c)).ownsRow (B + 1) 3 1 (.slice (some ⟨g, 0, none⟩) T.length cap) T.length (iCells ((T.set i (T[i].1, c)).map (·.2))) := by
    have := (h.oc.stored i (.int .i64 c)).1
    have e : (iCells (T.map (·.2))).set i (.int .i64 c) = iCells ((T.set i (T[i].1, c)).map (·.2)) := by
      simp only [iCells, List.map_set]
    rwa [e] at this
  have how : (w.setCell ⟨g, i, none⟩ (.int .i64 c)).ownsRow (B + 1) 9 1 Wv T.length (strCells ((T.set i (T[i].1, c)).map (·.1))) := by
    have e : (T.set i (T[i].1, c)).map (·.1) = T.map (·.1) := by
      rw [List.map_set]
      apply List.ext_getElem?
      intro j
      by_cases ej : i = j
      · subst ej; simp [hi]
      · simp [List.getElem?_set, ej]
    rw [e]
    exact Kept.row h.ow hk fun k e1 e2 => h.ap k e1 (by rw [e2]; rfl)
  refine ⟨Wv, _, ⟨(hk.cell (p := ⟨B, 0, none⟩) hb (by show ¬ B = g; omega)).trans h.c0, (hk.cell (p := ⟨B, 1, none⟩) hb (by show ¬ B = g; omega)).trans h.c1, fun o => (hk.frozen (p := ⟨B, o, none⟩) hb (by show ¬ B = g; omega)).trans (h.fz o), by simpa using how, by simpa using hoc, h.ap⟩, Kept.mono hk (fun k e => .inl (.inr (.inr (by rw [e]; rfl)))), fun k e => .inl e, fun k e => .inl e⟩

theorem put_new {w W1 X W3 : World} {B : Nat} {T : Tab} {Wv Cv v1 v3 : Value} {x : ByteArray} {c : Int} (hB : TabAt w B T Wv Cv)
    (hK1 : Kept w W1 (fun k => Wv.ownBlock = some k)) (h1 : W1.ownsRow (B + 1) 9 1 v1 (T.length + 1) (strCells (T.map (·.1)) ++ [.string x])) (ha1 : ∀ k, v1.ownBlock = some k → Wv.ownBlock = some k ∨ w.heap.size ≤ k)
    (hX : X = W1.setCell ⟨B, 0, none⟩ v1)
    (hK3 : Kept X W3 (fun k => Cv.ownBlock = some k)) (h3 : W3.ownsRow (B + 1) 3 1 v3 (T.length + 1) (iCells (T.map (·.2)) ++ [.int .i64 c])) (ha3 : ∀ k, v3.ownBlock = some k → Cv.ownBlock = some k ∨ X.heap.size ≤ k) :
    PutRes w (W3.setCell ⟨B, 1, none⟩ v3) B (T ++ [(x, c)]) Wv Cv := by
  have hb : B < w.heap.size := cell_lt hB.c0
  have nW : ¬ (Wv.ownBlock = some B) := fun e => by have := (hB.ow.lt _ e).1; omega
  have nC : ¬ (Cv.ownBlock = some B) := fun e => by have := (hB.oc.lt _ e).1; omega
  have hs1 := hK1.size
  have hKX : Kept W1 X (fun k => k = B) := by rw [hX]; exact Kept.setCell (Kept.refl _ _) _ _ (.inl rfl)
  have hsX := hKX.size
  have hs3 := hK3.size
  have hKF : Kept W3 (W3.setCell ⟨B, 1, none⟩ v3) (fun k => k = B) := Kept.setCell (Kept.refl _ _) _ _ (.inl rfl)
  have n1 : ∀ k, v1.ownBlock = some k → B + 1 ≤ k := fun k e => (h1.lt k e).1
  have n3 : ∀ k, v3.ownBlock = some k → B + 1 ≤ k := fun k e => (h3.lt k e).1
  have c0X : X.cell? ⟨B, 0, none⟩ = some v1 := by rw [hX]; exact World.cell?_setCell_same _ _ _ ((hK1.cell (p := ⟨B, 0, none⟩) hb nW).trans hB.c0)
  have c1X : X.cell? ⟨B, 1, none⟩ = some Cv := by rw [hX]; exact (World.cell?_setCell_other _ _ _ _ (by simp)).trans ((hK1.cell (p := ⟨B, 1, none⟩) hb nW).trans hB.c1)
  have fX : ∀ o, X.frozen? ⟨B, o, none⟩ = false := fun o => by rw [hX]; simp only [World.frozen?_setCell]; exact (hK1.frozen (p := ⟨B, o, none⟩) hb nW).trans (hB.fz o)
  have hbX : B < X.heap.size := by omega
  have apart13 : ∀ k, v1.ownBlock = some k → ¬ (Cv.ownBlock = some k) := fun k e e2 => by
    rcases ha1 k e with h | h
    · exact hB.ap k h e2
    · have := (hB.oc.lt k e2).2; omega
  have r1 : (W3.setCell ⟨B, 1, none⟩ v3).ownsRow (B + 1) 9 1 v1 (T.length + 1) (strCells (T.map (·.1)) ++ [.string x]) :=
    Kept.row (Kept.row (Kept.row h1 hKX fun k e e2 => by have := n1 k e; omega) hK3 apart13) hKF fun k e e2 => by have := n1 k e; omega
  have r3 : (W3.setCell ⟨B, 1, none⟩ v3).ownsRow (B + 1) 3 1 v3 (T.length + 1) (iCells (T.map (·.2)) ++ [.int .i64 c]) := Kept.row h3 hKF fun k e e2 => by have := n3 k e; omega
  refine ⟨v1, v3, ⟨(World.cell?_setCell_other _ _ _ _ (by simp)).trans ((hK3.cell (p := ⟨B, 0, none⟩) hbX nC).trans c0X), World.cell?_setCell_same _ _ _ ((hK3.cell (p := ⟨B, 1, none⟩) hbX nC).trans c1X), fun o => by simp only [World.frozen?_setCell]; exact (hK3.frozen (p := ⟨B, o, none⟩) hbX nC).trans (fX o), by simpa [strCells] using r1, by simpa [iCells] using r3, fun k e e2 => ?_⟩, ?_, ha1, fun k e => ?_⟩
  · rcases ha3 k e2 with h | h
    · exact apart13 k e h
    · have := (h1.lt k e).2; omega
  · exact Kept.trans (Kept.trans (Kept.trans (Kept.mono hK1 fun k e => .inl (.inr (.inl e))) hKX fun k e => .inl (.inl e)) hK3 fun k e => .inl (.inr (.inr e))) hKF fun k e => .inl (.inl e)
  · rcases ha3 k e with h | h
    · exact .inl h
    · exact .inr (by omega)

theorem Tryd.infoStrK : (Tryd.prog.info? 9).map (fun i => (i.zero, i.size, i.bytes)) = some (some (.string ByteArray.empty), 1, 16) := by kernel_rfl
theorem Tryd.infoIntK : (Tryd.prog.info? 3).map (fun i => (i.zero, i.size, i.bytes)) = some (some (.int .i64 0), 1, 8) := by kernel_rfl

def PutEnd (w w' : World) (B : Nat) (T : Tab) (Wv Cv : Value) (e : Ending) : Prop := e = .returned (.tuple #[]) ∧ PutRes w w' B T Wv Cv

theorem own_slice_at {g n c : Nat} {o : Value} {m : Nat} (h : o.ownBlock = some g ∨ g = m) {k : Nat} (hk : (Value.slice (some ⟨g, 0, none⟩) n c).ownBlock = some k) {s : Nat} (hs : s ≤ m) : o.ownBlock = some k ∨ s ≤ k := by
  have e : g = k := by simpa [Value.ownBlock] using hk
  subst e
  rcases h with h | h
  · exact .inl h
  · exact .inr (by omega)

set_option maxHeartbeats 2000000 in
theorem tput_any (w : World) (B : Nat) (T : Tab) (Wv Cv : Value) (hB : TabAt w B T Wv Cv) (hT : T.length ≤ 1000) (x : ByteArray) (c : Int) :
    Calls Tryd.prog 42 #[.pointer (some ⟨B, 0, none⟩), .string x, .int .i64 c] w fun e w' => PutEnd w w' B (tput T x c) Wv Cv e := by
  obtain ⟨is, his, hs0, hs1, hs2⟩ := info_partsK Tryd.infoStrK
  obtain ⟨ii, hii, hi0, hi1, hi2⟩ := info_partsK Tryd.infoIntK
  obtain ⟨pw, capw, rfl, hgw⟩ := row_form hB.ow
  obtain ⟨pc, capc, rfl, hgc⟩ := row_form hB.oc
  have hb0 := hB.c0
  have hb1 := hB.c1
  have hbz := hB.fz
  have hbl : B < w.heap.size := cell_lt hb0
  have hnW : ¬ ((Value.slice pw T.length capw).ownBlock = some B) := fun e => by have := (hB.ow.lt _ e).1; omega
  have hnC : ¬ ((Value.slice pc T.length capc).ownBlock = some B) := fun e => by have := (hB.oc.lt _ e).1; omega
  have HB : Hid (TabAt w B T (.slice pw T.length capw) (.slice pc T.length capc)) := hB
  clear hB
  go_enter Tryd.func42, Tryd.ntmps42
  go_wp2_with fail
  go_loopw [6] (fun y wr => CostRel T x w y wr) (fun y _ => T.length - (intOf y).toNat)
  case atStart => exact ⟨0, Nat.zero_le _, rfl, fun j _ h => by omega, rfl⟩
  case round =>
    obtain ⟨i, hi, rfl, hno, rfl⟩ := hrel
    have HNO : Hid (∀ j (h : j < T.length), j < i → T[j].1 ≠ x) := hno
    clear hno
    by_cases hlt : i < T.length
    · have hlt' : (i : Int) < (T.length : Int) := by omega
      obtain ⟨gw, rfl⟩ := hgw (by omega)
      obtain ⟨gc, rfl⟩ := hgc (by omega)
      have hw0 := own_str HB.out.ow (by simp) (k := i) (by simpa using hlt)
      have hc0 := own_i HB.out.oc (by simp) (k := i) (by simpa using hlt)
      have hcz := HB.out.oc.frozenAt i
      simp only [List.getElem_map] at hw0 hc0
      obtain ⟨p, hp⟩ : ∃ p, p = T[i] := ⟨_, rfl⟩
      rw [← hp] at hw0 hc0
      have HP : Hid (p = T[i]) := hp
      clear hp
      by_cases he : p.1 = x
      · have ht : (p.1.toList == x.toList) = true := by rw [he]; simp
        have HR : Hid (PutRes wr (wr.setCell ⟨gc, i, none⟩ (.int .i64 c)) B (tput T x c) (.slice (some ⟨gw, 0, none⟩) T.length capw) (.slice (some ⟨gc, 0, none⟩) T.length capc)) := by
          show PutRes _ _ _ _ _ _
          rw [tput_found hlt (by rw [← HP.out]; exact he) HNO.out]
          exact put_found HB.out hlt
        clear he
        go_wp2
        (try simp only [Exit.inBlock, Exit.then])
        refine bodyPost_ret (results_none rfl _ _ _) rfl ?_
        exact ⟨rfl, HR.out⟩
      · have ht : (p.1.toList == x.toList) = false := beq_eq_false_iff_ne.2 fun e => he (ba_ext e)
        have HN2 : Hid (∀ j (h : j < T.length), j < i + 1 → T[j].1 ≠ x) := fun j h1 h2 => by
          by_cases e : j = i
          · subst e; rw [← HP.out]; exact he
          · exact HNO.out j h1 (by omega)
        clear he
        go_wp2
        go_roundw
        case rel => exact ⟨i + 1, by omega, by go_num, HN2.out, rfl⟩
        case measure => simp [intOf]; omega
    · have HT : Hid (tput T x c = T ++ [(x, c)]) := tput_none fun j hj => HNO.out j hj (by omega)
      have hm1 : T.length + 1 ≤ maxLen := by unfold maxLen; omega
      have hm2 : (T.length + 1) * 16 ≤ 140737488355328 := by omega
      have hm3 : (T.length + 1) * 8 ≤ 140737488355328 := by omega
      have hbl1 : B + 1 ≤ wr.heap.size + 1 := by omega
      clear HNO
      go_wp2_with (at_builtin; refine wpList_append_lies _ rfl _ _ 42 rfl (B + 1) 9 is _ 1 16 Tryd.underlying42 his hs0 hs1 hs2 rfl (by decide) _ _ _ rfl (HB.out.ow.alloc _) ⟨wr.heap.size, 0, none⟩ 1 1 [.string x] rfl rfl (news1K _ _ _ _ rfl) (fun u hu => by simp at hu; subst hu; rfl) (by decide) hm1 hm2 (by simpa using hbl1) (wr.heap.size + 1) (by simp) ?_)
      intro g1 cap1 W1 hown1 hgrow1 hat1 hlt1
      have hK1 : Kept wr W1 (fun k => (Value.slice pw T.length capw).ownBlock = some k) := ((Kept.refl wr _).alloc _).grown hgrow1 (fun k hk => .inl hk)
      have HK1 : Hid (Kept wr W1 (fun k => (Value.slice pw T.length capw).ownBlock = some k)) := hK1
      have HO1 : Hid (W1.ownsRow (B + 1) 9 1 (.slice (some ⟨g1, 0, none⟩) (T.length + 1) cap1) (T.length + 1) (strCells (T.map (·.1)) ++ [.string x])) := hown1
      have HA1 : Hid ((Value.slice pw T.length capw).ownBlock = some g1 ∨ g1 = wr.heap.size + 1) := hat1
      have hd0 := (hK1.cell (p := ⟨B, 0, none⟩) hbl hnW).trans hb0
      have hd1 := (hK1.cell (p := ⟨B, 1, none⟩) hbl hnW).trans hb1
      have hdz : ∀ o, W1.frozen? ⟨B, o, none⟩ = false := fun o => (hK1.frozen (p := ⟨B, o, none⟩) hbl hnW).trans (hbz o)
      have hbl2 : B < W1.heap.size := cell_lt hd0
      have hap : ∀ k, (Value.slice pc T.length capc).ownBlock = some k → ¬ ((Value.slice pw T.length capw).ownBlock = some k) := fun k e e2 => HB.out.ap k e2 e
      have hoc1 := Kept.row HB.out.oc hK1 hap
      obtain ⟨X, hX⟩ : ∃ X, X = W1.setCell ⟨B, 0, none⟩ (.slice (some ⟨g1, 0, none⟩) (T.length + 1) cap1) := ⟨_, rfl⟩
      have hKX : Kept W1 X (fun k => k = B) := by rw [hX]; exact Kept.setCell (Kept.refl _ _) _ _ (.inl rfl)
      have HOX : Hid (X.ownsRow (B + 1) 3 1 (.slice pc T.length capc) T.length (iCells (T.map (·.2)))) := Kept.row hoc1 hKX fun k e e2 => by have := (hoc1.lt k e).1; omega
      have hx1 : X.cell? ⟨B, 1, none⟩ = some (.slice pc T.length capc) := by rw [hX]; exact (World.cell?_setCell_other _ _ _ _ (by simp)).trans hd1
      have hxz : ∀ o, X.frozen? ⟨B, o, none⟩ = false := fun o => by rw [hX]; simp only [World.frozen?_setCell]; exact hdz o
      have hblX : B < X.heap.size := cell_lt hx1
      have hbl3 : B + 1 ≤ X.heap.size + 1 := by omega
      have HX : Hid (X = W1.setCell ⟨B, 0, none⟩ (.slice (some ⟨g1, 0, none⟩) (T.length + 1) cap1)) := hX
      clear hgrow1 hown1 hat1 hK1 hap hoc1 hKX
      go_upto_region 6 with fail
      rw [← hX]
      clear hX hd0 hd1 hdz hb0 hb1 hbz
      go_wp2_with (at_builtin; refine wpList_append_lies _ rfl _ _ 22 rfl (B + 1) 3 ii _ 1 8 Tryd.underlying22 hii hi0 hi1 hi2 rfl (by decide) _ _ _ rfl (HOX.out.alloc _) ⟨X.heap.size, 0, none⟩ 1 1 [.int .i64 c] rfl rfl (news1K _ _ _ _ rfl) (fun u hu => by simp at hu; subst hu; rfl) (by decide) hm1 hm3 (by simpa using hbl3) (X.heap.size + 1) (by simp) ?_)
      intro g3 cap3 W3 hown3 hgrow3 hat3 hlt3
      have hK3 : Kept X W3 (fun k => (Value.slice pc T.length capc).ownBlock = some k) := ((Kept.refl X _).alloc _).grown hgrow3 (fun k hk => .inl hk)
      have he1 := (hK3.cell (p := ⟨B, 1, none⟩) hblX hnC).trans hx1
      have hez := (hK3.frozen (p := ⟨B, 1, none⟩) hblX hnC).trans (hxz 1)
      have HR : Hid (PutRes wr (W3.setCell ⟨B, 1, none⟩ (.slice (some ⟨g3, 0, none⟩) (T.length + 1) cap3)) B (T ++ [(x, c)]) (.slice pw T.length capw) (.slice pc T.length capc)) :=
        put_new HB.out HK1.out HO1.out (fun k hk => own_slice_at HA1.out hk (Nat.le_succ _)) HX.out hK3 hown3 (fun k hk => own_slice_at hat3 hk (Nat.le_succ _))
      clear hgrow3 hown3 hat3 hK3
      go_wp2_with fail
      go_end0
      exact ⟨rfl, by rw [HT.out]; exact HR.out⟩

end Go.Proofs.YtlfpepehngkehabDoor
