/-
  Walks: the reference: a step of a way.
-/
import Derived.Test.YtlfpepehngkehaaRefCutB
import Derived.Test.YtlfpepehngkehaaRefEntries
import Derived.Laws.AppendOwnNone
import Derived.Deep.DeepCutAuto
namespace Go.Proofs.Ytlfpepehngkehaa
set_option linter.unusedSimpArgs false
set_option linter.unusedVariables false
open Go.RowKit

theorem Try.infoIntE : (Try.prog.info? 3).map (fun i => (i.zero, i.size, i.bytes)) = some (some (.int .i64 0), 1, 8) := by kernel_rfl

def wCost (o : Option BWay) : Nat := match o with | none => 0 | some b => b.1
def wList (o : Option BWay) : List Nat := match o with | none => [] | some b => b.2

/-- a way lies in a block of three cells that may be written. -/
structure Cells3 (w : World) (B : Nat) (x y z : Value) : Prop where
  c0 : w.cell? ⟨B, 0, none⟩ = some x
  c1 : w.cell? ⟨B, 1, none⟩ = some y
  c2 : w.cell? ⟨B, 2, none⟩ = some z
  fz : ∀ o, w.frozen? ⟨B, o, none⟩ = false

theorem Cells3.kept {w w' : World} {B : Nat} {x y z : Value} {S : Nat → Prop} (h : Cells3 w B x y z) (hk : Kept w w' S) (hB : ¬ S B) : Cells3 w' B x y z := by
  have hb : B < w.heap.size := cell_lt h.c0
  exact ⟨(hk.cell (p := ⟨B, 0, none⟩) hb hB).trans h.c0, (hk.cell (p := ⟨B, 1, none⟩) hb hB).trans h.c1, (hk.cell (p := ⟨B, 2, none⟩) hb hB).trans h.c2, fun o => (hk.frozen (p := ⟨B, o, none⟩) hb hB).trans (h.fz o)⟩

theorem Cells3.new (w : World) (x y z : Value) (t : TypeId) (B : Nat) (hB : B = w.heap.size) : Cells3 (w.alloc (.cells #[x, y, z] t)) B x y z := by
  subst hB
  refine ⟨?_, ?_, ?_, fun o => ?_⟩
  · rw [World.cell?_alloc_at _ _ _ _ rfl]; rfl
  · rw [World.cell?_alloc_at _ _ _ _ rfl]; rfl
  · rw [World.cell?_alloc_at _ _ _ _ rfl]; rfl
  · simp

theorem Cells3.set2 {w : World} {B : Nat} {x y z : Value} (h : Cells3 w B x y z) (v : Value) : Cells3 (w.setCell ⟨B, 2, none⟩ v) B x y v :=
  ⟨(World.cell?_setCell_other _ _ _ _ (by simp)).trans h.c0, (World.cell?_setCell_other _ _ _ _ (by simp)).trans h.c1, World.cell?_setCell_same _ _ _ h.c2, fun o => by simp [h.fz]⟩

def StepRel (w : World) (bl : List Nat) (sc : Nat) (o : Option BWay) (ov nv : Value) (wx : World) : Prop :=
  wx.ownsRow (w.heap.size + 4) 3 1 nv bl.length (intCells bl) ∧ Same w wx ∧ w.heap.size + 4 ≤ wx.heap.size ∧ Cells3 wx (w.heap.size + 1) (.bool o.isSome) (.int .i64 (wCost o)) ov ∧
    Cells3 wx (w.heap.size + 1 + 1) (.bool false) (.int .i64 0) (.slice none 0 0) ∧ Cells3 wx (w.heap.size + 1 + 1 + 1) (.bool true) (.int .i64 sc) nv

theorem StepRel.next {w wx w' : World} {bl bl' : List Nat} {sc : Nat} {o : Option BWay} {ov nv nv' : Value} (h : StepRel w bl sc o ov nv wx) (hk : Kept wx w' (fun k => nv.ownBlock = some k)) (hr : w'.ownsRow (w.heap.size + 4) 3 1 nv' bl'.length (intCells bl')) :
    StepRel w bl' sc o ov nv' (w'.setCell ⟨w.heap.size + 1 + 1 + 1, 2, none⟩ nv') := by
  obtain ⟨h1, h2, h3, h4, h5, h6⟩ := h
  have hlt : ∀ B, B < w.heap.size + 4 → ¬ (nv.ownBlock = some B) := fun B hB e => by have := (h1.lt B e).1; omega
  have hk2 : Kept w' (w'.setCell ⟨w.heap.size + 1 + 1 + 1, 2, none⟩ nv') (fun k => k = w.heap.size + 1 + 1 + 1) := (Kept.refl _ _).setCell _ _ (.inl rfl)
  refine ⟨Kept.row hr hk2 fun k e e2 => ?_, ?_, ?_, ?_, ?_, ?_⟩
  · have := (hr.lt k e).1; omega
  · exact Kept.trans (Kept.trans h2 hk fun i e => .inr (by have := (h1.lt i e).1; omega)) hk2 fun i e => .inr (by omega)
  · have := hk.size; have := hk2.size; omega
  · exact (h4.kept hk (hlt _ (by omega))).kept hk2 (by omega)
  · exact (h5.kept hk (hlt _ (by omega))).kept hk2 (by omega)
  · exact (h6.kept hk (hlt _ (by omega))).set2 _

theorem StepRel.start (w : World) (x0 x1 x2 : Value) (o : Option BWay) (ov : Value) (sc : Nat) (t : TypeId) :
    StepRel w [] sc o ov (.slice none 0 0) ((((w.alloc (.cells #[x0, x1, x2] t)).alloc (.cells #[.bool o.isSome, .int .i64 (wCost o), ov] t)).alloc (.cells #[.bool false, .int .i64 0, .slice none 0 0] t)).alloc (.cells #[.bool true, .int .i64 sc, .slice none 0 0] t)) := by
  have s0 : (w.alloc (.cells #[x0, x1, x2] t)).heap.size = w.heap.size + 1 := by simp
  refine ⟨World.ownsRow_nil _ _ _ _, ((((Same.refl w).alloc _).alloc _).alloc _).alloc _, by simp, ?_, ?_, ?_⟩
  · exact Cells3.kept (S := fun _ => False) (Cells3.new _ _ _ _ _ _ (by simp)) (((Kept.refl _ _).alloc _).alloc _) (fun e => e)
  · exact Cells3.kept (S := fun _ => False) (Cells3.new _ _ _ _ _ _ (by simp)) ((Kept.refl _ _).alloc _) (fun e => e)
  · exact Cells3.new _ _ _ _ _ _ (by simp)

theorem one1E (L : List Nat) : ∀ u ∈ intCells L, u.oneCell' = true := by
  intro u hu; simp [intCells] at hu; obtain ⟨x, _, rfl⟩ := hu; rfl
theorem news1E (w : World) (x : Value) (t : TypeId) (n : Nat) (hn : n = w.heap.size) : ∀ j u, [x][j]? = some u → (w.alloc (.cells #[x] t)).cell? ((⟨n, 0, none⟩ : Addr).add j) = some u := by
  subst hn; exact cell_one_new _ _ _

def StepEnd (w w' : World) (base : Nat) (b : BWay) (c p : Nat) (o : Option BWay) (e : Ending) : Prop :=
  (∃ v, e = .returned (.agg #[.bool true, .int .i64 (stepW b c p o).1, v]) ∧ w'.ownsRow base 3 1 v (stepW b c p o).2.length (intCells (stepW b c p o).2)) ∧ Below w.heap.size w w'

theorem step_fin {w X X' : World} {bl : List Nat} {sc base : Nat} {o : Option BWay} {ov nv : Value} (h : StepRel w bl sc o ov nv X) (hs : Same X X') (hbase : base ≤ w.heap.size) (x y z v : Value) (L : List Nat) (hr : X'.ownsRow base 3 1 v L.length (intCells L)) (hv : ∀ k, v.ownBlock = some k → k ≠ w.heap.size + 1 + 1) :
    (((X'.setCell ⟨w.heap.size + 1 + 1, 0, none⟩ x).setCell ⟨w.heap.size + 1 + 1, 1, none⟩ y).setCell ⟨w.heap.size + 1 + 1, 2, none⟩ z).ownsRow base 3 1 v L.length (intCells L) ∧
      Below w.heap.size w (((X'.setCell ⟨w.heap.size + 1 + 1, 0, none⟩ x).setCell ⟨w.heap.size + 1 + 1, 1, none⟩ y).setCell ⟨w.heap.size + 1 + 1, 2, none⟩ z) := by
  have hk : Kept X' (((X'.setCell ⟨w.heap.size + 1 + 1, 0, none⟩ x).setCell ⟨w.heap.size + 1 + 1, 1, none⟩ y).setCell ⟨w.heap.size + 1 + 1, 2, none⟩ z) (fun k => k = w.heap.size + 1 + 1) :=
    by
    refine Kept.setCell (Kept.setCell (Kept.setCell (Kept.refl X' _) _ _ ?_) _ _ ?_) _ _ ?_
    all_goals exact .inl rfl
  refine ⟨Kept.row hr hk fun k e e2 => hv k e e2, ?_⟩
  have h1 : Same w X' := Kept.trans h.2.1 hs fun _ e => e.elim
  exact Kept.below (Kept.trans h1 hk fun i e => .inr (by omega)) (Nat.le_refl _) (fun _ e => e.elim)

theorem stepW_none {bc c p sc : Nat} {bl : List Nat} (h : sc = bc + c) : stepW (bc, bl) c p none = (sc, bl ++ [p]) := by simp [stepW, h]
theorem stepW_lt {bc c p sc oc : Nat} {bl ol : List Nat} (h : sc = bc + c) (hl : sc < oc) : stepW (bc, bl) c p (some (oc, ol)) = (sc, bl ++ [p]) := by
  simp only [stepW, ← h]; rw [if_pos (.inl hl)]
theorem stepW_t {bc c p sc oc : Nat} {bl ol : List Nat} (h : sc = bc + c) (hl : sc = oc) (hr : true = llt (bl ++ [p]) ol) : stepW (bc, bl) c p (some (oc, ol)) = (sc, bl ++ [p]) := by
  simp only [stepW, ← h]; rw [if_pos (.inr ⟨hl, hr.symm⟩)]
theorem stepW_f {bc c p sc oc : Nat} {bl ol : List Nat} (h : sc = bc + c) (hl : sc = oc) (hr : false = llt (bl ++ [p]) ol) : stepW (bc, bl) c p (some (oc, ol)) = (oc, ol) := by
  simp only [stepW, ← h]; rw [if_neg (by rintro (a | ⟨_, a⟩); omega; rw [← hr] at a; cases a)]
theorem stepW_gt {bc c p sc oc : Nat} {bl ol : List Nat} (h : sc = bc + c) (hl : ¬ sc < oc) (hr : ¬ sc = oc) : stepW (bc, bl) c p (some (oc, ol)) = (oc, ol) := by
  simp only [stepW, ← h]; rw [if_neg (by omega)]
theorem ibeq_t {a b : Nat} (h : a = b) : ((a : Int) == (b : Int)) = true := by subst h; simp
theorem ibeq_f {a b : Nat} (h : ¬ a = b) : ((a : Int) == (b : Int)) = false := by rw [beq_eq_false_iff_ne]; omega
theorem inlt {a b : Nat} (h : ¬ a < b) : ¬ (a : Int) < (b : Int) := by omega

theorem step_end {w w' : World} {base bc c p rc : Nat} {bl rl : List Nat} {o : Option BWay} {v : Value} (hW : stepW (bc, bl) c p o = (rc, rl)) (h : w'.ownsRow base 3 1 v rl.length (intCells rl) ∧ Below w.heap.size w w') :
    StepEnd w w' base (bc, bl) c p o (.returned (.agg #[.bool true, .int .i64 rc, v])) := by
  refine ⟨⟨v, ?_, ?_⟩, h.2⟩
  · rw [hW]
  · rw [hW]; exact h.1

set_option maxHeartbeats 4000000 in
set_option maxRecDepth 100000 in
theorem step_any (w : World) (base : Nat) (hbase : base ≤ w.heap.size) (b : BWay) (bv : Value) (hb : w.ownsRow base 3 1 bv b.2.length (intCells b.2)) (o : Option BWay) (ov : Value) (ho : w.ownsRow base 3 1 ov (wList o).length (intCells (wList o)))
    (c p : Nat) (hb1 : b.1 ≤ 1000000) (hb2 : b.2.length ≤ 900) (ho2 : (wList o).length ≤ 1000) (hc : c ≤ 1000) (hp : p ≤ 1000) :
    Calls Try.prog 101 #[.agg #[.bool true, .int .i64 b.1, bv], .int .i64 c, .int .i64 p, .agg #[.bool o.isSome, .int .i64 (wCost o), ov]] w fun e w' => StepEnd w w' base b c p o e := by
  obtain ⟨ii, hii, hi0, hi1, hi2⟩ := info_parts Try.infoIntE
  obtain ⟨bc, bl⟩ := b
  obtain ⟨sc, hsc⟩ : ∃ sc, sc = bc + c := ⟨_, rfl⟩
  have HSC : Hid (sc = bc + c) := hsc
  have hsc1 : (bc : Int) + (c : Int) = (sc : Int) := by omega
  have hb1 : bc ≤ 1000000 := hb1
  have hwsc : IntKind.i64.wrap (sc : Int) = (sc : Int) := by rw [IntKind.wrap_i64]; omega
  have hwsc2 : wrap64 (sc : Int) = (sc : Int) := by unfold wrap64; omega
  have hb2 : bl.length ≤ 900 := hb2
  have hlen : (bl ++ [p]).length ≤ 1000 := by simp; omega
  have hbase4 : base ≤ w.heap.size + 4 := by omega
  have hb : w.ownsRow base 3 1 bv bl.length (intCells bl) := hb
  have HO : Hid (w.ownsRow base 3 1 ov (wList o).length (intCells (wList o))) := ho
  clear hsc ho
  go_enter Try.func101, Try.ntmps101
  go_upto_region 2 with fail
  go_cut [20] (fun nv wx => StepRel w bl sc o ov nv wx)
  case first =>
    have hst := StepRel.start w (.bool true) (.int .i64 bc) bv o ov sc 160
    have hsW : Same w ((((w.alloc (.cells #[.bool true, .int .i64 bc, bv] 160)).alloc (.cells #[.bool o.isSome, .int .i64 (wCost o), ov] 160)).alloc (.cells #[.bool false, .int .i64 0, .slice none 0 0] 160)).alloc (.cells #[.bool true, .int .i64 sc, .slice none 0 0] 160)) := hst.2.1
    have hbW := hsW.row hb
    have HST : Hid (StepRel w [] sc o ov (.slice none 0 0) ((((w.alloc (.cells #[.bool true, .int .i64 bc, bv] 160)).alloc (.cells #[.bool o.isSome, .int .i64 (wCost o), ov] 160)).alloc (.cells #[.bool false, .int .i64 0, .slice none 0 0] 160)).alloc (.cells #[.bool true, .int .i64 sc, .slice none 0 0] 160))) := hst
    have HBW := hbW
    clear hst hsW
    obtain ⟨_, hsh⟩ := hbW
    rcases hsh with ⟨rfl, h0⟩ | ⟨g, cp, cur, rfl, _⟩
    · have hbl : bl = [] := List.eq_nil_of_length_eq_zero h0
      subst hbl
      clear HBW hb
      go_wp2_with (at_builtin; refine wpList_append_own_none rfl _ _ 37 rfl (w.heap.size + 4) 3 ii 1 Try.underlying37 hii (.slice none 0 0) 0 [] rfl (World.ownsRow_nil _ _ _ _) rfl ?_)
      go_meet
      exact HST.out
    · clear hb
      go_wp2_with (at_builtin; refine wpList_append_own _ rfl _ _ 37 rfl (w.heap.size + 4) 3 ii _ 1 8 Try.underlying37 hii hi0 hi1 hi2 rfl (by decide) (.slice none 0 0) 0 [] rfl (World.ownsRow_nil _ _ _ _) ⟨g, 0, none⟩ bl.length cp (intCells bl) rfl (by simp [intCells_length]) (HBW.cells (g := g) rfl) (one1E _) (by unfold maxLen; omega) (by omega) (by simp) ?_)
      intro v' w2 hown' hgrow _
      have hown' : w2.ownsRow (w.heap.size + 4) 3 1 v' bl.length (intCells bl) := by simpa using hown'
      obtain ⟨a', cap', rfl, _⟩ := row_form hown'
      have HR : Hid (StepRel w bl sc o ov (.slice a' bl.length cap') (w2.setCell ⟨w.heap.size + 1 + 1 + 1, 2, none⟩ (.slice a' bl.length cap'))) := HST.out.next ((Kept.refl _ _).grown hgrow (fun k hk => .inl hk)) hown'
      have hf3 := (Kept.frozen ((Kept.refl _ (fun k => (Value.slice none 0 0).ownBlock = some k)).grown hgrow (fun k hk => .inl hk)) (p := ⟨w.heap.size + 1 + 1 + 1, 2, none⟩) (by simp) (by simp [Value.ownBlock])).trans (HST.out.2.2.2.2.2.fz 2)
      have hc3 := (Kept.cell ((Kept.refl _ (fun k => (Value.slice none 0 0).ownBlock = some k)).grown hgrow (fun k hk => .inl hk)) (p := ⟨w.heap.size + 1 + 1 + 1, 2, none⟩) (by simp) (by simp [Value.ownBlock])).trans HST.out.2.2.2.2.2.c2
      clear hgrow hown' HBW
      go_wp2_with fail
      go_meet
      exact HR.out
  case rest =>
    obtain ⟨an, cn, rfl, _⟩ := row_form hcut.1
    obtain ⟨ao, co, rfl, _⟩ := row_form HO.out
    have HR : Hid (StepRel w bl sc o (.slice ao (wList o).length co) (.slice an bl.length cn) wc) := hcut
    obtain ⟨hown, hsm, hszc, _, _, hN⟩ := hcut
    have hn2 := hN.c2
    have hB3 : w.heap.size + 1 + 1 + 1 < wc.heap.size := by omega
    clear hN
    go_wp2_with (at_builtin; refine wpList_append_own _ rfl _ _ 37 rfl (w.heap.size + 4) 3 ii _ 1 8 Try.underlying37 hii hi0 hi1 hi2 rfl (by decide) _ _ _ rfl (hown.alloc _) ⟨wc.heap.size, 0, none⟩ 1 1 [.int .i64 p] rfl rfl (news1E _ _ _ _ rfl) (one1E [p]) (by unfold maxLen; omega) (by omega) (by simp; omega) ?_)
    intro v' w2 hown' hgrow _
    have hown' : w2.ownsRow (w.heap.size + 4) 3 1 v' (bl ++ [p]).length (intCells (bl ++ [p])) := by rw [intCells_append, List.length_append]; exact hown'
    obtain ⟨n1, hn1⟩ : ∃ n1, n1 = (bl ++ [p]).length := ⟨_, rfl⟩
    have HN1 : Hid (n1 = (bl ++ [p]).length) := hn1
    obtain ⟨a', cap', hv', _⟩ := row_form hown'
    rw [← hn1] at hv'
    subst hv'
    have hK : Kept wc w2 (fun k => (Value.slice an bl.length cn).ownBlock = some k) := ((Kept.refl wc _).alloc _).grown hgrow (fun k hk => .inl hk)
    have hR2 : StepRel w (bl ++ [p]) sc o (.slice ao (wList o).length co) (.slice a' n1 cap') (w2.setCell ⟨w.heap.size + 1 + 1 + 1, 2, none⟩ (.slice a' n1 cap')) := HR.out.next hK hown'
    have hnb : ¬ ((Value.slice an bl.length cn).ownBlock = some (w.heap.size + 1 + 1 + 1)) := fun e => by have := (hown.lt _ e).1; omega
    have hf3 := (hK.frozen (p := ⟨w.heap.size + 1 + 1 + 1, 2, none⟩) hB3 hnb).trans (HR.out.2.2.2.2.2.fz 2)
    have hc3 := (hK.cell (p := ⟨w.heap.size + 1 + 1 + 1, 2, none⟩) hB3 hnb).trans HR.out.2.2.2.2.2.c2
    have HR2 : Hid (StepRel w (bl ++ [p]) sc o (.slice ao (wList o).length co) (.slice a' n1 cap') (w2.setCell ⟨w.heap.size + 1 + 1 + 1, 2, none⟩ (.slice a' n1 cap'))) := hR2
    clear hgrow hown' hK hnb hown hsm hR2 hn1 HR
    go_upto_region 4 with fail
    generalize hX : w2.setCell ⟨w.heap.size + 1 + 1 + 1, 2, none⟩ (.slice a' n1 cap') = X at HR2 ⊢
    clear hX hc3 hf3 hn2 hB3
    obtain ⟨hrow, hsX, _, hO, hZ, hN⟩ := HR2.out
    have HROW : Hid (X.ownsRow (w.heap.size + 4) 3 1 (.slice a' n1 cap') (bl ++ [p]).length (intCells (bl ++ [p]))) := hrow
    have HSX : Hid (Same w X) := hsX
    obtain ⟨ho0, ho1, ho2', _⟩ := hO
    obtain ⟨hz0, hz1, hz2, hzf⟩ := hZ
    obtain ⟨hn0, hn1, hn2, _⟩ := hN
    clear hrow hsX
    have HNB : Hid (∀ k, (Value.slice a' n1 cap').ownBlock = some k → k ≠ w.heap.size + 1 + 1) := fun k e => by have := (HROW.out.lt k e).1; omega
    have HNBo : Hid (∀ k, (Value.slice ao (wList o).length co).ownBlock = some k → k ≠ w.heap.size + 1 + 1) := fun k e => by have := (HO.out.lt k e).2; omega
    cases o with
    | none =>
      have HW : Hid (stepW (bc, bl) c p none = (sc, bl ++ [p])) := stepW_none HSC.out
      simp only [Option.isSome] at ho0
      go_wp2_with fail
      refine bodyPost_ret (v := .agg #[.bool true, .int .i64 sc, .slice a' n1 cap']) (by simp [results, Try.results101, go_sem, hz0, hz1, hz2]) rfl ?_
      have f1 := step_fin HR2.out (Same.refl X) hbase (.bool true) (.int .i64 sc) (.slice a' n1 cap') (.slice a' n1 cap') (bl ++ [p]) (row_base HROW.out hbase4) HNB.out
      exact step_end HW.out f1
    | some ob =>
      obtain ⟨oc, ol⟩ := ob
      simp only [Option.isSome, wCost, wList] at ho0 ho1 ho2' ho2 HO HNBo
      by_cases hlt : sc < oc
      · have hlt' : (sc : Int) < (oc : Int) := Int.ofNat_lt.2 hlt
        have HW : Hid (stepW (bc, bl) c p (some (oc, ol)) = (sc, bl ++ [p])) := stepW_lt HSC.out hlt
        go_wp2_with fail
        refine bodyPost_ret (v := .agg #[.bool true, .int .i64 sc, .slice a' n1 cap']) (by simp [results, Try.results101, go_sem, hz0, hz1, hz2]) rfl ?_
        have f1 := step_fin HR2.out (Same.refl X) hbase (.bool true) (.int .i64 sc) (.slice a' n1 cap') (.slice a' n1 cap') (bl ++ [p]) (row_base HROW.out hbase4) HNB.out
        exact step_end HW.out f1
      · have hlt' : ¬ (sc : Int) < (oc : Int) := inlt hlt
        have HOX : Hid (X.ownsRow base 3 1 (.slice ao ol.length co) ol.length (intCells ol)) := HSX.out.row HO.out
        have hXs : w.heap.size + 1 + 1 + 1 < X.heap.size := cell_lt hn0
        go_wp2_with fail
        refine (less_any X _ _ _ _ (bl ++ [p]) ol HROW.out HOX.out hlen ho2).mono ?_
        rintro e X' ⟨rfl, hsame⟩
        have hn0 := hsame.cell hn0
        have hn1 := hsame.cell hn1
        have hn2 := hsame.cell hn2
        have ho0 := hsame.cell ho0
        have ho1 := hsame.cell ho1
        have ho2'' := hsame.cell ho2'
        have hzf' : ∀ o, X'.frozen? ⟨w.heap.size + 1 + 1, o, none⟩ = false := fun o => (Kept.frozen hsame (p := ⟨w.heap.size + 1 + 1, o, none⟩) (cell_lt hz0) (fun e => e)).trans (hzf o)
        have hz0 := hsame.cell hz0
        have hz1 := hsame.cell hz1
        have hz2 := hsame.cell hz2
        obtain ⟨r, hr⟩ : ∃ r, r = llt (bl ++ [p]) ol := ⟨_, rfl⟩
        rw [← hr]
        have HRL : Hid (r = llt (bl ++ [p]) ol) := hr
        clear hr
        have HF1 : Hid (_ ∧ _) := step_fin HR2.out hsame hbase (.bool true) (.int .i64 sc) (.slice a' n1 cap') (.slice a' n1 cap') (bl ++ [p]) (row_base (hsame.row HROW.out) hbase4) HNB.out
        have HF2 : Hid (_ ∧ _) := step_fin HR2.out hsame hbase (.bool true) (.int .i64 oc) (.slice ao ol.length co) (.slice ao ol.length co) ol (hsame.row HOX.out) HNBo.out
        by_cases heq : sc = oc
        · have heq' : ((sc : Int) == (oc : Int)) = true := ibeq_t heq
          cases r with
          | true =>
            have HW : Hid (stepW (bc, bl) c p (some (oc, ol)) = (sc, bl ++ [p])) := stepW_t HSC.out heq HRL.out
            clear heq
            go_wp2_with fail
            refine bodyPost_ret (v := .agg #[.bool true, .int .i64 sc, .slice a' n1 cap']) (by simp [results, Try.results101, go_sem, hz0, hz1, hz2]) rfl ?_
            exact step_end HW.out HF1.out
          | false =>
            have HW : Hid (stepW (bc, bl) c p (some (oc, ol)) = (oc, ol)) := stepW_f HSC.out heq HRL.out
            clear heq
            go_wp2_with fail
            refine bodyPost_ret (v := .agg #[.bool true, .int .i64 oc, .slice ao ol.length co]) (by simp [results, Try.results101, go_sem, hz0, hz1, hz2]) rfl ?_
            exact step_end HW.out HF2.out
        · have heq' : ((sc : Int) == (oc : Int)) = false := ibeq_f heq
          have HW : Hid (stepW (bc, bl) c p (some (oc, ol)) = (oc, ol)) := stepW_gt HSC.out hlt heq
          clear heq
          go_wp2_with fail
          refine bodyPost_ret (v := .agg #[.bool true, .int .i64 oc, .slice ao ol.length co]) (by simp [results, Try.results101, go_sem, hz0, hz1, hz2]) rfl ?_
          exact step_end HW.out HF2.out

end Go.Proofs.Ytlfpepehngkehaa
