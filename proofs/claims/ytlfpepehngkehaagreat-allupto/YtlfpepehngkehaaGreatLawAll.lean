/-
  Every call, in every order, where what comes in is of bulk at most 1,048,576: the row.
-/
import Derived.Test.YtlfpepehngkehaaGreatAllAll
import Derived.Test.YtlfpepehngkehaaGreatCutAll
import Derived.Test.YtlfpepehngkehaaGreatWalkAll
import Derived.Deep.SlicePairs
import Derived.ProofKit
import Derived.OpenShut
import Derived.ShutString
import Derived.SliceStrings
import Derived.JoinedCond
import Derived.Carry
namespace Go.Proofs.YtlfpepehngkehaaGreat
set_option linter.unusedSimpArgs false
set_option linter.unusedVariables false
open Go.ChangeShapes Go.WideShapes Go.ChangeAt Go.RowKit

theorem ownKnob_all : ownKnob Tryz.prog.godebug = none := by kernel_rfl
theorem laidOut_all : laidOutB Tryz.prog = true := by kernel_rfl
theorem cells_stringZ : Tryz.prog.cellsOf 9 = 1 := by kernel_rfl
theorem cells_intZ : Tryz.prog.cellsOf 3 = 1 := by kernel_rfl
theorem cells_strsZ : Tryz.prog.cellsOf 30 = 1 := by kernel_rfl
theorem cells_opZ : Tryz.prog.cellsOf 32 = 6 := by kernel_rfl

theorem bulk_pos {H : Type} (d : DataW H) : 1 ≤ Rows.uptoBulk d := by
  cases d with
  | lit l => cases l <;> simp [Rows.uptoBulk]
  | _ => simp [Rows.uptoBulk]

theorem bulk_len {H : Type} : ∀ l : List (DataW H), l.length ≤ Rows.uptoBulkAll l
  | [] => Nat.zero_le _
  | d :: l => by
    have := bulk_len l
    have := bulk_pos d
    simp only [Rows.uptoBulkAll, List.length_cons]
    omega

theorem bulk_mem {H : Type} {d : DataW H} : ∀ {l : List (DataW H)}, d ∈ l → Rows.uptoBulk d ≤ Rows.uptoBulkAll l
  | [], h => by cases h
  | x :: l, h => by
    simp only [Rows.uptoBulkAll]
    rcases List.mem_cons.1 h with rfl | h
    · omega
    · have := bulk_mem h; omega

theorem strs_open {H : Type} {enc : TypeId × Value → H} {W : World} {base : Nat} {spare : Nat → Bool} {held : Bool} {fuel : Nat} {v : Value} {x : DataW H × List MemPlace}
    (h : DataW.trod enc Tryz.prog W base spare held fuel 30 [v] = some x) : ∃ (a : Option Addr) (cap : Nat) (ss : List ByteArray), v = .slice a ss.length cap ∧ StrsAt W a ss ∧ ss.length ≤ Rows.uptoBulk x.1 := by
  rcases open_strings Tryz.underlying30 Tryz.underlying9 cells_stringZ h with ⟨hcs, _⟩ | ⟨a, len, cap, ss, hcs, _, hl, hm, hz, rfl, hcell, hws⟩
  · simp at hcs
    exact ⟨none, 0, [], hcs, ⟨by simp, .inl rfl⟩, by simp⟩
  · simp at hcs
    have hls : len ≤ ss.length := by rw [hz]; split <;> omega
    have hlen : (ss.take len).length = len := by simp; omega
    refine ⟨some a, cap, ss.take len, by rw [hlen]; exact hcs, ⟨fun x hx => hws x (List.mem_of_mem_take hx), ?_⟩, ?_⟩
    · by_cases hl0 : len = 0
      · subst hl0; exact .inl (by simp)
      · obtain ⟨b, off, spot⟩ := a
        have hspot : spot = none := by simpa [Addr.add] using World.cell?_spot (hcell 0 (by omega))
        subst hspot
        refine .inr ⟨b, off, rfl, fun i hi => ?_⟩
        rw [hlen] at hi
        have := hcell i (by omega)
        have e : (⟨b, off, none⟩ : Addr).add i = ⟨b, off + i, none⟩ := by first | (simp [Addr.add]; done) | (simp [Addr.add]; omega)
        rw [e] at this
        rw [this]
        simp [List.getD_eq_getElem?_getD, List.getElem?_eq_getElem (show i < ss.length by omega)]
    · have := bulk_len (strs (H := H) (ss.take len))
      simp only [Rows.uptoBulk]
      have e : (strs (H := H) (ss.take len)).length = (ss.take len).length := by simp [strs]
      omega

theorem int_open {H : Type} {enc : TypeId × Value → H} {W : World} {base : Nat} {spare : Nat → Bool} {held : Bool} {fuel : Nat} {v : Value} {x : DataW H × List MemPlace}
    (h : DataW.trod enc Tryz.prog W base spare held fuel 3 [v] = some x) : ∃ z : Int, v = .int .i64 z ∧ -9223372036854775808 ≤ z ∧ z ≤ 9223372036854775807 := by
  obtain ⟨z, e, _, w1⟩ := DataW.trod_int Tryz.underlying3 h
  refine ⟨z, by simpa using e, ?_⟩
  simpa [Lit.wf, IntKind.min, IntKind.max, IntKind.signed, IntKind.bits] using w1

set_option maxRecDepth 100000 in
/-- a step, as it comes in. -/
theorem op_open {H : Type} {enc : TypeId × Value → H} {W : World} {base : Nat} {spare : Nat → Bool} {held : Bool} {fuel : Nat} {cs : List Value} {x : DataW H × List MemPlace} (hl : cs.length = 6)
    (h : DataW.trod enc Tryz.prog W base spare held fuel 32 cs = some x) :
    ∃ o : OpD, cs = [.int .i64 o.kind, .int .i64 o.A, .int .i64 o.B, .int .i64 o.C, .string o.S, .slice o.a o.ss.length o.cap] ∧ (-9223372036854775808 ≤ o.A ∧ o.A ≤ 9223372036854775807) ∧ (-9223372036854775808 ≤ o.B ∧ o.B ≤ 9223372036854775807) ∧ (-9223372036854775808 ≤ o.C ∧ o.C ≤ 9223372036854775807) ∧
      StrsAt W o.a o.ss ∧ o.S.size ≤ Rows.uptoBulk x.1 ∧ o.ss.length ≤ Rows.uptoBulk x.1 := by
  obtain ⟨xs, n, _, hx, _, hxl, hf⟩ := DataW.trod_struct Tryz.underlying32 h
  match cs, hl, xs, hxl with
  | [v0, v1, v2, v3, v4, v5], _, [y0, y1, y2, y3, y4, y5], _ =>
    have g0 := hf 0 _ rfl
    have g1 := hf 1 _ rfl
    have g2 := hf 2 _ rfl
    have g3 := hf 3 _ rfl
    have g4 := hf 4 _ rfl
    have g5 := hf 5 _ rfl
    simp [cells_intZ, cells_stringZ, cells_strsZ] at g0 g1 g2 g3 g4 g5
    obtain ⟨z0, rfl, _⟩ := int_open g0
    obtain ⟨z1, rfl, b1⟩ := int_open g1
    obtain ⟨z2, rfl, b2⟩ := int_open g2
    obtain ⟨z3, rfl, b3⟩ := int_open g3
    obtain ⟨S, e4, hy4, _⟩ := DataW.trod_string Tryz.underlying9 g4
    obtain ⟨a, cap, ss, rfl, hS, hb⟩ := strs_open g5
    simp at e4
    subst e4
    subst hx
    refine ⟨⟨z0, z1, z2, z3, S, a, cap, ss⟩, rfl, b1, b2, b3, hS, ?_, ?_⟩
    · have e : S.data.toList.length = S.size := by rw [Array.length_toList]; rfl
      simp only [List.map_cons, List.map_nil, hy4, Rows.uptoBulk, Rows.uptoBulkAll]
      omega
    · simp only [List.map_cons, List.map_nil, Rows.uptoBulk, Rows.uptoBulkAll]
      omega

/-- a script, as it comes in. -/
theorem ops_open {H : Type} {enc : TypeId × Value → H} {W : World} {base : Nat} {spare : Nat → Bool} {held : Bool} {fuel : Nat} {a0 : Option Addr} {len cap : Nat} {x : DataW H × List MemPlace}
    (h : DataW.trod enc Tryz.prog W base spare held fuel 22 (Value.cells (.slice a0 len cap)).toList = some x) (hk : Rows.uptoBulk x.1 ≤ 1048576) : ∃ ops : List OpD, ops.length = len ∧ OpsAt W a0 ops ∧ ops.length ≤ 1048576 := by
  rcases Deep.open_slice Tryz.underlying22 h with ⟨hcs, _⟩ | ⟨a, len', cap', m, n, Dt, Pl, hcs, _, hl, hm, hmm, rfl, hcell⟩
  · simp [Value.cells] at hcs
    obtain ⟨rfl, rfl, rfl⟩ := hcs
    exact ⟨[], rfl, .inl rfl, by simp⟩
  · simp [Value.cells] at hcs
    obtain ⟨rfl, rfl, rfl⟩ := hcs
    have hlm : len ≤ m := by rw [hmm]; split <;> omega
    simp only [Rows.uptoBulk] at hk
    have hbl := bulk_len ((List.range len).map Dt)
    have each : ∀ i, i < len → ∃ o : OpD, W.cell? (a.add (i * 6)) = some (.int .i64 o.kind) ∧ W.cell? (a.add (i * 6 + 1)) = some (.int .i64 o.A) ∧ W.cell? (a.add (i * 6 + 2)) = some (.int .i64 o.B) ∧ W.cell? (a.add (i * 6 + 3)) = some (.int .i64 o.C) ∧ W.cell? (a.add (i * 6 + 4)) = some (.string o.S) ∧ W.cell? (a.add (i * 6 + 5)) = some (.slice o.a o.ss.length o.cap) ∧
        (-9223372036854775808 ≤ o.A ∧ o.A ≤ 9223372036854775807) ∧ (-9223372036854775808 ≤ o.B ∧ o.B ≤ 9223372036854775807) ∧ (-9223372036854775808 ≤ o.C ∧ o.C ≤ 9223372036854775807) ∧ StrsAt W o.a o.ss ∧ o.S.size ≤ 1048576 ∧ o.ss.length ≤ 1048576 := by
      intro i hi
      obtain ⟨cs', h1, h2⟩ := hcell i (by omega)
      rw [cells_opZ] at h1
      obtain ⟨_, hlen, hc⟩ := World.cells?_some h1
      have hbm : Rows.uptoBulk (Dt i) ≤ Rows.uptoBulkAll ((List.range len).map Dt) := bulk_mem (List.mem_map.2 ⟨i, List.mem_range.2 hi, rfl⟩)
      obtain ⟨o, rfl, b1, b2, b3, hS, k1, k2⟩ := op_open hlen h2
      have k1' : o.S.size ≤ Rows.uptoBulk (Dt i) := k1
      have k2' : o.ss.length ≤ Rows.uptoBulk (Dt i) := k2
      have e0 := hc 0 (by omega)
      have e1 := hc 1 (by omega)
      have e2 := hc 2 (by omega)
      have e3 := hc 3 (by omega)
      have e4 := hc 4 (by omega)
      have e5 := hc 5 (by omega)
      rw [Deep.add_add] at e0 e1 e2 e3 e4 e5
      exact ⟨o, by simpa using e0, by simpa using e1, by simpa using e2, by simpa using e3, by simpa using e4, by simpa using e5, b1, b2, b3, hS, by omega, by omega⟩
    have : Inhabited OpD := ⟨⟨0, 0, 0, 0, .empty, none, 0, []⟩⟩
    obtain ⟨q, hq⟩ := Deep.choose_lt each
    refine ⟨(List.range len).map q, by simp, ?_, by simp at hbl ⊢; omega⟩
    by_cases hl0 : len = 0
    · subst hl0; exact .inl (by simp)
    · obtain ⟨b, off, spot⟩ := a
      have hspot : spot = none := by simpa [Addr.add] using World.cell?_spot (hq 0 (by omega)).1
      subst hspot
      refine .inr ⟨b, off, rfl, fun i hi => ?_⟩
      have hi' : i < len := by simpa using hi
      obtain ⟨c0, c1, c2, c3, c4, c5, b1, b2, b3, hS, k1, k2⟩ := hq i hi'
      have ad : ∀ j, (⟨b, off, none⟩ : Addr).add (i * 6 + j) = ⟨b, off + i * 6 + j, none⟩ := fun j => by simp [Addr.add, Nat.add_assoc]
      have ad0 : (⟨b, off, none⟩ : Addr).add (i * 6) = ⟨b, off + i * 6, none⟩ := by simp [Addr.add]
      rw [ad0] at c0
      rw [ad] at c1 c2 c3 c4 c5
      simp only [List.getElem_map, List.getElem_range]
      exact ⟨c0, c1, c2, c3, c4, c5, b1, b2, b3, k1, k2, hS⟩

set_option maxRecDepth 100000 in
theorem all_contract (H : Type) (enc : TypeId × Value → H) (W : World) (base : Nat) (args : Array Value) (ds gs : List (DataW H)) (before : List MemPlace)
    (hval0 : ∀ (j : Nat) t v, Tryz.f3.params[j]? = some t → args[j]? = some v → Value.okWide Tryz.prog W .any base t v)
    (hW : DataW.Whole enc Tryz.prog Tryz.f3.params.toList Rows.allSpec.vars false W args.toList ds gs before) (hk : Rows.uptoSmall H (ds ++ gs) = true) :
    Calls Tryz.prog 3 args W fun e W' => ∃ v, e = .returned v ∧ Rows.allSpec.post enc Tryz.prog Tryz.f3 false true false false W args v W' := by
  have hval := hval0
  have hW' := hW
  obtain ⟨p, q, hA0, hV, rfl, _, _⟩ := hW
  have hA : DataW.TrodAll enc Tryz.prog W 0 (fun _ => true) true Tryz.f3.params.toList args.toList ds p := hA0
  rw [Tryz.params3] at hA hval
  obtain ⟨v0, vs0, d0, ds0, p0, q0, hargs, rfl, rfl, h0, r0⟩ := trodAll_cons hA
  obtain ⟨rfl, rfl, rfl⟩ := trodAll_nil r0
  obtain rfl : args = #[v0] := by cases args; simp_all
  obtain ⟨rfl, rfl⟩ := trodVars_none hV
  obtain ⟨a0, len, cap, rfl⟩ := okWide_slice Tryz.underlying22 (hval 0 22 v0 rfl rfl)
  have k0 := h0
  have lt0 : ∀ x ∈ p0, x.block < W.heap.size := by obtain ⟨m, hm⟩ := k0; exact DataW.trod_lt m _ _ _ hm
  have hkk : Rows.uptoBulk d0 ≤ 1048576 := by
    have hk2 : Rows.uptoSmall H [d0] = true := by simpa using hk
    have h : Rows.uptoBulkAll [d0] ≤ 1048576 := of_decide_eq_true hk2
    simp only [Rows.uptoBulkAll] at h
    omega
  obtain ⟨ops, hol, hOP, hon⟩ : ∃ ops : List OpD, ops.length = len ∧ OpsAt W a0 ops ∧ ops.length ≤ 1048576 := by
    obtain ⟨fuel, hf⟩ := h0
    exact ops_open hf hkk
  subst hol
  clear hA0 hval0
  refine (all_walk walkIfAll cutOk cutLongOk W a0 cap ops hOP hon).mono fun e W' ⟨he, bel⟩ => ?_
  subst he
  exact ⟨_, rfl, _, _, _, [], _, [], hW', trodAll_mk1 (shut_bool Tryz.underlying4 _), (trodAll_cons_mk (Below.trod laidOut_all (by kernel_rfl) (of_decide_eq_true (by kernel_rfl)) k0 bel lt0) trodAll_mk0), rfl, bel.frame _, fun h => by cases h⟩

set_option maxRecDepth 100000 in
theorem all_lifted (os : Os) (started : os.Started) (H : Type) (enc : TypeId × Value → H) (F : Stop.Interp) :
    ReturnsInHanded {} Tryz.checked os 3 .any ((Rows.OpenSpec.upto Rows.allSpec).pre6 enc Tryz.prog Tryz.f3 Rows.allUptoRow.domain false) (((Rows.OpenSpec.upto Rows.allSpec).at F).post enc Tryz.prog Tryz.f3 false true false false) := by
  refine returnsInHanded_of_cond (C := Tryz.checked) (s := Rows.OpenSpec.upto Rows.allSpec) (k := Rows.uptoSmall) rfl ownKnob_all started (by kernel_rfl) Tryz.func3
    (OpenSpec.witness (enc := enc) (C := Tryz.checked) (s := Rows.OpenSpec.upto Rows.allSpec) (k := Rows.uptoSmall) rfl false ⟨#[], #[.slice none 0 0], []⟩ 8 (by kernel_rfl) (by kernel_rfl) (by kernel_rfl)
      (x := ([.nil], [], [])) (by kernel_rfl) rfl (by kernel_rfl)) ?_
  intro W base args ds gs before hval hW _ hk _
  exact all_contract H enc W base args ds gs before hval hW hk

theorem allUpto_holds : Rows.AllUptoSaid :=
  OpenClaim.holds_of_cond 3 Tryz.f3 rfl rfl rfl rfl rfl rfl rfl ⟨rfl, rfl, rfl, rfl, rfl⟩ rfl rfl rfl rfl rfl (by kernel_rfl) Tryz.func3 (by kernel_rfl)
    (of_decide_eq_true (by kernel_rfl)) (by unfold Func.isWrapper; first | (rw [if_pos (by decide +kernel)]; kernel_rfl) | (rw [if_neg (by decide +kernel)]; exact ⟨rfl, rfl⟩))
    (fun os started H enc _ F => all_lifted os started H enc F)
#print axioms allUpto_holds
end Go.Proofs.YtlfpepehngkehaaGreat
