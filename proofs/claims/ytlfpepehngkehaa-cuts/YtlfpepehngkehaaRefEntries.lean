/-
  Walks: the reference's entries.
-/
import Derived.Test.YtlfpepehngkehaaRows
import Derived.Test.YtlfpepehngkehaaMaths
import Derived.Test.YtlfpepehngkehaaKeptW
import Derived.Test.YtlfpepehngkehaaLeafR
import Derived.BigQuiet
import Derived.BigRegion
import Derived.Deep.CutRange
namespace Go.Proofs.Ytlfpepehngkehaa
set_option linter.unusedSimpArgs false
set_option linter.unusedVariables false
open Go.RowKit

def refCells (E : List Ent) : List Value := E.flatMap fun x => [.string x.word, .int .i64 (refC x)]
theorem refCells_length (E : List Ent) : (refCells E).length = E.length * 2 := by
  induction E with
  | nil => rfl
  | cons x E ih => simp only [refCells, List.flatMap_cons, List.length_append] at ih ⊢; rw [ih]; simp; omega
theorem refCells_append (D E : List Ent) : refCells (D ++ E) = refCells D ++ refCells E := by simp [refCells]

theorem Try.infoRefEntry : (Try.prog.info? 145).map (fun i => (i.zero, i.size, i.bytes)) = some (some (.agg #[.string ByteArray.empty, .int .i64 0]), 2, 24) := by kernel_rfl

def EntAt (w wr : World) (s : ByteArray) (E : List Ent) (l f x : Value) : Prop :=
  ∃ (E1 E2 : List Ent) (q i : Nat), E = E1 ++ E2 ∧ f = .int .i64 q ∧ x = .int .i64 i ∧ wr.ownsRow w.heap.size 145 2 l E1.length (refCells E1) ∧ Below w.heap.size w wr ∧ E1.length ≤ q ∧
    ((E2 = [] ∧ i = s.size + 1 ∧ q = i) ∨ ∃ y E3 p, E2 = y :: E3 ∧ GoodEntry s q y p ∧ ((E3 = [] ∧ p = s.size) ∨ (E3 ≠ [] ∧ p < s.size ∧ bt s p = 44 ∧ Rest s (p + 1) E3)) ∧ q ≤ i ∧ i ≤ p)

/-- the entry that is being read lies in its block. -/
structure RefX (w : World) (b : Nat) (x : ByteArray) (c : Nat) : Prop where
  c0 : w.cell? ⟨b, 0, none⟩ = some (.string x)
  c1 : w.cell? ⟨b, 1, none⟩ = some (.int .i64 c)
  fz : ∀ o, w.frozen? ⟨b, o, none⟩ = false
  sz : b < w.heap.size

theorem RefX.new (w : World) (x : ByteArray) (c : Nat) (t : TypeId) : RefX (w.alloc (.cells #[.string x, .int .i64 c] t)) w.heap.size x c := by
  refine ⟨?_, ?_, fun o => by simp, by simp⟩
  · rw [World.cell?_alloc_at _ _ _ _ rfl]; rfl
  · rw [World.cell?_alloc_at _ _ _ _ rfl]; rfl

theorem RefX.set {w : World} {b : Nat} {x : ByteArray} {c : Nat} (h : RefX w b x c) (d : Nat) : RefX (w.setCell ⟨b, 1, none⟩ (.int .i64 d)).drew b x d := by
  have hne : (⟨b, 1, none⟩ : Addr) ≠ ⟨b, 0, none⟩ := by intro e; simp at e
  refine ⟨?_, ?_, fun o => ?_, ?_⟩
  · show (w.setCell ⟨b, 1, none⟩ (.int .i64 d)).cell? ⟨b, 0, none⟩ = _
    rw [World.cell?_setCell_other _ _ _ _ hne]; exact h.c0
  · show (w.setCell ⟨b, 1, none⟩ (.int .i64 d)).cell? ⟨b, 1, none⟩ = _
    apply World.cell?_setCell_same; exact h.c1
  · show (w.setCell ⟨b, 1, none⟩ (.int .i64 d)).frozen? ⟨b, o, none⟩ = _
    simp [h.fz]
  · show b < (w.setCell ⟨b, 1, none⟩ (.int .i64 d)).heap.size
    simpa [World.setCell] using h.sz

theorem entAt_next {w w2 : World} {s : ByteArray} {E E1 E3 : List Ent} {y : Ent} {i : Nat} {l f x : Value} (hE : E = E1 ++ y :: E3) (hown : w2.ownsRow w.heap.size 145 2 l (E1.length + 1) (refCells (E1 ++ [y]))) (hb : Below w.heap.size w w2)
    (hl : E1.length + 1 ≤ i + 1) (hT : (E3 = [] ∧ i = s.size) ∨ (E3 ≠ [] ∧ i < s.size ∧ bt s i = 44 ∧ Rest s (i + 1) E3)) (hi : i ≤ s.size) (hf : f = .int .i64 ((i + 1 : Nat) : Int)) (hx : x = .int .i64 ((i + 1 : Nat) : Int)) : EntAt w w2 s E l f x := by
  refine ⟨E1 ++ [y], E3, i + 1, i + 1, by rw [hE]; simp, hf, hx, by simpa using hown, hb, by simp; omega, ?_⟩
  rcases hT with ⟨a, b⟩ | ⟨a, b, c, d⟩
  · exact .inl ⟨a, by omega, rfl⟩
  · cases E3 with
    | nil => exact absurd rfl a
    | cons z E4 =>
      obtain ⟨p, h1, h2⟩ := d
      exact .inr ⟨z, E4, p, rfl, h1, h2, Nat.le_refl _, by have := h1.le; omega⟩

set_option maxHeartbeats 4000000 in
set_option maxRecDepth 100000 in
theorem refEntries_any (s : ByteArray) (w : World) (hb : s.size ≤ 2000) (E : List Ent) (hg : GoodList s E) :
    Calls Try.prog 60 #[.string s] w fun e w' => ∃ v, e = .returned v ∧ w'.ownsRow w.heap.size 145 2 v E.length (refCells E) ∧ Below w.heap.size w w' := by
  obtain ⟨i0, hi, hz0, hz1, hz2⟩ := info_parts Try.infoRefEntry
  rcases rest_of_good hg with ⟨rfl, h0⟩ | hrest
  · have hlt0 : ¬ (1 : Int) ≤ (s.size : Int) := by omega
    have hlt1 : ¬ (0 : Int) < (s.size : Int) := by omega
    clear hg
    go_enter Try.func60, Try.ntmps60
    go_wp2_with fail
    refine wp_loop_rounds 2 ?_
    rw [rounds_succ]
    go_wp2
    rw [rounds_succ]
    go_wp2
    go_ret
    exact ⟨_, rfl, World.ownsRow_nil _ _ _ _, Below.refl _ _⟩
  · have hR : Hid (Rest s 0 E) := hrest
    clear hg hrest
    go_enter Try.func60, Try.ntmps60
    go_wp2_with fail
    go_loopw [3, 4, 5] (fun l f x wr => EntAt w wr s E l f x) (fun _ _ x _ => s.size + 2 - (intOf x).toNat)
    case atStart =>
      have hR' := hR.out
      cases E with
      | nil => exact hR'.elim
      | cons y E3 =>
        obtain ⟨p, h1, h2⟩ := hR'
        exact ⟨[], y :: E3, 0, 0, rfl, rfl, rfl, World.ownsRow_nil _ _ _ _, Below.refl _ _, by simp, .inr ⟨y, E3, p, rfl, h1, h2, Nat.le_refl _, Nat.zero_le _⟩⟩
    case round =>
      obtain ⟨E1, E2, q, i, hE, rfl, rfl, hown, hbel, hq, hcase⟩ := hrel
      obtain ⟨w0, rfl⟩ : ∃ w0, w0 = wr := ⟨_, rfl⟩
      have HE : Hid (E = E1 ++ E2) := hE
      clear hE
      rcases hcase with ⟨rfl, hi2, hqi⟩ | ⟨y, E3, p, rfl, hgy, htl, hqi, hip⟩
      · have hgt : ¬ (i : Int) ≤ (s.size : Int) := by omega
        clear hi2 hqi
        go_wp2
        go_ret
        exact ⟨_, rfl, by rw [HE.out, List.append_nil]; exact hown, hbel⟩
      · have HG : Hid (GoodEntry s q y p) := hgy
        have HT : Hid ((E3 = [] ∧ p = s.size) ∨ (E3 ≠ [] ∧ p < s.size ∧ bt s p = 44 ∧ Rest s (p + 1) E3)) := htl
        obtain ⟨hp1, hp2, hp3, _⟩ := hgy.le
        have hile : (i : Int) ≤ (s.size : Int) := by omega
        clear hgy htl
        by_cases hlt : i < p
        · have hils : i < s.size := by omega
          have hbt := bt_get s i hils
          have h44 := good_nocomma HG.out hqi hlt
          have t44 := srt_cast_ne (a := bt s i) (b := 44) (by omega)
          clear h44
          go_wp2
          go_roundw
          case rel => exact ⟨E1, y :: E3, q, i + 1, HE.out, rfl, by go_num, hown, hbel, hq, .inr ⟨y, E3, p, rfl, HG.out, HT.out, by omega, by omega⟩⟩
          case measure => simp [intOf]; omega
        · obtain rfl : i = p := by omega
          have ti0 : ((i : Int) == 0) = false := beq_eq_false_iff_ne.2 (by omega)
          obtain ⟨n, hw, hn, hltn, hword, hx⟩ := HG.out
          have HW : Hid (WordAt s q n) := hw
          have HWd : Hid (y.word = s.extract q (q + n)) := hword
          have HX : Hid ((bt s (q + n) = 33 ∧ y.inn = false ∧ y.cost = 0 ∧ y.dig = 0 ∧ i = q + n + 1) ∨ (bt s (q + n) = 61 ∧ ∃ m, 1 ≤ m ∧ DigitsAt s (q + n + 1) m ∧ y.inn = true ∧ y.cost = num s (q + n + 1) m ∧ y.dig = q + n + 1 ∧ i = q + n + 1 + m)) := hx
          clear hw hword hx
          by_cases hend : i < s.size
          · have hbt := bt_get s i hend
            have t44 : ((bt s i : Int) != 44) = false := srt_cast_eq (by rcases HT.out with ⟨_, a⟩ | ⟨_, _, a, _⟩ <;> omega)
            go_wp2_with fail
            go_loop [6] (fun kk => ∃ a : Nat, a ≤ n ∧ kk = .int .i64 ((q + a : Nat) : Int)) (fun kk => q + n - (intOf kk).toNat)
            case atStart => exact ⟨0, by omega, by simp⟩
            case round =>
              obtain ⟨a, ha, rfl⟩ := hrel
              have hqa : q + a < s.size := by omega
              have hbk := bt_get s (q + a) hqa
              by_cases hak : a < n
              · obtain ⟨_, u61, u33⟩ := word_plain HW.out (show q ≤ q + a by omega) (by omega)
                have t61 := srt_cast_ne (a := bt s (q + a)) (b := 61) (by omega)
                have t33 := srt_cast_ne (a := bt s (q + a)) (b := 33) (by omega)
                clear u61 u33
                go_wp2
                go_round
                case rel => exact ⟨a + 1, by omega, by go_num⟩
                case measure => simp [intOf]; omega
              · obtain rfl : a = n := by omega
                rcases HX.out with ⟨u33, hin, hco, _, hpi⟩ | ⟨u61, m, hm1, hdg, hin, hco, _, hpi⟩
                · have t61 := srt_cast_ne (a := bt s (q + a)) (b := 61) (by omega)
                  have s61 : ((bt s (q + a) : Int) == 61) = false := beq_eq_false_iff_ne.2 (by omega)
                  have t33 := srt_cast_eq (a := bt s (q + a)) (b := 33) (by omega)
                  have HC : Hid ([Value.string (s.extract q (q + a)), Value.int .i64 (-1)] = refCells [y]) := by show _ = _; simp [refCells, refC, hin, HWd.out]
                  clear u33 hin hco hpi
                  have hsz := hbel.size
                  go_wp2_with (at_builtin; refine wpList_append_own _ rfl _ _ 113 rfl w.heap.size 145 i0 _ 2 24 Try.underlying113 hi hz0 hz1 hz2 rfl (by decide) _ _ _ rfl ((hown.alloc _).alloc _) ⟨w0.heap.size + 1, 0, none⟩ 1 1 [.string (s.extract q (q + a)), .int .i64 (-1)] rfl rfl (news2 _ _ _ _ _ (by simp)) (one2 _ _) (by unfold maxLen; omega) (by omega) (by simp; omega) ?_)
                  intro v' w2 hown' hgrow _
                  rw [HC.out, ← refCells_append] at hown'
                  have hb3 : Below w.heap.size w w2 := ((hbel.alloc hsz _).alloc (by simp; omega) _).grown hgrow (by simp; omega) (fun g hg => (hown.lt g hg).1)
                  clear hgrow
                  go_wp2
                  go_roundw
                  case rel => exact entAt_next HE.out (by simpa using hown') hb3 (by omega) HT.out hp2 (by go_num) (by go_num)
                  case measure => simp [intOf]; omega
                · have t61 := srt_cast_eq (a := bt s (q + a)) (b := 61) (by omega)
                  have s61 : ((bt s (q + a) : Int) == 61) = true := beq_iff_eq.2 (by omega)
                  have HD : Hid (DigitsAt s (q + a + 1) m) := hdg
                  obtain ⟨hm4, hms⟩ := hdg.le
                  have HC : Hid ([Value.string (s.extract q (q + a)), Value.int .i64 (num s (q + a + 1) m)] = refCells [y]) := by show _ = _; simp [refCells, refC, hin, HWd.out, hco]
                  have HP : Hid (i = q + a + 1 + m) := hpi
                  clear u61 hin hco hdg hpi
                  go_wp2_with fail
                  go_loopw [8] (fun jj wx => ∃ c : Nat, c ≤ m ∧ jj = .int .i64 ((q + a + 1 + c : Nat) : Int) ∧ Below w0.heap.size w0 wx ∧ RefX wx w0.heap.size (s.extract q (q + a)) (num s (q + a + 1) c)) (fun jj _ => i - (intOf jj).toNat)
                  case atStart => exact ⟨0, by omega, by go_num, (Below.refl _ _).alloc (Nat.le_refl _) _, RefX.new _ _ _ _⟩
                  case round =>
                    obtain ⟨c, hc, rfl, hbx, hxx⟩ := hrel
                    have HXX : Hid (RefX wr w0.heap.size (s.extract q (q + a)) (num s (q + a + 1) c)) := hxx
                    obtain ⟨hx0, hx1, hxf, hxs⟩ := hxx
                    by_cases hcm : c < m
                    · have hji : ((q : Int) + a + 1 + c) < (i : Int) := by have := HP.out; omega
                      have hjs : q + a + 1 + c < s.size := by omega
                      have hbj := bt_get s (q + a + 1 + c) hjs
                      have hj0 : (0 : Int) ≤ (q : Int) + a + 1 + c := by omega
                      have hj1 : (q : Int) + a + 1 + c < (s.size : Int) := by omega
                      have hjt : ((q : Int) + a + 1 + c).toNat = q + a + 1 + c := by omega
                      obtain ⟨d1, d2⟩ := srt_3.1 (HD.out.2.2.1 (q + a + 1 + c) (by omega) (by omega))
                      have hnum := num_4 s (q + a + 1) c (by omega) (fun j h1 h2 => HD.out.2.2.1 j h1 (by omega))
                      have HNN : Hid (num s (q + a + 1) (c + 1) = 10 * num s (q + a + 1) c + (bt s (q + a + 1 + c) - 48)) := rfl
                      have HV : Hid (10 * (num s (q + a + 1) c : Int) + ((bt s (q + a + 1 + c) : Int) - 48) = ((num s (q + a + 1) (c + 1) : Nat) : Int)) := by
                        show _ = _
                        rw [HNN.out]; omega
                      go_wp2_with fail
                      go_region
                      all_goals
                        go_wp2
                        go_roundw
                        case rel =>
                          refine ⟨c + 1, by omega, by go_num, ?_, ?_⟩
                          · exact (hbx.setCell (by simp) _).drew
                          · rw [HV.out]; exact HXX.out.set _
                        case measure => simp [intOf]; omega
                    · have hji : ¬ ((q : Int) + a + 1 + c) < (i : Int) := by have := HP.out; omega
                      obtain rfl : c = m := by omega
                      have hown1 := ownsRow_below' hown hbx
                      have hbel1 := hbel.trans (hbx.mono hbel.size)
                      have hsz := hbel1.size
                      go_wp2_with (at_builtin; refine wpList_append_own _ rfl _ _ 113 rfl w.heap.size 145 i0 _ 2 24 Try.underlying113 hi hz0 hz1 hz2 rfl (by decide) _ _ _ rfl (hown1.alloc _) ⟨wr.heap.size, 0, none⟩ 1 1 [.string (s.extract q (q + a)), .int .i64 (num s (q + a + 1) c)] rfl rfl (news2 _ _ _ _ _ rfl) (one2 _ _) (by unfold maxLen; omega) (by omega) (by simp; omega) ?_)
                      intro v' w2 hown' hgrow _
                      rw [HC.out, ← refCells_append] at hown'
                      have hb3 : Below w.heap.size w w2 := (hbel1.alloc hsz _).grown hgrow (by simp; omega) (fun g hg => (hown1.lt g hg).1)
                      clear hgrow
                      go_wp2
                      go_roundw
                      case rel => exact entAt_next HE.out (by simpa using hown') hb3 (by omega) HT.out hp2 (by go_num) (by go_num)
                      case measure => simp [intOf]; omega
          · go_wp2_with fail
            go_loop [6] (fun kk => ∃ a : Nat, a ≤ n ∧ kk = .int .i64 ((q + a : Nat) : Int)) (fun kk => q + n - (intOf kk).toNat)
            case atStart => exact ⟨0, by omega, by simp⟩
            case round =>
              obtain ⟨a, ha, rfl⟩ := hrel
              have hqa : q + a < s.size := by omega
              have hbk := bt_get s (q + a) hqa
              by_cases hak : a < n
              · obtain ⟨_, u61, u33⟩ := word_plain HW.out (show q ≤ q + a by omega) (by omega)
                have t61 := srt_cast_ne (a := bt s (q + a)) (b := 61) (by omega)
                have t33 := srt_cast_ne (a := bt s (q + a)) (b := 33) (by omega)
                clear u61 u33
                go_wp2
                go_round
                case rel => exact ⟨a + 1, by omega, by go_num⟩
                case measure => simp [intOf]; omega
              · obtain rfl : a = n := by omega
                rcases HX.out with ⟨u33, hin, hco, _, hpi⟩ | ⟨u61, m, hm1, hdg, hin, hco, _, hpi⟩
                · have t61 := srt_cast_ne (a := bt s (q + a)) (b := 61) (by omega)
                  have s61 : ((bt s (q + a) : Int) == 61) = false := beq_eq_false_iff_ne.2 (by omega)
                  have t33 := srt_cast_eq (a := bt s (q + a)) (b := 33) (by omega)
                  have HC : Hid ([Value.string (s.extract q (q + a)), Value.int .i64 (-1)] = refCells [y]) := by show _ = _; simp [refCells, refC, hin, HWd.out]
                  clear u33 hin hco hpi
                  have hsz := hbel.size
                  go_wp2_with (at_builtin; refine wpList_append_own _ rfl _ _ 113 rfl w.heap.size 145 i0 _ 2 24 Try.underlying113 hi hz0 hz1 hz2 rfl (by decide) _ _ _ rfl ((hown.alloc _).alloc _) ⟨w0.heap.size + 1, 0, none⟩ 1 1 [.string (s.extract q (q + a)), .int .i64 (-1)] rfl rfl (news2 _ _ _ _ _ (by simp)) (one2 _ _) (by unfold maxLen; omega) (by omega) (by simp; omega) ?_)
                  intro v' w2 hown' hgrow _
                  rw [HC.out, ← refCells_append] at hown'
                  have hb3 : Below w.heap.size w w2 := ((hbel.alloc hsz _).alloc (by simp; omega) _).grown hgrow (by simp; omega) (fun g hg => (hown.lt g hg).1)
                  clear hgrow
                  go_wp2
                  go_roundw
                  case rel => exact entAt_next HE.out (by simpa using hown') hb3 (by omega) HT.out hp2 (by go_num) (by go_num)
                  case measure => simp [intOf]; omega
                · have t61 := srt_cast_eq (a := bt s (q + a)) (b := 61) (by omega)
                  have s61 : ((bt s (q + a) : Int) == 61) = true := beq_iff_eq.2 (by omega)
                  have HD : Hid (DigitsAt s (q + a + 1) m) := hdg
                  obtain ⟨hm4, hms⟩ := hdg.le
                  have HC : Hid ([Value.string (s.extract q (q + a)), Value.int .i64 (num s (q + a + 1) m)] = refCells [y]) := by show _ = _; simp [refCells, refC, hin, HWd.out, hco]
                  have HP : Hid (i = q + a + 1 + m) := hpi
                  clear u61 hin hco hdg hpi
                  go_wp2_with fail
                  go_loopw [8] (fun jj wx => ∃ c : Nat, c ≤ m ∧ jj = .int .i64 ((q + a + 1 + c : Nat) : Int) ∧ Below w0.heap.size w0 wx ∧ RefX wx w0.heap.size (s.extract q (q + a)) (num s (q + a + 1) c)) (fun jj _ => i - (intOf jj).toNat)
                  case atStart => exact ⟨0, by omega, by go_num, (Below.refl _ _).alloc (Nat.le_refl _) _, RefX.new _ _ _ _⟩
                  case round =>
                    obtain ⟨c, hc, rfl, hbx, hxx⟩ := hrel
                    have HXX : Hid (RefX wr w0.heap.size (s.extract q (q + a)) (num s (q + a + 1) c)) := hxx
                    obtain ⟨hx0, hx1, hxf, hxs⟩ := hxx
                    by_cases hcm : c < m
                    · have hji : ((q : Int) + a + 1 + c) < (i : Int) := by have := HP.out; omega
                      have hjs : q + a + 1 + c < s.size := by omega
                      have hbj := bt_get s (q + a + 1 + c) hjs
                      have hj0 : (0 : Int) ≤ (q : Int) + a + 1 + c := by omega
                      have hj1 : (q : Int) + a + 1 + c < (s.size : Int) := by omega
                      have hjt : ((q : Int) + a + 1 + c).toNat = q + a + 1 + c := by omega
                      obtain ⟨d1, d2⟩ := srt_3.1 (HD.out.2.2.1 (q + a + 1 + c) (by omega) (by omega))
                      have hnum := num_4 s (q + a + 1) c (by omega) (fun j h1 h2 => HD.out.2.2.1 j h1 (by omega))
                      have HNN : Hid (num s (q + a + 1) (c + 1) = 10 * num s (q + a + 1) c + (bt s (q + a + 1 + c) - 48)) := rfl
                      have HV : Hid (10 * (num s (q + a + 1) c : Int) + ((bt s (q + a + 1 + c) : Int) - 48) = ((num s (q + a + 1) (c + 1) : Nat) : Int)) := by
                        show _ = _
                        rw [HNN.out]; omega
                      go_wp2_with fail
                      go_region
                      all_goals
                        go_wp2
                        go_roundw
                        case rel =>
                          refine ⟨c + 1, by omega, by go_num, ?_, ?_⟩
                          · exact (hbx.setCell (by simp) _).drew
                          · rw [HV.out]; exact HXX.out.set _
                        case measure => simp [intOf]; omega
                    · have hji : ¬ ((q : Int) + a + 1 + c) < (i : Int) := by have := HP.out; omega
                      obtain rfl : c = m := by omega
                      have hown1 := ownsRow_below' hown hbx
                      have hbel1 := hbel.trans (hbx.mono hbel.size)
                      have hsz := hbel1.size
                      go_wp2_with (at_builtin; refine wpList_append_own _ rfl _ _ 113 rfl w.heap.size 145 i0 _ 2 24 Try.underlying113 hi hz0 hz1 hz2 rfl (by decide) _ _ _ rfl (hown1.alloc _) ⟨wr.heap.size, 0, none⟩ 1 1 [.string (s.extract q (q + a)), .int .i64 (num s (q + a + 1) c)] rfl rfl (news2 _ _ _ _ _ rfl) (one2 _ _) (by unfold maxLen; omega) (by omega) (by simp; omega) ?_)
                      intro v' w2 hown' hgrow _
                      rw [HC.out, ← refCells_append] at hown'
                      have hb3 : Below w.heap.size w w2 := (hbel1.alloc hsz _).grown hgrow (by simp; omega) (fun g hg => (hown1.lt g hg).1)
                      clear hgrow
                      go_wp2
                      go_roundw
                      case rel => exact entAt_next HE.out (by simpa using hown') hb3 (by omega) HT.out hp2 (by go_num) (by go_num)
                      case measure => simp [intOf]; omega

end Go.Proofs.Ytlfpepehngkehaa
