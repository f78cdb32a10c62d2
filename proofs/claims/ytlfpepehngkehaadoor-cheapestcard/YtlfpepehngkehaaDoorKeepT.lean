/-
  Walks: the keep statements' texts.
-/
import Derived.Test.YtlfpepehngkehaaDoorKeepF
import Derived.BigQuiet
import Derived.Deep.QuietTactic
import Derived.Lib.BufferRead
namespace Go.Proofs.YtlfpepehngkehaaDoor
set_option linter.unusedSimpArgs false
set_option linter.unusedVariables false
open Go.RowKit

def tlet (raw : List Int) (base i : Nat) : Nat := ltr (pk (raw.getD i 0) 1099511627776) base (decide (i = 0))
def tbytes (raw : List Int) (base : Nat) : Nat → List UInt8
  | 0 => []
  | i + 1 => tbytes raw base i ++ [UInt8.ofNat (tlet raw base i)]
def nT (raw : List Int) : Nat := min raw.length 60
def textOf (raw : List Int) (base : Nat) : ByteArray := ⟨(tbytes raw base (nT raw)).toArray⟩

theorem tbytes_length (raw : List Int) (base : Nat) : ∀ i, (tbytes raw base i).length = i
  | 0 => rfl
  | i + 1 => by simp [tbytes, tbytes_length raw base i]

theorem textOf_size (raw : List Int) (base : Nat) : (textOf raw base).size = nT raw := by
  have := tbytes_length raw base (nT raw)
  simp only [textOf, ByteArray.size, List.size_toArray]
  exact this

theorem tbytes_get (raw : List Int) (base : Nat) : ∀ (n i : Nat), i < n → (tbytes raw base n)[i]? = some (UInt8.ofNat (tlet raw base i))
  | 0, i, h => by omega
  | n + 1, i, h => by
    simp only [tbytes]
    by_cases e : i = n
    · subst e
      rw [List.getElem?_append_right (by rw [tbytes_length]; omega), tbytes_length]
      simp
    · rw [List.getElem?_append_left (by rw [tbytes_length]; omega), tbytes_get raw base n i (by omega)]

theorem textOf_bt (raw : List Int) (base i : Nat) (hb : base ≤ 200) (h : i < nT raw) : bt (textOf raw base) i = tlet raw base i := by
  unfold bt textOf
  rw [List.getD_eq_getElem?_getD]
  show ((tbytes raw base (nT raw))[i]?.getD 0).toNat = _
  rw [tbytes_get raw base _ i h]
  exact u8_of (ltr_lt _ _ _ hb)

def TextRel (raw : List Int) (base : Nat) (w : World) (g : Nat) (b y : Value) (wr : World) : Prop :=
  ∃ i : Nat, g = nT raw - i ∧ i ≤ nT raw ∧ y = .int .i64 i ∧ wr.ownsRow w.heap.size 5 1 b i (byteCells (tbytes raw base i)) ∧ Below w.heap.size w wr

theorem text_step {raw : List Int} {base i : Nat} {w w' : World} {b y : Value} (hb2 : base ≤ 200) (hi : i < nT raw) (hy : y = .int .i64 ((i + 1 : Nat) : Int)) (hr : w'.ownsRow w.heap.size 5 1 b (i + 1) (byteCells (tbytes raw base i) ++ [.int .u8 (tlet raw base i : Int)])) (hb : Below w.heap.size w w') : TextRel raw base w (nT raw - (i + 1)) b y w' := by
  refine ⟨i + 1, rfl, hi, hy, ?_, hb⟩
  simp only [tbytes, byteCells_append]
  have e : byteCells [UInt8.ofNat (tlet raw base i)] = [.int .u8 (tlet raw base i : Int)] := by
    simp only [byteCells, List.map_cons, List.map_nil]
    rw [u8_of (show tlet raw base i < 256 from ltr_lt _ _ _ hb2)]
  rw [e]
  exact hr

theorem bytes_string' {w : World} {B : Nat} {v : Value} {l : List UInt8} (h : w.ownsRow B 5 1 v l.length (byteCells l)) : (convert 42 9 v).run Tryd.prog w = .ok (.string ⟨l.toArray⟩) w := by
  have h' := h
  obtain ⟨h1, h2⟩ := h
  rcases h2 with ⟨rfl, c⟩ | ⟨g, cap, cur, rfl, hr⟩
  · have e : l = [] := List.eq_nil_of_length_eq_zero c
    subst e
    exact Lib.run_convert_nil_bytes w 42 9 5 0 Tryd.underlying42 Tryd.underlying5 Tryd.underlying9
  · refine run_convert_bytes_back (P := Tryd.prog) _ 42 9 5 ⟨g, 0, none⟩ cap l Tryd.underlying42 Tryd.underlying5 Tryd.underlying9 (fun j hj => ?_)
    have e : (⟨g, 0, none⟩ : Addr).add j = ⟨g, j, none⟩ := by simp [Addr.add]; try omega
    rw [e, h'.cellAt j (by omega)]
    simp [byteCells, List.getElem?_eq_getElem hj]

set_option maxHeartbeats 2000000 in
theorem text_any (w : World) (ap : Option Addr) (cp : Nat) (raw : List Int) (hR : IntsAt w ap raw) (hlen : raw.length ≤ 9223372036854775807) (base : Nat) (hb : base ≤ 200) :
    Calls Tryd.prog 8 #[.slice ap raw.length cp, .int .u8 base] w fun e w' => e = .returned (.string (textOf raw base)) ∧ Below w.heap.size w w' := by
  obtain ⟨ii, hii, hi0, hi1, hi2⟩ := info_partsK Tryd.infoU8K
  have HR : Hid (IntsAt w ap raw) := hR
  have hnT : nT raw ≤ 60 ∧ nT raw ≤ raw.length := by unfold nT; omega
  have HNT : Hid (nT raw = min raw.length 60) := rfl
  clear hR
  go_enter Tryd.func8, Tryd.ntmps8
  go_wp2_with fail
  go_loopg [5, 6] (nT raw) (fun g b y wr => TextRel raw base w g b y wr)
  case atStart => exact ⟨0, rfl, Nat.zero_le _, rfl, World.ownsRow_nil _ _ _ _, Below.refl _ _⟩
  case round =>
    obtain ⟨i, rfl, hi, rfl, hrow, hbel⟩ := hrel
    obtain ⟨av, cv, rfl, _⟩ := row_form hrow
    have HROW : Hid (wr.ownsRow w.heap.size 5 1 (.slice av i cv) i (byteCells (tbytes raw base i))) := hrow
    have HBEL : Hid (Below w.heap.size w wr) := hbel
    have hszr : w.heap.size ≤ wr.heap.size + 1 := by have := hbel.size; omega
    by_cases hlt : i < nT raw
    · have hl1 : (i : Int) < (raw.length : Int) := by omega
      have hl2 : (i : Int) < 60 := by omega
      have hir : i < raw.length := by omega
      obtain ⟨hrng, hcel⟩ := HR.out.below HBEL.out
      have hrg := hrng _ (List.getElem_mem hir)
      rcases hcel with hcel | ⟨pb, off, rfl, hcel⟩
      · rw [hcel] at hir; simp at hir
      have hc := hcel i hir
      obtain ⟨x, hx⟩ : ∃ x, x = raw[i] := ⟨_, rfl⟩
      rw [← hx] at hc hrg
      obtain ⟨hg1, hg2⟩ := hrg
      have hv := pk_lt x (n := 1099511627776) (by omega)
      obtain ⟨v, hvd⟩ : ∃ v, v = pk x 1099511627776 := ⟨_, rfl⟩
      have HV : Hid (v = pk x 1099511627776) := hvd
      rw [← hvd] at hv
      have hv' : v ≤ 1099511627776 := by omega
      obtain ⟨fs, hfs⟩ : ∃ fs, fs = decide (i = 0) := ⟨_, rfl⟩
      have e0 : ((i : Int) == 0) = fs := by
        rw [hfs]
        by_cases e : i = 0
        · subst e; rfl
        · rw [decide_eq_false e, beq_eq_false_iff_ne]; omega
      obtain ⟨lt, hltd⟩ : ∃ lt, lt = tlet raw base i := ⟨_, rfl⟩
      have HLT : Hid (ltr v base fs = lt) := by
        show _ = _
        rw [hltd, hvd, hfs, hx]
        unfold tlet
        rw [List.getD_eq_getElem?_getD, List.getElem?_eq_getElem hir, Option.getD_some]
      have HLT2 : Hid (lt = tlet raw base i) := hltd
      have hm4 : i + 1 ≤ maxLen := by unfold maxLen; omega
      have hm5 : (i + 1) * 1 ≤ 140737488355328 := by omega
      clear hrng hcel hx hvd hfs hltd hrow hbel
      go_wp2_with fail
      refine (keepPick_any x 1099511627776 _ hg1 hg2 (by decide) (by decide)).mono ?_
      rintro e wr ⟨rfl, rfl⟩
      rw [← HV.out]
      go_wp2_with fail
      refine (letter_any v base fs _ hv' hb).mono ?_
      rintro e wr ⟨rfl, rfl⟩
      rw [HLT.out]
      go_wp2_with (at_builtin; refine wpList_append_own _ rfl _ _ 42 rfl w.heap.size 5 ii _ 1 1 Tryd.underlying42 hii hi0 hi1 hi2 rfl (by decide) _ _ _ rfl (HROW.out.alloc _) ⟨wr.heap.size, 0, none⟩ 1 1 [.int .u8 lt] rfl rfl (news1K _ _ _ _ rfl) (fun u hu => by simp at hu; subst hu; rfl) hm4 hm5 (by simpa using hszr) ?_)
      intro v' w3 hown' hgrow _
      have hb3 : Below w.heap.size w w3 := (HBEL.out.alloc HBEL.out.size _).grown hgrow (HBEL.out.alloc HBEL.out.size _).size (fun g hg => (HROW.out.lt g hg).1)
      have HN2 : Hid (TextRel raw base w (nT raw - (i + 1)) v' (.int .i64 ((i : Int) + 1)) w3) := text_step hb hlt (by go_num) (by rw [← HLT2.out]; exact hown') hb3
      clear hown' hgrow hb3
      go_wp2_with fail
      go_roundg (nT raw - (i + 1))
      case measure => exact Nat.sub_lt_sub_left hlt (Nat.lt_succ_self i)
      case rel => exact HN2.out
    · obtain rfl : i = nT raw := by omega
      have hgo : ¬ ((nT raw : Nat) : Int) < (raw.length : Int) ∨ (((nT raw : Nat) : Int) < (raw.length : Int) ∧ ¬ ((nT raw : Nat) : Int) < 60) := by have := HNT.out; omega
      have hlw := tbytes_length raw base (nT raw)
      have hconv := bytes_string' (w := wr) (B := w.heap.size) (v := .slice av (nT raw) cv) (l := tbytes raw base (nT raw)) (by rw [hlw]; exact hrow)
      obtain ⟨S, hS⟩ : ∃ S : ByteArray, S = ⟨(tbytes raw base (nT raw)).toArray⟩ := ⟨_, rfl⟩
      rw [← hS] at hconv
      have HS : Hid (textOf raw base = S) := by show _ = _; rw [hS]; rfl
      obtain ⟨N, hN⟩ : ∃ N, N = nT raw := ⟨_, rfl⟩
      rw [← hN] at hconv hgo ⊢
      clear hS hlw hrow HROW hN
      rcases hgo with hgo | ⟨hgo, hgo2⟩
      all_goals
        go_wp2_with fail
        go_ret
        exact ⟨by rw [HS.out]; rfl, hbel⟩

end Go.Proofs.YtlfpepehngkehaaDoor
