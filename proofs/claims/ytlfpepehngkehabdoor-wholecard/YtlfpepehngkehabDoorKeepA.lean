/-
  Walks: the keep statements' words out of raw numbers.
-/
import Derived.Test.YtlfpepehngkehabDoorRows
import Derived.Test.YtlfpepehngkehabDoorMaths
import Derived.Test.YtlfpepehngkehabDoorKeptW
import Derived.WalkKit
import Derived.WalkSpells
import Derived.WalkLawsBesides
import Derived.Deep.LoopGhost
import Derived.Laws.IdiomStrings
namespace Go.Proofs.YtlfpepehngkehabDoor
set_option linter.unusedSimpArgs false
set_option linter.unusedVariables false
open Go.RowKit

theorem pick_int {c : Int} {n : Nat} (h1 : ¬ c < 0) (h : 0 < n) : Int.tmod c (n : Int) = (pk c n : Nat) := by
  rw [pk_cast c h, if_neg h1, Int.tmod_eq_emod_of_nonneg (by omega)]
theorem pick_neg {c : Int} {n : Nat} (h1 : c < 0) (h : 0 < n) : Int.tmod (-(c + 1)) (n : Int) = (pk c n : Nat) := by
  rw [pk_cast c h, if_pos h1, Int.tmod_eq_emod_of_nonneg (by omega)]

set_option maxHeartbeats 1000000 in
theorem keepPick_any (c : Int) (n : Nat) (w : World) (h0 : -9223372036854775808 ≤ c) (h1 : c ≤ 9223372036854775807) (hn : 0 < n) (hn2 : n ≤ 9223372036854775807) :
    Calls Tryd.prog 41 #[.int .i64 c, .int .i64 n] w fun e w' => e = .returned (.int .i64 (pk c n)) ∧ w' = w := by
  have hlt := pk_lt c hn
  have hnz : ((n : Int) == 0) = false := by rw [beq_eq_false_iff_ne]; omega
  have hnz' : ¬ ((n : Int) = 0) := by omega
  by_cases hc : c < 0
  · have hw1 : IntKind.i64.wrap (c + 1) = c + 1 := by rw [IntKind.wrap_i64]; omega
    have hw2 : IntKind.i64.wrap (-(c + 1)) = -(c + 1) := by rw [IntKind.wrap_i64]; omega
    have hp := pick_neg (n := n) hc hn
    obtain ⟨p, hpd⟩ : ∃ p, p = pk c n := ⟨_, rfl⟩
    rw [← hpd] at hp hlt ⊢
    have hw3 : IntKind.i64.wrap (p : Int) = (p : Int) := by rw [IntKind.wrap_i64]; omega
    clear hpd
    go_enter Tryd.func41, Tryd.ntmps41
    go_wp2
    go_ret
    exact ⟨rfl, rfl⟩
  · have hp := pick_int (n := n) hc hn
    obtain ⟨p, hpd⟩ : ∃ p, p = pk c n := ⟨_, rfl⟩
    rw [← hpd] at hp hlt ⊢
    have hw3 : IntKind.i64.wrap (p : Int) = (p : Int) := by rw [IntKind.wrap_i64]; omega
    clear hpd
    go_enter Tryd.func41, Tryd.ntmps41
    go_wp2
    go_ret
    exact ⟨rfl, rfl⟩

theorem tm7 (v : Nat) : Int.tmod (v : Int) 7 = ((v % 7 : Nat) : Int) := by rw [Int.tmod_eq_emod_of_nonneg (by omega)]; omega
theorem tm3 (v : Nat) : Int.tmod (v : Int) 3 = ((v % 3 : Nat) : Int) := by rw [Int.tmod_eq_emod_of_nonneg (by omega)]; omega
theorem td7 (v : Nat) : Int.tdiv (v : Int) 7 = ((v / 7 : Nat) : Int) := by rw [Int.tdiv_eq_ediv_of_nonneg (by omega)]; omega

set_option maxHeartbeats 1000000 in
theorem letter_any (v base : Nat) (first : Bool) (w : World) (hv : v ≤ 1099511627776) (hb : base ≤ 200) :
    Calls Tryd.prog 52 #[.int .i64 v, .int .u8 base, .bool first] w fun e w' => e = .returned (.int .u8 (ltr v base first)) ∧ w' = w := by
  obtain ⟨k, hk⟩ : ∃ k, k = v % 7 := ⟨_, rfl⟩
  obtain ⟨q, hq⟩ : ∃ q, q = k % 3 := ⟨_, rfl⟩
  have h7 : Int.tmod (v : Int) 7 = (k : Int) := by rw [tm7, ← hk]
  have h3 : Int.tmod (k : Int) 3 = (q : Int) := by rw [tm3, ← hq]
  have hk7 : k < 7 := by omega
  have hq3 : q < 3 := by omega
  have hwk : IntKind.i64.wrap (k : Int) = (k : Int) := by rw [IntKind.wrap_i64]; omega
  have hwq : IntKind.i64.wrap (q : Int) = (q : Int) := by rw [IntKind.wrap_i64]; omega
  have hwq8 : IntKind.u8.wrap (q : Int) = (q : Int) := by rw [IntKind.wrap_u8]; omega
  have hws : IntKind.u8.wrap ((base : Int) + (q : Int)) = (base : Int) + (q : Int) := by rw [IntKind.wrap_u8]; omega
  obtain ⟨r, hr⟩ : ∃ r, r = ltr v base first := ⟨_, rfl⟩
  rw [← hr]
  have HR : Hid (r = if k = 6 ∧ first = false then 126 else base + q) := by show _ = _; rw [hr]; unfold ltr; rw [← hk, ← hq]
  clear hr hk hq
  by_cases h6 : k = 6
  · have e6 : ((k : Int) == 6) = true := by rw [h6]; rfl
    cases first with
    | false =>
      have hr : r = 126 := by rw [HR.out, if_pos ⟨h6, rfl⟩]
      subst hr
      clear h6
      go_enter Tryd.func52, Tryd.ntmps52
      go_wp2
      go_ret
      exact ⟨rfl, rfl⟩
    | true =>
      have hr : (r : Int) = (base : Int) + (q : Int) := by rw [HR.out, if_neg (by simp)]; omega
      rw [hr]
      clear h6
      go_enter Tryd.func52, Tryd.ntmps52
      go_wp2
      go_ret
      exact ⟨rfl, rfl⟩
  · have e6 : ((k : Int) == 6) = false := by rw [beq_eq_false_iff_ne]; omega
    have hr : (r : Int) = (base : Int) + (q : Int) := by rw [HR.out, if_neg (fun h => h6 h.1)]; omega
    rw [hr]
    clear h6
    go_enter Tryd.func52, Tryd.ntmps52
    go_wp2
    go_ret
    exact ⟨rfl, rfl⟩

theorem Tryd.infoU8K : (Tryd.prog.info? 5).map (fun i => (i.zero, i.size, i.bytes)) = some (some (.int .u8 0), 1, 1) := by kernel_rfl

theorem info_partsK {p : Program} {t : TypeId} {z : Option Value} {n b : Nat} (h : (p.info? t).map (fun i => (i.zero, i.size, i.bytes)) = some (z, n, b)) : ∃ i, p.info? t = some i ∧ i.zero = z ∧ i.size = n ∧ i.bytes = b := by
  cases e : p.info? t with
  | none => rw [e] at h; cases h
  | some i =>
    rw [e] at h
    simp at h
    exact ⟨i, rfl, h.1, h.2.1, h.2.2⟩

def byteCells (l : List UInt8) : List Value := l.map fun b => .int .u8 (b.toNat : Int)
theorem byteCells_length (l : List UInt8) : (byteCells l).length = l.length := by simp [byteCells]
theorem byteCells_append (l m : List UInt8) : byteCells (l ++ m) = byteCells l ++ byteCells m := by simp [byteCells]

theorem bytes_string {w : World} {B : Nat} {v : Value} {l : List UInt8} (h : w.ownsRow B 5 1 v l.length (byteCells l)) (hl : l ≠ []) : ∃ g cap, v = .slice (some ⟨g, 0, none⟩) l.length cap ∧ (convert 87 9 (.slice (some ⟨g, 0, none⟩) l.length cap)).run Tryd.prog w = .ok (.string ⟨l.toArray⟩) w := by
  obtain ⟨h1, h2⟩ := h
  rcases h2 with ⟨_, c⟩ | ⟨g, cap, cur, rfl, hr⟩
  · exact absurd (List.eq_nil_of_length_eq_zero c) hl
  · refine ⟨g, cap, rfl, run_convert_bytes_back (P := Tryd.prog) _ 87 9 5 ⟨g, 0, none⟩ cap l Tryd.underlying87 Tryd.underlying5 Tryd.underlying9 (fun j hj => ?_)⟩
    have e : (⟨g, 0, none⟩ : Addr).add j = ⟨g, j, none⟩ := by simp [Addr.add]; try omega
    rw [e, World.ownsRow.cellAt ⟨h1, .inr ⟨g, cap, cur, rfl, hr⟩⟩ j (by omega)]
    simp [byteCells, List.getElem?_eq_getElem hj]

theorem oneByte (b : UInt8) : ∀ u ∈ byteCells [b], u.oneCell' = true := by
  intro u hu; simp [byteCells] at hu; subst hu; rfl
theorem news1K (w : World) (x : Value) (t : TypeId) (n : Nat) (hn : n = w.heap.size) : ∀ j u, [x][j]? = some u → (w.alloc (.cells #[x] t)).cell? ((⟨n, 0, none⟩ : Addr).add j) = some u := by
  subst hn; exact cell_one_new _ _ _

def WordRel (v0 : Nat) (w : World) (g : Nat) (x b y : Value) (wr : World) : Prop :=
  ∃ i : Nat, g = wlen v0 - i ∧ i ≤ wlen v0 ∧ x = .int .i64 ((v0 / 8 / 7 ^ i : Nat) : Int) ∧ y = .int .i64 i ∧ wr.ownsRow w.heap.size 5 1 b i (byteCells (wbytes v0 i)) ∧ Below w.heap.size w wr

theorem word_step {v0 i : Nat} {w w' : World} {x b y : Value} (hi : i < wlen v0) (hx : x = .int .i64 ((v0 / 8 / 7 ^ i / 7 : Nat) : Int)) (hy : y = .int .i64 ((i + 1 : Nat) : Int)) (hr : w'.ownsRow w.heap.size 5 1 b (i + 1) (byteCells (wbytes v0 i) ++ [.int .u8 (wlet v0 i : Int)])) (hb : Below w.heap.size w w') : WordRel v0 w (wlen v0 - (i + 1)) x b y w' := by
  refine ⟨i + 1, rfl, hi, ?_, hy, ?_, hb⟩
  · rw [hx, Nat.pow_succ, Nat.div_div_eq_div_mul]
  · simp only [wbytes, byteCells_append]
    have e : byteCells [UInt8.ofNat (wlet v0 i)] = [.int .u8 (wlet v0 i : Int)] := by
      simp only [byteCells, List.map_cons, List.map_nil]
      rw [u8_of (wlet_lt v0 i)]
    rw [e]
    exact hr

set_option maxHeartbeats 2000000 in
theorem word_any (c : Int) (w : World) (h0 : -9223372036854775808 ≤ c) (h1 : c ≤ 9223372036854775807) :
    Calls Tryd.prog 40 #[.int .i64 c] w fun e w' => e = .returned (.string (wordOf c)) ∧ Below w.heap.size w w' := by
  obtain ⟨ii, hii, hi0, hi1, hi2⟩ := info_partsK Tryd.infoU8K
  have hv := pk_lt c (n := 1099511627776) (by omega)
  obtain ⟨v0, hv0⟩ : ∃ v0, v0 = pk c 1099511627776 := ⟨_, rfl⟩
  have HV : Hid (v0 = pk c 1099511627776) := hv0
  have HWO : Hid (wordOf c = wordV v0) := by show _ = _; rw [hv0]; rfl
  rw [HWO.out]
  rw [← hv0] at hv
  clear hv0
  obtain ⟨n, hn⟩ : ∃ n, n = wlen v0 := ⟨_, rfl⟩
  have hnl := wlen_le v0
  rw [← hn] at hnl
  obtain ⟨v8, hv8⟩ : ∃ v8, v8 = v0 / 8 := ⟨_, rfl⟩
  obtain ⟨v2, hv2⟩ : ∃ v2, v2 = v0 / 2 := ⟨_, rfl⟩
  obtain ⟨v4, hv4⟩ : ∃ v4, v4 = v2 % 4 := ⟨_, rfl⟩
  obtain ⟨vb, hvb⟩ : ∃ vb, vb = v0 % 2 := ⟨_, rfl⟩
  have t8 : Int.tdiv (v0 : Int) 8 = (v8 : Int) := by rw [Int.tdiv_eq_ediv_of_nonneg (by omega)]; omega
  have t2 : Int.tdiv (v0 : Int) 2 = (v2 : Int) := by rw [Int.tdiv_eq_ediv_of_nonneg (by omega)]; omega
  have t4 : Int.tmod (v2 : Int) 4 = (v4 : Int) := by rw [Int.tmod_eq_emod_of_nonneg (by omega)]; omega
  have tb : Int.tmod (v0 : Int) 2 = (vb : Int) := by rw [Int.tmod_eq_emod_of_nonneg (by omega)]; omega
  have w8 : IntKind.i64.wrap (v8 : Int) = (v8 : Int) := by rw [IntKind.wrap_i64]; omega
  have w2 : IntKind.i64.wrap (v2 : Int) = (v2 : Int) := by rw [IntKind.wrap_i64]; omega
  have w4 : IntKind.i64.wrap (v4 : Int) = (v4 : Int) := by rw [IntKind.wrap_i64]; omega
  have wb : IntKind.i64.wrap (vb : Int) = (vb : Int) := by rw [IntKind.wrap_i64]; omega
  have hn4 : (1 : Int) + (v4 : Int) = (n : Int) := by rw [hn]; unfold wlen; omega
  have wn : IntKind.i64.wrap (n : Int) = (n : Int) := by rw [IntKind.wrap_i64]; omega
  have HN : Hid (n = wlen v0) := hn
  have HV8 : Hid (v8 = v0 / 8) := hv8
  obtain ⟨bs, hbs⟩ : ∃ bs, bs = wbase v0 := ⟨_, rfl⟩
  have hbs2 : bs ≤ 200 := by rw [hbs]; exact wbase_le v0
  have HBS : Hid (bs = wbase v0) := hbs
  have hsplit : (((vb : Int) == 1) = true ∧ bs = 65) ∨ (((vb : Int) == 1) = false ∧ bs = 97) := by
    rw [hbs]; unfold wbase
    rcases Nat.mod_two_eq_zero_or_one v0 with e | e
    · right; rw [if_neg (by omega)]; exact ⟨by rw [beq_eq_false_iff_ne]; omega, rfl⟩
    · left; rw [if_pos e]; exact ⟨by rw [beq_iff_eq]; omega, rfl⟩
  clear hn hv2 hv4 hvb hbs hv8
  rcases hsplit with ⟨hsp, rfl⟩ | ⟨hsp, rfl⟩
  all_goals
    go_enter Tryd.func40, Tryd.ntmps40
    go_wp2_with (go_at_call 41; refine (keepPick_any c 1099511627776 _ h0 h1 (by decide) (by decide)).mono ?_; rintro e w ⟨rfl, rfl⟩; rw [← HV.out])
    clear t8 t2 t4 tb w8 w2 w4 wb hn4 wn
    go_loopg [3, 6, 7] n (fun g x b y wr => WordRel v0 w g x b y wr)
    case atStart => exact ⟨0, HN.out, Nat.zero_le _, by rw [HV8.out]; simp, rfl, World.ownsRow_nil _ _ _ _, Below.refl _ _⟩
    case round =>
      obtain ⟨i, rfl, hi, rfl, rfl, hrow, hbel⟩ := hrel
      obtain ⟨b, rfl⟩ : ∃ b : Value, b = u6 := ⟨_, rfl⟩
      have hin : i ≤ n := by rw [HN.out]; exact hi
      obtain ⟨vi, hvi⟩ : ∃ vi, vi = v0 / 8 / 7 ^ i := ⟨_, rfl⟩
      obtain ⟨vj, hvj⟩ : ∃ vj, vj = vi / 7 := ⟨_, rfl⟩
      have HVI : Hid (vi = v0 / 8 / 7 ^ i) := hvi
      have HVJ : Hid (vj = vi / 7) := hvj
      have hvl : vi ≤ 1099511627776 := by
        have h1 := Nat.div_le_self (v0 / 8) (7 ^ i)
        have h2 := Nat.div_le_self v0 8
        omega
      rw [← hvi]
      have hd7 : Int.tdiv (vi : Int) 7 = (vj : Int) := by rw [td7, ← hvj]
      have hwj : IntKind.i64.wrap (vj : Int) = (vj : Int) := by rw [IntKind.wrap_i64]; omega
      have HROW : Hid (wr.ownsRow w.heap.size 5 1 b i (byteCells (wbytes v0 i))) := hrow
      have HBEL : Hid (Below w.heap.size w wr) := hbel
      have hszr : w.heap.size ≤ wr.heap.size + 1 := by have := hbel.size; omega
      clear hvi hvj
      by_cases hlt : i < n
      · have hlt' : (i : Int) < (n : Int) := by omega
        have hlw : i < wlen v0 := by rw [← HN.out]; exact hlt
        obtain ⟨fs, hfs⟩ : ∃ fs, fs = decide (i = 0) := ⟨_, rfl⟩
        have e0 : ((i : Int) == 0) = fs := by
          rw [hfs]
          by_cases e : i = 0
          · subst e; rfl
          · rw [decide_eq_false e, beq_eq_false_iff_ne]; omega
        obtain ⟨lt, hlt2⟩ : ∃ lt, lt = wlet v0 i := ⟨_, rfl⟩
        have HLT : Hid (∀ q, q = wbase v0 → ltr vi q fs = lt) := fun q hq => by rw [hlt2, HVI.out, hfs, hq]; rfl
        have HLT2 : Hid (lt = wlet v0 i) := hlt2
        have hm4 : i + 1 ≤ maxLen := by unfold maxLen; omega
        have hm5 : (i + 1) * 1 ≤ 140737488355328 := by omega
        clear hfs hlt2 hrow hbel
        go_wp2_with fail
        refine (letter_any vi _ fs _ hvl hbs2).mono ?_
        rintro e wr ⟨rfl, rfl⟩
        rw [HLT.out _ HBS.out]
        go_wp2_with (at_builtin; refine wpList_append_own _ rfl _ _ 87 rfl w.heap.size 5 ii _ 1 1 Tryd.underlying87 hii hi0 hi1 hi2 rfl (by decide) _ _ _ rfl (HROW.out.alloc _) ⟨wr.heap.size, 0, none⟩ 1 1 [.int .u8 lt] rfl rfl (news1K _ _ _ _ rfl) (fun u hu => by simp at hu; subst hu; rfl) hm4 hm5 (by simpa using hszr) ?_)
        intro v' w3 hown' hgrow _
        have hb3 : Below w.heap.size w w3 := (HBEL.out.alloc HBEL.out.size _).grown hgrow (HBEL.out.alloc HBEL.out.size _).size (fun g hg => (HROW.out.lt g hg).1)
        have HN2 : Hid (WordRel v0 w (wlen v0 - (i + 1)) (.int .i64 vj) v' (.int .i64 ((i : Int) + 1)) w3) := word_step hlw (by rw [HVJ.out, HVI.out]) (by go_num) (by rw [← HLT2.out]; exact hown') hb3
        clear hown' hgrow hb3
        go_wp2_with fail
        go_roundg (wlen v0 - (i + 1))
        case measure => exact Nat.sub_lt_sub_left hlw (Nat.lt_succ_self i)
        case rel => exact HN2.out
      · obtain rfl : i = n := by omega
        have hlw : (wbytes v0 i).length = i := wbytes_length v0 i
        have hne : wbytes v0 i ≠ [] := fun e => by rw [e] at hlw; simp at hlw; omega
        have hrow' : wr.ownsRow w.heap.size 5 1 b (wbytes v0 i).length (byteCells (wbytes v0 i)) := by rw [hlw]; exact hrow
        obtain ⟨g, cap, hvb, hconv⟩ := bytes_string hrow' hne
        rw [hlw] at hvb hconv
        subst hvb
        obtain ⟨S, hS⟩ : ∃ S : ByteArray, S = ⟨(wbytes v0 i).toArray⟩ := ⟨_, rfl⟩
        rw [← hS] at hconv
        have HS : Hid (wordV v0 = S) := by show _ = _; rw [hS]; unfold wordV; rw [← HN.out]
        clear hS hne hlw hrow' hrow HROW
        go_wp2_with fail
        go_ret
        exact ⟨by rw [HS.out]; rfl, hbel⟩

end Go.Proofs.YtlfpepehngkehabDoor
