import Derived.Test.YtlfpepehngkehabDoorLeafA
import Derived.Test.YtlfpepehngkehabDoorMaths
import Derived.Test.YtlfpepehngkehabDoorPrefixS
import Derived.Test.YtlfpepehngkehabDoorRowsW
import Derived.Deep.LoopGhost
import Derived.Laws.AppendOwnNone
import Derived.Deep.DeepCutAuto
import Derived.Test.YtlfpepehngkehabDoorCutI
/-
  Walks: the program's clusters and runs.
-/
namespace Go.Proofs.YtlfpepehngkehabDoor
set_option linter.unusedSimpArgs false
set_option linter.unusedVariables false
open Go.RowKit

/-- the number of a cluster's sort, by its first byte. -/
def sn (c : Nat) : Nat := if srt c = 4 then 0 else srt c

theorem sn_cases (c : Nat) : (sn c = 1 ∧ sortC c = 115) ∨ (sn c = 2 ∧ sortC c = 99) ∨ (sn c = 3 ∧ sortC c = 100) ∨ (sn c = 5 ∧ sortC c = 98) ∨ (sn c = 0 ∧ sortC c = 111) := by
  unfold sn srt sortC
  repeat (split <;> try omega)

theorem sn_eq {c d : Nat} : sn c = sn d ↔ sortC c = sortC d := by
  have := sn_cases c
  have := sn_cases d
  omega

theorem edge_lt {t : ByteArray} {i : Nat} (h : i < t.size) : Edge t i ↔ (i = 0 ∨ srt (bt t i) ≠ 4) := by
  unfold Edge
  have := @srt_4 (bt t i)
  omega

theorem ieq_t {a : Nat} {b : Int} (h : (a : Int) = b) : ((a : Int) == b) = true := by rw [beq_iff_eq]; exact h
theorem ieq_f {a : Nat} {b : Int} (h : (a : Int) ≠ b) : ((a : Int) == b) = false := by rw [beq_eq_false_iff_ne]; exact h

/-- the cluster from i on ends at e. -/
def ClusterTo (t : ByteArray) (i e : Nat) : Prop := i < e ∧ e ≤ t.size ∧ Edge t e ∧ ∀ j, i < j → j < e → bt t j = 126

theorem ClusterTo.no {t : ByteArray} {i e : Nat} (h : ClusterTo t i e) (j : Nat) (h1 : i < j) (h2 : j < e) : ¬ Edge t j := by
  have hb := h.2.2.2 j h1 h2
  have := h.2.1
  rintro (x | x | x)
  · omega
  · omega
  · exact x hb

theorem ClusterTo.first {t : ByteArray} {i e : Nat} (h : ClusterTo t i e) (hi : Edge t i) : frst t (e - 1) = i := by
  have h1 := h.1
  have a := frst_ge hi (i := e - 1) (by omega)
  have b := frst_le t (e - 1)
  by_cases x : frst t (e - 1) = i
  · exact x
  · exact absurd (frst_is t (e - 1)) (h.no _ (by omega) (by omega))

set_option maxHeartbeats 400000 in
theorem begins_any (t : ByteArray) (i : Nat) (w : World) (ht : t.size ≤ maxLen) (hi : i ≤ t.size) :
    Calls Tryd.prog 65 #[.string t, .int .i64 i] w fun e w' => e = .returned (.bool (decide (i < t.size ∧ Edge t i))) ∧ w' = w := by
  have hi0 : ¬ (i : Int) < 0 := by omega
  unfold maxLen at ht
  by_cases hlt : i < t.size
  · have hlt' : (i : Int) < (t.size : Int) := by omega
    have hbt := bt_get t i hlt
    have hb2 := bt_lt t i
    by_cases h0 : i = 0
    · have hd : decide (i < t.size ∧ Edge t i) = true := decide_eq_true ⟨hlt, .inl h0⟩
      have h0' : ((i : Int) == 0) = true := by rw [beq_iff_eq]; omega
      rw [hd]
      clear hd h0
      go_enter Tryd.func65, Tryd.ntmps65
      go_wp2_with (go_at_call 50; refine (of_any _ _ hb2).mono ?_; rintro e w' ⟨rfl, rfl⟩)
      go_ret
      exact ⟨rfl, rfl⟩
    · have h0' : ((i : Int) == 0) = false := by rw [beq_eq_false_iff_ne]; omega
      by_cases h4 : srt (bt t i) = 4
      · have hd : decide (i < t.size ∧ Edge t i) = false := decide_eq_false (fun h => by rw [edge_lt hlt] at h; omega)
        have ht4 := srt_cast_eq (a := srt (bt t i)) (b := 4) (by omega)
        rw [hd]
        clear hd h4
        go_enter Tryd.func65, Tryd.ntmps65
        go_wp2_with (go_at_call 50; refine (of_any _ _ hb2).mono ?_; rintro e w' ⟨rfl, rfl⟩)
        go_ret
        exact ⟨rfl, rfl⟩
      · have hd : decide (i < t.size ∧ Edge t i) = true := decide_eq_true ⟨hlt, (edge_lt hlt).2 (.inr h4)⟩
        have ht4 := srt_cast_ne (a := srt (bt t i)) (b := 4) (by omega)
        rw [hd]
        clear hd h4
        go_enter Tryd.func65, Tryd.ntmps65
        go_wp2_with (go_at_call 50; refine (of_any _ _ hb2).mono ?_; rintro e w' ⟨rfl, rfl⟩)
        go_ret
        exact ⟨rfl, rfl⟩
  · have hd : decide (i < t.size ∧ Edge t i) = false := decide_eq_false (fun h => hlt h.1)
    have hlt' : ¬ (i : Int) < (t.size : Int) := by omega
    rw [hd]
    clear hd
    go_enter Tryd.func65, Tryd.ntmps65
    go_wp2_with fail
    go_ret
    exact ⟨rfl, rfl⟩

theorem marks_more {t : ByteArray} {i e : Nat} (h : ∀ j, i < j → j < e → bt t j = 126) (h' : srt (bt t e) = 4) : ∀ j, i < j → j < e + 1 → bt t j = 126 := by
  intro j a b
  by_cases x : j = e
  · rw [x]; exact srt_4.1 h'
  · exact h j a (by omega)

def ClusRel (t : ByteArray) (i : Nat) (v : Value) : Prop := ∃ e : Nat, i < e ∧ e ≤ t.size ∧ (∀ j, i < j → j < e → bt t j = 126) ∧ v = .int .i64 e

def ClusEnd (t : ByteArray) (i : Nat) (e : Ending) : Prop := ∃ hi : Nat, e = .returned (.tuple #[.int .i64 (sn (bt t i)), .int .i64 hi]) ∧ ClusterTo t i hi

set_option maxHeartbeats 1000000 in
theorem cluster_any (t : ByteArray) (i : Nat) (w : World) (ht : t.size ≤ 2000) (hi : i < t.size) :
    Calls Tryd.prog 34 #[.string t, .int .i64 i] w fun e w' => ClusEnd t i e ∧ w' = w := by
  have hi0 : ¬ (i : Int) < 0 := by omega
  have hlt' : (i : Int) < (t.size : Int) := by omega
  have hbt := bt_get t i hi
  have hb2 := bt_lt t i
  go_enter Tryd.func34, Tryd.ntmps34
  go_wp2_with fail
  go_loop [6] (fun v => ClusRel t i v) (fun v => t.size - (intOf v).toNat)
  case atStart => exact ⟨i + 1, by omega, by omega, fun j a b => by omega, by go_num⟩
  case round =>
    obtain ⟨e, he1, he2, hall, rfl⟩ := hrel
    have HA : Hid (∀ j, i < j → j < e → bt t j = 126) := hall
    clear hall
    have key : (e = t.size ∨ srt (bt t e) ≠ 4) → ClusterTo t i e := fun h => ⟨he1, he2, by
      rcases h with h | h
      · exact .inr (.inl h)
      · exact .inr (.inr (fun x => h (srt_4.2 x))), HA.out⟩
    have HK : Hid ((e = t.size ∨ srt (bt t e) ≠ 4) → ClusterTo t i e) := key
    clear key
    by_cases hes : e < t.size
    · have hes' : (e : Int) < (t.size : Int) := by omega
      have hbe := bt_get t e hes
      have hb3 := bt_lt t e
      by_cases h4 : srt (bt t e) = 4
      · have H4 : Hid (srt (bt t e) = 4) := h4
        have ht4 := ieq_t (a := srt (bt t e)) (b := 4) (by omega)
        clear h4
        go_wp2_with (go_at_call 50; refine (of_any _ _ hb3).mono ?_; rintro e w' ⟨rfl, rfl⟩)
        go_round
        case rel => exact ⟨e + 1, by omega, by omega, marks_more HA.out H4.out, by go_num⟩
        case measure => simp [intOf]; omega
      · have HC : Hid (ClusterTo t i e) := HK.out (.inr h4)
        have ht4 := ieq_f (a := srt (bt t e)) (b := 4) (by omega)
        clear h4 HK
        by_cases h5 : srt (bt t i) = 4
        · have HS : Hid (sn (bt t i) = 0) := by show sn _ = 0; unfold sn; rw [if_pos h5]
          have ht5 := ieq_t (a := srt (bt t i)) (b := 4) (by omega)
          clear h5
          go_wp2_with fail
          refine (of_any _ _ hb3).mono ?_
          rintro e' w' ⟨rfl, rfl⟩
          go_wp2_with fail
          refine (of_any _ _ hb2).mono ?_
          rintro e' w' ⟨rfl, rfl⟩
          go_wp2
          go_ret2
          exact ⟨⟨e, by rw [HS.out]; rfl, HC.out⟩, rfl⟩
        · have HS : Hid (sn (bt t i) = srt (bt t i)) := by show sn _ = _; unfold sn; rw [if_neg h5]
          have ht5 := ieq_f (a := srt (bt t i)) (b := 4) (by omega)
          clear h5
          go_wp2_with fail
          refine (of_any _ _ hb3).mono ?_
          rintro e' w' ⟨rfl, rfl⟩
          go_wp2_with fail
          refine (of_any _ _ hb2).mono ?_
          rintro e' w' ⟨rfl, rfl⟩
          go_wp2
          go_ret2
          exact ⟨⟨e, by rw [HS.out]; rfl, HC.out⟩, rfl⟩
    · have hes' : ¬ (e : Int) < (t.size : Int) := by omega
      have HC : Hid (ClusterTo t i e) := HK.out (.inl (by omega))
      clear HK
      by_cases h5 : srt (bt t i) = 4
      · have HS : Hid (sn (bt t i) = 0) := by show sn _ = 0; unfold sn; rw [if_pos h5]
        have ht5 := ieq_t (a := srt (bt t i)) (b := 4) (by omega)
        clear h5
        go_wp2_with (go_at_call 50; refine (of_any _ _ hb2).mono ?_; rintro e w' ⟨rfl, rfl⟩)
        go_ret2
        exact ⟨⟨e, by rw [HS.out]; rfl, HC.out⟩, rfl⟩
      · have HS : Hid (sn (bt t i) = srt (bt t i)) := by show sn _ = _; unfold sn; rw [if_neg h5]
        have ht5 := ieq_f (a := srt (bt t i)) (b := 4) (by omega)
        clear h5
        go_wp2_with (go_at_call 50; refine (of_any _ _ hb2).mono ?_; rintro e w' ⟨rfl, rfl⟩)
        go_ret2
        exact ⟨⟨e, by rw [HS.out]; rfl, HC.out⟩, rfl⟩

/-- the run from i on ends at e. -/
def RunTo (t : ByteArray) (i e : Nat) : Prop := i < e ∧ e ≤ t.size ∧ IsEnd t e ∧ ∀ j, i < j → j < e → ¬ IsEnd t j

/-- all clusters up to e are of one sort. -/
def RunPre (t : ByteArray) (i e : Nat) : Prop := i < e ∧ e ≤ t.size ∧ Edge t e ∧ sortAt t (e - 1) = sortC (bt t i) ∧ ∀ j, i < j → j < e → ¬ IsEnd t j

theorem no_end {t : ByteArray} {i e : Nat} (h : ClusterTo t i e) (j : Nat) (h1 : i < j) (h2 : j < e) : ¬ IsEnd t j := fun x => h.no j h1 h2 x.edge

theorem RunPre.start {t : ByteArray} {i e : Nat} (h : ClusterTo t i e) (hi : Edge t i) : RunPre t i e := ⟨h.1, h.2.1, h.2.2.1, by unfold sortAt; rw [h.first hi], no_end h⟩

theorem RunPre.other {t : ByteArray} {i e : Nat} (h : RunPre t i e) (hs : sn (bt t i) = 0) : RunTo t i e := by
  have := sn_cases (bt t i)
  exact ⟨h.1, h.2.1, .inr ⟨h.2.2.1, .inr (by rw [h.2.2.2.1]; omega)⟩, h.2.2.2.2⟩

theorem RunPre.all {t : ByteArray} {i e : Nat} (h : RunPre t i e) (hs : e = t.size) : RunTo t i e := ⟨h.1, h.2.1, .inl hs, h.2.2.2.2⟩

theorem RunPre.turn {t : ByteArray} {i e : Nat} (h : RunPre t i e) (hs : sn (bt t e) ≠ sn (bt t i)) : RunTo t i e := by
  refine ⟨h.1, h.2.1, .inr ⟨h.2.2.1, .inl ?_⟩, h.2.2.2.2⟩
  rw [h.2.2.2.1]
  exact fun x => hs (sn_eq.2 x.symm)

theorem RunPre.more {t : ByteArray} {i e e' : Nat} (h : RunPre t i e) (hc : ClusterTo t e e') (hs : sn (bt t e) = sn (bt t i)) (h0 : sn (bt t i) ≠ 0) : RunPre t i e' := by
  have hh := hc.1
  have h1 := h.1
  have hx := hc.2.1
  refine ⟨by omega, hc.2.1, hc.2.2.1, ?_, fun j a b => ?_⟩
  · unfold sortAt; rw [hc.first h.2.2.1]; exact sn_eq.1 hs
  · by_cases x : j < e
    · exact h.2.2.2.2 j a x
    · by_cases y : j = e
      · subst y
        rintro (z | ⟨_, z⟩)
        · omega
        · have := sn_cases (bt t i)
          have := sn_eq.1 hs
          rw [h.2.2.2.1] at z
          omega
      · exact no_end hc j (by omega) b

def RunRel (t : ByteArray) (i : Nat) (v : Value) : Prop := ∃ e : Nat, RunPre t i e ∧ v = .int .i64 e
def RunEnd (t : ByteArray) (i : Nat) (e : Ending) : Prop := ∃ hi : Nat, e = .returned (.tuple #[.int .i64 (sn (bt t i)), .int .i64 hi]) ∧ RunTo t i hi

end Go.Proofs.YtlfpepehngkehabDoor
/-
  Walks: the program's runs; the words that stand at a place.
-/
namespace Go.Proofs.YtlfpepehngkehabDoor
set_option linter.unusedSimpArgs false
set_option linter.unusedVariables false
open Go.RowKit

set_option maxHeartbeats 1000000 in
theorem run_any (t : ByteArray) (i : Nat) (w : World) (ht : t.size ≤ 2000) (hi : i < t.size) (he : Edge t i) :
    Calls Tryd.prog 32 #[.string t, .int .i64 i] w fun e w' => RunEnd t i e ∧ w' = w := by
  have HE : Hid (Edge t i) := he
  clear he
  have hsn : sn (bt t i) ≤ 5 := by have := sn_cases (bt t i); omega
  go_enter Tryd.func32, Tryd.ntmps32
  go_wp2_with fail
  refine (cluster_any t i _ ht hi).mono ?_
  rintro e w' ⟨⟨c, rfl, hc⟩, rfl⟩
  have HP : Hid (RunPre t i c) := RunPre.start hc HE.out
  clear hc
  by_cases h0 : sn (bt t i) = 0
  · have HR : Hid (RunTo t i c) := HP.out.other h0
    have HS : Hid (sn (bt t i) = 0) := h0
    rw [h0]
    clear h0
    go_wp2
    go_ret2
    exact ⟨⟨c, by rw [HS.out]; rfl, HR.out⟩, rfl⟩
  · have H0 : Hid (sn (bt t i) ≠ 0) := h0
    have h0' : ((sn (bt t i) : Int) == 0) = false := by rw [beq_eq_false_iff_ne]; omega
    clear h0
    go_wp2_with fail
    go_loop [7] (fun v => RunRel t i v) (fun v => t.size - (intOf v).toNat)
    case atStart => exact ⟨c, HP.out, rfl⟩
    case round =>
      obtain ⟨e, hpre, rfl⟩ := hrel
      have HPR : Hid (RunPre t i e) := hpre
      have hes := hpre.2.1
      clear hpre
      by_cases hlt : e < t.size
      · have hlt' : (e : Int) < (t.size : Int) := by omega
        go_wp2_with fail
        refine (cluster_any t e _ ht hlt).mono ?_
        rintro e1 w' ⟨⟨c1, rfl, hc1⟩, rfl⟩
        have hc1l := hc1.2.1
        have hc1g := hc1.1
        have HC1 : Hid (ClusterTo t e c1) := hc1
        clear hc1
        by_cases hs : sn (bt t e) = sn (bt t i)
        · have HN : Hid (RunPre t i c1) := HPR.out.more HC1.out hs H0.out
          have ht1 := srt_cast_eq (a := sn (bt t e)) (b := sn (bt t i)) (by omega)
          clear hs
          go_wp2
          go_round
          case rel => exact ⟨c1, HN.out, rfl⟩
          case measure => simp [intOf]; omega
        · have HN : Hid (RunTo t i e) := HPR.out.turn hs
          have ht1 := srt_cast_ne (a := sn (bt t e)) (b := sn (bt t i)) (by omega)
          clear hs
          go_wp2
          go_ret2
          exact ⟨⟨e, rfl, HN.out⟩, rfl⟩
      · have hlt' : ¬ (e : Int) < (t.size : Int) := by omega
        have HN : Hid (RunTo t i e) := HPR.out.all (by omega)
        go_wp2
        go_ret2
        exact ⟨⟨e, rfl, HN.out⟩, rfl⟩

/-- of the words with which the rest begins those that stand. -/
def keepE (r : ByteArray) (i : Nat) (H : List (Nat × Nat)) : List (Nat × Nat) := H.filter fun h => decide (Edge r (i + h.1))

theorem keepE_snoc (r : ByteArray) (i : Nat) (H : List (Nat × Nat)) (h : Nat × Nat) : keepE r i (H ++ [h]) = keepE r i H ++ if Edge r (i + h.1) then [h] else [] := by
  unfold keepE
  rw [List.filter_append]
  congr 1
  by_cases e : Edge r (i + h.1) <;> simp [e]

theorem keepE_length (r : ByteArray) (i : Nat) (H : List (Nat × Nat)) : (keepE r i H).length ≤ H.length := List.length_filter_le _ _

theorem standL_of {D : Dic} {r : ByteArray} {i : Nat} {H : List (Nat × Nat)} (hi : i ≤ r.size) (he : Edge r i) (h : Hits D (r.extract i r.size) H) : StandL D r i (keepE r i H) := by
  have hz : (r.extract i r.size).size = r.size - i := by simp
  have hx : ∀ l, i + l ≤ r.size → (r.extract i r.size).extract 0 l = r.extract i (i + l) := fun l hl => by
    have h1 : (r.extract i (i + l)).size = l := by simp; omega
    apply ByteArray.ext_getElem
    · simp; omega
    · intro j h1 h2
      simp only [ByteArray.getElem_extract, Nat.zero_add]
  refine ⟨h.1.filter _, fun l c => ?_⟩
  unfold keepE
  rw [List.mem_filter, h.2, hz]
  simp only [decide_eq_true_eq]
  constructor
  · rintro ⟨⟨h1, h2⟩, h3⟩
    rw [hx l (by omega)] at h2
    obtain ⟨k, hk, e⟩ := List.mem_iff_getElem.1 h2
    have e1 : wd D k = r.extract i (i + l) := by rw [wd_eq hk, e]
    have e2 : ct D k = c := by rw [ct_eq hk, e]
    have e3 : (wd D k).size = l := by rw [e1]; simp; omega
    refine ⟨k, hk, ⟨he, by omega, by rw [e3]; exact e1.symm, by rw [e3]; exact h3⟩, e3.symm, e2.symm⟩
  · rintro ⟨k, hk, ⟨_, s2, s3, s4⟩, rfl, rfl⟩
    refine ⟨⟨by omega, ?_⟩, s4⟩
    rw [hx _ s2, s3, wd_eq hk, ct_eq hk]
    exact List.getElem_mem hk

def FoundRel (w1 : World) (r : ByteArray) (i : Nat) (H : List (Nat × Nat)) (g : Nat) (hv x : Value) (wr : World) : Prop :=
  ∃ j : Nat, g = H.length - j ∧ j ≤ H.length ∧ x = .int .i64 j ∧ wr.ownsRow w1.heap.size 105 2 hv (keepE r i (H.take j)).length (hitCells (keepE r i (H.take j))) ∧ Below w1.heap.size w1 wr

def StandEnd (w w' : World) (D : Dic) (r : ByteArray) (i : Nat) (e : Ending) : Prop :=
  ∃ v' H, e = .returned v' ∧ StandL D r i H ∧ H.length ≤ 12 ∧ w'.ownsRow w.heap.size 105 2 v' H.length (hitCells H) ∧ Below w.heap.size w w'

end Go.Proofs.YtlfpepehngkehabDoor
/-
  Worlds: a row of rows of words.
-/
namespace Go.Proofs.YtlfpepehngkehabDoor
set_option linter.unusedSimpArgs false
set_option linter.unusedVariables false
open Go.RowKit

theorem Tryd.infoHitRow : (Tryd.prog.info? 95).map (fun i => (i.zero, i.size, i.bytes)) = some (some (.slice none 0 0), 1, 24) := by kernel_rfl

theorem Tryd.infoIntC : (Tryd.prog.info? 3).map (fun i => (i.zero, i.size, i.bytes)) = some (some (.int .i64 0), 1, 8) := by kernel_rfl

theorem one1C (L : List Nat) : ∀ u ∈ intCells L, u.oneCell' = true := by
  intro u hu; simp [intCells] at hu; obtain ⟨x, _, rfl⟩ := hu; rfl
theorem news1C (w : World) (x : Value) (t : TypeId) (n : Nat) (hn : n = w.heap.size) : ∀ j u, [x][j]? = some u → (w.alloc (.cells #[x] t)).cell? ((⟨n, 0, none⟩ : Addr).add j) = some u := by
  subst hn; exact cell_one_new _ _ _
theorem own_oneC (w : World) (x : Value) (t : TypeId) : (w.alloc (.cells #[x] t)).ownsRow w.heap.size t 1 (.slice (some ⟨w.heap.size, 0, none⟩) 1 1) 1 [x] := by
  refine ⟨rfl, .inr ⟨w.heap.size, 1, #[x], rfl, Nat.le_refl _, ?_, Nat.le_refl _, by unfold maxLen; omega, rfl, rfl⟩⟩
  show (w.heap.push _)[w.heap.size]? = _
  simp
theorem below_drewC {B : Nat} {a w : World} (h : Below B a w) (n : Nat) : Below B a (w.drewN n) := ⟨h.os, h.tape, h.output, h.size, h.block⟩

/-- a row of rows of words, all of the call's own. -/
def StandAt (w : World) (B : Nat) (v : Value) (Hs : List (List (Nat × Nat))) : Prop :=
  ∃ vs : List Value, vs.length = Hs.length ∧ w.ownsRow B 95 1 v Hs.length vs ∧
    ∀ i (h : i < Hs.length), ∃ u, vs[i]? = some u ∧ w.ownsRow B 105 2 u Hs[i].length (hitCells Hs[i]) ∧ ∀ k, u.ownBlock = some k → v.ownBlock ≠ some k

theorem StandAt.nil (w : World) (B : Nat) : StandAt w B (.slice none 0 0) [] := ⟨[], rfl, World.ownsRow_nil _ _ _ _, fun i h => by simp at h⟩

theorem StandAt.same {w w' : World} {B : Nat} {v : Value} {Hs : List (List (Nat × Nat))} (h : StandAt w B v Hs) (hk : Same w w') : StandAt w' B v Hs := by
  obtain ⟨vs, h1, h2, h3⟩ := h
  refine ⟨vs, h1, hk.row h2, fun i hi => ?_⟩
  obtain ⟨u, a, b, c⟩ := h3 i hi
  exact ⟨u, a, hk.row b, c⟩

theorem StandAt.below {w w' : World} {B : Nat} {v : Value} {Hs : List (List (Nat × Nat))} (h : StandAt w B v Hs) (hb : Below w.heap.size w w') : StandAt w' B v Hs := h.same (Kept.of_below hb _)

theorem StandAt.base {w : World} {B B' : Nat} {v : Value} {Hs : List (List (Nat × Nat))} (h : StandAt w B v Hs) (hB : B' ≤ B) : StandAt w B' v Hs := by
  obtain ⟨vs, h1, h2, h3⟩ := h
  refine ⟨vs, h1, row_base h2 hB, fun i hi => ?_⟩
  obtain ⟨u, a, b, c⟩ := h3 i hi
  exact ⟨u, a, row_base b hB, c⟩

theorem StandAt.shape {w : World} {B : Nat} {v : Value} {Hs : List (List (Nat × Nat))} (h : StandAt w B v Hs) : ∃ a cap, v = .slice a Hs.length cap ∧ (Hs.length ≠ 0 → ∃ g, a = some ⟨g, 0, none⟩) := by
  obtain ⟨vs, _, h2, _⟩ := h
  exact row_form h2

/-- the row of words at a place. -/
theorem StandAt.get {w : World} {B g cap : Nat} {Hs : List (List (Nat × Nat))} (h : StandAt w B (.slice (some ⟨g, 0, none⟩) Hs.length cap) Hs) {i : Nat} (hi : i < Hs.length) :
    ∃ a c, w.cell? ⟨g, i, none⟩ = some (.slice a Hs[i].length c) ∧ w.ownsRow B 105 2 (.slice a Hs[i].length c) Hs[i].length (hitCells Hs[i]) ∧ (Hs[i].length ≠ 0 → ∃ g', a = some ⟨g', 0, none⟩) := by
  obtain ⟨vs, h1, h2, h3⟩ := h
  obtain ⟨u, a, b, _⟩ := h3 i hi
  obtain ⟨x, c, rfl, e⟩ := row_form b
  exact ⟨x, c, by rw [h2.cellAt i (by omega), a], b, e⟩

/-- a row more. -/
theorem StandAt.more {w w1 w2 : World} {B : Nat} {v v' u : Value} {Hs : List (List (Nat × Nat))} {H : List (Nat × Nat)} {vs : List Value} {o : Obj}
    (hl : vs.length = Hs.length) (hr : w.ownsRow B 95 1 v Hs.length vs) (hi : ∀ i (h : i < Hs.length), ∃ u, vs[i]? = some u ∧ w.ownsRow B 105 2 u Hs[i].length (hitCells Hs[i]) ∧ ∀ k, u.ownBlock = some k → v.ownBlock ≠ some k)
    (hb : Below w.heap.size w w1) (hB : B ≤ w.heap.size) (hu : w1.ownsRow w.heap.size 105 2 u H.length (hitCells H)) (hown : w2.ownsRow B 95 1 v' (Hs.length + 1) (vs ++ [u])) (hg : (w1.alloc o).grownBy w2 v.ownBlock) (hat : v'.ownBlock = v.ownBlock ∨ v'.ownBlock = some (w1.alloc o).heap.size) :
    StandAt w2 B v' (Hs ++ [H]) := by
  have hk : Kept w1 w2 (fun j => v.ownBlock = some j) := ((Kept.refl w1 _).alloc o).grown hg (fun k e => .inl e)
  have hz : (w1.alloc o).heap.size = w1.heap.size + 1 := by simp
  have hz1 := hb.size
  refine ⟨vs ++ [u], by simp [hl], by simpa using hown, fun i h => ?_⟩
  by_cases e : i < Hs.length
  · obtain ⟨x, a, b, c⟩ := hi i e
    refine ⟨x, by rw [List.getElem?_append_left (by omega)]; exact a, ?_, fun k hk1 hk2 => ?_⟩
    · rw [List.getElem_append_left e]
      exact Kept.row (ownsRow_below' b hb) hk (fun k e1 e2 => c k e1 e2)
    · rcases hat with h | h
      · exact c k hk1 (h ▸ hk2)
      · rw [h] at hk2
        cases hk2
        have := (b.lt _ hk1).2
        omega
  · obtain rfl : i = Hs.length := by simp at h; omega
    refine ⟨u, by rw [List.getElem?_append_right (by omega), hl]; simp, ?_, fun k hk1 hk2 => ?_⟩
    · simp only [List.getElem_concat_length]
      refine row_base (Kept.row hu hk (fun k e1 e2 => ?_)) hB
      have := (hu.lt _ e1).1
      have := (hr.lt _ e2).2
      omega
    · have h1 := hu.lt _ hk1
      rcases hat with h | h
      · rw [h] at hk2
        have := (hr.lt _ hk2).2
        omega
      · rw [h] at hk2
        cases hk2
        omega

end Go.Proofs.YtlfpepehngkehabDoor
/-
  Walks: the words that stand at a place, and at each place of a run.
-/
namespace Go.Proofs.YtlfpepehngkehabDoor
set_option linter.unusedSimpArgs false
set_option linter.unusedVariables false
open Go.RowKit

theorem takeSnoc {α : Type} {l : List α} {j : Nat} (h : j < l.length) : l.take (j + 1) = l.take j ++ [l[j]] := List.take_succ_eq_append_getElem h

theorem found_yes {w1 w2 : World} {r : ByteArray} {i j : Nat} {H : List (Nat × Nat)} {v x : Value} (hj : j < H.length) (he : Edge r (i + H[j].1)) (hx : x = .int .i64 ((j + 1 : Nat) : Int))
    (hown : w2.ownsRow w1.heap.size 105 2 v ((keepE r i (H.take j)).length + 1) (hitCells (keepE r i (H.take j)) ++ [.int .i64 H[j].1, .int .i64 H[j].2])) (hb : Below w1.heap.size w1 w2) : FoundRel w1 r i H (H.length - (j + 1)) v x w2 := by
  refine ⟨j + 1, rfl, hj, hx, ?_, hb⟩
  rw [takeSnoc hj, keepE_snoc, if_pos he, hitCells_append, List.length_append]
  exact hown

theorem found_no {w1 w2 : World} {r : ByteArray} {i j : Nat} {H : List (Nat × Nat)} {v x : Value} (hj : j < H.length) (he : ¬ Edge r (i + H[j].1)) (hx : x = .int .i64 ((j + 1 : Nat) : Int))
    (hown : w2.ownsRow w1.heap.size 105 2 v (keepE r i (H.take j)).length (hitCells (keepE r i (H.take j)))) (hb : Below w1.heap.size w1 w2) : FoundRel w1 r i H (H.length - (j + 1)) v x w2 := by
  refine ⟨j + 1, rfl, hj, hx, ?_, hb⟩
  rw [takeSnoc hj, keepE_snoc, if_neg he, List.append_nil]
  exact hown

theorem found_num {w1 w2 : World} {r : ByteArray} {i n : Nat} {H : List (Nat × Nat)} {v x y : Value} (h : FoundRel w1 r i H n v x w2) (e : y = x) : FoundRel w1 r i H n v y w2 := by rw [e]; exact h

theorem hits_at {D : Dic} {r : ByteArray} {i j : Nat} {H : List (Nat × Nat)} (hi : i ≤ r.size) (h : Hits D (r.extract i r.size) H) (hj : j < H.length) : i + H[j].1 ≤ r.size := by
  have := ((h.2 H[j].1 H[j].2).1 (List.getElem_mem hj)).1
  simp at this
  omega

set_option maxHeartbeats 2000000 in
set_option maxRecDepth 20000 in
theorem standingAt_any (w : World) (b : Nat) (v : Value) (D : Dic) (r : ByteArray) (i : Nat) (hr : r.size ≤ 500) (hi : i < r.size) (hS : SetAt w 94 b v D) (hD : GoodDic D) :
    Calls Tryd.prog 56 #[.string r, .int .i64 i, .pointer (some ⟨b, 0, none⟩)] w fun e w' => StandEnd w w' D r i e := by
  obtain ⟨i0, hi0, hz0, hz1, hz2⟩ := info_parts Tryd.infoHit
  have HD : Hid (GoodDic D) := hD
  have HS : Hid (SetAt w 94 b v D) := hS
  clear hD hS
  by_cases he : Edge r i
  · have hd : decide (i < r.size ∧ Edge r i) = true := decide_eq_true ⟨hi, he⟩
    have HE : Hid (Edge r i) := he
    have hexs : (r.extract i r.size).size ≤ maxLen := by simp; unfold maxLen; omega
    clear he
    go_enter Tryd.func56, Tryd.ntmps56
    go_wp2_with fail
    refine (begins_any r i _ (by unfold maxLen; omega) (by omega)).mono ?_
    rintro e w' ⟨rfl, rfl⟩
    rw [hd]
    clear hd
    go_wp2_with fail
    refine (setPrefixes_any w' b v D (r.extract i r.size) hexs HS.out HD.out.2.1 HD.out.1 (fun p hp => by have := (HD.out.2.2 p hp).1; exact ⟨this.1, this.2.1⟩)).mono ?_
    rintro e w1 ⟨v1, H, rfl, hH, hHl, hown1, hb1⟩
    have HH : Hid (Hits D (r.extract i r.size) H) := hH
    have HL : Hid (StandL D r i (keepE r i H)) := standL_of (by omega) HE.out hH
    have hat : ∀ j (hj : j < H.length), i + H[j].1 ≤ r.size := fun j hj => hits_at (by omega) hH hj
    have HAT : Hid (∀ j (hj : j < H.length), i + H[j].1 ≤ r.size) := hat
    have hz1' := hb1.size
    have HB1 : Hid (Below w'.heap.size w' w1) := hb1
    obtain ⟨a1, c1, rfl, hg⟩ := row_form hown1
    have HO1 : Hid (w1.ownsRow w'.heap.size 105 2 (.slice a1 H.length c1) H.length (hitCells H)) := hown1
    have hkl : ∀ j, (keepE r i (H.take j)).length ≤ 12 := fun j => by
      have := keepE_length r i (H.take j)
      have : (H.take j).length ≤ H.length := by simp; omega
      omega
    clear hH hat hb1 hown1 HE
    go_wp2_with fail
    go_loopg [7, 23] H.length (fun g hv x wr => FoundRel w1 r i H g hv x wr)
    case atStart => exact ⟨0, rfl, Nat.zero_le _, rfl, World.ownsRow_nil _ _ _ _, Below.refl _ _⟩
    case round =>
      obtain ⟨j, rfl, hj, rfl, hrow, hbel⟩ := hrel
      have hkj := hkl j
      by_cases hlt : j < H.length
      · have hlt' : (j : Int) < (H.length : Int) := by omega
        obtain ⟨g, rfl⟩ := hg (by omega)
        have hO := ownsRow_below' HO1.out hbel
        obtain ⟨hc0, hc1⟩ := own_hit hO rfl hlt
        obtain ⟨l, hl⟩ : ∃ l, l = H[j].1 := ⟨_, rfl⟩
        obtain ⟨c, hc⟩ : ∃ c, c = H[j].2 := ⟨_, rfl⟩
        have hle := HAT.out j hlt
        obtain ⟨e, hee⟩ : ∃ e, e = i + l := ⟨_, rfl⟩
        have HYES : Hid (∀ (w2 : World) (v' x : Value), Edge r e → x = .int .i64 ((j + 1 : Nat) : Int) → w2.ownsRow w1.heap.size 105 2 v' ((keepE r i (H.take j)).length + 1) (hitCells (keepE r i (H.take j)) ++ [.int .i64 l, .int .i64 c]) → Below w1.heap.size w1 w2 → FoundRel w1 r i H (H.length - (j + 1)) v' x w2) :=
          fun w2 v' x h1 h2 h3 h4 => found_yes hlt (by rw [← hl, ← hee]; exact h1) h2 (by rw [← hl, ← hc]; exact h3) h4
        have HNO : Hid (∀ (w2 : World) (v' x : Value), ¬ Edge r e → x = .int .i64 ((j + 1 : Nat) : Int) → w2.ownsRow w1.heap.size 105 2 v' (keepE r i (H.take j)).length (hitCells (keepE r i (H.take j))) → Below w1.heap.size w1 w2 → FoundRel w1 r i H (H.length - (j + 1)) v' x w2) :=
          fun w2 v' x h1 h2 h3 h4 => found_no hlt (by rw [← hl, ← hee]; exact h1) h2 h3 h4
        rw [← hl] at hc0
        rw [← hc] at hc1
        rw [← hl] at hle
        have he1 : (i : Int) + (l : Int) = (e : Int) := by omega
        have hes : e ≤ r.size := by omega
        have hwe : IntKind.i64.wrap (e : Int) = (e : Int) := by rw [IntKind.wrap_i64]; omega
        have hszr := hbel.size
        have HBL : Hid (Below w1.heap.size w1 wr) := hbel
        have HR : Hid (wr.ownsRow w1.heap.size 105 2 u7 (keepE r i (H.take j)).length (hitCells (keepE r i (H.take j)))) := hrow
        clear hrow hbel hl hc hee hle hO
        generalize hK : keepE r i (H.take j) = K at HR HYES HNO hkj
        clear hK
        by_cases hlast : e = r.size
        · have hl1 : ((e : Int) == (r.size : Int)) = true := by rw [beq_iff_eq]; omega
          have HEE : Hid (Edge r e) := .inr (.inl hlast)
          clear hlast
          go_wp2_with (at_builtin; refine wpList_append_own _ rfl _ _ 95 rfl w1.heap.size 105 i0 _ 2 16 Tryd.underlying95 hi0 hz0 hz1 hz2 rfl (by decide) _ _ _ rfl ((HR.out.alloc _).alloc _) ⟨wr.heap.size + 1, 0, none⟩ 1 1 [.int .i64 l, .int .i64 c] rfl rfl (news2i _ _ _ _ _ (by simp)) (one2i _ _) (by unfold maxLen; omega) (by omega) (by simp; omega) ?_)
          intro v' w2 hown' hgrow _
          have hb3 : Below w1.heap.size w1 w2 := ((HBL.out.alloc hszr _).alloc (by simp; omega) _).grown hgrow (by simp; omega) (fun g hg => (HR.out.lt g hg).1)
          have HN : Hid (FoundRel w1 r i H (H.length - (j + 1)) v' (.int .i64 ((j + 1 : Nat) : Int)) w2) := HYES.out _ _ _ HEE.out rfl hown' hb3
          clear hgrow hown' hb3 HYES HNO
          go_wp2
          go_roundg (H.length - (j + 1))
          case measure => omega
          case rel => exact found_num HN.out (by go_num)
        · have hl1 : ((e : Int) == (r.size : Int)) = false := by rw [beq_eq_false_iff_ne]; omega
          by_cases hed : Edge r e
          · have hd2 : decide (e < r.size ∧ Edge r e) = true := decide_eq_true ⟨by omega, hed⟩
            have HEE : Hid (Edge r e) := hed
            clear hlast hed
            go_wp2_with fail
            refine (begins_any r e _ (by unfold maxLen; omega) hes).mono ?_
            rintro e2 w2 ⟨rfl, rfl⟩
            rw [hd2]
            clear hd2
            go_wp2_with (at_builtin; refine wpList_append_own _ rfl _ _ 95 rfl w1.heap.size 105 i0 _ 2 16 Tryd.underlying95 hi0 hz0 hz1 hz2 rfl (by decide) _ _ _ rfl ((HR.out.alloc _).alloc _) ⟨wr.heap.size + 1, 0, none⟩ 1 1 [.int .i64 l, .int .i64 c] rfl rfl (news2i _ _ _ _ _ (by simp)) (one2i _ _) (by unfold maxLen; omega) (by omega) (by simp; omega) ?_)
            intro v' w2 hown' hgrow _
            have hb3 : Below w1.heap.size w1 w2 := ((HBL.out.alloc hszr _).alloc (by simp; omega) _).grown hgrow (by simp; omega) (fun g hg => (HR.out.lt g hg).1)
            have HN : Hid (FoundRel w1 r i H (H.length - (j + 1)) v' (.int .i64 ((j + 1 : Nat) : Int)) w2) := HYES.out _ _ _ HEE.out rfl hown' hb3
            clear hgrow hown' hb3 HYES HNO
            go_wp2
            go_roundg (H.length - (j + 1))
            case measure => omega
            case rel => exact found_num HN.out (by go_num)
          · have hd2 : decide (e < r.size ∧ Edge r e) = false := decide_eq_false (fun h => hed h.2)
            have hb3 : Below w1.heap.size w1 (wr.alloc (.cells #[.int .i64 l, .int .i64 c] 105)) := HBL.out.alloc hszr _
            have HN : Hid (FoundRel w1 r i H (H.length - (j + 1)) u7 (.int .i64 ((j + 1 : Nat) : Int)) (wr.alloc (.cells #[.int .i64 l, .int .i64 c] 105))) := HNO.out _ _ _ hed rfl (HR.out.alloc _) hb3
            clear hlast hed hb3 HYES HNO
            go_wp2_with fail
            refine (begins_any r e _ (by unfold maxLen; omega) hes).mono ?_
            rintro e2 w2 ⟨rfl, rfl⟩
            rw [hd2]
            clear hd2
            go_wp2
            go_roundg (H.length - (j + 1))
            case measure => omega
            case rel => exact found_num HN.out (by go_num)
      · have hlt' : ¬ (j : Int) < (H.length : Int) := by omega
        have hjh : j = H.length := by omega
        have HE2 : Hid (wr.ownsRow w1.heap.size 105 2 u7 (keepE r i H).length (hitCells (keepE r i H))) := by
          have := hrow
          rw [hjh, List.take_length] at this
          exact this
        have HBB : Hid (Below w'.heap.size w' wr) := HB1.out.trans (hbel.mono hz1')
        have hkf := hkl H.length
        rw [List.take_length] at hkf
        clear hrow hbel
        go_wp2
        go_ret
        exact ⟨_, keepE r i H, rfl, HL.out, hkf, row_base HE2.out hz1', HBB.out⟩
  · have hd : decide (i < r.size ∧ Edge r i) = false := decide_eq_false (fun h => he h.2)
    have HL : Hid (StandL D r i []) := StandL.nil_of he
    go_enter Tryd.func56, Tryd.ntmps56
    go_wp2_with fail
    refine (begins_any r i _ (by unfold maxLen; omega) (by omega)).mono ?_
    rintro e w' ⟨rfl, rfl⟩
    rw [hd]
    go_wp2
    go_ret
    exact ⟨_, [], rfl, HL.out, by simp, World.ownsRow_nil _ _ _ _, Below.refl _ _⟩

end Go.Proofs.YtlfpepehngkehabDoor
/-
  Walks: the words that stand at each place of a run; the first of a row; the next place at which a word stands.
-/
namespace Go.Proofs.YtlfpepehngkehabDoor
set_option linter.unusedSimpArgs false
set_option linter.unusedVariables false
open Go.RowKit

theorem oneSl (a : Option Addr) (n c : Nat) : ∀ u ∈ [Value.slice a n c], u.oneCell' = true := by
  intro u hu; simp at hu; subst hu; rfl

def StandsRel (w : World) (D : Dic) (r : ByteArray) (g : Nat) (v x : Value) (wr : World) : Prop :=
  ∃ Hs, g = r.size - Hs.length ∧ Hs.length ≤ r.size ∧ x = .int .i64 (Hs.length : Nat) ∧ StandsOf D r Hs ∧ StandAt wr w.heap.size v Hs ∧ Below w.heap.size w wr

theorem StandsRel.num {w wr : World} {D : Dic} {r : ByteArray} {g : Nat} {v x y : Value} (h : StandsRel w D r g v x wr) (e : y = x) : StandsRel w D r g v y wr := by rw [e]; exact h

def StandsEnd (w w' : World) (D : Dic) (r : ByteArray) (e : Ending) : Prop := ∃ v' Hs, e = .returned v' ∧ Hs.length = r.size ∧ StandsOf D r Hs ∧ StandAt w' w.heap.size v' Hs ∧ Below w.heap.size w w'

set_option maxHeartbeats 2000000 in
set_option maxRecDepth 20000 in
theorem standing_any (w : World) (b : Nat) (v : Value) (D : Dic) (r : ByteArray) (hr : r.size ≤ 500) (hS : SetAt w 94 b v D) (hD : GoodDic D) :
    Calls Tryd.prog 47 #[.string r, .pointer (some ⟨b, 0, none⟩)] w fun e w' => StandsEnd w w' D r e := by
  obtain ⟨i0, hi0, hz0, hz1, hz2⟩ := info_parts Tryd.infoHitRow
  have HD : Hid (GoodDic D) := hD
  have HS : Hid (SetAt w 94 b v D) := hS
  clear hD hS
  go_enter Tryd.func47, Tryd.ntmps47
  go_wp2_with fail
  go_loopg [5, 6] r.size (fun g v x wr => StandsRel w D r g v x wr)
  case atStart => exact ⟨[], rfl, Nat.zero_le _, rfl, StandsOf.nil D r, StandAt.nil _ _, Below.refl _ _⟩
  case round =>
    obtain ⟨Hs, rfl, hle, rfl, hso, hst, hbel⟩ := hrel
    have HSO : Hid (StandsOf D r Hs) := hso
    have HBL : Hid (Below w.heap.size w wr) := hbel
    have hszr := hbel.size
    by_cases hlt : Hs.length < r.size
    · have hlt' : (Hs.length : Int) < (r.size : Int) := by omega
      have HS1 : Hid (SetAt wr 94 b v D) := HS.out.below hbel
      obtain ⟨av, cv, rfl, _⟩ := hst.shape
      have HST : Hid (StandAt wr w.heap.size (.slice av Hs.length cv) Hs) := hst
      clear hso hst hbel
      go_wp2_with fail
      refine (standingAt_any wr b v D r Hs.length hr hlt HS1.out HD.out).mono ?_
      rintro e w1 ⟨u, H, rfl, hH, hHl, hown, hb1⟩
      obtain ⟨au, cu, rfl, _⟩ := row_form hown
      obtain ⟨vs, hvl, hvr, hvi⟩ := HST.out
      have hvr1 := ownsRow_below' hvr hb1
      have hsz1 := hb1.size
      have HO : Hid (w1.ownsRow wr.heap.size 105 2 (.slice au H.length cu) H.length (hitCells H)) := hown
      have HH : Hid (StandsOf D r (Hs ++ [H])) := HSO.out.more hH hHl
      have HB1 : Hid (Below wr.heap.size wr w1) := hb1
      have HVI : Hid (∀ i (h : i < Hs.length), ∃ u, vs[i]? = some u ∧ wr.ownsRow w.heap.size 105 2 u Hs[i].length (hitCells Hs[i]) ∧ ∀ k, u.ownBlock = some k → (Value.slice av Hs.length cv).ownBlock ≠ some k) := hvi
      have HVR : Hid (wr.ownsRow w.heap.size 95 1 (.slice av Hs.length cv) Hs.length vs) := hvr
      have HVL : Hid (vs.length = Hs.length) := hvl
      clear hH hown hb1 hvi hvr HSO HST hvl
      go_wp2_with (at_builtin; refine wpList_append_own_at _ rfl _ _ 82 rfl w.heap.size 95 i0 _ 1 24 Tryd.underlying82 hi0 hz0 hz1 hz2 rfl (by decide) _ _ _ rfl (hvr1.alloc _) ⟨w1.heap.size, 0, none⟩ 1 1 [.slice au H.length cu] rfl rfl (cell_one_new _ _ _) (oneSl _ _ _) (by unfold maxLen; omega) (by omega) (by first | omega | (simp; omega)) ?_)
      intro v' w2 hown' hgrow _ hat
      have hst2 : StandAt w2 w.heap.size v' (Hs ++ [H]) := StandAt.more HVL.out HVR.out HVI.out HB1.out hszr HO.out hown' hgrow (by simpa using hat)
      have hb2 : Below w.heap.size w w2 := ((HBL.out.trans (HB1.out.mono hszr)).alloc (by omega) _).grown hgrow (by simp; omega) (fun g hg => (hvr1.lt g hg).1)
      have HN : Hid (StandsRel w D r (r.size - (Hs.length + 1)) v' (.int .i64 ((Hs.length + 1 : Nat) : Int)) w2) := ⟨Hs ++ [H], by simp, by simp; omega, by simp, HH.out, hst2, hb2⟩
      clear hst2 hb2 hown' hgrow hat hvr1
      go_wp2
      go_roundg (r.size - (Hs.length + 1))
      case measure => omega
      case rel => exact HN.out.num (by go_num)
    · have hlt' : ¬ (Hs.length : Int) < (r.size : Int) := by omega
      have HST : Hid (StandAt wr w.heap.size u5 Hs) := hst
      clear hso hst hbel
      go_wp2
      go_ret
      exact ⟨_, Hs, rfl, by omega, HSO.out, HST.out, HBL.out⟩

/-! the first word of a row -/
def FwRel (w : World) (R : List Nat) (p : Nat) (H : List (Nat × Nat)) (g : Nat) (bv mv x : Value) (wr : World) : Prop :=
  ∃ j b m : Nat, g = H.length - j ∧ j ≤ H.length ∧ x = .int .i64 j ∧ bv = .int .i64 b ∧ mv = .int .i64 m ∧ Fw (tb R) p (H.take j) b m ∧ Same w wr

def FwEnd (w w' : World) (R : List Nat) (p : Nat) (H : List (Nat × Nat)) (e : Ending) : Prop := ∃ b m : Nat, e = .returned (.int .i64 b) ∧ Fw (tb R) p H b m ∧ Same w w'

theorem fw_take {w wr : World} {R : List Nat} {p j b m e x : Nat} {H : List (Nat × Nat)} {bv mv iv : Value} (hj : j < H.length) (hp : H.Pairwise (fun a b => a.1 < b.1)) (hF : Fw (tb R) p (H.take j) b m) (he : e = p + H[j].1) (hx : x = tb R e) (hge : m ≤ x)
    (h1 : bv = .int .i64 e) (h2 : mv = .int .i64 x) (h3 : iv = .int .i64 ((j + 1 : Nat) : Int)) (hs : Same w wr) : FwRel w R p H (H.length - (j + 1)) bv mv iv wr := by
  refine ⟨j + 1, e, x, rfl, hj, h3, h1, h2, ?_, hs⟩
  rw [takeSnoc hj, hx, he]
  refine hF.take ?_ (by rw [← he, ← hx]; exact hge)
  rw [← takeSnoc hj]
  exact hp.sublist (List.take_sublist _ _)

theorem fw_keep {w wr : World} {R : List Nat} {p j b m e x : Nat} {H : List (Nat × Nat)} {bv mv iv : Value} (hj : j < H.length) (hF : Fw (tb R) p (H.take j) b m) (he : e = p + H[j].1) (hx : x = tb R e) (hpx : p ≤ x) (hlt : ¬ m ≤ x)
    (h1 : bv = .int .i64 b) (h2 : mv = .int .i64 m) (h3 : iv = .int .i64 ((j + 1 : Nat) : Int)) (hs : Same w wr) : FwRel w R p H (H.length - (j + 1)) bv mv iv wr := by
  refine ⟨j + 1, b, m, rfl, hj, h3, h1, h2, ?_, hs⟩
  rw [takeSnoc hj]
  exact hF.keep (by rw [← he, ← hx]; exact hpx) (by rw [← he, ← hx]; exact hlt)

set_option maxHeartbeats 2000000 in
set_option maxRecDepth 20000 in
theorem firstWord_any (w : World) (B1 B2 p n : Nat) (hv rv : Value) (H : List (Nat × Nat)) (R : List Nat) (hH : w.ownsRow B1 105 2 hv H.length (hitCells H)) (hR : w.ownsRow B2 3 1 rv R.length (intCells R)) (hRn : n < R.length) (hn : n ≤ 500) (hHl : H.length ≤ 12)
    (hp : H.Pairwise (fun a b => a.1 < b.1)) (hin : ∀ x ∈ H, p + x.1 ≤ n) (hge : ∀ x ∈ H, p ≤ tb R (p + x.1)) :
    Calls Tryd.prog 59 #[.int .i64 p, hv, rv] w fun e w' => FwEnd w w' R p H e := by
  obtain ⟨ah, ch, rfl, hg1⟩ := row_form hH
  obtain ⟨ar, cr, rfl, hg2⟩ := row_form hR
  obtain ⟨rg, rfl⟩ := hg2 (by omega)
  have HHR : Hid (w.ownsRow B1 105 2 (.slice ah H.length ch) H.length (hitCells H)) := hH
  have HRR : Hid (w.ownsRow B2 3 1 (.slice (some ⟨rg, 0, none⟩) R.length cr) R.length (intCells R)) := hR
  have HP : Hid (H.Pairwise (fun a b => a.1 < b.1)) := hp
  have HIN : Hid (∀ x ∈ H, p + x.1 ≤ n) := hin
  have HGE : Hid (∀ x ∈ H, p ≤ tb R (p + x.1)) := hge
  clear hH hR hp hin hge
  go_enter Tryd.func59, Tryd.ntmps59
  go_wp2_with fail
  go_loopg [7, 8, 16] H.length (fun g bv mv x wr => FwRel w R p H g bv mv x wr)
  case atStart => exact ⟨0, p, p, rfl, Nat.zero_le _, rfl, rfl, rfl, .inl ⟨rfl, rfl, rfl⟩, Same.refl _⟩
  case round =>
    obtain ⟨j, b, m, rfl, hj, rfl, rfl, rfl, hF, hs⟩ := hrel
    by_cases hlt : j < H.length
    · have hlt' : (j : Int) < (H.length : Int) := by omega
      obtain ⟨g, rfl⟩ := hg1 (by omega)
      obtain ⟨hc0, hc1⟩ := own_hit (hs.row HHR.out) rfl hlt
      have hgz := cell_lt hc0
      have hin := HIN.out _ (List.getElem_mem hlt)
      have hge := HGE.out _ (List.getElem_mem hlt)
      obtain ⟨l, hl⟩ : ∃ l, l = H[j].1 := ⟨_, rfl⟩
      obtain ⟨c, hc⟩ : ∃ c, c = H[j].2 := ⟨_, rfl⟩
      obtain ⟨e, hee⟩ : ∃ e, e = p + H[j].1 := ⟨_, rfl⟩
      have hrc := own_int (hs.row HRR.out) rfl (k := e) (by omega)
      obtain ⟨x, hx⟩ : ∃ x, x = tb R e := ⟨_, rfl⟩
      rw [← tb_get, ← hx] at hrc
      rw [← hee, ← hx] at hge
      have hrz := cell_lt hrc
      have HTK : Hid (∀ (wr' : World) (bv mv iv : Value), m ≤ x → bv = .int .i64 e → mv = .int .i64 x → iv = .int .i64 ((j + 1 : Nat) : Int) → Same w wr' → FwRel w R p H (H.length - (j + 1)) bv mv iv wr') :=
        fun wr' bv mv iv h0 h1 h2 h3 h4 => fw_take hlt HP.out hF hee hx h0 h1 h2 h3 h4
      have HKP : Hid (∀ (wr' : World) (bv mv iv : Value), ¬ m ≤ x → bv = .int .i64 b → mv = .int .i64 m → iv = .int .i64 ((j + 1 : Nat) : Int) → Same w wr' → FwRel w R p H (H.length - (j + 1)) bv mv iv wr') :=
        fun wr' bv mv iv h0 h1 h2 h3 h4 => fw_keep hlt hF hee hx hge h0 h1 h2 h3 h4
      rw [← hl] at hc0
      rw [← hc] at hc1
      have he1 : (p : Int) + (l : Int) = (e : Int) := by omega
      have hen : e ≤ n := by omega
      have heR : (e : Int) < (R.length : Int) := by omega
      have hwe : IntKind.i64.wrap (e : Int) = (e : Int) := by rw [IntKind.wrap_i64]; omega
      have HSM : Hid (Same w (wr.alloc (.cells #[.int .i64 l, .int .i64 c] 105))) := hs.alloc _
      clear hF hs hl hc hee hx hin hge
      by_cases hmx : m ≤ x
      · have hmx' : (m : Int) ≤ (x : Int) := by omega
        go_wp2
        go_roundg (H.length - (j + 1))
        case measure => omega
        case rel => exact HTK.out _ _ _ _ hmx rfl rfl (by go_num) HSM.out
      · have hmx' : ¬ (m : Int) ≤ (x : Int) := by omega
        go_wp2
        go_roundg (H.length - (j + 1))
        case measure => omega
        case rel => exact HKP.out _ _ _ _ hmx rfl rfl (by go_num) HSM.out
    · have hlt' : ¬ (j : Int) < (H.length : Int) := by omega
      have hF' : Fw (tb R) p H b m := by
        have := hF
        rw [show j = H.length by omega, List.take_length] at this
        exact this
      have HF : Hid (Fw (tb R) p H b m) := hF'
      have HSM : Hid (Same w wr) := hs
      clear hF hF' hs
      go_wp2
      go_ret
      exact ⟨b, m, rfl, HF.out, HSM.out⟩

end Go.Proofs.YtlfpepehngkehabDoor
/-
  Walks: the next place at which a word stands; how far rows of words reach.
-/
namespace Go.Proofs.YtlfpepehngkehabDoor
set_option linter.unusedSimpArgs false
set_option linter.unusedVariables false
open Go.RowKit

/-- where the search for a word is. -/
def NxRel (w : World) (Hs : List (List (Nat × Nat))) (p g : Nat) (v : Value) (wr : World) : Prop :=
  ∃ q : Nat, g = Hs.length - q ∧ p < q ∧ q ≤ Hs.length ∧ (∀ j, p < j → j < q → Hs.getD j [] = []) ∧ v = .int .i64 q ∧ Same w wr

def NxEnd (w w' : World) (Hs : List (List (Nat × Nat))) (p : Nat) (e : Ending) : Prop :=
  ∃ q : Nat, e = .returned (.int .i64 q) ∧ p < q ∧ q ≤ Hs.length ∧ (q = Hs.length ∨ Hs.getD q [] ≠ []) ∧ (∀ j, p < j → j < q → Hs.getD j [] = []) ∧ Same w w'

theorem getD_at {Hs : List (List (Nat × Nat))} {q : Nat} (h : q < Hs.length) : Hs.getD q [] = Hs[q] := by simp [List.getD_eq_getElem?_getD, List.getElem?_eq_getElem h]

set_option maxHeartbeats 2000000 in
set_option maxRecDepth 20000 in
theorem nextStanding_any (w : World) (B p : Nat) (v : Value) (Hs : List (List (Nat × Nat))) (hS : StandAt w B v Hs) (hp : p < Hs.length) (hn : Hs.length ≤ 500) :
    Calls Tryd.prog 60 #[.int .i64 p, v] w fun e w' => NxEnd w w' Hs p e := by
  obtain ⟨av, cv, rfl, hg⟩ := hS.shape
  obtain ⟨g, rfl⟩ := hg (by omega)
  have HS : Hid (StandAt w B (.slice (some ⟨g, 0, none⟩) Hs.length cv) Hs) := hS
  clear hS hg
  go_enter Tryd.func60, Tryd.ntmps60
  go_wp2_with fail
  go_loopg [5] (Hs.length - (p + 1)) (fun gh v wr => NxRel w Hs p gh v wr)
  case atStart => exact ⟨p + 1, rfl, by omega, by omega, fun j a b => by omega, by go_num, Same.refl _⟩
  case round =>
    obtain ⟨q, rfl, hpq, hq, hall, rfl, hs⟩ := hrel
    by_cases hlt : q < Hs.length
    · have hlt' : (q : Int) < (Hs.length : Int) := by omega
      obtain ⟨a, c, hc0, _, _⟩ := (HS.out.same hs).get hlt
      obtain ⟨m, hm⟩ : ∃ m, m = Hs[q].length := ⟨_, rfl⟩
      rw [← hm] at hc0
      by_cases hm0 : m = 0
      · have HN : Hid (∀ j, p < j → j < q + 1 → Hs.getD j [] = []) := fun j a b => by
          by_cases e : j = q
          · rw [e, getD_at hlt]; exact List.eq_nil_of_length_eq_zero (by omega)
          · exact hall j a (by omega)
        have hm1 : ((m : Int) == 0) = true := by rw [beq_iff_eq]; omega
        have HSM : Hid (Same w wr) := hs
        clear hall hs hm hm0
        go_wp2
        go_roundg (Hs.length - (q + 1))
        case measure => omega
        case rel => exact ⟨q + 1, rfl, by omega, by omega, HN.out, by go_num, HSM.out⟩
      · have HN : Hid (Hs.getD q [] ≠ []) := by
          show _ ≠ _
          rw [getD_at hlt]
          intro e
          rw [e] at hm
          simp at hm
          omega
        have HA : Hid (∀ j, p < j → j < q → Hs.getD j [] = []) := hall
        have hm1 : ((m : Int) == 0) = false := by rw [beq_eq_false_iff_ne]; omega
        have HSM : Hid (Same w wr) := hs
        clear hall hs hm hm0
        go_wp2
        go_ret
        exact ⟨q, rfl, hpq, hq, .inr HN.out, HA.out, HSM.out⟩
    · have hlt' : ¬ (q : Int) < (Hs.length : Int) := by omega
      have HA : Hid (∀ j, p < j → j < q → Hs.getD j [] = []) := hall
      have HSM : Hid (Same w wr) := hs
      clear hall hs
      go_wp2
      go_ret
      exact ⟨q, rfl, hpq, hq, .inl (by omega), HA.out, HSM.out⟩

end Go.Proofs.YtlfpepehngkehabDoor
/-
  Walks: how far rows of words reach.
-/
namespace Go.Proofs.YtlfpepehngkehabDoor
set_option linter.unusedSimpArgs false
set_option linter.unusedVariables false
open Go.RowKit

def OneRel (w : World) (R : List Nat) (Hs : List (List (Nat × Nat))) (g : Nat) (mv x : Value) (wr : World) : Prop :=
  ∃ i : Nat, g = Hs.length - i ∧ i ≤ Hs.length ∧ x = .int .i64 i ∧ wr.ownsRow w.heap.size 3 1 mv (moreL R Hs i).length (intCells (moreL R Hs i)) ∧ Below w.heap.size w wr

theorem OneRel.num {w wr : World} {R : List Nat} {Hs : List (List (Nat × Nat))} {g : Nat} {v x y : Value} (h : OneRel w R Hs g v x wr) (e : y = x) : OneRel w R Hs g v y wr := by rw [e]; exact h

def InRel (wo : World) (R : List Nat) (i : Nat) (H : List (Nat × Nat)) (g : Nat) (mv x : Value) (wr : World) : Prop :=
  ∃ j : Nat, g = H.length - j ∧ j ≤ H.length ∧ x = .int .i64 j ∧ mv = .int .i64 (hm (tb R) i (H.take j) : Nat) ∧ Same wo wr

theorem in_next {wo wr : World} {R : List Nat} {i j e x m : Nat} {H : List (Nat × Nat)} {mv iv : Value} (hj : j < H.length) (hm' : m = hm (tb R) i (H.take j)) (he : e = i + H[j].1) (hx : x = tb R e) (h1 : mv = .int .i64 (max m x : Nat)) (h2 : iv = .int .i64 ((j + 1 : Nat) : Int)) (hs : Same wo wr) :
    InRel wo R i H (H.length - (j + 1)) mv iv wr := by
  refine ⟨j + 1, rfl, hj, h2, ?_, hs⟩
  rw [takeSnoc hj, hm_snoc, ← hm', ← he, ← hx]
  exact h1

def OneEnd (w w' : World) (R : List Nat) (Hs : List (List (Nat × Nat))) (e : Ending) : Prop :=
  ∃ v, e = .returned v ∧ w'.ownsRow w.heap.size 3 1 v (Hs.length + 1) (intCells (moreL R Hs Hs.length ++ [Hs.length])) ∧ Below w.heap.size w w'

theorem one_more {w w2 : World} {R : List Nat} {Hs : List (List (Nat × Nat))} {i m : Nat} {v x : Value} (hi : i < Hs.length) (hm' : m = hm (tb R) i Hs[i]) (hx : x = .int .i64 ((i + 1 : Nat) : Int))
    (hown : w2.ownsRow w.heap.size 3 1 v ((moreL R Hs i).length + 1) (intCells (moreL R Hs i) ++ [.int .i64 m])) (hb : Below w.heap.size w w2) : OneRel w R Hs (Hs.length - (i + 1)) v x w2 := by
  refine ⟨i + 1, rfl, hi, hx, ?_, hb⟩
  rw [moreL_snoc R Hs i hi, intCells_append, List.length_append, ← hm']
  exact hown

theorem one_end {w w2 : World} {R : List Nat} {Hs : List (List (Nat × Nat))} {v : Value}
    (hown : w2.ownsRow w.heap.size 3 1 v ((moreL R Hs Hs.length).length + 1) (intCells (moreL R Hs Hs.length) ++ [.int .i64 (Hs.length : Nat)])) (hb : Below w.heap.size w w2) : OneEnd w w2 R Hs (.returned v) := by
  refine ⟨v, rfl, ?_, hb⟩
  rw [moreL_length] at hown
  rw [intCells_append]
  exact hown

set_option maxHeartbeats 4000000 in
set_option maxRecDepth 20000 in
theorem oneMore_any (w : World) (B1 B2 n : Nat) (v rv : Value) (Hs : List (List (Nat × Nat))) (R : List Nat) (hS : StandAt w B1 v Hs) (hR : w.ownsRow B2 3 1 rv R.length (intCells R)) (hn : Hs.length ≤ 500) (hRn : Hs.length < R.length) (hin : Within Hs) :
    Calls Tryd.prog 67 #[v, rv] w fun e w' => OneEnd w w' R Hs e := by
  obtain ⟨ii, hii, hi0, hi1, hi2⟩ := info_parts Tryd.infoIntC
  obtain ⟨av, cv, rfl, hg1⟩ := hS.shape
  obtain ⟨ar, cr, rfl, hg2⟩ := row_form hR
  obtain ⟨rg, rfl⟩ := hg2 (by omega)
  have HS : Hid (StandAt w B1 (.slice av Hs.length cv) Hs) := hS
  have HRR : Hid (w.ownsRow B2 3 1 (.slice (some ⟨rg, 0, none⟩) R.length cr) R.length (intCells R)) := hR
  have HIN : Hid (Within Hs) := hin
  clear hS hR hin hg2
  go_enter Tryd.func67, Tryd.ntmps67
  go_wp2_with fail
  go_loopg [5, 14] Hs.length (fun g mv x wr => OneRel w R Hs g mv x wr)
  case atStart => exact ⟨0, rfl, Nat.zero_le _, rfl, World.ownsRow_nil _ _ _ _, Below.refl _ _⟩
  case round =>
    obtain ⟨i, rfl, hi, rfl, hrow, hbel⟩ := hrel
    have hml : (moreL R Hs i).length ≤ 500 := by rw [moreL_length]; omega
    have hszr := hbel.size
    have HBL : Hid (Below w.heap.size w wr) := hbel
    have HMR : Hid (wr.ownsRow w.heap.size 3 1 u5 (moreL R Hs i).length (intCells (moreL R Hs i))) := hrow
    have hsm : Same w wr := Kept.of_below hbel _
    by_cases hlt : i < Hs.length
    · have hlt' : (i : Int) < (Hs.length : Int) := by omega
      obtain ⟨g, rfl⟩ := hg1 (by omega)
      obtain ⟨a, c, hc0, hH, hag⟩ := (HS.out.same hsm).get hlt
      obtain ⟨H, hHd⟩ : ∃ H, H = Hs[i] := ⟨_, rfl⟩
      obtain ⟨hH12, hHin⟩ := HIN.out i hlt
      rw [← hHd] at hc0 hH hag hH12 hHin
      have HHR : Hid (wr.ownsRow B1 105 2 (.slice a H.length c) H.length (hitCells H)) := hH
      have HHI : Hid (∀ x ∈ H, 1 ≤ x.1 ∧ i + x.1 ≤ Hs.length ∧ x.2 ≤ 1000) := hHin
      have HR1 : Hid (wr.ownsRow B2 3 1 (.slice (some ⟨rg, 0, none⟩) R.length cr) R.length (intCells R)) := hsm.row HRR.out
      have HNX : Hid (∀ (w2 : World) (v x : Value) (m : Nat), m = hm (tb R) i H → x = .int .i64 ((i + 1 : Nat) : Int) → w2.ownsRow w.heap.size 3 1 v ((moreL R Hs i).length + 1) (intCells (moreL R Hs i) ++ [.int .i64 m]) → Below w.heap.size w w2 → OneRel w R Hs (Hs.length - (i + 1)) v x w2) :=
        fun w2 v x m h1 h2 h3 h4 => one_more hlt (by rw [← hHd]; exact h1) h2 h3 h4
      generalize hMd : moreL R Hs i = M at HMR HNX hml
      clear hrow hbel hH hHin hHd hsm hMd
      obtain ⟨wo, hwo⟩ : ∃ wo, wo = wr := ⟨_, rfl⟩
      subst hwo
      go_wp2_with fail
      go_loopg [8, 22] H.length (fun g mv x wi => InRel wo R i H g mv x wi)
      case atStart => exact ⟨0, rfl, Nat.zero_le _, rfl, rfl, Same.refl _⟩
      case round =>
        obtain ⟨j, rfl, hj, rfl, rfl, hsi⟩ := hrel
        obtain ⟨m, hmd⟩ : ∃ m, m = hm (tb R) i (H.take j) := ⟨_, rfl⟩
        rw [← hmd]
        have hzi := hsi.size
        by_cases hjl : j < H.length
        · have hjl' : (j : Int) < (H.length : Int) := by omega
          obtain ⟨g', rfl⟩ := hag (by omega)
          obtain ⟨hd0, hd1⟩ := own_hit (hsi.row HHR.out) rfl hjl
          have hgz := cell_lt hd0
          have hin := HHI.out _ (List.getElem_mem hjl)
          obtain ⟨l, hl⟩ : ∃ l, l = H[j].1 := ⟨_, rfl⟩
          obtain ⟨k, hk⟩ : ∃ k, k = H[j].2 := ⟨_, rfl⟩
          obtain ⟨e, hee⟩ : ∃ e, e = i + H[j].1 := ⟨_, rfl⟩
          have hrc := own_int (hsi.row HR1.out) rfl (k := e) (by omega)
          obtain ⟨x, hx⟩ : ∃ x, x = tb R e := ⟨_, rfl⟩
          rw [← tb_get, ← hx] at hrc
          have hrz := cell_lt hrc
          have HIX : Hid (∀ (wr' : World) (mv iv : Value), mv = .int .i64 (max m x : Nat) → iv = .int .i64 ((j + 1 : Nat) : Int) → Same wo wr' → InRel wo R i H (H.length - (j + 1)) mv iv wr') :=
            fun wr' mv iv h1 h2 h3 => in_next hjl hmd hee hx h1 h2 h3
          rw [← hl] at hd0
          rw [← hk] at hd1
          have he1 : (i : Int) + (l : Int) = (e : Int) := by omega
          have hen : e ≤ Hs.length := by omega
          have heR : (e : Int) < (R.length : Int) := by omega
          have hwe : IntKind.i64.wrap (e : Int) = (e : Int) := by rw [IntKind.wrap_i64]; omega
          have HSM : Hid (Same wo (wr.alloc (.cells #[.int .i64 l, .int .i64 k] 105))) := hsi.alloc _
          clear hsi hl hk hee hx hin hmd
          by_cases hmx : m < x
          · have hmx' : (m : Int) < (x : Int) := by omega
            have HMM : Hid (max m x = x) := by show max m x = x; omega
            go_wp2
            go_roundg (H.length - (j + 1))
            case measure => omega
            case rel => exact HIX.out _ _ _ (by rw [HMM.out]) (by go_num) HSM.out
          · have hmx' : ¬ (m : Int) < (x : Int) := by omega
            have HMM : Hid (max m x = m) := by show max m x = m; omega
            go_wp2
            go_roundg (H.length - (j + 1))
            case measure => omega
            case rel => exact HIX.out _ _ _ (by rw [HMM.out]) (by go_num) HSM.out
        · have hjl' : ¬ (j : Int) < (H.length : Int) := by omega
          have HMD : Hid (m = hm (tb R) i H) := by
            show m = _
            rw [hmd, show j = H.length by omega, List.take_length]
          have hro := hsi.row HMR.out
          have HBI : Hid (Below w.heap.size w wr) := hsi.below HBL.out hszr
          clear hsi hmd
          go_wp2_with (at_builtin; refine wpList_append_own _ rfl _ _ 22 rfl w.heap.size 3 ii _ 1 8 Tryd.underlying22 hii hi0 hi1 hi2 rfl (by decide) _ _ _ rfl (hro.alloc _) ⟨wr.heap.size, 0, none⟩ 1 1 [.int .i64 m] rfl rfl (news1C _ _ _ _ rfl) (one1C [m]) (by unfold maxLen; omega) (by omega) (by simp; omega) ?_)
          intro v' w2 hown' hgrow _
          have hb3 : Below w.heap.size w w2 := (HBI.out.alloc (by omega) _).grown hgrow (by simp; omega) (fun g hg => (hro.lt g hg).1)
          have HN : Hid (OneRel w R Hs (Hs.length - (i + 1)) v' (.int .i64 ((i + 1 : Nat) : Int)) w2) := HNX.out _ _ _ _ HMD.out rfl hown' hb3
          clear hgrow hown' hb3 hro
          go_wp2
          go_roundg (Hs.length - (i + 1))
          case measure => omega
          case rel => exact OneRel.num HN.out (by go_num)
    · have hlt' : ¬ (i : Int) < (Hs.length : Int) := by omega
      have hih : i = Hs.length := by omega
      subst hih
      have HFE : Hid (∀ (w2 : World) (v : Value), w2.ownsRow w.heap.size 3 1 v ((moreL R Hs Hs.length).length + 1) (intCells (moreL R Hs Hs.length) ++ [.int .i64 (Hs.length : Nat)]) → Below w.heap.size w w2 → OneEnd w w2 R Hs (.returned v)) := fun _ _ h1 h2 => one_end h1 h2
      generalize hMd : moreL R Hs Hs.length = M at HMR HFE hml
      clear hrow hbel hsm hMd
      go_wp2_with (at_builtin; refine wpList_append_own _ rfl _ _ 22 rfl w.heap.size 3 ii _ 1 8 Tryd.underlying22 hii hi0 hi1 hi2 rfl (by decide) _ _ _ rfl (HMR.out.alloc _) ⟨wr.heap.size, 0, none⟩ 1 1 [.int .i64 (Hs.length : Nat)] rfl rfl (news1C _ _ _ _ rfl) (one1C [Hs.length]) (by unfold maxLen; omega) (by omega) (by simp; omega) ?_)
      intro v' w2 hown' hgrow _
      have hb3 : Below w.heap.size w w2 := (HBL.out.alloc (by omega) _).grown hgrow (by simp; omega) (fun g hg => (HMR.out.lt g hg).1)
      have HN : Hid (OneEnd w w2 R Hs (.returned v')) := HFE.out _ _ hown' hb3
      clear hgrow hown' hb3
      go_wp2
      go_ret
      exact HN.out

end Go.Proofs.YtlfpepehngkehabDoor
/-
  Walks: runs of capitals.
-/
namespace Go.Proofs.YtlfpepehngkehabDoor
set_option linter.unusedSimpArgs false
set_option linter.unusedVariables false
open Go.RowKit

def LkRel (w : World) (n g : Nat) (v x : Value) (wr : World) : Prop :=
  ∃ i : Nat, g = n + 1 - i ∧ i ≤ n + 1 ∧ x = .int .i64 i ∧ wr.ownsRow w.heap.size 3 1 v i (intCells (List.range i)) ∧ Below w.heap.size w wr

theorem LkRel.next {w w2 : World} {n i : Nat} {v x : Value} (hi : i ≤ n) (hx : x = .int .i64 ((i + 1 : Nat) : Int)) (hown : w2.ownsRow w.heap.size 3 1 v (i + 1) (intCells (List.range i) ++ [.int .i64 i])) (hb : Below w.heap.size w w2) : LkRel w n (n + 1 - (i + 1)) v x w2 := by
  refine ⟨i + 1, rfl, by omega, hx, ?_, hb⟩
  rw [List.range_succ, intCells_append]
  exact hown

theorem LkRel.num {w wr : World} {n g : Nat} {v x y : Value} (h : LkRel w n g v x wr) (e : y = x) : LkRel w n g v y wr := by rw [e]; exact h

def LookEnd (w w' : World) (D : Dic) (r : ByteArray) (e : Ending) : Prop :=
  ∃ v, e = .returned v ∧ w'.ownsRow w.heap.size 3 1 v (reachL D r 2).length (intCells (reachL D r 2)) ∧ Below w.heap.size w w'

set_option maxHeartbeats 2000000 in
set_option maxRecDepth 20000 in
theorem lookAhead_any (w : World) (B : Nat) (v : Value) (D : Dic) (r : ByteArray) (Hs : List (List (Nat × Nat))) (hS : StandAt w B v Hs) (hO : StandsOf D r Hs) (hl : Hs.length = r.size) (hr : r.size ≤ 500) (hD : Small D) :
    Calls Tryd.prog 58 #[v] w fun e w' => LookEnd w w' D r e := by
  obtain ⟨ii, hii, hi0, hi1, hi2⟩ := info_parts Tryd.infoIntC
  obtain ⟨av, cv, rfl, _⟩ := hS.shape
  have HS : Hid (StandAt w B (.slice av Hs.length cv) Hs) := hS
  have hn : Hs.length ≤ 500 := by omega
  have HW : Hid (Within Hs) := hO.within hD hl
  have HM : Hid (∀ m, moreL (reachL D r m) Hs Hs.length ++ [Hs.length] = reachL D r (m + 1)) := fun m => reachL_more hD hO hl m
  have HRL : Hid (∀ m, (reachL D r m).length = Hs.length + 1) := fun m => by rw [reachL_length, hl]
  have HR0 : Hid (reachL D r 0 = List.range (Hs.length + 1)) := by show _ = _; rw [reachL_zero, hl]
  clear hS hO hl hr hD
  obtain ⟨n, hnd⟩ : ∃ n, n = Hs.length := ⟨_, rfl⟩
  rw [← hnd] at HS HM HRL HR0 ⊢
  have hn2 : n ≤ 500 := by omega
  have HND : Hid (n = Hs.length) := hnd
  clear hnd
  go_enter Tryd.func58, Tryd.ntmps58
  go_wp2_with fail
  go_loopg [3, 4] (n + 1) (fun g v x wr => LkRel w n g v x wr)
  case atStart => exact ⟨0, rfl, Nat.zero_le _, rfl, World.ownsRow_nil _ _ _ _, Below.refl _ _⟩
  case round =>
    obtain ⟨i, rfl, hi, rfl, hrow, hbel⟩ := hrel
    have hszr := hbel.size
    have HBL : Hid (Below w.heap.size w wr) := hbel
    by_cases hlt : i ≤ n
    · have hlt' : (i : Int) ≤ (n : Int) := by omega
      clear hbel
      go_wp2_with (at_builtin; refine wpList_append_own _ rfl _ _ 22 rfl w.heap.size 3 ii _ 1 8 Tryd.underlying22 hii hi0 hi1 hi2 rfl (by decide) _ _ _ rfl (hrow.alloc _) ⟨wr.heap.size, 0, none⟩ 1 1 [.int .i64 i] rfl rfl (news1C _ _ _ _ rfl) (one1C [i]) (by unfold maxLen; omega) (by omega) (by first | omega | (simp; omega)) ?_)
      intro v' w2 hown' hgrow _
      have hb3 : Below w.heap.size w w2 := (HBL.out.alloc (by omega) _).grown hgrow (by simp; omega) (fun g hg => (hrow.lt g hg).1)
      have HN : Hid (LkRel w n (n + 1 - (i + 1)) v' (.int .i64 ((i + 1 : Nat) : Int)) w2) := LkRel.next hlt rfl hown' hb3
      clear hgrow hown' hb3 hrow
      go_wp2
      go_roundg (n + 1 - (i + 1))
      case measure => omega
      case rel => exact HN.out.num (by go_num)
    · have hlt' : ¬ (i : Int) ≤ (n : Int) := by omega
      have hin : i = n + 1 := by omega
      have hrow1 : wr.ownsRow w.heap.size 3 1 u3 (reachL D r 0).length (intCells (reachL D r 0)) := by rw [HRL.out, HR0.out, ← hin]; exact hrow
      have HST : Hid (StandAt wr B (.slice av n cv) Hs) := HS.out.same (Kept.of_below hbel _)
      have HR1 : Hid (wr.ownsRow w.heap.size 3 1 u3 (reachL D r 0).length (intCells (reachL D r 0))) := hrow1
      clear hbel hrow hrow1 hin
      go_wp2_with fail
      refine (oneMore_any wr B w.heap.size 0 (.slice av n cv) u3 Hs (reachL D r 0) HST.out HR1.out hn (by rw [HRL.out, HND.out]; omega) HW.out).mono ?_
      rintro e w1 ⟨v1, rfl, hr1, hb1⟩
      have hr1' : w1.ownsRow wr.heap.size 3 1 v1 (reachL D r 1).length (intCells (reachL D r 1)) := by rw [HRL.out]; rw [← HND.out, HM.out] at hr1; exact hr1
      have HST1 : Hid (StandAt w1 B (.slice av n cv) Hs) := HST.out.below hb1
      have HB1 : Hid (Below w.heap.size w w1) := HBL.out.trans (hb1.mono hszr)
      have hz1 := hb1.size
      have HR2 : Hid (w1.ownsRow wr.heap.size 3 1 v1 (reachL D r 1).length (intCells (reachL D r 1))) := hr1'
      clear hr1 hr1' hb1
      go_wp2_with fail
      refine (oneMore_any w1 B wr.heap.size 0 (.slice av n cv) v1 Hs (reachL D r 1) HST1.out HR2.out hn (by rw [HRL.out, HND.out]; omega) HW.out).mono ?_
      rintro e w2 ⟨v2, rfl, hr2, hb2⟩
      have hr2' : w2.ownsRow w1.heap.size 3 1 v2 (reachL D r 2).length (intCells (reachL D r 2)) := by rw [HRL.out]; rw [← HND.out, HM.out] at hr2; exact hr2
      have HE : Hid (LookEnd w w2 D r (.returned v2)) := ⟨v2, rfl, row_base hr2' (by omega), HB1.out.trans (hb2.mono (by omega))⟩
      clear hr2 hr2' hb2
      go_wp2
      go_ret
      exact HE.out

/-! the pieces -/
theorem cap_first {D : Dic} {r : ByteArray} {Hs : List (List (Nat × Nat))} {p b m : Nat} (hD : Small D) (hO : StandsOf D r Hs) (hl : Hs.length = r.size) (hp : p < Hs.length) (hF : Fw (tb (reachL D r 2)) p Hs[p] b m) (hne : Hs[p] ≠ []) : AheadOk D r p r.size b := by
  refine Fw.best (hO p hp).1 (hF.congr fun x hx => ?_) hne
  have := (hO p hp).1.at hD hx
  exact tb_reachL _ _ _ _ (by omega)

theorem cap_next {D : Dic} {r : ByteArray} {Hs : List (List (Nat × Nat))} {p q : Nat} (hO : StandsOf D r Hs) (hl : Hs.length = r.size) (hp : p < Hs.length) (h0 : Hs[p] = []) (h1 : p < q) (h2 : q ≤ Hs.length) (h3 : q = Hs.length ∨ Hs.getD q [] ≠ []) (h4 : ∀ j, p < j → j < q → Hs.getD j [] = []) : AheadOk D r p r.size q := by
  refine .inr ⟨fun h => (hO p hp).1.any.2 h h0, h1, by omega, ?_, fun j a b hj => ?_⟩
  · by_cases e : q < Hs.length
    · right
      rcases h3 with h3 | h3
      · omega
      · rw [getD_at e] at h3; exact (hO q e).1.any.1 h3
    · left; omega
  · have := h4 j a b
    rw [getD_at (show j < Hs.length by omega)] at this
    exact (hO j (by omega)).1.any.2 hj this

def CapRel (w1 : World) (D : Dic) (r : ByteArray) (g : Nat) (ev pv : Value) (wr : World) : Prop :=
  ∃ (p : Nat) (x : List Nat), g = r.size - p ∧ pv = .int .i64 p ∧ Ahead D r p x ∧ wr.ownsRow w1.heap.size 3 1 ev x.length (intCells x) ∧ Below w1.heap.size w1 wr

def PiecesEnd (P : List Nat → Prop) (w w' : World) (e : Ending) : Prop := ∃ v x, e = .returned v ∧ P x ∧ w'.ownsRow w.heap.size 3 1 v x.length (intCells x) ∧ Below w.heap.size w w'

theorem pieces_snoc {w : World} {B : Nat} {v : Value} {x : List Nat} {e : Nat} (h : w.ownsRow B 3 1 v (x.length + 1) (intCells x ++ [.int .i64 e])) : w.ownsRow B 3 1 v (x ++ [e]).length (intCells (x ++ [e])) := by
  rw [intCells_append, List.length_append]; exact h

end Go.Proofs.YtlfpepehngkehabDoor
/-
  Walks: the pieces of a run of capitals.
-/
namespace Go.Proofs.YtlfpepehngkehabDoor
set_option linter.unusedSimpArgs false
set_option linter.unusedVariables false
open Go.RowKit

theorem CapRel.next {w1 w2 : World} {D : Dic} (hD : GoodDic D) {r : ByteArray} {p q : Nat} {x : List Nat} {v y : Value} (h : Ahead D r p x) (hp : p < r.size) (ho : AheadOk D r p r.size q) (hy : y = .int .i64 q) (hown : w2.ownsRow w1.heap.size 3 1 v (x.length + 1) (intCells x ++ [.int .i64 q])) (hb : Below w1.heap.size w1 w2) :
    CapRel w1 D r (r.size - q) v y w2 := ⟨q, x ++ [q], rfl, hy, (h.next hD hp ho).2.2, pieces_snoc hown, hb⟩

set_option maxHeartbeats 4000000 in
set_option maxRecDepth 20000 in
theorem cutCapitals_any (w : World) (B : Nat) (v : Value) (D : Dic) (r : ByteArray) (Hs : List (List (Nat × Nat))) (hS : StandAt w B v Hs) (hO : StandsOf D r Hs) (hl : Hs.length = r.size) (hr : r.size ≤ 500) (hD : GoodDic D) :
    Calls Tryd.prog 49 #[v] w fun e w' => PiecesEnd (AheadRun D r r.size 0) w w' e := by
  obtain ⟨ii, hii, hi0, hi1, hi2⟩ := info_parts Tryd.infoIntC
  have HLA : Hid (Calls Tryd.prog 58 #[v] w fun e w' => LookEnd w w' D r e) := lookAhead_any w B v D r Hs hS hO hl hr hD.small
  obtain ⟨av, cv, rfl, hg⟩ := hS.shape
  have HS : Hid (StandAt w B (.slice av Hs.length cv) Hs) := hS
  have HO : Hid (StandsOf D r Hs) := hO
  have HD : Hid (GoodDic D) := hD
  have HW : Hid (Within Hs) := hO.within hD.small hl
  have hn : Hs.length ≤ 500 := by omega
  have HL : Hid (Hs.length = r.size) := hl
  have hls : ∀ p : Nat, p < Hs.length ↔ p < r.size := fun p => by omega
  have HLS : Hid (∀ p : Nat, p < Hs.length ↔ p < r.size) := hls
  clear hS hO hD hl hls
  go_enter Tryd.func49, Tryd.ntmps49
  go_wp2_with fail
  refine HLA.out.mono ?_
  rintro e w1 ⟨rv, rfl, hrr, hb1⟩
  have hz1 := hb1.size
  have HB1 : Hid (Below w.heap.size w w1) := hb1
  have HS1 : Hid (StandAt w1 B (.slice av Hs.length cv) Hs) := HS.out.below hb1
  have HR1 : Hid (w1.ownsRow w.heap.size 3 1 rv (reachL D r 2).length (intCells (reachL D r 2))) := hrr
  clear hb1 hrr HLA
  go_wp2_with fail
  go_loopg [4, 5] r.size (fun g ev pv wr => CapRel w1 D r g ev pv wr)
  case atStart => exact ⟨0, [], rfl, rfl, Ahead.start D r, World.ownsRow_nil _ _ _ _, Below.refl _ _⟩
  case round =>
    obtain ⟨p, x, rfl, rfl, hA, hrow, hbel⟩ := hrel
    have hpl := hA.1
    have hxl := hA.2.1
    have HA : Hid (Ahead D r p x) := hA
    have HBL : Hid (Below w1.heap.size w1 wr) := hbel
    have hszr := hbel.size
    have hsm : Same w1 wr := Kept.of_below hbel _
    by_cases hlt : p < Hs.length
    · have hlt' : (p : Int) < (Hs.length : Int) := by omega
      have hps := (HLS.out p).1 hlt
      obtain ⟨g, rfl⟩ := hg (by omega)
      have HST : Hid (StandAt wr B (.slice (some ⟨g, 0, none⟩) Hs.length cv) Hs) := HS1.out.same hsm
      obtain ⟨a, c, hc0, hH, hag⟩ := HST.out.get hlt
      obtain ⟨hH12, hHin⟩ := HW.out p hlt
      have hpw := (HO.out p hlt).1.1
      have HCF : Hid (∀ b m, Fw (tb (reachL D r 2)) p Hs[p] b m → Hs[p] ≠ [] → AheadOk D r p r.size b) := fun b m h1 h2 => cap_first HD.out.small HO.out HL.out hlt h1 h2
      have HCN : Hid (∀ q, Hs[p] = [] → p < q → q ≤ Hs.length → (q = Hs.length ∨ Hs.getD q [] ≠ []) → (∀ j, p < j → j < q → Hs.getD j [] = []) → AheadOk D r p r.size q) := fun q h0 h1 h2 h3 h4 => cap_next HO.out HL.out hlt h0 h1 h2 h3 h4
      have HNX : Hid (∀ (w2 : World) (v y : Value) (q : Nat), AheadOk D r p r.size q → y = .int .i64 q → w2.ownsRow w1.heap.size 3 1 v (x.length + 1) (intCells x ++ [.int .i64 q]) → Below w1.heap.size w1 w2 → CapRel w1 D r (r.size - q) v y w2) := fun w2 v y q h1 h2 h3 h4 => CapRel.next HD.out HA.out hps h1 h2 h3 h4
      have HLT : Hid (∀ q, AheadOk D r p r.size q → p < q ∧ q ≤ r.size) := fun q h => h.lt HD.out hps (.inl rfl)
      have HR2 : Hid (wr.ownsRow w.heap.size 3 1 rv (reachL D r 2).length (intCells (reachL D r 2))) := hsm.row HR1.out
      obtain ⟨H, hHd⟩ : ∃ H, H = Hs[p] := ⟨_, rfl⟩
      rw [← hHd] at hc0 hH hag hH12 hHin hpw
      rw [← hHd] at HCF HCN
      have HHR : Hid (wr.ownsRow B 105 2 (.slice a H.length c) H.length (hitCells H)) := hH
      have hin : ∀ y ∈ H, p + y.1 ≤ Hs.length := fun y hy => (hHin y hy).2.1
      have hge : ∀ y ∈ H, p ≤ tb (reachL D r 2) (p + y.1) := fun y hy => by
        have h1 := hin y hy
        have h2 := HL.out
        rw [tb_reachL _ _ _ _ (by omega)]
        have := rch_up D r r.size 2 (p + y.1)
        omega
      have hRl : Hs.length < (reachL D r 2).length := by rw [reachL_length, HL.out]; omega
      have HROW : Hid (wr.ownsRow w1.heap.size 3 1 u4 x.length (intCells x)) := hrow
      by_cases hH0 : 0 < H.length
      · have hH0' : (0 : Int) < (H.length : Int) := by omega
        have HFW : Hid (Calls Tryd.prog 59 #[.int .i64 p, .slice a H.length c, rv] wr fun e w' => FwEnd wr w' (reachL D r 2) p H e) :=
          firstWord_any wr B w.heap.size p Hs.length _ rv H (reachL D r 2) HHR.out HR2.out hRl hn hH12 hpw hin hge
        have hHne : H ≠ [] := by rintro rfl; simp at hH0
        have HNE : Hid (H ≠ []) := hHne
        clear hA hrow hbel hsm hH hHd hHin hpw hin hge hRl hHne
        go_wp2_with fail
        refine HFW.out.mono ?_
        rintro e w2 ⟨b, m, rfl, hF, hs2⟩
        have hok : AheadOk D r p r.size b := HCF.out b m hF HNE.out
        have hbb := HLT.out b hok
        have HOK : Hid (AheadOk D r p r.size b) := hok
        have hro := hs2.row HROW.out
        have HB2 : Hid (Below w1.heap.size w1 w2) := hs2.below HBL.out hszr
        have hz2 := hs2.size
        clear hF hs2 hok HFW HCF HCN
        go_wp2_with (at_builtin; refine wpList_append_own _ rfl _ _ 22 rfl w1.heap.size 3 ii _ 1 8 Tryd.underlying22 hii hi0 hi1 hi2 rfl (by decide) _ _ _ rfl (hro.alloc _) ⟨w2.heap.size, 0, none⟩ 1 1 [.int .i64 b] rfl rfl (news1C _ _ _ _ rfl) (one1C [b]) (by unfold maxLen; omega) (by omega) (by first | omega | (simp; omega)) ?_)
        intro v' w3 hown' hgrow _
        have hb3 : Below w1.heap.size w1 w3 := (HB2.out.alloc (by omega) _).grown hgrow (by simp; omega) (fun g hg => (hro.lt g hg).1)
        have HN : Hid (CapRel w1 D r (r.size - b) v' (.int .i64 b) w3) := HNX.out _ _ _ _ HOK.out rfl hown' hb3
        clear hgrow hown' hb3 hro
        go_wp2
        go_roundg (r.size - b)
        case measure => omega
        case rel => exact HN.out
      · have hH0' : ¬ (0 : Int) < (H.length : Int) := by omega
        have HNS : Hid (Calls Tryd.prog 60 #[.int .i64 p, .slice (some ⟨g, 0, none⟩) Hs.length cv] wr fun e w' => NxEnd wr w' Hs p e) := nextStanding_any wr B p _ Hs HST.out hlt hn
        have HNE : Hid (H = []) := List.eq_nil_of_length_eq_zero (by omega)
        clear hA hrow hbel hsm hH hHd hHin hpw hin hge hRl
        go_wp2_with fail
        refine HNS.out.mono ?_
        rintro e w2 ⟨b, rfl, q1, q2, q3, q4, hs2⟩
        have hok : AheadOk D r p r.size b := HCN.out b HNE.out q1 q2 q3 q4
        have hbb := HLT.out b hok
        have HOK : Hid (AheadOk D r p r.size b) := hok
        have hro := hs2.row HROW.out
        have HB2 : Hid (Below w1.heap.size w1 w2) := hs2.below HBL.out hszr
        have hz2 := hs2.size
        clear q1 q2 q3 q4 hs2 hok HNS HCF HCN
        go_wp2_with (at_builtin; refine wpList_append_own _ rfl _ _ 22 rfl w1.heap.size 3 ii _ 1 8 Tryd.underlying22 hii hi0 hi1 hi2 rfl (by decide) _ _ _ rfl (hro.alloc _) ⟨w2.heap.size, 0, none⟩ 1 1 [.int .i64 b] rfl rfl (news1C _ _ _ _ rfl) (one1C [b]) (by unfold maxLen; omega) (by omega) (by first | omega | (simp; omega)) ?_)
        intro v' w3 hown' hgrow _
        have hb3 : Below w1.heap.size w1 w3 := (HB2.out.alloc (by omega) _).grown hgrow (by simp; omega) (fun g hg => (hro.lt g hg).1)
        have HN : Hid (CapRel w1 D r (r.size - b) v' (.int .i64 b) w3) := HNX.out _ _ _ _ HOK.out rfl hown' hb3
        clear hgrow hown' hb3 hro
        go_wp2
        go_roundg (r.size - b)
        case measure => omega
        case rel => exact HN.out
    · have hlt' : ¬ (p : Int) < (Hs.length : Int) := by omega
      have hpe : p = r.size := by have := (HLS.out p).2; omega
      have HE : Hid (AheadRun D r r.size 0 x) := HA.out.done hpe
      have HROW : Hid (wr.ownsRow w1.heap.size 3 1 u4 x.length (intCells x)) := hrow
      have HBB : Hid (Below w.heap.size w wr) := HB1.out.trans (hbel.mono hz1)
      clear hA hrow hbel hsm hpe
      go_wp2
      go_ret
      exact ⟨_, x, rfl, HE.out, row_base HROW.out hz1, HBB.out⟩

end Go.Proofs.YtlfpepehngkehabDoor
/-
  Worlds: the two tables of a run of small letters.
-/
namespace Go.Proofs.YtlfpepehngkehabDoor
set_option linter.unusedSimpArgs false
set_option linter.unusedVariables false
open Go.RowKit

theorem made_ints (n : Nat) : (madeCells #[Value.int .i64 0] n).toList = intCells (List.replicate n 0) := by
  apply List.ext_getElem?
  intro j
  by_cases h : j < n
  · have : (madeCells #[Value.int .i64 0] n).toList[j]? = some (#[Value.int .i64 0][j % 1]!) := by simp [madeCells, h]
    rw [this, show j % 1 = 0 by omega]
    simp [intCells, h]
  · have h1 : (madeCells #[Value.int .i64 0] n).toList.length = n := by simp [madeCells]
    rw [List.getElem?_eq_none (by omega), List.getElem?_eq_none (by simp [intCells]; omega)]

theorem intCells_set (L : List Nat) (i v : Nat) : (intCells L).set i (.int .i64 v) = intCells (L.set i v) := by simp [intCells, List.map_set]

/-- next and sums lie in two rows of the call's own. -/
structure TwoAt (w : World) (B G1 G2 n : Nat) (N S : List Nat) : Prop where
  nl : N.length = n
  sl : S.length = n
  ne : G1 ≠ G2
  rn : w.ownsRow B 3 1 (.slice (some ⟨G1, 0, none⟩) n n) n (intCells N)
  rs : w.ownsRow B 3 1 (.slice (some ⟨G2, 0, none⟩) n n) n (intCells S)

theorem TwoAt.same {w w' : World} {B G1 G2 n : Nat} {N S : List Nat} (h : TwoAt w B G1 G2 n N S) (hk : Same w w') : TwoAt w' B G1 G2 n N S := ⟨h.nl, h.sl, h.ne, hk.row h.rn, hk.row h.rs⟩

theorem TwoAt.cellN {w : World} {B G1 G2 n : Nat} {N S : List Nat} (h : TwoAt w B G1 G2 n N S) {q : Nat} (hq : q < n) : w.cell? ⟨G1, q, none⟩ = some (.int .i64 (tb N q)) := by
  have hl := h.nl
  rw [h.rn.cellAt q (by omega), tb_get (by omega)]
  simp [intCells, List.getElem?_eq_getElem (show q < N.length by omega)]

theorem TwoAt.cellS {w : World} {B G1 G2 n : Nat} {N S : List Nat} (h : TwoAt w B G1 G2 n N S) {q : Nat} (hq : q < n) : w.cell? ⟨G2, q, none⟩ = some (.int .i64 (tb S q)) := by
  have hl := h.sl
  rw [h.rs.cellAt q (by omega), tb_get (by omega)]
  simp [intCells, List.getElem?_eq_getElem (show q < S.length by omega)]

theorem TwoAt.frzN {w : World} {B G1 G2 n : Nat} {N S : List Nat} (h : TwoAt w B G1 G2 n N S) (q : Nat) : w.frozen? ⟨G1, q, none⟩ = false := h.rn.frozenAt q
theorem TwoAt.frzS {w : World} {B G1 G2 n : Nat} {N S : List Nat} (h : TwoAt w B G1 G2 n N S) (q : Nat) : w.frozen? ⟨G2, q, none⟩ = false := h.rs.frozenAt q

theorem TwoAt.setN {w : World} {B G1 G2 n : Nat} {N S : List Nat} (h : TwoAt w B G1 G2 n N S) (i v : Nat) : TwoAt (w.setCell ⟨G1, i, none⟩ (.int .i64 v)) B G1 G2 n (N.set i v) S := by
  refine ⟨by simp [h.nl], h.sl, h.ne, ?_, ?_⟩
  · rw [← intCells_set]; exact (h.rn.stored i _).1
  · exact Kept.row h.rs ((Kept.refl w (fun k => k = G1)).setCell _ _ (.inl rfl)) (fun k e e2 => by cases e; exact h.ne e2.symm)

theorem TwoAt.setS {w : World} {B G1 G2 n : Nat} {N S : List Nat} (h : TwoAt w B G1 G2 n N S) (i v : Nat) : TwoAt (w.setCell ⟨G2, i, none⟩ (.int .i64 v)) B G1 G2 n N (S.set i v) := by
  refine ⟨h.nl, by simp [h.sl], h.ne, ?_, ?_⟩
  · exact Kept.row h.rn ((Kept.refl w (fun k => k = G2)).setCell _ _ (.inl rfl)) (fun k e e2 => by cases e; exact h.ne e2)
  · rw [← intCells_set]; exact (h.rs.stored i _).1

theorem below_two {w wr : World} {G1 G2 : Nat} (h : Below w.heap.size w wr) (h1 : w.heap.size ≤ G1) (h2 : w.heap.size ≤ G2) (i j : Nat) (u v : Value) : Below w.heap.size w ((wr.setCell ⟨G1, i, none⟩ u).setCell ⟨G2, j, none⟩ v) := by
  have hk : Kept wr ((wr.setCell ⟨G1, i, none⟩ u).setCell ⟨G2, j, none⟩ v) (fun k => k = G1 ∨ k = G2) := ((Kept.refl wr _).setCell _ _ (.inl (.inl rfl))).setCell _ _ (.inl (.inr rfl))
  exact h.trans (hk.below h.size (fun k e => by rcases e with e | e <;> omega))

def FsRel (w : World) (G1 G2 : Nat) (D : Dic) (r : ByteArray) (g : Nat) (x : Value) (wr : World) : Prop :=
  ∃ (k : Nat) (N S : List Nat), g = k ∧ k ≤ r.size ∧ x = .int .i64 ((k : Int) - 1) ∧ TwoAt wr w.heap.size G1 G2 (r.size + 1) N S ∧ Fine D r (tb N) (tb S) k ∧ Below w.heap.size w wr

theorem fs_num {w wr : World} {G1 G2 : Nat} {D : Dic} {r : ByteArray} {g : Nat} {x y : Value} (h : FsRel w G1 G2 D r g x wr) (e : y = x) : FsRel w G1 G2 D r g y wr := by rw [e]; exact h

def FsIn (w : World) (G1 G2 : Nat) (r : ByteArray) (N S : List Nat) (i ce : Nat) (H : List (Nat × Nat)) (g : Nat) (x : Value) (wr : World) : Prop :=
  ∃ j e v : Nat, g = H.length - j ∧ j ≤ H.length ∧ x = .int .i64 j ∧ TwoAt wr w.heap.size G1 G2 (r.size + 1) (N.set i e) (S.set i v) ∧ Pick (tb S) i ce (H.take j) e v ∧ Below w.heap.size w wr

theorem fsin_take {w wr wr' : World} {G1 G2 : Nat} {r : ByteArray} {N S : List Nat} {i ce j e v q s : Nat} {H : List (Nat × Nat)} {x : Value} (hj : j < H.length) (hT : TwoAt wr w.heap.size G1 G2 (r.size + 1) (N.set i e) (S.set i v)) (hP : Pick (tb S) i ce (H.take j) e v) (hq : q = i + H[j].1) (hs : s = H[j].2 + tb S q) (hlt : s < v)
    (hk : Same wr wr') (hb : Below w.heap.size w wr') (h1 : w.heap.size ≤ G1) (h2 : w.heap.size ≤ G2) (hx : x = .int .i64 ((j + 1 : Nat) : Int)) :
    FsIn w G1 G2 r N S i ce H (H.length - (j + 1)) x ((wr'.setCell ⟨G1, i, none⟩ (.int .i64 q)).setCell ⟨G2, i, none⟩ (.int .i64 s)) := by
  refine ⟨j + 1, q, s, rfl, hj, hx, ?_, ?_, below_two hb h1 h2 i i _ _⟩
  · have := ((hT.same hk).setN i q).setS i s
    rw [List.set_set, List.set_set] at this
    exact this
  · rw [takeSnoc hj, hs, hq]
    exact hP.take (by rw [← hq, ← hs]; exact hlt)

theorem fsin_keep {w wr wr' : World} {G1 G2 : Nat} {r : ByteArray} {N S : List Nat} {i ce j e v q s : Nat} {H : List (Nat × Nat)} {x : Value} (hj : j < H.length) (hT : TwoAt wr w.heap.size G1 G2 (r.size + 1) (N.set i e) (S.set i v)) (hP : Pick (tb S) i ce (H.take j) e v) (hq : q = i + H[j].1) (hs : s = H[j].2 + tb S q) (hlt : ¬ s < v)
    (hpw : H.Pairwise (fun a b => a.1 < b.1)) (hce : ce ≤ q) (hk : Same wr wr') (hb : Below w.heap.size w wr') (hx : x = .int .i64 ((j + 1 : Nat) : Int)) :
    FsIn w G1 G2 r N S i ce H (H.length - (j + 1)) x wr' := by
  refine ⟨j + 1, e, v, rfl, hj, hx, hT.same hk, ?_, hb⟩
  rw [takeSnoc hj]
  refine hP.keep (by rw [← hq, ← hs]; exact hlt) (hP.le (by rw [← hq]; exact hce) ?_)
  rw [← takeSnoc hj]
  exact hpw.sublist (List.take_sublist _ _)

/-- a place more. -/
theorem fs_more {w wr : World} {G1 G2 : Nat} {D : Dic} (hD : Small D) {r : ByteArray} {N S : List Nat} {i ce e v : Nat} {H : List (Nat × Nat)} {x : Value} (hl : N.length = r.size + 1 ∧ S.length = r.size + 1) (hF : Fine D r (tb N) (tb S) (i + 1)) (hi : i < r.size) (hC : ClusterTo r i ce) (hH : StandL D r i H)
    (hT : TwoAt wr w.heap.size G1 G2 (r.size + 1) (N.set i e) (S.set i v)) (hP : Pick (tb S) i ce H e v) (hb : Below w.heap.size w wr) (hx : x = .int .i64 ((i : Int) - 1)) : FsRel w G1 G2 D r i x wr := by
  refine ⟨i, _, _, rfl, by omega, hx, hT, ?_, hb⟩
  exact hF.more hD hi ⟨hC.1, hC.2.1⟩ (fun j a b => hC.no j a b) hC.2.2.1 hH hP ⟨tb_set (by omega), fun q hq => tb_set_ne hq⟩ ⟨tb_set (by omega), fun q hq => tb_set_ne hq⟩

/-- no word that stands here is shorter than the cluster. -/
theorem clus_le {D : Dic} (hD : Small D) {r : ByteArray} {i ce : Nat} {H : List (Nat × Nat)} (hC : ClusterTo r i ce) (hH : StandL D r i H) {p : Nat × Nat} (hp : p ∈ H) : ce ≤ i + p.1 := by
  have h := hH.at hD hp
  by_cases e : ce ≤ i + p.1
  · exact e
  · exact absurd h.2.2.2.2.2.1 (hC.no _ (by omega) (by omega))

def FsEnd (w w' : World) (D : Dic) (r : ByteArray) (e : Ending) : Prop :=
  ∃ G N S, e = .returned (.slice (some ⟨G, 0, none⟩) (r.size + 1) (r.size + 1)) ∧ N.length = r.size + 1 ∧ Fine D r (tb N) (tb S) 0 ∧ w'.ownsRow w.heap.size 3 1 (.slice (some ⟨G, 0, none⟩) (r.size + 1) (r.size + 1)) (r.size + 1) (intCells N) ∧ Below w.heap.size w w'

end Go.Proofs.YtlfpepehngkehabDoor
/-
  Walks: the first steps of the cheapest ways.
-/
namespace Go.Proofs.YtlfpepehngkehabDoor
set_option linter.unusedSimpArgs false
set_option linter.unusedVariables false
open Go.RowKit

set_option maxHeartbeats 8000000 in
set_option maxRecDepth 20000 in
theorem firstSteps_any (w : World) (B : Nat) (v : Value) (D : Dic) (r : ByteArray) (Hs : List (List (Nat × Nat))) (hS : StandAt w B v Hs) (hO : StandsOf D r Hs) (hl : Hs.length = r.size) (hr : r.size ≤ 500) (hD : Small D) :
    Calls Tryd.prog 57 #[.string r, v] w fun e w' => FsEnd w w' D r e := by
  obtain ⟨ii, hii, hi0, hi1, hi2⟩ := info_parts Tryd.infoIntC
  obtain ⟨av, cv, rfl, hg⟩ := hS.shape
  have HS : Hid (StandAt w B (.slice av Hs.length cv) Hs) := hS
  have HO : Hid (StandsOf D r Hs) := hO
  have HD : Hid (Small D) := hD
  have HW : Hid (Within Hs) := hO.within hD hl
  have hn : Hs.length ≤ 500 := by omega
  have HL : Hid (Hs.length = r.size) := hl
  have HLS : Hid (∀ p : Nat, p < Hs.length ↔ p < r.size) := fun p => by omega
  clear hS hO hD hl
  obtain ⟨m, hm⟩ : ∃ m, m = r.size + 1 := ⟨_, rfl⟩
  have HM : Hid (m = r.size + 1) := hm
  have hm1 : (r.size : Int) + 1 = (m : Int) := by omega
  have hwm : IntKind.i64.wrap (m : Int) = (m : Int) := by rw [IntKind.wrap_i64]; omega
  have hb1 : ii.bytes * m ≤ 281474976710656 := by rw [hi2]; omega
  have hb2 : m ≤ maxLen := by unfold maxLen; omega
  have hm0 : 0 < m := by omega
  clear hm
  go_enter Tryd.func57, Tryd.ntmps57
  go_wp2_with (at_make; refine wpList_make_full _ rfl (.tmp 16) (.tmp 16) 22 rfl w.heap.size 3 ii _ 1 Tryd.underlying22 hii hi0 hi1 .i64 .i64 _ _ m rfl rfl rfl rfl hb1 hb2 (Nat.le_refl _) ?_)
  intro w1 hown1 hgrow1
  have hbe1 : Below w.heap.size w w1 := (Below.refl _ _).grown hgrow1 (Nat.le_refl _) (fun k hk => by cases hk)
  have hz1 := (hown1.lt w.heap.size rfl).2
  go_wp2_with (at_make; refine wpList_make_full _ rfl (.tmp 20) (.tmp 20) 22 rfl w.heap.size 3 ii _ 1 Tryd.underlying22 hii hi0 hi1 .i64 .i64 _ _ m rfl rfl rfl rfl hb1 hb2 (by omega) ?_)
  intro w2 hown2 hgrow2
  have hk2 : Same w1 w2 := (Kept.refl w1 _).grown hgrow2 (fun k hk => by cases hk)
  have hbe2 : Below w.heap.size w w2 := hbe1.grown hgrow2 (by omega) (fun k hk => by cases hk)
  have hz2 := (hown2.lt w1.heap.size rfl).2
  obtain ⟨G1, hG1⟩ : ∃ G1, G1 = w.heap.size := ⟨_, rfl⟩
  obtain ⟨G2, hG2⟩ : ∃ G2, G2 = w1.heap.size := ⟨_, rfl⟩
  have hT0 : TwoAt w2 w.heap.size G1 G2 (r.size + 1) (List.replicate m 0) (List.replicate m 0) := by
    rw [← HM.out]
    refine ⟨by simp, by simp, by omega, ?_, ?_⟩
    · rw [← made_ints, hG1]; exact hk2.row hown1
    · rw [← made_ints, hG2]; exact hown2
  have HR0 : Hid (FsRel w G1 G2 D r r.size (.int .i64 ((r.size : Int) - 1)) w2) := ⟨r.size, _, _, rfl, Nat.le_refl _, rfl, hT0, Fine.start HD.out r (tb_rep _ _), hbe2⟩
  have hg1 : w.heap.size ≤ G1 := by omega
  have hg2 : w.heap.size ≤ G2 := by omega
  have hgn : ¬ G1 = G2 := by omega
  have hgn' : ¬ G2 = G1 := by omega
  rw [← hG1, ← hG2]
  clear hown1 hown2 hgrow1 hgrow2 hbe1 hbe2 hk2 hT0 hG1 hG2 hz1 hz2
  go_wp2_with fail
  go_loopg [7] r.size (fun g x wr => FsRel w G1 G2 D r g x wr)
  case atStart => exact fs_num HR0.out (by go_num)
  case round =>
    obtain ⟨k, N, S, hgk, hkl, rfl, hT, hF, hbel⟩ := hrel
    have HT : Hid (TwoAt wr w.heap.size G1 G2 (r.size + 1) N S) := hT
    have HF : Hid (Fine D r (tb N) (tb S) k) := hF
    have HBL : Hid (Below w.heap.size w wr) := hbel
    have hszr := hbel.size
    have HGK : Hid (gk = k) := hgk
    clear hgk
    rcases Nat.eq_zero_or_pos k with hk0 | hk0
    · subst hk0
      have hneg : ((0 : Nat) : Int) - 1 = -1 := by omega
      rw [hneg]
      have HE : Hid (N.length = r.size + 1 ∧ wr.ownsRow w.heap.size 3 1 (.slice (some ⟨G1, 0, none⟩) (r.size + 1) (r.size + 1)) (r.size + 1) (intCells N)) := ⟨hT.nl, hT.rn⟩
      clear hT hF hbel
      go_wp2
      go_ret
      exact ⟨G1, N, S, by rw [← HM.out]; rfl, HE.out.1, HF.out, HE.out.2, HBL.out⟩
    · obtain ⟨i, rfl⟩ : ∃ i, k = i + 1 := ⟨k - 1, by omega⟩
      have hpos : ((i + 1 : Nat) : Int) - 1 = (i : Int) := by omega
      rw [hpos]
      have hi0' : (0 : Int) ≤ (i : Int) := by omega
      have hilt : i < r.size := by omega
      have him : (i : Int) < (m : Int) := by omega
      have hiH := (HLS.out i).2 hilt
      have hiH' : (i : Int) < (Hs.length : Int) := by omega
      obtain ⟨g, rfl⟩ := hg (by omega)
      have hsm : Same w wr := Kept.of_below hbel _
      obtain ⟨a, c, hcw, hH, hag⟩ := HS.out.get hiH
      have hgs := cell_lt hcw
      have hc0 := hsm.cell hcw
      have hgG1 : ¬ g = G1 := by omega
      have hgG2 : ¬ g = G2 := by omega
      obtain ⟨hH12, hHin⟩ := HW.out i hiH
      have hHL := (HO.out i hiH).1
      obtain ⟨H, hHd⟩ : ∃ H, H = Hs[i] := ⟨_, rfl⟩
      rw [← hHd] at hc0 hH hag hH12 hHin hHL
      have HHR : Hid (w.ownsRow B 105 2 (.slice a H.length c) H.length (hitCells H)) := hH
      have HHL : Hid (StandL D r i H) := hHL
      have HHI : Hid (∀ x ∈ H, 1 ≤ x.1 ∧ i + x.1 ≤ Hs.length ∧ x.2 ≤ 1000) := hHin
      clear hT hF hbel hsm hH hHL hHin hHd hcw hgs
      go_wp2_with fail
      refine (cluster_any r i _ (by omega) hilt).mono ?_
      rintro e w' ⟨⟨ce, rfl, hC⟩, rfl⟩
      have hce := hC.2.1
      have hci := hC.1
      have hcm : (ce : Int) < (m : Int) := by omega
      have HC : Hid (ClusterTo r i ce) := hC
      have hcn := HT.out.cellN (q := i) (by omega)
      have hcs := HT.out.cellS (q := i) (by omega)
      have hcc := HT.out.cellS (q := ce) (by omega)
      have hfn := HT.out.frzN i
      have hfs := HT.out.frzS i
      have hsb := (HF.out ce (by omega) hce).1
      obtain ⟨sc, hsc⟩ : ∃ sc, sc = tb S ce := ⟨_, rfl⟩
      rw [← hsc] at hcc hsb
      obtain ⟨v0, hv0⟩ : ∃ v0, v0 = 500 + sc := ⟨_, rfl⟩
      have hv1 : (500 : Int) + (sc : Int) = (v0 : Int) := by omega
      have hwv : IntKind.i64.wrap (v0 : Int) = (v0 : Int) := by rw [IntKind.wrap_i64]; omega
      have HX : Hid (FsIn w G1 G2 r N S i ce H H.length (.int .i64 0) ((w'.setCell ⟨G1, i, none⟩ (.int .i64 ce)).setCell ⟨G2, i, none⟩ (.int .i64 v0))) :=
        ⟨0, ce, v0, rfl, Nat.zero_le _, rfl, (HT.out.setN i ce).setS i v0, by rw [hv0, hsc]; exact Pick.start _ _ _, below_two HBL.out hg1 hg2 i i _ _⟩
      have HNL : Hid (N.length = r.size + 1 ∧ S.length = r.size + 1) := ⟨HT.out.nl, HT.out.sl⟩
      clear hC hsc hv0 hsb
      go_wp2_with fail
      go_loopg [52] H.length (fun g x wr => FsIn w G1 G2 r N S i ce H g x wr)
      case atStart => exact HX.out
      case round =>
        obtain ⟨j, e, v, rfl, hj, rfl, hT, hP, hb⟩ := hrel
        have hzw := hb.size
        have HB : Hid (Below w.heap.size w wr) := hb
        have hsm : Same w wr := Kept.of_below hb _
        by_cases hjl : j < H.length
        · have hjl' : (j : Int) < (H.length : Int) := by omega
          obtain ⟨g', rfl⟩ := hag (by omega)
          obtain ⟨hd0, hd1⟩ := own_hit (hsm.row HHR.out) rfl hjl
          have hgz := cell_lt hd0
          have hin := HHI.out _ (List.getElem_mem hjl)
          have hcl := clus_le HD.out HC.out HHL.out (List.getElem_mem hjl)
          have hHs := HL.out
          obtain ⟨q, hq⟩ : ∃ q, q = i + H[j].1 := ⟨_, rfl⟩
          obtain ⟨s, hs⟩ : ∃ s, s = H[j].2 + tb S q := ⟨_, rfl⟩
          have hqb := (HF.out q (by omega) (by omega)).1
          have hqs := hT.cellS (q := q) (by omega)
          have his := hT.cellS (q := i) (by omega)
          have hin' := hT.cellN (q := i) (by omega)
          have hfn' := hT.frzN i
          have hfs' := hT.frzS i
          rw [tb_set_ne (by omega)] at hqs
          rw [tb_set (by have := HNL.out.2; omega)] at his
          have hg1z := cell_lt hin'
          have hg2z := cell_lt his
          have HTK : Hid (∀ (wr' : World) (x : Value), s < v → Same wr wr' → Below w.heap.size w wr' → x = .int .i64 ((j + 1 : Nat) : Int) → FsIn w G1 G2 r N S i ce H (H.length - (j + 1)) x ((wr'.setCell ⟨G1, i, none⟩ (.int .i64 q)).setCell ⟨G2, i, none⟩ (.int .i64 s))) :=
            fun wr' x h1 h2 h3 h4 => fsin_take hjl hT hP hq hs h1 h2 h3 hg1 hg2 h4
          have HKP : Hid (∀ (wr' : World) (x : Value), ¬ s < v → Same wr wr' → Below w.heap.size w wr' → x = .int .i64 ((j + 1 : Nat) : Int) → FsIn w G1 G2 r N S i ce H (H.length - (j + 1)) x wr') :=
            fun wr' x h1 h2 h3 h4 => fsin_keep hjl hT hP hq hs h1 HHL.out.1 (by omega) h2 h3 h4
          obtain ⟨l, hl⟩ : ∃ l, l = H[j].1 := ⟨_, rfl⟩
          obtain ⟨cc, hcc2⟩ : ∃ cc, cc = H[j].2 := ⟨_, rfl⟩
          obtain ⟨sq, hsq⟩ : ∃ sq, sq = tb S q := ⟨_, rfl⟩
          rw [← hl] at hd0
          rw [← hcc2] at hd1
          rw [← hsq] at hqs
          have hq1 : (i : Int) + (l : Int) = (q : Int) := by omega
          have hqm : (q : Int) < (m : Int) := by omega
          have hwq : IntKind.i64.wrap (q : Int) = (q : Int) := by rw [IntKind.wrap_i64]; omega
          have hs1 : (cc : Int) + (sq : Int) = (s : Int) := by omega
          have hws : IntKind.i64.wrap (s : Int) = (s : Int) := by rw [IntKind.wrap_i64]; omega
          obtain ⟨x0, hx0⟩ : ∃ x0, x0 = tb (N.set i e) i := ⟨_, rfl⟩
          rw [← hx0] at hin'
          have HAL : Hid (Same wr (wr.alloc (.cells #[.int .i64 l, .int .i64 cc] 105)) ∧ Below w.heap.size w (wr.alloc (.cells #[.int .i64 l, .int .i64 cc] 105))) := ⟨(Same.refl wr).alloc _, hb.alloc hzw _⟩
          clear hT hP hb hsm hin hcl hHs hq hs hqb hl hcc2 hsq hx0
          by_cases hlt : s < v
          · have hlt' : (s : Int) < (v : Int) := by omega
            go_wp2_with fail
            go_quiet (fail)
            go_wp2
            go_roundg (H.length - (j + 1))
            case measure => omega
            case rel => exact HTK.out _ _ hlt (Kept.drewN HAL.out.1 _) (below_drewC HAL.out.2 _) (by go_num)
          · have hlt' : ¬ (s : Int) < (v : Int) := by omega
            go_wp2_with fail
            go_quiet (fail)
            go_wp2
            go_roundg (H.length - (j + 1))
            case measure => omega
            case rel => exact HKP.out _ _ hlt (Kept.drewN HAL.out.1 _) (below_drewC HAL.out.2 _) (by go_num)
        · have hjl' : ¬ (j : Int) < (H.length : Int) := by omega
          have HN : Hid (FsRel w G1 G2 D r i (.int .i64 ((i : Int) - 1)) wr) := by
            have hP' := hP
            rw [show j = H.length by omega, List.take_length] at hP'
            exact fs_more HD.out HNL.out HF.out hilt HC.out HHL.out hT hP' hb rfl
          clear hT hP hb hsm
          go_wp2
          go_roundg i
          case measure => have := HGK.out; omega
          case rel => exact fs_num HN.out (by go_num)

end Go.Proofs.YtlfpepehngkehabDoor
/-
  Walks: the pieces of a run.
-/
namespace Go.Proofs.YtlfpepehngkehabDoor
set_option linter.unusedSimpArgs false
set_option linter.unusedVariables false
open Go.RowKit

def SmRel (w1 : World) (D : Dic) (r : ByteArray) (S : List Nat) (g : Nat) (ev pv : Value) (wr : World) : Prop :=
  ∃ (p : Nat) (x : List Nat), g = r.size - p ∧ pv = .int .i64 p ∧ Along D r (tb S) p x ∧ wr.ownsRow w1.heap.size 3 1 ev x.length (intCells x) ∧ Below w1.heap.size w1 wr

set_option maxHeartbeats 4000000 in
set_option maxRecDepth 20000 in
theorem cutSmall_any (w : World) (B : Nat) (v : Value) (D : Dic) (r : ByteArray) (Hs : List (List (Nat × Nat))) (hS : StandAt w B v Hs) (hO : StandsOf D r Hs) (hl : Hs.length = r.size) (hr : r.size ≤ 500) (hD : Small D) :
    Calls Tryd.prog 48 #[.string r, v] w fun e w' => PiecesEnd (IsBest D r 0 r.size) w w' e := by
  obtain ⟨ii, hii, hi0, hi1, hi2⟩ := info_parts Tryd.infoIntC
  have HFS : Hid (Calls Tryd.prog 57 #[.string r, v] w fun e w' => FsEnd w w' D r e) := firstSteps_any w B v D r Hs hS hO hl hr hD
  have HD : Hid (Small D) := hD
  clear hS hO hD hl
  go_enter Tryd.func48, Tryd.ntmps48
  go_wp2_with fail
  refine HFS.out.mono ?_
  rintro e w1 ⟨G, N, S, rfl, hNl, hF, hN, hb1⟩
  have hz1 := hb1.size
  have HB1 : Hid (Below w.heap.size w w1) := hb1
  have HN1 : Hid (w1.ownsRow w.heap.size 3 1 (.slice (some ⟨G, 0, none⟩) (r.size + 1) (r.size + 1)) (r.size + 1) (intCells N)) := hN
  have HF : Hid (Fine D r (tb N) (tb S) 0) := hF
  have HNL : Hid (N.length = r.size + 1) := hNl
  obtain ⟨m, hm⟩ : ∃ m, m = r.size + 1 := ⟨_, rfl⟩
  have HM : Hid (m = r.size + 1) := hm
  have hm1 : r.size < m := by omega
  rw [← hm]
  rw [← hm] at HN1
  clear hb1 hN hF hNl HFS hm
  go_wp2_with fail
  go_loopg [6, 7] r.size (fun g ev pv wr => SmRel w1 D r S g ev pv wr)
  case atStart => exact ⟨0, [], rfl, rfl, Along.start HF.out, World.ownsRow_nil _ _ _ _, Below.refl _ _⟩
  case round =>
    obtain ⟨p, x, rfl, rfl, hA, hrow, hbel⟩ := hrel
    have hpl := hA.1
    have hxl := hA.2.2.1
    have HA : Hid (Along D r (tb S) p x) := hA
    have HBL : Hid (Below w1.heap.size w1 wr) := hbel
    have hszr := hbel.size
    have HROW : Hid (wr.ownsRow w1.heap.size 3 1 u6 x.length (intCells x)) := hrow
    by_cases hlt : p < r.size
    · have hlt' : (p : Int) < (r.size : Int) := by omega
      have hpm : (p : Int) < (m : Int) := by omega
      have hcN := own_int (ownsRow_below' HN1.out hbel) (k := p) (by rw [HNL.out, HM.out]) (by rw [HNL.out]; omega)
      obtain ⟨q, hq⟩ : ∃ q, q = tb N p := ⟨_, rfl⟩
      rw [← tb_get, ← hq] at hcN
      obtain ⟨n1, n2, n3⟩ := hA.next HF.out hlt
      rw [← hq] at n1 n2 n3
      have HNX : Hid (Along D r (tb S) q (x ++ [q])) := n3
      clear hA hrow hbel n3 hq
      go_wp2_with (at_builtin; refine wpList_append_own _ rfl _ _ 22 rfl w1.heap.size 3 ii _ 1 8 Tryd.underlying22 hii hi0 hi1 hi2 rfl (by decide) _ _ _ rfl (HROW.out.alloc _) ⟨wr.heap.size, 0, none⟩ 1 1 [.int .i64 q] rfl rfl (news1C _ _ _ _ rfl) (one1C [q]) (by unfold maxLen; omega) (by omega) (by first | omega | (simp; omega)) ?_)
      intro v' w3 hown' hgrow _
      have hb3 : Below w1.heap.size w1 w3 := (HBL.out.alloc (by omega) _).grown hgrow (by simp; omega) (fun g hg => (HROW.out.lt g hg).1)
      have HN : Hid (SmRel w1 D r S (r.size - q) v' (.int .i64 q) w3) := ⟨q, x ++ [q], rfl, rfl, HNX.out, pieces_snoc hown', hb3⟩
      clear hgrow hown' hb3
      go_wp2
      go_roundg (r.size - q)
      case measure => omega
      case rel => exact HN.out
    · have hlt' : ¬ (p : Int) < (r.size : Int) := by omega
      have HE : Hid (IsBest D r 0 r.size x) := hA.done HD.out (by omega)
      have HBB : Hid (Below w.heap.size w wr) := HB1.out.trans (hbel.mono hz1)
      clear hA hrow hbel
      go_wp2
      go_ret
      exact ⟨_, x, rfl, HE.out, row_base HROW.out hz1, HBB.out⟩

theorem PiecesEnd.imp {P Q : List Nat → Prop} {w w' : World} {e : Ending} (h : PiecesEnd P w w' e) (hi : ∀ x, P x → Q x) : PiecesEnd Q w w' e := by
  obtain ⟨v, x, h1, h2, h3, h4⟩ := h
  exact ⟨v, x, h1, hi x h2, h3, h4⟩

set_option maxHeartbeats 4000000 in
set_option maxRecDepth 20000 in
theorem cutRun_any (w : World) (b : Nat) (v : Value) (D : Dic) (r : ByteArray) (hr : r.size ≤ 500) (hS : SetAt w 94 b v D) (hD : GoodDic D) :
    Calls Tryd.prog 33 #[.string r, .int .i64 (sn (bt r 0)), .pointer (some ⟨b, 0, none⟩)] w fun e w' => PiecesEnd (RunCut D r 0 r.size) w w' e := by
  have hsn := sn_cases (bt r 0)
  obtain ⟨k, hk⟩ : ∃ k, k = sn (bt r 0) := ⟨_, rfl⟩
  rw [← hk] at hsn ⊢
  have HST : Hid (Calls Tryd.prog 47 #[.string r, .pointer (some ⟨b, 0, none⟩)] w fun e w' => StandsEnd w w' D r e) := standing_any w b v D r hr hS hD
  have HD : Hid (GoodDic D) := hD
  clear hS hD hk
  by_cases h1 : k = 1
  · have HI : Hid (∀ x, IsBest D r 0 r.size x → RunCut D r 0 r.size x) := fun x h => .inl ⟨by omega, h⟩
    subst h1
    clear hsn
    go_enter Tryd.func33, Tryd.ntmps33
    go_wp2_with fail
    refine HST.out.mono ?_
    rintro e w1 ⟨v1, Hs, rfl, hl, hO, hA, hb1⟩
    have HB1 : Hid (Below w.heap.size w w1) := hb1
    have hz1 := hb1.size
    have HCS : Hid (Calls Tryd.prog 48 #[.string r, v1] w1 fun e w' => PiecesEnd (IsBest D r 0 r.size) w1 w' e) := cutSmall_any w1 w.heap.size v1 D r Hs hA hO hl hr HD.out.small
    clear hl hO hA hb1 HST
    go_wp2_with fail
    refine HCS.out.mono ?_
    rintro e w2 ⟨v2, x, rfl, hx, hr2, hb2⟩
    have HE : Hid (PiecesEnd (RunCut D r 0 r.size) w w2 (.returned v2)) := ⟨v2, x, rfl, HI.out x hx, row_base hr2 hz1, HB1.out.trans (hb2.mono hz1)⟩
    clear hx hr2 hb2
    go_wp2
    go_ret
    exact HE.out
  · by_cases h2 : k = 2
    · have HI : Hid (∀ x, AheadRun D r r.size 0 x → RunCut D r 0 r.size x) := fun x h => .inr (.inl ⟨by omega, h⟩)
      subst h2
      clear hsn
      go_enter Tryd.func33, Tryd.ntmps33
      go_wp2_with fail
      refine HST.out.mono ?_
      rintro e w1 ⟨v1, Hs, rfl, hl, hO, hA, hb1⟩
      have HB1 : Hid (Below w.heap.size w w1) := hb1
      have hz1 := hb1.size
      have HCS : Hid (Calls Tryd.prog 49 #[v1] w1 fun e w' => PiecesEnd (AheadRun D r r.size 0) w1 w' e) := cutCapitals_any w1 w.heap.size v1 D r Hs hA hO hl hr HD.out
      clear hl hO hA hb1 HST
      go_wp2_with fail
      refine HCS.out.mono ?_
      rintro e w2 ⟨v2, x, rfl, hx, hr2, hb2⟩
      have HE : Hid (PiecesEnd (RunCut D r 0 r.size) w w2 (.returned v2)) := ⟨v2, x, rfl, HI.out x hx, row_base hr2 hz1, HB1.out.trans (hb2.mono hz1)⟩
      clear hx hr2 hb2
      go_wp2
      go_ret
      exact HE.out
    · have HI : Hid (RunCut D r 0 r.size [r.size]) := .inr (.inr ⟨by omega, by omega, rfl⟩)
      have t1 : ((k : Int) != 1) = true := by rw [bne_iff_ne]; omega
      have t2 : ((k : Int) != 2) = true := by rw [bne_iff_ne]; omega
      have HE : Hid (PiecesEnd (RunCut D r 0 r.size) w (w.alloc (.cells #[.int .i64 (r.size : Nat)] 3)) (.returned (.slice (some ⟨w.heap.size, 0, none⟩) 1 1))) := ⟨_, [r.size], rfl, HI.out, own_oneC _ _ _, (Below.refl _ _).alloc (Nat.le_refl _) _⟩
      clear hsn h1 h2
      go_enter Tryd.func33, Tryd.ntmps33
      go_wp2
      go_ret
      exact HE.out

end Go.Proofs.YtlfpepehngkehabDoor
/-
  Walks: the boundaries of a text.
-/
namespace Go.Proofs.YtlfpepehngkehabDoor
set_option linter.unusedSimpArgs false
set_option linter.unusedVariables false
open Go.RowKit

/-- the run as a text of its own. -/
theorem run_win {t : ByteArray} {lo hi : Nat} (h : RunAt t lo hi) : Win (t.extract lo hi) t 0 lo (hi - lo) ∧ (t.extract lo hi).size = hi - lo := by
  have h1 := h.1
  have h2 := h.2.1
  have he := h.edges
  have hz : (t.extract lo hi).size = hi - lo := by simp; omega
  refine ⟨⟨by omega, by omega, fun j hj => ?_, edge_zero _, he.1, ?_, ?_⟩, hz⟩
  · rw [Nat.zero_add]
    exact bt_extract t lo hi j (by omega) h2
  · rw [Nat.zero_add, ← hz]; exact edge_end _
  · rw [show lo + (hi - lo) = hi by omega]; exact he.2

theorem run_pieces {D : Dic} (hD : GoodDic D) {t : ByteArray} {lo hi : Nat} {x : List Nat} (h : RunAt t lo hi) (hx : RunCut D (t.extract lo hi) 0 (t.extract lo hi).size x) : RunCut D t lo hi (x.map (lo + ·)) := by
  obtain ⟨hw, hz⟩ := run_win h
  have h1 := h.1
  obtain ⟨r, e, hr⟩ := hw.runCut hD (by omega) (.inl (by omega)) (by rw [show lo + (hi - lo) = hi by omega]; exact h.2.2.2.1) (l := x) (by rw [Nat.zero_add, ← hz]; exact hx)
  have e2 : x = r := by rw [e]; simp
  rw [e2]
  rw [show lo + (hi - lo) = hi by omega] at hr
  exact hr

theorem run_len {D : Dic} (hD : GoodDic D) {t : ByteArray} {lo hi : Nat} {x : List Nat} (h : RunAt t lo hi) (hx : RunCut D t lo hi (x.map (lo + ·))) : x.length + lo ≤ hi := by
  have := hx.len hD h
  simpa using this

/-- each piece ends within the run. -/
theorem run_le {D : Dic} (hD : GoodDic D) {r : ByteArray} {x : List Nat} (h : RunCut D r 0 r.size x) : ∀ y ∈ x, y ≤ r.size := by
  rcases h with ⟨_, c, h, _⟩ | ⟨_, h⟩ | ⟨_, _, rfl⟩
  · exact fun y hy => ((h.facts hD.small).2.2.2.1 y hy).2
  · suffices ∀ i l, AheadRun D r r.size i l → ∀ y ∈ l, y ≤ r.size from this 0 x h
    intro i l hl
    induction hl with
    | done => intro y hy; cases hy
    | step h1 h2 _ ih =>
      intro y hy
      rcases List.mem_cons.1 hy with rfl | hy
      · exact (h2.lt hD h1 (.inl rfl)).2
      · exact ih y hy
  · intro y hy; simp at hy; omega

/-- between runs. -/
def BdRel (w : World) (D : Dic) (t : ByteArray) (g : Nat) (lv av : Value) (wr : World) : Prop :=
  ∃ (p : Nat) (L : List Nat), g = t.size - p ∧ p ≤ t.size ∧ av = .int .i64 p ∧ CutTo D t p L ∧ (p = 0 ∨ IsEnd t p) ∧ wr.ownsRow w.heap.size 3 1 lv L.length (intCells L) ∧ Below w.heap.size w wr

/-- within a run. -/
def BdIn (w : World) (B p : Nat) (L x : List Nat) (ev : Value) (g : Nat) (lv jv : Value) (wr : World) : Prop :=
  ∃ j : Nat, g = x.length - j ∧ j ≤ x.length ∧ jv = .int .i64 j ∧ wr.ownsRow w.heap.size 3 1 lv (L ++ (x.take j).map (p + ·)).length (intCells (L ++ (x.take j).map (p + ·))) ∧ wr.ownsRow B 3 1 ev x.length (intCells x) ∧ Apart lv ev ∧ Below w.heap.size w wr

theorem BdIn.num {w wr : World} {B p g : Nat} {L x : List Nat} {ev lv y z : Value} (h : BdIn w B p L x ev g lv y wr) (e : z = y) : BdIn w B p L x ev g lv z wr := by rw [e]; exact h

theorem bdin_next {w wr w2 : World} {B p j q : Nat} {L x : List Nat} {ev lv v' : Value} {o : Obj} (hj : j < x.length) (hq : q = p + x[j]) (hl : wr.ownsRow w.heap.size 3 1 lv (L ++ (x.take j).map (p + ·)).length (intCells (L ++ (x.take j).map (p + ·)))) (he : wr.ownsRow B 3 1 ev x.length (intCells x)) (ha : Apart lv ev) (hb : Below w.heap.size w wr)
    (hown : w2.ownsRow w.heap.size 3 1 v' ((L ++ (x.take j).map (p + ·)).length + 1) (intCells (L ++ (x.take j).map (p + ·)) ++ [.int .i64 q])) (hg : (wr.alloc o).grownBy w2 lv.ownBlock) (hat : v'.ownBlock = lv.ownBlock ∨ v'.ownBlock = some (wr.alloc o).heap.size) :
    BdIn w B p L x ev (x.length - (j + 1)) v' (.int .i64 ((j + 1 : Nat) : Int)) w2 := by
  have hk : Kept wr w2 (fun k => lv.ownBlock = some k) := ((Kept.refl wr _).alloc o).grown hg (fun k e => .inl e)
  have hz : (wr.alloc o).heap.size = wr.heap.size + 1 := by simp
  refine ⟨j + 1, rfl, hj, rfl, ?_, Kept.row he hk (fun k e1 e2 => ha k e2 e1), fun k e1 e2 => ?_, ?_⟩
  · rw [takeSnoc hj, List.map_append, ← List.append_assoc, intCells_append, List.length_append, List.map_singleton, ← hq]
    exact hown
  · rcases hat with h | h
    · exact ha k (h ▸ e1) e2
    · rw [h] at e1
      cases e1
      have := (he.lt _ e2).2
      omega
  · exact hb.trans (hk.below hb.size (fun k e => (hl.lt k e).1))

set_option maxHeartbeats 4000000 in
set_option maxRecDepth 20000 in
theorem boundaries_any (w : World) (b : Nat) (v : Value) (D : Dic) (t : ByteArray) (ht : t.size ≤ 500) (hS : SetAt w 94 b v D) (hD : GoodDic D) :
    Calls Tryd.prog 20 #[.string t, .pointer (some ⟨b, 0, none⟩)] w fun e w' => PiecesEnd (CutTo D t t.size) w w' e := by
  obtain ⟨ii, hii, hi0, hi1, hi2⟩ := info_parts Tryd.infoIntC
  have HS : Hid (SetAt w 94 b v D) := hS
  have HD : Hid (GoodDic D) := hD
  clear hS hD
  go_enter Tryd.func20, Tryd.ntmps20
  go_wp2_with fail
  go_loopg [5, 6] t.size (fun g lv av wr => BdRel w D t g lv av wr)
  case atStart => exact ⟨0, [0], rfl, Nat.zero_le _, rfl, .zero, .inl rfl, own_oneC _ _ _, (Below.refl _ _).alloc (Nat.le_refl _) _⟩
  case round =>
    obtain ⟨p, L, hgp, hpt, rfl, hC, hE, hrow, hbel⟩ := hrel
    have HGP : Hid (gk = t.size - p) := hgp
    have HC : Hid (CutTo D t p L) := hC
    have HE : Hid (p = 0 ∨ IsEnd t p) := hE
    have HROW : Hid (wr.ownsRow w.heap.size 3 1 u5 L.length (intCells L)) := hrow
    have HBL : Hid (Below w.heap.size w wr) := hbel
    have hLl := hC.len HD.out
    have hszr := hbel.size
    have HED : Hid (Edge t p) := by
      rcases hE with h | h
      · exact .inl h
      · exact h.edge
    have HS1 : Hid (SetAt wr 94 b v D) := HS.out.below hbel
    clear hgp hC hE hrow hbel
    by_cases hlt : p < t.size
    · have hlt' : (p : Int) < (t.size : Int) := by omega
      go_wp2_with fail
      refine (run_any t p _ (by omega) hlt HED.out).mono ?_
      rintro e w' ⟨⟨hi, rfl, hR⟩, rfl⟩
      have hRA : RunAt t p hi := ⟨hR.1, hR.2.1, HE.out, hR.2.2.1, hR.2.2.2⟩
      have HRA : Hid (RunAt t p hi) := hRA
      have h1 := hR.1
      have h2 := hR.2.1
      have hph : (p : Int) ≤ (hi : Int) := by omega
      have hht : (hi : Int) ≤ (t.size : Int) := by omega
      obtain ⟨hwin, hz⟩ := run_win hRA
      have hb0 : bt (t.extract p hi) 0 = bt t p := by have := hwin.same 0 (by omega); simpa using this
      have HCR : Hid (Calls Tryd.prog 33 #[.string (t.extract p hi), .int .i64 (sn (bt t p)), .pointer (some ⟨b, 0, none⟩)] w' fun e w1 => PiecesEnd (RunCut D (t.extract p hi) 0 (t.extract p hi).size) w' w1 e) := by
        have := cutRun_any w' b v D (t.extract p hi) (by omega) HS1.out HD.out
        rw [hb0] at this
        exact this
      have HZ : Hid ((t.extract p hi).size = hi - p) := hz
      clear hR hRA hwin hz hb0
      go_wp2_with fail
      refine HCR.out.mono ?_
      rintro e w1 ⟨ev, x, rfl, hx, hr1, hb1⟩
      have hxle := run_le HD.out hx
      rw [HZ.out] at hxle
      have hpc : RunCut D t p hi (x.map (p + ·)) := run_pieces HD.out HRA.out hx
      have hxl := run_len HD.out HRA.out hpc
      have HNC : Hid (CutTo D t hi (L ++ x.map (p + ·))) := .run HC.out HRA.out hpc
      have HXL : Hid (∀ y ∈ x, y ≤ hi - p) := hxle
      have hz1 := hb1.size
      have hst : BdIn w w'.heap.size p L x ev x.length u5 (.int .i64 0) w1 := ⟨0, rfl, Nat.zero_le _, rfl, by simpa using ownsRow_below' HROW.out hb1, hr1, (fun k e1 e2 => by have := (HROW.out.lt k e1).2; have := (hr1.lt k e2).1; omega), HBL.out.trans (hb1.mono hszr)⟩
      have HST : Hid (BdIn w w'.heap.size p L x ev x.length u5 (.int .i64 0) w1) := hst
      obtain ⟨ae, ce, rfl, hge⟩ := row_form hr1
      clear hx hr1 hb1 hxle hpc hst HCR
      go_wp2_with fail
      go_loopg [5, 32] x.length (fun g lv jv wr => BdIn w w'.heap.size p L x (.slice ae x.length ce) g lv jv wr)
      case atStart => exact HST.out
      case round =>
        obtain ⟨j, rfl, hj, rfl, hl, he, hap, hb⟩ := hrel
        have hzr := hb.size
        by_cases hjl : j < x.length
        · have hjl' : (j : Int) < (x.length : Int) := by omega
          obtain ⟨g', rfl⟩ := hge (by omega)
          have hce := own_int he rfl hjl
          have hyb := HXL.out _ (List.getElem_mem hjl)
          obtain ⟨q, hq⟩ : ∃ q, q = p + x[j] := ⟨_, rfl⟩
          obtain ⟨y, hy⟩ : ∃ y, y = x[j] := ⟨_, rfl⟩
          rw [← hy] at hce hyb
          have hq1 : (p : Int) + (y : Int) = (q : Int) := by omega
          have hwq : IntKind.i64.wrap (q : Int) = (q : Int) := by rw [IntKind.wrap_i64]; omega
          have HNX : Hid (∀ (w2 : World) (v' : Value) (o : Obj), w2.ownsRow w.heap.size 3 1 v' ((L ++ (x.take j).map (p + ·)).length + 1) (intCells (L ++ (x.take j).map (p + ·)) ++ [.int .i64 q]) → (wr.alloc o).grownBy w2 u5.ownBlock → (v'.ownBlock = u5.ownBlock ∨ v'.ownBlock = some (wr.alloc o).heap.size) → BdIn w w'.heap.size p L x (.slice (some ⟨g', 0, none⟩) x.length ce) (x.length - (j + 1)) v' (.int .i64 ((j + 1 : Nat) : Int)) w2) :=
            fun w2 v' o k1 k2 k3 => bdin_next hjl hq hl he hap hb k1 k2 k3
          have hll : (L ++ (x.take j).map (p + ·)).length ≤ 1100 := by simp; omega
          generalize hMd : L ++ (x.take j).map (p + ·) = M at HNX hl hll
          clear hMd he hap hb hq hy hyb
          go_wp2_with (at_builtin; refine wpList_append_own_at _ rfl _ _ 22 rfl w.heap.size 3 ii _ 1 8 Tryd.underlying22 hii hi0 hi1 hi2 rfl (by decide) _ _ _ rfl (hl.alloc _) ⟨wr.heap.size, 0, none⟩ 1 1 [.int .i64 q] rfl rfl (news1C _ _ _ _ rfl) (one1C [q]) (by unfold maxLen; omega) (by omega) (by first | omega | (simp; omega)) ?_)
          intro v' w3 hown' hgrow _ hat
          have HN : Hid (BdIn w w'.heap.size p L x (.slice (some ⟨g', 0, none⟩) x.length ce) (x.length - (j + 1)) v' (.int .i64 ((j + 1 : Nat) : Int)) w3) := HNX.out _ _ _ hown' hgrow (by simpa using hat)
          clear hgrow hown' hat hl
          go_wp2
          go_roundg (x.length - (j + 1))
          case measure => omega
          case rel => exact HN.out.num (by go_num)
        · have hjl' : ¬ (j : Int) < (x.length : Int) := by omega
          have HRO : Hid (wr.ownsRow w.heap.size 3 1 u5 (L ++ x.map (p + ·)).length (intCells (L ++ x.map (p + ·)))) := by
            have := hl
            rw [show j = x.length by omega, List.take_length] at this
            exact this
          have HB : Hid (Below w.heap.size w wr) := hb
          have HN : Hid (BdRel w D t (t.size - hi) u5 (.int .i64 hi) wr) := ⟨hi, _, rfl, h2, rfl, HNC.out, .inr HRA.out.2.2.2.1, HRO.out, hb⟩
          clear hl he hap hb
          go_wp2
          go_roundg (t.size - hi)
          case measure => have := HGP.out; omega
          case rel => exact HN.out
    · have hlt' : ¬ (p : Int) < (t.size : Int) := by omega
      have HF : Hid (CutTo D t t.size L) := by
        have := HC.out
        rw [show p = t.size by omega] at this
        exact this
      go_wp2
      go_ret
      exact ⟨_, L, rfl, HF.out, HROW.out, HBL.out⟩

end Go.Proofs.YtlfpepehngkehabDoor
/-
  The program's Cut answers as CutOk and CutLongOk ask.
-/
namespace Go.Proofs.YtlfpepehngkehabDoor
set_option linter.unusedSimpArgs false
set_option linter.unusedVariables false
open Go.RowKit

set_option maxHeartbeats 2000000 in
set_option maxRecDepth 20000 in
theorem cutOk : CutOk := by
  intro w b v D s hs hD hS
  have ht : ¬ (500 : Int) < (s.size : Int) := by omega
  have HB : Hid (Calls Tryd.prog 20 #[.string s, .pointer (some ⟨b, 0, none⟩)] w fun e w' => PiecesEnd (CutTo D s s.size) w w' e) := boundaries_any w b v D s hs hS hD
  clear hS hD
  go_enter Tryd.func7, Tryd.ntmps7
  go_wp2_with fail
  refine HB.out.mono ?_
  rintro e w1 ⟨v1, L, rfl, hL, hr, hb⟩
  have HE : Hid (CutGot w w1 D s (.returned (.tuple #[v1, .int .i64 0]))) := ⟨v1, L, rfl, hL, hr, hb⟩
  clear hL hr hb HB
  go_wp2
  go_ret2
  exact HE.out

set_option maxHeartbeats 2000000 in
set_option maxRecDepth 20000 in
theorem cutLongOk : CutLongOk := by
  intro w b v D s hs hm hS
  unfold maxLen at hm
  have ht : (500 : Int) < (s.size : Int) := by omega
  clear hS
  go_enter Tryd.func7, Tryd.ntmps7
  go_wp2
  go_ret2
  exact ⟨rfl, Below.refl _ _⟩

end Go.Proofs.YtlfpepehngkehabDoor
