/-
  Walks: the reference's image.
-/
import Derived.Test.YtlfpepehngkehaaGreatRows
import Derived.Test.YtlfpepehngkehaaGreatBookW
import Derived.Test.YtlfpepehngkehaaGreatMaths
import Derived.Deep.RegionWith
import Derived.Deep.DeepCutAuto
import Derived.Deep.CutBlock
import Derived.Deep.LoopGhost
import Derived.WalkSpells
import Derived.WalkLawsBesides
namespace Go.Proofs.YtlfpepehngkehaaGreat
set_option linter.unusedSimpArgs false
set_option linter.unusedVariables false
open Go.RowKit

theorem i64_and255 (n : Int) : bits .and .i64 n 255 = n % 256 := by
  have h255 : (BitVec.ofInt 64 255).toNat = 2 ^ 8 - 1 := by decide
  have key : (BitVec.ofInt 64 n &&& BitVec.ofInt 64 255).toNat = (n % ((2 ^ 64 : Nat) : Int)).toNat % 2 ^ 8 := by
    rw [BitVec.toNat_and, BitVec.toNat_ofInt, h255, Nat.and_two_pow_sub_one_eq_mod]
  show IntKind.i64.wrap ((BitVec.ofInt 64 n &&& BitVec.ofInt 64 255).toNat : Nat) = n % 256
  rw [key, IntKind.wrap_i64]
  omega

theorem bytes_lit (w : World) (l : List UInt8) (t : TypeId) (c : Nat) (vs : Array Value) (hv : ∀ j (h : j < l.length), vs[j]? = some (.int .u8 (l[j].toNat : Int))) (m : Nat) (hm : m = l.length) (ht : t = 5) :
    (convert 108 9 (.slice (some ⟨w.heap.size, 0, none⟩) m c)).run Tryz.prog (w.alloc (.cells vs t)) = .ok (.string ⟨l.toArray⟩) (w.alloc (.cells vs t)) := by
  subst hm ht
  refine run_convert_bytes_back (P := Tryz.prog) _ 108 9 5 ⟨w.heap.size, 0, none⟩ c l Tryz.underlying108 Tryz.underlying5 Tryz.underlying9 (fun j hj => ?_)
  have e : (⟨w.heap.size, 0, none⟩ : Addr).add j = ⟨w.heap.size, j, none⟩ := by simp [Addr.add]; try omega
  rw [e, World.cell?_alloc_at _ _ _ _ rfl]
  exact hv j hj

theorem two_back (w : World) (n : Nat) (h : n ≤ 1000) :
    (convert 108 9 (.slice (some ⟨w.heap.size, 0, none⟩) 2 2)).run Tryz.prog (w.alloc (.cells #[.int .u8 ((n : Int) % 256), .int .u8 ((n : Int) / 256)] 5)) = .ok (.string ⟨(twoL n).toArray⟩) (w.alloc (.cells #[.int .u8 ((n : Int) % 256), .int .u8 ((n : Int) / 256)] 5)) := by
  refine bytes_lit w (twoL n) _ 2 _ (fun j hj => ?_) 2 rfl rfl
  match j, hj with
  | 0, _ => simp [twoL]
  | 1, _ => simp [twoL]; omega

set_option maxHeartbeats 1000000 in
set_option maxRecDepth 100000 in
theorem two_any (n : Nat) (w : World) (h : n ≤ 1000) :
    Calls Tryz.prog 74 #[.int .i64 n] w fun e w' => e = .returned (.string ⟨(twoL n).toArray⟩) ∧ w' = w.alloc (.cells #[.int .u8 ((n : Int) % 256), .int .u8 ((n : Int) / 256)] 5) := by
  have hand := i64_and255 n
  have hmm : (n : Int) % 256 % 256 = (n : Int) % 256 := by omega
  have hbk := two_back w n h
  go_enter Tryz.func74, Tryz.ntmps74
  go_wp2
  go_ret
  exact ⟨rfl, rfl⟩

theorem two_at (n : Nat) (w : World) (h : n ≤ 1000) :
    Calls Tryz.prog 74 #[.int .i64 n] w fun e w' => ∃ (T : ByteArray) (o : Obj), e = .returned (.string T) ∧ T.toList = twoL n ∧ T.size = 2 ∧ w' = w.alloc o := by
  refine (two_any n w h).mono ?_
  rintro e w' ⟨rfl, hb⟩
  exact ⟨_, _, rfl, by rw [ByteArray.toList_eq], rfl, hb⟩

theorem bt_list (s : ByteArray) (i : Nat) (h : i < s.size) : s.toList[i]? = some (UInt8.ofNat (bt s i)) := by
  rw [toList_get s i h, ← bt_get s i h]; simp

theorem bt_inj {s t : ByteArray} {i : Nat} (hs : i < s.size) (ht : i < t.size) : s.toList[i]? = t.toList[i]? ↔ bt s i = bt t i := by
  rw [toList_get s i hs, toList_get t i ht, Option.some.injEq, ← bt_get s i hs, ← bt_get t i ht]
  exact ⟨fun h => by rw [h], fun h => UInt8.toNat_inj.1 h⟩

def Lcp (q p : ByteArray) (n : Nat) : Prop := n ≤ q.size ∧ n ≤ p.size ∧ ∀ j, j < n → bt q j = bt p j

theorem Lcp.isLcp {q p : ByteArray} {n : Nat} (h : Lcp q p n) (he : n = q.size ∨ n = p.size ∨ bt q n ≠ bt p n) : n = lcpL q.toList p.toList := by
  obtain ⟨h1, h2, h3⟩ := h
  apply IsLcp.eq
  refine ⟨by rw [toList_length]; exact h1, by rw [toList_length]; exact h2, fun j hj => (bt_inj (by omega) (by omega)).2 (h3 j hj), ?_⟩
  rw [toList_length, toList_length]
  rcases he with e | e | e
  · exact .inl e
  · exact .inr (.inl e)
  · by_cases hq : n = q.size
    · exact .inl hq
    · by_cases hp : n = p.size
      · exact .inr (.inl hp)
      · exact .inr (.inr fun e' => e ((bt_inj (by omega) (by omega)).1 e'))

def pairL (n m : Nat) : List UInt8 := [UInt8.ofNat n, UInt8.ofNat (m - n)]

theorem pair_cells (w : World) (n m : Nat) (hm : m ≤ 12) (hn : n ≤ m) (x y : Int) (hx : x = n) (hy : y = (m : Int) - n) : ∀ j (h : j < (pairL n m).length), (w.alloc (.cells #[.int .u8 x, .int .u8 y] 5)).cell? ((⟨w.heap.size, 0, none⟩ : Addr).add j) = some (.int .u8 ((pairL n m)[j].toNat : Int)) := by
  intro j hj
  have e : (⟨w.heap.size, 0, none⟩ : Addr).add j = ⟨w.heap.size, j, none⟩ := by simp [Addr.add]; try omega
  rw [e, World.cell?_alloc_at _ _ _ _ rfl]
  match j, hj with
  | 0, _ => simp [pairL]; omega
  | 1, _ => simp [pairL]; omega

theorem pair_back (w V : World) (n m : Nat) (hm : m ≤ 12) (hn : n ≤ m) (x y : Int) (hx : x = n) (hy : y = (m : Int) - n) (a : Nat) (ha : a = w.heap.size) (hV : ∀ j, V.cell? ⟨w.heap.size, j, none⟩ = (w.alloc (.cells #[.int .u8 x, .int .u8 y] 5)).cell? ⟨w.heap.size, j, none⟩) :
    (convert 108 9 (.slice (some ⟨a, 0, none⟩) 2 2)).run Tryz.prog V = .ok (.string ⟨(pairL n m).toArray⟩) V := by
  subst ha
  refine run_convert_bytes_back (P := Tryz.prog) _ 108 9 5 ⟨w.heap.size, 0, none⟩ 2 (pairL n m) Tryz.underlying108 Tryz.underlying5 Tryz.underlying9 (fun j hj => ?_)
  have := pair_cells w n m hm hn x y hx hy j hj
  have e : (⟨w.heap.size, 0, none⟩ : Addr).add j = ⟨w.heap.size, j, none⟩ := by simp [Addr.add]; try omega
  rw [e] at this ⊢
  rw [hV, this]

theorem wraps (n m : Nat) (hm : m ≤ 12) (hn : n ≤ m) : IntKind.u8.wrap n = n ∧ IntKind.u8.wrap (IntKind.i64.wrap ((m : Int) - n)) = (m : Int) - n := by
  rw [IntKind.wrap_u8, IntKind.wrap_i64, IntKind.wrap_u8]
  omega

theorem pair_text (n m : Nat) (hm : m ≤ 12) (hn : n ≤ m) : ∃ T : ByteArray, T.toList = pairL n m ∧ T.size = 2 ∧ ∀ (x y : Int) (_ : x = n) (_ : y = (m : Int) - n),
    (∀ w : World, (convert 108 9 (.slice (some ⟨w.heap.size, 0, none⟩) 2 2)).run Tryz.prog (w.alloc (.cells #[.int .u8 x, .int .u8 y] 5)).drew = .ok (.string T) (w.alloc (.cells #[.int .u8 x, .int .u8 y] 5)).drew) ∧
    (∀ (w : World) (o : Obj), (convert 108 9 (.slice (some ⟨w.heap.size, 0, none⟩) 2 2)).run Tryz.prog ((w.alloc (.cells #[.int .u8 x, .int .u8 y] 5)).alloc o).drew = .ok (.string T) ((w.alloc (.cells #[.int .u8 x, .int .u8 y] 5)).alloc o).drew) ∧
    (∀ (w : World) (o : Obj), (convert 108 9 (.slice (some ⟨w.heap.size + 1, 0, none⟩) 2 2)).run Tryz.prog ((w.alloc o).alloc (.cells #[.int .u8 x, .int .u8 y] 5)).drew = .ok (.string T) ((w.alloc o).alloc (.cells #[.int .u8 x, .int .u8 y] 5)).drew) :=
  ⟨⟨(pairL n m).toArray⟩, by rw [ByteArray.toList_eq], rfl, fun x y hx hy => ⟨fun w => pair_back w _ n m hm hn x y hx hy _ rfl fun _ => rfl,
    fun w o => pair_back w _ n m hm hn x y hx hy _ rfl fun j => by
      show ((w.alloc (.cells #[.int .u8 x, .int .u8 y] 5)).alloc o).cell? ⟨w.heap.size, j, none⟩ = _
      exact World.cell?_alloc_past _ _ _ (by simp),
    fun w o => pair_back (w.alloc o) _ n m hm hn x y hx hy _ (by simp) fun _ => rfl⟩⟩

theorem Lcp.step {q p : ByteArray} {n : Nat} (h : Lcp q p n) (h1 : n < q.size) (h2 : n < p.size) (h3 : bt q n = bt p n) : Lcp q p (n + 1) :=
  ⟨h1, h2, fun j hj => by
    rcases Nat.lt_succ_iff_lt_or_eq.1 hj with h' | rfl
    · exact h.2.2 j h'
    · exact h3⟩

theorem BookAt.wslice {w : World} {B : Nat} {D : Dic} {Wv Cv : Value} (h : BookAt w B D Wv Cv) : ∃ p c, Wv = .slice p D.length c := by
  by_cases hD : D = []
  · obtain ⟨e, _⟩ := h.nl hD; subst hD; exact ⟨_, _, e⟩
  · obtain ⟨g, c, e, _⟩ := row_shape h.ow (fun e => hD (List.eq_nil_of_length_eq_zero e)); exact ⟨_, _, e⟩

theorem BookAt.cslice {w : World} {B : Nat} {D : Dic} {Wv Cv : Value} (h : BookAt w B D Wv Cv) : ∃ p c, Cv = .slice p D.length c := by
  by_cases hD : D = []
  · obtain ⟨_, e⟩ := h.nl hD; subst hD; exact ⟨_, _, e⟩
  · obtain ⟨g, c, e, _⟩ := row_shape h.oc (fun e => hD (List.eq_nil_of_length_eq_zero e)); exact ⟨_, _, e⟩

theorem one_text (u : UInt8) : ∃ T : ByteArray, T.toList = [u] ∧ T.size = 1 ∧ ∀ w : World,
    (convert 108 9 (.slice (some ⟨w.heap.size, 0, none⟩) 1 1)).run Tryz.prog (w.alloc (.cells #[.int .u8 u.toNat] 5)) = .ok (.string T) (w.alloc (.cells #[.int .u8 u.toNat] 5)) :=
  ⟨⟨[u].toArray⟩, by rw [ByteArray.toList_eq], rfl, fun w => bytes_lit w [u] _ 1 _ (fun j hj => by match j, hj with | 0, _ => simp) 1 rfl rfl⟩

theorem sum_step (S : ByteArray) (k : Nat) (h : k < S.size) : ((sumL (S.toList.take (k + 1))).toNat : Int) = ((sumL (S.toList.take k)).toNat - (bt S k : Int)) % 256 := by
  have hl : k < S.toList.length := by rw [toList_length]; exact h
  have e : S.toList[k] = S[k] := by have := toList_get S k h; rw [List.getElem?_eq_getElem hl] at this; exact Option.some.inj this
  rw [List.take_add_one, List.getElem?_eq_getElem hl, e]
  simp only [sumL, Option.toList, List.foldl_append, List.foldl_cons, List.foldl_nil]
  rw [UInt8.toNat_sub, bt_get S k h]
  have := UInt8.toNat_lt (List.foldl (fun s b => s - b) 0 (List.take k S.toList))
  have := bt_lt S k
  omega

def LcpAt (D : Dic) (i : Nat) (p : ByteArray) (n : Nat) : Prop := match i with
  | 0 => n = 0
  | j + 1 => ∃ h : j < D.length, Lcp D[j].1 p n

theorem LcpAt.zero (D : Dic) (i : Nat) (p : ByteArray) (h : i ≤ D.length) : LcpAt D i p 0 := by
  cases i with
  | zero => rfl
  | succ j => exact ⟨h, Nat.zero_le _, Nat.zero_le _, fun _ h => by omega⟩

theorem enc_step {D : Dic} {i n : Nat} {S T1 T : ByteArray} {p : ByteArray × Nat} (h : i < D.length) (hS : S.toList = encTo D i) (h1 : T1.toList = pairL n p.1.size) (h2 : T.toList = twoL p.2) (hn : n = lcpL (prevW D i) p.1.toList) (hp : p = D[i]) :
    (S ++ T1 ++ p.1.extract n p.1.size ++ T).toList = encTo D (i + 1) := by
  have e : D.getD i (ByteArray.empty, 0) = p := by rw [hp, List.getD_eq_getElem?_getD, List.getElem?_eq_getElem h]; rfl
  rw [toList_append, toList_append, toList_append, hS, h1, h2]
  simp only [encTo, e, encE, ← hn]
  rw [ByteArray.toList_eq (p.1.extract _ _), ByteArray.toList_eq p.1]
  simp [pairL, ByteArray.data_extract, List.append_assoc, List.take_of_length_le]

set_option maxHeartbeats 4000000 in
set_option maxRecDepth 100000 in
theorem image_any (w : World) (B : Nat) (Wv Cv : Value) (D : Dic) (hB : BookAt w B D Wv Cv) (hD : D.length ≤ 150) (hw : ∀ p ∈ D, p.1.size ≤ 12 ∧ p.2 ≤ 1000) :
    Calls Tryz.prog 42 #[.pointer (some ⟨B, 0, none⟩)] w fun e w' => ∃ S : ByteArray, e = .returned (.string S) ∧ S.toList = imageL D ∧ Below w.heap.size w w' := by
  obtain ⟨pw, capw, rfl⟩ := hB.wslice
  obtain ⟨pc, capc, rfl⟩ := hB.cslice
  have HB : Hid (BookAt w B D (.slice pw D.length capw) (.slice pc D.length capc)) := hB
  have hb0 := hB.c0
  have HW : Hid (∀ p ∈ D, p.1.size ≤ 12 ∧ p.2 ≤ 1000) := hw
  clear hB hw
  go_enter Tryz.func42, Tryz.ntmps42
  go_wp2_with fail
  refine (two_at D.length _ (by omega)).mono ?_
  rintro e w1 ⟨T0, o0, rfl, hT0, hT0s, rfl⟩
  have hlit : (ByteArray.mk #[87, 67]).size = 2 := rfl
  have HT0 : Hid ((ByteArray.mk #[87, 67] ++ T0).toList = encTo D 0) := by show _ = _; rw [toList_append, hT0, ByteArray.toList_eq]; rfl
  clear hb0 hT0
  go_wp2_with fail
  go_loopg [3, 4] D.length (fun g sv iv wr => ∃ (i : Nat) (S : ByteArray), i ≤ D.length ∧ g = D.length - i ∧ iv = .int .i64 i ∧ sv = .string S ∧ S.toList = encTo D i ∧ S.size ≤ 4 + i * 16 ∧ Below w.heap.size w wr)
  case atStart => exact ⟨0, _, by omega, rfl, rfl, rfl, HT0.out, by simp [ByteArray.size_append]; omega, (Below.refl _ _).alloc (Nat.le_refl _) _⟩
  case round =>
    obtain ⟨i, S, hi, rfl, rfl, rfl, hS, hSz, hbel⟩ := hrel
    obtain ⟨w0, rfl⟩ : ∃ w0, w0 = wr := ⟨_, rfl⟩
    have hB1 : BookAt w0 B D (.slice pw D.length capw) (.slice pc D.length capc) := HB.out.kept (Kept.of_below hbel (fun _ => False)) id (fun _ _ e => e) (fun _ _ e => e)
    have HS : Hid (S.toList = encTo D i) := hS
    have hb0 := hB1.c0
    have hb1' := hB1.c1
    clear hS
    by_cases hlt : i < D.length
    · have hDn : D.length ≠ 0 := by omega
      obtain ⟨gw, capw', hgw, hgw1, hgw2, hgw3, hgw4⟩ := row_shape hB1.ow hDn
      obtain ⟨gc, capc', hgc, hgc1, hgc2, hgc3, hgc4⟩ := row_shape hB1.oc hDn
      cases hgw
      cases hgc
      have hw0 := own_str hB1.ow (by simp) (k := i) (by simpa using hlt)
      have hc0 := own_int hB1.oc (by simp) (k := i) (by simpa using hlt)
      simp only [List.getElem_map] at hw0 hc0
      obtain ⟨p, hp⟩ : ∃ p, p = D[i] := ⟨_, rfl⟩
      have hpw := HW.out D[i] (List.getElem_mem hlt)
      rw [← hp] at hw0 hc0 hpw
      obtain ⟨hps, hpc⟩ := hpw
      have HP : Hid (p = D[i]) := hp
      clear hp
      go_upto_block 2 with fail
      go_cut [6] (fun nv wx => Same w0 wx ∧ ∃ n : Nat, nv = .int .i64 n ∧ n ≤ p.1.size ∧ n = lcpL (prevW D i) p.1.toList)
      case first =>
        go_wp2_with fail
        go_loopg [6] p.1.size (fun g nv wx => Same w0 wx ∧ ∃ n : Nat, nv = .int .i64 n ∧ n ≤ p.1.size ∧ g = p.1.size - n ∧ LcpAt D i p.1 n)
        case atStart => exact ⟨Same.refl _, 0, rfl, Nat.zero_le _, rfl, LcpAt.zero _ _ _ hi⟩
        case round =>
          obtain ⟨hsame, n, rfl, hn, rfl, hlc⟩ := hrel
          obtain ⟨w1, rfl⟩ : ∃ w1, w1 = wr := ⟨_, rfl⟩
          have HLC : Hid (LcpAt D i p.1 n) := hlc
          have hB2 := hsame.book hB1
          have hx0 := hB2.c0
          clear hlc
          cases i with
          | zero =>
            have hz : n = 0 := HLC.out
            subst hz
            go_wp2_with fail
            go_quiet (fail)
            go_wp2_with fail
            go_meet
            exact ⟨Kept.drewN hsame _, 0, rfl, hn, by simp [prevW, lcpL]⟩
          | succ j =>
            have hj : j < D.length := by omega
            have hq0 := own_str hB2.ow (by simp) (k := j) (by simpa using hj)
            simp only [List.getElem_map] at hq0
            obtain ⟨q, hq⟩ : ∃ q, q = D[j].1 := ⟨_, rfl⟩
            rw [← hq] at hq0
            have HQ : Hid (prevW D (j + 1) = q.toList) := by show _ = _; rw [hq]; simp [prevW, List.getD_eq_getElem?_getD, List.getElem?_eq_getElem hj]
            have HLQ : Hid (Lcp q p.1 n) := by obtain ⟨h, h'⟩ := HLC.out; show Lcp q p.1 n; rw [hq]; exact h'
            have hji : ((j : Int) + 1) - 1 = j := by omega
            have hjl : (j : Int) < (D.length : Int) := by omega
            have HJ : Hid (q = D[j].1) := hq
            clear hq hB2
            by_cases h1 : n < p.1.size
            · by_cases h2 : n < q.size
              · have hbp := bt_get p.1 n h1
                have hbq := bt_get q n h2
                by_cases h3 : bt p.1 n = bt q n
                · go_wp2_with fail
                  go_quiet (fail)
                  go_wp2_with fail
                  go_roundg (p.1.size - (n + 1))
                  case measure => omega
                  case rel => exact ⟨Kept.drewN hsame _, n + 1, by go_num, by omega, rfl, hj, by rw [← HJ.out]; exact HLQ.out.step h2 h1 h3.symm⟩
                · have h3' : ¬ ((bt p.1 n : Int) = (bt q n : Int)) := by omega
                  go_wp2_with fail
                  go_quiet (fail)
                  go_wp2_with fail
                  go_meet
                  exact ⟨Kept.drewN hsame _, n, rfl, hn, by rw [HQ.out]; exact HLQ.out.isLcp (.inr (.inr fun e => h3 e.symm))⟩
              · go_wp2_with fail
                go_quiet (fail)
                go_wp2_with fail
                go_meet
                exact ⟨Kept.drewN hsame _, n, rfl, hn, by rw [HQ.out]; exact HLQ.out.isLcp (.inl (by have := HLQ.out.1; omega))⟩
            · go_wp2_with fail
              go_quiet (fail)
              go_wp2_with fail
              go_meet
              exact ⟨Kept.drewN hsame _, n, rfl, hn, by rw [HQ.out]; exact HLQ.out.isLcp (.inr (.inl (by omega)))⟩
      case rest =>
        obtain ⟨hsame, n, rfl, hn, hnl⟩ := hcut
        obtain ⟨W, rfl⟩ : ∃ W, W = wc := ⟨_, rfl⟩
        have HN : Hid (n = lcpL (prevW D i) p.1.toList) := hnl
        have hB2 := hsame.book hB1
        have HB2 : Hid (BookAt W B D (.slice (some ⟨gw, 0, none⟩) D.length capw) (.slice (some ⟨gc, 0, none⟩) D.length capc)) := hB2
        have hy1 := hB2.c1
        have hy2 := hsame.cell hc0
        obtain ⟨T1, hT1, hT1s, hbk⟩ := pair_text n p.1.size hps hn
        have HT1 : Hid (T1.toList = pairL n p.1.size) := hT1
        have hwr := wraps n p.1.size hps hn
        obtain ⟨hbk0, hbk2, hbk3⟩ := hbk (IntKind.u8.wrap n) (IntKind.u8.wrap (IntKind.i64.wrap ((p.1.size : Int) - n))) hwr.1 hwr.2
        have hbW : B < W.heap.size := cell_lt hy1
        have hgW : gc < W.heap.size := cell_lt hy2
        have hl1 : ¬ 9223372036854775807 < S.size + 2 := by omega
        have hl2 : ¬ 9223372036854775807 < S.size + 2 + (p.1.size - n) := by omega
        have hl3 : ¬ 9223372036854775807 < S.size + 2 + (p.1.size - n) + 2 := by omega
        clear hbk hwr hT1 hnl hB2 hb0 hb1' hw0 hc0 hB1
        go_wp2_with fail
        go_region_with (go_at_call 74; refine (two_at p.2 _ hpc).mono ?_; rintro e w2 ⟨T, o, rfl, hT, hTs, rfl⟩)
        all_goals
          have HT : Hid (T.toList = twoL p.2) := hT
          clear hT hbk0 hbk2 hbk3 hl1 hl2 hl3
          go_wp2_with fail
          go_roundg (D.length - (i + 1))
          case measure => omega
          case rel =>
            refine ⟨i + 1, _, by omega, rfl, by go_num, rfl, enc_step hlt HS.out HT1.out HT.out HN.out HP.out, by simp [ByteArray.size_append]; omega, ?_⟩
            first
              | exact (((hsame.below hbel hbel.size).alloc (by have := hbel.size; have := hsame.size; omega) _).alloc (by have := hbel.size; have := hsame.size; simp; omega) _).drew
    · obtain rfl : i = D.length := by omega
      have HBL : Hid (Below w.heap.size w w0) := hbel
      clear hB1 hb1' hbel
      go_wp2_with fail
      go_loopg [7, 8] S.size (fun g uv kv wr => ∃ k : Nat, k ≤ S.size ∧ g = S.size - k ∧ kv = .int .i64 k ∧ uv = .int .u8 (sumL (S.toList.take k)).toNat ∧ wr = w0)
      case atStart => exact ⟨0, Nat.zero_le _, rfl, rfl, rfl, rfl⟩
      case round =>
        obtain ⟨k, hk, rfl, rfl, rfl, rfl⟩ := hrel
        by_cases hks : k < S.size
        · have hbt := bt_get S k hks
          have HS2 : Hid (((sumL (S.toList.take (k + 1))).toNat : Int) = ((sumL (S.toList.take k)).toNat - (bt S k : Int)) % 256) := sum_step S k hks
          obtain ⟨u, hu⟩ : ∃ u : UInt8, u = sumL (S.toList.take k) := ⟨_, rfl⟩
          have HU : Hid (u = sumL (S.toList.take k)) := hu
          rw [← hu]
          clear hu
          go_wp2_with fail
          go_roundg (S.size - (k + 1))
          case measure => omega
          case rel =>
            refine ⟨k + 1, by omega, rfl, by go_num, ?_, rfl⟩
            rw [HS2.out, ← HU.out]
        · obtain rfl : k = S.size := by omega
          have hus : sumL (S.toList.take S.size) = sumL S.toList := by rw [← toList_length, List.take_length]
          rw [hus]
          obtain ⟨u, hu⟩ : ∃ u : UInt8, u = sumL S.toList := ⟨_, rfl⟩
          have HU : Hid (u = sumL S.toList) := hu
          rw [← hu]
          obtain ⟨T2, hT2, hT2s, hbk⟩ := one_text u
          have hl1 : ¬ 9223372036854775807 < S.size + 1 := by omega
          have HT2 : Hid (T2.toList = [u]) := hT2
          clear hu hus hT2
          go_wp2_with fail
          go_ret
          exact ⟨_, rfl, by rw [toList_append, HS.out, HT2.out, HU.out, HS.out]; rfl, HBL.out.alloc HBL.out.size _⟩

end Go.Proofs.YtlfpepehngkehaaGreat
