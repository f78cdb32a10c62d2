/-
  Plain mathematics: the keep statements' lists are lists, and hold what their table holds.
-/
import Derived.Test.YtlfpepehngkehabDoorKeepE
import Derived.Test.YtlfpepehngkehabDoorMaths
namespace Go.Proofs.YtlfpepehngkehabDoor
set_option linter.unusedSimpArgs false
set_option linter.unusedVariables false

theorem bt_append (a b : ByteArray) (i : Nat) : bt (a ++ b) i = if i < a.size then bt a i else bt b (i - a.size) := by
  have ha : a.data.toList.length = a.size := by rw [Array.length_toList]; rfl
  unfold bt
  rw [ByteArray.data_append, Array.toList_append]
  simp only [List.getD_eq_getElem?_getD]
  split
  · rw [List.getElem?_append_left (by omega)]
  · rw [List.getElem?_append_right (by omega), ha]

theorem bt_left {a b : ByteArray} {i : Nat} (h : i < a.size) : bt (a ++ b) i = bt a i := by rw [bt_append, if_pos h]
theorem bt_right {a b : ByteArray} (i : Nat) : bt (a ++ b) (a.size + i) = bt b i := by rw [bt_append, if_neg (by omega), Nat.add_sub_cancel_left]

theorem ba_assoc (a b c : ByteArray) : a ++ b ++ c = a ++ (b ++ c) := ByteArray.append_assoc

/-! digits -/
theorem decDigits_dig : ∀ (n : Nat), ∀ b ∈ Lib.decDigits n, 48 ≤ b.toNat ∧ b.toNat ≤ 57 := by
  intro n
  induction n using Nat.strongRecOn with
  | _ n ih =>
    intro b hb
    rw [Lib.decDigits] at hb
    split at hb
    · rw [List.mem_singleton] at hb; rw [hb, u8_of (by omega)]; omega
    · rcases List.mem_append.1 hb with hb | hb
      · exact ih (n / 10) (by omega) b hb
      · rw [List.mem_singleton] at hb; rw [hb, u8_of (by omega)]; omega

theorem decDigits_pos (n : Nat) : 1 ≤ (Lib.decDigits n).length := by
  rw [Lib.decDigits]
  split
  · simp
  · simp

theorem num_dec : ∀ (n : Nat) (s : ByteArray) (k : Nat), (∀ j (h : j < (Lib.decDigits n).length), bt s (k + j) = ((Lib.decDigits n)[j]).toNat) → num s k (Lib.decDigits n).length = n := by
  intro n
  induction n using Nat.strongRecOn with
  | _ n ih =>
    intro s k h
    by_cases h10 : n < 10
    · have e : Lib.decDigits n = [UInt8.ofNat (48 + n)] := by rw [Lib.decDigits, dif_pos h10]
      have h0 := h 0 (by rw [e]; simp)
      simp only [e, List.getElem_cons_zero] at h0
      rw [u8_of (by omega)] at h0
      rw [e]
      simp only [List.length_cons, List.length_nil, num]
      simp only [Nat.add_zero] at h0 ⊢
      omega
    · have e : Lib.decDigits n = Lib.decDigits (n / 10) ++ [UInt8.ofNat (48 + n % 10)] := by rw [Lib.decDigits, dif_neg h10]
      have h1 := ih (n / 10) (by omega) s k (fun j hj => by
        have := h j (by rw [e, List.length_append]; omega)
        rw [this]
        simp only [e]
        rw [List.getElem_append_left hj])
      have h2 := h (Lib.decDigits (n / 10)).length (by rw [e, List.length_append]; simp)
      simp only [e] at h2
      rw [List.getElem_append_right (by omega)] at h2
      simp only [Nat.sub_self, List.getElem_cons_zero] at h2
      rw [u8_of (by omega)] at h2
      rw [e, List.length_append]
      simp only [List.length_cons, List.length_nil, num]
      rw [h1, h2]
      omega

theorem numB_bt (n j : Nat) (h : j < (Lib.decDigits n).length) : bt (numB n) j = ((Lib.decDigits n)[j]).toNat := by
  unfold bt numB
  rw [List.getD_eq_getElem?_getD]
  show ((Lib.decDigits n)[j]?.getD 0).toNat = _
  rw [List.getElem?_eq_getElem h]
  rfl

theorem numB_len (n : Nat) : (numB n).size = (Lib.decDigits n).length := by simp [numB, ByteArray.size]

/-! an entry -/
def entAt (c d : Int) (k : Nat) : Ent := if entOut d then ⟨wordOf c, false, 0, 0⟩ else ⟨wordOf c, true, entN d, k + (wordOf c).size + 1⟩

theorem wordAt_of {s x : ByteArray} {k : Nat} (hx : IsWord x) (h : ∀ j, j < x.size → bt s (k + j) = bt x j) (hl : k + x.size < s.size) (he : srt (bt s (k + x.size)) = 0) : WordAt s k x.size := by
  obtain ⟨h1, h2, _, h4, h5⟩ := hx
  have e0 : bt s k = bt x 0 := by have := h 0 (by omega); simpa using this
  refine .inr ⟨h1, h2, by omega, by rw [e0]; exact h4, fun j a b => ?_, .inr (.inr ?_)⟩
  · obtain ⟨i, rfl⟩ : ∃ i, j = k + i := ⟨j - k, by omega⟩
    rw [e0, h i (by omega)]
    exact h5 i (by omega) (by omega)
  · rw [he, e0]
    rcases h4 with h4 | h4 <;> omega

theorem extract_of {s x : ByteArray} {k : Nat} (h : ∀ j, j < x.size → bt s (k + j) = bt x j) (hl : k + x.size ≤ s.size) : x = s.extract k (k + x.size) := by
  apply ByteArray.ext_getElem
  · simp; omega
  · intro i h1 h2
    apply UInt8.toNat_inj.1
    rw [bt_get _ _ h1, bt_get _ _ h2, bt_extract _ _ _ _ (by omega) hl, h i h1]

theorem good_ent {s : ByteArray} {k : Nat} (c d : Int) (h : ∀ j, j < (entText c d).size → bt s (k + j) = bt (entText c d) j) (hl : k + (entText c d).size ≤ s.size) (he : k + (entText c d).size = s.size ∨ bt s (k + (entText c d).size) = 44) :
    GoodEntry s k (entAt c d k) (k + (entText c d).size) := by
  have hw : IsWord (wordOf c) := wordV_is _
  have b1 : bang.size = 1 := rfl
  have b2 : equs.size = 1 := rfl
  by_cases ho : entOut d
  · have et : entText c d = wordOf c ++ bang := by unfold entText; rw [if_pos ho]
    have ea : entAt c d k = ⟨wordOf c, false, 0, 0⟩ := by unfold entAt; rw [if_pos ho]
    rw [et] at h hl he ⊢
    rw [ByteArray.size_append, b1] at h hl he ⊢
    have hb : bt s (k + (wordOf c).size) = 33 := by
      have := h (wordOf c).size (by omega)
      rw [this]
      have := bt_right (a := wordOf c) (b := bang) 0
      rw [Nat.add_zero] at this
      rw [this]; rfl
    have hx : ∀ j, j < (wordOf c).size → bt s (k + j) = bt (wordOf c) j := fun j hj => by rw [h j (by omega), bt_left hj]
    rw [ea]
    exact ⟨(wordOf c).size, wordAt_of hw hx (by omega) (by rw [hb]; rfl), hw.1, by omega, extract_of (x := wordOf c) hx (by omega), .inl ⟨hb, rfl, rfl, rfl, by omega⟩⟩
  · have et : entText c d = wordOf c ++ equs ++ numB (entN d) := by unfold entText; rw [if_neg ho]
    have ea : entAt c d k = ⟨wordOf c, true, entN d, k + (wordOf c).size + 1⟩ := by unfold entAt; rw [if_neg ho]
    rw [et] at h hl he ⊢
    have hse : (wordOf c ++ equs).size = (wordOf c).size + 1 := by rw [ByteArray.size_append, b2]
    rw [ByteArray.size_append, hse] at h hl he ⊢
    have hnl := numB_len (entN d)
    have hd4 := decDigits_len (n := entN d) (by have := entN_le d; omega)
    have hd1 := decDigits_pos (entN d)
    have hx : ∀ j, j < (wordOf c).size → bt s (k + j) = bt (wordOf c) j := fun j hj => by rw [h j (by omega), bt_left (by omega), bt_left hj]
    have hb : bt s (k + (wordOf c).size) = 61 := by
      rw [h (wordOf c).size (by omega), bt_left (by omega)]
      have := bt_right (a := wordOf c) (b := equs) 0
      rw [Nat.add_zero] at this
      rw [this]; rfl
    have hdg : ∀ j (hj : j < (Lib.decDigits (entN d)).length), bt s (k + (wordOf c).size + 1 + j) = ((Lib.decDigits (entN d))[j]).toNat := fun j hj => by
      have h1 := h ((wordOf c).size + 1 + j) (by omega)
      have h2 := bt_right (a := wordOf c ++ equs) (b := numB (entN d)) j
      rw [hse] at h2
      rw [h2] at h1
      rw [← numB_bt _ _ hj, ← h1]
      congr 1
      omega
    have hd3 : ∀ j, k + (wordOf c).size + 1 ≤ j → j < k + (wordOf c).size + 1 + (Lib.decDigits (entN d)).length → srt (bt s j) = 3 := fun j a b => by
      obtain ⟨i, rfl⟩ : ∃ i, j = k + (wordOf c).size + 1 + i := ⟨j - (k + (wordOf c).size + 1), by omega⟩
      rw [hdg i (by omega), srt_3]
      exact decDigits_dig _ _ (List.getElem_mem _)
    rw [ea]
    refine ⟨(wordOf c).size, wordAt_of hw hx (by omega) (by rw [hb]; rfl), hw.1, by omega, extract_of (x := wordOf c) hx (by omega), .inr ⟨hb, (Lib.decDigits (entN d)).length, hd1, ⟨hd4, by omega, hd3, ?_⟩, rfl, (num_dec _ _ _ hdg).symm, rfl, by omega⟩⟩
    rcases he with he | he
    · exact .inl (by omega)
    · right; right
      rw [show k + (wordOf c).size + 1 + (Lib.decDigits (entN d)).length = k + ((wordOf c).size + 1 + (numB (entN d)).size) by omega, he]
      decide

/-! lists -/
theorem good_of_rest {s : ByteArray} : ∀ {E : List Ent} {q : Nat}, Rest s q E → ∃ E' x r, E = E' ++ [x] ∧ Chain s q E' r ∧ GoodEntry s r x s.size
  | [], _, h => h.elim
  | x :: E, q, h => by
    obtain ⟨p, h1, h2⟩ := h
    rcases h2 with ⟨rfl, rfl⟩ | ⟨_, h3, h4, h5⟩
    · exact ⟨[], x, q, rfl, rfl, h1⟩
    · obtain ⟨E', y, r, rfl, h6, h7⟩ := good_of_rest h5
      exact ⟨x :: E', y, r, rfl, ⟨p, h1, h3, h4, h6⟩, h7⟩

def joinR : List ByteArray → ByteArray
  | [] => ByteArray.empty
  | [x] => x
  | x :: y :: L => x ++ (comm ++ joinR (y :: L))

theorem joinR_snoc (x : ByteArray) : ∀ L : List ByteArray, L ≠ [] → joinR (L ++ [x]) = joinR L ++ comm ++ x
  | [], h => absurd rfl h
  | [y], _ => by simp only [List.cons_append, List.nil_append, joinR]; rw [ba_assoc]
  | y :: z :: L, _ => by
    have := joinR_snoc x (z :: L) (by simp)
    simp only [List.cons_append] at this
    simp only [List.cons_append, joinR]
    rw [this]
    simp only [ba_assoc]

theorem joinTo_eq (L : List ByteArray) : ∀ i, i ≤ L.length → joinTo L i = joinR (L.take i)
  | 0, _ => by simp [joinTo, joinR]
  | i + 1, h => by
    have hlt : i < L.length := by omega
    have ih := joinTo_eq L i (by omega)
    have et : L.take (i + 1) = L.take i ++ [L[i]] := by rw [List.take_add_one, List.getElem?_eq_getElem hlt]; rfl
    simp only [joinTo]
    rw [List.getD_eq_getElem?_getD, List.getElem?_eq_getElem hlt, Option.getD_some, et]
    by_cases h0 : i = 0
    · subst h0
      simp [joinTo, joinR]
    · have h1 : (L.take i).length = i := by rw [List.length_take]; omega
      have hne : L.take i ≠ [] := fun e => h0 (by rw [e] at h1; exact h1.symm)
      rw [if_neg h0, ih, joinR_snoc _ _ hne]

def entsFrom : List (Int × Int) → Nat → List Ent
  | [], _ => []
  | p :: P, k => entAt p.1 p.2 k :: entsFrom P (k + (entText p.1 p.2).size + 1)

def txtOf (p : Int × Int) : ByteArray := entText p.1 p.2

theorem rest_join : ∀ (P : List (Int × Int)), P ≠ [] → ∀ (A s : ByteArray), s = A ++ joinR (P.map txtOf) → Rest s A.size (entsFrom P A.size)
  | [], h, _, _, _ => absurd rfl h
  | [p], _, A, s, hs => by
    have hs : s = A ++ entText p.1 p.2 := hs
    have hz : s.size = A.size + (entText p.1 p.2).size := by rw [hs, ByteArray.size_append]
    refine ⟨A.size + (entText p.1 p.2).size, good_ent p.1 p.2 (fun j hj => by rw [hs, bt_right]) (by omega) (.inl (by omega)), .inl ⟨rfl, by omega⟩⟩
  | p :: q :: P, _, A, s, hs => by
    have hs : s = A ++ (entText p.1 p.2 ++ (comm ++ joinR ((q :: P).map txtOf))) := hs
    have c1 : comm.size = 1 := rfl
    have hs2 : s = (A ++ entText p.1 p.2 ++ comm) ++ joinR ((q :: P).map txtOf) := by rw [hs]; simp only [ba_assoc]
    have hA : (A ++ entText p.1 p.2 ++ comm).size = A.size + (entText p.1 p.2).size + 1 := by rw [ByteArray.size_append, ByteArray.size_append, c1]
    have hz : A.size + (entText p.1 p.2).size + 1 ≤ s.size := by rw [hs2, ByteArray.size_append, hA]; omega
    have ih := rest_join (q :: P) (by simp) (A ++ entText p.1 p.2 ++ comm) s hs2
    rw [hA] at ih
    have hc : bt s (A.size + (entText p.1 p.2).size) = 44 := by
      rw [hs2, bt_left (by omega)]
      have := bt_right (a := A ++ entText p.1 p.2) (b := comm) 0
      rw [Nat.add_zero, ByteArray.size_append] at this
      rw [this]; rfl
    refine ⟨A.size + (entText p.1 p.2).size, good_ent p.1 p.2 (fun j hj => by rw [hs, bt_right, bt_left hj]) (by omega) (.inr hc), .inr ⟨by simp [entsFrom], by omega, hc, ih⟩⟩

theorem entsFrom_length : ∀ (P : List (Int × Int)) (k : Nat), (entsFrom P k).length = P.length
  | [], _ => rfl
  | p :: P, k => by simp [entsFrom, entsFrom_length P]

theorem entsFrom_cost : ∀ (P : List (Int × Int)) (k : Nat), ∀ x ∈ entsFrom P k, x.cost ≤ 1000
  | [], _, x, h => by simp [entsFrom] at h
  | p :: P, k, x, h => by
    rcases List.mem_cons.1 h with rfl | h
    · unfold entAt
      split
      · simp
      · exact entN_le _
    · exact entsFrom_cost P _ x h

theorem entText_pos (c d : Int) : 1 ≤ (entText c d).size := by
  have hw : IsWord (wordOf c) := wordV_is _
  have := hw.1
  unfold entText
  split
  · rw [ByteArray.size_append]; omega
  · rw [ByteArray.size_append, ByteArray.size_append]; omega

theorem joinR_len : ∀ (P : List (Int × Int)), P.length ≤ (joinR (P.map txtOf)).size
  | [] => by simp
  | [p] => by simp [joinR]; exact entText_pos p.1 p.2
  | p :: q :: P => by
    have h1 := joinR_len (q :: P)
    have h2 := entText_pos p.1 p.2
    have e : joinR ((p :: q :: P).map txtOf) = txtOf p ++ (comm ++ joinR ((q :: P).map txtOf)) := rfl
    have h3 : (txtOf p).size = (entText p.1 p.2).size := rfl
    rw [e, ByteArray.size_append, ByteArray.size_append]
    simp only [List.length_cons] at h1 ⊢
    omega

/-- a joined list is one that Build takes. -/
theorem okList_join (P : List (Int × Int)) (hz : (joinR (P.map txtOf)).size ≤ 2000) : OkList (joinR (P.map txtOf)) (entsFrom P 0) := by
  refine ⟨hz, ?_, fun j hj => entsFrom_cost P 0 _ (List.getElem_mem hj), by rw [entsFrom_length]; exact joinR_len P⟩
  cases P with
  | nil => exact .inl ⟨rfl, rfl⟩
  | cons p P =>
    have h := rest_join (p :: P) (by simp) ByteArray.empty (joinR ((p :: P).map txtOf)) (by simp)
    exact .inr (good_of_rest h)

/-! the table -/
def plain (x : Ent) : ByteArray × Bool × Nat := (x.word, x.inn, x.cost)

theorem eff_plain : ∀ {E E' : List Ent}, E.map plain = E'.map plain → ∀ (w : ByteArray) (o : Option Nat), E.foldl (fun o x => stepE x w o) o = E'.foldl (fun o x => stepE x w o) o
  | [], [], _, _, _ => rfl
  | [], _ :: _, h, _, _ => by simp at h
  | _ :: _, [], h, _, _ => by simp at h
  | x :: E, y :: E', h, w, o => by
    simp only [List.map_cons, List.cons.injEq, plain, Prod.mk.injEq] at h
    obtain ⟨⟨h1, h2, h3⟩, h4⟩ := h
    have e : stepE x w o = stepE y w o := by unfold stepE; rw [h1, h2, h3]
    simp only [List.foldl_cons]
    rw [e]
    exact eff_plain h4 w _

theorem eff_eq {E E' : List Ent} (h : E.map plain = E'.map plain) (w : ByteArray) : eff E w = eff E' w := eff_plain h w none

theorem entsFrom_plain : ∀ (P : List (Int × Int)) (k k' : Nat), (entsFrom P k).map plain = (entsFrom P k').map plain
  | [], _, _ => rfl
  | p :: P, k, k' => by
    simp only [entsFrom, List.map_cons]
    rw [entsFrom_plain P _ (k' + (entText p.1 p.2).size + 1)]
    congr 1
    unfold entAt plain
    split <;> rfl

theorem entsFrom_append : ∀ (P Q : List (Int × Int)) (k : Nat), (entsFrom (P ++ Q) k).map plain = (entsFrom P k).map plain ++ (entsFrom Q 0).map plain
  | [], Q, k => by simp [entsFrom, entsFrom_plain Q k 0]
  | p :: P, Q, k => by simp only [List.cons_append, entsFrom, List.map_cons]; rw [entsFrom_append P Q]

def tabP : List (Int × Int) → Tab → Tab
  | [], T => T
  | p :: P, T => tabP P (tput T (wordOf p.1) (entCost p.2))

theorem tabRep_P : ∀ (P : List (Int × Int)) {T : Tab} {E : List Ent} (k : Nat), TabRep T E → TabRep (tabP P T) (E ++ entsFrom P k)
  | [], T, E, k, h => by simpa [tabP, entsFrom] using h
  | p :: P, T, E, k, h => by
    have h1 := h.put (x := entAt p.1 p.2 k)
    have e1 : (entAt p.1 p.2 k).word = wordOf p.1 := by unfold entAt; split <;> rfl
    have e2 : (if (entAt p.1 p.2 k).inn = true then ((entAt p.1 p.2 k).cost : Int) else -1) = entCost p.2 := by unfold entAt entCost; split <;> simp
    rw [e1, e2] at h1
    have h2 := tabRep_P P (k + (entText p.1 p.2).size + 1) h1
    simpa [tabP, entsFrom] using h2

end Go.Proofs.YtlfpepehngkehabDoor
