/-
  Plain mathematics: the program's reading of an image.
-/
import Derived.Test.YtlfpepehngkehaaMathT
import Derived.Test.YtlfpepehngkehaaMathE
namespace Go.Proofs.Ytlfpepehngkehaa
set_option linter.unusedSimpArgs false
set_option linter.unusedVariables false

/-- what is read of an entry that lies at k. -/
theorem image_entry {s : ByteArray} {D : Dic} (hD : Fits D) (hs : s.toList = imageL D) {i : Nat} (hlt : i < D.length) {last : ByteArray} (hl : last.toList = prevW D i) {k : Nat} (hk : k = (encTo D i).length) :
    k + 2 + bt s (k + 1) + 3 ≤ s.size ∧ bt s k ≤ last.size ∧ last.extract 0 (bt s k) ++ s.extract (k + 2) (k + 2 + bt s (k + 1)) = D[i].1 ∧
      bt s (k + 2 + bt s (k + 1)) + 256 * bt s (k + 2 + bt s (k + 1) + 1) = D[i].2 ∧ k + 2 + bt s (k + 1) + 2 = (encTo D (i + 1)).length ∧ D[i].1.toList = prevW D (i + 1) := by
  obtain ⟨hw, hc⟩ := hD D[i] (List.getElem_mem hlt)
  obtain ⟨R, hR⟩ := encTo_prefix D (i + 1) D.length hlt
  have hg : D.getD i (ByteArray.empty, 0) = D[i] := by rw [List.getD_eq_getElem?_getD, List.getElem?_eq_getElem hlt, Option.getD_some]
  have hen : encTo D (i + 1) = encTo D i ++ encE (prevW D i) D[i].1.toList D[i].2 := by simp only [encTo]; rw [hg]
  obtain ⟨m, hm⟩ : ∃ m, m = lcpL (prevW D i) D[i].1.toList := ⟨_, rfl⟩
  obtain ⟨hm1, hm2⟩ := lcpL_le (prevW D i) D[i].1.toList
  have htk := lcp_take (prevW D i) D[i].1.toList
  rw [← hm] at hm1 hm2 htk
  have hwl : D[i].1.toList.length = D[i].1.size := toList_length _
  have hee : encE (prevW D i) D[i].1.toList D[i].2 = UInt8.ofNat m :: UInt8.ofNat (D[i].1.size - m) :: (D[i].1.toList.drop m ++ twoL D[i].2) := by simp [encE, ← hm, hwl]
  obtain ⟨E, hE⟩ : ∃ E, E = encE (prevW D i) D[i].1.toList D[i].2 := ⟨_, rfl⟩
  rw [← hE] at hen hee
  have hEl : E.length = 4 + (D[i].1.size - m) := by rw [hee]; simp [twoL]; omega
  have hsl : s.toList = encTo D i ++ (E ++ (R ++ [sumL (encTo D D.length)])) := by rw [hs, imageL, hR, hen]; simp
  have hsz : s.size = (encTo D i).length + E.length + R.length + 1 := by rw [← toList_length, hsl]; simp; omega
  subst hk
  have e0 : bt s (encTo D i).length = m := by
    have := bt_mid hsl 0 (by omega)
    rw [Nat.add_zero] at this
    rw [this, hee]
    exact u8_of (by omega)
  have e1 : bt s ((encTo D i).length + 1) = D[i].1.size - m := by
    rw [bt_mid hsl 1 (by omega), hee]
    exact u8_of (by omega)
  have hdl : (D[i].1.toList.drop m).length = D[i].1.size - m := by rw [List.length_drop, hwl]
  have ex : (s.extract ((encTo D i).length + 2) ((encTo D i).length + 2 + (D[i].1.size - m))).toList = D[i].1.toList.drop m := by
    rw [toList_extract, hsl, List.drop_append, List.drop_of_length_le (by omega), hee]
    rw [show (encTo D i).length + 2 - (encTo D i).length = 2 by omega, show (encTo D i).length + 2 + (D[i].1.size - m) - ((encTo D i).length + 2) = (D[i].1.toList.drop m).length by omega]
    simp
  have e2 : bt s ((encTo D i).length + 2 + (D[i].1.size - m)) = D[i].2 % 256 := by
    rw [show (encTo D i).length + 2 + (D[i].1.size - m) = (encTo D i).length + (2 + (D[i].1.size - m)) by omega, bt_mid hsl _ (by omega), hee, List.getD_eq_getElem?_getD, show 2 + (D[i].1.size - m) = (D[i].1.size - m) + 1 + 1 by omega, List.getElem?_cons_succ, List.getElem?_cons_succ, List.getElem?_append_right (by omega), hdl]
    simp [twoL]
  have e3 : bt s ((encTo D i).length + 2 + (D[i].1.size - m) + 1) = D[i].2 / 256 := by
    rw [show (encTo D i).length + 2 + (D[i].1.size - m) + 1 = (encTo D i).length + (2 + (D[i].1.size - m) + 1) by omega, bt_mid hsl _ (by omega), hee, List.getD_eq_getElem?_getD, show 2 + (D[i].1.size - m) + 1 = (D[i].1.size - m + 1) + 1 + 1 by omega, List.getElem?_cons_succ, List.getElem?_cons_succ, List.getElem?_append_right (by omega), hdl]
    rw [show D[i].1.size - m + 1 - (D[i].1.size - m) = 1 by omega]
    simp [twoL]
    omega
  have hls : last.size = (prevW D i).length := by rw [← toList_length, hl]
  rw [e0, e1, e2, e3]
  refine ⟨by omega, by omega, ?_, by omega, ?_, by simp only [prevW]; rw [hg]⟩
  · apply ba_ext
    rw [toList_append, ex, toList_extract, hl]
    simp only [List.drop_zero, Nat.sub_zero]
    rw [htk, List.take_append_drop]
  · rw [hen, List.length_append]; omega

theorem image_head {s : ByteArray} {D : Dic} (hD : GoodDic D) (hs : imageL D = s.toList) : 5 ≤ s.size ∧ bt s 2 + 256 * bt s 3 = D.length := by
  obtain ⟨R, hR⟩ := encTo_prefix D 0 D.length (by omega)
  have hl := hD.1
  have e0 : s.toList = [87, 67] ++ (twoL D.length ++ (R ++ [sumL (encTo D D.length)])) := by rw [← hs, imageL, hR]; simp [encTo]
  have h1 : s.size = 2 + (2 + (R.length + 1)) := by rw [← toList_length, e0]; simp [twoL]; omega
  have h2 := bt_mid e0 0 (by simp [twoL])
  have h3 := bt_mid e0 1 (by simp [twoL])
  refine ⟨by omega, ?_⟩
  have e2 : bt s 2 = D.length % 256 := by rw [show (2 : Nat) = ([87, 67] : List UInt8).length + 0 from rfl, h2]; simp [twoL]
  have e3 : bt s 3 = D.length / 256 := by rw [show (3 : Nat) = ([87, 67] : List UInt8).length + 1 from rfl, h3]; simp [twoL]; omega
  omega

/-- the entry that the program reads at k. -/
structure WordHere (s : ByteArray) (k : Nat) (ahead : ByteArray) (x : ByteArray) (c k' : Nat) : Prop where
  fit : k + 2 + bt s (k + 1) + 2 ≤ s.size
  com : bt s k ≤ ahead.size
  word : x = ahead.extract 0 (bt s k) ++ s.extract (k + 2) (k + 2 + bt s (k + 1))
  is : IsWord x
  cost : c = bt s (k + 2 + bt s (k + 1)) + 256 * bt s (k + 2 + bt s (k + 1) + 1)
  low : c ≤ 1000
  next : k' = k + 2 + bt s (k + 1) + 2

/-- what has been read of a text up to k, if it is an image. -/
def Reads (s : ByteArray) (i k : Nat) (ahead : ByteArray) (E : List Ent) : Prop := ∀ D, GoodDic D → imageL D = s.toList →
  i ≤ D.length ∧ k = (encTo D i).length ∧ ahead.toList = prevW D i ∧ Rep (D.take i) E

theorem reads_start (s : ByteArray) : Reads s 0 4 ByteArray.empty [] := fun D _ _ => ⟨by omega, by simp [encTo, twoL], by simp [prevW, ByteArray.toList_eq], by simpa using Rep.nil⟩

theorem reads_word {s : ByteArray} {i k : Nat} {ahead : ByteArray} {E : List Ent} (h : Reads s i k ahead E) (hn : ∀ D, GoodDic D → imageL D = s.toList → i < D.length) (hno : ∀ x c k', ¬ WordHere s k ahead x c k') : LoadNo s := by
  intro D hD hs
  obtain ⟨h1, h2, h3, h4⟩ := h D hD hs
  have hlt := hn D hD hs
  obtain ⟨a, b, c, d, _⟩ := image_entry hD.fits hs.symm hlt h3 h2
  obtain ⟨hw, hc⟩ := hD.2.2 D[i] (List.getElem_mem hlt)
  exact hno D[i].1 D[i].2 _ ⟨by omega, b, c.symm, hw, d.symm, hc, rfl⟩

theorem reads_step {s : ByteArray} {i k : Nat} {ahead x : ByteArray} {c k' : Nat} {E : List Ent} (h : Reads s i k ahead E) (hn : ∀ D, GoodDic D → imageL D = s.toList → i < D.length) (hw : WordHere s k ahead x c k') : Reads s (i + 1) k' x (E ++ [⟨x, true, c, 0⟩]) := by
  intro D hD hs
  obtain ⟨h1, h2, h3, h4⟩ := h D hD hs
  have hlt := hn D hD hs
  obtain ⟨a, b, d, e, f, g⟩ := image_entry hD.fits hs.symm hlt h3 h2
  have ex : x = D[i].1 := by rw [hw.word, d]
  have ec : c = D[i].2 := by rw [hw.cost, e]
  refine ⟨hlt, by rw [hw.next, f], by rw [ex, g], ?_⟩
  rw [List.take_succ_eq_append_getElem hlt]
  have := Rep.put_new (L := D.take i) (R := []) (E := E) (x := ⟨x, true, c, 0⟩) (by simpa using h4) rfl (fun p hp => by
    obtain ⟨j, hj, rfl⟩ := List.mem_iff_getElem.1 hp
    simp at hj
    rw [List.getElem_take, ex]
    exact List.pairwise_iff_getElem.1 hD.2.1 j i (by omega) hlt (by omega)) (fun p hp => by cases hp)
  simp only at this
  rw [ex, ec] at this
  rw [ex, ec]
  exact this

theorem reads_end {s : ByteArray} {i k : Nat} {ahead : ByteArray} {E : List Ent} {D : Dic} (h : Reads s i k ahead E) (hn : ∀ D, GoodDic D → imageL D = s.toList → i = D.length) (hR : Rep D E) (hne : imageL D ≠ s.toList) : LoadNo s := by
  intro D0 hD hs
  obtain ⟨h1, h2, h3, h4⟩ := h D0 hD hs
  have := hn D0 hD hs
  subst this
  rw [List.take_length] at h4
  obtain rfl := hR.unique h4
  exact hne hs

theorem rep_goodE {D : Dic} {E : List Ent} (hE : ∀ x ∈ E, IsWord x.word ∧ x.cost ≤ 1000) (hr : Rep D E) (hl : D.length ≤ 150) : GoodDic D := by
  refine ⟨hl, hr.1, fun p hp => ?_⟩
  obtain ⟨x, hx, e1, _, e2⟩ := eff_mem ((hr.2 p.1 p.2).1 hp)
  have := hE x hx
  rw [← e1, ← e2]
  exact this

theorem snoc_ents {E : List Ent} {x : Ent} {P : Ent → Prop} (h : ∀ y ∈ E, P y) (hx : P x) : ∀ y ∈ E ++ [x], P y := by
  intro y hy
  rcases List.mem_append.1 hy with hy | hy
  · exact h y hy
  · rcases List.mem_cons.1 hy with rfl | hy
    · exact hx
    · cases hy

end Go.Proofs.Ytlfpepehngkehaa
