/-
  Walks: how many words are in a table; are two lists of boundaries the same.
-/
import Derived.Test.YtlfpepehngkehaaDoorKeepF
import Derived.BigQuiet
import Derived.Deep.QuietTactic
import Derived.Test.YtlfpepehngkehaaDoorKeepH
namespace Go.Proofs.YtlfpepehngkehaaDoor
set_option linter.unusedSimpArgs false
set_option linter.unusedVariables false
open Go.RowKit

def inTab (T : Tab) : Tab := T.filter fun p => decide (0 ≤ p.2)

def SizeRel (T : Tab) (w : World) (g : Nat) (n y : Value) (wr : World) : Prop := ∃ i : Nat, g = T.length - i ∧ i ≤ T.length ∧ y = .int .i64 i ∧ n = .int .i64 ((inTab (T.take i)).length : Int) ∧ wr = w

theorem inTab_step {T : Tab} {i : Nat} (h : i < T.length) : (inTab (T.take (i + 1))).length = (inTab (T.take i)).length + (if 0 ≤ T[i].2 then 1 else 0) := by
  unfold inTab
  rw [List.take_add_one, List.getElem?_eq_getElem h, List.filter_append, List.length_append]
  congr 1
  show ([T[i]].filter _).length = _
  by_cases hc : 0 ≤ T[i].2
  · simp [hc]
  · simp [hc]

theorem inTab_le (T : Tab) (i : Nat) : (inTab (T.take i)).length ≤ T.length := by
  unfold inTab
  have h1 := List.length_filter_le (fun p : ByteArray × Int => decide (0 ≤ p.2)) (T.take i)
  rw [List.length_take] at h1
  omega

set_option maxHeartbeats 1000000 in
theorem tsize_any (w : World) (B : Nat) (T : Tab) (Wv Cv : Value) (hB : TabAt w B T Wv Cv) (hT : T.length ≤ 1000) :
    Calls Tryd.prog 16 #[.pointer (some ⟨B, 0, none⟩)] w fun e w' => e = .returned (.int .i64 ((inTab T).length : Int)) ∧ w' = w := by
  obtain ⟨pw, capw, rfl, hgw⟩ := row_form hB.ow
  obtain ⟨pc, capc, rfl, hgc⟩ := row_form hB.oc
  have hb0 := hB.c0
  have hb1 := hB.c1
  have HB : Hid (TabAt w B T (.slice pw T.length capw) (.slice pc T.length capc)) := hB
  clear hB
  go_enter Tryd.func16, Tryd.ntmps16
  go_wp2_with fail
  go_loopg [3, 4] T.length (fun g n y wr => SizeRel T w g n y wr)
  case atStart => exact ⟨0, rfl, Nat.zero_le _, rfl, rfl, rfl⟩
  case round =>
    obtain ⟨i, rfl, hi, rfl, rfl, rfl⟩ := hrel
    obtain ⟨n, hn⟩ : ∃ n, n = (inTab (T.take i)).length := ⟨_, rfl⟩
    rw [← hn]
    have hn9 : n ≤ 1000 := by rw [hn]; have := inTab_le T i; omega
    by_cases hlt : i < T.length
    · have hlt' : (i : Int) < (T.length : Int) := by omega
      obtain ⟨gc, rfl⟩ := hgc (by omega)
      have hc0 := own_i HB.out.oc (by simp) (k := i) (by simpa using hlt)
      simp only [List.getElem_map] at hc0
      have hst := inTab_step hlt
      rw [← hn] at hst
      obtain ⟨c, hc⟩ : ∃ c, c = T[i].2 := ⟨_, rfl⟩
      rw [← hc] at hc0 hst
      have HST : Hid ((inTab (T.take (i + 1))).length = n + (if 0 ≤ c then 1 else 0)) := hst
      clear hst hc hn
      by_cases hcp : 0 ≤ c
      · have HN2 : Hid (SizeRel T wr (T.length - (i + 1)) (.int .i64 ((n : Int) + 1)) (.int .i64 ((i : Int) + 1)) wr) := ⟨i + 1, rfl, hlt, by go_num, by rw [HST.out, if_pos hcp]; go_num, rfl⟩
        go_wp2_with fail
        go_roundg (T.length - (i + 1))
        case measure => omega
        case rel => exact HN2.out
      · have HN2 : Hid (SizeRel T wr (T.length - (i + 1)) (.int .i64 n) (.int .i64 ((i : Int) + 1)) wr) := ⟨i + 1, rfl, hlt, by go_num, by rw [HST.out, if_neg hcp]; rfl, rfl⟩
        go_wp2_with fail
        go_roundg (T.length - (i + 1))
        case measure => omega
        case rel => exact HN2.out
    · obtain rfl : i = T.length := by omega
      have hne : n = (inTab T).length := by rw [hn, List.take_length]
      have HNE : Hid (n = (inTab T).length) := hne
      clear hn hne
      go_wp2_with fail
      go_ret
      exact ⟨by rw [← HNE.out]; rfl, rfl⟩

theorem inTab_dic {T : Tab} {E : List Ent} {D : Dic} (hT : TabRep T E) (hD : Rep D E) : (inTab T).length = D.length := by
  have hnd : (D.map (·.1)).Nodup := by
    have hs := hD.1
    unfold Srt at hs
    rw [List.Nodup, List.pairwise_map]
    exact hs.imp fun h => wl_ne h
  have hnt : ((inTab T).map (·.1)).Nodup := List.Nodup.sublist (List.Sublist.map _ List.filter_sublist) hT.1
  have hfind : ∀ p ∈ T, tcost T p.1 = p.2 := fun p hp => by
    obtain ⟨i, hi, rfl⟩ := List.mem_iff_getElem.1 hp
    refine tcost_found hi rfl fun j hj hji e => ?_
    have hno := List.pairwise_iff_getElem.1 hT.1 j i (by simpa using hj) (by simpa using hi) hji
    simp at hno
    exact hno e
  have h1 : (D.map (·.1)).length ≤ ((inTab T).map (·.1)).length := nodup_le hnd fun w hw => by
    obtain ⟨p, hp, rfl⟩ := List.mem_map.1 hw
    have hc := (tab_dic hT hD p.1 p.2).1 hp
    by_cases hm : p.1 ∈ T.map (·.1)
    · obtain ⟨q, hq, e⟩ := List.mem_map.1 hm
      have hq2 := hfind q hq
      have e : q.1 = p.1 := e
      rw [e, hc] at hq2
      exact List.mem_map.2 ⟨q, List.mem_filter.2 ⟨hq, by simp; omega⟩, e⟩
    · have : tcost T p.1 = -1 := tcost_none fun j hj e => hm (List.mem_map.2 ⟨T[j], List.getElem_mem hj, e⟩)
      omega
  have h2 : ((inTab T).map (·.1)).length ≤ (D.map (·.1)).length := nodup_le hnt fun w hw => by
    obtain ⟨p, hp, rfl⟩ := List.mem_map.1 hw
    obtain ⟨hp1, hp2⟩ := List.mem_filter.1 hp
    have hp2 : 0 ≤ p.2 := by simpa using hp2
    have := hfind p hp1
    exact List.mem_map.2 ⟨(p.1, p.2.toNat), (tab_dic hT hD p.1 p.2.toNat).2 (by rw [this]; omega), rfl⟩
  simp only [List.length_map] at h1 h2
  omega

end Go.Proofs.YtlfpepehngkehaaDoor
