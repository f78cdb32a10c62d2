/-
  Walks: the reference's Prefixes; that two rows of hits are the same.
-/
import Derived.Test.YtlfpepehngkehaaGreatRows
import Derived.Test.YtlfpepehngkehaaGreatPrefix
import Derived.Test.YtlfpepehngkehaaGreatBookW
namespace Go.Proofs.YtlfpepehngkehaaGreat
set_option linter.unusedSimpArgs false
set_option linter.unusedVariables false
open Go.RowKit

set_option maxHeartbeats 1000000 in
theorem bookPrefixes_any (w : World) (B : Nat) (Wv Cv : Value) (D : Dic) (s : ByteArray) (hs : s.size ≤ maxLen) (hB : BookAt w B D Wv Cv) (hsrt : Srt D) (hD : D.length ≤ 150) (hw : ∀ p ∈ D, p.1.size ≤ 12) :
    Calls Tryz.prog 56 #[.pointer (some ⟨B, 0, none⟩), .string s] w fun e w' => ∃ v', e = .returned v' ∧ w'.ownsRow w.heap.size 47 2 v' (hitsOf D s).length (hitCells (hitsOf D s)) ∧ Below w.heap.size w w' := by
  obtain ⟨i0, hi, hz0, hz1, hz2⟩ := info_parts Tryz.infoHit
  unfold maxLen at hs
  by_cases hD0 : D = []
  · obtain ⟨hwn, hcn⟩ := hB.nl hD0
    subst hwn hcn hD0
    have hb0 := hB.c0
    go_enter Tryz.func56, Tryz.ntmps56
    go_wp2_with fail
    refine wp_loop_rounds 1 ?_
    rw [rounds_succ]
    go_wp2
    go_ret
    exact ⟨_, rfl, World.ownsRow_nil _ _ _ _, Below.refl _ _⟩
  · have hDn : D.length ≠ 0 := fun e => hD0 (List.eq_nil_of_length_eq_zero e)
    obtain ⟨gw, capw, rfl, hgw1, hgw2, hgw3, hgw4⟩ := row_shape hB.ow hDn
    obtain ⟨gc, capc, rfl, hgc1, hgc2, hgc3, hgc4⟩ := row_shape hB.oc hDn
    have HB : Hid (BookAt w B D (.slice (some ⟨gw, 0, none⟩) D.length capw) (.slice (some ⟨gc, 0, none⟩) D.length capc)) := hB
    clear hB
    go_enter Tryz.func56, Tryz.ntmps56
    go_wp2_with fail
    go_loopw [5, 6] (fun hv iv wr => ∃ i : Nat, i ≤ D.length ∧ iv = .int .i64 i ∧ wr.ownsRow w.heap.size 47 2 hv (hitsOf (D.take i) s).length (hitCells (hitsOf (D.take i) s)) ∧ Below w.heap.size w wr) (fun _ iv _ => D.length - (intOf iv).toNat)
    case atStart => exact ⟨0, by omega, rfl, World.ownsRow_nil _ _ _ _, Below.refl _ _⟩
    case round =>
      obtain ⟨i, hin, rfl, hown, hbel⟩ := hrel
      have hB1 : BookAt wr B D (.slice (some ⟨gw, 0, none⟩) D.length capw) (.slice (some ⟨gc, 0, none⟩) D.length capc) := HB.out.kept (Kept.of_below hbel (fun _ => False)) id (fun _ _ e => e) (fun _ _ e => e)
      have hb0 := hB1.c0
      have hb1 := hB1.c1
      have hsz1 := hbel.size
      by_cases hlt : i < D.length
      · have hw0 := own_str hB1.ow (by simp) (k := i) (by simpa using hlt)
        have hc0 := own_int hB1.oc (by simp) (k := i) (by simpa using hlt)
        simp only [List.getElem_map] at hw0 hc0
        have hyw := hw D[i] (List.getElem_mem hlt)
        have HSN : Hid _ := hitsOf_snoc D s i hlt
        have hhl := hitsOf_length (D.take i) s
        have htl : (D.take i).length ≤ i := List.length_take_le _ _
        obtain ⟨p, hp⟩ : ∃ p, p = D[i] := ⟨_, rfl⟩
        rw [← hp] at hw0 hc0 hyw HSN
        generalize hitsOf (D.take i) s = H at *
        clear hp hB1
        by_cases hle : p.1.size ≤ s.size
        · have hlei : (p.1.size : Int) ≤ (s.size : Int) := by omega
          by_cases heq : s.extract 0 p.1.size = p.1
          · have heq' : ((s.extract 0 p.1.size).toList == p.1.toList) = true := by rw [heq]; simp
            have HSN' : Hid (hitsOf (D.take (i + 1)) s = H ++ [(p.1.size, p.2)]) := by
              show _ = _
              rw [HSN.out, if_pos ⟨hle, heq⟩]
            clear heq HSN
            go_wp2_with (at_builtin; refine wpList_append_own _ rfl _ _ 45 rfl w.heap.size 47 i0 _ 2 16 Tryz.underlying45 hi hz0 hz1 hz2 rfl (by decide) _ _ _ rfl (hown.alloc _) ⟨wr.heap.size, 0, none⟩ 1 1 [.int .i64 p.1.size, .int .i64 p.2] rfl rfl (news2i _ _ _ _ _ rfl) (one2i _ _) (by unfold maxLen; omega) (by omega) (by simp; omega) ?_)
            intro v' w2 hown' hgrow _
            have hb3 : Below w.heap.size w w2 := (hbel.alloc hsz1 _).grown hgrow (by simp; omega) (fun g hg => (hown.lt g hg).1)
            have hown2 : w2.ownsRow w.heap.size 47 2 v' (H ++ [(p.1.size, p.2)]).length (hitCells (H ++ [(p.1.size, p.2)])) := by
              rw [hitCells_append, List.length_append]; exact hown'
            clear hgrow hown'
            go_wp2
            go_roundw
            case rel => exact ⟨i + 1, by omega, by go_num, by rw [HSN'.out]; exact hown2, hb3⟩
            case measure => simp [intOf]; omega
          · have heq' : ((s.extract 0 p.1.size).toList == p.1.toList) = false := beq_eq_false_iff_ne.2 fun e => heq (ba_ext e)
            have HSN' : Hid (hitsOf (D.take (i + 1)) s = H) := by
              show _ = _
              rw [HSN.out, if_neg (fun h => heq h.2), List.append_nil]
            clear heq HSN
            go_wp2
            go_roundw
            case rel => exact ⟨i + 1, by omega, by go_num, by rw [HSN'.out]; exact hown, hbel⟩
            case measure => simp [intOf]; omega
        · have hlei : ¬ (p.1.size : Int) ≤ (s.size : Int) := by omega
          have HSN' : Hid (hitsOf (D.take (i + 1)) s = H) := by
            show _ = _
            rw [HSN.out, if_neg (fun h => hle h.1), List.append_nil]
          clear HSN
          go_wp2
          go_roundw
          case rel => exact ⟨i + 1, by omega, by go_num, by rw [HSN'.out]; exact hown, hbel⟩
          case measure => simp [intOf]; omega
      · obtain rfl : i = D.length := by omega
        rw [List.take_length] at hown
        go_wp2
        go_ret
        exact ⟨_, rfl, hown, hbel⟩

set_option maxHeartbeats 1000000 in
theorem sameHits_any (w : World) (B1 B2 : Nat) (v1 v2 : Value) (H : List (Nat × Nat)) (h1 : w.ownsRow B1 47 2 v1 H.length (hitCells H)) (h2 : w.ownsRow B2 47 2 v2 H.length (hitCells H)) (hn : H.length ≤ 1000) :
    Calls Tryz.prog 57 #[v1, v2] w fun e w' => e = .returned (.bool true) ∧ Same w w' := by
  have t0 : ((H.length : Int) != (H.length : Int)) = false := by simp
  obtain ⟨a1, c1, rfl, hg1⟩ := row_form h1
  obtain ⟨a2, c2, rfl, hg2⟩ := row_form h2
  go_enter Tryz.func57, Tryz.ntmps57
  go_wp2_with fail
  go_loopw [5] (fun x wr => ∃ i : Nat, i ≤ H.length ∧ x = .int .i64 i ∧ Same w wr) (fun x _ => H.length - (intOf x).toNat)
  case atStart => exact ⟨0, by omega, rfl, Same.refl _⟩
  case round =>
    obtain ⟨i, hi, rfl, hsame⟩ := hrel
    by_cases hlt : i < H.length
    · obtain ⟨g1, rfl⟩ := hg1 (by omega)
      obtain ⟨g2, rfl⟩ := hg2 (by omega)
      obtain ⟨hx1, hx2⟩ := own_hit (hsame.row h1) rfl hlt
      obtain ⟨hy1, hy2⟩ := own_hit (hsame.row h2) rfl hlt
      generalize H[i] = p at hx1 hx2 hy1 hy2
      have hli : (i : Int) < (H.length : Int) := by omega
      clear h1 h2
      go_wp2_with fail
      go_quiet (fail)
      go_wp2
      go_roundw
      case rel => exact ⟨i + 1, by omega, by go_num, Kept.drewN hsame _⟩
      case measure => simp [intOf]; omega
    · go_wp2
      go_ret
      exact ⟨rfl, hsame⟩

end Go.Proofs.YtlfpepehngkehaaGreat
