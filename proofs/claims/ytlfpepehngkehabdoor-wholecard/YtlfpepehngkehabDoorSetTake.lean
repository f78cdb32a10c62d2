/-
  Walks: entries have their way.
-/
import Derived.Test.YtlfpepehngkehabDoorSetDrop
import Derived.Test.YtlfpepehngkehabDoorReadB
import Derived.Deep.RegionWith
namespace Go.Proofs.YtlfpepehngkehabDoor
set_option linter.unusedSimpArgs false
set_option linter.unusedVariables false
open Go.RowKit

theorem del_le (D : Dic) (k : Nat) : (del D k).length ≤ D.length + 1 := by simp [del]; omega

def TookOne (w w' : World) (b : Nat) (v : Value) (D : Dic) (E : List Ent) : Prop := ∃ D', Rep D' E ∧ D'.length ≤ D.length + 1 ∧ SetRes w w' 94 b v D'

theorem putE_any (w : World) (b : Nat) (v : Value) (D : Dic) (E : List Ent) (x : Ent) (hi : x.inn = true) (hx : x.word.size ≤ 2000) (hc : x.cost ≤ 9999) (hS : SetAt w 94 b v D) (hR : Rep D E) (hlen : D.length ≤ 100000) :
    Calls Tryd.prog 45 #[.pointer (some ⟨b, 0, none⟩), .string x.word, .int .i64 x.cost] w fun e w' => e = .returned (.tuple #[]) ∧ TookOne w w' b v D (E ++ [x]) := by
  refine (put_any w b v D x.word x.cost hx hc hS hR.1 hlen).mono ?_
  rintro e w' ⟨rfl, h⟩
  refine ⟨rfl, ?_⟩
  rcases h with ⟨k, hk, hw, h⟩ | ⟨k, hs, hn, h⟩
  · exact ⟨_, rep_set hR hi hk hw, by simp, h⟩
  · exact ⟨_, rep_ins hR hi hs hn, by have := hole_length (p := (x.word, x.cost)) hs.1; unfold hole at this; omega, h⟩

theorem dropE_any (w : World) (b : Nat) (v : Value) (D : Dic) (E : List Ent) (x : Ent) (hi : x.inn = false) (hx : x.word.size ≤ 2000) (hS : SetAt w 94 b v D) (hR : Rep D E) (hlen : D.length ≤ 100000) :
    Calls Tryd.prog 46 #[.pointer (some ⟨b, 0, none⟩), .string x.word] w fun e w' => e = .returned (.tuple #[]) ∧ TookOne w w' b v D (E ++ [x]) := by
  refine (drop_any w b v D x.word hx hS hR.1 hlen).mono ?_
  rintro e w' ⟨rfl, h⟩
  refine ⟨rfl, ?_⟩
  rcases h with ⟨k, hk, hw, h⟩ | ⟨k, hs, hn, h⟩
  · exact ⟨_, rep_del hR hi hk hw, del_le _ _, h⟩
  · exact ⟨_, rep_del_none hR hi hs hn, by omega, h⟩

theorem SetRes.step {w w1 w2 : World} {t : TypeId} {b : Nat} {v v1 : Value} {D2 : Dic} (hK : Kept w w1 (fun k => k = b ∨ v.ownBlock = some k)) (ho : ∀ k, v1.ownBlock = some k → v.ownBlock = some k ∨ w.heap.size ≤ k)
    (h : SetRes w1 w2 t b v1 D2) : SetRes w w2 t b v D2 := by
  obtain ⟨v2, h1, h2, h3⟩ := h
  refine ⟨v2, h1, hK.trans h2 (fun i hi => ?_), fun k hk => ?_⟩
  · rcases hi with rfl | hi
    · exact .inl (.inl rfl)
    · rcases ho i hi with a | a
      · exact .inl (.inr a)
      · exact .inr a
  · rcases h3 k hk with a | a
    · exact ho k a
    · exact .inr (by have := hK.size; omega)

theorem took_step {w wr w2 : World} {o : Obj} {b i : Nat} {v v' : Value} {D D' : Dic} {E : List Ent} (hK : Kept w wr (fun k => k = b ∨ v.ownBlock = some k)) (ho : ∀ k, v'.ownBlock = some k → v.ownBlock = some k ∨ w.heap.size ≤ k)
    (h : TookOne (wr.alloc o).drew w2 b v' D' E) (hl : D'.length ≤ D.length + i) : ∃ D'', Rep D'' E ∧ D''.length ≤ D.length + (i + 1) ∧ SetRes w w2 94 b v D'' := by
  obtain ⟨D'', h1, h2, h3⟩ := h
  exact ⟨D'', h1, by omega, SetRes.step (hK.alloc o).drew ho h3⟩

set_option maxHeartbeats 1000000 in
set_option maxRecDepth 20000 in
theorem take_any (w : World) (b : Nat) (v rv : Value) (base : Nat) (D : Dic) (E0 E : List Ent) (hS : SetAt w 94 b v D) (hR : Rep D E0) (hlen : D.length ≤ 50000) (hE : E.length ≤ 2000)
    (hown : w.ownsRow base 80 4 rv E.length (entsCells E)) (hdis : ∀ k, rv.ownBlock = some k → k ≠ b ∧ v.ownBlock ≠ some k) (hxs : ∀ x ∈ E, x.word.size ≤ 2000 ∧ x.cost ≤ 9999) :
    Calls Tryd.prog 30 #[.pointer (some ⟨b, 0, none⟩), rv] w fun e w' => e = .returned (.tuple #[]) ∧ ∃ D', Rep D' (E0 ++ E) ∧ D'.length ≤ D.length + E.length ∧ SetRes w w' 94 b v D' := by
  have hown0 := hown
  obtain ⟨hl, hsh⟩ := hown
  rcases hsh with ⟨rfl, h0⟩ | ⟨g, cap, cur, rfl, hg1, hg2, hg3, hg4, hg5, hg6⟩
  · have hE0 : E = [] := List.eq_nil_of_length_eq_zero h0
    subst hE0
    go_enter Tryd.func30, Tryd.ntmps30
    go_wp2_with fail
    refine wp_loop_rounds 1 ?_
    rw [rounds_succ]
    go_wp2
    go_end0
    exact ⟨rfl, D, by simpa using hR, by simp, v, hS, Kept.refl _ _, fun k hk => .inl hk⟩
  · have HD : Hid _ := hdis
    have HX : Hid _ := hxs
    have HS0 : Hid (SetAt w 94 b v D) := hS
    have HR0 : Hid (Rep D E0) := hR
    clear hg2 hg6 hl hdis hxs hS hR
    go_enter Tryd.func30, Tryd.ntmps30
    go_wp2_with fail
    go_loopw [8] (fun a wr => ∃ i : Nat, i ≤ E.length ∧ a = .int .i64 i ∧ ∃ D', Rep D' (E0 ++ E.take i) ∧ D'.length ≤ D.length + i ∧ SetRes w wr 94 b v D') (fun a _ => E.length - (intOf a).toNat)
    case atStart => exact ⟨0, by omega, rfl, D, by simpa using HR0.out, by omega, v, HS0.out, Kept.refl _ _, fun k hk => .inl hk⟩
    case round =>
      obtain ⟨i, hi, rfl, D', hR', hl', v', hS', hK', ho'⟩ := hrel
      by_cases hlt : i < E.length
      · have hrow := Kept.row hown0 hK' (fun k hk e => by
          have := HD.out k hk
          rcases e with e | e
          · exact this.1 e
          · exact this.2 e)
        obtain ⟨hc0, hc1, hc2, hc3⟩ := own_ent hrow hlt
        obtain ⟨x, hx⟩ : ∃ x, x = E[i] := ⟨_, rfl⟩
        have HXE : Hid (x = E[i]) := hx
        obtain ⟨hxw, hxc⟩ := HX.out E[i] (List.getElem_mem hlt)
        have HT : Hid (E0 ++ E.take (i + 1) = E0 ++ E.take i ++ [x]) := by
          show _ = _
          rw [List.take_succ_eq_append_getElem hlt, ← hx, List.append_assoc]
        rw [← hx] at hc0 hc1 hc2 hc3 hxw hxc
        have HS' : Hid (SetAt wr 94 b v' D') := hS'
        have HR' : Hid (Rep D' (E0 ++ E.take i)) := hR'
        have HK' : Hid (Kept w wr (fun k => k = b ∨ v.ownBlock = some k)) := hK'
        have HO' : Hid (∀ k, v'.ownBlock = some k → v.ownBlock = some k ∨ w.heap.size ≤ k) := ho'
        clear hx hS' hR' hK' ho' hrow
        cases hin : x.inn with
        | true =>
          rw [hin] at hc1
          have HI : Hid (x.inn = true) := hin
          clear hin
          go_wp2_with fail
          go_region_with (go_at_call 45; refine (putE_any _ b v' D' (E0 ++ E.take i) x HI.out hxw hxc (by exact (HS'.out.alloc _).drew) HR'.out (by omega)).mono ?_; rintro e w2 ⟨rfl, hto⟩)
          all_goals
            go_wp2
            go_roundw
            case rel => exact ⟨i + 1, by omega, by go_num, by rw [HT.out]; exact took_step (D := D) HK'.out HO'.out hto (by omega)⟩
            case measure => simp [intOf]; omega
        | false =>
          rw [hin] at hc1
          have HI : Hid (x.inn = false) := hin
          clear hin
          go_wp2_with fail
          go_region_with (go_at_call 46; refine (dropE_any _ b v' D' (E0 ++ E.take i) x HI.out hxw (by exact (HS'.out.alloc _).drew) HR'.out (by omega)).mono ?_; rintro e w2 ⟨rfl, hto⟩)
          all_goals
            go_wp2
            go_roundw
            case rel => exact ⟨i + 1, by omega, by go_num, by rw [HT.out]; exact took_step (D := D) HK'.out HO'.out hto (by omega)⟩
            case measure => simp [intOf]; omega
      · go_wp2
        go_end0
        obtain rfl : i = E.length := by omega
        rw [List.take_length] at hR'
        exact ⟨rfl, D', hR', hl', v', hS', hK', ho'⟩

end Go.Proofs.YtlfpepehngkehabDoor
