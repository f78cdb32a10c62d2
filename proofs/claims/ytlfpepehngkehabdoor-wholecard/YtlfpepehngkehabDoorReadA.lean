/-
  Walks: all entries of a list.
-/
import Derived.Test.YtlfpepehngkehabDoorEntryA
namespace Go.Proofs.YtlfpepehngkehabDoor
set_option linter.unusedSimpArgs false
set_option linter.unusedVariables false
open Go.RowKit

def entCells (x : Ent) : List Value := [.string x.word, .bool x.inn, .int .i64 x.cost, .int .i64 x.dig]
def entsCells (E : List Ent) : List Value := E.flatMap entCells

theorem Tryd.infoEntry : (Tryd.prog.info? 80).map (fun i => (i.zero, i.size, i.bytes)) = some (some (.agg #[.string ByteArray.empty, .bool false, .int .i64 0, .int .i64 0]), 4, 40) := by kernel_rfl

theorem ownsRow_below {w w1 : World} {base : Nat} {e : TypeId} {size : Nat} {v : Value} {n : Nat} {xs : List Value} (h : w.ownsRow base e size v n xs) (hb : Below w.heap.size w w1) : w1.ownsRow base e size v n xs := by
  obtain ⟨h1, h2⟩ := h
  refine ⟨h1, ?_⟩
  rcases h2 with h | ⟨g, cap, cur, h3, h4, h5, h6⟩
  · exact .inl h
  · refine .inr ⟨g, cap, cur, h3, h4, ?_, h6⟩
    rw [hb.block g ?_]
    · exact h5
    · exact Array.getElem?_eq_some_iff.1 h5 |>.1

theorem news4 (w : World) (a b c d : Value) (t : TypeId) (n : Nat) (hn : n = w.heap.size) : ∀ j u, [a, b, c, d][j]? = some u → (w.alloc (.cells #[a, b, c, d] t)).cell? ((⟨n, 0, none⟩ : Addr).add j) = some u := by
  subst hn
  intro j u h
  match j, h with
  | 0, h => simp at h; subst h; simp [Addr.add]
  | 1, h => simp at h; subst h; simp [Addr.add]
  | 2, h => simp at h; subst h; simp [Addr.add]
  | 3, h => simp at h; subst h; simp [Addr.add]

theorem entsCells_snoc (E : List Ent) (x : Ent) : entsCells E ++ [.string x.word, .bool x.inn, .int .i64 x.cost, .int .i64 x.dig] = entsCells (E ++ [x]) := by
  simp [entsCells, entCells]

def AllRes (s : ByteArray) (B : Nat) (e : Ending) (w' : World) : Prop :=
  (∃ (v : Value) (p : Nat), e = .returned (.tuple #[v, .int .i64 p, .bool false]) ∧ BadList s p) ∨
  (∃ (E : List Ent) (v : Value) (p : Nat), e = .returned (.tuple #[v, .int .i64 p, .bool true]) ∧ GoodList s E ∧ E.length ≤ s.size ∧ w'.ownsRow B 80 4 v E.length (entsCells E))

set_option maxHeartbeats 1000000 in
set_option maxRecDepth 20000 in
theorem readAll_any (s : ByteArray) (w : World) (hs : s.size ≤ maxLen) (hb : s.size ≤ 2000) :
    Calls Tryd.prog 44 #[.string s] w fun e w' => AllRes s w.heap.size e w' ∧ Below w.heap.size w w' := by
  have hs' := hs
  unfold maxLen at hs
  obtain ⟨i0, hi, hz0, hz1, hz2⟩ := info_parts Tryd.infoEntry
  go_enter Tryd.func44, Tryd.ntmps44
  go_wp2
  go_loopw [5, 6] (fun v a wr => ∃ (q : Nat) (E : List Ent), q ≤ s.size ∧ a = .int .i64 q ∧ Chain s 0 E q ∧ wr.ownsRow w.heap.size 80 4 v E.length (entsCells E) ∧ Below w.heap.size w wr ∧ E.length * 3 ≤ q)
    (fun _ a _ => s.size + 1 - (intOf a).toNat)
  case atStart => exact ⟨0, [], by omega, rfl, rfl, World.ownsRow_nil _ _ _ _, Below.refl _ _, by simp⟩
  case round =>
    obtain ⟨q, E, hq, rfl, hch, hown, hbel, hlen⟩ := hrel
    by_cases hlt : q < s.size
    · go_wp2_with fail
      refine (readEntry_any s q _ hs' hq hb).mono ?_
      rintro e w1 ⟨hres, hb1⟩
      rcases hres with ⟨p, rfl, hbad⟩ | ⟨x, p, rfl, hgood⟩
      · simp only [entV]
        go_wp2
        go_ret3
        exact ⟨.inl ⟨_, p, rfl, E, q, hch, .inl ⟨hlt, hbad⟩⟩, (hbel.trans (hb1.mono hbel.size)).alloc (Nat.le_trans hbel.size hb1.size) _⟩
      · simp only [entV]
        have HG : Hid (GoodEntry s q x p) := hgood
        have HC : Hid (Chain s 0 E q) := hch
        obtain ⟨hp1, hp2, hx1, hx2⟩ := hgood.le
        have hown1 := ownsRow_below hown hb1
        have hb2 := hbel.trans (hb1.mono hbel.size)
        have hsz := hb2.size
        clear hown hb1 hbel hch hgood
        go_wp2_with (at_builtin; refine wpList_append_own _ rfl _ _ 67 rfl w.heap.size 80 i0 _ 4 40 Tryd.underlying67 hi hz0 hz1 hz2 rfl (by decide) _ _ _ rfl ((hown1.alloc _).alloc _) ⟨w1.heap.size + 1, 0, none⟩ 1 1 [.string x.word, .bool x.inn, .int .i64 x.cost, .int .i64 x.dig] rfl rfl ?c1 ?c2 ?c3 ?c4 ?c5 ?_)
        case c1 => exact news4 _ _ _ _ _ _ _ (by simp)
        case c2 => intro u hu; simp at hu; rcases hu with rfl | rfl | rfl | rfl <;> rfl
        case c3 => unfold maxLen; omega
        case c4 => omega
        case c5 => simp; omega
        intro v' w2 hown' hgrow _
        rw [entsCells_snoc] at hown'
        have hb3 : Below w.heap.size w w2 := ((hb2.alloc hsz _).alloc (by simp; omega) _).grown hgrow (by simp; omega) (fun g hg => (hown1.lt g hg).1)
        clear hgrow hb2 hown1
        by_cases hpe : p = s.size
        · have hge : (s.size : Int) ≤ p := by omega
          have HP : Hid (p = s.size) := hpe
          clear hpe
          go_wp2
          go_ret3
          exact ⟨.inr ⟨E ++ [x], v', p, rfl, .inr ⟨E, x, q, rfl, HC.out, by have := HG.out; rwa [HP.out] at this⟩, by simp; omega, by simpa using hown'⟩, hb3⟩
        · have hlt2 : p < s.size := by omega
          have hbt := bt_get s p hlt2
          clear hpe
          by_cases h44 : bt s p = 44
          · have H44 : Hid (bt s p = 44) := h44
            have t44 := srt_cast_eq (a := bt s p) (b := 44) (by omega)
            clear h44
            go_wp2
            go_roundw
            case rel => exact ⟨p + 1, E ++ [x], by omega, by go_num, HC.out.snoc HG.out hlt2 H44.out, by simpa using hown', hb3, by simp; omega⟩
            case measure => simp [intOf]; omega
          · have H44 : Hid (bt s p ≠ 44) := h44
            have t44 := srt_cast_ne (a := bt s p) (b := 44) (by omega)
            clear h44
            go_wp2
            go_ret3
            exact ⟨.inl ⟨_, p, rfl, E, q, HC.out, .inr (.inl ⟨x, HG.out, hlt2, H44.out⟩)⟩, hb3⟩
    · by_cases hq0 : q = 0
      · subst hq0
        have hE : E = [] := List.eq_nil_of_length_eq_zero (by omega)
        subst hE
        go_wp2
        go_ret3
        exact ⟨.inr ⟨[], _, 0, rfl, .inl ⟨rfl, by omega⟩, by simp, hown⟩, hbel⟩
      · have tq : ((q : Int) == 0) = false := beq_eq_false_iff_ne.2 (by omega)
        go_wp2
        go_ret3
        exact ⟨.inl ⟨_, q, rfl, E, q, hch, .inr (.inr ⟨by omega, hq0, rfl⟩)⟩, hbel⟩

end Go.Proofs.YtlfpepehngkehabDoor
