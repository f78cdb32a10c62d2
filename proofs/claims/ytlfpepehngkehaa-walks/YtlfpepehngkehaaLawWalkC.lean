/-
  Walks: the law's own loop.
-/
import Derived.Test.YtlfpepehngkehaaLawWalkB
namespace Go.Proofs.Ytlfpepehngkehaa
set_option linter.unusedSimpArgs false
set_option linter.unusedVariables false
open Go.RowKit

def MovesAt (w : World) (a : Option Addr) (ms : List (Int × Int)) : Prop :=
  (∀ m ∈ ms, -9223372036854775808 ≤ m.2 ∧ m.2 ≤ 9223372036854775807) ∧ (ms = [] ∨ ∃ b off, a = some ⟨b, off, none⟩ ∧ ∀ i (h : i < ms.length), w.cell? ⟨b, off + i * 2, none⟩ = some (.int .i64 ms[i].1) ∧ w.cell? ⟨b, off + i * 2 + 1, none⟩ = some (.int .i64 ms[i].2))

theorem MovesAt.below {w w' : World} {a : Option Addr} {ms : List (Int × Int)} (h : MovesAt w a ms) (hb : Below w.heap.size w w') : MovesAt w' a ms := by
  obtain ⟨h0, h⟩ := h
  refine ⟨h0, ?_⟩
  rcases h with h | ⟨b, off, rfl, h⟩
  · exact .inl h
  · exact .inr ⟨b, off, rfl, fun i hi => ⟨by rw [hb.cell (p := ⟨b, off + i * 2, none⟩) (cell_lt (h i hi).1)]; exact (h i hi).1, by rw [hb.cell (p := ⟨b, off + i * 2 + 1, none⟩) (cell_lt (h i hi).2)]; exact (h i hi).2⟩⟩

theorem MovesAt.get {w : World} {a : Option Addr} {ms : List (Int × Int)} (h : MovesAt w a ms) {i : Nat} (hi : i < ms.length) : ∃ b off, a = some ⟨b, off, none⟩ ∧ w.cell? ⟨b, off + i * 2, none⟩ = some (.int .i64 ms[i].1) ∧ w.cell? ⟨b, off + i * 2 + 1, none⟩ = some (.int .i64 ms[i].2) ∧ -9223372036854775808 ≤ ms[i].2 ∧ ms[i].2 ≤ 9223372036854775807 := by
  obtain ⟨h0, h⟩ := h
  rcases h with rfl | ⟨b, off, rfl, h⟩
  · simp at hi
  · exact ⟨b, off, rfl, (h i hi).1, (h i hi).2, h0 _ (List.getElem_mem hi)⟩

theorem BothAt.same {WI : WalkIfAll} {w w' : World} {X p P B : Nat} {F : Nat → Prop} {D : Dic} {Wv Cv lv : Value} {t : ByteArray} {l : List Nat} {a : Nat} (h : BothAt WI w X p P B F D Wv Cv lv t l a) (hs : Same w w') : BothAt WI w' X p P B F D Wv Cv lv t l a :=
  ⟨(Kept.cell hs (p := ⟨X, 0, none⟩) (cell_lt h.c0) id).trans h.c0, (Kept.cell hs (p := ⟨X, 1, none⟩) (cell_lt h.c1) id).trans h.c1, WI.kept h.at_ hs (fun _ _ e => e), h.ref.same hs, h.gd, h.ts, h.cr, h.fP, h.pB, h.pW, h.pC, h.pl, h.xp, h.xP⟩

def MovesRel (WI : WalkIfAll) (n : Nat) (w : World) (X p P B : Nat) (F : Nat → Prop) (D : Dic) (Wv Cv lv : Value) (t : ByteArray) (l : List Nat) (gh : Nat) (iv : Value) (wr : World) : Prop :=
  ∃ i : Nat, gh = n - i ∧ i ≤ n ∧ iv = .int .i64 i ∧ (∃ a, BothAt WI wr X p P B F D Wv Cv lv t l a) ∧ Kept w wr (fun j => j = p ∨ j = P)

set_option maxHeartbeats 4000000 in
set_option maxRecDepth 20000 in
theorem walks_walk (WI : WalkIfAll) (w : World) (a am : Option Addr) (cap cm : Nat) (ss : List ByteArray) (s : ByteArray) (ms : List (Int × Int)) (hA : StrsAt w a ss) (hn : ss.length * 16 ≤ 140737488351232) (hs : s.size ≤ maxLen) (hM : MovesAt w am ms) (hm : ms.length ≤ 9223372036854775807) :
    Calls Try.prog 8 #[.slice a ss.length cap, .string s, .slice am ms.length cm] w fun e w' => e = .returned (.bool true) ∧ Below w.heap.size w w' := by
  have HM : Hid (MovesAt w am ms) := hM
  clear hM
  go_enter Try.func8, Try.ntmps8
  go_wp2_with fail
  refine (built_any w a cap ss hA hn).mono ?_
  rintro e w1 ⟨hbe, hb1⟩
  rcases hbe with rfl | ⟨Q, D, rfl, hP⟩
  · go_wp2
    go_ret
    exact ⟨rfl, hb1⟩
  · obtain ⟨b, B, v, Wv, Cv, hP, -⟩ := hP
    have HP : Hid (PairIn w1 Q D b B v Wv Cv) := hP
    clear hP hA
    go_wp2_with fail
    refine (lawBegin_any WI w1 Q D b B v Wv Cv s hs HP.out).mono ?_
    rintro e w2 ⟨hbe, hb2⟩
    have hz1 := hb1.size
    have hB2 : Below w.heap.size w w2 := hb1.trans (hb2.mono hz1)
    rcases hbe with rfl | ⟨X, p, P, F, lv, l, rfl, hW, hp, hPP, -, -, -⟩
    · go_wp2
      go_ret
      exact ⟨rfl, hB2⟩
    · have HW : Hid (BothAt WI w2 X p P B F D Wv Cv lv s l 0) := hW
      have HMr : Hid (∀ wr, Kept w2 wr (fun j => j = p ∨ j = P) → MovesAt wr am ms) := fun wr hk => HM.out.below (hB2.trans (hk.below hB2.size (fun j e => by omega)))
      have HEND : Hid (∀ wz : World, Kept w2 wz (fun j => j = p ∨ j = P) → Below w.heap.size w wz) := fun wz hk => hB2.trans (hk.below hB2.size (fun j e => by omega))
      clear hW hb1 hb2 hB2 hp hPP HM HP
      go_wp2_with fail
      go_loopg [8, 10] ms.length (fun gh _ iv wr => MovesRel WI ms.length w2 X p P B F D Wv Cv lv s l gh iv wr)
      case atStart => exact ⟨0, rfl, Nat.zero_le _, rfl, ⟨0, HW.out⟩, Kept.refl _ _⟩
      case round =>
        obtain ⟨i, rfl, hi, rfl, ⟨c, hW⟩, hk⟩ := hrel
        have HK : Hid (Kept w2 wr (fun j => j = p ∨ j = P)) := hk
        have HWr : Hid (BothAt WI wr X p P B F D Wv Cv lv s l c) := hW
        have HMM : Hid (MovesAt wr am ms) := HMr.out wr hk
        clear hk hW
        by_cases hlt : i < ms.length
        · have hlt' : (i : Int) < (ms.length : Int) := by omega
          obtain ⟨bm, off, rfl, m0, m1, m2, m3⟩ := HMM.out.get hlt
          obtain ⟨x, hx⟩ : ∃ x, x = ms[i].1 := ⟨_, rfl⟩
          obtain ⟨y, hy⟩ : ∃ y, y = ms[i].2 := ⟨_, rfl⟩
          rw [← hx] at m0
          rw [← hy] at m1 m2 m3
          have hC := lawMove_any WI wr.drew X p P B F D Wv Cv lv s l c x y m2 m3 (HWr.out.same (Kept.drew (Same.refl wr)))
          have hmm : ms.length - (i + 1) < ms.length - i := by omega
          have HN : Hid (∀ (iv : Value) (wz : World), iv = .int .i64 ((i + 1 : Nat) : Int) → (∃ a, BothAt WI wz X p P B F D Wv Cv lv s l a) → Kept w2 wz (fun j => j = p ∨ j = P) → MovesRel WI ms.length w2 X p P B F D Wv Cv lv s l (ms.length - (i + 1)) iv wz) := fun iv wz h1 h2 h3 => ⟨i + 1, rfl, hlt, h1, h2, h3⟩
          clear hx hy m2 m3 hi
          go_upto_region 10 with fail
          go_cut [8] from 36 to 55 (fun v wx => v = .bool true ∧ (∃ a, BothAt WI wx X p P B F D Wv Cv lv s l a) ∧ Kept w2 wx (fun j => j = p ∨ j = P))
          case first =>
            go_region_with (go_at_call 18; go_must (refine hC.mono ?_); rintro e w5 ⟨rfl, hW5, hk5⟩)
            all_goals
              go_wp2_with fail
              go_meet
              exact ⟨rfl, hW5, (Kept.drew HK.out).trans hk5 (fun _ e => .inl e)⟩
          case rest =>
            obtain ⟨rfl, hW5, hk5⟩ := hcut
            have HNX : Hid (∀ iv : Value, iv = .int .i64 ((i + 1 : Nat) : Int) → MovesRel WI ms.length w2 X p P B F D Wv Cv lv s l (ms.length - (i + 1)) iv wc) := fun iv h => HN.out iv wc h hW5 hk5
            clear hC hW5 hk5 HN m0 m1
            go_wp2_with fail
            go_roundg (ms.length - (i + 1))
            case measure => exact hmm
            case rel => exact HNX.out _ (by go_num)
        · have hlt' : ¬ (i : Int) < (ms.length : Int) := by omega
          go_wp2_with fail
          go_ret
          exact ⟨rfl, HEND.out _ HK.out⟩

end Go.Proofs.Ytlfpepehngkehaa
