/-
  Walks: the reference: the cheapest way through a run of small letters.
-/
import Derived.Test.YtlfpepehngkehaaRefCutF
import Derived.BigQuiet
import Derived.Deep.QuietTactic
import Derived.Deep.RegionWith
import Derived.Deep.DeepCutAuto
import Derived.Deep.LoopGhost
namespace Go.Proofs.Ytlfpepehngkehaa
set_option linter.unusedSimpArgs false
set_option linter.unusedVariables false
open Go.RowKit

theorem Try.infoWay : (Try.prog.info? 160).map (fun i => (i.zero, i.size, i.bytes)) = some (some (.agg #[.bool false, .int .i64 0, .slice none 0 0]), 3, 40) := by kernel_rfl

def CheapRel (D : Dic) (t : ByteArray) (lo hi n : Nat) (w : World) (g : Nat) (x : Value) (wr : World) : Prop :=
  ∃ (i : Nat) (f : Nat → Option BWay), g = hi - i ∧ lo ≤ i ∧ i ≤ hi ∧ x = .int .i64 i ∧ BestW wr w.heap.size lo n f ∧ BestS D t lo hi (Sat D t i) f ∧ Same w wr

def NextE (t : ByteArray) (i hi g : Nat) (W : World) (x : Value) (wx : World) : Prop :=
  ∃ p : Nat, g = hi - p ∧ i < p ∧ p ≤ hi ∧ x = .int .i64 p ∧ (∀ j, i < j → j < p → ¬ Edge t j) ∧ wx = W

def KRel (D : Dic) (t : ByteArray) (lo hi i n G P : Nat) (w : World) (b : BWay) (bv : Value) (g : Nat) (y : Value) (wx : World) : Prop :=
  ∃ k : Nat, g = D.length - k ∧ k ≤ D.length ∧ y = .int .i64 k ∧ CheapIn D t lo hi i n G P w b bv (SK D t i k) wx

def CheapEnd (D : Dic) (t : ByteArray) (lo hi : Nat) (w w' : World) (e : Ending) : Prop :=
  (∃ v l, e = .returned v ∧ IsBest D t lo hi l ∧ w'.ownsRow w.heap.size 3 1 v l.length (intCells l) ∧ l.length ≤ 500) ∧ Below w.heap.size w w'

theorem best_some {D : Dic} {t : ByteArray} {lo hi i : Nat} {f : Nat → Option BWay} (hD : Small D) (h : BestS D t lo hi (Sat D t i) f) (hlo : Edge t lo) (h1 : lo ≤ i) (h2 : i ≤ hi) (h3 : hi ≤ t.size) (he : Edge t i) :
    ∃ b, f i = some b ∧ Way D t lo i b.2 b.1 ∧ (∀ l c, Way D t lo i l c → bleq b (c, l)) ∧ b.1 ≤ 500000 * (i + 1) ∧ b.2.length + lo ≤ i := by
  obtain ⟨l, c, hw⟩ := way_exists (D := D) hlo i i (Nat.le_refl _) h1 (by omega) he
  have hb := h i h1 h2
  cases e : f i with
  | none =>
    rw [e] at hb
    exfalso
    refine hb (c, l) ?_
    cases hw with
    | nil => exact .inl ⟨rfl, rfl⟩
    | snoc k1 k2 => exact .inr ⟨_, _, _, _, k1, ⟨k2, (k2.lt hD).1⟩, rfl⟩
  | some b =>
    rw [e] at hb
    obtain ⟨a1, a2⟩ := hb.all hD
    have hf := a1.facts hD
    exact ⟨b, rfl, a1, a2, by omega, hf.1⟩

theorem next_le {t : ByteArray} {i hi p : Nat} (hhi : Edge t hi) (hi' : i < hi) (h : ∀ j, i < j → j < p → ¬ Edge t j) : p ≤ hi := by
  by_cases e : p ≤ hi
  · exact e
  · exact absurd hhi (h hi hi' (by omega))

theorem cheap_put2 {D : Dic} {t : ByteArray} {lo hi i n G P d c te : Nat} {w X X' : World} {b : BWay} {bv v : Value} {S S' : Nat → Nat → Nat → Prop} {f : Nat → Option BWay} {fo : Option BWay} (hD : Small D) (hte : lo + d = te) (hfo : fo = f te)
    (hB : BestW X G lo n f) (hS : BestS D t lo hi S f) (hfi : f i = some b) (hP : Cells3 X P (.bool true) (.int .i64 b.1) bv) (hbr : X.ownsRow (G + 1) 3 1 bv b.2.length (intCells b.2)) (hsw : Same w X) (hw : Way D t lo i b.2 b.1) (hb : ∀ l c, Way D t lo i l c → bleq b (c, l))
    (hX : Same X X') (hr : X'.ownsRow (G + 1) 3 1 v (stepW b c te fo).2.length (intCells (stepW b c te fo).2)) (hd : d ≤ n) (hd0 : 0 < d) (hi' : i ≠ lo + d) (hPG : P ≠ G) (hG : w.heap.size ≤ G)
    (hSS : ∀ q p' c', S' q p' c' ↔ S q p' c' ∨ (q = i ∧ p' = te ∧ c' = c)) :
    CheapIn D t lo hi i n G P w b bv S' (((X'.setCell ⟨G, d * 3, none⟩ (.bool true)).setCell ⟨G, d * 3 + 1, none⟩ (.int .i64 (stepW b c te fo).1)).setCell ⟨G, d * 3 + 2, none⟩ v) := by
  subst hte hfo
  exact cheap_put hD hB hS hfi hP hbr hsw hw hb hX hr hd hd0 hi' hPG hG hSS

theorem CheapIn.rel {D : Dic} {t : ByteArray} {lo hi i n P : Nat} {w X : World} {b : BWay} {bv x : Value} (h : CheapIn D t lo hi i n w.heap.size P w b bv (SK D t i D.length) X) (hli : lo ≤ i) (hih : i < hi) (hx : x = .int .i64 ((i + 1 : Nat) : Int)) : CheapRel D t lo hi n w (hi - (i + 1)) x X := by
  obtain ⟨f, h1, h2, _, _, _, h6⟩ := h
  exact ⟨i + 1, f, rfl, by omega, by omega, hx, h1, h2.congr SK_all, h6⟩

theorem same_behind {X X' : World} (h : Below X.drew.heap.size X.drew X') : Same X X' := Kept.trans (Kept.drew (Same.refl X)) (Kept.of_below h (fun _ => False)) fun _ e => e.elim
theorem same_frz {X X' : World} {G : Nat} (hs : Same X X') (hG : G + 1 ≤ X.heap.size) (h : ∀ o, X.frozen? ⟨G, o, none⟩ = false) : ∀ o, X'.frozen? ⟨G, o, none⟩ = false := fun o => (Kept.frozen hs (p := ⟨G, o, none⟩) hG id).trans (h o)

set_option maxHeartbeats 8000000 in
set_option maxRecDepth 100000 in
theorem cheapest_any (w : World) (B : Nat) (D : Dic) (Wv Cv : Value) (hB : BookAt w B D Wv Cv) (hD : Small D) (t : ByteArray) (ht : t.size ≤ 500) (lo hi : Nat) (hlh : lo < hi) (hht : hi ≤ t.size) (hlo : Edge t lo) (hhi : Edge t hi)
    (hin : ∀ i k, lo ≤ i → i < hi → k < D.length → Stands t i (wd D k) → i + (wd D k).size ≤ hi) :
    Calls Try.prog 71 #[.pointer (some ⟨B, 0, none⟩), .string t, .int .i64 lo, .int .i64 hi] w fun e w' => CheapEnd D t lo hi w w' e := by
  obtain ⟨iw, hiw, hw0, hw1, hw2⟩ := info_parts Try.infoWay
  obtain ⟨n, hn⟩ : ∃ n, n = hi - lo := ⟨_, rfl⟩
  obtain ⟨m, hm⟩ : ∃ m, m = n + 1 := ⟨_, rfl⟩
  have hn1 : (hi : Int) - (lo : Int) = (n : Int) := by omega
  have hm1 : (n : Int) + 1 = (m : Int) := by omega
  have hm9 : m ≤ 501 := by omega
  have hm0 : 0 < m := by omega
  have hwn : IntKind.i64.wrap (n : Int) = (n : Int) := by rw [IntKind.wrap_i64]; omega
  have hwm : IntKind.i64.wrap (m : Int) = (m : Int) := by rw [IntKind.wrap_i64]; omega
  have hm0' : (0 : Int) < (m : Int) := by omega
  obtain ⟨pw, capw, rfl, _⟩ := row_form hB.ow
  obtain ⟨pc, capc, rfl, _⟩ := row_form hB.oc
  have HB : Hid (BookAt w B D (.slice pw D.length capw) (.slice pc D.length capc)) := hB
  have HD : Hid (Small D) := hD
  have hD150 := hD.1
  have HLO : Hid (Edge t lo) := hlo
  have HHI : Hid (Edge t hi) := hhi
  have HIN : Hid (∀ i k, lo ≤ i → i < hi → k < D.length → Stands t i (wd D k) → i + (wd D k).size ≤ hi) := hin
  have HM : Hid (m = n + 1) := hm
  have HN : Hid (n = hi - lo) := hn
  have hb1 : iw.bytes * m ≤ 281474976710656 := by rw [hw2]; omega
  have hb2 : m ≤ maxLen := by unfold maxLen; omega
  clear hB hD hlo hhi hin hm hn
  go_enter Try.func71, Try.ntmps71
  go_wp2_with (at_make; refine wpList_make_full _ rfl (.tmp 19) (.tmp 19) 158 rfl w.heap.size 160 iw _ 3 Try.underlying158 hiw hw0 hw1 .i64 .i64 _ _ m rfl rfl rfl rfl hb1 hb2 (Nat.le_refl _) ?_)
  intro w1 hown hgrow
  have hsame1 : Same w w1 := (Kept.refl w _).grown hgrow (fun k hk => by cases hk)
  have HB0 : Hid (BestW (w1.setCell ⟨w.heap.size, 0, none⟩ (.bool true)) w.heap.size lo n (fun p => if p = lo then some (0, []) else none)) := BestW.start HM.out hown
  have HS0 : Hid (Same w (w1.setCell ⟨w.heap.size, 0, none⟩ (.bool true))) := Kept.setCell hsame1 _ _ (.inr (Nat.le_refl _))
  have hf0 := hown.frozenAt 0
  have hc0 : w1.cell? ⟨w.heap.size, 0, none⟩ = some (.bool false) := by
    have := (made_at (.bool false) (.int .i64 0) (.slice none 0 0) m 0 hm0).1
    rw [← this]
    exact hown.cellAt (0 * 3) (by omega)
  clear hown hgrow hsame1
  go_wp2_with fail
  clear hf0 hc0
  go_loopg [10] n (fun g x wr => CheapRel D t lo hi n w g x wr)
  case atStart => exact ⟨lo, _, HN.out, Nat.le_refl _, by omega, rfl, HB0.out, best_start D t lo hi HD.out, HS0.out⟩
  case round =>
    obtain ⟨i, f, rfl, hli, hih, rfl, hBW, hBS, hsm⟩ := hrel
    have HBW : Hid (BestW wr w.heap.size lo n f) := hBW
    have HBS : Hid (BestS D t lo hi (Sat D t i) f) := hBS
    have HSM : Hid (Same w wr) := hsm
    clear hBW hBS hsm
    by_cases hlt : i < hi
    · have hlt' : (i : Int) < (hi : Int) := by omega
      have hit : i ≤ t.size := by omega
      by_cases he : Edge t i
      · have hd : decide (Edge t i) = true := decide_eq_true he
        obtain ⟨b, hfi, hway, hbest, hbc, hbl⟩ := best_some HD.out HBS.out HLO.out hli hih hht he
        have HE : Hid (Edge t i) := he
        have HFI : Hid (f i = some b) := hfi
        have HWAY : Hid (Way D t lo i b.2 b.1) := hway
        have HBEST : Hid (∀ l c, Way D t lo i l c → bleq b (c, l)) := hbest
        obtain ⟨d, hdd⟩ : ∃ d, d = i - lo := ⟨_, rfl⟩
        have hdi : lo + d = i := by omega
        have hdn : d ≤ n := by have := HN.out; omega
        have hd1 : (i : Int) - (lo : Int) = (d : Int) := by omega
        have hwd : IntKind.i64.wrap (d : Int) = (d : Int) := by rw [IntKind.wrap_i64]; omega
        have hdm : (d : Int) < (m : Int) := by have := HM.out; omega
        have hbl5 : b.2.length ≤ 900 := by omega
        have hb15 : b.1 ≤ 1000000 := by have := hway.facts HD.out; omega
        obtain ⟨hx0, hx1, bv, hx2, hbr⟩ := HBW.out.cell d hdn
        rw [hdi, hfi] at hx0 hx1 hbr
        simp only [Option.isSome, wCost, wList] at hx0 hx1 hbr
        obtain ⟨ab, cb, rfl, _⟩ := row_form hbr
        have HBR : Hid (wr.ownsRow (w.heap.size + 1) 3 1 (.slice ab b.2.length cb) b.2.length (intCells b.2)) := hbr
        have hGlt : w.heap.size < wr.heap.size := HBW.out.lt
        obtain ⟨e1, he1⟩ : ∃ e1, e1 = i + 1 := ⟨_, rfl⟩
        have HE1 : Hid (e1 = i + 1) := he1
        have hi11 : (i : Int) + 1 = (e1 : Int) := by omega
        have hwe1 : IntKind.i64.wrap (e1 : Int) = (e1 : Int) := by rw [IntKind.wrap_i64]; omega
        clear he1 he hfi hway hbest hbc hbr hdd
        go_wp2_with fail
        refine (edge_any t i _ ht hit).mono ?_
        rintro e wr ⟨rfl, rfl⟩
        rw [hd]
        go_wp2_with fail
        clear hx0 hx1 hx2 hdm hwd hd1 hwe1 hi11 hwm hwn hn1 hm1
        obtain ⟨P, hP⟩ : ∃ P, P = wr.heap.size := ⟨_, rfl⟩
        have HPG : Hid (P ≠ w.heap.size) := by show P ≠ _; omega
        have HCELL : Hid (Cells3 (wr.alloc (.cells #[.bool true, .int .i64 b.1, .slice ab b.2.length cb] 160)) P (.bool true) (.int .i64 b.1) (.slice ab b.2.length cb)) := Cells3.new _ _ _ _ _ _ hP
        have hS1 : Same wr (wr.alloc (.cells #[.bool true, .int .i64 b.1, .slice ab b.2.length cb] 160)) := (Same.refl wr).alloc _
        have HS1 : Hid (Same wr (wr.alloc (.cells #[.bool true, .int .i64 b.1, .slice ab b.2.length cb] 160))) := hS1
        rw [← hP]
        generalize hW1 : wr.alloc (.cells #[.bool true, .int .i64 b.1, .slice ab b.2.length cb] 160) = W1 at HCELL HS1 ⊢
        clear hW1 hS1 hP
        have HBW1 : Hid (BestW W1 w.heap.size lo n f) := HBW.out.same HS1.out
        have HBR1 : Hid (W1.ownsRow (w.heap.size + 1) 3 1 (.slice ab b.2.length cb) b.2.length (intCells b.2)) := HS1.out.row HBR.out
        have HSM1 : Hid (Same w W1) := Kept.trans HSM.out HS1.out fun _ e => e.elim
        clear HBW HBR HSM HS1
        go_loopg [13] (hi - e1) (fun g x wx => NextE t i hi g W1 x wx)
        case atStart => exact ⟨e1, rfl, by have := HE1.out; omega, by have := HE1.out; omega, rfl, fun j a b => by have := HE1.out; omega, rfl⟩
        case round =>
          obtain ⟨te, rfl, hte1, hte2, rfl, hte3, rfl⟩ := hrel
          have HTE : Hid (∀ j, i < j → j < te → ¬ Edge t j) := hte3
          have htt : te ≤ t.size := by omega
          clear hte3
          by_cases hee : Edge t te
          · have hde : decide (Edge t te) = true := decide_eq_true hee
            have HST : Hid (StepC t i te 500) := ⟨HE.out, hte1, htt, hee, HTE.out, rfl⟩
            clear hee
            go_wp2_with fail
            refine (edge_any t te _ ht htt).mono ?_
            rintro e wr ⟨rfl, rfl⟩
            rw [hde]
            obtain ⟨dt, hdt⟩ : ∃ dt, dt = te - lo := ⟨_, rfl⟩
            have hdte : lo + dt = te := by omega
            have hdt0 : 0 < dt := by omega
            have hdtn : dt ≤ n := by have := HN.out; omega
            have hdt1 : (te : Int) - (lo : Int) = (dt : Int) := by omega
            have hwdt : IntKind.i64.wrap (dt : Int) = (dt : Int) := by rw [IntKind.wrap_i64]; omega
            have hdtm : (dt : Int) < (m : Int) := by have := HM.out; omega
            have hte9 : te ≤ 1000 := by omega
            have h500 : 500 ≤ 1000 := by decide
            have hite : i ≠ lo + dt := by omega
            obtain ⟨hol, hoc⟩ := HBS.out.bounds HD.out (fun q p c h => h.1) (by omega) (p := te) (by omega) hte2
            have hol : (wList (f te)).length ≤ 1000 := by omega
            obtain ⟨hy0, hy1, ov, hy2, hor⟩ := HBW1.out.cell dt hdtn
            rw [hdte] at hy0 hy1 hor
            obtain ⟨ao, co, rfl, _⟩ := row_form hor
            have HOR : Hid (wr.ownsRow (w.heap.size + 1) 3 1 (.slice ao (wList (f te)).length co) (wList (f te)).length (intCells (wList (f te)))) := hor
            have hfz := HBW1.out.fz
            have hPc0 := HCELL.out.c0
            have hPc1 := HCELL.out.c1
            have hPc2 := HCELL.out.c2
            have hGs : w.heap.size + 1 ≤ wr.heap.size := HBW1.out.lt
            have HDT : Hid (lo + dt = te) := hdte
            have hSd : Same wr wr.drew := Kept.drew (Same.refl wr)
            have HSD : Hid (Same wr wr.drew) := hSd
            obtain ⟨fo, hfo⟩ : ∃ fo, fo = f te := ⟨_, rfl⟩
            rw [← hfo] at hy0 hy1 hy2 HOR hol
            have HFO : Hid (fo = f te) := hfo
            clear hdt hdte hor hSd hoc hfo hte1 hdt0
            have HDT0 : Hid (0 < dt) := by show 0 < dt; have := HDT.out; have := HST.out.2.1; omega
            go_upto_region 12 with fail
            go_cut [13] (fun x wx => x = .int .i64 te ∧ CheapIn D t lo hi i n w.heap.size P w b (.slice ab b.2.length cb) (SK D t i 0) wx)
            case first =>
              go_region_with (go_at_call 101; go_must (refine (step_any wr.drew (w.heap.size + 1) hGs b _ (HSD.out.row HBR1.out) fo _ (HSD.out.row HOR.out) 500 te hb15 hbl5 hol h500 hte9).mono ?_); rintro e w2 ⟨⟨v, rfl, hrv⟩, hbw2⟩; obtain ⟨av, cv, rfl, _⟩ := row_form hrv; have hsw2 := same_behind hbw2; have hq0 := hsw2.cell hy0; have hq1 := hsw2.cell hy1; have hq2 := hsw2.cell hy2; have hqz := same_frz hsw2 hGs hfz)
              all_goals
                have HC : Hid (CheapIn D t lo hi i n w.heap.size P w b (.slice ab b.2.length cb) (SK D t i 0) (((w2.setCell ⟨w.heap.size, dt * 3, none⟩ (.bool true)).setCell ⟨w.heap.size, dt * 3 + 1, none⟩ (.int .i64 (stepW b 500 te fo).1)).setCell ⟨w.heap.size, dt * 3 + 2, none⟩ (.slice av (stepW b 500 te fo).2.length cv))) :=
                  cheap_put2 HD.out HDT.out HFO.out HBW1.out HBS.out HFI.out HCELL.out HBR1.out HSM1.out HWAY.out HBEST.out hsw2 hrv hdtn HDT0.out hite HPG.out (Nat.le_refl _) (SK_zero HST.out)
                clear hrv hbw2 hsw2 hq0 hq1 hq2 hqz
                go_wp2_with fail
                go_meet
                exact ⟨rfl, HC.out⟩
            case rest =>
              obtain ⟨rfl, hci⟩ := hcut
              have HCI : Hid (CheapIn D t lo hi i n w.heap.size P w b (.slice ab b.2.length cb) (SK D t i 0) wc) := hci
              clear hci hy0 hy1 hy2 hfz hPc0 hPc1 hPc2 hwdt hdt1 hdtm HOR HCELL HBW1 HBR1 HSM1 HFO HSD hGs
              go_wp2_with fail
              go_loopg [14] D.length (fun g y wx => KRel D t lo hi i n w.heap.size P w b (.slice ab b.2.length cb) g y wx)
              case atStart => exact ⟨0, rfl, Nat.zero_le _, rfl, HCI.out⟩
              case round =>
                obtain ⟨k, rfl, hk, rfl, hci⟩ := hrel
                have HCK : Hid (CheapIn D t lo hi i n w.heap.size P w b (.slice ab b.2.length cb) (SK D t i k) wr) := hci
                have hsmk : Same w wr := by obtain ⟨_, _, _, _, _, _, h⟩ := hci; exact h
                have HBK : Hid (BookAt wr B D (.slice pw D.length capw) (.slice pc D.length capc)) := hsmk.book HB.out
                have hbk0 := HBK.out.c0
                clear hci hsmk HCI
                by_cases hkl : k < D.length
                · have hkl' : (k : Int) < (D.length : Int) := by omega
                  by_cases hs : Stands t i (wd D k)
                  · have hds : decide (Stands t i (wd D k)) = true := decide_eq_true hs
                    obtain ⟨f2, q1, q2, q3, q4, q5, q6⟩ := HCK.out
                    obtain ⟨gw, gc, capw', capc', hWe, hCe, _, hbk1, hwk, hck⟩ := HBK.out.word hkl
                    cases hWe
                    cases hCe
                    obtain ⟨hxs1, hxs2, hct⟩ := HD.out.at hkl
                    have hle := HIN.out i k hli hlt hkl hs
                    obtain ⟨c, hc⟩ : ∃ c, c = ct D k := ⟨_, rfl⟩
                    obtain ⟨tk, htk⟩ : ∃ tk, tk = i + (wd D k).size := ⟨_, rfl⟩
                    obtain ⟨dk, hdk⟩ : ∃ dk, dk = tk - lo := ⟨_, rfl⟩
                    have HTK : Hid (tk = i + (wd D k).size) := htk
                    have HCC : Hid (c = ct D k) := hc
                    rw [← hc] at hck hct
                    have htk1 : (i : Int) + ((wd D k).size : Int) = (tk : Int) := by omega
                    have hwtk : IntKind.i64.wrap (tk : Int) = (tk : Int) := by rw [IntKind.wrap_i64]; omega
                    have hdk1 : (tk : Int) - (lo : Int) = (dk : Int) := by omega
                    have hwdk : IntKind.i64.wrap (dk : Int) = (dk : Int) := by rw [IntKind.wrap_i64]; omega
                    have hdkm : (dk : Int) < (m : Int) := by have := HM.out; have := HN.out; omega
                    have hdkn : dk ≤ n := by have := HN.out; omega
                    have HDK0 : Hid (0 < dk) := by show 0 < dk; omega
                    have HDK : Hid (lo + dk = tk) := by show lo + dk = tk; omega
                    have hik : i ≠ lo + dk := by omega
                    have htk9 : tk ≤ 1000 := by omega
                    have hol2 : (wList (f2 tk)).length ≤ 1000 := by
                      have := (q2.bounds HD.out (fun _ _ _ h => h.step) (by omega) (p := tk) (by omega) (by omega)).1
                      omega
                    obtain ⟨hy0, hy1, ov, hy2, hor⟩ := q1.cell dk hdkn
                    rw [HDK.out] at hy0 hy1 hor
                    obtain ⟨ao2, co2, rfl, _⟩ := row_form hor
                    obtain ⟨fk, hfk⟩ : ∃ fk, fk = f2 tk := ⟨_, rfl⟩
                    have HFK : Hid (fk = f2 tk) := hfk
                    rw [← hfk] at hy0 hy1 hy2 hor hol2
                    have HOR2 : Hid (wr.ownsRow (w.heap.size + 1) 3 1 (.slice ao2 (wList fk).length co2) (wList fk).length (intCells (wList fk))) := hor
                    have HBR2 : Hid (wr.ownsRow (w.heap.size + 1) 3 1 (.slice ab b.2.length cb) b.2.length (intCells b.2)) := q5
                    have hfz := q1.fz
                    have hPc0 := q4.c0
                    have hPc1 := q4.c1
                    have hPc2 := q4.c2
                    have hGs : w.heap.size + 1 ≤ wr.heap.size := q1.lt
                    have HSD : Hid (Same wr wr.drew) := Kept.drew (Same.refl wr)
                    have HQ1 : Hid (BestW wr w.heap.size lo n f2) := q1
                    have HQ2 : Hid (BestS D t lo hi (SK D t i k) f2) := q2
                    have HQ3 : Hid (f2 i = some b) := q3
                    have HQ4 : Hid (Cells3 wr P (.bool true) (.int .i64 b.1) (.slice ab b.2.length cb)) := q4
                    have HQ6 : Hid (Same w wr) := q6
                    have HSY : Hid (∀ q p' c', SK D t i (k + 1) q p' c' ↔ SK D t i k q p' c' ∨ (q = i ∧ p' = tk ∧ c' = c)) := by
                      intro q p' c'
                      rw [HTK.out, HCC.out]
                      exact SK_yes hkl hs q p' c'
                    clear q1 q2 q3 q4 q5 q6 hor hfk hdk htk hc hs hle
                    go_wp2_with fail
                    refine (stands_any _ B D _ _ HBK.out HD.out t i k ht hit hkl).mono ?_
                    rintro e wr ⟨rfl, rfl⟩
                    rw [hds]
                    go_upto_region 19 with fail
                    go_region_with (go_at_call 101; go_must (refine (step_any wr.drew (w.heap.size + 1) hGs b _ (HSD.out.row HBR2.out) fk _ (HSD.out.row HOR2.out) c tk hb15 hbl5 hol2 hct htk9).mono ?_); rintro e w2 ⟨⟨v, rfl, hrv⟩, hbw2⟩; obtain ⟨av, cv, rfl, _⟩ := row_form hrv; have hsw2 := same_behind hbw2; have hq0 := hsw2.cell hy0; have hq1 := hsw2.cell hy1; have hq2 := hsw2.cell hy2; have hqz := same_frz hsw2 hGs hfz)
                    all_goals
                      have hci : CheapIn D t lo hi i n w.heap.size P w b (.slice ab b.2.length cb) (SK D t i (k + 1)) (((w2.setCell ⟨w.heap.size, dk * 3, none⟩ (.bool true)).setCell ⟨w.heap.size, dk * 3 + 1, none⟩ (.int .i64 (stepW b c tk fk).1)).setCell ⟨w.heap.size, dk * 3 + 2, none⟩ (.slice av (stepW b c tk fk).2.length cv)) :=
                        cheap_put2 HD.out HDK.out HFK.out HQ1.out HQ2.out HQ3.out HQ4.out HBR2.out HQ6.out HWAY.out HBEST.out hsw2 hrv hdkn HDK0.out hik HPG.out (Nat.le_refl _) HSY.out
                      have HN2 : Hid (KRel D t lo hi i n w.heap.size P w b (.slice ab b.2.length cb) (D.length - (k + 1)) (.int .i64 ((k : Int) + 1)) (((w2.setCell ⟨w.heap.size, dk * 3, none⟩ (.bool true)).setCell ⟨w.heap.size, dk * 3 + 1, none⟩ (.int .i64 (stepW b c tk fk).1)).setCell ⟨w.heap.size, dk * 3 + 2, none⟩ (.slice av (stepW b c tk fk).2.length cv))) := ⟨k + 1, rfl, hkl, by go_num, hci⟩
                      clear hci hrv hbw2 hsw2 hq0 hq1 hq2 hqz
                      clear hy0 hy1 hy2 hfz hPc0 hPc1 hPc2 hwdk hdk1 hdkm hwtk htk1 HOR2 HBR2 HQ1 HQ2 HQ3 HQ4 HQ6 HFK HSD hGs hwk hck hbk0 hbk1 HBK HCK
                      go_wp2_with fail
                      go_roundg (D.length - (k + 1))
                      case measure => exact Nat.sub_lt_sub_left hkl (Nat.lt_succ_self k)
                      case rel => exact HN2.out
                  · have hds : decide (Stands t i (wd D k)) = false := decide_eq_false hs
                    have HN2 : Hid (KRel D t lo hi i n w.heap.size P w b (.slice ab b.2.length cb) (D.length - (k + 1)) (.int .i64 ((k : Int) + 1)) wr) := ⟨k + 1, rfl, hkl, by go_num, HCK.out.same (Same.refl _) (SK_no hs)⟩
                    clear hs
                    go_wp2_with fail
                    refine (stands_any _ B D _ _ HBK.out HD.out t i k ht hit hkl).mono ?_
                    rintro e wr ⟨rfl, rfl⟩
                    rw [hds]
                    go_wp2_with fail
                    go_roundg (D.length - (k + 1))
                    case measure => exact Nat.sub_lt_sub_left hkl (Nat.lt_succ_self k)
                    case rel => exact HN2.out
                · obtain rfl : k = D.length := by omega
                  have HN2 : Hid (CheapRel D t lo hi n w (hi - (i + 1)) (.int .i64 ((i : Int) + 1)) wr) := HCK.out.rel hli hlt (by go_num)
                  go_wp2_with fail
                  go_roundg (hi - (i + 1))
                  case measure => exact Nat.sub_lt_sub_left hlt (Nat.lt_succ_self i)
                  case rel => exact HN2.out
          · have hde : decide (Edge t te) = false := decide_eq_false hee
            have hlt2 : te < hi := by
              rcases Nat.lt_or_ge te hi with h | h
              · exact h
              · exact absurd HHI.out (by rw [show hi = te by omega]; exact hee)
            have HTE2 : Hid (∀ j, i < j → j < te + 1 → ¬ Edge t j) := fun j h1 h2 => by
              by_cases e : j = te
              · subst e; exact hee
              · exact HTE.out j h1 (by omega)
            clear hee
            go_wp2_with fail
            refine (edge_any t te _ ht htt).mono ?_
            rintro e W1 ⟨rfl, rfl⟩
            rw [hde]
            go_wp2_with fail
            go_roundg (hi - (te + 1))
            case measure => omega
            case rel => exact ⟨te + 1, rfl, by omega, by omega, by go_num, HTE2.out, rfl⟩
      · have hd : decide (Edge t i) = false := decide_eq_false he
        have HN2 : Hid (CheapRel D t lo hi n w (hi - (i + 1)) (.int .i64 ((i : Int) + 1)) wr) := ⟨i + 1, f, rfl, by omega, by omega, by go_num, HBW.out, HBS.out.congr (Sat_skip he), HSM.out⟩
        clear he
        go_wp2_with fail
        refine (edge_any t i _ ht hit).mono ?_
        rintro e w' ⟨rfl, rfl⟩
        rw [hd]
        go_wp2_with fail
        go_roundg (hi - (i + 1))
        case measure => omega
        case rel => exact HN2.out
    · obtain rfl : i = hi := by omega
      obtain ⟨b, hfi, hway, hbest, hbc, hbl⟩ := best_some HD.out HBS.out HLO.out hli hih hht HHI.out
      have hdi : lo + n = i := by have := HN.out; omega
      have hdm : (n : Int) < (m : Int) := by have := HM.out; omega
      obtain ⟨hx0, hx1, bv, hx2, hbr⟩ := HBW.out.cell n (Nat.le_refl _)
      rw [hdi, hfi] at hx0 hx1 hbr
      simp only [Option.isSome, wCost, wList] at hx0 hx1 hbr
      obtain ⟨ab, cb, rfl, _⟩ := row_form hbr
      have HEND : Hid (CheapEnd D t lo i w wr (.returned (.slice ab b.2.length cb))) := ⟨⟨_, b.2, rfl, ⟨b.1, hway, fun l' c' h' => hbest l' c' h'⟩, row_base hbr (by omega), by omega⟩, HSM.out.below (Below.refl _ _) (Nat.le_refl _)⟩
      clear hfi hway hbest hbc hbr hbl
      go_wp2_with fail
      go_ret
      exact HEND.out

end Go.Proofs.Ytlfpepehngkehaa
