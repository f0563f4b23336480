import Derived.Test.YtmcajfefagdbnaaGreatLKRound
import Derived.Test.YtmcajfefagdbnaaGreatLPWins
namespace Go.Proofs.YtmcajfefagdbnaaGreat
open Go Go.RowKit
theorem kWins {L : Lay} {bs : Nat → Nat} {ow : Ow} {j : Nat} {s : St} {w : World} (h : KSt L bs ow j s w) (hw : s.wins.length ≤ 1048576) :
  Calls Tryz.prog 29 #[.pointer (some ⟨L.p, 0, none⟩)] w fun e w' => ∃ a, e = .returned (.slice (some ⟨a, 0, none⟩) s.wins.length s.wins.length) ∧ w.heap.size ≤ a ∧ w'.heap[a]? = some (.cells (winsCells s.wins).toArray 3 (0, 0)) ∧ KSt L bs ow j s w' ∧ Kept (OwnP ow) w w' := by
 obtain ⟨q, hq, hP⟩ := h.ex
 refine (pWins hP hw).mono ?_
 rintro e w' ⟨a, rfl, h1, h2, h3, h4⟩
 exact ⟨a, rfl, h1, h2, ⟨⟨q, hq, h3⟩, h.good, h.act, h.n5, h.ag, h.wins, h.clock, h.in9⟩, h4⟩
theorem mkOp_five (o : Op4) : (0 < modeOf (mkOp false o) → 0 ≤ (mkOp false o).a ∧ (mkOp false o).a < 5) ∧ (mkOp false o).k ≠ 5 := by
 have b1 := pickI_ge o.a (n := 4) (by omega)
 have b2 := pickI_lt o.a (n := 4) (by omega)
 have b3 := pickI_ge o.a (n := 5) (by omega)
 have b4 := pickI_lt o.a (n := 5) (by omega)
 unfold mkOp
 split
 ·exact ⟨fun _ => ⟨by simp only; omega, by simp only; omega⟩, by simp⟩
 ·split
  ·exact ⟨fun _ => ⟨by simp, by simp⟩, by simp⟩
  ·rename_i h
   exact ⟨fun _ => ⟨by simp only; omega, by simp only; omega⟩, h⟩
theorem mkS_five (raw : List Int) (ls : List (List Op4)) : ∀ k, Ops5 (mkS raw ls false k) ∧ Keys5 (mkS raw ls false k) ∧ (mkS raw ls false k).wins.length + alive (mkS raw ls false k) = (mkS raw ls false k).n
 | 0 => ⟨fun i o ho => (by cases ho), fun k hk => (by cases hk), rfl⟩
 | k + 1 => by
  obtain ⟨h1, h2, h3⟩ := mkS_five raw ls k
  refine ⟨fun i o ho => ?_, h2, ?_⟩
  ·by_cases e : i = (mkS raw ls false k).n + 1
   ·have : (mkS raw ls false (k + 1)).tx i = ⟨(mkS raw ls false k).clock + 1, 0, mkOps false 6 (ls.getD k []), 0, false, none, 0, fun _ => 0, [], []⟩ := by rw [e]; exact upd_same _ _ _
    rw [this] at ho
    obtain ⟨x, _, rfl⟩ := List.mem_map.1 ho
    exact mkOp_five x
   ·have : (mkS raw ls false (k + 1)).tx i = (mkS raw ls false k).tx i := admit_tx _ _ e
    rw [this] at ho; exact h1 i o ho
  ·show (mkS raw ls false k).wins.length + alive ((mkS raw ls false k).admit _) = (mkS raw ls false k).n + 1
   rw [alive_admit]; omega
theorem mkS_ops (raw : List Int) (ls : List (List Op4)) (stops : Bool) : ∀ k, k ≤ ls.length → ∀ i, 1 ≤ i → i ≤ k → ((mkS raw ls stops k).tx i).ops = (mkL ls stops k).getD (i - 1) []
 | 0, _, i, h1, h2 => by omega
 | k + 1, hk, i, h1, h2 => by
  rw [mkL_succ ls stops k (by omega)]
  have hl := mkL_len ls stops k (by omega)
  by_cases e : i = k + 1
  ·have h0 : i = (mkS raw ls stops k).n + 1 := by rw [mkS_n]; exact e
   have : (mkS raw ls stops (k + 1)).tx i = ⟨(mkS raw ls stops k).clock + 1, 0, mkOps stops 6 (ls.getD k []), 0, false, none, 0, fun _ => 0, [], []⟩ := by rw [h0]; exact upd_same _ _ _
   rw [this]
   show mkOps stops 6 (ls.getD k []) = _
   generalize mkOps stops 6 (ls.getD k []) = x
   rw [e, Nat.add_sub_cancel, List.getD_eq_getElem?_getD, List.getElem?_append_right (by omega), hl]
   simp
  ·have : (mkS raw ls stops (k + 1)).tx i = (mkS raw ls stops k).tx i := admit_tx _ _ (by rw [mkS_n]; exact e)
   rw [this, mkS_ops raw ls stops k (by omega) i h1 (by omega), List.getD_eq_getElem?_getD, List.getD_eq_getElem?_getD, List.getElem?_append_left (by omega)]
theorem mkL_six (ls : List (List Op4)) (stops : Bool) (k i : Nat) : ((mkL ls stops k).getD i []).length ≤ 6 := by
 rw [List.getD_eq_getElem?_getD]
 cases h : (mkL ls stops k)[i]? with
 | none => simp
 | some l =>
  obtain ⟨x, _, rfl⟩ := List.mem_map.1 (List.mem_of_getElem? h)
  exact mkOps_len stops 6 x
set_option maxRecDepth 20000 in
set_option maxHeartbeats 3200000 in
theorem endsLaw (vr : Value) (raw : List Int) (vt : Value) (ls : List (List Op4)) (vs : Value) (steps : List Int) (turn : Int) (w : World) (hr : IntsSrc w vr raw) (hrl : raw.length ≤ 17592186044416) (hrin : ∀ x ∈ raw, inI x) (ht : TxnsSrc w vt ls) (htl : ls.length ≤ 17592186044416) (htin : ∀ l ∈ ls, OpsIn l ∧ l.length ≤ 17592186044416) (hs : IntsSrc w vs steps) (hsl : steps.length ≤ 17592186044416) (hsin : ∀ x ∈ steps, inI x) (htu : inI turn) :
  Calls Tryz.prog 10 #[vr, vt, vs, .int .i64 turn] w fun e w' => e = .returned (.bool true) ∧ Kept NoBlk w w' := by
 have HM : Hid (Calls Tryz.prog 20 #[vr, vt, .bool false] w fun e w' => ∃ wb L bs ow, e = .returned (.pointer (some ⟨wb, 0, none⟩)) ∧ KSt L bs ow 0 (mkS raw ls false (min ls.length 5)) w' ∧ KWh ow w' wb L (firstT raw 5) (firstV raw 5) (mkL ls false (min ls.length 5)) ∧ Fr w.heap.size ow ∧ Kept NoBlk w w') := made_any vr raw vt ls false w hr hrl hrin ht htl htin
 have HS : Hid (IntsSrc w vs steps) := hs
 have HSI : Hid (∀ x ∈ steps, inI x) := hsin
 obtain ⟨ra, rc, rfl, _⟩ := hr
 obtain ⟨ta, tc, rfl, _⟩ := ht
 obtain ⟨sa, sc, rfl, _⟩ := hs
 have HTN : Hid (min ls.length 5 ≤ ls.length) := Nat.min_le_left _ _
 generalize raw.length = rn at *
 generalize hsn : steps.length = sn at *
 have HSN : Hid (steps.length = sn) := hsn
 clear hrin htin hsin hsn
 go_enter Tryz.func10, Tryz.ntmps10
 go_wp2_with fail
 refine HM.out.mono ?_
 rintro e w1 ⟨wb, L, bs, ow, rfl, h1, hw1, hf1, hk1⟩
 have HLN : Hid ((mkL ls false (min ls.length 5)).length = (mkS raw ls false (min ls.length 5)).n) := by unfold Hid; rw [mkS_n, mkL_len _ _ _ HTN.out]
 have HAW : Hid (AllWon (mkS raw ls false (min ls.length 5)) ∧ (∀ i, 1 ≤ i → i ≤ (mkS raw ls false (min ls.length 5)).n → ((mkS raw ls false (min ls.length 5)).tx i).ops = (mkL ls false (min ls.length 5)).getD (i - 1) []) ∧ ∀ i, ((mkL ls false (min ls.length 5)).getD i []).length ≤ 6) := by
  obtain ⟨a1, a2, a3⟩ := mkS_five raw ls (min ls.length 5)
  exact ⟨⟨h1.good, a1, a2, a3⟩, fun i i1 i2 => mkS_ops raw ls false _ HTN.out i i1 (by rw [mkS_n] at i2; exact i2), fun i => mkL_six ls false _ i⟩
 have H1 : Hid (KSt L bs ow 0 (mkS raw ls false (min ls.length 5)) w1 ∧ KWh ow w1 wb L (firstT raw 5) (firstV raw 5) (mkL ls false (min ls.length 5)) ∧ Fr w.heap.size ow ∧ Kept NoBlk w w1) := ⟨h1, hw1, hf1, hk1⟩
 clear h1 hw1 hf1 hk1 HM HTN
 generalize mkS raw ls false (min ls.length 5) = s0 at *
 generalize mkL ls false (min ls.length 5) = l0 at *
 generalize firstT raw 5 = T at *
 generalize firstV raw 5 = V at *
 generalize ls.length = tn at *
 go_wp2_with fail
 go_loopw [10] (fun i wr => ∃ (k : Nat) (ow : Ow) (s : St), k ≤ sn ∧ i = .int .i64 k ∧ (AllWon s ∧ l0.length = s.n ∧ (∀ i, 1 ≤ i → i ≤ s.n → (s.tx i).ops = l0.getD (i - 1) [])) ∧ KSt L bs ow k s wr ∧ KWh ow wr wb L T V l0 ∧ Fr w.heap.size ow ∧ Kept NoBlk w wr) (fun i _ => sn - (intOf i).toNat)
 case atStart => exact ⟨0, ow, s0, by omega, rfl, ⟨HAW.out.1, HLN.out, HAW.out.2.1⟩, H1.out⟩
 case round =>
  have H6 : Hid (∀ i, (l0.getD i []).length ≤ 6) := HAW.out.2.2
  clear H1 HLN HAW
  obtain ⟨k, ow1, s, hk, rfl, hJ, hst, hkw, hfr, hkk⟩ := hrel
  by_cases hlt : k < sn
  ·obtain ⟨sao, scc, hsv, hss⟩ := HS.out.kept hkk (fun _ _ x => x)
   obtain ⟨b, off, hsb, hcell⟩ := hss (by rw [HSN.out]; omega)
   simp only [Value.slice.injEq] at hsv
   obtain ⟨rfl, hh, rfl⟩ := hsv
   clear hh
   subst hsb
   have hc := hcell k (by rw [HSN.out]; exact hlt)
   have hrin : inI (steps.getD k 0) := HSI.out _ (by rw [List.getD_eq_getElem?_getD, List.getElem?_eq_getElem (by rw [HSN.out]; exact hlt)]; exact List.getElem_mem _)
   have HST : Hid (Calls Tryz.prog 30 #[.pointer (some ⟨wb, 0, none⟩), .int .i64 (steps.getD k 0)] wr fun e w' => e = .returned (.bool true) ∧ KAft L bs ow1 (k + 1) wr (s.stepR (steps.getD k 0)) w') := wstep_any hst wb (by rw [← hJ.2.1]; exact hkw.kw) hkw.out _ hrin (by omega)
   have HJ : Hid (AllWon (s.stepR (steps.getD k 0)) ∧ l0.length = (s.stepR (steps.getD k 0)).n ∧ (∀ i, 1 ≤ i → i ≤ (s.stepR (steps.getD k 0)).n → ((s.stepR (steps.getD k 0)).tx i).ops = l0.getD (i - 1) [])) := by
    unfold Hid St.stepR
    split
    ·exact hJ
    ·refine ⟨hJ.1.stepN _, by rw [stepN_n]; exact hJ.2.1, fun i h1 h2 => ?_⟩
     rw [stepN_n] at h2
     rw [stepN_ops]; exact hJ.2.2 i h1 h2
   have HR : Hid (KWh ow1 wr wb L T V l0 ∧ Fr w.heap.size ow1 ∧ Kept NoBlk w wr) := ⟨hkw, hfr, hkk⟩
   clear hcell hss hrin hst hkw hfr hkk hJ
   generalize steps.getD k 0 = rk at *
   have j0 : (0 : Int) ≤ (k : Int) := by omega
   have j1 : (k : Int) < (sn : Int) := by omega
   go_wp2_with fail
   refine HST.out.mono ?_
   rintro e w5 ⟨rfl, ⟨ow5, h5, ha5⟩, hk5⟩
   have H5 : Hid (KSt L bs ow5 (k + 1) (s.stepR rk) w5 ∧ KWh ow5 w5 wb L T V l0 ∧ Fr w.heap.size ow5 ∧ Kept NoBlk w w5) := by
    obtain ⟨g1, g2, g3⟩ := HR.out
    exact ⟨h5, g1.aft hk5 ha5, g2.agree ha5 g3.size, g2.kept (Nat.le_refl _) g3 hk5⟩
   clear h5 ha5 hk5 HST HR hc
   go_wp2_with fail
   go_roundw
   case rel => exact ⟨k + 1, ow5, s.stepR rk, by omega, by go_num, HJ.out, H5.out⟩
   case measure => simp [intOf]; omega
  ·have HEN : Hid (Calls Tryz.prog 31 #[.pointer (some ⟨wb, 0, none⟩), .int .i64 turn] wr fun e w' => e = .returned (.bool true) ∧ ∃ ll, KAft L bs ow1 (k + 550) wr (s.steps ll) w' ∧ ∀ i, 1 ≤ i → i ≤ s.n → ((s.steps ll).tx i).state ≠ 0) := ended_any hst wb hkw hJ.2.1 hJ.2.2 H6.out turn htu (by omega)
   have HJ : Hid (AllWon s ∧ l0.length = s.n) := ⟨hJ.1, hJ.2.1⟩
   have HR : Hid (KWh ow1 wr wb L T V l0 ∧ Fr w.heap.size ow1 ∧ Kept NoBlk w wr) := ⟨hkw, hfr, hkk⟩
   have h5 := hst.n5
   clear hst hkw hfr hkk hJ
   go_wp2_with fail
   refine HEN.out.mono ?_
   rintro e w5 ⟨rfl, ll, ⟨⟨ow5, h5', ha5⟩, hk5⟩, hall⟩
   have hw5 : KWh ow5 w5 wb L T V l0 := HR.out.1.aft hk5 ha5
   have HK5 : Hid (Fr w.heap.size ow5 ∧ Kept NoBlk w w5 ∧ KWh ow5 w5 wb L T V l0) := by
    obtain ⟨g1, g2, g3⟩ := HR.out
    exact ⟨g2.agree ha5 g3.size, g2.kept (Nat.le_refl _) g3 hk5, hw5⟩
   have HWL : Hid ((s.steps ll).wins.length = l0.length) := by
    unfold Hid
    have ha := HJ.out.1.steps ll
    have h0 : alive (s.steps ll) = 0 := by
     unfold alive
     rw [List.length_eq_zero_iff, List.filter_eq_nil_iff]
     intro i hi
     rw [mem_range1, steps_n] at hi
     simpa using hall i hi.1 hi.2
    have h1 := ha.won
    rw [h0, steps_n] at h1
    rw [HJ.out.2]; omega
   have HWI : Hid (Calls Tryz.prog 29 #[.pointer (some ⟨L.p, 0, none⟩)] w5 fun e w' => ∃ a, e = .returned (.slice (some ⟨a, 0, none⟩) l0.length l0.length) ∧ w5.heap.size ≤ a ∧ w'.heap[a]? = some (.cells (winsCells (s.steps ll).wins).toArray 3 (0, 0)) ∧ KSt L bs ow5 (k + 550) (s.steps ll) w' ∧ Kept (OwnP ow5) w5 w') := by
    have := kWins h5' (by rw [HWL.out, HJ.out.2]; omega)
    rw [HWL.out] at this
    exact this
   have c0 : w5.cell? ⟨wb, 0, none⟩ = some (.pointer (some ⟨L.p, 0, none⟩)) := by
    obtain ⟨ov, xs, b1, _⟩ := hw5.body
    rw [cell_at b1]; rfl
   clear h5' ha5 hk5 hall hw5 HEN HR HWL
   go_wp2_with fail
   refine HWI.out.mono ?_
   rintro e w6 ⟨a, rfl, _, _, h6, hk6⟩
   have hw6 := HK5.out.2.2.kept hk6
   have HK6 : Hid (Kept NoBlk w w6) := HK5.out.1.kept (Nat.le_refl _) HK5.out.2.1 hk6
   obtain ⟨cs, ao, c, x1, _, x3⟩ := hw6.kw
   have c11 : w6.cell? ⟨wb, 11, none⟩ = some (.slice ao l0.length c) := by rw [cell_at x1]; exact x3
   clear h6 hk6 hw6 x1 x3 HK5 HWI c0 HJ h5
   generalize l0.length = nl at *
   go_wp2_with fail
   go_ret
   exact ⟨rfl, HK6.out⟩
end Go.Proofs.YtmcajfefagdbnaaGreat
