import Derived.Test.YtmcajfefagdbnaaGreatLKAc2
import Derived.Test.YtmcajfefagdbnaaGreatLKEnds
namespace Go.Proofs.YtmcajfefagdbnaaGreat
open Go Go.RowKit
set_option maxRecDepth 20000 in
set_option maxHeartbeats 3200000 in
theorem acyclicLaw (vr : Value) (raw : List Int) (vt : Value) (ls : List (List Op4)) (vs : Value) (steps : List Int) (w : World) (hr : IntsSrc w vr raw) (hrl : raw.length ≤ 17592186044416) (hrin : ∀ x ∈ raw, inI x) (ht : TxnsSrc w vt ls) (htl : ls.length ≤ 17592186044416) (htin : ∀ l ∈ ls, OpsIn l ∧ l.length ≤ 17592186044416) (hs : IntsSrc w vs steps) (hsl : steps.length ≤ 17592186044416) (hsin : ∀ x ∈ steps, inI x) :
  Calls Tryz.prog 9 #[vr, vt, vs] w fun e w' => e = .returned (.bool true) ∧ Kept NoBlk w w' := by
 have HM : Hid (Calls Tryz.prog 20 #[vr, vt, .bool true] w fun e w' => ∃ wb L bs ow, e = .returned (.pointer (some ⟨wb, 0, none⟩)) ∧ KSt L bs ow 0 (mkS raw ls true (min ls.length 5)) w' ∧ KWh ow w' wb L (firstT raw 5) (firstV raw 5) (mkL ls true (min ls.length 5)) ∧ Fr w.heap.size ow ∧ Kept NoBlk w w') := made_any vr raw vt ls true w hr hrl hrin ht htl htin
 have HS : Hid (IntsSrc w vs steps) := hs
 have HSI : Hid (∀ x ∈ steps, inI x) := hsin
 obtain ⟨ra, rc, rfl, _⟩ := hr
 obtain ⟨ta, tc, rfl, _⟩ := ht
 obtain ⟨sa, sc, rfl, _⟩ := hs
 have HTN : Hid (min ls.length 5 ≤ ls.length) := Nat.min_le_left _ _
 generalize raw.length = rn at *
 generalize hsn : steps.length = sn at *
 have HSN : Hid (steps.length = sn) := hsn
 clear hrin htin hsin hsn
 go_enter Tryz.func9, Tryz.ntmps9
 go_wp2_with fail
 refine HM.out.mono ?_
 rintro e w1 ⟨wb, L, bs, ow, rfl, h1, hw1, hf1, hk1⟩
 have HLN : Hid ((mkL ls true (min ls.length 5)).length = (mkS raw ls true (min ls.length 5)).n) := by unfold Hid; rw [mkS_n, mkL_len _ _ _ HTN.out]
 have HAW : Hid (SerJ (rowsF (firstL raw 5)) (mkS raw ls true (min ls.length 5)) ∧ (∀ i, 1 ≤ i → i ≤ (mkS raw ls true (min ls.length 5)).n → ((mkS raw ls true (min ls.length 5)).tx i).ops = (mkL ls true (min ls.length 5)).getD (i - 1) []) ∧ ∀ i, ((mkL ls true (min ls.length 5)).getD i []).length ≤ 6) := by
  exact ⟨mkS_serJ raw ls true _, fun i i1 i2 => mkS_ops raw ls true _ HTN.out i i1 (by rw [mkS_n] at i2; exact i2), fun i => mkL_six ls true _ i⟩
 have HOL : Hid (∀ i, ∀ o ∈ (mkL ls true (min ls.length 5)).getD i [], OpLaw o) := fun i => mkL_law ls true _ i
 have HTV : Hid (∀ i, i < 5 → firstT raw 5 i = Tf (rowsF (firstL raw 5)) i ∧ firstV raw 5 i = Vf (rowsF (firstL raw 5)) i) := first_TV raw
 have HFV : Hid (Five (rowsF (firstL raw 5))) := (rowsF5 _ _).1
 have H1 : Hid (KSt L bs ow 0 (mkS raw ls true (min ls.length 5)) w1 ∧ KWh ow w1 wb L (firstT raw 5) (firstV raw 5) (mkL ls true (min ls.length 5)) ∧ Fr w.heap.size ow ∧ Kept NoBlk w w1) := ⟨h1, hw1, hf1, hk1⟩
 clear h1 hw1 hf1 hk1 HM HTN
 generalize mkS raw ls true (min ls.length 5) = s0 at *
 generalize mkL ls true (min ls.length 5) = l0 at *
 generalize rowsF (firstL raw 5) = D0 at *
 generalize firstT raw 5 = T at *
 generalize firstV raw 5 = V at *
 generalize ls.length = tn at *
 go_wp2_with fail
 go_loopw [8] (fun i wr => ∃ (k : Nat) (ow : Ow) (s : St), k ≤ sn ∧ i = .int .i64 k ∧ (SerJ D0 s ∧ l0.length = s.n ∧ (∀ i, 1 ≤ i → i ≤ s.n → (s.tx i).ops = l0.getD (i - 1) [])) ∧ KSt L bs ow k s wr ∧ KWh ow wr wb L T V l0 ∧ Fr w.heap.size ow ∧ Kept NoBlk w wr) (fun i _ => sn - (intOf i).toNat)
 case atStart => exact ⟨0, ow, s0, by omega, rfl, ⟨HAW.out.1, HLN.out, HAW.out.2.1⟩, H1.out⟩
 case round =>
  clear H1 HLN HAW
  obtain ⟨k, ow1, s, hk, rfl, hJ, hst, hkw, hfr, hkk⟩ := hrel
  by_cases hlt : k < sn
  ·obtain ⟨sao, scc, hsv, hss⟩ := HS.out.kept hkk (fun _ _ x => x)
   obtain ⟨b, off, hsb, hcell⟩ := hss (by rw [HSN.out]; omega)
   simp only [Value.slice.injEq] at hsv
   obtain ⟨rfl, hh, rfl⟩ := hsv
   clear hh
   subst hsb
   have hc := hcell k (by rw [HSN.out]; exact hlt)
   have hrin : inI (steps.getD k 0) := HSI.out _ (by rw [List.getD_eq_getElem?_getD, List.getElem?_eq_getElem (by rw [HSN.out]; exact hlt)]; exact List.getElem_mem _)
   have HST : Hid (Calls Tryz.prog 30 #[.pointer (some ⟨wb, 0, none⟩), .int .i64 (steps.getD k 0)] wr fun e w' => e = .returned (.bool true) ∧ KAft L bs ow1 (k + 1) wr (s.stepR (steps.getD k 0)) w') := wstep_any hst wb (by rw [← hJ.2.1]; exact hkw.kw) hkw.out _ hrin (by omega)
   have HJ : Hid (SerJ D0 (s.stepR (steps.getD k 0)) ∧ l0.length = (s.stepR (steps.getD k 0)).n ∧ (∀ i, 1 ≤ i → i ≤ (s.stepR (steps.getD k 0)).n → ((s.stepR (steps.getD k 0)).tx i).ops = l0.getD (i - 1) [])) := by
    unfold Hid St.stepR
    split
    ·exact hJ
    ·refine ⟨hJ.1.stepN _, by rw [stepN_n]; exact hJ.2.1, fun i h1 h2 => ?_⟩
     rw [stepN_n] at h2
     rw [stepN_ops]; exact hJ.2.2 i h1 h2
   have HR : Hid (KWh ow1 wr wb L T V l0 ∧ Fr w.heap.size ow1 ∧ Kept NoBlk w wr) := ⟨hkw, hfr, hkk⟩
   clear hcell hss hrin hst hkw hfr hkk hJ
   generalize steps.getD k 0 = rk at *
   have j0 : (0 : Int) ≤ (k : Int) := by omega
   have j1 : (k : Int) < (sn : Int) := by omega
   go_wp2_with fail
   refine HST.out.mono ?_
   rintro e w5 ⟨rfl, ⟨ow5, h5, ha5⟩, hk5⟩
   have H5 : Hid (KSt L bs ow5 (k + 1) (s.stepR rk) w5 ∧ KWh ow5 w5 wb L T V l0 ∧ Fr w.heap.size ow5 ∧ Kept NoBlk w w5) := by
    obtain ⟨g1, g2, g3⟩ := HR.out
    exact ⟨h5, g1.aft hk5 ha5, g2.agree ha5 g3.size, g2.kept (Nat.le_refl _) g3 hk5⟩
   clear h5 ha5 hk5 HST HR hc
   have HSE : Hid (Calls Tryz.prog 32 #[.pointer (some ⟨wb, 0, none⟩)] w5 fun e w' => e = .returned (.bool true) ∧ KSt L bs ow5 (k + 1) (s.stepR rk) w' ∧ Kept (OwnP ow5) w5 w') := settled_any H5.out.1 wb (by rw [← HJ.out.2.1]; exact H5.out.2.1.kw) H5.out.2.1.out HJ.out.1.keys
   go_wp2_with fail
   refine HSE.out.mono ?_
   rintro e w6 ⟨rfl, h6, hk6⟩
   have H6 : Hid (KSt L bs ow5 (k + 1) (s.stepR rk) w6 ∧ KWh ow5 w6 wb L T V l0 ∧ Fr w.heap.size ow5 ∧ Kept NoBlk w w6) := by
    obtain ⟨_, g1, g2, g3⟩ := H5.out
    exact ⟨h6, g1.kept hk6, g2, g2.kept (Nat.le_refl _) g3 hk6⟩
   clear h6 hk6 HSE H5
   go_wp2_with fail
   go_roundw
   case rel => exact ⟨k + 1, ow5, s.stepR rk, by omega, by go_num, HJ.out, H6.out⟩
   case measure => simp [intOf]; omega
  ·have HK : Hid (Kept NoBlk w wr) := hkk
   clear hst hkw hfr hkk hJ
   go_wp2_with fail
   go_ret
   exact ⟨rfl, HK.out⟩
end Go.Proofs.YtmcajfefagdbnaaGreat
