import Derived.Test.YtmcajfefagdbnaaGreatLKEld0
namespace Go.Proofs.YtmcajfefagdbnaaGreat
open Go Go.RowKit
set_option maxRecDepth 20000 in
set_option maxHeartbeats 3200000 in
theorem eldestLaw (vr : Value) (raw : List Int) (vt : Value) (ls : List (List Op4)) (vs : Value) (steps : List Int) (w : World) (hr : IntsSrc w vr raw) (hrl : raw.length ≤ 17592186044416) (hrin : ∀ x ∈ raw, inI x) (ht : TxnsSrc w vt ls) (htl : ls.length ≤ 17592186044416) (htin : ∀ l ∈ ls, OpsIn l ∧ l.length ≤ 17592186044416) (hs : IntsSrc w vs steps) (hsl : steps.length ≤ 17592186044416) (hsin : ∀ x ∈ steps, inI x) :
  Calls Tryz.prog 11 #[vr, vt, vs] w fun e w' => e = .returned (.bool true) ∧ Kept NoBlk w w' := by
 have HM : Hid (Calls Tryz.prog 20 #[vr, vt, .bool true] w fun e w' => ∃ wb L bs ow, e = .returned (.pointer (some ⟨wb, 0, none⟩)) ∧ KSt L bs ow 0 (mkS raw ls true (min ls.length 5)) w' ∧ KWh ow w' wb L (firstT raw 5) (firstV raw 5) (mkL ls true (min ls.length 5)) ∧ Fr w.heap.size ow ∧ Kept NoBlk w w') := made_any vr raw vt ls true w hr hrl hrin ht htl htin
 have HS : Hid (IntsSrc w vs steps) := hs
 have HSI : Hid (∀ x ∈ steps, inI x) := hsin
 obtain ⟨ra, rc, rfl, _⟩ := hr
 obtain ⟨ta, tc, rfl, _⟩ := ht
 obtain ⟨sa, sc, rfl, _⟩ := hs
 have HTN : Hid (min ls.length 5 ≤ ls.length) := Nat.min_le_left _ _
 generalize raw.length = rn at *
 generalize hsn : steps.length = sn at *
 have HSN : Hid (steps.length = sn) := hsn
 clear hrin htin hsin hsn
 go_enter Tryz.func11, Tryz.ntmps11
 go_wp2_with fail
 refine HM.out.mono ?_
 rintro e w1 ⟨wb, L, bs, ow, rfl, h1, hw1, hf1, hk1⟩
 have HLN : Hid ((mkL ls true (min ls.length 5)).length = (mkS raw ls true (min ls.length 5)).n) := by unfold Hid; rw [mkS_n, mkL_len _ _ _ HTN.out]
 have HNEW : Hid (∀ i, ((mkS raw ls true (min ls.length 5)).tx i).agains = 0 ∧ ((mkS raw ls true (min ls.length 5)).tx i).wounded = false) := fun i => ⟨(mkS_new raw ls true _ i).1, (mkS_new raw ls true _ i).2.1⟩
 have H1 : Hid (KSt L bs ow 0 (mkS raw ls true (min ls.length 5)) w1 ∧ KWh ow w1 wb L (firstT raw 5) (firstV raw 5) (mkL ls true (min ls.length 5)) ∧ Fr w.heap.size ow ∧ Kept NoBlk w w1) := ⟨h1, hw1, hf1, hk1⟩
 clear h1 hw1 hf1 hk1 HM HTN
 generalize mkS raw ls true (min ls.length 5) = s0 at *
 generalize mkL ls true (min ls.length 5) = l0 at *
 generalize firstT raw 5 = T at *
 generalize firstV raw 5 = V at *
 generalize ls.length = tn at *
 go_wp2_with fail
 go_loopw [8, 9, 10, 11] (fun id ag wd i wr => ∃ (k : Nat) (ow : Ow) (s : St) (idn : Nat) (agn : Int) (wdn : Bool), k ≤ sn ∧ i = .int .i64 k ∧ id = .int .i64 (idn : Int) ∧ ag = .int .i64 agn ∧ wd = .bool wdn ∧ (0 ≤ agn ∧ agn ≤ k) ∧ EldJ s idn agn wdn ∧ l0.length = s.n ∧ KSt L bs ow k s wr ∧ KWh ow wr wb L T V l0 ∧ Fr w.heap.size ow ∧ Kept NoBlk w wr) (fun _ _ _ i _ => sn - (intOf i).toNat)
 case atStart => exact ⟨0, ow, s0, 0, 0, false, by omega, rfl, rfl, rfl, rfl, ⟨by omega, by omega⟩, .inl ⟨rfl, fun i _ _ => HNEW.out i⟩, HLN.out, H1.out⟩
 case round =>
  clear H1 HLN HNEW
  obtain ⟨k, ow1, s, idn, agn, wdn, hk, rfl, rfl, rfl, rfl, hagn, hJ, hln, hst, hkw, hfr, hkk⟩ := hrel
  by_cases hlt : k < sn
  ·obtain ⟨sao, scc, hsv, hss⟩ := HS.out.kept hkk (fun _ _ x => x)
   obtain ⟨b, off, hsb, hcell⟩ := hss (by rw [HSN.out]; omega)
   simp only [Value.slice.injEq] at hsv
   obtain ⟨rfl, hh, rfl⟩ := hsv
   clear hh
   subst hsb
   have hcs := (HS.out : IntsSrc w _ steps)
   obtain ⟨sao2, scc2, hsv2, hss2⟩ := hcs
   obtain ⟨b2, off2, hsb2, hcell2⟩ := hss2 (by rw [HSN.out]; omega)
   simp only [Value.slice.injEq] at hsv2
   have HCW : Hid (w.cell? ⟨b, off + k, none⟩ = some (.int .i64 (steps.getD k 0))) := by
    have h1 := hcell2 k (by rw [HSN.out]; exact hlt)
    rw [← hsv2.1] at hsb2
    simp only [Option.some.injEq, Addr.mk.injEq, and_true] at hsb2
    rw [hsb2.1, hsb2.2]; exact h1
   have hrin : inI (steps.getD k 0) := HSI.out _ (by rw [List.getD_eq_getElem?_getD, List.getElem?_eq_getElem (by rw [HSN.out]; exact hlt)]; exact List.getElem_mem _)
   have HRI : Hid (inI (steps.getD k 0)) := hrin
   clear hsv2 hsb2 hcell2 hss2 hcell hss hrin
   generalize steps.getD k 0 = rk at *
   have HEL : Hid (Calls Tryz.prog 33 #[.pointer (some ⟨wb, 0, none⟩)] wr fun e w' => ∃ r : Nat, e = .returned (.int .i64 (r : Int)) ∧ ((r = 0 ∧ ∀ i, 1 ≤ i → i ≤ s.n → (s.tx i).state ≠ 0) ∨ (Eld s r ∧ (s.tx r).state = 0)) ∧ KSt L bs ow1 k s w' ∧ Kept (OwnP ow1) wr w') := eldest_any hst wb (by rw [← hln]; exact hkw.kw) hkw.out
   have HR : Hid (EldJ s idn agn wdn ∧ l0.length = s.n ∧ KWh ow1 wr wb L T V l0 ∧ Fr w.heap.size ow1 ∧ Kept NoBlk w wr) := ⟨hJ, hln, hkw, hfr, hkk⟩
   have j0 : (0 : Int) ≤ (k : Int) := by omega
   have j1 : (k : Int) < (sn : Int) := by omega
   clear hst hJ hln hkw hfr hkk
   go_wp2_with fail
   refine HEL.out.mono ?_
   rintro e w2 ⟨r, rfl, hr, h2, hk2⟩
   have H2 : Hid (KSt L bs ow1 k s w2 ∧ KWh ow1 w2 wb L T V l0 ∧ Kept NoBlk w w2) := ⟨h2, HR.out.2.2.1.kept hk2, HR.out.2.2.2.1.kept (Nat.le_refl _) HR.out.2.2.2.2 hk2⟩
   clear h2 hk2 HEL
   rcases hr with ⟨rfl, _⟩ | ⟨hEld, hlv⟩
   ·go_wp2_with fail
    go_ret
    exact ⟨rfl, H2.out.2.2⟩
   ·have hr0 : ((r : Int) == 0) = false := by rw [beq_eq_false_iff_ne]; have := hEld.low; omega
    have hrn := hEld.high
    have hr5 := H2.out.1.n5
    have hr1 := hEld.low
    have c0 : w2.cell? ⟨wb, 0, none⟩ = some (.pointer (some ⟨L.p, 0, none⟩)) := by
     obtain ⟨ov, xs, b1, _⟩ := H2.out.2.1.body
     rw [cell_at b1]; rfl
    have HTX : Hid (Calls Tryz.prog 23 #[.pointer (some ⟨L.p, 0, none⟩), .int .i64 (r : Int)] w2 fun e w' => ∃ x, e = .returned (.tuple #[x, .int .i64 0]) ∧ TxnTold w2 (s.tx r) x w' ∧ KSt L bs ow1 k s w' ∧ Kept (OwnP ow1) w2 w') := kTxn H2.out.1 r ⟨hr1, hrn⟩
    have HEL : Hid (Eld s r ∧ (s.tx r).state = 0) := ⟨hEld, hlv⟩
    have hag := H2.out.1.ag r
    clear hEld hlv
    go_wp2_with fail
    refine HTX.out.mono ?_
    rintro e w3 ⟨x, rfl, ⟨a, kk, rfl, t1, t2, t3, t4⟩, h3, hk3⟩
    have H3 : Hid (KSt L bs ow1 k s w3 ∧ KWh ow1 w3 wb L T V l0 ∧ Kept NoBlk w w3) := ⟨h3, H2.out.2.1.kept hk3, HR.out.2.2.2.1.kept (Nat.le_refl _) H2.out.2.2 hk3⟩
    clear h3 hk3 t3 t4 H2 HTX c0 t1 t2
    generalize hta : (s.tx r).agains = ta at *
    generalize htw : (s.tx r).wounded = tw at *
    have HTA : Hid ((s.tx r).agains = ta ∧ (s.tx r).wounded = tw) := ⟨hta, htw⟩
    have HST4 : Hid (∀ bx, Calls Tryz.prog 30 #[.pointer (some ⟨wb, 0, none⟩), .int .i64 rk] (w3.alloc bx) fun e w' => e = .returned (.bool true) ∧ KAft L bs ow1 (k + 1) (w3.alloc bx) (s.stepR rk) w') := fun bx => by
     have hka : Kept NoBlk w3 (w3.alloc bx) := (Kept.refl _ _).alloc _
     exact wstep_any (H3.out.1.kept hka (fun _ _ x => x)) wb (by rw [← HR.out.2.1]; exact (H3.out.2.1.kept0 hka).kw) H3.out.2.1.out rk HRI.out (by omega)
    have H4 : Hid (∀ bx, KWh ow1 (w3.alloc bx) wb L T V l0 ∧ Fr w.heap.size ow1 ∧ Kept NoBlk w (w3.alloc bx)) := fun bx => ⟨H3.out.2.1.kept0 ((Kept.refl _ _).alloc _), HR.out.2.2.2.1, H3.out.2.2.alloc _⟩
    have hcell : ∀ bx, (w3.alloc bx).cell? ⟨b, off + k, none⟩ = some (.int .i64 rk) := fun bx => (H3.out.2.2.alloc bx).cell0 HCW.out
    have hbw : b < w3.heap.size := Nat.lt_of_lt_of_le (World.block_lt_of_cell? _ _ HCW.out) H3.out.2.2.size
    have HSR : Hid (s.stepR rk = s.stepN (1 + (pickI rk s.n).toNat)) := by unfold Hid St.stepR; rw [if_neg (by omega)]
    have HN5 : Hid (l0.length = (s.stepR rk).n) := by
     unfold Hid
     rw [HR.out.2.1, HSR.out]
     rcases stepN_cases s (1 + (pickI rk s.n).toNat) with ⟨_, e⟩ | ⟨_, e⟩
     ·rw [e, (go_n s _).1]
     ·rw [e]
    have HSTEP : Hid (∀ ag' wd', (tw = true → wd' = true) → ta = ag' → EldJ (s.stepR rk) r ag' wd') := fun ag' wd' h1 h2 => by
     rw [HSR.out]
     exact EldJ.step H3.out.1.good HEL.out.1 (by rw [HTA.out.2]; exact h1) (by rw [HTA.out.1]; exact h2) _
    have HJ : Hid ((r = idn → EldR s r agn wdn) ∧ (r ≠ idn → r = 1 → ta = 0 ∧ tw = false)) := by
     have hj := HR.out.1
     refine ⟨fun e => ?_, fun e e1 => ?_⟩
     ·rcases hj with ⟨h0, _⟩ | ⟨_, _, h0⟩
      ·omega
      ·rw [← e] at h0; exact h0 HEL.out.2
     ·rcases hj with ⟨_, h0⟩ | ⟨hlo, h0, _⟩
      ·have := h0 r hr1 hrn
       rw [HTA.out.1, HTA.out.2] at this; exact this
      ·have := eld_ge h0 HEL.out.1 HEL.out.2
       omega
    clear hta htw H3 HR HCW HRI HSR
    by_cases hid : r = idn
    ·subst hid
     have hR := HJ.out.1 rfl
     unfold EldR at hR
     rw [HTA.out.1, HTA.out.2] at hR
     cases tw with
     | true =>
      obtain rfl : wdn = true := hR.1 rfl
      obtain rfl : ta = agn := by rcases hR.2 with h | h; exact h; exact absurd h.2.2 (by simp)
      clear hR
      have HEJ : Hid (EldJ (s.stepR rk) r ta true) := HSTEP.out ta true (fun _ => rfl) rfl
      clear HSTEP HJ
      go_wp2_with fail
      refine (HST4.out _).mono ?_
      rintro e w5 ⟨rfl, ⟨ow5, h5, ha5⟩, hk5⟩
      have H5 : Hid (EldJ (s.stepR rk) r ta true ∧ l0.length = (s.stepR rk).n ∧ KSt L bs ow5 (k + 1) (s.stepR rk) w5 ∧ KWh ow5 w5 wb L T V l0 ∧ Fr w.heap.size ow5 ∧ Kept NoBlk w w5) := by
       obtain ⟨g1, g2, g3⟩ := H4.out _
       exact ⟨HEJ.out, HN5.out, h5, g1.aft hk5 ha5, g2.agree ha5 g3.size, g2.kept (Nat.le_refl _) g3 hk5⟩
      clear h5 ha5 hk5 HST4 HEJ H4 hcell
      go_wp2_with fail
      go_roundw
      case rel => exact ⟨k + 1, ow5, s.stepR rk, r, ta, true, by omega, by go_num, rfl, rfl, rfl, ⟨by omega, by omega⟩, H5.out⟩
      case measure => simp [intOf]; omega
     | false =>
      rcases hR.2 with h | ⟨h1, h2, _⟩
      ·subst h
       clear hR
       have HEJ : Hid (EldJ (s.stepR rk) r ta wdn) := HSTEP.out ta wdn (fun h => by cases h) rfl
       clear HSTEP HJ
       go_wp2_with fail
       refine (HST4.out _).mono ?_
       rintro e w5 ⟨rfl, ⟨ow5, h5, ha5⟩, hk5⟩
       have H5 : Hid (EldJ (s.stepR rk) r ta wdn ∧ l0.length = (s.stepR rk).n ∧ KSt L bs ow5 (k + 1) (s.stepR rk) w5 ∧ KWh ow5 w5 wb L T V l0 ∧ Fr w.heap.size ow5 ∧ Kept NoBlk w w5) := by
        obtain ⟨g1, g2, g3⟩ := H4.out _
        exact ⟨HEJ.out, HN5.out, h5, g1.aft hk5 ha5, g2.agree ha5 g3.size, g2.kept (Nat.le_refl _) g3 hk5⟩
       clear h5 ha5 hk5 HST4 HEJ H4 hcell
       go_wp2_with fail
       go_roundw
       case rel => exact ⟨k + 1, ow5, s.stepR rk, r, ta, wdn, by omega, by go_num, rfl, rfl, rfl, ⟨by omega, by omega⟩, H5.out⟩
       case measure => simp [intOf]; omega
      ·subst h1 h2
       clear hR
       have hne : ((agn + 1 : Int) == agn) = false := by rw [beq_eq_false_iff_ne]; omega
       have HEJ : Hid (EldJ (s.stepR rk) r (agn + 1) false) := HSTEP.out (agn + 1) false (fun h => by cases h) rfl
       clear HSTEP HJ
       go_wp2_with fail
       refine (HST4.out _).mono ?_
       rintro e w5 ⟨rfl, ⟨ow5, h5, ha5⟩, hk5⟩
       have H5 : Hid (EldJ (s.stepR rk) r (agn + 1) false ∧ l0.length = (s.stepR rk).n ∧ KSt L bs ow5 (k + 1) (s.stepR rk) w5 ∧ KWh ow5 w5 wb L T V l0 ∧ Fr w.heap.size ow5 ∧ Kept NoBlk w w5) := by
        obtain ⟨g1, g2, g3⟩ := H4.out _
        exact ⟨HEJ.out, HN5.out, h5, g1.aft hk5 ha5, g2.agree ha5 g3.size, g2.kept (Nat.le_refl _) g3 hk5⟩
       clear h5 ha5 hk5 HST4 HEJ H4 hcell
       go_wp2_with fail
       go_roundw
       case rel => exact ⟨k + 1, ow5, s.stepR rk, r, (agn + 1), false, by omega, by go_num, rfl, rfl, rfl, ⟨by omega, by omega⟩, H5.out⟩
       case measure => simp [intOf]; omega
    ·have hid' : ((r : Int) == (idn : Int)) = false := by rw [beq_eq_false_iff_ne]; omega
     by_cases hr1' : r = 1
     ·obtain ⟨h1, h2⟩ := HJ.out.2 hid hr1'
      subst h1 h2 hr1'
      clear hid
      have HEJ : Hid (EldJ (s.stepR rk) 1 0 false) := HSTEP.out 0 false (fun h => h) rfl
      clear HSTEP HJ
      go_wp2_with fail
      refine (HST4.out _).mono ?_
      rintro e w5 ⟨rfl, ⟨ow5, h5, ha5⟩, hk5⟩
      have H5 : Hid (EldJ (s.stepR rk) 1 0 false ∧ l0.length = (s.stepR rk).n ∧ KSt L bs ow5 (k + 1) (s.stepR rk) w5 ∧ KWh ow5 w5 wb L T V l0 ∧ Fr w.heap.size ow5 ∧ Kept NoBlk w w5) := by
       obtain ⟨g1, g2, g3⟩ := H4.out _
       exact ⟨HEJ.out, HN5.out, h5, g1.aft hk5 ha5, g2.agree ha5 g3.size, g2.kept (Nat.le_refl _) g3 hk5⟩
      clear h5 ha5 hk5 HST4 HEJ H4 hcell
      go_wp2_with fail
      go_roundw
      case rel => exact ⟨k + 1, ow5, s.stepR rk, 1, 0, false, by omega, by go_num, rfl, rfl, rfl, ⟨by omega, by omega⟩, H5.out⟩
      case measure => simp [intOf]; omega
     ·have hr1'' : ((r : Int) == 1) = false := by rw [beq_eq_false_iff_ne]; omega
      clear hid
      cases tw with
      | true =>
       have HEJ : Hid (EldJ (s.stepR rk) r ta true) := HSTEP.out ta true (fun h => h) rfl
       clear HSTEP HJ
       go_wp2_with fail
       refine (HST4.out _).mono ?_
       rintro e w5 ⟨rfl, ⟨ow5, h5, ha5⟩, hk5⟩
       have H5 : Hid (EldJ (s.stepR rk) r ta true ∧ l0.length = (s.stepR rk).n ∧ KSt L bs ow5 (k + 1) (s.stepR rk) w5 ∧ KWh ow5 w5 wb L T V l0 ∧ Fr w.heap.size ow5 ∧ Kept NoBlk w w5) := by
        obtain ⟨g1, g2, g3⟩ := H4.out _
        exact ⟨HEJ.out, HN5.out, h5, g1.aft hk5 ha5, g2.agree ha5 g3.size, g2.kept (Nat.le_refl _) g3 hk5⟩
       clear h5 ha5 hk5 HST4 HEJ H4 hcell
       go_wp2_with fail
       go_roundw
       case rel => exact ⟨k + 1, ow5, s.stepR rk, r, ta, true, by omega, by go_num, rfl, rfl, rfl, ⟨by omega, by omega⟩, H5.out⟩
       case measure => simp [intOf]; omega
      | false =>
       have HEJ : Hid (EldJ (s.stepR rk) r ta false) := HSTEP.out ta false (fun h => h) rfl
       clear HSTEP HJ
       go_wp2_with fail
       refine (HST4.out _).mono ?_
       rintro e w5 ⟨rfl, ⟨ow5, h5, ha5⟩, hk5⟩
       have H5 : Hid (EldJ (s.stepR rk) r ta false ∧ l0.length = (s.stepR rk).n ∧ KSt L bs ow5 (k + 1) (s.stepR rk) w5 ∧ KWh ow5 w5 wb L T V l0 ∧ Fr w.heap.size ow5 ∧ Kept NoBlk w w5) := by
        obtain ⟨g1, g2, g3⟩ := H4.out _
        exact ⟨HEJ.out, HN5.out, h5, g1.aft hk5 ha5, g2.agree ha5 g3.size, g2.kept (Nat.le_refl _) g3 hk5⟩
       clear h5 ha5 hk5 HST4 HEJ H4 hcell
       go_wp2_with fail
       go_roundw
       case rel => exact ⟨k + 1, ow5, s.stepR rk, r, ta, false, by omega, by go_num, rfl, rfl, rfl, ⟨by omega, by omega⟩, H5.out⟩
       case measure => simp [intOf]; omega
  ·go_wp2_with fail
   go_ret
   exact ⟨rfl, hkk⟩
end Go.Proofs.YtmcajfefagdbnaaGreat
