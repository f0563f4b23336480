import Derived.Test.YtmcajfefagdbnaaGreatLKSer1
import Derived.Test.YtmcajfefagdbnaaGreatLKRun
import Derived.Test.YtmcajfefagdbnaaGreatLKApart
import Derived.Deep.RegionHeld3
import Derived.Deep.DrawnRows
namespace Go.Proofs.YtmcajfefagdbnaaGreat
open Go Go.RowKit
attribute [local go_sem ↓] Go.wp_at_zero Go.wp_at_succ
set_option maxRecDepth 20000 in
set_option maxHeartbeats 3200000 in
theorem serialLaw (vr : Value) (raw : List Int) (vt : Value) (ls : List (List Op4)) (vs : Value) (steps : List Int) (turn : Int) (w : World) (hr : IntsSrc w vr raw) (hrl : raw.length ≤ 17592186044416) (hrin : ∀ x ∈ raw, inI x) (ht : TxnsSrc w vt ls) (htl : ls.length ≤ 17592186044416) (htin : ∀ l ∈ ls, OpsIn l ∧ l.length ≤ 17592186044416) (hs : IntsSrc w vs steps) (hsl : steps.length ≤ 17592186044416) (hsin : ∀ x ∈ steps, inI x) (htu : inI turn) :
  Calls Tryz.prog 8 #[vr, vt, vs, .int .i64 turn] w fun e w' => e = .returned (.bool true) ∧ Kept NoBlk w w' := by
 have HM : Hid (Calls Tryz.prog 20 #[vr, vt, .bool true] w fun e w' => ∃ wb L bs ow, e = .returned (.pointer (some ⟨wb, 0, none⟩)) ∧ KSt L bs ow 0 (mkS raw ls true (min ls.length 5)) w' ∧ KWh ow w' wb L (firstT raw 5) (firstV raw 5) (mkL ls true (min ls.length 5)) ∧ Fr w.heap.size ow ∧ Kept NoBlk w w') := made_any vr raw vt ls true w hr hrl hrin ht htl htin
 have HS : Hid (IntsSrc w vs steps) := hs
 have HSI : Hid (∀ x ∈ steps, inI x) := hsin
 obtain ⟨ra, rc, rfl, _⟩ := hr
 obtain ⟨ta, tc, rfl, _⟩ := ht
 obtain ⟨sa, sc, rfl, _⟩ := hs
 have HTN : Hid (min ls.length 5 ≤ ls.length) := Nat.min_le_left _ _
 generalize raw.length = rn at *
 generalize hsn : steps.length = sn at *
 have HSN : Hid (steps.length = sn) := hsn
 clear hrin htin hsin hsn
 go_enter Tryz.func8, Tryz.ntmps8
 go_wp2_with fail
 refine HM.out.mono ?_
 rintro e w1 ⟨wb, L, bs, ow, rfl, h1, hw1, hf1, hk1⟩
 have HLN : Hid ((mkL ls true (min ls.length 5)).length = (mkS raw ls true (min ls.length 5)).n) := by unfold Hid; rw [mkS_n, mkL_len _ _ _ HTN.out]
 have HAW : Hid (SerJ (rowsF (firstL raw 5)) (mkS raw ls true (min ls.length 5)) ∧ (∀ i, 1 ≤ i → i ≤ (mkS raw ls true (min ls.length 5)).n → ((mkS raw ls true (min ls.length 5)).tx i).ops = (mkL ls true (min ls.length 5)).getD (i - 1) []) ∧ ∀ i, ((mkL ls true (min ls.length 5)).getD i []).length ≤ 6) := by
  exact ⟨mkS_serJ raw ls true _, fun i i1 i2 => mkS_ops raw ls true _ HTN.out i i1 (by rw [mkS_n] at i2; exact i2), fun i => mkL_six ls true _ i⟩
 have HOL : Hid (∀ i, ∀ o ∈ (mkL ls true (min ls.length 5)).getD i [], OpLaw o) := fun i => mkL_law ls true _ i
 have HTV : Hid (∀ i, i < 5 → firstT raw 5 i = Tf (rowsF (firstL raw 5)) i ∧ firstV raw 5 i = Vf (rowsF (firstL raw 5)) i) := first_TV raw
 have HFV : Hid (Five (rowsF (firstL raw 5))) := (rowsF5 _ _).1
 have H1 : Hid (KSt L bs ow 0 (mkS raw ls true (min ls.length 5)) w1 ∧ KWh ow w1 wb L (firstT raw 5) (firstV raw 5) (mkL ls true (min ls.length 5)) ∧ Fr w.heap.size ow ∧ Kept NoBlk w w1) := ⟨h1, hw1, hf1, hk1⟩
 clear h1 hw1 hf1 hk1 HM HTN
 generalize mkS raw ls true (min ls.length 5) = s0 at *
 generalize mkL ls true (min ls.length 5) = l0 at *
 generalize rowsF (firstL raw 5) = D0 at *
 generalize firstT raw 5 = T at *
 generalize firstV raw 5 = V at *
 generalize ls.length = tn at *
 go_wp2_with fail
 go_loopw [10] (fun i wr => ∃ (k : Nat) (ow : Ow) (s : St), k ≤ sn ∧ i = .int .i64 k ∧ (SerJ D0 s ∧ l0.length = s.n ∧ (∀ i, 1 ≤ i → i ≤ s.n → (s.tx i).ops = l0.getD (i - 1) [])) ∧ KSt L bs ow k s wr ∧ KWh ow wr wb L T V l0 ∧ Fr w.heap.size ow ∧ Kept NoBlk w wr) (fun i _ => sn - (intOf i).toNat)
 case atStart => exact ⟨0, ow, s0, by omega, rfl, ⟨HAW.out.1, HLN.out, HAW.out.2.1⟩, H1.out⟩
 case round =>
  have H6 : Hid (∀ i, (l0.getD i []).length ≤ 6) := HAW.out.2.2
  clear H1 HLN HAW
  obtain ⟨k, ow1, s, hk, rfl, hJ, hst, hkw, hfr, hkk⟩ := hrel
  by_cases hlt : k < sn
  ·obtain ⟨sao, scc, hsv, hss⟩ := HS.out.kept hkk (fun _ _ x => x)
   obtain ⟨b, off, hsb, hcell⟩ := hss (by rw [HSN.out]; omega)
   simp only [Value.slice.injEq] at hsv
   obtain ⟨rfl, hh, rfl⟩ := hsv
   clear hh
   subst hsb
   have hc := hcell k (by rw [HSN.out]; exact hlt)
   have hrin : inI (steps.getD k 0) := HSI.out _ (by rw [List.getD_eq_getElem?_getD, List.getElem?_eq_getElem (by rw [HSN.out]; exact hlt)]; exact List.getElem_mem _)
   have HST : Hid (Calls Tryz.prog 30 #[.pointer (some ⟨wb, 0, none⟩), .int .i64 (steps.getD k 0)] wr fun e w' => e = .returned (.bool true) ∧ KAft L bs ow1 (k + 1) wr (s.stepR (steps.getD k 0)) w') := wstep_any hst wb (by rw [← hJ.2.1]; exact hkw.kw) hkw.out _ hrin (by omega)
   have HJ : Hid (SerJ D0 (s.stepR (steps.getD k 0)) ∧ l0.length = (s.stepR (steps.getD k 0)).n ∧ (∀ i, 1 ≤ i → i ≤ (s.stepR (steps.getD k 0)).n → ((s.stepR (steps.getD k 0)).tx i).ops = l0.getD (i - 1) [])) := by
    unfold Hid St.stepR
    split
    ·exact hJ
    ·refine ⟨hJ.1.stepN _, by rw [stepN_n]; exact hJ.2.1, fun i h1 h2 => ?_⟩
     rw [stepN_n] at h2
     rw [stepN_ops]; exact hJ.2.2 i h1 h2
   have HR : Hid (KWh ow1 wr wb L T V l0 ∧ Fr w.heap.size ow1 ∧ Kept NoBlk w wr) := ⟨hkw, hfr, hkk⟩
   clear hcell hss hrin hst hkw hfr hkk hJ
   generalize steps.getD k 0 = rk at *
   have j0 : (0 : Int) ≤ (k : Int) := by omega
   have j1 : (k : Int) < (sn : Int) := by omega
   go_wp2_with fail
   refine HST.out.mono ?_
   rintro e w5 ⟨rfl, ⟨ow5, h5, ha5⟩, hk5⟩
   have H5 : Hid (KSt L bs ow5 (k + 1) (s.stepR rk) w5 ∧ KWh ow5 w5 wb L T V l0 ∧ Fr w.heap.size ow5 ∧ Kept NoBlk w w5) := by
    obtain ⟨g1, g2, g3⟩ := HR.out
    exact ⟨h5, g1.aft hk5 ha5, g2.agree ha5 g3.size, g2.kept (Nat.le_refl _) g3 hk5⟩
   clear h5 ha5 hk5 HST HR hc
   go_wp2_with fail
   go_roundw
   case rel => exact ⟨k + 1, ow5, s.stepR rk, by omega, by go_num, HJ.out, H5.out⟩
   case measure => simp [intOf]; omega
  ·have HEN : Hid (Calls Tryz.prog 31 #[.pointer (some ⟨wb, 0, none⟩), .int .i64 turn] wr fun e w' => e = .returned (.bool true) ∧ ∃ ll, KAft L bs ow1 (k + 550) wr (s.steps ll) w' ∧ ∀ i, 1 ≤ i → i ≤ s.n → ((s.steps ll).tx i).state ≠ 0) := ended_any hst wb hkw hJ.2.1 hJ.2.2 H6.out turn htu (by omega)
   have HJ : Hid (SerJ D0 s ∧ l0.length = s.n ∧ (∀ i, 1 ≤ i → i ≤ s.n → (s.tx i).ops = l0.getD (i - 1) [])) := hJ
   have HR : Hid (KWh ow1 wr wb L T V l0 ∧ Fr w.heap.size ow1 ∧ Kept NoBlk w wr) := ⟨hkw, hfr, hkk⟩
   have h5 := hst.n5
   clear hst hkw hfr hkk hJ
   go_wp2_with fail
   refine HEN.out.mono ?_
   rintro e w5 ⟨rfl, ll, ⟨⟨ow5, h5', ha5⟩, hk5⟩, hall⟩
   have HK5 : Hid (Fr w.heap.size ow5 ∧ Kept NoBlk w w5 ∧ KWh ow5 w5 wb L T V l0) := by
    obtain ⟨g1, g2, g3⟩ := HR.out
    exact ⟨g2.agree ha5 g3.size, g2.kept (Nat.le_refl _) g3 hk5, HR.out.1.aft hk5 ha5⟩
   have HJ5 : Hid (SerJ D0 (s.steps ll) ∧ l0.length = (s.steps ll).n ∧ (∀ i, 1 ≤ i → i ≤ (s.steps ll).n → ((s.steps ll).tx i).ops = l0.getD (i - 1) []) ∧ ∀ i, ¬ Lives (s.steps ll) i) := by
    obtain ⟨j1, j2, j3⟩ := HJ.out
    refine ⟨j1.steps ll, by rw [steps_n]; exact j2, fun i i1 i2 => ?_, fun i hl => ?_⟩
    ·rw [steps_n] at i2; rw [steps_ops]; exact j3 i i1 i2
    ·have := hl.high; rw [steps_n] at this; exact hall i hl.low this hl.lives
   have HS5 : Hid (KSt L bs ow5 (k + 550) (s.steps ll) w5) := h5'
   have HFR : Hid (Fr w.heap.size ow5) := HK5.out.1
   clear h5' ha5 hk5 hall HEN HR HJ h5
   generalize s.steps ll = s5 at *
   obtain ⟨ov, xs, b1, _⟩ := HK5.out.2.2.body
   have c0 : ∀ o, (w5.alloc o).cell? ⟨wb, 0, none⟩ = some (.pointer (some ⟨L.p, 0, none⟩)) := fun o => ((Kept.refl NoBlk w5).alloc o).cell0 (by rw [cell_at b1]; rfl)
   have z0 : w5.cell? ⟨wb, 1, none⟩ = some (.bool (Tf D0 0)) := by rw [cell_at b1, ← (HTV.out 0 (by omega)).1]; rfl
   have z1 : w5.cell? ⟨wb, 2, none⟩ = some (.bool (Tf D0 1)) := by rw [cell_at b1, ← (HTV.out 1 (by omega)).1]; rfl
   have z2 : w5.cell? ⟨wb, 3, none⟩ = some (.bool (Tf D0 2)) := by rw [cell_at b1, ← (HTV.out 2 (by omega)).1]; rfl
   have z3 : w5.cell? ⟨wb, 4, none⟩ = some (.bool (Tf D0 3)) := by rw [cell_at b1, ← (HTV.out 3 (by omega)).1]; rfl
   have z4 : w5.cell? ⟨wb, 5, none⟩ = some (.bool (Tf D0 4)) := by rw [cell_at b1, ← (HTV.out 4 (by omega)).1]; rfl
   have z5 : w5.cell? ⟨wb, 6, none⟩ = some (.int .i64 (Vf D0 0)) := by rw [cell_at b1, ← (HTV.out 0 (by omega)).2]; rfl
   have z6 : w5.cell? ⟨wb, 7, none⟩ = some (.int .i64 (Vf D0 1)) := by rw [cell_at b1, ← (HTV.out 1 (by omega)).2]; rfl
   have z7 : w5.cell? ⟨wb, 8, none⟩ = some (.int .i64 (Vf D0 2)) := by rw [cell_at b1, ← (HTV.out 2 (by omega)).2]; rfl
   have z8 : w5.cell? ⟨wb, 9, none⟩ = some (.int .i64 (Vf D0 3)) := by rw [cell_at b1, ← (HTV.out 3 (by omega)).2]; rfl
   have z9 : w5.cell? ⟨wb, 10, none⟩ = some (.int .i64 (Vf D0 4)) := by rw [cell_at b1, ← (HTV.out 4 (by omega)).2]; rfl
   have HWL : Hid (s5.wins.length ≤ s5.n) := by
    have hh := HJ5.out.1.hist
    have := nodup_len s5.wins (List.range' 1 s5.n) hh.once (fun i hi => by
     obtain ⟨w1, w2, e⟩ := List.append_of_mem hi
     exact mem_range1.2 (hh.past w1 i w2 e).2.2.2)
    unfold Hid
    simpa using this
   have hn5 : s5.n ≤ 5 := HS5.out.n5
   have HWI : Hid (∀ o, Calls Tryz.prog 29 #[.pointer (some ⟨L.p, 0, none⟩)] (w5.alloc o) fun e w' => ∃ a, e = .returned (.slice (some ⟨a, 0, none⟩) s5.wins.length s5.wins.length) ∧ (w5.alloc o).heap.size ≤ a ∧ w'.heap[a]? = some (.cells (winsCells s5.wins).toArray 3 (0, 0)) ∧ KSt L bs ow5 (k + 550) s5 w' ∧ Kept (OwnP ow5) (w5.alloc o) w') := fun o => kWins (HS5.out.kept ((Kept.refl NoBlk w5).alloc o) (fun _ _ x => x)) (by have := HWL.out; omega)
   have HAB : Hid (∀ o, (w5.alloc o).heap[w5.heap.size]? = some o ∧ ¬ OwnP ow5 w5.heap.size) := fun o => ⟨block_alloc_new w5 o, fun x => by have := HS5.out.st.lt _ x; omega⟩
   clear b1
   generalize hwl : s5.wins.length = wl at *
   have HWN : Hid (s5.wins.length = wl) := hwl
   clear hwl
   go_wp2_with fail
   refine (HWI.out (.cells (cells5 (Tf D0) (Vf D0)) 58)).mono ?_
   rintro e w6 ⟨a, rfl, ha6, hw6, hs6, hk6⟩
   have hk56 : Kept (OwnP ow5) w5 w6 := (((Kept.refl NoBlk w5).alloc _).mono (fun _ x => x.elim)).trans' hk6
   have H6' : Hid (KSt L bs ow5 (k + 550) s5 w6 ∧ KWh ow5 w6 wb L T V l0 ∧ Kept NoBlk w w6 ∧ w6.heap[w5.heap.size]? = some (.cells (cells5 (Tf D0) (Vf D0)) 58 (0, 0)) ∧ w6.heap[a]? = some (.cells (winsCells s5.wins).toArray 3 (0, 0)) ∧ ¬ OwnP ow5 w5.heap.size ∧ ¬ OwnP ow5 a ∧ w.heap.size ≤ w5.heap.size ∧ w5.heap.size < a) := by
    rw [alloc_size] at ha6
    exact ⟨hs6, HK5.out.2.2.kept hk56, HK5.out.1.kept (Nat.le_refl _) HK5.out.2.1 hk56, hk6.heap (HAB.out _).1 (HAB.out (.cells #[] 0)).2, hw6, (HAB.out (.cells #[] 0)).2, fun x => by have := HS5.out.st.lt _ x; omega, HK5.out.2.1.size, ha6⟩
   obtain ⟨cs, ao, c, x1, _, x3⟩ := H6'.out.2.1.kw
   have c11 : w6.cell? ⟨wb, 11, none⟩ = some (.slice ao l0.length c) := by rw [cell_at x1]; exact x3
   have HNL : Hid (l0.length = s5.n) := HJ5.out.2.1
   have hl5 : l0.length ≤ 5 := by rw [HNL.out]; exact hn5
   clear hs6 hk6 hk56 ha6 hw6 x1 x3 c0 z0 z1 z2 z3 z4 z5 z6 z7 z8 z9 HWI HAB HK5
   generalize hnl : l0.length = nl at *
   have HL0 : Hid (l0.length = nl) := hnl
   clear hnl
   have hmk := makeBools nl hl5
   have HB7 : Hid (SB L bs T V l0 wb (k + 550) w s5 ow5 w5.heap.size a w6.heap.size D0 [] (w6.alloc (.cells (bcells (seenL nl [])) 4))) := by
    obtain ⟨p1, p2, p3, p4, p5, p6, p7, p8, p9⟩ := H6'.out
    have hk : Kept NoBlk w6 (w6.alloc (.cells (bcells (seenL nl [])) 4)) := (Kept.refl _ _).alloc _
    refine ⟨p1.kept hk (fun _ _ x => x), p2.kept0 hk, HFR.out, p3.trans' hk, hk.heap p4 (fun x => x), hk.heap p5 (fun x => x), ?_, p6, p7, fun x => by have := p1.st.lt _ x; omega, p8, p9, lt_of_block p5⟩
    rw [← HNL.out]
    exact block_alloc_new w6 _
   go_wp2_with fail
   generalize w6.alloc (.cells (bcells (seenL nl [])) 4) = W7 at *
   generalize w6.heap.size = sb at *
   generalize w5.heap.size = ab at *
   clear hmk H6' c11
   have hwl5 : wl ≤ 5 := by have := HWL.out; omega
   go_loopw [16] (fun i wr => ∃ q : Nat, q ≤ wl ∧ i = .int .i64 q ∧ SB L bs T V l0 wb (k + 550) w s5 ow5 ab a sb (serD D0 (fun i => (s5.tx i).ops) (s5.wins.take q)) (s5.wins.take q) wr) (fun i _ => wl - (intOf i).toNat)
   case atStart => exact ⟨0, by omega, rfl, by rw [List.take_zero]; exact HB7.out⟩
   case round =>
    clear HB7
    obtain ⟨q, hq, rfl, hsb⟩ := hrel
    by_cases hlt : q < wl
    ·obtain ⟨e1, e2, e3, e4, e5, e6, e7, e8⟩ := HJ5.out.1.hist.at q (by rw [HWN.out]; exact hlt)
     have gw : wr.cell? ⟨a, q, none⟩ = some (.int .i64 ((s5.wins.getD q 0 : Nat) : Int)) := by
      rw [cell_at hsb.wins]
      unfold winsCells
      have hq' : q < s5.wins.length := by rw [HWN.out]; exact hlt
      rw [List.getElem?_toArray, List.getElem?_map, List.getElem?_eq_getElem hq', List.getD_eq_getElem?_getD, List.getElem?_eq_getElem hq']
      rfl
     obtain ⟨r, hr⟩ : ∃ r, s5.wins.getD q 0 = r + 1 := ⟨s5.wins.getD q 0 - 1, by omega⟩
     rw [hr] at gw e1 e2 e3 e4 e5 e6 e7 e8
     have hrn : r < nl := by have := HNL.out; omega
     have gs : wr.cell? ⟨sb, r, none⟩ = some (.bool false) := by
      rw [cell_at hsb.seen, seenL_at _ _ r (by have := HNL.out; omega)]
      simp [e2]
     have gf : ∀ j, wr.frozen? ⟨sb, j, none⟩ = false := frozen_at hsb.seen
     have hopr : (s5.tx (r + 1)).ops = l0.getD r [] := by
      have := HJ5.out.2.2.1 (r + 1) (by omega) e7
      rw [Nat.add_sub_cancel] at this
      exact this
     rw [hopr] at e3 e4 e8
     have HM8 : Hid (SB L bs T V l0 wb (k + 550) w s5 ow5 ab a sb (serD D0 (fun i => (s5.tx i).ops) (s5.wins.take q)) (s5.wins.take (q + 1)) (wr.setCell ⟨sb, r, none⟩ (.bool true))) := by rw [e1]; exact hsb.mark r
     obtain ⟨g, off, c', xa, xc, f1, f2, f3⟩ := hsb.wh.elem2 r (by rw [HL0.out]; exact hrn)
     rw [HL0.out] at f1
     have HD : Hid (serD D0 (fun i => (s5.tx i).ops) (s5.wins.take (q + 1)) = (runP (serD D0 (fun i => (s5.tx i).ops) (s5.wins.take q)) (l0.getD r [])).f) := e8
     have HE : Hid ((s5.tx (r + 1)).reads = (runP (serD D0 (fun i => (s5.tx i).ops) (s5.wins.take q)) (l0.getD r [])).reads ∧ clean (serD D0 (fun i => (s5.tx i).ops) (s5.wins.take q)) (l0.getD r []) ∧ (s5.tx (r + 1)).state = 1 ∧ r + 1 ≤ s5.n) := ⟨e3, e4, e5, e7⟩
     have HSE : Hid (wr.heap[sb]? = some (.cells (bcells (seenL s5.n (s5.wins.take q))) 4 (0, 0))) := hsb.seen
     clear e1 e2 e3 e4 e5 e6 e7 e8 hr hopr hsb
     generalize serD D0 (fun i => (s5.tx i).ops) (s5.wins.take q) = D at *
     have j0 : (0 : Int) ≤ (q : Int) := by omega
     have j1 : (q : Int) < (wl : Int) := by omega
     have j2 : (0 : Int) ≤ (r : Int) := by omega
     have j3 : (r : Int) < (nl : Int) := by omega
     have gw' : wr.cell? ⟨a, q, none⟩ = some (.int .i64 ((r : Int) + 1)) := by rw [gw]; rfl
     clear gw f2 f3
     go_wp2_with fail
     clear f1 gw' gs gf
     generalize wr.setCell ⟨sb, r, none⟩ (.bool true) = W8 at *
     obtain ⟨g', off', c'', xa', xc', q1, q2, q3⟩ := HM8.out.wh.elem2 r (by rw [HL0.out]; exact hrn)
     rw [HL0.out] at q1
     have HRUN : Hid (∀ W, RunPre W8 W → Calls Tryz.prog 21 #[.agg #[.bool (Tf D 0), .bool (Tf D 1), .bool (Tf D 2), .bool (Tf D 3), .bool (Tf D 4), .int .i64 (Vf D 0), .int .i64 (Vf D 1), .int .i64 (Vf D 2), .int .i64 (Vf D 3), .int .i64 (Vf D 4)], .slice xa' (l0.getD r []).length xc'] W fun e w' => ∃ x, e = .returned (.tuple #[.agg #[.bool (Tf (runP D (l0.getD r [])).f 0), .bool (Tf (runP D (l0.getD r [])).f 1), .bool (Tf (runP D (l0.getD r [])).f 2), .bool (Tf (runP D (l0.getD r [])).f 3), .bool (Tf (runP D (l0.getD r [])).f 4), .int .i64 (Vf (runP D (l0.getD r [])).f 0), .int .i64 (Vf (runP D (l0.getD r [])).f 1), .int .i64 (Vf (runP D (l0.getD r [])).f 2), .int .i64 (Vf (runP D (l0.getD r [])).f 3), .int .i64 (Vf (runP D (l0.getD r [])).f 4)], x, .agg #[.int .i64 ((runP D (l0.getD r [])).regs 0), .int .i64 ((runP D (l0.getD r [])).regs 1), .int .i64 ((runP D (l0.getD r [])).regs 2), .int .i64 ((runP D (l0.getD r [])).regs 3)], .bool true]) ∧ RowAt w' 105 3 x (runP D (l0.getD r [])).reads.length (seenCells (runP D (l0.getD r [])).reads) ∧ Kept NoBlk W w' ∧ Hid (∀ j, x.ownBlock = some j → W8.heap.size ≤ j)) := fun W hW => by
      refine (run_any D _ (l0.getD r []) W (q3.kept (show Kept NoBlk W8 W from hW) (fun _ _ x => x)) (H6.out r) (HOL.out r)).mono ?_
      rintro e w' ⟨⟨_, x, e1, e2, e3⟩ | ⟨h0, _⟩, hk⟩
      ·exact ⟨x, e1, e2, hk, fun j hj => Nat.le_trans (show Kept NoBlk W8 W from hW).size (e3 j hj)⟩
      ·exact absurd HE.out.2.1 h0
     clear q3
     generalize hP : runP D (l0.getD r []) = P at *
     have HP : Hid (runP D (l0.getD r []) = P) := hP
     clear hP
     generalize hll : (l0.getD r []).length = ll0 at *
     have d0 : W8.cell? ⟨ab, 0, none⟩ = some (.bool (Tf D 0)) := by rw [cell_at HM8.out.cur]; rfl
     have d1 : W8.cell? ⟨ab, 1, none⟩ = some (.bool (Tf D 1)) := by rw [cell_at HM8.out.cur]; rfl
     have d2 : W8.cell? ⟨ab, 2, none⟩ = some (.bool (Tf D 2)) := by rw [cell_at HM8.out.cur]; rfl
     have d3 : W8.cell? ⟨ab, 3, none⟩ = some (.bool (Tf D 3)) := by rw [cell_at HM8.out.cur]; rfl
     have d4 : W8.cell? ⟨ab, 4, none⟩ = some (.bool (Tf D 4)) := by rw [cell_at HM8.out.cur]; rfl
     have d5 : W8.cell? ⟨ab, 5, none⟩ = some (.int .i64 (Vf D 0)) := by rw [cell_at HM8.out.cur]; rfl
     have d6 : W8.cell? ⟨ab, 6, none⟩ = some (.int .i64 (Vf D 1)) := by rw [cell_at HM8.out.cur]; rfl
     have d7 : W8.cell? ⟨ab, 7, none⟩ = some (.int .i64 (Vf D 2)) := by rw [cell_at HM8.out.cur]; rfl
     have d8 : W8.cell? ⟨ab, 8, none⟩ = some (.int .i64 (Vf D 3)) := by rw [cell_at HM8.out.cur]; rfl
     have d9 : W8.cell? ⟨ab, 9, none⟩ = some (.int .i64 (Vf D 4)) := by rw [cell_at HM8.out.cur]; rfl
     have HSS : Hid (∀ w', RunPre W8 w' → w'.cell? ⟨ab, 0, none⟩ = some (.bool (Tf D 0)) ∧ w'.cell? ⟨ab, 1, none⟩ = some (.bool (Tf D 1)) ∧ w'.cell? ⟨ab, 2, none⟩ = some (.bool (Tf D 2)) ∧ w'.cell? ⟨ab, 3, none⟩ = some (.bool (Tf D 3)) ∧ w'.cell? ⟨ab, 4, none⟩ = some (.bool (Tf D 4)) ∧ w'.cell? ⟨ab, 5, none⟩ = some (.int .i64 (Vf D 0)) ∧ w'.cell? ⟨ab, 6, none⟩ = some (.int .i64 (Vf D 1)) ∧ w'.cell? ⟨ab, 7, none⟩ = some (.int .i64 (Vf D 2)) ∧ w'.cell? ⟨ab, 8, none⟩ = some (.int .i64 (Vf D 3)) ∧ w'.cell? ⟨ab, 9, none⟩ = some (.int .i64 (Vf D 4)) ∧ w'.cell? ⟨wb, 11, none⟩ = some (.slice (some ⟨g', off', none⟩) nl c'') ∧ w'.cell? ⟨g', off' + r, none⟩ = some (.slice xa' ll0 xc') ∧ RunPre W8 w') := fun w' h => RunPre.cells ⟨d0, d1, d2, d3, d4, d5, d6, d7, d8, d9, q1, q2⟩ h
     have hp0 : RunPre W8 W8 := Kept.refl NoBlk W8
     have hle1 : W8.heap.size ≤ W8.heap.size + 1 := Nat.le_succ _
     have hwr : IntKind.wrap .i64 (r : Int) = (r : Int) := by rw [IntKind.wrap_i64]; omega
     refine' cut3 (X := Nat) (Y := Nat) (Z := Value) _ (fun tb rb x w10 => w10.heap[tb]? = some (.cells (cells5 (Tf P.f) (Vf P.f)) 58 (0, 0)) ∧ W8.heap.size ≤ tb ∧ RowAt w10 105 3 x P.reads.length (seenCells P.reads) ∧ Kept NoBlk W8 w10 ∧ Hid (∀ j, x.ownBlock = some j → W8.heap.size ≤ j)) ?_ ?_
     rotate_left
     ·go_region_held3 (fun w' => w'.cell? ⟨ab, 0, none⟩ = some (.bool (Tf D 0)) ∧ w'.cell? ⟨ab, 1, none⟩ = some (.bool (Tf D 1)) ∧ w'.cell? ⟨ab, 2, none⟩ = some (.bool (Tf D 2)) ∧ w'.cell? ⟨ab, 3, none⟩ = some (.bool (Tf D 3)) ∧ w'.cell? ⟨ab, 4, none⟩ = some (.bool (Tf D 4)) ∧ w'.cell? ⟨ab, 5, none⟩ = some (.int .i64 (Vf D 0)) ∧ w'.cell? ⟨ab, 6, none⟩ = some (.int .i64 (Vf D 1)) ∧ w'.cell? ⟨ab, 7, none⟩ = some (.int .i64 (Vf D 2)) ∧ w'.cell? ⟨ab, 8, none⟩ = some (.int .i64 (Vf D 3)) ∧ w'.cell? ⟨ab, 9, none⟩ = some (.int .i64 (Vf D 4)) ∧ w'.cell? ⟨wb, 11, none⟩ = some (.slice (some ⟨g', off', none⟩) nl c'') ∧ w'.cell? ⟨g', off' + r, none⟩ = some (.slice xa' ll0 xc') ∧ RunPre W8 w')
       ((refine HSS.out _ ?_; (repeat (with_reducible refine RunPre.setCell _ _ _ (by with_reducible first | exact Nat.le_refl _ | exact hle1 | exact hsz9 | exact hsz91) ?_)); (repeat (with_reducible refine RunPre.drew ?_)); (repeat (with_reducible refine RunPre.setCell _ _ _ (by with_reducible first | exact Nat.le_refl _ | exact hle1 | exact hsz9 | exact hsz91) ?_)); (repeat (with_reducible refine RunPre.alloc _ ?_)); (with_reducible first | exact hp9 | exact hp0)))
       (first | (go_at_call 21; (with_reducible refine (HRUN.out _ (by (repeat (with_reducible refine RunPre.drew ?_)); (repeat (with_reducible refine RunPre.alloc _ ?_)); with_reducible exact hp0)).mono ?_); rintro e w9 ⟨x, rfl, hx9, hk9, hxo⟩; have hp9 : RunPre W8 w9 := RunPre.kept hk9 (by (repeat (with_reducible refine RunPre.drew ?_)); (repeat (with_reducible refine RunPre.alloc _ ?_)); with_reducible exact hp0); have hsz9 : W8.heap.size ≤ w9.heap.size := (Kept.size hp9); have hsz91 : W8.heap.size ≤ w9.heap.size + 1 := Nat.le_succ_of_le hsz9; first | (have hw : Kept NoBlk ((W8.alloc (.cells #[.bool false, .bool false, .bool false, .bool false, .bool false, .int .i64 0, .int .i64 0, .int .i64 0, .int .i64 0, .int .i64 0] 58)).alloc (.cells #[.int .i64 0, .int .i64 0, .int .i64 0, .int .i64 0] 62)).drew w9 := (by with_reducible exact hk9); have HSB : ((W8.alloc (.cells #[.bool false, .bool false, .bool false, .bool false, .bool false, .int .i64 0, .int .i64 0, .int .i64 0, .int .i64 0, .int .i64 0] 58)).alloc (.cells #[.int .i64 0, .int .i64 0, .int .i64 0, .int .i64 0] 62)).drew.heap[W8.heap.size]? = some _ := block_alloc_old _ (block_alloc_new W8 _); have HRB : ((W8.alloc (.cells #[.bool false, .bool false, .bool false, .bool false, .bool false, .int .i64 0, .int .i64 0, .int .i64 0, .int .i64 0, .int .i64 0] 58)).alloc (.cells #[.int .i64 0, .int .i64 0, .int .i64 0, .int .i64 0] 62)).drew.heap[W8.heap.size + 1]? = some _ := block_new2 W8 _ _; obtain ⟨⟨s0, s1, s2, s3, s4, s5, s6, s7, s8, s9, sf⟩, su, hS9, sn1, sn2⟩ := boxS hk9 (b := W8.heap.size) HSB; have u0 := fun o => (su o).1; have u1 := fun o => (su o).2.1; have u2 := fun o => (su o).2.2.1; have u3 := fun o => (su o).2.2.2.1; have u4 := fun o => (su o).2.2.2.2.1; have u5 := fun o => (su o).2.2.2.2.2.1; have u6 := fun o => (su o).2.2.2.2.2.2.1; have u7 := fun o => (su o).2.2.2.2.2.2.2.1; have u8 := fun o => (su o).2.2.2.2.2.2.2.2.1; have u9 := fun o => (su o).2.2.2.2.2.2.2.2.2.1; have uf := fun o => (su o).2.2.2.2.2.2.2.2.2.2; obtain ⟨⟨r0, r1, r2, r3, rf⟩, ru, hR9, rn1, rn2⟩ := boxR hk9 (b := W8.heap.size + 1) HRB; have y0 := fun o => (ru o).1; have y1 := fun o => (ru o).2.1; have y2 := fun o => (ru o).2.2.1; have y3 := fun o => (ru o).2.2.2.1; have yf := fun o => (ru o).2.2.2.2; clear su ru hw) | (have hw : Kept NoBlk ((W8.alloc (.cells #[.int .i64 0, .int .i64 0, .int .i64 0, .int .i64 0] 62)).alloc (.cells #[.bool false, .bool false, .bool false, .bool false, .bool false, .int .i64 0, .int .i64 0, .int .i64 0, .int .i64 0, .int .i64 0] 58)).drew w9 := (by with_reducible exact hk9); have HRB : ((W8.alloc (.cells #[.int .i64 0, .int .i64 0, .int .i64 0, .int .i64 0] 62)).alloc (.cells #[.bool false, .bool false, .bool false, .bool false, .bool false, .int .i64 0, .int .i64 0, .int .i64 0, .int .i64 0, .int .i64 0] 58)).drew.heap[W8.heap.size]? = some _ := block_alloc_old _ (block_alloc_new W8 _); have HSB : ((W8.alloc (.cells #[.int .i64 0, .int .i64 0, .int .i64 0, .int .i64 0] 62)).alloc (.cells #[.bool false, .bool false, .bool false, .bool false, .bool false, .int .i64 0, .int .i64 0, .int .i64 0, .int .i64 0, .int .i64 0] 58)).drew.heap[W8.heap.size + 1]? = some _ := block_new2 W8 _ _; obtain ⟨⟨s0, s1, s2, s3, s4, s5, s6, s7, s8, s9, sf⟩, su, hS9, sn1, sn2⟩ := boxS hk9 (b := W8.heap.size + 1) HSB; have u0 := fun o => (su o).1; have u1 := fun o => (su o).2.1; have u2 := fun o => (su o).2.2.1; have u3 := fun o => (su o).2.2.2.1; have u4 := fun o => (su o).2.2.2.2.1; have u5 := fun o => (su o).2.2.2.2.2.1; have u6 := fun o => (su o).2.2.2.2.2.2.1; have u7 := fun o => (su o).2.2.2.2.2.2.2.1; have u8 := fun o => (su o).2.2.2.2.2.2.2.2.1; have u9 := fun o => (su o).2.2.2.2.2.2.2.2.2.1; have uf := fun o => (su o).2.2.2.2.2.2.2.2.2.2; obtain ⟨⟨r0, r1, r2, r3, rf⟩, ru, hR9, rn1, rn2⟩ := boxR hk9 (b := W8.heap.size) HRB; have y0 := fun o => (ru o).1; have y1 := fun o => (ru o).2.1; have y2 := fun o => (ru o).2.2.1; have y3 := fun o => (ru o).2.2.2.1; have yf := fun o => (ru o).2.2.2.2; clear su ru hw) | (have hw : Kept NoBlk (W8.alloc (.cells #[.bool false, .bool false, .bool false, .bool false, .bool false, .int .i64 0, .int .i64 0, .int .i64 0, .int .i64 0, .int .i64 0] 58)).drew w9 := (by with_reducible exact hk9); have HSB : (W8.alloc (.cells #[.bool false, .bool false, .bool false, .bool false, .bool false, .int .i64 0, .int .i64 0, .int .i64 0, .int .i64 0, .int .i64 0] 58)).drew.heap[W8.heap.size]? = some _ := block_alloc_new W8 _; obtain ⟨⟨s0, s1, s2, s3, s4, s5, s6, s7, s8, s9, sf⟩, su, hS9, sn1, sn2⟩ := boxS hk9 (b := W8.heap.size) HSB; have u0 := fun o => (su o).1; have u1 := fun o => (su o).2.1; have u2 := fun o => (su o).2.2.1; have u3 := fun o => (su o).2.2.2.1; have u4 := fun o => (su o).2.2.2.2.1; have u5 := fun o => (su o).2.2.2.2.2.1; have u6 := fun o => (su o).2.2.2.2.2.2.1; have u7 := fun o => (su o).2.2.2.2.2.2.2.1; have u8 := fun o => (su o).2.2.2.2.2.2.2.2.1; have u9 := fun o => (su o).2.2.2.2.2.2.2.2.2.1; have uf := fun o => (su o).2.2.2.2.2.2.2.2.2.2; clear su hw) | (have hw : Kept NoBlk (W8.alloc (.cells #[.int .i64 0, .int .i64 0, .int .i64 0, .int .i64 0] 62)).drew w9 := (by with_reducible exact hk9); have HRB : (W8.alloc (.cells #[.int .i64 0, .int .i64 0, .int .i64 0, .int .i64 0] 62)).drew.heap[W8.heap.size]? = some _ := block_alloc_new W8 _; obtain ⟨⟨r0, r1, r2, r3, rf⟩, ru, hR9, rn1, rn2⟩ := boxR hk9 (b := W8.heap.size) HRB; have y0 := fun o => (ru o).1; have y1 := fun o => (ru o).2.1; have y2 := fun o => (ru o).2.2.1; have y3 := fun o => (ru o).2.2.2.1; have yf := fun o => (ru o).2.2.2.2; clear ru hw) | skip))
      ·have F : ((w9.alloc (.cells (cells5 (Tf P.f) (Vf P.f)) 58)).alloc (.cells (cells4 P.regs) 62)).heap[w9.heap.size]? = some (.cells (cells5 (Tf P.f) (Vf P.f)) 58 (0, 0)) ∧ W8.heap.size ≤ w9.heap.size ∧ RowAt ((w9.alloc (.cells (cells5 (Tf P.f) (Vf P.f)) 58)).alloc (.cells (cells4 P.regs) 62)) 105 3 x P.reads.length (seenCells P.reads) ∧ Kept NoBlk W8 ((w9.alloc (.cells (cells5 (Tf P.f) (Vf P.f)) 58)).alloc (.cells (cells4 P.regs) 62)) := ⟨block_alloc_old _ (block_alloc_new w9 _), hsz9, (hx9.kept ((Kept.refl NoBlk w9).alloc _) (fun _ _ x => x)).kept ((Kept.refl NoBlk _).alloc _) (fun _ _ x => x), (Kept.alloc (show Kept NoBlk W8 w9 from hp9) _).alloc _⟩
       obtain ⟨F1, F2, F3, F4⟩ := F
       obtain ⟨tb, htb⟩ : ∃ t, t = w9.heap.size := ⟨_, rfl⟩
       obtain ⟨rb, hrb⟩ : ∃ t, t = w9.heap.size + 1 := ⟨_, rfl⟩
       refine ⟨tb, rb, x, ?_, by rw [htb]; exact F1, by rw [htb]; exact F2, F3, F4, hxo⟩
       rw [← hrb, ← htb]
      ·have F : ((w9.alloc (.cells (cells4 P.regs) 62)).alloc (.cells (cells5 (Tf P.f) (Vf P.f)) 58)).heap[(w9.heap.size + 1)]? = some (.cells (cells5 (Tf P.f) (Vf P.f)) 58 (0, 0)) ∧ W8.heap.size ≤ (w9.heap.size + 1) ∧ RowAt ((w9.alloc (.cells (cells4 P.regs) 62)).alloc (.cells (cells5 (Tf P.f) (Vf P.f)) 58)) 105 3 x P.reads.length (seenCells P.reads) ∧ Kept NoBlk W8 ((w9.alloc (.cells (cells4 P.regs) 62)).alloc (.cells (cells5 (Tf P.f) (Vf P.f)) 58)) := ⟨block_new2 w9 _ _, hsz91, (hx9.kept ((Kept.refl NoBlk w9).alloc _) (fun _ _ x => x)).kept ((Kept.refl NoBlk _).alloc _) (fun _ _ x => x), (Kept.alloc (show Kept NoBlk W8 w9 from hp9) _).alloc _⟩
       obtain ⟨F1, F2, F3, F4⟩ := F
       obtain ⟨tb, htb⟩ : ∃ t, t = w9.heap.size + 1 := ⟨_, rfl⟩
       obtain ⟨rb, hrb⟩ : ∃ t, t = w9.heap.size := ⟨_, rfl⟩
       refine ⟨tb, rb, x, ?_, by rw [htb]; exact F1, by rw [htb]; exact F2, F3, F4, hxo⟩
       rw [← htb, ← hrb]
      ·have F := runPut (Kept.alloc (show Kept NoBlk W8 w9 from hp9) (.cells #[.int .i64 0, .int .i64 0, .int .i64 0, .int .i64 0] 62)) W8.heap.size w9.heap.size P.f P.regs x (block_alloc_old _ hS9) (block_alloc_new w9 _) (Nat.le_refl _) hsz9 (hx9.kept ((Kept.refl NoBlk w9).alloc _) (fun _ _ x => x))
       obtain ⟨F1, F2, F3, F4⟩ := F
       obtain ⟨tb, htb⟩ : ∃ t, t = W8.heap.size := ⟨_, rfl⟩
       obtain ⟨rb, hrb⟩ : ∃ t, t = w9.heap.size := ⟨_, rfl⟩
       refine ⟨tb, rb, x, ?_, by rw [htb]; exact F1, by rw [htb]; exact F2, F3, F4, hxo⟩
       rw [← hrb, ← htb]
      ·have F := runPut (show Kept NoBlk W8 w9 from hp9) W8.heap.size (W8.heap.size + 1) P.f P.regs x hS9 hR9 (Nat.le_refl _) hle1 hx9
       obtain ⟨F1, F2, F3, F4⟩ := F
       obtain ⟨tb, htb⟩ : ∃ t, t = W8.heap.size := ⟨_, rfl⟩
       obtain ⟨rb, hrb⟩ : ∃ t, t = W8.heap.size + 1 := ⟨_, rfl⟩
       refine ⟨tb, rb, x, ?_, by rw [htb]; exact F1, by rw [htb]; exact F2, F3, F4, hxo⟩
       rw [← hrb, ← htb]
      ·have F := regPut (Kept.alloc (show Kept NoBlk W8 w9 from hp9) (.cells (cells5 (Tf P.f) (Vf P.f)) 58)) w9.heap.size W8.heap.size P.f P.regs x (block_alloc_new w9 _) (block_alloc_old _ hR9) hsz9 (Nat.le_refl _) (hx9.kept ((Kept.refl NoBlk w9).alloc _) (fun _ _ x => x))
       obtain ⟨F1, F2, F3, F4⟩ := F
       obtain ⟨tb, htb⟩ : ∃ t, t = w9.heap.size := ⟨_, rfl⟩
       obtain ⟨rb, hrb⟩ : ∃ t, t = W8.heap.size := ⟨_, rfl⟩
       refine ⟨tb, rb, x, ?_, by rw [htb]; exact F1, by rw [htb]; exact F2, F3, F4, hxo⟩
       rw [← hrb, ← htb]
      ·have F := runPut (show Kept NoBlk W8 w9 from hp9) (W8.heap.size + 1) W8.heap.size P.f P.regs x hS9 hR9 hle1 (Nat.le_refl _) hx9
       obtain ⟨F1, F2, F3, F4⟩ := F
       obtain ⟨tb, htb⟩ : ∃ t, t = W8.heap.size + 1 := ⟨_, rfl⟩
       obtain ⟨rb, hrb⟩ : ∃ t, t = W8.heap.size := ⟨_, rfl⟩
       refine ⟨tb, rb, x, ?_, by rw [htb]; exact F1, by rw [htb]; exact F2, F3, F4, hxo⟩
       rw [← htb, ← hrb]
     rintro tb rb x w10 ⟨htb, hle, hx10, hk10, hxo⟩
     have HM10 : Hid (SB L bs T V l0 wb (k + 550) w s5 ow5 ab a sb D (s5.wins.take (q + 1)) w10) := HM8.out.keep0 hk10
     have hsz8 := lt_of_block HM8.out.cur
     have HOT : Hid (¬ OwnP ow5 tb ∧ ∀ j, x.ownBlock = some j → ¬ OwnP ow5 j) := ⟨fun e => by have := HM8.out.st.st.lt _ e; omega, fun j hj e => by have := HM8.out.st.st.lt _ e; have := hxo.out j hj; omega⟩
     have hne1 : ¬ tb = ab := by omega
     have hne2 : ¬ ab = tb := by omega
     obtain ⟨xa9, xc9, rfl, _⟩ := hx10.form
     have HX10 : Hid (RowAt w10 105 3 (.slice xa9 P.reads.length xc9) P.reads.length (seenCells P.reads) ∧ w10.heap[tb]? = some (.cells (cells5 (Tf P.f) (Vf P.f)) 58 (0, 0))) := ⟨hx10, htb⟩
     have HTX : Hid (Calls Tryz.prog 23 #[.pointer (some ⟨L.p, 0, none⟩), .int .i64 ((r : Int) + 1)] w10 fun e w' => ∃ x, e = .returned (.tuple #[x, .int .i64 0]) ∧ TxnTold w10 (s5.tx (r + 1)) x w' ∧ KSt L bs ow5 (k + 550) s5 w' ∧ Kept (OwnP ow5) w10 w') := kTxn HM10.out.st (r + 1) ⟨by omega, HE.out.2.2.2⟩
     have c0 : w10.cell? ⟨wb, 0, none⟩ = some (.pointer (some ⟨L.p, 0, none⟩)) := by
      obtain ⟨ov, xs, b1, _⟩ := HM10.out.wh.body
      rw [cell_at b1]; rfl
     have HTT : Hid ((s5.tx (r + 1)).reads = P.reads ∧ (s5.tx (r + 1)).state = 1) := ⟨HE.out.1, HE.out.2.2.1⟩
     have HSR : Hid (serD D0 (fun i => (s5.tx i).ops) (s5.wins.take (q + 1)) = P.f) := HD.out
     clear hx10 htb hk10 hle hxo hsz8 HM8 HRUN HSS hp0 hle1 hwr d0 d1 d2 d3 d4 d5 d6 d7 d8 d9 q1 q2 hll HE HD HP
     go_wp2_with fail
     refine HTX.out.mono ?_
     rintro e w11 ⟨tv, rfl, ⟨a1, k1, rfl, t1, t2, t3, t4⟩, h11, hk11⟩
     have hrd : P.reads.length ≤ 12 := by
      obtain ⟨_, _, _, _, _, _, y4, _⟩ := h11.st.txs (r + 1) (by omega) (by have := HNL.out; omega)
      rw [HTT.out.1] at y4
      exact y4
     rw [HTT.out.1, HTT.out.2]
     rw [HTT.out.1] at t4
     have HM11 : Hid (SB L bs T V l0 wb (k + 550) w s5 ow5 ab a sb D (s5.wins.take (q + 1)) w11) := HM10.out.keep h11 hk11
     have HX11 : Hid (w11.heap[tb]? = some (.cells (cells5 (Tf P.f) (Vf P.f)) 58 (0, 0))) := hk11.heap HX10.out.2 HOT.out.1
     have HSN : Hid (∀ bx, Calls Tryz.prog 28 #[.slice (some ⟨k1, 0, none⟩) P.reads.length P.reads.length, .slice xa9 P.reads.length xc9] (w11.alloc bx) fun e w' => e = .returned (.bool true) ∧ Kept NoBlk (w11.alloc bx) w') := fun bx => by
      have hl3 := seenCells_len P.reads
      exact sameSeen_true _ _ P.reads (w11.alloc bx) (RowAt.full (block_alloc_old bx t4) hl3 (by unfold maxLen; omega)) ((HX10.out.1.kept hk11 HOT.out.2).kept ((Kept.refl NoBlk w11).alloc bx) (fun _ _ x => x)) (by omega)
     clear t1 t2 t3 t4 h11 hk11 HTX HM10 HX10 HOT HTT c0
     generalize (s5.tx (r + 1)).stamp = tst at *
     generalize (s5.tx (r + 1)).next = tnx at *
     generalize (s5.tx (r + 1)).wounded = twd at *
     generalize (s5.tx (r + 1)).waits.isSome = twt at *
     generalize (s5.tx (r + 1)).agains = tag at *
     go_wp2_with fail
     refine (HSN.out _).mono ?_
     rintro e w12 ⟨rfl, hk12⟩
     have hb12 := hk12.heap (block_alloc_new w11 _) (fun x => x)
     have hkk : Kept NoBlk w11 w12 := ((Kept.refl NoBlk w11).alloc _).trans' hk12
     have hm12 := HM11.out.keep0 hkk
     have hx12 := hkk.heap HX11.out (fun x => x)
     have HM12 : Hid (SB L bs T V l0 wb (k + 550) w s5 ow5 ab a sb D (s5.wins.take (q + 1)) w12) := hm12
     have ts : w12.cell? ⟨w11.heap.size, 1, none⟩ = some (.int .i64 1) := by rw [cell_at hb12]; rfl
     have v0 : w12.cell? ⟨tb, 0, none⟩ = some (.bool (Tf P.f 0)) := by rw [cell_at hx12]; rfl
     have v1 : w12.cell? ⟨tb, 1, none⟩ = some (.bool (Tf P.f 1)) := by rw [cell_at hx12]; rfl
     have v2 : w12.cell? ⟨tb, 2, none⟩ = some (.bool (Tf P.f 2)) := by rw [cell_at hx12]; rfl
     have v3 : w12.cell? ⟨tb, 3, none⟩ = some (.bool (Tf P.f 3)) := by rw [cell_at hx12]; rfl
     have v4 : w12.cell? ⟨tb, 4, none⟩ = some (.bool (Tf P.f 4)) := by rw [cell_at hx12]; rfl
     have v5 : w12.cell? ⟨tb, 5, none⟩ = some (.int .i64 (Vf P.f 0)) := by rw [cell_at hx12]; rfl
     have v6 : w12.cell? ⟨tb, 6, none⟩ = some (.int .i64 (Vf P.f 1)) := by rw [cell_at hx12]; rfl
     have v7 : w12.cell? ⟨tb, 7, none⟩ = some (.int .i64 (Vf P.f 2)) := by rw [cell_at hx12]; rfl
     have v8 : w12.cell? ⟨tb, 8, none⟩ = some (.int .i64 (Vf P.f 3)) := by rw [cell_at hx12]; rfl
     have v9 : w12.cell? ⟨tb, 9, none⟩ = some (.int .i64 (Vf P.f 4)) := by rw [cell_at hx12]; rfl
     have vf : ∀ j, w12.frozen? ⟨ab, j, none⟩ = false := frozen_at hm12.cur
     have y0 : w12.cell? ⟨ab, 0, none⟩ = some (.bool (Tf D 0)) := by rw [cell_at hm12.cur]; rfl
     have y1 : w12.cell? ⟨ab, 1, none⟩ = some (.bool (Tf D 1)) := by rw [cell_at hm12.cur]; rfl
     have y2 : w12.cell? ⟨ab, 2, none⟩ = some (.bool (Tf D 2)) := by rw [cell_at hm12.cur]; rfl
     have y3 : w12.cell? ⟨ab, 3, none⟩ = some (.bool (Tf D 3)) := by rw [cell_at hm12.cur]; rfl
     have y4 : w12.cell? ⟨ab, 4, none⟩ = some (.bool (Tf D 4)) := by rw [cell_at hm12.cur]; rfl
     have y5 : w12.cell? ⟨ab, 5, none⟩ = some (.int .i64 (Vf D 0)) := by rw [cell_at hm12.cur]; rfl
     have y6 : w12.cell? ⟨ab, 6, none⟩ = some (.int .i64 (Vf D 1)) := by rw [cell_at hm12.cur]; rfl
     have y7 : w12.cell? ⟨ab, 7, none⟩ = some (.int .i64 (Vf D 2)) := by rw [cell_at hm12.cur]; rfl
     have y8 : w12.cell? ⟨ab, 8, none⟩ = some (.int .i64 (Vf D 3)) := by rw [cell_at hm12.cur]; rfl
     have y9 : w12.cell? ⟨ab, 9, none⟩ = some (.int .i64 (Vf D 4)) := by rw [cell_at hm12.cur]; rfl
     clear hb12 hkk hm12 hx12 hk12 HSN HM11 HX11
     generalize w11.heap.size = ub at *
     go_wp2_with fail
     go_roundw
     case rel => exact ⟨q + 1, by omega, by go_num, by rw [HSR.out]; exact HM12.out.turn P.f⟩
     case measure => simp [intOf]; omega
    ·have hqw : q = wl := by omega
     subst hqw
     have htk : s5.wins.take q = s5.wins := List.take_of_length_le (by rw [HWN.out]; exact Nat.le_refl _)
     rw [htk, ← HJ5.out.1.hist.done HJ5.out.2.2.2] at hsb
     have HB8 : Hid (SB L bs T V l0 wb (k + 550) w s5 ow5 ab a sb s5.rows s5.wins wr) := hsb
     have HFV5 : Hid (Five s5.rows) := by
      unfold Hid
      rw [HJ5.out.1.hist.done HJ5.out.2.2.2]
      exact serD_five (fun i => HJ5.out.1.ops i) _ HFV.out
     obtain ⟨cs, ao, c, x1, _, x3⟩ := hsb.wh.kw
     have c11 : wr.cell? ⟨wb, 11, none⟩ = some (.slice ao nl c) := by rw [cell_at x1, ← HL0.out]; exact x3
     clear hlt hq
     clear hsb htk x1 x3 HFV HOL H6
     go_wp2_with fail
     go_loopw [25] (fun i wr => ∃ r : Nat, r ≤ nl ∧ i = .int .i64 ((r : Int) + 1) ∧ SB L bs T V l0 wb (k + 550) w s5 ow5 ab a sb s5.rows s5.wins wr) (fun i _ => nl + 1 - (intOf i).toNat)
     case atStart => exact ⟨0, by omega, rfl, HB8.out⟩
     case round =>
      clear HB8 c11
      obtain ⟨r, hr, rfl, hsb⟩ := hrel
      obtain ⟨cs, ao, c, x1, x0, x3⟩ := hsb.wh.kw
      have c11 : wr.cell? ⟨wb, 11, none⟩ = some (.slice ao nl c) := by rw [cell_at x1, ← HL0.out]; exact x3
      have c0 : wr.cell? ⟨wb, 0, none⟩ = some (.pointer (some ⟨L.p, 0, none⟩)) := by rw [cell_at x1]; exact x0
      have HB9 : Hid (SB L bs T V l0 wb (k + 550) w s5 ow5 ab a sb s5.rows s5.wins wr) := hsb
      clear hsb x1 x0 x3
      by_cases hlt : r < nl
      ·have HTX : Hid (Calls Tryz.prog 23 #[.pointer (some ⟨L.p, 0, none⟩), .int .i64 ((r : Int) + 1)] wr fun e w' => ∃ x, e = .returned (.tuple #[x, .int .i64 0]) ∧ TxnTold wr (s5.tx (r + 1)) x w' ∧ KSt L bs ow5 (k + 550) s5 w' ∧ Kept (OwnP ow5) wr w') := kTxn HB9.out.st (r + 1) ⟨by omega, by have := HNL.out; omega⟩
       have j1 : (r : Int) + 1 ≤ (nl : Int) := by omega
       have j2 : (0 : Int) ≤ (r : Int) := by omega
       have j3 : (r : Int) < (nl : Int) := by omega
       have hwr : IntKind.wrap .i64 (r : Int) = (r : Int) := by rw [IntKind.wrap_i64]; omega
       go_wp2_with fail
       refine HTX.out.mono ?_
       rintro e w11 ⟨tv, rfl, ⟨a1, k1, rfl, _, _, _, _⟩, h11, hk11⟩
       have HM11 : Hid (SB L bs T V l0 wb (k + 550) w s5 ow5 ab a sb s5.rows s5.wins w11) := HB9.out.keep h11 hk11
       have gs : ∀ o, (w11.alloc o).cell? ⟨sb, r, none⟩ = some (.bool (decide (r + 1 ∈ s5.wins))) := fun o => ((Kept.refl NoBlk w11).alloc o).cell0 (by rw [cell_at HM11.out.seen, seenL_at _ _ r (by have := HNL.out; omega)])
       have hst : ((s5.tx (r + 1)).state = 1 ∧ decide (r + 1 ∈ s5.wins) = true) ∨ ((s5.tx (r + 1)).state = 2 ∧ decide (r + 1 ∈ s5.wins) = false) := by
        rcases HJ5.out.1.states (r + 1) with h0 | h1 | h2
        ·exact absurd ⟨by omega, by have := HNL.out; omega, h0⟩ (HJ5.out.2.2.2 (r + 1))
        ·exact .inl ⟨h1, by simpa using HJ5.out.1.hist.won _ h1⟩
        ·refine .inr ⟨h2, ?_⟩
         have : r + 1 ∉ s5.wins := fun hm => by
          obtain ⟨w1, w2, e⟩ := List.append_of_mem hm
          have := (HJ5.out.1.hist.past w1 _ w2 e).2.2.1
          rw [h2] at this
          cases this
         simpa using this
       clear h11 hk11 HTX HB9 c0 c11
       generalize decide (r + 1 ∈ s5.wins) = sn1 at *
       generalize (s5.tx (r + 1)).state = tst0 at *
       generalize (s5.tx (r + 1)).stamp = tst at *
       generalize (s5.tx (r + 1)).next = tnx at *
       generalize (s5.tx (r + 1)).wounded = twd at *
       generalize (s5.tx (r + 1)).waits.isSome = twt at *
       generalize (s5.tx (r + 1)).agains = tag at *
       generalize (s5.tx (r + 1)).reads.length = trl at *
       have g1 : (w11.alloc (.cells #[.int .i64 tst, .int .i64 tst0, .int .i64 (tnx : Int), .bool twd, .bool twt, .int .i64 tag, .slice (some ⟨a1, 0, none⟩) 4 4, .slice (some ⟨k1, 0, none⟩) trl trl] 69)).cell? ⟨w11.heap.size, 1, none⟩ = some (.int .i64 tst0) := by rw [cell_at (block_alloc_new w11 _)]; rfl
       have g2 := gs (.cells #[.int .i64 tst, .int .i64 tst0, .int .i64 (tnx : Int), .bool twd, .bool twt, .int .i64 tag, .slice (some ⟨a1, 0, none⟩) 4 4, .slice (some ⟨k1, 0, none⟩) trl trl] 69)
       have HM12 : Hid (SB L bs T V l0 wb (k + 550) w s5 ow5 ab a sb s5.rows s5.wins (w11.alloc (.cells #[.int .i64 tst, .int .i64 tst0, .int .i64 (tnx : Int), .bool twd, .bool twt, .int .i64 tag, .slice (some ⟨a1, 0, none⟩) 4 4, .slice (some ⟨k1, 0, none⟩) trl trl] 69))) := HM11.out.keep0 ((Kept.refl NoBlk w11).alloc _)
       clear gs HM11
       go_wp2_with fail
       generalize w11.alloc (.cells #[.int .i64 tst, .int .i64 tst0, .int .i64 (tnx : Int), .bool twd, .bool twt, .int .i64 tag, .slice (some ⟨a1, 0, none⟩) 4 4, .slice (some ⟨k1, 0, none⟩) trl trl] 69) = W12 at *
       generalize w11.heap.size = ub at *
       rcases hst with ⟨rfl, rfl⟩ | ⟨rfl, rfl⟩
       ·go_quiet (fail)
        go_wp2_with fail
        go_roundw
        case rel => exact ⟨r + 1, by omega, by go_num, HM12.out.keep0 ((Kept.refl NoBlk _).drewN _)⟩
        case measure => simp [intOf]; omega
       ·go_quiet (fail)
        go_wp2_with fail
        go_roundw
        case rel => exact ⟨r + 1, by omega, by go_num, HM12.out.keep0 ((Kept.refl NoBlk _).drewN _)⟩
        case measure => simp [intOf]; omega
      ·have HRS : Hid (Calls Tryz.prog 25 #[.pointer (some ⟨L.p, 0, none⟩)] wr fun e w' => ∃ x l, e = .returned x ∧ RowAt w' 95 2 x l.length (rowCells l) ∧ (∀ k, x.ownBlock = some k → wr.heap.size ≤ k) ∧ RowsOf s5.rows l ∧ KSt L bs ow5 (k + 550) s5 w' ∧ Kept (OwnP ow5) wr w') := kRows HB9.out.st (by omega)
       go_wp2_with fail
       refine HRS.out.mono ?_
       rintro e w7 ⟨y, lr, rfl, hy1, _, hy2, h7, hk7⟩
       have hlr : lr = rows5 (Tf s5.rows) (Vf s5.rows) 5 := hy2.eq (rows5_of HFV5.out)
       subst hlr
       obtain ⟨ya, yc, rfl, _⟩ := hy1.form
       have H7 : Hid (SB L bs T V l0 wb (k + 550) w s5 ow5 ab a sb s5.rows s5.wins w7) := HB9.out.keep h7 hk7
       have b2 := H7.out.cur
       have HY1 : Hid (RowAt w7 95 2 (.slice ya (rows5 (Tf s5.rows) (Vf s5.rows) 5).length yc) (rows5 (Tf s5.rows) (Vf s5.rows) 5).length (rowCells (rows5 (Tf s5.rows) (Vf s5.rows) 5))) := hy1
       generalize s5.rows = G at *
       have v0 : w7.cell? ⟨ab, 0, none⟩ = some (.bool (Tf G 0)) := by rw [cell_at b2]; rfl
       have v1 : w7.cell? ⟨ab, 1, none⟩ = some (.bool (Tf G 1)) := by rw [cell_at b2]; rfl
       have v2 : w7.cell? ⟨ab, 2, none⟩ = some (.bool (Tf G 2)) := by rw [cell_at b2]; rfl
       have v3 : w7.cell? ⟨ab, 3, none⟩ = some (.bool (Tf G 3)) := by rw [cell_at b2]; rfl
       have v4 : w7.cell? ⟨ab, 4, none⟩ = some (.bool (Tf G 4)) := by rw [cell_at b2]; rfl
       have v5 : w7.cell? ⟨ab, 5, none⟩ = some (.int .i64 (Vf G 0)) := by rw [cell_at b2]; rfl
       have v6 : w7.cell? ⟨ab, 6, none⟩ = some (.int .i64 (Vf G 1)) := by rw [cell_at b2]; rfl
       have v7 : w7.cell? ⟨ab, 7, none⟩ = some (.int .i64 (Vf G 2)) := by rw [cell_at b2]; rfl
       have v8 : w7.cell? ⟨ab, 8, none⟩ = some (.int .i64 (Vf G 3)) := by rw [cell_at b2]; rfl
       have v9 : w7.cell? ⟨ab, 9, none⟩ = some (.int .i64 (Vf G 4)) := by rw [cell_at b2]; rfl
       have HRW : Hid (Calls Tryz.prog 26 #[.agg #[.bool (Tf G 0), .bool (Tf G 1), .bool (Tf G 2), .bool (Tf G 3), .bool (Tf G 4), .int .i64 (Vf G 0), .int .i64 (Vf G 1), .int .i64 (Vf G 2), .int .i64 (Vf G 3), .int .i64 (Vf G 4)]] w7 fun e w' => ∃ x, e = .returned x ∧ RowAt w' 95 2 x (rows5 (Tf G) (Vf G) 5).length (rowCells (rows5 (Tf G) (Vf G) 5)) ∧ (∀ k, x.ownBlock = some k → w7.heap.size ≤ k) ∧ Kept NoBlk w7 w') := rows_any (Tf G) (Vf G) w7
       have hr5 := rows5_len (Tf G) (Vf G) 5
       clear hy1 hy2 h7 hk7 b2 HRS HB9 c0 c11
       generalize hrl : (rows5 (Tf G) (Vf G) 5).length = rl at *
       have HRL : Hid ((rows5 (Tf G) (Vf G) 5).length = rl) := hrl
       clear hrl
       go_wp2_with fail
       refine HRW.out.mono ?_
       rintro e w8 ⟨x2, rfl, hz1, hz2, hk8⟩
       have HSM : Hid (Calls Tryz.prog 24 #[.slice ya rl yc, x2] w8 fun e w' => e = .returned (.bool true) ∧ Kept NoBlk w8 w') := by
        have h1 : RowAt w8 95 2 (.slice ya rl yc) (rows5 (Tf G) (Vf G) 5).length (rowCells (rows5 (Tf G) (Vf G) 5)) := by rw [HRL.out]; exact HY1.out.kept hk8 (fun _ _ x => x)
        exact sameRows_true _ _ (rows5 (Tf G) (Vf G) 5) w8 h1 (by rw [HRL.out]; exact hz1) (by rw [HRL.out]; omega)
       have H8 : Hid (Kept NoBlk w w8) := H7.out.kept.trans' hk8
       obtain ⟨xa2, xc2, rfl, _⟩ := hz1.form
       clear hz1 hz2 hk8 HRW H7 HY1 v0 v1 v2 v3 v4 v5 v6 v7 v8 v9
       go_wp2_with fail
       refine HSM.out.mono ?_
       rintro e w9 ⟨rfl, hk9⟩
       have H9 : Hid (Kept NoBlk w w9) := H8.out.trans' hk9
       clear hk9 HSM H8
       go_wp2_with fail
       go_ret
       exact ⟨rfl, H9.out⟩
end Go.Proofs.YtmcajfefagdbnaaGreat
