import Derived.Test.YtmcajfefagdbnaaGreatLKAl3
import Derived.Test.YtmcajfefagdbnaaGreatLKRun
import Derived.Test.YtmcajfefagdbnaaGreatLKUntouched
import Derived.Deep.RegionHeld3
import Derived.Deep.DrawnRows
namespace Go.Proofs.YtmcajfefagdbnaaGreat
open Go Go.RowKit
set_option maxRecDepth 20000 in
set_option maxHeartbeats 3200000 in
theorem aloneLaw (vr : Value) (raw : List Int) (vo : Value) (l : List Op4) (w : World) (hr : IntsSrc w vr raw) (hrl : raw.length ≤ 17592186044416) (hrin : ∀ x ∈ raw, inI x) (ho : OpsSrc w vo l) (hol : l.length ≤ 17592186044416) (hoin : OpsIn l) :
  Calls Tryz.prog 7 #[vr, vo] w fun e w' => e = .returned (.bool true) ∧ Kept NoBlk w w' := by
 have HR : Hid (IntsSrc w vr raw ∧ (∀ x ∈ raw, inI x)) := ⟨hr, hrin⟩
 have HO : Hid (OpsSrc w vo l ∧ OpsIn l) := ⟨ho, hoin⟩
 obtain ⟨ra, rc, rfl, _⟩ := hr
 obtain ⟨oa, oc, rfl, _⟩ := ho
 obtain ⟨i1, hi1, hy0, hy1, hy2⟩ := info_parts infoOps
 have HI : Hid (Tryz.prog.info? 39 = some i1 ∧ i1.zero = some (.slice none 0 0) ∧ i1.size = 1 ∧ i1.bytes = 24) := ⟨hi1, hy0, hy1, hy2⟩
 have HBB5 : Hid ((0 + 1) * 24 ≤ 140737488355328) := by unfold Hid; omega
 have HBB6 : Hid (0 + 1 ≤ maxLen) := by unfold Hid maxLen; omega
 clear hrin hoin hi1 hy0 hy1 hy2
 generalize hrn : raw.length = rn at *
 generalize hln : l.length = ln at *
 have HLN : Hid (raw.length = rn ∧ l.length = ln) := ⟨hrn, hln⟩
 clear hrn hln
 go_enter Tryz.func7, Tryz.ntmps7
 go_wp2_with (at_builtin; refine wpList_append_row (by rfl) _ _ 52 (by rfl) 39 i1 _ 1 24 Tryz.underlying52 HI.out.1 HI.out.2.1 HI.out.2.2.1 HI.out.2.2.2 (by rfl) (.slice none 0 0) 0 [] (by rfl) (RowAt.nil _ _ _) (.slice (some ⟨w.heap.size, 0, none⟩) 1 1) 1 [.slice oa ln oc] (by rfl) (from_new1 w _ _ rfl) HBB6.out HBB5.out ?_)
 intro ao2 c2 W1 hown1 hmv1
 have hkk1 : Kept NoBlk w W1 := ((Kept.refl NoBlk w).alloc _).trans' (hmv1.keptOf.mono (fun k e => by simp [Value.ownBlock] at e))
 have htx : TxnsSrc W1 (.slice ao2 (0 + 1) c2) [l] := by
  rcases hown1.2 with ⟨_, h0⟩ | ⟨g, off, cap, cur, h0, _⟩
  ·omega
  ·simp only [Value.slice.injEq] at h0
   obtain ⟨rfl, _, rfl⟩ := h0
   refine ⟨_, c2, rfl, fun _ => ⟨g, off, rfl, fun i hi => ?_⟩⟩
   obtain rfl : i = 0 := by simp at hi; exact hi
   exact ⟨.slice oa ln oc, hown1.cell 0 rfl, HO.out.1.keptB hkk1 (fun _ _ x => x)⟩
 have HM : Hid (Calls Tryz.prog 20 #[.slice ra rn rc, .slice ao2 (0 + 1) c2, .bool true] W1 fun e w' => ∃ wb L bs ow, e = .returned (.pointer (some ⟨wb, 0, none⟩)) ∧ KSt L bs ow 0 (mkS raw [l] true 1) w' ∧ KWh ow w' wb L (firstT raw 5) (firstV raw 5) (mkL [l] true 1) ∧ Fr W1.heap.size ow ∧ Kept NoBlk W1 w') := made_any _ raw _ [l] true W1 (HR.out.1.kept hkk1 (fun _ _ x => x)) (by rw [HLN.out.1]; exact hrl) HR.out.2 htx (by simp) (fun x hx => by
  obtain rfl : x = l := by simpa using hx
  exact ⟨HO.out.2, by rw [HLN.out.2]; exact hol⟩)
 have HK1 : Hid (Kept NoBlk w W1) := hkk1
 clear hown1 hmv1 hkk1 htx HR HO HI
 go_wp2_with fail
 refine HM.out.mono ?_
 rintro e w2 ⟨wb, L, bs, ow, rfl, h2, hw2, hf2, hk2⟩
 have HL0 : Hid (Solo (rowsF (firstL raw 5)) (mkS raw [l] true 1) 0 ∧ ((mkS raw [l] true 1).tx 1).ops = (mkL [l] true 1).getD 0 [] ∧ (mkL [l] true 1).length = 1 ∧ ((mkL [l] true 1).getD 0 []).length ≤ 6 ∧ ∀ o ∈ (mkL [l] true 1).getD 0 [], OpLaw o) := ⟨solo_made raw l, rfl, rfl, mkL_six _ _ _ _, mkL_law [l] true 1 0⟩
 have H2 : Hid (KSt L bs ow 0 (mkS raw [l] true 1) w2 ∧ KWh ow w2 wb L (firstT raw 5) (firstV raw 5) (mkL [l] true 1) ∧ Fr w.heap.size ow ∧ Kept NoBlk w w2) := ⟨h2, hw2, fun k hk => Nat.le_trans HK1.out.size (hf2 k hk), HK1.out.trans' hk2⟩
 have HTV : Hid (∀ i, i < 5 → firstT raw 5 i = Tf (rowsF (firstL raw 5)) i ∧ firstV raw 5 i = Vf (rowsF (firstL raw 5)) i) := first_TV raw
 have HFV : Hid (Five (rowsF (firstL raw 5))) := (rowsF5 _ _).1
 clear h2 hw2 hf2 hk2 HM HK1 HLN
 generalize rowsF (firstL raw 5) = D at *
 generalize mkS raw [l] true 1 = s0 at *
 generalize mkL [l] true 1 = l0 at *
 generalize firstT raw 5 = T at *
 generalize firstV raw 5 = V at *
 obtain ⟨g, off, c, xa, xc, e1, e2, q3⟩ := H2.out.2.1.elem2 0 (by rw [HL0.out.2.2.1]; omega)
 rw [HL0.out.2.2.1] at e1
 rw [Nat.add_zero] at e2
 generalize hlen : (l0.getD 0 []).length = len at *
 have hlen6 : len ≤ 6 := HL0.out.2.2.2.1
 have HRO : Hid (RowAt w2 114 4 (.slice xa len xc) len (opCells (l0.getD 0 []))) := q3
 have HLEN : Hid ((l0.getD 0 []).length = len) := hlen
 obtain ⟨ov, xs, b1, _⟩ := H2.out.2.1.body
 have z0 : w2.cell? ⟨wb, 1, none⟩ = some (.bool (Tf D 0)) := by rw [cell_at b1, ← (HTV.out 0 (by omega)).1]; rfl
 have z1 : w2.cell? ⟨wb, 2, none⟩ = some (.bool (Tf D 1)) := by rw [cell_at b1, ← (HTV.out 1 (by omega)).1]; rfl
 have z2 : w2.cell? ⟨wb, 3, none⟩ = some (.bool (Tf D 2)) := by rw [cell_at b1, ← (HTV.out 2 (by omega)).1]; rfl
 have z3 : w2.cell? ⟨wb, 4, none⟩ = some (.bool (Tf D 3)) := by rw [cell_at b1, ← (HTV.out 3 (by omega)).1]; rfl
 have z4 : w2.cell? ⟨wb, 5, none⟩ = some (.bool (Tf D 4)) := by rw [cell_at b1, ← (HTV.out 4 (by omega)).1]; rfl
 have z5 : w2.cell? ⟨wb, 6, none⟩ = some (.int .i64 (Vf D 0)) := by rw [cell_at b1, ← (HTV.out 0 (by omega)).2]; rfl
 have z6 : w2.cell? ⟨wb, 7, none⟩ = some (.int .i64 (Vf D 1)) := by rw [cell_at b1, ← (HTV.out 1 (by omega)).2]; rfl
 have z7 : w2.cell? ⟨wb, 8, none⟩ = some (.int .i64 (Vf D 2)) := by rw [cell_at b1, ← (HTV.out 2 (by omega)).2]; rfl
 have z8 : w2.cell? ⟨wb, 9, none⟩ = some (.int .i64 (Vf D 3)) := by rw [cell_at b1, ← (HTV.out 3 (by omega)).2]; rfl
 have z9 : w2.cell? ⟨wb, 10, none⟩ = some (.int .i64 (Vf D 4)) := by rw [cell_at b1, ← (HTV.out 4 (by omega)).2]; rfl
 clear hlen q3 b1
 obtain ⟨G, RR, X, wn, HRUN, HRES⟩ : ∃ (G : Int → Option Int) (RR : Int → Int) (X : List Saw) (wn : Bool), Hid (∀ W, RunPre w2 W → Calls Tryz.prog 21 #[.agg #[.bool (Tf D 0), .bool (Tf D 1), .bool (Tf D 2), .bool (Tf D 3), .bool (Tf D 4), .int .i64 (Vf D 0), .int .i64 (Vf D 1), .int .i64 (Vf D 2), .int .i64 (Vf D 3), .int .i64 (Vf D 4)], .slice xa len xc] W fun e w' => ∃ (x : Value) (rr : Int → Int), e = .returned (.tuple #[.agg #[.bool (Tf G 0), .bool (Tf G 1), .bool (Tf G 2), .bool (Tf G 3), .bool (Tf G 4), .int .i64 (Vf G 0), .int .i64 (Vf G 1), .int .i64 (Vf G 2), .int .i64 (Vf G 3), .int .i64 (Vf G 4)], x, .agg #[.int .i64 (rr 0), .int .i64 (rr 1), .int .i64 (rr 2), .int .i64 (rr 3)], .bool wn]) ∧ RowAt w' 105 3 x X.length (seenCells X) ∧ Kept NoBlk W w' ∧ Hid (∀ j, x.ownBlock = some j → w2.heap.size ≤ j) ∧ Hid (wn = true → rr = RR)) ∧ Hid ((wn = true ∧ clean D (l0.getD 0 []) ∧ G = (runP D (l0.getD 0 [])).f ∧ RR = (runP D (l0.getD 0 [])).regs ∧ X = (runP D (l0.getD 0 [])).reads) ∨ (wn = false ∧ ¬ clean D (l0.getD 0 []) ∧ G = D)) := by
  by_cases hc : clean D (l0.getD 0 [])
  ·refine ⟨(runP D (l0.getD 0 [])).f, (runP D (l0.getD 0 [])).regs, (runP D (l0.getD 0 [])).reads, true, fun W hW => ?_, .inl ⟨rfl, hc, rfl, rfl, rfl⟩⟩
   refine (run_any D _ (l0.getD 0 []) W (by rw [HLEN.out]; exact HRO.out.kept (show Kept NoBlk w2 W from hW) (fun _ _ x => x)) (by rw [HLEN.out]; exact hlen6) HL0.out.2.2.2.2).mono ?_
   rintro e w' ⟨⟨_, x, e1, e2, e3⟩ | ⟨h0, _⟩, hk⟩
   ·exact ⟨x, _, e1, e2, hk, fun j hj => Nat.le_trans (show Kept NoBlk w2 W from hW).size (e3 j hj), fun _ => rfl⟩
   ·exact absurd hc h0
  ·refine ⟨D, fun _ => 0, [], false, fun W hW => ?_, .inr ⟨rfl, hc, rfl⟩⟩
   refine (run_any D _ (l0.getD 0 []) W (by rw [HLEN.out]; exact HRO.out.kept (show Kept NoBlk w2 W from hW) (fun _ _ x => x)) (by rw [HLEN.out]; exact hlen6) HL0.out.2.2.2.2).mono ?_
   rintro e w' ⟨⟨h0, _⟩ | ⟨_, rr, e1⟩, hk⟩
   ·exact absurd h0 hc
   ·exact ⟨_, rr, e1, RowAt.nil _ _ _, hk, fun j hj => by simp [Value.ownBlock] at hj, fun h => by cases h⟩
 go_wp2_with fail
 refine (HRUN.out w2 (Kept.refl NoBlk w2)).mono ?_
 rintro e w10 ⟨x, rr, rfl, hx10, hk10, hxo, hrr⟩
 have H10 : Hid (KSt L bs ow 0 s0 w10 ∧ KWh ow w10 wb L T V l0 ∧ Fr w.heap.size ow ∧ Kept NoBlk w w10) := ⟨H2.out.1.kept hk10 (fun _ _ x => x), H2.out.2.1.kept0 hk10, H2.out.2.2.1, H2.out.2.2.2.trans' hk10⟩
 have HX10 : Hid (RowAt w10 105 3 x X.length (seenCells X) ∧ (∀ j, x.ownBlock = some j → ¬ OwnP ow j) ∧ (wn = true → rr = RR)) := ⟨hx10, fun j hj e => by have := H2.out.1.st.lt _ e; have := hxo.out j hj; omega, hrr.out⟩
 obtain ⟨xa9, xc9, rfl, _⟩ := hx10.form
 have HAB : Hid (AB L bs T V l0 wb 0 w s0 ow [(w10.heap.size + 1, .cells (cells4 rr) 62), (w10.heap.size, .cells (cells5 (Tf G) (Vf G)) 58)] (.slice xa9 X.length xc9) X ((w10.alloc (.cells #[.bool (Tf G 0), .bool (Tf G 1), .bool (Tf G 2), .bool (Tf G 3), .bool (Tf G 4), .int .i64 (Vf G 0), .int .i64 (Vf G 1), .int .i64 (Vf G 2), .int .i64 (Vf G 3), .int .i64 (Vf G 4)] 58)).alloc (.cells #[.int .i64 (rr 0), .int .i64 (rr 1), .int .i64 (rr 2), .int .i64 (rr 3)] 62))) := by
  have h := (AB.push (B := []) ⟨H10.out.1, H10.out.2.1, H10.out.2.2.1, H10.out.2.2.2, (fun p hp => by cases hp), HX10.out.1, HX10.out.2.1⟩ (.cells (cells5 (Tf G) (Vf G)) 58)).push (.cells (cells4 rr) 62)
  rw [alloc_size] at h
  exact h
 have HG5 : Hid (Five G) := by
  rcases HRES.out with ⟨_, _, h, _⟩ | ⟨_, _, h⟩
  ·rw [h]
   exact runP_five HFV.out (by rw [← HL0.out.2.1]; exact HL0.out.1.ser.ops 1)
  ·rw [h]; exact HFV.out
 have HRR : Hid (wn = true → rr = RR) := HX10.out.2.2
 clear hx10 hk10 hxo hrr H2 HRUN z0 z1 z2 z3 z4 z5 z6 z7 z8 z9 e1 e2 HRO HTV H10 HX10 HFV
 go_wp2_with fail
 generalize (w10.alloc (.cells #[.bool (Tf G 0), .bool (Tf G 1), .bool (Tf G 2), .bool (Tf G 3), .bool (Tf G 4), .int .i64 (Vf G 0), .int .i64 (Vf G 1), .int .i64 (Vf G 2), .int .i64 (Vf G 3), .int .i64 (Vf G 4)] 58)).alloc (.cells #[.int .i64 (rr 0), .int .i64 (rr 1), .int .i64 (rr 2), .int .i64 (rr 3)] 62) = W0 at *
 generalize w10.heap.size + 1 = rb at *
 generalize w10.heap.size = tb at *
 go_loopw [12, 13] (fun la i wr => ∃ (k : Nat) (ow : Ow) (s : St) (z : Int), k ≤ len + 1 ∧ la = .int .i64 z ∧ i = .int .i64 k ∧ AB L bs T V l0 wb k w s ow [(rb, .cells (cells4 rr) 62), (tb, .cells (cells5 (Tf G) (Vf G)) 58)] (.slice xa9 X.length xc9) X wr ∧ AloneJ D (l0.getD 0 []) s k z ∧ (s.tx 1).ops = l0.getD 0 []) (fun _ i _ => len + 1 - (intOf i).toNat)
 case atStart => exact ⟨0, ow, s0, 0, by omega, rfl, rfl, HAB.out, .inl ⟨HL0.out.1, Nat.zero_le _, .inl rfl⟩, HL0.out.2.1⟩
 case round =>
  clear HAB
  obtain ⟨k, ow1, s, z, hk, rfl, rfl, hab, hJ, hops⟩ := hrel
  have c0 := hab.c0
  rcases hJ with ⟨hS, hkl, hz⟩ | hO
  ·rw [HLEN.out] at hkl
   obtain ⟨z2, g1, g2, g3, g4⟩ := AloneJ.step hS (by rw [HLEN.out]; exact hkl) hops
   have HST : Hid (Calls Tryz.prog 22 #[.pointer (some ⟨L.p, 0, none⟩), .int .i64 1] wr fun e w' => e = .returned (.tuple #[.int .i64 z2, .int .i64 0]) ∧ ∃ ow', AB L bs T V l0 wb (k + 1) w (s.go 1).1 ow' [(rb, .cells (cells4 rr) 62), (tb, .cells (cells5 (Tf G) (Vf G)) 58)] (.slice xa9 X.length xc9) X w') := hab.step 1 (by omega) g1
   have HJ2 : Hid (AloneJ D (l0.getD 0 []) (s.go 1).1 (k + 1) z2 ∧ ((s.go 1).1.tx 1).ops = l0.getD 0 []) := ⟨g3, g4⟩
   have hz4 : (z != 4) = true := by rcases hz with h | h <;> subst h <;> rfl
   have j1 : (k : Int) ≤ (len : Int) := by omega
   clear hab hS g1 g3 g4 hz hops
   go_wp2_with fail
   refine HST.out.mono ?_
   rintro e w5 ⟨rfl, ow5, h5⟩
   have H5 : Hid (AB L bs T V l0 wb (k + 1) w (s.go 1).1 ow5 [(rb, .cells (cells4 rr) 62), (tb, .cells (cells5 (Tf G) (Vf G)) 58)] (.slice xa9 X.length xc9) X w5) := h5
   clear h5 HST c0
   rcases g2 with rfl | rfl | rfl
   all_goals
    go_wp2_with fail
    go_roundw
   case rel => exact ⟨k + 1, ow5, _, _, by omega, rfl, by go_num, H5.out, HJ2.out⟩
   case measure => simp [intOf]; omega
   case rel => exact ⟨k + 1, ow5, _, _, by omega, rfl, by go_num, H5.out, HJ2.out⟩
   case measure => simp [intOf]; omega
   case rel => exact ⟨k + 1, ow5, _, _, by omega, rfl, by go_num, H5.out, HJ2.out⟩
   case measure => simp [intOf]; omega
  ·have hF : Over D s ∧ s.rows = G ∧ ((wn = true ∧ z = 6 ∧ k = len + 1 ∧ (s.tx 1).state = 1 ∧ (s.tx 1).next = len ∧ (s.tx 1).reads = X ∧ (s.tx 1).regs = RR ∧ s.wins = [1]) ∨ (wn = false ∧ z = 4 ∧ k ≤ len ∧ (s.tx 1).state = 2 ∧ (s.tx 1).reads = [])) := by
    rcases hO with ⟨h1, h7, h2, h3, h4, h5, h6⟩ | ⟨h1, h2, h3, h4, h5, h6, h7, h8, h9, h10⟩
    ·rcases HRES.out with ⟨_, b, _⟩ | ⟨a, b, c⟩
     ·exact absurd b h2
     ·exact ⟨h3, by rw [h6, c], .inr ⟨a, h1, by rw [← HLEN.out]; exact h7, h4, h5⟩⟩
    ·rcases HRES.out with ⟨a, b, c, d, e⟩ | ⟨_, b, _⟩
     ·exact ⟨h4, by rw [h10, c], .inl ⟨a, h1, by rw [← HLEN.out]; exact h2, h5, by rw [h8, HLEN.out], by rw [h6, e], by rw [h7, d], h9⟩⟩
     ·exact absurd h3 b
   have HTX : Hid (Calls Tryz.prog 23 #[.pointer (some ⟨L.p, 0, none⟩), .int .i64 1] wr fun e w' => ∃ a k1, e = .returned (.tuple #[.agg #[.int .i64 (s.tx 1).stamp, .int .i64 (s.tx 1).state, .int .i64 ((s.tx 1).next : Int), .bool (s.tx 1).wounded, .bool (s.tx 1).waits.isSome, .int .i64 (s.tx 1).agains, .slice (some ⟨a, 0, none⟩) 4 4, .slice (some ⟨k1, 0, none⟩) (s.tx 1).reads.length (s.tx 1).reads.length], .int .i64 0]) ∧ AB L bs T V l0 wb k w s ow1 ((a, .cells (cells4 (s.tx 1).regs) 3) :: (k1, .cells (seenCells (s.tx 1).reads).toArray 105) :: [(rb, .cells (cells4 rr) 62), (tb, .cells (cells5 (Tf G) (Vf G)) 58)]) (.slice xa9 X.length xc9) X w') := hab.txn 1 ⟨by omega, by rw [hF.1.one]; omega⟩
   have HF : Hid (Over D s ∧ s.rows = G) := ⟨hF.1, hF.2.1⟩
   have hFW := hF.2.2
   have HRD : Hid ((s.tx 1).reads.length ≤ 12) := by
    obtain ⟨_, _, _, _, _, _, y4, _⟩ := hab.st.st.txs 1 (by omega) (by rw [hF.1.one]; omega)
    exact y4
   clear hab hO hops hF HRES HL0 HLEN
   generalize (s.tx 1).stamp = tst at *
   generalize (s.tx 1).state = tz at *
   generalize (s.tx 1).next = tnx at *
   generalize (s.tx 1).wounded = twd at *
   generalize (s.tx 1).waits.isSome = twt at *
   generalize (s.tx 1).agains = tag at *
   generalize (s.tx 1).regs = trg at *
   generalize (s.tx 1).reads = trd at *
   rcases hFW with ⟨hw, hz, hkk, htz, htn, htr, htg, hwins⟩ | ⟨hw, hz, hkk, htz, htr⟩
   ·subst hw hz
    have hrr := HRR.out rfl
    have HC6 : Hid (tz = 1 ∧ tnx = len ∧ trd = X ∧ trg = RR ∧ s.wins = [1]) := ⟨htz, htn, htr, htg, hwins⟩
    have hcd : (len : Int) < (k : Int) := by omega
    subst hrr
    clear htz htn htr htg hwins hkk HRR
    go_wp2_with fail
    refine HTX.out.mono ?_
    rintro e w6 ⟨a1, k1, rfl, h6⟩
    have h6' := h6.push (.cells #[.int .i64 tst, .int .i64 tz, .int .i64 (tnx : Int), .bool twd, .bool twt, .int .i64 tag, .slice (some ⟨a1, 0, none⟩) 4 4, .slice (some ⟨k1, 0, none⟩) trd.length trd.length] 69)
    have H6' : Hid _ := h6'
    clear h6 h6' HTX c0
    go_wp2_with fail
    generalize w6.alloc (.cells #[.int .i64 tst, .int .i64 tz, .int .i64 (tnx : Int), .bool twd, .bool twt, .int .i64 tag, .slice (some ⟨a1, 0, none⟩) 4 4, .slice (some ⟨k1, 0, none⟩) trd.length trd.length] 69) = W6 at *
    generalize w6.heap.size = ub at *
    obtain ⟨A, hA⟩ : ∃ A : World → Prop, A = AB L bs T V l0 wb k w s ow1 ((ub, .cells #[.int .i64 tst, .int .i64 tz, .int .i64 (tnx : Int), .bool twd, .bool twt, .int .i64 tag, .slice (some ⟨a1, 0, none⟩) 4 4, .slice (some ⟨k1, 0, none⟩) trd.length trd.length] 69) :: (a1, .cells (cells4 trg) 3) :: (k1, .cells (seenCells trd).toArray 105) :: [(rb, .cells (cells4 rr) 62), (tb, .cells (cells5 (Tf G) (Vf G)) 58)]) (.slice xa9 X.length xc9) X := ⟨_, rfl⟩
    have a6 : A W6 := by rw [hA]; exact H6'.out
    have HKP : Kp A := by rw [hA]; exact fun W W' hk h => h.keep0 hk
    have HC : Hid (∀ W, A W → W.cell? ⟨tb, 0, none⟩ = some (.bool (Tf G 0)) ∧ W.cell? ⟨tb, 1, none⟩ = some (.bool (Tf G 1)) ∧ W.cell? ⟨tb, 2, none⟩ = some (.bool (Tf G 2)) ∧ W.cell? ⟨tb, 3, none⟩ = some (.bool (Tf G 3)) ∧ W.cell? ⟨tb, 4, none⟩ = some (.bool (Tf G 4)) ∧ W.cell? ⟨tb, 5, none⟩ = some (.int .i64 (Vf G 0)) ∧ W.cell? ⟨tb, 6, none⟩ = some (.int .i64 (Vf G 1)) ∧ W.cell? ⟨tb, 7, none⟩ = some (.int .i64 (Vf G 2)) ∧ W.cell? ⟨tb, 8, none⟩ = some (.int .i64 (Vf G 3)) ∧ W.cell? ⟨tb, 9, none⟩ = some (.int .i64 (Vf G 4)) ∧ W.cell? ⟨wb, 0, none⟩ = some (.pointer (some ⟨L.p, 0, none⟩)) ∧ A W) := by
     rw [hA]
     intro W h
     have b2 : W.heap[tb]? = some (.cells (cells5 (Tf G) (Vf G)) 58 (0, 0)) := h.at (by simp)
     refine ⟨?_, ?_, ?_, ?_, ?_, ?_, ?_, ?_, ?_, ?_, h.c0, h⟩ <;> (rw [cell_at b2]; rfl)
    have HR1 : Hid (∀ W, A W → Calls Tryz.prog 25 #[.pointer (some ⟨L.p, 0, none⟩)] W fun e w' => ∃ y, e = .returned y ∧ Row1 A (rows5 (Tf G) (Vf G) 5) y w') := by
     rw [hA]
     intro W h
     refine (AB.rows h (by omega)).mono ?_
     rintro e w' ⟨y, lr, rfl, hy1, hy2, h7⟩
     have hlr : lr = rows5 (Tf G) (Vf G) 5 := by
      rw [HF.out.2] at hy2
      exact hy2.eq (rows5_of HG5.out)
     subst hlr
     exact ⟨y, rfl, h7, hy1⟩
    have HA : Hid (A = AB L bs T V l0 wb k w s ow1 ((ub, .cells #[.int .i64 tst, .int .i64 tz, .int .i64 (tnx : Int), .bool twd, .bool twt, .int .i64 tag, .slice (some ⟨a1, 0, none⟩) 4 4, .slice (some ⟨k1, 0, none⟩) trd.length trd.length] 69) :: (a1, .cells (cells4 trg) 3) :: (k1, .cells (seenCells trd).toArray 105) :: [(rb, .cells (cells4 rr) 62), (tb, .cells (cells5 (Tf G) (Vf G)) 58)]) (.slice xa9 X.length xc9) X) := hA
    clear hA H6'
    refine' cut2 (X := Value) (Y := Value) _ (fun y x2 w9 => A w9) ?_ ?_
    rotate_left
    ·go_region_held3 (fun w' => w'.cell? ⟨tb, 0, none⟩ = some (.bool (Tf G 0)) ∧ w'.cell? ⟨tb, 1, none⟩ = some (.bool (Tf G 1)) ∧ w'.cell? ⟨tb, 2, none⟩ = some (.bool (Tf G 2)) ∧ w'.cell? ⟨tb, 3, none⟩ = some (.bool (Tf G 3)) ∧ w'.cell? ⟨tb, 4, none⟩ = some (.bool (Tf G 4)) ∧ w'.cell? ⟨tb, 5, none⟩ = some (.int .i64 (Vf G 0)) ∧ w'.cell? ⟨tb, 6, none⟩ = some (.int .i64 (Vf G 1)) ∧ w'.cell? ⟨tb, 7, none⟩ = some (.int .i64 (Vf G 2)) ∧ w'.cell? ⟨tb, 8, none⟩ = some (.int .i64 (Vf G 3)) ∧ w'.cell? ⟨tb, 9, none⟩ = some (.int .i64 (Vf G 4)) ∧ w'.cell? ⟨wb, 0, none⟩ = some (.pointer (some ⟨L.p, 0, none⟩)) ∧ A w')
      ((refine HC.out _ ?_; (repeat (with_reducible refine Kp.drew HKP ?_)); (with_reducible first | exact a9 | exact a8 | exact a7 | exact a6)))
      (first
       | (go_at_call 25; (with_reducible refine (HR1.out _ (by (repeat (with_reducible refine Kp.drew HKP ?_)); with_reducible exact a6)).mono ?_); rintro e w7 ⟨y, rfl, h7⟩; have a7 : A w7 := h7.1)
       | (go_at_call 26; (with_reducible refine (Row1.rows HKP (Tf G) (Vf G) y _ (by (repeat (with_reducible refine Kp.drew (Row1.kp HKP _ _) ?_)); with_reducible exact h7)).mono ?_); rintro e w8 ⟨x2, rfl, h8⟩; have a8 : A w8 := h8.1.1)
       | (go_at_call 24; (with_reducible refine (Row1.same HKP (Tf G) (Vf G) y x2 _ (by (repeat (with_reducible refine Kp.drew (Row1.kp (Row1.kp HKP _ _) _ _) ?_)); with_reducible exact h8)).mono ?_); rintro e w9 ⟨rfl, a9⟩))
     all_goals
      refine ⟨y, x2, ?_, a9⟩
      exact rfl
    rintro y x2 w9 a9
    have H9 : Hid (AB L bs T V l0 wb k w s ow1 ((ub, .cells #[.int .i64 tst, .int .i64 tz, .int .i64 (tnx : Int), .bool twd, .bool twt, .int .i64 tag, .slice (some ⟨a1, 0, none⟩) 4 4, .slice (some ⟨k1, 0, none⟩) trd.length trd.length] 69) :: (a1, .cells (cells4 trg) 3) :: (k1, .cells (seenCells trd).toArray 105) :: [(rb, .cells (cells4 rr) 62), (tb, .cells (cells5 (Tf G) (Vf G)) 58)]) (.slice xa9 X.length xc9) X w9) := by rw [HA.out] at a9; exact a9
    have b6 : w9.cell? ⟨ub, 6, none⟩ = some (.slice (some ⟨a1, 0, none⟩) 4 4) := by rw [cell_at (H9.out.at (List.mem_cons_self ..))]; rfl
    clear HR1 HC HKP HA a6 a9
    go_wp2_with fail
    go_loopw [19] (fun i wr => ∃ q : Nat, q ≤ 5 ∧ i = .int .i64 q ∧ AB L bs T V l0 wb k w s ow1 ((ub, .cells #[.int .i64 tst, .int .i64 tz, .int .i64 (tnx : Int), .bool twd, .bool twt, .int .i64 tag, .slice (some ⟨a1, 0, none⟩) 4 4, .slice (some ⟨k1, 0, none⟩) trd.length trd.length] 69) :: (a1, .cells (cells4 trg) 3) :: (k1, .cells (seenCells trd).toArray 105) :: [(rb, .cells (cells4 rr) 62), (tb, .cells (cells5 (Tf G) (Vf G)) 58)]) (.slice xa9 X.length xc9) X wr) (fun i _ => 5 - (intOf i).toNat)
    case atStart => exact ⟨0, by omega, rfl, H9.out⟩
    case round =>
     clear H9 b6
     obtain ⟨q, hq, rfl, hall⟩ := hrel
     have c0' := hall.c0
     have HA9 : Hid (AB L bs T V l0 wb k w s ow1 ((ub, .cells #[.int .i64 tst, .int .i64 tz, .int .i64 (tnx : Int), .bool twd, .bool twt, .int .i64 tag, .slice (some ⟨a1, 0, none⟩) 4 4, .slice (some ⟨k1, 0, none⟩) trd.length trd.length] 69) :: (a1, .cells (cells4 trg) 3) :: (k1, .cells (seenCells trd).toArray 105) :: [(rb, .cells (cells4 rr) 62), (tb, .cells (cells5 (Tf G) (Vf G)) 58)]) (.slice xa9 X.length xc9) X wr) := hall
     clear hall
     by_cases hq5 : q < 5
     ·have HLC : Hid (Calls Tryz.prog 27 #[.pointer (some ⟨L.p, 0, none⟩), .int .i64 (q : Int)] wr fun e w' => ∃ va vc a0, e = .returned (.tuple #[.slice va 0 vc, .slice (some ⟨a0, 0, none⟩) 0 0]) ∧ AB L bs T V l0 wb k w s ow1 ((ub, .cells #[.int .i64 tst, .int .i64 tz, .int .i64 (tnx : Int), .bool twd, .bool twt, .int .i64 tag, .slice (some ⟨a1, 0, none⟩) 4 4, .slice (some ⟨k1, 0, none⟩) trd.length trd.length] 69) :: (a1, .cells (cells4 trg) 3) :: (k1, .cells (seenCells trd).toArray 105) :: [(rb, .cells (cells4 rr) 62), (tb, .cells (cells5 (Tf G) (Vf G)) 58)]) (.slice xa9 X.length xc9) X w') := HA9.out.locks q ⟨by omega, by omega⟩ (HF.out.1.empty q)
      go_wp2_with fail
      refine HLC.out.mono ?_
      rintro e w13 ⟨va, vc, a13, rfl, h13⟩
      have H13 : Hid (AB L bs T V l0 wb k w s ow1 ((ub, .cells #[.int .i64 tst, .int .i64 tz, .int .i64 (tnx : Int), .bool twd, .bool twt, .int .i64 tag, .slice (some ⟨a1, 0, none⟩) 4 4, .slice (some ⟨k1, 0, none⟩) trd.length trd.length] 69) :: (a1, .cells (cells4 trg) 3) :: (k1, .cells (seenCells trd).toArray 105) :: [(rb, .cells (cells4 rr) 62), (tb, .cells (cells5 (Tf G) (Vf G)) 58)]) (.slice xa9 X.length xc9) X w13) := h13
      clear h13 HLC c0' HA9
      go_wp2_with fail
      go_roundw
      case rel => exact ⟨q + 1, by omega, by go_num, H13.out⟩
      case measure => simp [intOf]; omega
     ·have b6 : wr.cell? ⟨ub, 6, none⟩ = some (.slice (some ⟨a1, 0, none⟩) 4 4) := by rw [cell_at (HA9.out.at (List.mem_cons_self ..))]; rfl
      go_wp2_with fail
      go_loopw [22] (fun i wr => ∃ p : Nat, p ≤ 4 ∧ i = .int .i64 p ∧ AB L bs T V l0 wb k w s ow1 ((ub, .cells #[.int .i64 tst, .int .i64 tz, .int .i64 (tnx : Int), .bool twd, .bool twt, .int .i64 tag, .slice (some ⟨a1, 0, none⟩) 4 4, .slice (some ⟨k1, 0, none⟩) trd.length trd.length] 69) :: (a1, .cells (cells4 trg) 3) :: (k1, .cells (seenCells trd).toArray 105) :: [(rb, .cells (cells4 rr) 62), (tb, .cells (cells5 (Tf G) (Vf G)) 58)]) (.slice xa9 X.length xc9) X wr) (fun i _ => 4 - (intOf i).toNat)
      case atStart => exact ⟨0, by omega, rfl, HA9.out⟩
      case round =>
       clear HA9 b6 c0'
       obtain ⟨p, hp, rfl, hall⟩ := hrel
       have b6 : wr.cell? ⟨ub, 6, none⟩ = some (.slice (some ⟨a1, 0, none⟩) 4 4) := by rw [cell_at (hall.at (List.mem_cons_self ..))]; rfl
       have HA10 : Hid (AB L bs T V l0 wb k w s ow1 ((ub, .cells #[.int .i64 tst, .int .i64 tz, .int .i64 (tnx : Int), .bool twd, .bool twt, .int .i64 tag, .slice (some ⟨a1, 0, none⟩) 4 4, .slice (some ⟨k1, 0, none⟩) trd.length trd.length] 69) :: (a1, .cells (cells4 trg) 3) :: (k1, .cells (seenCells trd).toArray 105) :: [(rb, .cells (cells4 rr) 62), (tb, .cells (cells5 (Tf G) (Vf G)) 58)]) (.slice xa9 X.length xc9) X wr) := hall
       clear hall
       by_cases hp4 : p < 4
       ·have r1 : wr.cell? ⟨a1, p, none⟩ = some (.int .i64 (rr p)) := by
         rw [cell_at (HA10.out.at (b := a1) (List.mem_cons_of_mem _ (List.mem_cons_self ..))), HC6.out.2.2.2.1]
         exact cells4_nth rr p hp4
        have r2 : wr.cell? ⟨rb, p, none⟩ = some (.int .i64 (rr p)) := by
         rw [cell_at (HA10.out.at (b := rb) (o := .cells (cells4 rr) 62) (by simp))]
         exact cells4_nth rr p hp4
        have j0 : (0 : Int) ≤ (p : Int) := by omega
        have j1 : (p : Int) < 4 := by omega
        have hee : (rr p == rr p) = true := by simp
        go_wp2_with fail
        go_quiet (fail)
        go_wp2_with fail
        go_roundw
        case rel => exact ⟨p + 1, by omega, by go_num, HA10.out.keep0 ((Kept.refl NoBlk _).drewN _)⟩
        case measure => simp [intOf]; omega
       ·have b7 : wr.cell? ⟨ub, 7, none⟩ = some (.slice (some ⟨k1, 0, none⟩) trd.length trd.length) := by rw [cell_at (HA10.out.at (List.mem_cons_self ..))]; rfl
        have HSN : Hid (Calls Tryz.prog 28 #[.slice (some ⟨k1, 0, none⟩) trd.length trd.length, .slice xa9 X.length xc9] wr fun e w' => e = .returned (.bool true) ∧ Kept NoBlk wr w') := by
         have hrd := HRD.out
         have t4 := HA10.out.at (b := k1) (List.mem_cons_of_mem _ (List.mem_cons_of_mem _ (List.mem_cons_self ..)))
         rw [HC6.out.2.2.1] at t4 hrd ⊢
         have hl3 := seenCells_len X
         exact sameSeen_true _ _ X wr (RowAt.full t4 hl3 (by unfold maxLen; omega)) HA10.out.row (by omega)
        go_wp2_with fail
        refine HSN.out.mono ?_
        rintro e w14 ⟨rfl, hk14⟩
        have HA11 : Hid (AB L bs T V l0 wb k w s ow1 ((ub, .cells #[.int .i64 tst, .int .i64 tz, .int .i64 (tnx : Int), .bool twd, .bool twt, .int .i64 tag, .slice (some ⟨a1, 0, none⟩) 4 4, .slice (some ⟨k1, 0, none⟩) trd.length trd.length] 69) :: (a1, .cells (cells4 trg) 3) :: (k1, .cells (seenCells trd).toArray 105) :: [(rb, .cells (cells4 rr) 62), (tb, .cells (cells5 (Tf G) (Vf G)) 58)]) (.slice xa9 X.length xc9) X w14) := HA10.out.keep0 hk14
        have c0' := HA11.out.c0
        have HWI : Hid (Calls Tryz.prog 29 #[.pointer (some ⟨L.p, 0, none⟩)] w14 fun e w' => ∃ a, e = .returned (.slice (some ⟨a, 0, none⟩) 1 1) ∧ w'.heap[a]? = some (.cells (winsCells s.wins).toArray 3 (0, 0)) ∧ AB L bs T V l0 wb k w s ow1 ((ub, .cells #[.int .i64 tst, .int .i64 tz, .int .i64 (tnx : Int), .bool twd, .bool twt, .int .i64 tag, .slice (some ⟨a1, 0, none⟩) 4 4, .slice (some ⟨k1, 0, none⟩) trd.length trd.length] 69) :: (a1, .cells (cells4 trg) 3) :: (k1, .cells (seenCells trd).toArray 105) :: [(rb, .cells (cells4 rr) 62), (tb, .cells (cells5 (Tf G) (Vf G)) 58)]) (.slice xa9 X.length xc9) X w') := by
         have := HA11.out.wins (by rw [HC6.out.2.2.2.2]; simp)
         rw [HC6.out.2.2.2.2] at this ⊢
         exact this
        clear hk14 HSN HA10 b6 b7
        go_wp2_with fail
        refine HWI.out.mono ?_
        rintro e w15 ⟨a15, rfl, hb15, h15⟩
        rw [HC6.out.2.2.2.2] at hb15
        have y0 : w15.cell? ⟨a15, 0, none⟩ = some (.int .i64 1) := by rw [cell_at hb15]; rfl
        have b1 : w15.cell? ⟨ub, 1, none⟩ = some (.int .i64 1) := by rw [cell_at (h15.at (List.mem_cons_self ..)), HC6.out.1]; rfl
        have b2 : w15.cell? ⟨ub, 2, none⟩ = some (.int .i64 (len : Int)) := by rw [cell_at (h15.at (List.mem_cons_self ..)), HC6.out.2.1]; rfl
        have HK15 : Hid (Kept NoBlk w w15) := h15.kept
        clear h15 hb15 HWI HA11 c0'
        go_wp2_with fail
        go_ret
        exact ⟨rfl, HK15.out⟩
   ·subst hw hz
    have HC6 : Hid (tz = 2 ∧ trd = []) := ⟨htz, htr⟩
    have hcd : (k : Int) ≤ (len : Int) := by omega
    clear htz htr hkk HRR
    go_wp2_with fail
    refine HTX.out.mono ?_
    rintro e w6 ⟨a1, k1, rfl, h6⟩
    have h6' := h6.push (.cells #[.int .i64 tst, .int .i64 tz, .int .i64 (tnx : Int), .bool twd, .bool twt, .int .i64 tag, .slice (some ⟨a1, 0, none⟩) 4 4, .slice (some ⟨k1, 0, none⟩) trd.length trd.length] 69)
    have H6' : Hid _ := h6'
    clear h6 h6' HTX c0
    go_wp2_with fail
    generalize w6.alloc (.cells #[.int .i64 tst, .int .i64 tz, .int .i64 (tnx : Int), .bool twd, .bool twt, .int .i64 tag, .slice (some ⟨a1, 0, none⟩) 4 4, .slice (some ⟨k1, 0, none⟩) trd.length trd.length] 69) = W6 at *
    generalize w6.heap.size = ub at *
    obtain ⟨A, hA⟩ : ∃ A : World → Prop, A = AB L bs T V l0 wb k w s ow1 ((ub, .cells #[.int .i64 tst, .int .i64 tz, .int .i64 (tnx : Int), .bool twd, .bool twt, .int .i64 tag, .slice (some ⟨a1, 0, none⟩) 4 4, .slice (some ⟨k1, 0, none⟩) trd.length trd.length] 69) :: (a1, .cells (cells4 trg) 3) :: (k1, .cells (seenCells trd).toArray 105) :: [(rb, .cells (cells4 rr) 62), (tb, .cells (cells5 (Tf G) (Vf G)) 58)]) (.slice xa9 X.length xc9) X := ⟨_, rfl⟩
    have a6 : A W6 := by rw [hA]; exact H6'.out
    have HKP : Kp A := by rw [hA]; exact fun W W' hk h => h.keep0 hk
    have HC : Hid (∀ W, A W → W.cell? ⟨tb, 0, none⟩ = some (.bool (Tf G 0)) ∧ W.cell? ⟨tb, 1, none⟩ = some (.bool (Tf G 1)) ∧ W.cell? ⟨tb, 2, none⟩ = some (.bool (Tf G 2)) ∧ W.cell? ⟨tb, 3, none⟩ = some (.bool (Tf G 3)) ∧ W.cell? ⟨tb, 4, none⟩ = some (.bool (Tf G 4)) ∧ W.cell? ⟨tb, 5, none⟩ = some (.int .i64 (Vf G 0)) ∧ W.cell? ⟨tb, 6, none⟩ = some (.int .i64 (Vf G 1)) ∧ W.cell? ⟨tb, 7, none⟩ = some (.int .i64 (Vf G 2)) ∧ W.cell? ⟨tb, 8, none⟩ = some (.int .i64 (Vf G 3)) ∧ W.cell? ⟨tb, 9, none⟩ = some (.int .i64 (Vf G 4)) ∧ W.cell? ⟨wb, 0, none⟩ = some (.pointer (some ⟨L.p, 0, none⟩)) ∧ A W) := by
     rw [hA]
     intro W h
     have b2 : W.heap[tb]? = some (.cells (cells5 (Tf G) (Vf G)) 58 (0, 0)) := h.at (by simp)
     refine ⟨?_, ?_, ?_, ?_, ?_, ?_, ?_, ?_, ?_, ?_, h.c0, h⟩ <;> (rw [cell_at b2]; rfl)
    have HR1 : Hid (∀ W, A W → Calls Tryz.prog 25 #[.pointer (some ⟨L.p, 0, none⟩)] W fun e w' => ∃ y, e = .returned y ∧ Row1 A (rows5 (Tf G) (Vf G) 5) y w') := by
     rw [hA]
     intro W h
     refine (AB.rows h (by omega)).mono ?_
     rintro e w' ⟨y, lr, rfl, hy1, hy2, h7⟩
     have hlr : lr = rows5 (Tf G) (Vf G) 5 := by
      rw [HF.out.2] at hy2
      exact hy2.eq (rows5_of HG5.out)
     subst hlr
     exact ⟨y, rfl, h7, hy1⟩
    have HA : Hid (A = AB L bs T V l0 wb k w s ow1 ((ub, .cells #[.int .i64 tst, .int .i64 tz, .int .i64 (tnx : Int), .bool twd, .bool twt, .int .i64 tag, .slice (some ⟨a1, 0, none⟩) 4 4, .slice (some ⟨k1, 0, none⟩) trd.length trd.length] 69) :: (a1, .cells (cells4 trg) 3) :: (k1, .cells (seenCells trd).toArray 105) :: [(rb, .cells (cells4 rr) 62), (tb, .cells (cells5 (Tf G) (Vf G)) 58)]) (.slice xa9 X.length xc9) X) := hA
    clear hA H6'
    refine' cut2 (X := Value) (Y := Value) _ (fun y x2 w9 => A w9) ?_ ?_
    rotate_left
    ·go_region_held3 (fun w' => w'.cell? ⟨tb, 0, none⟩ = some (.bool (Tf G 0)) ∧ w'.cell? ⟨tb, 1, none⟩ = some (.bool (Tf G 1)) ∧ w'.cell? ⟨tb, 2, none⟩ = some (.bool (Tf G 2)) ∧ w'.cell? ⟨tb, 3, none⟩ = some (.bool (Tf G 3)) ∧ w'.cell? ⟨tb, 4, none⟩ = some (.bool (Tf G 4)) ∧ w'.cell? ⟨tb, 5, none⟩ = some (.int .i64 (Vf G 0)) ∧ w'.cell? ⟨tb, 6, none⟩ = some (.int .i64 (Vf G 1)) ∧ w'.cell? ⟨tb, 7, none⟩ = some (.int .i64 (Vf G 2)) ∧ w'.cell? ⟨tb, 8, none⟩ = some (.int .i64 (Vf G 3)) ∧ w'.cell? ⟨tb, 9, none⟩ = some (.int .i64 (Vf G 4)) ∧ w'.cell? ⟨wb, 0, none⟩ = some (.pointer (some ⟨L.p, 0, none⟩)) ∧ A w')
      ((refine HC.out _ ?_; (repeat (with_reducible refine Kp.drew HKP ?_)); (with_reducible first | exact a9 | exact a8 | exact a7 | exact a6)))
      (first
       | (go_at_call 25; (with_reducible refine (HR1.out _ (by (repeat (with_reducible refine Kp.drew HKP ?_)); with_reducible exact a6)).mono ?_); rintro e w7 ⟨y, rfl, h7⟩; have a7 : A w7 := h7.1)
       | (go_at_call 26; (with_reducible refine (Row1.rows HKP (Tf G) (Vf G) y _ (by (repeat (with_reducible refine Kp.drew (Row1.kp HKP _ _) ?_)); with_reducible exact h7)).mono ?_); rintro e w8 ⟨x2, rfl, h8⟩; have a8 : A w8 := h8.1.1)
       | (go_at_call 24; (with_reducible refine (Row1.same HKP (Tf G) (Vf G) y x2 _ (by (repeat (with_reducible refine Kp.drew (Row1.kp (Row1.kp HKP _ _) _ _) ?_)); with_reducible exact h8)).mono ?_); rintro e w9 ⟨rfl, a9⟩))
     all_goals
      refine ⟨y, x2, ?_, a9⟩
      exact rfl
    rintro y x2 w9 a9
    have H9 : Hid (AB L bs T V l0 wb k w s ow1 ((ub, .cells #[.int .i64 tst, .int .i64 tz, .int .i64 (tnx : Int), .bool twd, .bool twt, .int .i64 tag, .slice (some ⟨a1, 0, none⟩) 4 4, .slice (some ⟨k1, 0, none⟩) trd.length trd.length] 69) :: (a1, .cells (cells4 trg) 3) :: (k1, .cells (seenCells trd).toArray 105) :: [(rb, .cells (cells4 rr) 62), (tb, .cells (cells5 (Tf G) (Vf G)) 58)]) (.slice xa9 X.length xc9) X w9) := by rw [HA.out] at a9; exact a9
    have b6 : w9.cell? ⟨ub, 6, none⟩ = some (.slice (some ⟨a1, 0, none⟩) 4 4) := by rw [cell_at (H9.out.at (List.mem_cons_self ..))]; rfl
    clear HR1 HC HKP HA a6 a9
    go_wp2_with fail
    go_loopw [19] (fun i wr => ∃ q : Nat, q ≤ 5 ∧ i = .int .i64 q ∧ AB L bs T V l0 wb k w s ow1 ((ub, .cells #[.int .i64 tst, .int .i64 tz, .int .i64 (tnx : Int), .bool twd, .bool twt, .int .i64 tag, .slice (some ⟨a1, 0, none⟩) 4 4, .slice (some ⟨k1, 0, none⟩) trd.length trd.length] 69) :: (a1, .cells (cells4 trg) 3) :: (k1, .cells (seenCells trd).toArray 105) :: [(rb, .cells (cells4 rr) 62), (tb, .cells (cells5 (Tf G) (Vf G)) 58)]) (.slice xa9 X.length xc9) X wr) (fun i _ => 5 - (intOf i).toNat)
    case atStart => exact ⟨0, by omega, rfl, H9.out⟩
    case round =>
     clear H9 b6
     obtain ⟨q, hq, rfl, hall⟩ := hrel
     have c0' := hall.c0
     have HA9 : Hid (AB L bs T V l0 wb k w s ow1 ((ub, .cells #[.int .i64 tst, .int .i64 tz, .int .i64 (tnx : Int), .bool twd, .bool twt, .int .i64 tag, .slice (some ⟨a1, 0, none⟩) 4 4, .slice (some ⟨k1, 0, none⟩) trd.length trd.length] 69) :: (a1, .cells (cells4 trg) 3) :: (k1, .cells (seenCells trd).toArray 105) :: [(rb, .cells (cells4 rr) 62), (tb, .cells (cells5 (Tf G) (Vf G)) 58)]) (.slice xa9 X.length xc9) X wr) := hall
     clear hall
     by_cases hq5 : q < 5
     ·have HLC : Hid (Calls Tryz.prog 27 #[.pointer (some ⟨L.p, 0, none⟩), .int .i64 (q : Int)] wr fun e w' => ∃ va vc a0, e = .returned (.tuple #[.slice va 0 vc, .slice (some ⟨a0, 0, none⟩) 0 0]) ∧ AB L bs T V l0 wb k w s ow1 ((ub, .cells #[.int .i64 tst, .int .i64 tz, .int .i64 (tnx : Int), .bool twd, .bool twt, .int .i64 tag, .slice (some ⟨a1, 0, none⟩) 4 4, .slice (some ⟨k1, 0, none⟩) trd.length trd.length] 69) :: (a1, .cells (cells4 trg) 3) :: (k1, .cells (seenCells trd).toArray 105) :: [(rb, .cells (cells4 rr) 62), (tb, .cells (cells5 (Tf G) (Vf G)) 58)]) (.slice xa9 X.length xc9) X w') := HA9.out.locks q ⟨by omega, by omega⟩ (HF.out.1.empty q)
      go_wp2_with fail
      refine HLC.out.mono ?_
      rintro e w13 ⟨va, vc, a13, rfl, h13⟩
      have H13 : Hid (AB L bs T V l0 wb k w s ow1 ((ub, .cells #[.int .i64 tst, .int .i64 tz, .int .i64 (tnx : Int), .bool twd, .bool twt, .int .i64 tag, .slice (some ⟨a1, 0, none⟩) 4 4, .slice (some ⟨k1, 0, none⟩) trd.length trd.length] 69) :: (a1, .cells (cells4 trg) 3) :: (k1, .cells (seenCells trd).toArray 105) :: [(rb, .cells (cells4 rr) 62), (tb, .cells (cells5 (Tf G) (Vf G)) 58)]) (.slice xa9 X.length xc9) X w13) := h13
      clear h13 HLC c0' HA9
      go_wp2_with fail
      go_roundw
      case rel => exact ⟨q + 1, by omega, by go_num, H13.out⟩
      case measure => simp [intOf]; omega
     ·have b1 : wr.cell? ⟨ub, 1, none⟩ = some (.int .i64 2) := by rw [cell_at (HA9.out.at (List.mem_cons_self ..)), HC6.out.1]; rfl
      have b7 : wr.cell? ⟨ub, 7, none⟩ = some (.slice (some ⟨k1, 0, none⟩) 0 0) := by rw [cell_at (HA9.out.at (List.mem_cons_self ..)), HC6.out.2]; rfl
      have HK9 : Hid (Kept NoBlk w wr) := HA9.out.kept
      go_wp2_with fail
      go_ret
      exact ⟨rfl, HK9.out⟩
end Go.Proofs.YtmcajfefagdbnaaGreat
