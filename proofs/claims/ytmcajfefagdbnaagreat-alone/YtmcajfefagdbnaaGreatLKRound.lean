import Derived.Test.YtmcajfefagdbnaaGreatLKEnds0
import Derived.Test.YtmcajfefagdbnaaGreatLKEld0
namespace Go.Proofs.YtmcajfefagdbnaaGreat
open Go Go.RowKit
theorem own_agree {w : World} {ow ow' : Ow} (ha : AgreeP w ow ow') (k : Nat) (hk : OwnP ow' k) : OwnP ow k ∨ w.heap.size ≤ k := by
 by_cases e : k < w.heap.size
 ·left; unfold OwnP at hk ⊢; rw [← ha k e]; exact hk
 ·right; omega
theorem KAft.trans {L : Lay} {bs : Nat → Nat} {ow ow1 : Ow} {j : Nat} {w w1 w2 : World} {s2 : St} (ha : AgreeP w ow ow1) (hk : Kept (OwnP ow) w w1) (h2 : KAft L bs ow1 j w1 s2 w2) : KAft L bs ow j w s2 w2 := by
 obtain ⟨⟨ow2, h3, h4⟩, h5⟩ := h2
 exact ⟨⟨ow2, h3, ha.trans hk.size h4⟩, hk.trans h5 (own_agree ha)⟩
theorem stepR_mod (s : St) (x n : Nat) (hn : s.n = n) (h0 : 0 < n) : s.stepR ((x % n : Nat) : Int) = s.stepN (1 + x % n) := by
 unfold St.stepR
 have hlt : x % n < n := Nat.mod_lt _ h0
 rw [hn, if_neg (by omega)]
 congr 2
 unfold pickI
 rw [if_neg (by omega), Int.emod_eq_of_lt (by omega) (by omega)]
 omega
set_option maxRecDepth 20000 in
set_option maxHeartbeats 1600000 in
theorem wround_any {L : Lay} {bs : Nat → Nat} {ow : Ow} {j : Nat} {s : St} {w : World} (h : KSt L bs ow j s w) (wb : Nat) (hw : KW w wb L s.n) (hn : ¬ OwnP ow wb) (f : Nat) (hf : f ≤ 1000) (hj : j + 5 ≤ 140737488355328) :
  Calls Tryz.prog 70 #[.pointer (some ⟨wb, 0, none⟩), .int .i64 (f : Int)] w fun e w' => e = .returned (.bool true) ∧ KAft L bs ow (j + 5) w (s.steps (roundL f s.n s.n)) w' := by
 have HW : Hid (KW w wb L s.n) := hw
 have HNW : Hid (¬ OwnP ow wb) := hn
 have H0 : Hid (KSt L bs ow j s w) := h
 have h5 := h.n5
 generalize hsn : s.n = sn at *
 have HSN : Hid (s.n = sn) := hsn
 clear h hn hw hsn
 go_enter Tryz.func70, Tryz.ntmps70
 go_wp2_with fail
 go_loopw [5] (fun i wr => ∃ (k : Nat) (ow' : Ow), k ≤ sn ∧ i = .int .i64 k ∧ KSt L bs ow' (j + k) (s.steps (roundL f sn k)) wr ∧ AgreeP w ow ow' ∧ Kept (OwnP ow) w wr) (fun i _ => sn - (intOf i).toNat)
 case atStart => exact ⟨0, ow, by omega, rfl, H0.out, AgreeP.refl _ _, Kept.refl _ _⟩
 case round =>
  obtain ⟨k, ow1, hk, rfl, hst, hag, hkw⟩ := hrel
  have HWR : Hid (KW wr wb L sn) := HW.out.kept hkw HNW.out
  obtain ⟨cs, ao, c, w1, w2, w3⟩ := HWR.out
  have c11 : wr.cell? ⟨wb, 11, none⟩ = some (.slice ao sn c) := by rw [cell_at w1]; exact w3
  have HNO : Hid (¬ OwnP ow1 wb) := not_own HNW.out hag (by obtain ⟨_, _, _, x1, _⟩ := HW.out; exact lt_of_block x1)
  clear w1 w2 w3
  by_cases hlt : k < sn
  ·have hstp : Calls Tryz.prog 30 #[.pointer (some ⟨wb, 0, none⟩), .int .i64 (((f + k) % sn : Nat) : Int)] wr fun e w' => e = .returned (.bool true) ∧ KAft L bs ow1 (j + k + 1) wr (s.steps (roundL f sn (k + 1))) w' := by
    have hmod : (f + k) % sn < sn := Nat.mod_lt _ (by omega)
    have := wstep_any hst wb (by rw [steps_n, HSN.out]; exact HWR.out) HNO.out (((f + k) % sn : Nat) : Int) ⟨by omega, by omega⟩ (by omega)
    rw [stepR_mod _ (f + k) sn (by rw [steps_n]; exact HSN.out) (by omega), ← steps_snoc, ← roundL_succ] at this
    exact this
   rw [show (((f + k) % sn : Nat) : Int) = ((f : Int) + (k : Int)) % (sn : Int) from by push_cast; rfl] at hstp
   have HS : Hid (Calls Tryz.prog 30 #[.pointer (some ⟨wb, 0, none⟩), .int .i64 (((f : Int) + (k : Int)) % (sn : Int))] wr fun e w' => e = .returned (.bool true) ∧ KAft L bs ow1 (j + k + 1) wr (s.steps (roundL f sn (k + 1))) w') := hstp
   have HR : Hid (AgreeP w ow ow1 ∧ Kept (OwnP ow) w wr) := ⟨hag, hkw⟩
   have hsn0 : ((sn : Int) == 0) = false := by rw [beq_eq_false_iff_ne]; omega
   clear hstp hst hag hkw
   go_wp2_with fail
   refine HS.out.mono ?_
   rintro e w2 ⟨rfl, ⟨ow2, h2, ha2⟩, hk2⟩
   have H2 : Hid (KSt L bs ow2 (j + (k + 1)) (s.steps (roundL f sn (k + 1))) w2 ∧ AgreeP w ow ow2 ∧ Kept (OwnP ow) w w2) := ⟨h2, HR.out.1.trans HR.out.2.size ha2, HR.out.2.trans hk2 (own_agree HR.out.1)⟩
   clear h2 ha2 hk2 HS HR c11
   go_wp2_with fail
   go_roundw
   case rel => exact ⟨k + 1, ow2, by omega, by go_num, H2.out⟩
   case measure => simp [intOf]; omega
  ·obtain rfl : k = sn := by omega
   have HF : Hid (KAft L bs ow (j + 5) w (s.steps (roundL f k k)) wr) := ⟨⟨ow1, hst.mono (by omega), hag⟩, hkw⟩
   clear hst hag hkw
   go_wp2_with fail
   go_ret
   exact ⟨rfl, HF.out⟩
theorem KWh.elem {ow : Ow} {w : World} {wb : Nat} {L : Lay} {T : Nat → Bool} {V : Nat → Int} {ls : List (List Op4)} (h : KWh ow w wb L T V ls) (i : Nat) (hi : i < ls.length) : ∃ g off c xa xc, w.cell? ⟨wb, 11, none⟩ = some (.slice (some ⟨g, off, none⟩) ls.length c) ∧ w.cell? ⟨g, off + i, none⟩ = some (.slice xa (ls.getD i []).length xc) := by
 obtain ⟨ov, xs, h1, h2, h3, h4⟩ := h.body
 obtain ⟨x, x1, x2, _⟩ := h4 i hi
 obtain ⟨xa, xc, rfl, _⟩ := x2.form
 rcases h2.2 with ⟨_, h0⟩ | ⟨g, off, cap, cur, rfl, _⟩
 ·omega
 ·exact ⟨g, off, cap, xa, xc, by rw [cell_at h1]; rfl, h2.cell i x1⟩
def ecap (v : Value) : Nat := if (intOf v).toNat = 0 then 0 else 6 - (intOf v).toNat
theorem ecap_nat (r : Nat) : ecap (.int .i64 (r : Int)) = if r = 0 then 0 else 6 - r := by
 have e : (intOf (.int .i64 (r : Int))).toNat = r := by simp [intOf]
 unfold ecap
 split
 ·rename_i h; rw [e] at h; rw [if_pos h]
 ·rename_i h; rw [e] at h ⊢; rw [if_neg h]
theorem rounds_steps (s : St) (q n m : Nat) : s.rounds q n m = s.steps (roundsL q n m).flatten := by
 unfold St.rounds St.steps
 generalize roundsL q n m = L
 induction L generalizing s with
 | nil => rfl
 | cons l L ih =>
  rw [List.foldl_cons, ih, List.flatten_cons, List.foldl_append]
  try rfl
theorem steps_append (s : St) (l1 l2 : List Nat) : (s.steps l1).steps l2 = s.steps (l1 ++ l2) := by unfold St.steps; rw [List.foldl_append]
set_option maxRecDepth 40000 in
set_option maxHeartbeats 3200000 in
theorem ended_any {L : Lay} {bs : Nat → Nat} {ow : Ow} {j : Nat} {s : St} {w : World} {T : Nat → Bool} {V : Nat → Int} {l0 : List (List Op4)} (h : KSt L bs ow j s w) (wb : Nat) (hw : KWh ow w wb L T V l0) (hln : l0.length = s.n) (hops : ∀ i, 1 ≤ i → i ≤ s.n → (s.tx i).ops = l0.getD (i - 1) []) (h6 : ∀ i, (l0.getD i []).length ≤ 6) (turn : Int) (ht : inI turn) (hj : j + 600 ≤ 140737488355328) :
  Calls Tryz.prog 31 #[.pointer (some ⟨wb, 0, none⟩), .int .i64 turn] w fun e w' => e = .returned (.bool true) ∧ ∃ ll, KAft L bs ow (j + 550) w (s.steps ll) w' ∧ ∀ i, 1 ≤ i → i ≤ s.n → ((s.steps ll).tx i).state ≠ 0 := by
 have HP : Hid (Calls Tryz.prog 34 #[.int .i64 turn, .int .i64 5] w fun e w' => e = .returned (.int .i64 (pickI turn 5)) ∧ w' = w) := pick_any turn 5 w ht ⟨by omega, by omega⟩
 have q1 := pickI_ge turn (n := 5) (by omega)
 have q2 := pickI_lt turn (n := 5) (by omega)
 have HEL : Hid (Calls Tryz.prog 33 #[.pointer (some ⟨wb, 0, none⟩)] w fun e w' => ∃ r : Nat, e = .returned (.int .i64 (r : Int)) ∧ ((r = 0 ∧ ∀ i, 1 ≤ i → i ≤ s.n → (s.tx i).state ≠ 0) ∨ (Eld s r ∧ (s.tx r).state = 0)) ∧ KSt L bs ow j s w' ∧ Kept (OwnP ow) w w') := eldest_any h wb (by rw [← hln]; exact hw.kw) hw.out
 have HW : Hid (KWh ow w wb L T V l0) := hw
 have HO : Hid (∀ i, 1 ≤ i → i ≤ s.n → (s.tx i).ops = l0.getD (i - 1) []) := hops
 have H6 : Hid (∀ i, (l0.getD i []).length ≤ 6) := h6
 have h5 := h.n5
 generalize hsn : s.n = sn at *
 have HSN : Hid (s.n = sn) := hsn
 have HLN : Hid (l0.length = sn) := hln
 generalize hpk : pickI turn 5 = pk at *
 obtain ⟨q, rfl⟩ : ∃ q : Nat, pk = (q : Int) := ⟨pk.toNat, by omega⟩
 clear h hw hops h6 hsn hln hpk
 go_enter Tryz.func31, Tryz.ntmps31
 go_wp2_with fail
 refine HP.out.mono ?_
 rintro e w1 ⟨rfl, rfl⟩
 go_wp2_with fail
 refine HEL.out.mono ?_
 rintro e w2 ⟨r, rfl, hr, h2, hk2⟩
 have H2 : Hid (((r = 0 ∧ ∀ i, 1 ≤ i → i ≤ sn → (s.tx i).state ≠ 0) ∨ (Eld s r ∧ (s.tx r).state = 0)) ∧ KSt L bs ow j s w2 ∧ Kept (OwnP ow) w1 w2) := ⟨hr, h2, hk2⟩
 clear hr h2 hk2 HP HEL
 go_wp2_with fail
 go_loopw [6] (fun id wr => ∃ (r : Nat) (ll : List Nat) (ow' : Ow), id = .int .i64 (r : Int) ∧ ((r = 0 ∧ ∀ i, 1 ≤ i → i ≤ sn → ((s.steps ll).tx i).state ≠ 0) ∨ (Eld (s.steps ll) r ∧ ((s.steps ll).tx r).state = 0)) ∧ KSt L bs ow' (if r = 0 then j + 550 else j + 110 * (r - 1)) (s.steps ll) wr ∧ AgreeP w1 ow ow' ∧ Kept (OwnP ow) w1 wr) (fun id _ => ecap id)
 case atStart =>
  refine ⟨r, [], ow, rfl, H2.out.1, H2.out.2.1.mono (by split <;> omega), AgreeP.refl _ _, H2.out.2.2⟩
 case round =>
  clear H2
  obtain ⟨r1, ll, ow1, rfl, hr, hst, hag, hkw⟩ := hrel
  rcases hr with ⟨rfl, hall⟩ | ⟨hEld, hlv⟩
  ·have HF : Hid (KAft L bs ow (j + 550) w1 (s.steps ll) wr ∧ ∀ i, 1 ≤ i → i ≤ sn → ((s.steps ll).tx i).state ≠ 0) := ⟨⟨⟨ow1, hst, hag⟩, hkw⟩, hall⟩
   clear hst hag hkw hall
   go_wp2_with fail
   go_ret
   exact ⟨rfl, ll, HF.out⟩
  ·obtain ⟨r0, rfl⟩ : ∃ r0, r1 = r0 + 1 := ⟨r1 - 1, by have := hEld.low; omega⟩
   rw [if_neg (by omega), Nat.add_sub_cancel] at hst
   have hsn1 : (s.steps ll).n = sn := by rw [steps_n]; exact HSN.out
   have hr5 := hEld.high
   rw [hsn1] at hr5
   have HKW1 : Hid (KWh ow1 wr wb L T V l0) := HW.out.aft hkw hag
   have HOP1 : Hid (((s.steps ll).tx (r0 + 1)).ops = l0.getD r0 []) := by
    unfold Hid
    rw [steps_ops]
    have := HO.out (r0 + 1) (by omega) (by omega)
    rw [Nat.add_sub_cancel] at this
    exact this
   generalize hlen : (l0.getD r0 []).length = len at *
   have hlen6 : len ≤ 6 := by rw [← hlen]; exact H6.out r0
   have HLEN : Hid ((l0.getD r0 []).length = len) := hlen
   have HE1 : Hid (Eld (s.steps ll) (r0 + 1) ∧ ((s.steps ll).tx (r0 + 1)).state = 0) := ⟨hEld, hlv⟩
   have HS1 : Hid (KSt L bs ow1 (j + 110 * r0) (s.steps ll) wr ∧ AgreeP w1 ow ow1 ∧ Kept (OwnP ow) w1 wr) := ⟨hst, hag, hkw⟩
   have HN1 : Hid ((s.steps ll).n = sn) := hsn1
   clear hst hag hkw hEld hlv hlen hsn1
   rw [show ((r0 + 1 : Nat) : Int) = (r0 : Int) + 1 from by omega]
   go_wp2_with fail
   go_loopw [7] (fun i wr2 => ∃ (k : Nat) (ow2 : Ow), k ≤ 3 * len + 4 ∧ i = .int .i64 k ∧ KSt L bs ow2 (j + 110 * r0 + 5 * k) ((s.steps ll).rounds q sn k) wr2 ∧ AgreeP w1 ow ow2 ∧ Kept (OwnP ow) w1 wr2) (fun i _ => 3 * len + 4 - (intOf i).toNat)
   case atStart => exact ⟨0, ow1, by omega, rfl, HS1.out⟩
   case round =>
    obtain ⟨k, ow2, hk, rfl, hst, hag, hkw⟩ := hrel
    have HKW2 : Hid (KWh ow2 wr wb L T V l0) := HW.out.aft hkw hag
    obtain ⟨g, off, c, xa, xc, e1, e2⟩ := HKW2.out.elem r0 (by rw [HLN.out]; omega)
    rw [HLN.out] at e1
    rw [HLEN.out] at e2
    have hn2 : ((s.steps ll).rounds q sn k).n = sn := by rw [rounds_n]; exact HN1.out
    have j0 : (0 : Int) ≤ (r0 : Int) := by omega
    have j1 : (r0 : Int) < (sn : Int) := by omega
    by_cases hlt : k < 3 * len + 4
    ·have hkq : k * q ≤ 22 * 4 := Nat.mul_le_mul (by omega) (by omega)
     have hkq1 : (k : Int) * (q : Int) ≤ 88 := by
      have : ((k * q : Nat) : Int) ≤ 88 := by omega
      rw [Int.natCast_mul] at this; exact this
     have hkq0 : (0 : Int) ≤ (k : Int) * (q : Int) := by
      have : (0 : Int) ≤ ((k * q : Nat) : Int) := by omega
      rw [Int.natCast_mul] at this; exact this
     have hrd := wround_any hst wb (by rw [hn2, ← HLN.out]; exact HKW2.out.kw) HKW2.out.out (k * q) (by omega) (by omega)
     rw [hn2, ← rounds_succ, Int.natCast_mul] at hrd
     have HRD : Hid (Calls Tryz.prog 70 #[.pointer (some ⟨wb, 0, none⟩), .int .i64 ((k : Int) * (q : Int))] wr fun e w' => e = .returned (.bool true) ∧ KAft L bs ow2 (j + 110 * r0 + 5 * k + 5) wr ((s.steps ll).rounds q sn (k + 1)) w') := hrd
     have HR2 : Hid (AgreeP w1 ow ow2 ∧ Kept (OwnP ow) w1 wr) := ⟨hag, hkw⟩
     have hlt' : (k : Int) < 3 * (len : Int) + 4 := by omega
     clear hrd hst hag hkw hkq hn2
     go_wp2_with fail
     refine HRD.out.mono ?_
     rintro e w3 ⟨rfl, ⟨ow3, h3, ha3⟩, hk3⟩
     have H3 : Hid (KSt L bs ow3 (j + 110 * r0 + 5 * (k + 1)) ((s.steps ll).rounds q sn (k + 1)) w3 ∧ AgreeP w1 ow ow3 ∧ Kept (OwnP ow) w1 w3) := ⟨h3.mono (by omega), HR2.out.1.trans HR2.out.2.size ha3, HR2.out.2.trans hk3 (own_agree HR2.out.1)⟩
     clear h3 ha3 hk3 HRD HR2 e1 e2
     go_wp2_with fail
     go_roundw
     case rel => exact ⟨k + 1, ow3, by omega, by go_num, H3.out⟩
     case measure => simp [intOf]; omega
    ·obtain rfl : k = 3 * len + 4 := by omega
     have hdone : ((((s.steps ll).rounds q sn (3 * len + 4)).tx (r0 + 1)).state == 0) = false := by
      rw [beq_eq_false_iff_ne]
      have := rounds_done HS1.out.1.good HE1.out.1 q (3 * len + 4) (by rw [HOP1.out, HLEN.out]; omega)
      rw [HN1.out] at this
      exact this
     have hEl2 : Eld ((s.steps ll).rounds q sn (3 * len + 4)) (r0 + 1) := HE1.out.1.rounds q sn _
     have hlv2 := lives_any hst wb sn (by rw [← HLN.out]; exact HKW2.out.kw) HKW2.out.out (r0 + 1) ⟨by omega, by rw [hn2]; omega⟩
     rw [hdone, show ((r0 + 1 : Nat) : Int) = (r0 : Int) + 1 from by omega] at hlv2
     have hel2 : ∀ W, KSt L bs ow2 (j + 110 * r0 + 5 * (3 * len + 4)) ((s.steps ll).rounds q sn (3 * len + 4)) W → Kept (OwnP ow2) wr W → Calls Tryz.prog 33 #[.pointer (some ⟨wb, 0, none⟩)] W fun e w' => ∃ r : Nat, e = .returned (.int .i64 (r : Int)) ∧ ((r = 0 ∧ ∀ i, 1 ≤ i → i ≤ ((s.steps ll).rounds q sn (3 * len + 4)).n → (((s.steps ll).rounds q sn (3 * len + 4)).tx i).state ≠ 0) ∨ (Eld ((s.steps ll).rounds q sn (3 * len + 4)) r ∧ (((s.steps ll).rounds q sn (3 * len + 4)).tx r).state = 0)) ∧ KSt L bs ow2 (j + 110 * r0 + 5 * (3 * len + 4)) ((s.steps ll).rounds q sn (3 * len + 4)) w' ∧ Kept (OwnP ow2) W w' := fun W hW hkW => eldest_any hW wb (by rw [hn2, ← HLN.out]; exact (HKW2.out.kept hkW).kw) HKW2.out.out
     rw [rounds_steps, steps_append] at hst hlv2 hEl2 hn2 hel2 hdone
     generalize ll ++ (roundsL q sn (3 * len + 4)).flatten = l2 at *
     have HLV : Hid (Calls Tryz.prog 69 #[.pointer (some ⟨wb, 0, none⟩), .int .i64 ((r0 : Int) + 1)] wr fun e w' => e = .returned (.bool false) ∧ KSt L bs ow2 (j + 110 * r0 + 5 * (3 * len + 4)) (s.steps l2) w' ∧ Kept (OwnP ow2) wr w') := hlv2
     have HE2 : Hid (∀ W, KSt L bs ow2 (j + 110 * r0 + 5 * (3 * len + 4)) (s.steps l2) W → Kept (OwnP ow2) wr W → Calls Tryz.prog 33 #[.pointer (some ⟨wb, 0, none⟩)] W fun e w' => ∃ r : Nat, e = .returned (.int .i64 (r : Int)) ∧ ((r = 0 ∧ ∀ i, 1 ≤ i → i ≤ (s.steps l2).n → ((s.steps l2).tx i).state ≠ 0) ∨ (Eld (s.steps l2) r ∧ ((s.steps l2).tx r).state = 0)) ∧ KSt L bs ow2 (j + 110 * r0 + 5 * (3 * len + 4)) (s.steps l2) w' ∧ Kept (OwnP ow2) W w') := hel2
     have HD : Hid (((s.steps l2).tx (r0 + 1)).state ≠ 0 ∧ Eld (s.steps l2) (r0 + 1) ∧ (s.steps l2).n = sn) := ⟨by simpa using hdone, hEl2, hn2⟩
     have HR2 : Hid (AgreeP w1 ow ow2 ∧ Kept (OwnP ow) w1 wr) := ⟨hag, hkw⟩
     clear hlv2 hel2 hdone hEl2 hn2 hst hag hkw
     go_wp2_with fail
     refine HLV.out.mono ?_
     rintro e w3 ⟨rfl, h3, hk3⟩
     have HK3 : Hid (Kept (OwnP ow2) wr w3) := hk3
     have HEE : Hid (Calls Tryz.prog 33 #[.pointer (some ⟨wb, 0, none⟩)] w3 fun e w' => ∃ r : Nat, e = .returned (.int .i64 (r : Int)) ∧ ((r = 0 ∧ ∀ i, 1 ≤ i → i ≤ (s.steps l2).n → ((s.steps l2).tx i).state ≠ 0) ∨ (Eld (s.steps l2) r ∧ ((s.steps l2).tx r).state = 0)) ∧ KSt L bs ow2 (j + 110 * r0 + 5 * (3 * len + 4)) (s.steps l2) w' ∧ Kept (OwnP ow2) w3 w') := HE2.out w3 h3 hk3
     clear h3 hk3 e1 e2 HE2 HLV
     go_wp2_with fail
     refine HEE.out.mono ?_
     rintro e w4 ⟨r2, rfl, hr2, h4, hk4⟩
     have HM : Hid (r2 = 0 ∨ r0 + 1 < r2) := by
      rcases hr2 with ⟨h0, _⟩ | ⟨h0, h1⟩
      ·exact .inl h0
      ·right
       have hge := eld_ge HD.out.2.1 h0 h1
       have hne : r2 ≠ r0 + 1 := fun e => HD.out.1 (by rw [← e]; exact h1)
       omega
     have H4 : Hid (((r2 = 0 ∧ ∀ i, 1 ≤ i → i ≤ sn → ((s.steps l2).tx i).state ≠ 0) ∨ (Eld (s.steps l2) r2 ∧ ((s.steps l2).tx r2).state = 0)) ∧ KSt L bs ow2 (if r2 = 0 then j + 550 else j + 110 * (r2 - 1)) (s.steps l2) w4 ∧ AgreeP w1 ow ow2 ∧ Kept (OwnP ow) w1 w4) := by
      rw [HD.out.2.2] at hr2
      have hm := HM.out
      exact ⟨hr2, h4.mono (by split <;> omega), HR2.out.1, (HR2.out.2.trans HK3.out (own_agree HR2.out.1)).trans hk4 (own_agree HR2.out.1)⟩
     clear hr2 h4 hk4 HEE HK3 HR2
     go_wp2_with fail
     go_roundw
     case rel => exact ⟨r2, l2, ow2, rfl, H4.out⟩
     case measure =>
      have hm := HM.out
      show ecap (.int .i64 (r2 : Int)) < ecap (.int .i64 ((r0 : Int) + 1))
      rw [show ((r0 : Int) + 1) = ((r0 + 1 : Nat) : Int) from by omega, ecap_nat, ecap_nat]
      split <;> split <;> omega
end Go.Proofs.YtmcajfefagdbnaaGreat
