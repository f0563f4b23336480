import Derived.Test.YtmcajfefagdbnaaGreatJ08
import Derived.Test.YtmcajfefagdbnaaGreatJ05
namespace Go.Proofs.YtmcajfefagdbnaaGreat
open Go Go.RowKit
set_option maxRecDepth 100000 in
set_option maxHeartbeats 6400000 in
theorem takeSeen_row (o n N : Nat) (l : Value) (xs vs : List Value) (iv v0 v2 v3 : Value) (w : World) (hN : N ≤ 1099511627776) (hn : n ≤ 33554432)
  (ho : w.heap[o]? = some (.cells #[v0, iv, v2, v3] 30 (0, 0))) (hv : RowAt w 105 3 l n xs) (hiv : w.ownsRow 0 61 1 iv N vs) :
  Calls Tryz.prog 49 #[.pointer (some ⟨o, 0, none⟩), l] w fun e w' => e = .returned (.tuple #[]) ∧
   ∃ iv' x y z, w'.heap[o]? = some (.cells #[v0, iv', v2, v3] 30 (0, 0)) ∧ w'.ownsRow 0 61 1 iv' (N + 4) (vs ++ [l, x, y, z]) ∧
    RowAt w' 105 3 l n (mks [.int .i64 (mark N), .bool false, .int .i64 0] n) ∧ (∀ u ∈ [(x, n + 1), (y, n + 2), (z, n + 3)], RowAt w' 105 3 u.1 u.2 (mks [.int .i64 (mark N), .bool false, .int .i64 0] u.2) ∧ ∀ b, u.1.ownBlock = some b → l.ownBlock = some b ∨ w.heap.size ≤ b) ∧
    (∀ k, iv'.ownBlock = some k → iv.ownBlock = some k ∨ w.heap.size ≤ k) ∧ Kept (fun k => k = o ∨ iv.ownBlock = some k ∨ l.ownBlock = some k) w w' := by
 have c0 : w.cell? ⟨o, 1, none⟩ = some iv := by rw [cell_at ho]; rfl
 obtain ⟨ia, ic, rfl⟩ := ownsRow_form hiv
 obtain ⟨ao, cp, rfl, _, _⟩ := hv.form
 have HO : Hid _ := ho
 have HV : Hid (RowAt w 105 3 (.slice ao n cp) n xs) := hv
 have HI : Hid (w.ownsRow 0 61 1 (.slice ia N ic) N vs) := hiv
 clear ho hv hiv
 go_enter Tryz.func49, Tryz.ntmps49
 go_wp2_with fail
 generalize hm : (-1000 - (N : Int) / 4) = mk at *
 have HM : Hid _ := hm
 have HB0 : Hid ((w.alloc (.cells #[.int .i64 mk, .bool false, .int .i64 0] 105)).heap[w.heap.size]? = some (.cells #[.int .i64 mk, .bool false, .int .i64 0] 105 (0, 0))) := block_alloc_new w _
 have HKW0 : Hid (Kept NoBlk w (w.alloc (.cells #[.int .i64 mk, .bool false, .int .i64 0] 105))) := (Kept.refl _ _).alloc _
 clear hm c0
 generalize w.alloc (.cells #[.int .i64 mk, .bool false, .int .i64 0] 105) = W0 at *
 generalize hH : w.heap.size = H at HB0 ⊢
 have HH : Hid _ := hH
 clear hH
 have HNB : Hid (¬ (Value.slice ao n cp).ownBlock = some H) := fun e => by have := HV.out.lt H e; have := HH.out; omega
 have HBX : Hid (∀ W, Kept (fun b => (Value.slice ao n cp).ownBlock = some b) W0 W → W.cell? ⟨H, 0, none⟩ = some (.int .i64 mk) ∧ W.cell? ⟨H, 1, none⟩ = some (.bool false) ∧ W.cell? ⟨H, 2, none⟩ = some (.int .i64 0)) := fun W hk => by
  have := hk.heap HB0.out HNB.out
  exact ⟨by rw [cell_at this]; rfl, by rw [cell_at this]; rfl, by rw [cell_at this]; rfl⟩
 go_loopw [5] (fun i wr => ∃ k : Nat, k ≤ n ∧ i = .int .i64 k ∧ Kept (fun b => (Value.slice ao n cp).ownBlock = some b) W0 wr ∧ RowAt wr 105 3 (.slice ao n cp) n (mks [.int .i64 mk, .bool false, .int .i64 0] k ++ xs.drop (k * 3))) (fun i _ => n - (intOf i).toNat)
 case atStart => exact ⟨0, Nat.zero_le _, rfl, Kept.refl _ _, by rw [Nat.zero_mul, List.drop_zero]; exact HV.out.kept HKW0.out (fun _ _ x => x)⟩
 case round =>
  obtain ⟨k, hk, rfl, hkw, hwr'⟩ := hrel
  have hwr : RowAt wr 105 3 (.slice ao n cp) n (mks [.int .i64 mk, .bool false, .int .i64 0] k ++ xs.drop (k * 3)) := hwr'
  clear hwr'
  have hxl : xs.length = n * 3 := HV.out.1
  obtain ⟨m0, m1, m2⟩ := HBX.out wr hkw
  by_cases hlt : k < n
  ·obtain ⟨g, off, rfl⟩ := hwr.place (by omega)
   have hlen := hwr.1
   obtain ⟨y0, hy0⟩ : ∃ y, wr.cell? ⟨g, off + k * 3, none⟩ = some y := ⟨_, hwr.cell (k * 3) (List.getElem?_eq_getElem (show k * 3 < _ by omega))⟩
   obtain ⟨y1, hy1⟩ : ∃ y, wr.cell? ⟨g, off + k * 3 + 1, none⟩ = some y := ⟨_, hwr.cell (k * 3 + 1) (List.getElem?_eq_getElem (show k * 3 + 1 < _ by omega))⟩
   obtain ⟨y2, hy2⟩ : ∃ y, wr.cell? ⟨g, off + k * 3 + 2, none⟩ = some y := ⟨_, hwr.cell (k * 3 + 2) (List.getElem?_eq_getElem (show k * 3 + 2 < _ by omega))⟩
   have hfz := hwr.unfrozen
   have HST : Hid (RowAt (((wr.setCell ⟨g, off + k * 3, none⟩ (.int .i64 mk)).setCell ⟨g, off + k * 3 + 1, none⟩ (.bool false)).setCell ⟨g, off + k * 3 + 2, none⟩ (.int .i64 0)) 105 3 (.slice (some ⟨g, off, none⟩) n cp) n (mks [.int .i64 mk, .bool false, .int .i64 0] (k + 1) ++ xs.drop ((k + 1) * 3))) := by
    have := (((hwr.setc (k * 3) (.int .i64 mk)).setc (k * 3 + 1) (.bool false)).setc (k * 3 + 2) (.int .i64 0))
    rw [mks_set3 _ _ (by omega)] at this
    exact this
   have HKW : Hid (Kept (fun b => (Value.slice (some ⟨g, off, none⟩) n cp).ownBlock = some b) W0 (((wr.setCell ⟨g, off + k * 3, none⟩ (.int .i64 mk)).setCell ⟨g, off + k * 3 + 1, none⟩ (.bool false)).setCell ⟨g, off + k * 3 + 2, none⟩ (.int .i64 0))) := (((hkw.setCell (p := ⟨g, off + k * 3, none⟩) (.inl rfl) (.int .i64 mk)).setCell (p := ⟨g, off + k * 3 + 1, none⟩) (.inl rfl) (.bool false)).setCell (p := ⟨g, off + k * 3 + 2, none⟩) (.inl rfl) (.int .i64 0))
   have i0 : (0 : Int) ≤ (k : Int) := by omega
   have i1 : (k : Int) < (n : Int) := by omega
   have hgH : ¬ g = H := fun e => HNB.out (by rw [e]; rfl)
   have hHg : ¬ H = g := fun e => hgH e.symm
   clear hlen hwr hkw
   go_wp2_with fail
   go_roundw
   case rel => exact ⟨k + 1, by omega, by go_num, HKW.out, HST.out⟩
   case measure => simp [intOf]; omega
  ·obtain rfl : k = n := by omega
   rw [List.drop_of_length_le (by omega), List.append_nil] at hwr
   have HT0 : Hid (TkI W0 105 [.int .i64 mk, .bool false, .int .i64 0] (.slice ao k cp) k [] wr) := ⟨hkw, hwr, fun x hx => (by cases hx), fun x hx => (by cases hx)⟩
   clear hwr hkw hxl
   obtain ⟨i0, hi0, hz0, hz1, hz2⟩ := info_parts infoSeen
   have HI0 : Hid (Tryz.prog.info? 105 = some i0 ∧ i0.zero = some (.agg #[.int .i64 0, .bool false, .int .i64 0]) ∧ i0.size = 3 ∧ i0.bytes = 24) := ⟨hi0, hz0, hz1, hz2⟩
   clear hi0 hz0 hz1 hz2
   have HB1 : Hid ((k + 1) * 24 ≤ 140737488355328) := by unfold Hid; omega
   have HM1 : Hid (k + 1 ≤ maxLen) := by unfold Hid maxLen; omega
   have HB2 : Hid ((k + 2) * 24 ≤ 140737488355328) := by unfold Hid; omega
   have HM2 : Hid (k + 2 ≤ maxLen) := by unfold Hid maxLen; omega
   have HB3 : Hid ((k + 3) * 24 ≤ 140737488355328) := by unfold Hid; omega
   have HM3 : Hid (k + 3 ≤ maxLen) := by unfold Hid maxLen; omega
   go_wp2_with (at_builtin; refine wpList_append_row2 (by rfl) _ _ 61 (by rfl) 105 i0 _ 3 24 Tryz.underlying61 HI0.out.1 HI0.out.2.1 HI0.out.2.2.1 HI0.out.2.2.2 (by rfl) (.slice ao k cp) k (mks [.int .i64 mk, .bool false, .int .i64 0] k) (by rfl) (HT0.out.own.kept ((Kept.refl NoBlk wr).alloc _) (fun _ _ x => x)) (.slice (some ⟨wr.heap.size, 0, none⟩) 1 1) 1 [.int .i64 mk, .bool false, .int .i64 0] (by rfl) (from_new wr [.int .i64 mk, .bool false, .int .i64 0] _ 3 1 (by rfl) (by simp [Value.oneCell'])) HM1.out HB1.out (by omega) ?_)
   intro a1 c1 W1 hown1 hmv1
   have HT1 : Hid (TkI W0 105 [.int .i64 mk, .bool false, .int .i64 0] (.slice ao k cp) k [(.slice a1 (k + 1) c1, k + 1)] W1) := by
    have e : mks [.int .i64 mk, .bool false, .int .i64 0] k ++ [.int .i64 mk, .bool false, .int .i64 0] = mks [.int .i64 mk, .bool false, .int .i64 0] (k + 1) := mks_add [.int .i64 mk, .bool false, .int .i64 0] k 1
    rw [e] at hown1
    exact HT0.out.push ((Kept.refl NoBlk wr).alloc _) (fun x hx => by simp only [List.not_mem_nil] at hx) (by omega) hown1 hmv1
   clear m0 m1 m2
   obtain ⟨m0, m1, m2⟩ := HBX.out W1 HT1.out.kept
   clear hown1 hmv1
   go_wp2_with (at_builtin; refine wpList_append_row2 (by rfl) _ _ 61 (by rfl) 105 i0 _ 3 24 Tryz.underlying61 HI0.out.1 HI0.out.2.1 HI0.out.2.2.1 HI0.out.2.2.2 (by rfl) (.slice ao k cp) k (mks [.int .i64 mk, .bool false, .int .i64 0] k) (by rfl) (HT1.out.own.kept ((Kept.refl NoBlk W1).alloc _) (fun _ _ x => x)) (.slice (some ⟨W1.heap.size, 0, none⟩) 2 2) 2 [.int .i64 mk, .bool false, .int .i64 0, .int .i64 mk, .bool false, .int .i64 0] (by rfl) (from_new W1 [.int .i64 mk, .bool false, .int .i64 0, .int .i64 mk, .bool false, .int .i64 0] _ 3 2 (by rfl) (by simp [Value.oneCell'])) HM2.out HB2.out (by omega) ?_)
   intro a2 c2 W2 hown2 hmv2
   have HT2 : Hid (TkI W0 105 [.int .i64 mk, .bool false, .int .i64 0] (.slice ao k cp) k [(.slice a1 (k + 1) c1, k + 1), (.slice a2 (k + 2) c2, k + 2)] W2) := by
    have e : mks [.int .i64 mk, .bool false, .int .i64 0] k ++ [.int .i64 mk, .bool false, .int .i64 0, .int .i64 mk, .bool false, .int .i64 0] = mks [.int .i64 mk, .bool false, .int .i64 0] (k + 2) := mks_add [.int .i64 mk, .bool false, .int .i64 0] k 2
    rw [e] at hown2
    exact HT1.out.push ((Kept.refl NoBlk W1).alloc _) (fun x hx => by simp only [List.mem_cons, List.not_mem_nil, or_false] at hx; rcases hx with rfl <;> simp) (by omega) hown2 hmv2
   clear m0 m1 m2
   obtain ⟨m0, m1, m2⟩ := HBX.out W2 HT2.out.kept
   clear hown2 hmv2
   go_wp2_with (at_builtin; refine wpList_append_row2 (by rfl) _ _ 61 (by rfl) 105 i0 _ 3 24 Tryz.underlying61 HI0.out.1 HI0.out.2.1 HI0.out.2.2.1 HI0.out.2.2.2 (by rfl) (.slice ao k cp) k (mks [.int .i64 mk, .bool false, .int .i64 0] k) (by rfl) (HT2.out.own.kept ((Kept.refl NoBlk W2).alloc _) (fun _ _ x => x)) (.slice (some ⟨W2.heap.size, 0, none⟩) 3 3) 3 [.int .i64 mk, .bool false, .int .i64 0, .int .i64 mk, .bool false, .int .i64 0, .int .i64 mk, .bool false, .int .i64 0] (by rfl) (from_new W2 [.int .i64 mk, .bool false, .int .i64 0, .int .i64 mk, .bool false, .int .i64 0, .int .i64 mk, .bool false, .int .i64 0] _ 3 3 (by rfl) (by simp [Value.oneCell'])) HM3.out HB3.out (by omega) ?_)
   intro a3 c3 W3 hown3 hmv3
   have HT3 : Hid (TkI W0 105 [.int .i64 mk, .bool false, .int .i64 0] (.slice ao k cp) k [(.slice a1 (k + 1) c1, k + 1), (.slice a2 (k + 2) c2, k + 2), (.slice a3 (k + 3) c3, k + 3)] W3) := by
    have e : mks [.int .i64 mk, .bool false, .int .i64 0] k ++ [.int .i64 mk, .bool false, .int .i64 0, .int .i64 mk, .bool false, .int .i64 0, .int .i64 mk, .bool false, .int .i64 0] = mks [.int .i64 mk, .bool false, .int .i64 0] (k + 3) := mks_add [.int .i64 mk, .bool false, .int .i64 0] k 3
    rw [e] at hown3
    exact HT2.out.push ((Kept.refl NoBlk W2).alloc _) (fun x hx => by simp only [List.mem_cons, List.not_mem_nil, or_false] at hx; rcases hx with rfl | rfl <;> simp) (by omega) hown3 hmv3
   clear m0 m1 m2
   obtain ⟨m0, m1, m2⟩ := HBX.out W3 HT3.out.kept
   clear hown3 hmv3
   have hov : ¬ (Value.slice ao k cp).ownBlock = some o := fun e => by
    obtain ⟨cur, hcur⟩ := HV.out.block e
    exact blocks_apart hcur HO.out (by decide) rfl
   have hiv : ∀ b, (Value.slice ia N ic).ownBlock = some b → ¬ (Value.slice ao k cp).ownBlock = some b := fun b hb e => by
    obtain ⟨cur, hcur⟩ := HV.out.block e
    obtain ⟨cur', hcur'⟩ := ownsRow_block HI.out hb
    exact blocks_apart hcur hcur' (by decide) rfl
   have hio : ∀ b, (Value.slice ia N ic).ownBlock = some b → b ≠ o := fun b hb e => by
    obtain ⟨cur', hcur'⟩ := ownsRow_block HI.out hb
    exact blocks_apart hcur' HO.out (by decide) e
   have hKW3 : Kept (fun b => (Value.slice ao k cp).ownBlock = some b) w W3 := (HKW0.out.mono (fun _ x => x.elim)).trans' HT3.out.kept
   have hO3 := hKW3.heap HO.out hov
   have HO3 : Hid _ := hO3
   have HI3 : Hid (W3.ownsRow 0 61 1 (.slice ia N ic) N vs) := ownsRow_kept HI.out hKW3 hiv
   have HKW3 : Hid _ := hKW3
   have c0 : W3.cell? ⟨o, 1, none⟩ = some (.slice ia N ic) := by rw [cell_at hO3]; rfl
   obtain ⟨i1, hi1, hy0, hy1, hy2⟩ := info_parts infoLS
   have HI1 : Hid (Tryz.prog.info? 61 = some i1 ∧ i1.zero = some (.slice none 0 0) ∧ i1.size = 1 ∧ i1.bytes = 24) := ⟨hi1, hy0, hy1, hy2⟩
   have HB4 : Hid ((N + 4) * 24 ≤ 140737488355328) := by unfold Hid; omega
   have HM4 : Hid (N + 4 ≤ maxLen) := by unfold Hid maxLen; omega
   have HOV : Hid _ := hov
   have HIV : Hid _ := hiv
   have HIO : Hid _ := hio
   clear hi1 hy0 hy1 hy2 hO3 hov hiv hio hKW3 m0 m1 m2
   go_wp2_with (at_builtin; refine wpList_append_at (by rfl) _ _ 26 (by rfl) 61 i1 _ 1 24 Tryz.underlying26 HI1.out.1 HI1.out.2.1 HI1.out.2.2.1 HI1.out.2.2.2 (by rfl) (.slice ia N ic) N vs (by rfl) (ownsRow_kept HI3.out ((Kept.refl NoBlk W3).alloc _) (fun _ _ x => x)) (.slice (some ⟨W3.heap.size, 0, none⟩) 4 4) 4 [.slice ao k cp, .slice a1 (k + 1) c1, .slice a2 (k + 2) c2, .slice a3 (k + 3) c3] (by rfl) (from_new W3 [.slice ao k cp, .slice a1 (k + 1) c1, .slice a2 (k + 2) c2, .slice a3 (k + 3) c3] _ 1 4 (by rfl) (by simp [Value.oneCell'])) HM4.out HB4.out ?_)
   intro a4 c4 W4 hown4 hmv4
   have hk4 := hmv4.keptOf
   have hn4 := hmv4.fresh
   have hs4 : W3.heap.size ≤ (W3.alloc (.cells #[.slice ao k cp, .slice a1 (k + 1) c1, .slice a2 (k + 2) c2, .slice a3 (k + 3) c3] 61)).heap.size := ((Kept.refl NoBlk W3).alloc _).size
   have hK4 : Kept (fun b => (Value.slice ia N ic).ownBlock = some b) W3 W4 := (((Kept.refl NoBlk W3).alloc _).mono (fun _ x => x.elim)).trans' hk4
   have hsw : w.heap.size ≤ W3.heap.size := HKW3.out.size
   have hO4 := hK4.heap HO3.out (fun e => HIO.out o e rfl)
   have d0 : W4.cell? ⟨o, 1, none⟩ = some (.slice ia N ic) := by rw [cell_at hO4]; rfl
   have df : W4.frozen? ⟨o, 1, none⟩ = false := frozen_at hO4 _
   have hKw : Kept (fun b => b = o ∨ (Value.slice ia N ic).ownBlock = some b ∨ (Value.slice ao k cp).ownBlock = some b) w W4 := (HKW3.out.mono (fun b x => Or.inr (Or.inr x))).trans hK4 (fun b x => .inl (.inr (.inl x)))
   have H4 : Hid (W4.heap[o]? = some (.cells #[v0, .slice ia N ic, v2, v3] 30 (0, 0))) := hO4
   have HL4 : Hid (W4.ownsRow 0 61 1 (.slice a4 (N + 4) c4) (N + 4) (vs ++ [.slice ao k cp, .slice a1 (k + 1) c1, .slice a2 (k + 2) c2, .slice a3 (k + 3) c3])) := hown4
   have HN4 : Hid (∀ b, (Value.slice a4 (N + 4) c4).ownBlock = some b → (Value.slice ia N ic).ownBlock = some b ∨ w.heap.size ≤ b) := fun b hb => by
    rcases hn4 b hb with h | h
    ·exact .inl h
    ·right; omega
   have HKK : Hid _ := hKw
   have HK4 : Hid _ := hK4
   clear hown4 hmv4 hk4 hn4 hK4 hO4 hKw c0 hs4
   go_wp2_with fail
   go_end0
   have e5 := Kept.set1 W4 o 1 (.slice a4 (N + 4) c4)
   have hmk : mk = mark N := by rw [← HM.out]; unfold mark; omega
   rw [← hmk]
   have hol := lt_of_block HO.out
   have hw0 : w.heap.size ≤ W0.heap.size := HKW0.out.size
   have hno : ∀ b, w.heap.size ≤ b → b ≠ o := fun b hb e => by omega
   have hil := ownsRow_lt HI.out
   have hK5 : Kept (fun b => (Value.slice ia N ic).ownBlock = some b ∨ b = o) W3 (W4.setCell ⟨o, 1, none⟩ (.slice a4 (N + 4) c4)) := (HK4.out.mono (fun _ x => .inl x)).trans (e5.mono (S' := fun b => b = o) (fun _ x => x)) (fun b x => .inl (.inr x))
   have hout : ∀ u : Value, (∀ b, u.ownBlock = some b → (Value.slice ao k cp).ownBlock = some b ∨ W0.heap.size ≤ b) → ∀ b, u.ownBlock = some b → ¬ ((Value.slice ia N ic).ownBlock = some b ∨ b = o) := fun u hu b hb e => by
    rcases hu b hb with h | h
    ·rcases e with e | e
     ·exact HIV.out b e h
     ·subst e; exact HOV.out h
    ·rcases e with e | e
     ·have := hil b e; omega
     ·omega
   refine ⟨rfl, .slice a4 (N + 4) c4, .slice a1 (k + 1) c1, .slice a2 (k + 2) c2, .slice a3 (k + 3) c3, block_setCell H4.out _, ownsRow_kept HL4.out e5 ?_, HT3.out.own.kept hK5 (hout _ (fun b hb => .inl hb)), fun u hu => ?_, HN4.out, HKK.out.setCell (p := ⟨o, 1, none⟩) (.inl (.inl rfl)) _⟩
   ·intro b hb
    rcases HN4.out b hb with h | h
    ·exact HIO.out b h
    ·exact hno b h
   ·have hr := HT3.out.rows u hu
    refine ⟨hr.1.kept hK5 (hout u.1 hr.2), fun b hb => ?_⟩
    rcases hr.2 b hb with h | h
    ·exact .inl h
    ·right; omega
end Go.Proofs.YtmcajfefagdbnaaGreat
namespace Go.Proofs.YtmcajfefagdbnaaGreat
open Go Go.RowKit
set_option maxRecDepth 100000 in
set_option maxHeartbeats 6400000 in
theorem takeLocks_row (o n N : Nat) (l : Value) (xs vs : List Value) (iv v0 v1 v3 : Value) (w : World) (hN : N ≤ 1099511627776) (hn : n ≤ 33554432)
  (ho : w.heap[o]? = some (.cells #[v0, v1, iv, v3] 30 (0, 0))) (hv : RowAt w 107 2 l n xs) (hiv : w.ownsRow 0 74 1 iv N vs) :
  Calls Tryz.prog 52 #[.pointer (some ⟨o, 0, none⟩), l] w fun e w' => e = .returned (.tuple #[]) ∧
   ∃ iv' x y z, w'.heap[o]? = some (.cells #[v0, v1, iv', v3] 30 (0, 0)) ∧ w'.ownsRow 0 74 1 iv' (N + 4) (vs ++ [l, x, y, z]) ∧
    RowAt w' 107 2 l n (mks [.int .i64 (mark N), .int .i64 0] n) ∧ (∀ u ∈ [(x, n + 1), (y, n + 2), (z, n + 3)], RowAt w' 107 2 u.1 u.2 (mks [.int .i64 (mark N), .int .i64 0] u.2) ∧ ∀ b, u.1.ownBlock = some b → l.ownBlock = some b ∨ w.heap.size ≤ b) ∧
    (∀ k, iv'.ownBlock = some k → iv.ownBlock = some k ∨ w.heap.size ≤ k) ∧ Kept (fun k => k = o ∨ iv.ownBlock = some k ∨ l.ownBlock = some k) w w' := by
 have c0 : w.cell? ⟨o, 2, none⟩ = some iv := by rw [cell_at ho]; rfl
 obtain ⟨ia, ic, rfl⟩ := ownsRow_form hiv
 obtain ⟨ao, cp, rfl, _, _⟩ := hv.form
 have HO : Hid _ := ho
 have HV : Hid (RowAt w 107 2 (.slice ao n cp) n xs) := hv
 have HI : Hid (w.ownsRow 0 74 1 (.slice ia N ic) N vs) := hiv
 clear ho hv hiv
 go_enter Tryz.func52, Tryz.ntmps52
 go_wp2_with fail
 generalize hm : (-1000 - (N : Int) / 4) = mk at *
 have HM : Hid _ := hm
 have HB0 : Hid ((w.alloc (.cells #[.int .i64 mk, .int .i64 0] 107)).heap[w.heap.size]? = some (.cells #[.int .i64 mk, .int .i64 0] 107 (0, 0))) := block_alloc_new w _
 have HKW0 : Hid (Kept NoBlk w (w.alloc (.cells #[.int .i64 mk, .int .i64 0] 107))) := (Kept.refl _ _).alloc _
 clear hm c0
 generalize w.alloc (.cells #[.int .i64 mk, .int .i64 0] 107) = W0 at *
 generalize hH : w.heap.size = H at HB0 ⊢
 have HH : Hid _ := hH
 clear hH
 have HNB : Hid (¬ (Value.slice ao n cp).ownBlock = some H) := fun e => by have := HV.out.lt H e; have := HH.out; omega
 have HBX : Hid (∀ W, Kept (fun b => (Value.slice ao n cp).ownBlock = some b) W0 W → W.cell? ⟨H, 0, none⟩ = some (.int .i64 mk) ∧ W.cell? ⟨H, 1, none⟩ = some (.int .i64 0)) := fun W hk => by
  have := hk.heap HB0.out HNB.out
  exact ⟨by rw [cell_at this]; rfl, by rw [cell_at this]; rfl⟩
 go_loopw [5] (fun i wr => ∃ k : Nat, k ≤ n ∧ i = .int .i64 k ∧ Kept (fun b => (Value.slice ao n cp).ownBlock = some b) W0 wr ∧ RowAt wr 107 2 (.slice ao n cp) n (mks [.int .i64 mk, .int .i64 0] k ++ xs.drop (k * 2))) (fun i _ => n - (intOf i).toNat)
 case atStart => exact ⟨0, Nat.zero_le _, rfl, Kept.refl _ _, by rw [Nat.zero_mul, List.drop_zero]; exact HV.out.kept HKW0.out (fun _ _ x => x)⟩
 case round =>
  obtain ⟨k, hk, rfl, hkw, hwr'⟩ := hrel
  have hwr : RowAt wr 107 2 (.slice ao n cp) n (mks [.int .i64 mk, .int .i64 0] k ++ xs.drop (k * 2)) := hwr'
  clear hwr'
  have hxl : xs.length = n * 2 := HV.out.1
  obtain ⟨m0, m1⟩ := HBX.out wr hkw
  by_cases hlt : k < n
  ·obtain ⟨g, off, rfl⟩ := hwr.place (by omega)
   have hlen := hwr.1
   obtain ⟨y0, hy0⟩ : ∃ y, wr.cell? ⟨g, off + k * 2, none⟩ = some y := ⟨_, hwr.cell (k * 2) (List.getElem?_eq_getElem (show k * 2 < _ by omega))⟩
   obtain ⟨y1, hy1⟩ : ∃ y, wr.cell? ⟨g, off + k * 2 + 1, none⟩ = some y := ⟨_, hwr.cell (k * 2 + 1) (List.getElem?_eq_getElem (show k * 2 + 1 < _ by omega))⟩
   have hfz := hwr.unfrozen
   have HST : Hid (RowAt ((wr.setCell ⟨g, off + k * 2, none⟩ (.int .i64 mk)).setCell ⟨g, off + k * 2 + 1, none⟩ (.int .i64 0)) 107 2 (.slice (some ⟨g, off, none⟩) n cp) n (mks [.int .i64 mk, .int .i64 0] (k + 1) ++ xs.drop ((k + 1) * 2))) := by
    have := ((hwr.setc (k * 2) (.int .i64 mk)).setc (k * 2 + 1) (.int .i64 0))
    rw [mks_set2 _ _ (by omega)] at this
    exact this
   have HKW : Hid (Kept (fun b => (Value.slice (some ⟨g, off, none⟩) n cp).ownBlock = some b) W0 ((wr.setCell ⟨g, off + k * 2, none⟩ (.int .i64 mk)).setCell ⟨g, off + k * 2 + 1, none⟩ (.int .i64 0))) := ((hkw.setCell (p := ⟨g, off + k * 2, none⟩) (.inl rfl) (.int .i64 mk)).setCell (p := ⟨g, off + k * 2 + 1, none⟩) (.inl rfl) (.int .i64 0))
   have i0 : (0 : Int) ≤ (k : Int) := by omega
   have i1 : (k : Int) < (n : Int) := by omega
   have hgH : ¬ g = H := fun e => HNB.out (by rw [e]; rfl)
   have hHg : ¬ H = g := fun e => hgH e.symm
   clear hlen hwr hkw
   go_wp2_with fail
   go_roundw
   case rel => exact ⟨k + 1, by omega, by go_num, HKW.out, HST.out⟩
   case measure => simp [intOf]; omega
  ·obtain rfl : k = n := by omega
   rw [List.drop_of_length_le (by omega), List.append_nil] at hwr
   have HT0 : Hid (TkI W0 107 [.int .i64 mk, .int .i64 0] (.slice ao k cp) k [] wr) := ⟨hkw, hwr, fun x hx => (by cases hx), fun x hx => (by cases hx)⟩
   clear hwr hkw hxl
   obtain ⟨i0, hi0, hz0, hz1, hz2⟩ := info_parts infoLockT
   have HI0 : Hid (Tryz.prog.info? 107 = some i0 ∧ i0.zero = some (.agg #[.int .i64 0, .int .i64 0]) ∧ i0.size = 2 ∧ i0.bytes = 16) := ⟨hi0, hz0, hz1, hz2⟩
   clear hi0 hz0 hz1 hz2
   have HB1 : Hid ((k + 1) * 16 ≤ 140737488355328) := by unfold Hid; omega
   have HM1 : Hid (k + 1 ≤ maxLen) := by unfold Hid maxLen; omega
   have HB2 : Hid ((k + 2) * 16 ≤ 140737488355328) := by unfold Hid; omega
   have HM2 : Hid (k + 2 ≤ maxLen) := by unfold Hid maxLen; omega
   have HB3 : Hid ((k + 3) * 16 ≤ 140737488355328) := by unfold Hid; omega
   have HM3 : Hid (k + 3 ≤ maxLen) := by unfold Hid maxLen; omega
   go_wp2_with (at_builtin; refine wpList_append_row2 (by rfl) _ _ 74 (by rfl) 107 i0 _ 2 16 Tryz.underlying74 HI0.out.1 HI0.out.2.1 HI0.out.2.2.1 HI0.out.2.2.2 (by rfl) (.slice ao k cp) k (mks [.int .i64 mk, .int .i64 0] k) (by rfl) (HT0.out.own.kept ((Kept.refl NoBlk wr).alloc _) (fun _ _ x => x)) (.slice (some ⟨wr.heap.size, 0, none⟩) 1 1) 1 [.int .i64 mk, .int .i64 0] (by rfl) (from_new wr [.int .i64 mk, .int .i64 0] _ 2 1 (by rfl) (by simp [Value.oneCell'])) HM1.out HB1.out (by omega) ?_)
   intro a1 c1 W1 hown1 hmv1
   have HT1 : Hid (TkI W0 107 [.int .i64 mk, .int .i64 0] (.slice ao k cp) k [(.slice a1 (k + 1) c1, k + 1)] W1) := by
    have e : mks [.int .i64 mk, .int .i64 0] k ++ [.int .i64 mk, .int .i64 0] = mks [.int .i64 mk, .int .i64 0] (k + 1) := mks_add [.int .i64 mk, .int .i64 0] k 1
    rw [e] at hown1
    exact HT0.out.push ((Kept.refl NoBlk wr).alloc _) (fun x hx => by simp only [List.not_mem_nil] at hx) (by omega) hown1 hmv1
   clear m0 m1
   obtain ⟨m0, m1⟩ := HBX.out W1 HT1.out.kept
   clear hown1 hmv1
   go_wp2_with (at_builtin; refine wpList_append_row2 (by rfl) _ _ 74 (by rfl) 107 i0 _ 2 16 Tryz.underlying74 HI0.out.1 HI0.out.2.1 HI0.out.2.2.1 HI0.out.2.2.2 (by rfl) (.slice ao k cp) k (mks [.int .i64 mk, .int .i64 0] k) (by rfl) (HT1.out.own.kept ((Kept.refl NoBlk W1).alloc _) (fun _ _ x => x)) (.slice (some ⟨W1.heap.size, 0, none⟩) 2 2) 2 [.int .i64 mk, .int .i64 0, .int .i64 mk, .int .i64 0] (by rfl) (from_new W1 [.int .i64 mk, .int .i64 0, .int .i64 mk, .int .i64 0] _ 2 2 (by rfl) (by simp [Value.oneCell'])) HM2.out HB2.out (by omega) ?_)
   intro a2 c2 W2 hown2 hmv2
   have HT2 : Hid (TkI W0 107 [.int .i64 mk, .int .i64 0] (.slice ao k cp) k [(.slice a1 (k + 1) c1, k + 1), (.slice a2 (k + 2) c2, k + 2)] W2) := by
    have e : mks [.int .i64 mk, .int .i64 0] k ++ [.int .i64 mk, .int .i64 0, .int .i64 mk, .int .i64 0] = mks [.int .i64 mk, .int .i64 0] (k + 2) := mks_add [.int .i64 mk, .int .i64 0] k 2
    rw [e] at hown2
    exact HT1.out.push ((Kept.refl NoBlk W1).alloc _) (fun x hx => by simp only [List.mem_cons, List.not_mem_nil, or_false] at hx; rcases hx with rfl <;> simp) (by omega) hown2 hmv2
   clear m0 m1
   obtain ⟨m0, m1⟩ := HBX.out W2 HT2.out.kept
   clear hown2 hmv2
   go_wp2_with (at_builtin; refine wpList_append_row2 (by rfl) _ _ 74 (by rfl) 107 i0 _ 2 16 Tryz.underlying74 HI0.out.1 HI0.out.2.1 HI0.out.2.2.1 HI0.out.2.2.2 (by rfl) (.slice ao k cp) k (mks [.int .i64 mk, .int .i64 0] k) (by rfl) (HT2.out.own.kept ((Kept.refl NoBlk W2).alloc _) (fun _ _ x => x)) (.slice (some ⟨W2.heap.size, 0, none⟩) 3 3) 3 [.int .i64 mk, .int .i64 0, .int .i64 mk, .int .i64 0, .int .i64 mk, .int .i64 0] (by rfl) (from_new W2 [.int .i64 mk, .int .i64 0, .int .i64 mk, .int .i64 0, .int .i64 mk, .int .i64 0] _ 2 3 (by rfl) (by simp [Value.oneCell'])) HM3.out HB3.out (by omega) ?_)
   intro a3 c3 W3 hown3 hmv3
   have HT3 : Hid (TkI W0 107 [.int .i64 mk, .int .i64 0] (.slice ao k cp) k [(.slice a1 (k + 1) c1, k + 1), (.slice a2 (k + 2) c2, k + 2), (.slice a3 (k + 3) c3, k + 3)] W3) := by
    have e : mks [.int .i64 mk, .int .i64 0] k ++ [.int .i64 mk, .int .i64 0, .int .i64 mk, .int .i64 0, .int .i64 mk, .int .i64 0] = mks [.int .i64 mk, .int .i64 0] (k + 3) := mks_add [.int .i64 mk, .int .i64 0] k 3
    rw [e] at hown3
    exact HT2.out.push ((Kept.refl NoBlk W2).alloc _) (fun x hx => by simp only [List.mem_cons, List.not_mem_nil, or_false] at hx; rcases hx with rfl | rfl <;> simp) (by omega) hown3 hmv3
   clear m0 m1
   obtain ⟨m0, m1⟩ := HBX.out W3 HT3.out.kept
   clear hown3 hmv3
   have hov : ¬ (Value.slice ao k cp).ownBlock = some o := fun e => by
    obtain ⟨cur, hcur⟩ := HV.out.block e
    exact blocks_apart hcur HO.out (by decide) rfl
   have hiv : ∀ b, (Value.slice ia N ic).ownBlock = some b → ¬ (Value.slice ao k cp).ownBlock = some b := fun b hb e => by
    obtain ⟨cur, hcur⟩ := HV.out.block e
    obtain ⟨cur', hcur'⟩ := ownsRow_block HI.out hb
    exact blocks_apart hcur hcur' (by decide) rfl
   have hio : ∀ b, (Value.slice ia N ic).ownBlock = some b → b ≠ o := fun b hb e => by
    obtain ⟨cur', hcur'⟩ := ownsRow_block HI.out hb
    exact blocks_apart hcur' HO.out (by decide) e
   have hKW3 : Kept (fun b => (Value.slice ao k cp).ownBlock = some b) w W3 := (HKW0.out.mono (fun _ x => x.elim)).trans' HT3.out.kept
   have hO3 := hKW3.heap HO.out hov
   have HO3 : Hid _ := hO3
   have HI3 : Hid (W3.ownsRow 0 74 1 (.slice ia N ic) N vs) := ownsRow_kept HI.out hKW3 hiv
   have HKW3 : Hid _ := hKW3
   have c0 : W3.cell? ⟨o, 2, none⟩ = some (.slice ia N ic) := by rw [cell_at hO3]; rfl
   obtain ⟨i1, hi1, hy0, hy1, hy2⟩ := info_parts infoLLocks
   have HI1 : Hid (Tryz.prog.info? 74 = some i1 ∧ i1.zero = some (.slice none 0 0) ∧ i1.size = 1 ∧ i1.bytes = 24) := ⟨hi1, hy0, hy1, hy2⟩
   have HB4 : Hid ((N + 4) * 24 ≤ 140737488355328) := by unfold Hid; omega
   have HM4 : Hid (N + 4 ≤ maxLen) := by unfold Hid maxLen; omega
   have HOV : Hid _ := hov
   have HIV : Hid _ := hiv
   have HIO : Hid _ := hio
   clear hi1 hy0 hy1 hy2 hO3 hov hiv hio hKW3 m0 m1
   go_wp2_with (at_builtin; refine wpList_append_at (by rfl) _ _ 27 (by rfl) 74 i1 _ 1 24 Tryz.underlying27 HI1.out.1 HI1.out.2.1 HI1.out.2.2.1 HI1.out.2.2.2 (by rfl) (.slice ia N ic) N vs (by rfl) (ownsRow_kept HI3.out ((Kept.refl NoBlk W3).alloc _) (fun _ _ x => x)) (.slice (some ⟨W3.heap.size, 0, none⟩) 4 4) 4 [.slice ao k cp, .slice a1 (k + 1) c1, .slice a2 (k + 2) c2, .slice a3 (k + 3) c3] (by rfl) (from_new W3 [.slice ao k cp, .slice a1 (k + 1) c1, .slice a2 (k + 2) c2, .slice a3 (k + 3) c3] _ 1 4 (by rfl) (by simp [Value.oneCell'])) HM4.out HB4.out ?_)
   intro a4 c4 W4 hown4 hmv4
   have hk4 := hmv4.keptOf
   have hn4 := hmv4.fresh
   have hs4 : W3.heap.size ≤ (W3.alloc (.cells #[.slice ao k cp, .slice a1 (k + 1) c1, .slice a2 (k + 2) c2, .slice a3 (k + 3) c3] 74)).heap.size := ((Kept.refl NoBlk W3).alloc _).size
   have hK4 : Kept (fun b => (Value.slice ia N ic).ownBlock = some b) W3 W4 := (((Kept.refl NoBlk W3).alloc _).mono (fun _ x => x.elim)).trans' hk4
   have hsw : w.heap.size ≤ W3.heap.size := HKW3.out.size
   have hO4 := hK4.heap HO3.out (fun e => HIO.out o e rfl)
   have d0 : W4.cell? ⟨o, 2, none⟩ = some (.slice ia N ic) := by rw [cell_at hO4]; rfl
   have df : W4.frozen? ⟨o, 2, none⟩ = false := frozen_at hO4 _
   have hKw : Kept (fun b => b = o ∨ (Value.slice ia N ic).ownBlock = some b ∨ (Value.slice ao k cp).ownBlock = some b) w W4 := (HKW3.out.mono (fun b x => Or.inr (Or.inr x))).trans hK4 (fun b x => .inl (.inr (.inl x)))
   have H4 : Hid (W4.heap[o]? = some (.cells #[v0, v1, .slice ia N ic, v3] 30 (0, 0))) := hO4
   have HL4 : Hid (W4.ownsRow 0 74 1 (.slice a4 (N + 4) c4) (N + 4) (vs ++ [.slice ao k cp, .slice a1 (k + 1) c1, .slice a2 (k + 2) c2, .slice a3 (k + 3) c3])) := hown4
   have HN4 : Hid (∀ b, (Value.slice a4 (N + 4) c4).ownBlock = some b → (Value.slice ia N ic).ownBlock = some b ∨ w.heap.size ≤ b) := fun b hb => by
    rcases hn4 b hb with h | h
    ·exact .inl h
    ·right; omega
   have HKK : Hid _ := hKw
   have HK4 : Hid _ := hK4
   clear hown4 hmv4 hk4 hn4 hK4 hO4 hKw c0 hs4
   go_wp2_with fail
   go_end0
   have e5 := Kept.set1 W4 o 2 (.slice a4 (N + 4) c4)
   have hmk : mk = mark N := by rw [← HM.out]; unfold mark; omega
   rw [← hmk]
   have hol := lt_of_block HO.out
   have hw0 : w.heap.size ≤ W0.heap.size := HKW0.out.size
   have hno : ∀ b, w.heap.size ≤ b → b ≠ o := fun b hb e => by omega
   have hil := ownsRow_lt HI.out
   have hK5 : Kept (fun b => (Value.slice ia N ic).ownBlock = some b ∨ b = o) W3 (W4.setCell ⟨o, 2, none⟩ (.slice a4 (N + 4) c4)) := (HK4.out.mono (fun _ x => .inl x)).trans (e5.mono (S' := fun b => b = o) (fun _ x => x)) (fun b x => .inl (.inr x))
   have hout : ∀ u : Value, (∀ b, u.ownBlock = some b → (Value.slice ao k cp).ownBlock = some b ∨ W0.heap.size ≤ b) → ∀ b, u.ownBlock = some b → ¬ ((Value.slice ia N ic).ownBlock = some b ∨ b = o) := fun u hu b hb e => by
    rcases hu b hb with h | h
    ·rcases e with e | e
     ·exact HIV.out b e h
     ·subst e; exact HOV.out h
    ·rcases e with e | e
     ·have := hil b e; omega
     ·omega
   refine ⟨rfl, .slice a4 (N + 4) c4, .slice a1 (k + 1) c1, .slice a2 (k + 2) c2, .slice a3 (k + 3) c3, block_setCell H4.out _, ownsRow_kept HL4.out e5 ?_, HT3.out.own.kept hK5 (hout _ (fun b hb => .inl hb)), fun u hu => ?_, HN4.out, HKK.out.setCell (p := ⟨o, 2, none⟩) (.inl (.inl rfl)) _⟩
   ·intro b hb
    rcases HN4.out b hb with h | h
    ·exact HIO.out b h
    ·exact hno b h
   ·have hr := HT3.out.rows u hu
    refine ⟨hr.1.kept hK5 (hout u.1 hr.2), fun b hb => ?_⟩
    rcases hr.2 b hb with h | h
    ·exact .inl h
    ·right; omega
end Go.Proofs.YtmcajfefagdbnaaGreat
