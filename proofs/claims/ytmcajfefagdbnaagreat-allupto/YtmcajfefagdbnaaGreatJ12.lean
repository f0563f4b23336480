import Derived.Test.YtmcajfefagdbnaaGreatJ08
import Derived.Test.YtmcajfefagdbnaaGreatJ05
import Derived.Test.YtmcajfefagdbnaaGreatJ04
namespace Go.Proofs.YtmcajfefagdbnaaGreat
open Go Go.RowKit
set_option maxRecDepth 100000 in
set_option maxHeartbeats 6400000 in
theorem takeRows_row (o n N : Nat) (l : Value) (xs vs : List Value) (iv v0 v1 v2 : Value) (w : World) (hN : N ≤ 1099511627776) (hn : n ≤ 33554432)
  (ho : w.heap[o]? = some (.cells #[v0, v1, v2, iv] 30 (0, 0))) (hv : RowAt w 95 2 l n xs) (hiv : w.ownsRow 0 22 1 iv N vs) :
  Calls Tryz.prog 54 #[.pointer (some ⟨o, 0, none⟩), l] w fun e w' => e = .returned (.tuple #[]) ∧
   ∃ iv' x y z, w'.heap[o]? = some (.cells #[v0, v1, v2, iv'] 30 (0, 0)) ∧ w'.ownsRow 0 22 1 iv' (N + 4) (vs ++ [l, x, y, z]) ∧
    RowAt w' 95 2 l n (mks [.int .i64 (mark N), .int .i64 0] n) ∧ (∀ u ∈ [(x, n + 1), (y, n + 2), (z, n + 3)], RowAt w' 95 2 u.1 u.2 (mks [.int .i64 (mark N), .int .i64 0] u.2) ∧ ∀ b, u.1.ownBlock = some b → l.ownBlock = some b ∨ w.heap.size ≤ b) ∧
    (∀ k, iv'.ownBlock = some k → iv.ownBlock = some k ∨ w.heap.size ≤ k) ∧ Kept (fun k => k = o ∨ iv.ownBlock = some k ∨ l.ownBlock = some k) w w' := by
 have c0 : w.cell? ⟨o, 3, none⟩ = some iv := by rw [cell_at ho]; rfl
 obtain ⟨ia, ic, rfl⟩ := ownsRow_form hiv
 obtain ⟨ao, cp, rfl, _, _⟩ := hv.form
 have HO : Hid _ := ho
 have HV : Hid (RowAt w 95 2 (.slice ao n cp) n xs) := hv
 have HI : Hid (w.ownsRow 0 22 1 (.slice ia N ic) N vs) := hiv
 clear ho hv hiv
 go_enter Tryz.func54, Tryz.ntmps54
 go_wp2_with fail
 generalize hm : (-1000 - (N : Int) / 4) = mk at *
 have HM : Hid _ := hm
 have HB0 : Hid ((w.alloc (.cells #[.int .i64 mk, .int .i64 0] 95)).heap[w.heap.size]? = some (.cells #[.int .i64 mk, .int .i64 0] 95 (0, 0))) := block_alloc_new w _
 have HKW0 : Hid (Kept NoBlk w (w.alloc (.cells #[.int .i64 mk, .int .i64 0] 95))) := (Kept.refl _ _).alloc _
 clear hm c0
 generalize w.alloc (.cells #[.int .i64 mk, .int .i64 0] 95) = W0 at *
 generalize hH : w.heap.size = H at HB0 ⊢
 have HH : Hid _ := hH
 clear hH
 have HNB : Hid (¬ (Value.slice ao n cp).ownBlock = some H) := fun e => by have := HV.out.lt H e; have := HH.out; omega
 have HBX : Hid (∀ W, Kept (fun b => (Value.slice ao n cp).ownBlock = some b) W0 W → W.cell? ⟨H, 0, none⟩ = some (.int .i64 mk) ∧ W.cell? ⟨H, 1, none⟩ = some (.int .i64 0)) := fun W hk => by
  have := hk.heap HB0.out HNB.out
  exact ⟨by rw [cell_at this]; rfl, by rw [cell_at this]; rfl⟩
 go_loopw [5] (fun i wr => ∃ k : Nat, k ≤ n ∧ i = .int .i64 k ∧ Kept (fun b => (Value.slice ao n cp).ownBlock = some b) W0 wr ∧ RowAt wr 95 2 (.slice ao n cp) n (mks [.int .i64 mk, .int .i64 0] k ++ xs.drop (k * 2))) (fun i _ => n - (intOf i).toNat)
 case atStart => exact ⟨0, Nat.zero_le _, rfl, Kept.refl _ _, by rw [Nat.zero_mul, List.drop_zero]; exact HV.out.kept HKW0.out (fun _ _ x => x)⟩
 case round =>
  obtain ⟨k, hk, rfl, hkw, hwr'⟩ := hrel
  have hwr : RowAt wr 95 2 (.slice ao n cp) n (mks [.int .i64 mk, .int .i64 0] k ++ xs.drop (k * 2)) := hwr'
  clear hwr'
  have hxl : xs.length = n * 2 := HV.out.1
  obtain ⟨m0, m1⟩ := HBX.out wr hkw
  by_cases hlt : k < n
  ·obtain ⟨g, off, rfl⟩ := hwr.place (by omega)
   have hlen := hwr.1
   obtain ⟨y0, hy0⟩ : ∃ y, wr.cell? ⟨g, off + k * 2, none⟩ = some y := ⟨_, hwr.cell (k * 2) (List.getElem?_eq_getElem (show k * 2 < _ by omega))⟩
   obtain ⟨y1, hy1⟩ : ∃ y, wr.cell? ⟨g, off + k * 2 + 1, none⟩ = some y := ⟨_, hwr.cell (k * 2 + 1) (List.getElem?_eq_getElem (show k * 2 + 1 < _ by omega))⟩
   have hfz := hwr.unfrozen
   have HST : Hid (RowAt ((wr.setCell ⟨g, off + k * 2, none⟩ (.int .i64 mk)).setCell ⟨g, off + k * 2 + 1, none⟩ (.int .i64 0)) 95 2 (.slice (some ⟨g, off, none⟩) n cp) n (mks [.int .i64 mk, .int .i64 0] (k + 1) ++ xs.drop ((k + 1) * 2))) := by
    have := ((hwr.setc (k * 2) (.int .i64 mk)).setc (k * 2 + 1) (.int .i64 0))
    rw [mks_set2 _ _ (by omega)] at this
    exact this
   have HKW : Hid (Kept (fun b => (Value.slice (some ⟨g, off, none⟩) n cp).ownBlock = some b) W0 ((wr.setCell ⟨g, off + k * 2, none⟩ (.int .i64 mk)).setCell ⟨g, off + k * 2 + 1, none⟩ (.int .i64 0))) := ((hkw.setCell (p := ⟨g, off + k * 2, none⟩) (.inl rfl) (.int .i64 mk)).setCell (p := ⟨g, off + k * 2 + 1, none⟩) (.inl rfl) (.int .i64 0))
   have i0 : (0 : Int) ≤ (k : Int) := by omega
   have i1 : (k : Int) < (n : Int) := by omega
   have hgH : ¬ g = H := fun e => HNB.out (by rw [e]; rfl)
   have hHg : ¬ H = g := fun e => hgH e.symm
   clear hlen hwr hkw
   go_wp2_with fail
   go_roundw
   case rel => exact ⟨k + 1, by omega, by go_num, HKW.out, HST.out⟩
   case measure => simp [intOf]; omega
  ·obtain rfl : k = n := by omega
   rw [List.drop_of_length_le (by omega), List.append_nil] at hwr
   have HT0 : Hid (TkI W0 95 [.int .i64 mk, .int .i64 0] (.slice ao k cp) k [] wr) := ⟨hkw, hwr, fun x hx => (by cases hx), fun x hx => (by cases hx)⟩
   clear hwr hkw hxl
   obtain ⟨i0, hi0, hz0, hz1, hz2⟩ := info_parts infoRowT
   have HI0 : Hid (Tryz.prog.info? 95 = some i0 ∧ i0.zero = some (.agg #[.int .i64 0, .int .i64 0]) ∧ i0.size = 2 ∧ i0.bytes = 16) := ⟨hi0, hz0, hz1, hz2⟩
   clear hi0 hz0 hz1 hz2
   have HB1 : Hid ((k + 1) * 16 ≤ 140737488355328) := by unfold Hid; omega
   have HM1 : Hid (k + 1 ≤ maxLen) := by unfold Hid maxLen; omega
   have HB2 : Hid ((k + 2) * 16 ≤ 140737488355328) := by unfold Hid; omega
   have HM2 : Hid (k + 2 ≤ maxLen) := by unfold Hid maxLen; omega
   have HB3 : Hid ((k + 3) * 16 ≤ 140737488355328) := by unfold Hid; omega
   have HM3 : Hid (k + 3 ≤ maxLen) := by unfold Hid maxLen; omega
   go_wp2_with (at_builtin; refine wpList_append_row2 (by rfl) _ _ 22 (by rfl) 95 i0 _ 2 16 Tryz.underlying22 HI0.out.1 HI0.out.2.1 HI0.out.2.2.1 HI0.out.2.2.2 (by rfl) (.slice ao k cp) k (mks [.int .i64 mk, .int .i64 0] k) (by rfl) (HT0.out.own.kept ((Kept.refl NoBlk wr).alloc _) (fun _ _ x => x)) (.slice (some ⟨wr.heap.size, 0, none⟩) 1 1) 1 [.int .i64 mk, .int .i64 0] (by rfl) (from_new wr [.int .i64 mk, .int .i64 0] _ 2 1 (by rfl) (by simp [Value.oneCell'])) HM1.out HB1.out (by omega) ?_)
   intro a1 c1 W1 hown1 hmv1
   have HT1 : Hid (TkI W0 95 [.int .i64 mk, .int .i64 0] (.slice ao k cp) k [(.slice a1 (k + 1) c1, k + 1)] W1) := by
    have e : mks [.int .i64 mk, .int .i64 0] k ++ [.int .i64 mk, .int .i64 0] = mks [.int .i64 mk, .int .i64 0] (k + 1) := mks_add [.int .i64 mk, .int .i64 0] k 1
    rw [e] at hown1
    exact HT0.out.push ((Kept.refl NoBlk wr).alloc _) (fun x hx => by simp only [List.not_mem_nil] at hx) (by omega) hown1 hmv1
   clear m0 m1
   obtain ⟨m0, m1⟩ := HBX.out W1 HT1.out.kept
   clear hown1 hmv1
   go_wp2_with (at_builtin; refine wpList_append_row2 (by rfl) _ _ 22 (by rfl) 95 i0 _ 2 16 Tryz.underlying22 HI0.out.1 HI0.out.2.1 HI0.out.2.2.1 HI0.out.2.2.2 (by rfl) (.slice ao k cp) k (mks [.int .i64 mk, .int .i64 0] k) (by rfl) (HT1.out.own.kept ((Kept.refl NoBlk W1).alloc _) (fun _ _ x => x)) (.slice (some ⟨W1.heap.size, 0, none⟩) 2 2) 2 [.int .i64 mk, .int .i64 0, .int .i64 mk, .int .i64 0] (by rfl) (from_new W1 [.int .i64 mk, .int .i64 0, .int .i64 mk, .int .i64 0] _ 2 2 (by rfl) (by simp [Value.oneCell'])) HM2.out HB2.out (by omega) ?_)
   intro a2 c2 W2 hown2 hmv2
   have HT2 : Hid (TkI W0 95 [.int .i64 mk, .int .i64 0] (.slice ao k cp) k [(.slice a1 (k + 1) c1, k + 1), (.slice a2 (k + 2) c2, k + 2)] W2) := by
    have e : mks [.int .i64 mk, .int .i64 0] k ++ [.int .i64 mk, .int .i64 0, .int .i64 mk, .int .i64 0] = mks [.int .i64 mk, .int .i64 0] (k + 2) := mks_add [.int .i64 mk, .int .i64 0] k 2
    rw [e] at hown2
    exact HT1.out.push ((Kept.refl NoBlk W1).alloc _) (fun x hx => by simp only [List.mem_cons, List.not_mem_nil, or_false] at hx; rcases hx with rfl <;> simp) (by omega) hown2 hmv2
   clear m0 m1
   obtain ⟨m0, m1⟩ := HBX.out W2 HT2.out.kept
   clear hown2 hmv2
   go_wp2_with (at_builtin; refine wpList_append_row2 (by rfl) _ _ 22 (by rfl) 95 i0 _ 2 16 Tryz.underlying22 HI0.out.1 HI0.out.2.1 HI0.out.2.2.1 HI0.out.2.2.2 (by rfl) (.slice ao k cp) k (mks [.int .i64 mk, .int .i64 0] k) (by rfl) (HT2.out.own.kept ((Kept.refl NoBlk W2).alloc _) (fun _ _ x => x)) (.slice (some ⟨W2.heap.size, 0, none⟩) 3 3) 3 [.int .i64 mk, .int .i64 0, .int .i64 mk, .int .i64 0, .int .i64 mk, .int .i64 0] (by rfl) (from_new W2 [.int .i64 mk, .int .i64 0, .int .i64 mk, .int .i64 0, .int .i64 mk, .int .i64 0] _ 2 3 (by rfl) (by simp [Value.oneCell'])) HM3.out HB3.out (by omega) ?_)
   intro a3 c3 W3 hown3 hmv3
   have HT3 : Hid (TkI W0 95 [.int .i64 mk, .int .i64 0] (.slice ao k cp) k [(.slice a1 (k + 1) c1, k + 1), (.slice a2 (k + 2) c2, k + 2), (.slice a3 (k + 3) c3, k + 3)] W3) := by
    have e : mks [.int .i64 mk, .int .i64 0] k ++ [.int .i64 mk, .int .i64 0, .int .i64 mk, .int .i64 0, .int .i64 mk, .int .i64 0] = mks [.int .i64 mk, .int .i64 0] (k + 3) := mks_add [.int .i64 mk, .int .i64 0] k 3
    rw [e] at hown3
    exact HT2.out.push ((Kept.refl NoBlk W2).alloc _) (fun x hx => by simp only [List.mem_cons, List.not_mem_nil, or_false] at hx; rcases hx with rfl | rfl <;> simp) (by omega) hown3 hmv3
   clear m0 m1
   obtain ⟨m0, m1⟩ := HBX.out W3 HT3.out.kept
   clear hown3 hmv3
   have hov : ¬ (Value.slice ao k cp).ownBlock = some o := fun e => by
    obtain ⟨cur, hcur⟩ := HV.out.block e
    exact blocks_apart hcur HO.out (by decide) rfl
   have hiv : ∀ b, (Value.slice ia N ic).ownBlock = some b → ¬ (Value.slice ao k cp).ownBlock = some b := fun b hb e => by
    obtain ⟨cur, hcur⟩ := HV.out.block e
    obtain ⟨cur', hcur'⟩ := ownsRow_block HI.out hb
    exact blocks_apart hcur hcur' (by decide) rfl
   have hio : ∀ b, (Value.slice ia N ic).ownBlock = some b → b ≠ o := fun b hb e => by
    obtain ⟨cur', hcur'⟩ := ownsRow_block HI.out hb
    exact blocks_apart hcur' HO.out (by decide) e
   have hKW3 : Kept (fun b => (Value.slice ao k cp).ownBlock = some b) w W3 := (HKW0.out.mono (fun _ x => x.elim)).trans' HT3.out.kept
   have hO3 := hKW3.heap HO.out hov
   have HO3 : Hid _ := hO3
   have HI3 : Hid (W3.ownsRow 0 22 1 (.slice ia N ic) N vs) := ownsRow_kept HI.out hKW3 hiv
   have HKW3 : Hid _ := hKW3
   have c0 : W3.cell? ⟨o, 3, none⟩ = some (.slice ia N ic) := by rw [cell_at hO3]; rfl
   obtain ⟨i1, hi1, hy0, hy1, hy2⟩ := info_parts infoLRows
   have HI1 : Hid (Tryz.prog.info? 22 = some i1 ∧ i1.zero = some (.slice none 0 0) ∧ i1.size = 1 ∧ i1.bytes = 24) := ⟨hi1, hy0, hy1, hy2⟩
   have HB4 : Hid ((N + 4) * 24 ≤ 140737488355328) := by unfold Hid; omega
   have HM4 : Hid (N + 4 ≤ maxLen) := by unfold Hid maxLen; omega
   have HOV : Hid _ := hov
   have HIV : Hid _ := hiv
   have HIO : Hid _ := hio
   clear hi1 hy0 hy1 hy2 hO3 hov hiv hio hKW3 m0 m1
   go_wp2_with (at_builtin; refine wpList_append_at (by rfl) _ _ 28 (by rfl) 22 i1 _ 1 24 Tryz.underlying28 HI1.out.1 HI1.out.2.1 HI1.out.2.2.1 HI1.out.2.2.2 (by rfl) (.slice ia N ic) N vs (by rfl) (ownsRow_kept HI3.out ((Kept.refl NoBlk W3).alloc _) (fun _ _ x => x)) (.slice (some ⟨W3.heap.size, 0, none⟩) 4 4) 4 [.slice ao k cp, .slice a1 (k + 1) c1, .slice a2 (k + 2) c2, .slice a3 (k + 3) c3] (by rfl) (from_new W3 [.slice ao k cp, .slice a1 (k + 1) c1, .slice a2 (k + 2) c2, .slice a3 (k + 3) c3] _ 1 4 (by rfl) (by simp [Value.oneCell'])) HM4.out HB4.out ?_)
   intro a4 c4 W4 hown4 hmv4
   have hk4 := hmv4.keptOf
   have hn4 := hmv4.fresh
   have hs4 : W3.heap.size ≤ (W3.alloc (.cells #[.slice ao k cp, .slice a1 (k + 1) c1, .slice a2 (k + 2) c2, .slice a3 (k + 3) c3] 22)).heap.size := ((Kept.refl NoBlk W3).alloc _).size
   have hK4 : Kept (fun b => (Value.slice ia N ic).ownBlock = some b) W3 W4 := (((Kept.refl NoBlk W3).alloc _).mono (fun _ x => x.elim)).trans' hk4
   have hsw : w.heap.size ≤ W3.heap.size := HKW3.out.size
   have hO4 := hK4.heap HO3.out (fun e => HIO.out o e rfl)
   have d0 : W4.cell? ⟨o, 3, none⟩ = some (.slice ia N ic) := by rw [cell_at hO4]; rfl
   have df : W4.frozen? ⟨o, 3, none⟩ = false := frozen_at hO4 _
   have hKw : Kept (fun b => b = o ∨ (Value.slice ia N ic).ownBlock = some b ∨ (Value.slice ao k cp).ownBlock = some b) w W4 := (HKW3.out.mono (fun b x => Or.inr (Or.inr x))).trans hK4 (fun b x => .inl (.inr (.inl x)))
   have H4 : Hid (W4.heap[o]? = some (.cells #[v0, v1, v2, .slice ia N ic] 30 (0, 0))) := hO4
   have HL4 : Hid (W4.ownsRow 0 22 1 (.slice a4 (N + 4) c4) (N + 4) (vs ++ [.slice ao k cp, .slice a1 (k + 1) c1, .slice a2 (k + 2) c2, .slice a3 (k + 3) c3])) := hown4
   have HN4 : Hid (∀ b, (Value.slice a4 (N + 4) c4).ownBlock = some b → (Value.slice ia N ic).ownBlock = some b ∨ w.heap.size ≤ b) := fun b hb => by
    rcases hn4 b hb with h | h
    ·exact .inl h
    ·right; omega
   have HKK : Hid _ := hKw
   have HK4 : Hid _ := hK4
   clear hown4 hmv4 hk4 hn4 hK4 hO4 hKw c0 hs4
   go_wp2_with fail
   go_end0
   have e5 := Kept.set1 W4 o 3 (.slice a4 (N + 4) c4)
   have hmk : mk = mark N := by rw [← HM.out]; unfold mark; omega
   rw [← hmk]
   have hol := lt_of_block HO.out
   have hw0 : w.heap.size ≤ W0.heap.size := HKW0.out.size
   have hno : ∀ b, w.heap.size ≤ b → b ≠ o := fun b hb e => by omega
   have hil := ownsRow_lt HI.out
   have hK5 : Kept (fun b => (Value.slice ia N ic).ownBlock = some b ∨ b = o) W3 (W4.setCell ⟨o, 3, none⟩ (.slice a4 (N + 4) c4)) := (HK4.out.mono (fun _ x => .inl x)).trans (e5.mono (S' := fun b => b = o) (fun _ x => x)) (fun b x => .inl (.inr x))
   have hout : ∀ u : Value, (∀ b, u.ownBlock = some b → (Value.slice ao k cp).ownBlock = some b ∨ W0.heap.size ≤ b) → ∀ b, u.ownBlock = some b → ¬ ((Value.slice ia N ic).ownBlock = some b ∨ b = o) := fun u hu b hb e => by
    rcases hu b hb with h | h
    ·rcases e with e | e
     ·exact HIV.out b e h
     ·subst e; exact HOV.out h
    ·rcases e with e | e
     ·have := hil b e; omega
     ·omega
   refine ⟨rfl, .slice a4 (N + 4) c4, .slice a1 (k + 1) c1, .slice a2 (k + 2) c2, .slice a3 (k + 3) c3, block_setCell H4.out _, ownsRow_kept HL4.out e5 ?_, HT3.out.own.kept hK5 (hout _ (fun b hb => .inl hb)), fun u hu => ?_, HN4.out, HKK.out.setCell (p := ⟨o, 3, none⟩) (.inl (.inl rfl)) _⟩
   ·intro b hb
    rcases HN4.out b hb with h | h
    ·exact HIO.out b h
    ·exact hno b h
   ·have hr := HT3.out.rows u hu
    refine ⟨hr.1.kept hK5 (hout u.1 hr.2), fun b hb => ?_⟩
    rcases hr.2 b hb with h | h
    ·exact .inl h
    ·right; omega
end Go.Proofs.YtmcajfefagdbnaaGreat
namespace Go.Proofs.YtmcajfefagdbnaaGreat
open Go Go.RowKit
set_option maxHeartbeats 1600000 in
theorem sameInts_row (v v' : Value) (n : Nat) (xs : List Value) (f0 : Nat → Int) (w : World) (hn : n ≤ 33554432) (h : RowAt w 3 1 v n xs) (h' : RowAt w 3 1 v' n xs) (hx : ∀ k, k < n → xs[k]? = some (.int .i64 (f0 k))) :
  Calls Tryz.prog 55 #[v, v'] w fun e w' => e = .returned (.bool true) ∧ Kept NoBlk w w' := by
 obtain ⟨ao, c, rfl, _, _⟩ := h.form
 obtain ⟨ao', c', rfl, _, _⟩ := h'.form
 have hne : ((n : Int) != (n : Int)) = false := by simp
 go_enter Tryz.func55, Tryz.ntmps55
 go_wp2_with fail
 go_loopw [5] (fun i wr => ∃ k nq : Nat, k ≤ n ∧ i = .int .i64 k ∧ wr = w.drewN nq) (fun i _ => n - (intOf i).toNat)
 case atStart => exact ⟨0, 0, Nat.zero_le _, rfl, rfl⟩
 case round =>
  obtain ⟨k, nq, hk, rfl, rfl⟩ := hrel
  by_cases hlt : k < n
  ·obtain ⟨b, o, rfl⟩ := h.place (by omega)
   obtain ⟨b', o', rfl⟩ := h'.place (by omega)
   have g0 : w.cell? ⟨b, o + k, none⟩ = some (.int .i64 (f0 k)) := h.cell (k) (hx k hlt)
   have k0 : w.cell? ⟨b', o' + k, none⟩ = some (.int .i64 (f0 k)) := h'.cell (k) (hx k hlt)
   have hlt' : (k : Int) < (n : Int) := by omega
   have hlt0 : (0 : Int) ≤ (k : Int) := by omega
   clear h h' hx
   generalize f0 k = x0 at *
   have e0 : (x0 != x0) = false := by simp
   go_wp2_with fail
   go_quiet (fail)
   go_wp2_with fail
   exact ⟨⟨k + 1, _, by omega, by go_num, rfl⟩, by simp [intOf]; omega⟩
  ·clear h h' hx
   go_wp2_with fail
   go_ret
   exact ⟨rfl, (Kept.refl _ _).drewN _⟩
set_option maxHeartbeats 1600000 in
theorem sameSeen_row (v v' : Value) (n : Nat) (xs : List Value) (f0 : Nat → Int) (f1 : Nat → Bool) (f2 : Nat → Int) (w : World) (hn : n ≤ 33554432) (h : RowAt w 105 3 v n xs) (h' : RowAt w 105 3 v' n xs) (hx : ∀ k, k < n → xs[k * 3]? = some (.int .i64 (f0 k)) ∧ xs[k * 3 + 1]? = some (.bool (f1 k)) ∧ xs[k * 3 + 2]? = some (.int .i64 (f2 k))) :
  Calls Tryz.prog 86 #[v, v'] w fun e w' => e = .returned (.bool true) ∧ Kept NoBlk w w' := by
 obtain ⟨ao, c, rfl, _, _⟩ := h.form
 obtain ⟨ao', c', rfl, _, _⟩ := h'.form
 have hne : ((n : Int) != (n : Int)) = false := by simp
 go_enter Tryz.func86, Tryz.ntmps86
 go_wp2_with fail
 go_loopw [5] (fun i wr => ∃ k nq : Nat, k ≤ n ∧ i = .int .i64 k ∧ wr = w.drewN nq) (fun i _ => n - (intOf i).toNat)
 case atStart => exact ⟨0, 0, Nat.zero_le _, rfl, rfl⟩
 case round =>
  obtain ⟨k, nq, hk, rfl, rfl⟩ := hrel
  by_cases hlt : k < n
  ·obtain ⟨b, o, rfl⟩ := h.place (by omega)
   obtain ⟨b', o', rfl⟩ := h'.place (by omega)
   have g0 : w.cell? ⟨b, o + k * 3, none⟩ = some (.int .i64 (f0 k)) := h.cell (k * 3) (hx k hlt).1
   have k0 : w.cell? ⟨b', o' + k * 3, none⟩ = some (.int .i64 (f0 k)) := h'.cell (k * 3) (hx k hlt).1
   have g1 : w.cell? ⟨b, o + k * 3 + 1, none⟩ = some (.bool (f1 k)) := h.cell (k * 3 + 1) (hx k hlt).2.1
   have k1 : w.cell? ⟨b', o' + k * 3 + 1, none⟩ = some (.bool (f1 k)) := h'.cell (k * 3 + 1) (hx k hlt).2.1
   have g2 : w.cell? ⟨b, o + k * 3 + 2, none⟩ = some (.int .i64 (f2 k)) := h.cell (k * 3 + 2) (hx k hlt).2.2
   have k2 : w.cell? ⟨b', o' + k * 3 + 2, none⟩ = some (.int .i64 (f2 k)) := h'.cell (k * 3 + 2) (hx k hlt).2.2
   have hlt' : (k : Int) < (n : Int) := by omega
   have hlt0 : (0 : Int) ≤ (k : Int) := by omega
   clear h h' hx
   generalize f0 k = x0 at *
   have e0 : (x0 == x0) = true := by simp
   generalize f1 k = x1 at *
   have e1 : (x1 == x1) = true := by simp
   generalize f2 k = x2 at *
   have e2 : (x2 == x2) = true := by simp
   go_wp2_with fail
   go_quiet (fail)
   go_wp2_with fail
   exact ⟨⟨k + 1, _, by omega, by go_num, rfl⟩, by simp [intOf]; omega⟩
  ·clear h h' hx
   go_wp2_with fail
   go_ret
   exact ⟨rfl, (Kept.refl _ _).drewN _⟩
set_option maxHeartbeats 1600000 in
theorem sameLocks_row (v v' : Value) (n : Nat) (xs : List Value) (f0 : Nat → Int) (f1 : Nat → Int) (w : World) (hn : n ≤ 33554432) (h : RowAt w 107 2 v n xs) (h' : RowAt w 107 2 v' n xs) (hx : ∀ k, k < n → xs[k * 2]? = some (.int .i64 (f0 k)) ∧ xs[k * 2 + 1]? = some (.int .i64 (f1 k))) :
  Calls Tryz.prog 51 #[v, v'] w fun e w' => e = .returned (.bool true) ∧ Kept NoBlk w w' := by
 obtain ⟨ao, c, rfl, _, _⟩ := h.form
 obtain ⟨ao', c', rfl, _, _⟩ := h'.form
 have hne : ((n : Int) != (n : Int)) = false := by simp
 go_enter Tryz.func51, Tryz.ntmps51
 go_wp2_with fail
 go_loopw [5] (fun i wr => ∃ k nq : Nat, k ≤ n ∧ i = .int .i64 k ∧ wr = w.drewN nq) (fun i _ => n - (intOf i).toNat)
 case atStart => exact ⟨0, 0, Nat.zero_le _, rfl, rfl⟩
 case round =>
  obtain ⟨k, nq, hk, rfl, rfl⟩ := hrel
  by_cases hlt : k < n
  ·obtain ⟨b, o, rfl⟩ := h.place (by omega)
   obtain ⟨b', o', rfl⟩ := h'.place (by omega)
   have g0 : w.cell? ⟨b, o + k * 2, none⟩ = some (.int .i64 (f0 k)) := h.cell (k * 2) (hx k hlt).1
   have k0 : w.cell? ⟨b', o' + k * 2, none⟩ = some (.int .i64 (f0 k)) := h'.cell (k * 2) (hx k hlt).1
   have g1 : w.cell? ⟨b, o + k * 2 + 1, none⟩ = some (.int .i64 (f1 k)) := h.cell (k * 2 + 1) (hx k hlt).2
   have k1 : w.cell? ⟨b', o' + k * 2 + 1, none⟩ = some (.int .i64 (f1 k)) := h'.cell (k * 2 + 1) (hx k hlt).2
   have hlt' : (k : Int) < (n : Int) := by omega
   have hlt0 : (0 : Int) ≤ (k : Int) := by omega
   clear h h' hx
   generalize f0 k = x0 at *
   have e0 : (x0 == x0) = true := by simp
   generalize f1 k = x1 at *
   have e1 : (x1 == x1) = true := by simp
   go_wp2_with fail
   go_quiet (fail)
   go_wp2_with fail
   exact ⟨⟨k + 1, _, by omega, by go_num, rfl⟩, by simp [intOf]; omega⟩
  ·clear h h' hx
   go_wp2_with fail
   go_ret
   exact ⟨rfl, (Kept.refl _ _).drewN _⟩
set_option maxHeartbeats 1600000 in
theorem sameRows_row (v v' : Value) (n : Nat) (xs : List Value) (f0 : Nat → Int) (f1 : Nat → Int) (w : World) (hn : n ≤ 33554432) (h : RowAt w 95 2 v n xs) (h' : RowAt w 95 2 v' n xs) (hx : ∀ k, k < n → xs[k * 2]? = some (.int .i64 (f0 k)) ∧ xs[k * 2 + 1]? = some (.int .i64 (f1 k))) :
  Calls Tryz.prog 53 #[v, v'] w fun e w' => e = .returned (.bool true) ∧ Kept NoBlk w w' := by
 obtain ⟨ao, c, rfl, _, _⟩ := h.form
 obtain ⟨ao', c', rfl, _, _⟩ := h'.form
 have hne : ((n : Int) != (n : Int)) = false := by simp
 go_enter Tryz.func53, Tryz.ntmps53
 go_wp2_with fail
 go_loopw [5] (fun i wr => ∃ k nq : Nat, k ≤ n ∧ i = .int .i64 k ∧ wr = w.drewN nq) (fun i _ => n - (intOf i).toNat)
 case atStart => exact ⟨0, 0, Nat.zero_le _, rfl, rfl⟩
 case round =>
  obtain ⟨k, nq, hk, rfl, rfl⟩ := hrel
  by_cases hlt : k < n
  ·obtain ⟨b, o, rfl⟩ := h.place (by omega)
   obtain ⟨b', o', rfl⟩ := h'.place (by omega)
   have g0 : w.cell? ⟨b, o + k * 2, none⟩ = some (.int .i64 (f0 k)) := h.cell (k * 2) (hx k hlt).1
   have k0 : w.cell? ⟨b', o' + k * 2, none⟩ = some (.int .i64 (f0 k)) := h'.cell (k * 2) (hx k hlt).1
   have g1 : w.cell? ⟨b, o + k * 2 + 1, none⟩ = some (.int .i64 (f1 k)) := h.cell (k * 2 + 1) (hx k hlt).2
   have k1 : w.cell? ⟨b', o' + k * 2 + 1, none⟩ = some (.int .i64 (f1 k)) := h'.cell (k * 2 + 1) (hx k hlt).2
   have hlt' : (k : Int) < (n : Int) := by omega
   have hlt0 : (0 : Int) ≤ (k : Int) := by omega
   clear h h' hx
   generalize f0 k = x0 at *
   have e0 : (x0 == x0) = true := by simp
   generalize f1 k = x1 at *
   have e1 : (x1 == x1) = true := by simp
   go_wp2_with fail
   go_quiet (fail)
   go_wp2_with fail
   exact ⟨⟨k + 1, _, by omega, by go_num, rfl⟩, by simp [intOf]; omega⟩
  ·clear h h' hx
   go_wp2_with fail
   go_ret
   exact ⟨rfl, (Kept.refl _ _).drewN _⟩
end Go.Proofs.YtmcajfefagdbnaaGreat
namespace Go.Proofs.YtmcajfefagdbnaaGreat
open Go Go.RowKit Go.Sort Go.Lib
def hvals (H : Int × Int → Option Int) : Int × Int → Option Value := fun k => (H k).map (Value.int .i64)
def Got (H : Int × Int → Option Int) (row : Int) (left : Int × Int → Bool) (l : List (Int × Int)) : Prop :=
 (l.map Prod.fst).Nodup ∧ ∀ t md, (t, md) ∈ l ↔ H (row, t) = some md ∧ left (row, t) = false
theorem Got.start (H : Int × Int → Option Int) (row : Int) : Got H row (fun a => (hvals H a).isSome) [] := by
 refine ⟨by simp, fun t md => ?_⟩
 simp only [List.not_mem_nil, false_iff, not_and, hvals, Option.isSome_map]
 intro h
 simp [h]
theorem Got.other {H : Int × Int → Option Int} {row : Int} {left : Int × Int → Bool} {l : List (Int × Int)} (h : Got H row left l) {a : Int × Int} (ha : a.1 ≠ row) : Got H row (fun c => left c && !decide (c = a)) l := by
 refine ⟨h.1, fun t md => ?_⟩
 rw [h.2 t md]
 have : (row, t) ≠ a := fun e => ha (by rw [← e])
 simp [this]
theorem Got.more {H : Int × Int → Option Int} {row : Int} {left : Int × Int → Bool} {l : List (Int × Int)} (h : Got H row left l) {t0 md0 : Int} (hl : left (row, t0) = true) (hH : H (row, t0) = some md0) : Got H row (fun c => left c && !decide (c = (row, t0))) (l ++ [(t0, md0)]) := by
 refine ⟨?_, fun t md => ?_⟩
 ·rw [List.map_append, List.nodup_append]
  refine ⟨h.1, by simp, ?_⟩
  intro a ha b hb e
  simp at hb
  subst hb
  subst e
  obtain ⟨x, hx, rfl⟩ := List.mem_map.1 ha
  have := ((h.2 x.1 x.2).1 hx).2
  rw [hl] at this
  cases this
 ·rw [List.mem_append, h.2 t md]
  simp only [List.mem_singleton, Prod.mk.injEq, Bool.and_eq_false_iff, Bool.not_eq_false', decide_eq_true_eq, true_and]
  constructor
  ·rintro (⟨h1, h2⟩ | ⟨rfl, rfl⟩)
   ·exact ⟨h1, .inl h2⟩
   ·exact ⟨hH, .inr rfl⟩
  ·rintro ⟨h1, h2 | rfl⟩
   ·exact .inl ⟨h1, h2⟩
   ·rw [hH] at h1
    cases h1
    exact .inr ⟨rfl, rfl⟩
def HoldsL (H : Int × Int → Option Int) (row : Int) (l : List (Int × Int)) : Prop := l.Pairwise (fun x y => x.1 < y.1) ∧ ∀ t md, (t, md) ∈ l ↔ H (row, t) = some md
theorem Got.sorted {H : Int × Int → Option Int} {row : Int} {left : Int × Int → Bool} {l l' : List (Int × Int)} (h : Got H row left l) (hlf : ∀ a, keyH.ok a → left a = false) (hok : ∀ a, (H a).isSome = true → keyH.ok a) (hp : l'.Perm l) (hs : l'.Pairwise (fun x y => x.1 ≤ y.1)) : HoldsL H row l' := by
 have hn : (l'.map Prod.fst).Nodup := ((hp.map Prod.fst).nodup_iff).2 h.1
 refine ⟨?_, fun t md => ?_⟩
 ·have hn' : l'.Pairwise (fun x y => x.1 ≠ y.1) := by rw [List.Nodup, List.pairwise_map] at hn; exact hn
  exact (hs.and hn').imp (fun {x y} h => by have := h.1; have := h.2; omega)
 ·rw [hp.mem_iff, h.2 t md]
  constructor
  ·exact fun x => x.1
  ·exact fun x => ⟨x, hlf _ (hok _ (by rw [x]; rfl))⟩
theorem Got.few {H : Int × Int → Option Int} {row : Int} {left : Int × Int → Bool} {l : List (Int × Int)} (h : Got H row left l) (hfew : ∀ l : List Int, l.Nodup → (∀ t ∈ l, (H (row, t)).isSome = true) → l.length ≤ 12) : l.length ≤ 12 := by
 have := hfew (l.map Prod.fst) h.1 (fun t ht => by
  obtain ⟨x, hx, rfl⟩ := List.mem_map.1 ht
  rw [((h.2 x.1 x.2).1 hx).1]
  rfl)
 simpa using this
theorem lkc_snoc (l : List (Int × Int)) (t md : Int) : lkc (l ++ [(t, md)]) = lkc l ++ [.int .i64 t, .int .i64 md] := by simp [lkc]
theorem from_new2 (w : World) (x y : Value) (ty : TypeId) (h1 : x.oneCell' = true) (h2 : y.oneCell' = true) : FromMem (w.alloc (.cells #[x, y] ty)) 2 (.slice (some ⟨w.heap.size, 0, none⟩) 1 1) 1 [x, y] := by
 refine ⟨⟨_, 1, rfl, fun h => by simp at h, ?_⟩, rfl, fun u hu => by simp at hu; rcases hu with rfl | rfl <;> assumption⟩
 intro ad had j u hu
 obtain rfl := Option.some.inj had
 match j, hu with
 | 0, hu => simp at hu; subst hu; rw [Addr.add_lit, cell_at (block_alloc_new w _)]; rfl
 | 1, hu => simp at hu; subst hu; rw [Addr.add_lit, cell_at (block_alloc_new w _)]; rfl
 | j + 2, hu => simp at hu
theorem from_new2' (w : World) (o : Obj) (x y : Value) (ty : TypeId) (h1 : x.oneCell' = true) (h2 : y.oneCell' = true) : FromMem ((w.alloc o).alloc (.cells #[x, y] ty)) 2 (.slice (some ⟨w.heap.size + 1, 0, none⟩) 1 1) 1 [x, y] := by
 have := from_new2 (w.alloc o) x y ty h1 h2
 rw [alloc_size] at this
 exact this
theorem infoLk : (Tryz.prog.info? 107).map (fun i => (i.zero, i.size, i.bytes)) = some (some (.agg #[.int .i64 0, .int .i64 0]), 2, 16) := by kernel_rfl
set_option maxHeartbeats 3200000 in
set_option maxRecDepth 20000 in
theorem holders_any (p hb m : Nat) (row : Int) (H : Int × Int → Option Int) (w : World) (hp : w.cell? ⟨p, 6, none⟩ = some (.map (some hb))) (hm : MapAt keyH w hb m (hvals H)) (hr : inI row)
  (hok : ∀ a, (H a).isSome = true → keyH.ok a) (hfew : ∀ l : List Int, l.Nodup → (∀ t ∈ l, (H (row, t)).isSome = true) → l.length ≤ 12) :
  Calls Tryz.prog 66 #[.pointer (some ⟨p, 0, none⟩), .int .i64 row] w fun e w' => ∃ v l, e = .returned v ∧ w'.ownsRow 0 107 2 v l.length (lkc l) ∧ (∀ b, v.ownBlock = some b → w.heap.size ≤ b) ∧ HoldsL H row l ∧ Kept NoBlk w w' := by
 have hpl := World.block_lt_of_cell? w _ hp
 obtain ⟨w1, cnt, hrun, hR, hk1, hsz1, hcnt⟩ := hm.range Tryz.underlying124
 have HR : Hid _ := hR
 have HK1 : Hid _ := hk1
 have HHB : Hid (hb < w.heap.size) := hm.lt
 have HOK : Hid _ := hok
 have HFEW : Hid _ := hfew
 obtain ⟨i1, hi1, hy0, hy1, hy2⟩ := info_parts infoLk
 have HI : Hid (Tryz.prog.info? 107 = some i1 ∧ i1.zero = some (.agg #[.int .i64 0, .int .i64 0]) ∧ i1.size = 2 ∧ i1.bytes = 16) := ⟨hi1, hy0, hy1, hy2⟩
 clear hR hk1 hm hok hfew hi1 hy0 hy1 hy2
 go_enter Tryz.func66, Tryz.ntmps66
 go_wp2_with fail
 go_loopw [5] (fun v wr => ∃ (l : List (Int × Int)) (ao : Option Addr) (c : Nat) (left : Int × Int → Bool) (cnt : Nat), v = .slice ao l.length c ∧ wr.ownsRow 0 107 2 (.slice ao l.length c) l.length (lkc l) ∧ (∀ b, (Value.slice ao l.length c).ownBlock = some b → w.heap.size < b) ∧
  RangeAt keyH wr hb w.heap.size m (hvals H) left cnt ∧ Got H row left l ∧ Kept NoBlk w wr) (fun _ wr => wr.rangeLeft hb w.heap.size)
 case atStart => exact ⟨[], none, 0, _, cnt, rfl, World.ownsRow_nil _ _ _ _, fun b hb => by simp [Value.ownBlock] at hb, HR.out, Got.start H row, HK1.out⟩
 case round =>
  obtain ⟨l, ao, c, left, cnt', rfl, hown, hbl, hrg, hgot, hkw⟩ := hrel
  have hleft := hrg.left_eq
  have hmap := hrg.map
  rcases hrg.next 0 with ⟨h0, hlf, hnx⟩ | ⟨a, v, w2, cnt2, ha, hla, hga, hnx, hrg2, hlt, hk2, hsz2, hen⟩
  ·have HL : Hid _ := hlf
   have HG : Hid (Got H row left l) := hgot
   have HO : Hid (wr.ownsRow 0 107 2 (.slice ao l.length c) l.length (lkc l)) := hown
   have HB : Hid _ := hbl
   have HKW : Hid _ := hkw
   clear hlf hgot hown hbl hkw hleft hmap hrg HR HK1
   go_wp2_with fail
   refine (sortLocks _ l.length l wr HO.out (Got.few HG.out HFEW.out)).mono ?_
   rintro e w' ⟨l', rfl, hperm, hsort, hown', hk'⟩
   have HF : Hid (HoldsL H row l') := Got.sorted HG.out HL.out HOK.out hperm hsort
   have HFX : True := trivial
   have HO' : Hid (w'.ownsRow 0 107 2 (.slice ao l.length c) l.length (lkc l')) := hown'
   have HK' : Hid _ := hk'
   have HLN : Hid (l.length = l'.length) := hperm.length_eq.symm
   clear hperm hsort hown' hk'
   go_wp2_with fail
   go_ret
   refine ⟨_, l', rfl, ?_, fun b hb => Nat.le_of_lt (HB.out b hb), HF.out, HKW.out.trans HK'.out (fun k hk => .inr (Nat.le_of_lt (HB.out k hk)))⟩
   have := HO'.out
   rw [HLN.out] at this ⊢
   exact this
  ·obtain ⟨r0, t0⟩ := a
   obtain ⟨md, hmd, rfl⟩ : ∃ md, H (r0, t0) = some md ∧ v = .int .i64 md := by
    simp only [hvals] at hga
    cases hH : H (r0, t0) with
    | none => rw [hH] at hga; cases hga
    | some md => rw [hH] at hga; exact ⟨md, rfl, by cases hga; rfl⟩
   have hnx' : (Instr.next (.pointer (some ⟨w.heap.size, 0, none⟩)) false 0).run Tryz.prog wr = .ok (.tuple #[.bool true, .agg #[.int .i64 r0, .int .i64 t0], .int .i64 md]) w2 := hnx
   have hen' : (Instr.entry (.pointer (some ⟨w.heap.size, 0, none⟩))).run Tryz.prog w2 = .ok (.tuple #[.agg #[.int .i64 r0, .int .i64 t0], .int .i64 md]) w2 := hen
   have hkw2 : Kept NoBlk w w2 := hkw.trans hk2 (fun k hk => .inr (by cases hk; exact Nat.le_refl _))
   have hown2 : w2.ownsRow 0 107 2 (.slice ao l.length c) l.length (lkc l) := ownsRow_kept hown hk2 (fun k hk e => by have := hbl k hk; unfold Blk at e; omega)
   have HMD : Hid _ := hmd
   have HLA : Hid _ := hla
   have HRG : Hid (RangeAt keyH w2 hb w.heap.size m (hvals H) (fun c => left c && !decide (c = (r0, t0))) cnt2) := hrg2
   have HLT : Hid (cnt2 < wr.rangeLeft hb w.heap.size) := by rw [hleft]; exact hlt
   have HG : Hid (Got H row left l) := hgot
   have HO : Hid (w2.ownsRow 0 107 2 (.slice ao l.length c) l.length (lkc l)) := hown2
   have HB : Hid _ := hbl
   have HKW : Hid _ := hkw2
   have HWS : Hid (w.heap.size < w2.heap.size) := hrg2.lt.1
   clear hnx hen hkw2 hown2 hown hbl hrg hgot hkw hleft hmap hla hga hrg2 hlt hk2 hsz2 hmd ha HR HK1
   by_cases hrow : r0 = row
   ·subst hrow
    have HB0 : Hid (l.length + 1 ≤ maxLen) := by have := Got.few HG.out HFEW.out; unfold Hid maxLen; omega
    have HB1 : Hid ((l.length + 1) * 16 ≤ 140737488355328) := by have := Got.few HG.out HFEW.out; unfold Hid; omega
    go_wp2_with (at_builtin; refine wpList_append_at (by rfl) _ _ 74 (by rfl) 107 i1 _ 2 16 Tryz.underlying74 HI.out.1 HI.out.2.1 HI.out.2.2.1 HI.out.2.2.2 (by rfl) (.slice ao l.length c) l.length (lkc l) (by rfl) (ownsRow_kept HO.out (((Kept.refl NoBlk w2).alloc _).alloc _) (fun _ _ x => x)) (.slice (some ⟨w2.heap.size + 1, 0, none⟩) 1 1) 1 [.int .i64 t0, .int .i64 md] (by rfl) (from_new2' w2 _ _ _ _ rfl rfl) HB0.out HB1.out ?_; intro ao' c' w3 hown3 hmv3)
    have hka : Kept NoBlk w2 ((w2.alloc (Obj.cells #[Value.int IntKind.i64 r0, Value.int IntKind.i64 t0] 168)).alloc (Obj.cells #[Value.int IntKind.i64 t0, Value.int IntKind.i64 md] 107)) := ((Kept.refl _ _).alloc _).alloc _
    have hkb := hmv3.keptOf
    have hnb : ∀ k, k ≤ w.heap.size → ¬ (Value.slice ao l.length c).ownBlock = some k := fun k hk e => by have := HB.out k e; omega
    have hrg3 := (RangeAt.kept HRG.out hka (fun x => x) (fun x => x)).kept hkb (hnb _ (Nat.le_of_lt HHB.out)) (hnb _ (Nat.le_refl _))
    refine ⟨⟨l ++ [(t0, md)], ao', c', _, cnt2, ?_, ?_, ?_, hrg3, Got.more HG.out HLA.out HMD.out, ?_⟩, ?_⟩
    ·simp
    ·rw [lkc_snoc]; simpa using hown3
    ·intro b hb
     have : (Value.slice ao' (l.length + 1) c').ownBlock = some b := by simpa [Value.ownBlock] using hb
     rcases hmv3.fresh b this with h | h
     ·exact HB.out b h
     ·have := HWS.out
      have h5 := hka.size
      omega
    ·exact (HKW.out.trans' hka).trans hkb (fun k hk => .inr (Nat.le_of_lt (HB.out k hk)))
    ·rw [hrg3.left_eq]; exact HLT.out
   ·go_wp2_with fail
    have hka : Kept NoBlk w2 (w2.alloc (Obj.cells #[Value.int IntKind.i64 r0, Value.int IntKind.i64 t0] 168)) := (Kept.refl _ _).alloc _
    have hrg3 := RangeAt.kept HRG.out hka (fun x => x) (fun x => x)
    exact ⟨⟨l, ao, c, _, cnt2, rfl, ownsRow_kept HO.out hka (fun _ _ x => x), HB.out, hrg3, Got.other HG.out hrow, HKW.out.trans' hka⟩, by rw [hrg3.left_eq]; exact HLT.out⟩
end Go.Proofs.YtmcajfefagdbnaaGreat
