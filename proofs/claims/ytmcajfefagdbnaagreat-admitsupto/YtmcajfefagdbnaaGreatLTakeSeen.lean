import Derived.Test.YtmcajfefagdbnaaGreatLTake
namespace Go.Proofs.YtmcajfefagdbnaaGreat
open Go Go.RowKit

set_option maxRecDepth 100000 in
set_option maxHeartbeats 3200000 in
theorem takeSeen_none (o N : Nat) (ao : Option Addr) (vs : List Value) (v0 iv v2 v3 : Value) (w : World) (hN : N ≤ 16777216)
    (ho : w.heap[o]? = some (.cells #[v0, iv, v2, v3] 30 (0, 0))) (hv : w.ownsRow 0 105 3 (.slice ao 0 0) 0 []) (hiv : w.ownsRow 0 61 1 iv N vs) :
    Calls Tryz.prog 49 #[.pointer (some ⟨o, 0, none⟩), .slice ao 0 0] w fun e w' => e = .returned (.tuple #[]) ∧
      ∃ iv' a1 c1 a2 c2 a3 c3, w'.heap[o]? = some (.cells #[v0, iv', v2, v3] 30 (0, 0)) ∧
        w'.ownsRow 0 61 1 iv' (N + 4) (vs ++ [.slice ao 0 0, .slice a1 1 c1, .slice a2 2 c2, .slice a3 3 c3]) ∧
        w'.ownsRow 0 105 3 (.slice a1 1 c1) 1 [.int .i64 (mark N), .bool false, .int .i64 0] ∧
        w'.ownsRow 0 105 3 (.slice a2 2 c2) 2 [.int .i64 (mark N), .bool false, .int .i64 0, .int .i64 (mark N), .bool false, .int .i64 0] ∧
        w'.ownsRow 0 105 3 (.slice a3 3 c3) 3 [.int .i64 (mark N), .bool false, .int .i64 0, .int .i64 (mark N), .bool false, .int .i64 0, .int .i64 (mark N), .bool false, .int .i64 0] ∧
        (∀ k, (Value.slice a1 1 c1).ownBlock = some k ∨ (Value.slice a2 2 c2).ownBlock = some k ∨ (Value.slice a3 3 c3).ownBlock = some k → w.heap.size ≤ k) ∧ (∀ k, iv'.ownBlock = some k → iv.ownBlock = some k ∨ w.heap.size ≤ k) ∧
        Kept (fun k => k = o ∨ iv.ownBlock = some k) w w' := by
  have c0 : w.cell? ⟨o, 1, none⟩ = some iv := by rw [cell_at ho]; rfl
  have hol := lt_of_block ho
  obtain ⟨ia, ic, rfl⟩ := ownsRow_form hiv
  have HO : Hid _ := ho
  have HV : Hid (w.ownsRow 0 105 3 (.slice ao 0 0) 0 []) := hv
  have HI : Hid (w.ownsRow 0 61 1 (.slice ia N ic) N vs) := hiv
  clear ho hv hiv
  go_enter Tryz.func49, Tryz.ntmps49
  go_wp2_with fail
  generalize hm : (-1000 - (N : Int) / 4) = mk at *
  have HM : Hid _ := hm
  have HB0 : Hid ((w.alloc (.cells #[.int .i64 mk, .bool false, .int .i64 0] 105)).heap[w.heap.size]? = some (.cells #[.int .i64 mk, .bool false, .int .i64 0] 105 (0, 0))) := block_alloc_new w _
  have HKW0 : Hid (Kept NoBlk w (w.alloc (.cells #[.int .i64 mk, .bool false, .int .i64 0] 105))) := (Kept.refl _ _).alloc _
  clear hm c0
  generalize w.alloc (.cells #[.int .i64 mk, .bool false, .int .i64 0] 105) = W0 at *
  generalize hH : w.heap.size = H at HB0 ⊢
  have HH : Hid _ := hH
  clear hH
  have m0 : W0.cell? ⟨H, 0, none⟩ = some (.int .i64 mk) := by rw [cell_at HB0.out]; rfl
  have m1 : W0.cell? ⟨H, 1, none⟩ = some (.bool false) := by rw [cell_at HB0.out]; rfl
  have m2 : W0.cell? ⟨H, 2, none⟩ = some (.int .i64 0) := by rw [cell_at HB0.out]; rfl
  go_loop [5] (fun i => i = .int .i64 0) (fun _ => 0)
  case atStart => rfl
  case round =>
      subst hrel
      obtain ⟨i0, hi0, hz0, hz1, hz2⟩ := info_parts infoSeen
      have HI0 : Hid (Tryz.prog.info? 105 = some i0 ∧ i0.zero = some (.agg #[.int .i64 0, .bool false, .int .i64 0]) ∧ i0.size = 3 ∧ i0.bytes = 24) := ⟨hi0, hz0, hz1, hz2⟩
      clear hi0 hz0 hz1 hz2
      have HW0 : Hid (W0.ownsRow 0 105 3 (.slice ao 0 0) 0 []) := ownsRow_kept HV.out HKW0.out (fun _ _ x => x)
      go_wp2_with (at_builtin; refine wpList_append_at (by rfl) _ _ 61 (by rfl) 105 i0 _ 3 24 Tryz.underlying61 HI0.out.1 HI0.out.2.1 HI0.out.2.2.1 HI0.out.2.2.2 (by rfl) (.slice ao 0 0) 0 [] (by rfl) (ownsRow_kept HW0.out ((Kept.refl NoBlk W0).alloc _) (fun _ _ x => x)) (.slice (some ⟨W0.heap.size, 0, none⟩) 1 1) 1 [.int .i64 mk, .bool false, .int .i64 0] (by rfl) (from_new W0 [.int .i64 mk, .bool false, .int .i64 0] _ 3 1 (by rfl) (by simp [Value.oneCell'])) (by unfold maxLen; omega) (by omega) ?_)
      intro a1 c1 W1 hown1 hmv1
      obtain ⟨hb1, hk1⟩ := hmv1.grew (by simp [capOf])
      have hK1 : Kept NoBlk W0 W1 := ((Kept.refl NoBlk W0).alloc _).trans' hk1
      have HW1 : Hid (W1.ownsRow 0 105 3 (.slice ao 0 0) 0 []) := ownsRow_kept HW0.out hK1 (fun _ _ x => x)
      have HX1 : Hid (W1.ownsRow 0 105 3 (.slice a1 1 c1) 1 [.int .i64 mk, .bool false, .int .i64 0]) := hown1
      have HF1 : Hid (∀ b, (Value.slice a1 1 c1).ownBlock = some b → w.heap.size ≤ b) := by
        intro b hb
        rw [hb] at hb1
        cases hb1
        have := HKW0.out.size
        have := ((Kept.refl NoBlk W0).alloc (.cells #[.int .i64 mk, .bool false, .int .i64 0] 105)).size
        exact Nat.le_trans ‹_› ‹_›
      have HKW1 : Hid (Kept NoBlk w W1) := HKW0.out.trans' hK1
      have HB1 : Hid (W1.heap[H]? = some (.cells #[.int .i64 mk, .bool false, .int .i64 0] 105 (0, 0))) := hK1.heap HB0.out (fun x => x)
      have m0' : W1.cell? ⟨H, 0, none⟩ = some (.int .i64 mk) := by rw [cell_at HB1.out]; rfl
      have m1' : W1.cell? ⟨H, 1, none⟩ = some (.bool false) := by rw [cell_at HB1.out]; rfl
      have m2' : W1.cell? ⟨H, 2, none⟩ = some (.int .i64 0) := by rw [cell_at HB1.out]; rfl
      clear hown1 hmv1 hb1 hk1 hK1
      go_wp2_with (at_builtin; refine wpList_append_at (by rfl) _ _ 61 (by rfl) 105 i0 _ 3 24 Tryz.underlying61 HI0.out.1 HI0.out.2.1 HI0.out.2.2.1 HI0.out.2.2.2 (by rfl) (.slice ao 0 0) 0 [] (by rfl) (ownsRow_kept HW1.out ((Kept.refl NoBlk W1).alloc _) (fun _ _ x => x)) (.slice (some ⟨W1.heap.size, 0, none⟩) 2 2) 2 [.int .i64 mk, .bool false, .int .i64 0, .int .i64 mk, .bool false, .int .i64 0] (by rfl) (from_new W1 [.int .i64 mk, .bool false, .int .i64 0, .int .i64 mk, .bool false, .int .i64 0] _ 3 2 (by rfl) (by simp [Value.oneCell'])) (by unfold maxLen; omega) (by omega) ?_)
      intro a2 c2 W2 hown2 hmv2
      obtain ⟨hb2, hk2⟩ := hmv2.grew (by simp [capOf])
      have hK2 : Kept NoBlk W1 W2 := ((Kept.refl NoBlk W1).alloc _).trans' hk2
      have HW2 : Hid (W2.ownsRow 0 105 3 (.slice ao 0 0) 0 []) := ownsRow_kept HW1.out hK2 (fun _ _ x => x)
      have HX2 : Hid (W2.ownsRow 0 105 3 (.slice a2 2 c2) 2 [.int .i64 mk, .bool false, .int .i64 0, .int .i64 mk, .bool false, .int .i64 0]) := hown2
      have HF2 : Hid (∀ b, (Value.slice a2 2 c2).ownBlock = some b → w.heap.size ≤ b) := by
        intro b hb
        rw [hb] at hb2
        cases hb2
        have := HKW1.out.size
        have := ((Kept.refl NoBlk W1).alloc (.cells #[.int .i64 mk, .bool false, .int .i64 0, .int .i64 mk, .bool false, .int .i64 0] 105)).size
        exact Nat.le_trans ‹_› ‹_›
      have HKW2 : Hid (Kept NoBlk w W2) := HKW1.out.trans' hK2
      have HB2 : Hid (W2.heap[H]? = some (.cells #[.int .i64 mk, .bool false, .int .i64 0] 105 (0, 0))) := hK2.heap HB1.out (fun x => x)
      have m0'' : W2.cell? ⟨H, 0, none⟩ = some (.int .i64 mk) := by rw [cell_at HB2.out]; rfl
      have m1'' : W2.cell? ⟨H, 1, none⟩ = some (.bool false) := by rw [cell_at HB2.out]; rfl
      have m2'' : W2.cell? ⟨H, 2, none⟩ = some (.int .i64 0) := by rw [cell_at HB2.out]; rfl
      have HX1' : Hid (W2.ownsRow 0 105 3 (.slice a1 1 c1) 1 [.int .i64 mk, .bool false, .int .i64 0]) := ownsRow_kept HX1.out hK2 (fun _ _ x => x)
      clear hown2 hmv2 hb2 hk2 hK2
      go_wp2_with (at_builtin; refine wpList_append_at (by rfl) _ _ 61 (by rfl) 105 i0 _ 3 24 Tryz.underlying61 HI0.out.1 HI0.out.2.1 HI0.out.2.2.1 HI0.out.2.2.2 (by rfl) (.slice ao 0 0) 0 [] (by rfl) (ownsRow_kept HW2.out ((Kept.refl NoBlk W2).alloc _) (fun _ _ x => x)) (.slice (some ⟨W2.heap.size, 0, none⟩) 3 3) 3 [.int .i64 mk, .bool false, .int .i64 0, .int .i64 mk, .bool false, .int .i64 0, .int .i64 mk, .bool false, .int .i64 0] (by rfl) (from_new W2 [.int .i64 mk, .bool false, .int .i64 0, .int .i64 mk, .bool false, .int .i64 0, .int .i64 mk, .bool false, .int .i64 0] _ 3 3 (by rfl) (by simp [Value.oneCell'])) (by unfold maxLen; omega) (by omega) ?_)
      intro a3 c3 W3 hown3 hmv3
      obtain ⟨hb3, hk3⟩ := hmv3.grew (by simp [capOf])
      have hK3 : Kept NoBlk W2 W3 := ((Kept.refl NoBlk W2).alloc _).trans' hk3
      have HW3 : Hid (W3.ownsRow 0 105 3 (.slice ao 0 0) 0 []) := ownsRow_kept HW2.out hK3 (fun _ _ x => x)
      have HX3 : Hid (W3.ownsRow 0 105 3 (.slice a3 3 c3) 3 [.int .i64 mk, .bool false, .int .i64 0, .int .i64 mk, .bool false, .int .i64 0, .int .i64 mk, .bool false, .int .i64 0]) := hown3
      have HF3 : Hid (∀ b, (Value.slice a3 3 c3).ownBlock = some b → w.heap.size ≤ b) := by
        intro b hb
        rw [hb] at hb3
        cases hb3
        have := HKW2.out.size
        have := ((Kept.refl NoBlk W2).alloc (.cells #[.int .i64 mk, .bool false, .int .i64 0, .int .i64 mk, .bool false, .int .i64 0, .int .i64 mk, .bool false, .int .i64 0] 105)).size
        exact Nat.le_trans ‹_› ‹_›
      have HKW3 : Hid (Kept NoBlk w W3) := HKW2.out.trans' hK3
      have HB3 : Hid (W3.heap[H]? = some (.cells #[.int .i64 mk, .bool false, .int .i64 0] 105 (0, 0))) := hK3.heap HB2.out (fun x => x)
      have m0c : W3.cell? ⟨H, 0, none⟩ = some (.int .i64 mk) := by rw [cell_at HB3.out]; rfl
      have m1c : W3.cell? ⟨H, 1, none⟩ = some (.bool false) := by rw [cell_at HB3.out]; rfl
      have m2c : W3.cell? ⟨H, 2, none⟩ = some (.int .i64 0) := by rw [cell_at HB3.out]; rfl
      have HX1'' : Hid (W3.ownsRow 0 105 3 (.slice a1 1 c1) 1 [.int .i64 mk, .bool false, .int .i64 0]) := ownsRow_kept HX1'.out hK3 (fun _ _ x => x)
      have HX2' : Hid (W3.ownsRow 0 105 3 (.slice a2 2 c2) 2 [.int .i64 mk, .bool false, .int .i64 0, .int .i64 mk, .bool false, .int .i64 0]) := ownsRow_kept HX2.out hK3 (fun _ _ x => x)
      clear hown3 hmv3 hb3 hk3 hK3
      have hio : ∀ b, (Value.slice ia N ic).ownBlock = some b → b ≠ o := fun b hb e => by
        obtain ⟨cur', hcur'⟩ := ownsRow_block HI.out hb
        exact blocks_apart hcur' HO.out (by decide) e
      have hO3 := HKW3.out.heap HO.out (fun x => x)
      have HO3 : Hid _ := hO3
      have HI3 : Hid (W3.ownsRow 0 61 1 (.slice ia N ic) N vs) := ownsRow_kept HI.out HKW3.out (fun _ _ x => x)
      have c0 : W3.cell? ⟨o, 1, none⟩ = some (.slice ia N ic) := by rw [cell_at hO3]; rfl
      obtain ⟨i1, hi1, hy0, hy1, hy2⟩ := info_parts infoLS
      have HI1 : Hid (Tryz.prog.info? 61 = some i1 ∧ i1.zero = some (.slice none 0 0) ∧ i1.size = 1 ∧ i1.bytes = 24) := ⟨hi1, hy0, hy1, hy2⟩
      have HB4 : Hid ((N + 4) * 24 ≤ 140737488355328) := by unfold Hid; omega
      have HM4 : Hid (N + 4 ≤ maxLen) := by unfold Hid maxLen; omega
      have HIO : Hid _ := hio
      clear hi1 hy0 hy1 hy2 hO3 hio m0 m1 m2 m0' m1' m2' m0'' m1'' m2'' m0c m1c m2c
      go_wp2_with (at_builtin; refine wpList_append_at (by rfl) _ _ 26 (by rfl) 61 i1 _ 1 24 Tryz.underlying26 HI1.out.1 HI1.out.2.1 HI1.out.2.2.1 HI1.out.2.2.2 (by rfl) (.slice ia N ic) N vs (by rfl) (ownsRow_kept HI3.out ((Kept.refl NoBlk W3).alloc _) (fun _ _ x => x)) (.slice (some ⟨W3.heap.size, 0, none⟩) 4 4) 4 [.slice ao 0 0, .slice a1 1 c1, .slice a2 2 c2, .slice a3 3 c3] (by rfl) (from_new W3 [.slice ao 0 0, .slice a1 1 c1, .slice a2 2 c2, .slice a3 3 c3] _ 1 4 (by rfl) (by simp [Value.oneCell'])) HM4.out HB4.out ?_)
      intro a4 c4 W4 hown4 hmv4
      have hk4 := hmv4.keptOf
      have hn4 := hmv4.fresh
      have hs4 : W3.heap.size ≤ (W3.alloc (.cells #[.slice ao 0 0, .slice a1 1 c1, .slice a2 2 c2, .slice a3 3 c3] 61)).heap.size := ((Kept.refl NoBlk W3).alloc _).size
      have hK4 : Kept (fun b => (Value.slice ia N ic).ownBlock = some b) W3 W4 := (((Kept.refl NoBlk W3).alloc _).mono (fun _ x => x.elim)).trans' hk4
      have hsw : w.heap.size ≤ W3.heap.size := HKW3.out.size
      have hil := ownsRow_lt HI.out
      have hO4 := hK4.heap HO3.out (fun e => HIO.out o e rfl)
      have d0 : W4.cell? ⟨o, 1, none⟩ = some (.slice ia N ic) := by rw [cell_at hO4]; rfl
      have df : W4.frozen? ⟨o, 1, none⟩ = false := frozen_at hO4 _
      have hX1 := ownsRow_kept HX1''.out hK4 (fun b hb e => by have := HF1.out b hb; have := hil b e; omega)
      have hX2 := ownsRow_kept HX2'.out hK4 (fun b hb e => by have := HF2.out b hb; have := hil b e; omega)
      have hX3 := ownsRow_kept HX3.out hK4 (fun b hb e => by have := HF3.out b hb; have := hil b e; omega)
      have hKw : Kept (fun b => b = o ∨ (Value.slice ia N ic).ownBlock = some b) w W4 := (HKW3.out.mono (fun b x => x.elim)).trans hK4 (fun b x => .inl (.inr x))
      have H4 : Hid (W4.heap[o]? = some (.cells #[v0, .slice ia N ic, v2, v3] 30 (0, 0))) := hO4
      have HL4 : Hid (W4.ownsRow 0 61 1 (.slice a4 (N + 4) c4) (N + 4) (vs ++ [.slice ao 0 0, .slice a1 1 c1, .slice a2 2 c2, .slice a3 3 c3])) := hown4
      have HN4 : Hid (∀ b, (Value.slice a4 (N + 4) c4).ownBlock = some b → (Value.slice ia N ic).ownBlock = some b ∨ w.heap.size ≤ b) := fun b hb => by
        rcases hn4 b hb with h | h
        · exact .inl h
        · right; omega
      have HZ1 : Hid (W4.ownsRow 0 105 3 (.slice a1 1 c1) 1 [.int .i64 mk, .bool false, .int .i64 0]) := hX1
      have HZ2 : Hid (W4.ownsRow 0 105 3 (.slice a2 2 c2) 2 [.int .i64 mk, .bool false, .int .i64 0, .int .i64 mk, .bool false, .int .i64 0]) := hX2
      have HZ3 : Hid (W4.ownsRow 0 105 3 (.slice a3 3 c3) 3 [.int .i64 mk, .bool false, .int .i64 0, .int .i64 mk, .bool false, .int .i64 0, .int .i64 mk, .bool false, .int .i64 0]) := hX3
      have HKK : Hid _ := hKw
      have HOL : Hid _ := hol
      clear hown4 hmv4 hk4 hn4 hK4 hO4 hX1 hX2 hX3 hKw c0 hol hil
      go_wp2_with fail
      go_end0
      have e5 := Kept.set1 W4 o 1 (.slice a4 (N + 4) c4)
      have hmk : mk = mark N := by rw [← HM.out]; unfold mark; omega
      rw [← hmk]
      have hno : ∀ b, w.heap.size ≤ b → b ≠ o := fun b hb e => by have := HOL.out; omega
      refine ⟨rfl, .slice a4 (N + 4) c4, a1, c1, a2, c2, a3, c3, block_setCell H4.out _, ownsRow_kept HL4.out e5 ?_, ownsRow_kept HZ1.out e5 (fun b hb => hno b (HF1.out b hb)), ownsRow_kept HZ2.out e5 (fun b hb => hno b (HF2.out b hb)),
        ownsRow_kept HZ3.out e5 (fun b hb => hno b (HF3.out b hb)), ?_, HN4.out, HKK.out.setCell (p := ⟨o, 1, none⟩) (.inl (.inl rfl)) _⟩
      · intro b hb
        rcases HN4.out b hb with h | h
        · exact HIO.out b h
        · exact hno b h
      · intro b hb
        rcases hb with h | h | h
        · exact HF1.out b h
        · exact HF2.out b h
        · exact HF3.out b h
end Go.Proofs.YtmcajfefagdbnaaGreat
