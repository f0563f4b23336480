import Derived.Test.YtmcajfefagdbnaaGreatJ20
namespace Go.Proofs.YtmcajfefagdbnaaGreat
open Go Go.RowKit

set_option maxRecDepth 100000 in
set_option maxHeartbeats 3200000 in
theorem wnew_any (ao : Option Addr) (c n : Nat) (l : List Row2) (w : World) (hn : l.length = n) (hl : n ≤ 1048576) (h : 0 < n → ∃ b off, ao = some ⟨b, off, none⟩ ∧ RowsAt w b off l) :
    Calls Tryz.prog 40 #[.slice ao n c] w fun e w' => Kept NoBlk w w' ∧ ((¬ Rise l ∧ e = .returned (.tuple #[.pointer none, .int .i64 7])) ∨
      (Rise l ∧ ∃ p rv, e = .returned (.tuple #[.pointer (some ⟨p, 0, none⟩), .int .i64 0]) ∧ w.heap.size ≤ p ∧ (∀ k, rv.ownBlock = some k → w.heap.size ≤ k) ∧ w'.ownsRow 0 95 2 rv n (rowCells l) ∧
        w'.heap[p]? = some (.cells #[rv, .slice none 0 0, .slice none 0 0, .slice none 0 0, .int .i64 0] 47 (0, 0)))) := by
  have Hn : Hid _ := hn
  have HS : Hid (RowsSrc w (.slice ao n c) l) := ⟨ao, c, by rw [hn], by rw [hn]; exact h⟩
  clear hn
  go_enter Tryz.func40, Tryz.ntmps40
  go_wp2_with fail
  go_loopw [4] (fun i wr => ∃ k nq : Nat, (k + 1 ≤ n ∨ k = 0) ∧ i = .int .i64 ((k : Int) + 1) ∧ (∀ i, i + 1 < k + 1 → (l.getD i Row2.z).k < (l.getD (i + 1) Row2.z).k) ∧ wr = w.drewN nq) (fun i _ => n - (intOf i).toNat)
  case atStart => exact ⟨0, 0, .inr rfl, rfl, fun i hi => by omega, rfl⟩
  case round =>
    obtain ⟨k, nq, hk, rfl, hrise, rfl⟩ := hrel
    by_cases hlt : k + 1 < n
    · obtain ⟨b, off, rfl, hat⟩ := h (by omega)
      have g0 := (hat k (by rw [Hn.out]; omega)).1
      have g1 := (hat (k + 1) (by rw [Hn.out]; omega)).1
      have i1 : (0 : Int) ≤ (k : Int) + 1 := by omega
      have i2 : (k : Int) + 1 < (n : Int) := by omega
      have i3 : (0 : Int) ≤ (k : Int) + 1 - 1 := by omega
      have i4 : (k : Int) + 1 - 1 < (n : Int) := by omega
      have HR : Hid _ := hrise
      have HS : Hid (∀ (hkk : (l.getD k Row2.z).k < (l.getD (k + 1) Row2.z).k), ∀ i, i + 1 < k + 1 + 1 → (l.getD i Row2.z).k < (l.getD (i + 1) Row2.z).k) := fun hkk i hi => by
        by_cases e : i = k
        · subst e; exact hkk
        · exact hrise i (by omega)
      have HN : Hid (¬ (l.getD k Row2.z).k < (l.getD (k + 1) Row2.z).k → ¬ Rise l) := fun hkk hr => hkk (hr k (by rw [Hn.out]; omega))
      clear hrise hat h
      generalize (l.getD k Row2.z).k = a at *
      generalize (l.getD (k + 1) Row2.z).k = a' at *
      go_wp2_with fail
      go_quiet (fail)
      by_cases hle : a' ≤ a
      · go_wp2_with fail
        go_ret2
        exact ⟨((Kept.refl _ _).drewN _).drewN _, .inl ⟨HN.out (by omega), rfl⟩⟩
      · go_wp2_with fail
        exact ⟨⟨k + 1, _, .inl (by omega), by go_num, HS.out (by omega), rfl⟩, by simp [intOf]; omega⟩
    · have HR : Hid (Rise l) := fun i hi => hrise i (by rw [Hn.out] at hi; omega)
      have HK0 : Hid (Kept NoBlk w (w.drewN nq)) := (Kept.refl _ _).drewN _
      clear hrise h
      generalize w.drewN nq = W at *
      obtain ⟨i0, hi0, hz0, hz1, hz2⟩ := info_parts infoRow
      have HF : Hid (FromMem (W.alloc (.cells #[.slice none 0 0, .slice none 0 0, .slice none 0 0, .slice none 0 0, .int .i64 0] 47)) 2 (.slice ao n c) n (rowCells l)) := by
        have := ((show RowsSrc w (.slice ao n c) l from HS.out).kept (HK0.out.alloc (.cells #[.slice none 0 0, .slice none 0 0, .slice none 0 0, .slice none 0 0, .int .i64 0] 47)) (fun _ _ x => x)).mem
        rw [Hn.out] at this
        exact this
      have HB1 : Hid ((0 + n) * 16 ≤ 140737488355328) := by unfold Hid; omega
      have HB0 : Hid (0 + n ≤ maxLen) := by unfold Hid maxLen; omega
      go_wp2_with (at_builtin; refine wpList_append_at (by rfl) _ _ 22 (by rfl) 95 i0 _ 2 16 Tryz.underlying22 hi0 hz0 hz1 hz2 (by rfl) (.slice none 0 0) 0 [] (by rfl) (World.ownsRow_nil _ _ _ _) (.slice ao n c) n (rowCells l) (by rfl) HF.out HB0.out HB1.out ?_)
      intro ao1 c1 W4 hown4 hmv4
      have hk4 : Kept NoBlk (W.alloc (.cells #[.slice none 0 0, .slice none 0 0, .slice none 0 0, .slice none 0 0, .int .i64 0] 47)) W4 := by
        rcases hmv4 with ⟨_, _, _, hk⟩ | ⟨_, _, hk⟩
        · exact hk.mono (fun k x => by simp [Value.ownBlock] at x)
        · exact hk
      have hsz := (HK0.out.alloc (.cells #[.slice none 0 0, .slice none 0 0, .slice none 0 0, .slice none 0 0, .int .i64 0] 47)).size
      have HN4 : Hid (∀ k, (Value.slice ao1 n c1).ownBlock = some k → W.heap.size + 1 ≤ k) := by
        intro k hk
        rcases hmv4 with ⟨ho, _, _, _⟩ | ⟨_, ho, _⟩
        · rw [hk] at ho; simp [Value.ownBlock] at ho
        · rw [hk] at ho; cases ho; simp
      have hb4 := hk4.heap (block_alloc_new W (.cells #[.slice none 0 0, .slice none 0 0, .slice none 0 0, .slice none 0 0, .int .i64 0] 47)) (fun x => x)
      have q0 : W4.cell? ⟨W.heap.size, 0, none⟩ = some (.slice none 0 0) := by rw [cell_at hb4]; rfl
      have qf : W4.frozen? ⟨W.heap.size, 0, none⟩ = false := frozen_at hb4 _
      have HB4 : Hid _ := hb4
      have HW4 : Hid (W4.ownsRow 0 95 2 (.slice ao1 n c1) n (rowCells l)) := hown4
      have HK4 : Hid _ := (HK0.out.alloc (.cells #[.slice none 0 0, .slice none 0 0, .slice none 0 0, .slice none 0 0, .int .i64 0] 47)).trans' hk4
      have HSZ : Hid (w.heap.size ≤ W.heap.size) := HK0.out.size
      clear hk4 hown4 hmv4 hb4 hi0 hz0 hz1 hz2 hsz
      go_wp2_with fail
      go_ret2
      refine ⟨HK4.out.setCell (p := ⟨W.heap.size, 0, none⟩) (.inr HSZ.out) _, .inr ⟨HR.out, W.heap.size, .slice ao1 n c1, rfl, HSZ.out, fun k hk => by have := HN4.out k hk; have := HSZ.out; omega, ownsRow_kept HW4.out (Kept.set1 W4 W.heap.size 0 _) (fun k hk e => by have := HN4.out k hk; unfold Blk at e; omega), block_setCell HB4.out _⟩⟩
end Go.Proofs.YtmcajfefagdbnaaGreat
