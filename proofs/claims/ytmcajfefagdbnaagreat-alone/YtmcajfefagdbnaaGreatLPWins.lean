import Derived.Test.YtmcajfefagdbnaaGreatQ18
import Derived.Test.YtmcajfefagdbnaaGreatQ03
namespace Go.Proofs.YtmcajfefagdbnaaGreat
open Go Go.RowKit
open Go.MuLone
theorem wins_one (l : List Nat) : ∀ u ∈ winsCells l, u.oneCell' = true := by
 intro u hu
 obtain ⟨i, _, rfl⟩ := List.mem_map.1 hu
 rfl
set_option maxRecDepth 20000 in
set_option maxHeartbeats 1600000 in
theorem pWins {L : Lay} {bs : Nat → Nat} {A : List Nat} {ow : Ow} {m : Nat} {lv : Int} {s : St} {w : World} (h : PSt L bs A ow m 0 lv s w) (hw : s.wins.length ≤ 1048576) :
  Calls Tryz.prog 29 #[.pointer (some ⟨L.p, 0, none⟩)] w fun e w' => ∃ a, e = .returned (.slice (some ⟨a, 0, none⟩) s.wins.length s.wins.length) ∧ w.heap.size ≤ a ∧ w'.heap[a]? = some (.cells (winsCells s.wins).toArray 3 (0, 0)) ∧ PSt L bs A ow m 0 lv s w' ∧ Kept (OwnP ow) w w' := by
 obtain ⟨c0, f0⟩ := h.mucell
 have h1 := h.locked 1
 have H1 : Hid (PSt L bs A ow m 1 lv s (w.setCell ⟨L.p, 0, none⟩ (.int .i32 1))) := h1
 have HK1 : Hid (Kept (OwnP ow) w (w.setCell ⟨L.p, 0, none⟩ (.int .i32 1))) := h.keptP _
 have HKP : Hid (∀ (W : World) (v : Value), Kept (OwnP ow) W (W.setCell ⟨L.p, 0, none⟩ v)) := fun W v => h.keptP v
 have HPL : Hid (L.p < w.heap.size) := h.lt _ h.ownP
 obtain ⟨u, tv, wv, b1, _, b3⟩ := h1.body
 have c8 : (w.setCell ⟨L.p, 0, none⟩ (.int .i32 1)).cell? ⟨L.p, 8, none⟩ = some wv := by rw [cell_at b1]; rfl
 obtain ⟨ao, cap, rfl, _⟩ := b3.1.form
 have HF : Hid (Calls Tryz.prog 68 #[.slice ao s.wins.length cap] (w.setCell ⟨L.p, 0, none⟩ (.int .i32 1)) fun e w' => e = .returned (.slice (some ⟨(w.setCell ⟨L.p, 0, none⟩ (.int .i32 1)).heap.size, 0, none⟩) s.wins.length s.wins.length) ∧ w'.heap[(w.setCell ⟨L.p, 0, none⟩ (.int .i32 1)).heap.size]? = some (.cells (winsCells s.wins).toArray 3 (0, 0)) ∧ Kept NoBlk (w.setCell ⟨L.p, 0, none⟩ (.int .i32 1)) w') := freshInt _ s.wins.length (winsCells s.wins) _ (b3.1.mem (wins_one _)) hw
 clear h h1 b1 b3 hw
 generalize s.wins.length = nw at *
 go_enter_defers Tryz.func29, Tryz.ntmps29
 go_wp2_with fail
 refine (lock_free Tryz.muLib ⟨L.p, 0, none⟩ _ c0 f0).mono ?_
 rintro e w1 ⟨rfl, rfl⟩
 generalize w.setCell ⟨L.p, 0, none⟩ (.int .i32 1) = W1 at *
 go_wp2_with fail
 refine HF.out.mono ?_
 rintro e w2 ⟨rfl, hb2, hk2⟩
 have H2 : Hid (PSt L bs A ow m 1 lv s w2) := H1.out.kept0 hk2
 have HK2 : Hid (Kept (OwnP ow) w w2) := HK1.out.trans' (hk2.mono (fun _ x => x.elim))
 have HB2 : Hid (w2.heap[W1.heap.size]? = some (.cells (winsCells s.wins).toArray 3 (0, 0))) := hb2
 clear hk2 hb2
 go_wp2_with fail
 refine leaves_cons (f := 60) (args := #[.pointer (some ⟨L.p, 0, none⟩)]) (by simp) (by simp [go_sem]) ?_
 refine (unlock_deferred Tryz.muLib ⟨L.p, 0, none⟩ .returning _ H2.out.mucell.1 H2.out.mucell.2).mono ?_
 rintro e u' w'' ⟨rfl, rfl, rfl⟩
 have hs := HK1.out.size
 have hp := HPL.out
 refine ⟨_, results_tmp rfl _ _ _, W1.heap.size, ?_, hs, ?_, H2.out.locked 0, HK2.out.trans' (HKP.out _ _)⟩
 ·first | rfl | (simp; done)
 ·exact (block_setCell_other (a := ⟨L.p, 0, none⟩) (by show W1.heap.size ≠ L.p; omega) (.int .i32 0)).trans HB2.out
end Go.Proofs.YtmcajfefagdbnaaGreat
