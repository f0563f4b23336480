import Derived.Test.YtmcajfefagdbnaaGreatJ19
import Derived.Test.YtmcajfefagdbnaaGreatJ28
import Derived.Test.YtmcajfefagdbnaaGreatJ05
namespace Go.Proofs.YtmcajfefagdbnaaGreat
open Go Go.RowKit
open Go.MuLone
def set8 (w : World) (H : Nat) (x0 x1 x2 x3 x4 x5 x6 x7 : Value) : World :=
 (((((((w.setCell ⟨H, 0, none⟩ x0).setCell ⟨H, 1, none⟩ x1).setCell ⟨H, 2, none⟩ x2).setCell ⟨H, 3, none⟩ x3).setCell ⟨H, 4, none⟩ x4).setCell ⟨H, 5, none⟩ x5).setCell ⟨H, 6, none⟩ x6).setCell ⟨H, 7, none⟩ x7
theorem set8_at (w : World) (H : Nat) (x0 x1 x2 x3 x4 x5 x6 x7 y0 y1 y2 y3 y4 y5 y6 y7 : Value) (t : TypeId) (h : w.heap[H]? = some (.cells #[y0, y1, y2, y3, y4, y5, y6, y7] t (0, 0))) :
  (set8 w H x0 x1 x2 x3 x4 x5 x6 x7).heap[H]? = some (.cells #[x0, x1, x2, x3, x4, x5, x6, x7] t (0, 0)) := by
 have h0 : (w.setCell ⟨H, 0, none⟩ x0).heap[H]? = some (.cells #[x0, y1, y2, y3, y4, y5, y6, y7] t (0, 0)) := block_setCell h x0
 have h1 : ((w.setCell ⟨H, 0, none⟩ x0).setCell ⟨H, 1, none⟩ x1).heap[H]? = some (.cells #[x0, x1, y2, y3, y4, y5, y6, y7] t (0, 0)) := block_setCell h0 x1
 have h2 : (((w.setCell ⟨H, 0, none⟩ x0).setCell ⟨H, 1, none⟩ x1).setCell ⟨H, 2, none⟩ x2).heap[H]? = some (.cells #[x0, x1, x2, y3, y4, y5, y6, y7] t (0, 0)) := block_setCell h1 x2
 have h3 : ((((w.setCell ⟨H, 0, none⟩ x0).setCell ⟨H, 1, none⟩ x1).setCell ⟨H, 2, none⟩ x2).setCell ⟨H, 3, none⟩ x3).heap[H]? = some (.cells #[x0, x1, x2, x3, y4, y5, y6, y7] t (0, 0)) := block_setCell h2 x3
 have h4 : (((((w.setCell ⟨H, 0, none⟩ x0).setCell ⟨H, 1, none⟩ x1).setCell ⟨H, 2, none⟩ x2).setCell ⟨H, 3, none⟩ x3).setCell ⟨H, 4, none⟩ x4).heap[H]? = some (.cells #[x0, x1, x2, x3, x4, y5, y6, y7] t (0, 0)) := block_setCell h3 x4
 have h5 : ((((((w.setCell ⟨H, 0, none⟩ x0).setCell ⟨H, 1, none⟩ x1).setCell ⟨H, 2, none⟩ x2).setCell ⟨H, 3, none⟩ x3).setCell ⟨H, 4, none⟩ x4).setCell ⟨H, 5, none⟩ x5).heap[H]? = some (.cells #[x0, x1, x2, x3, x4, x5, y6, y7] t (0, 0)) := block_setCell h4 x5
 have h6 : (((((((w.setCell ⟨H, 0, none⟩ x0).setCell ⟨H, 1, none⟩ x1).setCell ⟨H, 2, none⟩ x2).setCell ⟨H, 3, none⟩ x3).setCell ⟨H, 4, none⟩ x4).setCell ⟨H, 5, none⟩ x5).setCell ⟨H, 6, none⟩ x6).heap[H]? = some (.cells #[x0, x1, x2, x3, x4, x5, x6, y7] t (0, 0)) := block_setCell h5 x6
 have h7 : ((((((((w.setCell ⟨H, 0, none⟩ x0).setCell ⟨H, 1, none⟩ x1).setCell ⟨H, 2, none⟩ x2).setCell ⟨H, 3, none⟩ x3).setCell ⟨H, 4, none⟩ x4).setCell ⟨H, 5, none⟩ x5).setCell ⟨H, 6, none⟩ x6).setCell ⟨H, 7, none⟩ x7).heap[H]? = some (.cells #[x0, x1, x2, x3, x4, x5, x6, x7] t (0, 0)) := block_setCell h6 x7
 exact h7
theorem set8_kept (w : World) (H : Nat) (x0 x1 x2 x3 x4 x5 x6 x7 : Value) : Kept (Blk H) w (set8 w H x0 x1 x2 x3 x4 x5 x6 x7) := by
 unfold set8
 repeat (refine Kept.setCell ?_ (.inl (by rfl)) _)
 exact Kept.refl _ _
set_option maxRecDepth 100000 in
set_option maxHeartbeats 3200000 in
theorem pTxn_none {L : Lay} {bs : Nat → Nat} {A : List Nat} {ow : Ow} {m : Nat} {lv : Int} {s : St} {w : World} (h : PSt L bs A ow m 0 lv s w) (id : Int) (hi : id < 1 ∨ (s.n : Int) < id) :
  Calls Tryz.prog 23 #[.pointer (some ⟨L.p, 0, none⟩), .int .i64 id] w fun e w' =>
   e = .returned (.tuple #[.agg #[.int .i64 0, .int .i64 0, .int .i64 0, .bool false, .bool false, .int .i64 0, .slice none 0 0, .slice none 0 0], .int .i64 5]) ∧ PSt L bs A ow m 0 lv s w' ∧ Kept (OwnP ow) w w' := by
 have hk0 : Kept NoBlk w (w.alloc (.cells #[.int .i64 0, .int .i64 0, .int .i64 0, .bool false, .bool false, .int .i64 0, .slice none 0 0, .slice none 0 0] 69)) := (Kept.refl _ _).alloc _
 have h0 := h.kept0 hk0
 have hH0 : (w.alloc (.cells #[.int .i64 0, .int .i64 0, .int .i64 0, .bool false, .bool false, .int .i64 0, .slice none 0 0, .slice none 0 0] 69)).heap[w.heap.size]? = some (.cells #[.int .i64 0, .int .i64 0, .int .i64 0, .bool false, .bool false, .int .i64 0, .slice none 0 0, .slice none 0 0] 69 (0, 0)) := block_alloc_new w _
 have hpl : L.p < w.heap.size := h.lt _ h.ownP
 have HPL : Hid (w.heap.size ≠ L.p) := by unfold Hid; omega
 have HK0 : Hid (Kept NoBlk w (w.alloc (.cells #[.int .i64 0, .int .i64 0, .int .i64 0, .bool false, .bool false, .int .i64 0, .slice none 0 0, .slice none 0 0] 69))) := hk0
 have HH0 : Hid ((w.alloc (.cells #[.int .i64 0, .int .i64 0, .int .i64 0, .bool false, .bool false, .int .i64 0, .slice none 0 0, .slice none 0 0] 69)).heap[w.heap.size]? = some (.cells #[.int .i64 0, .int .i64 0, .int .i64 0, .bool false, .bool false, .int .i64 0, .slice none 0 0, .slice none 0 0] 69 (0, 0))) := hH0
 have H0 : Hid (PSt L bs A ow m 0 lv s (w.alloc (.cells #[.int .i64 0, .int .i64 0, .int .i64 0, .bool false, .bool false, .int .i64 0, .slice none 0 0, .slice none 0 0] 69))) := h0
 have HOP : Hid (OwnP ow L.p) := h.ownP
 have HNO : Hid (¬ OwnP ow w.heap.size) := fun e => by have := h.lt _ e; omega
 have HI : Hid (id < 1 ∨ (s.n : Int) < id) := hi
 clear h h0 hk0 hH0 hpl hi
 go_enter_defers Tryz.func23, Tryz.ntmps23
 go_wp2_with fail
 generalize (w.alloc (.cells #[.int .i64 0, .int .i64 0, .int .i64 0, .bool false, .bool false, .int .i64 0, .slice none 0 0, .slice none 0 0] 69)) = W0 at *
 refine (lock_free Tryz.muLib ⟨L.p, 0, none⟩ _ H0.out.mucell.1 H0.out.mucell.2).mono ?_
 rintro e w1 ⟨rfl, rfl⟩
 have H1 : Hid (PSt L bs A ow m 1 lv s (W0.setCell ⟨L.p, 0, none⟩ (.int .i32 1))) := H0.out.locked 1
 have HH1 : Hid ((W0.setCell ⟨L.p, 0, none⟩ (.int .i32 1)).heap[w.heap.size]? = some (.cells #[.int .i64 0, .int .i64 0, .int .i64 0, .bool false, .bool false, .int .i64 0, .slice none 0 0, .slice none 0 0] 69 (0, 0))) := (block_setCell_other (a := ⟨L.p, 0, none⟩) (by exact HPL.out) (.int .i32 1)).trans HH0.out
 have HK1 : Hid (Kept (OwnP ow) w (W0.setCell ⟨L.p, 0, none⟩ (.int .i32 1))) := (HK0.out.mono (fun _ x => x.elim)).trans' (H0.out.keptP _)
 generalize W0.setCell ⟨L.p, 0, none⟩ (.int .i32 1) = W1 at *
 clear HH0 HK0 H0
 generalize hHH : w.heap.size = H at *
 have HHH : Hid (w.heap.size = H) := hHH
 clear hHH
 go_wp2_with fail
 obtain ⟨u, tv, wv, _, _, _, _, b4, b5⟩ := (H1.out : PSt L bs A ow m 1 lv s W1).cells
 obtain ⟨ao, cap, rfl, _, _⟩ := b5.1.form
 refine (find_none L.p ao s.n cap id W1 b4 HI.out).mono ?_
 rintro e w1 ⟨rfl, rfl⟩
 clear b4 b5
 have z0 : w1.cell? ⟨H, 0, none⟩ = some (.int .i64 0) := by rw [cell_at HH1.out]; rfl
 have z1 : w1.cell? ⟨H, 1, none⟩ = some (.int .i64 0) := by rw [cell_at HH1.out]; rfl
 have z2 : w1.cell? ⟨H, 2, none⟩ = some (.int .i64 0) := by rw [cell_at HH1.out]; rfl
 have z3 : w1.cell? ⟨H, 3, none⟩ = some (.bool false) := by rw [cell_at HH1.out]; rfl
 have z4 : w1.cell? ⟨H, 4, none⟩ = some (.bool false) := by rw [cell_at HH1.out]; rfl
 have z5 : w1.cell? ⟨H, 5, none⟩ = some (.int .i64 0) := by rw [cell_at HH1.out]; rfl
 have z6 : w1.cell? ⟨H, 6, none⟩ = some (.slice none 0 0) := by rw [cell_at HH1.out]; rfl
 have z7 : w1.cell? ⟨H, 7, none⟩ = some (.slice none 0 0) := by rw [cell_at HH1.out]; rfl
 have zf : ∀ o, w1.frozen? ⟨H, o, none⟩ = false := fun o => frozen_at HH1.out o
 go_wp2_with fail
 have hk2 := set8_kept w1 H (.int .i64 0) (.int .i64 0) (.int .i64 0) (.bool false) (.bool false) (.int .i64 0) (.slice none 0 0) (.slice none 0 0)
 have hH2 := set8_at w1 H (.int .i64 0) (.int .i64 0) (.int .i64 0) (.bool false) (.bool false) (.int .i64 0) (.slice none 0 0) (.slice none 0 0) _ _ _ _ _ _ _ _ _ HH1.out
 have h2 : PSt L bs A ow m 1 lv s (set8 w1 H (.int .i64 0) (.int .i64 0) (.int .i64 0) (.bool false) (.bool false) (.int .i64 0) (.slice none 0 0) (.slice none 0 0)) := (H1.out : PSt L bs A ow m 1 lv s w1).kept hk2 (fun k hk e => by unfold Blk at e; subst e; exact HNO.out hk)
 have HK2 : Hid (Kept (OwnP ow) w (set8 w1 H (.int .i64 0) (.int .i64 0) (.int .i64 0) (.bool false) (.bool false) (.int .i64 0) (.slice none 0 0) (.slice none 0 0))) := HK1.out.trans hk2 (fun i x => .inr (by cases x; exact Nat.le_of_eq HHH.out))
 rw [show ((((((((w1.setCell ⟨H, 0, none⟩ (.int .i64 0)).setCell ⟨H, 1, none⟩ (.int .i64 0)).setCell ⟨H, 2, none⟩ (.int .i64 0)).setCell ⟨H, 3, none⟩ (.bool false)).setCell ⟨H, 4, none⟩ (.bool false)).setCell ⟨H, 5, none⟩ (.int .i64 0)).setCell ⟨H, 6, none⟩ (.slice none 0 0)).setCell ⟨H, 7, none⟩ (.slice none 0 0)) = set8 w1 H (.int .i64 0) (.int .i64 0) (.int .i64 0) (.bool false) (.bool false) (.int .i64 0) (.slice none 0 0) (.slice none 0 0) from rfl]
 clear hk2 z0 z1 z2 z3 z4 z5 z6 z7 zf
 generalize set8 w1 H (.int .i64 0) (.int .i64 0) (.int .i64 0) (.bool false) (.bool false) (.int .i64 0) (.slice none 0 0) (.slice none 0 0) = W2 at *
 refine leaves_cons (f := 60) (args := #[.pointer (some ⟨L.p, 0, none⟩)]) (by simp) (by simp [go_sem]) ?_
 refine (unlock_deferred Tryz.muLib ⟨L.p, 0, none⟩ .returning _ h2.mucell.1 h2.mucell.2).mono ?_
 rintro e u' w'' ⟨rfl, rfl, rfl⟩
 have h3 := h2.locked 0
 have hH3 := (block_setCell_other (a := ⟨L.p, 0, none⟩) (by exact HPL.out) (.int .i32 0)).trans hH2
 have hk3 := HK2.out.trans' (h2.keptP (W := W2) (.int .i32 0))
 generalize W2.setCell ⟨L.p, 0, none⟩ (.int .i32 0) = W3 at *
 have k0 : W3.cell? ⟨H, 0, none⟩ = some (.int .i64 0) := by rw [cell_at hH3]; rfl
 have k1 : W3.cell? ⟨H, 1, none⟩ = some (.int .i64 0) := by rw [cell_at hH3]; rfl
 have k2 : W3.cell? ⟨H, 2, none⟩ = some (.int .i64 0) := by rw [cell_at hH3]; rfl
 have k3 : W3.cell? ⟨H, 3, none⟩ = some (.bool false) := by rw [cell_at hH3]; rfl
 have k4 : W3.cell? ⟨H, 4, none⟩ = some (.bool false) := by rw [cell_at hH3]; rfl
 have k5 : W3.cell? ⟨H, 5, none⟩ = some (.int .i64 0) := by rw [cell_at hH3]; rfl
 have k6 : W3.cell? ⟨H, 6, none⟩ = some (.slice none 0 0) := by rw [cell_at hH3]; rfl
 have k7 : W3.cell? ⟨H, 7, none⟩ = some (.slice none 0 0) := by rw [cell_at hH3]; rfl
 refine ⟨.tuple #[.agg #[.int .i64 0, .int .i64 0, .int .i64 0, .bool false, .bool false, .int .i64 0, .slice none 0 0, .slice none 0 0], .int .i64 5], ?_, rfl, h3, hk3⟩
 simp [results, Tryz.results23, go_sem, k0, k1, k2, k3, k4, k5, k6, k7]
theorem seen_one (l : List Saw) : ∀ u ∈ seenCells l, u.oneCell' = true := by
 intro u hu
 simp only [seenCells, List.mem_flatMap] at hu
 obtain ⟨x, _, hx⟩ := hu
 simp at hx
 rcases hx with rfl | rfl | rfl <;> rfl
set_option maxRecDepth 100000 in
set_option maxHeartbeats 3200000 in
theorem pTxn_some {L : Lay} {bs : Nat → Nat} {A : List Nat} {ow : Ow} {m : Nat} {lv : Int} {s : St} {w : World} (h : PSt L bs A ow m 0 lv s w) (i : Nat) (hin : 1 ≤ i ∧ i ≤ s.n) :
  Calls Tryz.prog 23 #[.pointer (some ⟨L.p, 0, none⟩), .int .i64 (i : Int)] w fun e w' => ∃ a k,
   e = .returned (.tuple #[.agg #[.int .i64 (s.tx i).stamp, .int .i64 (s.tx i).state, .int .i64 ((s.tx i).next : Int), .bool (s.tx i).wounded, .bool (s.tx i).waits.isSome, .int .i64 (s.tx i).agains, .slice (some ⟨a, 0, none⟩) 4 4, .slice (some ⟨k, 0, none⟩) (s.tx i).reads.length (s.tx i).reads.length], .int .i64 0]) ∧ w.heap.size ≤ a ∧ w.heap.size ≤ k ∧
   w'.heap[a]? = some (.cells #[.int .i64 ((s.tx i).regs 0), .int .i64 ((s.tx i).regs 1), .int .i64 ((s.tx i).regs 2), .int .i64 ((s.tx i).regs 3)] 3 (0, 0)) ∧ w'.heap[k]? = some (.cells (seenCells (s.tx i).reads).toArray 105 (0, 0)) ∧
   PSt L bs A ow m 0 lv s w' ∧ Kept (OwnP ow) w w' := by
 have hk0 : Kept NoBlk w (w.alloc (.cells #[.int .i64 0, .int .i64 0, .int .i64 0, .bool false, .bool false, .int .i64 0, .slice none 0 0, .slice none 0 0] 69)) := (Kept.refl _ _).alloc _
 have h0 := h.kept0 hk0
 have hH0 : (w.alloc (.cells #[.int .i64 0, .int .i64 0, .int .i64 0, .bool false, .bool false, .int .i64 0, .slice none 0 0, .slice none 0 0] 69)).heap[w.heap.size]? = some (.cells #[.int .i64 0, .int .i64 0, .int .i64 0, .bool false, .bool false, .int .i64 0, .slice none 0 0, .slice none 0 0] 69 (0, 0)) := block_alloc_new w _
 have hpl : L.p < w.heap.size := h.lt _ h.ownP
 have HPL : Hid (w.heap.size ≠ L.p) := by unfold Hid; omega
 have HK0 : Hid (Kept NoBlk w (w.alloc (.cells #[.int .i64 0, .int .i64 0, .int .i64 0, .bool false, .bool false, .int .i64 0, .slice none 0 0, .slice none 0 0] 69))) := hk0
 have HH0 : Hid ((w.alloc (.cells #[.int .i64 0, .int .i64 0, .int .i64 0, .bool false, .bool false, .int .i64 0, .slice none 0 0, .slice none 0 0] 69)).heap[w.heap.size]? = some (.cells #[.int .i64 0, .int .i64 0, .int .i64 0, .bool false, .bool false, .int .i64 0, .slice none 0 0, .slice none 0 0] 69 (0, 0))) := hH0
 have H0 : Hid (PSt L bs A ow m 0 lv s (w.alloc (.cells #[.int .i64 0, .int .i64 0, .int .i64 0, .bool false, .bool false, .int .i64 0, .slice none 0 0, .slice none 0 0] 69))) := h0
 have HOP : Hid (OwnP ow L.p) := h.ownP
 have HNO : Hid (¬ OwnP ow w.heap.size) := fun e => by have := h.lt _ e; omega
 have HI : Hid (1 ≤ i ∧ i ≤ s.n) := hin
 clear h h0 hk0 hH0 hpl hin
 go_enter_defers Tryz.func23, Tryz.ntmps23
 go_wp2_with fail
 generalize (w.alloc (.cells #[.int .i64 0, .int .i64 0, .int .i64 0, .bool false, .bool false, .int .i64 0, .slice none 0 0, .slice none 0 0] 69)) = W0 at *
 refine (lock_free Tryz.muLib ⟨L.p, 0, none⟩ _ H0.out.mucell.1 H0.out.mucell.2).mono ?_
 rintro e w1 ⟨rfl, rfl⟩
 have H1 : Hid (PSt L bs A ow m 1 lv s (W0.setCell ⟨L.p, 0, none⟩ (.int .i32 1))) := H0.out.locked 1
 have HH1 : Hid ((W0.setCell ⟨L.p, 0, none⟩ (.int .i32 1)).heap[w.heap.size]? = some (.cells #[.int .i64 0, .int .i64 0, .int .i64 0, .bool false, .bool false, .int .i64 0, .slice none 0 0, .slice none 0 0] 69 (0, 0))) := (block_setCell_other (a := ⟨L.p, 0, none⟩) (by exact HPL.out) (.int .i32 1)).trans HH0.out
 have HK1 : Hid (Kept (OwnP ow) w (W0.setCell ⟨L.p, 0, none⟩ (.int .i32 1))) := (HK0.out.mono (fun _ x => x.elim)).trans' (H0.out.keptP _)
 generalize W0.setCell ⟨L.p, 0, none⟩ (.int .i32 1) = W1 at *
 clear HH0 HK0 H0
 generalize hHH : w.heap.size = H at *
 have HHH : Hid (w.heap.size = H) := hHH
 clear hHH
 go_wp2_with fail
 obtain ⟨g, off, c, p1, p2⟩ := (H1.out : PSt L bs A ow m 1 lv s W1).ptr HI.out.1 HI.out.2
 refine (find_some L.p g off s.n c i (bs i) W1 p1 p2 HI.out.1 HI.out.2 (H1.out : PSt L bs A ow m 1 lv s W1).nmax).mono ?_
 rintro e w1 ⟨rfl, rfl⟩
 clear p1 p2
 obtain ⟨ov, rv, dv, y1, y2, y3, y4, y5⟩ := (H1.out : PSt L bs A ow m 1 lv s w1).txs i HI.out.1 HI.out.2
 have HT : Hid (Calls Tryz.prog 64 #[.pointer (some ⟨bs i, 0, none⟩)] w1 _) := told_any (bs i) _ ov rv dv _ _ _ _ _ _ _ _ _ _ _ _ w1 y1 y3.1 (seen_one _) y4
 clear y1 y2 y3 y4 y5
 generalize e1 : (s.tx i).stamp = st at *
 generalize e2 : (s.tx i).state = sa at *
 generalize e3 : ((s.tx i).next : Int) = ne at *
 generalize e4 : (s.tx i).wounded = wo at *
 generalize e5 : (s.tx i).waits.isSome = wa at *
 generalize e6 : (s.tx i).agains = ag at *
 generalize e7 : (s.tx i).reads.length = nr at *
 have HEQ : Hid ((s.tx i).stamp = st ∧ (s.tx i).state = sa ∧ ((s.tx i).next : Int) = ne ∧ (s.tx i).wounded = wo ∧ (s.tx i).waits.isSome = wa ∧ (s.tx i).agains = ag ∧ (s.tx i).reads.length = nr) := ⟨e1, e2, e3, e4, e5, e6, e7⟩
 clear e1 e2 e3 e4 e5 e6 e7
 go_wp2_with fail
 refine HT.out.mono ?_
 rintro e w2 ⟨a, k, rfl, ha, hk, hga, hgk, hkw⟩
 have HH2 : Hid (w2.heap[H]? = some (.cells #[.int .i64 0, .int .i64 0, .int .i64 0, .bool false, .bool false, .int .i64 0, .slice none 0 0, .slice none 0 0] 69 (0, 0))) := hkw.heap HH1.out (fun x => x)
 have hlH := lt_of_block HH1.out
 have hpl := H1.out.lt _ HOP.out
 have z0 : w2.cell? ⟨H, 0, none⟩ = some (.int .i64 0) := by rw [cell_at HH2.out]; rfl
 have z1 : w2.cell? ⟨H, 1, none⟩ = some (.int .i64 0) := by rw [cell_at HH2.out]; rfl
 have z2 : w2.cell? ⟨H, 2, none⟩ = some (.int .i64 0) := by rw [cell_at HH2.out]; rfl
 have z3 : w2.cell? ⟨H, 3, none⟩ = some (.bool false) := by rw [cell_at HH2.out]; rfl
 have z4 : w2.cell? ⟨H, 4, none⟩ = some (.bool false) := by rw [cell_at HH2.out]; rfl
 have z5 : w2.cell? ⟨H, 5, none⟩ = some (.int .i64 0) := by rw [cell_at HH2.out]; rfl
 have z6 : w2.cell? ⟨H, 6, none⟩ = some (.slice none 0 0) := by rw [cell_at HH2.out]; rfl
 have z7 : w2.cell? ⟨H, 7, none⟩ = some (.slice none 0 0) := by rw [cell_at HH2.out]; rfl
 have zf : ∀ o, w2.frozen? ⟨H, o, none⟩ = false := fun o => frozen_at HH2.out o
 have H2 : Hid (PSt L bs A ow m 1 lv s w2) := H1.out.kept0 hkw
 have HG : Hid (w2.heap[a]? = _ ∧ w2.heap[k]? = _) := ⟨hga, hgk⟩
 have HKW : Hid (Kept (OwnP ow) w w2) := HK1.out.trans hkw (fun i x => x.elim)
 have HNE : Hid (a ≠ H ∧ k ≠ H ∧ a ≠ L.p ∧ k ≠ L.p ∧ w.heap.size ≤ a ∧ w.heap.size ≤ k) := by
  have := HHH.out
  refine ⟨by omega, by omega, by omega, by omega, by omega, by omega⟩
 clear hga hgk hkw hlH hpl ha hk
 go_wp2_with fail
 have hk2 := set8_kept w2 H (.int .i64 st) (.int .i64 sa) (.int .i64 ne) (.bool wo) (.bool wa) (.int .i64 ag) (.slice (some ⟨a, 0, none⟩) 4 4) (.slice (some ⟨k, 0, none⟩) nr nr)
 have hH2 := set8_at w2 H (.int .i64 st) (.int .i64 sa) (.int .i64 ne) (.bool wo) (.bool wa) (.int .i64 ag) (.slice (some ⟨a, 0, none⟩) 4 4) (.slice (some ⟨k, 0, none⟩) nr nr) _ _ _ _ _ _ _ _ _ HH2.out
 have h2 : PSt L bs A ow m 1 lv s (set8 w2 H (.int .i64 st) (.int .i64 sa) (.int .i64 ne) (.bool wo) (.bool wa) (.int .i64 ag) (.slice (some ⟨a, 0, none⟩) 4 4) (.slice (some ⟨k, 0, none⟩) nr nr)) := (H2.out : PSt L bs A ow m 1 lv s w2).kept hk2 (fun k hk e => by unfold Blk at e; subst e; exact HNO.out hk)
 have hga2 := hk2.heap HG.out.1 HNE.out.1
 have hgk2 := hk2.heap HG.out.2 HNE.out.2.1
 have HK2 : Hid (Kept (OwnP ow) w (set8 w2 H (.int .i64 st) (.int .i64 sa) (.int .i64 ne) (.bool wo) (.bool wa) (.int .i64 ag) (.slice (some ⟨a, 0, none⟩) 4 4) (.slice (some ⟨k, 0, none⟩) nr nr))) := HKW.out.trans hk2 (fun i x => .inr (by cases x; exact Nat.le_of_eq HHH.out))
 rw [show ((((((((w2.setCell ⟨H, 0, none⟩ (.int .i64 st)).setCell ⟨H, 1, none⟩ (.int .i64 sa)).setCell ⟨H, 2, none⟩ (.int .i64 ne)).setCell ⟨H, 3, none⟩ (.bool wo)).setCell ⟨H, 4, none⟩ (.bool wa)).setCell ⟨H, 5, none⟩ (.int .i64 ag)).setCell ⟨H, 6, none⟩ (.slice (some ⟨a, 0, none⟩) 4 4)).setCell ⟨H, 7, none⟩ (.slice (some ⟨k, 0, none⟩) nr nr)) = set8 w2 H (.int .i64 st) (.int .i64 sa) (.int .i64 ne) (.bool wo) (.bool wa) (.int .i64 ag) (.slice (some ⟨a, 0, none⟩) 4 4) (.slice (some ⟨k, 0, none⟩) nr nr) from rfl]
 clear hk2 z0 z1 z2 z3 z4 z5 z6 z7 zf
 generalize set8 w2 H (.int .i64 st) (.int .i64 sa) (.int .i64 ne) (.bool wo) (.bool wa) (.int .i64 ag) (.slice (some ⟨a, 0, none⟩) 4 4) (.slice (some ⟨k, 0, none⟩) nr nr) = W2 at *
 refine leaves_cons (f := 60) (args := #[.pointer (some ⟨L.p, 0, none⟩)]) (by simp) (by simp [go_sem]) ?_
 refine (unlock_deferred Tryz.muLib ⟨L.p, 0, none⟩ .returning _ h2.mucell.1 h2.mucell.2).mono ?_
 rintro e u' w'' ⟨rfl, rfl, rfl⟩
 have h3 := h2.locked 0
 have hH3 := (block_setCell_other (a := ⟨L.p, 0, none⟩) (by exact HPL.out) (.int .i32 0)).trans hH2
 have hga3 := (block_setCell_other (a := ⟨L.p, 0, none⟩) (by exact HNE.out.2.2.1) (.int .i32 0)).trans hga2
 have hgk3 := (block_setCell_other (a := ⟨L.p, 0, none⟩) (by exact HNE.out.2.2.2.1) (.int .i32 0)).trans hgk2
 have hk3 := HK2.out.trans' (h2.keptP (W := W2) (.int .i32 0))
 generalize W2.setCell ⟨L.p, 0, none⟩ (.int .i32 0) = W3 at *
 have k0 : W3.cell? ⟨H, 0, none⟩ = some (.int .i64 st) := by rw [cell_at hH3]; rfl
 have k1 : W3.cell? ⟨H, 1, none⟩ = some (.int .i64 sa) := by rw [cell_at hH3]; rfl
 have k2 : W3.cell? ⟨H, 2, none⟩ = some (.int .i64 ne) := by rw [cell_at hH3]; rfl
 have k3 : W3.cell? ⟨H, 3, none⟩ = some (.bool wo) := by rw [cell_at hH3]; rfl
 have k4 : W3.cell? ⟨H, 4, none⟩ = some (.bool wa) := by rw [cell_at hH3]; rfl
 have k5 : W3.cell? ⟨H, 5, none⟩ = some (.int .i64 ag) := by rw [cell_at hH3]; rfl
 have k6 : W3.cell? ⟨H, 6, none⟩ = some (.slice (some ⟨a, 0, none⟩) 4 4) := by rw [cell_at hH3]; rfl
 have k7 : W3.cell? ⟨H, 7, none⟩ = some (.slice (some ⟨k, 0, none⟩) nr nr) := by rw [cell_at hH3]; rfl
 refine ⟨.tuple #[.agg #[.int .i64 st, .int .i64 sa, .int .i64 ne, .bool wo, .bool wa, .int .i64 ag, .slice (some ⟨a, 0, none⟩) 4 4, .slice (some ⟨k, 0, none⟩) nr nr], .int .i64 0], ?_, a, k, by obtain ⟨e1, e2, e3, e4, e5, e6, e7⟩ := HEQ.out; rw [e1, e2, e3, e4, e5, e6, e7], HNE.out.2.2.2.2.1, HNE.out.2.2.2.2.2, hga3, hgk3, h3, hk3⟩
 simp [results, Tryz.results23, go_sem, k0, k1, k2, k3, k4, k5, k6, k7]
end Go.Proofs.YtmcajfefagdbnaaGreat
namespace Go.Proofs.YtmcajfefagdbnaaGreat
open Go Go.RowKit
open Go.MuLone
theorem wins_one (l : List Nat) : ∀ u ∈ winsCells l, u.oneCell' = true := by
 intro u hu
 obtain ⟨i, _, rfl⟩ := List.mem_map.1 hu
 rfl
set_option maxRecDepth 20000 in
set_option maxHeartbeats 1600000 in
theorem pWins {L : Lay} {bs : Nat → Nat} {A : List Nat} {ow : Ow} {m : Nat} {lv : Int} {s : St} {w : World} (h : PSt L bs A ow m 0 lv s w) (hw : s.wins.length ≤ 1048576) :
  Calls Tryz.prog 29 #[.pointer (some ⟨L.p, 0, none⟩)] w fun e w' => ∃ a, e = .returned (.slice (some ⟨a, 0, none⟩) s.wins.length s.wins.length) ∧ w.heap.size ≤ a ∧ w'.heap[a]? = some (.cells (winsCells s.wins).toArray 3 (0, 0)) ∧ PSt L bs A ow m 0 lv s w' ∧ Kept (OwnP ow) w w' := by
 obtain ⟨c0, f0⟩ := h.mucell
 have h1 := h.locked 1
 have H1 : Hid (PSt L bs A ow m 1 lv s (w.setCell ⟨L.p, 0, none⟩ (.int .i32 1))) := h1
 have HK1 : Hid (Kept (OwnP ow) w (w.setCell ⟨L.p, 0, none⟩ (.int .i32 1))) := h.keptP _
 have HKP : Hid (∀ (W : World) (v : Value), Kept (OwnP ow) W (W.setCell ⟨L.p, 0, none⟩ v)) := fun W v => h.keptP v
 have HPL : Hid (L.p < w.heap.size) := h.lt _ h.ownP
 obtain ⟨u, tv, wv, b1, _, b3⟩ := h1.body
 have c8 : (w.setCell ⟨L.p, 0, none⟩ (.int .i32 1)).cell? ⟨L.p, 8, none⟩ = some wv := by rw [cell_at b1]; rfl
 obtain ⟨ao, cap, rfl, _⟩ := b3.1.form
 have HF : Hid (Calls Tryz.prog 68 #[.slice ao s.wins.length cap] (w.setCell ⟨L.p, 0, none⟩ (.int .i32 1)) fun e w' => e = .returned (.slice (some ⟨(w.setCell ⟨L.p, 0, none⟩ (.int .i32 1)).heap.size, 0, none⟩) s.wins.length s.wins.length) ∧ w'.heap[(w.setCell ⟨L.p, 0, none⟩ (.int .i32 1)).heap.size]? = some (.cells (winsCells s.wins).toArray 3 (0, 0)) ∧ Kept NoBlk (w.setCell ⟨L.p, 0, none⟩ (.int .i32 1)) w') := freshInt _ s.wins.length (winsCells s.wins) _ (b3.1.mem (wins_one _)) hw
 clear h h1 b1 b3 hw
 generalize s.wins.length = nw at *
 go_enter_defers Tryz.func29, Tryz.ntmps29
 go_wp2_with fail
 refine (lock_free Tryz.muLib ⟨L.p, 0, none⟩ _ c0 f0).mono ?_
 rintro e w1 ⟨rfl, rfl⟩
 generalize w.setCell ⟨L.p, 0, none⟩ (.int .i32 1) = W1 at *
 go_wp2_with fail
 refine HF.out.mono ?_
 rintro e w2 ⟨rfl, hb2, hk2⟩
 have H2 : Hid (PSt L bs A ow m 1 lv s w2) := H1.out.kept0 hk2
 have HK2 : Hid (Kept (OwnP ow) w w2) := HK1.out.trans' (hk2.mono (fun _ x => x.elim))
 have HB2 : Hid (w2.heap[W1.heap.size]? = some (.cells (winsCells s.wins).toArray 3 (0, 0))) := hb2
 clear hk2 hb2
 go_wp2_with fail
 refine leaves_cons (f := 60) (args := #[.pointer (some ⟨L.p, 0, none⟩)]) (by simp) (by simp [go_sem]) ?_
 refine (unlock_deferred Tryz.muLib ⟨L.p, 0, none⟩ .returning _ H2.out.mucell.1 H2.out.mucell.2).mono ?_
 rintro e u' w'' ⟨rfl, rfl, rfl⟩
 have hs := HK1.out.size
 have hp := HPL.out
 refine ⟨_, results_tmp rfl _ _ _, W1.heap.size, ?_, hs, ?_, H2.out.locked 0, HK2.out.trans' (HKP.out _ _)⟩
 ·first | rfl | (simp; done)
 ·exact (block_setCell_other (a := ⟨L.p, 0, none⟩) (by show W1.heap.size ≠ L.p; omega) (.int .i32 0)).trans HB2.out
end Go.Proofs.YtmcajfefagdbnaaGreat
