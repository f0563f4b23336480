import Derived.Test.YtmplmoicliobaaaGreatFind
import Derived.Test.YtmplmoicliobaaaGreatTold
import Derived.Test.YtmplmoicliobaaaGreatLocks
import Derived.Conc.MuLone
import Derived.Defers
namespace Go.Proofs.YtmplmoicliobaaaGreat
open Go Go.RowKit
open Go.MuLone

def zTxn : Array Value := #[.int .i64 0, .int .i64 0, .int .i64 0, .bool false, .bool false, .int .i64 0, .slice none 0 0, .slice none 0 0]

/-- The lock is taken, the answer's room is laid: a letter for the world. -/
theorem locked_room (p H : Nat) (v1 v2 v3 v4 v5 : Value) (w : World) (hH : w.heap.size = H) (h : w.heap[p]? = some (.cells #[.int .i32 0, v1, v2, v3, v4, v5] 95 (0, 0))) :
    ((w.setCell ⟨p, 0, none⟩ (.int .i32 1)).alloc (.cells #[.int .i64 0, .int .i64 0, .int .i64 0, .bool false, .bool false, .int .i64 0, .slice none 0 0, .slice none 0 0] 63)).heap[p]? = some (.cells #[.int .i32 1, v1, v2, v3, v4, v5] 95 (0, 0)) ∧
    ((w.setCell ⟨p, 0, none⟩ (.int .i32 1)).alloc (.cells #[.int .i64 0, .int .i64 0, .int .i64 0, .bool false, .bool false, .int .i64 0, .slice none 0 0, .slice none 0 0] 63)).heap[H]? = some (.cells #[.int .i64 0, .int .i64 0, .int .i64 0, .bool false, .bool false, .int .i64 0, .slice none 0 0, .slice none 0 0] 63 (0, 0)) ∧
    Kept (Blk p) w ((w.setCell ⟨p, 0, none⟩ (.int .i32 1)).alloc (.cells #[.int .i64 0, .int .i64 0, .int .i64 0, .bool false, .bool false, .int .i64 0, .slice none 0 0, .slice none 0 0] 63)) := by
  subst hH
  refine ⟨block_alloc_old _ (block_setCell h _), ?_, ((Kept.refl (Blk p) w).setCell (p := ⟨p, 0, none⟩) (.inl rfl) _).alloc _⟩
  have := block_alloc_new (w.setCell ⟨p, 0, none⟩ (.int .i32 1)) (.cells #[.int .i64 0, .int .i64 0, .int .i64 0, .bool false, .bool false, .int .i64 0, .slice none 0 0, .slice none 0 0] 63)
  simpa [World.setCell] using this

theorem unlocked (p : Nat) (v1 v2 v3 v4 v5 : Value) (w : World) (h : w.heap[p]? = some (.cells #[.int .i32 1, v1, v2, v3, v4, v5] 95 (0, 0))) :
    (w.setCell ⟨p, 0, none⟩ (.int .i32 0)).heap[p]? = some (.cells #[.int .i32 0, v1, v2, v3, v4, v5] 95 (0, 0)) := block_setCell h _

/-- Eight cells, stored one behind the other. -/
def set8 (w : World) (H : Nat) (x0 x1 x2 x3 x4 x5 x6 x7 : Value) : World :=
  (((((((w.setCell ⟨H, 0, none⟩ x0).setCell ⟨H, 1, none⟩ x1).setCell ⟨H, 2, none⟩ x2).setCell ⟨H, 3, none⟩ x3).setCell ⟨H, 4, none⟩ x4).setCell ⟨H, 5, none⟩ x5).setCell ⟨H, 6, none⟩ x6).setCell ⟨H, 7, none⟩ x7

theorem set8_at (w : World) (H : Nat) (x0 x1 x2 x3 x4 x5 x6 x7 y0 y1 y2 y3 y4 y5 y6 y7 : Value) (t : TypeId) (h : w.heap[H]? = some (.cells #[y0, y1, y2, y3, y4, y5, y6, y7] t (0, 0))) :
    (set8 w H x0 x1 x2 x3 x4 x5 x6 x7).heap[H]? = some (.cells #[x0, x1, x2, x3, x4, x5, x6, x7] t (0, 0)) := by
  have h0 : (w.setCell ⟨H, 0, none⟩ x0).heap[H]? = some (.cells #[x0, y1, y2, y3, y4, y5, y6, y7] t (0, 0)) := block_setCell h x0
  have h1 : ((w.setCell ⟨H, 0, none⟩ x0).setCell ⟨H, 1, none⟩ x1).heap[H]? = some (.cells #[x0, x1, y2, y3, y4, y5, y6, y7] t (0, 0)) := block_setCell h0 x1
  have h2 : (((w.setCell ⟨H, 0, none⟩ x0).setCell ⟨H, 1, none⟩ x1).setCell ⟨H, 2, none⟩ x2).heap[H]? = some (.cells #[x0, x1, x2, y3, y4, y5, y6, y7] t (0, 0)) := block_setCell h1 x2
  have h3 : ((((w.setCell ⟨H, 0, none⟩ x0).setCell ⟨H, 1, none⟩ x1).setCell ⟨H, 2, none⟩ x2).setCell ⟨H, 3, none⟩ x3).heap[H]? = some (.cells #[x0, x1, x2, x3, y4, y5, y6, y7] t (0, 0)) := block_setCell h2 x3
  have h4 : (((((w.setCell ⟨H, 0, none⟩ x0).setCell ⟨H, 1, none⟩ x1).setCell ⟨H, 2, none⟩ x2).setCell ⟨H, 3, none⟩ x3).setCell ⟨H, 4, none⟩ x4).heap[H]? = some (.cells #[x0, x1, x2, x3, x4, y5, y6, y7] t (0, 0)) := block_setCell h3 x4
  have h5 : ((((((w.setCell ⟨H, 0, none⟩ x0).setCell ⟨H, 1, none⟩ x1).setCell ⟨H, 2, none⟩ x2).setCell ⟨H, 3, none⟩ x3).setCell ⟨H, 4, none⟩ x4).setCell ⟨H, 5, none⟩ x5).heap[H]? = some (.cells #[x0, x1, x2, x3, x4, x5, y6, y7] t (0, 0)) := block_setCell h4 x5
  have h6 : (((((((w.setCell ⟨H, 0, none⟩ x0).setCell ⟨H, 1, none⟩ x1).setCell ⟨H, 2, none⟩ x2).setCell ⟨H, 3, none⟩ x3).setCell ⟨H, 4, none⟩ x4).setCell ⟨H, 5, none⟩ x5).setCell ⟨H, 6, none⟩ x6).heap[H]? = some (.cells #[x0, x1, x2, x3, x4, x5, x6, y7] t (0, 0)) := block_setCell h5 x6
  have h7 : ((((((((w.setCell ⟨H, 0, none⟩ x0).setCell ⟨H, 1, none⟩ x1).setCell ⟨H, 2, none⟩ x2).setCell ⟨H, 3, none⟩ x3).setCell ⟨H, 4, none⟩ x4).setCell ⟨H, 5, none⟩ x5).setCell ⟨H, 6, none⟩ x6).setCell ⟨H, 7, none⟩ x7).heap[H]? = some (.cells #[x0, x1, x2, x3, x4, x5, x6, x7] t (0, 0)) := block_setCell h6 x7
  exact h7

theorem set8_kept (w : World) (H : Nat) (x0 x1 x2 x3 x4 x5 x6 x7 : Value) : Kept (Blk H) w (set8 w H x0 x1 x2 x3 x4 x5 x6 x7) := by
  unfold set8
  repeat (refine Kept.setCell ?_ (.inl (by rfl)) _)
  exact Kept.refl _ _

set_option maxRecDepth 100000 in
set_option maxHeartbeats 3200000 in
theorem ptxn_none (p n cap : Nat) (ao : Option Addr) (id : Int) (v1 v2 v3 v5 : Value) (w : World) (h : w.heap[p]? = some (.cells #[.int .i32 0, v1, v2, v3, .slice ao n cap, v5] 95 (0, 0))) (hi : id < 1 ∨ (n : Int) < id) :
    Calls Tryz.prog 18 #[.pointer (some ⟨p, 0, none⟩), .int .i64 id] w fun e w' =>
      e = .returned (.tuple #[.agg #[.int .i64 0, .int .i64 0, .int .i64 0, .bool false, .bool false, .int .i64 0, .slice none 0 0, .slice none 0 0], .int .i64 5]) ∧
      w'.heap[p]? = some (.cells #[.int .i32 0, v1, v2, v3, .slice ao n cap, v5] 95 (0, 0)) ∧ Kept (Blk p) w w' := by
  obtain ⟨hb1, hH1, hk1⟩ := locked_room p w.heap.size _ _ _ _ _ w rfl h
  have hl := lt_of_block h
  have h1 := block_alloc_old (.cells #[.int .i64 0, .int .i64 0, .int .i64 0, .bool false, .bool false, .int .i64 0, .slice none 0 0, .slice none 0 0] 63) h
  have HB : Hid _ := h1
  have HB1 : Hid _ := hb1
  have HH1 : Hid _ := hH1
  have HK1 : Hid _ := hk1
  clear h h1 hb1 hH1 hk1
  go_enter_defers Tryz.func18, Tryz.ntmps18
  go_wp2_with fail
  refine (lock_free Tryz.muLib ⟨p, 0, none⟩ _ ?_ ?_).mono ?_
  · rw [cell_at HB.out]; rfl
  · exact frozen_at HB.out _
  rintro e w1 ⟨rfl, rfl⟩
  go_wp2_with fail
  generalize ((w.setCell ⟨p, 0, none⟩ (.int .i32 1)).alloc (.cells #[.int .i64 0, .int .i64 0, .int .i64 0, .bool false, .bool false, .int .i64 0, .slice none 0 0, .slice none 0 0] 63)) = W1 at *
  refine (find_none p n cap ao id W1 ?_ hi).mono ?_
  · rw [cell_at HB1.out]; rfl
  rintro e w1 ⟨rfl, rfl⟩
  generalize hHH : w.heap.size = H at *
  have HH : Hid _ := hHH
  have z0 : w1.cell? ⟨H, 0, none⟩ = some (.int .i64 0) := by rw [cell_at HH1.out]; rfl
  have z1 : w1.cell? ⟨H, 1, none⟩ = some (.int .i64 0) := by rw [cell_at HH1.out]; rfl
  have z2 : w1.cell? ⟨H, 2, none⟩ = some (.int .i64 0) := by rw [cell_at HH1.out]; rfl
  have z3 : w1.cell? ⟨H, 3, none⟩ = some (.bool false) := by rw [cell_at HH1.out]; rfl
  have z4 : w1.cell? ⟨H, 4, none⟩ = some (.bool false) := by rw [cell_at HH1.out]; rfl
  have z5 : w1.cell? ⟨H, 5, none⟩ = some (.int .i64 0) := by rw [cell_at HH1.out]; rfl
  have z6 : w1.cell? ⟨H, 6, none⟩ = some (.slice none 0 0) := by rw [cell_at HH1.out]; rfl
  have z7 : w1.cell? ⟨H, 7, none⟩ = some (.slice none 0 0) := by rw [cell_at HH1.out]; rfl
  have zf : ∀ o, w1.frozen? ⟨H, o, none⟩ = false := fun o => frozen_at HH1.out o
  have hne : ¬ H = p := by omega
  clear hi hHH
  go_wp2_with fail
  have hk2 := set8_kept w1 H (.int .i64 0) (.int .i64 0) (.int .i64 0) (.bool false) (.bool false) (.int .i64 0) (.slice none 0 0) (.slice none 0 0)
  have hp2 := hk2.heap HB1.out (fun x => hne x.symm)
  have hH2 := set8_at w1 H (.int .i64 0) (.int .i64 0) (.int .i64 0) (.bool false) (.bool false) (.int .i64 0) (.slice none 0 0) (.slice none 0 0) _ _ _ _ _ _ _ _ _ HH1.out
  have HK2 : Hid (Kept (Blk p) w (set8 w1 H (.int .i64 0) (.int .i64 0) (.int .i64 0) (.bool false) (.bool false) (.int .i64 0) (.slice none 0 0) (.slice none 0 0))) :=
    HK1.out.trans hk2 (fun i x => .inr (by cases x; exact Nat.le_of_eq HH.out))
  rw [show (((((((w1.setCell ⟨H, 0, none⟩ (.int .i64 0)).setCell ⟨H, 1, none⟩ (.int .i64 0)).setCell ⟨H, 2, none⟩ (.int .i64 0)).setCell ⟨H, 3, none⟩ (.bool false)).setCell ⟨H, 4, none⟩ (.bool false)).setCell ⟨H, 5, none⟩ (.int .i64 0)).setCell ⟨H, 6, none⟩ (.slice none 0 0)).setCell ⟨H, 7, none⟩ (.slice none 0 0) =
    set8 w1 H (.int .i64 0) (.int .i64 0) (.int .i64 0) (.bool false) (.bool false) (.int .i64 0) (.slice none 0 0) (.slice none 0 0) from rfl]
  clear hk2 z0 z1 z2 z3 z4 z5 z6 z7 zf
  generalize set8 w1 H (.int .i64 0) (.int .i64 0) (.int .i64 0) (.bool false) (.bool false) (.int .i64 0) (.slice none 0 0) (.slice none 0 0) = W2 at *
  refine leaves_cons (f := 35) (args := #[.pointer (some ⟨p, 0, none⟩)]) (by simp) (by simp [go_sem]) ?_
  refine (unlock_deferred Tryz.muLib ⟨p, 0, none⟩ .returning _ ?_ ?_).mono ?_
  · rw [cell_at hp2]; rfl
  · exact frozen_at hp2 _
  rintro e u' w'' ⟨rfl, rfl, rfl⟩
  have hp3 := unlocked p _ _ _ _ _ _ hp2
  have hH3 := (block_setCell_other (a := ⟨p, 0, none⟩) (by exact hne) (.int .i32 0)).trans hH2
  have HK3 := HK2.out.setCell (p := ⟨p, 0, none⟩) (.inl rfl) (.int .i32 0)
  generalize W2.setCell ⟨p, 0, none⟩ (.int .i32 0) = W3 at *
  have k0 : W3.cell? ⟨H, 0, none⟩ = some (.int .i64 0) := by rw [cell_at hH3]; rfl
  have k1 : W3.cell? ⟨H, 1, none⟩ = some (.int .i64 0) := by rw [cell_at hH3]; rfl
  have k2 : W3.cell? ⟨H, 2, none⟩ = some (.int .i64 0) := by rw [cell_at hH3]; rfl
  have k3 : W3.cell? ⟨H, 3, none⟩ = some (.bool false) := by rw [cell_at hH3]; rfl
  have k4 : W3.cell? ⟨H, 4, none⟩ = some (.bool false) := by rw [cell_at hH3]; rfl
  have k5 : W3.cell? ⟨H, 5, none⟩ = some (.int .i64 0) := by rw [cell_at hH3]; rfl
  have k6 : W3.cell? ⟨H, 6, none⟩ = some (.slice none 0 0) := by rw [cell_at hH3]; rfl
  have k7 : W3.cell? ⟨H, 7, none⟩ = some (.slice none 0 0) := by rw [cell_at hH3]; rfl
  refine ⟨.tuple #[.agg #[.int .i64 0, .int .i64 0, .int .i64 0, .bool false, .bool false, .int .i64 0, .slice none 0 0, .slice none 0 0], .int .i64 5], ?_, rfl, hp3, HK3⟩
  simp [results, Tryz.results18, go_sem, k0, k1, k2, k3, k4, k5, k6, k7]

set_option maxRecDepth 100000 in
set_option maxHeartbeats 3200000 in
theorem ptxn_some (p g n cap i t : Nat) (v1 v2 v3 v5 : Value) (ov : Value) (st sa ag ne : Int) (wo wa : Bool) (r0 r1 r2 r3 : Int) (w : World) (h : w.heap[p]? = some (.cells #[.int .i32 0, v1, v2, v3, .slice (some ⟨g, 0, none⟩) n cap, v5] 95 (0, 0)))
    (hg : w.cell? ⟨g, i, none⟩ = some (.pointer (some ⟨t, 0, none⟩))) (hgp : g ≠ p) (ht : w.heap[t]? = some (.cells #[ov, .int .i64 st, .int .i64 sa, .int .i64 ag, .int .i64 ne, .bool wo, .bool wa, .int .i64 r0, .int .i64 r1, .int .i64 r2, .int .i64 r3, .slice none 0 0] 130 (0, 0))) (hi : i < n) (hn : n ≤ 1048576) :
    Calls Tryz.prog 18 #[.pointer (some ⟨p, 0, none⟩), .int .i64 ((i : Int) + 1)] w fun e w' => ∃ a k,
      e = .returned (.tuple #[.agg #[.int .i64 st, .int .i64 sa, .int .i64 ne, .bool wo, .bool wa, .int .i64 ag, .slice (some ⟨a, 0, none⟩) 4 4, .slice (some ⟨k, 0, none⟩) 0 0], .int .i64 0]) ∧ w.heap.size ≤ a ∧ w.heap.size ≤ k ∧
      w'.heap[a]? = some (.cells #[.int .i64 r0, .int .i64 r1, .int .i64 r2, .int .i64 r3] 3 (0, 0)) ∧ w'.heap[k]? = some (.cells #[] 80 (0, 0)) ∧
      w'.heap[p]? = some (.cells #[.int .i32 0, v1, v2, v3, .slice (some ⟨g, 0, none⟩) n cap, v5] 95 (0, 0)) ∧ Kept (Blk p) w w' := by
  obtain ⟨hb1, hH1, hk1⟩ := locked_room p w.heap.size _ _ _ _ _ w rfl h
  have hl := lt_of_block h
  have h1 := block_alloc_old (.cells #[.int .i64 0, .int .i64 0, .int .i64 0, .bool false, .bool false, .int .i64 0, .slice none 0 0, .slice none 0 0] 63) h
  have htp : t ≠ p := by
    intro e
    subst e
    rw [h] at ht
    simp at ht
  have HB : Hid _ := h1
  have HB1 : Hid _ := hb1
  have HH1 : Hid _ := hH1
  have HK1 : Hid _ := hk1
  have HG1 : Hid _ := hk1.cell hg hgp
  have HT1 : Hid _ := hk1.heap ht htp
  clear h h1 hb1 hH1 hk1 hg ht
  go_enter_defers Tryz.func18, Tryz.ntmps18
  go_wp2_with fail
  refine (lock_free Tryz.muLib ⟨p, 0, none⟩ _ ?_ ?_).mono ?_
  · rw [cell_at HB.out]; rfl
  · exact frozen_at HB.out _
  rintro e w1 ⟨rfl, rfl⟩
  go_wp2_with fail
  generalize ((w.setCell ⟨p, 0, none⟩ (.int .i32 1)).alloc (.cells #[.int .i64 0, .int .i64 0, .int .i64 0, .bool false, .bool false, .int .i64 0, .slice none 0 0, .slice none 0 0] 63)) = W1 at *
  refine (find_some p g n cap i _ W1 ?_ HG1.out hi hn).mono ?_
  · rw [cell_at HB1.out]; rfl
  rintro e w1 ⟨rfl, rfl⟩
  generalize hHH : w.heap.size = H at *
  have HH : Hid _ := hHH
  have hne : ¬ H = p := by omega
  clear hHH
  go_wp2_with fail
  refine (told_any t ov st sa ag ne wo wa r0 r1 r2 r3 w1 HT1.out).mono ?_
  rintro e w2 ⟨a, k, rfl, ha, hk, hga, hgk, hkw⟩
  have hH2 := hkw.heap HH1.out (fun x => x)
  have hp2 := hkw.heap HB1.out (fun x => x)
  have hlH := lt_of_block HH1.out
  have z0 : w2.cell? ⟨H, 0, none⟩ = some (.int .i64 0) := by rw [cell_at hH2]; rfl
  have z1 : w2.cell? ⟨H, 1, none⟩ = some (.int .i64 0) := by rw [cell_at hH2]; rfl
  have z2 : w2.cell? ⟨H, 2, none⟩ = some (.int .i64 0) := by rw [cell_at hH2]; rfl
  have z3 : w2.cell? ⟨H, 3, none⟩ = some (.bool false) := by rw [cell_at hH2]; rfl
  have z4 : w2.cell? ⟨H, 4, none⟩ = some (.bool false) := by rw [cell_at hH2]; rfl
  have z5 : w2.cell? ⟨H, 5, none⟩ = some (.int .i64 0) := by rw [cell_at hH2]; rfl
  have z6 : w2.cell? ⟨H, 6, none⟩ = some (.slice none 0 0) := by rw [cell_at hH2]; rfl
  have z7 : w2.cell? ⟨H, 7, none⟩ = some (.slice none 0 0) := by rw [cell_at hH2]; rfl
  have zf : ∀ o, w2.frozen? ⟨H, o, none⟩ = false := fun o => frozen_at hH2 o
  have HH2 : Hid _ := hH2
  have HP2 : Hid _ := hp2
  have HGA : Hid _ := hga
  have HGK : Hid _ := hgk
  have HKW : Hid _ := HK1.out.trans hkw (fun i x => x.elim)
  have na : a ≠ H := by omega
  have nk : k ≠ H := by omega
  have hpw := lt_of_block HB1.out
  have pa : a ≠ p := by omega
  have pk : k ≠ p := by omega
  clear hH2 hp2 hga hgk hkw
  go_wp2_with fail
  have hk2 := set8_kept w2 H (.int .i64 st) (.int .i64 sa) (.int .i64 ne) (.bool wo) (.bool wa) (.int .i64 ag) (.slice (some ⟨a, 0, none⟩) 4 4) (.slice (some ⟨k, 0, none⟩) 0 0)
  have hp2 := hk2.heap HP2.out (fun x => hne x.symm)
  have hH2 := set8_at w2 H (.int .i64 st) (.int .i64 sa) (.int .i64 ne) (.bool wo) (.bool wa) (.int .i64 ag) (.slice (some ⟨a, 0, none⟩) 4 4) (.slice (some ⟨k, 0, none⟩) 0 0) _ _ _ _ _ _ _ _ _ HH2.out
  have hga2 := hk2.heap HGA.out na
  have hgk2 := hk2.heap HGK.out nk
  have HK2 : Hid (Kept (Blk p) w (set8 w2 H (.int .i64 st) (.int .i64 sa) (.int .i64 ne) (.bool wo) (.bool wa) (.int .i64 ag) (.slice (some ⟨a, 0, none⟩) 4 4) (.slice (some ⟨k, 0, none⟩) 0 0))) := HKW.out.trans hk2 (fun i x => .inr (by cases x; exact Nat.le_of_eq HH.out))
  rw [show ((((((((w2.setCell ⟨H, 0, none⟩ (.int .i64 st)).setCell ⟨H, 1, none⟩ (.int .i64 sa)).setCell ⟨H, 2, none⟩ (.int .i64 ne)).setCell ⟨H, 3, none⟩ (.bool wo)).setCell ⟨H, 4, none⟩ (.bool wa)).setCell ⟨H, 5, none⟩ (.int .i64 ag)).setCell ⟨H, 6, none⟩ (.slice (some ⟨a, 0, none⟩) 4 4)).setCell ⟨H, 7, none⟩ (.slice (some ⟨k, 0, none⟩) 0 0)) = set8 w2 H (.int .i64 st) (.int .i64 sa) (.int .i64 ne) (.bool wo) (.bool wa) (.int .i64 ag) (.slice (some ⟨a, 0, none⟩) 4 4) (.slice (some ⟨k, 0, none⟩) 0 0) from rfl]
  clear hk2 z0 z1 z2 z3 z4 z5 z6 z7 zf
  generalize set8 w2 H (.int .i64 st) (.int .i64 sa) (.int .i64 ne) (.bool wo) (.bool wa) (.int .i64 ag) (.slice (some ⟨a, 0, none⟩) 4 4) (.slice (some ⟨k, 0, none⟩) 0 0) = W2 at *
  refine leaves_cons (f := 35) (args := #[.pointer (some ⟨p, 0, none⟩)]) (by simp) (by simp [go_sem]) ?_
  refine (unlock_deferred Tryz.muLib ⟨p, 0, none⟩ .returning _ ?_ ?_).mono ?_
  · rw [cell_at hp2]; rfl
  · exact frozen_at hp2 _
  rintro e u' w'' ⟨rfl, rfl, rfl⟩
  have hp3 := unlocked p _ _ _ _ _ _ hp2
  have hH3 := (block_setCell_other (a := ⟨p, 0, none⟩) (by exact hne) (.int .i32 0)).trans hH2
  have hga3 := (block_setCell_other (a := ⟨p, 0, none⟩) (by exact pa) (.int .i32 0)).trans hga2
  have hgk3 := (block_setCell_other (a := ⟨p, 0, none⟩) (by exact pk) (.int .i32 0)).trans hgk2
  have HK3 := HK2.out.setCell (p := ⟨p, 0, none⟩) (.inl rfl) (.int .i32 0)
  generalize W2.setCell ⟨p, 0, none⟩ (.int .i32 0) = W3 at *
  have k0 : W3.cell? ⟨H, 0, none⟩ = some (.int .i64 st) := by rw [cell_at hH3]; rfl
  have k1 : W3.cell? ⟨H, 1, none⟩ = some (.int .i64 sa) := by rw [cell_at hH3]; rfl
  have k2 : W3.cell? ⟨H, 2, none⟩ = some (.int .i64 ne) := by rw [cell_at hH3]; rfl
  have k3 : W3.cell? ⟨H, 3, none⟩ = some (.bool wo) := by rw [cell_at hH3]; rfl
  have k4 : W3.cell? ⟨H, 4, none⟩ = some (.bool wa) := by rw [cell_at hH3]; rfl
  have k5 : W3.cell? ⟨H, 5, none⟩ = some (.int .i64 ag) := by rw [cell_at hH3]; rfl
  have k6 : W3.cell? ⟨H, 6, none⟩ = some (.slice (some ⟨a, 0, none⟩) 4 4) := by rw [cell_at hH3]; rfl
  have k7 : W3.cell? ⟨H, 7, none⟩ = some (.slice (some ⟨k, 0, none⟩) 0 0) := by rw [cell_at hH3]; rfl
  refine ⟨.tuple #[.agg #[.int .i64 st, .int .i64 sa, .int .i64 ne, .bool wo, .bool wa, .int .i64 ag, .slice (some ⟨a, 0, none⟩) 4 4, .slice (some ⟨k, 0, none⟩) 0 0], .int .i64 0], ?_, a, k, rfl, by have := HH.out; omega, by have := HH.out; omega, hga3, hgk3, hp3, HK3⟩
  simp [results, Tryz.results18, go_sem, k0, k1, k2, k3, k4, k5, k6, k7]
end Go.Proofs.YtmplmoicliobaaaGreat
