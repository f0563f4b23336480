import Derived.Test.YtmplmoicliobaaaGreatFresh
import Derived.Deep.RegionHeld3
import Derived.Deep.DrawnRows
import Derived.WalkSpells
namespace Go.Proofs.YtmplmoicliobaaaGreat
open Go Go.RowKit
attribute [local go_sem ↓] Go.wp_at_zero Go.wp_at_succ

theorem Kept.cell' {w w' : World} (h : Kept NoBlk w w') {a : Addr} {v : Value} (hc : w.cell? a = some v) : w'.cell? a = some v := h.cell hc (fun x => x)

theorem Kept.frozen' {w w' : World} (h : Kept NoBlk w w') {b o' : Nat} {v : Value} (hc : w.cell? ⟨b, o', none⟩ = some v) (hf : ∀ o, w.frozen? ⟨b, o, none⟩ = false) : ∀ o, w'.frozen? ⟨b, o, none⟩ = false := fun o =>
  (World.frozen?_of_block (h.block b (World.block_lt_of_cell? w _ hc) (fun x => x))).trans (hf o)

theorem fromNil (w : World) (size : Nat) : FromMem w size (.slice none 0 0) 0 [] := ⟨⟨none, 0, rfl, fun _ => rfl, fun _ h => by cases h⟩, by simp, fun _ h => by cases h⟩

theorem from4 {w : World} {b o : Nat} {x0 x1 x2 x3 : Value} (h0 : w.cell? ⟨b, o, none⟩ = some x0) (h1 : w.cell? ⟨b, o + 1, none⟩ = some x1) (h2 : w.cell? ⟨b, o + 2, none⟩ = some x2) (h3 : w.cell? ⟨b, o + 3, none⟩ = some x3)
    (g0 : x0.oneCell' = true) (g1 : x1.oneCell' = true) (g2 : x2.oneCell' = true) (g3 : x3.oneCell' = true) (c : Nat) : FromMem w 1 (.slice (some ⟨b, o, none⟩) 4 c) 4 [x0, x1, x2, x3] := by
  refine ⟨⟨some ⟨b, o, none⟩, c, rfl, fun h => by simp at h, ?_⟩, rfl, ?_⟩
  · intro ad had j u hu
    obtain rfl := Option.some.inj had
    rw [Addr.add_lit]
    match j, hu with
    | 0, hu => simp at hu; subst hu; exact h0
    | 1, hu => simp at hu; subst hu; exact h1
    | 2, hu => simp at hu; subst hu; exact h2
    | 3, hu => simp at hu; subst hu; exact h3
    | j + 4, hu => simp at hu
  · intro u hu
    simp at hu
    rcases hu with rfl | rfl | rfl | rfl <;> assumption

/-- What the region that tells of a transaction leans on: the transaction's block, and the room of the answer. -/
def ToldPre (b H : Nat) (ov : Value) (st sa ag ne : Int) (wo wa : Bool) (r0 r1 r2 r3 : Int) (W : World) : Prop :=
  W.heap[b]? = some (.cells #[ov, .int .i64 st, .int .i64 sa, .int .i64 ag, .int .i64 ne, .bool wo, .bool wa, .int .i64 r0, .int .i64 r1, .int .i64 r2, .int .i64 r3, .slice none 0 0] 130 (0, 0)) ∧ b ≠ H ∧ ∃ cs : Array Value, cs.size = 8 ∧ W.heap[H]? = some (.cells cs 63 (0, 0))

section
variable {b H : Nat} {ov : Value} {st sa ag ne : Int} {wo wa : Bool} {r0 r1 r2 r3 : Int}
theorem ToldPre.kept {W W' : World} (hk : Kept NoBlk W W') (h : ToldPre b H ov st sa ag ne wo wa r0 r1 r2 r3 W) : ToldPre b H ov st sa ag ne wo wa r0 r1 r2 r3 W' := by
  obtain ⟨h1, hn, cs, hs, h2⟩ := h
  exact ⟨hk.heap h1 (fun x => x), hn, cs, hs, hk.heap h2 (fun x => x)⟩
theorem ToldPre.drew {W : World} (h : ToldPre b H ov st sa ag ne wo wa r0 r1 r2 r3 W) : ToldPre b H ov st sa ag ne wo wa r0 r1 r2 r3 W.drew := h
theorem ToldPre.setCell {W : World} (o : Nat) (v : Value) (h : ToldPre b H ov st sa ag ne wo wa r0 r1 r2 r3 W) : ToldPre b H ov st sa ag ne wo wa r0 r1 r2 r3 (W.setCell ⟨H, o, none⟩ v) := by
  obtain ⟨h1, hn, cs, hs, h2⟩ := h
  exact ⟨by rw [block_setCell_other (by exact hn)]; exact h1, hn, _, by simpa using hs, block_setCell h2 v⟩
theorem ToldPre.cells {w' : World} (h : ToldPre b H ov st sa ag ne wo wa r0 r1 r2 r3 w') : w'.cell? ⟨b, 1, none⟩ = some (.int .i64 st) ∧ w'.cell? ⟨b, 2, none⟩ = some (.int .i64 sa) ∧ w'.cell? ⟨b, 3, none⟩ = some (.int .i64 ag) ∧ w'.cell? ⟨b, 4, none⟩ = some (.int .i64 ne) ∧ w'.cell? ⟨b, 5, none⟩ = some (.bool wo) ∧ w'.cell? ⟨b, 6, none⟩ = some (.bool wa) ∧ w'.cell? ⟨b, 11, none⟩ = some (.slice none 0 0) ∧ ToldPre b H ov st sa ag ne wo wa r0 r1 r2 r3 w' := by
  have h1 := h.1
  refine ⟨?_, ?_, ?_, ?_, ?_, ?_, ?_, h⟩ <;> (rw [cell_at h1]; rfl)
theorem ToldPre.held {w' : World} (h : w'.cell? ⟨b, 1, none⟩ = some (.int .i64 st) ∧ w'.cell? ⟨b, 2, none⟩ = some (.int .i64 sa) ∧ w'.cell? ⟨b, 3, none⟩ = some (.int .i64 ag) ∧ w'.cell? ⟨b, 4, none⟩ = some (.int .i64 ne) ∧ w'.cell? ⟨b, 5, none⟩ = some (.bool wo) ∧ w'.cell? ⟨b, 6, none⟩ = some (.bool wa) ∧ w'.cell? ⟨b, 11, none⟩ = some (.slice none 0 0) ∧ ToldPre b H ov st sa ag ne wo wa r0 r1 r2 r3 w') : ToldPre b H ov st sa ag ne wo wa r0 r1 r2 r3 w' := h.2.2.2.2.2.2.2
theorem ToldPre.from4 {W : World} (h : ToldPre b H ov st sa ag ne wo wa r0 r1 r2 r3 W) : FromMem W 1 (.slice (some ⟨b, 7, none⟩) 4 4) 4 [.int .i64 r0, .int .i64 r1, .int .i64 r2, .int .i64 r3] := by
  have h1 := h.1
  refine YtmplmoicliobaaaGreat.from4 ?_ ?_ ?_ ?_ rfl rfl rfl rfl _ <;> (rw [cell_at h1]; rfl)
theorem ToldPre.room {W : World} (h : ToldPre b H ov st sa ag ne wo wa r0 r1 r2 r3 W) : (∃ x, W.cell? ⟨H, 0, none⟩ = some x) ∧ (∃ x, W.cell? ⟨H, 1, none⟩ = some x) ∧ (∃ x, W.cell? ⟨H, 2, none⟩ = some x) ∧ (∃ x, W.cell? ⟨H, 3, none⟩ = some x) ∧
    (∃ x, W.cell? ⟨H, 4, none⟩ = some x) ∧ (∃ x, W.cell? ⟨H, 5, none⟩ = some x) ∧ (∃ x, W.cell? ⟨H, 6, none⟩ = some x) ∧ (∃ x, W.cell? ⟨H, 7, none⟩ = some x) ∧ ∀ o, W.frozen? ⟨H, o, none⟩ = false := by
  obtain ⟨_, _, cs, hs, h2⟩ := h
  have hc : ∀ j, j < 8 → ∃ x, W.cell? ⟨H, j, none⟩ = some x := fun j hj => ⟨cs[j]'(by omega), by rw [cell_at h2]; exact Array.getElem?_eq_getElem _⟩
  exact ⟨hc 0 (by omega), hc 1 (by omega), hc 2 (by omega), hc 3 (by omega), hc 4 (by omega), hc 5 (by omega), hc 6 (by omega), hc 7 (by omega), fun o => frozen_at h2 o⟩
end

set_option maxRecDepth 100000 in
set_option maxHeartbeats 3200000 in
theorem told_any (b : Nat) (ov : Value) (st sa ag ne : Int) (wo wa : Bool) (r0 r1 r2 r3 : Int) (w : World)
    (h : w.heap[b]? = some (.cells #[ov, .int .i64 st, .int .i64 sa, .int .i64 ag, .int .i64 ne, .bool wo, .bool wa, .int .i64 r0, .int .i64 r1, .int .i64 r2, .int .i64 r3, .slice none 0 0] 130 (0, 0))) :
    Calls Tryz.prog 47 #[.pointer (some ⟨b, 0, none⟩)] w fun e w' => ∃ g k, e = .returned (.agg #[.int .i64 st, .int .i64 sa, .int .i64 ne, .bool wo, .bool wa, .int .i64 ag, .slice (some ⟨g, 0, none⟩) 4 4, .slice (some ⟨k, 0, none⟩) 0 0]) ∧
      w.heap.size ≤ g ∧ w.heap.size ≤ k ∧ w'.heap[g]? = some (.cells #[.int .i64 r0, .int .i64 r1, .int .i64 r2, .int .i64 r3] 3 (0, 0)) ∧ w'.heap[k]? = some (.cells #[] 80 (0, 0)) ∧ Kept NoBlk w w' := by
  have hb := lt_of_block h
  have hp0 : ToldPre b w.heap.size ov st sa ag ne wo wa r0 r1 r2 r3 (w.alloc (.cells #[.int .i64 0, .int .i64 0, .int .i64 0, .bool false, .bool false, .int .i64 0, .slice none 0 0, .slice none 0 0] 63)) :=
    ⟨block_alloc_old _ h, by omega, _, rfl, block_alloc_new w _⟩
  clear h
  have hsz : (w.alloc (.cells #[.int .i64 0, .int .i64 0, .int .i64 0, .bool false, .bool false, .int .i64 0, .slice none 0 0, .slice none 0 0] 63)).heap.size = w.heap.size + 1 := by simp
  go_enter Tryz.func47, Tryz.ntmps47
  go_wp2_with fail
  have HK0 : Hid (Kept NoBlk w (w.alloc (.cells #[.int .i64 0, .int .i64 0, .int .i64 0, .bool false, .bool false, .int .i64 0, .slice none 0 0, .slice none 0 0] 63))) := (Kept.refl _ _).alloc _
  generalize (w.alloc (.cells #[.int .i64 0, .int .i64 0, .int .i64 0, .bool false, .bool false, .int .i64 0, .slice none 0 0, .slice none 0 0] 63)) = W0 at *
  have hlt : Hid (w.heap.size < W0.heap.size) := by unfold Hid; omega
  generalize hH : w.heap.size = H at *
  have HH : Hid _ := hH
  clear hH
  clear hsz hb
  go_region_held3 (fun w' => w'.cell? ⟨b, 1, none⟩ = some (.int .i64 st) ∧ w'.cell? ⟨b, 2, none⟩ = some (.int .i64 sa) ∧ w'.cell? ⟨b, 3, none⟩ = some (.int .i64 ag) ∧ w'.cell? ⟨b, 4, none⟩ = some (.int .i64 ne) ∧ w'.cell? ⟨b, 5, none⟩ = some (.bool wo) ∧ w'.cell? ⟨b, 6, none⟩ = some (.bool wa) ∧ w'.cell? ⟨b, 11, none⟩ = some (.slice none 0 0) ∧ ToldPre b H ov st sa ag ne wo wa r0 r1 r2 r3 w')
    ((refine ToldPre.cells ?_; first | (refine ToldPre.setCell _ _ ?_; (repeat (refine ToldPre.setCell _ _ ?_)); exact ToldPre.held (by assumption)) | exact ToldPre.kept hk2 (ToldPre.held (by assumption)) | exact ToldPre.kept hk1 (ToldPre.drew hp0) | exact ToldPre.drew hp0))
    (first
      | (go_at_call 65; refine (freshInt _ 4 [.int .i64 r0, .int .i64 r1, .int .i64 r2, .int .i64 r3] _ (ToldPre.from4 (by first | assumption | exact ToldPre.held (by assumption))) (by omega)).mono ?_; rintro e w1 ⟨rfl, hg1, hk1⟩; obtain ⟨⟨x0, z0⟩, ⟨x1, z1⟩, ⟨x2, z2⟩, ⟨x3, z3⟩, ⟨x4, z4⟩, ⟨x5, z5⟩, ⟨x6, z6⟩, ⟨x7, z7⟩, zf⟩ := ToldPre.room (ToldPre.kept hk1 (by first | assumption | exact ToldPre.held (by assumption))))
      | (go_at_call 66; refine (freshSeen _ 0 [] _ (fromNil _ _) (by omega)).mono ?_; rintro e w2 ⟨rfl, hg2, hk2⟩; obtain ⟨⟨y0, z0⟩, ⟨y1, z1⟩, ⟨y2, z2⟩, ⟨y3, z3⟩, ⟨y4, z4⟩, ⟨y5, z5⟩, ⟨y6, z6⟩, ⟨y7, z7⟩, zf⟩ := ToldPre.room (ToldPre.kept hk2 (by first | assumption | exact ToldPre.held (by assumption)))))
  go_wp2
  have e1 : W0.heap.size ≤ w1.heap.size := hk1.size
  have n1 : W0.heap.size ≠ H := by have := hlt.out; omega
  have n2 : w1.heap.size ≠ H := by have := hlt.out; omega
  refine bodyPost_ret (v := .agg #[.int .i64 st, .int .i64 sa, .int .i64 ne, .bool wo, .bool wa, .int .i64 ag, .slice (some ⟨W0.heap.size, 0, none⟩) 4 4, .slice (some ⟨w1.heap.size, 0, none⟩) 0 0]) (by simp [results, Tryz.results47, go_sem, z0, z1, z2, z3, z4, z5, z6, z7]) rfl ?_
  refine ⟨W0.heap.size, w1.heap.size, rfl, by have := hlt.out; have := HH.out; omega, by have := hlt.out; have := HH.out; omega, ?_, ?_, ?_⟩
  · repeat rw [block_setCell_other (by exact n1)]
    exact hk2.heap hg1 (fun x => x)
  · repeat rw [block_setCell_other (by exact n2)]
    exact hg2
  · repeat (refine Kept.setCell ?_ (by right; exact Nat.le_of_eq HH.out) _)
    exact (HK0.out.drew.trans' hk1).trans' hk2
end Go.Proofs.YtmplmoicliobaaaGreat
