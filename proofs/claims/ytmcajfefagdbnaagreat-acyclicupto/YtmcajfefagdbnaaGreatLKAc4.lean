import Derived.Test.YtmcajfefagdbnaaGreatLKAc3
namespace Go.Proofs.YtmcajfefagdbnaaGreat
open Go Go.RowKit

/-- What turns nothing below a mark keeps. -/
def KpN (N : Nat) (A : World → Prop) : Prop := ∀ W W', Kept (fun k => N ≤ k) W W' → A W → A W'

theorem KpN.drew {N : Nat} {A : World → Prop} (h : KpN N A) {W : World} (ha : A W) : A W.drew := h _ _ ((Kept.refl _ W).drew) ha
theorem KpN.alloc {N : Nat} {A : World → Prop} (h : KpN N A) {W : World} (o : Obj) (ha : A W) : A (W.alloc o) := h _ _ ((Kept.refl _ W).alloc o) ha
theorem KpN.setCell {N : Nat} {A : World → Prop} (h : KpN N A) {W : World} (b o : Nat) (v : Value) (hb : N ≤ b) (ha : A W) : A (W.setCell ⟨b, o, none⟩ v) := h _ _ ((Kept.set1 W b o v).mono (fun k e => by unfold Blk at e; omega)) ha

theorem boxT0 {w9 : World} {b : Nat} (h1 : w9.heap[b]? = some (.cells #[.int .i64 0, .int .i64 0, .int .i64 0, .bool false, .bool false, .int .i64 0, .slice none 0 0, .slice none 0 0] 69 (0, 0))) : w9.cell? ⟨b, 0, none⟩ = some (.int .i64 0) ∧ w9.cell? ⟨b, 1, none⟩ = some (.int .i64 0) ∧ w9.cell? ⟨b, 2, none⟩ = some (.int .i64 0) ∧ w9.cell? ⟨b, 3, none⟩ = some (.bool false) ∧ w9.cell? ⟨b, 4, none⟩ = some (.bool false) ∧ w9.cell? ⟨b, 5, none⟩ = some (.int .i64 0) ∧ w9.cell? ⟨b, 6, none⟩ = some (.slice none 0 0) ∧ w9.cell? ⟨b, 7, none⟩ = some (.slice none 0 0) ∧ (∀ j, w9.frozen? ⟨b, j, none⟩ = false) := by
  refine ⟨?_, ?_, ?_, ?_, ?_, ?_, ?_, ?_, frozen_at h1⟩ <;> (rw [cell_at h1]; rfl)

theorem boxT {W w9 : World} {S : Nat → Prop} (hk : Kept S W w9) {b : Nat} (hn : ¬ S b) (h : W.heap[b]? = some (.cells #[.int .i64 0, .int .i64 0, .int .i64 0, .bool false, .bool false, .int .i64 0, .slice none 0 0, .slice none 0 0] 69 (0, 0))) : (w9.cell? ⟨b, 0, none⟩ = some (.int .i64 0) ∧ w9.cell? ⟨b, 1, none⟩ = some (.int .i64 0) ∧ w9.cell? ⟨b, 2, none⟩ = some (.int .i64 0) ∧ w9.cell? ⟨b, 3, none⟩ = some (.bool false) ∧ w9.cell? ⟨b, 4, none⟩ = some (.bool false) ∧ w9.cell? ⟨b, 5, none⟩ = some (.int .i64 0) ∧ w9.cell? ⟨b, 6, none⟩ = some (.slice none 0 0) ∧ w9.cell? ⟨b, 7, none⟩ = some (.slice none 0 0) ∧ (∀ j, w9.frozen? ⟨b, j, none⟩ = false)) ∧ w9.heap[b]? = some (.cells #[.int .i64 0, .int .i64 0, .int .i64 0, .bool false, .bool false, .int .i64 0, .slice none 0 0, .slice none 0 0] 69 (0, 0)) := ⟨boxT0 (hk.heap h hn), hk.heap h hn⟩

/-- What Txn told is put into the box. -/
theorem putT {W : World} {N b : Nat} {A : World → Prop} (hA : KpN N A) (ha : A W) (hb : N ≤ b) (h : W.heap[b]? = some (.cells #[.int .i64 0, .int .i64 0, .int .i64 0, .bool false, .bool false, .int .i64 0, .slice none 0 0, .slice none 0 0] 69 (0, 0))) (x0 x1 x2 x3 x4 x5 x6 x7 : Value) : A (set8 W b x0 x1 x2 x3 x4 x5 x6 x7) ∧ (set8 W b x0 x1 x2 x3 x4 x5 x6 x7).heap[b]? = some (.cells #[x0, x1, x2, x3, x4, x5, x6, x7] 69 (0, 0)) :=
  ⟨hA _ _ ((set8_kept W b x0 x1 x2 x3 x4 x5 x6 x7).mono (fun k e => by unfold Blk at e; omega)) ha, set8_at W b x0 x1 x2 x3 x4 x5 x6 x7 _ _ _ _ _ _ _ _ _ h⟩

end Go.Proofs.YtmcajfefagdbnaaGreat
