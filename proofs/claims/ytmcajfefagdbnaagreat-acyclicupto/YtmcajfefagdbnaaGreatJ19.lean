import Derived.Test.YtmcajfefagdbnaaGreatJ06
import Derived.Test.YtmcajfefagdbnaaGreatProg
import Derived.Test.YtmcajfefagdbnaaGreatJ09
import Derived.Deep.RegionHeld3
import Derived.Deep.DrawnRows
import Derived.WalkSpells
import Derived.Test.YtmcajfefagdbnaaGreatJ18
import Derived.Test.YtmcajfefagdbnaaGreatJ01
namespace Go.Proofs.YtmcajfefagdbnaaGreat
open Go Go.RowKit

theorem infoOp : (Tryz.prog.info? 114).map (fun i => (i.zero, i.size, i.bytes)) = some (some (.agg #[.int .i64 0, .int .i64 0, .int .i64 0, .int .i64 0]), 4, 32) := by kernel_rfl
theorem infoSeen : (Tryz.prog.info? 105).map (fun i => (i.zero, i.size, i.bytes)) = some (some (.agg #[.int .i64 0, .bool false, .int .i64 0]), 3, 24) := by kernel_rfl
theorem infoRow : (Tryz.prog.info? 95).map (fun i => (i.zero, i.size, i.bytes)) = some (some (.agg #[.int .i64 0, .int .i64 0]), 2, 16) := by kernel_rfl
theorem infoInt : (Tryz.prog.info? 3).map (fun i => (i.zero, i.size, i.bytes)) = some (some (.int .i64 0), 1, 8) := by kernel_rfl

set_option maxHeartbeats 800000 in
theorem freshOp (x : Value) (m : Nat) (cs : List Value) (w : World) (hx : FromMem w 4 x m cs) (hm : m ≤ 1048576) :
    Calls Tryz.prog 107 #[x] w fun e w' => e = .returned (.slice (some ⟨w.heap.size, 0, none⟩) m m) ∧ w'.heap[w.heap.size]? = some (.cells cs.toArray 114 (0, 0)) ∧ Kept NoBlk w w' := by
  obtain ⟨i, hi, hz0, hz1, hz2⟩ := info_parts infoOp
  have hsz : (Tryz.prog.info? 114).map (·.size) = some 4 := by rw [hi]; simp [hz1]
  obtain ⟨ao, c, rfl, hn, hc⟩ := hx.shape
  have hx' : FromMem (w.alloc (.cells (madeCells (Value.agg #[.int .i64 0, .int .i64 0, .int .i64 0, .int .i64 0]).cells (m * 4)) 114)) 4 (.slice ao m c) m cs :=
    ⟨⟨ao, c, rfl, hn, fun ad had j u hu => ((Kept.refl NoBlk w).alloc _).cell (hc ad had j u hu) (fun x => x)⟩, hx.len, hx.one⟩
  have HX : Hid _ := hx'
  have HB : Hid (i.bytes * m ≤ 281474976710656) := by unfold Hid; rw [hz2]; omega
  have HM : Hid (m ≤ maxLen) := by unfold Hid maxLen; omega
  have HL : Hid _ := hx.len
  have HS : Hid _ := hsz
  clear hx hx' hn hc hsz
  go_enter Tryz.func107, Tryz.ntmps107
  go_wp2_with (first
    | (at_make; refine wpList_make_at rfl _ _ 39 rfl 114 i _ 4 Tryz.underlying39 hi hz0 hz1 .i64 .i64 _ _ m m rfl rfl rfl rfl (Nat.le_refl _) HB.out HM.out ?_)
    | (refine wpList_copy_at (by rfl) _ _ 39 39 (by rfl) 114 4 Tryz.underlying39 HS.out w.heap.size m m (by rfl) _ 114 (block_alloc_new w _) _ m cs (by rfl) HX.out (Nat.le_refl _) (by rw [size_madeCells, HL.out]; exact Nat.le_refl _) ?_))
  intro w' hg hk
  go_wp2_with fail
  go_ret
  refine ⟨rfl, ?_, ((Kept.refl NoBlk w).alloc _).trans hk (fun i x => .inr (by cases x; exact Nat.le_refl _))⟩
  rw [hg, List.drop_of_length_le (by rw [Array.length_toList, size_madeCells, HL.out]; exact Nat.le_refl _), List.append_nil]

set_option maxHeartbeats 800000 in
theorem freshSeen (x : Value) (m : Nat) (cs : List Value) (w : World) (hx : FromMem w 3 x m cs) (hm : m ≤ 1048576) :
    Calls Tryz.prog 98 #[x] w fun e w' => e = .returned (.slice (some ⟨w.heap.size, 0, none⟩) m m) ∧ w'.heap[w.heap.size]? = some (.cells cs.toArray 105 (0, 0)) ∧ Kept NoBlk w w' := by
  obtain ⟨i, hi, hz0, hz1, hz2⟩ := info_parts infoSeen
  have hsz : (Tryz.prog.info? 105).map (·.size) = some 3 := by rw [hi]; simp [hz1]
  obtain ⟨ao, c, rfl, hn, hc⟩ := hx.shape
  have hx' : FromMem (w.alloc (.cells (madeCells (Value.agg #[.int .i64 0, .bool false, .int .i64 0]).cells (m * 3)) 105)) 3 (.slice ao m c) m cs :=
    ⟨⟨ao, c, rfl, hn, fun ad had j u hu => ((Kept.refl NoBlk w).alloc _).cell (hc ad had j u hu) (fun x => x)⟩, hx.len, hx.one⟩
  have HX : Hid _ := hx'
  have HB : Hid (i.bytes * m ≤ 281474976710656) := by unfold Hid; rw [hz2]; omega
  have HM : Hid (m ≤ maxLen) := by unfold Hid maxLen; omega
  have HL : Hid _ := hx.len
  have HS : Hid _ := hsz
  clear hx hx' hn hc hsz
  go_enter Tryz.func98, Tryz.ntmps98
  go_wp2_with (first
    | (at_make; refine wpList_make_at rfl _ _ 61 rfl 105 i _ 3 Tryz.underlying61 hi hz0 hz1 .i64 .i64 _ _ m m rfl rfl rfl rfl (Nat.le_refl _) HB.out HM.out ?_)
    | (refine wpList_copy_at (by rfl) _ _ 61 61 (by rfl) 105 3 Tryz.underlying61 HS.out w.heap.size m m (by rfl) _ 105 (block_alloc_new w _) _ m cs (by rfl) HX.out (Nat.le_refl _) (by rw [size_madeCells, HL.out]; exact Nat.le_refl _) ?_))
  intro w' hg hk
  go_wp2_with fail
  go_ret
  refine ⟨rfl, ?_, ((Kept.refl NoBlk w).alloc _).trans hk (fun i x => .inr (by cases x; exact Nat.le_refl _))⟩
  rw [hg, List.drop_of_length_le (by rw [Array.length_toList, size_madeCells, HL.out]; exact Nat.le_refl _), List.append_nil]

set_option maxHeartbeats 800000 in
theorem freshInt (x : Value) (m : Nat) (cs : List Value) (w : World) (hx : FromMem w 1 x m cs) (hm : m ≤ 1048576) :
    Calls Tryz.prog 68 #[x] w fun e w' => e = .returned (.slice (some ⟨w.heap.size, 0, none⟩) m m) ∧ w'.heap[w.heap.size]? = some (.cells cs.toArray 3 (0, 0)) ∧ Kept NoBlk w w' := by
  obtain ⟨i, hi, hz0, hz1, hz2⟩ := info_parts infoInt
  have hsz : (Tryz.prog.info? 3).map (·.size) = some 1 := by rw [hi]; simp [hz1]
  obtain ⟨ao, c, rfl, hn, hc⟩ := hx.shape
  have hx' : FromMem (w.alloc (.cells (madeCells (Value.int .i64 0).cells m) 3)) 1 (.slice ao m c) m cs :=
    ⟨⟨ao, c, rfl, hn, fun ad had j u hu => ((Kept.refl NoBlk w).alloc _).cell (hc ad had j u hu) (fun x => x)⟩, hx.len, hx.one⟩
  have HX : Hid _ := hx'
  have HB : Hid (i.bytes * m ≤ 281474976710656) := by unfold Hid; rw [hz2]; omega
  have HM : Hid (m ≤ maxLen) := by unfold Hid maxLen; omega
  have HL : Hid _ := hx.len
  have HS : Hid _ := hsz
  clear hx hx' hn hc hsz
  go_enter Tryz.func68, Tryz.ntmps68
  go_wp2_with (first
    | (at_make; refine wpList_make_at rfl _ _ 45 rfl 3 i _ 1 Tryz.underlying45 hi hz0 hz1 .i64 .i64 _ _ m m rfl rfl rfl rfl (Nat.le_refl _) HB.out HM.out ?_)
    | (refine wpList_copy_at (by rfl) _ _ 45 45 (by rfl) 3 1 Tryz.underlying45 HS.out w.heap.size m m (by rfl) _ 3 (block_alloc_new w _) _ m cs (by rfl) HX.out (Nat.le_refl _) (by rw [size_madeCells, HL.out]; omega) ?_))
  intro w' hg hk
  go_wp2_with fail
  go_ret
  refine ⟨rfl, ?_, ((Kept.refl NoBlk w).alloc _).trans hk (fun i x => .inr (by cases x; exact Nat.le_refl _))⟩
  rw [hg, List.drop_of_length_le (by rw [Array.length_toList, size_madeCells, HL.out]; omega), List.append_nil]

end Go.Proofs.YtmcajfefagdbnaaGreat

namespace Go.Proofs.YtmcajfefagdbnaaGreat
open Go Go.RowKit
attribute [local go_sem ↓] Go.wp_at_zero Go.wp_at_succ

theorem Kept.cell' {w w' : World} (h : Kept NoBlk w w') {a : Addr} {v : Value} (hc : w.cell? a = some v) : w'.cell? a = some v := h.cell hc (fun x => x)

theorem Kept.frozen' {w w' : World} (h : Kept NoBlk w w') {b o' : Nat} {v : Value} (hc : w.cell? ⟨b, o', none⟩ = some v) (hf : ∀ o, w.frozen? ⟨b, o, none⟩ = false) : ∀ o, w'.frozen? ⟨b, o, none⟩ = false := fun o =>
  (World.frozen?_of_block (h.block b (World.block_lt_of_cell? w _ hc) (fun x => x))).trans (hf o)

theorem fromNil (w : World) (size : Nat) : FromMem w size (.slice none 0 0) 0 [] := ⟨⟨none, 0, rfl, fun _ => rfl, fun _ h => by cases h⟩, by simp, fun _ h => by cases h⟩

theorem from4 {w : World} {b o : Nat} {x0 x1 x2 x3 : Value} (h0 : w.cell? ⟨b, o, none⟩ = some x0) (h1 : w.cell? ⟨b, o + 1, none⟩ = some x1) (h2 : w.cell? ⟨b, o + 2, none⟩ = some x2) (h3 : w.cell? ⟨b, o + 3, none⟩ = some x3)
    (g0 : x0.oneCell' = true) (g1 : x1.oneCell' = true) (g2 : x2.oneCell' = true) (g3 : x3.oneCell' = true) (c : Nat) : FromMem w 1 (.slice (some ⟨b, o, none⟩) 4 c) 4 [x0, x1, x2, x3] := by
  refine ⟨⟨some ⟨b, o, none⟩, c, rfl, fun h => by simp at h, ?_⟩, rfl, ?_⟩
  · intro ad had j u hu
    obtain rfl := Option.some.inj had
    rw [Addr.add_lit]
    match j, hu with
    | 0, hu => simp at hu; subst hu; exact h0
    | 1, hu => simp at hu; subst hu; exact h1
    | 2, hu => simp at hu; subst hu; exact h2
    | 3, hu => simp at hu; subst hu; exact h3
    | j + 4, hu => simp at hu
  · intro u hu
    simp at hu
    rcases hu with rfl | rfl | rfl | rfl <;> assumption

/-- What the region that tells of a transaction leans on: the transaction's block, and the room of the answer. -/
def ToldPre (b H : Nat) (nm ov rv dv : Value) (st sa ag ne : Int) (wo wa : Bool) (r0 r1 r2 r3 : Int) (nr : Nat) (sc : List Value) (W : World) : Prop :=
  W.heap[b]? = some (.cells #[nm, ov, .int .i64 st, .int .i64 sa, .int .i64 ag, .int .i64 ne, .bool wo, .bool wa, .int .i64 r0, .int .i64 r1, .int .i64 r2, .int .i64 r3, rv, dv] 146 (0, 0)) ∧ b ≠ H ∧ ∃ cs : Array Value, cs.size = 8 ∧ W.heap[H]? = some (.cells cs 69 (0, 0)) ∧ RowAt W 105 3 rv nr sc ∧ (∀ k, rv.ownBlock = some k → k ≠ H) ∧ (∀ u ∈ sc, u.oneCell' = true) ∧ nr ≤ 12

section
variable {b H : Nat} {nm ov rv dv : Value} {st sa ag ne : Int} {wo wa : Bool} {r0 r1 r2 r3 : Int} {nr : Nat} {sc : List Value}
theorem ToldPre.kept {W W' : World} (hk : Kept NoBlk W W') (h : ToldPre b H nm ov rv dv st sa ag ne wo wa r0 r1 r2 r3 nr sc W) : ToldPre b H nm ov rv dv st sa ag ne wo wa r0 r1 r2 r3 nr sc W' := by
  obtain ⟨h1, hn, cs, hs, h2, h3, h4, h5, h6⟩ := h
  exact ⟨hk.heap h1 (fun x => x), hn, cs, hs, hk.heap h2 (fun x => x), h3.kept hk (fun _ _ x => x), h4, h5, h6⟩
theorem ToldPre.drew {W : World} (h : ToldPre b H nm ov rv dv st sa ag ne wo wa r0 r1 r2 r3 nr sc W) : ToldPre b H nm ov rv dv st sa ag ne wo wa r0 r1 r2 r3 nr sc W.drew := h
theorem ToldPre.setCell {W : World} (o : Nat) (v : Value) (h : ToldPre b H nm ov rv dv st sa ag ne wo wa r0 r1 r2 r3 nr sc W) : ToldPre b H nm ov rv dv st sa ag ne wo wa r0 r1 r2 r3 nr sc (W.setCell ⟨H, o, none⟩ v) := by
  obtain ⟨h1, hn, cs, hs, h2, h3, h4, h5, h6⟩ := h
  exact ⟨by rw [block_setCell_other (by exact hn)]; exact h1, hn, _, by simpa using hs, block_setCell h2 v, h3.of_block (fun k hk => block_setCell_other (by exact h4 k hk) v), h4, h5, h6⟩
theorem ToldPre.cells {w' : World} (h : ToldPre b H nm ov rv dv st sa ag ne wo wa r0 r1 r2 r3 nr sc w') : w'.cell? ⟨b, 2, none⟩ = some (.int .i64 st) ∧ w'.cell? ⟨b, 3, none⟩ = some (.int .i64 sa) ∧ w'.cell? ⟨b, 4, none⟩ = some (.int .i64 ag) ∧ w'.cell? ⟨b, 5, none⟩ = some (.int .i64 ne) ∧ w'.cell? ⟨b, 6, none⟩ = some (.bool wo) ∧ w'.cell? ⟨b, 7, none⟩ = some (.bool wa) ∧ w'.cell? ⟨b, 12, none⟩ = some rv ∧ ToldPre b H nm ov rv dv st sa ag ne wo wa r0 r1 r2 r3 nr sc w' := by
  have h1 := h.1
  refine ⟨?_, ?_, ?_, ?_, ?_, ?_, ?_, h⟩ <;> (rw [cell_at h1]; rfl)
theorem ToldPre.held {w' : World} (h : w'.cell? ⟨b, 2, none⟩ = some (.int .i64 st) ∧ w'.cell? ⟨b, 3, none⟩ = some (.int .i64 sa) ∧ w'.cell? ⟨b, 4, none⟩ = some (.int .i64 ag) ∧ w'.cell? ⟨b, 5, none⟩ = some (.int .i64 ne) ∧ w'.cell? ⟨b, 6, none⟩ = some (.bool wo) ∧ w'.cell? ⟨b, 7, none⟩ = some (.bool wa) ∧ w'.cell? ⟨b, 12, none⟩ = some rv ∧ ToldPre b H nm ov rv dv st sa ag ne wo wa r0 r1 r2 r3 nr sc w') : ToldPre b H nm ov rv dv st sa ag ne wo wa r0 r1 r2 r3 nr sc w' := h.2.2.2.2.2.2.2
theorem ToldPre.from4 {W : World} (h : ToldPre b H nm ov rv dv st sa ag ne wo wa r0 r1 r2 r3 nr sc W) : FromMem W 1 (.slice (some ⟨b, 8, none⟩) 4 4) 4 [.int .i64 r0, .int .i64 r1, .int .i64 r2, .int .i64 r3] := by
  have h1 := h.1
  refine YtmcajfefagdbnaaGreat.from4 ?_ ?_ ?_ ?_ rfl rfl rfl rfl _ <;> (rw [cell_at h1]; rfl)
theorem ToldPre.reads {W : World} (h : ToldPre b H nm ov rv dv st sa ag ne wo wa r0 r1 r2 r3 nr sc W) : FromMem W 3 rv nr sc := by
  obtain ⟨_, _, cs, hs, h2, h3, h4, h5, h6⟩ := h
  exact h3.mem h5
theorem ToldPre.room {W : World} (h : ToldPre b H nm ov rv dv st sa ag ne wo wa r0 r1 r2 r3 nr sc W) : (∃ x, W.cell? ⟨H, 0, none⟩ = some x) ∧ (∃ x, W.cell? ⟨H, 1, none⟩ = some x) ∧ (∃ x, W.cell? ⟨H, 2, none⟩ = some x) ∧ (∃ x, W.cell? ⟨H, 3, none⟩ = some x) ∧
    (∃ x, W.cell? ⟨H, 4, none⟩ = some x) ∧ (∃ x, W.cell? ⟨H, 5, none⟩ = some x) ∧ (∃ x, W.cell? ⟨H, 6, none⟩ = some x) ∧ (∃ x, W.cell? ⟨H, 7, none⟩ = some x) ∧ ∀ o, W.frozen? ⟨H, o, none⟩ = false := by
  obtain ⟨_, _, cs, hs, h2, _⟩ := h
  have hc : ∀ j, j < 8 → ∃ x, W.cell? ⟨H, j, none⟩ = some x := fun j hj => ⟨cs[j]'(by omega), by rw [cell_at h2]; exact Array.getElem?_eq_getElem _⟩
  exact ⟨hc 0 (by omega), hc 1 (by omega), hc 2 (by omega), hc 3 (by omega), hc 4 (by omega), hc 5 (by omega), hc 6 (by omega), hc 7 (by omega), fun o => frozen_at h2 o⟩
end

set_option maxRecDepth 100000 in
set_option maxHeartbeats 3200000 in
theorem told_any (b : Nat) (nm ov rv dv : Value) (st sa ag ne : Int) (wo wa : Bool) (r0 r1 r2 r3 : Int) (nr : Nat) (sc : List Value) (w : World)
    (h : w.heap[b]? = some (.cells #[nm, ov, .int .i64 st, .int .i64 sa, .int .i64 ag, .int .i64 ne, .bool wo, .bool wa, .int .i64 r0, .int .i64 r1, .int .i64 r2, .int .i64 r3, rv, dv] 146 (0, 0))) (hr : RowAt w 105 3 rv nr sc) (hs1 : ∀ u ∈ sc, u.oneCell' = true) (hn12 : nr ≤ 12) :
    Calls Tryz.prog 64 #[.pointer (some ⟨b, 0, none⟩)] w fun e w' => ∃ g k, e = .returned (.agg #[.int .i64 st, .int .i64 sa, .int .i64 ne, .bool wo, .bool wa, .int .i64 ag, .slice (some ⟨g, 0, none⟩) 4 4, .slice (some ⟨k, 0, none⟩) nr nr]) ∧
      w.heap.size ≤ g ∧ w.heap.size ≤ k ∧ w'.heap[g]? = some (.cells #[.int .i64 r0, .int .i64 r1, .int .i64 r2, .int .i64 r3] 3 (0, 0)) ∧ w'.heap[k]? = some (.cells sc.toArray 105 (0, 0)) ∧ Kept NoBlk w w' := by
  have hb := lt_of_block h
  have hp0 : ToldPre b w.heap.size nm ov rv dv st sa ag ne wo wa r0 r1 r2 r3 nr sc (w.alloc (.cells #[.int .i64 0, .int .i64 0, .int .i64 0, .bool false, .bool false, .int .i64 0, .slice none 0 0, .slice none 0 0] 69)) :=
    ⟨block_alloc_old _ h, by omega, _, rfl, block_alloc_new w _, hr.kept ((Kept.refl NoBlk w).alloc _) (fun _ _ x => x), fun k hk => by have := hr.lt k hk; omega, hs1, hn12⟩
  obtain ⟨ar, cr, rfl, _, _⟩ := hr.form
  have HN12 : Hid (nr ≤ 1048576) := by unfold Hid; omega
  clear h hr hs1 hn12
  have hsz : (w.alloc (.cells #[.int .i64 0, .int .i64 0, .int .i64 0, .bool false, .bool false, .int .i64 0, .slice none 0 0, .slice none 0 0] 69)).heap.size = w.heap.size + 1 := by simp
  go_enter Tryz.func64, Tryz.ntmps64
  go_wp2_with fail
  have HK0 : Hid (Kept NoBlk w (w.alloc (.cells #[.int .i64 0, .int .i64 0, .int .i64 0, .bool false, .bool false, .int .i64 0, .slice none 0 0, .slice none 0 0] 69))) := (Kept.refl _ _).alloc _
  generalize (w.alloc (.cells #[.int .i64 0, .int .i64 0, .int .i64 0, .bool false, .bool false, .int .i64 0, .slice none 0 0, .slice none 0 0] 69)) = W0 at *
  have hlt : Hid (w.heap.size < W0.heap.size) := by unfold Hid; omega
  generalize hH : w.heap.size = H at *
  have HH : Hid _ := hH
  clear hH
  clear hsz hb
  go_region_held3 (fun w' => w'.cell? ⟨b, 2, none⟩ = some (.int .i64 st) ∧ w'.cell? ⟨b, 3, none⟩ = some (.int .i64 sa) ∧ w'.cell? ⟨b, 4, none⟩ = some (.int .i64 ag) ∧ w'.cell? ⟨b, 5, none⟩ = some (.int .i64 ne) ∧ w'.cell? ⟨b, 6, none⟩ = some (.bool wo) ∧ w'.cell? ⟨b, 7, none⟩ = some (.bool wa) ∧ w'.cell? ⟨b, 12, none⟩ = some (.slice ar nr cr) ∧ ToldPre b H nm ov (.slice ar nr cr) dv st sa ag ne wo wa r0 r1 r2 r3 nr sc w')
    ((refine ToldPre.cells ?_; first | (refine ToldPre.setCell _ _ ?_; (repeat (refine ToldPre.setCell _ _ ?_)); exact ToldPre.held (by assumption)) | exact ToldPre.kept hk2 (ToldPre.held (by assumption)) | exact ToldPre.kept hk1 (ToldPre.drew hp0) | exact ToldPre.drew hp0))
    (first
      | (go_at_call 68; refine (freshInt _ 4 [.int .i64 r0, .int .i64 r1, .int .i64 r2, .int .i64 r3] _ (ToldPre.from4 (by first | assumption | exact ToldPre.held (by assumption))) (by omega)).mono ?_; rintro e w1 ⟨rfl, hg1, hk1⟩; obtain ⟨⟨x0, z0⟩, ⟨x1, z1⟩, ⟨x2, z2⟩, ⟨x3, z3⟩, ⟨x4, z4⟩, ⟨x5, z5⟩, ⟨x6, z6⟩, ⟨x7, z7⟩, zf⟩ := ToldPre.room (ToldPre.kept hk1 (by first | assumption | exact ToldPre.held (by assumption))))
      | (go_at_call 98; refine (freshSeen _ nr sc _ (ToldPre.reads (by first | assumption | exact ToldPre.held (by assumption))) HN12.out).mono ?_; rintro e w2 ⟨rfl, hg2, hk2⟩; obtain ⟨⟨y0, z0⟩, ⟨y1, z1⟩, ⟨y2, z2⟩, ⟨y3, z3⟩, ⟨y4, z4⟩, ⟨y5, z5⟩, ⟨y6, z6⟩, ⟨y7, z7⟩, zf⟩ := ToldPre.room (ToldPre.kept hk2 (by first | assumption | exact ToldPre.held (by assumption)))))
  go_wp2
  have e1 : W0.heap.size ≤ w1.heap.size := hk1.size
  have n1 : W0.heap.size ≠ H := by have := hlt.out; omega
  have n2 : w1.heap.size ≠ H := by have := hlt.out; omega
  refine bodyPost_ret (v := .agg #[.int .i64 st, .int .i64 sa, .int .i64 ne, .bool wo, .bool wa, .int .i64 ag, .slice (some ⟨W0.heap.size, 0, none⟩) 4 4, .slice (some ⟨w1.heap.size, 0, none⟩) nr nr]) (by simp [results, Tryz.results64, go_sem, z0, z1, z2, z3, z4, z5, z6, z7]) rfl ?_
  refine ⟨W0.heap.size, w1.heap.size, rfl, by have := hlt.out; have := HH.out; omega, by have := hlt.out; have := HH.out; omega, ?_, ?_, ?_⟩
  · repeat rw [block_setCell_other (by exact n1)]
    exact hk2.heap hg1 (fun x => x)
  · repeat rw [block_setCell_other (by exact n2)]
    exact hg2
  · repeat (refine Kept.setCell ?_ (by right; exact Nat.le_of_eq HH.out) _)
    exact (HK0.out.drew.trans' hk1).trans' hk2
end Go.Proofs.YtmcajfefagdbnaaGreat

namespace Go.Proofs.YtmcajfefagdbnaaGreat
open Go Go.RowKit
open Go.MuLone

/-- Eight cells, stored one behind the other. -/
def set8 (w : World) (H : Nat) (x0 x1 x2 x3 x4 x5 x6 x7 : Value) : World :=
  (((((((w.setCell ⟨H, 0, none⟩ x0).setCell ⟨H, 1, none⟩ x1).setCell ⟨H, 2, none⟩ x2).setCell ⟨H, 3, none⟩ x3).setCell ⟨H, 4, none⟩ x4).setCell ⟨H, 5, none⟩ x5).setCell ⟨H, 6, none⟩ x6).setCell ⟨H, 7, none⟩ x7

theorem set8_at (w : World) (H : Nat) (x0 x1 x2 x3 x4 x5 x6 x7 y0 y1 y2 y3 y4 y5 y6 y7 : Value) (t : TypeId) (h : w.heap[H]? = some (.cells #[y0, y1, y2, y3, y4, y5, y6, y7] t (0, 0))) :
    (set8 w H x0 x1 x2 x3 x4 x5 x6 x7).heap[H]? = some (.cells #[x0, x1, x2, x3, x4, x5, x6, x7] t (0, 0)) := by
  have h0 : (w.setCell ⟨H, 0, none⟩ x0).heap[H]? = some (.cells #[x0, y1, y2, y3, y4, y5, y6, y7] t (0, 0)) := block_setCell h x0
  have h1 : ((w.setCell ⟨H, 0, none⟩ x0).setCell ⟨H, 1, none⟩ x1).heap[H]? = some (.cells #[x0, x1, y2, y3, y4, y5, y6, y7] t (0, 0)) := block_setCell h0 x1
  have h2 : (((w.setCell ⟨H, 0, none⟩ x0).setCell ⟨H, 1, none⟩ x1).setCell ⟨H, 2, none⟩ x2).heap[H]? = some (.cells #[x0, x1, x2, y3, y4, y5, y6, y7] t (0, 0)) := block_setCell h1 x2
  have h3 : ((((w.setCell ⟨H, 0, none⟩ x0).setCell ⟨H, 1, none⟩ x1).setCell ⟨H, 2, none⟩ x2).setCell ⟨H, 3, none⟩ x3).heap[H]? = some (.cells #[x0, x1, x2, x3, y4, y5, y6, y7] t (0, 0)) := block_setCell h2 x3
  have h4 : (((((w.setCell ⟨H, 0, none⟩ x0).setCell ⟨H, 1, none⟩ x1).setCell ⟨H, 2, none⟩ x2).setCell ⟨H, 3, none⟩ x3).setCell ⟨H, 4, none⟩ x4).heap[H]? = some (.cells #[x0, x1, x2, x3, x4, y5, y6, y7] t (0, 0)) := block_setCell h3 x4
  have h5 : ((((((w.setCell ⟨H, 0, none⟩ x0).setCell ⟨H, 1, none⟩ x1).setCell ⟨H, 2, none⟩ x2).setCell ⟨H, 3, none⟩ x3).setCell ⟨H, 4, none⟩ x4).setCell ⟨H, 5, none⟩ x5).heap[H]? = some (.cells #[x0, x1, x2, x3, x4, x5, y6, y7] t (0, 0)) := block_setCell h4 x5
  have h6 : (((((((w.setCell ⟨H, 0, none⟩ x0).setCell ⟨H, 1, none⟩ x1).setCell ⟨H, 2, none⟩ x2).setCell ⟨H, 3, none⟩ x3).setCell ⟨H, 4, none⟩ x4).setCell ⟨H, 5, none⟩ x5).setCell ⟨H, 6, none⟩ x6).heap[H]? = some (.cells #[x0, x1, x2, x3, x4, x5, x6, y7] t (0, 0)) := block_setCell h5 x6
  have h7 : ((((((((w.setCell ⟨H, 0, none⟩ x0).setCell ⟨H, 1, none⟩ x1).setCell ⟨H, 2, none⟩ x2).setCell ⟨H, 3, none⟩ x3).setCell ⟨H, 4, none⟩ x4).setCell ⟨H, 5, none⟩ x5).setCell ⟨H, 6, none⟩ x6).setCell ⟨H, 7, none⟩ x7).heap[H]? = some (.cells #[x0, x1, x2, x3, x4, x5, x6, x7] t (0, 0)) := block_setCell h6 x7
  exact h7

theorem set8_kept (w : World) (H : Nat) (x0 x1 x2 x3 x4 x5 x6 x7 : Value) : Kept (Blk H) w (set8 w H x0 x1 x2 x3 x4 x5 x6 x7) := by
  unfold set8
  repeat (refine Kept.setCell ?_ (.inl (by rfl)) _)
  exact Kept.refl _ _

set_option maxRecDepth 100000 in
set_option maxHeartbeats 3200000 in
theorem pTxn_none {L : Lay} {bs : Nat → Nat} {A : List Nat} {ow : Ow} {m : Nat} {lv : Int} {s : St} {w : World} (h : PSt L bs A ow m 0 lv s w) (id : Int) (hi : id < 1 ∨ (s.n : Int) < id) :
    Calls Tryz.prog 23 #[.pointer (some ⟨L.p, 0, none⟩), .int .i64 id] w fun e w' =>
      e = .returned (.tuple #[.agg #[.int .i64 0, .int .i64 0, .int .i64 0, .bool false, .bool false, .int .i64 0, .slice none 0 0, .slice none 0 0], .int .i64 5]) ∧ PSt L bs A ow m 0 lv s w' ∧ Kept (OwnP ow) w w' := by
  have hk0 : Kept NoBlk w (w.alloc (.cells #[.int .i64 0, .int .i64 0, .int .i64 0, .bool false, .bool false, .int .i64 0, .slice none 0 0, .slice none 0 0] 69)) := (Kept.refl _ _).alloc _
  have h0 := h.kept0 hk0
  have hH0 : (w.alloc (.cells #[.int .i64 0, .int .i64 0, .int .i64 0, .bool false, .bool false, .int .i64 0, .slice none 0 0, .slice none 0 0] 69)).heap[w.heap.size]? = some (.cells #[.int .i64 0, .int .i64 0, .int .i64 0, .bool false, .bool false, .int .i64 0, .slice none 0 0, .slice none 0 0] 69 (0, 0)) := block_alloc_new w _
  have hpl : L.p < w.heap.size := h.lt _ h.ownP
  have HPL : Hid (w.heap.size ≠ L.p) := by unfold Hid; omega
  have HK0 : Hid (Kept NoBlk w (w.alloc (.cells #[.int .i64 0, .int .i64 0, .int .i64 0, .bool false, .bool false, .int .i64 0, .slice none 0 0, .slice none 0 0] 69))) := hk0
  have HH0 : Hid ((w.alloc (.cells #[.int .i64 0, .int .i64 0, .int .i64 0, .bool false, .bool false, .int .i64 0, .slice none 0 0, .slice none 0 0] 69)).heap[w.heap.size]? = some (.cells #[.int .i64 0, .int .i64 0, .int .i64 0, .bool false, .bool false, .int .i64 0, .slice none 0 0, .slice none 0 0] 69 (0, 0))) := hH0
  have H0 : Hid (PSt L bs A ow m 0 lv s (w.alloc (.cells #[.int .i64 0, .int .i64 0, .int .i64 0, .bool false, .bool false, .int .i64 0, .slice none 0 0, .slice none 0 0] 69))) := h0
  have HOP : Hid (OwnP ow L.p) := h.ownP
  have HNO : Hid (¬ OwnP ow w.heap.size) := fun e => by have := h.lt _ e; omega
  have HI : Hid (id < 1 ∨ (s.n : Int) < id) := hi
  clear h h0 hk0 hH0 hpl hi
  go_enter_defers Tryz.func23, Tryz.ntmps23
  go_wp2_with fail
  generalize (w.alloc (.cells #[.int .i64 0, .int .i64 0, .int .i64 0, .bool false, .bool false, .int .i64 0, .slice none 0 0, .slice none 0 0] 69)) = W0 at *
  refine (lock_free Tryz.muLib ⟨L.p, 0, none⟩ _ H0.out.mucell.1 H0.out.mucell.2).mono ?_
  rintro e w1 ⟨rfl, rfl⟩
  have H1 : Hid (PSt L bs A ow m 1 lv s (W0.setCell ⟨L.p, 0, none⟩ (.int .i32 1))) := H0.out.locked 1
  have HH1 : Hid ((W0.setCell ⟨L.p, 0, none⟩ (.int .i32 1)).heap[w.heap.size]? = some (.cells #[.int .i64 0, .int .i64 0, .int .i64 0, .bool false, .bool false, .int .i64 0, .slice none 0 0, .slice none 0 0] 69 (0, 0))) := (block_setCell_other (a := ⟨L.p, 0, none⟩) (by exact HPL.out) (.int .i32 1)).trans HH0.out
  have HK1 : Hid (Kept (OwnP ow) w (W0.setCell ⟨L.p, 0, none⟩ (.int .i32 1))) := (HK0.out.mono (fun _ x => x.elim)).trans' (H0.out.keptP _)
  generalize W0.setCell ⟨L.p, 0, none⟩ (.int .i32 1) = W1 at *
  clear HH0 HK0 H0
  generalize hHH : w.heap.size = H at *
  have HHH : Hid (w.heap.size = H) := hHH
  clear hHH
  go_wp2_with fail
  obtain ⟨u, tv, wv, _, _, _, _, b4, b5⟩ := (H1.out : PSt L bs A ow m 1 lv s W1).cells
  obtain ⟨ao, cap, rfl, _, _⟩ := b5.1.form
  refine (find_none L.p ao s.n cap id W1 b4 HI.out).mono ?_
  rintro e w1 ⟨rfl, rfl⟩
  clear b4 b5
  have z0 : w1.cell? ⟨H, 0, none⟩ = some (.int .i64 0) := by rw [cell_at HH1.out]; rfl
  have z1 : w1.cell? ⟨H, 1, none⟩ = some (.int .i64 0) := by rw [cell_at HH1.out]; rfl
  have z2 : w1.cell? ⟨H, 2, none⟩ = some (.int .i64 0) := by rw [cell_at HH1.out]; rfl
  have z3 : w1.cell? ⟨H, 3, none⟩ = some (.bool false) := by rw [cell_at HH1.out]; rfl
  have z4 : w1.cell? ⟨H, 4, none⟩ = some (.bool false) := by rw [cell_at HH1.out]; rfl
  have z5 : w1.cell? ⟨H, 5, none⟩ = some (.int .i64 0) := by rw [cell_at HH1.out]; rfl
  have z6 : w1.cell? ⟨H, 6, none⟩ = some (.slice none 0 0) := by rw [cell_at HH1.out]; rfl
  have z7 : w1.cell? ⟨H, 7, none⟩ = some (.slice none 0 0) := by rw [cell_at HH1.out]; rfl
  have zf : ∀ o, w1.frozen? ⟨H, o, none⟩ = false := fun o => frozen_at HH1.out o
  go_wp2_with fail
  have hk2 := set8_kept w1 H (.int .i64 0) (.int .i64 0) (.int .i64 0) (.bool false) (.bool false) (.int .i64 0) (.slice none 0 0) (.slice none 0 0)
  have hH2 := set8_at w1 H (.int .i64 0) (.int .i64 0) (.int .i64 0) (.bool false) (.bool false) (.int .i64 0) (.slice none 0 0) (.slice none 0 0) _ _ _ _ _ _ _ _ _ HH1.out
  have h2 : PSt L bs A ow m 1 lv s (set8 w1 H (.int .i64 0) (.int .i64 0) (.int .i64 0) (.bool false) (.bool false) (.int .i64 0) (.slice none 0 0) (.slice none 0 0)) := (H1.out : PSt L bs A ow m 1 lv s w1).kept hk2 (fun k hk e => by unfold Blk at e; subst e; exact HNO.out hk)
  have HK2 : Hid (Kept (OwnP ow) w (set8 w1 H (.int .i64 0) (.int .i64 0) (.int .i64 0) (.bool false) (.bool false) (.int .i64 0) (.slice none 0 0) (.slice none 0 0))) := HK1.out.trans hk2 (fun i x => .inr (by cases x; exact Nat.le_of_eq HHH.out))
  rw [show ((((((((w1.setCell ⟨H, 0, none⟩ (.int .i64 0)).setCell ⟨H, 1, none⟩ (.int .i64 0)).setCell ⟨H, 2, none⟩ (.int .i64 0)).setCell ⟨H, 3, none⟩ (.bool false)).setCell ⟨H, 4, none⟩ (.bool false)).setCell ⟨H, 5, none⟩ (.int .i64 0)).setCell ⟨H, 6, none⟩ (.slice none 0 0)).setCell ⟨H, 7, none⟩ (.slice none 0 0)) = set8 w1 H (.int .i64 0) (.int .i64 0) (.int .i64 0) (.bool false) (.bool false) (.int .i64 0) (.slice none 0 0) (.slice none 0 0) from rfl]
  clear hk2 z0 z1 z2 z3 z4 z5 z6 z7 zf
  generalize set8 w1 H (.int .i64 0) (.int .i64 0) (.int .i64 0) (.bool false) (.bool false) (.int .i64 0) (.slice none 0 0) (.slice none 0 0) = W2 at *
  refine leaves_cons (f := 60) (args := #[.pointer (some ⟨L.p, 0, none⟩)]) (by simp) (by simp [go_sem]) ?_
  refine (unlock_deferred Tryz.muLib ⟨L.p, 0, none⟩ .returning _ h2.mucell.1 h2.mucell.2).mono ?_
  rintro e u' w'' ⟨rfl, rfl, rfl⟩
  have h3 := h2.locked 0
  have hH3 := (block_setCell_other (a := ⟨L.p, 0, none⟩) (by exact HPL.out) (.int .i32 0)).trans hH2
  have hk3 := HK2.out.trans' (h2.keptP (W := W2) (.int .i32 0))
  generalize W2.setCell ⟨L.p, 0, none⟩ (.int .i32 0) = W3 at *
  have k0 : W3.cell? ⟨H, 0, none⟩ = some (.int .i64 0) := by rw [cell_at hH3]; rfl
  have k1 : W3.cell? ⟨H, 1, none⟩ = some (.int .i64 0) := by rw [cell_at hH3]; rfl
  have k2 : W3.cell? ⟨H, 2, none⟩ = some (.int .i64 0) := by rw [cell_at hH3]; rfl
  have k3 : W3.cell? ⟨H, 3, none⟩ = some (.bool false) := by rw [cell_at hH3]; rfl
  have k4 : W3.cell? ⟨H, 4, none⟩ = some (.bool false) := by rw [cell_at hH3]; rfl
  have k5 : W3.cell? ⟨H, 5, none⟩ = some (.int .i64 0) := by rw [cell_at hH3]; rfl
  have k6 : W3.cell? ⟨H, 6, none⟩ = some (.slice none 0 0) := by rw [cell_at hH3]; rfl
  have k7 : W3.cell? ⟨H, 7, none⟩ = some (.slice none 0 0) := by rw [cell_at hH3]; rfl
  refine ⟨.tuple #[.agg #[.int .i64 0, .int .i64 0, .int .i64 0, .bool false, .bool false, .int .i64 0, .slice none 0 0, .slice none 0 0], .int .i64 5], ?_, rfl, h3, hk3⟩
  simp [results, Tryz.results23, go_sem, k0, k1, k2, k3, k4, k5, k6, k7]

theorem seen_one (l : List Saw) : ∀ u ∈ seenCells l, u.oneCell' = true := by
  intro u hu
  simp only [seenCells, List.mem_flatMap] at hu
  obtain ⟨x, _, hx⟩ := hu
  simp at hx
  rcases hx with rfl | rfl | rfl <;> rfl

set_option maxRecDepth 100000 in
set_option maxHeartbeats 3200000 in
theorem pTxn_some {L : Lay} {bs : Nat → Nat} {A : List Nat} {ow : Ow} {m : Nat} {lv : Int} {s : St} {w : World} (h : PSt L bs A ow m 0 lv s w) (i : Nat) (hin : 1 ≤ i ∧ i ≤ s.n) :
    Calls Tryz.prog 23 #[.pointer (some ⟨L.p, 0, none⟩), .int .i64 (i : Int)] w fun e w' => ∃ a k,
      e = .returned (.tuple #[.agg #[.int .i64 (s.tx i).stamp, .int .i64 (s.tx i).state, .int .i64 ((s.tx i).next : Int), .bool (s.tx i).wounded, .bool (s.tx i).waits.isSome, .int .i64 (s.tx i).agains, .slice (some ⟨a, 0, none⟩) 4 4, .slice (some ⟨k, 0, none⟩) (s.tx i).reads.length (s.tx i).reads.length], .int .i64 0]) ∧ w.heap.size ≤ a ∧ w.heap.size ≤ k ∧
      w'.heap[a]? = some (.cells #[.int .i64 ((s.tx i).regs 0), .int .i64 ((s.tx i).regs 1), .int .i64 ((s.tx i).regs 2), .int .i64 ((s.tx i).regs 3)] 3 (0, 0)) ∧ w'.heap[k]? = some (.cells (seenCells (s.tx i).reads).toArray 105 (0, 0)) ∧
      PSt L bs A ow m 0 lv s w' ∧ Kept (OwnP ow) w w' := by
  have hk0 : Kept NoBlk w (w.alloc (.cells #[.int .i64 0, .int .i64 0, .int .i64 0, .bool false, .bool false, .int .i64 0, .slice none 0 0, .slice none 0 0] 69)) := (Kept.refl _ _).alloc _
  have h0 := h.kept0 hk0
  have hH0 : (w.alloc (.cells #[.int .i64 0, .int .i64 0, .int .i64 0, .bool false, .bool false, .int .i64 0, .slice none 0 0, .slice none 0 0] 69)).heap[w.heap.size]? = some (.cells #[.int .i64 0, .int .i64 0, .int .i64 0, .bool false, .bool false, .int .i64 0, .slice none 0 0, .slice none 0 0] 69 (0, 0)) := block_alloc_new w _
  have hpl : L.p < w.heap.size := h.lt _ h.ownP
  have HPL : Hid (w.heap.size ≠ L.p) := by unfold Hid; omega
  have HK0 : Hid (Kept NoBlk w (w.alloc (.cells #[.int .i64 0, .int .i64 0, .int .i64 0, .bool false, .bool false, .int .i64 0, .slice none 0 0, .slice none 0 0] 69))) := hk0
  have HH0 : Hid ((w.alloc (.cells #[.int .i64 0, .int .i64 0, .int .i64 0, .bool false, .bool false, .int .i64 0, .slice none 0 0, .slice none 0 0] 69)).heap[w.heap.size]? = some (.cells #[.int .i64 0, .int .i64 0, .int .i64 0, .bool false, .bool false, .int .i64 0, .slice none 0 0, .slice none 0 0] 69 (0, 0))) := hH0
  have H0 : Hid (PSt L bs A ow m 0 lv s (w.alloc (.cells #[.int .i64 0, .int .i64 0, .int .i64 0, .bool false, .bool false, .int .i64 0, .slice none 0 0, .slice none 0 0] 69))) := h0
  have HOP : Hid (OwnP ow L.p) := h.ownP
  have HNO : Hid (¬ OwnP ow w.heap.size) := fun e => by have := h.lt _ e; omega
  have HI : Hid (1 ≤ i ∧ i ≤ s.n) := hin
  clear h h0 hk0 hH0 hpl hin
  go_enter_defers Tryz.func23, Tryz.ntmps23
  go_wp2_with fail
  generalize (w.alloc (.cells #[.int .i64 0, .int .i64 0, .int .i64 0, .bool false, .bool false, .int .i64 0, .slice none 0 0, .slice none 0 0] 69)) = W0 at *
  refine (lock_free Tryz.muLib ⟨L.p, 0, none⟩ _ H0.out.mucell.1 H0.out.mucell.2).mono ?_
  rintro e w1 ⟨rfl, rfl⟩
  have H1 : Hid (PSt L bs A ow m 1 lv s (W0.setCell ⟨L.p, 0, none⟩ (.int .i32 1))) := H0.out.locked 1
  have HH1 : Hid ((W0.setCell ⟨L.p, 0, none⟩ (.int .i32 1)).heap[w.heap.size]? = some (.cells #[.int .i64 0, .int .i64 0, .int .i64 0, .bool false, .bool false, .int .i64 0, .slice none 0 0, .slice none 0 0] 69 (0, 0))) := (block_setCell_other (a := ⟨L.p, 0, none⟩) (by exact HPL.out) (.int .i32 1)).trans HH0.out
  have HK1 : Hid (Kept (OwnP ow) w (W0.setCell ⟨L.p, 0, none⟩ (.int .i32 1))) := (HK0.out.mono (fun _ x => x.elim)).trans' (H0.out.keptP _)
  generalize W0.setCell ⟨L.p, 0, none⟩ (.int .i32 1) = W1 at *
  clear HH0 HK0 H0
  generalize hHH : w.heap.size = H at *
  have HHH : Hid (w.heap.size = H) := hHH
  clear hHH
  go_wp2_with fail
  obtain ⟨g, off, c, p1, p2⟩ := (H1.out : PSt L bs A ow m 1 lv s W1).ptr HI.out.1 HI.out.2
  refine (find_some L.p g off s.n c i (bs i) W1 p1 p2 HI.out.1 HI.out.2 (H1.out : PSt L bs A ow m 1 lv s W1).nmax).mono ?_
  rintro e w1 ⟨rfl, rfl⟩
  clear p1 p2
  obtain ⟨ov, rv, dv, y1, y2, y3, y4, y5⟩ := (H1.out : PSt L bs A ow m 1 lv s w1).txs i HI.out.1 HI.out.2
  have HT : Hid (Calls Tryz.prog 64 #[.pointer (some ⟨bs i, 0, none⟩)] w1 _) := told_any (bs i) _ ov rv dv _ _ _ _ _ _ _ _ _ _ _ _ w1 y1 y3.1 (seen_one _) y4
  clear y1 y2 y3 y4 y5
  generalize e1 : (s.tx i).stamp = st at *
  generalize e2 : (s.tx i).state = sa at *
  generalize e3 : ((s.tx i).next : Int) = ne at *
  generalize e4 : (s.tx i).wounded = wo at *
  generalize e5 : (s.tx i).waits.isSome = wa at *
  generalize e6 : (s.tx i).agains = ag at *
  generalize e7 : (s.tx i).reads.length = nr at *
  have HEQ : Hid ((s.tx i).stamp = st ∧ (s.tx i).state = sa ∧ ((s.tx i).next : Int) = ne ∧ (s.tx i).wounded = wo ∧ (s.tx i).waits.isSome = wa ∧ (s.tx i).agains = ag ∧ (s.tx i).reads.length = nr) := ⟨e1, e2, e3, e4, e5, e6, e7⟩
  clear e1 e2 e3 e4 e5 e6 e7
  go_wp2_with fail
  refine HT.out.mono ?_
  rintro e w2 ⟨a, k, rfl, ha, hk, hga, hgk, hkw⟩
  have HH2 : Hid (w2.heap[H]? = some (.cells #[.int .i64 0, .int .i64 0, .int .i64 0, .bool false, .bool false, .int .i64 0, .slice none 0 0, .slice none 0 0] 69 (0, 0))) := hkw.heap HH1.out (fun x => x)
  have hlH := lt_of_block HH1.out
  have hpl := H1.out.lt _ HOP.out
  have z0 : w2.cell? ⟨H, 0, none⟩ = some (.int .i64 0) := by rw [cell_at HH2.out]; rfl
  have z1 : w2.cell? ⟨H, 1, none⟩ = some (.int .i64 0) := by rw [cell_at HH2.out]; rfl
  have z2 : w2.cell? ⟨H, 2, none⟩ = some (.int .i64 0) := by rw [cell_at HH2.out]; rfl
  have z3 : w2.cell? ⟨H, 3, none⟩ = some (.bool false) := by rw [cell_at HH2.out]; rfl
  have z4 : w2.cell? ⟨H, 4, none⟩ = some (.bool false) := by rw [cell_at HH2.out]; rfl
  have z5 : w2.cell? ⟨H, 5, none⟩ = some (.int .i64 0) := by rw [cell_at HH2.out]; rfl
  have z6 : w2.cell? ⟨H, 6, none⟩ = some (.slice none 0 0) := by rw [cell_at HH2.out]; rfl
  have z7 : w2.cell? ⟨H, 7, none⟩ = some (.slice none 0 0) := by rw [cell_at HH2.out]; rfl
  have zf : ∀ o, w2.frozen? ⟨H, o, none⟩ = false := fun o => frozen_at HH2.out o
  have H2 : Hid (PSt L bs A ow m 1 lv s w2) := H1.out.kept0 hkw
  have HG : Hid (w2.heap[a]? = _ ∧ w2.heap[k]? = _) := ⟨hga, hgk⟩
  have HKW : Hid (Kept (OwnP ow) w w2) := HK1.out.trans hkw (fun i x => x.elim)
  have HNE : Hid (a ≠ H ∧ k ≠ H ∧ a ≠ L.p ∧ k ≠ L.p ∧ w.heap.size ≤ a ∧ w.heap.size ≤ k) := by
    have := HHH.out
    refine ⟨by omega, by omega, by omega, by omega, by omega, by omega⟩
  clear hga hgk hkw hlH hpl ha hk
  go_wp2_with fail
  have hk2 := set8_kept w2 H (.int .i64 st) (.int .i64 sa) (.int .i64 ne) (.bool wo) (.bool wa) (.int .i64 ag) (.slice (some ⟨a, 0, none⟩) 4 4) (.slice (some ⟨k, 0, none⟩) nr nr)
  have hH2 := set8_at w2 H (.int .i64 st) (.int .i64 sa) (.int .i64 ne) (.bool wo) (.bool wa) (.int .i64 ag) (.slice (some ⟨a, 0, none⟩) 4 4) (.slice (some ⟨k, 0, none⟩) nr nr) _ _ _ _ _ _ _ _ _ HH2.out
  have h2 : PSt L bs A ow m 1 lv s (set8 w2 H (.int .i64 st) (.int .i64 sa) (.int .i64 ne) (.bool wo) (.bool wa) (.int .i64 ag) (.slice (some ⟨a, 0, none⟩) 4 4) (.slice (some ⟨k, 0, none⟩) nr nr)) := (H2.out : PSt L bs A ow m 1 lv s w2).kept hk2 (fun k hk e => by unfold Blk at e; subst e; exact HNO.out hk)
  have hga2 := hk2.heap HG.out.1 HNE.out.1
  have hgk2 := hk2.heap HG.out.2 HNE.out.2.1
  have HK2 : Hid (Kept (OwnP ow) w (set8 w2 H (.int .i64 st) (.int .i64 sa) (.int .i64 ne) (.bool wo) (.bool wa) (.int .i64 ag) (.slice (some ⟨a, 0, none⟩) 4 4) (.slice (some ⟨k, 0, none⟩) nr nr))) := HKW.out.trans hk2 (fun i x => .inr (by cases x; exact Nat.le_of_eq HHH.out))
  rw [show ((((((((w2.setCell ⟨H, 0, none⟩ (.int .i64 st)).setCell ⟨H, 1, none⟩ (.int .i64 sa)).setCell ⟨H, 2, none⟩ (.int .i64 ne)).setCell ⟨H, 3, none⟩ (.bool wo)).setCell ⟨H, 4, none⟩ (.bool wa)).setCell ⟨H, 5, none⟩ (.int .i64 ag)).setCell ⟨H, 6, none⟩ (.slice (some ⟨a, 0, none⟩) 4 4)).setCell ⟨H, 7, none⟩ (.slice (some ⟨k, 0, none⟩) nr nr)) = set8 w2 H (.int .i64 st) (.int .i64 sa) (.int .i64 ne) (.bool wo) (.bool wa) (.int .i64 ag) (.slice (some ⟨a, 0, none⟩) 4 4) (.slice (some ⟨k, 0, none⟩) nr nr) from rfl]
  clear hk2 z0 z1 z2 z3 z4 z5 z6 z7 zf
  generalize set8 w2 H (.int .i64 st) (.int .i64 sa) (.int .i64 ne) (.bool wo) (.bool wa) (.int .i64 ag) (.slice (some ⟨a, 0, none⟩) 4 4) (.slice (some ⟨k, 0, none⟩) nr nr) = W2 at *
  refine leaves_cons (f := 60) (args := #[.pointer (some ⟨L.p, 0, none⟩)]) (by simp) (by simp [go_sem]) ?_
  refine (unlock_deferred Tryz.muLib ⟨L.p, 0, none⟩ .returning _ h2.mucell.1 h2.mucell.2).mono ?_
  rintro e u' w'' ⟨rfl, rfl, rfl⟩
  have h3 := h2.locked 0
  have hH3 := (block_setCell_other (a := ⟨L.p, 0, none⟩) (by exact HPL.out) (.int .i32 0)).trans hH2
  have hga3 := (block_setCell_other (a := ⟨L.p, 0, none⟩) (by exact HNE.out.2.2.1) (.int .i32 0)).trans hga2
  have hgk3 := (block_setCell_other (a := ⟨L.p, 0, none⟩) (by exact HNE.out.2.2.2.1) (.int .i32 0)).trans hgk2
  have hk3 := HK2.out.trans' (h2.keptP (W := W2) (.int .i32 0))
  generalize W2.setCell ⟨L.p, 0, none⟩ (.int .i32 0) = W3 at *
  have k0 : W3.cell? ⟨H, 0, none⟩ = some (.int .i64 st) := by rw [cell_at hH3]; rfl
  have k1 : W3.cell? ⟨H, 1, none⟩ = some (.int .i64 sa) := by rw [cell_at hH3]; rfl
  have k2 : W3.cell? ⟨H, 2, none⟩ = some (.int .i64 ne) := by rw [cell_at hH3]; rfl
  have k3 : W3.cell? ⟨H, 3, none⟩ = some (.bool wo) := by rw [cell_at hH3]; rfl
  have k4 : W3.cell? ⟨H, 4, none⟩ = some (.bool wa) := by rw [cell_at hH3]; rfl
  have k5 : W3.cell? ⟨H, 5, none⟩ = some (.int .i64 ag) := by rw [cell_at hH3]; rfl
  have k6 : W3.cell? ⟨H, 6, none⟩ = some (.slice (some ⟨a, 0, none⟩) 4 4) := by rw [cell_at hH3]; rfl
  have k7 : W3.cell? ⟨H, 7, none⟩ = some (.slice (some ⟨k, 0, none⟩) nr nr) := by rw [cell_at hH3]; rfl
  refine ⟨.tuple #[.agg #[.int .i64 st, .int .i64 sa, .int .i64 ne, .bool wo, .bool wa, .int .i64 ag, .slice (some ⟨a, 0, none⟩) 4 4, .slice (some ⟨k, 0, none⟩) nr nr], .int .i64 0], ?_, a, k, by obtain ⟨e1, e2, e3, e4, e5, e6, e7⟩ := HEQ.out; rw [e1, e2, e3, e4, e5, e6, e7], HNE.out.2.2.2.2.1, HNE.out.2.2.2.2.2, hga3, hgk3, h3, hk3⟩
  simp [results, Tryz.results23, go_sem, k0, k1, k2, k3, k4, k5, k6, k7]

end Go.Proofs.YtmcajfefagdbnaaGreat

namespace Go.Proofs.YtmcajfefagdbnaaGreat
open Go.RowKit

/-- Admit's error, by how many operations there are, whether all may be, how many live, and the clock. -/
def admErr (l : List Op4) (living : Nat) (clock : Int) : Int :=
  if 12 < l.length then 2 else if l.all Op4.ok = false then 1 else if 12 ≤ living then 3 else if 1099511627776 ≤ clock then 4 else 0

theorem ret_int {k : IntKind} {a b : Int} (h : a = b) : Ending.returned (.int k a) = .returned (.int k b) := by rw [h]

set_option maxHeartbeats 1600000 in
theorem refusal_any (p b off cap : Nat) (l : List Op4) (m : Nat) (c : Int) (v0 v1 v3 v4 : Value) (w : World) (h : OpsAt w b off l) (hl : l.length ≤ 1048576)
    (hp : w.heap[p]? = some (.cells #[v0, v1, .int .i64 c, v3, v4, .int .i64 m] 127 (0, 0))) :
    Calls Tryz.prog 73 #[.pointer (some ⟨p, 0, none⟩), .slice (some ⟨b, off, none⟩) l.length cap] w fun e w' => e = .returned (.int .i64 (admErr l m c)) ∧ Kept NoBlk w w' := by
  by_cases h1 : 12 < l.length
  · have he : admErr l m c = 2 := by simp [admErr, h1]
    rw [he]
    clear he h hp
    go_enter Tryz.func73, Tryz.ntmps73
    go_wp2_with fail
    go_ret
    exact ⟨rfl, Kept.refl _ _⟩
  have HO : Hid _ := h
  have HP : Hid _ := hp
  clear h hp
  go_enter Tryz.func73, Tryz.ntmps73
  go_wp2_with fail
  refine (allAllowed_some b off cap l _ HO.out hl).mono ?_
  rintro e w' ⟨rfl, hk⟩
  cases h2 : l.all Op4.ok
  · have he : Hid (admErr l m c = 1) := by simp [Hid, admErr, h1, h2]
    clear h2
    go_wp2_with fail
    go_ret
    exact ⟨ret_int he.out.symm, hk⟩
  · have hp := hk.heap HP.out (fun x => x)
    have hm : w'.cell? ⟨p, 5, none⟩ = some (.int .i64 m) := by rw [cell_at hp]; rfl
    have hc : w'.cell? ⟨p, 2, none⟩ = some (.int .i64 c) := by rw [cell_at hp]; rfl
    have he : Hid (admErr l m c = if 12 ≤ m then 3 else if 1099511627776 ≤ c then 4 else 0) := by simp [Hid, admErr, h1, h2]
    have HK : Hid _ := hk
    clear hp h2 hk
    by_cases h3 : 12 ≤ m
    · go_wp2_with fail
      go_ret
      exact ⟨ret_int (by rw [he.out, if_pos h3]), HK.out⟩
    · by_cases h4 : 1099511627776 ≤ c
      · go_wp2_with fail
        go_ret
        exact ⟨ret_int (by rw [he.out, if_neg h3, if_pos h4]), HK.out⟩
      · go_wp2_with fail
        go_ret
        exact ⟨ret_int (by rw [he.out, if_neg h3, if_neg (by omega)]), HK.out⟩
end Go.Proofs.YtmcajfefagdbnaaGreat
