import Derived.Test.YtmplmoicliobaaaGreatMem
import Derived.Test.YtmplmoicliobaaaGreatProg
namespace Go.Proofs.YtmplmoicliobaaaGreat
open Go Go.RowKit

theorem infoOp : (Tryz.prog.info? 97).map (fun i => (i.zero, i.size, i.bytes)) = some (some (.agg #[.int .i64 0, .int .i64 0, .int .i64 0, .int .i64 0]), 4, 32) := by kernel_rfl
theorem infoSeen : (Tryz.prog.info? 80).map (fun i => (i.zero, i.size, i.bytes)) = some (some (.agg #[.int .i64 0, .bool false, .int .i64 0]), 3, 24) := by kernel_rfl
theorem infoRow : (Tryz.prog.info? 56).map (fun i => (i.zero, i.size, i.bytes)) = some (some (.agg #[.int .i64 0, .int .i64 0]), 2, 16) := by kernel_rfl
theorem infoInt : (Tryz.prog.info? 3).map (fun i => (i.zero, i.size, i.bytes)) = some (some (.int .i64 0), 1, 8) := by kernel_rfl

set_option maxHeartbeats 800000 in
theorem freshOp (x : Value) (m : Nat) (cs : List Value) (w : World) (hx : FromMem w 4 x m cs) (hm : m ≤ 1048576) :
    Calls Tryz.prog 78 #[x] w fun e w' => e = .returned (.slice (some ⟨w.heap.size, 0, none⟩) m m) ∧ w'.heap[w.heap.size]? = some (.cells cs.toArray 97 (0, 0)) ∧ Kept NoBlk w w' := by
  obtain ⟨i, hi, hz0, hz1, hz2⟩ := info_parts infoOp
  have hsz : (Tryz.prog.info? 97).map (·.size) = some 4 := by rw [hi]; simp [hz1]
  obtain ⟨ao, c, rfl, hn, hc⟩ := hx.shape
  have hx' : FromMem (w.alloc (.cells (madeCells (Value.agg #[.int .i64 0, .int .i64 0, .int .i64 0, .int .i64 0]).cells (m * 4)) 97)) 4 (.slice ao m c) m cs :=
    ⟨⟨ao, c, rfl, hn, fun ad had j u hu => ((Kept.refl NoBlk w).alloc _).cell (hc ad had j u hu) (fun x => x)⟩, hx.len, hx.one⟩
  have HX : Hid _ := hx'
  have HB : Hid (i.bytes * m ≤ 281474976710656) := by unfold Hid; rw [hz2]; omega
  have HM : Hid (m ≤ maxLen) := by unfold Hid maxLen; omega
  have HL : Hid _ := hx.len
  have HS : Hid _ := hsz
  clear hx hx' hn hc hsz
  go_enter Tryz.func78, Tryz.ntmps78
  go_wp2_with (first
    | (at_make; refine wpList_make_at rfl _ _ 39 rfl 97 i _ 4 Tryz.underlying39 hi hz0 hz1 .i64 .i64 _ _ m m rfl rfl rfl rfl (Nat.le_refl _) HB.out HM.out ?_)
    | (refine wpList_copy_at (by rfl) _ _ 39 39 (by rfl) 97 4 Tryz.underlying39 HS.out w.heap.size m m (by rfl) _ 97 (block_alloc_new w _) _ m cs (by rfl) HX.out (Nat.le_refl _) (by rw [size_madeCells, HL.out]; exact Nat.le_refl _) ?_))
  intro w' hg hk
  go_wp2_with fail
  go_ret
  refine ⟨rfl, ?_, ((Kept.refl NoBlk w).alloc _).trans hk (fun i x => .inr (by cases x; exact Nat.le_refl _))⟩
  rw [hg, List.drop_of_length_le (by rw [Array.length_toList, size_madeCells, HL.out]; exact Nat.le_refl _), List.append_nil]

set_option maxHeartbeats 800000 in
theorem freshSeen (x : Value) (m : Nat) (cs : List Value) (w : World) (hx : FromMem w 3 x m cs) (hm : m ≤ 1048576) :
    Calls Tryz.prog 66 #[x] w fun e w' => e = .returned (.slice (some ⟨w.heap.size, 0, none⟩) m m) ∧ w'.heap[w.heap.size]? = some (.cells cs.toArray 80 (0, 0)) ∧ Kept NoBlk w w' := by
  obtain ⟨i, hi, hz0, hz1, hz2⟩ := info_parts infoSeen
  have hsz : (Tryz.prog.info? 80).map (·.size) = some 3 := by rw [hi]; simp [hz1]
  obtain ⟨ao, c, rfl, hn, hc⟩ := hx.shape
  have hx' : FromMem (w.alloc (.cells (madeCells (Value.agg #[.int .i64 0, .bool false, .int .i64 0]).cells (m * 3)) 80)) 3 (.slice ao m c) m cs :=
    ⟨⟨ao, c, rfl, hn, fun ad had j u hu => ((Kept.refl NoBlk w).alloc _).cell (hc ad had j u hu) (fun x => x)⟩, hx.len, hx.one⟩
  have HX : Hid _ := hx'
  have HB : Hid (i.bytes * m ≤ 281474976710656) := by unfold Hid; rw [hz2]; omega
  have HM : Hid (m ≤ maxLen) := by unfold Hid maxLen; omega
  have HL : Hid _ := hx.len
  have HS : Hid _ := hsz
  clear hx hx' hn hc hsz
  go_enter Tryz.func66, Tryz.ntmps66
  go_wp2_with (first
    | (at_make; refine wpList_make_at rfl _ _ 61 rfl 80 i _ 3 Tryz.underlying61 hi hz0 hz1 .i64 .i64 _ _ m m rfl rfl rfl rfl (Nat.le_refl _) HB.out HM.out ?_)
    | (refine wpList_copy_at (by rfl) _ _ 61 61 (by rfl) 80 3 Tryz.underlying61 HS.out w.heap.size m m (by rfl) _ 80 (block_alloc_new w _) _ m cs (by rfl) HX.out (Nat.le_refl _) (by rw [size_madeCells, HL.out]; exact Nat.le_refl _) ?_))
  intro w' hg hk
  go_wp2_with fail
  go_ret
  refine ⟨rfl, ?_, ((Kept.refl NoBlk w).alloc _).trans hk (fun i x => .inr (by cases x; exact Nat.le_refl _))⟩
  rw [hg, List.drop_of_length_le (by rw [Array.length_toList, size_madeCells, HL.out]; exact Nat.le_refl _), List.append_nil]

set_option maxHeartbeats 800000 in
theorem freshInt (x : Value) (m : Nat) (cs : List Value) (w : World) (hx : FromMem w 1 x m cs) (hm : m ≤ 1048576) :
    Calls Tryz.prog 65 #[x] w fun e w' => e = .returned (.slice (some ⟨w.heap.size, 0, none⟩) m m) ∧ w'.heap[w.heap.size]? = some (.cells cs.toArray 3 (0, 0)) ∧ Kept NoBlk w w' := by
  obtain ⟨i, hi, hz0, hz1, hz2⟩ := info_parts infoInt
  have hsz : (Tryz.prog.info? 3).map (·.size) = some 1 := by rw [hi]; simp [hz1]
  obtain ⟨ao, c, rfl, hn, hc⟩ := hx.shape
  have hx' : FromMem (w.alloc (.cells (madeCells (Value.int .i64 0).cells m) 3)) 1 (.slice ao m c) m cs :=
    ⟨⟨ao, c, rfl, hn, fun ad had j u hu => ((Kept.refl NoBlk w).alloc _).cell (hc ad had j u hu) (fun x => x)⟩, hx.len, hx.one⟩
  have HX : Hid _ := hx'
  have HB : Hid (i.bytes * m ≤ 281474976710656) := by unfold Hid; rw [hz2]; omega
  have HM : Hid (m ≤ maxLen) := by unfold Hid maxLen; omega
  have HL : Hid _ := hx.len
  have HS : Hid _ := hsz
  clear hx hx' hn hc hsz
  go_enter Tryz.func65, Tryz.ntmps65
  go_wp2_with (first
    | (at_make; refine wpList_make_at rfl _ _ 45 rfl 3 i _ 1 Tryz.underlying45 hi hz0 hz1 .i64 .i64 _ _ m m rfl rfl rfl rfl (Nat.le_refl _) HB.out HM.out ?_)
    | (refine wpList_copy_at (by rfl) _ _ 45 45 (by rfl) 3 1 Tryz.underlying45 HS.out w.heap.size m m (by rfl) _ 3 (block_alloc_new w _) _ m cs (by rfl) HX.out (Nat.le_refl _) (by rw [size_madeCells, HL.out]; omega) ?_))
  intro w' hg hk
  go_wp2_with fail
  go_ret
  refine ⟨rfl, ?_, ((Kept.refl NoBlk w).alloc _).trans hk (fun i x => .inr (by cases x; exact Nat.le_refl _))⟩
  rw [hg, List.drop_of_length_le (by rw [Array.length_toList, size_madeCells, HL.out]; omega), List.append_nil]

end Go.Proofs.YtmplmoicliobaaaGreat
