import Derived.Test.YtmcajfefagdbnaaGreatJ03
import Derived.Test.YtmcajfefagdbnaaGreatProg
import Derived.Test.YtmcajfefagdbnaaGreatJ04
import Derived.RegionTactic
import Derived.BigRegion
namespace Go.Proofs.YtmcajfefagdbnaaGreat
open Go Go.RowKit
theorem infoOp : (Tryz.prog.info? 114).map (fun i => (i.zero, i.size, i.bytes)) = some (some (.agg #[.int .i64 0, .int .i64 0, .int .i64 0, .int .i64 0]), 4, 32) := by kernel_rfl
theorem infoSeen : (Tryz.prog.info? 105).map (fun i => (i.zero, i.size, i.bytes)) = some (some (.agg #[.int .i64 0, .bool false, .int .i64 0]), 3, 24) := by kernel_rfl
theorem infoRow : (Tryz.prog.info? 95).map (fun i => (i.zero, i.size, i.bytes)) = some (some (.agg #[.int .i64 0, .int .i64 0]), 2, 16) := by kernel_rfl
theorem infoInt : (Tryz.prog.info? 3).map (fun i => (i.zero, i.size, i.bytes)) = some (some (.int .i64 0), 1, 8) := by kernel_rfl
set_option maxHeartbeats 800000 in
theorem freshOp (x : Value) (m : Nat) (cs : List Value) (w : World) (hx : FromMem w 4 x m cs) (hm : m ≤ 1048576) :
  Calls Tryz.prog 107 #[x] w fun e w' => e = .returned (.slice (some ⟨w.heap.size, 0, none⟩) m m) ∧ w'.heap[w.heap.size]? = some (.cells cs.toArray 114 (0, 0)) ∧ Kept NoBlk w w' := by
 obtain ⟨i, hi, hz0, hz1, hz2⟩ := info_parts infoOp
 have hsz : (Tryz.prog.info? 114).map (·.size) = some 4 := by rw [hi]; simp [hz1]
 obtain ⟨ao, c, rfl, hn, hc⟩ := hx.shape
 have hx' : FromMem (w.alloc (.cells (madeCells (Value.agg #[.int .i64 0, .int .i64 0, .int .i64 0, .int .i64 0]).cells (m * 4)) 114)) 4 (.slice ao m c) m cs :=
  ⟨⟨ao, c, rfl, hn, fun ad had j u hu => ((Kept.refl NoBlk w).alloc _).cell (hc ad had j u hu) (fun x => x)⟩, hx.len, hx.one⟩
 have HX : Hid _ := hx'
 have HB : Hid (i.bytes * m ≤ 281474976710656) := by unfold Hid; rw [hz2]; omega
 have HM : Hid (m ≤ maxLen) := by unfold Hid maxLen; omega
 have HL : Hid _ := hx.len
 have HS : Hid _ := hsz
 clear hx hx' hn hc hsz
 go_enter Tryz.func107, Tryz.ntmps107
 go_wp2_with (first
  | (at_make; refine wpList_make_at rfl _ _ 39 rfl 114 i _ 4 Tryz.underlying39 hi hz0 hz1 .i64 .i64 _ _ m m rfl rfl rfl rfl (Nat.le_refl _) HB.out HM.out ?_)
  | (refine wpList_copy_at (by rfl) _ _ 39 39 (by rfl) 114 4 Tryz.underlying39 HS.out w.heap.size m m (by rfl) _ 114 (block_alloc_new w _) _ m cs (by rfl) HX.out (Nat.le_refl _) (by rw [size_madeCells, HL.out]; exact Nat.le_refl _) ?_))
 intro w' hg hk
 go_wp2_with fail
 go_ret
 refine ⟨rfl, ?_, ((Kept.refl NoBlk w).alloc _).trans hk (fun i x => .inr (by cases x; exact Nat.le_refl _))⟩
 rw [hg, List.drop_of_length_le (by rw [Array.length_toList, size_madeCells, HL.out]; exact Nat.le_refl _), List.append_nil]
set_option maxHeartbeats 800000 in
theorem freshSeen (x : Value) (m : Nat) (cs : List Value) (w : World) (hx : FromMem w 3 x m cs) (hm : m ≤ 1048576) :
  Calls Tryz.prog 98 #[x] w fun e w' => e = .returned (.slice (some ⟨w.heap.size, 0, none⟩) m m) ∧ w'.heap[w.heap.size]? = some (.cells cs.toArray 105 (0, 0)) ∧ Kept NoBlk w w' := by
 obtain ⟨i, hi, hz0, hz1, hz2⟩ := info_parts infoSeen
 have hsz : (Tryz.prog.info? 105).map (·.size) = some 3 := by rw [hi]; simp [hz1]
 obtain ⟨ao, c, rfl, hn, hc⟩ := hx.shape
 have hx' : FromMem (w.alloc (.cells (madeCells (Value.agg #[.int .i64 0, .bool false, .int .i64 0]).cells (m * 3)) 105)) 3 (.slice ao m c) m cs :=
  ⟨⟨ao, c, rfl, hn, fun ad had j u hu => ((Kept.refl NoBlk w).alloc _).cell (hc ad had j u hu) (fun x => x)⟩, hx.len, hx.one⟩
 have HX : Hid _ := hx'
 have HB : Hid (i.bytes * m ≤ 281474976710656) := by unfold Hid; rw [hz2]; omega
 have HM : Hid (m ≤ maxLen) := by unfold Hid maxLen; omega
 have HL : Hid _ := hx.len
 have HS : Hid _ := hsz
 clear hx hx' hn hc hsz
 go_enter Tryz.func98, Tryz.ntmps98
 go_wp2_with (first
  | (at_make; refine wpList_make_at rfl _ _ 61 rfl 105 i _ 3 Tryz.underlying61 hi hz0 hz1 .i64 .i64 _ _ m m rfl rfl rfl rfl (Nat.le_refl _) HB.out HM.out ?_)
  | (refine wpList_copy_at (by rfl) _ _ 61 61 (by rfl) 105 3 Tryz.underlying61 HS.out w.heap.size m m (by rfl) _ 105 (block_alloc_new w _) _ m cs (by rfl) HX.out (Nat.le_refl _) (by rw [size_madeCells, HL.out]; exact Nat.le_refl _) ?_))
 intro w' hg hk
 go_wp2_with fail
 go_ret
 refine ⟨rfl, ?_, ((Kept.refl NoBlk w).alloc _).trans hk (fun i x => .inr (by cases x; exact Nat.le_refl _))⟩
 rw [hg, List.drop_of_length_le (by rw [Array.length_toList, size_madeCells, HL.out]; exact Nat.le_refl _), List.append_nil]
set_option maxHeartbeats 800000 in
theorem freshInt (x : Value) (m : Nat) (cs : List Value) (w : World) (hx : FromMem w 1 x m cs) (hm : m ≤ 1048576) :
  Calls Tryz.prog 68 #[x] w fun e w' => e = .returned (.slice (some ⟨w.heap.size, 0, none⟩) m m) ∧ w'.heap[w.heap.size]? = some (.cells cs.toArray 3 (0, 0)) ∧ Kept NoBlk w w' := by
 obtain ⟨i, hi, hz0, hz1, hz2⟩ := info_parts infoInt
 have hsz : (Tryz.prog.info? 3).map (·.size) = some 1 := by rw [hi]; simp [hz1]
 obtain ⟨ao, c, rfl, hn, hc⟩ := hx.shape
 have hx' : FromMem (w.alloc (.cells (madeCells (Value.int .i64 0).cells m) 3)) 1 (.slice ao m c) m cs :=
  ⟨⟨ao, c, rfl, hn, fun ad had j u hu => ((Kept.refl NoBlk w).alloc _).cell (hc ad had j u hu) (fun x => x)⟩, hx.len, hx.one⟩
 have HX : Hid _ := hx'
 have HB : Hid (i.bytes * m ≤ 281474976710656) := by unfold Hid; rw [hz2]; omega
 have HM : Hid (m ≤ maxLen) := by unfold Hid maxLen; omega
 have HL : Hid _ := hx.len
 have HS : Hid _ := hsz
 clear hx hx' hn hc hsz
 go_enter Tryz.func68, Tryz.ntmps68
 go_wp2_with (first
  | (at_make; refine wpList_make_at rfl _ _ 45 rfl 3 i _ 1 Tryz.underlying45 hi hz0 hz1 .i64 .i64 _ _ m m rfl rfl rfl rfl (Nat.le_refl _) HB.out HM.out ?_)
  | (refine wpList_copy_at (by rfl) _ _ 45 45 (by rfl) 3 1 Tryz.underlying45 HS.out w.heap.size m m (by rfl) _ 3 (block_alloc_new w _) _ m cs (by rfl) HX.out (Nat.le_refl _) (by rw [size_madeCells, HL.out]; omega) ?_))
 intro w' hg hk
 go_wp2_with fail
 go_ret
 refine ⟨rfl, ?_, ((Kept.refl NoBlk w).alloc _).trans hk (fun i x => .inr (by cases x; exact Nat.le_refl _))⟩
 rw [hg, List.drop_of_length_le (by rw [Array.length_toList, size_madeCells, HL.out]; omega), List.append_nil]
end Go.Proofs.YtmcajfefagdbnaaGreat
namespace Go.Proofs.YtmcajfefagdbnaaGreat
open Go Go.RowKit
def RowAt (w : World) (e : TypeId) (size : Nat) (v : Value) (n : Nat) (xs : List Value) : Prop :=
 xs.length = n * size ∧ ((v = .slice none 0 0 ∧ n = 0) ∨ ∃ g off cap cur, v = .slice (some ⟨g, off, none⟩) n cap ∧ w.heap[g]? = some (.cells cur e (0, 0)) ∧ n ≤ cap ∧ cap ≤ maxLen ∧ off + cap * size ≤ cur.size ∧ ∀ j u, xs[j]? = some u → cur[off + j]? = some u)
theorem RowAt.nil (w : World) (e : TypeId) (size : Nat) : RowAt w e size (.slice none 0 0) 0 [] := ⟨by simp, .inl ⟨rfl, rfl⟩⟩
theorem RowAt.form {w : World} {e : TypeId} {size : Nat} {v : Value} {n : Nat} {xs : List Value} (h : RowAt w e size v n xs) : ∃ ao c, v = .slice ao n c ∧ n ≤ c ∧ c ≤ maxLen := by
 rcases h.2 with ⟨rfl, rfl⟩ | ⟨g, off, cap, cur, rfl, _, h1, h2, _⟩
 ·exact ⟨none, 0, rfl, Nat.le_refl _, Nat.zero_le _⟩
 ·exact ⟨_, cap, rfl, h1, h2⟩
theorem RowAt.owns {w : World} {e : TypeId} {size : Nat} {v : Value} {n : Nat} {xs : List Value} (h : w.ownsRow 0 e size v n xs) : RowAt w e size v n xs := by
 refine ⟨h.1, ?_⟩
 rcases h.2 with h0 | ⟨g, cap, cur, rfl, _, hg, h1, h2, h3, h4⟩
 ·exact .inl h0
 ·refine .inr ⟨g, 0, cap, cur, rfl, hg, h1, h2, by omega, fun j u hu => ?_⟩
  have hj : j < xs.length := (List.getElem?_eq_some_iff.1 hu).1
  rw [← h4, List.getElem?_take] at hu
  split at hu
  ·simpa using hu
  ·cases hu
theorem RowAt.of_block {w w' : World} {e : TypeId} {size : Nat} {v : Value} {n : Nat} {xs : List Value} (h : RowAt w e size v n xs) (hb : ∀ k, v.ownBlock = some k → w'.heap[k]? = w.heap[k]?) : RowAt w' e size v n xs := by
 refine ⟨h.1, ?_⟩
 rcases h.2 with h0 | ⟨g, off, cap, cur, rfl, hg, r⟩
 ·exact .inl h0
 ·exact .inr ⟨g, off, cap, cur, rfl, by rw [hb g rfl]; exact hg, r⟩
theorem RowAt.block {w : World} {e : TypeId} {size : Nat} {v : Value} {n : Nat} {xs : List Value} (h : RowAt w e size v n xs) {k : Nat} (hk : v.ownBlock = some k) : ∃ cur, w.heap[k]? = some (.cells cur e (0, 0)) := by
 rcases h.2 with ⟨rfl, _⟩ | ⟨g, off, cap, cur, rfl, hg, _⟩
 ·simp [Value.ownBlock] at hk
 ·simp [Value.ownBlock] at hk
  subst hk
  exact ⟨cur, hg⟩
theorem RowAt.lt {w : World} {e : TypeId} {size : Nat} {v : Value} {n : Nat} {xs : List Value} (h : RowAt w e size v n xs) : ∀ k, v.ownBlock = some k → k < w.heap.size := fun k hk => by
 obtain ⟨cur, hcur⟩ := h.block hk
 exact lt_of_block hcur
theorem RowAt.kept {S : Nat → Prop} {w w' : World} {e : TypeId} {size : Nat} {v : Value} {n : Nat} {xs : List Value} (h : RowAt w e size v n xs) (hk : Kept S w w') (hn : ∀ k, v.ownBlock = some k → ¬ S k) : RowAt w' e size v n xs :=
 h.of_block fun k hv => hk.block k (h.lt k hv) (hn k hv)
theorem RowAt.cell {w : World} {e : TypeId} {size : Nat} {n : Nat} {xs : List Value} {g off cap : Nat} (h : RowAt w e size (.slice (some ⟨g, off, none⟩) n cap) n xs) (j : Nat) {u : Value} (hu : xs[j]? = some u) : w.cell? ⟨g, off + j, none⟩ = some u := by
 rcases h.2 with ⟨h0, _⟩ | ⟨g', off', cap', cur, h0, hg, _, _, _, h1⟩
 ·cases h0
 ·simp only [Value.slice.injEq, Option.some.injEq, Addr.mk.injEq, and_true, true_and] at h0
  obtain ⟨⟨rfl, rfl⟩, rfl⟩ := h0
  rw [cell_at hg]
  exact h1 j u hu
theorem RowAt.unfrozen {w : World} {e : TypeId} {size : Nat} {n : Nat} {xs : List Value} {g off cap : Nat} (h : RowAt w e size (.slice (some ⟨g, off, none⟩) n cap) n xs) (j : Nat) : w.frozen? ⟨g, j, none⟩ = false := by
 obtain ⟨cur, hc⟩ := h.block (k := g) rfl
 exact frozen_at hc j
theorem RowAt.mem {w : World} {e : TypeId} {size : Nat} {v : Value} {n : Nat} {xs : List Value} (h : RowAt w e size v n xs) (h1 : ∀ u ∈ xs, u.oneCell' = true) : FromMem w size v n xs := by
 have hl := h.1
 rcases h.2 with ⟨rfl, rfl⟩ | ⟨g, off, cap, cur, rfl, hg, _, _, _, hc⟩
 ·exact ⟨⟨none, 0, rfl, fun _ => rfl, fun ad had => by cases had⟩, hl, h1⟩
 ·refine ⟨⟨_, cap, rfl, fun h0 => (by cases h0), fun ad had j u hu => ?_⟩, hl, h1⟩
  obtain rfl := Option.some.inj had
  rw [Addr.add_lit, cell_at hg]
  exact hc j u hu
theorem RowAt.empty {w : World} {e : TypeId} {size : Nat} {n : Nat} {xs : List Value} {g off cap : Nat} (h : RowAt w e size (.slice (some ⟨g, off, none⟩) n cap) n xs) : RowAt w e size (.slice (some ⟨g, off, none⟩) 0 0) 0 [] := by
 rcases h.2 with ⟨h0, _⟩ | ⟨g', off', cap', cur, h0, hg, h1, h2, h3, h4⟩
 ·cases h0
 ·simp only [Value.slice.injEq, Option.some.injEq, Addr.mk.injEq, and_true, true_and] at h0
  obtain ⟨⟨rfl, rfl⟩, rfl⟩ := h0
  exact ⟨by simp, .inr ⟨g, off, 0, cur, rfl, hg, Nat.le_refl _, Nat.zero_le _, by omega, fun j u hu => by simp at hu⟩⟩
theorem RowAt.drop {w : World} {e : TypeId} {size : Nat} {n : Nat} {xs : List Value} {g off cap : Nat} (h : RowAt w e size (.slice (some ⟨g, off, none⟩) n cap) n xs) (m : Nat) (hm : m ≤ n) :
  RowAt w e size (.slice (some ⟨g, off + m * size, none⟩) (n - m) (cap - m)) (n - m) (xs.drop (m * size)) := by
 rcases h.2 with ⟨h0, _⟩ | ⟨g', off', cap', cur, h0, hg, h1, h2, h3, h4⟩
 ·cases h0
 ·simp only [Value.slice.injEq, Option.some.injEq, Addr.mk.injEq, and_true, true_and] at h0
  obtain ⟨⟨rfl, rfl⟩, rfl⟩ := h0
  have hl := h.1
  refine ⟨by rw [List.length_drop, hl, ← Nat.sub_mul], .inr ⟨g, off + m * size, cap - m, cur, rfl, hg, by omega, by omega, ?_, fun j u hu => ?_⟩⟩
  ·rw [Nat.sub_mul]
   have : m * size ≤ cap * size := Nat.mul_le_mul_right _ (by omega)
   omega
  ·rw [List.getElem?_drop] at hu
   have := h4 _ _ hu
   rw [← Nat.add_assoc] at this
   exact this
theorem run_append_row {P : Program} (w : World) (t ty e : TypeId) (i : TypeInfo) (z : Value) (size bytes : Nat) (ht : P.underlying t = some (.slice e)) (hi : P.info? e = some i) (hz : i.zero = some z)
  (hsize : i.size = size) (hby : i.bytes = bytes) (hzs : z.cells.size = size)
  (v : Value) (n : Nat) (xs : List Value) (hown : RowAt w e size v n xs) (x : Value) (m : Nat) (news : List Value) (hx : FromMem w size x m news)
  (h63 : n + m ≤ maxLen) (hbytes : (n + m) * bytes ≤ 140737488355328) :
  ∃ v' w', (Builtin.append_ #[t, t] ty #[v, x]).run P w = .ok v' w' ∧ RowAt w' e size v' (n + m) (xs ++ news) ∧ Moved w w' v v' (n + m) := by
 subst hsize
 subst hby
 have hsrc := hx.src (P := P) ht
 have hlen : (xs ++ news).length = (n + m) * i.size := by rw [List.length_append, hown.1, hx.len, Nat.add_mul]
 have hsmall : ((n + m : Nat) : Int) ≤ 9223372036854775807 := by simp only [maxLen] at h63; omega
 have grown : ∀ (base : Option Addr) (old : Nat), old < n + m → v = .slice base n old → (Builtin.firstCells i.size n (.slice base n old)).run P w.drew = .ok xs.toArray w.drew →
   ∃ v' w', (Builtin.append_ #[t, t] ty #[v, x]).run P w = .ok v' w' ∧ RowAt w' e i.size v' (n + m) (xs ++ news) ∧ Moved w w' v v' (n + m) := by
  intro base old ho hv hold
  subst hv
  have hr := run_append_grow_src (P := P) w t t ty e i z ht hi hz base n old xs hold x m news hsrc ho hsmall (growslice_fits ho hbytes)
  have hge := grownCap_ge w (n + m) old e
  have hcm : grownCap w (n + m) old e ≤ maxLen := grownCap_le_maxLen w (n + m) old e h63
  refine ⟨_, _, hr, ⟨hlen, .inr ⟨w.heap.size, 0, _, _, rfl, heap_alloc_new w.drew _, hge, hcm, ?_, ?_⟩⟩, .inr ⟨ho, rfl, ?_⟩⟩
  ·simp only [Array.size_append, List.size_toArray, size_zeroCells, hzs, hlen, ← Nat.add_mul, Nat.zero_add]
   refine Nat.mul_le_mul_right _ ?_
   omega
  ·intro j u hu
   have hj : j < (xs ++ news).length := (List.getElem?_eq_some_iff.1 hu).1
   rw [Nat.zero_add, Array.getElem?_append_left (by simpa using hj)]
   simpa using hu
  ·exact ((Kept.refl NoBlk w).drew).alloc _
 rcases hown.2 with ⟨rfl, rfl⟩ | ⟨g, off, cap, cur, rfl, hg, hnc, hcm, hcs, htake⟩
 ·have hxs : xs = [] := List.eq_nil_of_length_eq_zero (by simpa using hown.1)
  subst hxs
  by_cases hm : m = 0
  ·subst hm
   obtain rfl : news = [] := List.eq_nil_of_length_eq_zero (by simpa using hx.len)
   refine ⟨.slice none 0 0, w, ?_, by simpa using RowAt.nil w e i.size, .inl ⟨rfl, rfl, by simp, Kept.refl _ _⟩⟩
   simp [Builtin.append_, run_underlying ht, sizeOf, typeInfo, hi, hsrc.len]
   simp [hsrc.cells]
  ·exact grown none 0 (by omega) rfl (run_firstCells_none w.drew i.size 0 0 0)
 ·by_cases hroom : n + m ≤ cap
  ·have hle : (n + m) * i.size ≤ cap * i.size := Nat.mul_le_mul_right _ hroom
   have hfit : off + n * i.size + news.length ≤ cur.size := by rw [hx.len, Nat.add_assoc, ← Nat.add_mul]; omega
   have hst := run_storeCells_at P g (off + n * i.size) e news 0 cur w hg (by simpa using hfit) hx.one
   simp only [Nat.add_zero] at hst
   have hr : (Builtin.append_ #[t, t] ty #[.slice (some ⟨g, off, none⟩) n cap, x]).run P w =
     .ok (.slice (some ⟨g, off, none⟩) (n + m) cap) (w.setRow g (cur.toList.take (off + n * i.size) ++ news ++ cur.toList.drop (off + n * i.size + news.length)).toArray) := by
    simp [Builtin.append_, run_underlying ht, sizeOf, typeInfo, hi, hsrc.len, hroom, hsrc.cells, Addr.add_lit, hst]
   refine ⟨_, _, hr, ⟨hlen, .inr ⟨g, off, cap, _, rfl, setRow_heap w g cur _ e _ hg, hroom, hcm, ?_, ?_⟩⟩, .inl ⟨rfl, rfl, hroom, ⟨rfl, rfl, rfl, by simp, fun k _ hk => setRow_other w g k _ (fun e => hk (by simp [Value.ownBlock, e]))⟩⟩⟩
   ·simp only [List.size_toArray, List.length_append, List.length_take, List.length_drop, Array.length_toList]
    omega
   ·intro j u hu
    have hxl := hown.1
    have hnl : off + n * i.size ≤ cur.size := by omega
    by_cases hj : j < xs.length
    ·rw [List.getElem?_append_left hj] at hu
     have := htake j u hu
     simp only [List.getElem?_toArray]
     rw [List.append_assoc, List.getElem?_append_left (by simp; omega), List.getElem?_take_of_lt (by omega)]
     simpa using this
    ·rw [List.getElem?_append_right (by omega)] at hu
     have hj2 : j - xs.length < news.length := (List.getElem?_eq_some_iff.1 hu).1
     simp only [List.getElem?_toArray]
     rw [List.append_assoc, List.getElem?_append_right (by simp; omega), List.getElem?_append_left (by simp; omega)]
     rw [← hu]
     congr 1
     simp
     omega
  ·refine grown (some ⟨g, off, none⟩) cap (by omega) rfl ?_
   refine run_firstCells_some w.drew i.size n ⟨g, off, none⟩ n cap xs hown.1 (fun j u hu => ?_)
   show w.cell? _ = _
   rw [Addr.add_lit, cell_at hg]
   exact htake j u hu
theorem wpList_append_row {P : Program} {w : World} {ops : Array Oper} {rest : List Oper} {o : Oper} {a : Act} {Q : Exit → Act → World → Prop} (hgd : o.guard = none) (s x : Operand) (t : TypeId)
  (ho : o.op = .call { callee := .builtin .append, args := #[s, x], argTypes := #[t, t] })
  (e : TypeId) (i : TypeInfo) (z : Value) (size bytes : Nat) (ht : P.underlying t = some (.slice e)) (hi : P.info? e = some i) (hz : i.zero = some z)
  (hsize : i.size = size) (hby : i.bytes = bytes) (hzs : z.cells.size = size)
  (v : Value) (n : Nat) (xs : List Value) (hs : a.eval s = v) (hown : RowAt w e size v n xs) (xv : Value) (m : Nat) (news : List Value) (hx : a.eval x = xv) (hsrc : FromMem w size xv m news)
  (h63 : n + m ≤ maxLen) (hbytes : (n + m) * bytes ≤ 140737488355328)
  (h : ∀ ao' c' w', RowAt w' e size (.slice ao' (n + m) c') (n + m) (xs ++ news) → Moved w w' v (.slice ao' (n + m) c') (n + m) → wpList P ops Q rest (a.put o.dst (.slice ao' (n + m) c')) w') : wpList P ops Q (o :: rest) a w := by
 refine wpList_plain hgd fun K hK => ?_
 obtain ⟨v', w', hr, h2, h3⟩ := run_append_row (P := P) w t o.type e i z size bytes ht hi hz hsize hby hzs v n xs hown xv m news hsrc h63 hbytes
 unfold Oper.wp
 simp only [execOp, ho, resolve, invoke, builtin, Sem.run_bind, Sem.run_pure, Result.andThen_ok, List.map_toArray, List.map_cons, List.map_nil, hs, hx, hr]
 obtain ⟨ao', c', rfl, _⟩ := h2.form
 exact hK _ _ (h ao' c' w' h2 h3)
theorem step_append_row {P : Program} {w : World} {ops : Array Oper} {o : Oper} {a : Act} {K : Act → World → Prop} {Q : Exit → Act → World → Prop} {E : Prop} (hgd : o.guard = none) (s x : Operand) (t : TypeId)
  (ho : o.op = .call { callee := .builtin .append, args := #[s, x], argTypes := #[t, t] })
  (e : TypeId) (i : TypeInfo) (z : Value) (size bytes : Nat) (ht : P.underlying t = some (.slice e)) (hi : P.info? e = some i) (hz : i.zero = some z)
  (hsize : i.size = size) (hby : i.bytes = bytes) (hzs : z.cells.size = size)
  (v : Value) (n : Nat) (xs : List Value) (hs : a.eval s = v) (hown : RowAt w e size v n xs) (xv : Value) (m : Nat) (news : List Value) (hx : a.eval x = xv) (hsrc : FromMem w size xv m news)
  (h63 : n + m ≤ maxLen) (hbytes : (n + m) * bytes ≤ 140737488355328)
  (h : ∀ ao' c' w', RowAt w' e size (.slice ao' (n + m) c') (n + m) (xs ++ news) → Moved w w' v (.slice ao' (n + m) c') (n + m) → K (a.put o.dst (.slice ao' (n + m) c')) w') :
  if Region.wanted o (yielded ops a.tmps) = true then Oper.wp P o a w K Q else E := by
 have hw : Region.wanted o (yielded ops a.tmps) = true := by simp [Region.wanted, hgd]
 rw [if_pos hw]
 obtain ⟨v', w', hr, h2, h3⟩ := run_append_row (P := P) w t o.type e i z size bytes ht hi hz hsize hby hzs v n xs hown xv m news hsrc h63 hbytes
 unfold Oper.wp
 simp only [execOp, ho, resolve, invoke, builtin, Sem.run_bind, Sem.run_pure, Result.andThen_ok, List.map_toArray, List.map_cons, List.map_nil, hs, hx, hr]
 obtain ⟨ao', c', rfl, _⟩ := h2.form
 exact h ao' c' w' h2 h3
end Go.Proofs.YtmcajfefagdbnaaGreat
namespace Go.Proofs.YtmcajfefagdbnaaGreat
open Go Go.RowKit
theorem zeroInt (w : World) : (zeroValue 3).run Tryz.prog w = .ok (.int .i64 0) w := by kernel_rfl
theorem alloc_size (w : World) (a : Obj) : (w.alloc a).heap.size = w.heap.size + 1 := by simp
theorem block_new2 (w : World) (a b : Obj) : ((w.alloc a).alloc b).heap[w.heap.size + 1]? = some b := by rw [← alloc_size w a]; exact block_alloc_new _ _
theorem block_new3 (w : World) (a b c : Obj) : (((w.alloc a).alloc b).alloc c).heap[w.heap.size + 1 + 1]? = some c := by rw [← alloc_size w a, ← alloc_size (w.alloc a) b]; exact block_alloc_new _ _
def ivals (f : Int → Option Int) : Int → Option Value := fun k => (f k).map (Value.int .i64)
def PutsBack (w : World) (T : Nat → Prop) (p : Nat) (c : Value) (key : Int) (old : Option Int) : Prop :=
 match old with
 | some v => ∃ x s r, c = .func (.func 156) #[] #[.pointer (some ⟨x, 0, none⟩), .pointer (some ⟨s, 0, none⟩), .pointer (some ⟨r, 0, none⟩)] ∧
   w.heap[x]? = some (.cells #[.int .i64 v] 3 (0, 0)) ∧ w.heap[s]? = some (.cells #[.pointer (some ⟨p, 0, none⟩)] 35 (0, 0)) ∧ w.heap[r]? = some (.cells #[.int .i64 key] 3 (0, 0)) ∧ T x ∧ T s ∧ T r
 | none => ∃ s r, c = .func (.func 155) #[] #[.pointer (some ⟨s, 0, none⟩), .pointer (some ⟨r, 0, none⟩)] ∧
   w.heap[s]? = some (.cells #[.pointer (some ⟨p, 0, none⟩)] 35 (0, 0)) ∧ w.heap[r]? = some (.cells #[.int .i64 key] 3 (0, 0)) ∧ T s ∧ T r
theorem PutsBack.of_same {w w' : World} {T T' : Nat → Prop} {p : Nat} {c : Value} {key : Int} {old : Option Int} (h : PutsBack w T p c key old) (hT : ∀ k, k < w.heap.size → T k → T' k) (hb : ∀ k, k < w.heap.size → T k → w'.heap[k]? = w.heap[k]?) : PutsBack w' T' p c key old := by
 cases old with
 | none =>
  obtain ⟨s, r, h1, h2, h3, h4, h5⟩ := h
  exact ⟨s, r, h1, (hb s (lt_of_block h2) h4).trans h2, (hb r (lt_of_block h3) h5).trans h3, hT s (lt_of_block h2) h4, hT r (lt_of_block h3) h5⟩
 | some v =>
  obtain ⟨x, s, r, h1, h0, h2, h3, h6, h4, h5⟩ := h
  exact ⟨x, s, r, h1, (hb x (lt_of_block h0) h6).trans h0, (hb s (lt_of_block h2) h4).trans h2, (hb r (lt_of_block h3) h5).trans h3, hT x (lt_of_block h0) h6, hT s (lt_of_block h2) h4, hT r (lt_of_block h3) h5⟩
set_option maxHeartbeats 1600000 in
theorem putBack_some (p vb n : Nat) (row v : Int) (f : Int → Option Int) (w : World) (hp : w.cell? ⟨p, 3, none⟩ = some (.map (some vb))) (hm : MapAt keyI w vb n (ivals f)) (hr : inI row) (hv : f row = some v) :
  Calls Tryz.prog 132 #[.pointer (some ⟨p, 0, none⟩), .int .i64 row] w fun e w' => ∃ c, e = .returned c ∧ PutsBack w' (fun k => w.heap.size ≤ k) p c row (f row) ∧ Kept NoBlk w w' := by
 have hpl := World.block_lt_of_cell? w _ hp
 have look : ∀ W, Kept NoBlk w W → (Instr.lookup 122 (.map (some vb)) (.int .i64 row) true).run Tryz.prog W = .ok (.tuple #[.int .i64 v, .bool true]) W := by
  intro W hk
  have hl := (hm.kept hk (fun x => x)).look_ok Tryz.underlying122 (zeroInt _) (a := row) hr
  simp only [ivals, hv, Option.map_some, Option.getD_some, Option.isSome_some] at hl
  exact hl
 have l1 : ∀ o1 o2, (Instr.lookup 122 (.map (some vb)) (.int .i64 row) true).run Tryz.prog ((w.alloc o1).alloc o2).drew = .ok (.tuple #[.int .i64 v, .bool true]) ((w.alloc o1).alloc o2).drew := fun o1 o2 => look _ (((Kept.refl _ _).alloc _).alloc _).drew
 have l2 : ∀ o1 o2 o3, (Instr.lookup 122 (.map (some vb)) (.int .i64 row) true).run Tryz.prog (((w.alloc o1).alloc o2).alloc o3).drew = .ok (.tuple #[.int .i64 v, .bool true]) (((w.alloc o1).alloc o2).alloc o3).drew := fun o1 o2 o3 => look _ ((((Kept.refl _ _).alloc _).alloc _).alloc _).drew
 have c1 : ∀ o1 o2, ((w.alloc o1).alloc o2).cell? ⟨p, 3, none⟩ = some (.map (some vb)) := fun o1 o2 => (((Kept.refl NoBlk w).alloc o1).alloc o2).cell0 hp
 have c2 : ∀ o1 o2 o3, (((w.alloc o1).alloc o2).alloc o3).cell? ⟨p, 3, none⟩ = some (.map (some vb)) := fun o1 o2 o3 => ((((Kept.refl NoBlk w).alloc o1).alloc o2).alloc o3).cell0 hp
 clear look hm
 rw [hv]
 go_enter Tryz.func132, Tryz.ntmps132
 go_wp2_with fail
 go_region
 go_wp2_with fail
 go_ret
 refine ⟨_, rfl, ⟨w.heap.size + 1 + 1, w.heap.size, w.heap.size + 1, rfl, ?_, ?_, ?_, by omega, by omega, by omega⟩, ((((Kept.refl _ _).alloc _).alloc _).alloc _).drew⟩
 ·exact block_new3 w _ _ _
 ·exact block_alloc_old _ (block_alloc_old _ (block_alloc_new w _))
 ·exact block_alloc_old _ (block_new2 w _ _)
set_option maxHeartbeats 1600000 in
theorem putBack_none (p vb n : Nat) (row : Int) (f : Int → Option Int) (w : World) (hp : w.cell? ⟨p, 3, none⟩ = some (.map (some vb))) (hm : MapAt keyI w vb n (ivals f)) (hr : inI row) (hv : f row = none) :
  Calls Tryz.prog 132 #[.pointer (some ⟨p, 0, none⟩), .int .i64 row] w fun e w' => ∃ c, e = .returned c ∧ PutsBack w' (fun k => w.heap.size ≤ k) p c row (f row) ∧ Kept NoBlk w w' := by
 have hpl := World.block_lt_of_cell? w _ hp
 have look : ∀ W, Kept NoBlk w W → (Instr.lookup 122 (.map (some vb)) (.int .i64 row) true).run Tryz.prog W = .ok (.tuple #[.int .i64 0, .bool false]) W := by
  intro W hk
  have hl := (hm.kept hk (fun x => x)).look_ok Tryz.underlying122 (zeroInt _) (a := row) hr
  simp only [ivals, hv, Option.map_none, Option.getD_none, Option.isSome_none] at hl
  exact hl
 have l1 : ∀ o1 o2, (Instr.lookup 122 (.map (some vb)) (.int .i64 row) true).run Tryz.prog ((w.alloc o1).alloc o2).drew = .ok (.tuple #[.int .i64 0, .bool false]) ((w.alloc o1).alloc o2).drew := fun o1 o2 => look _ (((Kept.refl _ _).alloc _).alloc _).drew
 have l2 : ∀ o1 o2 o3, (Instr.lookup 122 (.map (some vb)) (.int .i64 row) true).run Tryz.prog (((w.alloc o1).alloc o2).alloc o3).drew = .ok (.tuple #[.int .i64 0, .bool false]) (((w.alloc o1).alloc o2).alloc o3).drew := fun o1 o2 o3 => look _ ((((Kept.refl _ _).alloc _).alloc _).alloc _).drew
 have c1 : ∀ o1 o2, ((w.alloc o1).alloc o2).cell? ⟨p, 3, none⟩ = some (.map (some vb)) := fun o1 o2 => (((Kept.refl NoBlk w).alloc o1).alloc o2).cell0 hp
 have c2 : ∀ o1 o2 o3, (((w.alloc o1).alloc o2).alloc o3).cell? ⟨p, 3, none⟩ = some (.map (some vb)) := fun o1 o2 o3 => ((((Kept.refl NoBlk w).alloc o1).alloc o2).alloc o3).cell0 hp
 clear look hm
 rw [hv]
 go_enter Tryz.func132, Tryz.ntmps132
 go_wp2_with fail
 go_region
 go_wp2_with fail
 go_ret
 refine ⟨_, rfl, ⟨w.heap.size, w.heap.size + 1, rfl, ?_, ?_, by omega, by omega⟩, ((((Kept.refl _ _).alloc _).alloc _).alloc _).drew⟩
 ·exact block_alloc_old _ (block_alloc_old _ (block_alloc_new w _))
 ·exact block_alloc_old _ (block_new2 w _ _)
end Go.Proofs.YtmcajfefagdbnaaGreat
namespace Go.Proofs.YtmcajfefagdbnaaGreat
open Go Go.RowKit
def opCells (l : List Op4) : List Value := l.flatMap Op4.cells
def OpsSrc (w : World) (v : Value) (l : List Op4) : Prop := ∃ ao c, v = .slice ao l.length c ∧ (0 < l.length → ∃ b off, ao = some ⟨b, off, none⟩ ∧ OpsAt w b off l)
theorem opCells_len (l : List Op4) : (opCells l).length = l.length * 4 := by
 induction l with
 | nil => rfl
 | cons o l ih => simp only [opCells, List.flatMap_cons, List.length_append] at ih ⊢; rw [ih]; simp [Op4.cells]; omega
theorem OpsAt.tail {w : World} {b off : Nat} {o : Op4} {l : List Op4} (h : OpsAt w b off (o :: l)) : OpsAt w b (off + 4) l := by
 intro i hi
 have := h (i + 1) (by simpa using hi)
 simp only [List.getD_cons_succ] at this
 rw [show off + (i + 1) * 4 = off + 4 + i * 4 from by omega] at this
 exact this
theorem OpsAt.flat {w : World} {b : Nat} : ∀ {off : Nat} {l : List Op4}, OpsAt w b off l → ∀ j u, (opCells l)[j]? = some u → w.cell? ((⟨b, off, none⟩ : Addr).add j) = some u
 | off, [], _, j, u, hu => by simp [opCells] at hu
 | off, o :: l, h, j, u, hu => by
  have h0 := h 0 (by simp)
  simp only [Nat.zero_mul, Nat.add_zero, List.getD_cons_zero] at h0
  rw [Addr.add_lit]
  by_cases hj : j < 4
  ·match j, hj with
   | 0, _ => simp [opCells, Op4.cells] at hu; rw [← hu]; exact h0.1
   | 1, _ => simp [opCells, Op4.cells] at hu; rw [← hu]; exact h0.2.1
   | 2, _ => simp [opCells, Op4.cells] at hu; rw [← hu]; exact h0.2.2.1
   | 3, _ => simp [opCells, Op4.cells] at hu; rw [← hu]; exact h0.2.2.2
  ·obtain ⟨j, rfl⟩ : ∃ i, j = i + 4 := ⟨j - 4, by omega⟩
   have hu' : (opCells l)[j]? = some u := by
    simp only [opCells, List.flatMap_cons] at hu
    rw [List.getElem?_append_right (by simp [Op4.cells])] at hu
    simpa [Op4.cells, opCells] using hu
   have := OpsAt.flat h.tail j u hu'
   rw [Addr.add_lit] at this
   rw [show off + (j + 4) = off + 4 + j from by omega]
   exact this
theorem opCells_one (l : List Op4) : ∀ u ∈ opCells l, u.oneCell' = true := by
 intro u hu
 simp only [opCells, List.mem_flatMap] at hu
 obtain ⟨o, _, ho⟩ := hu
 simp [Op4.cells] at ho
 rcases ho with rfl | rfl | rfl | rfl <;> rfl
theorem OpsSrc.mem {w : World} {v : Value} {l : List Op4} (h : OpsSrc w v l) : FromMem w 4 v l.length (opCells l) := by
 obtain ⟨ao, c, rfl, h⟩ := h
 refine ⟨⟨ao, c, rfl, ?_, ?_⟩, opCells_len l, opCells_one l⟩
 ·intro hn
  rcases Nat.eq_zero_or_pos l.length with h0 | h0
  ·exact h0
  ·obtain ⟨b, off, hao, _⟩ := h h0
   rw [hn] at hao
   cases hao
 ·intro ad had j u hu
  have h0 : 0 < l.length := by
   rcases Nat.eq_zero_or_pos l.length with h0 | h0
   ·rw [List.eq_nil_of_length_eq_zero h0] at hu
    simp [opCells] at hu
   ·exact h0
  obtain ⟨b, off, hao, hat⟩ := h h0
  rw [had] at hao
  obtain rfl := Option.some.inj hao
  exact hat.flat j u hu
theorem OpsAt.src {w : World} {b off c : Nat} {l : List Op4} (h : OpsAt w b off l) : OpsSrc w (.slice (some ⟨b, off, none⟩) l.length c) l := ⟨_, c, rfl, fun _ => ⟨b, off, rfl, h⟩⟩
theorem OpsSrc.kept {S : Nat → Prop} {w w' : World} {v : Value} {l : List Op4} (h : OpsSrc w v l) (hk : Kept S w w') (hn : 0 < l.length → ∀ b, v.ownBlock = some b → ¬ S b) : OpsSrc w' v l := by
 obtain ⟨ao, c, rfl, h⟩ := h
 refine ⟨ao, c, rfl, fun h0 => ?_⟩
 obtain ⟨b, off, rfl, hat⟩ := h h0
 exact ⟨b, off, rfl, hat.kept hk (hn h0 b rfl)⟩
end Go.Proofs.YtmcajfefagdbnaaGreat
