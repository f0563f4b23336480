import Derived.Test.YtmcajfefagdbnaaGreatQ26
namespace Go.Proofs.YtmcajfefagdbnaaGreat
open Go Go.RowKit
set_option maxRecDepth 20000 in
set_option maxHeartbeats 1600000 in
theorem sameRows_true (x y : Value) (l : List Row2) (w : World) (hx : RowAt w 95 2 x l.length (rowCells l)) (hy : RowAt w 95 2 y l.length (rowCells l)) (hl : l.length ≤ 9223372036854775807) :
  Calls Tryz.prog 24 #[x, y] w fun e w' => e = .returned (.bool true) ∧ Kept NoBlk w w' := by
 have HX : Hid (RowsSrc w x l) := hx.rows
 have HY : Hid (RowsSrc w y l) := hy.rows
 obtain ⟨xa, xc, rfl, _⟩ := hx.form
 obtain ⟨ya, yc, rfl, _⟩ := hy.form
 generalize hn : l.length = n at *
 have HN : Hid (l.length = n) := hn
 clear hx hy hn
 go_enter Tryz.func24, Tryz.ntmps24
 go_wp2_with fail
 go_loopw [5] (fun i wr => ∃ k : Nat, k ≤ n ∧ i = .int .i64 k ∧ Kept NoBlk w wr) (fun i _ => n - (intOf i).toNat)
 case atStart => exact ⟨0, by omega, rfl, Kept.refl _ _⟩
 case round =>
  obtain ⟨k, hk, rfl, hkw⟩ := hrel
  by_cases hlt : k < n
  ·obtain ⟨xa', xc', ex, hxs⟩ := HX.out
   obtain ⟨bx, ox, hbx, hcx⟩ := hxs (by rw [HN.out]; omega)
   obtain ⟨ya', yc', ey, hys⟩ := HY.out
   obtain ⟨by', oy, hby, hcy⟩ := hys (by rw [HN.out]; omega)
   simp only [Value.slice.injEq] at ex ey
   obtain ⟨rfl, e1, rfl⟩ := ex
   obtain ⟨rfl, e2, rfl⟩ := ey
   clear e1 e2 hxs hys
   subst hbx hby
   have g0 := hkw.cell0 (hcx k (by rw [HN.out]; exact hlt)).1
   have g1 := hkw.cell0 (hcx k (by rw [HN.out]; exact hlt)).2
   have p0 := hkw.cell0 (hcy k (by rw [HN.out]; exact hlt)).1
   have p1 := hkw.cell0 (hcy k (by rw [HN.out]; exact hlt)).2
   have HK : Hid (Kept NoBlk w wr) := hkw
   clear hcx hcy hkw
   generalize l.getD k Row2.z = r at *
   have j0 : (0 : Int) ≤ (k : Int) := by omega
   have j1 : (k : Int) < (n : Int) := by omega
   go_wp2_with fail
   go_quiet (fail)
   go_wp2_with fail
   go_roundw
   case rel => exact ⟨k + 1, by omega, by go_num, HK.out.drewN _⟩
   case measure => simp [intOf]; omega
  ·go_wp2_with fail
   go_ret
   exact ⟨rfl, hkw⟩
def sawZ : Saw := ⟨0, false, 0⟩
def SeenSrc (w : World) (v : Value) (l : List Saw) : Prop := ∃ ao c, v = .slice ao l.length c ∧ (0 < l.length → ∃ b off, ao = some ⟨b, off, none⟩ ∧ ∀ i, i < l.length → w.cell? ⟨b, off + i * 3, none⟩ = some (.int .i64 (l.getD i sawZ).key) ∧ w.cell? ⟨b, off + i * 3 + 1, none⟩ = some (.bool (l.getD i sawZ).there) ∧ w.cell? ⟨b, off + i * 3 + 2, none⟩ = some (.int .i64 (l.getD i sawZ).val))
theorem seenCells_at (l : List Saw) : ∀ k, k < l.length → (seenCells l)[k * 3]? = some (.int .i64 (l.getD k sawZ).key) ∧ (seenCells l)[k * 3 + 1]? = some (.bool (l.getD k sawZ).there) ∧ (seenCells l)[k * 3 + 2]? = some (.int .i64 (l.getD k sawZ).val) := by
 induction l with
 | nil => intro k hk; simp at hk
 | cons o l ih =>
  intro k hk
  cases k with
  | zero => exact ⟨rfl, rfl, rfl⟩
  | succ k =>
   obtain ⟨h1, h2, h3⟩ := ih k (by simpa using hk)
   have e : seenCells (o :: l) = .int .i64 o.key :: .bool o.there :: .int .i64 o.val :: seenCells l := rfl
   rw [e]
   refine ⟨?_, ?_, ?_⟩
   ·rw [show (k + 1) * 3 = k * 3 + 1 + 1 + 1 from by omega, List.getElem?_cons_succ, List.getElem?_cons_succ, List.getElem?_cons_succ]; exact h1
   ·rw [show (k + 1) * 3 + 1 = k * 3 + 1 + 1 + 1 + 1 from by omega, List.getElem?_cons_succ, List.getElem?_cons_succ, List.getElem?_cons_succ]; exact h2
   ·rw [show (k + 1) * 3 + 2 = k * 3 + 2 + 1 + 1 + 1 from by omega, List.getElem?_cons_succ, List.getElem?_cons_succ, List.getElem?_cons_succ]; exact h3
theorem RowAt.seen {w : World} {x : Value} {l : List Saw} (h : RowAt w 105 3 x l.length (seenCells l)) : SeenSrc w x l := by
 rcases h.2 with ⟨rfl, h0⟩ | ⟨g, off, cap, cur, rfl, _⟩
 ·exact ⟨none, 0, by rw [h0], fun hp => by omega⟩
 ·refine ⟨_, cap, rfl, fun _ => ⟨g, off, rfl, fun i hi => ?_⟩⟩
  obtain ⟨o0, o1, o2⟩ := seenCells_at l i hi
  exact ⟨h.cell _ o0, by rw [Nat.add_assoc]; exact h.cell _ o1, by rw [Nat.add_assoc]; exact h.cell _ o2⟩
set_option maxRecDepth 20000 in
set_option maxHeartbeats 1600000 in
theorem sameSeen_true (x y : Value) (l : List Saw) (w : World) (hx : RowAt w 105 3 x l.length (seenCells l)) (hy : RowAt w 105 3 y l.length (seenCells l)) (hl : l.length ≤ 9223372036854775807) :
  Calls Tryz.prog 28 #[x, y] w fun e w' => e = .returned (.bool true) ∧ Kept NoBlk w w' := by
 have HX : Hid (SeenSrc w x l) := hx.seen
 have HY : Hid (SeenSrc w y l) := hy.seen
 obtain ⟨xa, xc, rfl, _⟩ := hx.form
 obtain ⟨ya, yc, rfl, _⟩ := hy.form
 generalize hn : l.length = n at *
 have HN : Hid (l.length = n) := hn
 clear hx hy hn
 go_enter Tryz.func28, Tryz.ntmps28
 go_wp2_with fail
 go_loopw [5] (fun i wr => ∃ k : Nat, k ≤ n ∧ i = .int .i64 k ∧ Kept NoBlk w wr) (fun i _ => n - (intOf i).toNat)
 case atStart => exact ⟨0, by omega, rfl, Kept.refl _ _⟩
 case round =>
  obtain ⟨k, hk, rfl, hkw⟩ := hrel
  by_cases hlt : k < n
  ·obtain ⟨xa', xc', ex, hxs⟩ := HX.out
   obtain ⟨bx, ox, hbx, hcx⟩ := hxs (by rw [HN.out]; omega)
   obtain ⟨ya', yc', ey, hys⟩ := HY.out
   obtain ⟨by', oy, hby, hcy⟩ := hys (by rw [HN.out]; omega)
   simp only [Value.slice.injEq] at ex ey
   obtain ⟨rfl, e1, rfl⟩ := ex
   obtain ⟨rfl, e2, rfl⟩ := ey
   clear e1 e2 hxs hys
   subst hbx hby
   have g0 := hkw.cell0 (hcx k (by rw [HN.out]; exact hlt)).1
   have g1 := hkw.cell0 (hcx k (by rw [HN.out]; exact hlt)).2.1
   have g2 := hkw.cell0 (hcx k (by rw [HN.out]; exact hlt)).2.2
   have p0 := hkw.cell0 (hcy k (by rw [HN.out]; exact hlt)).1
   have p1 := hkw.cell0 (hcy k (by rw [HN.out]; exact hlt)).2.1
   have p2 := hkw.cell0 (hcy k (by rw [HN.out]; exact hlt)).2.2
   have HK : Hid (Kept NoBlk w wr) := hkw
   clear hcx hcy hkw
   generalize l.getD k sawZ = r at *
   have j0 : (0 : Int) ≤ (k : Int) := by omega
   have j1 : (k : Int) < (n : Int) := by omega
   go_wp2_with fail
   go_quiet (fail)
   go_wp2_with fail
   go_roundw
   case rel => exact ⟨k + 1, by omega, by go_num, HK.out.drewN _⟩
   case measure => simp [intOf]; omega
  ·go_wp2_with fail
   go_ret
   exact ⟨rfl, hkw⟩
theorem cells5_T (T : Nat → Bool) (V : Nat → Int) : ∀ k, k < 5 → (cells5 T V)[k]? = some (.bool (T k)) ∧ (cells5 T V)[5 + k]? = some (.int .i64 (V k))
 | 0, _ => ⟨rfl, rfl⟩
 | 1, _ => ⟨rfl, rfl⟩
 | 2, _ => ⟨rfl, rfl⟩
 | 3, _ => ⟨rfl, rfl⟩
 | 4, _ => ⟨rfl, rfl⟩
 | _ + 5, h => absurd h (by omega)
theorem rows5_len (T : Nat → Bool) (V : Nat → Int) (k : Nat) : (rows5 T V k).length ≤ k := by
 unfold rows5
 rw [List.length_map]
 exact Nat.le_trans (List.length_filter_le _ _) (by simp)
set_option maxRecDepth 20000 in
set_option maxHeartbeats 1600000 in
theorem rows_any (T : Nat → Bool) (V : Nat → Int) (w : World) :
  Calls Tryz.prog 26 #[.agg #[.bool (T 0), .bool (T 1), .bool (T 2), .bool (T 3), .bool (T 4), .int .i64 (V 0), .int .i64 (V 1), .int .i64 (V 2), .int .i64 (V 3), .int .i64 (V 4)]] w fun e w' => ∃ x, e = .returned x ∧ RowAt w' 95 2 x (rows5 T V 5).length (rowCells (rows5 T V 5)) ∧ (∀ k, x.ownBlock = some k → w.heap.size ≤ k) ∧ Kept NoBlk w w' := by
 have hb1 := block_alloc_new w (.cells (cells5 T V) 58)
 have HB1 : Hid ((w.alloc (.cells (cells5 T V) 58)).heap[w.heap.size]? = some (.cells (cells5 T V) 58 (0, 0)) ∧ Kept NoBlk w (w.alloc (.cells (cells5 T V) 58))) := ⟨hb1, (Kept.refl _ _).alloc _⟩
 clear hb1
 go_enter Tryz.func26, Tryz.ntmps26
 go_wp2_with fail
 generalize hHH : w.heap.size = H at *
 have HHH : Hid (w.heap.size = H) := hHH
 clear hHH
 go_loopw [3, 4] (fun x i wr => ∃ k : Nat, k ≤ 5 ∧ i = .int .i64 k ∧ wr.heap[H]? = some (.cells (cells5 T V) 58 (0, 0)) ∧ RowAt wr 95 2 x (rows5 T V k).length (rowCells (rows5 T V k)) ∧ (∀ j, x.ownBlock = some j → H + 1 ≤ j) ∧ Kept NoBlk w wr) (fun _ i _ => 5 - (intOf i).toNat)
 case atStart => exact ⟨0, by omega, rfl, HB1.out.1, RowAt.nil _ _ _, fun j hj => by simp [Value.ownBlock] at hj, HB1.out.2⟩
 case round =>
  clear HB1
  obtain ⟨k, hk, rfl, hb1, hrow, hfr, hkw⟩ := hrel
  by_cases hlt : k < 5
  ·have g0 : wr.cell? ⟨H, k, none⟩ = some (.bool (T k)) := by rw [cell_at hb1]; exact (cells5_T T V k hlt).1
   have g1 : wr.cell? ⟨H, 5 + k, none⟩ = some (.int .i64 (V k)) := by rw [cell_at hb1]; exact (cells5_T T V k hlt).2
   have HR : Hid (wr.heap[H]? = some (.cells (cells5 T V) 58 (0, 0)) ∧ RowAt wr 95 2 u3 (rows5 T V k).length (rowCells (rows5 T V k)) ∧ (∀ j, u3.ownBlock = some j → H + 1 ≤ j) ∧ Kept NoBlk w wr) := ⟨hb1, hrow, hfr, hkw⟩
   have HSC : Hid (rows5 T V (k + 1) = rows5 T V k ++ (if T k then [⟨(k : Int), V k⟩] else [])) := rows5_succ T V k
   have HC5 : Hid ((rows5 T V k).length ≤ 5) := Nat.le_trans (rows5_len T V k) hk
   have j0 : (0 : Int) ≤ (k : Int) := by omega
   have j1 : (k : Int) < 5 := by omega
   clear hb1 hrow hfr hkw
   cases hT : T k with
   | true =>
    rw [hT] at g0 HSC
    rw [if_pos rfl] at HSC
    generalize hvk : V k = vk at *
    have HVK : Hid (V k = vk) := hvk
    generalize hcnt : (rows5 T V k).length = cnt at *
    have HC : Hid ((rows5 T V k).length = cnt) := hcnt
    generalize hxs : rowCells (rows5 T V k) = xs at *
    have HXS : Hid (rowCells (rows5 T V k) = xs) := hxs
    have HFM : Hid (FromMem (wr.alloc (.cells #[.int .i64 (k : Int), .int .i64 vk] 95)) 2 (.slice (some ⟨wr.heap.size, 0, none⟩) 1 1) 1 [.int .i64 (k : Int), .int .i64 vk]) := from_new2 wr (.int .i64 (k : Int)) (.int .i64 vk) 95 rfl rfl
    have HR4 : Hid (RowAt (wr.alloc (.cells #[.int .i64 (k : Int), .int .i64 vk] 95)) 95 2 u3 cnt xs) := HR.out.2.1.kept ((Kept.refl NoBlk _).alloc _) (fun _ _ x => x)
    have HB5 : Hid ((cnt + 1) * 16 ≤ 140737488355328) := by have := HC5.out; unfold Hid; omega
    have HB6 : Hid (cnt + 1 ≤ maxLen) := by have := HC5.out; unfold Hid maxLen; omega
    obtain ⟨i1, hi1, hy0, hy1, hy2⟩ := info_parts infoRow3
    have HI : Hid (Tryz.prog.info? 95 = some i1 ∧ i1.zero = some (.agg #[.int .i64 0, .int .i64 0]) ∧ i1.size = 2 ∧ i1.bytes = 16) := ⟨hi1, hy0, hy1, hy2⟩
    clear hi1 hy0 hy1 hy2 hcnt hxs hvk hT
    go_wp2_with (at_builtin; refine wpList_append_row (by rfl) _ _ 22 (by rfl) 95 i1 _ 2 16 Tryz.underlying22 HI.out.1 HI.out.2.1 HI.out.2.2.1 HI.out.2.2.2 (by rfl) u3 cnt xs (by rfl) HR4.out (.slice (some ⟨wr.heap.size, 0, none⟩) 1 1) 1 [.int .i64 (k : Int), .int .i64 vk] (by rfl) HFM.out HB6.out HB5.out ?_)
    intro ao2 c2 W6 hown6 hmv6
    have hk6 := hmv6.keptOf
    have hn6 := hmv6.fresh
    have HF6 : Hid (W6.heap[H]? = some (.cells (cells5 T V) 58 (0, 0)) ∧ RowAt W6 95 2 (.slice ao2 (cnt + 1) c2) (rows5 T V (k + 1)).length (rowCells (rows5 T V (k + 1))) ∧ (∀ j, (Value.slice ao2 (cnt + 1) c2).ownBlock = some j → H + 1 ≤ j) ∧ Kept NoBlk w W6) := by
     have hka : Kept NoBlk wr (wr.alloc (.cells #[.int .i64 (k : Int), .int .i64 vk] 95)) := (Kept.refl NoBlk _).alloc _
     have hlt1 := lt_of_block HR.out.1
     have hfr := HR.out.2.2.1
     refine ⟨?_, ?_, fun j hj => ?_, ?_⟩
     ·exact hk6.heap (hka.heap HR.out.1 (fun x => x)) (fun e => by have := hfr _ e; omega)
     ·rw [HSC.out, rowCells_snoc, HXS.out, List.length_append, HC.out]
      exact hown6
     ·rcases hn6 j hj with h | h
      ·exact hfr j h
      ·rw [alloc_size] at h
       omega
     ·exact (HR.out.2.2.2.trans' hka).trans hk6 (fun j e => .inr (by have h1 := hfr j e; have h2 := HHH.out; omega))
    clear hk6 hn6 hown6 hmv6
    go_wp2_with fail
    go_roundw
    case rel => exact ⟨k + 1, by omega, by go_num, HF6.out⟩
    case measure => simp [intOf]; omega
   | false =>
    rw [hT] at g0 HSC
    rw [if_neg (by simp), List.append_nil] at HSC
    clear hT
    go_wp2_with fail
    go_roundw
    case rel => exact ⟨k + 1, by omega, by go_num, HR.out.1, by rw [HSC.out]; exact HR.out.2.1, HR.out.2.2⟩
    case measure => simp [intOf]; omega
  ·obtain rfl : k = 5 := by omega
   go_wp2_with fail
   go_ret
   exact ⟨_, rfl, hrow, fun j hj => by have h1 := hfr j hj; have h2 := HHH.out; omega, hkw⟩
end Go.Proofs.YtmcajfefagdbnaaGreat
