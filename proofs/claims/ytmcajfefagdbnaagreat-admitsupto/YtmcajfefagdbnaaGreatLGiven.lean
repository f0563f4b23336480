import Derived.Test.YtmcajfefagdbnaaGreatJ20
namespace Go.Proofs.YtmcajfefagdbnaaGreat
open Go Go.RowKit

/-- What stands behind the list that is handed in. -/
def pads : List Value := [.int .i64 77, .int .i64 0, .int .i64 77, .int .i64 0, .int .i64 77, .int .i64 0, .int .i64 77, .int .i64 0]

theorem pads_get (k : Nat) (hk : k < 4) : pads[k * 2]? = some (.int .i64 77) ∧ pads[k * 2 + 1]? = some (.int .i64 0) := by
  match k, hk with
  | 0, _ => exact ⟨rfl, rfl⟩
  | 1, _ => exact ⟨rfl, rfl⟩
  | 2, _ => exact ⟨rfl, rfl⟩
  | 3, _ => exact ⟨rfl, rfl⟩

theorem rowPads_get (l : List Row2) (k : Nat) (hk : k < 4) : (rowCells l ++ pads)[(l.length + k) * 2]? = some (.int .i64 77) ∧ (rowCells l ++ pads)[(l.length + k) * 2 + 1]? = some (.int .i64 0) := by
  have h := pads_get k hk
  have hl := rowCells_len l
  rw [List.getElem?_append_right (by omega), List.getElem?_append_right (by omega), hl]
  rw [show (l.length + k) * 2 - l.length * 2 = k * 2 from by omega, show (l.length + k) * 2 + 1 - l.length * 2 = k * 2 + 1 from by omega]
  exact h

theorem set2_pref {cs : Array Value} {L : List Value} {m : Nat} {a b : Value} (hsz : m + 2 ≤ cs.size) (h : ∀ j, j < m → cs[j]? = L[j]?) (e0 : L[m]? = some a) (e1 : L[m + 1]? = some b) :
    ∀ j, j < m + 2 → ((cs.setIfInBounds m a).setIfInBounds (m + 1) b)[j]? = L[j]? := by
  intro j hj
  rw [Array.getElem?_setIfInBounds, Array.getElem?_setIfInBounds]
  by_cases h1 : m + 1 = j
  · subst h1
    rw [if_pos rfl, if_pos (by simp; omega), e1]
  · rw [if_neg h1]
    by_cases h0 : m = j
    · subst h0
      rw [if_pos rfl, if_pos (by omega), e0]
    · rw [if_neg h0]
      exact h j (by omega)

set_option maxRecDepth 100000 in
set_option maxHeartbeats 3200000 in
theorem given_any (v : Value) (n : Nat) (l : List Row2) (w : World) (hn : l.length = n) (hl : n ≤ 1048576) (h : FromMem w 2 v n (rowCells l)) :
    Calls Tryz.prog 38 #[v] w fun e w' => e = .returned (.slice (some ⟨w.heap.size, 0, none⟩) n (n + 4)) ∧ w'.heap[w.heap.size]? = some (.cells (rowCells l ++ pads).toArray 95 (0, 0)) ∧ Kept NoBlk w w' := by
  obtain ⟨i0, hi0, hz0, hz1, hz2⟩ := info_parts infoRow
  have HS : Hid ((Tryz.prog.info? 95).map (·.size) = some 2) := by unfold Hid; rw [hi0]; simp [hz1]
  obtain ⟨ao, c, rfl, hnn, hc⟩ := h.shape
  have HX : Hid (FromMem (w.alloc (.cells (madeCells (Value.agg #[.int .i64 0, .int .i64 0]).cells ((n + 4) * 2)) 95)) 2 (.slice ao n c) n (rowCells l)) :=
    ⟨⟨ao, c, rfl, hnn, fun ad had j u hu => ((Kept.refl NoBlk w).alloc _).cell (hc ad had j u hu) (fun x => x)⟩, h.len, h.one⟩
  have HB : Hid (i0.bytes * (n + 4) ≤ 281474976710656) := by unfold Hid; rw [hz2]; omega
  have HM : Hid (n + 4 ≤ maxLen) := by unfold Hid maxLen; omega
  have HL : Hid ((rowCells l).length = n * 2) := h.len
  have HN : Hid _ := hn
  have HI : Hid (Tryz.prog.info? 95 = some i0 ∧ i0.zero = some (.agg #[.int .i64 0, .int .i64 0]) ∧ i0.size = 2) := ⟨hi0, hz0, hz1⟩
  clear h hnn hc hi0 hz0 hz1 hz2 hn
  go_enter Tryz.func38, Tryz.ntmps38
  go_wp2_with (first
    | (at_make; refine wpList_make_at rfl _ _ 22 rfl 95 i0 _ 2 Tryz.underlying22 HI.out.1 HI.out.2.1 HI.out.2.2 .i64 .i64 _ _ (n + 4) (n + 4) rfl rfl (by omega) (by omega) (Nat.le_refl _) HB.out HM.out ?_)
    | (refine wpList_copy_at (by rfl) _ _ 22 22 (by rfl) 95 2 Tryz.underlying22 HS.out w.heap.size (n + 4) (n + 4) (by rfl) _ 95 (block_alloc_new w _) _ n (rowCells l) (by rfl) HX.out (by omega) (by rw [size_madeCells, HL.out]; omega) ?_))
  intro w1 hg hk
  have hsz : ((rowCells l ++ List.drop (rowCells l).length (madeCells (Value.agg #[.int .i64 0, .int .i64 0]).cells ((n + 4) * 2)).toList)).toArray.size = (n + 4) * 2 := by
    simp only [List.size_toArray, List.length_append, List.length_drop, Array.length_toList, size_madeCells, HL.out]
    omega
  have h0 : ∀ j, j < (n + 0) * 2 → ((rowCells l ++ List.drop (rowCells l).length (madeCells (Value.agg #[.int .i64 0, .int .i64 0]).cells ((n + 4) * 2)).toList)).toArray[j]? = (rowCells l ++ pads)[j]? := fun j hj => by
    have := HL.out
    rw [List.getElem?_toArray, List.getElem?_append_left (by omega), List.getElem?_append_left (by omega)]
  have HK1 : Hid (Kept NoBlk w w1) := ((Kept.refl NoBlk w).alloc _).trans hk (fun i x => .inr (by cases x; exact Nat.le_refl _))
  have HG1 : Hid (∃ cs : Array Value, cs.size = (n + 4) * 2 ∧ w1.heap[w.heap.size]? = some (.cells cs 95 (0, 0)) ∧ ∀ j, j < (n + 0) * 2 → cs[j]? = (rowCells l ++ pads)[j]?) := ⟨_, hsz, hg, h0⟩
  clear hg hk hsz h0
  generalize hG : w.heap.size = g at HG1 ⊢
  have HGG : Hid _ := hG
  clear hG
  go_wp2_with fail
  go_loopw [4] (fun i wr => ∃ k : Nat, k ≤ 4 ∧ i = .int .i64 k ∧ Kept NoBlk w wr ∧ ∃ cs : Array Value, cs.size = (n + 4) * 2 ∧ wr.heap[g]? = some (.cells cs 95 (0, 0)) ∧ ∀ j, j < (n + k) * 2 → cs[j]? = (rowCells l ++ pads)[j]?) (fun i _ => 4 - (intOf i).toNat)
  case atStart => exact ⟨0, by omega, rfl, HK1.out, HG1.out⟩
  case round =>
    obtain ⟨k, hk, rfl, hkw, cs, hsz, hg, hpre⟩ := hrel
    by_cases hlt : k < 4
    · have hp := rowPads_get l k hlt
      rw [HN.out] at hp
      have HS2 : Hid (∀ j, j < (n + k) * 2 + 2 → ((cs.setIfInBounds ((n + k) * 2) (.int .i64 77)).setIfInBounds ((n + k) * 2 + 1) (.int .i64 0))[j]? = (rowCells l ++ pads)[j]?) := set2_pref (by omega) hpre hp.1 hp.2
      obtain ⟨y0, c0⟩ : ∃ y, wr.cell? ⟨g, (n + k) * 2, none⟩ = some y := ⟨cs[(n + k) * 2]'(by omega), by rw [cell_at hg]; exact Array.getElem?_eq_getElem _⟩
      obtain ⟨y1, c1⟩ : ∃ y, wr.cell? ⟨g, (n + k) * 2 + 1, none⟩ = some y := ⟨cs[(n + k) * 2 + 1]'(by omega), by rw [cell_at hg]; exact Array.getElem?_eq_getElem _⟩
      have hf : ∀ o, wr.frozen? ⟨g, o, none⟩ = false := fun o => frozen_at hg o
      have HG2 : Hid (((wr.setCell ⟨g, (n + k) * 2, none⟩ (.int .i64 77)).setCell ⟨g, (n + k) * 2 + 1, none⟩ (.int .i64 0)).heap[g]? = some (.cells ((cs.setIfInBounds ((n + k) * 2) (.int .i64 77)).setIfInBounds ((n + k) * 2 + 1) (.int .i64 0)) 95 (0, 0))) := block_setCell (block_setCell hg _) _
      have HK2 : Hid (Kept NoBlk w ((wr.setCell ⟨g, (n + k) * 2, none⟩ (.int .i64 77)).setCell ⟨g, (n + k) * 2 + 1, none⟩ (.int .i64 0))) := (hkw.setCell (p := ⟨g, _, none⟩) (.inr (Nat.le_of_eq HGG.out)) _).setCell (p := ⟨g, _, none⟩) (.inr (Nat.le_of_eq HGG.out)) _
      have HZ : Hid _ := hsz
      clear hp hpre hg hkw hsz
      go_wp2_with fail
      go_roundw
      case rel => exact ⟨k + 1, by omega, by go_num, HK2.out, _, by simp [HZ.out], HG2.out, fun j hj => HS2.out j (by omega)⟩
      case measure => simp [intOf]; omega
    · obtain rfl : k = 4 := by omega
      have hcs : cs = (rowCells l ++ pads).toArray := by
        have := HL.out
        apply Array.ext'
        apply List.ext_getElem?
        intro j
        by_cases hj : j < (n + 4) * 2
        · rw [Array.getElem?_toList, hpre j hj]
        · rw [List.getElem?_eq_none (by simp; omega), List.getElem?_eq_none (by simp [pads]; omega)]
      subst hcs
      have HG2 : Hid _ := hg
      have HK2 : Hid _ := hkw
      clear hpre hg hkw hsz
      go_wp2_with fail
      go_ret
      rw [HGG.out]
      exact ⟨rfl, HG2.out, HK2.out⟩
end Go.Proofs.YtmcajfefagdbnaaGreat
