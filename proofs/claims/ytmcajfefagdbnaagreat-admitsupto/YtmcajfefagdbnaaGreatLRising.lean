import Derived.Test.YtmcajfefagdbnaaGreatLPNew
import Derived.Test.YtmcajfefagdbnaaGreatLTake
namespace Go.Proofs.YtmcajfefagdbnaaGreat
open Go Go.RowKit

theorem rowCells_snocL (l : List Row2) (r : Row2) : rowCells (l ++ [r]) = rowCells l ++ [.int .i64 r.k, .int .i64 r.v] := by
  simp [rowCells, Row2.cells]

theorem getD_snoc_lt (l : List Row2) (r : Row2) (i : Nat) (h : i < l.length) : (l ++ [r]).getD i Row2.z = l.getD i Row2.z := by
  simp [List.getD, List.getElem?_append_left h]
theorem getD_snoc_eq (l : List Row2) (r : Row2) : (l ++ [r]).getD l.length Row2.z = r := by
  simp [List.getD]

/-- What holds of the rows so far: they rise, up to 'at'. -/
def RiseTo (l : List Row2) (a : Int) : Prop := Rise l ∧ RowsWf l ∧ (∀ i, i < l.length → (l.getD i Row2.z).k ≤ a) ∧ -3 ≤ a ∧ a ≤ -3 + 5 * l.length

theorem RiseTo.step {l : List Row2} {a a' v : Int} (h : RiseTo l a) (h1 : a < a') (h2 : a' ≤ a + 5) (hl : l.length ≤ 1048576) (hv : (Lit.int .i64 v).wf = true) : RiseTo (l ++ [⟨a', v⟩]) a' := by
  obtain ⟨hr, hw, hb, h3, h4⟩ := h
  have hlen : (l ++ [(⟨a', v⟩ : Row2)]).length = l.length + 1 := by simp
  refine ⟨?_, ?_, ?_, by omega, by rw [hlen]; omega⟩
  · intro i hi
    rw [hlen] at hi
    rw [getD_snoc_lt _ _ _ (by omega)]
    by_cases e : i + 1 = l.length
    · rw [e, getD_snoc_eq]
      have := hb i (by omega)
      simp only
      omega
    · rw [getD_snoc_lt _ _ _ (by omega)]
      exact hr i (by omega)
  · intro i hi
    rw [hlen] at hi
    by_cases e : i = l.length
    · subst e
      rw [getD_snoc_eq]
      refine ⟨?_, hv⟩
      exact WalkArith.wf_i64 (by simp only; omega)
    · rw [getD_snoc_lt _ _ _ (by omega)]
      exact hw i (by omega)
  · intro i hi
    rw [hlen] at hi
    by_cases e : i = l.length
    · subst e
      rw [getD_snoc_eq]
      exact Int.le_refl _
    · rw [getD_snoc_lt _ _ _ (by omega)]
      have := hb i (by omega)
      omega

set_option maxRecDepth 100000 in
set_option maxHeartbeats 3200000 in
theorem rising_any (ao : Option Addr) (c n : Nat) (l : List Row2) (w : World) (hn : l.length = n) (hl : n ≤ 1048576) (h : 0 < n → ∃ b off, ao = some ⟨b, off, none⟩ ∧ RowsAt w b off l) (hw : RowsWf l) :
    Calls Tryz.prog 15 #[.slice ao n c] w fun e w' => ∃ l' v, e = .returned v ∧ l'.length = n ∧ Rise l' ∧ RowsWf l' ∧ w'.ownsRow 0 95 2 v n (rowCells l') ∧ (∀ k, v.ownBlock = some k → w.heap.size ≤ k) ∧ Kept NoBlk w w' := by
  have Hn : Hid _ := hn
  have HW : Hid (RowsWf l) := hw
  clear hn hw
  go_enter Tryz.func15, Tryz.ntmps15
  go_wp2_with fail
  go_loopw [3, 4, 5] (fun o a i wr => ∃ (k : Nat) (l' : List Row2) (oa : Option Addr) (oc : Nat) (at_ : Int), k ≤ n ∧ i = .int .i64 k ∧ a = .int .i64 at_ ∧ o = .slice oa k oc ∧ l'.length = k ∧ RiseTo l' at_ ∧ wr.ownsRow 0 95 2 (.slice oa k oc) k (rowCells l') ∧ (∀ b, (Value.slice oa k oc).ownBlock = some b → w.heap.size ≤ b) ∧ Kept NoBlk w wr) (fun _ _ i _ => n - (intOf i).toNat)
  case atStart => exact ⟨0, [], none, 0, -3, Nat.zero_le _, rfl, rfl, rfl, rfl, ⟨fun i hi => by simp at hi, fun i hi => by simp at hi, fun i hi => by simp at hi, by omega, by simp⟩, World.ownsRow_nil _ _ _ _, fun b hb => by simp [Value.ownBlock] at hb, Kept.refl _ _⟩
  case round =>
    obtain ⟨k, l', oa, oc, at_, hk, rfl, rfl, rfl, hl', hrt, hown, hfr, hkw⟩ := hrel
    by_cases hlt : k < n
    · obtain ⟨b, off, rfl, hat⟩ := h (by omega)
      have hkl : k < l.length := by rw [Hn.out]; exact hlt
      obtain ⟨g0, g1⟩ := (hat.kept hkw (fun x => x)) k hkl
      obtain ⟨wk, wv⟩ := HW.out k hkl
      have hb1 := hrt.2.2.2.1
      have hb2 := hrt.2.2.2.2
      have HKW : Hid _ := hkw
      have HOW : Hid (wr.ownsRow 0 95 2 (.slice oa k oc) k (rowCells l')) := hown
      have HFR : Hid _ := hfr
      have HRT : Hid (RiseTo l' at_) := hrt
      have HWV : Hid _ := wv
      have HWK : Hid _ := wk
      clear hkw hown hat h wk wv hkl hfr hrt
      generalize l.getD k Row2.z = r at *
      have hm1 : -5 < r.k.tmod 5 := Int.lt_tmod_of_pos _ (by omega)
      have hm2 : r.k.tmod 5 < 5 := Int.tmod_lt_of_pos _ (by omega)
      rw [hl'] at hb2
      obtain ⟨i0, hi0, hz0, hz1, hz2⟩ := info_parts infoRow
      have HI0 : Hid (Tryz.prog.info? 95 = some i0 ∧ i0.zero = some (.agg #[.int .i64 0, .int .i64 0]) ∧ i0.size = 2 ∧ i0.bytes = 16) := ⟨hi0, hz0, hz1, hz2⟩
      have HB1 : Hid ((k + 1) * 16 ≤ 140737488355328) := by unfold Hid; omega
      have HM1 : Hid (k + 1 ≤ maxLen) := by unfold Hid maxLen; omega
      clear hi0 hz0 hz1 hz2
      by_cases hneg : r.k.tmod 5 < 0
      · go_wp2_with (at_builtin; refine wpList_append_at (by rfl) _ _ 22 (by rfl) 95 i0 _ 2 16 Tryz.underlying22 HI0.out.1 HI0.out.2.1 HI0.out.2.2.1 HI0.out.2.2.2 (by rfl) (.slice oa k oc) k (rowCells l') (by rfl) (ownsRow_kept HOW.out ((Kept.refl NoBlk wr).alloc _) (fun _ _ x => x)) (.slice (some ⟨wr.heap.size, 0, none⟩) 1 1) 1 [.int .i64 (at_ + 1 + -r.k.tmod 5), .int .i64 r.v] (by rfl) (from_new wr [.int .i64 (at_ + 1 + -r.k.tmod 5), .int .i64 r.v] _ 2 1 (by rfl) (by simp [Value.oneCell'])) HM1.out HB1.out ?_)
        intro a1 c1 W1 hown1 hmv1
        have hkp := hmv1.keptOf
        have hfrs := hmv1.fresh
        have hsw : w.heap.size ≤ (wr.alloc (.cells #[.int .i64 (at_ + 1 + -r.k.tmod 5), .int .i64 r.v] 95)).heap.size := (HKW.out.alloc _).size
        have HK1 : Hid (Kept NoBlk w W1) := (HKW.out.alloc _).trans hkp (fun i hi => .inr (HFR.out i hi))
        have HF1 : Hid (∀ b, (Value.slice a1 (k + 1) c1).ownBlock = some b → w.heap.size ≤ b) := fun b hb => by
          rcases hfrs b hb with h | h
          · exact HFR.out b h
          · exact Nat.le_trans hsw h
        have HO1 : Hid (W1.ownsRow 0 95 2 (.slice a1 (k + 1) c1) (k + 1) (rowCells (l' ++ [⟨at_ + 1 + -r.k.tmod 5, r.v⟩]))) := by
          rw [rowCells_snocL]
          exact hown1
        have HR1 : Hid (RiseTo (l' ++ [⟨at_ + 1 + -r.k.tmod 5, r.v⟩]) (at_ + 1 + -r.k.tmod 5)) := RiseTo.step HRT.out (by omega) (by omega) (by rw [hl']; omega) HWV.out
        clear hown1 hmv1 hkp hfrs hsw
        go_wp2_with fail
        go_roundw
        case rel => exact ⟨k + 1, l' ++ [⟨at_ + 1 + -r.k.tmod 5, r.v⟩], a1, c1, at_ + 1 + -r.k.tmod 5, by omega, by go_num, rfl, rfl, by simp [hl'], HR1.out, HO1.out, HF1.out, HK1.out⟩
        case measure => simp [intOf]; omega
      · go_wp2_with (at_builtin; refine wpList_append_at (by rfl) _ _ 22 (by rfl) 95 i0 _ 2 16 Tryz.underlying22 HI0.out.1 HI0.out.2.1 HI0.out.2.2.1 HI0.out.2.2.2 (by rfl) (.slice oa k oc) k (rowCells l') (by rfl) (ownsRow_kept HOW.out ((Kept.refl NoBlk wr).alloc _) (fun _ _ x => x)) (.slice (some ⟨wr.heap.size, 0, none⟩) 1 1) 1 [.int .i64 (at_ + 1 + r.k.tmod 5), .int .i64 r.v] (by rfl) (from_new wr [.int .i64 (at_ + 1 + r.k.tmod 5), .int .i64 r.v] _ 2 1 (by rfl) (by simp [Value.oneCell'])) HM1.out HB1.out ?_)
        intro a1 c1 W1 hown1 hmv1
        have hkp := hmv1.keptOf
        have hfrs := hmv1.fresh
        have hsw : w.heap.size ≤ (wr.alloc (.cells #[.int .i64 (at_ + 1 + r.k.tmod 5), .int .i64 r.v] 95)).heap.size := (HKW.out.alloc _).size
        have HK1 : Hid (Kept NoBlk w W1) := (HKW.out.alloc _).trans hkp (fun i hi => .inr (HFR.out i hi))
        have HF1 : Hid (∀ b, (Value.slice a1 (k + 1) c1).ownBlock = some b → w.heap.size ≤ b) := fun b hb => by
          rcases hfrs b hb with h | h
          · exact HFR.out b h
          · exact Nat.le_trans hsw h
        have HO1 : Hid (W1.ownsRow 0 95 2 (.slice a1 (k + 1) c1) (k + 1) (rowCells (l' ++ [⟨at_ + 1 + r.k.tmod 5, r.v⟩]))) := by
          rw [rowCells_snocL]
          exact hown1
        have HR1 : Hid (RiseTo (l' ++ [⟨at_ + 1 + r.k.tmod 5, r.v⟩]) (at_ + 1 + r.k.tmod 5)) := RiseTo.step HRT.out (by omega) (by omega) (by rw [hl']; omega) HWV.out
        clear hown1 hmv1 hkp hfrs hsw
        go_wp2_with fail
        go_roundw
        case rel => exact ⟨k + 1, l' ++ [⟨at_ + 1 + r.k.tmod 5, r.v⟩], a1, c1, at_ + 1 + r.k.tmod 5, by omega, by go_num, rfl, rfl, by simp [hl'], HR1.out, HO1.out, HF1.out, HK1.out⟩
        case measure => simp [intOf]; omega
    · obtain rfl : k = n := by omega
      have HO : Hid (wr.ownsRow 0 95 2 (.slice oa k oc) k (rowCells l')) := hown
      have HF : Hid _ := hfr
      have HK : Hid _ := hkw
      clear hown hfr hkw h
      go_wp2_with fail
      go_ret
      exact ⟨l', .slice oa k oc, rfl, hl', hrt.1, hrt.2.1, HO.out, HF.out, HK.out⟩
end Go.Proofs.YtmcajfefagdbnaaGreat
