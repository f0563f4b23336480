import Derived.Test.YtmcajfefagdbnaaGreatLPKeysOf
import Derived.Test.YtmcajfefagdbnaaGreatQ18
import Derived.Test.YtmcajfefagdbnaaGreatQ20
namespace Go.Proofs.YtmcajfefagdbnaaGreat
open Go Go.RowKit
open Go.MuLone
def RowsOf (f : Int → Option Int) (l : List Row2) : Prop := KeysL f (l.map (·.k)) ∧ ∀ r ∈ l, f r.k = some r.v
theorem infoRowR : (Tryz.prog.info? 95).map (fun i => (i.zero, i.size, i.bytes)) = some (some (.agg #[.int .i64 0, .int .i64 0]), 2, 16) := by kernel_rfl
set_option maxRecDepth 20000 in
set_option maxHeartbeats 3200000 in
theorem sortedRows_any {w : World} {b m : Nat} {f : Int → Option Int} (hm : MapAt keyI w b m (ivals f)) (hf : ∀ k, f k ≠ none → inI k) (hmm : m ≤ 1099511627776) :
  Calls Tryz.prog 65 #[.map (some b)] w fun e w' => ∃ x l, e = .returned x ∧ RowAt w' 95 2 x l.length (rowCells l) ∧ (∀ k, x.ownBlock = some k → w.heap.size ≤ k) ∧ RowsOf f l ∧ Kept NoBlk w w' := by
 have HM : Hid (MapAt keyI w b m (ivals f)) := hm
 have HF : Hid (∀ k, f k ≠ none → inI k) := hf
 obtain ⟨D, hown, _⟩ := hm
 have hsz : Maps.size D ≤ m := hown.size_le
 have hln := fun ty => hown.len Tryz.underlying122 ty
 obtain ⟨i1, hi1, hy0, hy1, hy2⟩ := info_parts infoRowR
 have HI : Hid (Tryz.prog.info? 95 = some i1 ∧ i1.zero = some (.agg #[.int .i64 0, .int .i64 0]) ∧ i1.size = 2 ∧ i1.bytes = 16) := ⟨hi1, hy0, hy1, hy2⟩
 clear hf hown hi1 hy0 hy1 hy2
 generalize hnD : Maps.size D = nD at *
 have HB0 : Hid (i1.bytes * nD ≤ 281474976710656) := by unfold Hid; rw [HI.out.2.2.2]; omega
 have HB1 : Hid (nD ≤ maxLen) := by unfold Hid maxLen; omega
 have HMM : Hid (m ≤ 1099511627776) := hmm
 clear hnD
 go_enter Tryz.func65, Tryz.ntmps65
 go_wp2_with (at_make; refine wpList_make_at rfl _ _ 22 rfl 95 i1 _ 2 Tryz.underlying22 HI.out.1 HI.out.2.1 HI.out.2.2.1 .i64 .i64 _ _ 0 nD rfl rfl rfl rfl (Nat.zero_le _) HB0.out HB1.out ?_)
 have hka : Kept NoBlk w (w.alloc (.cells (madeCells #[.int .i64 0, .int .i64 0] (nD * 2)) 95)) := (Kept.refl _ _).alloc _
 have hrow0 : RowAt (w.alloc (.cells (madeCells #[.int .i64 0, .int .i64 0] (nD * 2)) 95)) 95 2 (.slice (some ⟨w.heap.size, 0, none⟩) 0 nD) 0 [] := ⟨rfl, .inr ⟨w.heap.size, 0, nD, _, rfl, block_alloc_new w _, Nat.zero_le _, HB1.out, by rw [size_madeCells]; omega, fun j u hu => by simp at hu⟩⟩
 have HR0 : Hid (RowAt (w.alloc (.cells (madeCells #[.int .i64 0, .int .i64 0] (nD * 2)) 95)) 95 2 (.slice (some ⟨w.heap.size, 0, none⟩) 0 nD) 0 [] ∧ Kept NoBlk w (w.alloc (.cells (madeCells #[.int .i64 0, .int .i64 0] (nD * 2)) 95))) := ⟨hrow0, hka⟩
 have HMA : Hid (MapAt keyI (w.alloc (.cells (madeCells #[.int .i64 0, .int .i64 0] (nD * 2)) 95)) b m (ivals f)) := HM.out.kept hka (fun x => x)
 clear hka hrow0
 generalize w.alloc (.cells (madeCells #[.int .i64 0, .int .i64 0] (nD * 2)) 95) = W0 at *
 refine (keys_call (some b) W0).mono ?_
 rintro e w1 ⟨rfl, rfl⟩
 go_wp2_with fail
 refine (sorted_call HMA.out HF.out HMM.out).mono ?_
 rintro e w2 ⟨v, ks, rfl, hv, hvf, hks, hkl, hk2⟩
 obtain ⟨va, vc, rfl, _⟩ := hv.form
 have HV : Hid (RowAt w2 3 1 (.slice va ks.length vc) ks.length (ks.map (fun x => Value.int .i64 x)) ∧ KeysL f ks ∧ Kept NoBlk W0 w2) := ⟨hv, hks, hk2⟩
 have hkl : ks.length ≤ 1099511627776 := Nat.le_trans hkl HMM.out
 clear hv hvf hks hk2
 generalize hnk : ks.length = nk at *
 have HNK : Hid (ks.length = nk) := hnk
 clear hnk
 go_wp2_with fail
 go_loopw [3, 13] (fun x i wr => ∃ k : Nat, k ≤ nk ∧ i = .int .i64 k ∧ RowAt wr 95 2 x k (rowCells ((ks.take k).map fun key => ⟨key, (f key).getD 0⟩)) ∧ (∀ j, x.ownBlock = some j → w.heap.size ≤ j) ∧ RowAt wr 3 1 (.slice va nk vc) nk (ks.map (fun x => Value.int .i64 x)) ∧ Kept NoBlk w wr) (fun _ i _ => nk - (intOf i).toNat)
 case atStart => exact ⟨0, by omega, rfl, HR0.out.1.kept HV.out.2.2 (fun _ _ x => x), fun j hj => Nat.le_of_eq (by simpa [Value.ownBlock] using hj), HV.out.1, HR0.out.2.trans' HV.out.2.2⟩
 case round =>
  obtain ⟨k, hk, rfl, hrow, hfr, hkr, hkw⟩ := hrel
  by_cases hlt : k < nk
  ·have hkl' : k < ks.length := by rw [HNK.out]; exact hlt
   obtain ⟨g, off, rfl⟩ : ∃ g off, va = some ⟨g, off, none⟩ := by
    rcases hkr.2 with ⟨_, h0⟩ | ⟨g, off, _, _, h0, _⟩
    ·omega
    ·simp only [Value.slice.injEq] at h0; exact ⟨g, off, h0.1⟩
   have g0 : wr.cell? ⟨g, off + k, none⟩ = some (.int .i64 ks[k]) := hkr.cell k (by rw [List.getElem?_map, List.getElem?_eq_getElem hkl']; rfl)
   have hsome : (f ks[k]).isSome = true := (HV.out.2.1.2 _).1 (List.getElem_mem hkl')
   obtain ⟨vk, hvk⟩ := Option.isSome_iff_exists.1 hsome
   have hlook : (Instr.lookup 122 (.map (some b)) (.int .i64 ks[k]) false).run Tryz.prog wr = .ok (.int .i64 vk) wr := by
    have h1 := (HM.out.kept hkw (fun x => x)).look Tryz.underlying122 (zeroInt _) (a := ks[k]) (HF.out _ (by rw [hvk]; simp))
    simp only [ivals, hvk, Option.map_some, Option.getD_some] at h1
    exact h1
   have HSN : Hid (rowCells ((ks.take (k + 1)).map fun key => ⟨key, (f key).getD 0⟩) = rowCells ((ks.take k).map fun key => ⟨key, (f key).getD 0⟩) ++ [.int .i64 ks[k], .int .i64 vk]) := by
    unfold Hid
    rw [List.take_add_one, List.map_append, List.getElem?_eq_getElem hkl']
    simp [rowCells, Row2.cells, hvk]
   have HR : Hid (RowAt wr 95 2 u3 k (rowCells ((ks.take k).map fun key => ⟨key, (f key).getD 0⟩)) ∧ (∀ j, u3.ownBlock = some j → w.heap.size ≤ j) ∧ RowAt wr 3 1 (.slice (some ⟨g, off, none⟩) nk vc) nk (ks.map (fun x => Value.int .i64 x)) ∧ Kept NoBlk w wr) := ⟨hrow, hfr, hkr, hkw⟩
   have HTY : Hid (∀ j, u3.ownBlock = some j → j ≠ g) := fun j hj e => by
    obtain ⟨c1, e1⟩ := hrow.block hj
    obtain ⟨c2, e2⟩ := hkr.block (k := g) rfl
    exact blocks_apart e1 e2 (by decide) e
   clear hrow hfr hkr hkw hsome hvk
   generalize ks[k] = key at *
   generalize rowCells ((ks.take k).map fun key => ⟨key, (f key).getD 0⟩) = xs at *
   have HFM : Hid (FromMem (wr.alloc (.cells #[.int .i64 key, .int .i64 vk] 95)) 2 (.slice (some ⟨wr.heap.size, 0, none⟩) 1 1) 1 [.int .i64 key, .int .i64 vk]) := from_new2 wr (.int .i64 key) (.int .i64 vk) 95 rfl rfl
   have HR4 : Hid (RowAt (wr.alloc (.cells #[.int .i64 key, .int .i64 vk] 95)) 95 2 u3 k xs) := HR.out.1.kept ((Kept.refl NoBlk _).alloc _) (fun _ _ x => x)
   have HB5 : Hid ((k + 1) * 16 ≤ 140737488355328) := by unfold Hid; omega
   have HB6 : Hid (k + 1 ≤ maxLen) := by unfold Hid maxLen; omega
   have j0 : (0 : Int) ≤ (k : Int) := by omega
   have j1 : (k : Int) < (nk : Int) := by omega
   go_wp2_with (at_builtin; refine wpList_append_row (by rfl) _ _ 22 (by rfl) 95 i1 _ 2 16 Tryz.underlying22 HI.out.1 HI.out.2.1 HI.out.2.2.1 HI.out.2.2.2 (by rfl) u3 k xs (by rfl) HR4.out (.slice (some ⟨wr.heap.size, 0, none⟩) 1 1) 1 [.int .i64 key, .int .i64 vk] (by rfl) HFM.out HB6.out HB5.out ?_)
   intro ao2 c2 W6 hown6 hmv6
   have hk6 := hmv6.keptOf
   have hn6 := hmv6.fresh
   have HF6 : Hid (RowAt W6 95 2 (.slice ao2 (k + 1) c2) (k + 1) (rowCells ((ks.take (k + 1)).map fun key => ⟨key, (f key).getD 0⟩)) ∧ (∀ j, (Value.slice ao2 (k + 1) c2).ownBlock = some j → w.heap.size ≤ j) ∧ RowAt W6 3 1 (.slice (some ⟨g, off, none⟩) nk vc) nk (ks.map (fun x => Value.int .i64 x)) ∧ Kept NoBlk w W6) := by
    have hka : Kept NoBlk wr (wr.alloc (.cells #[.int .i64 key, .int .i64 vk] 95)) := (Kept.refl NoBlk _).alloc _
    obtain ⟨r1, r2, r3, r4⟩ := HR.out
    refine ⟨by rw [HSN.out]; exact hown6, fun j hj => ?_, (r3.kept hka (fun _ _ x => x)).kept hk6 (fun j hj e => ?_), (r4.trans' hka).trans hk6 (fun j e => .inr (r2 j e))⟩
    ·rcases hn6 j hj with h | h
     ·exact r2 j h
     ·have h1 := r4.size
      rw [alloc_size] at h
      omega
    ·obtain rfl : g = j := by simpa [Value.ownBlock] using hj
     exact HTY.out g e rfl
   clear hk6 hn6 hown6 hmv6 hlook g0
   go_wp2_with fail
   go_roundw
   case rel => exact ⟨k + 1, by omega, by go_num, HF6.out⟩
   case measure => simp [intOf]; omega
  ·obtain rfl : k = nk := by omega
   have HFI : Hid (RowAt wr 95 2 u3 (ks.map fun key => (⟨key, (f key).getD 0⟩ : Row2)).length (rowCells (ks.map fun key => ⟨key, (f key).getD 0⟩)) ∧ (∀ j, u3.ownBlock = some j → w.heap.size ≤ j) ∧ RowsOf f (ks.map fun key => ⟨key, (f key).getD 0⟩) ∧ Kept NoBlk w wr) := by
    rw [← HNK.out, List.take_length] at hrow
    refine ⟨by rw [List.length_map]; exact hrow, hfr, ⟨?_, fun r hr => ?_⟩, hkw⟩
    ·rw [List.map_map]
     have : (List.map ((fun x : Row2 => x.k) ∘ fun key => (⟨key, (f key).getD 0⟩ : Row2)) ks) = ks := by simp [Function.comp_def]
     rw [this]; exact HV.out.2.1
    ·obtain ⟨key, hk1, rfl⟩ := List.mem_map.1 hr
     obtain ⟨v, hv⟩ := Option.isSome_iff_exists.1 ((HV.out.2.1.2 key).1 hk1)
     simp only [hv, Option.getD_some]
   clear hrow hfr hkr hkw
   go_wp2_with fail
   go_ret
   exact ⟨_, _, rfl, HFI.out⟩
set_option maxRecDepth 20000 in
set_option maxHeartbeats 1600000 in
theorem pRows {L : Lay} {bs : Nat → Nat} {A : List Nat} {ow : Ow} {m : Nat} {lv : Int} {s : St} {w : World} (h : PSt L bs A ow m 0 lv s w) (hmm : m ≤ 1099511627776) :
  Calls Tryz.prog 25 #[.pointer (some ⟨L.p, 0, none⟩)] w fun e w' => ∃ x l, e = .returned x ∧ RowAt w' 95 2 x l.length (rowCells l) ∧ (∀ k, x.ownBlock = some k → w.heap.size ≤ k) ∧ RowsOf s.rows l ∧ PSt L bs A ow m 0 lv s w' ∧ Kept (OwnP ow) w w' := by
 obtain ⟨c0, f0⟩ := h.mucell
 have h1 := h.locked 1
 have H1 : Hid (PSt L bs A ow m 1 lv s (w.setCell ⟨L.p, 0, none⟩ (.int .i32 1))) := h1
 have HK1 : Hid (Kept (OwnP ow) w (w.setCell ⟨L.p, 0, none⟩ (.int .i32 1))) := h.keptP _
 have HKP : Hid (∀ (W : World) (v : Value), Kept (OwnP ow) W (W.setCell ⟨L.p, 0, none⟩ v)) := fun W v => h.keptP v
 have HPL : Hid (L.p < w.heap.size) := h.lt _ h.ownP
 obtain ⟨u, tv, wv, b1, c3, c6, c7, c4, b2⟩ := h1.cells
 have HF : Hid (Calls Tryz.prog 65 #[.map (some L.vb)] (w.setCell ⟨L.p, 0, none⟩ (.int .i32 1)) fun e w' => ∃ x l, e = .returned x ∧ RowAt w' 95 2 x l.length (rowCells l) ∧ (∀ k, x.ownBlock = some k → (w.setCell ⟨L.p, 0, none⟩ (.int .i32 1)).heap.size ≤ k) ∧ RowsOf s.rows l ∧ Kept NoBlk (w.setCell ⟨L.p, 0, none⟩ (.int .i32 1)) w') := sortedRows_any h1.vals h1.rdom hmm
 have d3 : (w.setCell ⟨L.p, 0, none⟩ (.int .i32 1)).cell? ⟨L.p, 3, none⟩ = some (.map (some L.vb)) := c3
 clear h h1 b1 b2 c3 c6 c7 c4
 go_enter_defers Tryz.func25, Tryz.ntmps25
 go_wp2_with fail
 refine (lock_free Tryz.muLib ⟨L.p, 0, none⟩ _ c0 f0).mono ?_
 rintro e w1 ⟨rfl, rfl⟩
 generalize w.setCell ⟨L.p, 0, none⟩ (.int .i32 1) = W1 at *
 go_wp2_with fail
 refine HF.out.mono ?_
 rintro e w2 ⟨x, l, rfl, hx1, hx2, hx3, hk2⟩
 have H2 : Hid (PSt L bs A ow m 1 lv s w2) := H1.out.kept0 hk2
 have HK2 : Hid (Kept (OwnP ow) w w2) := HK1.out.trans' (hk2.mono (fun _ x => x.elim))
 have HX : Hid (RowAt w2 95 2 x l.length (rowCells l) ∧ (∀ k, x.ownBlock = some k → W1.heap.size ≤ k) ∧ RowsOf s.rows l) := ⟨hx1, hx2, hx3⟩
 clear hk2 hx1 hx2 hx3 HF
 go_wp2_with fail
 refine leaves_cons (f := 60) (args := #[.pointer (some ⟨L.p, 0, none⟩)]) (by simp) (by simp [go_sem]) ?_
 refine (unlock_deferred Tryz.muLib ⟨L.p, 0, none⟩ .returning _ H2.out.mucell.1 H2.out.mucell.2).mono ?_
 rintro e u' w'' ⟨rfl, rfl, rfl⟩
 have hs := HK1.out.size
 have hp := HPL.out
 obtain ⟨g1, g2, g3⟩ := HX.out
 refine ⟨_, results_tmp rfl _ _ _, x, l, ?_, g1.kept (Kept.set1 w2 L.p 0 _) (fun k e y => by unfold Blk at y; have := g2 k e; omega), fun k e => Nat.le_trans hs (g2 k e), g3, H2.out.locked 0, HK2.out.trans' (HKP.out _ _)⟩
 first | rfl | (simp; done)
end Go.Proofs.YtmcajfefagdbnaaGreat
