import Derived.Test.YtmcajfefagdbnaaGreatJ20
import Derived.Test.YtmcajfefagdbnaaGreatJ28
import Derived.Test.YtmcajfefagdbnaaGreatJ32
import Derived.Test.YtmcajfefagdbnaaGreatJ04
import Derived.Test.YtmcajfefagdbnaaGreatJ31
import Derived.Test.YtmcajfefagdbnaaGreatJ18
import Derived.Test.YtmcajfefagdbnaaGreatJ09
import Derived.Deep.AppendLies
import Derived.Test.YtmcajfefagdbnaaGreatJ05
import Derived.Test.YtmcajfefagdbnaaGreatJ22
import Derived.Deep.RegionHeld3
import Derived.Deep.DrawnRows
namespace Go.Proofs.YtmcajfefagdbnaaGreat
open Go Go.RowKit
open Go.MuLone
def RowsOf (f : Int → Option Int) (l : List Row2) : Prop := KeysL f (l.map (·.k)) ∧ ∀ r ∈ l, f r.k = some r.v
theorem infoRowR : (Tryz.prog.info? 95).map (fun i => (i.zero, i.size, i.bytes)) = some (some (.agg #[.int .i64 0, .int .i64 0]), 2, 16) := by kernel_rfl
set_option maxRecDepth 20000 in
set_option maxHeartbeats 3200000 in
theorem sortedRows_any {w : World} {b m : Nat} {f : Int → Option Int} (hm : MapAt keyI w b m (ivals f)) (hf : ∀ k, f k ≠ none → inI k) (hmm : m ≤ 1099511627776) :
  Calls Tryz.prog 65 #[.map (some b)] w fun e w' => ∃ x l, e = .returned x ∧ RowAt w' 95 2 x l.length (rowCells l) ∧ (∀ k, x.ownBlock = some k → w.heap.size ≤ k) ∧ RowsOf f l ∧ Kept NoBlk w w' := by
 have HM : Hid (MapAt keyI w b m (ivals f)) := hm
 have HF : Hid (∀ k, f k ≠ none → inI k) := hf
 obtain ⟨D, hown, _⟩ := hm
 have hsz : Maps.size D ≤ m := hown.size_le
 have hln := fun ty => hown.len Tryz.underlying122 ty
 obtain ⟨i1, hi1, hy0, hy1, hy2⟩ := info_parts infoRowR
 have HI : Hid (Tryz.prog.info? 95 = some i1 ∧ i1.zero = some (.agg #[.int .i64 0, .int .i64 0]) ∧ i1.size = 2 ∧ i1.bytes = 16) := ⟨hi1, hy0, hy1, hy2⟩
 clear hf hown hi1 hy0 hy1 hy2
 generalize hnD : Maps.size D = nD at *
 have HB0 : Hid (i1.bytes * nD ≤ 281474976710656) := by unfold Hid; rw [HI.out.2.2.2]; omega
 have HB1 : Hid (nD ≤ maxLen) := by unfold Hid maxLen; omega
 have HMM : Hid (m ≤ 1099511627776) := hmm
 clear hnD
 go_enter Tryz.func65, Tryz.ntmps65
 go_wp2_with (at_make; refine wpList_make_at rfl _ _ 22 rfl 95 i1 _ 2 Tryz.underlying22 HI.out.1 HI.out.2.1 HI.out.2.2.1 .i64 .i64 _ _ 0 nD rfl rfl rfl rfl (Nat.zero_le _) HB0.out HB1.out ?_)
 have hka : Kept NoBlk w (w.alloc (.cells (madeCells #[.int .i64 0, .int .i64 0] (nD * 2)) 95)) := (Kept.refl _ _).alloc _
 have hrow0 : RowAt (w.alloc (.cells (madeCells #[.int .i64 0, .int .i64 0] (nD * 2)) 95)) 95 2 (.slice (some ⟨w.heap.size, 0, none⟩) 0 nD) 0 [] := ⟨rfl, .inr ⟨w.heap.size, 0, nD, _, rfl, block_alloc_new w _, Nat.zero_le _, HB1.out, by rw [size_madeCells]; omega, fun j u hu => by simp at hu⟩⟩
 have HR0 : Hid (RowAt (w.alloc (.cells (madeCells #[.int .i64 0, .int .i64 0] (nD * 2)) 95)) 95 2 (.slice (some ⟨w.heap.size, 0, none⟩) 0 nD) 0 [] ∧ Kept NoBlk w (w.alloc (.cells (madeCells #[.int .i64 0, .int .i64 0] (nD * 2)) 95))) := ⟨hrow0, hka⟩
 have HMA : Hid (MapAt keyI (w.alloc (.cells (madeCells #[.int .i64 0, .int .i64 0] (nD * 2)) 95)) b m (ivals f)) := HM.out.kept hka (fun x => x)
 clear hka hrow0
 generalize w.alloc (.cells (madeCells #[.int .i64 0, .int .i64 0] (nD * 2)) 95) = W0 at *
 refine (keys_call (some b) W0).mono ?_
 rintro e w1 ⟨rfl, rfl⟩
 go_wp2_with fail
 refine (sorted_call HMA.out HF.out HMM.out).mono ?_
 rintro e w2 ⟨v, ks, rfl, hv, hvf, hks, hkl, hk2⟩
 obtain ⟨va, vc, rfl, _⟩ := hv.form
 have HV : Hid (RowAt w2 3 1 (.slice va ks.length vc) ks.length (ks.map (fun x => Value.int .i64 x)) ∧ KeysL f ks ∧ Kept NoBlk W0 w2) := ⟨hv, hks, hk2⟩
 have hkl : ks.length ≤ 1099511627776 := Nat.le_trans hkl HMM.out
 clear hv hvf hks hk2
 generalize hnk : ks.length = nk at *
 have HNK : Hid (ks.length = nk) := hnk
 clear hnk
 go_wp2_with fail
 go_loopw [3, 13] (fun x i wr => ∃ k : Nat, k ≤ nk ∧ i = .int .i64 k ∧ RowAt wr 95 2 x k (rowCells ((ks.take k).map fun key => ⟨key, (f key).getD 0⟩)) ∧ (∀ j, x.ownBlock = some j → w.heap.size ≤ j) ∧ RowAt wr 3 1 (.slice va nk vc) nk (ks.map (fun x => Value.int .i64 x)) ∧ Kept NoBlk w wr) (fun _ i _ => nk - (intOf i).toNat)
 case atStart => exact ⟨0, by omega, rfl, HR0.out.1.kept HV.out.2.2 (fun _ _ x => x), fun j hj => Nat.le_of_eq (by simpa [Value.ownBlock] using hj), HV.out.1, HR0.out.2.trans' HV.out.2.2⟩
 case round =>
  obtain ⟨k, hk, rfl, hrow, hfr, hkr, hkw⟩ := hrel
  by_cases hlt : k < nk
  ·have hkl' : k < ks.length := by rw [HNK.out]; exact hlt
   obtain ⟨g, off, rfl⟩ : ∃ g off, va = some ⟨g, off, none⟩ := by
    rcases hkr.2 with ⟨_, h0⟩ | ⟨g, off, _, _, h0, _⟩
    ·omega
    ·simp only [Value.slice.injEq] at h0; exact ⟨g, off, h0.1⟩
   have g0 : wr.cell? ⟨g, off + k, none⟩ = some (.int .i64 ks[k]) := hkr.cell k (by rw [List.getElem?_map, List.getElem?_eq_getElem hkl']; rfl)
   have hsome : (f ks[k]).isSome = true := (HV.out.2.1.2 _).1 (List.getElem_mem hkl')
   obtain ⟨vk, hvk⟩ := Option.isSome_iff_exists.1 hsome
   have hlook : (Instr.lookup 122 (.map (some b)) (.int .i64 ks[k]) false).run Tryz.prog wr = .ok (.int .i64 vk) wr := by
    have h1 := (HM.out.kept hkw (fun x => x)).look Tryz.underlying122 (zeroInt _) (a := ks[k]) (HF.out _ (by rw [hvk]; simp))
    simp only [ivals, hvk, Option.map_some, Option.getD_some] at h1
    exact h1
   have HSN : Hid (rowCells ((ks.take (k + 1)).map fun key => ⟨key, (f key).getD 0⟩) = rowCells ((ks.take k).map fun key => ⟨key, (f key).getD 0⟩) ++ [.int .i64 ks[k], .int .i64 vk]) := by
    unfold Hid
    rw [List.take_add_one, List.map_append, List.getElem?_eq_getElem hkl']
    simp [rowCells, Row2.cells, hvk]
   have HR : Hid (RowAt wr 95 2 u3 k (rowCells ((ks.take k).map fun key => ⟨key, (f key).getD 0⟩)) ∧ (∀ j, u3.ownBlock = some j → w.heap.size ≤ j) ∧ RowAt wr 3 1 (.slice (some ⟨g, off, none⟩) nk vc) nk (ks.map (fun x => Value.int .i64 x)) ∧ Kept NoBlk w wr) := ⟨hrow, hfr, hkr, hkw⟩
   have HTY : Hid (∀ j, u3.ownBlock = some j → j ≠ g) := fun j hj e => by
    obtain ⟨c1, e1⟩ := hrow.block hj
    obtain ⟨c2, e2⟩ := hkr.block (k := g) rfl
    exact blocks_apart e1 e2 (by decide) e
   clear hrow hfr hkr hkw hsome hvk
   generalize ks[k] = key at *
   generalize rowCells ((ks.take k).map fun key => ⟨key, (f key).getD 0⟩) = xs at *
   have HFM : Hid (FromMem (wr.alloc (.cells #[.int .i64 key, .int .i64 vk] 95)) 2 (.slice (some ⟨wr.heap.size, 0, none⟩) 1 1) 1 [.int .i64 key, .int .i64 vk]) := from_new2 wr (.int .i64 key) (.int .i64 vk) 95 rfl rfl
   have HR4 : Hid (RowAt (wr.alloc (.cells #[.int .i64 key, .int .i64 vk] 95)) 95 2 u3 k xs) := HR.out.1.kept ((Kept.refl NoBlk _).alloc _) (fun _ _ x => x)
   have HB5 : Hid ((k + 1) * 16 ≤ 140737488355328) := by unfold Hid; omega
   have HB6 : Hid (k + 1 ≤ maxLen) := by unfold Hid maxLen; omega
   have j0 : (0 : Int) ≤ (k : Int) := by omega
   have j1 : (k : Int) < (nk : Int) := by omega
   go_wp2_with (at_builtin; refine wpList_append_row (by rfl) _ _ 22 (by rfl) 95 i1 _ 2 16 Tryz.underlying22 HI.out.1 HI.out.2.1 HI.out.2.2.1 HI.out.2.2.2 (by rfl) u3 k xs (by rfl) HR4.out (.slice (some ⟨wr.heap.size, 0, none⟩) 1 1) 1 [.int .i64 key, .int .i64 vk] (by rfl) HFM.out HB6.out HB5.out ?_)
   intro ao2 c2 W6 hown6 hmv6
   have hk6 := hmv6.keptOf
   have hn6 := hmv6.fresh
   have HF6 : Hid (RowAt W6 95 2 (.slice ao2 (k + 1) c2) (k + 1) (rowCells ((ks.take (k + 1)).map fun key => ⟨key, (f key).getD 0⟩)) ∧ (∀ j, (Value.slice ao2 (k + 1) c2).ownBlock = some j → w.heap.size ≤ j) ∧ RowAt W6 3 1 (.slice (some ⟨g, off, none⟩) nk vc) nk (ks.map (fun x => Value.int .i64 x)) ∧ Kept NoBlk w W6) := by
    have hka : Kept NoBlk wr (wr.alloc (.cells #[.int .i64 key, .int .i64 vk] 95)) := (Kept.refl NoBlk _).alloc _
    obtain ⟨r1, r2, r3, r4⟩ := HR.out
    refine ⟨by rw [HSN.out]; exact hown6, fun j hj => ?_, (r3.kept hka (fun _ _ x => x)).kept hk6 (fun j hj e => ?_), (r4.trans' hka).trans hk6 (fun j e => .inr (r2 j e))⟩
    ·rcases hn6 j hj with h | h
     ·exact r2 j h
     ·have h1 := r4.size
      rw [alloc_size] at h
      omega
    ·obtain rfl : g = j := by simpa [Value.ownBlock] using hj
     exact HTY.out g e rfl
   clear hk6 hn6 hown6 hmv6 hlook g0
   go_wp2_with fail
   go_roundw
   case rel => exact ⟨k + 1, by omega, by go_num, HF6.out⟩
   case measure => simp [intOf]; omega
  ·obtain rfl : k = nk := by omega
   have HFI : Hid (RowAt wr 95 2 u3 (ks.map fun key => (⟨key, (f key).getD 0⟩ : Row2)).length (rowCells (ks.map fun key => ⟨key, (f key).getD 0⟩)) ∧ (∀ j, u3.ownBlock = some j → w.heap.size ≤ j) ∧ RowsOf f (ks.map fun key => ⟨key, (f key).getD 0⟩) ∧ Kept NoBlk w wr) := by
    rw [← HNK.out, List.take_length] at hrow
    refine ⟨by rw [List.length_map]; exact hrow, hfr, ⟨?_, fun r hr => ?_⟩, hkw⟩
    ·rw [List.map_map]
     have : (List.map ((fun x : Row2 => x.k) ∘ fun key => (⟨key, (f key).getD 0⟩ : Row2)) ks) = ks := by simp [Function.comp_def]
     rw [this]; exact HV.out.2.1
    ·obtain ⟨key, hk1, rfl⟩ := List.mem_map.1 hr
     obtain ⟨v, hv⟩ := Option.isSome_iff_exists.1 ((HV.out.2.1.2 key).1 hk1)
     simp only [hv, Option.getD_some]
   clear hrow hfr hkr hkw
   go_wp2_with fail
   go_ret
   exact ⟨_, _, rfl, HFI.out⟩
set_option maxRecDepth 20000 in
set_option maxHeartbeats 1600000 in
theorem pRows {L : Lay} {bs : Nat → Nat} {A : List Nat} {ow : Ow} {m : Nat} {lv : Int} {s : St} {w : World} (h : PSt L bs A ow m 0 lv s w) (hmm : m ≤ 1099511627776) :
  Calls Tryz.prog 25 #[.pointer (some ⟨L.p, 0, none⟩)] w fun e w' => ∃ x l, e = .returned x ∧ RowAt w' 95 2 x l.length (rowCells l) ∧ (∀ k, x.ownBlock = some k → w.heap.size ≤ k) ∧ RowsOf s.rows l ∧ PSt L bs A ow m 0 lv s w' ∧ Kept (OwnP ow) w w' := by
 obtain ⟨c0, f0⟩ := h.mucell
 have h1 := h.locked 1
 have H1 : Hid (PSt L bs A ow m 1 lv s (w.setCell ⟨L.p, 0, none⟩ (.int .i32 1))) := h1
 have HK1 : Hid (Kept (OwnP ow) w (w.setCell ⟨L.p, 0, none⟩ (.int .i32 1))) := h.keptP _
 have HKP : Hid (∀ (W : World) (v : Value), Kept (OwnP ow) W (W.setCell ⟨L.p, 0, none⟩ v)) := fun W v => h.keptP v
 have HPL : Hid (L.p < w.heap.size) := h.lt _ h.ownP
 obtain ⟨u, tv, wv, b1, c3, c6, c7, c4, b2⟩ := h1.cells
 have HF : Hid (Calls Tryz.prog 65 #[.map (some L.vb)] (w.setCell ⟨L.p, 0, none⟩ (.int .i32 1)) fun e w' => ∃ x l, e = .returned x ∧ RowAt w' 95 2 x l.length (rowCells l) ∧ (∀ k, x.ownBlock = some k → (w.setCell ⟨L.p, 0, none⟩ (.int .i32 1)).heap.size ≤ k) ∧ RowsOf s.rows l ∧ Kept NoBlk (w.setCell ⟨L.p, 0, none⟩ (.int .i32 1)) w') := sortedRows_any h1.vals h1.rdom hmm
 have d3 : (w.setCell ⟨L.p, 0, none⟩ (.int .i32 1)).cell? ⟨L.p, 3, none⟩ = some (.map (some L.vb)) := c3
 clear h h1 b1 b2 c3 c6 c7 c4
 go_enter_defers Tryz.func25, Tryz.ntmps25
 go_wp2_with fail
 refine (lock_free Tryz.muLib ⟨L.p, 0, none⟩ _ c0 f0).mono ?_
 rintro e w1 ⟨rfl, rfl⟩
 generalize w.setCell ⟨L.p, 0, none⟩ (.int .i32 1) = W1 at *
 go_wp2_with fail
 refine HF.out.mono ?_
 rintro e w2 ⟨x, l, rfl, hx1, hx2, hx3, hk2⟩
 have H2 : Hid (PSt L bs A ow m 1 lv s w2) := H1.out.kept0 hk2
 have HK2 : Hid (Kept (OwnP ow) w w2) := HK1.out.trans' (hk2.mono (fun _ x => x.elim))
 have HX : Hid (RowAt w2 95 2 x l.length (rowCells l) ∧ (∀ k, x.ownBlock = some k → W1.heap.size ≤ k) ∧ RowsOf s.rows l) := ⟨hx1, hx2, hx3⟩
 clear hk2 hx1 hx2 hx3 HF
 go_wp2_with fail
 refine leaves_cons (f := 60) (args := #[.pointer (some ⟨L.p, 0, none⟩)]) (by simp) (by simp [go_sem]) ?_
 refine (unlock_deferred Tryz.muLib ⟨L.p, 0, none⟩ .returning _ H2.out.mucell.1 H2.out.mucell.2).mono ?_
 rintro e u' w'' ⟨rfl, rfl, rfl⟩
 have hs := HK1.out.size
 have hp := HPL.out
 obtain ⟨g1, g2, g3⟩ := HX.out
 refine ⟨_, results_tmp rfl _ _ _, x, l, ?_, g1.kept (Kept.set1 w2 L.p 0 _) (fun k e y => by unfold Blk at y; have := g2 k e; omega), fun k e => Nat.le_trans hs (g2 k e), g3, H2.out.locked 0, HK2.out.trans' (HKP.out _ _)⟩
 first | rfl | (simp; done)
end Go.Proofs.YtmcajfefagdbnaaGreat
namespace Go.Proofs.YtmcajfefagdbnaaGreat
open Go Go.RowKit
structure Quiet (t : Tx) (st : Int) : Prop where
 stamp : t.stamp = st
 state : t.state = 0
 next : t.next = 0
 wounded : t.wounded = false
 waits : t.waits = none
 agains : t.agains = 0
 regs : ∀ i, t.regs i = 0
 reads : t.reads = []
structure PInv (S : Nat → Prop) (p : Nat) (c : Int) (sts : List Int) (w : World) : Prop where
 lt : ∀ k, S k → k < w.heap.size
 c0 : 0 ≤ c
 c1 : c ≤ 1099511627776
 few : sts.length ≤ 12
 body : ∃ (L : Lay) (bs : Nat → Nat) (ow : Ow) (m : Nat) (s : St), L.p = p ∧ (∀ k, OwnP ow k → S k) ∧ PSt L bs (List.range' 1 sts.length) ow m 0 ((sts.length : Nat) : Int) s w ∧ s.clock = c ∧ s.n = sts.length ∧ ∀ i, i < sts.length → Quiet (s.tx (i + 1)) (sts.getD i 0)
theorem PInv.of_same {S : Nat → Prop} {p : Nat} {c : Int} {sts : List Int} {w w' : World} (h : PInv S p c sts w) (hs : w.heap.size ≤ w'.heap.size) (hb : ∀ k, S k → w'.heap[k]? = w.heap[k]?) : PInv S p c sts w' := by
 obtain ⟨L, bs, ow, m, s, h1, h2, h3, h4, h5, h6⟩ := h.body
 exact ⟨fun k hk => Nat.lt_of_lt_of_le (h.lt k hk) hs, h.c0, h.c1, h.few, L, bs, ow, m, s, h1, h2, h3.of_same hs (fun k hk => hb k (h2 k hk)), h4, h5, h6⟩
theorem PInv.kept {S S' : Nat → Prop} {p : Nat} {c : Int} {sts : List Int} {w w' : World} (h : PInv S p c sts w) (hk : Kept S' w w') (hd : ∀ k, S k → ¬ S' k) : PInv S p c sts w' :=
 h.of_same hk.size (fun k hs => hk.block k (h.lt k hs) (hd k hs))
theorem PInv.own {S : Nat → Prop} {p : Nat} {c : Int} {sts : List Int} {w : World} (h : PInv S p c sts w) : S p := by
 obtain ⟨L, bs, ow, m, s, h1, h2, h3, _⟩ := h.body
 subst h1
 exact h2 _ h3.ownP
def tickErr (c n : Int) : Int := if n < 0 ∨ 1099511627776 - c < n then 4 else 0
def tickClk (c n : Int) : Int := if n < 0 ∨ 1099511627776 - c < n then c else c + n
theorem admErr_zero' {l : List Op4} {m : Nat} {c : Int} (h : admErr l m c = 0) : l.length ≤ 12 ∧ m < 12 ∧ c < 1099511627776 := by
 unfold admErr at h
 split at h
 ·omega
 ·split at h
  ·omega
  ·split at h
   ·omega
   ·split at h
    ·omega
    ·exact ⟨by omega, by omega, by omega⟩
def PNewAt (lo hi p n : Nat) (l : List Row2) (w : World) : Prop := ∃ (L : Lay) (ow : Ow), L.p = p ∧ (∀ k, OwnP ow k → lo ≤ k ∧ k < hi) ∧ PSt L (fun _ => 0) [] ow n 0 0 (St.born (rowsF l)) w
theorem PNewAt.kept {lo hi p n : Nat} {l : List Row2} {w w' : World} {S : Nat → Prop} (h : PNewAt lo hi p n l w) (hk : Kept S w w') (hd : ∀ k, lo ≤ k → k < hi → ¬ S k) : PNewAt lo hi p n l w' := by
 obtain ⟨L, ow, h1, h2, h3⟩ := h
 exact ⟨L, ow, h1, h2, h3.kept hk (fun k hk' => hd k (h2 k hk').1 (h2 k hk').2)⟩
theorem PNewAt.lt {lo hi p n : Nat} {l : List Row2} {w : World} (h : PNewAt lo hi p n l w) : lo ≤ p ∧ p < hi := by
 obtain ⟨L, ow, rfl, h2, h3⟩ := h
 exact h2 _ h3.ownP
theorem PNewAt.mono {lo lo' hi p n : Nat} {l : List Row2} {w : World} (h : PNewAt lo hi p n l w) (hl : lo' ≤ lo) : PNewAt lo' hi p n l w := by
 obtain ⟨L, ow, h1, h2, h3⟩ := h
 exact ⟨L, ow, h1, fun k hk => ⟨Nat.le_trans hl (h2 k hk).1, (h2 k hk).2⟩, h3⟩
theorem PNewAt.inv {lo hi p n : Nat} {l : List Row2} {w : World} (h : PNewAt lo hi p n l w) : ∃ S : Nat → Prop, PInv S p 0 [] w ∧ ∀ k, S k → lo ≤ k ∧ k < hi := by
 obtain ⟨L, ow, rfl, h2, h3⟩ := h
 exact ⟨OwnP ow, ⟨fun k hk => h3.lt k hk, by omega, by omega, by simp, L, fun _ => 0, ow, n, St.born (rowsF l), rfl, fun _ x => x, h3, rfl, rfl, fun i hi => by simp at hi⟩, h2⟩
end Go.Proofs.YtmcajfefagdbnaaGreat
namespace Go.Proofs.YtmcajfefagdbnaaGreat
open Go Go.RowKit Go.Sort Go.Lib
set_option maxRecDepth 20000 in
set_option maxHeartbeats 1600000 in
theorem pfree {L : Lay} {bs : Nat → Nat} {A : List Nat} {ow : Ow} {m : Nat} {mu lv : Int} {s : St} {w : World} (h : PSt L bs A ow m mu lv s w) (row : Int) (hr : inI row) (i : Nat) (md : Int) (honce : ((s.lk row).q.map (·.1)).Nodup) :
  Calls Tryz.prog 94 #[.pointer (some ⟨L.p, 0, none⟩), .int .i64 row, .agg #[.int .i64 (i : Int), .int .i64 md]] w fun e w' => e = .returned (.bool ((s.lk row).q.isEmpty && !hind s.n (s.lk row).h i md)) ∧ Kept NoBlk w w' := by
 have hk0 : Kept NoBlk w (w.alloc (.cells #[.int .i64 (i : Int), .int .i64 md] 107)) := (Kept.refl _ _).alloc _
 have h0 := h.kept0 hk0
 obtain ⟨u, tv, wv, b1, c3, c6, c7, c4, b2⟩ := h0.cells
 have hbx := block_alloc_new w (.cells #[.int .i64 (i : Int), .int .i64 md] 107)
 have z0 : (w.alloc (.cells #[.int .i64 (i : Int), .int .i64 md] 107)).cell? ⟨w.heap.size, 0, none⟩ = some (.int .i64 (i : Int)) := by rw [cell_at hbx]; rfl
 have z1 : (w.alloc (.cells #[.int .i64 (i : Int), .int .i64 md] 107)).cell? ⟨w.heap.size, 1, none⟩ = some (.int .i64 md) := by rw [cell_at hbx]; rfl
 obtain ⟨v2, hlook, hrow⟩ := h0.queueAt row hr
 obtain ⟨ao, c, rfl, _, _⟩ := hrow.1.form
 have hl0 := hlook _ rfl
 have hft := pfits h0 row i md hr
 have hql := h.queueLen row honce
 have HK : Hid (Kept NoBlk w (w.alloc (.cells #[.int .i64 (i : Int), .int .i64 md] 107))) := hk0
 have hem : (s.lk row).q.isEmpty = decide ((s.lk row).q.length = 0) := by cases (s.lk row).q <;> simp
 clear h h0 b1 c3 c6 c4 b2 hlook hrow hbx hk0 honce
 by_cases hq : (s.lk row).q.length = 0
 ·have hq1 : ((((s.lk row).q.length : Nat) : Int) == 0) = true := by simp [hq]
  rw [hem, show decide ((s.lk row).q.length = 0) = true from by simp [hq], Bool.true_and]
  generalize (s.lk row).q.length = nq at *
  subst hq
  go_enter Tryz.func94, Tryz.ntmps94
  go_wp2_with fail
  refine hft.mono ?_
  rintro e w1 ⟨rfl, hk1⟩
  have HK1 : Hid (Kept NoBlk w w1) := HK.out.trans' hk1
  generalize hbb : (!hind s.n (s.lk row).h i md) = bb at *
  clear hk1 hft z0 z1 c7 hl0
  go_wp2_with fail
  go_ret
  rw [hbb]
  exact ⟨rfl, HK1.out⟩
 ·have hq1 : ((((s.lk row).q.length : Nat) : Int) == 0) = false := by rw [beq_eq_false_iff_ne]; omega
  rw [hem, show decide ((s.lk row).q.length = 0) = false from by simp [hq], Bool.false_and]
  generalize (s.lk row).q.length = nq at *
  go_enter Tryz.func94, Tryz.ntmps94
  go_wp2_with fail
  go_ret
  exact ⟨rfl, HK.out⟩
end Go.Proofs.YtmcajfefagdbnaaGreat
namespace Go.Proofs.YtmcajfefagdbnaaGreat
open Go Go.RowKit Go.Sort Go.Lib
open Go.MuLone
theorem infoLockF : (Tryz.prog.info? 107).map (fun i => (i.zero, i.size, i.bytes)) = some (some (.agg #[.int .i64 0, .int .i64 0]), 2, 16) := by kernel_rfl
set_option maxHeartbeats 800000 in
theorem freshLock (x : Value) (m : Nat) (cs : List Value) (w : World) (hx : FromMem w 2 x m cs) (hm : m ≤ 1048576) :
  Calls Tryz.prog 67 #[x] w fun e w' => e = .returned (.slice (some ⟨w.heap.size, 0, none⟩) m m) ∧ w'.heap[w.heap.size]? = some (.cells cs.toArray 107 (0, 0)) ∧ Kept NoBlk w w' := by
 obtain ⟨i, hi, hz0, hz1, hz2⟩ := info_parts infoLockF
 have hsz : (Tryz.prog.info? 107).map (·.size) = some 2 := by rw [hi]; simp [hz1]
 obtain ⟨ao, c, rfl, hn, hc⟩ := hx.shape
 have hx' : FromMem (w.alloc (.cells (madeCells (Value.agg #[.int .i64 0, .int .i64 0]).cells (m * 2)) 107)) 2 (.slice ao m c) m cs :=
  ⟨⟨ao, c, rfl, hn, fun ad had j u hu => ((Kept.refl NoBlk w).alloc _).cell (hc ad had j u hu) (fun x => x)⟩, hx.len, hx.one⟩
 have HX : Hid _ := hx'
 have HB : Hid (i.bytes * m ≤ 281474976710656) := by unfold Hid; rw [hz2]; omega
 have HM : Hid (m ≤ maxLen) := by unfold Hid maxLen; omega
 have HL : Hid _ := hx.len
 have HS : Hid _ := hsz
 clear hx hx' hn hc hsz
 go_enter Tryz.func67, Tryz.ntmps67
 go_wp2_with (first
  | (at_make; refine wpList_make_at rfl _ _ 74 rfl 107 i _ 2 Tryz.underlying74 hi hz0 hz1 .i64 .i64 _ _ m m rfl rfl rfl rfl (Nat.le_refl _) HB.out HM.out ?_)
  | (refine wpList_copy_at (by rfl) _ _ 74 74 (by rfl) 107 2 Tryz.underlying74 HS.out w.heap.size m m (by rfl) _ 107 (block_alloc_new w _) _ m cs (by rfl) HX.out (Nat.le_refl _) (by rw [size_madeCells, HL.out]; exact Nat.le_refl _) ?_))
 intro w' hg hk
 go_wp2_with fail
 go_ret
 refine ⟨rfl, ?_, ((Kept.refl NoBlk w).alloc _).trans hk (fun i x => .inr (by cases x; exact Nat.le_refl _))⟩
 rw [hg, List.drop_of_length_le (by rw [Array.length_toList, size_madeCells, HL.out]; exact Nat.le_refl _), List.append_nil]
set_option maxRecDepth 20000 in
set_option maxHeartbeats 3200000 in
theorem pLocks {L : Lay} {bs : Nat → Nat} {A : List Nat} {ow : Ow} {m : Nat} {lv : Int} {s : St} {w : World} (h : PSt L bs A ow m 0 lv s w) (key : Int) (hkey : inI key) (hq : (s.lk key).q.length ≤ 1048576) :
  Calls Tryz.prog 27 #[.pointer (some ⟨L.p, 0, none⟩), .int .i64 key] w fun e w' => ∃ vh l a, e = .returned (.tuple #[vh, .slice (some ⟨a, 0, none⟩) (s.lk key).q.length (s.lk key).q.length]) ∧ RowAt w' 107 2 vh l.length (lkc l) ∧ (∀ b, vh.ownBlock = some b → w.heap.size ≤ b) ∧ HoldsL (holdF s.lk) key l ∧ (w.heap.size ≤ a ∧ ∀ b, vh.ownBlock = some b → b < a) ∧ w'.heap[a]? = some (.cells (lkc (qcast (s.lk key).q)).toArray 107 (0, 0)) ∧ PSt L bs A ow m 0 lv s w' ∧ Kept (OwnP ow) w w' := by
 obtain ⟨c0, f0⟩ := h.mucell
 have h1 := h.locked 1
 have H1 : Hid (PSt L bs A ow m 1 lv s (w.setCell ⟨L.p, 0, none⟩ (.int .i32 1))) := h1
 have HK1 : Hid (Kept (OwnP ow) w (w.setCell ⟨L.p, 0, none⟩ (.int .i32 1))) := h.keptP _
 have HKP : Hid (∀ (W : World) (v : Value), Kept (OwnP ow) W (W.setCell ⟨L.p, 0, none⟩ v)) := fun W v => h.keptP v
 have HPL : Hid (L.p < w.heap.size) := h.lt _ h.ownP
 obtain ⟨u, tv, wv, b1, c3, c6, c7, c4, b2⟩ := h1.cells
 obtain ⟨qf, q1, q2⟩ := h1.que
 have hqk := q2 key
 have hlook : ∀ W, Kept NoBlk (w.setCell ⟨L.p, 0, none⟩ (.int .i32 1)) W → (Instr.lookup 125 (.map (some L.qb)) (.int .i64 key) false).run Tryz.prog W = .ok ((qf key).getD (.slice none 0 0)) W := fun W hk => (q1.kept hk (fun x => x)).look Tryz.underlying125 (zeroLks _) (a := key) hkey
 have hrow : RowAt (w.setCell ⟨L.p, 0, none⟩ (.int .i32 1)) 107 2 ((qf key).getD (.slice none 0 0)) (s.lk key).q.length (lkc (qcast (s.lk key).q)) := by
  cases hx : qf key with
  | none => rw [hx] at hqk; unfold QueueAt at hqk; rw [hqk]; exact RowAt.nil _ _ _
  | some v => rw [hx] at hqk; exact hqk.1
 have hhold := holders_any L.p L.hb m key (holdF s.lk) (w.setCell ⟨L.p, 0, none⟩ (.int .i32 1)).drew c6 (h1.hold.kept (Kept.refl NoBlk _).drew (fun x => x)) hkey (holdF_ok h1) (holdF_few h1 key)
 obtain ⟨qa, qc, hqe, _⟩ := hrow.form
 rw [hqe] at hlook hrow
 have HLK : Hid (∀ W, Kept NoBlk (w.setCell ⟨L.p, 0, none⟩ (.int .i32 1)) W → (Instr.lookup 125 (.map (some L.qb)) (.int .i64 key) false).run Tryz.prog W = .ok (.slice qa (s.lk key).q.length qc) W) := hlook
 have HRW : Hid (RowAt (w.setCell ⟨L.p, 0, none⟩ (.int .i32 1)) 107 2 (.slice qa (s.lk key).q.length qc) (s.lk key).q.length (lkc (qcast (s.lk key).q))) := hrow
 have HHD : Hid (Calls Tryz.prog 66 #[.pointer (some ⟨L.p, 0, none⟩), .int .i64 key] (w.setCell ⟨L.p, 0, none⟩ (.int .i32 1)).drew fun e w' => ∃ v l, e = .returned v ∧ w'.ownsRow 0 107 2 v l.length (lkc l) ∧ (∀ b, v.ownBlock = some b → (w.setCell ⟨L.p, 0, none⟩ (.int .i32 1)).drew.heap.size ≤ b) ∧ HoldsL (holdF s.lk) key l ∧ Kept NoBlk (w.setCell ⟨L.p, 0, none⟩ (.int .i32 1)).drew w') := hhold
 have HFR : Hid (∀ W, Kept NoBlk (w.setCell ⟨L.p, 0, none⟩ (.int .i32 1)) W → Calls Tryz.prog 67 #[.slice qa (s.lk key).q.length qc] W fun e w' => e = .returned (.slice (some ⟨W.heap.size, 0, none⟩) (s.lk key).q.length (s.lk key).q.length) ∧ w'.heap[W.heap.size]? = some (.cells (lkc (qcast (s.lk key).q)).toArray 107 (0, 0)) ∧ Kept NoBlk W w') := fun W hk => freshLock _ _ (lkc (qcast (s.lk key).q)) W ((hrow.kept hk (fun _ _ x => x)).mem (lkc_one _)) hq
 have d7 : (w.setCell ⟨L.p, 0, none⟩ (.int .i32 1)).cell? ⟨L.p, 7, none⟩ = some (.map (some L.qb)) := c7
 have dl : (Instr.lookup 125 (.map (some L.qb)) (.int .i64 key) false).run Tryz.prog (w.setCell ⟨L.p, 0, none⟩ (.int .i32 1)).drew = .ok (.slice qa (s.lk key).q.length qc) (w.setCell ⟨L.p, 0, none⟩ (.int .i32 1)).drew := hlook _ (Kept.refl NoBlk _).drew
 clear h h1 b1 c3 c6 c7 c4 b2 q1 q2 hqk hlook hrow hhold hqe hq
 generalize hnq : (s.lk key).q.length = nq at *
 have HNQ : Hid ((s.lk key).q.length = nq) := hnq
 clear hnq
 go_enter_defers Tryz.func27, Tryz.ntmps27
 go_wp2_with fail
 refine (lock_free Tryz.muLib ⟨L.p, 0, none⟩ _ c0 f0).mono ?_
 rintro e w1 ⟨rfl, rfl⟩
 generalize w.setCell ⟨L.p, 0, none⟩ (.int .i32 1) = W1 at *
 go_wp2_with fail
 refine' cut2 (X := Value) (Y := Nat) _ (fun vh a w3 => ∃ l w2, w2.ownsRow 0 107 2 vh l.length (lkc l) ∧ (∀ b, vh.ownBlock = some b → W1.heap.size ≤ b) ∧ HoldsL (holdF s.lk) key l ∧ Kept NoBlk W1 w2 ∧ (W1.heap.size ≤ a ∧ ∀ b, vh.ownBlock = some b → b < a) ∧ w3.heap[a]? = some (.cells (lkc (qcast (s.lk key).q)).toArray 107 (0, 0)) ∧ Kept NoBlk w2 w3) ?_ ?_
 rotate_left
 ·refine wp_region_noPanic ?_
  go_region_law (first
   | (go_simp; go_at_call 66; (with_reducible refine HHD.out.mono ?_); rintro e w2 ⟨vh, l, rfl, hv1, hv2, hv3, hk2⟩; have hk2' := (Kept.refl NoBlk W1).drew.trans' hk2; have e7 := hk2'.cell0 d7; have el := HLK.out w2 hk2')
   | (go_simp; go_at_call 67; (with_reducible refine (HFR.out _ hk2').mono ?_); rintro e w3 ⟨rfl, hv4, hk3⟩; have hs2 : W1.heap.size ≤ w2.heap.size ∧ (∀ b, vh.ownBlock = some b → b < w2.heap.size) := ⟨hk2'.size, ownsRow_lt hv1⟩; generalize w2.heap.size = ha at *))
  all_goals
   refine NoPanic.normal ?_
   refine ⟨vh, ha, ?_, l, w2, hv1, hv2, hv3, hk2', hs2, hv4, hk3⟩
   exact rfl
 rintro vh a w3 ⟨l, w2, hv1, hv2, hv3, hk2, ha, hv4, hk3⟩
 have hk13 := hk2.trans' hk3
 have H3 : Hid (PSt L bs A ow m 1 lv s w3 ∧ Kept (OwnP ow) w w3) := ⟨H1.out.kept0 hk13, HK1.out.trans' (hk13.mono (fun _ x => x.elim))⟩
 have HV : Hid (RowAt w3 107 2 vh l.length (lkc l) ∧ (∀ b, vh.ownBlock = some b → W1.heap.size ≤ b) ∧ HoldsL (holdF s.lk) key l ∧ (W1.heap.size ≤ a ∧ ∀ b, vh.ownBlock = some b → b < a) ∧ w3.heap[a]? = some (.cells (lkc (qcast (s.lk key).q)).toArray 107 (0, 0))) := ⟨(RowAt.owns hv1).kept hk3 (fun _ _ x => x), hv2, hv3, ha, hv4⟩
 clear hv1 hv2 hv3 hk2 ha hv4 hk3 hk13 d7 dl
 go_wp2_with fail
 refine leaves_cons (f := 60) (args := #[.pointer (some ⟨L.p, 0, none⟩)]) (by simp) (by simp [go_sem]) ?_
 refine (unlock_deferred Tryz.muLib ⟨L.p, 0, none⟩ .returning _ H3.out.1.mucell.1 H3.out.1.mucell.2).mono ?_
 rintro e u' w'' ⟨rfl, rfl, rfl⟩
 have hs := HK1.out.size
 have hp := HPL.out
 obtain ⟨g1, g2, g3, g4, g5⟩ := HV.out
 have e8 := Kept.set1 w3 L.p 0 (.int .i32 0)
 refine ⟨_, results_tmp2 rfl _ _ _, vh, l, a, ?_, g1.kept e8 (fun k e x => by unfold Blk at x; have := g2 k e; omega), fun b e => Nat.le_trans hs (g2 b e), g3, ⟨Nat.le_trans hs g4.1, g4.2⟩, e8.heap g5 (fun x => by unfold Blk at x; have := g4.1; omega), H3.out.1.locked 0, H3.out.2.trans' (HKP.out _ _)⟩
 first | rfl | (simp; done)
end Go.Proofs.YtmcajfefagdbnaaGreat
