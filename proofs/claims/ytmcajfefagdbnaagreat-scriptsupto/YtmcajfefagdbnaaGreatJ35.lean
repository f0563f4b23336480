import Derived.Test.YtmcajfefagdbnaaGreatJ34
import Derived.Test.YtmcajfefagdbnaaGreatJ06
namespace Go.Proofs.YtmcajfefagdbnaaGreat
open Go Go.RowKit
theorem rowCells_snocL (l : List Row2) (r : Row2) : rowCells (l ++ [r]) = rowCells l ++ [.int .i64 r.k, .int .i64 r.v] := by
 simp [rowCells, Row2.cells]
theorem getD_snoc_lt (l : List Row2) (r : Row2) (i : Nat) (h : i < l.length) : (l ++ [r]).getD i Row2.z = l.getD i Row2.z := by
 simp [List.getD, List.getElem?_append_left h]
theorem getD_snoc_eq (l : List Row2) (r : Row2) : (l ++ [r]).getD l.length Row2.z = r := by
 simp [List.getD]
def RiseTo (l : List Row2) (a : Int) : Prop := Rise l ∧ RowsWf l ∧ (∀ i, i < l.length → (l.getD i Row2.z).k ≤ a) ∧ -3 ≤ a ∧ a ≤ -3 + 5 * l.length
theorem RiseTo.step {l : List Row2} {a a' v : Int} (h : RiseTo l a) (h1 : a < a') (h2 : a' ≤ a + 5) (hl : l.length ≤ 1048576) (hv : (Lit.int .i64 v).wf = true) : RiseTo (l ++ [⟨a', v⟩]) a' := by
 obtain ⟨hr, hw, hb, h3, h4⟩ := h
 have hlen : (l ++ [(⟨a', v⟩ : Row2)]).length = l.length + 1 := by simp
 refine ⟨?_, ?_, ?_, by omega, by rw [hlen]; omega⟩
 ·intro i hi
  rw [hlen] at hi
  rw [getD_snoc_lt _ _ _ (by omega)]
  by_cases e : i + 1 = l.length
  ·rw [e, getD_snoc_eq]
   have := hb i (by omega)
   simp only
   omega
  ·rw [getD_snoc_lt _ _ _ (by omega)]
   exact hr i (by omega)
 ·intro i hi
  rw [hlen] at hi
  by_cases e : i = l.length
  ·subst e
   rw [getD_snoc_eq]
   refine ⟨?_, hv⟩
   exact WalkArith.wf_i64 (by simp only; omega)
  ·rw [getD_snoc_lt _ _ _ (by omega)]
   exact hw i (by omega)
 ·intro i hi
  rw [hlen] at hi
  by_cases e : i = l.length
  ·subst e
   rw [getD_snoc_eq]
   exact Int.le_refl _
  ·rw [getD_snoc_lt _ _ _ (by omega)]
   have := hb i (by omega)
   omega
set_option maxRecDepth 100000 in
set_option maxHeartbeats 3200000 in
theorem rising_any (ao : Option Addr) (c n : Nat) (l : List Row2) (w : World) (hn : l.length = n) (hl : n ≤ 1048576) (h : 0 < n → ∃ b off, ao = some ⟨b, off, none⟩ ∧ RowsAt w b off l) (hw : RowsWf l) :
  Calls Tryz.prog 15 #[.slice ao n c] w fun e w' => ∃ l' v, e = .returned v ∧ l'.length = n ∧ Rise l' ∧ RowsWf l' ∧ w'.ownsRow 0 95 2 v n (rowCells l') ∧ (∀ k, v.ownBlock = some k → w.heap.size ≤ k) ∧ Kept NoBlk w w' := by
 have Hn : Hid _ := hn
 have HW : Hid (RowsWf l) := hw
 clear hn hw
 go_enter Tryz.func15, Tryz.ntmps15
 go_wp2_with fail
 go_loopw [3, 4, 5] (fun o a i wr => ∃ (k : Nat) (l' : List Row2) (oa : Option Addr) (oc : Nat) (at_ : Int), k ≤ n ∧ i = .int .i64 k ∧ a = .int .i64 at_ ∧ o = .slice oa k oc ∧ l'.length = k ∧ RiseTo l' at_ ∧ wr.ownsRow 0 95 2 (.slice oa k oc) k (rowCells l') ∧ (∀ b, (Value.slice oa k oc).ownBlock = some b → w.heap.size ≤ b) ∧ Kept NoBlk w wr) (fun _ _ i _ => n - (intOf i).toNat)
 case atStart => exact ⟨0, [], none, 0, -3, Nat.zero_le _, rfl, rfl, rfl, rfl, ⟨fun i hi => by simp at hi, fun i hi => by simp at hi, fun i hi => by simp at hi, by omega, by simp⟩, World.ownsRow_nil _ _ _ _, fun b hb => by simp [Value.ownBlock] at hb, Kept.refl _ _⟩
 case round =>
  obtain ⟨k, l', oa, oc, at_, hk, rfl, rfl, rfl, hl', hrt, hown, hfr, hkw⟩ := hrel
  by_cases hlt : k < n
  ·obtain ⟨b, off, rfl, hat⟩ := h (by omega)
   have hkl : k < l.length := by rw [Hn.out]; exact hlt
   obtain ⟨g0, g1⟩ := (hat.kept hkw (fun x => x)) k hkl
   obtain ⟨wk, wv⟩ := HW.out k hkl
   have hb1 := hrt.2.2.2.1
   have hb2 := hrt.2.2.2.2
   have HKW : Hid _ := hkw
   have HOW : Hid (wr.ownsRow 0 95 2 (.slice oa k oc) k (rowCells l')) := hown
   have HFR : Hid _ := hfr
   have HRT : Hid (RiseTo l' at_) := hrt
   have HWV : Hid _ := wv
   have HWK : Hid _ := wk
   clear hkw hown hat h wk wv hkl hfr hrt
   generalize l.getD k Row2.z = r at *
   have hm1 : -5 < r.k.tmod 5 := Int.lt_tmod_of_pos _ (by omega)
   have hm2 : r.k.tmod 5 < 5 := Int.tmod_lt_of_pos _ (by omega)
   rw [hl'] at hb2
   obtain ⟨i0, hi0, hz0, hz1, hz2⟩ := info_parts infoRow
   have HI0 : Hid (Tryz.prog.info? 95 = some i0 ∧ i0.zero = some (.agg #[.int .i64 0, .int .i64 0]) ∧ i0.size = 2 ∧ i0.bytes = 16) := ⟨hi0, hz0, hz1, hz2⟩
   have HB1 : Hid ((k + 1) * 16 ≤ 140737488355328) := by unfold Hid; omega
   have HM1 : Hid (k + 1 ≤ maxLen) := by unfold Hid maxLen; omega
   clear hi0 hz0 hz1 hz2
   by_cases hneg : r.k.tmod 5 < 0
   ·go_wp2_with (at_builtin; refine wpList_append_at (by rfl) _ _ 22 (by rfl) 95 i0 _ 2 16 Tryz.underlying22 HI0.out.1 HI0.out.2.1 HI0.out.2.2.1 HI0.out.2.2.2 (by rfl) (.slice oa k oc) k (rowCells l') (by rfl) (ownsRow_kept HOW.out ((Kept.refl NoBlk wr).alloc _) (fun _ _ x => x)) (.slice (some ⟨wr.heap.size, 0, none⟩) 1 1) 1 [.int .i64 (at_ + 1 + -r.k.tmod 5), .int .i64 r.v] (by rfl) (from_new wr [.int .i64 (at_ + 1 + -r.k.tmod 5), .int .i64 r.v] _ 2 1 (by rfl) (by simp [Value.oneCell'])) HM1.out HB1.out ?_)
    intro a1 c1 W1 hown1 hmv1
    have hkp := hmv1.keptOf
    have hfrs := hmv1.fresh
    have hsw : w.heap.size ≤ (wr.alloc (.cells #[.int .i64 (at_ + 1 + -r.k.tmod 5), .int .i64 r.v] 95)).heap.size := (HKW.out.alloc _).size
    have HK1 : Hid (Kept NoBlk w W1) := (HKW.out.alloc _).trans hkp (fun i hi => .inr (HFR.out i hi))
    have HF1 : Hid (∀ b, (Value.slice a1 (k + 1) c1).ownBlock = some b → w.heap.size ≤ b) := fun b hb => by
     rcases hfrs b hb with h | h
     ·exact HFR.out b h
     ·exact Nat.le_trans hsw h
    have HO1 : Hid (W1.ownsRow 0 95 2 (.slice a1 (k + 1) c1) (k + 1) (rowCells (l' ++ [⟨at_ + 1 + -r.k.tmod 5, r.v⟩]))) := by
     rw [rowCells_snocL]
     exact hown1
    have HR1 : Hid (RiseTo (l' ++ [⟨at_ + 1 + -r.k.tmod 5, r.v⟩]) (at_ + 1 + -r.k.tmod 5)) := RiseTo.step HRT.out (by omega) (by omega) (by rw [hl']; omega) HWV.out
    clear hown1 hmv1 hkp hfrs hsw
    go_wp2_with fail
    go_roundw
    case rel => exact ⟨k + 1, l' ++ [⟨at_ + 1 + -r.k.tmod 5, r.v⟩], a1, c1, at_ + 1 + -r.k.tmod 5, by omega, by go_num, rfl, rfl, by simp [hl'], HR1.out, HO1.out, HF1.out, HK1.out⟩
    case measure => simp [intOf]; omega
   ·go_wp2_with (at_builtin; refine wpList_append_at (by rfl) _ _ 22 (by rfl) 95 i0 _ 2 16 Tryz.underlying22 HI0.out.1 HI0.out.2.1 HI0.out.2.2.1 HI0.out.2.2.2 (by rfl) (.slice oa k oc) k (rowCells l') (by rfl) (ownsRow_kept HOW.out ((Kept.refl NoBlk wr).alloc _) (fun _ _ x => x)) (.slice (some ⟨wr.heap.size, 0, none⟩) 1 1) 1 [.int .i64 (at_ + 1 + r.k.tmod 5), .int .i64 r.v] (by rfl) (from_new wr [.int .i64 (at_ + 1 + r.k.tmod 5), .int .i64 r.v] _ 2 1 (by rfl) (by simp [Value.oneCell'])) HM1.out HB1.out ?_)
    intro a1 c1 W1 hown1 hmv1
    have hkp := hmv1.keptOf
    have hfrs := hmv1.fresh
    have hsw : w.heap.size ≤ (wr.alloc (.cells #[.int .i64 (at_ + 1 + r.k.tmod 5), .int .i64 r.v] 95)).heap.size := (HKW.out.alloc _).size
    have HK1 : Hid (Kept NoBlk w W1) := (HKW.out.alloc _).trans hkp (fun i hi => .inr (HFR.out i hi))
    have HF1 : Hid (∀ b, (Value.slice a1 (k + 1) c1).ownBlock = some b → w.heap.size ≤ b) := fun b hb => by
     rcases hfrs b hb with h | h
     ·exact HFR.out b h
     ·exact Nat.le_trans hsw h
    have HO1 : Hid (W1.ownsRow 0 95 2 (.slice a1 (k + 1) c1) (k + 1) (rowCells (l' ++ [⟨at_ + 1 + r.k.tmod 5, r.v⟩]))) := by
     rw [rowCells_snocL]
     exact hown1
    have HR1 : Hid (RiseTo (l' ++ [⟨at_ + 1 + r.k.tmod 5, r.v⟩]) (at_ + 1 + r.k.tmod 5)) := RiseTo.step HRT.out (by omega) (by omega) (by rw [hl']; omega) HWV.out
    clear hown1 hmv1 hkp hfrs hsw
    go_wp2_with fail
    go_roundw
    case rel => exact ⟨k + 1, l' ++ [⟨at_ + 1 + r.k.tmod 5, r.v⟩], a1, c1, at_ + 1 + r.k.tmod 5, by omega, by go_num, rfl, rfl, by simp [hl'], HR1.out, HO1.out, HF1.out, HK1.out⟩
    case measure => simp [intOf]; omega
  ·obtain rfl : k = n := by omega
   have HO : Hid (wr.ownsRow 0 95 2 (.slice oa k oc) k (rowCells l')) := hown
   have HF : Hid _ := hfr
   have HK : Hid _ := hkw
   clear hown hfr hkw h
   go_wp2_with fail
   go_ret
   exact ⟨l', .slice oa k oc, rfl, hl', hrt.1, hrt.2.1, HO.out, HF.out, HK.out⟩
end Go.Proofs.YtmcajfefagdbnaaGreat
namespace Go.Proofs.YtmcajfefagdbnaaGreat
open Go Go.RowKit Go.Sort Go.Lib
theorem cutB2 {P : Program} {c : Code} {n : Nat} {K : Act → World → Prop} {Q : Exit → Act → World → Prop} {a : Act} {w : World} {X Y : Type} (f : X → Y → Act) (R : X → Y → World → Prop) (h1 : c.wp P (Exit.inBlock n (Exit.then (CutP2 f R) Q)) a w) (h2 : ∀ x y w', R x y w' → Exit.then K Q .normal (f x y) w') : c.wp P (Exit.inBlock n (Exit.then K Q)) a w := by
 have go : ∀ e a w, Exit.then (CutP2 f R) Q e a w → Exit.then K Q e a w := by
  intro e a w h
  cases e <;> first | exact h | (obtain ⟨x, y, rfl, h⟩ := h; exact h2 _ _ _ h)
 refine Code.wp_mono ?_ h1
 intro e a w h
 cases e with
 | exit id =>
  simp only [Exit.inBlock] at h ⊢
  by_cases hid : id = n
  ·rw [if_pos hid] at h ⊢; exact go _ _ _ h
  ·rw [if_neg hid] at h ⊢; exact go _ _ _ h
 | _ => simp only [Exit.inBlock] at h ⊢; exact go _ _ _ h
theorem from_new3 (w : World) (x y z : Value) (ty : TypeId) (h1 : x.oneCell' = true) (h2 : y.oneCell' = true) (h3 : z.oneCell' = true) : FromMem (w.alloc (.cells #[x, y, z] ty)) 3 (.slice (some ⟨w.heap.size, 0, none⟩) 1 1) 1 [x, y, z] := by
 refine ⟨⟨_, 1, rfl, fun h => by simp at h, ?_⟩, rfl, fun u hu => by simp at hu; rcases hu with rfl | rfl | rfl <;> assumption⟩
 intro ad had j u hu
 obtain rfl := Option.some.inj had
 match j, hu with
 | 0, hu => simp at hu; subst hu; rw [Addr.add_lit, cell_at (block_alloc_new w _)]; rfl
 | 1, hu => simp at hu; subst hu; rw [Addr.add_lit, cell_at (block_alloc_new w _)]; rfl
 | 2, hu => simp at hu; subst hu; rw [Addr.add_lit, cell_at (block_alloc_new w _)]; rfl
 | j + 3, hu => simp at hu
theorem RowAt.apart {w : World} {e e' : TypeId} {z z' : Nat} {v v' : Value} {n n' : Nat} {xs xs' : List Value} (h : RowAt w e z v n xs) (h' : RowAt w e' z' v' n' xs') (hne : e ≠ e') {b : Nat} (hb : v.ownBlock = some b) : ¬ v'.ownBlock = some b := fun hb' => by
 obtain ⟨c1, x1⟩ := h.block hb
 obtain ⟨c2, x2⟩ := h'.block hb'
 rw [x1] at x2
 simp only [Option.some.injEq, Obj.cells.injEq] at x2
 exact hne x2.2.1
def BoxTy (w : World) (k : Nat) : Prop := ∃ cs, w.heap[k]? = some (.cells cs 3 (0, 0)) ∨ w.heap[k]? = some (.cells cs 35 (0, 0))
theorem PutsBack.typed {w : World} {T : Nat → Prop} {p : Nat} {c : Value} {key : Int} {old : Option Int} (h : PutsBack w T p c key old) : PutsBack w (fun k => T k ∧ BoxTy w k) p c key old := by
 cases old with
 | none =>
  obtain ⟨s, r, h1, h2, h3, h4, h5⟩ := h
  exact ⟨s, r, h1, h2, h3, ⟨h4, _, .inr h2⟩, ⟨h5, _, .inl h3⟩⟩
 | some v =>
  obtain ⟨x, s, r, h1, h0, h2, h3, h6, h4, h5⟩ := h
  exact ⟨x, s, r, h1, h0, h2, h3, ⟨h6, _, .inl h0⟩, ⟨h4, _, .inr h2⟩, ⟨h5, _, .inl h3⟩⟩
theorem Backs.typed {w : World} {T : Nat → Prop} {p : Nat} : ∀ {us : List Saw} {xs : List (FuncId × Array Value)}, Backs w T p us xs → Backs w (fun k => T k ∧ BoxTy w k) p us xs
 | [], [], _ => trivial
 | _ :: _, _ :: _, h => ⟨h.1.typed, h.2.1, Backs.typed h.2.2⟩
 | [], _ :: _, h => h.elim
 | _ :: _, [], h => h.elim
theorem RowAt.noBox {w : World} {e : TypeId} {z : Nat} {v : Value} {n : Nat} {xs : List Value} (h : RowAt w e z v n xs) (h1 : e ≠ 3) (h2 : e ≠ 35) {b : Nat} (hb : v.ownBlock = some b) : ¬ BoxTy w b := fun ⟨cs, hx⟩ => by
 obtain ⟨c1, x1⟩ := h.block hb
 rcases hx with x2 | x2 <;> (rw [x1] at x2; simp only [Option.some.injEq, Obj.cells.injEq] at x2)
 ·exact h1 x2.2.1
 ·exact h2 x2.2.1
theorem PSt.readT {L : Lay} {bs : Nat → Nat} {A : List Nat} {ow : Ow} {m : Nat} {mu lv : Int} {s : St} {W0 W1 Wa w5 w' : World} (h : PSt L bs A ow m mu lv s W0) (i : Nat) (hin : 1 ≤ i ∧ i ≤ s.n) (hnx : (s.tx i).next < (s.tx i).ops.length) (rg : Int → Int) (x : Saw) {ov rv dv : Value} {ao : Option Addr} {c n : Nat}
  (hn : (s.tx i).reads.length = n) (hle : n ≤ (s.tx i).next) (hrv : RowT ow (9, i) W0 105 3 rv n (seenCells (s.tx i).reads)) (hlive : LiveAt ow L.p W0 i (s.tx i) ov dv)
  (hk1 : Kept (Blk (bs i)) W0 W1) (hka : Kept NoBlk W1 Wa) (hmv : Moved Wa w5 rv (.slice ao (n + 1) c) (n + 1)) (hrow : RowAt w5 105 3 (.slice ao (n + 1) c) (n + 1) (seenCells (s.tx i).reads ++ [.int .i64 x.key, .bool x.there, .int .i64 x.val])) (hk6 : Kept (Blk (bs i)) w5 w')
  (hblk : w'.heap[bs i]? = some (.cells #[.int .i64 (i : Int), ov, .int .i64 (s.tx i).stamp, .int .i64 (s.tx i).state, .int .i64 (s.tx i).agains, .int .i64 (((s.tx i).next + 1 : Nat) : Int), .bool (s.tx i).wounded, .bool (s.tx i).waits.isSome, .int .i64 (rg 0), .int .i64 (rg 1), .int .i64 (rg 2), .int .i64 (rg 3), .slice ao (n + 1) c, dv] 146 (0, 0))) :
  PSt L bs A (giveAll ow W0.heap.size w'.heap.size (9, (i : Int))) m mu lv (s.withTx (upd s.tx i { s.tx i with next := (s.tx i).next + 1, regs := rg, reads := (s.tx i).reads ++ [x] })) w' ∧ Kept (OwnP ow) W0 w' := by
 obtain ⟨hbt, hbo⟩ := h.ownT hin
 have hkf : Kept (fun k => k = bs i ∨ rv.ownBlock = some k) W0 w' := (((hk1.mono (fun k e => .inl (by unfold Blk at e; exact e))).trans hka (fun _ x => x.elim)).trans hmv.keptOf (fun k e => .inl (.inr e))).trans hk6 (fun k e => .inl (.inl (by unfold Blk at e; exact e)))
 have hk2 : Kept (fun k => ow k = (8, (i : Int)) ∨ ow k = (9, (i : Int))) W0 w' := hkf.mono (fun k e => by
  rcases e with e | e
  ·subst e; exact .inl hbt
  ·exact .inr (hrv.2 k e))
 have hag := giveAll_agree ow W0 w'.heap.size (9, (i : Int))
 have hsz : W0.heap.size ≤ w'.heap.size := hkf.size
 have hblt : bs i < W0.heap.size := h.lt _ hbo
 have n9 : ∀ k, ow k = (9, (i : Int)) → k ≠ bs i := fun k e e' => by subst e'; rw [hbt] at e; exact tagNe (by omega) e
 refine ⟨h.turnTx i _ hk2 hag (giveAll_lt hsz) (fun _ _ => ?_), hk2.mono (fun k e => by unfold OwnP; rcases e with e | e <;> (rw [e]; exact tagNe (by omega)))⟩
 obtain ⟨l1, l2, l3, l4, l5, cs, l6, l7⟩ := hlive
 have hl : ((s.tx i).reads ++ [x]).length = n + 1 := by rw [List.length_append, hn]; rfl
 have hc : seenCells ((s.tx i).reads ++ [x]) = seenCells (s.tx i).reads ++ [.int .i64 x.key, .bool x.there, .int .i64 x.val] := by simp [seenCells]
 refine ⟨ov, .slice ao (n + 1) c, dv, hblk, by rw [hag _ hblt]; exact hbt, ⟨?_, ?_⟩, by show ((s.tx i).reads ++ [x]).length ≤ 12; omega, fun _ => ⟨by show ((s.tx i).reads ++ [x]).length ≤ _ + 1; omega, ⟨?_, ?_⟩, l2, l3, hnx, Nat.le_succ_of_le l5, cs, ⟨?_, ?_⟩, ?_⟩⟩
 ·show RowAt w' _ 3 _ ((s.tx i).reads ++ [x]).length (seenCells ((s.tx i).reads ++ [x]))
  rw [hl, hc]
  refine hrow.kept hk6 (fun k hk e => ?_)
  unfold Blk at e
  rcases hmv.fresh k hk with y | y
  ·exact n9 k (hrv.2 k y) e
  ·have h1 := hk1.size; have h2 := hka.size; omega
 ·intro k hk
  rcases hmv.fresh k hk with y | y
  ·rw [hag k (hrv.1.lt k y)]; exact hrv.2 k y
  ·exact giveAll_new (by have h1 := hk1.size; have h2 := hka.size; omega) (Nat.lt_of_lt_of_le (hrow.lt k hk) hk6.size)
 ·exact l1.1.kept hkf (fun k hk e => e.elim (n9 k (l1.2 k hk)) (l1.1.apart hrv.1 (by decide) hk))
 ·intro k hk; rw [hag k (l1.1.lt k hk)]; exact l1.2 k hk
 ·exact l6.1.kept hkf (fun k hk e => e.elim (n9 k (l6.2 k hk)) (l6.1.apart hrv.1 (by decide) hk))
 ·intro k hk; rw [hag k (l6.1.lt k hk)]; exact l6.2 k hk
 ·refine Backs.of_same (fun k hk e => by rw [hag k hk]; exact e.1) (fun k hk e => hkf.block k hk (fun e' => ?_)) l7.typed
  rcases e' with e' | e'
  ·exact n9 k e.1 e'
  ·exact hrv.1.noBox (by decide) (by decide) e' e.2
end Go.Proofs.YtmcajfefagdbnaaGreat
