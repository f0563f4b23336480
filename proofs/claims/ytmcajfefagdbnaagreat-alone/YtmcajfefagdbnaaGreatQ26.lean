import Derived.Test.YtmcajfefagdbnaaGreatQ25
import Derived.Test.YtmcajfefagdbnaaGreatQ06
import Derived.Test.YtmcajfefagdbnaaGreatQ14
namespace Go.Proofs.YtmcajfefagdbnaaGreat
open Go Go.RowKit
theorem mkOp_wf (stops : Bool) (o : Op4) (h : inI o.c) : OpWf (mkOp stops o) := by
 have a1 := pickI_ge o.k (n := 5) (by omega)
 have a2 := pickI_lt o.k (n := 5) (by omega)
 have b1 := pickI_ge o.a (n := 4) (by omega)
 have b2 := pickI_lt o.a (n := 4) (by omega)
 have b3 := pickI_ge o.a (n := 5) (by omega)
 have b4 := pickI_lt o.a (n := 5) (by omega)
 have c1 := pickI_ge o.b (n := 4) (by omega)
 have c2 := pickI_lt o.b (n := 4) (by omega)
 have r1 : regB (pickI o.a 4) = true := by simp [regB, b1, b2]
 have r2 : regB (pickI o.b 4) = true := by simp [regB, c1, c2]
 unfold mkOp
 split
 ·exact ⟨⟨by simp only; omega, by simp only; omega⟩, ⟨by simp only; omega, by simp only; omega⟩, h, by simp [Op4.ok, opB, r1, r2]⟩
 ·split
  ·cases stops
   ·exact ⟨⟨by simp, by simp⟩, ⟨by simp, by simp⟩, ⟨by simp, by simp⟩, by rfl⟩
   ·exact ⟨⟨by simp only [if_true]; omega, by simp only [if_true]; omega⟩, ⟨by simp only [if_true]; omega, by simp only [if_true]; omega⟩, h, by simp [Op4.ok, opB, r1]⟩
  ·refine ⟨⟨by simp only; omega, by simp only; omega⟩, ⟨by simp only; omega, by simp only; omega⟩, h, ?_⟩
   have : 1 + pickI o.k 5 = 1 ∨ 1 + pickI o.k 5 = 2 ∨ 1 + pickI o.k 5 = 3 := by omega
   simp only [Op4.ok, opB]
   rcases this with e | e | e <;> rw [e] <;> simp [r2]
theorem mkOp_k9 (stops : Bool) (o : Op4) : K9 (mkOp stops o).a := by
 have b1 := pickI_ge o.a (n := 4) (by omega)
 have b2 := pickI_lt o.a (n := 4) (by omega)
 have b3 := pickI_ge o.a (n := 5) (by omega)
 have b4 := pickI_lt o.a (n := 5) (by omega)
 unfold mkOp K9
 split
 ·exact ⟨by simp only; omega, by simp only; omega⟩
 ·split
  ·cases stops
   ·exact ⟨by simp, by simp⟩
   ·exact ⟨by simp only [if_true]; omega, by simp only [if_true]; omega⟩
  ·exact ⟨by simp only; omega, by simp only; omega⟩
theorem mkOps_k9 (stops : Bool) (most : Nat) (l : List Op4) : ∀ o ∈ mkOps stops most l, 0 < modeOf o → K9 o.a := by
 intro o ho _
 obtain ⟨x, _, rfl⟩ := List.mem_map.1 ho
 exact mkOp_k9 stops x
theorem rows5_k9 (T : Nat → Bool) (V : Nat → Int) : ∀ r ∈ rows5 T V 5, K9 r.k := by
 intro r hr
 obtain ⟨i, hi, rfl⟩ := List.mem_map.1 hr
 have := List.mem_range.1 (List.mem_filter.1 hi).1
 exact ⟨by simp only; omega, by simp only; omega⟩
theorem mkOps_wf (stops : Bool) (most : Nat) (l : List Op4) (h : OpsIn l) : ∀ o ∈ mkOps stops most l, OpWf o := by
 intro o ho
 obtain ⟨x, hx, rfl⟩ := List.mem_map.1 ho
 exact mkOp_wf stops x (h x (List.mem_of_mem_take hx)).2.2.2
theorem mkOps_len (stops : Bool) (most : Nat) (l : List Op4) : (mkOps stops most l).length ≤ most := by
 unfold mkOps
 rw [List.length_map, List.length_take]
 omega
theorem rise_pair {l : List Row2} (h : l.Pairwise fun a b => a.k < b.k) : Rise l := by
 intro i hi
 rw [List.getD_eq_getElem?_getD, List.getD_eq_getElem?_getD, List.getElem?_eq_getElem (by omega), List.getElem?_eq_getElem hi]
 exact (List.pairwise_iff_getElem.1 h) i (i + 1) (by omega) hi (by omega)
theorem rows5_rise (T : Nat → Bool) (V : Nat → Int) (k : Nat) : Rise (rows5 T V k) := by
 apply rise_pair
 unfold rows5
 rw [List.pairwise_map]
 refine List.Pairwise.imp (R := fun a b => a < b) ?_ (List.Pairwise.filter _ List.pairwise_lt_range)
 intro a b h
 show (a : Int) < (b : Int)
 omega
theorem rows5_in (T : Nat → Bool) (V : Nat → Int) (k : Nat) (hk : k ≤ 5) : RowsIn (rows5 T V k) := by
 intro r hr
 obtain ⟨i, hi, rfl⟩ := List.mem_map.1 hr
 have := List.mem_range.1 (List.mem_filter.1 hi).1
 exact ⟨by simp only; omega, by simp only; omega⟩
theorem rowCells_at (l : List Row2) : ∀ k, k < l.length → (rowCells l)[k * 2]? = some (.int .i64 (l.getD k Row2.z).k) ∧ (rowCells l)[k * 2 + 1]? = some (.int .i64 (l.getD k Row2.z).v) := by
 induction l with
 | nil => intro k hk; simp at hk
 | cons o l ih =>
  intro k hk
  cases k with
  | zero => exact ⟨rfl, rfl⟩
  | succ k =>
   obtain ⟨h1, h2⟩ := ih k (by simpa using hk)
   have e : rowCells (o :: l) = .int .i64 o.k :: .int .i64 o.v :: rowCells l := rfl
   rw [e]
   refine ⟨?_, ?_⟩
   ·rw [show (k + 1) * 2 = k * 2 + 1 + 1 from by omega, List.getElem?_cons_succ, List.getElem?_cons_succ]; exact h1
   ·rw [show (k + 1) * 2 + 1 = k * 2 + 1 + 1 + 1 from by omega, List.getElem?_cons_succ, List.getElem?_cons_succ]; exact h2
theorem RowAt.rows {w : World} {x : Value} {l : List Row2} (h : RowAt w 95 2 x l.length (rowCells l)) : RowsSrc w x l := by
 rcases h.2 with ⟨rfl, h0⟩ | ⟨g, off, cap, cur, rfl, _⟩
 ·exact ⟨none, 0, by rw [h0], fun hp => by omega⟩
 ·refine ⟨_, cap, rfl, fun _ => ⟨g, off, rfl, fun i hi => ?_⟩⟩
  obtain ⟨o0, o1⟩ := rowCells_at l i hi
  exact ⟨h.cell _ o0, by rw [Nat.add_assoc]; exact h.cell _ o1⟩
def TxnsSrc (w : World) (v : Value) (ls : List (List Op4)) : Prop := ∃ ao c, v = .slice ao ls.length c ∧ (0 < ls.length → ∃ b off, ao = some ⟨b, off, none⟩ ∧ ∀ i, i < ls.length → ∃ x, w.cell? ⟨b, off + i, none⟩ = some x ∧ OpsSrc w x (ls.getD i []))
def mkS (raw : List Int) (ls : List (List Op4)) (stops : Bool) : Nat → St
 | 0 => St.born (rowsF (firstL raw 5))
 | k + 1 => (mkS raw ls stops k).admit (mkOps stops 6 (ls.getD k []))
theorem mkS_n (raw : List Int) (ls : List (List Op4)) (stops : Bool) : ∀ k, (mkS raw ls stops k).n = k
 | 0 => rfl
 | k + 1 => by show (mkS raw ls stops k).n + 1 = k + 1; rw [mkS_n raw ls stops k]
def mkL (ls : List (List Op4)) (stops : Bool) (k : Nat) : List (List Op4) := (ls.take k).map (mkOps stops 6)
theorem mkL_succ (ls : List (List Op4)) (stops : Bool) (k : Nat) (h : k < ls.length) : mkL ls stops (k + 1) = mkL ls stops k ++ [mkOps stops 6 (ls.getD k [])] := by
 unfold mkL
 rw [List.take_add_one, List.map_append, List.getElem?_eq_getElem h, List.getD_eq_getElem?_getD, List.getElem?_eq_getElem h]
 rfl
theorem mkL_len (ls : List (List Op4)) (stops : Bool) (k : Nat) (h : k ≤ ls.length) : (mkL ls stops k).length = k := by
 unfold mkL
 rw [List.length_map, List.length_take]
 omega
structure KWh (ow : Ow) (w : World) (wb : Nat) (L : Lay) (T : Nat → Bool) (V : Nat → Int) (ls : List (List Op4)) : Prop where
 out : ¬ OwnP ow wb
 body : ∃ ov xs, w.heap[wb]? = some (.cells #[.pointer (some ⟨L.p, 0, none⟩), .bool (T 0), .bool (T 1), .bool (T 2), .bool (T 3), .bool (T 4), .int .i64 (V 0), .int .i64 (V 1), .int .i64 (V 2), .int .i64 (V 3), .int .i64 (V 4), ov] 60 (0, 0)) ∧
  RowAt w 39 1 ov ls.length xs ∧ (∀ k, ov.ownBlock = some k → ¬ OwnP ow k) ∧
  ∀ i, i < ls.length → ∃ x, xs[i]? = some x ∧ RowAt w 114 4 x (ls.getD i []).length (opCells (ls.getD i [])) ∧ ∀ k, x.ownBlock = some k → ¬ OwnP ow k
theorem KWh.aft {ow ow' : Ow} {w w' : World} {wb : Nat} {L : Lay} {T : Nat → Bool} {V : Nat → Int} {ls : List (List Op4)} (h : KWh ow w wb L T V ls) (hk : Kept (OwnP ow) w w') (ha : AgreeP w ow ow') : KWh ow' w' wb L T V ls := by
 obtain ⟨ov, xs, h1, h2, h3, h4⟩ := h.body
 refine ⟨not_own h.out ha (lt_of_block h1), ov, xs, hk.heap h1 h.out, h2.kept hk (fun k e => h3 k e), fun k e => not_own (h3 k e) ha (h2.lt k e), fun i hi => ?_⟩
 obtain ⟨x, x1, x2, x3⟩ := h4 i hi
 exact ⟨x, x1, x2.kept hk (fun k e => x3 k e), fun k e => not_own (x3 k e) ha (x2.lt k e)⟩
theorem KWh.kept {ow : Ow} {w w' : World} {wb : Nat} {L : Lay} {T : Nat → Bool} {V : Nat → Int} {ls : List (List Op4)} (h : KWh ow w wb L T V ls) (hk : Kept (OwnP ow) w w') : KWh ow w' wb L T V ls := h.aft hk (AgreeP.refl _ _)
theorem KWh.kept0 {ow : Ow} {w w' : World} {wb : Nat} {L : Lay} {T : Nat → Bool} {V : Nat → Int} {ls : List (List Op4)} (h : KWh ow w wb L T V ls) (hk : Kept NoBlk w w') : KWh ow w' wb L T V ls := h.kept (hk.mono (fun _ x => x.elim))
theorem KWh.kw {ow : Ow} {w : World} {wb : Nat} {L : Lay} {T : Nat → Bool} {V : Nat → Int} {ls : List (List Op4)} (h : KWh ow w wb L T V ls) : KW w wb L ls.length := by
 obtain ⟨ov, xs, h1, h2, h3, h4⟩ := h.body
 obtain ⟨ao, c, rfl, _⟩ := h2.form
 exact ⟨_, ao, c, h1, rfl, rfl⟩
end Go.Proofs.YtmcajfefagdbnaaGreat
namespace Go.Proofs.YtmcajfefagdbnaaGreat
open Go Go.RowKit
theorem IntsSrc.kept {S : Nat → Prop} {w w' : World} {v : Value} {l : List Int} (h : IntsSrc w v l) (hk : Kept S w w') (hn : ∀ k, v.ownBlock = some k → ¬ S k) : IntsSrc w' v l := by
 obtain ⟨ao, c, rfl, h⟩ := h
 refine ⟨ao, c, rfl, fun h0 => ?_⟩
 obtain ⟨b, off, rfl, ho⟩ := h h0
 exact ⟨b, off, rfl, fun i hi => hk.cell (ho i hi) (hn b rfl)⟩
theorem TxnsSrc.kept0 {w w' : World} {v : Value} {ls : List (List Op4)} (h : TxnsSrc w v ls) (hk : Kept NoBlk w w') : TxnsSrc w' v ls := by
 obtain ⟨ao, c, rfl, h⟩ := h
 refine ⟨ao, c, rfl, fun h0 => ?_⟩
 obtain ⟨b, off, rfl, ho⟩ := h h0
 refine ⟨b, off, rfl, fun i hi => ?_⟩
 obtain ⟨x, h1, h2⟩ := ho i hi
 exact ⟨x, hk.cell0 h1, h2.keptB hk (fun _ _ x => x)⟩
theorem infoOps : (Tryz.prog.info? 39).map (fun i => (i.zero, i.size, i.bytes)) = some (some (.slice none 0 0), 1, 24) := by kernel_rfl
theorem KWh.push {ow : Ow} {w W6 : World} {wb : Nat} {L : Lay} {T : Nat → Bool} {V : Nat → Int} {ls : List (List Op4)} {ov : Value} {xs : List Value} {n : Nat} (hn : ls.length = n) (hlt : ∀ k, OwnP ow k → k < w.heap.size) (ho : ¬ OwnP ow wb) (h1 : w.heap[wb]? = some (.cells #[.pointer (some ⟨L.p, 0, none⟩), .bool (T 0), .bool (T 1), .bool (T 2), .bool (T 3), .bool (T 4), .int .i64 (V 0), .int .i64 (V 1), .int .i64 (V 2), .int .i64 (V 3), .int .i64 (V 4), ov] 60 (0, 0))) (h2 : RowAt w 39 1 ov n xs) (h3 : ∀ k, ov.ownBlock = some k → ¬ OwnP ow k)
  (h4 : ∀ i, i < ls.length → ∃ x, xs[i]? = some x ∧ RowAt w 114 4 x (ls.getD i []).length (opCells (ls.getD i [])) ∧ ∀ k, x.ownBlock = some k → ¬ OwnP ow k) {x : Value} {l : List Op4} (hx : RowAt w 114 4 x l.length (opCells l)) (hxo : ∀ k, x.ownBlock = some k → ¬ OwnP ow k) {ao : Option Addr} {c : Nat}
  (hr : RowAt W6 39 1 (.slice ao (n + 1) c) (n + 1) (xs ++ [x])) (hm : Moved (w.alloc (.cells #[x] 39)) W6 ov (.slice ao (n + 1) c) (n + 1)) :
  KWh ow (W6.setCell ⟨wb, 11, none⟩ (.slice ao (n + 1) c)) wb L T V (ls ++ [l]) ∧ Kept (fun k => k = wb ∨ ov.ownBlock = some k) w (W6.setCell ⟨wb, 11, none⟩ (.slice ao (n + 1) c)) := by
 have hka : Kept NoBlk w (w.alloc (.cells #[x] 39)) := (Kept.refl _ _).alloc _
 have hk6 := hm.keptOf
 have hn6 := hm.fresh
 have hwo : ¬ ov.ownBlock = some wb := fun e => by
  obtain ⟨cur, hc⟩ := h2.block e
  exact blocks_apart hc h1 (by decide) rfl
 have hK : Kept (fun k => k = wb ∨ ov.ownBlock = some k) w (W6.setCell ⟨wb, 11, none⟩ (.slice ao (n + 1) c)) := ((hka.mono (fun _ x => x.elim)).trans hk6 (fun k e => .inl (.inr e))).trans (Kept.set1 W6 wb 11 _) (fun k e => .inl (.inl (by unfold Blk at e; exact e)))
 have h6 := hk6.heap (hka.heap h1 (fun x => x)) hwo
 have hxw : ∀ {y : Value} {m : List Op4}, RowAt w 114 4 y m.length (opCells m) → ∀ k, y.ownBlock = some k → ¬ (k = wb ∨ ov.ownBlock = some k) := fun hy k e x => by
  obtain ⟨cur, hc⟩ := hy.block e
  rcases x with x | x
  ·subst x; exact blocks_apart hc h1 (by decide) rfl
  ·obtain ⟨cur2, hc2⟩ := h2.block x
   exact blocks_apart hc hc2 (by decide) rfl
 have hnew : ∀ k, (Value.slice ao (n + 1) c).ownBlock = some k → ¬ OwnP ow k ∧ k ≠ wb := fun k e => by
  rcases hn6 k e with x | x
  ·exact ⟨h3 k x, fun e' => hwo (by rw [← e']; exact x)⟩
  ·rw [alloc_size] at x
   have := lt_of_block h1
   exact ⟨fun e' => by have := hlt k e'; omega, by omega⟩
 refine ⟨⟨ho, .slice ao (n + 1) c, xs ++ [x], block_setCell h6 _, ?_, fun k e => (hnew k e).1, fun i hi => ?_⟩, hK⟩
 ·rw [List.length_append, hn]
  exact hr.kept (Kept.set1 W6 wb 11 _) (fun k e x => (hnew k e).2 (by unfold Blk at x; exact x))
 ·have hxl : xs.length = n := by have := h2.1; omega
  rw [List.length_append] at hi
  by_cases e : i < ls.length
  ·obtain ⟨y, y1, y2, y3⟩ := h4 i e
   refine ⟨y, by rw [List.getElem?_append_left (by omega)]; exact y1, ?_, y3⟩
   rw [List.getD_eq_getElem?_getD, List.getElem?_append_left e, ← List.getD_eq_getElem?_getD]
   exact y2.kept hK (hxw y2)
  ·have ei : i = ls.length := by simp at hi; omega
   refine ⟨x, by rw [ei, hn, List.getElem?_append_right (by omega), hxl]; simp, ?_, hxo⟩
   rw [ei, List.getD_eq_getElem?_getD, List.getElem?_append_right (Nat.le_refl _)]
   simp only [Nat.sub_self, List.getElem?_cons_zero, Option.getD_some]
   exact hx.kept hK (hxw hx)
set_option maxRecDepth 20000 in
set_option maxHeartbeats 3200000 in
theorem made_any' (vr : Value) (raw : List Int) (vt : Value) (ls : List (List Op4)) (stops : Bool) (w : World) (hr : IntsSrc w vr raw) (hrl : raw.length ≤ 17592186044416) (hrin : ∀ x ∈ raw, inI x) (ht : TxnsSrc w vt ls) (htl : ls.length ≤ 17592186044416) (htin : ∀ l ∈ ls, OpsIn l ∧ l.length ≤ 17592186044416) :
  Calls Tryz.prog 20 #[vr, vt, .bool stops] w fun e w' => ∃ wb L bs ow, e = .returned (.pointer (some ⟨wb, 0, none⟩)) ∧ KSt L bs ow 0 (mkS raw ls stops (min ls.length 5)) w' ∧ KWh ow w' wb L (firstT raw 5) (firstV raw 5) (mkL ls stops (min ls.length 5)) ∧ Fr w.heap.size ow ∧ Kept NoBlk w w' ∧ w.heap.size ≤ wb := by
 have HK : Hid (Calls Tryz.prog 56 #[] w fun e w' => e = .returned (.bool true) ∧ Kept NoBlk w w') := known_any w
 have HFI : Hid (∀ W, Kept NoBlk w W → Calls Tryz.prog 57 #[vr] W fun e w' => ∃ x, e = .returned (.tuple #[.agg #[.bool (firstT raw 5 0), .bool (firstT raw 5 1), .bool (firstT raw 5 2), .bool (firstT raw 5 3), .bool (firstT raw 5 4), .int .i64 (firstV raw 5 0), .int .i64 (firstV raw 5 1), .int .i64 (firstV raw 5 2), .int .i64 (firstV raw 5 3), .int .i64 (firstV raw 5 4)], x]) ∧ RowAt w' 95 2 x (firstL raw 5).length (rowCells (firstL raw 5)) ∧ (∀ k, x.ownBlock = some k → W.heap.size ≤ k) ∧ Kept NoBlk W w') := fun W hW => first_any vr raw W (hr.kept hW (fun _ _ x => x)) hrl hrin
 have HNW : Hid (∀ W x, RowAt W 95 2 x (firstL raw 5).length (rowCells (firstL raw 5)) → Calls Tryz.prog 39 #[x] W fun e w' => ∃ L ow, e = .returned (.tuple #[.pointer (some ⟨L.p, 0, none⟩), .int .i64 0]) ∧ (∀ bs, KSt L bs ow 0 (mkS raw ls stops 0) w') ∧ (∀ k, OwnP ow k → W.heap.size ≤ k) ∧ Kept NoBlk W w') := fun W x hx => kNew x (firstL raw 5) W hx.rows (Nat.le_trans (firstL_len raw 5) (by omega)) (rows5_in _ _ 5 (by omega)) (rows5_rise _ _ 5) (rows5_k9 _ _)
 have HT : Hid (TxnsSrc w vt ls) := ht
 have HTI : Hid (∀ l ∈ ls, OpsIn l ∧ l.length ≤ 17592186044416) := htin
 obtain ⟨ra, rc, rfl, _⟩ := hr
 obtain ⟨ta, tc, rfl, _⟩ := ht
 generalize hrn : raw.length = rn at *
 generalize htn : ls.length = tn at *
 have HTN : Hid (ls.length = tn) := htn
 clear hrin htin hrn htn
 go_enter Tryz.func20, Tryz.ntmps20
 go_wp2_with fail
 refine HK.out.mono ?_
 rintro e w1 ⟨rfl, hk1⟩
 have HK1 : Hid (Kept NoBlk w w1) := hk1
 clear hk1
 go_wp2_with fail
 refine (HFI.out w1 HK1.out).mono ?_
 rintro e w2 ⟨x, rfl, hx, hxf, hk2⟩
 have HX : Hid (RowAt w2 95 2 x (firstL raw 5).length (rowCells (firstL raw 5))) := hx
 obtain ⟨xa, xc, rfl, _⟩ := hx.form
 have HK2 : Hid (Kept NoBlk w w2) := HK1.out.trans' hk2
 clear hx hxf hk2
 generalize hTT : firstT raw 5 = T at *
 generalize hVV : firstV raw 5 = V at *
 have HTV : Hid (firstT raw 5 = T ∧ firstV raw 5 = V) := ⟨hTT, hVV⟩
 clear hTT hVV
 go_wp2_with fail
 have hk3 : Kept NoBlk w2 (w2.alloc (.cells #[.bool (T 0), .bool (T 1), .bool (T 2), .bool (T 3), .bool (T 4), .int .i64 (V 0), .int .i64 (V 1), .int .i64 (V 2), .int .i64 (V 3), .int .i64 (V 4)] 58)) := (Kept.refl _ _).alloc _
 refine (HNW.out (w2.alloc (.cells #[.bool (T 0), .bool (T 1), .bool (T 2), .bool (T 3), .bool (T 4), .int .i64 (V 0), .int .i64 (V 1), .int .i64 (V 2), .int .i64 (V 3), .int .i64 (V 4)] 58)) _ (HX.out.kept hk3 (fun _ _ x => x))).mono ?_
 rintro e w3 ⟨L, ow, rfl, h3, hf3, hk4⟩
 have hbat := hk4.heap (block_alloc_new w2 (.cells #[.bool (T 0), .bool (T 1), .bool (T 2), .bool (T 3), .bool (T 4), .int .i64 (V 0), .int .i64 (V 1), .int .i64 (V 2), .int .i64 (V 3), .int .i64 (V 4)] 58)) (fun x => x)
 have H3 : Hid ((∀ bs, KSt L bs ow 0 (mkS raw ls stops 0) w3) ∧ Fr w.heap.size ow ∧ Kept NoBlk w w3) := by
  have hs : w.heap.size ≤ (w2.alloc (.cells #[.bool (T 0), .bool (T 1), .bool (T 2), .bool (T 3), .bool (T 4), .int .i64 (V 0), .int .i64 (V 1), .int .i64 (V 2), .int .i64 (V 3), .int .i64 (V 4)] 58)).heap.size := (HK2.out.alloc _).size
  exact ⟨h3, fun k hk => Nat.le_trans hs (hf3 k hk), (HK2.out.trans' hk3).trans' hk4⟩
 have z0 : w3.cell? ⟨w2.heap.size, 0, none⟩ = some (.bool (T 0)) := by rw [cell_at hbat]; rfl
 have z1 : w3.cell? ⟨w2.heap.size, 1, none⟩ = some (.bool (T 1)) := by rw [cell_at hbat]; rfl
 have z2 : w3.cell? ⟨w2.heap.size, 2, none⟩ = some (.bool (T 2)) := by rw [cell_at hbat]; rfl
 have z3 : w3.cell? ⟨w2.heap.size, 3, none⟩ = some (.bool (T 3)) := by rw [cell_at hbat]; rfl
 have z4 : w3.cell? ⟨w2.heap.size, 4, none⟩ = some (.bool (T 4)) := by rw [cell_at hbat]; rfl
 have z5 : w3.cell? ⟨w2.heap.size, 5, none⟩ = some (.int .i64 (V 0)) := by rw [cell_at hbat]; rfl
 have z6 : w3.cell? ⟨w2.heap.size, 6, none⟩ = some (.int .i64 (V 1)) := by rw [cell_at hbat]; rfl
 have z7 : w3.cell? ⟨w2.heap.size, 7, none⟩ = some (.int .i64 (V 2)) := by rw [cell_at hbat]; rfl
 have z8 : w3.cell? ⟨w2.heap.size, 8, none⟩ = some (.int .i64 (V 3)) := by rw [cell_at hbat]; rfl
 have z9 : w3.cell? ⟨w2.heap.size, 9, none⟩ = some (.int .i64 (V 4)) := by rw [cell_at hbat]; rfl
 clear h3 hf3 hk3 hk4 hbat HX HFI HNW HK
 go_wp2_with fail
 have HST : Hid (KSt L (fun _ => 0) ow 0 (mkS raw ls stops 0) (w3.alloc (.cells #[.pointer (some ⟨L.p, 0, none⟩), .bool (T 0), .bool (T 1), .bool (T 2), .bool (T 3), .bool (T 4), .int .i64 (V 0), .int .i64 (V 1), .int .i64 (V 2), .int .i64 (V 3), .int .i64 (V 4), .slice none 0 0] 60)) ∧ KWh ow (w3.alloc (.cells #[.pointer (some ⟨L.p, 0, none⟩), .bool (T 0), .bool (T 1), .bool (T 2), .bool (T 3), .bool (T 4), .int .i64 (V 0), .int .i64 (V 1), .int .i64 (V 2), .int .i64 (V 3), .int .i64 (V 4), .slice none 0 0] 60)) w3.heap.size L T V (mkL ls stops 0) ∧ Fr w.heap.size ow ∧ w.heap.size ≤ w3.heap.size ∧ (∃ ov, (w3.alloc (.cells #[.pointer (some ⟨L.p, 0, none⟩), .bool (T 0), .bool (T 1), .bool (T 2), .bool (T 3), .bool (T 4), .int .i64 (V 0), .int .i64 (V 1), .int .i64 (V 2), .int .i64 (V 3), .int .i64 (V 4), .slice none 0 0] 60)).cell? ⟨w3.heap.size, 11, none⟩ = some ov ∧ ∀ k, ov.ownBlock = some k → w.heap.size ≤ k) ∧ Kept NoBlk w (w3.alloc (.cells #[.pointer (some ⟨L.p, 0, none⟩), .bool (T 0), .bool (T 1), .bool (T 2), .bool (T 3), .bool (T 4), .int .i64 (V 0), .int .i64 (V 1), .int .i64 (V 2), .int .i64 (V 3), .int .i64 (V 4), .slice none 0 0] 60))) := by
  obtain ⟨g1, g2, g3⟩ := H3.out
  have hka : Kept NoBlk w3 (w3.alloc (.cells #[.pointer (some ⟨L.p, 0, none⟩), .bool (T 0), .bool (T 1), .bool (T 2), .bool (T 3), .bool (T 4), .int .i64 (V 0), .int .i64 (V 1), .int .i64 (V 2), .int .i64 (V 3), .int .i64 (V 4), .slice none 0 0] 60)) := (Kept.refl _ _).alloc _
  have hb := block_alloc_new w3 (.cells #[.pointer (some ⟨L.p, 0, none⟩), .bool (T 0), .bool (T 1), .bool (T 2), .bool (T 3), .bool (T 4), .int .i64 (V 0), .int .i64 (V 1), .int .i64 (V 2), .int .i64 (V 3), .int .i64 (V 4), .slice none 0 0] 60)
  refine ⟨(g1 _).kept hka (fun _ _ x => x), ⟨fun x => ?_, .slice none 0 0, [], hb, RowAt.nil _ _ _, fun k e => by simp [Value.ownBlock] at e, fun i hi => absurd hi (by simp [mkL])⟩, g2, g3.size, ⟨.slice none 0 0, by rw [cell_at hb]; rfl, fun k e => by simp [Value.ownBlock] at e⟩, g3.trans' hka⟩
  have := (g1 (fun _ => 0)).st.lt _ x
  omega
 clear H3 z0 z1 z2 z3 z4 z5 z6 z7 z8 z9
 generalize w3.heap.size = wb at *
 go_loopw [13] (fun i wr => ∃ (k : Nat) (bs : Nat → Nat) (ow : Ow), k ≤ tn ∧ k ≤ 5 ∧ i = .int .i64 k ∧ KSt L bs ow 0 (mkS raw ls stops k) wr ∧ KWh ow wr wb L T V (mkL ls stops k) ∧ Fr w.heap.size ow ∧ w.heap.size ≤ wb ∧ (∃ ov, wr.cell? ⟨wb, 11, none⟩ = some ov ∧ ∀ k, ov.ownBlock = some k → w.heap.size ≤ k) ∧ Kept NoBlk w wr) (fun i _ => tn - (intOf i).toNat)
 case atStart => exact ⟨0, fun _ => 0, ow, by omega, by omega, rfl, HST.out⟩
 case round =>
  clear HST
  obtain ⟨k, bs, ow4, hk, hk5, rfl, h4, hkw4, hfr, hwb, ⟨ov, hov, hof⟩, hkw⟩ := hrel
  by_cases hlt : k < tn ∧ k < 5
  ·obtain ⟨tao, tcc, htv, hts⟩ := HT.out.kept0 hkw
   obtain ⟨b, off, htb, hcell⟩ := hts (by rw [HTN.out]; omega)
   simp only [Value.slice.injEq] at htv
   obtain ⟨rfl, hh, rfl⟩ := htv
   clear hh
   subst htb
   obtain ⟨x, hcx, hsx⟩ := hcell k (by rw [HTN.out]; exact hlt.1)
   have hmem : ls.getD k [] ∈ ls := by rw [List.getD_eq_getElem?_getD, List.getElem?_eq_getElem (by rw [HTN.out]; exact hlt.1)]; exact List.getElem_mem _
   have HOP : Hid (Calls Tryz.prog 58 #[x, .int .i64 6, .bool stops] wr fun e w' => ∃ y, e = .returned y ∧ RowAt w' 114 4 y (mkOps stops 6 (ls.getD k [])).length (opCells (mkOps stops 6 (ls.getD k []))) ∧ (∀ k, y.ownBlock = some k → wr.heap.size ≤ k) ∧ Kept NoBlk wr w') := operations_any x (ls.getD k []) 6 stops wr hsx (HTI.out _ hmem).2 (HTI.out _ hmem).1 (by omega)
   have HWF : Hid ((∀ o ∈ mkOps stops 6 (ls.getD k []), OpWf o) ∧ (mkOps stops 6 (ls.getD k [])).length ≤ 12 ∧ ∀ o ∈ mkOps stops 6 (ls.getD k []), 0 < modeOf o → K9 o.a) := ⟨mkOps_wf stops 6 _ (HTI.out _ hmem).1, Nat.le_trans (mkOps_len stops 6 _) (by omega), mkOps_k9 stops 6 _⟩
   have HML : Hid (mkL ls stops (k + 1) = mkL ls stops k ++ [mkOps stops 6 (ls.getD k [])] ∧ (mkL ls stops k).length = k) := ⟨mkL_succ ls stops k (by rw [HTN.out]; exact hlt.1), mkL_len ls stops k (by rw [HTN.out]; exact hk)⟩
   have HMS : Hid (mkS raw ls stops (k + 1) = (mkS raw ls stops k).admit (mkOps stops 6 (ls.getD k []))) := rfl
   have HR : Hid (KSt L bs ow4 0 (mkS raw ls stops k) wr ∧ KWh ow4 wr wb L T V (mkL ls stops k) ∧ Fr w.heap.size ow4 ∧ w.heap.size ≤ wb ∧ (wr.cell? ⟨wb, 11, none⟩ = some ov ∧ ∀ k, ov.ownBlock = some k → w.heap.size ≤ k) ∧ Kept NoBlk w wr) := ⟨h4, hkw4, hfr, hwb, ⟨hov, hof⟩, hkw⟩
   clear hsx
   have j0 : (0 : Int) ≤ (k : Int) := by omega
   have j1 : (k : Int) < (tn : Int) := by omega
   clear h4 hkw4 hfr hov hof hkw hcell hts hmem
   generalize mkOps stops 6 (ls.getD k []) = lk at *
   go_wp2_with fail
   refine HOP.out.mono ?_
   rintro e w5 ⟨y, rfl, hy, hyf, hk5'⟩
   have HY : Hid (RowAt w5 114 4 y lk.length (opCells lk) ∧ (∀ k, y.ownBlock = some k → wr.heap.size ≤ k) ∧ Kept NoBlk wr w5) := ⟨hy, hyf, hk5'⟩
   obtain ⟨ya, yc, rfl, _⟩ := hy.form
   clear hy hyf hk5' HOP hcx
   go_wp2_with fail
   have hyo : ∀ k, (Value.slice ya lk.length yc).ownBlock = some k → ¬ OwnP ow4 k := fun k e x => by have h1 := HY.out.2.1 k e; have h2 := HR.out.1.st.lt k x; omega
   have HAD : Hid (Calls Tryz.prog 36 #[.pointer (some ⟨L.p, 0, none⟩), .slice ya lk.length yc] w5 fun e w' => e = .returned (.tuple #[.int .i64 ((k : Int) + 1), .int .i64 0]) ∧ (∃ t, KAft L (upd bs (k + 1) t) ow4 0 w5 ((mkS raw ls stops k).admit lk) w')) := by
    have := kAdmit (HR.out.1.kept HY.out.2.2 (fun _ _ x => x)) (.slice ya lk.length yc) lk HY.out.1.ops hyo HWF.out.1 HWF.out.2.1 (by rw [mkS_n]; omega) HWF.out.2.2
    rw [mkS_n] at this
    exact this
   have HYO : Hid (∀ k, (Value.slice ya lk.length yc).ownBlock = some k → ¬ OwnP ow4 k) := hyo
   clear hyo
   refine HAD.out.mono ?_
   rintro e w6 ⟨rfl, t, ⟨ow6, h6, ha6⟩, hk6⟩
   have hkw6 : KWh ow6 w6 wb L T V (mkL ls stops k) := (HR.out.2.1.kept0 HY.out.2.2).aft hk6 ha6
   have hy6 := HY.out.1.kept hk6 (fun k e => HYO.out k e)
   have hyo6 : ∀ k, (Value.slice ya lk.length yc).ownBlock = some k → ¬ OwnP ow6 k := fun k e => not_own (HYO.out k e) ha6 (HY.out.1.lt k e)
   have hov6 := hk6.cell (HY.out.2.2.cell0 HR.out.2.2.2.2.1.1) (not_own (HR.out.2.1.out) (AgreeP.refl w5 ow4) (by
    obtain ⟨_, _, b1, _⟩ := (HR.out.2.1.kept0 HY.out.2.2).body
    exact lt_of_block b1))
   obtain ⟨ov', xs, b1, b2, b3, b4⟩ := hkw6.body
   obtain rfl : ov' = ov := by
    have h1 : w6.cell? ⟨wb, 11, none⟩ = some ov' := by rw [cell_at b1]; rfl
    rw [hov6] at h1
    exact (Option.some.inj h1).symm
   rw [HML.out.2] at b2
   obtain ⟨oa, oc, rfl, _⟩ := b2.form
   have HKW6 : Hid (¬ OwnP ow6 wb) := hkw6.out
   have HB1 : Hid (w6.heap[wb]? = some (.cells #[.pointer (some ⟨L.p, 0, none⟩), .bool (T 0), .bool (T 1), .bool (T 2), .bool (T 3), .bool (T 4), .int .i64 (V 0), .int .i64 (V 1), .int .i64 (V 2), .int .i64 (V 3), .int .i64 (V 4), .slice oa k oc] 60 (0, 0))) := b1
   have HB2 : Hid (RowAt w6 39 1 (.slice oa k oc) k xs) := b2
   have HB3 : Hid ((∀ j, (Value.slice oa k oc).ownBlock = some j → ¬ OwnP ow6 j) ∧ ∀ i, i < (mkL ls stops k).length → ∃ x, xs[i]? = some x ∧ RowAt w6 114 4 x ((mkL ls stops k).getD i []).length (opCells ((mkL ls stops k).getD i [])) ∧ ∀ k, x.ownBlock = some k → ¬ OwnP ow6 k) := ⟨b3, b4⟩
   have HY6 : Hid (RowAt w6 114 4 (.slice ya lk.length yc) lk.length (opCells lk) ∧ ∀ k, (Value.slice ya lk.length yc).ownBlock = some k → ¬ OwnP ow6 k) := ⟨hy6, hyo6⟩
   have H6 : Hid (KSt L (upd bs (k + 1) t) ow6 0 (mkS raw ls stops (k + 1)) w6 ∧ Fr w.heap.size ow6 ∧ Kept NoBlk w w6) := by
    have hsz : w.heap.size ≤ w5.heap.size := (HR.out.2.2.2.2.2.trans' HY.out.2.2).size
    exact ⟨by rw [HMS.out]; exact h6, HR.out.2.2.1.agree ha6 hsz, HR.out.2.2.1.kept (Nat.le_refl _) (HR.out.2.2.2.2.2.trans' HY.out.2.2) hk6⟩
   have HOF : Hid (∀ j, (Value.slice oa k oc).ownBlock = some j → w.heap.size ≤ j) := HR.out.2.2.2.2.1.2
   have HWB : Hid (w.heap.size ≤ wb) := HR.out.2.2.2.1
   have c11 : w6.cell? ⟨wb, 11, none⟩ = some (.slice oa k oc) := by rw [cell_at b1]; rfl
   have HWO : Hid (¬ (Value.slice oa k oc).ownBlock = some wb) := fun e => by
    obtain ⟨cur, hc⟩ := b2.block e
    exact blocks_apart hc b1 (by decide) rfl
   obtain ⟨i1, hi1, hy0, hy1, hy2⟩ := info_parts infoOps
   have HI : Hid (Tryz.prog.info? 39 = some i1 ∧ i1.zero = some (.slice none 0 0) ∧ i1.size = 1 ∧ i1.bytes = 24) := ⟨hi1, hy0, hy1, hy2⟩
   have HBB5 : Hid ((k + 1) * 24 ≤ 140737488355328) := by unfold Hid; omega
   have HBB6 : Hid (k + 1 ≤ maxLen) := by unfold Hid maxLen; omega
   clear hi1 hy0 hy1 hy2 hkw6 hy6 hyo6 hov6 b1 b2 b3 b4 h6 ha6 hk6 HAD HY HR HYO
   go_wp2_with (at_builtin; refine wpList_append_row (by rfl) _ _ 52 (by rfl) 39 i1 _ 1 24 Tryz.underlying52 HI.out.1 HI.out.2.1 HI.out.2.2.1 HI.out.2.2.2 (by rfl) (.slice oa k oc) k xs (by rfl) (RowAt.kept HB2.out ((Kept.refl NoBlk w6).alloc _) (fun _ _ x => x)) (.slice (some ⟨w6.heap.size, 0, none⟩) 1 1) 1 [.slice ya lk.length yc] (by rfl) (from_new1 w6 _ _ rfl) HBB6.out HBB5.out ?_)
   intro ao2 c2 W7 hown7 hmv7
   have q7 := hmv7.keptOf.cell (((Kept.refl NoBlk w6).alloc (.cells #[.slice ya lk.length yc] 39)).cell0 c11) HWO.out
   have qf7 : W7.frozen? ⟨wb, 11, none⟩ = false := frozen_at (hmv7.keptOf.heap (((Kept.refl NoBlk w6).alloc (.cells #[.slice ya lk.length yc] 39)).heap HB1.out (fun x => x)) HWO.out) 11
   have HF7 : Hid (KSt L (upd bs (k + 1) t) ow6 0 (mkS raw ls stops (k + 1)) (W7.setCell ⟨wb, 11, none⟩ (.slice ao2 (k + 1) c2)) ∧ KWh ow6 (W7.setCell ⟨wb, 11, none⟩ (.slice ao2 (k + 1) c2)) wb L T V (mkL ls stops (k + 1)) ∧ Fr w.heap.size ow6 ∧ w.heap.size ≤ wb ∧ (∃ ov, (W7.setCell ⟨wb, 11, none⟩ (.slice ao2 (k + 1) c2)).cell? ⟨wb, 11, none⟩ = some ov ∧ ∀ k, ov.ownBlock = some k → w.heap.size ≤ k) ∧ Kept NoBlk w (W7.setCell ⟨wb, 11, none⟩ (.slice ao2 (k + 1) c2))) := by
    obtain ⟨p1, p2⟩ := KWh.push (ls := mkL ls stops k) HML.out.2 H6.out.1.st.lt HKW6.out HB1.out HB2.out HB3.out.1 HB3.out.2 HY6.out.1 HY6.out.2 hown7 hmv7
    refine ⟨H6.out.1.kept p2 (fun j hj x => ?_), by rw [HML.out.1]; exact p1, H6.out.2.1, HWB.out, ⟨_, World.cell?_setCell_same W7 _ _ q7, fun j hj => ?_⟩, H6.out.2.2.trans p2 (fun j x => .inr ?_)⟩
    ·rcases x with x | x
     ·subst x; exact HKW6.out hj
     ·exact HB3.out.1 j x hj
    ·rcases hmv7.fresh j hj with x | x
     ·exact HOF.out j x
     ·have h1 := H6.out.2.2.size
      rw [alloc_size] at x
      omega
    ·rcases x with x | x
     ·have := HWB.out; omega
     ·exact HOF.out j x
   clear hown7 hmv7 c11
   go_wp2_with fail
   go_roundw
   case rel => exact ⟨k + 1, upd bs (k + 1) t, ow6, by omega, by omega, by go_num, HF7.out⟩
   case measure => simp [intOf]; omega
  ·have hmin : min tn 5 = k := by omega
   have HF : Hid (KSt L bs ow4 0 (mkS raw ls stops (min tn 5)) wr ∧ KWh ow4 wr wb L T V (mkL ls stops (min tn 5)) ∧ Fr w.heap.size ow4 ∧ Kept NoBlk w wr ∧ w.heap.size ≤ wb) := by
    unfold Hid
    rw [hmin]
    exact ⟨h4, hkw4, hfr, hkw, hwb⟩
   clear h4 hkw4 hfr hkw hov hof
   by_cases hkn : k < tn
   ·have hk5' : ¬ k < 5 := fun x => hlt ⟨hkn, x⟩
    go_wp2_with fail
    go_ret
    rw [HTV.out.1, HTV.out.2]
    exact ⟨wb, L, bs, ow4, rfl, HF.out⟩
   ·go_wp2_with fail
    go_ret
    rw [HTV.out.1, HTV.out.2]
    exact ⟨wb, L, bs, ow4, rfl, HF.out⟩
theorem made_any (vr : Value) (raw : List Int) (vt : Value) (ls : List (List Op4)) (stops : Bool) (w : World) (hr : IntsSrc w vr raw) (hrl : raw.length ≤ 17592186044416) (hrin : ∀ x ∈ raw, inI x) (ht : TxnsSrc w vt ls) (htl : ls.length ≤ 17592186044416) (htin : ∀ l ∈ ls, OpsIn l ∧ l.length ≤ 17592186044416) :
  Calls Tryz.prog 20 #[vr, vt, .bool stops] w fun e w' => ∃ wb L bs ow, e = .returned (.pointer (some ⟨wb, 0, none⟩)) ∧ KSt L bs ow 0 (mkS raw ls stops (min ls.length 5)) w' ∧ KWh ow w' wb L (firstT raw 5) (firstV raw 5) (mkL ls stops (min ls.length 5)) ∧ Fr w.heap.size ow ∧ Kept NoBlk w w' :=
 (made_any' vr raw vt ls stops w hr hrl hrin ht htl htin).mono (fun _ _ ⟨wb, L, bs, ow, a1, a2, a3, a4, a5, _⟩ => ⟨wb, L, bs, ow, a1, a2, a3, a4, a5⟩)
end Go.Proofs.YtmcajfefagdbnaaGreat
