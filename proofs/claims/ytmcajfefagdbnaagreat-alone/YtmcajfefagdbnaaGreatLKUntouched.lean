import Derived.Test.YtmcajfefagdbnaaGreatLKUn0
import Derived.Test.YtmcajfefagdbnaaGreatLKEnds
namespace Go.Proofs.YtmcajfefagdbnaaGreat
open Go Go.RowKit
theorem stepR_zero {s : St} (h : s.n = 1) : s.stepR 0 = s.stepN 1 := by
 unfold St.stepR
 rw [if_neg (by omega), h]
 rfl
theorem call_one {s : St} {f : Int → Option Int} {k : Nat} (h : Lone s f k) : s.call 1 = (s.fell 1 4, 0) := by
 have e0 : s.there 1 = 0 := by
  unfold St.there
  rw [if_neg (by rw [h.one]; omega)]
  show (if (s.tx 1).state ≠ 0 then _ else _) = _
  rw [if_neg (by simpa using h.lives)]
 unfold St.call
 rw [if_neg (by simp [e0])]
 rfl
theorem fell_there {s : St} (h : s.n = 1) : (s.fell 1 4).there 1 = 6 ∧ (s.fell 1 4).there 2 = 5 := by
 constructor
 ·unfold St.there
  rw [if_neg (by rw [(fell_n s 1 4).1, h]; omega)]
  show (if ((s.fell 1 4).tx 1).state ≠ 0 then _ else _) = _
  rw [if_pos (by rw [(fell_self s 1 4).2.1]; omega)]
 ·unfold St.there
  rw [if_pos (by rw [(fell_n s 1 4).1, h]; omega)]
theorem fell_calls {s : St} (h : s.n = 1) : (s.fell 1 4).call 1 = (s.fell 1 4, 6) ∧ (s.fell 1 4).call 2 = (s.fell 1 4, 5) ∧ (s.fell 1 4).step 1 = (s.fell 1 4, 0, 6) := by
 obtain ⟨e1, e2⟩ := fell_there h
 refine ⟨?_, ?_, ?_⟩
 ·unfold St.call; rw [if_pos (by rw [e1]; omega), e1]
 ·unfold St.call; rw [if_pos (by rw [e2]; omega), e2]
 ·unfold St.step; rw [if_pos (by rw [e1]; omega), e1]
theorem fell_empty {s : St} {f : Int → Option Int} {k : Nat} (h : Lone s f k) (key : Int) : (∀ j, ((s.fell 1 4).lk key).h j = 0) ∧ ((s.fell 1 4).lk key).q = [] := by
 have hi := h.good.inv.fell 1 4
 have ho := fell_out s h.good.inv 1 4 key
 constructor
 ·intro j
  by_cases e : ((s.fell 1 4).lk key).h j = 0
  ·exact e
  ·have := (hi.row key).hold j e
   rw [(fell_n s 1 4).1, h.one] at this
   rw [show j = 1 by omega]; exact ho.1
 ·cases hq : ((s.fell 1 4).lk key).q with
  | nil => rfl
  | cons x q =>
   have h1 := ((hi.row key).qmode x (by rw [hq]; simp)).1
   rw [(fell_n s 1 4).1, h.one] at h1
   exact absurd (show (1, x.2) ∈ ((s.fell 1 4).lk key).q by rw [hq, show (1, x.2) = x from Prod.ext (by simp; omega) rfl]; simp) (ho.2 x.2)
def KAll (L : Lay) (bs : Nat → Nat) (T : Nat → Bool) (V : Nat → Int) (l0 : List (List Op4)) (wb H j : Nat) (w : World) (s : St) (w' : World) : Prop := ∃ ow, KSt L bs ow j s w' ∧ KWh ow w' wb L T V l0 ∧ Fr H ow ∧ Kept NoBlk w w'
theorem KAll.aft {L : Lay} {bs : Nat → Nat} {T : Nat → Bool} {V : Nat → Int} {l0 : List (List Op4)} {wb j j' : Nat} {w w1 w2 : World} {s2 : St} {ow : Ow} (g1 : KWh ow w1 wb L T V l0) (g2 : Fr w.heap.size ow) (g3 : Kept NoBlk w w1) (h : KAft L bs ow j w1 s2 w2) (hj : j ≤ j') : KAll L bs T V l0 wb w.heap.size j' w s2 w2 := by
 obtain ⟨⟨ow5, h5, ha5⟩, hk5⟩ := h
 exact ⟨ow5, h5.mono hj, g1.aft hk5 ha5, g2.agree ha5 g3.size, g2.kept (Nat.le_refl _) g3 hk5⟩
theorem KAll.c0 {L : Lay} {bs : Nat → Nat} {T : Nat → Bool} {V : Nat → Int} {l0 : List (List Op4)} {wb H j : Nat} {w w1 : World} {s : St} (h : KAll L bs T V l0 wb H j w s w1) : w1.cell? ⟨wb, 0, none⟩ = some (.pointer (some ⟨L.p, 0, none⟩)) := by
 obtain ⟨ow, _, h2, _⟩ := h
 obtain ⟨ov, xs, b1, _⟩ := h2.body
 rw [cell_at b1]; rfl
theorem KAll.call {L : Lay} {bs : Nat → Nat} {T : Nat → Bool} {V : Nat → Int} {l0 : List (List Op4)} {wb j : Nat} {w w1 : World} {s : St} (h : KAll L bs T V l0 wb w.heap.size j w s w1) (id : Int) (hj : j ≤ 140737488355328) {s2 : St} {a : Int} (e : s.call id = (s2, a)) :
  Calls Tryz.prog 35 #[.pointer (some ⟨L.p, 0, none⟩), .int .i64 id] w1 fun e w' => e = .returned (.int .i64 a) ∧ KAll L bs T V l0 wb w.heap.size (j + 1) w s2 w' := by
 obtain ⟨ow, h1, h2, h3, h4⟩ := h
 have := kCall h1 id hj
 rw [e] at this
 exact this.mono (fun e w' ⟨a1, a2⟩ => ⟨a1, KAll.aft h2 h3 h4 a2 (Nat.le_refl _)⟩)
theorem KAll.stepC {L : Lay} {bs : Nat → Nat} {T : Nat → Bool} {V : Nat → Int} {l0 : List (List Op4)} {wb j : Nat} {w w1 : World} {s : St} (h : KAll L bs T V l0 wb w.heap.size j w s w1) (id : Int) (hj : j ≤ 140737488355328) {s2 : St} {a b : Int} (e : s.step id = (s2, a, b)) :
  Calls Tryz.prog 22 #[.pointer (some ⟨L.p, 0, none⟩), .int .i64 id] w1 fun e w' => e = .returned (.tuple #[.int .i64 a, .int .i64 b]) ∧ KAll L bs T V l0 wb w.heap.size (j + 1) w s2 w' := by
 obtain ⟨ow, h1, h2, h3, h4⟩ := h
 have := kStep h1 id hj
 rw [e] at this
 exact this.mono (fun e w' ⟨a1, a2⟩ => ⟨a1, KAll.aft h2 h3 h4 a2 (Nat.le_refl _)⟩)
theorem KAll.kept {L : Lay} {bs : Nat → Nat} {T : Nat → Bool} {V : Nat → Int} {l0 : List (List Op4)} {wb j : Nat} {w w1 w2 : World} {s : St} (h : KAll L bs T V l0 wb w.heap.size j w s w1) (hk : Kept NoBlk w1 w2) : KAll L bs T V l0 wb w.heap.size j w s w2 := by
 obtain ⟨ow, h1, h2, h3, h4⟩ := h
 exact ⟨ow, h1.kept hk (fun _ _ x => x), h2.kept0 hk, h3, h4.trans' hk⟩
theorem KAll.txn {L : Lay} {bs : Nat → Nat} {T : Nat → Bool} {V : Nat → Int} {l0 : List (List Op4)} {wb j : Nat} {w w1 : World} {s : St} (h : KAll L bs T V l0 wb w.heap.size j w s w1) (i : Nat) (hin : 1 ≤ i ∧ i ≤ s.n) :
  Calls Tryz.prog 23 #[.pointer (some ⟨L.p, 0, none⟩), .int .i64 (i : Int)] w1 fun e w' => ∃ x, e = .returned (.tuple #[x, .int .i64 0]) ∧ TxnTold w1 (s.tx i) x w' ∧ KAll L bs T V l0 wb w.heap.size j w s w' := by
 obtain ⟨ow, h1, h2, h3, h4⟩ := h
 exact (kTxn h1 i hin).mono (fun e w' ⟨x, a1, a2, a3, a4⟩ => ⟨x, a1, a2, ow, a3, h2.kept a4, h3, h3.kept (Nat.le_refl _) h4 a4⟩)
theorem KAll.rows {L : Lay} {bs : Nat → Nat} {T : Nat → Bool} {V : Nat → Int} {l0 : List (List Op4)} {wb j : Nat} {w w1 : World} {s : St} (h : KAll L bs T V l0 wb w.heap.size j w s w1) (hj : j ≤ 140737488355328) :
  Calls Tryz.prog 25 #[.pointer (some ⟨L.p, 0, none⟩)] w1 fun e w' => ∃ x l, e = .returned x ∧ RowAt w' 95 2 x l.length (rowCells l) ∧ (∀ k, x.ownBlock = some k → w1.heap.size ≤ k) ∧ RowsOf s.rows l ∧ KAll L bs T V l0 wb w.heap.size j w s w' := by
 obtain ⟨ow, h1, h2, h3, h4⟩ := h
 exact (kRows h1 hj).mono (fun e w' ⟨x, l, a1, a2, a5, a6, a3, a4⟩ => ⟨x, l, a1, a2, a5, a6, ow, a3, h2.kept a4, h3, h3.kept (Nat.le_refl _) h4 a4⟩)
theorem KAll.locks {L : Lay} {bs : Nat → Nat} {T : Nat → Bool} {V : Nat → Int} {l0 : List (List Op4)} {wb j : Nat} {w w1 : World} {s : St} (h : KAll L bs T V l0 wb w.heap.size j w s w1) (key : Int) (hkey : inI key) :
  Calls Tryz.prog 27 #[.pointer (some ⟨L.p, 0, none⟩), .int .i64 key] w1 fun e w' => ∃ vh l a, e = .returned (.tuple #[vh, .slice (some ⟨a, 0, none⟩) (s.lk key).q.length (s.lk key).q.length]) ∧ RowAt w' 107 2 vh l.length (lkc l) ∧ (∀ b, vh.ownBlock = some b → w1.heap.size ≤ b) ∧ HoldsL (holdF s.lk) key l ∧ w1.heap.size ≤ a ∧ w'.heap[a]? = some (.cells (lkc (qcast (s.lk key).q)).toArray 107 (0, 0)) ∧ KAll L bs T V l0 wb w.heap.size j w s w' := by
 obtain ⟨ow, h1, h2, h3, h4⟩ := h
 exact (kLocks h1 key hkey).mono (fun e w' ⟨vh, l, a, a1, a2, a5, a6, a7, a8, a3, a4⟩ => ⟨vh, l, a, a1, a2, a5, a6, a7, a8, ow, a3, h2.kept a4, h3, h3.kept (Nat.le_refl _) h4 a4⟩)
def KAll2 (L : Lay) (bs : Nat → Nat) (T : Nat → Bool) (V : Nat → Int) (l0 : List (List Op4)) (wb H j : Nat) (w : World) (s : St) (b0 : Nat) (o0 : Obj) (w' : World) : Prop := ∃ ow, KSt L bs ow j s w' ∧ KWh ow w' wb L T V l0 ∧ Fr H ow ∧ Kept NoBlk w w' ∧ ¬ OwnP ow b0 ∧ w'.heap[b0]? = some o0
theorem KAll.box {L : Lay} {bs : Nat → Nat} {T : Nat → Bool} {V : Nat → Int} {l0 : List (List Op4)} {wb j : Nat} {w w1 : World} {s : St} (h : KAll L bs T V l0 wb w.heap.size j w s w1) (o0 : Obj) : KAll2 L bs T V l0 wb w.heap.size j w s w1.heap.size o0 (w1.alloc o0) := by
 obtain ⟨ow, h1, h2, h3, h4⟩ := h
 have hk : Kept NoBlk w1 (w1.alloc o0) := (Kept.refl _ _).alloc _
 exact ⟨ow, h1.kept hk (fun _ _ x => x), h2.kept0 hk, h3, h4.trans' hk, fun x => by have := h1.st.lt _ x; omega, block_alloc_new w1 o0⟩
theorem KAll2.kept {L : Lay} {bs : Nat → Nat} {T : Nat → Bool} {V : Nat → Int} {l0 : List (List Op4)} {wb j : Nat} {w w1 w2 : World} {s : St} {b0 : Nat} {o0 : Obj} (h : KAll2 L bs T V l0 wb w.heap.size j w s b0 o0 w1) (hk : Kept NoBlk w1 w2) : KAll2 L bs T V l0 wb w.heap.size j w s b0 o0 w2 := by
 obtain ⟨ow, h1, h2, h3, h4, h5, h6⟩ := h
 exact ⟨ow, h1.kept hk (fun _ _ x => x), h2.kept0 hk, h3, h4.trans' hk, h5, hk.heap h6 (fun x => x)⟩
theorem KAll2.body {L : Lay} {bs : Nat → Nat} {T : Nat → Bool} {V : Nat → Int} {l0 : List (List Op4)} {wb j : Nat} {w w1 : World} {s : St} {b0 : Nat} {o0 : Obj} (h : KAll2 L bs T V l0 wb w.heap.size j w s b0 o0 w1) : (∃ ov, w1.heap[wb]? = some (.cells #[.pointer (some ⟨L.p, 0, none⟩), .bool (T 0), .bool (T 1), .bool (T 2), .bool (T 3), .bool (T 4), .int .i64 (V 0), .int .i64 (V 1), .int .i64 (V 2), .int .i64 (V 3), .int .i64 (V 4), ov] 60 (0, 0))) ∧ w1.heap[b0]? = some o0 ∧ Kept NoBlk w w1 := by
 obtain ⟨ow, h1, h2, h3, h4, h5, h6⟩ := h
 obtain ⟨ov, xs, b1, _⟩ := h2.body
 exact ⟨⟨ov, b1⟩, h6, h4⟩
theorem KAll2.rows {L : Lay} {bs : Nat → Nat} {T : Nat → Bool} {V : Nat → Int} {l0 : List (List Op4)} {wb j : Nat} {w w1 : World} {s : St} {b0 : Nat} {o0 : Obj} (h : KAll2 L bs T V l0 wb w.heap.size j w s b0 o0 w1) (hj : j ≤ 140737488355328) :
  Calls Tryz.prog 25 #[.pointer (some ⟨L.p, 0, none⟩)] w1 fun e w' => ∃ x l, e = .returned x ∧ RowAt w' 95 2 x l.length (rowCells l) ∧ RowsOf s.rows l ∧ KAll2 L bs T V l0 wb w.heap.size j w s b0 o0 w' := by
 obtain ⟨ow, h1, h2, h3, h4, h5, h6⟩ := h
 exact (kRows h1 hj).mono (fun e w' ⟨x, l, a1, a2, a5, a6, a3, a4⟩ => ⟨x, l, a1, a2, a6, ow, a3, h2.kept a4, h3, h3.kept (Nat.le_refl _) h4 a4, h5, a4.heap h6 h5⟩)
theorem KAll2.locks {L : Lay} {bs : Nat → Nat} {T : Nat → Bool} {V : Nat → Int} {l0 : List (List Op4)} {wb j : Nat} {w w1 : World} {s : St} {b0 : Nat} {o0 : Obj} (h : KAll2 L bs T V l0 wb w.heap.size j w s b0 o0 w1) (key : Int) (hkey : inI key) (he : (∀ j, (s.lk key).h j = 0) ∧ (s.lk key).q = []) :
  Calls Tryz.prog 27 #[.pointer (some ⟨L.p, 0, none⟩), .int .i64 key] w1 fun e w' => ∃ va vc a, e = .returned (.tuple #[.slice va 0 vc, .slice (some ⟨a, 0, none⟩) 0 0]) ∧ KAll2 L bs T V l0 wb w.heap.size j w s b0 o0 w' := by
 obtain ⟨ow, h1, h2, h3, h4, h5, h6⟩ := h
 refine (kLocks h1 key hkey).mono ?_
 rintro e w' ⟨vh, l, a, rfl, a2, a5, a6, a7, a8, a3, a4⟩
 have hl := none_holds a6 he.1
 subst hl
 obtain ⟨va, vc, rfl, _⟩ := a2.form
 rw [he.2]
 exact ⟨va, vc, a, rfl, ow, a3, h2.kept a4, h3, h3.kept (Nat.le_refl _) h4 a4, h5, a4.heap h6 h5⟩
theorem KAll2.admit {L : Lay} {bs : Nat → Nat} {T : Nat → Bool} {V : Nat → Int} {l0 : List (List Op4)} {wb j : Nat} {w w1 : World} {s : St} {b0 : Nat} {o0 : Obj} (h : KAll2 L bs T V l0 wb w.heap.size j w s b0 o0 w1) (hn : s.n < 5) (i : Nat) (hi : i < l0.length) (hl : ∀ o ∈ l0.getD i [], OpWf o) (h6 : (l0.getD i []).length ≤ 6) (h9 : ∀ o ∈ l0.getD i [], 0 < modeOf o → K9 o.a) :
  ∃ g off c xa xc, w1.cell? ⟨wb, 11, none⟩ = some (.slice (some ⟨g, off, none⟩) l0.length c) ∧ w1.cell? ⟨g, off + i, none⟩ = some (.slice xa (l0.getD i []).length xc) ∧
  Calls Tryz.prog 36 #[.pointer (some ⟨L.p, 0, none⟩), .slice xa (l0.getD i []).length xc] w1 fun e w' => e = .returned (.tuple #[.int .i64 ((s.n : Int) + 1), .int .i64 0]) ∧ w'.heap[b0]? = some o0 ∧ Kept NoBlk w w' := by
 obtain ⟨ow, h1, h2, h3, h4, h5, h7⟩ := h
 obtain ⟨ov, xs, b1, b2, b3, b4⟩ := h2.body
 obtain ⟨x, x1, x2, x3⟩ := b4 i hi
 obtain ⟨xa, xc, rfl, _⟩ := x2.form
 rcases b2.2 with ⟨_, h0⟩ | ⟨g, off, cap, cur, rfl, _⟩
 ·omega
 ·refine ⟨g, off, cap, xa, xc, by rw [cell_at b1]; rfl, b2.cell i x1, ?_⟩
  refine (kAdmit h1 _ _ x2.ops x3 hl (by omega) hn h9).mono ?_
  rintro e w' ⟨rfl, t, ⟨ow', _, _⟩, hk⟩
  exact ⟨rfl, hk.heap h7 h5, h3.kept (Nat.le_refl _) h4 hk⟩
theorem lone_made (raw : List Int) (l : List Op4) (hg : Good (mkS raw [l] false 1)) : Lone (mkS raw [l] false 1) (rowsF (firstL raw 5)) 0 := by
 obtain ⟨a1, a2, _⟩ := mkS_five raw [l] 1
 exact ⟨hg, rfl, a1, a2, rfl, rfl, rfl, rfl, rfl⟩
set_option maxRecDepth 20000 in
set_option maxHeartbeats 3200000 in
theorem untouchedLaw (vr : Value) (raw : List Int) (vo : Value) (l : List Op4) (steps : Int) (w : World) (hr : IntsSrc w vr raw) (hrl : raw.length ≤ 17592186044416) (hrin : ∀ x ∈ raw, inI x) (ho : OpsSrc w vo l) (hol : l.length ≤ 17592186044416) (hoin : OpsIn l) (hst : inI steps) :
  Calls Tryz.prog 12 #[vr, vo, .int .i64 steps] w fun e w' => e = .returned (.bool true) ∧ Kept NoBlk w w' := by
 have HR : Hid (IntsSrc w vr raw ∧ (∀ x ∈ raw, inI x)) := ⟨hr, hrin⟩
 have HO : Hid (OpsSrc w vo l ∧ OpsIn l) := ⟨ho, hoin⟩
 obtain ⟨ra, rc, rfl, _⟩ := hr
 obtain ⟨oa, oc, rfl, _⟩ := ho
 obtain ⟨i1, hi1, hy0, hy1, hy2⟩ := info_parts infoOps
 have HI : Hid (Tryz.prog.info? 39 = some i1 ∧ i1.zero = some (.slice none 0 0) ∧ i1.size = 1 ∧ i1.bytes = 24) := ⟨hi1, hy0, hy1, hy2⟩
 have HBB5 : Hid ((0 + 1) * 24 ≤ 140737488355328) := by unfold Hid; omega
 have HBB6 : Hid (0 + 1 ≤ maxLen) := by unfold Hid maxLen; omega
 clear hrin hoin hi1 hy0 hy1 hy2
 generalize hrn : raw.length = rn at *
 generalize hln : l.length = ln at *
 have HLN : Hid (raw.length = rn ∧ l.length = ln) := ⟨hrn, hln⟩
 clear hrn hln
 go_enter Tryz.func12, Tryz.ntmps12
 go_wp2_with (at_builtin; refine wpList_append_row (by rfl) _ _ 52 (by rfl) 39 i1 _ 1 24 Tryz.underlying52 HI.out.1 HI.out.2.1 HI.out.2.2.1 HI.out.2.2.2 (by rfl) (.slice none 0 0) 0 [] (by rfl) (RowAt.nil _ _ _) (.slice (some ⟨w.heap.size, 0, none⟩) 1 1) 1 [.slice oa ln oc] (by rfl) (from_new1 w _ _ rfl) HBB6.out HBB5.out ?_)
 intro ao2 c2 W1 hown1 hmv1
 have hkk1 : Kept NoBlk w W1 := ((Kept.refl NoBlk w).alloc _).trans' (hmv1.keptOf.mono (fun k e => by simp [Value.ownBlock] at e))
 have htx : TxnsSrc W1 (.slice ao2 (0 + 1) c2) [l] := by
  rcases hown1.2 with ⟨_, h0⟩ | ⟨g, off, cap, cur, h0, _⟩
  ·omega
  ·simp only [Value.slice.injEq] at h0
   obtain ⟨rfl, _, rfl⟩ := h0
   refine ⟨_, c2, rfl, fun _ => ⟨g, off, rfl, fun i hi => ?_⟩⟩
   obtain rfl : i = 0 := by simp at hi; exact hi
   exact ⟨.slice oa ln oc, hown1.cell 0 rfl, HO.out.1.keptB hkk1 (fun _ _ x => x)⟩
 have HM : Hid (Calls Tryz.prog 20 #[.slice ra rn rc, .slice ao2 (0 + 1) c2, .bool false] W1 fun e w' => ∃ wb L bs ow, e = .returned (.pointer (some ⟨wb, 0, none⟩)) ∧ KSt L bs ow 0 (mkS raw [l] false 1) w' ∧ KWh ow w' wb L (firstT raw 5) (firstV raw 5) (mkL [l] false 1) ∧ Fr W1.heap.size ow ∧ Kept NoBlk W1 w') := made_any _ raw _ [l] false W1 (HR.out.1.kept hkk1 (fun _ _ x => x)) (by rw [HLN.out.1]; exact hrl) HR.out.2 htx (by simp) (fun x hx => by
  obtain rfl : x = l := by simpa using hx
  exact ⟨HO.out.2, by rw [HLN.out.2]; exact hol⟩)
 have HK1 : Hid (Kept NoBlk w W1) := hkk1
 have HOP : Hid (∀ o ∈ mkOps false 6 l, OpWf o) := mkOps_wf false 6 l HO.out.2
 clear hown1 hmv1 hkk1 htx HR HO HI
 go_wp2_with fail
 refine HM.out.mono ?_
 rintro e w2 ⟨wb, L, bs, ow, rfl, h2, hw2, hf2, hk2⟩
 have HL0 : Hid (Lone (mkS raw [l] false 1) (rowsF (firstL raw 5)) 0 ∧ ((mkS raw [l] false 1).tx 1).ops = (mkL [l] false 1).getD 0 [] ∧ (mkL [l] false 1).length = 1 ∧ ((mkL [l] false 1).getD 0 []).length ≤ 6 ∧ (∀ o ∈ (mkL [l] false 1).getD 0 [], OpWf o) ∧ ∀ o ∈ (mkL [l] false 1).getD 0 [], 0 < modeOf o → K9 o.a) := ⟨lone_made raw l h2.good, rfl, rfl, mkL_six _ _ _ _, HOP.out, mkOps_k9 false 6 l⟩
 have H2 : Hid (KSt L bs ow 0 (mkS raw [l] false 1) w2 ∧ KWh ow w2 wb L (firstT raw 5) (firstV raw 5) (mkL [l] false 1) ∧ Fr w.heap.size ow ∧ Kept NoBlk w w2) := ⟨h2, hw2, fun k hk => Nat.le_trans HK1.out.size (hf2 k hk), HK1.out.trans' hk2⟩
 clear h2 hw2 hf2 hk2 HM HK1 HOP HLN
 have HRO : Hid (RowsOf (rowsF (firstL raw 5)) (rows5 (firstT raw 5) (firstV raw 5) 5)) := rowsOf_list (rows5_pair _ _ 5)
 generalize rowsF (firstL raw 5) = f0 at *
 generalize mkS raw [l] false 1 = s0 at *
 generalize mkL [l] false 1 = l0 at *
 generalize firstT raw 5 = T at *
 generalize firstV raw 5 = V at *
 obtain ⟨g, off, c, xa, xc, e1, e2⟩ := H2.out.2.1.elem 0 (by rw [HL0.out.2.2.1]; omega)
 rw [HL0.out.2.2.1] at e1
 rw [Nat.add_zero] at e2
 generalize hlen : (l0.getD 0 []).length = len at *
 have hlen6 : len ≤ 6 := HL0.out.2.2.2.1
 have HP : Hid (Calls Tryz.prog 34 #[.int .i64 steps, .int .i64 ((len : Int) + 1)] w2 fun e w' => e = .returned (.int .i64 (pickI steps ((len : Int) + 1))) ∧ w' = w2) := pick_any steps _ w2 hst ⟨by omega, by omega⟩
 have q1 := pickI_ge steps (n := (len : Int) + 1) (by omega)
 have q2 := pickI_lt steps (n := (len : Int) + 1) (by omega)
 generalize pickI steps ((len : Int) + 1) = pk at *
 obtain ⟨N, rfl⟩ : ∃ N : Nat, pk = (N : Int) := ⟨pk.toNat, by omega⟩
 have HLEN : Hid ((l0.getD 0 []).length = len) := hlen
 clear hlen
 go_wp2_with fail
 refine HP.out.mono ?_
 rintro e w3 ⟨rfl, rfl⟩
 clear e1 e2 HP
 go_wp2_with fail
 go_loopw [10] (fun i wr => ∃ (k : Nat) (ow : Ow) (s : St), k ≤ N ∧ i = .int .i64 k ∧ (Lone s f0 k ∧ (s.tx 1).ops = l0.getD 0 []) ∧ KSt L bs ow k s wr ∧ KWh ow wr wb L T V l0 ∧ Fr w.heap.size ow ∧ Kept NoBlk w wr) (fun i _ => N - (intOf i).toNat)
 case atStart => exact ⟨0, ow, s0, by omega, rfl, ⟨HL0.out.1, HL0.out.2.1⟩, H2.out⟩
 case round =>
  clear H2
  obtain ⟨k, ow1, s, hk, rfl, hJ, hst, hkw, hfr, hkk⟩ := hrel
  by_cases hlt : k < N
  ·have HST : Hid (Calls Tryz.prog 30 #[.pointer (some ⟨wb, 0, none⟩), .int .i64 0] wr fun e w' => e = .returned (.bool true) ∧ KAft L bs ow1 (k + 1) wr (s.stepN 1) w') := by
    have := wstep_any hst wb (by rw [hJ.1.one, ← HL0.out.2.2.1]; exact hkw.kw) hkw.out 0 ⟨by omega, by omega⟩ (by omega)
    rw [stepR_zero hJ.1.one] at this
    exact this
   have HJ : Hid (Lone (s.stepN 1) f0 (k + 1) ∧ ((s.stepN 1).tx 1).ops = l0.getD 0 []) := ⟨hJ.1.step (by rw [hJ.2, HLEN.out]; omega), by rw [stepN_ops]; exact hJ.2⟩
   have HR : Hid (KWh ow1 wr wb L T V l0 ∧ Fr w.heap.size ow1 ∧ Kept NoBlk w wr) := ⟨hkw, hfr, hkk⟩
   clear hst hkw hfr hkk hJ
   go_wp2_with fail
   refine HST.out.mono ?_
   rintro e w5 ⟨rfl, ⟨ow5, h5, ha5⟩, hk5⟩
   have H5 : Hid (KSt L bs ow5 (k + 1) (s.stepN 1) w5 ∧ KWh ow5 w5 wb L T V l0 ∧ Fr w.heap.size ow5 ∧ Kept NoBlk w w5) := by
    obtain ⟨g1, g2, g3⟩ := HR.out
    exact ⟨h5, g1.aft hk5 ha5, g2.agree ha5 g3.size, g2.kept (Nat.le_refl _) g3 hk5⟩
   clear h5 ha5 hk5 HST HR
   go_wp2_with fail
   go_roundw
   case rel => exact ⟨k + 1, ow5, s.stepN 1, by omega, by go_num, HJ.out, H5.out⟩
   case measure => simp [intOf]; omega
  ·have c0 : wr.cell? ⟨wb, 0, none⟩ = some (.pointer (some ⟨L.p, 0, none⟩)) := by
    obtain ⟨ov, xs, b1, _⟩ := hkw.body
    rw [cell_at b1]; rfl
   have HA1 : Hid (Calls Tryz.prog 35 #[.pointer (some ⟨L.p, 0, none⟩), .int .i64 1] wr fun e w' => e = .returned (.int .i64 0) ∧ KAll L bs T V l0 wb w.heap.size (k + 1) w (s.fell 1 4) w') := KAll.call ⟨ow1, hst, hkw, hfr, hkk⟩ 1 (by omega) (call_one hJ.1)
   have HJ : Hid (Lone s f0 k ∧ (s.tx 1).ops = l0.getD 0 []) := hJ
   clear hst hkw hfr hkk hJ
   go_wp2_with fail
   refine HA1.out.mono ?_
   rintro e w5 ⟨rfl, h5⟩
   have d0 := h5.c0
   have HA2 : Hid (Calls Tryz.prog 35 #[.pointer (some ⟨L.p, 0, none⟩), .int .i64 1] w5 fun e w' => e = .returned (.int .i64 6) ∧ KAll L bs T V l0 wb w.heap.size (k + 1 + 1) w (s.fell 1 4) w') := h5.call 1 (by omega) (fell_calls HJ.out.1.one).1
   clear h5 c0 HA1
   go_wp2_with fail
   refine HA2.out.mono ?_
   rintro e w6 ⟨rfl, h6⟩
   have d1 := h6.c0
   have HA3 : Hid (Calls Tryz.prog 22 #[.pointer (some ⟨L.p, 0, none⟩), .int .i64 1] w6 fun e w' => e = .returned (.tuple #[.int .i64 0, .int .i64 6]) ∧ KAll L bs T V l0 wb w.heap.size (k + 1 + 1 + 1) w (s.fell 1 4) w') := h6.stepC 1 (by omega) (fell_calls HJ.out.1.one).2.2
   clear h6 d0 HA2
   go_wp2_with fail
   refine HA3.out.mono ?_
   rintro e w7 ⟨rfl, h7⟩
   have d2 := h7.c0
   have HA4 : Hid (Calls Tryz.prog 35 #[.pointer (some ⟨L.p, 0, none⟩), .int .i64 2] w7 fun e w' => e = .returned (.int .i64 5) ∧ KAll L bs T V l0 wb w.heap.size (k + 1 + 1 + 1 + 1) w (s.fell 1 4) w') := h7.call 2 (by omega) (fell_calls HJ.out.1.one).2.1
   clear h7 d1 HA3
   go_wp2_with fail
   refine HA4.out.mono ?_
   rintro e w8 ⟨rfl, h8⟩
   have d3 := h8.c0
   have HA5 : Hid (Calls Tryz.prog 23 #[.pointer (some ⟨L.p, 0, none⟩), .int .i64 1] w8 fun e w' => ∃ x, e = .returned (.tuple #[x, .int .i64 0]) ∧ TxnTold w8 ((s.fell 1 4).tx 1) x w' ∧ KAll L bs T V l0 wb w.heap.size (k + 1 + 1 + 1 + 1) w (s.fell 1 4) w') := h8.txn 1 ⟨by omega, by rw [(fell_n s 1 4).1, HJ.out.1.one]; omega⟩
   clear h8 d2 HA4
   go_wp2_with fail
   refine HA5.out.mono ?_
   rintro e w9 ⟨x, rfl, ⟨a, kk, hx, _, _, _, _⟩, h9⟩
   rw [(fell_self s 1 4).2.1, (fell_self s 1 4).1, fell_reads] at hx
   subst hx
   have d4 : ∀ bx, (w9.alloc bx).cell? ⟨wb, 0, none⟩ = some (.pointer (some ⟨L.p, 0, none⟩)) := fun bx => (h9.kept ((Kept.refl NoBlk w9).alloc bx)).c0
   have HA6 : Hid (∀ bx, Calls Tryz.prog 25 #[.pointer (some ⟨L.p, 0, none⟩)] (w9.alloc bx) fun e w' => ∃ x l, e = .returned x ∧ RowAt w' 95 2 x l.length (rowCells l) ∧ RowsOf (s.fell 1 4).rows l ∧ KAll2 L bs T V l0 wb w.heap.size (k + 1 + 1 + 1 + 1) w (s.fell 1 4) w9.heap.size bx w') := fun bx => (h9.box bx).rows (by omega)
   generalize ((s.fell 1 4).tx 1).stamp = tst at *
   generalize ((s.fell 1 4).tx 1).wounded = twd at *
   generalize ((s.fell 1 4).tx 1).waits.isSome = twt at *
   generalize ((s.fell 1 4).tx 1).agains = tag at *
   clear h9 d3 HA5
   go_wp2_with fail
   refine (HA6.out (.cells #[.int .i64 tst, .int .i64 4, .int .i64 0, .bool twd, .bool twt, .int .i64 tag, .slice (some ⟨a, 0, none⟩) 4 4, .slice (some ⟨kk, 0, none⟩) 0 0] 69)).mono ?_
   rintro e w10 ⟨x, lr, rfl, hx1, hx3, h10⟩
   have hlr : lr = rows5 T V 5 := by
    rw [fell_rows, HJ.out.1.back] at hx3
    exact hx3.eq HRO.out
   subst hlr
   obtain ⟨xa1, xc1, rfl, _⟩ := hx1.form
   have HX1 : Hid (RowAt w10 95 2 (.slice xa1 (rows5 T V 5).length xc1) (rows5 T V 5).length (rowCells (rows5 T V 5))) := hx1
   have H10 : Hid (KAll2 L bs T V l0 wb w.heap.size (k + 1 + 1 + 1 + 1) w (s.fell 1 4) w9.heap.size (.cells #[.int .i64 tst, .int .i64 4, .int .i64 0, .bool twd, .bool twt, .int .i64 tag, .slice (some ⟨a, 0, none⟩) 4 4, .slice (some ⟨kk, 0, none⟩) 0 0] 69) w10) := h10
   obtain ⟨⟨ov, b1⟩, b2, _⟩ := h10.body
   have hr5 := rows5_len T V 5
   have z0 : w10.cell? ⟨wb, 1, none⟩ = some (.bool (T 0)) := by rw [cell_at b1]; rfl
   have z1 : w10.cell? ⟨wb, 2, none⟩ = some (.bool (T 1)) := by rw [cell_at b1]; rfl
   have z2 : w10.cell? ⟨wb, 3, none⟩ = some (.bool (T 2)) := by rw [cell_at b1]; rfl
   have z3 : w10.cell? ⟨wb, 4, none⟩ = some (.bool (T 3)) := by rw [cell_at b1]; rfl
   have z4 : w10.cell? ⟨wb, 5, none⟩ = some (.bool (T 4)) := by rw [cell_at b1]; rfl
   have z5 : w10.cell? ⟨wb, 6, none⟩ = some (.int .i64 (V 0)) := by rw [cell_at b1]; rfl
   have z6 : w10.cell? ⟨wb, 7, none⟩ = some (.int .i64 (V 1)) := by rw [cell_at b1]; rfl
   have z7 : w10.cell? ⟨wb, 8, none⟩ = some (.int .i64 (V 2)) := by rw [cell_at b1]; rfl
   have z8 : w10.cell? ⟨wb, 9, none⟩ = some (.int .i64 (V 3)) := by rw [cell_at b1]; rfl
   have z9 : w10.cell? ⟨wb, 10, none⟩ = some (.int .i64 (V 4)) := by rw [cell_at b1]; rfl
   have HRW : Hid (Calls Tryz.prog 26 #[.agg #[.bool (T 0), .bool (T 1), .bool (T 2), .bool (T 3), .bool (T 4), .int .i64 (V 0), .int .i64 (V 1), .int .i64 (V 2), .int .i64 (V 3), .int .i64 (V 4)]] w10 fun e w' => ∃ x, e = .returned x ∧ RowAt w' 95 2 x (rows5 T V 5).length (rowCells (rows5 T V 5)) ∧ (∀ k, x.ownBlock = some k → w10.heap.size ≤ k) ∧ Kept NoBlk w10 w') := rows_any T V w10
   clear hx1 hx3 h10 b1 b2 d4 HA6
   generalize hrl : (rows5 T V 5).length = rl at *
   have HRL : Hid ((rows5 T V 5).length = rl) := hrl
   clear hrl
   go_wp2_with fail
   refine HRW.out.mono ?_
   rintro e w11 ⟨x2, rfl, hy1, hy2, hk11⟩
   have HSM : Hid (Calls Tryz.prog 24 #[.slice xa1 rl xc1, x2] w11 fun e w' => e = .returned (.bool true) ∧ Kept NoBlk w11 w') := by
    have h1 : RowAt w11 95 2 (.slice xa1 rl xc1) (rows5 T V 5).length (rowCells (rows5 T V 5)) := by rw [HRL.out]; exact HX1.out.kept hk11 (fun _ _ x => x)
    exact sameRows_true _ _ (rows5 T V 5) w11 h1 (by rw [HRL.out]; exact hy1) (by rw [HRL.out]; omega)
   have H11 : Hid (KAll2 L bs T V l0 wb w.heap.size (k + 1 + 1 + 1 + 1) w (s.fell 1 4) w9.heap.size (.cells #[.int .i64 tst, .int .i64 4, .int .i64 0, .bool twd, .bool twt, .int .i64 tag, .slice (some ⟨a, 0, none⟩) 4 4, .slice (some ⟨kk, 0, none⟩) 0 0] 69) w11) := H10.out.kept hk11
   obtain ⟨ya, yc, rfl, _⟩ := hy1.form
   clear hy1 hy2 hk11 HRW H10 HX1 z0 z1 z2 z3 z4 z5 z6 z7 z8 z9
   go_wp2_with fail
   refine HSM.out.mono ?_
   rintro e w12 ⟨rfl, hk12⟩
   have h12 := H11.out.kept hk12
   have H12 : Hid (KAll2 L bs T V l0 wb w.heap.size (k + 1 + 1 + 1 + 1) w (s.fell 1 4) w9.heap.size (.cells #[.int .i64 tst, .int .i64 4, .int .i64 0, .bool twd, .bool twt, .int .i64 tag, .slice (some ⟨a, 0, none⟩) 4 4, .slice (some ⟨kk, 0, none⟩) 0 0] 69) w12) := h12
   have b1 : w12.cell? ⟨w9.heap.size, 1, none⟩ = some (.int .i64 4) := by rw [cell_at h12.body.2.1]; rfl
   clear h12 hk12 HSM H11
   generalize w9.heap.size = tb at *
   go_wp2_with fail
   go_loopw [21] (fun i wr => ∃ q : Nat, q ≤ 5 ∧ i = .int .i64 q ∧ KAll2 L bs T V l0 wb w.heap.size (k + 1 + 1 + 1 + 1) w (s.fell 1 4) tb (.cells #[.int .i64 tst, .int .i64 4, .int .i64 0, .bool twd, .bool twt, .int .i64 tag, .slice (some ⟨a, 0, none⟩) 4 4, .slice (some ⟨kk, 0, none⟩) 0 0] 69) wr) (fun i _ => 5 - (intOf i).toNat)
   case atStart => exact ⟨0, by omega, rfl, H12.out⟩
   case round =>
    clear H12 b1
    obtain ⟨q, hq, rfl, hall⟩ := hrel
    by_cases hq5 : q < 5
    ·have HLC : Hid (Calls Tryz.prog 27 #[.pointer (some ⟨L.p, 0, none⟩), .int .i64 (q : Int)] wr fun e w' => ∃ va vc a0, e = .returned (.tuple #[.slice va 0 vc, .slice (some ⟨a0, 0, none⟩) 0 0]) ∧ KAll2 L bs T V l0 wb w.heap.size (k + 1 + 1 + 1 + 1) w (s.fell 1 4) tb (.cells #[.int .i64 tst, .int .i64 4, .int .i64 0, .bool twd, .bool twt, .int .i64 tag, .slice (some ⟨a, 0, none⟩) 4 4, .slice (some ⟨kk, 0, none⟩) 0 0] 69) w') := hall.locks q ⟨by omega, by omega⟩ (fell_empty HJ.out.1 q)
     obtain ⟨⟨ov1, e1⟩, _, _⟩ := hall.body
     have c0' : wr.cell? ⟨wb, 0, none⟩ = some (.pointer (some ⟨L.p, 0, none⟩)) := by rw [cell_at e1]; rfl
     clear hall e1
     go_wp2_with fail
     refine HLC.out.mono ?_
     rintro e w13 ⟨va, vc, a13, rfl, h13⟩
     have H13 : Hid (KAll2 L bs T V l0 wb w.heap.size (k + 1 + 1 + 1 + 1) w (s.fell 1 4) tb (.cells #[.int .i64 tst, .int .i64 4, .int .i64 0, .bool twd, .bool twt, .int .i64 tag, .slice (some ⟨a, 0, none⟩) 4 4, .slice (some ⟨kk, 0, none⟩) 0 0] 69) w13) := h13
     clear h13 HLC c0'
     go_wp2_with fail
     go_roundw
     case rel => exact ⟨q + 1, by omega, by go_num, H13.out⟩
     case measure => simp [intOf]; omega
    ·obtain ⟨g2, off2, cc2, xa2, xc2, f1, f2, had⟩ := (hall.kept (Kept.refl NoBlk wr).drew).admit (by rw [(fell_n s 1 4).1, HJ.out.1.one]; omega) 0 (by rw [HL0.out.2.2.1]; omega) HL0.out.2.2.2.2.1 (by rw [HLEN.out]; exact hlen6) HL0.out.2.2.2.2.2
     rw [HL0.out.2.2.1] at f1
     rw [Nat.add_zero] at f2
     rw [(fell_n s 1 4).1, HJ.out.1.one] at had
     obtain ⟨⟨ov1, e1⟩, _, _⟩ := hall.body
     have c0' : wr.cell? ⟨wb, 0, none⟩ = some (.pointer (some ⟨L.p, 0, none⟩)) := by rw [cell_at e1]; rfl
     have HAD : Hid (Calls Tryz.prog 36 #[.pointer (some ⟨L.p, 0, none⟩), .slice xa2 (l0.getD 0 []).length xc2] wr.drew fun e w' => e = .returned (.tuple #[.int .i64 2, .int .i64 0]) ∧ w'.heap[tb]? = some (.cells #[.int .i64 tst, .int .i64 4, .int .i64 0, .bool twd, .bool twt, .int .i64 tag, .slice (some ⟨a, 0, none⟩) 4 4, .slice (some ⟨kk, 0, none⟩) 0 0] 69 (0, 0)) ∧ Kept NoBlk w w') := had
     clear had hall e1
     generalize (l0.getD 0 []).length = ll0 at *
     have f1' : wr.cell? ⟨wb, 11, none⟩ = some (.slice (some ⟨g2, off2, none⟩) 1 cc2) := f1
     have f2' : wr.cell? ⟨g2, off2, none⟩ = some (.slice xa2 ll0 xc2) := f2
     clear f1 f2
     go_wp2_with fail
     refine' kcut0 _ (fun w14 => w14.heap[tb]? = some (.cells #[.int .i64 tst, .int .i64 4, .int .i64 0, .bool twd, .bool twt, .int .i64 tag, .slice (some ⟨a, 0, none⟩) 4 4, .slice (some ⟨kk, 0, none⟩) 0 0] 69 (0, 0)) ∧ Kept NoBlk w w14) ?_ ?_
     rotate_left
     ·go_region_law (go_simp; go_at_call 36; (with_reducible refine HAD.out.mono ?_); rintro e w14 ⟨rfl, hb14, hk14⟩)
      all_goals
       refine ⟨?_, hb14, hk14⟩
       exact rfl
     rintro w14 ⟨hb14, hk14⟩
     have HK14 : Hid (Kept NoBlk w w14) := hk14
     have t2 : w14.cell? ⟨tb, 2, none⟩ = some (.int .i64 0) := by rw [cell_at hb14]; rfl
     have t7 : w14.cell? ⟨tb, 7, none⟩ = some (.slice (some ⟨kk, 0, none⟩) 0 0) := by rw [cell_at hb14]; rfl
     clear hb14 hk14 HAD f1' f2' c0'
     go_wp2_with fail
     go_ret
     exact ⟨rfl, HK14.out⟩
end Go.Proofs.YtmcajfefagdbnaaGreat
