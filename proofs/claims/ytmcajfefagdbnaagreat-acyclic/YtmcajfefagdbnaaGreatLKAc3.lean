import Derived.Test.YtmcajfefagdbnaaGreatLKAc1
namespace Go.Proofs.YtmcajfefagdbnaaGreat
open Go Go.RowKit
structure SetA (L : Lay) (bs : Nat → Nat) (ow : Ow) (j : Nat) (s : St) (wb : Nat) (w : World) (F : List (Nat × Obj)) (R : List (Value × List (Int × Int))) (W : World) : Prop where
 st : KSt L bs ow j s W
 kw : KW W wb L s.n
 out : ¬ OwnP ow wb
 kept : Kept (OwnP ow) w W
 box : ∀ p ∈ F, W.heap[p.1]? = some p.2 ∧ ¬ OwnP ow p.1 ∧ w.heap.size ≤ p.1
 row : ∀ r ∈ R, RowAt W 107 2 r.1 r.2.length (lkc r.2) ∧ ∀ k, r.1.ownBlock = some k → ¬ OwnP ow k ∧ w.heap.size ≤ k
def SetB (ow : Ow) (wb : Nat) (F : List (Nat × Obj)) (R : List (Value × List (Int × Int))) (N : Nat) : Prop := (∀ k, OwnP ow k → k < N) ∧ wb < N ∧ (∀ p ∈ F, p.1 < N) ∧ ∀ r ∈ R, ∀ k, r.1.ownBlock = some k → k < N
section
variable {L : Lay} {bs : Nat → Nat} {ow : Ow} {j : Nat} {s : St} {wb : Nat} {w : World} {F : List (Nat × Obj)} {R : List (Value × List (Int × Int))} {W W' : World}
theorem SetA.bnd (h : SetA L bs ow j s wb w F R W) : SetB ow wb F R W.heap.size := by
 refine ⟨fun k hk => h.st.st.lt k hk, ?_, fun p hp => (Array.getElem?_eq_some_iff.1 (h.box p hp).1).1, fun r hr k hk => (h.row r hr).1.lt k hk⟩
 obtain ⟨cs, ao, c, x1, _⟩ := h.kw
 exact lt_of_block x1
theorem SetA.keepN (h : SetA L bs ow j s wb w F R W) {N : Nat} (hb : SetB ow wb F R N) (hN : w.heap.size ≤ N) (hk : Kept (fun k => N ≤ k) W W') : SetA L bs ow j s wb w F R W' := by
 obtain ⟨b1, b2, b3, b4⟩ := hb
 exact ⟨h.st.kept hk (fun k x e => by have := b1 k x; omega), h.kw.kept hk (by omega), h.out, h.kept.trans hk (fun k e => .inr (by omega)), fun p hp => ⟨hk.heap (h.box p hp).1 (by have := b3 p hp; omega), (h.box p hp).2⟩, fun r hr => ⟨(h.row r hr).1.kept hk (fun k e x => by have := b4 r hr k e; omega), (h.row r hr).2⟩⟩
theorem SetA.keep (h : SetA L bs ow j s wb w F R W) (hst : KSt L bs ow j s W') (hk : Kept (OwnP ow) W W') : SetA L bs ow j s wb w F R W' :=
 ⟨hst, h.kw.kept hk h.out, h.out, h.kept.trans' hk, fun p hp => ⟨hk.heap (h.box p hp).1 (h.box p hp).2.1, (h.box p hp).2⟩, fun r hr => ⟨(h.row r hr).1.kept hk (fun k e => ((h.row r hr).2 k e).1), (h.row r hr).2⟩⟩
theorem SetA.keep0 (h : SetA L bs ow j s wb w F R W) (hk : Kept NoBlk W W') : SetA L bs ow j s wb w F R W' :=
 h.keep (h.st.kept hk (fun _ _ x => x)) (hk.mono (fun _ x => x.elim))
theorem SetA.sub (h : SetA L bs ow j s wb w F R W) {F' : List (Nat × Obj)} {R' : List (Value × List (Int × Int))} (h1 : ∀ p ∈ F', p ∈ F) (h2 : ∀ r ∈ R', r ∈ R) : SetA L bs ow j s wb w F' R' W :=
 ⟨h.st, h.kw, h.out, h.kept, fun p hp => h.box p (h1 p hp), fun r hr => h.row r (h2 r hr)⟩
theorem SetA.push (h : SetA L bs ow j s wb w F R W) (o : Obj) : SetA L bs ow j s wb w ((W.heap.size, o) :: F) R (W.alloc o) := by
 have h1 := h.keep0 ((Kept.refl NoBlk W).alloc o)
 refine ⟨h1.st, h1.kw, h1.out, h1.kept, fun p hp => ?_, h1.row⟩
 rcases List.mem_cons.1 hp with rfl | hp
 ·exact ⟨block_alloc_new W o, fun e => by have := h.st.st.lt _ e; simp only at this; omega, h.kept.size⟩
 ·exact h1.box p hp
theorem SetA.row1 (h : SetA L bs ow j s wb w F R W) (v : Value) (l : List (Int × Int)) (h1 : RowAt W 107 2 v l.length (lkc l)) (h2 : ∀ k, v.ownBlock = some k → ¬ OwnP ow k ∧ w.heap.size ≤ k) : SetA L bs ow j s wb w F ((v, l) :: R) W := by
 refine ⟨h.st, h.kw, h.out, h.kept, h.box, fun r hr => ?_⟩
 rcases List.mem_cons.1 hr with rfl | hr
 ·exact ⟨h1, h2⟩
 ·exact h.row r hr
theorem SetA.box1 (h : SetA L bs ow j s wb w F R W) (b : Nat) (o : Obj) (h1 : W.heap[b]? = some o) (h2 : ¬ OwnP ow b ∧ w.heap.size ≤ b) : SetA L bs ow j s wb w ((b, o) :: F) R W := by
 refine ⟨h.st, h.kw, h.out, h.kept, fun p hp => ?_, h.row⟩
 rcases List.mem_cons.1 hp with rfl | hp
 ·exact ⟨h1, h2⟩
 ·exact h.box p hp
theorem SetA.at (h : SetA L bs ow j s wb w F R W) {b : Nat} {o : Obj} (hb : (b, o) ∈ F) : W.heap[b]? = some o := (h.box _ hb).1
theorem SetA.c0 (h : SetA L bs ow j s wb w F R W) : W.cell? ⟨wb, 0, none⟩ = some (.pointer (some ⟨L.p, 0, none⟩)) := by
 obtain ⟨cs, ao, c, x1, x0, _⟩ := h.kw
 rw [cell_at x1]; exact x0
theorem SetA.c11 (h : SetA L bs ow j s wb w F R W) : ∃ ao c, W.cell? ⟨wb, 11, none⟩ = some (.slice ao s.n c) := by
 obtain ⟨cs, ao, c, x1, _, x3⟩ := h.kw
 exact ⟨ao, c, by rw [cell_at x1]; exact x3⟩
theorem SetA.count {H : Nat} {C : Nat → Nat} {a : Nat} {cs : Array Value} (h : SetA L bs ow j s wb w [(H, .cells (icells (s.n + 1) C) 3), (a, .cells cs 107)] R W) (i v : Nat) : SetA L bs ow j s wb w [(H, .cells (icells (s.n + 1) (fun k => if k = i then v else C k)) 3), (a, .cells cs 107)] R (W.setCell ⟨H, i, none⟩ (.int .i64 (v : Int))) := by
 have hk : Kept (Blk H) W (W.setCell ⟨H, i, none⟩ (.int .i64 (v : Int))) := Kept.set1 W H i _
 obtain ⟨hH, hO, hl⟩ := h.box (H, .cells (icells (s.n + 1) C) 3) (by simp)
 obtain ⟨hA, aO, al⟩ := h.box (a, .cells cs 107) (by simp)
 simp only at hH hO hl hA aO al
 have hb := block_setCell (o := i) hH (.int .i64 (v : Int))
 rw [icells_set] at hb
 have hne : a ≠ H := blocks_apart hA hH (by decide)
 have hwb : wb ≠ H := fun e => by
  obtain ⟨cs', ao, c, x1, _⟩ := h.kw
  rw [e] at x1
  exact blocks_apart x1 hH (by decide) rfl
 refine ⟨h.st.kept hk (fun k hko e => by unfold Blk at e; subst e; exact hO hko), h.kw.kept hk (fun e => by unfold Blk at e; exact hwb e), h.out, h.kept.trans hk (fun k e => .inr (by unfold Blk at e; omega)), fun p hp => ?_, fun r hr => ⟨(h.row r hr).1.kept hk (fun k e x => ?_), (h.row r hr).2⟩⟩
 ·rcases List.mem_cons.1 hp with rfl | hp
  ·exact ⟨hb, hO, hl⟩
  ·rcases List.mem_cons.1 hp with rfl | hp
   ·exact ⟨hk.heap hA (fun e => by unfold Blk at e; exact hne e), aO, al⟩
   ·cases hp
 ·unfold Blk at x
  subst x
  obtain ⟨cur, hc⟩ := (h.row r hr).1.block e
  exact blocks_apart hc hH (by decide) rfl
end
theorem holds_few {s : St} (hi : Inv s) {key : Int} {l : List (Int × Int)} (hl : HoldsL (holdF s.lk) key l) : l.length ≤ s.n := by
 have h1 : (l.map fun x => x.1.toNat).Nodup := by
  rw [List.nodup_iff_pairwise_ne, List.pairwise_map]
  have h2 : l.Pairwise (fun x y => x.1 < y.1 ∧ 0 ≤ x.1) := by
   rw [List.pairwise_iff_getElem]
   intro i k h3 h4 h5
   exact ⟨List.pairwise_iff_getElem.1 hl.1 i k h3 h4 h5, (holdF_some ((hl.2 _ _).1 (List.getElem_mem h3))).1⟩
  exact h2.imp (fun {x y} h => by omega)
 have := nodup_len _ (List.range' 1 s.n) h1 (fun x hx => by
  obtain ⟨y, hy, rfl⟩ := List.mem_map.1 hx
  obtain ⟨a1, a2, a3⟩ := holdF_some ((hl.2 y.1 y.2).1 hy)
  exact mem_range1.2 ((hi.row key).hold _ (by rw [a2]; exact a3)))
 simpa using this
theorem run_build0 (w : World) : (Instr.buildSlice 74 0 #[]).run Tryz.prog w = .ok (.slice (some ⟨w.heap.size, 0, none⟩) 0 0) (w.alloc (.cells #[] 107)) := by kernel_rfl
theorem wpList_build0 {w : World} {ops : Array Oper} {rest : List Oper} {o : Oper} {a : Act} {Q : Exit → Act → World → Prop} (hgd : o.guard = none) (ho : o.op = .buildSlice 74 0 #[])
  (h : wpList Tryz.prog ops Q rest (a.put o.dst (.slice (some ⟨w.heap.size, 0, none⟩) 0 0)) (w.alloc (.cells #[] 107))) : wpList Tryz.prog ops Q (o :: rest) a w := by
 refine wpList_plain hgd fun K hK => ?_
 have hr := run_build0 w
 unfold Oper.wp
 simp only [execOp, ho, Sem.run_bind, Sem.run_pure, Result.andThen_ok, List.map_toArray, List.map_nil, hr]
 exact hK _ _ h
theorem lkc_append (l m : List (Int × Int)) : lkc (l ++ m) = lkc l ++ lkc m := by simp [lkc]
theorem row_front {W : World} {a : Nat} {q : List (Nat × Int)} (h : W.heap[a]? = some (.cells (lkc (qcast q)).toArray 107 (0, 0))) (i : Nat) (hi : i ≤ q.length) (hq : q.length ≤ maxLen) : RowAt W 107 2 (.slice (some ⟨a, 0, none⟩) i q.length) i (lkc (qcast (q.take i))) := by
 have hl : (qcast (q.take i)).length = i := by unfold qcast; rw [List.length_map, List.length_take]; omega
 have hL : (qcast q).length = q.length := by unfold qcast; rw [List.length_map]
 refine ⟨by rw [lkc_len, hl], .inr ⟨a, 0, q.length, _, rfl, h, hi, hq, by rw [List.size_toArray, lkc_len, hL]; omega, fun k u hu => ?_⟩⟩
 rw [Nat.zero_add, List.getElem?_toArray]
 have e : lkc (qcast q) = lkc (qcast (q.take i)) ++ lkc (qcast (q.drop i)) := by
  rw [← lkc_append]
  unfold qcast
  rw [← List.map_append, List.take_append_drop]
 rw [e, List.getElem?_append_left]
 ·exact hu
 ·exact (List.getElem?_eq_some_iff.1 hu).1
theorem qcast_at (q : List (Nat × Int)) (i : Nat) (h : i < q.length) : (qcast q).getD i (0, 0) = (((q.getD i (0, 0)).1 : Int), (q.getD i (0, 0)).2) := by
 unfold qcast
 rw [List.getD_eq_getElem?_getD, List.getElem?_map, List.getElem?_eq_getElem h, List.getD_eq_getElem?_getD, List.getElem?_eq_getElem h]
 rfl
theorem queue_cells {W : World} {a : Nat} {q : List (Nat × Int)} (h : W.heap[a]? = some (.cells (lkc (qcast q)).toArray 107 (0, 0))) (i : Nat) (hi : i < q.length) : W.cell? ⟨a, i * 2, none⟩ = some (.int .i64 ((q.getD i (0, 0)).1 : Int)) ∧ W.cell? ⟨a, i * 2 + 1, none⟩ = some (.int .i64 (q.getD i (0, 0)).2) := by
 have h1 := lkc_at (qcast q) i (by unfold qcast; rw [List.length_map]; exact hi)
 rw [qcast_at q i hi] at h1
 rw [cell_at h, cell_at h, List.getElem?_toArray, List.getElem?_toArray]
 exact h1
theorem row_cells {W : World} {v : Value} {l : List (Int × Int)} (h : RowAt W 107 2 v l.length (lkc l)) (h0 : 0 < l.length) : ∃ g off c, v = .slice (some ⟨g, off, none⟩) l.length c ∧ ∀ i, i < l.length → W.cell? ⟨g, off + i * 2, none⟩ = some (.int .i64 (l.getD i (0, 0)).1) ∧ W.cell? ⟨g, off + i * 2 + 1, none⟩ = some (.int .i64 (l.getD i (0, 0)).2) := by
 rcases h.2 with ⟨_, h1⟩ | ⟨g, off, cap, cur, rfl, _⟩
 ·omega
 ·refine ⟨g, off, cap, rfl, fun i hi => ?_⟩
  obtain ⟨a1, a2⟩ := lkc_at l i hi
  exact ⟨h.cell _ a1, by rw [Nat.add_assoc]; exact h.cell _ a2⟩
end Go.Proofs.YtmcajfefagdbnaaGreat
