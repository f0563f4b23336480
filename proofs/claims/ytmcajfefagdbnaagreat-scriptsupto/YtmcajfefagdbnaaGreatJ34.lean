import Derived.Test.YtmcajfefagdbnaaGreatJ33
import Derived.Test.YtmcajfefagdbnaaGreatJ09
import Derived.Test.YtmcajfefagdbnaaGreatJ06
import Derived.Test.YtmcajfefagdbnaaGreatJ07
namespace Go.Proofs.YtmcajfefagdbnaaGreat
open Go
def setStep (key val : Int) (st : List Row2 × Bool) (r : Row2) : List Row2 × Bool :=
 (if r.k = key then (if st.2 = false ∧ key ≤ r.k then st.1 ++ [⟨key, val⟩] else st.1) else (if st.2 = false ∧ key ≤ r.k then st.1 ++ [⟨key, val⟩] else st.1) ++ [r], st.2 || decide (key ≤ r.k))
def setL (l : List Row2) (key : Int) (there : Bool) (val : Int) : List Row2 :=
 if (l.foldl (setStep key val) ([], !there)).2 then (l.foldl (setStep key val) ([], !there)).1 else (l.foldl (setStep key val) ([], !there)).1 ++ [⟨key, val⟩]
theorem setStep_done (key val : Int) (l : List Row2) : ∀ out, l.foldl (setStep key val) (out, true) = (out ++ l.filter (fun r => decide (r.k ≠ key)), true) := by
 induction l with
 | nil => intro out; simp
 | cons r l ih =>
  intro out
  rw [List.foldl_cons]
  have e : setStep key val (out, true) r = (if r.k = key then out else out ++ [r], true) := by
   unfold setStep
   simp
  rw [e, ih]
  by_cases h : r.k = key
  ·simp [h]
  ·simp [h]
theorem setStep_open (key val : Int) (l : List Row2) (hs : l.Pairwise (fun a b => a.k < b.k)) : ∀ out, (if (l.foldl (setStep key val) (out, false)).2 then (l.foldl (setStep key val) (out, false)).1 else (l.foldl (setStep key val) (out, false)).1 ++ [⟨key, val⟩]) = out ++ l.filter (fun r => decide (r.k < key)) ++ [⟨key, val⟩] ++ l.filter (fun r => decide (key < r.k)) := by
 induction l with
 | nil => intro out; simp
 | cons r l ih =>
  intro out
  rw [List.pairwise_cons] at hs
  rw [List.foldl_cons]
  by_cases hk : key ≤ r.k
  ·have e : setStep key val (out, false) r = (if r.k = key then out ++ [⟨key, val⟩] else out ++ [⟨key, val⟩] ++ [r], true) := by
    unfold setStep
    simp [hk]
   rw [e, setStep_done]
   have f1 : l.filter (fun x => decide (x.k ≠ key)) = l := List.filter_eq_self.2 (fun x hx => by have := hs.1 x hx; simp; omega)
   have f2 : l.filter (fun x => decide (x.k < key)) = [] := List.filter_eq_nil_iff.2 (fun x hx => by have := hs.1 x hx; simp; omega)
   have f3 : l.filter (fun x => decide (key < x.k)) = l := List.filter_eq_self.2 (fun x hx => by have := hs.1 x hx; simp; omega)
   rw [if_pos rfl]
   simp only [f1]
   rw [List.filter_cons, List.filter_cons, f2, f3]
   by_cases he : r.k = key
   ·rw [if_pos he, if_neg (by simp; omega), if_neg (by simp; omega)]
    simp
   ·rw [if_neg he, if_neg (by simp; omega), if_pos (by simp; omega)]
    simp
  ·have e : setStep key val (out, false) r = (out ++ [r], false) := by
    unfold setStep
    simp [hk]
    omega
   rw [e, ih hs.2]
   rw [List.filter_cons, List.filter_cons, if_pos (by simp; omega), if_neg (by simp; omega)]
   simp
theorem setL_there (l : List Row2) (key val : Int) (hs : l.Pairwise (fun a b => a.k < b.k)) : setL l key true val = l.filter (fun r => decide (r.k < key)) ++ [⟨key, val⟩] ++ l.filter (fun r => decide (key < r.k)) := by
 have := setStep_open key val l hs []
 unfold setL
 simpa using this
theorem setL_none (l : List Row2) (key val : Int) : setL l key false val = l.filter (fun r => decide (r.k ≠ key)) := by
 unfold setL
 rw [show (!false) = true from rfl, setStep_done]
 simp
theorem setL_len (l : List Row2) (key val : Int) (there : Bool) (hs : l.Pairwise (fun a b => a.k < b.k)) : (setL l key there val).length ≤ l.length + 1 := by
 cases there
 ·rw [setL_none]
  exact Nat.le_succ_of_le (List.length_filter_le _ _)
 ·rw [setL_there l key val hs]
  have h1 : (l.filter (fun r => decide (r.k < key))).length + (l.filter (fun r => decide (key < r.k))).length ≤ l.length := by
   clear hs
   induction l with
   | nil => simp
   | cons r l ih =>
    rw [List.filter_cons, List.filter_cons]
    by_cases h1 : r.k < key
    ·rw [if_pos (by simpa using h1), if_neg (by simp; omega)]
     simp only [List.length_cons]
     omega
    ·by_cases h2 : key < r.k
     ·rw [if_neg (by simpa using h1), if_pos (by simpa using h2)]
      simp only [List.length_cons]
      omega
     ·rw [if_neg (by simpa using h1), if_neg (by simpa using h2)]
      simp only [List.length_cons]
      omega
  simp only [List.length_append, List.length_cons, List.length_nil]
  omega
theorem RowsOf.set {f : Int → Option Int} {l : List Row2} (h : RowsOf f l) (key val : Int) (there : Bool) : RowsOf (upd f key (if there then some val else none)) (setL l key there val) := by
 have hs : l.Pairwise (fun a b => a.k < b.k) := by have := h.1.1; rw [List.pairwise_map] at this; exact this
 have hin : ∀ k, (f k).isSome = true ↔ ∃ r ∈ l, r.k = k := fun k => by
  rw [← h.1.2 k]
  constructor
  ·intro hm
   obtain ⟨r, h1, h2⟩ := List.mem_map.1 hm
   exact ⟨r, h1, h2⟩
  ·rintro ⟨r, h1, h2⟩
   exact List.mem_map.2 ⟨r, h1, h2⟩
 cases there
 ·rw [setL_none]
  refine ⟨⟨by rw [List.pairwise_map]; exact hs.filter _, fun k => ?_⟩, fun r hr => ?_⟩
  ·constructor
   ·intro hm
    obtain ⟨r, h1, rfl⟩ := List.mem_map.1 hm
    obtain ⟨h2, h3⟩ := List.mem_filter.1 h1
    have h3' : r.k ≠ key := by simpa using h3
    rw [upd_other _ _ _ _ h3']
    exact (hin _).2 ⟨r, h2, rfl⟩
   ·intro hm
    by_cases e : k = key
    ·subst e; rw [upd_same] at hm; cases hm
    ·rw [upd_other _ _ _ _ e] at hm
     obtain ⟨r, h1, rfl⟩ := (hin k).1 hm
     exact List.mem_map.2 ⟨r, List.mem_filter.2 ⟨h1, by simpa using e⟩, rfl⟩
  ·obtain ⟨h2, h3⟩ := List.mem_filter.1 hr
   have h3' : r.k ≠ key := by simpa using h3
   rw [upd_other _ _ _ _ h3']
   exact h.2 r h2
 ·rw [setL_there l key val hs]
  have hm : ∀ r, r ∈ l.filter (fun r => decide (r.k < key)) ++ [⟨key, val⟩] ++ l.filter (fun r => decide (key < r.k)) ↔ (r ∈ l ∧ r.k ≠ key) ∨ r = ⟨key, val⟩ := fun r => by
   simp only [List.mem_append, List.mem_filter, List.mem_singleton, decide_eq_true_eq]
   constructor
   ·rintro ((⟨a, b⟩ | a) | ⟨a, b⟩)
    ·exact .inl ⟨a, by omega⟩
    ·exact .inr a
    ·exact .inl ⟨a, by omega⟩
   ·rintro (⟨a, b⟩ | a)
    ·by_cases hlt : r.k < key
     ·exact .inl (.inl ⟨a, hlt⟩)
     ·exact .inr ⟨a, by omega⟩
    ·exact .inl (.inr a)
  refine ⟨⟨?_, fun k => ?_⟩, fun r hr => ?_⟩
  ·rw [List.pairwise_map, List.pairwise_append, List.pairwise_append]
   refine ⟨⟨hs.filter _, by simp, fun a ha b hb => ?_⟩, hs.filter _, fun a ha b hb => ?_⟩
   ·have h1 := (List.mem_filter.1 ha).2
    rw [List.mem_singleton.1 hb]
    simpa using h1
   ·have h2 : key < b.k := by simpa using (List.mem_filter.1 hb).2
    rcases List.mem_append.1 ha with h1 | h1
    ·have : a.k < key := by simpa using (List.mem_filter.1 h1).2
     omega
    ·rw [List.mem_singleton.1 h1]; exact h2
  ·constructor
   ·intro hk
    obtain ⟨r, h1, rfl⟩ := List.mem_map.1 hk
    rcases (hm r).1 h1 with ⟨h2, h3⟩ | rfl
    ·rw [upd_other _ _ _ _ h3]
     exact (hin _).2 ⟨r, h2, rfl⟩
    ·rw [upd_same]; rfl
   ·intro hk
    by_cases e : k = key
    ·subst e
     exact List.mem_map.2 ⟨⟨k, val⟩, (hm _).2 (.inr rfl), rfl⟩
    ·rw [upd_other _ _ _ _ e] at hk
     obtain ⟨r, h1, rfl⟩ := (hin k).1 hk
     exact List.mem_map.2 ⟨r, (hm _).2 (.inl ⟨h1, e⟩), rfl⟩
  ·rcases (hm r).1 hr with ⟨h2, h3⟩ | rfl
   ·rw [upd_other _ _ _ _ h3]
    exact h.2 r h2
   ·exact upd_same _ _ _
theorem setStep_len (key val : Int) (l : List Row2) : ∀ st : List Row2 × Bool, (l.foldl (setStep key val) st).1.length + (if (l.foldl (setStep key val) st).2 then 0 else 1) ≤ st.1.length + l.length + (if st.2 then 0 else 1) := by
 induction l with
 | nil => intro st; simp only [List.foldl_nil, List.length_nil, Nat.add_zero]; exact Nat.le_refl _
 | cons r l ih =>
  intro st
  rw [List.foldl_cons]
  refine Nat.le_trans (ih _) ?_
  obtain ⟨o, d⟩ := st
  unfold setStep
  by_cases h1 : r.k = key
  ·by_cases h2 : d = false
   ·subst h2; simp [h1]; try omega
   ·have : d = true := by cases d <;> simp_all
    subst this; simp [h1]; try omega
  ·by_cases h2 : key ≤ r.k
   ·by_cases h3 : d = false
    ·subst h3; simp [h1, h2]; try omega
    ·have : d = true := by cases d <;> simp_all
     subst this; simp [h1, h2]; try omega
   ·simp [h1, h2]; try omega
theorem setL_take (l : List Row2) (key val : Int) (st : List Row2 × Bool) (k : Nat) (h : k < l.length) : (l.take (k + 1)).foldl (setStep key val) st = setStep key val ((l.take k).foldl (setStep key val) st) (l.getD k Row2.z) := by
 rw [List.take_add_one, List.getElem?_eq_getElem h, List.foldl_append, List.getD_eq_getElem?_getD, List.getElem?_eq_getElem h]
 rfl
end Go.Proofs.YtmcajfefagdbnaaGreat
namespace Go.Proofs.YtmcajfefagdbnaaGreat
open Go Go.RowKit
def RowsWf (l : List Row2) : Prop := ∀ i, i < l.length → (Lit.int .i64 (l.getD i Row2.z).k).wf = true ∧ (Lit.int .i64 (l.getD i Row2.z).v).wf = true
theorem RowsWf.rows {l : List Row2} (h : RowsWf l) : RowsIn l := fun r hr => by
 obtain ⟨i, hi, rfl⟩ := List.mem_iff_getElem.1 hr
 have := (h i hi).1
 rw [List.getD_eq_getElem?_getD, List.getElem?_eq_getElem hi] at this
 exact wfI.1 this
theorem pnew_any (ao : Option Addr) (c n : Nat) (l : List Row2) (w : World) (hn : l.length = n) (hl : n ≤ 1048576) (h : 0 < n → ∃ b off, ao = some ⟨b, off, none⟩ ∧ RowsAt w b off l) (hw : RowsWf l) :
  Calls Tryz.prog 39 #[.slice ao n c] w fun e w' => Kept NoBlk w w' ∧ ((¬ Rise l ∧ e = .returned (.tuple #[.pointer none, .int .i64 7])) ∨
   (Rise l ∧ ∃ p, e = .returned (.tuple #[.pointer (some ⟨p, 0, none⟩), .int .i64 0]) ∧ PNewAt w.heap.size w'.heap.size p n l w')) := by
 refine (pNew_any ao c n l w hn hl h hw.rows).mono ?_
 rintro e w' ⟨hk, ⟨h1, rfl⟩ | ⟨h1, L, ow, rfl, h2, h3⟩⟩
 ·exact ⟨hk, .inl ⟨h1, rfl⟩⟩
 ·exact ⟨hk, .inr ⟨h1, L.p, rfl, L, ow, rfl, fun k hk => ⟨h2 k hk, (h3 fun _ => 0).lt k hk⟩, h3 _⟩⟩
end Go.Proofs.YtmcajfefagdbnaaGreat
namespace Go.Proofs.YtmcajfefagdbnaaGreat
open Go Go.RowKit Go.Sort Go.Lib
theorem wrap_add (x y d : Int) : wrap64 (x + wrap64 (y + d)) = IntKind.wrap .i64 (IntKind.wrap .i64 (x + y) + d) := by
 simp only [IntKind.wrap_i64]
 unfold wrap64
 omega
theorem PSt.nextT {L : Lay} {bs : Nat → Nat} {A : List Nat} {ow : Ow} {m : Nat} {mu lv : Int} {s : St} {w w' : World} (h : PSt L bs A ow m mu lv s w) (i : Nat) (hin : 1 ≤ i ∧ i ≤ s.n) (hst : (s.tx i).state = 0) (hnx : (s.tx i).next < (s.tx i).ops.length) (rg : Int → Int) (hk : Kept (Blk (bs i)) w w')
  (hb : ∀ ov rv dv, w.heap[bs i]? = some (.cells #[.int .i64 (i : Int), ov, .int .i64 (s.tx i).stamp, .int .i64 (s.tx i).state, .int .i64 (s.tx i).agains, .int .i64 ((s.tx i).next : Int), .bool (s.tx i).wounded, .bool (s.tx i).waits.isSome, .int .i64 ((s.tx i).regs 0), .int .i64 ((s.tx i).regs 1), .int .i64 ((s.tx i).regs 2), .int .i64 ((s.tx i).regs 3), rv, dv] 146 (0, 0)) →
   w'.heap[bs i]? = some (.cells #[.int .i64 (i : Int), ov, .int .i64 (s.tx i).stamp, .int .i64 (s.tx i).state, .int .i64 (s.tx i).agains, .int .i64 (((s.tx i).next + 1 : Nat) : Int), .bool (s.tx i).wounded, .bool (s.tx i).waits.isSome, .int .i64 (rg 0), .int .i64 (rg 1), .int .i64 (rg 2), .int .i64 (rg 3), rv, dv] 146 (0, 0))) :
  PSt L bs A ow m mu lv (s.withTx (upd s.tx i { s.tx i with next := (s.tx i).next + 1, regs := rg })) w' ∧ Kept (OwnP ow) w w' := by
 obtain ⟨hbt, hbo⟩ := h.ownT hin
 have hk2 : Kept (fun k => ow k = (8, (i : Int)) ∨ ow k = (9, (i : Int))) w w' := hk.mono (fun k e => by cases e; exact .inl hbt)
 refine ⟨h.turnTx i _ hk2 (AgreeP.refl _ _) (fun k hk0 => Nat.lt_of_lt_of_le (h.lt k hk0) hk.size) (fun _ _ => ?_), hk.mono (fun k e => by cases e; exact hbo)⟩
 obtain ⟨ov, rv, dv, h1, h2, h3, h4, h5⟩ := h.txs i hin.1 hin.2
 have hsm : ∀ k, k < w.heap.size → ow k = (9, (i : Int)) → w'.heap[k]? = w.heap[k]? := fun k hk1 e => hk.block k hk1 (fun x => by cases x; rw [h2] at e; exact tagNe (by omega) e)
 obtain ⟨y1, y2⟩ := h5 hst
 obtain ⟨l1, l2, l3, l4, l5, cs, l6, l7⟩ := y2.kept (AgreeP.refl _ _) hsm
 exact ⟨ov, rv, dv, hb ov rv dv h1, h2, h3.kept (AgreeP.refl _ _) hsm, h4, fun _ => ⟨Nat.le_succ_of_le y1, l1, l2, l3, hnx, Nat.le_succ_of_le l5, cs, l6, l7⟩⟩
set_option maxRecDepth 20000 in
set_option maxHeartbeats 1600000 in
theorem do_add (p b a c : Nat) (d x y n : Int) (w : World) (ha : a < 4) (hc : c < 4) (hn : 0 ≤ n ∧ n ≤ 12) (h5 : w.cell? ⟨b, 5, none⟩ = some (.int .i64 n)) (hx : w.cell? ⟨b, 8 + a, none⟩ = some (.int .i64 x)) (hy : w.cell? ⟨b, 8 + c, none⟩ = some (.int .i64 y)) (hf : ∀ j, w.frozen? ⟨b, j, none⟩ = false) :
  Calls Tryz.prog 97 #[.pointer (some ⟨p, 0, none⟩), .pointer (some ⟨b, 0, none⟩), .agg #[.int .i64 4, .int .i64 (a : Int), .int .i64 (c : Int), .int .i64 d]] w fun e w' => e = .returned (.tuple #[]) ∧ ∃ W, Kept NoBlk w W ∧ w' = ((W.setCell ⟨b, 8 + a, none⟩ (.int .i64 (wrap64 (x + wrap64 (y + d))))).drew).setCell ⟨b, 5, none⟩ (.int .i64 (n + 1)) := by
 have hbl := World.block_lt_of_cell? w _ h5
 have hbx := block_alloc_new w (.cells #[.int .i64 4, .int .i64 (a : Int), .int .i64 (c : Int), .int .i64 d] 114)
 have z0 : (w.alloc (.cells #[.int .i64 4, .int .i64 (a : Int), .int .i64 (c : Int), .int .i64 d] 114)).cell? ⟨w.heap.size, 0, none⟩ = some (.int .i64 4) := by rw [cell_at hbx]; rfl
 have z1 : (w.alloc (.cells #[.int .i64 4, .int .i64 (a : Int), .int .i64 (c : Int), .int .i64 d] 114)).cell? ⟨w.heap.size, 1, none⟩ = some (.int .i64 (a : Int)) := by rw [cell_at hbx]; rfl
 have z2 : (w.alloc (.cells #[.int .i64 4, .int .i64 (a : Int), .int .i64 (c : Int), .int .i64 d] 114)).cell? ⟨w.heap.size, 2, none⟩ = some (.int .i64 (c : Int)) := by rw [cell_at hbx]; rfl
 have z3 : (w.alloc (.cells #[.int .i64 4, .int .i64 (a : Int), .int .i64 (c : Int), .int .i64 d] 114)).cell? ⟨w.heap.size, 3, none⟩ = some (.int .i64 d) := by rw [cell_at hbx]; rfl
 have hk0 : Kept NoBlk w (w.alloc (.cells #[.int .i64 4, .int .i64 (a : Int), .int .i64 (c : Int), .int .i64 d] 114)) := (Kept.refl _ _).alloc _
 have HK0 : Hid (Kept NoBlk w (w.alloc (.cells #[.int .i64 4, .int .i64 (a : Int), .int .i64 (c : Int), .int .i64 d] 114))) := hk0
 have g5 := hk0.cell0 h5
 have gx := hk0.cell0 hx
 have gy := hk0.cell0 hy
 have gf : ∀ j, (w.alloc (.cells #[.int .i64 4, .int .i64 (a : Int), .int .i64 (c : Int), .int .i64 d] 114)).frozen? ⟨b, j, none⟩ = false := fun j => by
  obtain ⟨o, ho⟩ : ∃ o, w.heap[b]? = some o := ⟨w.heap[b], by simp [hbl]⟩
  have h1 := hf j
  unfold World.frozen? at h1 ⊢
  simp only [block_alloc_old _ ho] 
  simpa only [ho] using h1
 clear hbx h5 hx hy hf hk0
 go_enter Tryz.func97, Tryz.ntmps97
 go_wp2_with fail
 generalize w.alloc (.cells #[.int .i64 4, .int .i64 (a : Int), .int .i64 (c : Int), .int .i64 d] 114) = W0 at *
 go_region
 have q5 : ∀ v, ((W0.setCell ⟨b, 8 + a, none⟩ v).drew).cell? ⟨b, 5, none⟩ = some (.int .i64 n) := fun v => by
  show (W0.setCell ⟨b, 8 + a, none⟩ v).cell? ⟨b, 5, none⟩ = _
  have e : (⟨b, 8 + a, none⟩ : Addr) ≠ ⟨b, 5, none⟩ := by intro e; simp only [Addr.mk.injEq] at e; omega
  exact (World.cell?_setCell_other W0 _ _ v e).trans g5
 have qf : ∀ v, ((W0.setCell ⟨b, 8 + a, none⟩ v).drew).frozen? ⟨b, 5, none⟩ = false := fun v => by
  show (W0.setCell ⟨b, 8 + a, none⟩ v).frozen? ⟨b, 5, none⟩ = _
  rw [World.frozen?_setCell]
  exact gf 5
 have HE : Hid (∃ W, Kept NoBlk w W ∧ ((W0.setCell ⟨b, 8 + a, none⟩ (.int .i64 (wrap64 (x + wrap64 (y + d))))).drew).setCell ⟨b, 5, none⟩ (.int .i64 (n + 1)) = ((W.setCell ⟨b, 8 + a, none⟩ (.int .i64 (wrap64 (x + wrap64 (y + d))))).drew).setCell ⟨b, 5, none⟩ (.int .i64 (n + 1))) := ⟨W0, HK0.out, rfl⟩
 have q5' := q5 (.int .i64 (wrap64 (x + wrap64 (y + d))))
 have qf' := qf (.int .i64 (wrap64 (x + wrap64 (y + d))))
 clear q5 qf g5 gx gy gf z0 z1 z2 z3
 generalize (W0.setCell ⟨b, 8 + a, none⟩ (.int .i64 (wrap64 (x + wrap64 (y + d))))).drew = W1 at *
 obtain ⟨hn0, hn1⟩ := hn
 go_wp2_with fail
 go_end0
 exact ⟨rfl, HE.out⟩
set_option maxRecDepth 20000 in
set_option maxHeartbeats 1600000 in
theorem do_stop (p b : Nat) (a c d n : Int) (w : World) (hn : 0 ≤ n ∧ n ≤ 12) (h5 : w.cell? ⟨b, 5, none⟩ = some (.int .i64 n)) (hf : ∀ j, w.frozen? ⟨b, j, none⟩ = false) :
  Calls Tryz.prog 97 #[.pointer (some ⟨p, 0, none⟩), .pointer (some ⟨b, 0, none⟩), .agg #[.int .i64 5, .int .i64 a, .int .i64 c, .int .i64 d]] w fun e w' => e = .returned (.tuple #[]) ∧ ∃ W, Kept NoBlk w W ∧ w' = W.setCell ⟨b, 5, none⟩ (.int .i64 (n + 1)) := by
 have hbl := World.block_lt_of_cell? w _ h5
 have hbx := block_alloc_new w (.cells #[.int .i64 5, .int .i64 a, .int .i64 c, .int .i64 d] 114)
 have z0 : (w.alloc (.cells #[.int .i64 5, .int .i64 a, .int .i64 c, .int .i64 d] 114)).cell? ⟨w.heap.size, 0, none⟩ = some (.int .i64 5) := by rw [cell_at hbx]; rfl
 have hk0 : Kept NoBlk w (w.alloc (.cells #[.int .i64 5, .int .i64 a, .int .i64 c, .int .i64 d] 114)) := (Kept.refl _ _).alloc _
 have HK0 : Hid (Kept NoBlk w (w.alloc (.cells #[.int .i64 5, .int .i64 a, .int .i64 c, .int .i64 d] 114))) := hk0
 have g5 := hk0.cell0 h5
 have gf : (w.alloc (.cells #[.int .i64 5, .int .i64 a, .int .i64 c, .int .i64 d] 114)).frozen? ⟨b, 5, none⟩ = false := by
  obtain ⟨o, ho⟩ : ∃ o, w.heap[b]? = some o := ⟨w.heap[b], by simp [hbl]⟩
  have h1 := hf 5
  unfold World.frozen? at h1 ⊢
  simp only [block_alloc_old _ ho]
  simpa only [ho] using h1
 obtain ⟨hn0, hn1⟩ := hn
 clear hbx h5 hf hk0
 go_enter Tryz.func97, Tryz.ntmps97
 go_wp2_with fail
 go_end0
 exact ⟨rfl, _, HK0.out, by simp [go_sem, hbl]⟩
theorem Kept.set5 (w : World) (b o o' : Nat) (v v' : Value) : Kept (Blk b) w (((w.setCell ⟨b, o, none⟩ v).drew).setCell ⟨b, o', none⟩ v') := ((Kept.set1 w b o v).drew).trans' (Kept.set1 _ b o' v')
theorem PSt.tcells {L : Lay} {bs : Nat → Nat} {A : List Nat} {ow : Ow} {m : Nat} {mu lv : Int} {s : St} {w : World} (h : PSt L bs A ow m mu lv s w) {i : Nat} (hin : 1 ≤ i ∧ i ≤ s.n) :
  w.cell? ⟨bs i, 5, none⟩ = some (.int .i64 ((s.tx i).next : Int)) ∧ (∀ a : Nat, a < 4 → w.cell? ⟨bs i, 8 + a, none⟩ = some (.int .i64 ((s.tx i).regs (a : Int)))) ∧ ∀ j, w.frozen? ⟨bs i, j, none⟩ = false := by
 obtain ⟨ov, rv, dv, h1, _⟩ := h.txs i hin.1 hin.2
 refine ⟨by rw [cell_at h1]; rfl, fun a ha => ?_, frozen_at h1⟩
 rw [cell_at h1]
 match a, ha with
 | 0, _ => rfl
 | 1, _ => rfl
 | 2, _ => rfl
 | 3, _ => rfl
theorem reg_nat {a : Int} (h : regB a = true) : ∃ k : Nat, a = (k : Int) ∧ k < 4 := by
 simp only [regB, Bool.and_eq_true, decide_eq_true_eq] at h
 exact ⟨a.toNat, by omega, by omega⟩
theorem pdo_add {L : Lay} {bs : Nat → Nat} {A : List Nat} {ow : Ow} {m : Nat} {mu lv : Int} {s : St} {w : World} (h : PSt L bs A ow m mu lv s w) (i : Nat) (hi : i ∈ A) (hst : (s.tx i).state = 0) (hnx : (s.tx i).next < (s.tx i).ops.length) (h12 : (s.tx i).ops.length ≤ 12) (o : Op4) (ho : o.ok = true) (h4 : o.k = 4) :
  Calls Tryz.prog 97 #[.pointer (some ⟨L.p, 0, none⟩), .pointer (some ⟨bs i, 0, none⟩), .agg #[.int .i64 o.k, .int .i64 o.a, .int .i64 o.b, .int .i64 o.c]] w fun e w' => e = .returned (.tuple #[]) ∧ (∃ ow', PSt L bs A ow' (m + 1) mu lv (s.doOp i o) w' ∧ AgreeP w ow ow') ∧ Kept (OwnP ow) w w' := by
 have hin := h.among i hi
 obtain ⟨c5, cr, cf⟩ := h.tcells hin
 obtain ⟨k, a, b, c⟩ := o
 simp only at h4
 subst h4
 have hok : (regB a && regB b) = true := ho
 rw [Bool.and_eq_true] at hok
 obtain ⟨a, rfl, ha⟩ := reg_nat hok.1
 obtain ⟨b, rfl, hb⟩ := reg_nat hok.2
 refine (do_add L.p (bs i) a b c _ _ _ w ha hb ⟨by omega, by omega⟩ c5 (cr a ha) (cr b hb) cf).mono ?_
 rintro e w' ⟨rfl, W, hk, rfl⟩
 obtain ⟨z1, z2⟩ := (h.kept0 hk).nextT i hin hst hnx (upd (s.tx i).regs (a : Int) (IntKind.wrap .i64 (IntKind.wrap .i64 ((s.tx i).regs a + (s.tx i).regs b) + c))) (Kept.set5 W (bs i) (8 + a) 5 (.int .i64 (wrap64 ((s.tx i).regs a + wrap64 ((s.tx i).regs b + c)))) (.int .i64 (((s.tx i).next : Int) + 1))) (fun ov rv dv e => by
  have e1 := block_setCell (o := 8 + a) e (.int .i64 (wrap64 ((s.tx i).regs a + wrap64 ((s.tx i).regs b + c))))
  have e2 := block_setCell (w := (W.setCell ⟨bs i, 8 + a, none⟩ (.int .i64 (wrap64 ((s.tx i).regs a + wrap64 ((s.tx i).regs b + c))))).drew) (o := 5) e1 (.int .i64 (((s.tx i).next : Int) + 1))
  rw [e2, wrap_add]
  match a, ha with
  | 0, _ => rfl
  | 1, _ => rfl
  | 2, _ => rfl
  | 3, _ => rfl)
 exact ⟨rfl, ⟨ow, (z1.mono (Nat.le_succ _)).congr rfl rfl rfl rfl rfl rfl, AgreeP.refl _ _⟩, (hk.mono (fun _ x => x.elim)).trans' z2⟩
theorem pdo_stop {L : Lay} {bs : Nat → Nat} {A : List Nat} {ow : Ow} {m : Nat} {mu lv : Int} {s : St} {w : World} (h : PSt L bs A ow m mu lv s w) (i : Nat) (hi : i ∈ A) (hst : (s.tx i).state = 0) (hnx : (s.tx i).next < (s.tx i).ops.length) (h12 : (s.tx i).ops.length ≤ 12) (o : Op4) (h5 : o.k = 5) :
  Calls Tryz.prog 97 #[.pointer (some ⟨L.p, 0, none⟩), .pointer (some ⟨bs i, 0, none⟩), .agg #[.int .i64 o.k, .int .i64 o.a, .int .i64 o.b, .int .i64 o.c]] w fun e w' => e = .returned (.tuple #[]) ∧ (∃ ow', PSt L bs A ow' (m + 1) mu lv (s.doOp i o) w' ∧ AgreeP w ow ow') ∧ Kept (OwnP ow) w w' := by
 have hin := h.among i hi
 obtain ⟨c5, cr, cf⟩ := h.tcells hin
 obtain ⟨k, a, b, c⟩ := o
 simp only at h5
 subst h5
 refine (do_stop L.p (bs i) a b c _ w ⟨by omega, by omega⟩ c5 cf).mono ?_
 rintro e w' ⟨rfl, W, hk, rfl⟩
 obtain ⟨z1, z2⟩ := (h.kept0 hk).nextT i hin hst hnx (s.tx i).regs (Kept.set1 W (bs i) 5 (.int .i64 (((s.tx i).next : Int) + 1))) (fun ov rv dv e => block_setCell (o := 5) e _)
 exact ⟨rfl, ⟨ow, (z1.mono (Nat.le_succ _)).congr rfl rfl rfl rfl rfl rfl, AgreeP.refl _ _⟩, (hk.mono (fun _ x => x.elim)).trans' z2⟩
end Go.Proofs.YtmcajfefagdbnaaGreat
namespace Go.Proofs.YtmcajfefagdbnaaGreat
open Go Go.RowKit Go.Maps
theorem rowCells_get (l : List Row2) (i : Nat) (h : i < l.length) : (rowCells l)[i * 2]? = some (.int .i64 (l.getD i Row2.z).k) ∧ (rowCells l)[i * 2 + 1]? = some (.int .i64 (l.getD i Row2.z).v) := by
 induction l generalizing i with
 | nil => simp at h
 | cons r l ih =>
  match i with
  | 0 => simp [rowCells, Row2.cells]
  | i + 1 =>
   have := ih i (by simpa using h)
   have e : rowCells (r :: l) = .int .i64 r.k :: .int .i64 r.v :: rowCells l := by simp [rowCells, Row2.cells]
   rw [e, show (i + 1) * 2 = i * 2 + 1 + 1 from by omega]
   simp only [List.getElem?_cons_succ, List.getD_cons_succ]
   exact this
theorem rowPads_low (l : List Row2) (i : Nat) (h : i < l.length) : (rowCells l ++ pads)[i * 2]? = some (.int .i64 (l.getD i Row2.z).k) ∧ (rowCells l ++ pads)[i * 2 + 1]? = some (.int .i64 (l.getD i Row2.z).v) := by
 have hl := rowCells_len l
 rw [List.getElem?_append_left (by omega), List.getElem?_append_left (by omega)]
 exact rowCells_get l i h
theorem rowsAt_given {w : World} {g : Nat} {l : List Row2} {t : TypeId} (h : w.heap[g]? = some (.cells (rowCells l ++ pads).toArray t (0, 0))) : RowsAt w g 0 l := fun i hi => by
 have := rowPads_low l i hi
 rw [cell_at h, cell_at h, List.getElem?_toArray, List.getElem?_toArray, Nat.zero_add]
 exact this
theorem set2_behind {cs : Array Value} {L : List Value} {m : Nat} {a b : Value} (h : ∀ j, m ≤ j → cs[j]? = L[j]?) : ∀ j, m + 2 ≤ j → ((cs.setIfInBounds m a).setIfInBounds (m + 1) b)[j]? = L[j]? := by
 intro j hj
 rw [Array.getElem?_setIfInBounds, Array.getElem?_setIfInBounds, if_neg (by omega), if_neg (by omega)]
 exact h j (by omega)
def PairNew (w w' : World) (x o : Nat) (l : List Row2) : Prop :=
 (¬ Rise l ∧ w'.heap[x]? = some (.cells #[.pointer none, .pointer none, .pointer (some ⟨o, 0, none⟩)] 38 (0, 0))) ∨
 (Rise l ∧ ∃ p q rv hi, w'.heap[x]? = some (.cells #[.pointer (some ⟨p, 0, none⟩), .pointer (some ⟨q, 0, none⟩), .pointer (some ⟨o, 0, none⟩)] 38 (0, 0)) ∧
  PNewAt w.heap.size hi p l.length l w' ∧ hi ≤ q ∧ hi ≤ x ∧
  w.heap.size ≤ q ∧ (∀ k, rv.ownBlock = some k → w.heap.size ≤ k ∧ hi ≤ k) ∧ w'.ownsRow 0 95 2 rv l.length (rowCells l) ∧
  w'.heap[q]? = some (.cells #[rv, .slice none 0 0, .slice none 0 0, .slice none 0 0, .int .i64 0] 47 (0, 0)))
set_option maxRecDepth 100000 in
set_option maxHeartbeats 6400000 in
theorem begun_any (ao : Option Addr) (c n o : Nat) (l : List Row2) (w : World) (hn : l.length = n) (hl : n ≤ 1048576) (h : 0 < n → ∃ b off, ao = some ⟨b, off, none⟩ ∧ RowsAt w b off l) (hw : RowsWf l) :
  Calls Tryz.prog 14 #[.slice ao n c, .pointer (some ⟨o, 0, none⟩)] w fun e w' => ∃ x, e = .returned (.tuple #[.pointer (some ⟨x, 0, none⟩), .bool true]) ∧ w.heap.size ≤ x ∧ Kept NoBlk w w' ∧ PairNew w w' x o l := by
 have HN : Hid _ := hn
 have HH : Hid (0 < n → ∃ b off, ao = some ⟨b, off, none⟩ ∧ RowsAt w b off l) := h
 have HW : Hid (RowsWf l) := hw
 have HS : Hid (RowsSrc w (.slice ao n c) l) := ⟨ao, c, by rw [hn], by rw [hn]; exact h⟩
 clear hn h hw
 go_enter Tryz.func14, Tryz.ntmps14
 go_wp2_with fail
 refine (given_any (.slice ao n c) n l w HN.out hl (by have := (show RowsSrc w (.slice ao n c) l from HS.out).mem; rw [HN.out] at this; exact this)).mono ?_
 rintro e w1 ⟨rfl, hg1, hk1⟩
 generalize hG : w.heap.size = g at hg1 ⊢
 have HG : Hid _ := hG
 have HG1 : Hid _ := hg1
 have HK1 : Hid _ := hk1
 clear hG hg1 hk1
 go_wp2_with fail
 refine (pnew_any (some ⟨g, 0, none⟩) (n + 4) n l w1 HN.out hl (fun _ => ⟨g, 0, rfl, rowsAt_given HG1.out⟩) HW.out).mono ?_
 rintro e w2 ⟨hk2, hp2⟩
 have HG2 : Hid _ := hk2.heap HG1.out (fun x => x)
 have HK2 : Hid _ := HK1.out.trans' hk2
 obtain ⟨po, ev, rfl, hP2⟩ : ∃ (po : Option Addr) (ev : Int), e = .returned (.tuple #[.pointer po, .int .i64 ev]) ∧ ((¬ Rise l ∧ po = none ∧ ev = 7) ∨
   (Rise l ∧ ∃ p, po = some ⟨p, 0, none⟩ ∧ ev = 0 ∧ PNewAt w1.heap.size w2.heap.size p n l w2)) := by
  rcases hp2 with ⟨hr, rfl⟩ | ⟨hr, p, rfl, h1⟩
  ·exact ⟨none, 7, rfl, .inl ⟨hr, rfl, rfl⟩⟩
  ·exact ⟨some ⟨p, 0, none⟩, 0, rfl, .inr ⟨hr, p, rfl, rfl, h1⟩⟩
 have HP2 : Hid _ := hP2
 have HS1 : Hid (w.heap.size ≤ w1.heap.size) := HK1.out.size
 have HSX : Hid (w1.heap.size ≤ w2.heap.size) := hk2.size
 clear hp2 hP2 hk2
 go_wp2_with fail
 refine (wnew_any ao c n l w2 HN.out hl (fun h0 => ?_)).mono ?_
 ·obtain ⟨b, off, e, hat⟩ := HH.out h0
  exact ⟨b, off, e, hat.kept HK2.out (fun x => x)⟩
 rintro e w3 ⟨hk3, hq3⟩
 have HG3 : Hid _ := hk3.heap HG2.out (fun x => x)
 have HK3 : Hid _ := HK2.out.trans' hk3
 have HKs : Hid _ := hk3
 obtain ⟨qo, fv, rfl, hQ3⟩ : ∃ (qo : Option Addr) (fv : Int), e = .returned (.tuple #[.pointer qo, .int .i64 fv]) ∧ ((¬ Rise l ∧ qo = none ∧ fv = 7) ∨
   (Rise l ∧ ∃ p rv, qo = some ⟨p, 0, none⟩ ∧ fv = 0 ∧ w2.heap.size ≤ p ∧ (∀ k, rv.ownBlock = some k → w2.heap.size ≤ k) ∧ w3.ownsRow 0 95 2 rv n (rowCells l) ∧
    w3.heap[p]? = some (.cells #[rv, .slice none 0 0, .slice none 0 0, .slice none 0 0, .int .i64 0] 47 (0, 0)))) := by
  rcases hq3 with ⟨hr, rfl⟩ | ⟨hr, p, rv, rfl, h1, h2, h3, h4⟩
  ·exact ⟨none, 7, rfl, .inl ⟨hr, rfl, rfl⟩⟩
  ·exact ⟨some ⟨p, 0, none⟩, 0, rfl, .inr ⟨hr, p, rv, rfl, rfl, h1, h2, h3, h4⟩⟩
 have HQ3 : Hid _ := hQ3
 clear hq3 hQ3 hk3
 go_wp2_with fail
 have hgl := lt_of_block HG1.out
 have hgw : ∀ b, (Value.slice ao n c).ownBlock = some b → 0 < n → b ≠ g := fun b hb h0 e => by
  obtain ⟨b', off, e', hat⟩ := HH.out h0
  subst e'
  simp [Value.ownBlock] at hb
  subst hb
  have h1 := (hat 0 (by rw [HN.out]; exact h0)).1
  have := World.block_lt_of_cell? w _ h1
  have := HG.out
  simp only at *
  omega
 have HGW : Hid _ := hgw
 have HGL : Hid _ := hgl
 clear hgw hgl
 go_loopw [12, 13] (fun b i wr => ∃ k : Nat, k ≤ n + 4 ∧ b = .bool true ∧ i = .int .i64 k ∧ Kept (Blk g) w3 wr ∧ ∃ cs : Array Value, cs.size = (n + 4) * 2 ∧ wr.heap[g]? = some (.cells cs 95 (0, 0)) ∧ ∀ j, k * 2 ≤ j → cs[j]? = (rowCells l ++ pads)[j]?) (fun _ i _ => n + 4 - (intOf i).toNat)
 case atStart => exact ⟨0, Nat.zero_le _, rfl, rfl, Kept.refl _ _, (rowCells l ++ pads).toArray, by have := rowCells_len l; have := HN.out; simp [pads]; omega, HG3.out, fun j _ => by rw [List.getElem?_toArray]⟩
 case round =>
  obtain ⟨k, hk, rfl, rfl, hkw, cs, hsz, hg, hpre⟩ := hrel
  by_cases hlt : k < n + 4
  ·have hf : ∀ o, wr.frozen? ⟨g, o, none⟩ = false := fun o => frozen_at hg o
   have HG2 : Hid (((wr.setCell ⟨g, k * 2, none⟩ (.int .i64 k)).setCell ⟨g, k * 2 + 1, none⟩ (.int .i64 (-9))).heap[g]? = some (.cells ((cs.setIfInBounds (k * 2) (.int .i64 k)).setIfInBounds (k * 2 + 1) (.int .i64 (-9))) 95 (0, 0))) := block_setCell (block_setCell hg _) _
   have HKW0 : Hid _ := hkw
   have HS2 : Hid (∀ j, k * 2 + 2 ≤ j → ((cs.setIfInBounds (k * 2) (.int .i64 k)).setIfInBounds (k * 2 + 1) (.int .i64 (-9)))[j]? = (rowCells l ++ pads)[j]?) := set2_behind hpre
   have HZ : Hid _ := hsz
   have i0 : (0 : Int) ≤ (k : Int) := by omega
   have i1 : (k : Int) < (n : Int) + 4 := by omega
   have i1' : (k : Int) < ((n + 4 : Nat) : Int) := by omega
   by_cases hkn : k < n
   ·obtain ⟨b, off, rfl, hat⟩ := HH.out (by omega)
    have hbg : b ≠ g := HGW.out b rfl (by omega)
    obtain ⟨g0, g1⟩ := ((hat.kept HK3.out (fun x => x)).kept hkw hbg) k (by rw [HN.out]; exact hkn)
    have hp := rowPads_low l k (by rw [HN.out]; exact hkn)
    have c0 : wr.cell? ⟨g, k * 2, none⟩ = some (.int .i64 (l.getD k Row2.z).k) := by rw [cell_at hg, hpre _ (Nat.le_refl _)]; exact hp.1
    have c1 : wr.cell? ⟨g, k * 2 + 1, none⟩ = some (.int .i64 (l.getD k Row2.z).v) := by rw [cell_at hg, hpre _ (by omega)]; exact hp.2
    have i2 : (k : Int) < (n : Int) := by omega
    have e1 : ((l.getD k Row2.z).k == (l.getD k Row2.z).k) = true := by simp
    have e2 : ((l.getD k Row2.z).v == (l.getD k Row2.z).v) = true := by simp
    clear hp hpre hg hkw hsz hat
    generalize l.getD k Row2.z = r at *
    go_wp2_with fail
    have i3 : decide (n ≤ k) = false := by simp; omega
    go_quiet (fail)
    go_wp2_with fail
    exact ⟨⟨k + 1, by omega, rfl, by go_num, ((HKW0.out.drewN _).setCell (p := ⟨g, _, none⟩) (.inl rfl) _).setCell (p := ⟨g, _, none⟩) (.inl rfl) _, _, by simp [HZ.out], HG2.out, fun j hj => HS2.out j (by omega)⟩, by simp [intOf]; omega⟩
   ·have hp := rowPads_get l (k - n) (by omega)
    rw [HN.out, show n + (k - n) = k from by omega] at hp
    have c0 : wr.cell? ⟨g, k * 2, none⟩ = some (.int .i64 77) := by rw [cell_at hg, hpre _ (Nat.le_refl _)]; exact hp.1
    have c1 : wr.cell? ⟨g, k * 2 + 1, none⟩ = some (.int .i64 0) := by rw [cell_at hg, hpre _ (by omega)]; exact hp.2
    clear hp hpre hg hkw hsz
    go_wp2_with fail
    have i2 : decide ((k : Int) < (n : Int)) = false := by simp; omega
    have i2' : decide (k < n) = false := by simp; omega
    have i3 : decide (n ≤ k) = true := by simp; omega
    go_quiet (fail)
    go_wp2_with fail
    exact ⟨⟨k + 1, by omega, rfl, by go_num, ((HKW0.out.drewN _).setCell (p := ⟨g, _, none⟩) (.inl rfl) _).setCell (p := ⟨g, _, none⟩) (.inl rfl) _, _, by simp [HZ.out], HG2.out, fun j hj => HS2.out j (by omega)⟩, by simp [intOf]; omega⟩
  ·have HKW3 : Hid _ := hkw
   clear hpre hg hkw hsz
   have hgw : w.heap.size ≤ g := Nat.le_of_eq HG.out
   have hKf : Kept NoBlk w wr := HK3.out.trans HKW3.out (fun i x => .inr (by cases x; exact hgw))
   have hs3 : w2.heap.size ≤ w3.heap.size := HKs.out.size
   have hsr : w3.heap.size ≤ wr.heap.size := HKW3.out.size
   have hs1 := HS1.out
   have hsx := HSX.out
   have hgl := HGL.out
   rcases HP2.out with ⟨hr, rfl, rfl⟩ | ⟨hr, p, rfl, rfl, p1⟩
   ·rcases HQ3.out with ⟨_, rfl, rfl⟩ | ⟨hr', _⟩
    ·have HR : Hid (¬ Rise l) := hr
     have HKF : Hid _ := hKf
     have HSS : Hid (w.heap.size ≤ wr.heap.size) := hKf.size
     clear hr hKf HP2 HQ3 hs3 hsr hs1 hsx hgl hgw
     go_wp2_with fail
     go_ret2
     exact ⟨wr.heap.size, rfl, HSS.out, HKF.out.alloc _, .inl ⟨HR.out, block_alloc_new wr _⟩⟩
    ·exact absurd hr' hr
   ·rcases HQ3.out with ⟨hr', _⟩ | ⟨_, q, rv, rfl, rfl, q1, q2, q3, q4⟩
    ·exact absurd hr hr'
    ·have HR : Hid (Rise l) := hr
     have HKF : Hid _ := hKf
     have HSS : Hid (w.heap.size ≤ wr.heap.size) := hKf.size
     have hql := lt_of_block q4
     have hqg : q ≠ g := by omega
     have hpn : PNewAt w1.heap.size w2.heap.size p n l wr := (p1.kept HKs.out (fun _ _ _ x => x)).kept HKW3.out (fun k k1 k2 x => by unfold Blk at x; omega)
     have hq3' := HKW3.out.heap q4 hqg
     have hrv := ownsRow_kept q3 HKW3.out (fun b hb e => by have := q2 b hb; unfold Blk at e; omega)
     have HPP : Hid (PNewAt w1.heap.size w2.heap.size p n l wr) := hpn
     have HQQ : Hid _ := hq3'
     have HRV : Hid (wr.ownsRow 0 95 2 rv n (rowCells l)) := hrv
     have HNN : Hid (w.heap.size ≤ w1.heap.size ∧ w.heap.size ≤ q ∧ w2.heap.size ≤ q ∧ w2.heap.size ≤ wr.heap.size) := ⟨by omega, by omega, by omega, by omega⟩
     have HRB : Hid (∀ k, rv.ownBlock = some k → w.heap.size ≤ k ∧ w2.heap.size ≤ k) := fun k hk => by have := q2 k hk; omega
     clear hr hKf HP2 HQ3 hs3 hsr hs1 hsx hgl hgw p1 q1 q2 q3 q4 hql hqg hpn hq3' hrv
     go_wp2_with fail
     go_ret2
     have ea : Kept NoBlk wr (wr.alloc (.cells #[.pointer (some ⟨p, 0, none⟩), .pointer (some ⟨q, 0, none⟩), .pointer (some ⟨o, 0, none⟩)] 38)) := (Kept.refl _ _).alloc _
     refine ⟨wr.heap.size, rfl, HSS.out, HKF.out.alloc _, .inr ⟨HR.out, p, q, rv, w2.heap.size, block_alloc_new wr _, by rw [HN.out]; exact (HPP.out.mono HNN.out.1).kept ea (fun _ _ _ x => x), HNN.out.2.2.1, HNN.out.2.2.2, HNN.out.2.1, HRB.out, by rw [HN.out]; exact ownsRow_kept HRV.out ea (fun _ _ x => x), ea.heap HQQ.out (fun x => x)⟩⟩
end Go.Proofs.YtmcajfefagdbnaaGreat
