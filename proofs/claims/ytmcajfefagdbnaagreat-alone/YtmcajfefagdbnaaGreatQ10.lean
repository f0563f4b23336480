import Derived.Test.YtmcajfefagdbnaaGreatQ08
import Derived.Test.YtmcajfefagdbnaaGreatQ07
import Derived.Test.YtmcajfefagdbnaaGreatQ04
namespace Go.Proofs.YtmcajfefagdbnaaGreat
open Go Go.RowKit
structure Lay where
 p : Nat
 vb : Nat
 hb : Nat
 qb : Nat
 q0 : Fin 1152921504606846976
abbrev Ow := Nat → Nat × Int
def RowT (ow : Ow) (tag : Nat × Int) (w : World) (e : TypeId) (size : Nat) (v : Value) (n : Nat) (xs : List Value) : Prop := RowAt w e size v n xs ∧ ∀ k, v.ownBlock = some k → ow k = tag
def AgreeP (w : World) (ow ow' : Ow) : Prop := ∀ k, k < w.heap.size → ow' k = ow k
theorem AgreeP.refl (w : World) (ow : Ow) : AgreeP w ow ow := fun _ _ => rfl
theorem AgreeP.trans {w w' : World} {a b c : Ow} (h : AgreeP w a b) (hs : w.heap.size ≤ w'.heap.size) (k : AgreeP w' b c) : AgreeP w a c := fun i hi => (k i (by omega)).trans (h i hi)
theorem RowT.kept {ow ow' : Ow} {tag : Nat × Int} {w w' : World} {e : TypeId} {size : Nat} {v : Value} {n : Nat} {xs : List Value} (h : RowT ow tag w e size v n xs) (ha : AgreeP w ow ow') (hb : ∀ k, k < w.heap.size → ow k = tag → w'.heap[k]? = w.heap[k]?) : RowT ow' tag w' e size v n xs :=
 ⟨h.1.of_block (fun k hk => hb k (h.1.lt k hk) (h.2 k hk)), fun k hk => by rw [ha k (h.1.lt k hk)]; exact h.2 k hk⟩
theorem RowT.nil (ow : Ow) (tag : Nat × Int) (w : World) (e : TypeId) (size : Nat) : RowT ow tag w e size (.slice none 0 0) 0 [] := ⟨RowAt.nil _ _ _, fun k hk => by simp [Value.ownBlock] at hk⟩
def qcast (q : List (Nat × Int)) : List (Int × Int) := q.map fun x => ((x.1 : Int), x.2)
def seenCells (l : List Saw) : List Value := l.flatMap fun s => [.int .i64 s.key, .bool s.there, .int .i64 s.val]
def winsCells (l : List Nat) : List Value := l.map fun (i : Nat) => .int .i64 (i : Int)
def txPtrs (bs : Nat → Nat) (n : Nat) : List Value := (List.range n).map fun i => .pointer (some ⟨bs (i + 1), 0, none⟩)
def OpWf (o : Op4) : Prop := inI o.a ∧ inI o.b ∧ inI o.c ∧ o.ok = true
def LiveAt (ow : Ow) (p : Nat) (w : World) (i : Nat) (t : Tx) (ov dv : Value) : Prop :=
 RowT ow (9, i) w 114 4 ov t.ops.length (opCells t.ops) ∧ t.ops.length ≤ 12 ∧ (∀ o ∈ t.ops, OpWf o) ∧ t.next ≤ t.ops.length ∧ t.undo.length ≤ t.next ∧
 ∃ cs : List (FuncId × Array Value), RowT ow (9, i) w 1 1 dv t.undo.length (cs.map fnOf) ∧ Backs w (fun k => ow k = (9, (i : Int))) p t.undo cs.reverse
def TxnAt (ow : Ow) (p : Nat) (w : World) (i : Nat) (b : Nat) (t : Tx) : Prop := ∃ ov rv dv,
 w.heap[b]? = some (.cells #[.int .i64 (i : Int), ov, .int .i64 t.stamp, .int .i64 t.state, .int .i64 t.agains, .int .i64 (t.next : Int), .bool t.wounded, .bool t.waits.isSome, .int .i64 (t.regs 0), .int .i64 (t.regs 1), .int .i64 (t.regs 2), .int .i64 (t.regs 3), rv, dv] 146 (0, 0)) ∧
 ow b = (8, (i : Int)) ∧ RowT ow (9, i) w 105 3 rv t.reads.length (seenCells t.reads) ∧ t.reads.length ≤ 12 ∧ (t.state = 0 → t.reads.length ≤ t.next ∧ LiveAt ow p w i t ov dv)
theorem LiveAt.kept {ow ow' : Ow} {p : Nat} {w w' : World} {i : Nat} {t : Tx} {ov dv : Value} (h : LiveAt ow p w i t ov dv) (ha : AgreeP w ow ow') (hb : ∀ k, k < w.heap.size → ow k = (9, (i : Int)) → w'.heap[k]? = w.heap[k]?) : LiveAt ow' p w' i t ov dv := by
 obtain ⟨h1, h2, h3, h4, h5, cs, h6, h7⟩ := h
 exact ⟨h1.kept ha hb, h2, h3, h4, h5, cs, h6.kept ha hb, Backs.of_same (fun k hk e => by rw [ha k hk]; exact e) hb h7⟩
theorem TxnAt.kept {ow ow' : Ow} {p : Nat} {w w' : World} {i : Nat} {b : Nat} {t : Tx} (h : TxnAt ow p w i b t) (ha : AgreeP w ow ow') (hb : ∀ k, k < w.heap.size → ow k = (8, (i : Int)) ∨ ow k = (9, (i : Int)) → w'.heap[k]? = w.heap[k]?) : TxnAt ow' p w' i b t := by
 obtain ⟨ov, rv, dv, h1, h2, h3, h4, h5⟩ := h
 have l1 := lt_of_block h1
 exact ⟨ov, rv, dv, by rw [hb b l1 (.inl h2)]; exact h1, by rw [ha b l1]; exact h2, h3.kept ha (fun k hk e => hb k hk (.inr e)), h4, fun h0 => ⟨(h5 h0).1, (h5 h0).2.kept ha (fun k hk e => hb k hk (.inr e))⟩⟩
def QueueAt (ow : Ow) (w : World) (k : Int) : Option Value → List (Nat × Int) → Prop
 | none, q => q = []
 | some v, q => RowT ow (7, k) w 107 2 v q.length (lkc (qcast q))
theorem QueueAt.kept {ow ow' : Ow} {w w' : World} {k : Int} {o : Option Value} {q : List (Nat × Int)} (h : QueueAt ow w k o q) (ha : AgreeP w ow ow') (hb : ∀ j, j < w.heap.size → ow j = (7, k) → w'.heap[j]? = w.heap[j]?) : QueueAt ow' w' k o q := by
 cases o with
 | none => exact h
 | some v => exact RowT.kept h ha hb
def holdF (lk : Int → Lk) : Int × Int → Option Int := fun x => if 0 ≤ x.2 ∧ (lk x.1).h x.2.toNat ≠ 0 then some ((lk x.1).h x.2.toNat) else none
structure PSt (L : Lay) (bs : Nat → Nat) (A : List Nat) (ow : Ow) (m : Nat) (mu lv : Int) (s : St) (w : World) : Prop where
 lt : ∀ k, ow k ≠ (0, 0) → k < w.heap.size
 tags : ow L.p = (1, 0) ∧ ow L.vb = (2, 0) ∧ ow L.hb = (3, 0) ∧ ow L.qb = (4, 0)
 body : ∃ u tv wv, w.heap[L.p]? = some (.cells #[.int .i32 mu, u, .int .i64 s.clock, .map (some L.vb), tv, .int .i64 lv, .map (some L.hb), .map (some L.qb), wv] 127 (0, 0)) ∧
  RowT ow (5, 0) w 128 1 tv s.n (txPtrs bs s.n) ∧ RowT ow (6, 0) w 3 1 wv s.wins.length (winsCells s.wins)
 vals : MapAt keyI w L.vb m (ivals s.rows)
 hold : MapAt keyH w L.hb m (hvals (holdF s.lk))
 que : ∃ qf, MapAt keyI w L.qb (m + L.q0.val) qf ∧ ∀ k, QueueAt ow w k (qf k) (s.lk k).q
 txs : ∀ i, 1 ≤ i → i ≤ s.n → TxnAt ow L.p w i (bs i) (s.tx i)
 few : A.length ≤ 12
 among : ∀ i ∈ A, 1 ≤ i ∧ i ≤ s.n
 hdom : ∀ k j, (s.lk k).h j ≠ 0 → inI k ∧ j ∈ A
 qdom : ∀ k x, x ∈ (s.lk k).q → inI k ∧ x.1 ∈ A
 rdom : ∀ k, s.rows k ≠ none → inI k
 nmax : s.n ≤ 1099511627776
def OwnP (ow : Ow) : Nat → Prop := fun k => ow k ≠ (0, 0)
theorem PSt.of_same {L : Lay} {bs : Nat → Nat} {A : List Nat} {ow : Ow} {m : Nat} {mu lv : Int} {s : St} {w w' : World} (h : PSt L bs A ow m mu lv s w) (hs : w.heap.size ≤ w'.heap.size) (hb : ∀ k, ow k ≠ (0, 0) → w'.heap[k]? = w.heap[k]?) : PSt L bs A ow m mu lv s w' := by
 obtain ⟨t1, t2, t3, t4⟩ := h.tags
 have ne : ∀ {a b : Nat} {x y : Int}, a ≠ b → ((a, x) : Nat × Int) ≠ (b, y) := fun h e => h (by cases e; rfl)
 have tg : ∀ {t : Nat × Int} {k : Nat}, t.1 ≠ 0 → ow k = t → ow k ≠ (0, 0) := fun h0 e e' => h0 (by rw [← e, e'])
 obtain ⟨u, tv, wv, b1, b2, b3⟩ := h.body
 obtain ⟨qf, q1, q2⟩ := h.que
 exact ⟨fun k hk => Nat.lt_of_lt_of_le (h.lt k hk) hs, h.tags, ⟨u, tv, wv, by rw [hb _ (tg (by simp) t1)]; exact b1, b2.kept (AgreeP.refl _ _) (fun k _ e => hb k (tg (by simp) e)), b3.kept (AgreeP.refl _ _) (fun k _ e => hb k (tg (by simp) e))⟩,
  h.vals.of_same (hb _ (tg (by simp) t2)), h.hold.of_same (hb _ (tg (by simp) t3)), ⟨qf, q1.of_same (hb _ (tg (by simp) t4)), fun k => (q2 k).kept (AgreeP.refl _ _) (fun j _ e => hb j (tg (by simp) e))⟩,
  fun i hi hn => (h.txs i hi hn).kept (AgreeP.refl _ _) (fun k _ e => hb k (e.elim (fun e => tg (by simp) e) (fun e => tg (by simp) e))), h.few, h.among, h.hdom, h.qdom, h.rdom, h.nmax⟩
theorem PSt.kept {L : Lay} {bs : Nat → Nat} {A : List Nat} {ow : Ow} {m : Nat} {mu lv : Int} {s : St} {S : Nat → Prop} {w w' : World} (h : PSt L bs A ow m mu lv s w) (hk : Kept S w w') (hd : ∀ k, ow k ≠ (0, 0) → ¬ S k) : PSt L bs A ow m mu lv s w' :=
 h.of_same hk.size (fun k hs => hk.block k (h.lt k hs) (hd k hs))
theorem PSt.kept0 {L : Lay} {bs : Nat → Nat} {A : List Nat} {ow : Ow} {m : Nat} {mu lv : Int} {s : St} {w w' : World} (h : PSt L bs A ow m mu lv s w) (hk : Kept NoBlk w w') : PSt L bs A ow m mu lv s w' := h.kept hk (fun _ _ x => x)
theorem PSt.mono {L : Lay} {bs : Nat → Nat} {A : List Nat} {ow : Ow} {m m' : Nat} {mu lv : Int} {s : St} {w : World} (h : PSt L bs A ow m mu lv s w) (hm : m ≤ m') : PSt L bs A ow m' mu lv s w := by
 obtain ⟨qf, q1, q2⟩ := h.que
 exact ⟨h.lt, h.tags, h.body, h.vals.mono hm, h.hold.mono hm, ⟨qf, q1.mono (Nat.add_le_add_right hm _), q2⟩, h.txs, h.few, h.among, h.hdom, h.qdom, h.rdom, h.nmax⟩
theorem PSt.cells {L : Lay} {bs : Nat → Nat} {A : List Nat} {ow : Ow} {m : Nat} {mu lv : Int} {s : St} {w : World} (h : PSt L bs A ow m mu lv s w) :
  ∃ u tv wv, w.heap[L.p]? = some (.cells #[.int .i32 mu, u, .int .i64 s.clock, .map (some L.vb), tv, .int .i64 lv, .map (some L.hb), .map (some L.qb), wv] 127 (0, 0)) ∧
   w.cell? ⟨L.p, 3, none⟩ = some (.map (some L.vb)) ∧ w.cell? ⟨L.p, 6, none⟩ = some (.map (some L.hb)) ∧ w.cell? ⟨L.p, 7, none⟩ = some (.map (some L.qb)) ∧ w.cell? ⟨L.p, 4, none⟩ = some tv ∧ RowT ow (5, 0) w 128 1 tv s.n (txPtrs bs s.n) := by
 obtain ⟨u, tv, wv, b1, b2, b3⟩ := h.body
 refine ⟨u, tv, wv, b1, ?_, ?_, ?_, ?_, b2⟩ <;> (rw [cell_at b1]; rfl)
theorem holdF_ok {L : Lay} {bs : Nat → Nat} {A : List Nat} {ow : Ow} {m : Nat} {mu lv : Int} {s : St} {w : World} (h : PSt L bs A ow m mu lv s w) (a : Int × Int) (ha : (holdF s.lk a).isSome = true) : keyH.ok a := by
 unfold holdF at ha
 split at ha
 ·rename_i hx
  obtain ⟨h1, h2⟩ := h.hdom _ _ hx.2
  have h3 := h.among _ h2
  have h4 := h.nmax
  exact ⟨h1, (show -9223372036854775808 ≤ a.2 by omega), (show a.2 ≤ 9223372036854775807 by omega)⟩
 ·cases ha
theorem nodup_len {α : Type} [DecidableEq α] : ∀ (l A : List α), l.Nodup → (∀ x ∈ l, x ∈ A) → l.length ≤ A.length
 | [], A, _, _ => Nat.zero_le _
 | x :: l, A, hn, h => by
  obtain ⟨h1, h2⟩ := List.nodup_cons.1 hn
  have hx := h x (by simp)
  have := nodup_len l (A.erase x) h2 (fun y hy => (List.mem_erase_of_ne (fun e => h1 (by rw [← e]; exact hy))).2 (h y (by simp [hy])))
  rw [List.length_erase_of_mem hx] at this
  have := List.length_pos_of_mem hx
  simp
  omega
theorem holdF_few {L : Lay} {bs : Nat → Nat} {A : List Nat} {ow : Ow} {m : Nat} {mu lv : Int} {s : St} {w : World} (h : PSt L bs A ow m mu lv s w) (row : Int) (l : List Int) (hn : l.Nodup) (hl : ∀ t ∈ l, (holdF s.lk (row, t)).isSome = true) : l.length ≤ 12 := by
 have h1 : (l.map Int.toNat).Nodup := by
  rw [List.Nodup, List.pairwise_map]
  refine hn.imp_of_mem ?_
  intro x y hx hy hne e
  have hx' := hl x hx
  have hy' := hl y hy
  unfold holdF at hx' hy'
  split at hx'
  ·split at hy'
   ·rename_i a b
    have := a.1
    have := b.1
    simp only at *
    omega
   ·cases hy'
  ·cases hx'
 have h2 : ∀ t ∈ l.map Int.toNat, t ∈ A := by
  intro t ht
  obtain ⟨x, hx, rfl⟩ := List.mem_map.1 ht
  have hx' := hl x hx
  unfold holdF at hx'
  split at hx'
  ·rename_i a
   exact (h.hdom _ _ a.2).2
  ·cases hx'
 have h3 := nodup_len _ A h1 h2
 have h4 := h.few
 rw [List.length_map] at h3
 omega
end Go.Proofs.YtmcajfefagdbnaaGreat
namespace Go.Proofs.YtmcajfefagdbnaaGreat
def clr (pre : List (Nat × Int)) (tx : Nat → Tx) : Nat → Tx := fun j => if pre.any (fun x => x.1 == j) then { tx j with waits := none } else tx j
theorem upd_upd {α β : Type} [DecidableEq α] (f : α → β) (i : α) (x y : β) : upd (upd f i x) i y = upd f i y := by
 funext j
 by_cases e : j = i
 ·rw [e, upd_same, upd_same]
 ·rw [upd_other _ _ _ _ e, upd_other _ _ _ _ e, upd_other _ _ _ _ e]
theorem clr_snoc (pre : List (Nat × Int)) (tx : Nat → Tx) (i : Nat) (m : Int) : clr (pre ++ [(i, m)]) tx = upd (clr pre tx) i { clr pre tx i with waits := none } := by
 funext j
 by_cases e : j = i
 ·subst e
  rw [upd_same]
  simp only [clr, List.any_append, List.any_cons, beq_self_eq_true, Bool.true_or, Bool.or_true, if_true]
  split <;> rfl
 ·rw [upd_other _ _ _ _ e]
  have : (i == j) = false := by simpa using fun x => e x.symm
  simp only [clr, List.any_append, List.any_cons, List.any_nil, this, Bool.or_false]
theorem filter_out {q : List (Nat × Int)} {i : Nat} (h : ∀ m, (i, m) ∉ q) : q.filter (fun x => x.1 != i) = q := by
 rw [List.filter_eq_self]
 intro x hx
 simp only [bne_iff_ne, ne_eq]
 intro e
 exact h x.2 (by rw [← e]; exact hx)
theorem settle_two {n : Nat} {h : Nat → Int} {q : List (Nat × Int)} {i : Nat} (hi : ∀ m, (i, m) ∉ q) : (settle n h q).freed n i = settle n (upd h i 0) q := by
 induction q generalizing h with
 | nil => rfl
 | cons x q ih =>
  obtain ⟨j, m⟩ := x
  have hij : j ≠ i := fun e => hi m (by rw [e]; exact List.mem_cons_self)
  have hi' : ∀ m, (i, m) ∉ q := fun m' hm => hi m' (List.mem_cons_of_mem _ hm)
  simp only [settle]
  cases hh : hind n h j m
  ·have hh' : hind n (upd h i 0) j m = false := by
    rw [hind_false] at hh ⊢
    intro a h1 h2 h3
    by_cases e : a = i
    ·subst e; simp at h3
    ·rw [upd_other _ _ _ _ e] at h3 ⊢; exact hh a h1 h2 h3
   rw [hh']
   simp only [Bool.false_eq_true, if_false]
   rw [ih hi']
   congr 1
   funext a
   by_cases ea : a = i
   ·subst ea; rw [upd_same, upd_other _ _ _ _ (fun e => hij e.symm), upd_same]
   ·rw [upd_other _ _ _ _ ea]
    by_cases eb : a = j
    ·subst eb; rw [upd_same, upd_same]
    ·rw [upd_other _ _ _ _ eb, upd_other _ _ _ _ eb, upd_other _ _ _ _ ea]
  ·simp only [if_true]
   show settle n (upd h i 0) (((j, m) :: q).filter (fun x => x.1 != i)) = _
   rw [filter_out hi]
   rfl
theorem freed_same {n : Nat} {l : Lk} {i : Nat} (h0 : l.h i = 0) (hq : ∀ m, (i, m) ∉ l.q) (hs : RowStill n l) : l.freed n i = l := by
 have h1 : upd l.h i 0 = l.h := by
  funext a
  by_cases e : a = i
  ·subst e; rw [upd_same, h0]
  ·rw [upd_other _ _ _ _ e]
 show settle n (upd l.h i 0) (l.q.filter (fun x => x.1 != i)) = l
 rw [h1, filter_out hq]
 exact settle_same n l hs
theorem freed_freed {n : Nat} {l : Lk} {i : Nat} (hq : (l.q.map (·.1)).Nodup) : (l.freed n i).freed n i = l.freed n i :=
 freed_same (freed_no_h n l i hq) (freed_no n l i) (settle_still _ _ _)
theorem settle_once {n : Nat} {h : Nat → Int} {q : List (Nat × Int)} (hq : (q.map (·.1)).Nodup) : ((settle n h q).q.map (·.1)).Nodup := by
 obtain ⟨p, hp⟩ := settle_suffix n h q
 rw [hp, List.map_append, List.nodup_append] at hq
 exact hq.2.1
structure WTx (tx : Nat → Tx) (lk : Int → Lk) (id : Nat) : Prop where
 q : ∀ k j m, j ≠ id → (j, m) ∈ (lk k).q → (tx j).waits = some k
 w : ∀ j k, j ≠ id → (tx j).waits = some k → ∃ m, (j, m) ∈ (lk k).q
def Cleared (tx tx' : Nat → Tx) : Prop := ∀ j, tx' j = tx j ∨ tx' j = { tx j with waits := none }
theorem Cleared.refl (tx : Nat → Tx) : Cleared tx tx := fun _ => .inl rfl
theorem Cleared.clr {tx tx' : Nat → Tx} (h : Cleared tx tx') (pre : List (Nat × Int)) : Cleared tx (clr pre tx') := fun j => by
 simp only [Go.Proofs.YtmcajfefagdbnaaGreat.clr]
 rcases h j with e | e
 ·rw [e]; split
  ·exact .inr rfl
  ·exact .inl rfl
 ·rw [e]; split
  ·exact .inr rfl
  ·exact .inr rfl
theorem pre_any {pre : List (Nat × Int)} {j : Nat} : pre.any (fun x => x.1 == j) = true ↔ ∃ m, (j, m) ∈ pre := by
 rw [List.any_eq_true]
 constructor
 ·rintro ⟨x, h1, h2⟩
  exact ⟨x.2, by rw [← (beq_iff_eq.mp h2)]; exact h1⟩
 ·rintro ⟨m, h1⟩
  exact ⟨(j, m), h1, by simp⟩
theorem WTx.clr {tx : Nat → Tx} {lk : Int → Lk} {id : Nat} (h : WTx tx lk id) {key : Int} {pre : List (Nat × Int)} {l : Lk} (hq : (lk key).q = pre ++ l.q) (hn : ((lk key).q.map (·.1)).Nodup) (hid : ∀ m, (id, m) ∉ (lk key).q) : WTx (clr pre tx) (upd lk key l) id := by
 have out : ∀ j m, (j, m) ∈ l.q → ¬ pre.any (fun x => x.1 == j) = true := by
  intro j m hm ha
  obtain ⟨m', hm'⟩ := pre_any.mp ha
  rw [hq, List.map_append, List.nodup_append] at hn
  exact hn.2.2 j (List.mem_map.mpr ⟨_, hm', rfl⟩) j (List.mem_map.mpr ⟨_, hm, rfl⟩) rfl
 refine ⟨fun k j m hj hm => ?_, fun j k hj hw => ?_⟩
 ·by_cases e : k = key
  ·subst e
   rw [upd_same] at hm
   simp only [Go.Proofs.YtmcajfefagdbnaaGreat.clr, if_neg (out j m hm)]
   exact h.q k j m hj (by rw [hq]; exact List.mem_append_right _ hm)
  ·rw [upd_other _ _ _ _ e] at hm
   have h1 := h.q k j m hj hm
   have : ¬ pre.any (fun x => x.1 == j) = true := fun ha => by
    obtain ⟨m', hm'⟩ := pre_any.mp ha
    have := h.q key j m' hj (by rw [hq]; exact List.mem_append_left _ hm')
    rw [h1] at this
    exact e (Option.some.inj this)
   simp only [Go.Proofs.YtmcajfefagdbnaaGreat.clr, if_neg this]
   exact h1
 ·simp only [Go.Proofs.YtmcajfefagdbnaaGreat.clr] at hw
  split at hw
  ·cases hw
  ·rename_i hp
   obtain ⟨m, hm⟩ := h.w j k hj hw
   by_cases e : k = key
   ·subst e
    rw [upd_same]
    rw [hq] at hm
    rcases List.mem_append.mp hm with hm | hm
    ·exact absurd (pre_any.mpr ⟨m, hm⟩) hp
    ·exact ⟨m, hm⟩
   ·rw [upd_other _ _ _ _ e]
    exact ⟨m, hm⟩
theorem WTx.final {tx tx' : Nat → Tx} {lk' : Int → Lk} {id : Nat} (hT : WTx tx' lk' id) (hc : Cleared tx tx') (hi : (tx id).waits = none) (hid : ∀ k m, (id, m) ∉ (lk' k).q) : tx' = fun j => (tx j).look lk' j := by
 funext j
 by_cases e : j = id
 ·subst e
  rcases hc j with h | h
  ·rw [h]; simp only [Tx.look, hi]; rw [← hi]
  ·rw [h]; simp only [Tx.look, hi]
 ·rcases hc j with h | h
  ·rw [h]
   cases hw : (tx j).waits with
   | none => simp only [Tx.look, hw]; rw [← hw]
   | some k =>
    have h1 : (tx' j).waits = some k := by rw [h, hw]
    obtain ⟨m, hm⟩ := hT.w j k e h1
    have : (lk' k).q.any (fun x => x.1 == j) = true := pre_any.mpr ⟨m, hm⟩
    simp only [Tx.look, hw, this, if_true]
    rw [← hw]
  ·rw [h]
   cases hw : (tx j).waits with
   | none => simp only [Tx.look, hw]
   | some k =>
    have : ¬ (lk' k).q.any (fun x => x.1 == j) = true := fun ha => by
     obtain ⟨m, hm⟩ := pre_any.mp ha
     have := hT.q k j m e hm
     rw [h] at this
     cases this
    simp only [Tx.look, hw, if_neg this]
structure FrM (n : Nat) (tx : Nat → Tx) (lk : Int → Lk) (id : Nat) (lk1 : Int → Lk) (tx1 : Nat → Tx) : Prop where
 wtx : WTx tx1 lk1 id
 cleared : Cleared tx tx1
 goal : ∀ k, (lk1 k).freed n id = (lk k).freed n id
 still : ∀ k, RowStill n (lk1 k)
 once : ∀ k, ((lk1 k).q.map (·.1)).Nodup
 out : ∀ k m, (id, m) ∉ (lk1 k).q
theorem FrM.start {n : Nat} {tx : Nat → Tx} {lk : Int → Lk} {id : Nat} (hT : WTx tx lk id) (hs : ∀ k, RowStill n (lk k)) (hq : ∀ k, ((lk k).q.map (·.1)).Nodup) (hout : ∀ k m, (id, m) ∉ (lk k).q) : FrM n tx lk id lk tx :=
 ⟨hT, Cleared.refl tx, fun _ => rfl, hs, hq, hout⟩
theorem FrM.first {n : Nat} {tx : Nat → Tx} {lk : Int → Lk} {id : Nat} (hT : WTx tx lk id) (hs : ∀ k, RowStill n (lk k)) (hq : ∀ k, ((lk k).q.map (·.1)).Nodup)
  (hone : ∀ k k' m m', (id, m) ∈ (lk k).q → (id, m') ∈ (lk k').q → k = k') {key : Int} {m0 : Int} (hm0 : (id, m0) ∈ (lk key).q) {pre : List (Nat × Int)}
  (hpre : (lk key).q.filter (fun x => x.1 != id) = pre ++ (settle n (lk key).h ((lk key).q.filter (fun x => x.1 != id))).q) :
  FrM n tx lk id (upd lk key (settle n (lk key).h ((lk key).q.filter (fun x => x.1 != id)))) (clr pre tx) := by
 have hno : ∀ m, (id, m) ∉ (lk key).q.filter (fun x => x.1 != id) := fun m hm => by simp at hm
 have hfn : (((lk key).q.filter (fun x => x.1 != id)).map (·.1)).Nodup := List.Sublist.nodup (List.Sublist.map _ List.filter_sublist) (hq key)
 have hT0 : WTx tx (upd lk key ⟨(lk key).h, (lk key).q.filter (fun x => x.1 != id)⟩) id := by
  refine ⟨fun k j m hj hm => ?_, fun j k hj hw => ?_⟩
  ·by_cases e : k = key
   ·subst e
    rw [upd_same] at hm
    exact hT.q k j m hj (List.mem_filter.mp hm).1
   ·rw [upd_other _ _ _ _ e] at hm
    exact hT.q k j m hj hm
  ·obtain ⟨m, hm⟩ := hT.w j k hj hw
   refine ⟨m, ?_⟩
   by_cases e : k = key
   ·subst e
    rw [upd_same]
    exact List.mem_filter.mpr ⟨hm, by simpa using hj⟩
   ·rw [upd_other _ _ _ _ e]; exact hm
 have hT1 := hT0.clr (key := key) (pre := pre) (l := settle n (lk key).h ((lk key).q.filter (fun x => x.1 != id))) (by rw [upd_same]; exact hpre) (by rw [upd_same]; exact hfn) (by rw [upd_same]; exact hno)
 rw [upd_upd] at hT1
 refine ⟨hT1, (Cleared.refl tx).clr pre, fun k => ?_, fun k => ?_, fun k => ?_, fun k m hm => ?_⟩
 ·by_cases e : k = key
  ·subst e
   rw [upd_same, settle_two hno]
   rfl
  ·rw [upd_other _ _ _ _ e]
 ·by_cases e : k = key
  ·subst e; rw [upd_same]; exact settle_still _ _ _
  ·rw [upd_other _ _ _ _ e]; exact hs k
 ·by_cases e : k = key
  ·subst e; rw [upd_same]; exact settle_once hfn
  ·rw [upd_other _ _ _ _ e]; exact hq k
 ·by_cases e : k = key
  ·subst e
   rw [upd_same] at hm
   exact hno m (settle_mem hm)
  ·rw [upd_other _ _ _ _ e] at hm
   exact e (hone k key m m0 hm hm0)
theorem FrM.next {n : Nat} {tx : Nat → Tx} {lk : Int → Lk} {id : Nat} {lk1 : Int → Lk} {tx1 : Nat → Tx} (h : FrM n tx lk id lk1 tx1) {key : Int} {pre : List (Nat × Int)} (hpre : (lk1 key).q = pre ++ (settle n (upd (lk1 key).h id 0) (lk1 key).q).q) :
  FrM n tx lk id (upd lk1 key (settle n (upd (lk1 key).h id 0) (lk1 key).q)) (clr pre tx1) := by
 have hfr : settle n (upd (lk1 key).h id 0) (lk1 key).q = (lk1 key).freed n id := by
  show _ = settle n (upd (lk1 key).h id 0) ((lk1 key).q.filter (fun x => x.1 != id))
  rw [filter_out (h.out key)]
 refine ⟨h.wtx.clr hpre (h.once key) (h.out key), h.cleared.clr pre, fun k => ?_, fun k => ?_, fun k => ?_, fun k m hm => ?_⟩
 ·by_cases e : k = key
  ·subst e
   rw [upd_same, hfr, freed_freed (h.once k), h.goal]
  ·rw [upd_other _ _ _ _ e]; exact h.goal k
 ·by_cases e : k = key
  ·subst e; rw [upd_same]; exact settle_still _ _ _
  ·rw [upd_other _ _ _ _ e]; exact h.still k
 ·by_cases e : k = key
  ·subst e; rw [upd_same]; exact settle_once (h.once k)
  ·rw [upd_other _ _ _ _ e]; exact h.once k
 ·by_cases e : k = key
  ·subst e
   rw [upd_same] at hm
   exact h.out k m (settle_mem hm)
  ·rw [upd_other _ _ _ _ e] at hm
   exact h.out k m hm
theorem FrM.last {n : Nat} {tx : Nat → Tx} {lk : Int → Lk} {id : Nat} {lk1 : Int → Lk} {tx1 : Nat → Tx} (h : FrM n tx lk id lk1 tx1) (hi : (tx id).waits = none) (hno : ∀ k, (lk1 k).h id = 0) :
  lk1 = (fun k => (lk k).freed n id) ∧ tx1 = fun j => (tx j).look (fun k => (lk k).freed n id) j := by
 have hl : lk1 = fun k => (lk k).freed n id := by
  funext k
  rw [← h.goal k]
  exact (freed_same (hno k) (h.out k) (h.still k)).symm
 have ht := h.wtx.final h.cleared hi h.out
 rw [← hl]
 exact ⟨rfl, ht⟩
end Go.Proofs.YtmcajfefagdbnaaGreat
