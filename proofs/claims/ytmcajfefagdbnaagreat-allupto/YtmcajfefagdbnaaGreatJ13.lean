import Derived.Test.YtmcajfefagdbnaaGreatJ08
import Derived.Test.YtmcajfefagdbnaaGreatJ09
namespace Go.Proofs.YtmcajfefagdbnaaGreat
open Go Go.RowKit
def Backs (w : World) (T : Nat → Prop) (p : Nat) : List Saw → List (FuncId × Array Value) → Prop
 | [], [] => True
 | b :: us, x :: xs => PutsBack w T p (fnOf x) b.key b.old ∧ inI b.key ∧ Backs w T p us xs
 | _, _ => False
theorem Backs.of_same {T T' : Nat → Prop} {p : Nat} {w w' : World} (hT : ∀ k, k < w.heap.size → T k → T' k) (hb : ∀ k, k < w.heap.size → T k → w'.heap[k]? = w.heap[k]?) : ∀ {us : List Saw} {xs : List (FuncId × Array Value)}, Backs w T p us xs → Backs w' T' p us xs
 | [], [], _ => trivial
 | _ :: _, _ :: _, h => ⟨h.1.of_same hT hb, h.2.1, Backs.of_same hT hb h.2.2⟩
 | [], _ :: _, h => h.elim
 | _ :: _, [], h => h.elim
theorem Backs.length {w : World} {T : Nat → Prop} {p : Nat} : ∀ {us : List Saw} {xs : List (FuncId × Array Value)}, Backs w T p us xs → us.length = xs.length
 | [], [], _ => rfl
 | _ :: _, _ :: _, h => by simp [Backs.length h.2.2]
 | [], _ :: _, h => h.elim
 | _ :: _, [], h => h.elim
theorem leaves_back (fn : Func) (tmps : Array Value) (p vb : Nat) (T : Nat → Prop) (hT : ¬ T vb) (hpv : p ≠ vb) (hres : ∀ w, (results fn tmps).run Tryz.prog w = .ok (.tuple #[]) w) : ∀ (us : List Saw) (xs : List (FuncId × Array Value)) (f : Int → Option Int) (m : Nat) (w : World) (R : Ending → World → Prop),
  Backs w T p us xs → w.cell? ⟨p, 3, none⟩ = some (.map (some vb)) → MapAt keyI w vb m (ivals f) → m + us.length ≤ maxLen →
  (∀ w', MapAt keyI w' vb (m + us.length) (ivals (back f us)) → Kept (Blk vb) w w' → R (.returned (.tuple #[])) w') → Leaves Tryz.prog fn tmps R (xs.map dfr) .returning w
 | [], [], f, m, w, R, _, _, hm, _, hR => ⟨_, hres w, hR w hm (Kept.refl _ _)⟩
 | b :: us, x :: xs, f, m, w, R, hB, hp, hm, hl, hR => by
  obtain ⟨hb, hi, hB'⟩ := hB
  simp only [List.length_cons] at hl
  have go : ∀ w', MapAt keyI w' vb (m + 1) (ivals (upd f b.key b.old)) → Kept (Blk vb) w w' → Leaves Tryz.prog fn tmps R (xs.map dfr) .returning w' := by
   intro w' hm' hk
   refine leaves_back fn tmps p vb T hT hpv hres us xs (upd f b.key b.old) (m + 1) w' R (Backs.of_same (fun _ _ h => h) (fun k hk1 h => hk.block k hk1 (fun e => hT (by cases e; exact h))) hB') (hk.cell hp hpv) hm' (by omega) ?_
   intro w'' h1 h2
   refine hR w'' ?_ (hk.trans' h2)
   have e : m + (us.length + 1) = m + 1 + us.length := by omega
   simp only [List.length_cons, e]
   exact h1
  obtain ⟨f0, caps⟩ := x
  rw [List.map_cons]
  cases ho : b.old with
  | none =>
   rw [ho] at hb go
   obtain ⟨s, r, h1, h2, h3, _, _⟩ := hb
   simp only [fnOf, Value.func.injEq, Fn.func.injEq, true_and] at h1
   obtain ⟨rfl, rfl⟩ := h1
   refine leaves_cons (f := 155) (args := #[.pointer (some ⟨s, 0, none⟩), .pointer (some ⟨r, 0, none⟩)]) (by simp) (by simp [go_sem]) ?_
   refine (back_none p vb m s r b.key f .returning w hp hm hi h2 h3).mono ?_
   rintro e u' w' ⟨rfl, ⟨v, rfl⟩, hm', hk⟩
   exact go w' hm' hk
  | some v =>
   rw [ho] at hb go
   obtain ⟨x, s, r, h1, h0, h2, h3, _, _, _⟩ := hb
   simp only [fnOf, Value.func.injEq, Fn.func.injEq, true_and] at h1
   obtain ⟨rfl, rfl⟩ := h1
   refine leaves_cons (f := 156) (args := #[.pointer (some ⟨x, 0, none⟩), .pointer (some ⟨s, 0, none⟩), .pointer (some ⟨r, 0, none⟩)]) (by simp) (by simp [go_sem]) ?_
   refine (back_some p vb m x s r b.key v f .returning w hp hm (by omega) hi h0 h2 h3).mono ?_
   rintro e u' w' ⟨rfl, ⟨v, rfl⟩, hm', hk⟩
   exact go w' hm' hk
 | [], _ :: _, _, _, _, _, h, _, _, _, _ => h.elim
 | _ :: _, [], _, _, _, _, h, _, _, _, _ => h.elim
theorem runDeferred_ok (t p vb m n : Nat) (dv : Value) (us : List Saw) (cs : List (FuncId × Array Value)) (f : Int → Option Int) (T : Nat → Prop) (w : World) (hd : w.cell? ⟨t, 13, none⟩ = some dv) (hr : RowAt w 1 1 dv n (cs.map fnOf)) (hn : n ≤ 12)
  (hB : Backs w T p us cs.reverse) (hT : ¬ T vb) (hpv : p ≠ vb) (hp : w.cell? ⟨p, 3, none⟩ = some (.map (some vb))) (hm : MapAt keyI w vb m (ivals f)) (hl : m + 12 ≤ maxLen) :
  Calls Tryz.prog 139 #[.pointer (some ⟨t, 5, none⟩)] w fun e w' => e = .returned (.tuple #[]) ∧ MapAt keyI w' vb (m + 12) (ivals (back f us)) ∧ Kept (Blk vb) w w' := by
 have h1 := hB.length
 have h2 : cs.length = n := by have := hr.1; simpa using this
 have h3 : us.length ≤ 12 := by simp at h1; omega
 refine runDeferred_any t n dv cs w _ hd hr hn (fun tmps => ?_)
 rw [← List.map_reverse]
 refine leaves_back _ tmps p vb T hT hpv (fun w => results_none rfl _ _ _) us cs.reverse f m w _ hB hp hm (by omega) ?_
 intro w' h4 h5
 exact ⟨rfl, h4.mono (by omega), h5⟩
end Go.Proofs.YtmcajfefagdbnaaGreat
namespace Go.Proofs.YtmcajfefagdbnaaGreat
theorem modeOf_cases (o : Op4) : modeOf o = 0 ∨ modeOf o = 1 ∨ modeOf o = 2 := by
 simp only [modeOf]; split; simp; split <;> simp
theorem modeOf_pos {o : Op4} (h : 0 < modeOf o) : modeOf o = 1 ∨ modeOf o = 2 := by
 rcases modeOf_cases o with e | e
 ·omega
 ·exact e
theorem Inv.undone {s : St} (hs : Inv s) (i : Nat) : Inv (s.undone i) ∧ Out (s.undone i) i := hs.freed i (s.tx i).anew (back s.rows (s.tx i).undo) s.wins rfl (fun _ => rfl)
theorem Inv.setTx {s : St} (hs : Inv s) (i : Nat) (f : Tx → Tx) (h1 : (f (s.tx i)).stamp = (s.tx i).stamp) (h2 : (f (s.tx i)).state = (s.tx i).state ∨ Out s i) (h3 : (f (s.tx i)).wounded = (s.tx i).wounded) (h4 : (f (s.tx i)).waits = (s.tx i).waits)
  (h5 : (f (s.tx i)).ops = (s.tx i).ops ∧ (f (s.tx i)).next = (s.tx i).next ∨ (s.tx i).waits = none) (r : Int → Option Int) : Inv { s.setTx i f with rows := r } := by
 have k0 : ({ s.setTx i f with rows := r } : St).tx i = f (s.tx i) := upd_same _ _ _
 have k1 : ∀ j, j ≠ i → ({ s.setTx i f with rows := r } : St).tx j = s.tx j := fun j e => upd_other _ _ _ _ e
 refine hs.turn rfl rfl rfl rfl (fun j => ?_) (fun j => ?_) (fun j => ?_) (fun j => ?_) (fun j => ?_)
 ·by_cases e : j = i
  ·rw [e, k0]; exact h1
  ·rw [k1 j e]
 ·by_cases e : j = i
  ·rw [e, k0]; exact h2
  ·rw [k1 j e]; exact .inl rfl
 ·by_cases e : j = i
  ·rw [e, k0]; exact .inl (fun h => by rw [h3]; exact h)
  ·rw [k1 j e]; exact .inl (fun h => h)
 ·by_cases e : j = i
  ·rw [e, k0]; exact h4
  ·rw [k1 j e]
 ·by_cases e : j = i
  ·rw [e, k0]; exact h5
  ·rw [k1 j e]; exact .inl ⟨rfl, rfl⟩
theorem Inv.setTx' {s : St} (hs : Inv s) (i : Nat) (f : Tx → Tx) (h1 : (f (s.tx i)).stamp = (s.tx i).stamp) (h2 : (f (s.tx i)).state = (s.tx i).state ∨ Out s i) (h3 : (f (s.tx i)).wounded = (s.tx i).wounded) (h4 : (f (s.tx i)).waits = (s.tx i).waits)
  (h5 : (f (s.tx i)).ops = (s.tx i).ops ∧ (f (s.tx i)).next = (s.tx i).next ∨ (s.tx i).waits = none) : Inv (s.setTx i f) := hs.setTx i f h1 h2 h3 h4 h5 s.rows
theorem Inv.again {s : St} (hs : Inv s) (i : Nat) : Inv (s.again i) := (hs.undone i).1.setTx' i _ rfl (.inl rfl) rfl rfl (.inl ⟨rfl, rfl⟩)
theorem Inv.fell {s : St} (hs : Inv s) (i : Nat) (z : Int) : Inv (s.fell i z) := (hs.undone i).1.setTx' i _ rfl (.inr (hs.undone i).2) rfl rfl (.inl ⟨rfl, rfl⟩)
theorem Inv.commit {s : St} (hs : Inv s) {i : Nat} (hi : i ≤ s.n) : Inv (s.commit i) ∧ Out (s.commit i) i :=
 hs.freed i { s.tx i with state := 1 } s.rows (s.wins ++ [i]) rfl (fun h => absurd h (Nat.not_lt.mpr hi))
theorem Inv.doOp {s : St} (hs : Inv s) (i : Nat) (o : Op4) (hw : (s.tx i).waits = none) : Inv (s.doOp i o) := by
 simp only [St.doOp]
 split
 ·exact hs.setTx' i _ rfl (.inl rfl) rfl rfl (.inr hw)
 split
 ·exact hs.setTx i _ rfl (.inl rfl) rfl rfl (.inr hw) _
 split
 ·exact hs.setTx i _ rfl (.inl rfl) rfl rfl (.inr hw) _
 split
 ·exact hs.setTx' i _ rfl (.inl rfl) rfl rfl (.inr hw)
 ·exact hs.setTx' i _ rfl (.inl rfl) rfl rfl (.inr hw)
theorem Inv.actOn {s : St} (hs : Inv s) (i : Nat) (o : Op4) (hw : (s.tx i).waits = none) : Inv (s.actOn i o).1 := by
 simp only [St.actOn]
 split
 ·exact hs.fell i 2
 ·exact hs.doOp i o hw
theorem Inv.go {s : St} (hs : Inv s) {i : Nat} (hi : 1 ≤ i ∧ i ≤ s.n) (hl : (s.tx i).state = 0) (hx : (s.tx i).next ≤ (s.tx i).ops.length) : Inv (s.go i).1 := by
 simp only [St.go]
 split
 ·exact hs.again i
 split
 ·exact hs
 split
 ·exact (hs.commit hi.2).1
 rename_i hw hn
 have hw' : (s.tx i).waits = none := by simpa using hw
 split
 ·rename_i hm
  split
  ·exact hs.fell i 3
  split
  ·rename_i hf
   simp only [Bool.and_eq_true, List.isEmpty_iff, Bool.not_eq_true'] at hf
   exact (hs.grant hi hl (modeOf_pos hm.1) hf.1 hf.2).actOn i _ hw'
  ·rename_i hf
   simp only [Bool.and_eq_true, List.isEmpty_iff, Bool.not_eq_true', not_and, Bool.not_eq_false] at hf
   refine hs.enq hi hl hw' (modeOf_pos hm.1) hm.2 ⟨by omega, rfl, rfl⟩ ?_
   by_cases hq : (s.lk (s.tx i).op.a).q = []
   ·exact .inr (hf hq)
   ·exact .inl hq
 ·exact hs.actOn i _ hw'
def Tx.base (t : Tx) : Tx := { t with wounded := false, waits := none }
structure Oth (s s' : St) (i j : Nat) : Prop where
 base : (s'.tx j).base = (s.tx j).base
 wound : (s'.tx j).wounded = (s.tx j).wounded ∨ ((s'.tx j).wounded = true ∧ (s.tx i).stamp < (s.tx j).stamp)
 waits : (s'.tx j).waits = (s.tx j).waits ∨ (s'.tx j).waits = none
theorem look_oth (t : Tx) (lk : Int → Lk) (j : Nat) : (t.look lk j).base = t.base ∧ (t.look lk j).wounded = t.wounded ∧ ((t.look lk j).waits = t.waits ∨ (t.look lk j).waits = none) := by
 refine ⟨rfl, rfl, ?_⟩
 simp only [Tx.look]
 cases t.waits with
 | none => exact .inl rfl
 | some k => simp only; split; exact .inl rfl; exact .inr rfl
theorem freed_oth (s s' : St) (i j : Nat) (h : s'.tx j = s.tx j) : Oth s (s'.freed i) i j := by
 have := look_oth (s'.tx j) (fun k => (s'.lk k).freed s'.n i) j
 rw [h] at this
 simp only [St.freed]
 exact ⟨by show (Tx.look _ _ _).base = _; rw [h]; exact this.1, by left; show (Tx.look _ _ _).wounded = _; rw [h]; exact this.2.1, by show (Tx.look _ _ _).waits = _ ∨ (Tx.look _ _ _).waits = _; rw [h]; exact this.2.2⟩
theorem undone_oth (s : St) {i j : Nat} (h : j ≠ i) : Oth s (s.undone i) i j := freed_oth s _ i j (upd_other _ _ _ _ h)
theorem setTx_tx (s : St) {i j : Nat} (f : Tx → Tx) (h : j ≠ i) : (s.setTx i f).tx j = s.tx j := upd_other _ _ _ _ h
theorem Oth.eq {s s' s'' : St} {i j : Nat} (h : Oth s s' i j) (e : s''.tx j = s'.tx j) : Oth s s'' i j := ⟨by rw [e]; exact h.base, by rw [e]; exact h.wound, by rw [e]; exact h.waits⟩
theorem Oth.refl {s s' : St} {i j : Nat} (e : s'.tx j = s.tx j) : Oth s s' i j := ⟨by rw [e], by rw [e]; exact .inl rfl, by rw [e]; exact .inl rfl⟩
theorem doOp_tx (s : St) {i j : Nat} (o : Op4) (h : j ≠ i) : (s.doOp i o).tx j = s.tx j := by
 simp only [St.doOp]
 split
 ·exact upd_other _ _ _ _ h
 split
 ·exact upd_other _ _ _ _ h
 split
 ·exact upd_other _ _ _ _ h
 split <;> exact upd_other _ _ _ _ h
theorem fell_oth (s : St) {i j : Nat} (z : Int) (h : j ≠ i) : Oth s (s.fell i z) i j := (undone_oth s h).eq (setTx_tx _ _ h)
theorem actOn_oth (s : St) {i j : Nat} (o : Op4) (h : j ≠ i) : Oth s (s.actOn i o).1 i j := by
 simp only [St.actOn]
 split
 ·exact fell_oth s 2 h
 ·exact Oth.refl (doOp_tx s o h)
theorem go_oth (s : St) {i j : Nat} (h : j ≠ i) : Oth s (s.go i).1 i j := by
 simp only [St.go]
 split
 ·exact (undone_oth s h).eq (s'' := s.again i) (setTx_tx _ _ h)
 split
 ·exact Oth.refl rfl
 split
 ·exact freed_oth s _ i j (upd_other _ _ _ _ h)
 split
 ·split
  ·exact fell_oth s 3 h
  split
  ·have := actOn_oth (s.grant i (s.tx i).op.a (modeOf (s.tx i).op)) (s.tx i).op h
   exact ⟨this.base, this.wound, this.waits⟩
  ·simp only [St.enq]
   constructor
   ·simp only [if_neg h]; split <;> rfl
   ·simp only [if_neg h]
    split
    ·rename_i hh
     simp only [St.hit, Bool.and_eq_true, decide_eq_true_eq] at hh
     exact .inr ⟨rfl, hh.1.2⟩
    ·exact .inl rfl
   ·simp only [if_neg h]; split <;> exact .inl rfl
 ·exact actOn_oth s _ h
theorem go_n (s : St) (i : Nat) : (s.go i).1.n = s.n ∧ (s.go i).1.clock = s.clock := by
 have ha : ∀ s' o, (St.actOn s' i o).1.n = s'.n ∧ (St.actOn s' i o).1.clock = s'.clock := by
  intro s' o
  simp only [St.actOn]
  split
  ·exact ⟨rfl, rfl⟩
  ·simp only [St.doOp]
   repeat' split
   all_goals exact ⟨rfl, rfl⟩
 simp only [St.go]
 split
 ·exact ⟨rfl, rfl⟩
 split
 ·exact ⟨rfl, rfl⟩
 split
 ·exact ⟨rfl, rfl⟩
 split
 ·split
  ·exact ⟨rfl, rfl⟩
  split
  ·exact ha _ _
  ·exact ⟨rfl, rfl⟩
 ·exact ha _ _
theorem modeOf_stop {o : Op4} (h : 0 < modeOf o) : o.k ≠ 5 := by
 intro e
 simp [modeOf, e] at h
theorem doOp_next (s : St) (i : Nat) (o : Op4) : ((s.doOp i o).tx i).next = (s.tx i).next + 1 ∧ ((s.doOp i o).tx i).state = (s.tx i).state ∧ ((s.doOp i o).tx i).wounded = (s.tx i).wounded ∧ ((s.doOp i o).tx i).waits = (s.tx i).waits ∧ ((s.doOp i o).tx i).ops = (s.tx i).ops := by
 simp only [St.doOp]
 repeat' split
 all_goals simp [St.setTx]
theorem again_self (s : St) (i : Nat) : ((s.again i).tx i).next = 0 ∧ ((s.again i).tx i).state = (s.tx i).state ∧ ((s.again i).tx i).wounded = false ∧ ((s.again i).tx i).waits = none ∧ ((s.again i).tx i).ops = (s.tx i).ops := by
 simp [St.again, St.setTx, St.undone, St.freed, Tx.look, Tx.anew]
theorem fell_self (s : St) (i : Nat) (z : Int) : ((s.fell i z).tx i).next = 0 ∧ ((s.fell i z).tx i).state = z ∧ ((s.fell i z).tx i).wounded = false ∧ ((s.fell i z).tx i).waits = none ∧ ((s.fell i z).tx i).ops = (s.tx i).ops := by
 simp [St.fell, St.setTx, St.undone, St.freed, Tx.look, Tx.anew]
theorem commit_self (s : St) (i : Nat) : ((s.commit i).tx i).next = (s.tx i).next ∧ ((s.commit i).tx i).state = 1 ∧ ((s.commit i).tx i).ops = (s.tx i).ops := by
 simp [St.commit, St.setTx, St.freed, Tx.look]
end Go.Proofs.YtmcajfefagdbnaaGreat
namespace Go.Proofs.YtmcajfefagdbnaaGreat
open Go Go.RowKit
theorem infoClaim : (Tryz.prog.info? 109).map (fun i => (i.zero, i.size, i.bytes)) = some (some (.agg #[.int .i64 0, .int .i64 0, .int .i64 0, .bool false]), 4, 32) := by kernel_rfl
theorem ownsRow_set {w : World} {e : TypeId} {size g n cap : Nat} {xs : List Value} (h : w.ownsRow 0 e size (.slice (some ⟨g, 0, none⟩) n cap) n xs) (j : Nat) (u : Value) :
  (w.setCell ⟨g, j, none⟩ u).ownsRow 0 e size (.slice (some ⟨g, 0, none⟩) n cap) n (xs.set j u) := by
 refine ⟨by rw [List.length_set]; exact h.1, .inr ?_⟩
 rcases h.2 with ⟨h1, _⟩ | ⟨g', cap', cur, h1, h2, h3, h4, h5, h6, h7⟩
 ·simp at h1
 ·simp only [Value.slice.injEq, Option.some.injEq, Addr.mk.injEq, and_true, true_and] at h1
  obtain ⟨rfl, rfl⟩ := h1
  refine ⟨g, cap, cur.setIfInBounds j u, rfl, h2, block_setCell h3 u, h4, h5, by simpa using h6, ?_⟩
  rw [Array.toList_setIfInBounds, List.take_set, h7]
theorem from_newN (w : World) (cs : List Value) (ty : TypeId) (size : Nat) (hl : cs.length = size) (h1 : ∀ u ∈ cs, u.oneCell' = true) : FromMem (w.alloc (.cells cs.toArray ty)) size (.slice (some ⟨w.heap.size, 0, none⟩) 1 1) 1 cs := by
 refine ⟨⟨_, 1, rfl, fun h => by simp at h, ?_⟩, by simp [hl], h1⟩
 intro ad had j u hu
 obtain rfl := Option.some.inj had
 rw [Addr.add_lit, cell_at (block_alloc_new w _)]
 simpa using hu
theorem clCells_set (l : List Cl) (i : Nat) (hi : i < l.length) (m : Int) : clCells (l.set i { l.getD i Cl.z with mode := m }) = (clCells l).set (i * 4 + 2) (.int .i64 m) := by
 induction l generalizing i with
 | nil => simp at hi
 | cons c l ih =>
  cases i with
  | zero => simp [clCells, Cl.cells]
  | succ i =>
   have := ih i (by simpa using hi)
   simp only [List.getD_cons_succ, List.set_cons_succ, clCells, List.flatMap_cons] at this ⊢
   rw [this, List.set_append_right _ _ (by simp [Cl.cells]; omega)]
   congr 2
   simp [Cl.cells]
   omega
def holdL (cl : List Cl) (key id mode : Int) : List Cl := match cl.findIdx? (isHeld key id) with
 | some i => cl.set i { cl.getD i Cl.z with mode := mode }
 | none => cl ++ [⟨key, id, mode, true⟩]
set_option maxHeartbeats 1600000 in
theorem whold (p : Nat) (cl : List Cl) (rv tv cv wv c : Value) (key id mode : Int) (w : World) (hp : w.heap[p]? = some (.cells #[rv, tv, cv, wv, c] 47 (0, 0)))
  (hown : w.ownsRow 0 109 4 cv cl.length (clCells cl)) (hn : cl.length ≤ 1099511627776) :
  Calls Tryz.prog 115 #[.pointer (some ⟨p, 0, none⟩), .int .i64 key, .int .i64 id, .int .i64 mode] w fun e w' => e = .returned (.tuple #[]) ∧
   ∃ cv', w'.heap[p]? = some (.cells #[rv, tv, cv', wv, c] 47 (0, 0)) ∧ w'.ownsRow 0 109 4 cv' (holdL cl key id mode).length (clCells (holdL cl key id mode)) ∧
    (∀ k, cv'.ownBlock = some k → cv.ownBlock = some k ∨ w.heap.size ≤ k) ∧ Kept (fun k => k = p ∨ cv.ownBlock = some k) w w' := by
 have HS : Hid (ClsSrc w cv cl) := cls_of_owns hown
 have HO : Hid _ := hown
 have HP : Hid _ := hp
 have hc2 : w.cell? ⟨p, 2, none⟩ = some cv := by rw [cell_at hp]; rfl
 obtain ⟨ao, cp, rfl⟩ := ownsRow_form hown
 generalize hn' : cl.length = n at hown hn hp ⊢
 have Hn : Hid _ := hn'
 rw [hn'] at hc2
 clear hn' hown hp
 go_enter Tryz.func115, Tryz.ntmps115
 go_wp2
 go_loopw [8] (fun i wr => ∃ k : Nat, k ≤ n ∧ i = .int .i64 k ∧ (cl.take k).find? (isHeld key id) = none ∧ Kept NoBlk w wr) (fun i _ => n - (intOf i).toNat)
 case atStart => exact ⟨0, Nat.zero_le _, rfl, rfl, Kept.refl _ _⟩
 case round =>
  obtain ⟨k, hk, rfl, hf, hkw⟩ := hrel
  have hp' := hkw.cell0 hc2
  have Hk : Hid _ := hkw
  have Hf : Hid _ := hf
  have Hc2 : Hid _ := hc2
  clear hc2
  by_cases hlt : k < n
  ·have hkl : k < cl.length := by rw [Hn.out]; exact hlt
   obtain ⟨ao', cp', he, hs⟩ := HS.out
   obtain ⟨b, off, rfl, hat⟩ := hs (by omega)
   simp only [Value.slice.injEq] at he
   obtain ⟨rfl, -, rfl⟩ := he
   obtain ⟨g0, g1, g2, g3⟩ := (hat.kept hkw (fun x => x)) k hkl
   have Hkl : Hid _ := hkl
   have hoff : off = 0 := by
    rcases HO.out.2 with ⟨e, _⟩ | ⟨g, cap, cur, e, _⟩
    ·simp at e
    ·simp only [Value.slice.injEq, Option.some.injEq, Addr.mk.injEq] at e; exact e.1.2.1
   have hfz : ∀ j, wr.frozen? ⟨b, j, none⟩ = false := fun j => by
    obtain ⟨cur, hcur⟩ := ownsRow_block HO.out (k := b) (by simp [Value.ownBlock])
    exact frozen_at (hkw.heap hcur (fun x => x)) _
   have hfz' := hfz (off + k * 4 + 2)
   have Hoff : Hid _ := hoff
   clear hkl hs hat hkw hf hfz hoff
   generalize hc : cl.getD k Cl.z = cc at *
   have Hc : Hid _ := hc
   clear hc
   have l1 := World.block_lt_of_cell? wr _ hp'
   have l2 := World.block_lt_of_cell? wr _ g0
   go_wp2_with fail
   all_goals clear g0 g1 g2 g3 hp' hfz'
   all_goals first
    | exact ⟨⟨k + 1, by omega, by go_num, find_more Hkl.out Hf.out (by rw [Hc.out]; simp_all [isHeld]), Hk.out.alloc _⟩, by simp [intOf]; omega⟩
    | skip
   refine bodyPost_ret (v := .tuple #[]) (by simp [results, Tryz.results115, go_sem]) rfl ?_
   have hidx := findIdx_hit Hkl.out Hf.out (p := isHeld key id) (by rw [Hc.out]; simp_all [isHeld])
   have hl : holdL cl key id mode = cl.set k { cl.getD k Cl.z with mode := mode } := by simp only [holdL, hidx]
   obtain rfl := Hoff.out
   have hb : (Value.slice (some ⟨b, 0, none⟩) n cp).ownBlock = some b := by simp [Value.ownBlock]
   obtain ⟨cur, hcur⟩ := ownsRow_block HO.out (k := b) (by simp [Value.ownBlock])
   have hpb : p ≠ b := fun e => blocks_apart HP.out hcur (by decide) e
   have hw1 : wr.ownsRow 0 109 4 (.slice (some ⟨b, 0, none⟩) n cp) n (clCells cl) := by
    have := ownsRow_kept HO.out Hk.out (fun _ _ x => x)
    rw [Hn.out] at this
    exact this
   refine ⟨rfl, _, ?_, ?_, fun k' hk' => .inl hk', ((Hk.out.mono (S' := fun k => k = p ∨ (Value.slice (some ⟨b, 0, none⟩) n cp).ownBlock = some k) (fun _ x => x.elim)).setCell (p := ⟨b, 0 + k * 4 + 2, none⟩) (.inl (.inr hb)) _).alloc _⟩
   ·refine block_alloc_old _ ?_
    rw [block_setCell_other hpb]
    rw [← Hn.out]
    exact Hk.out.heap HP.out (fun x => x)
   ·rw [hl, List.length_set, Hn.out, clCells_set cl k Hkl.out]
    have := ownsRow_kept (ownsRow_set hw1 (0 + k * 4 + 2) (.int .i64 mode)) ((Kept.refl NoBlk _).alloc (.cells #[.int .i64 key, .int .i64 id, .int .i64 cc.mode, .bool true] 109)) (fun _ _ x => x)
    rw [Nat.zero_add] at this ⊢
    exact this
  ·obtain rfl : k = n := by omega
   have hown := ownsRow_kept HO.out hkw (fun _ _ x => x)
   rw [Hn.out] at hown
   have hpw := hkw.heap HP.out (fun x => x)
   rw [Hn.out] at hpw
   have hfz : wr.frozen? ⟨p, 2, none⟩ = false := frozen_at hpw _
   have hpl := lt_of_block hpw
   obtain ⟨i0, hi0, hz0, hz1, hz2⟩ := info_parts infoClaim
   have HX : Hid (FromMem (wr.alloc (.cells #[.int .i64 key, .int .i64 id, .int .i64 mode, .bool true] 109)) 4 (.slice (some ⟨wr.heap.size, 0, none⟩) 1 1) 1 [.int .i64 key, .int .i64 id, .int .i64 mode, .bool true]) :=
    from_newN wr [.int .i64 key, .int .i64 id, .int .i64 mode, .bool true] 109 4 rfl (fun u hu => by simp at hu; rcases hu with rfl | rfl | rfl | rfl <;> rfl)
   have HO1 : Hid ((wr.alloc (.cells #[.int .i64 key, .int .i64 id, .int .i64 mode, .bool true] 109)).ownsRow 0 109 4 (.slice ao k cp) k (clCells cl)) := ownsRow_kept hown ((Kept.refl NoBlk _).alloc _) (fun _ _ x => x)
   have HB1 : Hid ((k + 1) * 32 ≤ 140737488355328) := by unfold Hid; omega
   have HB0 : Hid (k + 1 ≤ maxLen) := by unfold Hid maxLen; omega
   have HPW : Hid _ := hpw
   clear hkw hpw hown hf
   go_wp2_with (at_builtin; refine wpList_append_at (by rfl) _ _ 44 (by rfl) 109 i0 _ 4 32 Tryz.underlying44 hi0 hz0 hz1 hz2 (by rfl) (.slice ao k cp) k (clCells cl) (by rfl) HO1.out (.slice (some ⟨wr.heap.size, 0, none⟩) 1 1) 1 [.int .i64 key, .int .i64 id, .int .i64 mode, .bool true] (by rfl) HX.out HB0.out HB1.out ?_)
   intro ao' c' W2 hown2 hmv
   have hpc : (Value.slice ao k cp).ownBlock ≠ some p := fun e => by
    obtain ⟨cur, hcur⟩ := ownsRow_block HO1.out e
    exact blocks_apart (block_alloc_old _ HPW.out) hcur (by decide) rfl
   have hk1 : Kept NoBlk w (wr.alloc (.cells #[.int .i64 key, .int .i64 id, .int .i64 mode, .bool true] 109)) := Hk.out.alloc _
   have hp2 := hmv.keptOf.heap (block_alloc_old _ HPW.out) hpc
   have HP2 : Hid _ := hp2
   have HW2 : Hid (W2.ownsRow 0 109 4 (.slice ao' (k + 1) c') (k + 1) (clCells cl ++ [.int .i64 key, .int .i64 id, .int .i64 mode, .bool true])) := hown2
   have HK2 : Hid (Kept (fun i => i = p ∨ (Value.slice ao k cp).ownBlock = some i) w W2) := (hk1.mono (S' := fun i => i = p ∨ (Value.slice ao k cp).ownBlock = some i) (fun _ x => x.elim)).trans hmv.keptOf (fun i x => .inl (.inr x))
   have HF2 : Hid (∀ i, (Value.slice ao' (k + 1) c').ownBlock = some i → (Value.slice ao k cp).ownBlock = some i ∨ w.heap.size ≤ i) := fun i hi => by
    rcases hmv.fresh i hi with h | h
    ·exact .inl h
    ·exact .inr (Nat.le_trans hk1.size h)
   have hp3 : W2.cell? ⟨p, 2, none⟩ = some (.slice ao k cp) := by rw [cell_at hp2]; rfl
   have hf3 : W2.frozen? ⟨p, 2, none⟩ = false := frozen_at hp2 _
   have HPC : Hid _ := hpc
   have HPL : Hid (p < w.heap.size) := lt_of_block HP.out
   clear hp2 hown2 hmv hk1 hpc hi0 hz0 hz1 hz2
   go_wp2_with fail
   go_end0
   have hnone := findIdx_none (p := isHeld key id) (by have := Hf.out; rw [← Hn.out, List.take_length] at this; exact this)
   have hl : holdL cl key id mode = cl ++ [⟨key, id, mode, true⟩] := by simp only [holdL, hnone]
   have e7 := Kept.set1 W2 p 2 (.slice ao' (k + 1) c')
   refine ⟨rfl, _, block_setCell HP2.out _, ?_, HF2.out, HK2.out.setCell (p := ⟨p, 2, none⟩) (.inl (.inl rfl)) _⟩
   rw [hl, List.length_append, Hn.out, clCells_append]
   refine ownsRow_kept HW2.out e7 (fun i hi e => ?_)
   have e' : i = p := e
   subst e'
   rcases HF2.out i hi with h | h
   ·exact HPC.out h
   ·have := HPL.out; omega
end Go.Proofs.YtmcajfefagdbnaaGreat
