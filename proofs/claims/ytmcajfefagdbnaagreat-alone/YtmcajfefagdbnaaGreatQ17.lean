import Derived.Test.YtmcajfefagdbnaaGreatQ16
import Derived.Test.YtmcajfefagdbnaaGreatQ06
namespace Go.Proofs.YtmcajfefagdbnaaGreat
open Go Go.RowKit Go.Sort Go.Lib
def St.withRows (s : St) (r : Int → Option Int) : St := { s with rows := r }
theorem PSt.congr {L : Lay} {bs : Nat → Nat} {A : List Nat} {ow : Ow} {m : Nat} {mu lv : Int} {s s' : St} {w : World} (h : PSt L bs A ow m mu lv s w) (e1 : s'.clock = s.clock) (e2 : s'.rows = s.rows) (e3 : s'.n = s.n) (e4 : s'.lk = s.lk) (e5 : s'.tx = s.tx) (e6 : s'.wins = s.wins) : PSt L bs A ow m mu lv s' w := by
 obtain ⟨c, r, n, t, l, a, ws⟩ := s
 obtain ⟨c', r', n', t', l', a', ws'⟩ := s'
 simp only at e1 e2 e3 e4 e5 e6
 subst e1 e2 e3 e4 e5 e6
 exact ⟨h.lt, h.tags, h.body, h.vals, h.hold, h.que, h.txs, h.few, h.among, h.hdom, h.qdom, h.rdom, h.nmax⟩
theorem PSt.turnVals {L : Lay} {bs : Nat → Nat} {A : List Nat} {ow : Ow} {m m' : Nat} {mu lv : Int} {s : St} {w w' : World} (h : PSt L bs A ow m mu lv s w) {r : Int → Option Int} (hk : Kept (Blk L.vb) w w') (hmm : m ≤ m') (hm : MapAt keyI w' L.vb m' (ivals r)) (hd : ∀ k, r k ≠ none → inI k) : PSt L bs A ow m' mu lv (s.withRows r) w' := by
 obtain ⟨t1, t2, t3, t4⟩ := h.tags
 have hb : ∀ {t : Nat × Int}, t.1 ≠ 2 → ∀ k, k < w.heap.size → ow k = t → w'.heap[k]? = w.heap[k]? := fun n1 k hk1 e => hk.block k hk1 (fun x => n1 (by cases x; rw [← e, t2]))
 obtain ⟨u, tv, wv, b1, b2, b3⟩ := h.body
 obtain ⟨qf, q1, q2⟩ := h.que
 exact ⟨fun k hk0 => Nat.lt_of_lt_of_le (h.lt k hk0) hk.size, h.tags, ⟨u, tv, wv, by rw [hb (by simp) _ (lt_of_block b1) t1]; exact b1, b2.kept (AgreeP.refl _ _) (hb (by simp)), b3.kept (AgreeP.refl _ _) (hb (by simp))⟩,
  hm, (h.hold.of_same (hb (by simp) _ h.hold.lt t3)).mono hmm, ⟨qf, (q1.of_same (hb (by simp) _ q1.lt t4)).mono (Nat.add_le_add_right hmm _), fun k => (q2 k).kept (AgreeP.refl _ _) (hb (by simp))⟩,
  fun i hi hn => (h.txs i hi hn).kept (AgreeP.refl _ _) (fun k hk1 e => e.elim (fun e => hb (by simp) k hk1 e) (fun e => hb (by simp) k hk1 e)), h.few, h.among, h.hdom, h.qdom, hd, h.nmax⟩
theorem back_dom (us : List Saw) : ∀ {f : Int → Option Int}, (∀ k, f k ≠ none → inI k) → (∀ b ∈ us, inI b.key) → ∀ k, back f us k ≠ none → inI k := by
 induction us with
 | nil => intro f hf _ k hk; exact hf k hk
 | cons b us ih =>
  intro f hf hb k hk
  refine ih (f := upd f b.key b.old) (fun k' hk' => ?_) (fun x hx => hb x (by simp [hx])) k hk
  by_cases e : k' = b.key
  ·subst e; exact hb b (by simp)
  ·rw [upd_other _ _ _ _ e] at hk'; exact hf k' hk'
theorem Backs.keys {w : World} {T : Nat → Prop} {p : Nat} : ∀ {us : List Saw} {xs : List (FuncId × Array Value)}, Backs w T p us xs → ∀ b ∈ us, inI b.key
 | [], [], _, b, hb => by cases hb
 | x :: us, _ :: _, h, b, hb => by
  rcases List.mem_cons.1 hb with rfl | hb
  ·exact h.2.1
  ·exact Backs.keys h.2.2 b hb
 | [], _ :: _, h, _, _ => h.elim
 | _ :: _, [], h, _, _ => h.elim
theorem prunDeferred {L : Lay} {bs : Nat → Nat} {A : List Nat} {ow : Ow} {m : Nat} {mu lv : Int} {s : St} {w : World} (h : PSt L bs A ow m mu lv s w) (i : Nat) (hi : i ∈ A) (hst : (s.tx i).state = 0) (hmm : m + 400 ≤ 1099511627776) :
  Calls Tryz.prog 139 #[.pointer (some ⟨bs i, 5, none⟩)] w fun e w' => e = .returned (.tuple #[]) ∧ PSt L bs A ow (m + 12) mu lv (s.withRows (back s.rows (s.tx i).undo)) w' ∧ Kept (OwnP ow) w w' := by
 have hin := h.among i hi
 obtain ⟨ov, rv, dv, h1, h2, h3, h4, h5⟩ := h.txs i hin.1 hin.2
 obtain ⟨_, l1, l2, l3, l4, l5, cs, l6, l7⟩ := h5 hst
 obtain ⟨u, tv, wv, b1, c3, c6, c7, c4, b2⟩ := h.cells
 obtain ⟨t1, t2, t3, t4⟩ := h.tags
 have hpv : L.p ≠ L.vb := fun e => by rw [e, t2] at t1; exact tagNe (by omega) t1
 refine (runDeferred_ok (bs i) L.p L.vb m (s.tx i).undo.length dv (s.tx i).undo cs s.rows (fun k => ow k = (9, (i : Int))) w (by rw [cell_at h1]; rfl) l6.1 (by omega) l7 (fun e => by rw [t2] at e; exact tagNe (by omega) e) hpv c3 h.vals (by unfold maxLen; omega)).mono ?_
 rintro e w' ⟨rfl, hm', hk⟩
 refine ⟨rfl, h.turnVals hk (by omega) hm' (back_dom _ h.rdom l7.keys), hk.mono (fun k e => by cases e; unfold OwnP; rw [t2]; exact tagNe (by omega))⟩
theorem TxnAt.anew {ow : Ow} {p : Nat} {w w' : World} {i b : Nat} {t : Tx} (h : TxnAt ow p w i b t) (hk : Kept (Blk b) w w')
  (hb : ∀ ov rv dv, w.heap[b]? = some (.cells #[.int .i64 (i : Int), ov, .int .i64 t.stamp, .int .i64 t.state, .int .i64 t.agains, .int .i64 (t.next : Int), .bool t.wounded, .bool t.waits.isSome, .int .i64 (t.regs 0), .int .i64 (t.regs 1), .int .i64 (t.regs 2), .int .i64 (t.regs 3), rv, dv] 146 (0, 0)) →
   w'.heap[b]? = some (.cells #[.int .i64 (i : Int), ov, .int .i64 t.stamp, .int .i64 t.state, .int .i64 t.agains, .int .i64 0, .bool false, .bool false, .int .i64 0, .int .i64 0, .int .i64 0, .int .i64 0, .slice none 0 0, .slice none 0 0] 146 (0, 0))) : TxnAt ow p w' i b t.anew := by
 obtain ⟨ov, rv, dv, h1, h2, h3, h4, h5⟩ := h
 have hne : ∀ k, ow k = (9, (i : Int)) → k ≠ b := fun k e e' => by rw [e', h2] at e; simp at e
 have hs : ∀ k, k < w.heap.size → ow k = (9, (i : Int)) → w'.heap[k]? = w.heap[k]? := fun k hk1 e => hk.block k hk1 (hne k e)
 refine ⟨ov, .slice none 0 0, .slice none 0 0, hb ov rv dv h1, h2, RowT.nil _ _ _ _ _, Nat.zero_le _, fun h0 => ⟨Nat.le_refl _, ?_⟩⟩
 obtain ⟨_, l1, l2, l3, l4, l5, cs, l6, l7⟩ := h5 h0
 exact ⟨l1.kept (AgreeP.refl _ _) hs, l2, l3, Nat.zero_le _, Nat.le_refl _, [], RowT.nil _ _ _ _ _, trivial⟩
def clearW (w : World) (b : Nat) : World :=
 (((((((((w.setCell ⟨b, 5, none⟩ (Value.int IntKind.i64 0)).setCell ⟨b, 6, none⟩ (Value.bool false)).setCell ⟨b, 7, none⟩ (Value.bool false)).setCell ⟨b, 8, none⟩ (Value.int IntKind.i64 0)).setCell ⟨b, 9, none⟩ (Value.int IntKind.i64 0)).setCell
  ⟨b, 10, none⟩ (Value.int IntKind.i64 0)).setCell ⟨b, 11, none⟩ (Value.int IntKind.i64 0)).setCell ⟨b, 12, none⟩ (Value.slice none 0 0)).setCell ⟨b, 13, none⟩ (Value.slice none 0 0))
theorem clearW_kept (w : World) (b : Nat) : Kept (Blk b) w (clearW w b) :=
 ((((((((Kept.set1 w b 5 _).trans' (Kept.set1 _ b 6 _)).trans' (Kept.set1 _ b 7 _)).trans' (Kept.set1 _ b 8 _)).trans' (Kept.set1 _ b 9 _)).trans' (Kept.set1 _ b 10 _)).trans' (Kept.set1 _ b 11 _)).trans' (Kept.set1 _ b 12 _)).trans' (Kept.set1 _ b 13 _)
theorem clearW_block {w : World} {b : Nat} {x0 x1 x2 x3 x4 x5 x6 x7 x8 x9 x10 x11 x12 x13 : Value} (h : w.heap[b]? = some (.cells #[x0, x1, x2, x3, x4, x5, x6, x7, x8, x9, x10, x11, x12, x13] 146 (0, 0))) : (clearW w b).heap[b]? = some (.cells #[x0, x1, x2, x3, x4, .int .i64 0, .bool false, .bool false, .int .i64 0, .int .i64 0, .int .i64 0, .int .i64 0, .slice none 0 0, .slice none 0 0] 146 (0, 0)) := by
 have e5 : (w.setCell ⟨b, 5, none⟩ (.int .i64 0)).heap[b]? = some (.cells #[x0, x1, x2, x3, x4, .int .i64 0, x6, x7, x8, x9, x10, x11, x12, x13] 146 (0, 0)) := block_setCell h _
 have e6 : ((w.setCell ⟨b, 5, none⟩ (.int .i64 0)).setCell ⟨b, 6, none⟩ (.bool false)).heap[b]? = some (.cells #[x0, x1, x2, x3, x4, .int .i64 0, .bool false, x7, x8, x9, x10, x11, x12, x13] 146 (0, 0)) := block_setCell e5 _
 have e7 : (((w.setCell ⟨b, 5, none⟩ (.int .i64 0)).setCell ⟨b, 6, none⟩ (.bool false)).setCell ⟨b, 7, none⟩ (.bool false)).heap[b]? = some (.cells #[x0, x1, x2, x3, x4, .int .i64 0, .bool false, .bool false, x8, x9, x10, x11, x12, x13] 146 (0, 0)) := block_setCell e6 _
 have e8 : ((((w.setCell ⟨b, 5, none⟩ (.int .i64 0)).setCell ⟨b, 6, none⟩ (.bool false)).setCell ⟨b, 7, none⟩ (.bool false)).setCell ⟨b, 8, none⟩ (.int .i64 0)).heap[b]? = some (.cells #[x0, x1, x2, x3, x4, .int .i64 0, .bool false, .bool false, .int .i64 0, x9, x10, x11, x12, x13] 146 (0, 0)) := block_setCell e7 _
 have e9 : (((((w.setCell ⟨b, 5, none⟩ (.int .i64 0)).setCell ⟨b, 6, none⟩ (.bool false)).setCell ⟨b, 7, none⟩ (.bool false)).setCell ⟨b, 8, none⟩ (.int .i64 0)).setCell ⟨b, 9, none⟩ (.int .i64 0)).heap[b]? = some (.cells #[x0, x1, x2, x3, x4, .int .i64 0, .bool false, .bool false, .int .i64 0, .int .i64 0, x10, x11, x12, x13] 146 (0, 0)) := block_setCell e8 _
 have e10 : ((((((w.setCell ⟨b, 5, none⟩ (.int .i64 0)).setCell ⟨b, 6, none⟩ (.bool false)).setCell ⟨b, 7, none⟩ (.bool false)).setCell ⟨b, 8, none⟩ (.int .i64 0)).setCell ⟨b, 9, none⟩ (.int .i64 0)).setCell ⟨b, 10, none⟩ (.int .i64 0)).heap[b]? = some (.cells #[x0, x1, x2, x3, x4, .int .i64 0, .bool false, .bool false, .int .i64 0, .int .i64 0, .int .i64 0, x11, x12, x13] 146 (0, 0)) := block_setCell e9 _
 have e11 : (((((((w.setCell ⟨b, 5, none⟩ (.int .i64 0)).setCell ⟨b, 6, none⟩ (.bool false)).setCell ⟨b, 7, none⟩ (.bool false)).setCell ⟨b, 8, none⟩ (.int .i64 0)).setCell ⟨b, 9, none⟩ (.int .i64 0)).setCell ⟨b, 10, none⟩ (.int .i64 0)).setCell ⟨b, 11, none⟩ (.int .i64 0)).heap[b]? = some (.cells #[x0, x1, x2, x3, x4, .int .i64 0, .bool false, .bool false, .int .i64 0, .int .i64 0, .int .i64 0, .int .i64 0, x12, x13] 146 (0, 0)) := block_setCell e10 _
 have e12 : ((((((((w.setCell ⟨b, 5, none⟩ (.int .i64 0)).setCell ⟨b, 6, none⟩ (.bool false)).setCell ⟨b, 7, none⟩ (.bool false)).setCell ⟨b, 8, none⟩ (.int .i64 0)).setCell ⟨b, 9, none⟩ (.int .i64 0)).setCell ⟨b, 10, none⟩ (.int .i64 0)).setCell ⟨b, 11, none⟩ (.int .i64 0)).setCell ⟨b, 12, none⟩ (.slice none 0 0)).heap[b]? = some (.cells #[x0, x1, x2, x3, x4, .int .i64 0, .bool false, .bool false, .int .i64 0, .int .i64 0, .int .i64 0, .int .i64 0, .slice none 0 0, x13] 146 (0, 0)) := block_setCell e11 _
 have e13 : (((((((((w.setCell ⟨b, 5, none⟩ (.int .i64 0)).setCell ⟨b, 6, none⟩ (.bool false)).setCell ⟨b, 7, none⟩ (.bool false)).setCell ⟨b, 8, none⟩ (.int .i64 0)).setCell ⟨b, 9, none⟩ (.int .i64 0)).setCell ⟨b, 10, none⟩ (.int .i64 0)).setCell ⟨b, 11, none⟩ (.int .i64 0)).setCell ⟨b, 12, none⟩ (.slice none 0 0)).setCell ⟨b, 13, none⟩ (.slice none 0 0)).heap[b]? = some (.cells #[x0, x1, x2, x3, x4, .int .i64 0, .bool false, .bool false, .int .i64 0, .int .i64 0, .int .i64 0, .int .i64 0, .slice none 0 0, .slice none 0 0] 146 (0, 0)) := block_setCell e12 _
 exact e13
theorem PSt.cleared {L : Lay} {bs : Nat → Nat} {A : List Nat} {ow : Ow} {m : Nat} {mu lv : Int} {s : St} {w : World} (h : PSt L bs A ow m mu lv s w) (i : Nat) (hin : 1 ≤ i ∧ i ≤ s.n) : PSt L bs A ow m mu lv (s.withTx (upd s.tx i (s.tx i).anew)) (clearW w (bs i)) ∧ Kept (OwnP ow) w (clearW w (bs i)) := by
 have ht := h.txs i hin.1 hin.2
 have hk := clearW_kept w (bs i)
 have hbt : ow (bs i) = (8, (i : Int)) := by obtain ⟨_, _, _, _, x, _⟩ := ht; exact x
 have hk2 : Kept (fun k => ow k = (8, (i : Int)) ∨ ow k = (9, (i : Int))) w (clearW w (bs i)) := hk.mono (fun k e => by cases e; exact .inl hbt)
 refine ⟨h.turnTx i _ hk2 (AgreeP.refl _ _) (fun k hk0 => Nat.lt_of_lt_of_le (h.lt k hk0) hk.size) (fun _ _ => ht.anew hk (fun ov rv dv e => ?_)), hk.mono (fun k e => by cases e; unfold OwnP; rw [hbt]; exact tagNe (by omega))⟩
 exact clearW_block e
def unwaited (s : St) (i : Nat) : Nat → Tx := upd s.tx i { s.tx i with waits := none }
theorem unwaited_wtx {s : St} (hI : Inv s) (i : Nat) : WTx (unwaited s i) s.lk i := by
 refine ⟨fun k j m hj hm => ?_, fun j k hj hw => ?_⟩
 ·unfold unwaited; rw [upd_other _ _ _ _ hj]; exact (hI.queue k j m hm).2
 ·unfold unwaited at hw; rw [upd_other _ _ _ _ hj] at hw; exact hI.waits j k hw
theorem unwaited_none {s : St} {i : Nat} (h : (s.tx i).waits = none) : unwaited s i = s.tx := by
 unfold unwaited
 funext j
 by_cases e : j = i
 ·subst e; rw [upd_same, ← h]
 ·rw [upd_other _ _ _ _ e]
theorem undone_eq {s : St} {i : Nat} {lk' : Int → Lk} {tx' : Nat → Tx} (h1 : lk' = fun k => (s.lk k).freed s.n i) (h2 : tx' = fun j => (unwaited s i j).look (fun k => (s.lk k).freed s.n i) j) :
  (s.undone i).lk = lk' ∧ (s.undone i).tx = upd tx' i (tx' i).anew ∧ (s.undone i).rows = back s.rows (s.tx i).undo := by
 refine ⟨h1.symm, ?_, rfl⟩
 subst h2
 show (fun j => ((upd s.tx i (s.tx i).anew) j).look (fun k => (s.lk k).freed s.n i) j) = _
 funext j
 by_cases e : j = i
 ·subst e
  simp only [unwaited, upd_same]
  rfl
 ·rw [upd_other _ _ _ _ e]
  simp only [unwaited, upd_other _ _ _ _ e]
theorem held_few {s : St} (hI : Inv s) (hact : s.act.length ≤ 16) (i : Nat) (l : List Int) (hn : l.Nodup) (hl : ∀ k ∈ l, (s.lk k).h i ≠ 0) : l.length ≤ 16 := by
 have := nodup_len l s.act hn (fun k hk => by
  rw [hI.act k, live_iff]
  exact .inr ⟨i, ((hI.row k).hold i (hl k hk)).2, hl k hk⟩)
 omega
set_option maxRecDepth 20000 in
set_option maxHeartbeats 6400000 in
theorem pundo {L : Lay} {bs : Nat → Nat} {A : List Nat} {ow : Ow} {m : Nat} {mu lv : Int} {s : St} {w : World} (h : PSt L bs A ow m mu lv s w) (hI : Inv s) (i : Nat) (hi : i ∈ A) (hst : (s.tx i).state = 0) (hact : s.act.length ≤ 16) (hmm : m + 1000 ≤ 1099511627776) :
  Calls Tryz.prog 104 #[.pointer (some ⟨L.p, 0, none⟩), .pointer (some ⟨bs i, 0, none⟩)] w fun e w' => e = .returned (.tuple #[]) ∧ PSt L bs A ow (m + 400) mu lv (s.undone i) w' ∧ Kept (OwnP ow) w w' := by
 have hin := h.among i hi
 have hrd := prunDeferred h i hi hst (by omega)
 have HH : Hid (PSt L bs A ow m mu lv s w) := h
 have HI : Hid (Inv s) := hI
 have HIN : Hid (1 ≤ i ∧ i ≤ s.n) := hin
 clear h hI hin
 go_enter Tryz.func104, Tryz.ntmps104
 go_wp2_with fail
 refine hrd.mono ?_
 rintro e w1 ⟨rfl, hst1, hk1⟩
 have hI' : Inv s := HI.out
 -- the part from the flag on, once the queue is left
 have rest : ∀ (w2 : World) (lk1 : Int → Lk) (tx1 : Nat → Tx), PSt L bs A ow (m + 40) mu lv (((s.withRows (back s.rows (s.tx i).undo)).withLk lk1).withTx tx1) w2 → FrM s.n (unwaited s i) s.lk i lk1 tx1 → (∀ k, (lk1 k).h i ≠ 0 → (s.lk k).h i ≠ 0) → (∀ k x, x ∈ (lk1 k).q → x.2 ≠ 0) → Kept (OwnP ow) w w2 →
   Calls Tryz.prog 127 #[.pointer (some ⟨L.p, 0, none⟩), .pointer (some ⟨bs i, 0, none⟩)] w2 fun e w3 => e = .returned (.tuple #[]) ∧ ∃ lk' tx', PSt L bs A ow (m + 400) mu lv (((s.withRows (back s.rows (s.tx i).undo)).withLk lk').withTx tx') w3 ∧ (s.undone i).lk = lk' ∧ (s.undone i).tx = upd tx' i (tx' i).anew ∧ Kept (OwnP ow) w w3 := by
  intro w2 lk1 tx1 hp hF hh hmd hkk
  refine (pletAllGo hp i hi (unwaited s i) s.lk hF (fun l hn hl => held_few hI' hact i l hn (fun k hk => hh k (hl k hk))) hmd (by omega)).mono ?_
  rintro e w3 ⟨lk', tx', rfl, hp3, hF3, h0, hk3⟩
  obtain ⟨e1, e2⟩ := hF3.last (by show (unwaited s i i).waits = none; simp [unwaited]) h0
  obtain ⟨q1, q2, _⟩ := undone_eq e1 e2
  exact ⟨rfl, lk', tx', hp3.mono (by omega), q1, q2, hkk.trans' hk3⟩
 have HREST : Hid _ := rest
 obtain ⟨ov, rv, dv, x1, x2, x3⟩ := hst1.txs i HIN.out.1 HIN.out.2
 have x7 : w1.cell? ⟨bs i, 7, none⟩ = some (.bool (s.tx i).waits.isSome) := by rw [cell_at x1]; rfl
 have HST1 : Hid (PSt L bs A ow (m + 12) mu lv (s.withRows (back s.rows (s.tx i).undo)) w1) := hst1
 have HK1 : Hid (Kept (OwnP ow) w w1) := hk1
 clear rest hrd hst1 hk1 x1 x2 x3 ov rv dv
 cases hw : (s.tx i).waits with
 | none =>
  rw [hw] at x7
  have hlg := HREST.out w1 s.lk s.tx (PSt.mono HST1.out (by omega)) (by
   have := FrM.start (unwaited_wtx hI' i) hI'.still (fun k => (hI'.row k).once) (fun k md => hI'.not_waiting hw k md)
   rw [unwaited_none hw] at this ⊢
   exact this) (fun _ h => h) (fun k x hx => by have := ((hI'.row k).qmode x hx).2; omega) HK1.out
  go_wp2_with fail
  refine hlg.mono ?_
  rintro e w3 ⟨rfl, lk', tx', hp3, q1, q2, hk3⟩
  obtain ⟨ov, rv, dv, y1, y2, y3⟩ := hp3.txs i HIN.out.1 HIN.out.2
  have c5 : w3.cell? ⟨bs i, 5, none⟩ = some (.int .i64 ((tx' i).next : Int)) := by rw [cell_at y1]; rfl
  have c6 : w3.cell? ⟨bs i, 6, none⟩ = some (.bool (tx' i).wounded) := by rw [cell_at y1]; rfl
  have c7 : w3.cell? ⟨bs i, 7, none⟩ = some (.bool (tx' i).waits.isSome) := by rw [cell_at y1]; rfl
  have c8 : w3.cell? ⟨bs i, 8, none⟩ = some (.int .i64 ((tx' i).regs 0)) := by rw [cell_at y1]; rfl
  have c9 : w3.cell? ⟨bs i, 9, none⟩ = some (.int .i64 ((tx' i).regs 1)) := by rw [cell_at y1]; rfl
  have c10 : w3.cell? ⟨bs i, 10, none⟩ = some (.int .i64 ((tx' i).regs 2)) := by rw [cell_at y1]; rfl
  have c11 : w3.cell? ⟨bs i, 11, none⟩ = some (.int .i64 ((tx' i).regs 3)) := by rw [cell_at y1]; rfl
  have c12 : w3.cell? ⟨bs i, 12, none⟩ = some rv := by rw [cell_at y1]; rfl
  have c13 : w3.cell? ⟨bs i, 13, none⟩ = some dv := by rw [cell_at y1]; rfl
  have fr : ∀ o, w3.frozen? ⟨bs i, o, none⟩ = false := fun o => frozen_at y1 o
  have HF : Hid (PSt L bs A ow (m + 400) mu lv (s.undone i) (clearW w3 (bs i)) ∧ Kept (OwnP ow) w (clearW w3 (bs i))) := by
   obtain ⟨z1, z2⟩ := hp3.cleared i HIN.out
   exact ⟨z1.congr rfl rfl rfl q1 q2 rfl, hk3.trans' z2⟩
  clear hp3 q1 q2 hk3 y1 y2 y3 hlg
  go_wp2_with fail
  go_end0
  exact ⟨rfl, HF.out.1, HF.out.2⟩
 | some row =>
  rw [hw] at x7
  obtain ⟨md, hmd⟩ := hI'.waits i row hw
  obtain ⟨a1, a2, _⟩ := hI'.asks row i md hmd
  have hlq := pleaveQueue (show PSt L bs A ow (m + 12) mu lv (s.withRows (back s.rows (s.tx i).undo)) w1 from HST1.out) i hi row md hst a1 a2 hmd (hI'.row row).once (fun x hx => by have := ((hI'.row row).qmode x hx).2; omega) (by omega)
  go_wp2_with fail
  refine hlq.mono ?_
  rintro e w2 ⟨pre, rfl, hpre, hp2, hk2⟩
  have hlg := HREST.out w2 _ _ (hp2.mono (by omega)) (FrM.first (unwaited_wtx hI' i) hI'.still (fun k => (hI'.row k).once) (fun k k' m1 m2 h1 h2 => by
    have e1 := (hI'.queue k i m1 h1).2
    have e2 := (hI'.queue k' i m2 h2).2
    rw [e1] at e2
    exact Option.some.inj e2) hmd hpre) (fun k hk => by
    show (s.lk k).h i ≠ 0
    by_cases e : k = row
    ·subst e
     have e3 : (settle s.n (s.lk k).h ((s.lk k).q.filter (fun x => x.1 != i))).h i = (s.lk k).h i := settle_h_out (fun m hm => by simp at hm)
     have hk' : ((upd s.lk k (settle s.n (s.lk k).h ((s.lk k).q.filter (fun x => x.1 != i)))) k).h i ≠ 0 := hk
     rw [upd_same, e3] at hk'
     exact hk'
    ·have hk' : ((upd s.lk row (settle s.n (s.lk row).h ((s.lk row).q.filter (fun x => x.1 != i)))) k).h i ≠ 0 := hk
     rw [upd_other _ _ _ _ e] at hk'
     exact hk') (fun k x hx => by
    have hx' : x ∈ ((upd s.lk row (settle s.n (s.lk row).h ((s.lk row).q.filter (fun x => x.1 != i)))) k).q := hx
    by_cases e : k = row
    ·subst e
     rw [upd_same] at hx'
     have := ((hI'.row k).qmode x (List.mem_filter.1 (settle_mem hx')).1).2
     omega
    ·rw [upd_other _ _ _ _ e] at hx'
     have := ((hI'.row k).qmode x hx').2
     omega) (HK1.out.trans' hk2)
  clear hp2 hk2 hpre hlq hmd a1 a2
  go_wp2_with fail
  refine hlg.mono ?_
  rintro e w3 ⟨rfl, lk', tx', hp3, q1, q2, hk3⟩
  obtain ⟨ov, rv, dv, y1, y2, y3⟩ := hp3.txs i HIN.out.1 HIN.out.2
  have c5 : w3.cell? ⟨bs i, 5, none⟩ = some (.int .i64 ((tx' i).next : Int)) := by rw [cell_at y1]; rfl
  have c6 : w3.cell? ⟨bs i, 6, none⟩ = some (.bool (tx' i).wounded) := by rw [cell_at y1]; rfl
  have c7 : w3.cell? ⟨bs i, 7, none⟩ = some (.bool (tx' i).waits.isSome) := by rw [cell_at y1]; rfl
  have c8 : w3.cell? ⟨bs i, 8, none⟩ = some (.int .i64 ((tx' i).regs 0)) := by rw [cell_at y1]; rfl
  have c9 : w3.cell? ⟨bs i, 9, none⟩ = some (.int .i64 ((tx' i).regs 1)) := by rw [cell_at y1]; rfl
  have c10 : w3.cell? ⟨bs i, 10, none⟩ = some (.int .i64 ((tx' i).regs 2)) := by rw [cell_at y1]; rfl
  have c11 : w3.cell? ⟨bs i, 11, none⟩ = some (.int .i64 ((tx' i).regs 3)) := by rw [cell_at y1]; rfl
  have c12 : w3.cell? ⟨bs i, 12, none⟩ = some rv := by rw [cell_at y1]; rfl
  have c13 : w3.cell? ⟨bs i, 13, none⟩ = some dv := by rw [cell_at y1]; rfl
  have fr : ∀ o, w3.frozen? ⟨bs i, o, none⟩ = false := fun o => frozen_at y1 o
  have HF : Hid (PSt L bs A ow (m + 400) mu lv (s.undone i) (clearW w3 (bs i)) ∧ Kept (OwnP ow) w (clearW w3 (bs i))) := by
   obtain ⟨z1, z2⟩ := hp3.cleared i HIN.out
   exact ⟨z1.congr rfl rfl rfl q1 q2 rfl, hk3.trans' z2⟩
  clear hp3 q1 q2 hk3 y1 y2 y3 hlg
  go_wp2_with fail
  go_end0
  exact ⟨rfl, HF.out.1, HF.out.2⟩
end Go.Proofs.YtmcajfefagdbnaaGreat
namespace Go.Proofs.YtmcajfefagdbnaaGreat
open Go Go.RowKit Go.Sort Go.Lib
theorem PSt.turnP {L : Lay} {bs : Nat → Nat} {A : List Nat} {ow : Ow} {m : Nat} {mu lv mu' lv' : Int} {s : St} {c' : Int} {w w' : World} (h : PSt L bs A ow m mu lv s w) (hk : Kept (Blk L.p) w w')
  (hb : ∀ u tv wv, w.heap[L.p]? = some (.cells #[.int .i32 mu, u, .int .i64 s.clock, .map (some L.vb), tv, .int .i64 lv, .map (some L.hb), .map (some L.qb), wv] 127 (0, 0)) → w'.heap[L.p]? = some (.cells #[.int .i32 mu', u, .int .i64 c', .map (some L.vb), tv, .int .i64 lv', .map (some L.hb), .map (some L.qb), wv] 127 (0, 0))) :
  PSt L bs A ow m mu' lv' { s with clock := c' } w' := by
 obtain ⟨t1, t2, t3, t4⟩ := h.tags
 have hs : ∀ {t : Nat × Int}, t.1 ≠ 1 → ∀ k, k < w.heap.size → ow k = t → w'.heap[k]? = w.heap[k]? := fun n1 k hk1 e => hk.block k hk1 (fun x => n1 (by cases x; rw [← e, t1]))
 obtain ⟨u, tv, wv, b1, b2, b3⟩ := h.body
 obtain ⟨qf, q1, q2⟩ := h.que
 exact ⟨fun k hk0 => Nat.lt_of_lt_of_le (h.lt k hk0) hk.size, h.tags, ⟨u, tv, wv, hb u tv wv b1, b2.kept (AgreeP.refl _ _) (hs (by simp)), b3.kept (AgreeP.refl _ _) (hs (by simp))⟩,
  h.vals.of_same (hs (by simp) _ h.vals.lt t2), h.hold.of_same (hs (by simp) _ h.hold.lt t3), ⟨qf, q1.of_same (hs (by simp) _ q1.lt t4), fun k => (q2 k).kept (AgreeP.refl _ _) (hs (by simp))⟩,
  fun i hi hn => (h.txs i hi hn).kept (AgreeP.refl _ _) (fun k hk1 e => e.elim (fun e => hs (by simp) k hk1 e) (fun e => hs (by simp) k hk1 e)), h.few, h.among, h.hdom, h.qdom, h.rdom, h.nmax⟩
theorem PSt.ownP {L : Lay} {bs : Nat → Nat} {A : List Nat} {ow : Ow} {m : Nat} {mu lv : Int} {s : St} {w : World} (h : PSt L bs A ow m mu lv s w) : OwnP ow L.p := by unfold OwnP; rw [h.tags.1]; exact tagNe (by omega)
theorem PSt.ownT {L : Lay} {bs : Nat → Nat} {A : List Nat} {ow : Ow} {m : Nat} {mu lv : Int} {s : St} {w : World} (h : PSt L bs A ow m mu lv s w) {i : Nat} (hin : 1 ≤ i ∧ i ≤ s.n) : ow (bs i) = (8, (i : Int)) ∧ OwnP ow (bs i) := by
 obtain ⟨_, _, _, _, x, _⟩ := h.txs i hin.1 hin.2
 exact ⟨x, by unfold OwnP; rw [x]; exact tagNe (by omega)⟩
theorem PSt.setT {L : Lay} {bs : Nat → Nat} {A : List Nat} {ow : Ow} {m : Nat} {mu lv : Int} {s : St} {w w' : World} (h : PSt L bs A ow m mu lv s w) (i : Nat) (hin : 1 ≤ i ∧ i ≤ s.n) (t' : Tx) (hk : Kept (Blk (bs i)) w w') (hr : t'.reads = (s.tx i).reads) (hs : t'.state = 0 → (s.tx i).state = 0 ∧ t'.ops = (s.tx i).ops ∧ t'.next = (s.tx i).next ∧ t'.undo = (s.tx i).undo)
  (hb : ∀ ov rv dv, w.heap[bs i]? = some (.cells #[.int .i64 (i : Int), ov, .int .i64 (s.tx i).stamp, .int .i64 (s.tx i).state, .int .i64 (s.tx i).agains, .int .i64 ((s.tx i).next : Int), .bool (s.tx i).wounded, .bool (s.tx i).waits.isSome, .int .i64 ((s.tx i).regs 0), .int .i64 ((s.tx i).regs 1), .int .i64 ((s.tx i).regs 2), .int .i64 ((s.tx i).regs 3), rv, dv] 146 (0, 0)) →
   ∃ ov' dv', (t'.state = 0 → ov' = ov ∧ dv' = dv) ∧ w'.heap[bs i]? = some (.cells #[.int .i64 (i : Int), ov', .int .i64 t'.stamp, .int .i64 t'.state, .int .i64 t'.agains, .int .i64 (t'.next : Int), .bool t'.wounded, .bool t'.waits.isSome, .int .i64 (t'.regs 0), .int .i64 (t'.regs 1), .int .i64 (t'.regs 2), .int .i64 (t'.regs 3), rv, dv'] 146 (0, 0))) :
  PSt L bs A ow m mu lv (s.withTx (upd s.tx i t')) w' ∧ Kept (OwnP ow) w w' := by
 obtain ⟨hbt, hbo⟩ := h.ownT hin
 have hk2 : Kept (fun k => ow k = (8, (i : Int)) ∨ ow k = (9, (i : Int))) w w' := hk.mono (fun k e => by cases e; exact .inl hbt)
 refine ⟨h.turnTx i t' hk2 (AgreeP.refl _ _) (fun k hk0 => Nat.lt_of_lt_of_le (h.lt k hk0) hk.size) (fun _ _ => ?_), hk.mono (fun k e => by cases e; exact hbo)⟩
 obtain ⟨ov, rv, dv, h1, h2, h3, h4, h5⟩ := h.txs i hin.1 hin.2
 obtain ⟨ov', dv', e0, hb'⟩ := hb ov rv dv h1
 have hsm : ∀ k, k < w.heap.size → ow k = (9, (i : Int)) → w'.heap[k]? = w.heap[k]? := fun k hk1 e => hk.block k hk1 (fun x => by cases x; rw [h2] at e; exact tagNe (by omega) e)
 refine ⟨ov', rv, dv', hb', h2, by rw [hr]; exact h3.kept (AgreeP.refl _ _) hsm, by rw [hr]; exact h4, fun h0 => ?_⟩
 obtain ⟨s0, s1, s2, s3⟩ := hs h0
 obtain ⟨rfl, rfl⟩ := e0 h0
 obtain ⟨y1, y2⟩ := h5 s0
 refine ⟨by rw [hr, s2]; exact y1, ?_⟩
 have := y2.kept (AgreeP.refl _ _) hsm
 obtain ⟨l1, l2, l3, l4, l5, cs, l6, l7⟩ := this
 exact ⟨by rw [s1]; exact l1, by rw [s1]; exact l2, by rw [s1]; exact l3, by rw [s1, s2]; exact l4, by rw [s2, s3]; exact l5, cs, by rw [s3]; exact l6, by rw [s3]; exact l7⟩
set_option maxRecDepth 20000 in
set_option maxHeartbeats 3200000 in
theorem pbeginAgain {L : Lay} {bs : Nat → Nat} {A : List Nat} {ow : Ow} {m : Nat} {mu lv : Int} {s : St} {w : World} (h : PSt L bs A ow m mu lv s w) (hI : Inv s) (i : Nat) (hi : i ∈ A) (hst : (s.tx i).state = 0) (hact : s.act.length ≤ 16) (hmm : m + 1000 ≤ 1099511627776) (hag : 0 ≤ (s.tx i).agains ∧ (s.tx i).agains ≤ 1152921504606846976) :
  Calls Tryz.prog 89 #[.pointer (some ⟨L.p, 0, none⟩), .pointer (some ⟨bs i, 0, none⟩)] w fun e w' => e = .returned (.tuple #[]) ∧ PSt L bs A ow (m + 400) mu lv (s.again i) w' ∧ Kept (OwnP ow) w w' := by
 have hin := h.among i hi
 have hun := pundo h hI i hi hst hact hmm
 have HIN : Hid (1 ≤ i ∧ i ≤ s.n) := hin
 clear h hI hin hst
 go_enter Tryz.func89, Tryz.ntmps89
 go_wp2_with fail
 refine hun.mono ?_
 rintro e w1 ⟨rfl, h1, hk1⟩
 obtain ⟨ov, rv, dv, y1, y2, y3⟩ := h1.txs i HIN.out.1 HIN.out.2
 have ea : ((s.undone i).tx i).agains = (s.tx i).agains := by show (((upd s.tx i (s.tx i).anew) i).look _ i).agains = _; rw [upd_same]; rfl
 have c4 : w1.cell? ⟨bs i, 4, none⟩ = some (.int .i64 (s.tx i).agains) := by rw [cell_at y1, ← ea]; rfl
 have f4 : w1.frozen? ⟨bs i, 4, none⟩ = false := frozen_at y1 4
 have HF : Hid (PSt L bs A ow (m + 400) mu lv (s.again i) (w1.setCell ⟨bs i, 4, none⟩ (.int .i64 ((s.tx i).agains + 1))) ∧ Kept (OwnP ow) w (w1.setCell ⟨bs i, 4, none⟩ (.int .i64 ((s.tx i).agains + 1)))) := by
  obtain ⟨z1, z2⟩ := h1.setT i HIN.out { (s.undone i).tx i with agains := ((s.undone i).tx i).agains + 1 } (Kept.set1 w1 (bs i) 4 (.int .i64 ((s.tx i).agains + 1))) rfl (fun h0 => ⟨h0, rfl, rfl, rfl⟩) (fun ov rv dv e => ⟨ov, dv, fun _ => ⟨rfl, rfl⟩, by rw [ea]; exact block_setCell e _⟩)
  exact ⟨z1.congr rfl rfl rfl rfl rfl rfl, hk1.trans' z2⟩
 generalize (s.tx i).agains = ag at *
 have hw : -9223372036854775808 ≤ ag + 1 ∧ ag + 1 ≤ 9223372036854775807 := by omega
 clear h1 hk1 y1 y2 y3 hun ea
 go_wp2_with fail
 go_end0
 exact ⟨rfl, HF.out.1, HF.out.2⟩
end Go.Proofs.YtmcajfefagdbnaaGreat
