import Derived.Test.YtmcajfefagdbnaaGreatJ28
import Derived.Deep.RegionHeld3
import Derived.Deep.RegionLaw
import Derived.Lib.QuietBelow
namespace Go.Proofs.YtmcajfefagdbnaaGreat
open Go Go.RowKit Go.Sort Go.Lib
set_option maxRecDepth 20000 in
set_option maxHeartbeats 3200000 in
theorem pend {L : Lay} {bs : Nat → Nat} {A : List Nat} {ow : Ow} {m : Nat} {mu lv : Int} {s : St} {w : World} (h : PSt L bs A ow m mu lv s w) (i : Nat) (hin : 1 ≤ i ∧ i ≤ s.n) (z : Int) (hz : z ≠ 0) (hlv : 1 ≤ lv ∧ lv ≤ 12) :
  Calls Tryz.prog 105 #[.pointer (some ⟨L.p, 0, none⟩), .pointer (some ⟨bs i, 0, none⟩), .int .i64 z] w fun e w' => e = .returned (.tuple #[]) ∧ PSt L bs A ow m mu (lv - 1) (s.setTx i fun t => { t with state := z }) w' ∧ Kept (OwnP ow) w w' := by
 obtain ⟨ov, rv, dv, y1, y2, y3⟩ := h.txs i hin.1 hin.2
 obtain ⟨u, tv, wv, p1, _⟩ := h.cells
 have hbp : bs i ≠ L.p := blocks_apart y1 p1 (by decide)
 have c3 : w.cell? ⟨bs i, 3, none⟩ = some (.int .i64 (s.tx i).state) := by rw [cell_at y1]; rfl
 have c1 : w.cell? ⟨bs i, 1, none⟩ = some ov := by rw [cell_at y1]; rfl
 have f0 : ∀ o, w.frozen? ⟨bs i, o, none⟩ = false := fun o => frozen_at y1 o
 have d5 : w.cell? ⟨L.p, 5, none⟩ = some (.int .i64 lv) := by rw [cell_at p1]; rfl
 have f5 : ∀ o, w.frozen? ⟨L.p, o, none⟩ = false := fun o => frozen_at p1 o
 have HF : Hid (PSt L bs A ow m mu (lv - 1) (s.setTx i fun t => { t with state := z }) (((w.setCell ⟨bs i, 3, none⟩ (.int .i64 z)).setCell ⟨bs i, 1, none⟩ (.slice none 0 0)).setCell ⟨L.p, 5, none⟩ (.int .i64 (lv - 1))) ∧ Kept (OwnP ow) w (((w.setCell ⟨bs i, 3, none⟩ (.int .i64 z)).setCell ⟨bs i, 1, none⟩ (.slice none 0 0)).setCell ⟨L.p, 5, none⟩ (.int .i64 (lv - 1)))) := by
  obtain ⟨z1, z2⟩ := h.setT i hin { s.tx i with state := z } ((Kept.set1 w (bs i) 3 (.int .i64 z)).trans' (Kept.set1 _ (bs i) 1 (.slice none 0 0))) rfl (fun h0 => absurd h0 hz) (fun ov rv dv e => ⟨.slice none 0 0, dv, fun h0 => absurd h0 hz, block_setCell (block_setCell e _) _⟩)
  have z3 := z1.turnP (mu' := mu) (lv' := lv - 1) (c' := s.clock) (Kept.set1 _ L.p 5 (.int .i64 (lv - 1))) (fun u tv wv e => block_setCell e _)
  exact ⟨z3.congr rfl rfl rfl rfl rfl rfl, z2.trans (Kept.set1 _ L.p 5 _) (fun k e => by cases e; exact .inl h.ownP)⟩
 have hw : -9223372036854775808 ≤ lv - 1 ∧ lv - 1 ≤ 9223372036854775807 := by omega
 clear h y1 y2 y3 p1
 generalize (s.tx i).state = st0 at *
 go_enter Tryz.func105, Tryz.ntmps105
 go_wp2_with fail
 go_end0
 exact ⟨rfl, HF.out.1, HF.out.2⟩
theorem pfail {L : Lay} {bs : Nat → Nat} {A : List Nat} {ow : Ow} {m : Nat} {mu lv : Int} {s : St} {w : World} (h : PSt L bs A ow m mu lv s w) (hI : Inv s) (i : Nat) (hi : i ∈ A) (hst : (s.tx i).state = 0) (hact : s.act.length ≤ 16) (hmm : m + 1000 ≤ 1099511627776) (z : Int) (hz : z ≠ 0) (hlv : 1 ≤ lv ∧ lv ≤ 12) :
  Calls Tryz.prog 72 #[.pointer (some ⟨L.p, 0, none⟩), .pointer (some ⟨bs i, 0, none⟩), .int .i64 z] w fun e w' => e = .returned (.tuple #[]) ∧ PSt L bs A ow (m + 400) mu (lv - 1) (s.fell i z) w' ∧ Kept (OwnP ow) w w' := by
 have hin := h.among i hi
 have hun := pundo h hI i hi hst hact hmm
 clear h hI hst
 go_enter Tryz.func72, Tryz.ntmps72
 go_wp2_with fail
 refine hun.mono ?_
 rintro e w1 ⟨rfl, h1, hk1⟩
 have hen := pend h1 i hin z hz hlv
 clear h1 hun
 go_wp2_with fail
 refine hen.mono ?_
 rintro e w2 ⟨rfl, h2, hk2⟩
 have HF : Hid (PSt L bs A ow (m + 400) mu (lv - 1) (s.fell i z) w2) := h2
 have HK : Hid (Kept (OwnP ow) w w2) := hk1.trans' hk2
 clear h2 hen hk1 hk2
 go_wp2_with fail
 go_end0
 exact ⟨rfl, HF.out, HK.out⟩
def giveAll (ow : Ow) (a b : Nat) (tag : Nat × Int) : Ow := fun k => if k < a then ow k else if k < b then tag else (0, 0)
theorem giveAll_agree (ow : Ow) (w : World) (b : Nat) (tag : Nat × Int) : AgreeP w ow (giveAll ow w.heap.size b tag) := fun k hk => by simp only [giveAll, hk, if_true]
theorem giveAll_lt {ow : Ow} {a b : Nat} {tag : Nat × Int} (hab : a ≤ b) : ∀ k, giveAll ow a b tag k ≠ (0, 0) → k < b := fun k hk => by
 unfold giveAll at hk
 split at hk
 ·omega
 ·split at hk
  ·assumption
  ·exact absurd rfl hk
theorem giveAll_new {ow : Ow} {a b : Nat} {tag : Nat × Int} {k : Nat} (h1 : a ≤ k) (h2 : k < b) : giveAll ow a b tag k = tag := by
 unfold giveAll
 rw [if_neg (by omega), if_pos h2]
theorem PSt.turnWins {L : Lay} {bs : Nat → Nat} {A : List Nat} {ow ow' : Ow} {m : Nat} {mu lv : Int} {s : St} {w w' : World} (h : PSt L bs A ow m mu lv s w) {ws : List Nat} (hk : Kept (fun k => ow k = (1, 0) ∨ ow k = (6, 0)) w w') (ha : AgreeP w ow ow') (hlt : ∀ k, ow' k ≠ (0, 0) → k < w'.heap.size)
  (hb : ∃ u tv wv, w.heap[L.p]? = some (.cells #[.int .i32 mu, u, .int .i64 s.clock, .map (some L.vb), tv, .int .i64 lv, .map (some L.hb), .map (some L.qb), wv] 127 (0, 0)) ∧ ∃ wv', w'.heap[L.p]? = some (.cells #[.int .i32 mu, u, .int .i64 s.clock, .map (some L.vb), tv, .int .i64 lv, .map (some L.hb), .map (some L.qb), wv'] 127 (0, 0)) ∧ RowT ow' (6, 0) w' 3 1 wv' ws.length (winsCells ws)) :
  PSt L bs A ow' m mu lv { s with wins := ws } w' := by
 obtain ⟨t1, t2, t3, t4⟩ := h.tags
 have hs : ∀ {t : Nat × Int}, t.1 ≠ 1 → t.1 ≠ 6 → ∀ k, k < w.heap.size → ow k = t → w'.heap[k]? = w.heap[k]? := fun n1 n2 k hk1 e => hk.block k hk1 (fun x => x.elim (fun e' => n1 (by rw [← e, e'])) (fun e' => n2 (by rw [← e, e'])))
 obtain ⟨u, tv, wv, b1, b2, b3⟩ := h.body
 obtain ⟨u0, tv0, wv0, b1', wv', b4, b5⟩ := hb
 rw [b1] at b1'
 simp only [Option.some.injEq, Obj.cells.injEq, Array.mk.injEq, List.cons.injEq, and_true, true_and] at b1'
 obtain ⟨rfl, rfl, rfl⟩ := b1'
 obtain ⟨qf, q1, q2⟩ := h.que
 exact ⟨hlt, ⟨by rw [ha _ (lt_of_block b1)]; exact t1, by rw [ha _ h.vals.lt]; exact t2, by rw [ha _ h.hold.lt]; exact t3, by rw [ha _ q1.lt]; exact t4⟩, ⟨u, tv, wv', b4, b2.kept ha (hs (by simp) (by simp)), b5⟩,
  h.vals.of_same (hs (by simp) (by simp) _ h.vals.lt t2), h.hold.of_same (hs (by simp) (by simp) _ h.hold.lt t3), ⟨qf, q1.of_same (hs (by simp) (by simp) _ q1.lt t4), fun k => (q2 k).kept ha (hs (by simp) (by simp))⟩,
  fun i hi hn => (h.txs i hi hn).kept ha (fun k hk1 e => e.elim (fun e => hs (by simp) (by simp) k hk1 e) (fun e => hs (by simp) (by simp) k hk1 e)), h.few, h.among, h.hdom, h.qdom, h.rdom, h.nmax⟩
theorem commit_eq {s : St} {i : Nat} {lk' : Int → Lk} {tx' : Nat → Tx} (h1 : lk' = fun k => (s.lk k).freed s.n i) (h2 : tx' = fun j => (s.tx j).look (fun k => (s.lk k).freed s.n i) j) :
  (s.commit i).lk = lk' ∧ (s.commit i).tx = upd tx' i { tx' i with state := 1 } := by
 refine ⟨h1.symm, ?_⟩
 subst h2
 show (fun j => ((upd s.tx i { s.tx i with state := 1 }) j).look (fun k => (s.lk k).freed s.n i) j) = _
 funext j
 by_cases e : j = i
 ·subst e
  simp only [upd_same]
  rfl
 ·rw [upd_other _ _ _ _ e, upd_other _ _ _ _ e]
theorem PSt.undeferred {L : Lay} {bs : Nat → Nat} {A : List Nat} {ow : Ow} {m : Nat} {mu lv : Int} {s : St} {w : World} (h : PSt L bs A ow m mu lv s w) (i : Nat) (hin : 1 ≤ i ∧ i ≤ s.n) :
  PSt L bs A ow m mu lv (s.withTx (upd s.tx i { s.tx i with undo := [] })) (w.setCell ⟨bs i, 13, none⟩ (.slice none 0 0)) ∧ Kept (OwnP ow) w (w.setCell ⟨bs i, 13, none⟩ (.slice none 0 0)) := by
 obtain ⟨hbt, hbo⟩ := h.ownT hin
 have hk := Kept.set1 w (bs i) 13 (.slice none 0 0)
 have hk2 : Kept (fun k => ow k = (8, (i : Int)) ∨ ow k = (9, (i : Int))) w (w.setCell ⟨bs i, 13, none⟩ (.slice none 0 0)) := hk.mono (fun k e => by cases e; exact .inl hbt)
 refine ⟨h.turnTx i _ hk2 (AgreeP.refl _ _) (fun k hk0 => Nat.lt_of_lt_of_le (h.lt k hk0) hk.size) (fun _ _ => ?_), hk.mono (fun k e => by cases e; exact hbo)⟩
 obtain ⟨ov, rv, dv, h1, h2, h3, h4, h5⟩ := h.txs i hin.1 hin.2
 have hsm : ∀ k, k < w.heap.size → ow k = (9, (i : Int)) → (w.setCell ⟨bs i, 13, none⟩ (.slice none 0 0)).heap[k]? = w.heap[k]? := fun k hk1 e => hk.block k hk1 (fun x => by cases x; rw [h2] at e; exact tagNe (by omega) e)
 refine ⟨ov, rv, .slice none 0 0, block_setCell h1 _, h2, h3.kept (AgreeP.refl _ _) hsm, h4, fun h0 => ?_⟩
 obtain ⟨y1, l1, l2, l3, l4, l5, cs, l6, l7⟩ := h5 h0
 exact ⟨y1, l1.kept (AgreeP.refl _ _) hsm, l2, l3, l4, Nat.zero_le _, [], RowT.nil _ _ _ _ _, trivial⟩
theorem PSt.anyUndo {L : Lay} {bs : Nat → Nat} {A : List Nat} {ow : Ow} {m : Nat} {mu lv : Int} {s : St} {w : World} (h : PSt L bs A ow m mu lv s w) (i : Nat) (hin : 1 ≤ i ∧ i ≤ s.n) (hz : (s.tx i).state ≠ 0) (us : List Saw) : PSt L bs A ow m mu lv (s.withTx (upd s.tx i { s.tx i with undo := us })) w := by
 refine h.turnTx i _ (Kept.refl _ _) (AgreeP.refl _ _) h.lt (fun _ _ => ?_)
 obtain ⟨ov, rv, dv, h1, h2, h3, h4, h5⟩ := h.txs i hin.1 hin.2
 exact ⟨ov, rv, dv, h1, h2, h3, h4, fun h0 => absurd h0 hz⟩
theorem winsCells_snoc (l : List Nat) (i : Nat) : winsCells (l ++ [i]) = winsCells l ++ [.int .i64 (i : Int)] := by simp [winsCells]
set_option maxRecDepth 20000 in
set_option maxHeartbeats 3200000 in
theorem pcommit {L : Lay} {bs : Nat → Nat} {A : List Nat} {ow : Ow} {m : Nat} {mu lv : Int} {s : St} {w : World} (h : PSt L bs A ow m mu lv s w) (hI : Inv s) (i : Nat) (hi : i ∈ A) (hwt : (s.tx i).waits = none) (hact : s.act.length ≤ 16) (hmm : m + 1000 ≤ 1099511627776) (hlv : 1 ≤ lv ∧ lv ≤ 12) (hws : s.wins.length ≤ 1099511627776) :
  Calls Tryz.prog 90 #[.pointer (some ⟨L.p, 0, none⟩), .pointer (some ⟨bs i, 0, none⟩)] w fun e w' => e = .returned (.tuple #[]) ∧ (∃ ow', PSt L bs A ow' (m + 400) mu (lv - 1) (s.commit i) w' ∧ AgreeP w ow ow') ∧ Kept (OwnP ow) w w' := by
 have hin := h.among i hi
 have hlg := pletAllGo h i hi s.tx s.lk (FrM.start (by have := unwaited_wtx hI i; rw [unwaited_none hwt] at this; exact this) hI.still (fun k => (hI.row k).once) (fun k md => hI.not_waiting hwt k md)) (held_few hI hact i) (fun k x hx => by have := ((hI.row k).qmode x hx).2; omega) (by omega)
 go_enter Tryz.func90, Tryz.ntmps90
 go_wp2_with fail
 refine hlg.mono ?_
 rintro e w1 ⟨lk', tx', rfl, hp1, hF, h0, hk1⟩
 obtain ⟨e1, e2⟩ := hF.last hwt h0
 obtain ⟨q1, q2⟩ := commit_eq e1 e2
 obtain ⟨hp2, hk2⟩ := hp1.undeferred i hin
 obtain ⟨ov, rv, dv, y1, y2, y3⟩ := hp1.txs i hin.1 hin.2
 have c13 : w1.cell? ⟨bs i, 13, none⟩ = some dv := by rw [cell_at y1]; rfl
 have c0 : w1.cell? ⟨bs i, 0, none⟩ = some (.int .i64 (i : Int)) := by rw [cell_at y1]; rfl
 have f13 : w1.frozen? ⟨bs i, 13, none⟩ = false := frozen_at y1 13
 have HP1 : Hid (PSt L bs A ow (m + 320) mu lv ((s.withLk lk').withTx tx') w1) := hp1
 have HP2 : Hid (PSt L bs A ow (m + 320) mu lv (((s.withLk lk').withTx tx').withTx (upd tx' i { tx' i with undo := [] })) (w1.setCell ⟨bs i, 13, none⟩ (.slice none 0 0))) := hp2
 have HK2 : Hid (Kept (OwnP ow) w (w1.setCell ⟨bs i, 13, none⟩ (.slice none 0 0))) := hk1.trans' hk2
 have HQ : Hid ((s.commit i).lk = lk' ∧ (s.commit i).tx = upd tx' i { tx' i with state := 1 }) := ⟨q1, q2⟩
 have HIN : Hid (1 ≤ i ∧ i ≤ s.n) := hin
 obtain ⟨i1, hi1, hy0, hy1, hy2⟩ := info_parts infoI
 have HI1 : Hid (Tryz.prog.info? 3 = some i1 ∧ i1.zero = some (.int .i64 0) ∧ i1.size = 1 ∧ i1.bytes = 8) := ⟨hi1, hy0, hy1, hy2⟩
 have HB0 : Hid (s.wins.length + 1 ≤ maxLen) := by unfold Hid maxLen; omega
 have HB1 : Hid ((s.wins.length + 1) * 8 ≤ 140737488355328) := by unfold Hid; omega
 clear hlg hp1 hp2 hk1 hk2 hF h0 e1 e2 q1 q2 y1 y2 y3 h hI hin hi1 hy0 hy1 hy2
 go_wp2_with fail
 have hp2 : PSt L bs A ow (m + 320) mu lv (((s.withLk lk').withTx tx').withTx (upd tx' i { tx' i with undo := [] })) (w1.setCell ⟨bs i, 13, none⟩ (.slice none 0 0)) := HP2.out
 clear HP2 HP1 c13 f13 c0
 generalize w1.setCell ⟨bs i, 13, none⟩ (.slice none 0 0) = W2 at *
 obtain ⟨u, tv, wv, p1, p2, p3⟩ := hp2.body
 have p3' : RowT ow (6, 0) W2 3 1 wv s.wins.length (winsCells s.wins) := p3
 obtain ⟨ao, c, rfl, hc1, hc2⟩ := p3'.1.form
 have c0 : W2.cell? ⟨bs i, 0, none⟩ = some (.int .i64 (i : Int)) := (hp2.txs i HIN.out.1 HIN.out.2).number
 have d8 : W2.cell? ⟨L.p, 8, none⟩ = some (.slice ao s.wins.length c) := by rw [cell_at p1]; rfl
 have HROW : Hid (RowT ow (6, 0) W2 3 1 (.slice ao s.wins.length c) s.wins.length (winsCells s.wins)) := p3'
 have HP : Hid (W2.heap[L.p]? = some (.cells #[.int .i32 mu, u, .int .i64 s.clock, .map (some L.vb), tv, .int .i64 lv, .map (some L.hb), .map (some L.qb), .slice ao s.wins.length c] 127 (0, 0))) := p1
 have HPW : Hid (¬ (Value.slice ao s.wins.length c).ownBlock = some L.p) := fun e => by have := p3'.2 _ e; rw [hp2.tags.1] at this; exact tagNe (by omega) this
 have HP2 : Hid (PSt L bs A ow (m + 320) mu lv (((s.withLk lk').withTx tx').withTx (upd tx' i { tx' i with undo := [] })) W2) := hp2
 have hpl := lt_of_block p1
 have hbl := World.block_lt_of_cell? _ _ c0
 clear hp2 p1 p2 p3 p3'
 generalize hwn : s.wins.length = wn at *
 have HWN : Hid (s.wins.length = wn) := hwn
 clear hwn
 go_region_law (refine step_append_row (by rfl) _ _ 45 (by rfl) 3 i1 _ 1 8 Tryz.underlying45 HI1.out.1 HI1.out.2.1 HI1.out.2.2.1 HI1.out.2.2.2 (by rfl) (.slice ao wn c) wn (winsCells s.wins) (by rfl) (RowAt.kept HROW.out.1 ((Kept.refl NoBlk W2).alloc _).drew (fun _ _ x => x)) (.slice (some ⟨W2.heap.size, 0, none⟩) 1 1) 1 [.int .i64 (i : Int)] (by rfl) (FromMem.drew (from_new1 W2 _ _ rfl)) HB0.out HB1.out ?_; intro ao' c' w3 hrow3 hmv3; have q8 := hmv3.keptOf.cell ((((Kept.refl NoBlk W2).alloc _).drew).cell0 d8) HPW.out; have qf8 : w3.frozen? ⟨L.p, 8, none⟩ = false := frozen_at (hmv3.keptOf.heap ((((Kept.refl NoBlk W2).alloc _).drew).heap HP.out (fun x => x)) HPW.out) 8)
 all_goals
  have hp2 : PSt L bs A ow (m + 320) mu lv (((s.withLk lk').withTx tx').withTx (upd tx' i { tx' i with undo := [] })) W2 := HP2.out
  have hka : Kept NoBlk W2 (W2.alloc (.cells #[.int .i64 (i : Int)] 3)).drew := ((Kept.refl _ _).alloc _).drew
  have hkb := hmv3.keptOf
  have hkc := Kept.set1 w3 L.p 8 (.slice ao' (wn + 1) c')
  have hk4 : Kept (fun k => ow k = (1, 0) ∨ ow k = (6, 0)) W2 (w3.setCell ⟨L.p, 8, none⟩ (.slice ao' (wn + 1) c')) := ((hka.mono (fun _ x => x.elim)).trans hkb (fun k e => .inl (.inr (HROW.out.2 k e)))).trans hkc (fun k e => .inl (by cases e; exact .inl hp2.tags.1))
  have hsz3 : W2.heap.size < w3.heap.size := by
   have h1 := hkb.size
   have h2 : (W2.alloc (.cells #[.int .i64 (i : Int)] 3)).drew.heap.size = W2.heap.size + 1 := alloc_size W2 _
   omega
  have hsz4 : (w3.setCell ⟨L.p, 8, none⟩ (.slice ao' (wn + 1) c')).heap.size = w3.heap.size := by simp [World.setCell]
  have hnp : ∀ k, (Value.slice ao' (wn + 1) c').ownBlock = some k → (ow k = (6, 0) ∧ k < W2.heap.size) ∨ W2.heap.size ≤ k := fun k hk => by
   rcases hmv3.fresh k hk with e | e
   ·exact .inl ⟨HROW.out.2 k e, HROW.out.1.lt k e⟩
   ·have h2 : (W2.alloc (.cells #[.int .i64 (i : Int)] 3)).drew.heap.size = W2.heap.size + 1 := alloc_size W2 _
    exact .inr (by omega)
  have hrow4 : RowT (giveAll ow W2.heap.size w3.heap.size (6, 0)) (6, 0) (w3.setCell ⟨L.p, 8, none⟩ (.slice ao' (wn + 1) c')) 3 1 (.slice ao' (wn + 1) c') (s.wins ++ [i]).length (winsCells (s.wins ++ [i])) := by
   have el : (s.wins ++ [i]).length = wn + 1 := by rw [List.length_append, HWN.out]; rfl
   rw [el, winsCells_snoc]
   refine ⟨hrow3.kept hkc (fun k hk e => ?_), fun k hk => ?_⟩
   ·unfold Blk at e
    rcases hnp k hk with x | x
    ·have := x.1; rw [e, hp2.tags.1] at this; exact tagNe (by omega) this
    ·omega
   ·rcases hnp k hk with x | x
    ·rw [giveAll_agree ow W2 w3.heap.size (6, 0) k x.2]; exact x.1
    ·exact giveAll_new x (hrow3.lt k hk)
  have hp5 := hp2.turnWins (ws := s.wins ++ [i]) hk4 (giveAll_agree ow W2 w3.heap.size (6, 0)) (by rw [hsz4]; exact giveAll_lt (by omega)) ⟨u, tv, .slice ao wn c, HP.out, .slice ao' (wn + 1) c', block_setCell (hkb.heap (hka.heap HP.out (fun x => x)) HPW.out) _, hrow4⟩
  have hen := pend hp5 i HIN.out 1 (by omega) hlv
  have HOW : Hid (Kept (OwnP ow) w (w3.setCell ⟨L.p, 8, none⟩ (.slice ao' (wn + 1) c'))) := HK2.out.trans hk4 (fun k e => .inl (by unfold OwnP; rcases e with e | e <;> (rw [e]; exact tagNe (by omega))))
  have HAG : Hid (AgreeP w ow (giveAll ow W2.heap.size w3.heap.size (6, 0))) := fun k hk => giveAll_agree ow W2 w3.heap.size (6, 0) k (Nat.lt_of_lt_of_le hk HK2.out.size)
  have HOO : Hid (∀ k, OwnP (giveAll ow W2.heap.size w3.heap.size (6, 0)) k → OwnP ow k ∨ w.heap.size ≤ k) := fun k hk => by
   by_cases e : k < w.heap.size
   ·left; unfold OwnP at hk ⊢; rw [HAG.out k e] at hk; exact hk
   ·right; omega
  clear hp2 hka hkb hkc hk4 hsz3 hsz4 hnp hrow4 hrow3 hmv3 q8 qf8 hp5
  go_wp2_with fail
  refine hen.mono ?_
  rintro e w5 ⟨rfl, h5, hk5⟩
  have HF : Hid (∃ ow', PSt L bs A ow' (m + 400) mu (lv - 1) (s.commit i) w5 ∧ AgreeP w ow ow') := by
   refine ⟨_, ?_, HAG.out⟩
   have h6 := h5.anyUndo i HIN.out (by show ((upd (upd tx' i { tx' i with undo := [] }) i _) i).state ≠ 0; rw [upd_same]; exact (by omega : (1 : Int) ≠ 0)) (tx' i).undo
   refine (h6.mono (by omega)).congr rfl rfl rfl HQ.out.1 ?_ rfl
   rw [HQ.out.2]
   show _ = upd (upd (upd tx' i { tx' i with undo := [] }) i { (upd tx' i { tx' i with undo := [] }) i with state := 1 }) i { (upd (upd tx' i { tx' i with undo := [] }) i { (upd tx' i { tx' i with undo := [] }) i with state := 1 }) i with undo := (tx' i).undo }
   rw [upd_upd, upd_upd, upd_same, upd_same]
  have HK5 : Hid (Kept (OwnP ow) w w5) := HOW.out.trans hk5 (fun k e => HOO.out k e)
  clear h5 hk5 hen
  go_wp2_with fail
  go_end0
  exact ⟨rfl, HF.out, HK5.out⟩
end Go.Proofs.YtmcajfefagdbnaaGreat
namespace Go.Proofs.YtmcajfefagdbnaaGreat
open Go Go.RowKit Go.Sort Go.Lib
def woundL (s : St) (i : Nat) (md : Int) (l : List (Int × Int)) (tx : Nat → Tx) : Nat → Tx := fun j =>
 if l.any (fun x => decide (x.1 = (j : Int)) && confl ((i : Int), md) x && decide ((s.tx i).stamp < (s.tx j).stamp)) then { tx j with wounded := true } else tx j
theorem woundL_snoc (s : St) (i : Nat) (md : Int) (l : List (Int × Int)) (x : Int × Int) (j : Nat) (hx : x.1 = (j : Int)) (tx : Nat → Tx) :
  woundL s i md (l ++ [x]) tx = if confl ((i : Int), md) x && decide ((s.tx i).stamp < (s.tx j).stamp) then upd (woundL s i md l tx) j { woundL s i md l tx j with wounded := true } else woundL s i md l tx := by
 funext k
 by_cases e : k = j
 ·subst e
  cases hc : confl ((i : Int), md) x && decide ((s.tx i).stamp < (s.tx k).stamp)
  ·simp only [Bool.false_eq_true, if_false]
   unfold woundL
   rw [List.any_append, List.any_cons, List.any_nil, Bool.or_false]
   have : (decide (x.1 = (k : Int)) && confl ((i : Int), md) x && decide ((s.tx i).stamp < (s.tx k).stamp)) = false := by rw [Bool.and_assoc, hc, Bool.and_false]
   rw [this, Bool.or_false]
  ·simp only [if_true]
   rw [upd_same]
   unfold woundL
   rw [List.any_append, List.any_cons, List.any_nil, Bool.or_false]
   have : (decide (x.1 = (k : Int)) && confl ((i : Int), md) x && decide ((s.tx i).stamp < (s.tx k).stamp)) = true := by rw [Bool.and_assoc, hc, Bool.and_true]; simp [hx]
   rw [this, Bool.or_true]
   simp only [if_true]
   split <;> rfl
 ·have hne : decide (x.1 = (k : Int)) = false := by simp; omega
  have : woundL s i md (l ++ [x]) tx k = woundL s i md l tx k := by
   unfold woundL
   rw [List.any_append, List.any_cons, List.any_nil, Bool.or_false, hne, Bool.false_and, Bool.false_and, Bool.or_false]
  rw [this]
  split
  ·rw [upd_other _ _ _ _ e]
  ·rfl
theorem woundL_stamp (s : St) (i : Nat) (md : Int) (l : List (Int × Int)) (tx : Nat → Tx) (j : Nat) : (woundL s i md l tx j).stamp = (tx j).stamp := by
 unfold woundL
 split <;> rfl
theorem PSt.wounded {L : Lay} {bs : Nat → Nat} {A : List Nat} {ow : Ow} {m : Nat} {mu lv : Int} {s : St} {w : World} (h : PSt L bs A ow m mu lv s w) (j : Nat) (hin : 1 ≤ j ∧ j ≤ s.n) :
  PSt L bs A ow m mu lv (s.withTx (upd s.tx j { s.tx j with wounded := true })) (w.setCell ⟨bs j, 6, none⟩ (.bool true)) ∧ Kept (OwnP ow) w (w.setCell ⟨bs j, 6, none⟩ (.bool true)) :=
 h.setT j hin { s.tx j with wounded := true } (Kept.set1 w (bs j) 6 (.bool true)) rfl (fun h0 => ⟨h0, rfl, rfl, rfl⟩) (fun ov _ dv e => ⟨ov, dv, fun _ => ⟨rfl, rfl⟩, block_setCell e _⟩)
set_option maxRecDepth 20000 in
set_option maxHeartbeats 6400000 in
theorem pwound {L : Lay} {bs : Nat → Nat} {A : List Nat} {ow : Ow} {m : Nat} {mu lv : Int} {s : St} {tx1 : Nat → Tx} {w : World} (h : PSt L bs A ow m mu lv (s.withTx tx1) w) (hst1 : ∀ j, (tx1 j).stamp = (s.tx j).stamp) (i : Nat) (hin : 1 ≤ i ∧ i ≤ s.n) (md : Int) (v : Value) (l : List (Int × Int)) (hl : RowAt w 107 2 v l.length (lkc l)) (hn : l.length ≤ 1099511627776) (hown : ∀ b, v.ownBlock = some b → ∀ j : Int, ow b ≠ (8, j))
  (hA : ∀ x ∈ l, ∃ j : Nat, x.1 = (j : Int) ∧ 1 ≤ j ∧ j ≤ s.n) :
  Calls Tryz.prog 131 #[.pointer (some ⟨L.p, 0, none⟩), v, .pointer (some ⟨bs i, 0, none⟩), .agg #[.int .i64 (i : Int), .int .i64 md]] w fun e w' => e = .returned (.tuple #[]) ∧ PSt L bs A ow m mu lv (s.withTx (woundL s i md l tx1)) w' ∧ Kept (fun k => ∃ j : Int, ow k = (8, j)) w w' := by
 obtain ⟨ao, c, rfl, hc1, hc2⟩ := hl.form
 have HH : Hid (PSt L bs A ow m mu lv (s.withTx tx1) w) := h
 have HL : Hid (RowAt w 107 2 (.slice ao l.length c) l.length (lkc l)) := hl
 have HIN : Hid (1 ≤ i ∧ i ≤ s.n) := hin
 have HA : Hid (∀ x ∈ l, ∃ j : Nat, x.1 = (j : Int) ∧ 1 ≤ j ∧ j ≤ s.n) := hA
 have HO : Hid (∀ b, (Value.slice ao l.length c).ownBlock = some b → ∀ j : Int, ow b ≠ (8, j)) := hown
 have HS1 : Hid (∀ j, (tx1 j).stamp = (s.tx j).stamp) := hst1
 generalize hnn : l.length = n at *
 have HN : Hid (l.length = n) := hnn
 clear h hl hin hA hown hnn hst1
 go_enter Tryz.func131, Tryz.ntmps131
 go_wp2_with fail
 generalize hw0 : w.alloc (Obj.cells #[Value.int IntKind.i64 (i : Int), Value.int IntKind.i64 md] 107) = w0
 have hk0 : Kept NoBlk w w0 := by rw [← hw0]; exact (Kept.refl _ _).alloc _
 have hbx : w0.heap[w.heap.size]? = some (.cells #[.int .i64 (i : Int), .int .i64 md] 107 (0, 0)) := by rw [← hw0]; exact block_alloc_new w _
 have HBX : Hid (w0.heap[w.heap.size]? = some (.cells #[.int .i64 (i : Int), .int .i64 md] 107 (0, 0))) := hbx
 have HK0 : Hid (Kept NoBlk w w0) := hk0
 have HW0 : Hid (∀ j : Int, ow w.heap.size ≠ (8, j)) := fun j e => by
  have := (HH.out : PSt L bs A ow m mu lv (s.withTx tx1) w).lt w.heap.size (by rw [e]; exact tagNe (by omega))
  omega
 clear hw0 hk0 hbx
 go_loopw [13] (fun v wr => ∃ k : Nat, k ≤ n ∧ v = .int .i64 (k : Int) ∧ PSt L bs A ow m mu lv (s.withTx (woundL s i md (l.take k) tx1)) wr ∧ Kept (fun b => ∃ j : Int, ow b = (8, j)) w0 wr) (fun v _ => n - (intOf v).toNat)
 case atStart => exact ⟨0, Nat.zero_le _, rfl, PSt.kept0 HH.out HK0.out, Kept.refl _ _⟩
 case round =>
  obtain ⟨k, hk, rfl, hst, hkw⟩ := hrel
  have HST : Hid (PSt L bs A ow m mu lv (s.withTx (woundL s i md (l.take k) tx1)) wr) := hst
  have HKW : Hid (Kept (fun b => ∃ j : Int, ow b = (8, j)) w0 wr) := hkw
  by_cases hlt : k < n
  ·have hkl : k < l.length := by rw [HN.out]; exact hlt
   have hrow : RowAt wr 107 2 (.slice ao n c) n (lkc l) := (RowAt.kept HL.out HK0.out (fun _ _ x => x)).kept hkw (fun b hb e => by obtain ⟨j, e⟩ := e; exact HO.out b hb j e)
   obtain ⟨g, off, rfl, g0, g1⟩ := hrow.lks k hkl
   have hbw := hkw.heap HBX.out (fun e => by obtain ⟨j, e⟩ := e; exact HW0.out j e)
   have b0 : wr.cell? ⟨w.heap.size, 0, none⟩ = some (.int .i64 (i : Int)) := by rw [cell_at hbw]; rfl
   have b1 : wr.cell? ⟨w.heap.size, 1, none⟩ = some (.int .i64 md) := by rw [cell_at hbw]; rfl
   have hwl := lt_of_block hbw
   generalize hx : l.getD k (0, 0) = x at *
   have Hx : Hid (l.getD k (0, 0) = x) := hx
   have hmem : x ∈ l := by rw [← hx]; simp [List.getD, hkl]
   obtain ⟨j, hj, hj1, hjn⟩ := HA.out x hmem
   obtain ⟨x1, x2⟩ := x
   simp only at hj g0 g1
   subst hj
   have HJ : Hid (1 ≤ j ∧ j ≤ s.n) := ⟨hj1, hjn⟩
   have HKL : Hid (k < l.length) := hkl
   have hgl := World.block_lt_of_cell? _ _ g0
   have hal : Kept NoBlk wr (wr.alloc (.cells #[.int .i64 (j : Int), .int .i64 x2] 107)) := (Kept.refl _ _).alloc _
   have hsta := hst.kept0 hal
   obtain ⟨g2, off2, cc, p4, pp⟩ := hsta.ptr (i := j) hj1 hjn
   have hfd := find_some L.p g2 off2 s.n cc j (bs j) _ p4 pp hj1 hjn hst.nmax
   clear hx hst hkw hbw hrow hmem hkl hal hsta p4 pp
   go_wp2_with fail
   refine hfd.mono ?_
   rintro e w2 ⟨rfl, rfl⟩
   clear hfd
   have hst2 : PSt L bs A ow m mu lv (s.withTx (woundL s i md (l.take k) tx1)) (wr.alloc (.cells #[.int .i64 (j : Int), .int .i64 x2] 107)) := PSt.kept0 HST.out ((Kept.refl _ _).alloc _)
   obtain ⟨ovi, rvi, dvi, yi, _, _⟩ := hst2.txs i HIN.out.1 HIN.out.2
   obtain ⟨ovj, rvj, dvj, yj, _, _⟩ := hst2.txs j HJ.out.1 HJ.out.2
   have sti : ((s.withTx (woundL s i md (l.take k) tx1)).tx i).stamp = (s.tx i).stamp := by show (woundL s i md (l.take k) tx1 i).stamp = _; rw [woundL_stamp, HS1.out]
   have stj : ((s.withTx (woundL s i md (l.take k) tx1)).tx j).stamp = (s.tx j).stamp := by show (woundL s i md (l.take k) tx1 j).stamp = _; rw [woundL_stamp, HS1.out]
   rw [sti] at yi
   rw [stj] at yj
   have HYI : Hid _ := yi
   have HYJ : Hid _ := yj
   have hal : Kept NoBlk wr (wr.alloc (.cells #[.int .i64 (j : Int), .int .i64 x2] 107)) := (Kept.refl _ _).alloc _
   have a0 := hal.cell0 b0
   have a1 := hal.cell0 b1
   have hnb := block_alloc_new wr (.cells #[.int .i64 (j : Int), .int .i64 x2] 107)
   have e0 : (wr.alloc (.cells #[.int .i64 (j : Int), .int .i64 x2] 107)).cell? ⟨wr.heap.size, 0, none⟩ = some (.int .i64 (j : Int)) := by rw [cell_at hnb]; rfl
   have e1 : (wr.alloc (.cells #[.int .i64 (j : Int), .int .i64 x2] 107)).cell? ⟨wr.heap.size, 1, none⟩ = some (.int .i64 x2) := by rw [cell_at hnb]; rfl
   have HST2 : Hid (PSt L bs A ow m mu lv (s.withTx (woundL s i md (l.take k) tx1)) (wr.alloc (.cells #[.int .i64 (j : Int), .int .i64 x2] 107))) := hst2
   have HKW2 : Hid (Kept (fun b => ∃ j : Int, ow b = (8, j)) w0 (wr.alloc (.cells #[.int .i64 (j : Int), .int .i64 x2] 107))) := HKW.out.trans hal (fun _ x => x.elim)
   have hsn : woundL s i md (l.take (k + 1)) tx1 = if confl ((i : Int), md) ((j : Int), x2) && decide ((s.tx i).stamp < (s.tx j).stamp) then upd (woundL s i md (l.take k) tx1) j { woundL s i md (l.take k) tx1 j with wounded := true } else woundL s i md (l.take k) tx1 := by
    rw [List.take_add_one, show l[k]? = some ((j : Int), x2) from by have := HKL.out; rw [← Hx.out]; simp [List.getD, this]]
    exact woundL_snoc s i md (l.take k) ((j : Int), x2) j rfl tx1
   have HSN : Hid (woundL s i md (l.take (k + 1)) tx1 = if confl ((i : Int), md) ((j : Int), x2) && decide ((s.tx i).stamp < (s.tx j).stamp) then upd (woundL s i md (l.take k) tx1) j { woundL s i md (l.take k) tx1 j with wounded := true } else woundL s i md (l.take k) tx1) := hsn
   have hcon := fun W => conflict_ok ((i : Int), md) ((j : Int), x2) W
   simp only at hcon
   clear hst2 yi yj sti stj hal hnb b0 b1 g0 g1 hsn
   generalize wr.alloc (.cells #[.int .i64 (j : Int), .int .i64 x2] 107) = W2 at *
   generalize (s.tx i).stamp = si at *
   generalize (s.tx j).stamp = sj at *
   have t2i : W2.cell? ⟨bs i, 2, none⟩ = some (.int .i64 si) := by rw [cell_at HYI.out]; rfl
   have t2j : W2.cell? ⟨bs j, 2, none⟩ = some (.int .i64 sj) := by rw [cell_at HYJ.out]; rfl
   have hf0 : W2.drew.cell? ⟨w.heap.size, 0, none⟩ = some (.int .i64 (i : Int)) ∧ W2.drew.cell? ⟨w.heap.size, 1, none⟩ = some (.int .i64 md) ∧ W2.drew.cell? ⟨wr.heap.size, 0, none⟩ = some (.int .i64 (j : Int)) ∧ W2.drew.cell? ⟨wr.heap.size, 1, none⟩ = some (.int .i64 x2) ∧ W2.drew.cell? ⟨bs i, 2, none⟩ = some (.int .i64 si) ∧ W2.drew.cell? ⟨bs j, 2, none⟩ = some (.int .i64 sj) := ⟨a0, a1, e0, e1, t2i, t2j⟩
   generalize hcf : confl ((i : Int), md) ((j : Int), x2) = cf at *
   clear a0 a1 e0 e1 t2i t2j
   cases cf
   ·go_wp2_with fail
    have k0 := cell_regrown (w := W2) hf0.1
    have k1 := cell_regrown (w := W2) hf0.2.1
    have k2 := cell_regrown (w := W2) hf0.2.2.1
    have k3 := cell_regrown (w := W2) hf0.2.2.2.1
    have k4 := cell_regrown (w := W2) hf0.2.2.2.2.1
    have k5 := cell_regrown (w := W2) hf0.2.2.2.2.2
    have cQ : ∀ d os, Calls Tryz.prog 154 #[.agg #[.int .i64 (i : Int), .int .i64 md], .agg #[.int .i64 (j : Int), .int .i64 x2]] (grow (redrawn W2 d) os) fun e w'' => e = .returned (.bool false) ∧ ∃ p : Regrown, w'' = grow (redrawn W2 p.d) p.os := fun d os => Calls.regrown_of ((hcon _).mono (fun e w' h => ⟨h.1, h.2.below (Nat.le_refl _) (fun _ x => x.elim)⟩))
    clear hf0 hcon
    refine wp_region_quiet_below (by kernel_rfl) (by kernel_rfl) ?_
    repeat (go_big_quiet_step (exact cQ _ _))
    refine wpQuiet_nil ?_
    intro w3 hw3
    obtain ⟨⟨d3, os3⟩, hw3⟩ := hw3
    have hk3 : Kept NoBlk W2 w3 := by rw [hw3]; exact Kept.of_below (below_regrown W2 d3 os3)
    clear hw3 k0 k1 k2 k3 k4 k5 cQ
    have HST3 : Hid (PSt L bs A ow m mu lv (s.withTx (woundL s i md (l.take k) tx1)) w3) := PSt.kept0 HST2.out hk3
    have HKW3 : Hid (Kept (fun b => ∃ j : Int, ow b = (8, j)) w0 w3) := HKW2.out.trans hk3 (fun _ x => x.elim)
    have yj3 := hk3.heap HYJ.out (fun x => x)
    clear hk3 yj3
    go_wp2_with fail
    refine ⟨⟨k + 1, by omega, by go_num, ?_, HKW3.out⟩, by simp [intOf]; omega⟩
    rw [HSN.out]
    exact HST3.out
   ·by_cases hss : si < sj
    ·go_wp2_with fail
     have k0 := cell_regrown (w := W2) hf0.1
     have k1 := cell_regrown (w := W2) hf0.2.1
     have k2 := cell_regrown (w := W2) hf0.2.2.1
     have k3 := cell_regrown (w := W2) hf0.2.2.2.1
     have k4 := cell_regrown (w := W2) hf0.2.2.2.2.1
     have k5 := cell_regrown (w := W2) hf0.2.2.2.2.2
     have cQ : ∀ d os, Calls Tryz.prog 154 #[.agg #[.int .i64 (i : Int), .int .i64 md], .agg #[.int .i64 (j : Int), .int .i64 x2]] (grow (redrawn W2 d) os) fun e w'' => e = .returned (.bool true) ∧ ∃ p : Regrown, w'' = grow (redrawn W2 p.d) p.os := fun d os => Calls.regrown_of ((hcon _).mono (fun e w' h => ⟨h.1, h.2.below (Nat.le_refl _) (fun _ x => x.elim)⟩))
     clear hf0 hcon
     refine wp_region_quiet_below (by kernel_rfl) (by kernel_rfl) ?_
     repeat (go_big_quiet_step (exact cQ _ _))
     refine wpQuiet_nil ?_
     intro w3 hw3
     obtain ⟨⟨d3, os3⟩, hw3⟩ := hw3
     have hk3 : Kept NoBlk W2 w3 := by rw [hw3]; exact Kept.of_below (below_regrown W2 d3 os3)
     clear hw3 k0 k1 k2 k3 k4 k5 cQ
     have HST3 : Hid (PSt L bs A ow m mu lv (s.withTx (woundL s i md (l.take k) tx1)) w3) := PSt.kept0 HST2.out hk3
     have HKW3 : Hid (Kept (fun b => ∃ j : Int, ow b = (8, j)) w0 w3) := HKW2.out.trans hk3 (fun _ x => x.elim)
     have yj3 := hk3.heap HYJ.out (fun x => x)
     have z6 : w3.cell? ⟨bs j, 6, none⟩ = some (.bool (woundL s i md (l.take k) tx1 j).wounded) := by rw [cell_at yj3]; rfl
     have zf : w3.frozen? ⟨bs j, 6, none⟩ = false := frozen_at yj3 6
     have HF : Hid (PSt L bs A ow m mu lv (s.withTx (woundL s i md (l.take (k + 1)) tx1)) (w3.setCell ⟨bs j, 6, none⟩ (.bool true)) ∧ Kept (fun b => ∃ j : Int, ow b = (8, j)) w0 (w3.setCell ⟨bs j, 6, none⟩ (.bool true))) := by
      have h3 : PSt L bs A ow m mu lv (s.withTx (woundL s i md (l.take k) tx1)) w3 := HST3.out
      obtain ⟨z1, _⟩ := h3.wounded j HJ.out
      have hbt := (h3.ownT HJ.out).1
      refine ⟨?_, HKW3.out.trans (Kept.set1 w3 (bs j) 6 _) (fun b e => by cases e; exact .inl ⟨_, hbt⟩)⟩
      rw [HSN.out]
      simp only [hss, decide_true, Bool.and_self, if_true]
      exact z1
     clear hk3 yj3
     go_wp2_with fail
     exact ⟨⟨k + 1, by omega, by go_num, HF.out.1, HF.out.2⟩, by simp [intOf]; omega⟩
    ·have hsd : decide (si < sj) = false := by simp [hss]
     go_wp2_with fail
     have k0 := cell_regrown (w := W2) hf0.1
     have k1 := cell_regrown (w := W2) hf0.2.1
     have k2 := cell_regrown (w := W2) hf0.2.2.1
     have k3 := cell_regrown (w := W2) hf0.2.2.2.1
     have k4 := cell_regrown (w := W2) hf0.2.2.2.2.1
     have k5 := cell_regrown (w := W2) hf0.2.2.2.2.2
     have cQ : ∀ d os, Calls Tryz.prog 154 #[.agg #[.int .i64 (i : Int), .int .i64 md], .agg #[.int .i64 (j : Int), .int .i64 x2]] (grow (redrawn W2 d) os) fun e w'' => e = .returned (.bool true) ∧ ∃ p : Regrown, w'' = grow (redrawn W2 p.d) p.os := fun d os => Calls.regrown_of ((hcon _).mono (fun e w' h => ⟨h.1, h.2.below (Nat.le_refl _) (fun _ x => x.elim)⟩))
     clear hf0 hcon
     refine wp_region_quiet_below (by kernel_rfl) (by kernel_rfl) ?_
     repeat (go_big_quiet_step (exact cQ _ _))
     refine wpQuiet_nil ?_
     intro w3 hw3
     obtain ⟨⟨d3, os3⟩, hw3⟩ := hw3
     have hk3 : Kept NoBlk W2 w3 := by rw [hw3]; exact Kept.of_below (below_regrown W2 d3 os3)
     clear hw3 k0 k1 k2 k3 k4 k5 cQ
     have HST3 : Hid (PSt L bs A ow m mu lv (s.withTx (woundL s i md (l.take k) tx1)) w3) := PSt.kept0 HST2.out hk3
     have HKW3 : Hid (Kept (fun b => ∃ j : Int, ow b = (8, j)) w0 w3) := HKW2.out.trans hk3 (fun _ x => x.elim)
     have yj3 := hk3.heap HYJ.out (fun x => x)
     clear hk3 yj3
     go_wp2_with fail
     refine ⟨⟨k + 1, by omega, by go_num, ?_, HKW3.out⟩, by simp [intOf]; omega⟩
     rw [HSN.out, hsd]
     exact HST3.out
  ·obtain rfl : k = n := by omega
   go_wp2_with fail
   go_end0
   have := HST.out
   rw [← HN.out, List.take_length] at this
   exact ⟨rfl, this, (HK0.out.mono (fun _ x => x.elim)).trans' HKW.out⟩
end Go.Proofs.YtmcajfefagdbnaaGreat
