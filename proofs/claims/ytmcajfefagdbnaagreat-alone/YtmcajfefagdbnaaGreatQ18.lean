import Derived.Test.YtmcajfefagdbnaaGreatQ17
import Derived.Deep.RegionHeld3
import Derived.Deep.RegionLaw
import Derived.Test.YtmcajfefagdbnaaGreatQ12
import Derived.Test.YtmcajfefagdbnaaGreatQ02
import Derived.Conc.MuLone
import Derived.Defers
namespace Go.Proofs.YtmcajfefagdbnaaGreat
open Go Go.RowKit Go.Sort Go.Lib
set_option maxRecDepth 20000 in
set_option maxHeartbeats 3200000 in
theorem pend {L : Lay} {bs : Nat → Nat} {A : List Nat} {ow : Ow} {m : Nat} {mu lv : Int} {s : St} {w : World} (h : PSt L bs A ow m mu lv s w) (i : Nat) (hin : 1 ≤ i ∧ i ≤ s.n) (z : Int) (hz : z ≠ 0) (hlv : 1 ≤ lv ∧ lv ≤ 12) :
  Calls Tryz.prog 105 #[.pointer (some ⟨L.p, 0, none⟩), .pointer (some ⟨bs i, 0, none⟩), .int .i64 z] w fun e w' => e = .returned (.tuple #[]) ∧ PSt L bs A ow m mu (lv - 1) (s.setTx i fun t => { t with state := z }) w' ∧ Kept (OwnP ow) w w' := by
 obtain ⟨ov, rv, dv, y1, y2, y3⟩ := h.txs i hin.1 hin.2
 obtain ⟨u, tv, wv, p1, _⟩ := h.cells
 have hbp : bs i ≠ L.p := blocks_apart y1 p1 (by decide)
 have c3 : w.cell? ⟨bs i, 3, none⟩ = some (.int .i64 (s.tx i).state) := by rw [cell_at y1]; rfl
 have c1 : w.cell? ⟨bs i, 1, none⟩ = some ov := by rw [cell_at y1]; rfl
 have f0 : ∀ o, w.frozen? ⟨bs i, o, none⟩ = false := fun o => frozen_at y1 o
 have d5 : w.cell? ⟨L.p, 5, none⟩ = some (.int .i64 lv) := by rw [cell_at p1]; rfl
 have f5 : ∀ o, w.frozen? ⟨L.p, o, none⟩ = false := fun o => frozen_at p1 o
 have HF : Hid (PSt L bs A ow m mu (lv - 1) (s.setTx i fun t => { t with state := z }) (((w.setCell ⟨bs i, 3, none⟩ (.int .i64 z)).setCell ⟨bs i, 1, none⟩ (.slice none 0 0)).setCell ⟨L.p, 5, none⟩ (.int .i64 (lv - 1))) ∧ Kept (OwnP ow) w (((w.setCell ⟨bs i, 3, none⟩ (.int .i64 z)).setCell ⟨bs i, 1, none⟩ (.slice none 0 0)).setCell ⟨L.p, 5, none⟩ (.int .i64 (lv - 1)))) := by
  obtain ⟨z1, z2⟩ := h.setT i hin { s.tx i with state := z } ((Kept.set1 w (bs i) 3 (.int .i64 z)).trans' (Kept.set1 _ (bs i) 1 (.slice none 0 0))) rfl (fun h0 => absurd h0 hz) (fun ov rv dv e => ⟨.slice none 0 0, dv, fun h0 => absurd h0 hz, block_setCell (block_setCell e _) _⟩)
  have z3 := z1.turnP (mu' := mu) (lv' := lv - 1) (c' := s.clock) (Kept.set1 _ L.p 5 (.int .i64 (lv - 1))) (fun u tv wv e => block_setCell e _)
  exact ⟨z3.congr rfl rfl rfl rfl rfl rfl, z2.trans (Kept.set1 _ L.p 5 _) (fun k e => by cases e; exact .inl h.ownP)⟩
 have hw : -9223372036854775808 ≤ lv - 1 ∧ lv - 1 ≤ 9223372036854775807 := by omega
 clear h y1 y2 y3 p1
 generalize (s.tx i).state = st0 at *
 go_enter Tryz.func105, Tryz.ntmps105
 go_wp2_with fail
 go_end0
 exact ⟨rfl, HF.out.1, HF.out.2⟩
theorem pfail {L : Lay} {bs : Nat → Nat} {A : List Nat} {ow : Ow} {m : Nat} {mu lv : Int} {s : St} {w : World} (h : PSt L bs A ow m mu lv s w) (hI : Inv s) (i : Nat) (hi : i ∈ A) (hst : (s.tx i).state = 0) (hact : s.act.length ≤ 16) (hmm : m + 1000 ≤ 1099511627776) (z : Int) (hz : z ≠ 0) (hlv : 1 ≤ lv ∧ lv ≤ 12) :
  Calls Tryz.prog 72 #[.pointer (some ⟨L.p, 0, none⟩), .pointer (some ⟨bs i, 0, none⟩), .int .i64 z] w fun e w' => e = .returned (.tuple #[]) ∧ PSt L bs A ow (m + 400) mu (lv - 1) (s.fell i z) w' ∧ Kept (OwnP ow) w w' := by
 have hin := h.among i hi
 have hun := pundo h hI i hi hst hact hmm
 clear h hI hst
 go_enter Tryz.func72, Tryz.ntmps72
 go_wp2_with fail
 refine hun.mono ?_
 rintro e w1 ⟨rfl, h1, hk1⟩
 have hen := pend h1 i hin z hz hlv
 clear h1 hun
 go_wp2_with fail
 refine hen.mono ?_
 rintro e w2 ⟨rfl, h2, hk2⟩
 have HF : Hid (PSt L bs A ow (m + 400) mu (lv - 1) (s.fell i z) w2) := h2
 have HK : Hid (Kept (OwnP ow) w w2) := hk1.trans' hk2
 clear h2 hen hk1 hk2
 go_wp2_with fail
 go_end0
 exact ⟨rfl, HF.out, HK.out⟩
def giveAll (ow : Ow) (a b : Nat) (tag : Nat × Int) : Ow := fun k => if k < a then ow k else if k < b then tag else (0, 0)
theorem giveAll_agree (ow : Ow) (w : World) (b : Nat) (tag : Nat × Int) : AgreeP w ow (giveAll ow w.heap.size b tag) := fun k hk => by simp only [giveAll, hk, if_true]
theorem giveAll_lt {ow : Ow} {a b : Nat} {tag : Nat × Int} (hab : a ≤ b) : ∀ k, giveAll ow a b tag k ≠ (0, 0) → k < b := fun k hk => by
 unfold giveAll at hk
 split at hk
 ·omega
 ·split at hk
  ·assumption
  ·exact absurd rfl hk
theorem giveAll_new {ow : Ow} {a b : Nat} {tag : Nat × Int} {k : Nat} (h1 : a ≤ k) (h2 : k < b) : giveAll ow a b tag k = tag := by
 unfold giveAll
 rw [if_neg (by omega), if_pos h2]
theorem PSt.turnWins {L : Lay} {bs : Nat → Nat} {A : List Nat} {ow ow' : Ow} {m : Nat} {mu lv : Int} {s : St} {w w' : World} (h : PSt L bs A ow m mu lv s w) {ws : List Nat} (hk : Kept (fun k => ow k = (1, 0) ∨ ow k = (6, 0)) w w') (ha : AgreeP w ow ow') (hlt : ∀ k, ow' k ≠ (0, 0) → k < w'.heap.size)
  (hb : ∃ u tv wv, w.heap[L.p]? = some (.cells #[.int .i32 mu, u, .int .i64 s.clock, .map (some L.vb), tv, .int .i64 lv, .map (some L.hb), .map (some L.qb), wv] 127 (0, 0)) ∧ ∃ wv', w'.heap[L.p]? = some (.cells #[.int .i32 mu, u, .int .i64 s.clock, .map (some L.vb), tv, .int .i64 lv, .map (some L.hb), .map (some L.qb), wv'] 127 (0, 0)) ∧ RowT ow' (6, 0) w' 3 1 wv' ws.length (winsCells ws)) :
  PSt L bs A ow' m mu lv { s with wins := ws } w' := by
 obtain ⟨t1, t2, t3, t4⟩ := h.tags
 have hs : ∀ {t : Nat × Int}, t.1 ≠ 1 → t.1 ≠ 6 → ∀ k, k < w.heap.size → ow k = t → w'.heap[k]? = w.heap[k]? := fun n1 n2 k hk1 e => hk.block k hk1 (fun x => x.elim (fun e' => n1 (by rw [← e, e'])) (fun e' => n2 (by rw [← e, e'])))
 obtain ⟨u, tv, wv, b1, b2, b3⟩ := h.body
 obtain ⟨u0, tv0, wv0, b1', wv', b4, b5⟩ := hb
 rw [b1] at b1'
 simp only [Option.some.injEq, Obj.cells.injEq, Array.mk.injEq, List.cons.injEq, and_true, true_and] at b1'
 obtain ⟨rfl, rfl, rfl⟩ := b1'
 obtain ⟨qf, q1, q2⟩ := h.que
 exact ⟨hlt, ⟨by rw [ha _ (lt_of_block b1)]; exact t1, by rw [ha _ h.vals.lt]; exact t2, by rw [ha _ h.hold.lt]; exact t3, by rw [ha _ q1.lt]; exact t4⟩, ⟨u, tv, wv', b4, b2.kept ha (hs (by simp) (by simp)), b5⟩,
  h.vals.of_same (hs (by simp) (by simp) _ h.vals.lt t2), h.hold.of_same (hs (by simp) (by simp) _ h.hold.lt t3), ⟨qf, q1.of_same (hs (by simp) (by simp) _ q1.lt t4), fun k => (q2 k).kept ha (hs (by simp) (by simp))⟩,
  fun i hi hn => (h.txs i hi hn).kept ha (fun k hk1 e => e.elim (fun e => hs (by simp) (by simp) k hk1 e) (fun e => hs (by simp) (by simp) k hk1 e)), h.few, h.among, h.hdom, h.qdom, h.rdom, h.nmax⟩
theorem commit_eq {s : St} {i : Nat} {lk' : Int → Lk} {tx' : Nat → Tx} (h1 : lk' = fun k => (s.lk k).freed s.n i) (h2 : tx' = fun j => (s.tx j).look (fun k => (s.lk k).freed s.n i) j) :
  (s.commit i).lk = lk' ∧ (s.commit i).tx = upd tx' i { tx' i with state := 1 } := by
 refine ⟨h1.symm, ?_⟩
 subst h2
 show (fun j => ((upd s.tx i { s.tx i with state := 1 }) j).look (fun k => (s.lk k).freed s.n i) j) = _
 funext j
 by_cases e : j = i
 ·subst e
  simp only [upd_same]
  rfl
 ·rw [upd_other _ _ _ _ e, upd_other _ _ _ _ e]
theorem PSt.undeferred {L : Lay} {bs : Nat → Nat} {A : List Nat} {ow : Ow} {m : Nat} {mu lv : Int} {s : St} {w : World} (h : PSt L bs A ow m mu lv s w) (i : Nat) (hin : 1 ≤ i ∧ i ≤ s.n) :
  PSt L bs A ow m mu lv (s.withTx (upd s.tx i { s.tx i with undo := [] })) (w.setCell ⟨bs i, 13, none⟩ (.slice none 0 0)) ∧ Kept (OwnP ow) w (w.setCell ⟨bs i, 13, none⟩ (.slice none 0 0)) := by
 obtain ⟨hbt, hbo⟩ := h.ownT hin
 have hk := Kept.set1 w (bs i) 13 (.slice none 0 0)
 have hk2 : Kept (fun k => ow k = (8, (i : Int)) ∨ ow k = (9, (i : Int))) w (w.setCell ⟨bs i, 13, none⟩ (.slice none 0 0)) := hk.mono (fun k e => by cases e; exact .inl hbt)
 refine ⟨h.turnTx i _ hk2 (AgreeP.refl _ _) (fun k hk0 => Nat.lt_of_lt_of_le (h.lt k hk0) hk.size) (fun _ _ => ?_), hk.mono (fun k e => by cases e; exact hbo)⟩
 obtain ⟨ov, rv, dv, h1, h2, h3, h4, h5⟩ := h.txs i hin.1 hin.2
 have hsm : ∀ k, k < w.heap.size → ow k = (9, (i : Int)) → (w.setCell ⟨bs i, 13, none⟩ (.slice none 0 0)).heap[k]? = w.heap[k]? := fun k hk1 e => hk.block k hk1 (fun x => by cases x; rw [h2] at e; exact tagNe (by omega) e)
 refine ⟨ov, rv, .slice none 0 0, block_setCell h1 _, h2, h3.kept (AgreeP.refl _ _) hsm, h4, fun h0 => ?_⟩
 obtain ⟨y1, l1, l2, l3, l4, l5, cs, l6, l7⟩ := h5 h0
 exact ⟨y1, l1.kept (AgreeP.refl _ _) hsm, l2, l3, l4, Nat.zero_le _, [], RowT.nil _ _ _ _ _, trivial⟩
theorem PSt.anyUndo {L : Lay} {bs : Nat → Nat} {A : List Nat} {ow : Ow} {m : Nat} {mu lv : Int} {s : St} {w : World} (h : PSt L bs A ow m mu lv s w) (i : Nat) (hin : 1 ≤ i ∧ i ≤ s.n) (hz : (s.tx i).state ≠ 0) (us : List Saw) : PSt L bs A ow m mu lv (s.withTx (upd s.tx i { s.tx i with undo := us })) w := by
 refine h.turnTx i _ (Kept.refl _ _) (AgreeP.refl _ _) h.lt (fun _ _ => ?_)
 obtain ⟨ov, rv, dv, h1, h2, h3, h4, h5⟩ := h.txs i hin.1 hin.2
 exact ⟨ov, rv, dv, h1, h2, h3, h4, fun h0 => absurd h0 hz⟩
theorem winsCells_snoc (l : List Nat) (i : Nat) : winsCells (l ++ [i]) = winsCells l ++ [.int .i64 (i : Int)] := by simp [winsCells]
set_option maxRecDepth 20000 in
set_option maxHeartbeats 3200000 in
theorem pcommit {L : Lay} {bs : Nat → Nat} {A : List Nat} {ow : Ow} {m : Nat} {mu lv : Int} {s : St} {w : World} (h : PSt L bs A ow m mu lv s w) (hI : Inv s) (i : Nat) (hi : i ∈ A) (hwt : (s.tx i).waits = none) (hact : s.act.length ≤ 16) (hmm : m + 1000 ≤ 1099511627776) (hlv : 1 ≤ lv ∧ lv ≤ 12) (hws : s.wins.length ≤ 1099511627776) :
  Calls Tryz.prog 90 #[.pointer (some ⟨L.p, 0, none⟩), .pointer (some ⟨bs i, 0, none⟩)] w fun e w' => e = .returned (.tuple #[]) ∧ (∃ ow', PSt L bs A ow' (m + 400) mu (lv - 1) (s.commit i) w' ∧ AgreeP w ow ow') ∧ Kept (OwnP ow) w w' := by
 have hin := h.among i hi
 have hlg := pletAllGo h i hi s.tx s.lk (FrM.start (by have := unwaited_wtx hI i; rw [unwaited_none hwt] at this; exact this) hI.still (fun k => (hI.row k).once) (fun k md => hI.not_waiting hwt k md)) (held_few hI hact i) (fun k x hx => by have := ((hI.row k).qmode x hx).2; omega) (by omega)
 go_enter Tryz.func90, Tryz.ntmps90
 go_wp2_with fail
 refine hlg.mono ?_
 rintro e w1 ⟨lk', tx', rfl, hp1, hF, h0, hk1⟩
 obtain ⟨e1, e2⟩ := hF.last hwt h0
 obtain ⟨q1, q2⟩ := commit_eq e1 e2
 obtain ⟨hp2, hk2⟩ := hp1.undeferred i hin
 obtain ⟨ov, rv, dv, y1, y2, y3⟩ := hp1.txs i hin.1 hin.2
 have c13 : w1.cell? ⟨bs i, 13, none⟩ = some dv := by rw [cell_at y1]; rfl
 have c0 : w1.cell? ⟨bs i, 0, none⟩ = some (.int .i64 (i : Int)) := by rw [cell_at y1]; rfl
 have f13 : w1.frozen? ⟨bs i, 13, none⟩ = false := frozen_at y1 13
 have HP1 : Hid (PSt L bs A ow (m + 320) mu lv ((s.withLk lk').withTx tx') w1) := hp1
 have HP2 : Hid (PSt L bs A ow (m + 320) mu lv (((s.withLk lk').withTx tx').withTx (upd tx' i { tx' i with undo := [] })) (w1.setCell ⟨bs i, 13, none⟩ (.slice none 0 0))) := hp2
 have HK2 : Hid (Kept (OwnP ow) w (w1.setCell ⟨bs i, 13, none⟩ (.slice none 0 0))) := hk1.trans' hk2
 have HQ : Hid ((s.commit i).lk = lk' ∧ (s.commit i).tx = upd tx' i { tx' i with state := 1 }) := ⟨q1, q2⟩
 have HIN : Hid (1 ≤ i ∧ i ≤ s.n) := hin
 obtain ⟨i1, hi1, hy0, hy1, hy2⟩ := info_parts infoI
 have HI1 : Hid (Tryz.prog.info? 3 = some i1 ∧ i1.zero = some (.int .i64 0) ∧ i1.size = 1 ∧ i1.bytes = 8) := ⟨hi1, hy0, hy1, hy2⟩
 have HB0 : Hid (s.wins.length + 1 ≤ maxLen) := by unfold Hid maxLen; omega
 have HB1 : Hid ((s.wins.length + 1) * 8 ≤ 140737488355328) := by unfold Hid; omega
 clear hlg hp1 hp2 hk1 hk2 hF h0 e1 e2 q1 q2 y1 y2 y3 h hI hin hi1 hy0 hy1 hy2
 go_wp2_with fail
 have hp2 : PSt L bs A ow (m + 320) mu lv (((s.withLk lk').withTx tx').withTx (upd tx' i { tx' i with undo := [] })) (w1.setCell ⟨bs i, 13, none⟩ (.slice none 0 0)) := HP2.out
 clear HP2 HP1 c13 f13 c0
 generalize w1.setCell ⟨bs i, 13, none⟩ (.slice none 0 0) = W2 at *
 obtain ⟨u, tv, wv, p1, p2, p3⟩ := hp2.body
 have p3' : RowT ow (6, 0) W2 3 1 wv s.wins.length (winsCells s.wins) := p3
 obtain ⟨ao, c, rfl, hc1, hc2⟩ := p3'.1.form
 have c0 : W2.cell? ⟨bs i, 0, none⟩ = some (.int .i64 (i : Int)) := (hp2.txs i HIN.out.1 HIN.out.2).number
 have d8 : W2.cell? ⟨L.p, 8, none⟩ = some (.slice ao s.wins.length c) := by rw [cell_at p1]; rfl
 have HROW : Hid (RowT ow (6, 0) W2 3 1 (.slice ao s.wins.length c) s.wins.length (winsCells s.wins)) := p3'
 have HP : Hid (W2.heap[L.p]? = some (.cells #[.int .i32 mu, u, .int .i64 s.clock, .map (some L.vb), tv, .int .i64 lv, .map (some L.hb), .map (some L.qb), .slice ao s.wins.length c] 127 (0, 0))) := p1
 have HPW : Hid (¬ (Value.slice ao s.wins.length c).ownBlock = some L.p) := fun e => by have := p3'.2 _ e; rw [hp2.tags.1] at this; exact tagNe (by omega) this
 have HP2 : Hid (PSt L bs A ow (m + 320) mu lv (((s.withLk lk').withTx tx').withTx (upd tx' i { tx' i with undo := [] })) W2) := hp2
 have hpl := lt_of_block p1
 have hbl := World.block_lt_of_cell? _ _ c0
 clear hp2 p1 p2 p3 p3'
 generalize hwn : s.wins.length = wn at *
 have HWN : Hid (s.wins.length = wn) := hwn
 clear hwn
 go_region_law (refine step_append_row (by rfl) _ _ 45 (by rfl) 3 i1 _ 1 8 Tryz.underlying45 HI1.out.1 HI1.out.2.1 HI1.out.2.2.1 HI1.out.2.2.2 (by rfl) (.slice ao wn c) wn (winsCells s.wins) (by rfl) (RowAt.kept HROW.out.1 ((Kept.refl NoBlk W2).alloc _).drew (fun _ _ x => x)) (.slice (some ⟨W2.heap.size, 0, none⟩) 1 1) 1 [.int .i64 (i : Int)] (by rfl) (FromMem.drew (from_new1 W2 _ _ rfl)) HB0.out HB1.out ?_; intro ao' c' w3 hrow3 hmv3; have q8 := hmv3.keptOf.cell ((((Kept.refl NoBlk W2).alloc _).drew).cell0 d8) HPW.out; have qf8 : w3.frozen? ⟨L.p, 8, none⟩ = false := frozen_at (hmv3.keptOf.heap ((((Kept.refl NoBlk W2).alloc _).drew).heap HP.out (fun x => x)) HPW.out) 8)
 all_goals
  have hp2 : PSt L bs A ow (m + 320) mu lv (((s.withLk lk').withTx tx').withTx (upd tx' i { tx' i with undo := [] })) W2 := HP2.out
  have hka : Kept NoBlk W2 (W2.alloc (.cells #[.int .i64 (i : Int)] 3)).drew := ((Kept.refl _ _).alloc _).drew
  have hkb := hmv3.keptOf
  have hkc := Kept.set1 w3 L.p 8 (.slice ao' (wn + 1) c')
  have hk4 : Kept (fun k => ow k = (1, 0) ∨ ow k = (6, 0)) W2 (w3.setCell ⟨L.p, 8, none⟩ (.slice ao' (wn + 1) c')) := ((hka.mono (fun _ x => x.elim)).trans hkb (fun k e => .inl (.inr (HROW.out.2 k e)))).trans hkc (fun k e => .inl (by cases e; exact .inl hp2.tags.1))
  have hsz3 : W2.heap.size < w3.heap.size := by
   have h1 := hkb.size
   have h2 : (W2.alloc (.cells #[.int .i64 (i : Int)] 3)).drew.heap.size = W2.heap.size + 1 := alloc_size W2 _
   omega
  have hsz4 : (w3.setCell ⟨L.p, 8, none⟩ (.slice ao' (wn + 1) c')).heap.size = w3.heap.size := by simp [World.setCell]
  have hnp : ∀ k, (Value.slice ao' (wn + 1) c').ownBlock = some k → (ow k = (6, 0) ∧ k < W2.heap.size) ∨ W2.heap.size ≤ k := fun k hk => by
   rcases hmv3.fresh k hk with e | e
   ·exact .inl ⟨HROW.out.2 k e, HROW.out.1.lt k e⟩
   ·have h2 : (W2.alloc (.cells #[.int .i64 (i : Int)] 3)).drew.heap.size = W2.heap.size + 1 := alloc_size W2 _
    exact .inr (by omega)
  have hrow4 : RowT (giveAll ow W2.heap.size w3.heap.size (6, 0)) (6, 0) (w3.setCell ⟨L.p, 8, none⟩ (.slice ao' (wn + 1) c')) 3 1 (.slice ao' (wn + 1) c') (s.wins ++ [i]).length (winsCells (s.wins ++ [i])) := by
   have el : (s.wins ++ [i]).length = wn + 1 := by rw [List.length_append, HWN.out]; rfl
   rw [el, winsCells_snoc]
   refine ⟨hrow3.kept hkc (fun k hk e => ?_), fun k hk => ?_⟩
   ·unfold Blk at e
    rcases hnp k hk with x | x
    ·have := x.1; rw [e, hp2.tags.1] at this; exact tagNe (by omega) this
    ·omega
   ·rcases hnp k hk with x | x
    ·rw [giveAll_agree ow W2 w3.heap.size (6, 0) k x.2]; exact x.1
    ·exact giveAll_new x (hrow3.lt k hk)
  have hp5 := hp2.turnWins (ws := s.wins ++ [i]) hk4 (giveAll_agree ow W2 w3.heap.size (6, 0)) (by rw [hsz4]; exact giveAll_lt (by omega)) ⟨u, tv, .slice ao wn c, HP.out, .slice ao' (wn + 1) c', block_setCell (hkb.heap (hka.heap HP.out (fun x => x)) HPW.out) _, hrow4⟩
  have hen := pend hp5 i HIN.out 1 (by omega) hlv
  have HOW : Hid (Kept (OwnP ow) w (w3.setCell ⟨L.p, 8, none⟩ (.slice ao' (wn + 1) c'))) := HK2.out.trans hk4 (fun k e => .inl (by unfold OwnP; rcases e with e | e <;> (rw [e]; exact tagNe (by omega))))
  have HAG : Hid (AgreeP w ow (giveAll ow W2.heap.size w3.heap.size (6, 0))) := fun k hk => giveAll_agree ow W2 w3.heap.size (6, 0) k (Nat.lt_of_lt_of_le hk HK2.out.size)
  have HOO : Hid (∀ k, OwnP (giveAll ow W2.heap.size w3.heap.size (6, 0)) k → OwnP ow k ∨ w.heap.size ≤ k) := fun k hk => by
   by_cases e : k < w.heap.size
   ·left; unfold OwnP at hk ⊢; rw [HAG.out k e] at hk; exact hk
   ·right; omega
  clear hp2 hka hkb hkc hk4 hsz3 hsz4 hnp hrow4 hrow3 hmv3 q8 qf8 hp5
  go_wp2_with fail
  refine hen.mono ?_
  rintro e w5 ⟨rfl, h5, hk5⟩
  have HF : Hid (∃ ow', PSt L bs A ow' (m + 400) mu (lv - 1) (s.commit i) w5 ∧ AgreeP w ow ow') := by
   refine ⟨_, ?_, HAG.out⟩
   have h6 := h5.anyUndo i HIN.out (by show ((upd (upd tx' i { tx' i with undo := [] }) i _) i).state ≠ 0; rw [upd_same]; exact (by omega : (1 : Int) ≠ 0)) (tx' i).undo
   refine (h6.mono (by omega)).congr rfl rfl rfl HQ.out.1 ?_ rfl
   rw [HQ.out.2]
   show _ = upd (upd (upd tx' i { tx' i with undo := [] }) i { (upd tx' i { tx' i with undo := [] }) i with state := 1 }) i { (upd (upd tx' i { tx' i with undo := [] }) i { (upd tx' i { tx' i with undo := [] }) i with state := 1 }) i with undo := (tx' i).undo }
   rw [upd_upd, upd_upd, upd_same, upd_same]
  have HK5 : Hid (Kept (OwnP ow) w w5) := HOW.out.trans hk5 (fun k e => HOO.out k e)
  clear h5 hk5 hen
  go_wp2_with fail
  go_end0
  exact ⟨rfl, HF.out, HK5.out⟩
end Go.Proofs.YtmcajfefagdbnaaGreat
namespace Go.Proofs.YtmcajfefagdbnaaGreat
open Go Go.RowKit Go.Sort Go.Lib
open Go.MuLone
theorem PSt.locked {L : Lay} {bs : Nat → Nat} {A : List Nat} {ow : Ow} {m : Nat} {mu lv : Int} {s : St} {w : World} (h : PSt L bs A ow m mu lv s w) (x : Int) : PSt L bs A ow m x lv s (w.setCell ⟨L.p, 0, none⟩ (.int .i32 x)) :=
 (h.turnP (c' := s.clock) (mu' := x) (lv' := lv) (Kept.set1 w L.p 0 _) (fun _ _ _ hb => block_setCell hb _)).congr rfl rfl rfl rfl rfl rfl
theorem PSt.keptP {L : Lay} {bs : Nat → Nat} {A : List Nat} {ow : Ow} {m : Nat} {mu lv : Int} {s : St} {w W : World} (h : PSt L bs A ow m mu lv s w) (v : Value) : Kept (OwnP ow) W (W.setCell ⟨L.p, 0, none⟩ v) :=
 (Kept.set1 W L.p 0 v).mono (fun k e => by unfold Blk at e; subst e; exact h.ownP)
theorem PSt.mucell {L : Lay} {bs : Nat → Nat} {A : List Nat} {ow : Ow} {m : Nat} {mu lv : Int} {s : St} {w : World} (h : PSt L bs A ow m mu lv s w) : w.cell? ⟨L.p, 0, none⟩ = some (.int .i32 mu) ∧ w.frozen? ⟨L.p, 0, none⟩ = false := by
 obtain ⟨u, tv, wv, b1, _⟩ := h.body
 exact ⟨by rw [cell_at b1]; rfl, frozen_at b1 _⟩
set_option maxHeartbeats 800000 in
theorem findLiving_none {L : Lay} {bs : Nat → Nat} {A : List Nat} {ow : Ow} {m : Nat} {mu lv : Int} {s : St} {w : World} (h : PSt L bs A ow m mu lv s w) (id : Int) (hi : id < 1 ∨ (s.n : Int) < id) :
  Calls Tryz.prog 61 #[.pointer (some ⟨L.p, 0, none⟩), .int .i64 id] w fun e w' => e = .returned (.tuple #[.pointer none, .int .i64 5]) ∧ w' = w := by
 obtain ⟨u, tv, wv, _, _, _, _, b4, b5⟩ := h.cells
 obtain ⟨ao, cap, rfl, _, _⟩ := b5.1.form
 have hc := find_none L.p ao s.n cap id w b4 hi
 clear h b4 b5 hi
 go_enter Tryz.func61, Tryz.ntmps61
 go_wp2_with fail
 refine hc.mono ?_
 rintro e w' ⟨rfl, rfl⟩
 go_wp2_with fail
 go_ret2
 exact ⟨rfl, rfl⟩
theorem PSt.state {L : Lay} {bs : Nat → Nat} {A : List Nat} {ow : Ow} {m : Nat} {mu lv : Int} {s : St} {w : World} (h : PSt L bs A ow m mu lv s w) {i : Nat} (hin : 1 ≤ i ∧ i ≤ s.n) : w.cell? ⟨bs i, 3, none⟩ = some (.int .i64 (s.tx i).state) := by
 obtain ⟨ov, rv, dv, h1, _⟩ := h.txs i hin.1 hin.2
 rw [cell_at h1]; rfl
set_option maxHeartbeats 800000 in
theorem findLiving_some {L : Lay} {bs : Nat → Nat} {A : List Nat} {ow : Ow} {m : Nat} {mu lv : Int} {s : St} {w : World} (h : PSt L bs A ow m mu lv s w) (i : Nat) (hin : 1 ≤ i ∧ i ≤ s.n) :
  Calls Tryz.prog 61 #[.pointer (some ⟨L.p, 0, none⟩), .int .i64 (i : Int)] w fun e w' => e = .returned (if (s.tx i).state = 0 then .tuple #[.pointer (some ⟨bs i, 0, none⟩), .int .i64 0] else .tuple #[.pointer none, .int .i64 6]) ∧ w' = w := by
 obtain ⟨g, off, c, p1, p2⟩ := h.ptr hin.1 hin.2
 have hc := find_some L.p g off s.n c i (bs i) w p1 p2 hin.1 hin.2 h.nmax
 have hs := h.state hin
 clear h p1 p2
 generalize (s.tx i).state = z at *
 by_cases hz : z = 0
 ·subst hz
  rw [if_pos rfl]
  go_enter Tryz.func61, Tryz.ntmps61
  go_wp2_with fail
  refine hc.mono ?_
  rintro e w' ⟨rfl, rfl⟩
  go_wp2_with fail
  go_ret2
  exact ⟨rfl, rfl⟩
 ·rw [if_neg hz]
  have hz' : (z == 0) = false := by rw [beq_eq_false_iff_ne]; exact hz
  have hz'' : (z != 0) = true := by rw [bne_iff_ne]; exact hz
  go_enter Tryz.func61, Tryz.ntmps61
  go_wp2_with fail
  refine hc.mono ?_
  rintro e w' ⟨rfl, rfl⟩
  go_wp2_with fail
  go_ret2
  exact ⟨rfl, rfl⟩
end Go.Proofs.YtmcajfefagdbnaaGreat
