import Derived.Test.YtmcajfefagdbnaaGreatJ43
import Derived.Test.YtmcajfefagdbnaaGreatJ22
import Derived.Test.YtmcajfefagdbnaaGreatJ08
import Derived.RegionTactic
import Derived.BigRegion
import Derived.Test.YtmcajfefagdbnaaGreatJ41
import Derived.Test.YtmcajfefagdbnaaGreatJ38
import Derived.Test.YtmcajfefagdbnaaGreatJ37
import Derived.Test.YtmcajfefagdbnaaGreatJ39
namespace Go.Proofs.YtmcajfefagdbnaaGreat
open Go Go.RowKit
theorem Rep.more {n : Nat} {cl : List Cl} {lk : Int → Lk} (h : Rep n cl lk) : Rep (n + 1) cl lk := ⟨fun c hc => by have := h.ids c hc; exact ⟨by omega, this.2⟩, h.one, h.held, h.queue⟩
theorem hAdmit {ow : OwB} {q N0 j : Nat} {s : St} {cl : List Cl} {w : World} (h : HSt ow q N0 j s cl w) (v : Value) (l : List Op4) (ho : OpsSrc w v l) (hb : 0 < l.length → ∀ b, v.ownBlock = some b → ¬ Own ow b) (hl : l.length ≤ 1048576) (hn : s.n ≤ 1048576) (hal : alive s ≤ 12) (c0 : 0 ≤ s.clock) :
  Calls Tryz.prog 77 #[.pointer (some ⟨q, 0, none⟩), v] w fun e w' => e = .returned (.tuple #[.int .i64 (admNo s l), .int .i64 (admErr l (alive s) s.clock)]) ∧ HAft ow q N0 (j + 1) w (s.adm l) w' := by
 obtain ⟨rl, g1, g2, g3⟩ := h.ex
 obtain ⟨rv, tv, cv, wv, bs, b1, b2, b3, b4, b5, _⟩ := g1.body
 have hlv : Hid (∀ W, Kept NoBlk w W → Calls Tryz.prog 109 #[.pointer (some ⟨q, 0, none⟩)] W fun e w' => e = .returned (.int .i64 (alive s : Nat)) ∧ w' = W) := fun W hk => hLives (h.kept0 hk) hn
 have hbp : 0 < l.length → v.ownBlock ≠ some q := fun h0 e => hb h0 q e (by unfold Own; omega)
 by_cases he : admErr l (alive s) s.clock = 0
 ·have n1 : admNo s l = (s.n : Int) + 1 := by simp [admNo, he]
  have n2 : s.adm l = s.admit l := by simp [St.adm, he]
  rw [n1, n2, he]
  refine (wadmit_ok q v l (alive s) s.n s.clock rv tv cv wv (txCells bs) w ho hbp hn b1 c0 b4.1 hlv he).mono ?_
  rintro e w' ⟨tv', t, r, ov, rfl, k1, k2, k3, k4, k5, k6, k7, k8, k9, k10⟩
  obtain ⟨ow', a1, a2, a3⟩ := g1.more (x := ⟨s.clock + 1, 0, l, 0, false, none, 0, fun _ => 0, [], []⟩) b1 b4.1 b5 k1 k2 k3 k4 k8 k9 k10 ⟨rfl, rfl, rfl, rfl, rfl, rfl, rfl, rfl⟩ k5 k6 k7
  exact ⟨rfl, ⟨ow', cl, ⟨⟨rl, a2, g2, by omega⟩, h.rep.more, by have := h.few; omega⟩, a1⟩, a3⟩
 ·have n1 : admNo s l = 0 := by simp [admNo, he]
  have n2 : s.adm l = s := by simp [St.adm, he]
  rw [n1, n2]
  refine (wadmit_err q v l (alive s) s.clock rv tv cv wv w ho hl (by omega) b1 hlv he).mono ?_
  rintro e w' ⟨rfl, hk⟩
  exact ⟨rfl, ⟨ow, cl, (h.kept0 hk).mono (Nat.le_succ _), fun _ _ => rfl⟩, hk.mono (fun _ x => x.elim)⟩
theorem hThere {ow : OwB} {q N0 j : Nat} {s : St} {cl : List Cl} {w : World} (h : HSt ow q N0 j s cl w) (id : Int) (hn : s.n ≤ 1048576) :
  Calls Tryz.prog 78 #[.pointer (some ⟨q, 0, none⟩), .int .i64 id] w fun e w' => e = .returned (.int .i64 (s.there id)) ∧ Kept NoBlk w w' := by
 obtain ⟨rl, g1, _⟩ := h.ex
 by_cases hi : id < 1 ∨ (s.n : Int) < id
 ·obtain ⟨rv, tv, cv, wv, bs, b1, b2, b3, b4, _⟩ := g1.body
  obtain ⟨ta, tc, rfl⟩ := ownsRow_form b4.1
  rw [show s.there id = 5 from by unfold St.there; rw [if_pos (by omega)]]
  exact wthere_no q s.n tc ta id w (by rw [cell_at b1]; rfl) hi
 ·obtain ⟨i, rfl⟩ : ∃ i : Nat, id = (i : Int) + 1 := ⟨(id - 1).toNat, by omega⟩
  have := wthere_st g1 (i := i) (by omega) (by omega)
  rw [show s.there ((i : Int) + 1) = (if (s.tx (i + 1)).state = 0 then 0 else 6) from by
   unfold St.there
   rw [if_neg (by omega), show ((i : Int) + 1).toNat = i + 1 from by omega]
   by_cases hz : (s.tx (i + 1)).state = 0 <;> simp [hz]]
  exact this
theorem Inv.wtx {s : St} (h : Inv s) (i : Nat) (t : Tx) : WTx (upd s.tx i t) s.lk i :=
 ⟨fun k j m hj hm => by rw [upd_other _ _ _ _ hj]; exact (h.queue k j m hm).2, fun j k hj hw => by rw [upd_other _ _ _ _ hj] at hw; exact h.waits j k hw⟩
theorem Inv.oneQ {s : St} (h : Inv s) (i : Nat) : ∀ k k' m m', (i, m) ∈ (s.lk k).q → (i, m') ∈ (s.lk k').q → k = k' := fun k k' m m' h1 h2 => by
 have a := (h.queue k i m h1).2
 have b := (h.queue k' i m' h2).2
 rw [a] at b
 exact Option.some.inj b
theorem hUndone {ow : OwB} {q N0 j : Nat} {s : St} {cl : List Cl} {w : World} (h : HSt ow q N0 j s cl w) (hI : Inv s) (i : Nat) (hi : i < s.n) (hun : (s.tx (i + 1)).undo.length ≤ 12) (hn : s.n ≤ 1048576) (hj : j ≤ 4194304) (hN : N0 ≤ 4194304) :
  Calls Tryz.prog 79 #[.pointer (some ⟨q, 0, none⟩), .int .i64 ((i : Int) + 1)] w fun e w' => e = .returned (.tuple #[]) ∧ ∃ ow' cl', Agree w ow ow' ∧ HSt ow' q N0 (j + 1) (s.undone (i + 1)) cl' w' ∧ Kept (Own ow) w w' := by
 obtain ⟨rl, g1, g2, g3⟩ := h.ex
 refine (wundone g1 hi g2 (by omega) hun h.rep (hI.wtx (i + 1) _) hI.still (fun k => (hI.row k).once) (hI.oneQ (i + 1)) (by have := h.few; omega) (by omega)).mono ?_
 rintro e w' ⟨rfl, ow', rl', cl', a1, a2, a3, a4, a5, a6, a7⟩
 exact ⟨rfl, ow', cl', a1, ⟨⟨rl', a2, a3, by omega⟩, a5, by have := h.few; omega⟩, a7⟩
set_option maxHeartbeats 800000 in
theorem wcall_no (q : Nat) (id z : Int) (w : World) (hz : z ≠ 0) (HT : Hid (Calls Tryz.prog 78 #[.pointer (some ⟨q, 0, none⟩), .int .i64 id] w fun e w' => e = .returned (.int .i64 z) ∧ Kept NoBlk w w')) :
  Calls Tryz.prog 45 #[.pointer (some ⟨q, 0, none⟩), .int .i64 id] w fun e w' => e = .returned (.int .i64 z) ∧ Kept NoBlk w w' := by
 have hz1 : (z != 0) = true := by simp [hz]
 have hz2 : (z == 0) = false := by simp [hz]
 clear hz
 go_enter Tryz.func45, Tryz.ntmps45
 go_wp2_with fail
 refine HT.out.mono ?_
 rintro e w1 ⟨rfl, hk1⟩
 have HK1 : Hid (Kept NoBlk w w1) := hk1
 clear hk1 HT
 go_wp2_with fail
 go_ret
 exact ⟨rfl, HK1.out⟩
theorem hCall {ow : OwB} {q N0 j : Nat} {s : St} {cl : List Cl} {w : World} (h : HSt ow q N0 j s cl w) (hI : Inv s) (id : Int) (hun : ∀ i, Lives s i → (s.tx i).undo.length ≤ 12) (hn : s.n ≤ 1048576) (hj : j ≤ 4194304) (hN : N0 ≤ 4194304) :
  Calls Tryz.prog 45 #[.pointer (some ⟨q, 0, none⟩), .int .i64 id] w fun e w' => e = .returned (.int .i64 (s.call id).2) ∧ HAft ow q N0 (j + 1) w (s.call id).1 w' := by
 by_cases hz : s.there id = 0
 ·have hid := there_zero hz
  obtain ⟨i, rfl⟩ : ∃ i : Nat, id = (i : Int) + 1 := ⟨(id - 1).toNat, by omega⟩
  have ei : ((i : Int) + 1).toNat = i + 1 := by omega
  rw [ei] at hid
  have hl : Lives s (i + 1) := ⟨by omega, by omega, hid.2.2⟩
  have e1 : s.call ((i : Int) + 1) = (s.fell (i + 1) 4, 0) := by unfold St.call; rw [if_neg (by simp [hz]), ei]
  rw [e1]
  obtain ⟨rl, g1, g2, g3⟩ := h.ex
  refine (wcall_ok g1 (by omega) hid.2.2 g2 (by omega) (hun _ hl) h.rep (hI.wtx (i + 1) _) hI.still (fun k => (hI.row k).once) (hI.oneQ (i + 1)) (by have := h.few; omega) (by omega)).mono ?_
  rintro e w' ⟨rfl, ow', rl', cl', a1, a2, a3, a4, a5, a6, a7⟩
  exact ⟨rfl, ⟨ow', cl', ⟨⟨rl', a2, a3, by omega⟩, a5, by have := h.few; omega⟩, a1.out⟩, a7⟩
 ·have e1 : s.call id = (s, s.there id) := by unfold St.call; rw [if_pos hz]
  rw [e1]
  refine (wcall_no q id (s.there id) w hz (hThere h id hn)).mono ?_
  rintro e w' ⟨rfl, hk⟩
  exact ⟨rfl, ⟨ow, cl, (h.kept0 hk).mono (Nat.le_succ _), fun _ _ => rfl⟩, hk.mono (fun _ x => x.elim)⟩
theorem hTxn_some {ow : OwB} {q N0 j : Nat} {s : St} {cl : List Cl} {w : World} (h : HSt ow q N0 j s cl w) (i : Nat) (hi : i < s.n) (hn : s.n ≤ 1048576) :
  Calls Tryz.prog 46 #[.pointer (some ⟨q, 0, none⟩), .int .i64 ((i : Int) + 1)] w fun e w' => ∃ r ra rc, e = .returned (.tuple #[.agg #[.int .i64 (s.tx (i + 1)).stamp, .int .i64 (s.tx (i + 1)).state, .int .i64 ((s.tx (i + 1)).next : Int), .bool (s.tx (i + 1)).wounded, .bool (s.tx (i + 1)).waits.isSome, .int .i64 (s.tx (i + 1)).agains, .slice (some ⟨r, 0, none⟩) 4 4, .slice ra (s.tx (i + 1)).reads.length rc], .int .i64 0]) ∧
   Own ow r ∧ w.heap[r]? = some (.cells #[.int .i64 ((s.tx (i + 1)).regs 0), .int .i64 ((s.tx (i + 1)).regs 1), .int .i64 ((s.tx (i + 1)).regs 2), .int .i64 ((s.tx (i + 1)).regs 3)] 3 (0, 0)) ∧
   w.ownsRow 0 105 3 (.slice ra (s.tx (i + 1)).reads.length rc) (s.tx (i + 1)).reads.length (sawCells (s.tx (i + 1)).reads) ∧ (∀ k, (Value.slice ra (s.tx (i + 1)).reads.length rc).ownBlock = some k → Own ow k) ∧ Kept NoBlk w w' := by
 obtain ⟨rl, g1, g2, g3⟩ := h.ex
 obtain ⟨g, cap, f1, f2, ⟨r, rd, ov, uv, k1, k2, k3, k4, k5, k6, k7⟩, _⟩ := g1.findB hi
 obtain ⟨ra, rc, rfl⟩ := ownsRow_form k5.1
 refine (wtxn_some q g s.n cap i (ow.bs.getD i 0) (s.tx (i + 1)).stamp (s.tx (i + 1)).state ((s.tx (i + 1)).next : Int) (s.tx (i + 1)).agains (s.tx (i + 1)).wounded (s.tx (i + 1)).waits.isSome (some ⟨r, 0, none⟩) ra 4 4 (s.tx (i + 1)).reads.length rc ov uv w f1 f2 k1 hi hn).mono ?_
 rintro e w' ⟨rfl, hk⟩
 exact ⟨r, ra, rc, rfl, by unfold Own; omega, k3, k5.1, fun k hk => by have := k5.2 k hk; unfold Own; omega, hk⟩
theorem hTxn_none {ow : OwB} {q N0 j : Nat} {s : St} {cl : List Cl} {w : World} (h : HSt ow q N0 j s cl w) (id : Int) (hi : id < 1 ∨ (s.n : Int) < id) :
  Calls Tryz.prog 46 #[.pointer (some ⟨q, 0, none⟩), .int .i64 id] w fun e w' => e = .returned (.tuple #[.agg #[.int .i64 0, .int .i64 0, .int .i64 0, .bool false, .bool false, .int .i64 0, .slice none 0 0, .slice none 0 0], .int .i64 5]) ∧ Kept NoBlk w w' := by
 obtain ⟨rl, g1, g2, g3⟩ := h.ex
 obtain ⟨rv, tv, cv, wv, bs, b1, b2, b3, b4, _⟩ := g1.body
 obtain ⟨ta, tc, rfl⟩ := ownsRow_form b4.1
 exact wtxn_none q s.n tc ta id w (by rw [cell_at b1]; rfl) hi
end Go.Proofs.YtmcajfefagdbnaaGreat
namespace Go.Proofs.YtmcajfefagdbnaaGreat
open Go Go.RowKit
theorem RowsOf.get {f : Int → Option Int} {l : List Row2} (h : RowsOf f l) (key : Int) : getL l key = f key := by
 unfold getL
 cases hf : l.find? (fun r => decide (r.k = key)) with
 | some r =>
  have h1 := List.mem_of_find?_eq_some hf
  have h2 : r.k = key := by simpa using List.find?_some hf
  rw [← h2, h.2 r h1]
  rfl
 | none =>
  have h1 := List.find?_eq_none.1 hf
  cases hk : f key with
  | none => rfl
  | some v =>
   have h2 := (h.1.2 key).2 (by rw [hk]; rfl)
   obtain ⟨r, h3, h4⟩ := List.mem_map.1 h2
   exact absurd (by simpa using h4) (h1 r h3)
theorem HSt.setTxn {ow : OwB} {q N0 j : Nat} {s : St} {cl : List Cl} {w : World} (h : HSt ow q N0 j s cl w) {i : Nat} (hi : i < s.n) (f : Tx → Tx) {fld : Nat} {v : Value} (hr : (f (s.tx (i + 1))).regs = (s.tx (i + 1)).regs) (hd : (f (s.tx (i + 1))).reads = (s.tx (i + 1)).reads) (ho : (f (s.tx (i + 1))).ops = (s.tx (i + 1)).ops) (hu : (f (s.tx (i + 1))).undo = (s.tx (i + 1)).undo)
  (hc : ∀ r rd ov uv, ((s.tx (i + 1)).arr r rd ov uv).setIfInBounds fld v = (f (s.tx (i + 1))).arr r rd ov uv) : HSt ow q N0 j (s.setTx (i + 1) f) cl (w.setCell ⟨ow.bs.getD i 0, fld, none⟩ v) ∧ Kept (Own ow) w (w.setCell ⟨ow.bs.getD i 0, fld, none⟩ v) := by
 obtain ⟨rl, g1, g2, g3⟩ := h.ex
 obtain ⟨g, cap, f1, f2, f3, f4⟩ := g1.findB hi
 obtain ⟨k1, k2⟩ := g1.setTxn hi f3 f4 (t' := f (s.tx (i + 1))) hr hd ho hu hc
 exact ⟨⟨⟨rl, k1, g2, g3⟩, h.rep, h.few⟩, k2⟩
theorem opsSrc_own {w : World} {v : Value} {l : List Op4} (h : w.ownsRow 0 114 4 v l.length (opCells l)) : OpsSrc w v l := by
 obtain ⟨ao, c, rfl⟩ := ownsRow_form h
 refine ⟨ao, c, rfl, fun h0 => ?_⟩
 obtain ⟨g, cap, hform, _, _⟩ := h.form h0
 simp only [Value.slice.injEq] at hform
 obtain ⟨rfl, _, rfl⟩ := hform
 refine ⟨g, 0, rfl, fun i hi => ?_⟩
 have := opCells_get l i hi
 rw [Nat.zero_add, h.cellAt (i * 4) (by omega), h.cellAt (i * 4 + 1) (by omega), h.cellAt (i * 4 + 2) (by omega), h.cellAt (i * 4 + 3) (by omega)]
 exact this
theorem HSt.cells {ow : OwB} {q N0 j : Nat} {s : St} {cl : List Cl} {w : World} (h : HSt ow q N0 j s cl w) {i : Nat} (hi : i < s.n) :
  ∃ g cap r oa oc rd uv, w.cell? ⟨q, 1, none⟩ = some (.slice (some ⟨g, 0, none⟩) s.n cap) ∧ w.cell? ⟨g, i, none⟩ = some (.pointer (some ⟨ow.bs.getD i 0, 0, none⟩)) ∧
   w.heap[ow.bs.getD i 0]? = some (.cells ((s.tx (i + 1)).arr r rd (.slice oa (s.tx (i + 1)).ops.length oc) uv) 152 (0, 0)) ∧ OpsSrc w (.slice oa (s.tx (i + 1)).ops.length oc) (s.tx (i + 1)).ops ∧
   (∀ x : Nat, x < 4 → w.cell? ⟨r, x, none⟩ = some (.int .i64 ((s.tx (i + 1)).regs (x : Int)))) := by
 obtain ⟨rl, g1, g2, g3⟩ := h.ex
 obtain ⟨g, cap, f1, f2, f3, f4⟩ := g1.findB hi
 obtain ⟨r, rd, ov, uv, k1, k2, k3, k4, k5, k6, k7⟩ := f3
 obtain ⟨oa, oc, rfl⟩ := ownsRow_form k6.1
 refine ⟨g, cap, r, oa, oc, rd, uv, f1, f2, k1, ?_, fun x hx => ?_⟩
 ·exact opsSrc_own k6.1
 ·rw [cell_at k3]
  exact cellsR_at (s.tx (i + 1)).regs x hx
theorem wins_snoc (l : List Nat) (i : Nat) : winCells (l ++ [i]) = winCells l ++ [.int .i64 (i : Int)] := by simp [winCells]
theorem WSt.winsT {ow : OwB} {p : Nat} {rl : List Row2} {cl : List Cl} {n : Nat} {tx : Nat → Tx} {wins : List Nat} {c : Int} {w Wa W1 : World} (h : WSt ow p rl cl n tx wins c w) (hka : Kept NoBlk w Wa) {v v' : Value} {m : Nat} (i : Nat)
  (hv : w.cell? ⟨p, 3, none⟩ = some v) (hm : m = wins.length + 1) (hrow : W1.ownsRow 0 3 1 v' m (winCells wins ++ [.int .i64 (i : Int)])) (hmv : Moved Wa W1 v v' m) :
  ∃ ow', Agree w ow ow' ∧ WSt ow' p rl cl n tx (wins ++ [i]) c (W1.setCell ⟨p, 3, none⟩ v') ∧ Kept (Own ow) w (W1.setCell ⟨p, 3, none⟩ v') := by
 subst hm
 obtain ⟨rv, tv, cv, wv, bs, h1, h2, h3, h4, h5, h6, h7, h8⟩ := h.body
 have ev : wv = v := by
  rw [cell_at h1] at hv
  exact Option.some.inj hv
 subst ev
 have hs0 : w.heap.size ≤ Wa.heap.size := hka.size
 have hk1 : Kept (fun k => wv.ownBlock = some k) Wa W1 := hmv.keptOf
 have hk1w : Kept (fun k => wv.ownBlock = some k) w W1 := (hka.mono (fun _ x => x.elim)).trans' hk1
 have hfr : ∀ k, v'.ownBlock = some k → wv.ownBlock = some k ∨ w.heap.size ≤ k := fun k hk => by
  rcases hmv.fresh k hk with y | y
  ·exact .inl y
  ·exact .inr (by omega)
 have nb : ∀ {k : Nat} {cs : Array Value} {t : TypeId}, w.heap[k]? = some (.cells cs t (0, 0)) → t ≠ 3 → ¬ wv.ownBlock = some k := fun hk ht e => by
  obtain ⟨cur, hc⟩ := ownsRow_block h7.1 e
  exact blocks_apart hk hc ht rfl
 have k2 := Kept.set1 W1 p 3 v'
 have kk : Kept (fun k => k = p ∨ wv.ownBlock = some k) w (W1.setCell ⟨p, 3, none⟩ v') := (hk1w.mono (fun _ x => .inr x)).trans' (k2.mono (fun _ x => .inl x))
 let ow' : OwB := ⟨fun k => if k < w.heap.size then ow k else if v'.ownBlock = some k then 1 else 0, ow.bs⟩
 have hag : Agree w ow ow' := ⟨fun k hk => by simp only [ow', hk, if_true], rfl⟩
 have ap : ∀ {e : TypeId} {size : Nat} {y : Value} {m : Nat} {cs : List Value}, Owns ow 1 w e size y m cs → e ≠ 47 → e ≠ 3 → Owns ow' 1 (W1.setCell ⟨p, 3, none⟩ v') e size y m cs := fun ho he he2 =>
  ⟨ownsRow_kept ho.1 kk (fun k hk' e => by
   obtain ⟨cur, hcur⟩ := ownsRow_block ho.1 hk'
   rcases e with e | e
   ·exact blocks_apart hcur h1 he e
   ·exact nb hcur he2 e), fun k hk => by rw [hag k (ownsRow_lt ho.1 k hk)]; exact ho.2 k hk⟩
 have hb1 := hk1w.heap h1 (nb h1 (by decide))
 have hb2 := block_setCell (o := 3) hb1 v'
 have hnew : (W1.setCell ⟨p, 3, none⟩ v').ownsRow 0 3 1 v' (wins ++ [i]).length (winCells (wins ++ [i])) := by
  rw [wins_snoc, List.length_append]
  refine ownsRow_kept hrow k2 (fun k hk e => ?_)
  obtain ⟨cur, hcur⟩ := ownsRow_block hrow hk
  exact blocks_apart hcur hb1 (by decide) e
 have h4' := ap h4 (by decide) (by decide)
 refine ⟨ow', hag, ⟨fun k hk0 => ?_, FixT.mk hb2 h4'.1 (h.fix _ _ _ _ _ _ h1 h4.1 h5), rv, tv, cv, v', bs, hb2, by rw [hag _ (lt_of_block h1)]; exact h2, ap h3 (by decide) (by decide), h4', h5, ap h6 (by decide) (by decide), ⟨hnew, fun k hk => ?_⟩, fun a ha => ?_⟩, kk.mono (fun k e => ?_)⟩
 ·by_cases hk1 : k < w.heap.size
  ·exact Nat.lt_of_lt_of_le hk1 kk.size
  ·simp only [ow', hk1, if_false] at hk0
   split at hk0
   ·rename_i hx
    exact ownsRow_lt hnew k hx
   ·exact absurd rfl hk0
 ·by_cases hk1 : k < w.heap.size
  ·rw [hag k hk1]
   rcases hfr k hk with y | y
   ·exact h7.2 k y
   ·omega
  ·simp only [ow', hk1, if_false, hk, if_true]
 ·refine (h8 a ha).kept hag (fun k hk1 e => kk.block k hk1 (fun x => ?_))
  rcases x with rfl | x
  ·omega
  ·have := h7.2 k x; omega
 ·rcases e with rfl | e
  ·unfold Own; omega
  ·have := h7.2 k e; unfold Own; omega
def St.did (s : St) (i : Nat) (o : Op4) : St :=
 let t := s.tx i
 if o.k = 1 then s.setTx i fun t => { t with regs := upd t.regs o.b ((s.rows o.a).getD 0), reads := t.reads ++ [sawOf s.rows o.a] }
 else if o.k = 2 then { s.setTx i (fun t => { t with undo := sawOf s.rows o.a :: t.undo }) with rows := upd s.rows o.a (some (t.regs o.b)) }
 else if o.k = 3 then { s.setTx i (fun t => { t with undo := sawOf s.rows o.a :: t.undo }) with rows := upd s.rows o.a none }
 else if o.k = 4 then s.setTx i fun t => { t with regs := upd t.regs o.a (IntKind.wrap .i64 (IntKind.wrap .i64 (t.regs o.a + t.regs o.b) + o.c)) }
 else s
theorem did_next (s : St) (i : Nat) (o : Op4) : (s.did i o).setTx i (fun t => { t with next := t.next + 1 }) = s.doOp i o := by
 unfold St.did St.doOp
 dsimp only
 by_cases h1 : o.k = 1
 ·rw [if_pos h1, if_pos h1]
  simp only [St.setTx, upd_same, upd_upd]
 rw [if_neg h1, if_neg h1]
 by_cases h2 : o.k = 2
 ·rw [if_pos h2, if_pos h2]
  simp only [St.setTx, upd_same, upd_upd]
 rw [if_neg h2, if_neg h2]
 by_cases h3 : o.k = 3
 ·rw [if_pos h3, if_pos h3]
  simp only [St.setTx, upd_same, upd_upd]
 rw [if_neg h3, if_neg h3]
 by_cases h4 : o.k = 4
 ·rw [if_pos h4, if_pos h4]
  simp only [St.setTx, upd_same, upd_upd]
 rw [if_neg h4, if_neg h4]
theorem did_n (s : St) (i : Nat) (o : Op4) : (s.did i o).n = s.n ∧ (s.did i o).lk = s.lk ∧ (s.did i o).act = s.act := by
 unfold St.did
 simp only
 repeat' split
 all_goals exact ⟨rfl, rfl, rfl⟩
end Go.Proofs.YtmcajfefagdbnaaGreat
namespace Go.Proofs.YtmcajfefagdbnaaGreat
open Go Go.RowKit
set_option maxHeartbeats 800000 in
theorem wstep_no (q : Nat) (id z : Int) (w : World) (hz : z ≠ 0) (HT : Hid (Calls Tryz.prog 78 #[.pointer (some ⟨q, 0, none⟩), .int .i64 id] w fun e w' => e = .returned (.int .i64 z) ∧ Kept NoBlk w w')) :
  Calls Tryz.prog 44 #[.pointer (some ⟨q, 0, none⟩), .int .i64 id] w fun e w' => e = .returned (.tuple #[.int .i64 0, .int .i64 z]) ∧ Kept NoBlk w w' := by
 have hz1 : (z != 0) = true := by simp [hz]
 have hz2 : (z == 0) = false := by simp [hz]
 clear hz
 go_enter Tryz.func44, Tryz.ntmps44
 go_wp2_with fail
 refine HT.out.mono ?_
 rintro e w1 ⟨rfl, hk1⟩
 have HK1 : Hid (Kept NoBlk w w1) := hk1
 clear hk1 HT
 go_wp2_with fail
 go_ret2
 exact ⟨rfl, HK1.out⟩
theorem hThere0 {ow : OwB} {q N0 j : Nat} {s : St} {cl : List Cl} {w : World} (h : HSt ow q N0 j s cl w) {i : Nat} (hi : i < s.n) (hz : (s.tx (i + 1)).state = 0) (hn : s.n ≤ 1048576) :
  Hid (Calls Tryz.prog 78 #[.pointer (some ⟨q, 0, none⟩), .int .i64 ((i : Int) + 1)] w fun e w' => e = .returned (.int .i64 0) ∧ Kept NoBlk w w') := by
 have e : s.there ((i : Int) + 1) = 0 := by
  unfold St.there
  rw [if_neg (by omega), show ((i : Int) + 1).toNat = i + 1 from by omega, if_neg (by simp [hz])]
 have := hThere h ((i : Int) + 1) hn
 rw [e] at this
 exact this
set_option maxRecDepth 20000 in
set_option maxHeartbeats 1600000 in
theorem hStep_waits {ow : OwB} {q N0 j : Nat} {s : St} {cl : List Cl} {w : World} (h : HSt ow q N0 j s cl w) {i : Nat} (hi : i < s.n) (hz : (s.tx (i + 1)).state = 0) (hn : s.n ≤ 1048576) (hw : (s.tx (i + 1)).wounded = false) (hwt : (s.tx (i + 1)).waits.isSome = true) :
  Calls Tryz.prog 44 #[.pointer (some ⟨q, 0, none⟩), .int .i64 ((i : Int) + 1)] w fun e w' => e = .returned (.tuple #[.int .i64 2, .int .i64 0]) ∧ Kept NoBlk w w' := by
 have HT := hThere0 h hi hz hn
 have HH : Hid (HSt ow q N0 j s cl w) := h
 have HWW : Hid ((s.tx (i + 1)).wounded = false ∧ (s.tx (i + 1)).waits.isSome = true) := ⟨hw, hwt⟩
 have j4 : (0 : Int) ≤ (i : Int) := by omega
 have j5 : (i : Int) < (s.n : Int) := by omega
 have hwi : IntKind.wrap .i64 (i : Int) = (i : Int) := by rw [IntKind.wrap_i64]; omega
 clear h hw hwt hz
 go_enter Tryz.func44, Tryz.ntmps44
 go_wp2_with fail
 refine HT.out.mono ?_
 rintro e w1 ⟨rfl, hk1⟩
 obtain ⟨g, cap, r, oa, oc, rd, uv, c1, c2, c3, c4, c5⟩ := (HH.out.kept0 hk1).cells hi
 generalize ow.bs.getD i 0 = b at *
 have d3 : w1.cell? ⟨b, 3, none⟩ = some (.bool false) := by rw [cell_at c3, ← HWW.out.1]; rfl
 have d4 : w1.cell? ⟨b, 4, none⟩ = some (.bool true) := by rw [cell_at c3, ← HWW.out.2]; rfl
 have HK1 : Hid (Kept NoBlk w w1) := hk1
 clear hk1 HT c3 c4 c5
 generalize s.n = n at *
 go_wp2_with fail
 go_ret2
 exact ⟨rfl, HK1.out⟩
set_option maxRecDepth 20000 in
set_option maxHeartbeats 1600000 in
theorem hStep_again {ow : OwB} {q N0 j : Nat} {s : St} {cl : List Cl} {w : World} (h : HSt ow q N0 j s cl w) (hI : Inv s) {i : Nat} (hi : i < s.n) (hz : (s.tx (i + 1)).state = 0) (hn : s.n ≤ 1048576) (hw : (s.tx (i + 1)).wounded = true) (hun : (s.tx (i + 1)).undo.length ≤ 12) (hj : j ≤ 4194304) (hN : N0 ≤ 4194304) (hag : 0 ≤ (s.tx (i + 1)).agains ∧ (s.tx (i + 1)).agains ≤ 4194304) :
  Calls Tryz.prog 44 #[.pointer (some ⟨q, 0, none⟩), .int .i64 ((i : Int) + 1)] w fun e w' => e = .returned (.tuple #[.int .i64 3, .int .i64 0]) ∧ HAft ow q N0 (j + 1) w (s.again (i + 1)) w' := by
 have HT := hThere0 h hi hz hn
 have HH : Hid (HSt ow q N0 j s cl w) := h
 have HU : Hid (∀ W, Kept NoBlk w W → Calls Tryz.prog 79 #[.pointer (some ⟨q, 0, none⟩), .int .i64 ((i : Int) + 1)] W fun e w' => e = .returned (.tuple #[]) ∧ ∃ ow' cl', Agree W ow ow' ∧ HSt ow' q N0 (j + 1) (s.undone (i + 1)) cl' w' ∧ Kept (Own ow) W w') := fun W hk => hUndone (h.kept0 hk) hI i hi hun hn hj hN
 have HWW : Hid ((s.tx (i + 1)).wounded = true) := hw
 have j4 : (0 : Int) ≤ (i : Int) := by omega
 have j5 : (i : Int) < (s.n : Int) := by omega
 have hwi : IntKind.wrap .i64 (i : Int) = (i : Int) := by rw [IntKind.wrap_i64]; omega
 clear h hw hz hun hI
 go_enter Tryz.func44, Tryz.ntmps44
 go_wp2_with fail
 refine HT.out.mono ?_
 rintro e w1 ⟨rfl, hk1⟩
 obtain ⟨g, cap, r, oa, oc, rd, uv, c1, c2, c3, c4, c5⟩ := (HH.out.kept0 hk1).cells hi
 have HU1 := HU.out w1 hk1
 generalize hB : ow.bs.getD i 0 = b at *
 have d3 : w1.cell? ⟨b, 3, none⟩ = some (.bool true) := by rw [cell_at c3, ← HWW.out]; rfl
 have HK1 : Hid (Kept NoBlk w w1) := hk1
 have HB : Hid (ow.bs.getD i 0 = b) := hB
 have HU1' : Hid (Calls Tryz.prog 79 #[.pointer (some ⟨q, 0, none⟩), .int .i64 ((i : Int) + 1)] w1 fun e w' => e = .returned (.tuple #[]) ∧ ∃ ow' cl', Agree w1 ow ow' ∧ HSt ow' q N0 (j + 1) (s.undone (i + 1)) cl' w' ∧ Kept (Own ow) w1 w') := HU1
 clear hk1 HT c3 c4 c5 HU HU1 hB
 go_wp2_with fail
 refine HU1'.out.mono ?_
 rintro e w2 ⟨rfl, ow2, cl2, a1, a2, a3⟩
 have hb2 : ow2.bs.getD i 0 = b := by rw [a1.bs]; exact HB.out
 obtain ⟨g2, cap2, r2, oa2, oc2, rd2, uv2, e1, e2, e3, e4, e5⟩ := a2.cells (i := i) (show i < (s.undone (i + 1)).n from hi)
 have hst := a2.setTxn (i := i) (show i < (s.undone (i + 1)).n from hi) (fun t => { t with agains := t.agains + 1 }) (fld := 5) (v := .int .i64 (((s.undone (i + 1)).tx (i + 1)).agains + 1)) rfl rfl rfl rfl (fun _ _ _ _ => rfl)
 rw [hb2] at e3 hst
 have eag : ((s.undone (i + 1)).tx (i + 1)).agains = (s.tx (i + 1)).agains := by simp [St.undone, St.freed, Tx.look, Tx.anew]
 have d5 : w2.cell? ⟨b, 5, none⟩ = some (.int .i64 (s.tx (i + 1)).agains) := by rw [cell_at e3, ← eag]; rfl
 have df : ∀ j, w2.frozen? ⟨b, j, none⟩ = false := frozen_at e3
 rw [eag] at hst
 have HF : Hid (HAft ow q N0 (j + 1) w (s.again (i + 1)) (w2.setCell ⟨b, 5, none⟩ (.int .i64 ((s.tx (i + 1)).agains + 1)))) := by
  refine ⟨⟨ow2, cl2, hst.1, fun k hk => a1.out k (Nat.lt_of_lt_of_le hk HK1.out.size)⟩, ((HK1.out.mono (fun _ x => x.elim)).trans' a3).trans hst.2 (fun k e => ?_)⟩
  rcases own_old a1 k e with y | y
  ·exact .inl y
  ·exact .inr (Nat.le_trans HK1.out.size y)
 obtain ⟨ag0, ag1⟩ := hag
 clear a1 a2 a3 hst e1 e2 e3 e4 e5 eag HU1' c1 c2 d3
 go_wp2_with fail
 go_ret2
 exact ⟨rfl, HF.out⟩
end Go.Proofs.YtmcajfefagdbnaaGreat
namespace Go.Proofs.YtmcajfefagdbnaaGreat
open Go Go.RowKit
theorem RowsOf.rise {f : Int → Option Int} {l : List Row2} (h : RowsOf f l) : l.Pairwise (fun a b => a.k < b.k) := List.pairwise_map.1 h.1.1
theorem WSt.rowsAt {ow : OwB} {p : Nat} {rl : List Row2} {cl : List Cl} {n : Nat} {tx : Nat → Tx} {wins : List Nat} {c : Int} {w : World} (h : WSt ow p rl cl n tx wins c w) : ∃ rv, w.cell? ⟨p, 0, none⟩ = some rv ∧ RowsSrc w rv rl := by
 obtain ⟨rv, tv, cv, wv, bs, q1, q2, q3, _⟩ := h.body
 exact ⟨rv, by rw [cell_at q1]; rfl, rows_src q3.1⟩
theorem hDo {ow : OwB} {q N0 j : Nat} {s : St} {cl : List Cl} {w : World} (h : HSt ow q N0 j s cl w) {i : Nat} (hi : i < s.n) (o : Op4) (ho : o.ok = true) (hun : (s.tx (i + 1)).undo.length ≤ 12) (hrd : (s.tx (i + 1)).reads.length ≤ 12) (hj : j ≤ 4194304) (hN : N0 ≤ 4194304) :
  Calls Tryz.prog 85 #[.pointer (some ⟨q, 0, none⟩), .pointer (some ⟨ow.bs.getD i 0, 0, none⟩), .agg #[.int .i64 o.k, .int .i64 o.a, .int .i64 o.b, .int .i64 o.c]] w fun e w' => e = .returned (.tuple #[]) ∧ ∃ ow', Agree w ow ow' ∧ HSt ow' q N0 (j + 1) (s.did (i + 1) o) cl w' ∧ Kept (Own ow) w w' := by
 obtain ⟨rl, g1, g2, g3⟩ := h.ex
 have hf := h.few
 have hG : ∀ key W, Kept NoBlk w W → Calls Tryz.prog 118 #[.pointer (some ⟨q, 0, none⟩), .int .i64 key] W fun e w' => e = .returned (.tuple #[.int .i64 ((getL rl key).getD 0), .bool (getL rl key).isSome]) ∧ Kept NoBlk W w' := fun key W hk => by
  obtain ⟨rv, u1, u2⟩ := (g1.kept0 hk).rowsAt
  exact wget q rl rv key W u1 u2 (by omega)
 have hget := g2.get o.a
 have hsaw : (⟨o.a, (getL rl o.a).isSome, (getL rl o.a).getD 0⟩ : Saw) = sawOf s.rows o.a := by rw [hget]; rfl
 obtain ⟨k, a, b, c⟩ := o
 simp only [Op4.ok, opB] at ho
 by_cases h1 : k = 1
 ·subst h1
  obtain ⟨b', rfl, hb'⟩ := reg_nat (a := b) (by simpa using ho)
  refine (wdo_read g1 hi a b' c hb' (hG a) hrd).mono ?_
  rintro e w' ⟨rfl, ow', a1, a2, a3⟩
  refine ⟨rfl, ow', a1, ⟨⟨rl, ?_, g2, by omega⟩, h.rep, by omega⟩, a3⟩
  simp only at hget hsaw
  rw [hsaw, hget] at a2
  exact a2
 by_cases h2 : k = 2
 ·subst h2
  obtain ⟨b', rfl, hb'⟩ := reg_nat (a := b) (by simpa using ho)
  refine (wdo_write g1 hi a b' c hb' (hG a) hun (fun ow' tx' W x hW => wset_st hW a x true (by omega) g2.rise)).mono ?_
  rintro e w' ⟨rfl, ow', a1, a2, a3⟩
  have hl := setL_len rl a ((s.tx (i + 1)).regs (b' : Int)) true g2.rise
  refine ⟨rfl, ow', a1, ⟨⟨setL rl a true ((s.tx (i + 1)).regs (b' : Int)), ?_, g2.set a ((s.tx (i + 1)).regs (b' : Int)) true, by omega⟩, h.rep, by omega⟩, a3⟩
  simp only at hsaw
  rw [hsaw] at a2
  exact a2
 by_cases h3 : k = 3
 ·subst h3
  refine (wdo_delete g1 hi a b c (hG a) hun (fun ow' tx' W hW => wset_st hW a 0 false (by omega) g2.rise)).mono ?_
  rintro e w' ⟨rfl, ow', a1, a2, a3⟩
  have hl := setL_len rl a 0 false g2.rise
  refine ⟨rfl, ow', a1, ⟨⟨_, ?_, g2.set a 0 false, by omega⟩, h.rep, by omega⟩, a3⟩
  simp only at hsaw
  rw [hsaw] at a2
  exact a2
 by_cases h4 : k = 4
 ·subst h4
  obtain ⟨a', rfl, ha'⟩ := reg_nat (a := a) (by simp at ho; exact ho.1)
  obtain ⟨b', rfl, hb'⟩ := reg_nat (a := b) (by simp at ho; exact ho.2)
  refine (wdo_add g1 hi a' b' c ha' hb' (hG _)).mono ?_
  rintro e w' ⟨rfl, a2, a3⟩
  exact ⟨rfl, ow, Agree.refl _ _, ⟨⟨rl, a2, g2, by omega⟩, h.rep, by omega⟩, a3⟩
 ·have h5 : k = 5 := by
   simp [h1, h2, h3, h4] at ho
   omega
  subst h5
  refine (wdo_stop g1 (i := i) a b c (hG a)).mono ?_
  rintro e w' ⟨rfl, a3⟩
  exact ⟨rfl, ow, Agree.refl _ _, (h.kept0 a3).mono (Nat.le_succ _), a3.mono (fun _ x => x.elim)⟩
end Go.Proofs.YtmcajfefagdbnaaGreat
