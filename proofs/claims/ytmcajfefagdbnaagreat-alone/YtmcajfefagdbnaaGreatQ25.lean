import Derived.Test.YtmcajfefagdbnaaGreatQ14
import Derived.Test.YtmcajfefagdbnaaGreatQ13
import Derived.Test.YtmcajfefagdbnaaGreatQ08
import Derived.Test.YtmcajfefagdbnaaGreatQ12
import Derived.Test.YtmcajfefagdbnaaGreatQ24
import Derived.Test.YtmcajfefagdbnaaGreatQ19
import Derived.Test.YtmcajfefagdbnaaGreatQ21
import Derived.Test.YtmcajfefagdbnaaGreatQ05
namespace Go.Proofs.YtmcajfefagdbnaaGreat
open Go Go.RowKit
structure KSt (L : Lay) (bs : Nat → Nat) (ow : Ow) (j : Nat) (s : St) (w : World) : Prop where
 ex : ∃ q : Fin 1152921504606846976, q.val ≤ 600 * j ∧ PSt (L.wq q) bs (List.range' 1 s.n) ow 100 0 (alive s : Int) s w
 good : Good s
 act : s.act.length ≤ 16
 n5 : s.n ≤ 5
 ag : ∀ i, 0 ≤ (s.tx i).agains ∧ (s.tx i).agains ≤ j
 wins : s.wins.length + alive s ≤ s.n
 clock : s.clock = s.n
 in9 : In9 s
theorem KSt.st {L : Lay} {bs : Nat → Nat} {ow : Ow} {j : Nat} {s : St} {w : World} (h : KSt L bs ow j s w) : PSt L bs (List.range' 1 s.n) ow (600 * j + 100) 0 (alive s : Int) s w := by
 obtain ⟨q, hq, h1⟩ := h.ex
 obtain ⟨qf, q1, q2⟩ := h1.que
 exact ⟨h1.lt, h1.tags, h1.body, h1.vals.mono (by omega), h1.hold.mono (by omega), ⟨qf, q1.mono (by show 100 + q.val ≤ _; omega), q2⟩, h1.txs, h1.few, h1.among, h1.hdom, h1.qdom, h1.rdom, h1.nmax⟩
theorem KSt.put {L : Lay} {bs : Nat → Nat} {ow : Ow} {j : Nat} {s : St} {w : World} {m : Nat} {q : Fin 1152921504606846976} (h : PSt (L.wq q) bs (List.range' 1 s.n) ow m 0 (alive s : Int) s w) (hq : m + q.val ≤ 100 + 600 * j) (hj : j ≤ 1125899906842624) (hI : Inv s) (ha : s.act.length ≤ 16) (h5 : s.n ≤ 5) (h9 : In9 s) :
  ∃ q : Fin 1152921504606846976, q.val ≤ 600 * j ∧ PSt (L.wq q) bs (List.range' 1 s.n) ow 100 0 (alive s : Int) s w :=
 ⟨⟨600 * j, by omega⟩, Nat.le_refl _, h.reset hI ha (by simpa using h5) h9.rows ⟨600 * j, by omega⟩ (by simpa using hq)⟩
theorem KSt.wins5 {L : Lay} {bs : Nat → Nat} {ow : Ow} {j : Nat} {s : St} {w : World} (h : KSt L bs ow j s w) : s.wins.length ≤ 5 := by
 have := h.wins
 have := h.n5
 omega
theorem actOn_wins (s : St) (i : Nat) (o : Op4) : (s.actOn i o).1.wins = s.wins := by
 unfold St.actOn
 split
 ·rfl
 ·exact doOp_wins s i o
theorem go_wins (s : St) (i : Nat) : (s.go i).1.wins.length ≤ s.wins.length + (if 4 ≤ (s.go i).2 then 1 else 0) := by
 unfold St.go
 split
 ·exact Nat.le_add_right _ _
 split
 ·exact Nat.le_add_right _ _
 split
 ·simp [St.commit, St.freed, St.setTx]
 simp only
 split
 ·split
  ·exact Nat.le_add_right _ _
  split
  ·rw [actOn_wins]; exact Nat.le_add_right _ _
  ·exact Nat.le_add_right _ _
 ·rw [actOn_wins]; exact Nat.le_add_right _ _
theorem KSt.kept {L : Lay} {bs : Nat → Nat} {ow : Ow} {j : Nat} {s : St} {S : Nat → Prop} {w w' : World} (h : KSt L bs ow j s w) (hk : Kept S w w') (hd : ∀ k, OwnP ow k → ¬ S k) : KSt L bs ow j s w' :=
 ⟨by obtain ⟨q, hq, h1⟩ := h.ex; exact ⟨q, hq, h1.kept hk hd⟩, h.good, h.act, h.n5, h.ag, h.wins, h.clock, h.in9⟩
def KAft (L : Lay) (bs : Nat → Nat) (ow : Ow) (j : Nat) (w : World) (s' : St) (w' : World) : Prop := (∃ ow', KSt L bs ow' j s' w' ∧ AgreeP w ow ow') ∧ Kept (OwnP ow) w w'
theorem kStep {L : Lay} {bs : Nat → Nat} {ow : Ow} {j : Nat} {s : St} {w : World} (h : KSt L bs ow j s w) (id : Int) (hj : j ≤ 140737488355328) :
  Calls Tryz.prog 22 #[.pointer (some ⟨L.p, 0, none⟩), .int .i64 id] w fun e w' => e = .returned (.tuple #[.int .i64 (s.step id).2.1, .int .i64 (s.step id).2.2]) ∧ KAft L bs ow (j + 1) w (s.step id).1 w' := by
 obtain ⟨q, hq, hP⟩ := h.ex
 refine (pStep hP h.good.inv id (fun i h1 h2 _ => mem_range1.2 ⟨h1, h2⟩) h.act (by omega) (fun i h1 h2 h3 => ?_) (fun i => ⟨(h.ag i).1, by have := (h.ag i).2; omega⟩) (by have := h.wins5; omega)).mono ?_
 ·have h4 := alive_pos (s := s) (i := i) ⟨h1, h2, h3⟩
  have h5 := alive_le s
  have h6 := h.n5
  omega
 rintro e w' ⟨rfl, ⟨ow', h1, h2⟩, h3⟩
 refine ⟨rfl, ⟨ow', ?_, h2⟩, h3⟩
 by_cases hz : s.there id = 0
 ·have hid : 1 ≤ id ∧ id ≤ s.n ∧ (s.tx id.toNat).state = 0 := by
   unfold St.there at hz
   split at hz
   ·omega
   ·split at hz
    ·omega
    ·rename_i a b
     exact ⟨by omega, by omega, by simpa using b⟩
  have hl : Lives s id.toNat := ⟨by omega, by omega, hid.2.2⟩
  have e1 : s.step id = ((s.go id.toNat).1, (s.go id.toNat).2, 0) := by unfold St.step; rw [if_neg (by simp [hz])]
  rw [e1] at h1 ⊢
  obtain ⟨a1, a2, a3, a4, a5, a6⟩ := go_ans s id.toNat hl.lives
  have hn := go_n s id.toNat
  refine ⟨?_, h.good.go hl, go_act h.act, ?_, fun i => ?_, ?_, ?_, h.in9.go _⟩
  ·have e2 : lvAft (s.go id.toNat).2 (alive s : Int) = (alive (s.go id.toNat).1 : Int) := by rw [alive_go hl]; rfl
   have h1' : PSt (L.wq q) bs (List.range' 1 (s.go id.toNat).1.n) ow' (100 + 500) 0 (alive (s.go id.toNat).1 : Int) (s.go id.toNat).1 w' := by
    rw [hn.1, ← e2]
    exact h1
   exact KSt.put h1' (by omega) (by omega) (h.good.go hl).inv (go_act h.act) (by rw [hn.1]; exact h.n5) (h.in9.go _)
  ·show (s.go id.toNat).1.n ≤ 5
   rw [hn.1]; exact h.n5
  ·have hai := h.ag i
   by_cases e : i = id.toNat
   ·subst e
    show 0 ≤ ((s.go id.toNat).1.tx id.toNat).agains ∧ _
    rw [a6]
    split <;> omega
   ·have := (base_eq (go_oth s e).base).2.2.2.2.1
    show 0 ≤ ((s.go id.toNat).1.tx i).agains ∧ ((s.go id.toNat).1.tx i).agains ≤ _
    rw [this]; omega
  ·show (s.go id.toNat).1.wins.length + alive (s.go id.toNat).1 ≤ (s.go id.toNat).1.n
   have := h.wins
   have e3 := go_wins s id.toNat
   have e4 := alive_go hl
   rw [hn.1]
   split at e4 <;> rename_i e5 <;> simp only [e5, if_true, if_false] at e3 <;> omega
  ·show (s.go id.toNat).1.clock = (s.go id.toNat).1.n
   rw [hn.1, hn.2]; exact h.clock
 ·have e1 : s.step id = (s, 0, s.there id) := by unfold St.step; rw [if_pos hz]
  rw [e1] at h1 ⊢
  refine ⟨?_, h.good, h.act, h.n5, fun i => ⟨(h.ag i).1, by have := (h.ag i).2; show (s.tx i).agains ≤ _; omega⟩, h.wins, h.clock, h.in9⟩
  have e2 : lvAft 0 (alive s : Int) = (alive s : Int) := rfl
  rw [e2] at h1
  exact KSt.put h1 (by omega) (by omega) h.good.inv h.act h.n5 h.in9
def TxnTold (w : World) (t : Tx) (x : Value) (w' : World) : Prop := ∃ a k, x = .agg #[.int .i64 t.stamp, .int .i64 t.state, .int .i64 (t.next : Int), .bool t.wounded, .bool t.waits.isSome, .int .i64 t.agains, .slice (some ⟨a, 0, none⟩) 4 4, .slice (some ⟨k, 0, none⟩) t.reads.length t.reads.length] ∧ w.heap.size ≤ a ∧ w.heap.size ≤ k ∧
 w'.heap[a]? = some (.cells #[.int .i64 (t.regs 0), .int .i64 (t.regs 1), .int .i64 (t.regs 2), .int .i64 (t.regs 3)] 3 (0, 0)) ∧ w'.heap[k]? = some (.cells (seenCells t.reads).toArray 105 (0, 0))
theorem kTxn {L : Lay} {bs : Nat → Nat} {ow : Ow} {j : Nat} {s : St} {w : World} (h : KSt L bs ow j s w) (i : Nat) (hin : 1 ≤ i ∧ i ≤ s.n) :
  Calls Tryz.prog 23 #[.pointer (some ⟨L.p, 0, none⟩), .int .i64 (i : Int)] w fun e w' => ∃ x, e = .returned (.tuple #[x, .int .i64 0]) ∧ TxnTold w (s.tx i) x w' ∧ KSt L bs ow j s w' ∧ Kept (OwnP ow) w w' := by
 obtain ⟨q, hq, hP⟩ := h.ex
 refine (pTxn_some hP i hin).mono ?_
 rintro e w' ⟨a, k, rfl, h1, h2, h3, h4, h5, h6⟩
 exact ⟨_, rfl, ⟨a, k, rfl, h1, h2, h3, h4⟩, ⟨⟨q, hq, h5⟩, h.good, h.act, h.n5, h.ag, h.wins, h.clock, h.in9⟩, h6⟩
theorem kAdmit {L : Lay} {bs : Nat → Nat} {ow : Ow} {j : Nat} {s : St} {w : World} (h : KSt L bs ow j s w) (v : Value) (l : List Op4) (ho : OpsSrc w v l) (hn : ∀ k, v.ownBlock = some k → ¬ OwnP ow k) (hin : ∀ o ∈ l, OpWf o) (hl : l.length ≤ 12) (h4 : s.n < 5) (h9 : ∀ o ∈ l, 0 < modeOf o → K9 o.a) :
  Calls Tryz.prog 36 #[.pointer (some ⟨L.p, 0, none⟩), v] w fun e w' => e = .returned (.tuple #[.int .i64 ((s.n : Int) + 1), .int .i64 0]) ∧ (∃ t, KAft L (upd bs (s.n + 1) t) ow j w (s.admit l) w') := by
 have hal := alive_le s
 have hck := h.clock
 have he : admErr l (alive s) s.clock = 0 := by
  unfold admErr
  rw [if_neg (by omega), if_neg (by rw [List.all_eq_true.2 (fun o ho' => (hin o ho').2.2.2)]; simp), if_neg (by omega), if_neg (by omega)]
 obtain ⟨q, hq, hP⟩ := h.ex
 refine (pAdmit_ok (lv := alive s) hP v l ho hn (fun o ho' => ⟨(hin o ho').1, (hin o ho').2.1, (hin o ho').2.2.1⟩) (by omega) (by omega) (by simp; omega) he).mono ?_
 rintro e w' ⟨rfl, ⟨t, ow', h1, h2⟩, h3⟩
 refine ⟨rfl, t, ⟨ow', ?_, h2⟩, h3⟩
 refine ⟨⟨q, hq, ?_⟩, ⟨h.good.inv.admit l, fun i => ?_⟩, h.act, ?_, fun i => ?_, ?_, ?_, h.in9.admit l h9⟩
 ·have e1 : List.range' 1 (s.admit l).n = List.range' 1 s.n ++ [s.n + 1] := by
   show List.range' 1 (s.n + 1) = _
   rw [List.range'_concat]; simp [Nat.add_comm]
  rw [e1, alive_admit]
  exact h1
 ·show ((upd s.tx (s.n + 1) _) i).next ≤ ((upd s.tx (s.n + 1) _) i).ops.length
  by_cases e : i = s.n + 1
  ·subst e; rw [upd_same]; exact Nat.zero_le _
  ·rw [upd_other _ _ _ _ e]; exact h.good.fits i
 ·show s.n + 1 ≤ 5
  omega
 ·show 0 ≤ ((upd s.tx (s.n + 1) _) i).agains ∧ ((upd s.tx (s.n + 1) _) i).agains ≤ _
  by_cases e : i = s.n + 1
  ·subst e; rw [upd_same]; simp
  ·rw [upd_other _ _ _ _ e]; exact h.ag i
 ·show s.wins.length + alive (s.admit l) ≤ s.n + 1
  have := h.wins
  rw [alive_admit]
  omega
 ·show s.clock + 1 = ((s.n + 1 : Nat) : Int)
  omega
end Go.Proofs.YtmcajfefagdbnaaGreat
namespace Go.Proofs.YtmcajfefagdbnaaGreat
def knOps1 : List Op4 := [⟨2, 7, 0, 0⟩, ⟨2, 8, 0, 0⟩]
def knOps2 : List Op4 := [⟨2, 8, 0, 0⟩]
def knWho : List Int := [2, 1, 1, 1, 2, 2, 1, 1, 2, 2]
def knWhat : List Int := [1, 1, 2, 2, 3, 2, 1, 6, 1, 6]
def knS : Nat → St
 | 0 => ((St.born (fun _ => none)).admit knOps1).admit knOps2
 | i + 1 => ((knS i).step (knWho.getD i 0)).1
set_option maxRecDepth 100000 in
theorem kn_ans : ∀ i, i < 10 → ((knS i).step (knWho.getD i 0)).2 = (knWhat.getD i 0, 0)
 | 0, _ => rfl
 | 1, _ => rfl
 | 2, _ => rfl
 | 3, _ => rfl
 | 4, _ => rfl
 | 5, _ => rfl
 | 6, _ => rfl
 | 7, _ => rfl
 | 8, _ => rfl
 | 9, _ => rfl
 | _ + 10, h => absurd h (by omega)
end Go.Proofs.YtmcajfefagdbnaaGreat
namespace Go.Proofs.YtmcajfefagdbnaaGreat
open Go Go.RowKit
def KW (w : World) (wb : Nat) (L : Lay) (n : Nat) : Prop := ∃ (cs : Array Value) (ao : Option Addr) (c : Nat), w.heap[wb]? = some (.cells cs 60 (0, 0)) ∧ cs[0]? = some (.pointer (some ⟨L.p, 0, none⟩)) ∧ cs[11]? = some (.slice ao n c)
theorem KW.kept {S : Nat → Prop} {w w' : World} {wb : Nat} {L : Lay} {n : Nat} (h : KW w wb L n) (hk : Kept S w w') (hn : ¬ S wb) : KW w' wb L n := by
 obtain ⟨cs, ao, c, h1, h2, h3⟩ := h
 exact ⟨cs, ao, c, hk.heap h1 hn, h2, h3⟩
set_option maxRecDepth 20000 in
set_option maxHeartbeats 1600000 in
theorem lives_any {L : Lay} {bs : Nat → Nat} {ow : Ow} {j : Nat} {s : St} {w : World} (h : KSt L bs ow j s w) (wb : Nat) (n : Nat) (hw : KW w wb L n) (_hn : ¬ OwnP ow wb) (i : Nat) (hin : 1 ≤ i ∧ i ≤ s.n) :
  Calls Tryz.prog 69 #[.pointer (some ⟨wb, 0, none⟩), .int .i64 (i : Int)] w fun e w' => e = .returned (.bool ((s.tx i).state == 0)) ∧ KSt L bs ow j s w' ∧ Kept (OwnP ow) w w' := by
 obtain ⟨cs, ao, c, w1, w2, w3⟩ := hw
 have c0 : w.cell? ⟨wb, 0, none⟩ = some (.pointer (some ⟨L.p, 0, none⟩)) := by rw [cell_at w1]; exact w2
 have HT : Hid (Calls Tryz.prog 23 #[.pointer (some ⟨L.p, 0, none⟩), .int .i64 (i : Int)] w fun e w' => ∃ x, e = .returned (.tuple #[x, .int .i64 0]) ∧ TxnTold w (s.tx i) x w' ∧ KSt L bs ow j s w' ∧ Kept (OwnP ow) w w') := kTxn h i hin
 clear h w1 w2 w3
 go_enter Tryz.func69, Tryz.ntmps69
 go_wp2_with fail
 refine HT.out.mono ?_
 rintro e w1 ⟨x, rfl, ⟨a, k, rfl, t1, t2, t3, t4⟩, h1, hk1⟩
 have H1 : Hid (KSt L bs ow j s w1 ∧ Kept (OwnP ow) w w1) := ⟨h1, hk1⟩
 clear h1 hk1 t3 t4
 go_wp2_with fail
 go_ret
 exact ⟨rfl, H1.out.1.kept ((Kept.refl NoBlk w1).alloc _) (fun _ _ x => x), H1.out.2.alloc _⟩
theorem KSt.mono {L : Lay} {bs : Nat → Nat} {ow : Ow} {j j' : Nat} {s : St} {w : World} (h : KSt L bs ow j s w) (hj : j ≤ j') : KSt L bs ow j' s w :=
 ⟨by obtain ⟨q, hq, h1⟩ := h.ex; exact ⟨q, by omega, h1⟩, h.good, h.act, h.n5, fun i => ⟨(h.ag i).1, by have := (h.ag i).2; omega⟩, h.wins, h.clock, h.in9⟩
theorem step_in {s : St} {i : Nat} (hin : 1 ≤ i ∧ i ≤ s.n) : s.step (i : Int) = (s.stepN i, if (s.tx i).state = 0 then (s.go i).2 else 0, if (s.tx i).state = 0 then 0 else 6) := by
 have e0 : s.there (i : Int) = if (s.tx i).state = 0 then 0 else 6 := by
  unfold St.there
  rw [if_neg (by omega), Int.toNat_natCast]
  by_cases h : (s.tx i).state = 0
  ·rw [if_neg (by simpa using h), if_pos h]
  ·rw [if_pos h, if_neg h]
 unfold St.step St.stepN
 rw [e0, Int.toNat_natCast]
 by_cases h : (s.tx i).state = 0
 ·rw [if_pos h, if_neg (by simp), if_pos ⟨hin.1, hin.2, h⟩, if_pos h]
 ·rw [if_neg h, if_pos (by simp), if_neg (fun x => h x.2.2), if_neg h]
def St.stepR (s : St) (raw : Int) : St := if s.n = 0 then s else s.stepN (1 + (pickI raw s.n).toNat)
set_option maxRecDepth 20000 in
set_option maxHeartbeats 1600000 in
theorem wstep_any {L : Lay} {bs : Nat → Nat} {ow : Ow} {j : Nat} {s : St} {w : World} (h : KSt L bs ow j s w) (wb : Nat) (hw : KW w wb L s.n) (hn : ¬ OwnP ow wb) (raw : Int) (hr : inI raw) (hj : j ≤ 140737488355328) :
  Calls Tryz.prog 30 #[.pointer (some ⟨wb, 0, none⟩), .int .i64 raw] w fun e w' => e = .returned (.bool true) ∧ KAft L bs ow (j + 1) w (s.stepR raw) w' := by
 have HW : Hid (KW w wb L s.n) := hw
 have HNW : Hid (¬ OwnP ow wb) := hn
 have H0 : Hid (KSt L bs ow j s w) := h
 have h5 := h.n5
 obtain ⟨cs, ao, c, w1, w2, w3⟩ := hw
 have c11 : w.cell? ⟨wb, 11, none⟩ = some (.slice ao s.n c) := by rw [cell_at w1]; exact w3
 have c0 : w.cell? ⟨wb, 0, none⟩ = some (.pointer (some ⟨L.p, 0, none⟩)) := by rw [cell_at w1]; exact w2
 clear w1 w2 w3 h hn
 by_cases h0 : s.n = 0
 ·have HE : Hid (s.stepR raw = s) := by unfold Hid St.stepR; rw [if_pos h0]
  rw [h0] at c11
  clear h0 h5
  go_enter Tryz.func30, Tryz.ntmps30
  go_wp2_with fail
  go_ret
  rw [HE.out]
  exact ⟨rfl, ⟨ow, H0.out.mono (by omega), AgreeP.refl _ _⟩, Kept.refl _ _⟩
 ·have HP : Hid (∀ W, Calls Tryz.prog 34 #[.int .i64 raw, .int .i64 (s.n : Int)] W fun e w' => e = .returned (.int .i64 (pickI raw s.n)) ∧ w' = W) := fun W => pick_any raw s.n W hr ⟨by omega, by omega⟩
  have q1 := pickI_ge raw (n := (s.n : Int)) (by omega)
  have q2 := pickI_lt raw (n := (s.n : Int)) (by omega)
  have HSR : Hid (s.stepR raw = s.stepN (1 + (pickI raw s.n).toNat)) := by unfold Hid St.stepR; rw [if_neg h0]
  have h0' : ((s.n : Int) == 0) = false := by rw [beq_eq_false_iff_ne]; omega
  generalize hpk : pickI raw s.n = pk at *
  obtain ⟨q, rfl⟩ : ∃ q : Nat, pk = (q : Int) := ⟨pk.toNat, by omega⟩
  rw [Int.toNat_natCast] at HSR
  have HIN : Hid (1 ≤ 1 + q ∧ 1 + q ≤ s.n) := ⟨by omega, by omega⟩
  generalize hsn : s.n = sn at *
  have HSN : Hid (s.n = sn) := hsn
  clear hpk hsn h0
  have hlv := lives_any H0.out wb sn HW.out HNW.out (1 + q) (by have h1 := HIN.out; have h2 := HSN.out; omega)
  rw [show ((1 + q : Nat) : Int) = 1 + (q : Int) from by omega] at hlv
  have hst : ∀ W, KSt L bs ow j s W → Calls Tryz.prog 22 #[.pointer (some ⟨L.p, 0, none⟩), .int .i64 (1 + (q : Int))] W fun e w' => e = .returned (.tuple #[.int .i64 (if (s.tx (1 + q)).state = 0 then (s.go (1 + q)).2 else 0), .int .i64 (if (s.tx (1 + q)).state = 0 then 0 else 6)]) ∧ KAft L bs ow (j + 1) W (s.stepN (1 + q)) w' := fun W hW => by
   have := kStep hW ((1 + q : Nat) : Int) hj
   rw [step_in (by have h1 := HIN.out; have h2 := HSN.out; omega), show ((1 + q : Nat) : Int) = 1 + (q : Int) from by omega] at this
   exact this
  by_cases hz : (s.tx (1 + q)).state = 0
  ·obtain ⟨a1, a2, _⟩ := go_ans s (1 + q) hz
   simp only [if_pos hz] at hst
   rw [hz] at hlv
   have HLV : Hid (Calls Tryz.prog 69 #[.pointer (some ⟨wb, 0, none⟩), .int .i64 (1 + (q : Int))] w fun e w' => e = .returned (.bool true) ∧ KSt L bs ow j s w' ∧ Kept (OwnP ow) w w') := hlv
   generalize (s.go (1 + q)).2 = an at *
   have HST : Hid (∀ W, KSt L bs ow j s W → Calls Tryz.prog 22 #[.pointer (some ⟨L.p, 0, none⟩), .int .i64 (1 + (q : Int))] W fun e w' => e = .returned (.tuple #[.int .i64 an, .int .i64 0]) ∧ KAft L bs ow (j + 1) W (s.stepN (1 + q)) w') := hst
   clear hlv hst hz
   go_enter Tryz.func30, Tryz.ntmps30
   go_wp2_with fail
   refine (HP.out w).mono ?_
   rintro e w1 ⟨rfl, rfl⟩
   go_wp2_with fail
   refine HLV.out.mono ?_
   rintro e w2 ⟨rfl, h2, hk2⟩
   have c0' := hk2.cell c0 HNW.out
   have HS2 : Hid (Calls Tryz.prog 22 #[.pointer (some ⟨L.p, 0, none⟩), .int .i64 (1 + (q : Int))] w2 fun e w' => e = .returned (.tuple #[.int .i64 an, .int .i64 0]) ∧ KAft L bs ow (j + 1) w2 (s.stepN (1 + q)) w') := HST.out w2 h2
   have HK2 : Hid (Kept (OwnP ow) w1 w2) := hk2
   clear h2 hk2 c0 c11
   go_wp2_with fail
   refine HS2.out.mono ?_
   rintro e w3 ⟨rfl, ⟨ow', h3, ha3⟩, hk3⟩
   have H3 : Hid (KAft L bs ow (j + 1) w1 (s.stepN (1 + q)) w3) := ⟨⟨ow', h3, fun k hk => ha3 k (Nat.lt_of_lt_of_le hk HK2.out.size)⟩, HK2.out.trans' hk3⟩
   clear h3 ha3 hk3
   go_wp2_with fail
   go_ret
   rw [HSR.out]
   exact ⟨by simp, H3.out⟩
  ·simp only [if_neg hz] at hst
   have hz' : ((s.tx (1 + q)).state == 0) = false := by rw [beq_eq_false_iff_ne]; exact hz
   rw [hz'] at hlv
   have HLV : Hid (Calls Tryz.prog 69 #[.pointer (some ⟨wb, 0, none⟩), .int .i64 (1 + (q : Int))] w fun e w' => e = .returned (.bool false) ∧ KSt L bs ow j s w' ∧ Kept (OwnP ow) w w') := hlv
   have HST : Hid (∀ W, KSt L bs ow j s W → Calls Tryz.prog 22 #[.pointer (some ⟨L.p, 0, none⟩), .int .i64 (1 + (q : Int))] W fun e w' => e = .returned (.tuple #[.int .i64 0, .int .i64 6]) ∧ KAft L bs ow (j + 1) W (s.stepN (1 + q)) w') := hst
   clear hlv hst hz hz'
   go_enter Tryz.func30, Tryz.ntmps30
   go_wp2_with fail
   refine (HP.out w).mono ?_
   rintro e w1 ⟨rfl, rfl⟩
   go_wp2_with fail
   refine HLV.out.mono ?_
   rintro e w2 ⟨rfl, h2, hk2⟩
   have c0' := hk2.cell c0 HNW.out
   have HS2 : Hid (Calls Tryz.prog 22 #[.pointer (some ⟨L.p, 0, none⟩), .int .i64 (1 + (q : Int))] w2 fun e w' => e = .returned (.tuple #[.int .i64 0, .int .i64 6]) ∧ KAft L bs ow (j + 1) w2 (s.stepN (1 + q)) w') := HST.out w2 h2
   have HK2 : Hid (Kept (OwnP ow) w1 w2) := hk2
   clear h2 hk2 c0 c11
   go_wp2_with fail
   refine HS2.out.mono ?_
   rintro e w3 ⟨rfl, ⟨ow', h3, ha3⟩, hk3⟩
   have H3 : Hid (KAft L bs ow (j + 1) w1 (s.stepN (1 + q)) w3) := ⟨⟨ow', h3, fun k hk => ha3 k (Nat.lt_of_lt_of_le hk HK2.out.size)⟩, HK2.out.trans' hk3⟩
   clear h3 ha3 hk3
   go_wp2_with fail
   go_ret
   rw [HSR.out]
   exact ⟨rfl, H3.out⟩
set_option maxRecDepth 20000 in
set_option maxHeartbeats 1600000 in
theorem eldest_any {L : Lay} {bs : Nat → Nat} {ow : Ow} {j : Nat} {s : St} {w : World} (h : KSt L bs ow j s w) (wb : Nat) (hw : KW w wb L s.n) (hn : ¬ OwnP ow wb) :
  Calls Tryz.prog 33 #[.pointer (some ⟨wb, 0, none⟩)] w fun e w' => ∃ r : Nat, e = .returned (.int .i64 (r : Int)) ∧ ((r = 0 ∧ ∀ i, 1 ≤ i → i ≤ s.n → (s.tx i).state ≠ 0) ∨ (Eld s r ∧ (s.tx r).state = 0)) ∧ KSt L bs ow j s w' ∧ Kept (OwnP ow) w w' := by
 have HW : Hid (KW w wb L s.n) := hw
 have HNW : Hid (¬ OwnP ow wb) := hn
 have H0 : Hid (KSt L bs ow j s w) := h
 have h5 := h.n5
 clear h hn hw
 go_enter Tryz.func33, Tryz.ntmps33
 go_wp2_with fail
 go_loopw [3] (fun i wr => ∃ k : Nat, 1 ≤ k ∧ k ≤ s.n + 1 ∧ i = .int .i64 k ∧ (∀ q, 1 ≤ q → q < k → (s.tx q).state ≠ 0) ∧ KSt L bs ow j s wr ∧ Kept (OwnP ow) w wr) (fun i _ => s.n + 1 - (intOf i).toNat)
 case atStart => exact ⟨1, by omega, by omega, rfl, fun q h1 h2 => by omega, H0.out, Kept.refl _ _⟩
 case round =>
  obtain ⟨k, hk1, hk2, rfl, hq, hst, hkw⟩ := hrel
  have HWR : Hid (KW wr wb L s.n) := HW.out.kept hkw HNW.out
  obtain ⟨cs, ao, c, w1, w2, w3⟩ := HWR.out
  have c11 : wr.cell? ⟨wb, 11, none⟩ = some (.slice ao s.n c) := by rw [cell_at w1]; exact w3
  have HQ : Hid (∀ q, 1 ≤ q → q < k → (s.tx q).state ≠ 0) := hq
  have HS : Hid (KSt L bs ow j s wr ∧ Kept (OwnP ow) w wr) := ⟨hst, hkw⟩
  clear w1 w2 w3 hq hkw
  by_cases hlt : k ≤ s.n
  ·have HLV : Hid (Calls Tryz.prog 69 #[.pointer (some ⟨wb, 0, none⟩), .int .i64 (k : Int)] wr fun e w' => e = .returned (.bool ((s.tx k).state == 0)) ∧ KSt L bs ow j s w' ∧ Kept (OwnP ow) wr w') := lives_any hst wb s.n HWR.out HNW.out k ⟨hk1, hlt⟩
   clear hst
   generalize hsn : s.n = sn at *
   have HSN : Hid (s.n = sn) := hsn
   clear hsn
   go_wp2_with fail
   refine HLV.out.mono ?_
   rintro e w2 ⟨rfl, h2, hk2⟩
   have H2 : Hid (KSt L bs ow j s w2 ∧ Kept (OwnP ow) w w2) := ⟨h2, HS.out.2.trans' hk2⟩
   clear h2 hk2
   by_cases hz : (s.tx k).state = 0
   ·rw [hz]
    have HZ : Hid ((s.tx k).state = 0) := hz
    clear hz
    go_wp2_with fail
    go_ret
    exact ⟨k, rfl, .inr ⟨⟨hk1, by rw [HSN.out]; exact hlt, fun q h1 h2 => HQ.out q h1 h2⟩, HZ.out⟩, H2.out⟩
   ·have hz' : ((s.tx k).state == 0) = false := by rw [beq_eq_false_iff_ne]; exact hz
    rw [hz']
    have HZ : Hid (¬ (s.tx k).state = 0) := hz
    clear hz hz'
    go_wp2_with fail
    go_roundw
    case rel =>
     refine ⟨k + 1, by omega, by omega, by go_num, fun q h1 h2 => ?_, H2.out⟩
     by_cases e : q = k
     ·rw [e]; exact HZ.out
     ·exact HQ.out q h1 (by omega)
    case measure => simp [intOf]; omega
  ·clear hst
   generalize hsn : s.n = sn at *
   have HSN : Hid (s.n = sn) := hsn
   clear hsn
   go_wp2_with fail
   go_ret
   exact ⟨0, rfl, .inl ⟨rfl, fun q h1 h2 => HQ.out q h1 (by have := HSN.out; omega)⟩, HS.out⟩
end Go.Proofs.YtmcajfefagdbnaaGreat
namespace Go.Proofs.YtmcajfefagdbnaaGreat
open Go Go.RowKit
theorem good_born (f : Int → Option Int) : Good (St.born f) := by
 refine ⟨⟨fun k => ?_, fun k => ?_, fun k j h => absurd rfl h, fun k j m h => (by cases h), fun k j m h => (by cases h), fun j k h => (by cases h), fun i j h1 h2 h3 => ?_, fun j h1 h2 => ?_, fun j _ => rfl, List.nodup_nil, fun k => ?_⟩, fun j => Nat.le_refl _⟩
 ·refine ⟨fun j h => absurd rfl h, fun j => .inl rfl, fun x h => (by cases h), List.nodup_nil, fun i j _ h => absurd rfl h, fun l1 i m l2 h => ?_, fun x h => (by cases h)⟩
  have := congrArg List.length h
  simp [St.born] at this
 ·intro i m q h; cases h
 ·have : j ≤ 0 := h3
  omega
 ·have : j ≤ 0 := h2
  omega
 ·constructor
  ·intro h; cases h
  ·intro h
   rw [live_iff] at h
   rcases h with h | ⟨j, _, h⟩
   ·exact absurd rfl h
   ·exact absurd rfl h
theorem kNew (v : Value) (l : List Row2) (w : World) (hv : RowsSrc w v l) (hl : l.length ≤ 10) (hw : RowsIn l) (hr : Rise l) (h9 : ∀ r ∈ l, K9 r.k) :
  Calls Tryz.prog 39 #[v] w fun e w' => ∃ L ow, e = .returned (.tuple #[.pointer (some ⟨L.p, 0, none⟩), .int .i64 0]) ∧ (∀ bs, KSt L bs ow 0 (St.born (rowsF l)) w') ∧ (∀ k, OwnP ow k → w.heap.size ≤ k) ∧ Kept NoBlk w w' := by
 obtain ⟨ao, c, rfl, hv⟩ := hv
 refine (pNew_any ao c l.length l w rfl (by omega) hv hw).mono ?_
 rintro e w' ⟨hk, ⟨h1, _⟩ | ⟨_, L, ow, rfl, h1, h0, h2⟩⟩
 ·exact absurd hr h1
 ·refine ⟨L, ow, rfl, fun bs => ⟨⟨L.q0, by omega, (h2 bs).mono (by omega)⟩, good_born _, Nat.zero_le _, Nat.zero_le _, fun i => ⟨Int.le_refl _, Int.le_refl _⟩, Nat.le_refl _, rfl, ⟨fun k hk => ?_, fun j o ho => (by cases ho), fun j b hb => (by cases hb)⟩⟩, h1, hk⟩
  obtain ⟨r, g1, g2⟩ := rowsF_mem l k hk
  rw [← g2]
  exact h9 r g1
theorem RowAt.ops {w : World} {x : Value} {l : List Op4} (h : RowAt w 114 4 x l.length (opCells l)) : OpsSrc w x l := by
 rcases h.2 with ⟨rfl, h0⟩ | ⟨g, off, cap, cur, rfl, _⟩
 ·exact ⟨none, 0, by rw [h0], fun hp => by omega⟩
 ·refine ⟨_, cap, rfl, fun _ => ⟨g, off, rfl, fun i hi => ?_⟩⟩
  obtain ⟨o0, o1, o2, o3⟩ := opCells_at l i hi
  have e0 := h.cell _ o0
  have e1 := h.cell _ o1
  have e2 := h.cell _ o2
  have e3 := h.cell _ o3
  exact ⟨e0, by rw [Nat.add_assoc]; exact e1, by rw [Nat.add_assoc]; exact e2, by rw [Nat.add_assoc]; exact e3⟩
def Fr (H : Nat) (ow : Ow) : Prop := ∀ k, OwnP ow k → H ≤ k
theorem Fr.agree {H : Nat} {w : World} {ow ow' : Ow} (h : Fr H ow) (ha : AgreeP w ow ow') (hs : H ≤ w.heap.size) : Fr H ow' := fun k hk => by
 by_cases e : k < w.heap.size
 ·refine h k ?_
  unfold OwnP at hk ⊢
  rw [← ha k e]; exact hk
 ·omega
theorem Fr.kept {H : Nat} {S : Nat → Prop} {w w1 w2 : World} {ow : Ow} (h : Fr H ow) (hw : w.heap.size ≤ H) (h1 : Kept S w w1) (h2 : Kept (OwnP ow) w1 w2) : Kept S w w2 := h1.trans h2 (fun k hk => .inr (by have := h k hk; omega))
theorem not_own {w : World} {ow ow' : Ow} {k : Nat} (h : ¬ OwnP ow k) (ha : AgreeP w ow ow') (hk : k < w.heap.size) : ¬ OwnP ow' k := by
 unfold OwnP at h ⊢
 rw [ha k hk]; exact h
def kn10 (l : List Int) : Array Value := #[.int .i64 (l.getD 0 0), .int .i64 (l.getD 1 0), .int .i64 (l.getD 2 0), .int .i64 (l.getD 3 0), .int .i64 (l.getD 4 0), .int .i64 (l.getD 5 0), .int .i64 (l.getD 6 0), .int .i64 (l.getD 7 0), .int .i64 (l.getD 8 0), .int .i64 (l.getD 9 0)]
theorem kn10_at (l : List Int) : ∀ k, k < 10 → (kn10 l)[k]? = some (.int .i64 (l.getD k 0))
 | 0, _ => rfl
 | 1, _ => rfl
 | 2, _ => rfl
 | 3, _ => rfl
 | 4, _ => rfl
 | 5, _ => rfl
 | 6, _ => rfl
 | 7, _ => rfl
 | 8, _ => rfl
 | 9, _ => rfl
 | _ + 10, h => absurd h (by omega)
theorem knOps_k9 : (∀ o ∈ knOps1, 0 < modeOf o → K9 o.a) ∧ ∀ o ∈ knOps2, 0 < modeOf o → K9 o.a := by
 refine ⟨fun o ho _ => ?_, fun o ho _ => ?_⟩
 ·simp only [knOps1, List.mem_cons, List.not_mem_nil, or_false] at ho
  rcases ho with rfl | rfl <;> exact ⟨by decide, by decide⟩
 ·simp only [knOps2, List.mem_cons, List.not_mem_nil, or_false] at ho
  subst ho
  exact ⟨by decide, by decide⟩
theorem knOps_wf : (∀ o ∈ knOps1, OpWf o) ∧ ∀ o ∈ knOps2, OpWf o := by
 have h : ∀ a : Int, (a = 7 ∨ a = 8) → OpWf ⟨2, a, 0, 0⟩ := by
  intro a ha
  refine ⟨⟨?_, ?_⟩, ⟨by simp, by simp⟩, ⟨by simp, by simp⟩, by rfl⟩ <;> simp only <;> omega
 constructor
 ·intro o ho
  simp [knOps1] at ho
  rcases ho with rfl | rfl
  ·exact h 7 (.inl rfl)
  ·exact h 8 (.inr rfl)
 ·intro o ho
  simp [knOps2] at ho
  subst ho
  exact h 8 (.inr rfl)
set_option maxRecDepth 20000 in
set_option maxHeartbeats 3200000 in
theorem known_any (w : World) :
  Calls Tryz.prog 56 #[] w fun e w' => e = .returned (.bool true) ∧ Kept NoBlk w w' := by
 have hnew := kNew (.slice none 0 0) [] w ⟨none, 0, rfl, fun h => by simp at h⟩ (by simp) (fun r h => by cases h) (by intro i hi; simp at hi) (fun r h => by cases h)
 have HN : Hid (Calls Tryz.prog 39 #[.slice none 0 0] w fun e w' => ∃ L ow, e = .returned (.tuple #[.pointer (some ⟨L.p, 0, none⟩), .int .i64 0]) ∧ (∀ bs, KSt L bs ow 0 (St.born (rowsF [])) w') ∧ (∀ k, OwnP ow k → w.heap.size ≤ k) ∧ Kept NoBlk w w') := hnew
 clear hnew
 go_enter Tryz.func56, Tryz.ntmps56
 go_wp2_with fail
 refine HN.out.mono ?_
 rintro e w1 ⟨L, ow, rfl, h1, h2, hk1⟩
 have H1 : Hid (∀ bs, KSt L bs ow 0 (St.born (rowsF [])) w1) := h1
 have H2 : Hid ((∀ k, OwnP ow k → w.heap.size ≤ k) ∧ Kept NoBlk w w1) := ⟨h2, hk1⟩
 clear h1 h2 hk1
 go_wp2_with fail
 have HA1 : Hid (Calls Tryz.prog 36 #[.pointer (some ⟨L.p, 0, none⟩), .slice (some ⟨w1.heap.size, 0, none⟩) 2 2] (w1.alloc (.cells #[.int .i64 2, .int .i64 7, .int .i64 0, .int .i64 0, .int .i64 2, .int .i64 8, .int .i64 0, .int .i64 0] 114)) fun e w' => e = .returned (.tuple #[.int .i64 1, .int .i64 0]) ∧ (∃ t, KAft L (upd (fun _ => 0) 1 t) ow 0 (w1.alloc (.cells #[.int .i64 2, .int .i64 7, .int .i64 0, .int .i64 0, .int .i64 2, .int .i64 8, .int .i64 0, .int .i64 0] 114)) ((St.born (rowsF [])).admit knOps1) w')) := by
  have hk : Kept NoBlk w1 (w1.alloc (.cells #[.int .i64 2, .int .i64 7, .int .i64 0, .int .i64 0, .int .i64 2, .int .i64 8, .int .i64 0, .int .i64 0] 114)) := (Kept.refl _ _).alloc _
  have hrow : RowAt (w1.alloc (.cells #[.int .i64 2, .int .i64 7, .int .i64 0, .int .i64 0, .int .i64 2, .int .i64 8, .int .i64 0, .int .i64 0] 114)) 114 4 (.slice (some ⟨w1.heap.size, 0, none⟩) 2 2) knOps1.length (opCells knOps1) := RowAt.full (block_alloc_new w1 _) rfl (by unfold maxLen; omega)
  exact kAdmit ((H1.out (fun _ => 0)).kept hk (fun _ _ x => x)) _ knOps1 hrow.ops (fun k e => by
   obtain rfl : w1.heap.size = k := by simpa [Value.ownBlock] using e
   intro ho
   have := (H1.out (fun _ => 0)).st.lt _ ho
   omega) knOps_wf.1 (by simp [knOps1]) (by show 0 < 5; omega) knOps_k9.1
 refine HA1.out.mono ?_
 rintro e w2 ⟨rfl, t1, ⟨ow2, h2, ha2⟩, hk2⟩
 have HF2 : Hid (Fr w.heap.size ow2 ∧ Kept NoBlk w w2) := by
  have hsz : w.heap.size ≤ (w1.alloc (.cells #[.int .i64 2, .int .i64 7, .int .i64 0, .int .i64 0, .int .i64 2, .int .i64 8, .int .i64 0, .int .i64 0] 114)).heap.size := (H2.out.2.alloc _).size
  exact ⟨Fr.agree (H2.out.1 : Fr w.heap.size ow) ha2 hsz, Fr.kept (H2.out.1 : Fr w.heap.size ow) (Nat.le_refl _) (H2.out.2.alloc _) hk2⟩
 have H3 : Hid (KSt L (upd (fun _ => 0) 1 t1) ow2 0 ((St.born (rowsF [])).admit knOps1) w2) := h2
 clear h2 ha2 hk2 HA1 H1 H2
 go_wp2_with fail
 have HA2 : Hid (Calls Tryz.prog 36 #[.pointer (some ⟨L.p, 0, none⟩), .slice (some ⟨w2.heap.size, 0, none⟩) 1 1] (w2.alloc (.cells #[.int .i64 2, .int .i64 8, .int .i64 0, .int .i64 0] 114)) fun e w' => e = .returned (.tuple #[.int .i64 2, .int .i64 0]) ∧ (∃ t, KAft L (upd (upd (fun _ => 0) 1 t1) 2 t) ow2 0 (w2.alloc (.cells #[.int .i64 2, .int .i64 8, .int .i64 0, .int .i64 0] 114)) (knS 0) w')) := by
  have hk : Kept NoBlk w2 (w2.alloc (.cells #[.int .i64 2, .int .i64 8, .int .i64 0, .int .i64 0] 114)) := (Kept.refl _ _).alloc _
  have hrow : RowAt (w2.alloc (.cells #[.int .i64 2, .int .i64 8, .int .i64 0, .int .i64 0] 114)) 114 4 (.slice (some ⟨w2.heap.size, 0, none⟩) 1 1) knOps2.length (opCells knOps2) := RowAt.full (block_alloc_new w2 _) rfl (by unfold maxLen; omega)
  exact kAdmit (H3.out.kept hk (fun _ _ x => x)) _ knOps2 hrow.ops (fun k e => by
   obtain rfl : w2.heap.size = k := by simpa [Value.ownBlock] using e
   intro ho
   have := H3.out.st.lt _ ho
   omega) knOps_wf.2 (by simp [knOps2]) (by show 1 < 5; omega) knOps_k9.2
 refine HA2.out.mono ?_
 rintro e w3 ⟨rfl, t2, ⟨ow3, h3, ha3⟩, hk3⟩
 have HF3 : Hid (Fr w.heap.size ow3 ∧ Kept NoBlk w w3) := by
  have hsz : w.heap.size ≤ (w2.alloc (.cells #[.int .i64 2, .int .i64 8, .int .i64 0, .int .i64 0] 114)).heap.size := (HF2.out.2.alloc _).size
  exact ⟨Fr.agree HF2.out.1 ha3 hsz, Fr.kept HF2.out.1 (Nat.le_refl _) (HF2.out.2.alloc _) hk3⟩
 have H4 : Hid (KSt L (upd (upd (fun _ => 0) 1 t1) 2 t2) ow3 0 (knS 0) w3) := h3
 clear h3 ha3 hk3 HA2 H3 HF2
 generalize upd (upd (fun _ => 0) 1 t1) 2 t2 = bs at *
 go_wp2_with fail
 have hkw : Kept NoBlk w3 ((w3.alloc (.cells (kn10 knWho) 3)).alloc (.cells (kn10 knWhat) 3)) := ((Kept.refl _ _).alloc _).alloc _
 have HB : Hid (((w3.alloc (.cells (kn10 knWho) 3)).alloc (.cells (kn10 knWhat) 3)).heap[w3.heap.size]? = some (.cells (kn10 knWho) 3 (0, 0)) ∧ ((w3.alloc (.cells (kn10 knWho) 3)).alloc (.cells (kn10 knWhat) 3)).heap[w3.heap.size + 1]? = some (.cells (kn10 knWhat) 3 (0, 0)) ∧ KSt L bs ow3 0 (knS 0) ((w3.alloc (.cells (kn10 knWho) 3)).alloc (.cells (kn10 knWhat) 3)) ∧ Fr w.heap.size ow3 ∧ ¬ OwnP ow3 w3.heap.size ∧ ¬ OwnP ow3 (w3.heap.size + 1) ∧ Kept NoBlk w ((w3.alloc (.cells (kn10 knWho) 3)).alloc (.cells (kn10 knWhat) 3))) := by
  refine ⟨block_alloc_old _ (block_alloc_new w3 _), block_new2 w3 _ _, H4.out.kept hkw (fun _ _ x => x), HF3.out.1, fun x => ?_, fun x => ?_, HF3.out.2.trans' hkw⟩
  ·have := H4.out.st.lt _ x; omega
  ·have := H4.out.st.lt _ x; omega
 clear hkw H4 HF3
 generalize w3.heap.size = B at *
 go_loopw [9] (fun i wr => ∃ (k : Nat) (ow : Ow), k ≤ 10 ∧ i = .int .i64 k ∧ wr.heap[B]? = some (.cells (kn10 knWho) 3 (0, 0)) ∧ wr.heap[B + 1]? = some (.cells (kn10 knWhat) 3 (0, 0)) ∧ KSt L bs ow k (knS k) wr ∧ Fr w.heap.size ow ∧ ¬ OwnP ow B ∧ ¬ OwnP ow (B + 1) ∧ Kept NoBlk w wr) (fun i _ => 10 - (intOf i).toNat)
 case atStart => exact ⟨0, ow3, by omega, rfl, HB.out⟩
 case round =>
  clear HB
  obtain ⟨k, ow4, hk, rfl, b1, b2, h4, hf, n1, n2, hkw⟩ := hrel
  by_cases hlt : k < 10
  ·have g1 : wr.cell? ⟨B, k, none⟩ = some (.int .i64 (knWho.getD k 0)) := by rw [cell_at b1]; exact kn10_at _ k hlt
   have hst := kStep h4 (knWho.getD k 0) (by omega)
   rw [kn_ans k hlt] at hst
   have HST : Hid (Calls Tryz.prog 22 #[.pointer (some ⟨L.p, 0, none⟩), .int .i64 (knWho.getD k 0)] wr fun e w' => e = .returned (.tuple #[.int .i64 (knWhat.getD k 0), .int .i64 0]) ∧ KAft L bs ow4 (k + 1) wr (knS (k + 1)) w') := hst
   have HR : Hid (wr.heap[B]? = some (.cells (kn10 knWho) 3 (0, 0)) ∧ wr.heap[B + 1]? = some (.cells (kn10 knWhat) 3 (0, 0)) ∧ Fr w.heap.size ow4 ∧ ¬ OwnP ow4 B ∧ ¬ OwnP ow4 (B + 1) ∧ Kept NoBlk w wr) := ⟨b1, b2, hf, n1, n2, hkw⟩
   have j0 : (0 : Int) ≤ (k : Int) := by omega
   have j1 : (k : Int) < 10 := by omega
   clear hst b1 b2 h4 hf n1 n2 hkw
   generalize hid : knWho.getD k 0 = idk at *
   generalize han : knWhat.getD k 0 = ank at *
   go_wp2_with fail
   refine HST.out.mono ?_
   rintro e w4 ⟨rfl, ⟨ow5, h5, ha5⟩, hk5⟩
   have g2 : w4.cell? ⟨B + 1, k, none⟩ = some (.int .i64 ank) := by rw [cell_at (hk5.heap HR.out.2.1 HR.out.2.2.2.2.1), ← han]; exact kn10_at _ k hlt
   have H5 : Hid (w4.heap[B]? = some (.cells (kn10 knWho) 3 (0, 0)) ∧ w4.heap[B + 1]? = some (.cells (kn10 knWhat) 3 (0, 0)) ∧ KSt L bs ow5 (k + 1) (knS (k + 1)) w4 ∧ Fr w.heap.size ow5 ∧ ¬ OwnP ow5 B ∧ ¬ OwnP ow5 (B + 1) ∧ Kept NoBlk w w4) := by
    obtain ⟨r1, r2, r3, r4, r5, r6⟩ := HR.out
    exact ⟨hk5.heap r1 r4, hk5.heap r2 r5, h5, r3.agree ha5 r6.size, not_own r4 ha5 (lt_of_block r1), not_own r5 ha5 (lt_of_block r2), r3.kept (Nat.le_refl _) r6 hk5⟩
   clear h5 ha5 hk5 g1
   go_wp2_with fail
   go_roundw
   case rel => exact ⟨k + 1, ow5, by omega, by go_num, H5.out⟩
   case measure => simp [intOf]; omega
  ·go_wp2_with fail
   go_ret
   exact ⟨rfl, hkw⟩
end Go.Proofs.YtmcajfefagdbnaaGreat
