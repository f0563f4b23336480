import Derived.Test.YtmcajfefagdbnaaGreatJ45
import Derived.Test.YtmcajfefagdbnaaGreatJ46
import Derived.Test.YtmcajfefagdbnaaGreatJ14
import Derived.Deep.RegionHeld3
import Derived.Deep.DrawnRows
import Derived.WalkSpells
namespace Go.Proofs.YtmcajfefagdbnaaGreat
open Go Go.RowKit
theorem HAft.mono {ow : OwB} {q N0 j j' : Nat} {w w' : World} {s' : St} (h : HAft ow q N0 j w s' w') (hj : j ≤ j') : HAft ow q N0 j' w s' w' := by
 obtain ⟨⟨ow', cl', h1, h2⟩, h3⟩ := h
 exact ⟨⟨ow', cl', h1.mono hj, h2⟩, h3⟩
theorem hGo {ow : OwB} {q N0 j : Nat} {s : St} {cl : List Cl} {w : World} (h : HSt ow q N0 j s cl w) (hG : Good s) {i : Nat} (hi : i < s.n) (hz : (s.tx (i + 1)).state = 0) (hn : s.n ≤ 1048576) (h12 : (s.tx (i + 1)).ops.length ≤ 12) (hops : ∀ o ∈ (s.tx (i + 1)).ops, OpWf o) (hun : (s.tx (i + 1)).undo.length ≤ 12) (hrd : (s.tx (i + 1)).reads.length ≤ 12)
  (hag : 0 ≤ (s.tx (i + 1)).agains ∧ (s.tx (i + 1)).agains ≤ 4194304) (hwl : s.wins.length ≤ 4194304) (hj : j ≤ 2097152) (hN : N0 ≤ 1048576) :
  Calls Tryz.prog 44 #[.pointer (some ⟨q, 0, none⟩), .int .i64 ((i : Int) + 1)] w fun e w' => e = .returned (.tuple #[.int .i64 (s.go (i + 1)).2, .int .i64 0]) ∧ HAft ow q N0 (j + 2) w (s.go (i + 1)).1 w' := by
 have hI := hG.inv
 by_cases hw : (s.tx (i + 1)).wounded = true
 ·rw [go_again hw]
  refine (hStep_again h hI hi hz hn hw hun (by omega) (by omega) hag).mono ?_
  rintro e w' ⟨rfl, h1⟩
  exact ⟨rfl, h1.mono (by omega)⟩
 have hw' : (s.tx (i + 1)).wounded = false := by simpa using hw
 by_cases hwt : (s.tx (i + 1)).waits.isSome = true
 ·rw [go_waits hw' hwt]
  refine (hStep_waits h hi hz hn hw' hwt).mono ?_
  rintro e w' ⟨rfl, h1⟩
  exact ⟨rfl, ⟨ow, cl, (h.kept0 h1).mono (by omega), fun _ _ => rfl⟩, h1.mono (fun _ x => x.elim)⟩
 have hwt' : (s.tx (i + 1)).waits = none := by
  cases e : (s.tx (i + 1)).waits with
  | none => rfl
  | some k => rw [e] at hwt; simp at hwt
 by_cases hnx : (s.tx (i + 1)).next = (s.tx (i + 1)).ops.length
 ·rw [go_commit hw' hwt' hnx]
  refine (hStep_commit h hI hi hz hn hw' hwt' hnx (by omega) hwl).mono ?_
  rintro e w' ⟨rfl, h1⟩
  exact ⟨rfl, h1.mono (by omega)⟩
 have hnx' : (s.tx (i + 1)).next < (s.tx (i + 1)).ops.length := by have := hG.fits (i + 1); omega
 rw [go_op hw' hwt' hnx']
 have hok : (s.tx (i + 1)).op.ok = true := (hops _ (op_mem hnx')).2.2.2
 have hmn := mode_nonneg (s.tx (i + 1)).op
 by_cases hm : 0 < modeOf (s.tx (i + 1)).op ∧ (s.lk (s.tx (i + 1)).op.a).h (i + 1) < modeOf (s.tx (i + 1)).op
 ·rw [if_pos hm]
  have hk5 : (s.tx (i + 1)).op.k ≠ 5 := modeOf_stop hm.1
  by_cases hcr : s.crowded (s.tx (i + 1)).op.a = true
  ·rw [if_pos hcr]
   exact hStep_crowd h hI hi hz hn hw' hwt' hnx' h12 hj hN hm.2 hm.1 hcr hun
  ·have hcr' : s.crowded (s.tx (i + 1)).op.a = false := by simpa using hcr
   rw [if_neg hcr]
   by_cases hq : ((s.lk (s.tx (i + 1)).op.a).q.isEmpty && !hind s.n (s.lk (s.tx (i + 1)).op.a).h (i + 1) (modeOf (s.tx (i + 1)).op)) = true
   ·rw [if_pos hq]
    have hq2 := hq
    rw [Bool.and_eq_true, Bool.not_eq_true'] at hq2
    have e1 : (s.grant (i + 1) (s.tx (i + 1)).op.a (modeOf (s.tx (i + 1)).op)).actOn (i + 1) (s.tx (i + 1)).op = ((s.grant (i + 1) (s.tx (i + 1)).op.a (modeOf (s.tx (i + 1)).op)).doOp (i + 1) (s.tx (i + 1)).op, 1) := by
     unfold St.actOn
     rw [if_neg (fun x => hk5 x.1)]
    rw [e1]
    exact hStep_actC h hI hi hz hn hw' hwt' hnx' h12 hj hN hm.2 hm.1 hcr' hq2.1 hq2.2 hok ⟨hun, hrd⟩
   ·rw [if_neg hq]
    exact hStep_enq h hI hi hz hn hw' hwt' hnx' h12 hj hm.2 hm.1 hcr' (by simpa using hq)
 ·rw [if_neg hm]
  have hh0 : 0 ≤ (s.lk (s.tx (i + 1)).op.a).h (i + 1) := by rcases (hI.row (s.tx (i + 1)).op.a).mode (i + 1) with h | h | h <;> omega
  have hm' : ¬ (s.lk (s.tx (i + 1)).op.a).h (i + 1) < modeOf (s.tx (i + 1)).op := fun x => hm ⟨by omega, x⟩
  by_cases hk5 : (s.tx (i + 1)).op.k = 5
  ·by_cases hrg : (s.tx (i + 1)).regs (s.tx (i + 1)).op.a = 0
   ·have e1 : s.actOn (i + 1) (s.tx (i + 1)).op = (s.fell (i + 1) 2, 4) := by unfold St.actOn; rw [if_pos ⟨hk5, hrg⟩]
    rw [e1]
    exact hStep_stop h hI hi hz hn hw' hwt' hnx' h12 hj hN hm' hok ⟨hun, hrd⟩ hk5 hrg
   ·have e1 : s.actOn (i + 1) (s.tx (i + 1)).op = (s.doOp (i + 1) (s.tx (i + 1)).op, 1) := by unfold St.actOn; rw [if_neg (fun x => hrg x.2)]
    rw [e1]
    exact hStep_goes h hi hz hn hw' hwt' hnx' h12 hj hN hm' hok ⟨hun, hrd⟩ hk5 hrg
  ·have e1 : s.actOn (i + 1) (s.tx (i + 1)).op = (s.doOp (i + 1) (s.tx (i + 1)).op, 1) := by unfold St.actOn; rw [if_neg (fun x => hk5 x.1)]
   rw [e1]
   exact hStep_actA h hi hz hn hw' hwt' hnx' h12 hj hN hm' hok ⟨hun, hrd⟩ hk5
theorem hStep {ow : OwB} {q N0 j : Nat} {s : St} {cl : List Cl} {w : World} (h : HSt ow q N0 j s cl w) (hG : Good s) (id : Int) (hun : ∀ i, Lives s i → (s.tx i).undo.length ≤ 12 ∧ (s.tx i).ops.length ≤ 12 ∧ ∀ o ∈ (s.tx i).ops, OpWf o) (hrd : ∀ i, 1 ≤ i → i ≤ s.n → (s.tx i).reads.length ≤ 12)
  (hag : ∀ i, 0 ≤ (s.tx i).agains ∧ (s.tx i).agains ≤ 4194304) (hwl : s.wins.length ≤ 4194304) (hn : s.n ≤ 1048576) (hj : j ≤ 2097152) (hN : N0 ≤ 1048576) :
  Calls Tryz.prog 44 #[.pointer (some ⟨q, 0, none⟩), .int .i64 id] w fun e w' => e = .returned (.tuple #[.int .i64 (s.step id).2.1, .int .i64 (s.step id).2.2]) ∧ HAft ow q N0 (j + 2) w (s.step id).1 w' := by
 by_cases hz : s.there id = 0
 ·have hid := there_zero hz
  obtain ⟨i, rfl⟩ : ∃ i : Nat, id = (i : Int) + 1 := ⟨(id - 1).toNat, by omega⟩
  have ei : ((i : Int) + 1).toNat = i + 1 := by omega
  rw [ei] at hid
  have hl : Lives s (i + 1) := ⟨by omega, by omega, hid.2.2⟩
  have e1 : s.step ((i : Int) + 1) = ((s.go (i + 1)).1, (s.go (i + 1)).2, 0) := by unfold St.step; rw [if_neg (by simp [hz]), ei]
  rw [e1]
  obtain ⟨k1, k2, k3⟩ := hun _ hl
  exact hGo h hG (by omega) hid.2.2 hn k2 k3 k1 (hrd _ (by omega) (by omega)) (hag _) hwl hj hN
 ·have e1 : s.step id = (s, 0, s.there id) := by unfold St.step; rw [if_pos hz]
  rw [e1]
  refine (wstep_no q id (s.there id) w hz (hThere h id hn)).mono ?_
  rintro e w' ⟨rfl, hk⟩
  exact ⟨rfl, ⟨ow, cl, (h.kept0 hk).mono (by omega), fun _ _ => rfl⟩, hk.mono (fun _ x => x.elim)⟩
end Go.Proofs.YtmcajfefagdbnaaGreat
namespace Go.Proofs.YtmcajfefagdbnaaGreat
open Go Go.RowKit
def PI (S : Nat → Prop) (p N0 j : Nat) (s : St) (w : World) : Prop := ∃ (L : Lay) (bs : Nat → Nat) (ow : Ow), L.p = p ∧ (∀ k, S k ↔ OwnP ow k) ∧ GSt L bs ow N0 j s w
def WI (S : Nat → Prop) (q N0 j : Nat) (s : St) (cl : List Cl) (w : World) : Prop := ∃ ow : OwB, (∀ k, S k ↔ Own ow k) ∧ HSt ow q N0 (2 * j) s cl w
theorem PI.lt {S : Nat → Prop} {p N0 j : Nat} {s : St} {w : World} (h : PI S p N0 j s w) (k : Nat) (hk : S k) : k < w.heap.size := by
 obtain ⟨L, bs, ow, _, h2, h3⟩ := h
 exact h3.st.lt k ((h2 k).1 hk)
theorem WI.lt {S : Nat → Prop} {q N0 j : Nat} {s : St} {cl : List Cl} {w : World} (h : WI S q N0 j s cl w) (k : Nat) (hk : S k) : k < w.heap.size := by
 obtain ⟨ow, h2, h3⟩ := h
 obtain ⟨rl, h4, _⟩ := h3.ex
 exact h4.lt k ((h2 k).1 hk)
theorem PI.kept {S S' : Nat → Prop} {p N0 j : Nat} {s : St} {w w' : World} (h : PI S p N0 j s w) (hk : Kept S' w w') (hd : ∀ k, S k → ¬ S' k) : PI S p N0 j s w' := by
 obtain ⟨L, bs, ow, h1, h2, h3⟩ := h
 exact ⟨L, bs, ow, h1, h2, h3.kept hk (fun k hk => hd k ((h2 k).2 hk))⟩
theorem WI.kept {S S' : Nat → Prop} {q N0 j : Nat} {s : St} {cl : List Cl} {w w' : World} (h : WI S q N0 j s cl w) (hk : Kept S' w w') (hd : ∀ k, S k → ¬ S' k) : WI S q N0 j s cl w' := by
 obtain ⟨ow, h2, h3⟩ := h
 exact ⟨ow, h2, h3.kept hk (fun k hk => hd k ((h2 k).2 hk))⟩
theorem PI.mono {S : Nat → Prop} {p N0 j j' : Nat} {s : St} {w : World} (h : PI S p N0 j s w) (hj : j ≤ j') : PI S p N0 j' s w := by
 obtain ⟨L, bs, ow, h1, h2, h3⟩ := h
 exact ⟨L, bs, ow, h1, h2, h3.mono hj⟩
theorem WI.mono {S : Nat → Prop} {q N0 j j' : Nat} {s : St} {cl : List Cl} {w : World} (h : WI S q N0 j s cl w) (hj : j ≤ j') : WI S q N0 j' s cl w := by
 obtain ⟨ow, h2, h3⟩ := h
 exact ⟨ow, h2, h3.mono (by omega)⟩
def PAft (S : Nat → Prop) (p N0 j : Nat) (w : World) (s' : St) (w' : World) : Prop := Kept S w w' ∧ ∃ S', PI S' p N0 j s' w' ∧ ∀ k, S' k → S k ∨ w.heap.size ≤ k
def WAft (S : Nat → Prop) (q N0 j : Nat) (w : World) (s' : St) (w' : World) : Prop := Kept S w w' ∧ ∃ S' cl', WI S' q N0 j s' cl' w' ∧ ∀ k, S' k → S k ∨ w.heap.size ≤ k
theorem GAft.pi {L : Lay} {ow : Ow} {N0 j : Nat} {w w' : World} {s' : St} (h : GAft L ow N0 j w s' w') {S : Nat → Prop} (hS : ∀ k, S k ↔ OwnP ow k) : PAft S L.p N0 j w s' w' := by
 obtain ⟨⟨bs', ow', h1, h2⟩, h3⟩ := h
 refine ⟨h3.mono (fun k x => (hS k).2 x), OwnP ow', ⟨L, bs', ow', rfl, fun _ => Iff.rfl, h1⟩, fun k hk => ?_⟩
 by_cases hlt : k < w.heap.size
 ·left
  refine (hS k).2 ?_
  unfold OwnP at hk ⊢
  rw [← h2 k hlt]
  exact hk
 ·right; omega
theorem HAft.wi {ow : OwB} {q N0 j : Nat} {w w' : World} {s' : St} (h : HAft ow q N0 (2 * j) w s' w') {S : Nat → Prop} (hS : ∀ k, S k ↔ Own ow k) : WAft S q N0 j w s' w' := by
 obtain ⟨⟨ow', cl', h1, h2⟩, h3⟩ := h
 refine ⟨h3.mono (fun k x => (hS k).2 x), Own ow', cl', ⟨ow', fun _ => Iff.rfl, h1⟩, fun k hk => ?_⟩
 by_cases hlt : k < w.heap.size
 ·left
  refine (hS k).2 ?_
  unfold Own at hk ⊢
  rw [← h2 k hlt]
  exact hk
 ·right; omega
structure Fine (j : Nat) (s : St) : Prop where
 good : Good s
 al : alive s ≤ 12
 n : s.n ≤ j
 un : ∀ i, Lives s i → (s.tx i).undo.length ≤ 12 ∧ (s.tx i).ops.length ≤ 12 ∧ ∀ o ∈ (s.tx i).ops, OpWf o
 ag : ∀ i, 0 ≤ (s.tx i).agains ∧ (s.tx i).agains ≤ j
 wins : s.wins.length ≤ j
 rd : ∀ i, 1 ≤ i → i ≤ s.n → (s.tx i).reads.length ≤ 12
 c0 : 0 ≤ s.clock
 c1 : s.clock ≤ 1099511627776
theorem PI.fine {S : Nat → Prop} {p N0 j : Nat} {s : St} {w : World} (h : PI S p N0 j s w) : Fine j s := by
 obtain ⟨L, bs, ow, h1, h2, h3⟩ := h
 refine ⟨h3.good, h3.al, h3.n, fun i hl => ?_, h3.ag, h3.wins, fun i hi hn => ?_, h3.c0, h3.c1⟩
 ·obtain ⟨ov, rv, dv, g1, g2, g3, g4, g5⟩ := h3.st.txs i hl.low hl.high
  obtain ⟨k1, k2, k3, k4, k5, k6, _⟩ := g5 hl.lives
  exact ⟨by omega, k3, k4⟩
 ·obtain ⟨ov, rv, dv, g1, g2, g3, g4, g5⟩ := h3.st.txs i hi hn
  exact g4
theorem pi_tick {S : Nat → Prop} {p N0 j : Nat} {s : St} {w : World} (h : PI S p N0 j s w) (n : Int) :
  Calls Tryz.prog 41 #[.pointer (some ⟨p, 0, none⟩), .int .i64 n] w fun e w' => e = .returned (.int .i64 (tickErr s.clock n)) ∧ PAft S p N0 j w (s.tick n) w' := by
 obtain ⟨L, bs, ow, rfl, h2, h3⟩ := h
 refine (gTick h3 n).mono ?_
 rintro e w' ⟨rfl, h4⟩
 exact ⟨rfl, h4.pi h2⟩
theorem wi_tick {S : Nat → Prop} {q N0 j : Nat} {s : St} {cl : List Cl} {w : World} (h : WI S q N0 j s cl w) (n : Int) (hf : Fine j s) :
  Calls Tryz.prog 42 #[.pointer (some ⟨q, 0, none⟩), .int .i64 n] w fun e w' => e = .returned (.int .i64 (tickErr s.clock n)) ∧ WAft S q N0 j w (s.tick n) w' := by
 obtain ⟨ow, h2, h3⟩ := h
 refine (hTick h3 n hf.c0 hf.c1).mono ?_
 rintro e w' ⟨rfl, h4⟩
 exact ⟨rfl, h4.wi h2⟩
theorem pi_step {S : Nat → Prop} {p N0 j : Nat} {s : St} {w : World} (h : PI S p N0 j s w) (id : Int) (hj : j ≤ 1048576) (hN : N0 ≤ 1048576) :
  Calls Tryz.prog 22 #[.pointer (some ⟨p, 0, none⟩), .int .i64 id] w fun e w' => e = .returned (.tuple #[.int .i64 (s.step id).2.1, .int .i64 (s.step id).2.2]) ∧ PAft S p N0 (j + 1) w (s.step id).1 w' := by
 obtain ⟨L, bs, ow, rfl, h2, h3⟩ := h
 refine (gStep h3 id (by omega) (by omega)).mono ?_
 rintro e w' ⟨rfl, h4⟩
 exact ⟨rfl, h4.pi h2⟩
theorem wi_step {S : Nat → Prop} {q N0 j : Nat} {s : St} {cl : List Cl} {w : World} (h : WI S q N0 j s cl w) (id : Int) (hj : j ≤ 1048576) (hN : N0 ≤ 1048576) (hf : Fine j s) :
  Calls Tryz.prog 44 #[.pointer (some ⟨q, 0, none⟩), .int .i64 id] w fun e w' => e = .returned (.tuple #[.int .i64 (s.step id).2.1, .int .i64 (s.step id).2.2]) ∧ WAft S q N0 (j + 1) w (s.step id).1 w' := by
 obtain ⟨ow, h2, h3⟩ := h
 refine (hStep h3 hf.good id hf.un hf.rd (fun i => ⟨(hf.ag i).1, by have := (hf.ag i).2; omega⟩) (by have := hf.wins; omega) (by have := hf.n; omega) (by omega) hN).mono ?_
 rintro e w' ⟨rfl, h4⟩
 exact ⟨rfl, (h4.mono (j' := 2 * (j + 1)) (by omega)).wi h2⟩
theorem pi_call {S : Nat → Prop} {p N0 j : Nat} {s : St} {w : World} (h : PI S p N0 j s w) (id : Int) (hj : j ≤ 1048576) (hN : N0 ≤ 1048576) :
  Calls Tryz.prog 35 #[.pointer (some ⟨p, 0, none⟩), .int .i64 id] w fun e w' => e = .returned (.int .i64 (s.call id).2) ∧ PAft S p N0 (j + 1) w (s.call id).1 w' := by
 obtain ⟨L, bs, ow, rfl, h2, h3⟩ := h
 refine (gCall h3 id (by omega) (by omega)).mono ?_
 rintro e w' ⟨rfl, h4⟩
 exact ⟨rfl, h4.pi h2⟩
theorem wi_call {S : Nat → Prop} {q N0 j : Nat} {s : St} {cl : List Cl} {w : World} (h : WI S q N0 j s cl w) (id : Int) (hj : j ≤ 1048576) (hN : N0 ≤ 1048576) (hf : Fine j s) :
  Calls Tryz.prog 45 #[.pointer (some ⟨q, 0, none⟩), .int .i64 id] w fun e w' => e = .returned (.int .i64 (s.call id).2) ∧ WAft S q N0 (j + 1) w (s.call id).1 w' := by
 obtain ⟨ow, h2, h3⟩ := h
 refine (hCall h3 hf.good.inv id (fun i hl => (hf.un i hl).1) (by have := hf.n; omega) (by omega) (by omega)).mono ?_
 rintro e w' ⟨rfl, h4⟩
 exact ⟨rfl, (h4.mono (j' := 2 * (j + 1)) (by omega)).wi h2⟩
theorem pi_admit {S : Nat → Prop} {p N0 j : Nat} {s : St} {w : World} (h : PI S p N0 j s w) (v : Value) (l : List Op4) (ho : OpsSrc w v l) (hn : ∀ k, v.ownBlock = some k → ¬ S k) (hin : OpsIn l) (hl : l.length ≤ 1048576) (hj : j ≤ 1048576) :
  Calls Tryz.prog 36 #[.pointer (some ⟨p, 0, none⟩), v] w fun e w' => e = .returned (.tuple #[.int .i64 (admNo s l), .int .i64 (admErr l (alive s) s.clock)]) ∧ PAft S p N0 (j + 1) w (s.adm l) w' := by
 obtain ⟨L, bs, ow, rfl, h2, h3⟩ := h
 refine (gAdmit h3 v l ho (fun k hk e => hn k hk ((h2 k).2 e)) hin hl (by omega)).mono ?_
 rintro e w' ⟨rfl, h4⟩
 exact ⟨rfl, h4.pi h2⟩
theorem wi_admit {S : Nat → Prop} {q N0 j : Nat} {s : St} {cl : List Cl} {w : World} (h : WI S q N0 j s cl w) (v : Value) (l : List Op4) (ho : OpsSrc w v l) (hn : 0 < l.length → ∀ b, v.ownBlock = some b → ¬ S b) (hl : l.length ≤ 1048576) (hj : j ≤ 1048576) (hf : Fine j s) :
  Calls Tryz.prog 77 #[.pointer (some ⟨q, 0, none⟩), v] w fun e w' => e = .returned (.tuple #[.int .i64 (admNo s l), .int .i64 (admErr l (alive s) s.clock)]) ∧ WAft S q N0 (j + 1) w (s.adm l) w' := by
 obtain ⟨ow, h2, h3⟩ := h
 refine (hAdmit h3 v l ho (fun h0 b hb e => hn h0 b hb ((h2 b).2 e)) hl (by have := hf.n; omega) hf.al hf.c0).mono ?_
 rintro e w' ⟨rfl, h4⟩
 exact ⟨rfl, (h4.mono (j' := 2 * (j + 1)) (by omega)).wi h2⟩
end Go.Proofs.YtmcajfefagdbnaaGreat
namespace Go.Proofs.YtmcajfefagdbnaaGreat
open Go Go.RowKit
structure Pair (x p q o : Nat) (S : Nat → Prop) (N0 j : Nat) (s : St) (cl : List Cl) (w : World) : Prop where
 lt : ∀ k, S k → k < w.heap.size
 body : ∃ Sp Sw, w.heap[x]? = some (.cells #[.pointer (some ⟨p, 0, none⟩), .pointer (some ⟨q, 0, none⟩), .pointer (some ⟨o, 0, none⟩)] 38 (0, 0)) ∧ S x ∧ ¬ Sp x ∧ ¬ Sw x ∧ PI Sp p N0 j s w ∧ WI Sw q N0 j s cl w ∧ Disj Sp Sw ∧ (∀ k, Sp k → S k) ∧ (∀ k, Sw k → S k)
theorem Pair.kept {x p q o : Nat} {S S' : Nat → Prop} {N0 j : Nat} {s : St} {cl : List Cl} {w w' : World} (h : Pair x p q o S N0 j s cl w) (hk : Kept S' w w') (hd : ∀ k, S k → ¬ S' k) : Pair x p q o S N0 j s cl w' := by
 obtain ⟨Sp, Sw, h1, h2, h3, h4, h5, h6, h7, h8, h9⟩ := h.body
 exact ⟨fun k hs => Nat.lt_of_lt_of_le (h.lt k hs) hk.size, Sp, Sw, hk.heap h1 (hd x h2), h2, h3, h4, h5.kept hk (fun k hs => hd k (h8 k hs)), h6.kept hk (fun k hs => hd k (h9 k hs)), h7, h8, h9⟩
theorem Pair.mono {x p q o : Nat} {S : Nat → Prop} {N0 j j' : Nat} {s : St} {cl : List Cl} {w : World} (h : Pair x p q o S N0 j s cl w) (hj : j ≤ j') : Pair x p q o S N0 j' s cl w := by
 obtain ⟨Sp, Sw, h1, h2, h3, h4, h5, h6, h7⟩ := h.body
 exact ⟨h.lt, Sp, Sw, h1, h2, h3, h4, h5.mono hj, h6.mono hj, h7⟩
theorem Fine.mono {j j' : Nat} {s : St} (h : Fine j s) (hj : j ≤ j') : Fine j' s :=
 ⟨h.good, h.al, Nat.le_trans h.n hj, h.un, fun i => ⟨(h.ag i).1, by have := (h.ag i).2; omega⟩, Nat.le_trans h.wins hj, h.rd, h.c0, h.c1⟩
def PairAft (x p q o : Nat) (S : Nat → Prop) (N0 j : Nat) (w w' : World) : Prop := Kept S w w' ∧ ∃ S' s' cl', Pair x p q o S' N0 j s' cl' w' ∧ ∀ k, S' k → S k ∨ w.heap.size ≤ k
theorem Pair.join {x p q o : Nat} {S Sp Sw : Nat → Prop} {N0 j j' : Nat} {s s' : St} {cl : List Cl} {w W0 w2 w2' w3 : World} (h : Pair x p q o S N0 j s cl w)
  (hx : w2.heap[x]? = some (.cells #[.pointer (some ⟨p, 0, none⟩), .pointer (some ⟨q, 0, none⟩), .pointer (some ⟨o, 0, none⟩)] 38 (0, 0))) (hxp : ¬ Sp x) (hxw : ¬ Sw x) (hxS : S x) (hd : Disj Sp Sw) (hSp : ∀ k, Sp k → S k) (hSw : ∀ k, Sw k → S k)
  (hk0 : Kept NoBlk w W0) (hp : PAft Sp p N0 j' W0 s' w2) (hk2 : Kept NoBlk w2 w2') (hw : WAft Sw q N0 j' w2' s' w3) : PairAft x p q o S N0 j' w w3 := by
 obtain ⟨p1, Sp', p2, p3⟩ := hp
 obtain ⟨q1, Sw', cl', q2, q3⟩ := hw
 have z0 := hk0.size
 have z1 := p1.size
 have z2 := hk2.size
 have z3 := q1.size
 have hlt := h.lt
 have hP3 : PI Sp' p N0 j' s' w3 := (p2.kept hk2 (fun _ _ x => x)).kept q1 (fun k hk e => by
  rcases p3 k hk with y | y
  ·exact hd k y e
  ·have := hlt k (hSw k e); omega)
 have hX3 := q1.heap (hk2.heap hx (fun x => x)) hxw
 have hxl := hlt x hxS
 refine ⟨((hk0.mono (fun _ x => x.elim)).trans (p1.mono hSp) (fun _ x => .inl x)).trans ((hk2.mono (S' := S) (fun _ x => x.elim)).trans (q1.mono hSw) (fun _ x => .inl x)) (fun _ x => .inl x), fun k => k = x ∨ Sp' k ∨ Sw' k, s', cl', ⟨fun k hk => ?_, Sp', Sw', hX3, .inl rfl, fun e => ?_, fun e => ?_, hP3, q2, fun k a b => ?_, fun k hk => .inr (.inl hk), fun k hk => .inr (.inr hk)⟩, fun k hk => ?_⟩
 ·rcases hk with rfl | hk | hk
  ·exact lt_of_block hX3
  ·exact hP3.lt k hk
  ·exact q2.lt k hk
 ·rcases p3 x e with y | y
  ·exact hxp y
  ·omega
 ·rcases q3 x e with y | y
  ·exact hxw y
  ·omega
 ·rcases q3 k b with y | y
  ·rcases p3 k a with y' | y'
   ·exact hd k y' y
   ·have := hlt k (hSw k y); omega
  ·have := p2.lt k a; omega
 ·rcases hk with rfl | hk | hk
  ·exact .inl hxS
  ·rcases p3 k hk with y | y
   ·exact .inl (hSp k y)
   ·right; omega
  ·rcases q3 k hk with y | y
   ·exact .inl (hSw k y)
   ·right; omega
end Go.Proofs.YtmcajfefagdbnaaGreat
namespace Go.Proofs.YtmcajfefagdbnaaGreat
open Go Go.RowKit
theorem ret_boolP {b : Bool} (h : b = true) : Ending.returned (.bool b) = .returned (.bool true) := by rw [h]
set_option maxRecDepth 100000 in
set_option maxHeartbeats 6400000 in
theorem play_tick4 (x p q o N0 j : Nat) (S : Nat → Prop) (n z : Int) (ao : Option Addr) (k kc : Nat) (s : St) (cl : List Cl) (w : World) (h : Pair x p q o S N0 j s cl w) :
  Calls Tryz.prog 16 #[.pointer (some ⟨x, 0, none⟩), .agg #[.int .i64 1, .int .i64 n, .int .i64 z, .slice ao k kc]] w fun e w' => e = .returned (.bool true) ∧ PairAft x p q o S N0 (j + 1) w w' := by
 obtain ⟨Sp, Sw, h1, h2, h3, h4, h5, h6, h7, h8, h9⟩ := h.body
 have HQ : Hid (Pair x p q o S N0 j s cl w) := h
 have HF : Hid (Fine j s) := h5.fine
 have hk0 : Kept NoBlk w (w.alloc (.cells #[.int .i64 1, .int .i64 n, .int .i64 z, .slice ao k kc] 41)) := (Kept.refl _ _).alloc _
 have HX0 : Hid _ := hk0.heap h1 (fun x => x)
 have HO0 : Hid ((w.alloc (.cells #[.int .i64 1, .int .i64 n, .int .i64 z, .slice ao k kc] 41)).heap[w.heap.size]? = some (.cells #[.int .i64 1, .int .i64 n, .int .i64 z, .slice ao k kc] 41 (0, 0))) := block_alloc_new w _
 have HP0 : Hid (PI Sp p N0 j s (w.alloc (.cells #[.int .i64 1, .int .i64 n, .int .i64 z, .slice ao k kc] 41)).drew) := h5.kept hk0.drew (fun _ _ x => x)
 have HW0 : Hid (WI Sw q N0 j s cl (w.alloc (.cells #[.int .i64 1, .int .i64 n, .int .i64 z, .slice ao k kc] 41))) := h6.kept hk0 (fun _ _ x => x)
 have HK0 : Hid _ := hk0
 have H2 : Hid (S x ∧ ¬ Sp x ∧ ¬ Sw x) := ⟨h2, h3, h4⟩
 have H7 : Hid (Disj Sp Sw ∧ (∀ k, Sp k → S k) ∧ (∀ k, Sw k → S k)) := ⟨h7, h8, h9⟩
 have HL : Hid (∀ k, S k → k < w.heap.size) := h.lt
 clear h h1 h2 h3 h4 h5 h6 h7 h8 h9 hk0
 go_enter Tryz.func16, Tryz.ntmps16
 go_wp2_with fail
 generalize w.alloc (.cells #[.int .i64 1, .int .i64 n, .int .i64 z, .slice ao k kc] 41) = W0 at *
 generalize hH : w.heap.size = H at HO0 ⊢
 have HH : Hid _ := hH
 clear hH
 have hSpH : ¬ Sp H := fun hs => by have := HL.out H (H7.out.2.1 H hs); have := HH.out; omega
 have hSwH : ¬ Sw H := fun hs => by have := HL.out H (H7.out.2.2 H hs); have := HH.out; omega
 have x0 : W0.cell? ⟨x, 0, none⟩ = some (.pointer (some ⟨p, 0, none⟩)) := by rw [cell_at HX0.out]; rfl
 have n0 : W0.cell? ⟨H, 1, none⟩ = some (.int .i64 n) := by rw [cell_at HO0.out]; rfl
 have HCP : Hid (Calls Tryz.prog 41 #[.pointer (some ⟨p, 0, none⟩), .int .i64 n] W0.drew fun e w' => e = .returned (.int .i64 (tickErr s.clock n)) ∧ PAft Sp p N0 (j + 1) W0.drew (s.tick n) w') := pi_tick (HP0.out.mono (Nat.le_succ j)) n
 go_region_held3 (fun w' => w'.cell? ⟨x, 0, none⟩ = some (.pointer (some ⟨p, 0, none⟩)) ∧ w'.cell? ⟨H, 1, none⟩ = some (.int .i64 n))
  (first | exact ⟨hx2, hn2⟩ | exact ⟨x0, n0⟩)
  (first
   | (go_at_call 41; refine HCP.out.mono ?_; rintro e w2 ⟨rfl, hp2⟩; have hk2 : Kept Sp W0.drew w2 := hp2.1; have hx2 := hk2.cell (show W0.drew.cell? ⟨x, 0, none⟩ = some (.pointer (some ⟨p, 0, none⟩)) from x0) H2.out.2.1; have hn2 := hk2.cell (show W0.drew.cell? ⟨H, 1, none⟩ = some (.int .i64 n) from n0) hSpH))
 have hk2' : Kept Sp W0 w2 := ((Kept.refl Sp W0).drew).trans' hk2
 have hX2 := hk2'.heap HX0.out H2.out.2.1
 have x1 : w2.cell? ⟨x, 1, none⟩ = some (.pointer (some ⟨q, 0, none⟩)) := by rw [cell_at hX2]; rfl
 have HX2 : Hid _ := hX2
 have HP2 : Hid (PAft Sp p N0 (j + 1) W0.drew (s.tick n) w2) := hp2
 have HW2 : Hid (WI Sw q N0 j s cl w2.drew) := (HW0.out.kept hk2' (fun k hw hp => H7.out.1 k hp hw)).kept ((Kept.refl NoBlk w2).drew) (fun _ _ x => x)
 have hmm : w2.cell? ⟨H, 1, none⟩ = some (.int .i64 n) := hn2
 have HCW : Hid (Calls Tryz.prog 42 #[.pointer (some ⟨q, 0, none⟩), .int .i64 n] w2.drew fun e w' => e = .returned (.int .i64 (tickErr s.clock n)) ∧ WAft Sw q N0 (j + 1) w2.drew (s.tick n) w') := wi_tick (HW2.out.mono (Nat.le_succ j)) n (HF.out.mono (Nat.le_succ j))
 clear hp2 hk2 hx2 hk2' hX2 x0 n0 hn2 HCP
 go_wp2_with fail
 go_region_held3 (fun w' => w'.cell? ⟨x, 1, none⟩ = some (.pointer (some ⟨q, 0, none⟩)) ∧ w'.cell? ⟨H, 1, none⟩ = some (.int .i64 n))
  (first | exact ⟨hx3, hn3⟩ | exact ⟨x1, hmm⟩)
  (first
   | (go_at_call 42; refine HCW.out.mono ?_; rintro e w3 ⟨rfl, hw3⟩; have hk3 : Kept Sw w2.drew w3 := hw3.1; have hx3 := hk3.cell (show w2.drew.cell? ⟨x, 1, none⟩ = some (.pointer (some ⟨q, 0, none⟩)) from x1) H2.out.2.2; have hn3 := hk3.cell (show w2.drew.cell? ⟨H, 1, none⟩ = some (.int .i64 n) from hmm) hSwH))
 have HA : Hid (PairAft x p q o S N0 (j + 1) w w3) := HQ.out.join HX2.out H2.out.2.1 H2.out.2.2 H2.out.1 H7.out.1 H7.out.2.1 H7.out.2.2 HK0.out.drew HP2.out ((Kept.refl NoBlk w2).drew) hw3
 clear hw3 hk3 hx3 hn3 x1 hmm HCW HP2 HW2
 generalize tickErr s.clock n = er at *
 have e0 : (er == er) = true := by simp
 go_wp2_with fail
 go_ret
 exact ⟨ret_boolP (by simp), HA.out⟩
set_option maxRecDepth 100000 in
set_option maxHeartbeats 6400000 in
theorem play_step4 (x p q o N0 j : Nat) (S : Nat → Prop) (n z : Int) (ao : Option Addr) (k kc : Nat) (s : St) (cl : List Cl) (w : World) (h : Pair x p q o S N0 j s cl w) (hj : j ≤ 1048576) (hN : N0 ≤ 1048576) :
  Calls Tryz.prog 16 #[.pointer (some ⟨x, 0, none⟩), .agg #[.int .i64 3, .int .i64 n, .int .i64 z, .slice ao k kc]] w fun e w' => e = .returned (.bool true) ∧ PairAft x p q o S N0 (j + 1) w w' := by
 obtain ⟨Sp, Sw, h1, h2, h3, h4, h5, h6, h7, h8, h9⟩ := h.body
 have HQ : Hid (Pair x p q o S N0 j s cl w) := h
 have HF : Hid (Fine j s) := h5.fine
 have hk0 : Kept NoBlk w (w.alloc (.cells #[.int .i64 3, .int .i64 n, .int .i64 z, .slice ao k kc] 41)) := (Kept.refl _ _).alloc _
 have HX0 : Hid _ := hk0.heap h1 (fun x => x)
 have HO0 : Hid ((w.alloc (.cells #[.int .i64 3, .int .i64 n, .int .i64 z, .slice ao k kc] 41)).heap[w.heap.size]? = some (.cells #[.int .i64 3, .int .i64 n, .int .i64 z, .slice ao k kc] 41 (0, 0))) := block_alloc_new w _
 have HP0 : Hid (PI Sp p N0 j s (w.alloc (.cells #[.int .i64 3, .int .i64 n, .int .i64 z, .slice ao k kc] 41)).drew) := h5.kept hk0.drew (fun _ _ x => x)
 have HW0 : Hid (WI Sw q N0 j s cl (w.alloc (.cells #[.int .i64 3, .int .i64 n, .int .i64 z, .slice ao k kc] 41))) := h6.kept hk0 (fun _ _ x => x)
 have HK0 : Hid _ := hk0
 have H2 : Hid (S x ∧ ¬ Sp x ∧ ¬ Sw x) := ⟨h2, h3, h4⟩
 have H7 : Hid (Disj Sp Sw ∧ (∀ k, Sp k → S k) ∧ (∀ k, Sw k → S k)) := ⟨h7, h8, h9⟩
 have HL : Hid (∀ k, S k → k < w.heap.size) := h.lt
 clear h h1 h2 h3 h4 h5 h6 h7 h8 h9 hk0
 go_enter Tryz.func16, Tryz.ntmps16
 go_wp2_with fail
 generalize w.alloc (.cells #[.int .i64 3, .int .i64 n, .int .i64 z, .slice ao k kc] 41) = W0 at *
 generalize hH : w.heap.size = H at HO0 ⊢
 have HH : Hid _ := hH
 clear hH
 have hSpH : ¬ Sp H := fun hs => by have := HL.out H (H7.out.2.1 H hs); have := HH.out; omega
 have hSwH : ¬ Sw H := fun hs => by have := HL.out H (H7.out.2.2 H hs); have := HH.out; omega
 have x0 : W0.cell? ⟨x, 0, none⟩ = some (.pointer (some ⟨p, 0, none⟩)) := by rw [cell_at HX0.out]; rfl
 have n0 : W0.cell? ⟨H, 1, none⟩ = some (.int .i64 n) := by rw [cell_at HO0.out]; rfl
 have HCP : Hid (Calls Tryz.prog 22 #[.pointer (some ⟨p, 0, none⟩), .int .i64 n] W0.drew fun e w' => e = .returned (.tuple #[.int .i64 (s.step n).2.1, .int .i64 (s.step n).2.2]) ∧ PAft Sp p N0 (j + 1) W0.drew (s.step n).1 w') := pi_step HP0.out n hj hN
 go_region_held3 (fun w' => w'.cell? ⟨x, 0, none⟩ = some (.pointer (some ⟨p, 0, none⟩)) ∧ w'.cell? ⟨H, 1, none⟩ = some (.int .i64 n))
  (first | exact ⟨hx2, hn2⟩ | exact ⟨x0, n0⟩)
  (first
   | (go_at_call 22; refine HCP.out.mono ?_; rintro e w2 ⟨rfl, hp2⟩; have hk2 : Kept Sp W0.drew w2 := hp2.1; have hx2 := hk2.cell (show W0.drew.cell? ⟨x, 0, none⟩ = some (.pointer (some ⟨p, 0, none⟩)) from x0) H2.out.2.1; have hn2 := hk2.cell (show W0.drew.cell? ⟨H, 1, none⟩ = some (.int .i64 n) from n0) hSpH))
 have hk2' : Kept Sp W0 w2 := ((Kept.refl Sp W0).drew).trans' hk2
 have hX2 := hk2'.heap HX0.out H2.out.2.1
 have x1 : w2.cell? ⟨x, 1, none⟩ = some (.pointer (some ⟨q, 0, none⟩)) := by rw [cell_at hX2]; rfl
 have HX2 : Hid _ := hX2
 have HP2 : Hid (PAft Sp p N0 (j + 1) W0.drew (s.step n).1 w2) := hp2
 have HW2 : Hid (WI Sw q N0 j s cl w2.drew) := (HW0.out.kept hk2' (fun k hw hp => H7.out.1 k hp hw)).kept ((Kept.refl NoBlk w2).drew) (fun _ _ x => x)
 have hmm : w2.cell? ⟨H, 1, none⟩ = some (.int .i64 n) := hn2
 have HCW : Hid (Calls Tryz.prog 44 #[.pointer (some ⟨q, 0, none⟩), .int .i64 n] w2.drew fun e w' => e = .returned (.tuple #[.int .i64 (s.step n).2.1, .int .i64 (s.step n).2.2]) ∧ WAft Sw q N0 (j + 1) w2.drew (s.step n).1 w') := wi_step HW2.out n hj hN HF.out
 clear hp2 hk2 hx2 hk2' hX2 x0 n0 hn2 HCP
 go_wp2_with fail
 go_region_held3 (fun w' => w'.cell? ⟨x, 1, none⟩ = some (.pointer (some ⟨q, 0, none⟩)) ∧ w'.cell? ⟨H, 1, none⟩ = some (.int .i64 n))
  (first | exact ⟨hx3, hn3⟩ | exact ⟨x1, hmm⟩)
  (first
   | (go_at_call 44; refine HCW.out.mono ?_; rintro e w3 ⟨rfl, hw3⟩; have hk3 : Kept Sw w2.drew w3 := hw3.1; have hx3 := hk3.cell (show w2.drew.cell? ⟨x, 1, none⟩ = some (.pointer (some ⟨q, 0, none⟩)) from x1) H2.out.2.2; have hn3 := hk3.cell (show w2.drew.cell? ⟨H, 1, none⟩ = some (.int .i64 n) from hmm) hSwH))
 have HA : Hid (PairAft x p q o S N0 (j + 1) w w3) := HQ.out.join HX2.out H2.out.2.1 H2.out.2.2 H2.out.1 H7.out.1 H7.out.2.1 H7.out.2.2 HK0.out.drew HP2.out ((Kept.refl NoBlk w2).drew) hw3
 clear hw3 hk3 hx3 hn3 x1 hmm HCW HP2 HW2
 generalize (s.step n).2.1 = nu at *
 generalize (s.step n).2.2 = er at *
 have e0 : (nu == nu) = true := by simp
 have e1 : (er == er) = true := by simp
 go_wp2_with fail
 go_ret
 exact ⟨ret_boolP (by simp), HA.out⟩
set_option maxRecDepth 100000 in
set_option maxHeartbeats 6400000 in
theorem play_call4 (x p q o N0 j : Nat) (S : Nat → Prop) (n z : Int) (ao : Option Addr) (k kc : Nat) (s : St) (cl : List Cl) (w : World) (h : Pair x p q o S N0 j s cl w) (hj : j ≤ 1048576) (hN : N0 ≤ 1048576) :
  Calls Tryz.prog 16 #[.pointer (some ⟨x, 0, none⟩), .agg #[.int .i64 4, .int .i64 n, .int .i64 z, .slice ao k kc]] w fun e w' => e = .returned (.bool true) ∧ PairAft x p q o S N0 (j + 1) w w' := by
 obtain ⟨Sp, Sw, h1, h2, h3, h4, h5, h6, h7, h8, h9⟩ := h.body
 have HQ : Hid (Pair x p q o S N0 j s cl w) := h
 have HF : Hid (Fine j s) := h5.fine
 have hk0 : Kept NoBlk w (w.alloc (.cells #[.int .i64 4, .int .i64 n, .int .i64 z, .slice ao k kc] 41)) := (Kept.refl _ _).alloc _
 have HX0 : Hid _ := hk0.heap h1 (fun x => x)
 have HO0 : Hid ((w.alloc (.cells #[.int .i64 4, .int .i64 n, .int .i64 z, .slice ao k kc] 41)).heap[w.heap.size]? = some (.cells #[.int .i64 4, .int .i64 n, .int .i64 z, .slice ao k kc] 41 (0, 0))) := block_alloc_new w _
 have HP0 : Hid (PI Sp p N0 j s (w.alloc (.cells #[.int .i64 4, .int .i64 n, .int .i64 z, .slice ao k kc] 41)).drew) := h5.kept hk0.drew (fun _ _ x => x)
 have HW0 : Hid (WI Sw q N0 j s cl (w.alloc (.cells #[.int .i64 4, .int .i64 n, .int .i64 z, .slice ao k kc] 41))) := h6.kept hk0 (fun _ _ x => x)
 have HK0 : Hid _ := hk0
 have H2 : Hid (S x ∧ ¬ Sp x ∧ ¬ Sw x) := ⟨h2, h3, h4⟩
 have H7 : Hid (Disj Sp Sw ∧ (∀ k, Sp k → S k) ∧ (∀ k, Sw k → S k)) := ⟨h7, h8, h9⟩
 have HL : Hid (∀ k, S k → k < w.heap.size) := h.lt
 clear h h1 h2 h3 h4 h5 h6 h7 h8 h9 hk0
 go_enter Tryz.func16, Tryz.ntmps16
 go_wp2_with fail
 generalize w.alloc (.cells #[.int .i64 4, .int .i64 n, .int .i64 z, .slice ao k kc] 41) = W0 at *
 generalize hH : w.heap.size = H at HO0 ⊢
 have HH : Hid _ := hH
 clear hH
 have hSpH : ¬ Sp H := fun hs => by have := HL.out H (H7.out.2.1 H hs); have := HH.out; omega
 have hSwH : ¬ Sw H := fun hs => by have := HL.out H (H7.out.2.2 H hs); have := HH.out; omega
 have x0 : W0.cell? ⟨x, 0, none⟩ = some (.pointer (some ⟨p, 0, none⟩)) := by rw [cell_at HX0.out]; rfl
 have n0 : W0.cell? ⟨H, 1, none⟩ = some (.int .i64 n) := by rw [cell_at HO0.out]; rfl
 have HCP : Hid (Calls Tryz.prog 35 #[.pointer (some ⟨p, 0, none⟩), .int .i64 n] W0.drew fun e w' => e = .returned (.int .i64 (s.call n).2) ∧ PAft Sp p N0 (j + 1) W0.drew (s.call n).1 w') := pi_call HP0.out n hj hN
 go_region_held3 (fun w' => w'.cell? ⟨x, 0, none⟩ = some (.pointer (some ⟨p, 0, none⟩)) ∧ w'.cell? ⟨H, 1, none⟩ = some (.int .i64 n))
  (first | exact ⟨hx2, hn2⟩ | exact ⟨x0, n0⟩)
  (first
   | (go_at_call 35; refine HCP.out.mono ?_; rintro e w2 ⟨rfl, hp2⟩; have hk2 : Kept Sp W0.drew w2 := hp2.1; have hx2 := hk2.cell (show W0.drew.cell? ⟨x, 0, none⟩ = some (.pointer (some ⟨p, 0, none⟩)) from x0) H2.out.2.1; have hn2 := hk2.cell (show W0.drew.cell? ⟨H, 1, none⟩ = some (.int .i64 n) from n0) hSpH))
 have hk2' : Kept Sp W0 w2 := ((Kept.refl Sp W0).drew).trans' hk2
 have hX2 := hk2'.heap HX0.out H2.out.2.1
 have x1 : w2.cell? ⟨x, 1, none⟩ = some (.pointer (some ⟨q, 0, none⟩)) := by rw [cell_at hX2]; rfl
 have HX2 : Hid _ := hX2
 have HP2 : Hid (PAft Sp p N0 (j + 1) W0.drew (s.call n).1 w2) := hp2
 have HW2 : Hid (WI Sw q N0 j s cl w2.drew) := (HW0.out.kept hk2' (fun k hw hp => H7.out.1 k hp hw)).kept ((Kept.refl NoBlk w2).drew) (fun _ _ x => x)
 have hmm : w2.cell? ⟨H, 1, none⟩ = some (.int .i64 n) := hn2
 have HCW : Hid (Calls Tryz.prog 45 #[.pointer (some ⟨q, 0, none⟩), .int .i64 n] w2.drew fun e w' => e = .returned (.int .i64 (s.call n).2) ∧ WAft Sw q N0 (j + 1) w2.drew (s.call n).1 w') := wi_call HW2.out n hj hN HF.out
 clear hp2 hk2 hx2 hk2' hX2 x0 n0 hn2 HCP
 go_wp2_with fail
 go_region_held3 (fun w' => w'.cell? ⟨x, 1, none⟩ = some (.pointer (some ⟨q, 0, none⟩)) ∧ w'.cell? ⟨H, 1, none⟩ = some (.int .i64 n))
  (first | exact ⟨hx3, hn3⟩ | exact ⟨x1, hmm⟩)
  (first
   | (go_at_call 45; refine HCW.out.mono ?_; rintro e w3 ⟨rfl, hw3⟩; have hk3 : Kept Sw w2.drew w3 := hw3.1; have hx3 := hk3.cell (show w2.drew.cell? ⟨x, 1, none⟩ = some (.pointer (some ⟨q, 0, none⟩)) from x1) H2.out.2.2; have hn3 := hk3.cell (show w2.drew.cell? ⟨H, 1, none⟩ = some (.int .i64 n) from hmm) hSwH))
 have HA : Hid (PairAft x p q o S N0 (j + 1) w w3) := HQ.out.join HX2.out H2.out.2.1 H2.out.2.2 H2.out.1 H7.out.1 H7.out.2.1 H7.out.2.2 HK0.out.drew HP2.out ((Kept.refl NoBlk w2).drew) hw3
 clear hw3 hk3 hx3 hn3 x1 hmm HCW HP2 HW2
 generalize (s.call n).2 = er at *
 have e0 : (er == er) = true := by simp
 go_wp2_with fail
 go_ret
 exact ⟨ret_boolP (by simp), HA.out⟩
end Go.Proofs.YtmcajfefagdbnaaGreat
