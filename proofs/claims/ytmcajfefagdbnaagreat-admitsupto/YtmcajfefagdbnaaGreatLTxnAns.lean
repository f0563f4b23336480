import Derived.Test.YtmcajfefagdbnaaGreatLWInv
import Derived.Test.YtmcajfefagdbnaaGreatLSame
namespace Go.Proofs.YtmcajfefagdbnaaGreat
open Go Go.RowKit

def txnErr (sts : List Int) (id : Int) : Int := if id < 1 ∨ (sts.length : Int) < id then 5 else 0
def txnSt (sts : List Int) (id : Int) : Int := if id < 1 ∨ (sts.length : Int) < id then 0 else sts.getD (id - 1).toNat 0
def txnRn (sts : List Int) (id : Int) : Nat := if id < 1 ∨ (sts.length : Int) < id then 0 else 4

theorem txn_out {sts : List Int} {id : Int} (h : id < 1 ∨ (sts.length : Int) < id) : txnErr sts id = 5 ∧ txnSt sts id = 0 ∧ txnRn sts id = 0 := by simp [txnErr, txnSt, txnRn, h]
theorem txn_in {sts : List Int} {i : Nat} (h : i < sts.length) : txnErr sts ((i : Int) + 1) = 0 ∧ txnSt sts ((i : Int) + 1) = sts.getD i 0 ∧ txnRn sts ((i : Int) + 1) = 4 := by
  have : ¬ ((i : Int) + 1 < 1 ∨ (sts.length : Int) < (i : Int) + 1) := by omega
  simp [txnErr, txnSt, txnRn, this]

theorem ptxn_ans (S : Nat → Prop) (p : Nat) (c id : Int) (sts : List Int) (w : World) (h : PInv S p c sts w) :
    Calls Tryz.prog 23 #[.pointer (some ⟨p, 0, none⟩), .int .i64 id] w fun e w' => ∃ ra sa, e = .returned (.tuple #[.agg #[.int .i64 (txnSt sts id), .int .i64 0, .int .i64 0, .bool false, .bool false, .int .i64 0, .slice ra (txnRn sts id) (txnRn sts id), .slice sa 0 0], .int .i64 (txnErr sts id)]) ∧
      PInv S p c sts w' ∧ Kept S w w' ∧ w'.ownsRow 0 3 1 (.slice ra (txnRn sts id) (txnRn sts id)) (txnRn sts id) (List.replicate (txnRn sts id) (.int .i64 0)) ∧ w'.ownsRow 0 105 3 (.slice sa 0 0) 0 [] ∧
      (∀ k, (Value.slice ra (txnRn sts id) (txnRn sts id)).ownBlock = some k ∨ (Value.slice sa 0 0).ownBlock = some k → w.heap.size ≤ k) ∧ (∀ k, (Value.slice ra (txnRn sts id) (txnRn sts id)).ownBlock = some k → ¬ (Value.slice sa 0 0).ownBlock = some k) := by
  refine (ptxn_inv S p c id sts w h).mono ?_
  rintro e w' ⟨hP, hk, h | h⟩
  · obtain ⟨hi, rfl⟩ := h
    obtain ⟨e1, e2, e3⟩ := txn_out hi
    rw [e1, e2, e3]
    exact ⟨none, none, rfl, hP, hk, World.ownsRow_nil _ _ _ _, World.ownsRow_nil _ _ _ _, fun k hk => by simp [Value.ownBlock] at hk, fun k hk => by simp [Value.ownBlock] at hk⟩
  · obtain ⟨i, a, k, hi, rfl, rfl, ha, hk', hga, hgk⟩ := h
    obtain ⟨e1, e2, e3⟩ := txn_in hi
    rw [e1, e2, e3]
    refine ⟨some ⟨a, 0, none⟩, some ⟨k, 0, none⟩, rfl, hP, hk, ⟨rfl, .inr ⟨a, 4, _, rfl, Nat.zero_le _, hga, Nat.le_refl _, by unfold maxLen; omega, rfl, rfl⟩⟩, ⟨rfl, .inr ⟨k, 0, _, rfl, Nat.zero_le _, hgk, Nat.le_refl _, by unfold maxLen; omega, rfl, rfl⟩⟩, ?_, ?_⟩
    · intro j hj
      simp only [Value.ownBlock, Option.some.injEq] at hj
      omega
    · intro j hj hj'
      simp only [Value.ownBlock, Option.some.injEq] at hj hj'
      exact blocks_apart hga hgk (by decide) (hj.trans hj'.symm)

theorem wtxn_ans (S : Nat → Prop) (p : Nat) (c id : Int) (sts : List Int) (w : World) (h : WInv S p c sts w) :
    Calls Tryz.prog 46 #[.pointer (some ⟨p, 0, none⟩), .int .i64 id] w fun e w' => ∃ rb, e = .returned (.tuple #[.agg #[.int .i64 (txnSt sts id), .int .i64 0, .int .i64 0, .bool false, .bool false, .int .i64 0, .slice rb (txnRn sts id) (txnRn sts id), .slice none 0 0], .int .i64 (txnErr sts id)]) ∧
      Kept NoBlk w w' ∧ w'.ownsRow 0 3 1 (.slice rb (txnRn sts id) (txnRn sts id)) (txnRn sts id) (List.replicate (txnRn sts id) (.int .i64 0)) := by
  refine (wtxn_inv S p c id sts w h).mono ?_
  rintro e w' ⟨hk, h | h⟩
  · obtain ⟨hi, rfl⟩ := h
    obtain ⟨e1, e2, e3⟩ := txn_out hi
    rw [e1, e2, e3]
    exact ⟨none, rfl, hk, World.ownsRow_nil _ _ _ _⟩
  · obtain ⟨i, r, hi, rfl, rfl, hr⟩ := h
    obtain ⟨e1, e2, e3⟩ := txn_in hi
    rw [e1, e2, e3]
    exact ⟨some ⟨r, 0, none⟩, rfl, hk, ⟨rfl, .inr ⟨r, 4, _, rfl, Nat.zero_le _, hk.heap hr (fun x => x), Nat.le_refl _, by unfold maxLen; omega, rfl, rfl⟩⟩⟩

set_option maxHeartbeats 800000 in
theorem sameInts_none (ao bo : Option Addr) (c d : Nat) (w : World) : Calls Tryz.prog 55 #[.slice ao 0 c, .slice bo 0 d] w fun e w' => e = .returned (.bool true) ∧ w' = w := by
  go_enter Tryz.func55, Tryz.ntmps55
  go_wp2
  go_loop [5] (fun i => i = .int .i64 0) (fun _ => 0)
  case atStart => rfl
  case round =>
    subst hrel
    go_wp2
    go_ret
    exact ⟨rfl, rfl⟩

theorem sameInts_rows (ra rb : Option Addr) (n c d : Nat) (x : Int) (w : World) (hn : n ≤ 1048576) (h : w.ownsRow 0 3 1 (.slice ra n c) n (List.replicate n (.int .i64 x))) (h' : w.ownsRow 0 3 1 (.slice rb n d) n (List.replicate n (.int .i64 x))) :
    Calls Tryz.prog 55 #[.slice ra n c, .slice rb n d] w fun e w' => e = .returned (.bool true) ∧ Kept NoBlk w w' := by
  rcases Nat.eq_zero_or_pos n with h0 | h0
  · subst h0
    refine (sameInts_none ra rb c d w).mono ?_
    rintro e w' ⟨rfl, rfl⟩
    exact ⟨rfl, Kept.refl _ _⟩
  · obtain ⟨g, cap, hf, _, _⟩ := h.form h0
    simp only [Value.slice.injEq] at hf
    obtain ⟨rfl, _, rfl⟩ := hf
    obtain ⟨g', cap', hf, _, _⟩ := h'.form h0
    simp only [Value.slice.injEq] at hf
    obtain ⟨rfl, _, rfl⟩ := hf
    refine (sameInts_some g 0 g' 0 n c d (fun _ => x) w hn (fun k hk => ?_) (fun k hk => ?_)).mono ?_
    · rw [Nat.zero_add, h.cellAt k (by omega)]; simp [hk]
    · rw [Nat.zero_add, h'.cellAt k (by omega)]; simp [hk]
    · rintro e w' ⟨rfl, nq, rfl⟩
      exact ⟨rfl, (Kept.refl _ _).drewN _⟩

/-- Two tellings of one transaction are alike. -/
theorem sameTxn_rows (st : Int) (ra rb sa sb : Option Addr) (n : Nat) (w : World) (hn : n ≤ 1048576) (h : w.ownsRow 0 3 1 (.slice ra n n) n (List.replicate n (.int .i64 0))) (h' : w.ownsRow 0 3 1 (.slice rb n n) n (List.replicate n (.int .i64 0))) :
    Calls Tryz.prog 47 #[.agg #[.int .i64 st, .int .i64 0, .int .i64 0, .bool false, .bool false, .int .i64 0, .slice ra n n, .slice sa 0 0], .agg #[.int .i64 st, .int .i64 0, .int .i64 0, .bool false, .bool false, .int .i64 0, .slice rb n n, .slice sb 0 0]] w fun e w' =>
      e = .returned (.bool true) ∧ Kept NoBlk w w' :=
  sameTxn_true st 0 0 0 false false _ _ _ _ w (fun W hk => sameInts_rows ra rb n n n 0 W hn (ownsRow_kept h hk (fun _ _ x => x)) (ownsRow_kept h' hk (fun _ _ x => x)))
    (fun W _ => (sameSeen_none sa sb 0 0 W).mono (by rintro e w' ⟨rfl, rfl⟩; exact ⟨rfl, Kept.refl _ _⟩))
end Go.Proofs.YtmcajfefagdbnaaGreat
