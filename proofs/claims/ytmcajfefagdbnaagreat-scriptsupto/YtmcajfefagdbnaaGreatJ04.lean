import Derived.Test.YtmcajfefagdbnaaGreatJ03
import Derived.Test.YtmcajfefagdbnaaGreatProg
import Derived.Conc.MuLone
import Derived.Defers
import Derived.Deep.RegionLaw
import Derived.Deep.RegionHeld3
import Derived.DeepKeys4
import Derived.KernelRfl
namespace Go.Proofs.YtmcajfefagdbnaaGreat
open Go.RowKit
def regB (n : Int) : Bool := decide (0 ≤ n) && decide (n < 4)
def opB (k a b : Int) : Bool := if k = 1 then regB b else if k = 2 then regB b else if k = 3 then true else if k = 4 then regB a && regB b else if k = 5 then regB a else false
set_option maxHeartbeats 400000 in
theorem register_any (n : Int) (w : World) : Calls Tryz.prog 142 #[.int .i64 n] w fun e w' => e = .returned (.bool (regB n)) ∧ w' = w := by
 by_cases h0 : 0 ≤ n
 ·by_cases h4 : n < 4
  ·have : regB n = true := by simp [regB, h0, h4]
   rw [this]; clear this
   go_enter Tryz.func142, Tryz.ntmps142
   go_wp2
   go_ret
   exact ⟨rfl, rfl⟩
  ·have : regB n = false := by simp [regB, h4]
   rw [this]; clear this
   go_enter Tryz.func142, Tryz.ntmps142
   go_wp2
   go_ret
   exact ⟨rfl, rfl⟩
 ·have : regB n = false := by simp [regB, h0]
  rw [this]; clear this
  go_enter Tryz.func142, Tryz.ntmps142
  go_wp2
  go_ret
  exact ⟨rfl, rfl⟩
set_option maxHeartbeats 400000 in
theorem isRegister_any (n : Int) (w : World) : Calls Tryz.prog 171 #[.int .i64 n] w fun e w' => e = .returned (.bool (regB n)) ∧ w' = w := by
 by_cases h0 : 0 ≤ n
 ·by_cases h4 : n < 4
  ·have : regB n = true := by simp [regB, h0, h4]
   rw [this]; clear this
   go_enter Tryz.func171, Tryz.ntmps171
   go_wp2
   go_ret
   exact ⟨rfl, rfl⟩
  ·have : regB n = false := by simp [regB, h4]
   rw [this]; clear this
   go_enter Tryz.func171, Tryz.ntmps171
   go_wp2
   go_ret
   exact ⟨rfl, rfl⟩
 ·have : regB n = false := by simp [regB, h0]
  rw [this]; clear this
  go_enter Tryz.func171, Tryz.ntmps171
  go_wp2
  go_ret
  exact ⟨rfl, rfl⟩
theorem opB_cases (k a b : Int) : (k = 1 ∧ opB k a b = regB b) ∨ (k = 2 ∧ opB k a b = regB b) ∨ (k = 3 ∧ opB k a b = true) ∨ (k = 4 ∧ opB k a b = (regB a && regB b)) ∨ (k = 5 ∧ opB k a b = regB a) ∨
  ((k == 1) = false ∧ (k == 2) = false ∧ (k == 3) = false ∧ (k == 4) = false ∧ (k == 5) = false ∧ opB k a b = false) := by
 by_cases h1 : k = 1
 ·exact .inl ⟨h1, by simp [opB, h1]⟩
 by_cases h2 : k = 2
 ·exact .inr (.inl ⟨h2, by simp [opB, h2]⟩)
 by_cases h3 : k = 3
 ·exact .inr (.inr (.inl ⟨h3, by simp [opB, h3]⟩))
 by_cases h4 : k = 4
 ·exact .inr (.inr (.inr (.inl ⟨h4, by simp [opB, h4]⟩)))
 by_cases h5 : k = 5
 ·exact .inr (.inr (.inr (.inr (.inl ⟨h5, by simp [opB, h5]⟩))))
 exact .inr (.inr (.inr (.inr (.inr ⟨by simp [h1], by simp [h2], by simp [h3], by simp [h4], by simp [h5], by simp [opB, h1, h2, h3, h4, h5]⟩))))
set_option maxHeartbeats 1600000 in
theorem may_any (k a b c : Int) (w : World) : Calls Tryz.prog 108 #[.agg #[.int .i64 k, .int .i64 a, .int .i64 b, .int .i64 c]] w fun e w' =>
  e = .returned (.bool (opB k a b)) ∧ w' = w.alloc (.cells #[.int .i64 k, .int .i64 a, .int .i64 b, .int .i64 c] 114) := by
 rcases opB_cases k a b with ⟨rfl, h⟩ | ⟨rfl, h⟩ | ⟨rfl, h⟩ | ⟨rfl, h⟩ | ⟨rfl, h⟩ | ⟨h1, h2, h3, h4, h5, h⟩
 all_goals
  rw [h]; clear h
 case inr.inr.inr.inl =>
  cases hx : regB a
  all_goals
   have Hx : Hid _ := hx
   clear hx
   go_enter Tryz.func108, Tryz.ntmps108
   go_wp2_with fail
   refine (register_any _ _).mono ?_; rintro e w' ⟨rfl, rfl⟩
   rw [Hx.out]
   go_wp2_with fail
   refine (register_any _ _).mono ?_; rintro e w' ⟨rfl, rfl⟩
   go_wp2_with fail
   go_ret
   exact ⟨by simp, rfl⟩
 all_goals
  go_enter Tryz.func108, Tryz.ntmps108
  go_wp2_with (go_at_call 142; refine (register_any _ _).mono ?_; rintro e w' ⟨rfl, rfl⟩)
  go_ret
  exact ⟨rfl, rfl⟩
set_option maxHeartbeats 1600000 in
theorem allowed_any (k a b c : Int) (w : World) : Calls Tryz.prog 141 #[.agg #[.int .i64 k, .int .i64 a, .int .i64 b, .int .i64 c]] w fun e w' =>
  e = .returned (.bool (opB k a b)) ∧ w' = w.alloc (.cells #[.int .i64 k, .int .i64 a, .int .i64 b, .int .i64 c] 114) := by
 rcases opB_cases k a b with ⟨rfl, h⟩ | ⟨rfl, h⟩ | ⟨rfl, h⟩ | ⟨rfl, h⟩ | ⟨rfl, h⟩ | ⟨h1, h2, h3, h4, h5, h⟩
 all_goals
  rw [h]; clear h
 case inr.inr.inr.inl =>
  cases hx : regB a
  ·have Hx : Hid _ := hx
   clear hx
   go_enter Tryz.func141, Tryz.ntmps141
   go_wp2_with fail
   refine (isRegister_any _ _).mono ?_; rintro e w' ⟨rfl, rfl⟩
   rw [Hx.out]
   go_wp2_with fail
   go_ret
   exact ⟨by simp, rfl⟩
  ·have Hx : Hid _ := hx
   clear hx
   go_enter Tryz.func141, Tryz.ntmps141
   go_wp2_with fail
   refine (isRegister_any _ _).mono ?_; rintro e w' ⟨rfl, rfl⟩
   rw [Hx.out]
   go_wp2_with fail
   refine (isRegister_any _ _).mono ?_; rintro e w' ⟨rfl, rfl⟩
   go_wp2_with fail
   go_ret
   exact ⟨by simp, rfl⟩
 all_goals
  go_enter Tryz.func141, Tryz.ntmps141
  go_wp2_with (go_at_call 171; refine (isRegister_any _ _).mono ?_; rintro e w' ⟨rfl, rfl⟩)
  go_ret
  exact ⟨rfl, rfl⟩
end Go.Proofs.YtmcajfefagdbnaaGreat
namespace Go.Proofs.YtmcajfefagdbnaaGreat
open Go.RowKit
open Go.MuLone
set_option maxHeartbeats 800000 in
theorem ptick_ok (b : Nat) (n c : Int) (v1 v3 v4 v5 v6 v7 v8 : Value) (w : World) (h : w.heap[b]? = some (.cells #[.int .i32 0, v1, .int .i64 c, v3, v4, v5, v6, v7, v8] 127 (0, 0)))
  (c0 : 0 ≤ c) (c1 : c ≤ 1099511627776) (n0 : 0 ≤ n) (n1 : n ≤ 1099511627776 - c) :
  Calls Tryz.prog 41 #[.pointer (some ⟨b, 0, none⟩), .int .i64 n] w fun e w' => e = .returned (.int .i64 0) ∧
   w' = ((w.setCell ⟨b, 0, none⟩ (.int .i32 1)).setCell ⟨b, 2, none⟩ (.int .i64 (c + n))).setCell ⟨b, 0, none⟩ (.int .i32 0) := by
 have hl : w.cell? ⟨b, 0, none⟩ = some (.int .i32 0) := by rw [cell_at h]; rfl
 have hc : w.cell? ⟨b, 2, none⟩ = some (.int .i64 c) := by rw [cell_at h]; rfl
 have f0 : w.frozen? ⟨b, 0, none⟩ = false := frozen_at h _
 have f2 : w.frozen? ⟨b, 2, none⟩ = false := frozen_at h _
 clear h
 go_enter_defers Tryz.func41, Tryz.ntmps41
 go_wp2_with (go_at_call 59; refine (lock_free Tryz.muLib ⟨b, 0, none⟩ _ hl f0).mono ?_; rintro e w' ⟨rfl, rfl⟩)
 refine leaves_cons (f := 60) (args := #[.pointer (some ⟨b, 0, none⟩)]) (by simp) (by simp [go_sem]) ?_
 refine (unlock_deferred Tryz.muLib ⟨b, 0, none⟩ .returning _ ?_ ?_).mono ?_
 ·exact (World.cell?_setCell_other _ ⟨b, 2, none⟩ ⟨b, 0, none⟩ _ (by simp)).trans (World.cell?_setCell_same w ⟨b, 0, none⟩ (.int .i32 1) hl)
 ·simp [f0]
 rintro e u' w'' ⟨rfl, rfl, rfl⟩
 exact ⟨_, results_tmp rfl _ _ _, rfl, rfl⟩
set_option maxHeartbeats 800000 in
theorem ptick_no (b : Nat) (n c : Int) (v1 v3 v4 v5 v6 v7 v8 : Value) (w : World) (h : w.heap[b]? = some (.cells #[.int .i32 0, v1, .int .i64 c, v3, v4, v5, v6, v7, v8] 127 (0, 0)))
  (c0 : 0 ≤ c) (c1 : c ≤ 1099511627776) (n0 : n < 0 ∨ 1099511627776 - c < n) :
  Calls Tryz.prog 41 #[.pointer (some ⟨b, 0, none⟩), .int .i64 n] w fun e w' => e = .returned (.int .i64 4) ∧
   w' = (w.setCell ⟨b, 0, none⟩ (.int .i32 1)).setCell ⟨b, 0, none⟩ (.int .i32 0) := by
 have hl : w.cell? ⟨b, 0, none⟩ = some (.int .i32 0) := by rw [cell_at h]; rfl
 have hc : w.cell? ⟨b, 2, none⟩ = some (.int .i64 c) := by rw [cell_at h]; rfl
 have f0 : w.frozen? ⟨b, 0, none⟩ = false := frozen_at h _
 clear h
 have fin : ∀ n : Int, (n < 0 ∨ (¬ n < 0 ∧ 1099511627776 - c < n)) → Calls Tryz.prog 41 #[.pointer (some ⟨b, 0, none⟩), .int .i64 n] w fun e w' => e = .returned (.int .i64 4) ∧
   w' = (w.setCell ⟨b, 0, none⟩ (.int .i32 1)).setCell ⟨b, 0, none⟩ (.int .i32 0) := by
  intro n hn
  rcases hn with hn | ⟨hn, hn'⟩
  all_goals
   go_enter_defers Tryz.func41, Tryz.ntmps41
   go_wp2_with (go_at_call 59; refine (lock_free Tryz.muLib ⟨b, 0, none⟩ _ hl f0).mono ?_; rintro e w' ⟨rfl, rfl⟩)
   refine leaves_cons (f := 60) (args := #[.pointer (some ⟨b, 0, none⟩)]) (by simp) (by simp [go_sem]) ?_
   refine (unlock_deferred Tryz.muLib ⟨b, 0, none⟩ .returning _ ?_ ?_).mono ?_
   ·exact World.cell?_setCell_same w ⟨b, 0, none⟩ (.int .i32 1) hl
   ·simp [f0]
   rintro e u' w'' ⟨rfl, rfl, rfl⟩
   exact ⟨_, results_tmp rfl _ _ _, rfl, rfl⟩
 exact fin n (by omega)
end Go.Proofs.YtmcajfefagdbnaaGreat
namespace Go.Proofs.YtmcajfefagdbnaaGreat
open Go.RowKit
set_option maxHeartbeats 800000 in
theorem wtick_ok (b : Nat) (n c : Int) (v0 v1 v2 v3 : Value) (w : World) (h : w.heap[b]? = some (.cells #[v0, v1, v2, v3, .int .i64 c] 47 (0, 0)))
  (c0 : 0 ≤ c) (c1 : c ≤ 1099511627776) (n0 : 0 ≤ n) (n1 : n ≤ 1099511627776 - c) :
  Calls Tryz.prog 42 #[.pointer (some ⟨b, 0, none⟩), .int .i64 n] w fun e w' => e = .returned (.int .i64 0) ∧ w' = w.setCell ⟨b, 4, none⟩ (.int .i64 (c + n)) := by
 have hc : w.cell? ⟨b, 4, none⟩ = some (.int .i64 c) := by rw [cell_at h]; rfl
 have hf : w.frozen? ⟨b, 4, none⟩ = false := frozen_at h _
 clear h
 go_enter Tryz.func42, Tryz.ntmps42
 go_wp2
 go_ret
 exact ⟨rfl, rfl⟩
set_option maxHeartbeats 800000 in
theorem wtick_no (b : Nat) (n c : Int) (v0 v1 v2 v3 : Value) (w : World) (h : w.heap[b]? = some (.cells #[v0, v1, v2, v3, .int .i64 c] 47 (0, 0)))
  (c0 : 0 ≤ c) (c1 : c ≤ 1099511627776) (n0 : n < 0 ∨ 1099511627776 - c < n) :
  Calls Tryz.prog 42 #[.pointer (some ⟨b, 0, none⟩), .int .i64 n] w fun e w' => e = .returned (.int .i64 4) ∧ w' = w := by
 have hc : w.cell? ⟨b, 4, none⟩ = some (.int .i64 c) := by rw [cell_at h]; rfl
 clear h
 by_cases hn : n < 0
 ·go_enter Tryz.func42, Tryz.ntmps42
  go_wp2
  go_ret
  exact ⟨rfl, rfl⟩
 ·have hn' : 1099511627776 - c < n := by omega
  clear n0
  go_enter Tryz.func42, Tryz.ntmps42
  go_wp2
  go_ret
  exact ⟨rfl, rfl⟩
end Go.Proofs.YtmcajfefagdbnaaGreat
namespace Go.Proofs.YtmcajfefagdbnaaGreat
open Go Go.RowKit
def cnt (s : Nat → Int) : Nat → Nat
 | 0 => 0
 | k + 1 => cnt s k + if s k = 0 then 1 else 0
theorem cnt_le (s : Nat → Int) (k : Nat) : cnt s k ≤ k := by
 induction k with
 | zero => simp [cnt]
 | succ k ih => simp only [cnt]; split <;> omega
set_option maxHeartbeats 800000 in
theorem lives_nil (p : Nat) (w : World) (hp : w.cell? ⟨p, 1, none⟩ = some (.slice none 0 0)) :
  Calls Tryz.prog 109 #[.pointer (some ⟨p, 0, none⟩)] w fun e w' => e = .returned (.int .i64 0) ∧ w' = w := by
 go_enter Tryz.func109, Tryz.ntmps109
 go_wp2
 go_loop [3, 4] (fun n i => n = .int .i64 0 ∧ i = .int .i64 0) (fun _ _ => 0)
 case atStart => exact ⟨rfl, rfl⟩
 case round =>
  obtain ⟨rfl, rfl⟩ := hrel
  go_wp2
  go_ret
  exact ⟨rfl, rfl⟩
set_option maxHeartbeats 800000 in
theorem lives_some (p g n cap : Nat) (t : Nat → Nat) (s : Nat → Int) (w : World) (hn : n ≤ 1048576) (hp : w.cell? ⟨p, 1, none⟩ = some (.slice (some ⟨g, 0, none⟩) n cap))
  (hg : ∀ i, i < n → w.cell? ⟨g, i, none⟩ = some (.pointer (some ⟨t i, 0, none⟩))) (ht : ∀ i, i < n → w.cell? ⟨t i, 1, none⟩ = some (.int .i64 (s i))) :
  Calls Tryz.prog 109 #[.pointer (some ⟨p, 0, none⟩)] w fun e w' => e = .returned (.int .i64 (cnt s n)) ∧ w' = w := by
 go_enter Tryz.func109, Tryz.ntmps109
 go_wp2
 go_loop [3, 4] (fun c i => ∃ k : Nat, k ≤ n ∧ i = .int .i64 k ∧ c = .int .i64 (cnt s k)) (fun _ i => n - (intOf i).toNat)
 case atStart => exact ⟨0, Nat.zero_le _, rfl, rfl⟩
 case round =>
  obtain ⟨k, hk, rfl, rfl⟩ := hrel
  have hc := cnt_le s k
  by_cases hlt : k < n
  ·have g1 := hg k hlt
   have g2 := ht k hlt
   have HC : Hid (cnt s (k + 1) = cnt s k + if s k = 0 then 1 else 0) := rfl
   clear hg ht
   by_cases h0 : s k = 0
   ·have h0' : (s k == 0) = true := by simp [h0]
    have H0 : Hid _ := h0
    clear h0
    generalize t k = tk at *
    generalize s k = sk at *
    generalize cnt s k = c at *
    go_wp2_with fail
    go_round
    case rel => exact ⟨k + 1, by omega, by go_num, by rw [HC.out, if_pos H0.out]; go_num⟩
    case measure => simp [intOf]; omega
   ·have h0' : (s k == 0) = false := by simp [h0]
    have H0 : Hid _ := h0
    clear h0
    generalize t k = tk at *
    generalize s k = sk at *
    generalize cnt s k = c at *
    go_wp2_with fail
    go_round
    case rel => exact ⟨k + 1, by omega, by go_num, by rw [HC.out, if_neg H0.out]; rfl⟩
    case measure => simp [intOf]; omega
  ·obtain rfl : k = n := by omega
   clear hg ht
   go_wp2_with fail
   go_ret
   exact ⟨rfl, rfl⟩
end Go.Proofs.YtmcajfefagdbnaaGreat
namespace Go.Proofs.YtmcajfefagdbnaaGreat
open Go Go.RowKit
set_option maxHeartbeats 1600000 in
theorem wtxn_some (p g n cap i t : Nat) (st sa ne ag : Int) (wo wa : Bool) (ra sb : Option Addr) (rn rc sn sc : Nat) (x8 x9 : Value) (w : World) (hp : w.cell? ⟨p, 1, none⟩ = some (.slice (some ⟨g, 0, none⟩) n cap)) (hx : w.cell? ⟨g, i, none⟩ = some (.pointer (some ⟨t, 0, none⟩)))
  (ht : w.heap[t]? = some (.cells #[.int .i64 st, .int .i64 sa, .int .i64 ne, .bool wo, .bool wa, .int .i64 ag, (.slice ra rn rc), (.slice sb sn sc), x8, x9] 152 (0, 0))) (hi : i < n) (hn : n ≤ 1048576) :
  Calls Tryz.prog 46 #[.pointer (some ⟨p, 0, none⟩), .int .i64 ((i : Int) + 1)] w fun e w' =>
   e = .returned (.tuple #[.agg #[.int .i64 st, .int .i64 sa, .int .i64 ne, .bool wo, .bool wa, .int .i64 ag, (.slice ra rn rc), (.slice sb sn sc)], .int .i64 0]) ∧ Kept NoBlk w w' := by
 have h1 : ¬ ((i : Int) + 1 < 1) := by omega
 have h2 : ¬ ((n : Int) < (i : Int) + 1) := by omega
 have l1 := World.block_lt_of_cell? w _ hp
 have l2 := World.block_lt_of_cell? w _ hx
 have l3 := lt_of_block ht
 have f0 : w.cell? ⟨t, 0, none⟩ = some (.int .i64 st) := by rw [cell_at ht]; rfl
 have f1 : w.cell? ⟨t, 1, none⟩ = some (.int .i64 sa) := by rw [cell_at ht]; rfl
 have f2 : w.cell? ⟨t, 2, none⟩ = some (.int .i64 ne) := by rw [cell_at ht]; rfl
 have f3 : w.cell? ⟨t, 3, none⟩ = some (.bool wo) := by rw [cell_at ht]; rfl
 have f4 : w.cell? ⟨t, 4, none⟩ = some (.bool wa) := by rw [cell_at ht]; rfl
 have f5 : w.cell? ⟨t, 5, none⟩ = some (.int .i64 ag) := by rw [cell_at ht]; rfl
 have f6 : w.cell? ⟨t, 6, none⟩ = some (.slice ra rn rc) := by rw [cell_at ht]; rfl
 have f7 : w.cell? ⟨t, 7, none⟩ = some (.slice sb sn sc) := by rw [cell_at ht]; rfl
 clear ht
 go_enter Tryz.func46, Tryz.ntmps46
 go_wp2
 refine bodyPost_ret (v := .tuple #[.agg #[.int .i64 st, .int .i64 sa, .int .i64 ne, .bool wo, .bool wa, .int .i64 ag, (.slice ra rn rc), (.slice sb sn sc)], .int .i64 0]) (by simp [results, Tryz.results46, go_sem]) rfl ⟨rfl, ?_⟩
 exact (Kept.refl _ _).alloc _
set_option maxHeartbeats 1600000 in
theorem wtxn_none (p n cap : Nat) (ao : Option Addr) (id : Int) (w : World) (hp : w.cell? ⟨p, 1, none⟩ = some (.slice ao n cap)) (hi : id < 1 ∨ (n : Int) < id) :
  Calls Tryz.prog 46 #[.pointer (some ⟨p, 0, none⟩), .int .i64 id] w fun e w' =>
   e = .returned (.tuple #[.agg #[.int .i64 0, .int .i64 0, .int .i64 0, .bool false, .bool false, .int .i64 0, .slice none 0 0, .slice none 0 0], .int .i64 5]) ∧ Kept NoBlk w w' := by
 have l1 := World.block_lt_of_cell? w _ hp
 by_cases h1 : id < 1
 ·go_enter Tryz.func46, Tryz.ntmps46
  go_wp2
  refine bodyPost_ret (v := .tuple #[.agg #[.int .i64 0, .int .i64 0, .int .i64 0, .bool false, .bool false, .int .i64 0, .slice none 0 0, .slice none 0 0], .int .i64 5]) (by simp [results, Tryz.results46, go_sem]) rfl ⟨rfl, ?_⟩
  exact (Kept.refl _ _).alloc _
 ·have h2 : (n : Int) < id := by omega
  clear hi
  go_enter Tryz.func46, Tryz.ntmps46
  go_wp2
  refine bodyPost_ret (v := .tuple #[.agg #[.int .i64 0, .int .i64 0, .int .i64 0, .bool false, .bool false, .int .i64 0, .slice none 0 0, .slice none 0 0], .int .i64 5]) (by simp [results, Tryz.results46, go_sem]) rfl ⟨rfl, ?_⟩
  exact (Kept.refl _ _).alloc _
end Go.Proofs.YtmcajfefagdbnaaGreat
namespace Go.Proofs.YtmcajfefagdbnaaGreat
open Go Go.RowKit
set_option maxHeartbeats 1600000 in
theorem sameTxn_true (st sa ne ag : Int) (wo wa : Bool) (rv rv' sv sv' : Value) (w : World)
  (hr : Hid (∀ W, Kept NoBlk w W → Calls Tryz.prog 55 #[rv, rv'] W fun e w' => e = .returned (.bool true) ∧ Kept NoBlk W w'))
  (hs : Hid (∀ W, Kept NoBlk w W → Calls Tryz.prog 86 #[sv, sv'] W fun e w' => e = .returned (.bool true) ∧ Kept NoBlk W w')) :
  Calls Tryz.prog 47 #[.agg #[.int .i64 st, .int .i64 sa, .int .i64 ne, .bool wo, .bool wa, .int .i64 ag, rv, sv], .agg #[.int .i64 st, .int .i64 sa, .int .i64 ne, .bool wo, .bool wa, .int .i64 ag, rv', sv']] w fun e w' =>
   e = .returned (.bool true) ∧ Kept NoBlk w w' := by
 have e1 : (st == st) = true := by simp
 have e2 : (sa == sa) = true := by simp
 have e3 : (ne == ne) = true := by simp
 have e4 : (ag == ag) = true := by simp
 have e5 : (wo == wo) = true := by simp
 have e6 : (wa == wa) = true := by simp
 go_enter Tryz.func47, Tryz.ntmps47
 go_wp2_with fail
 refine (hr.out _ (((Kept.refl NoBlk w).alloc _).alloc _)).mono ?_
 rintro e w1 ⟨rfl, hk1⟩
 have b1 := hk1.heap (block_alloc_old _ (block_alloc_new w _)) (fun x => x)
 have b2 := hk1.heap (block_alloc_new (w.alloc (.cells #[.int .i64 st, .int .i64 sa, .int .i64 ne, .bool wo, .bool wa, .int .i64 ag, rv, sv] 69)) _) (fun x => x)
 rw [show (w.alloc (.cells #[.int .i64 st, .int .i64 sa, .int .i64 ne, .bool wo, .bool wa, .int .i64 ag, rv, sv] 69)).heap.size = w.heap.size + 1 from by simp] at b2
 have d1 : w1.cell? ⟨w.heap.size, 7, none⟩ = some sv := by rw [cell_at b1]; rfl
 have d2 : w1.cell? ⟨w.heap.size + 1, 7, none⟩ = some sv' := by rw [cell_at b2]; rfl
 have HB1 : Hid _ := b1
 have HB2 : Hid _ := b2
 have HK1 : Hid _ := ((((Kept.refl NoBlk w).alloc _).alloc _).trans' hk1)
 clear b1 b2 hk1
 go_wp2_with fail
 refine (hs.out _ HK1.out).mono ?_
 rintro e w2 ⟨rfl, hk2⟩
 have b1 := hk2.heap HB1.out (fun x => x)
 have b2 := hk2.heap HB2.out (fun x => x)
 have f0 : w2.cell? ⟨w.heap.size, 0, none⟩ = some (.int .i64 st) := by rw [cell_at b1]; rfl
 have f1 : w2.cell? ⟨w.heap.size, 1, none⟩ = some (.int .i64 sa) := by rw [cell_at b1]; rfl
 have f2 : w2.cell? ⟨w.heap.size, 2, none⟩ = some (.int .i64 ne) := by rw [cell_at b1]; rfl
 have f3 : w2.cell? ⟨w.heap.size, 3, none⟩ = some (.bool wo) := by rw [cell_at b1]; rfl
 have f4 : w2.cell? ⟨w.heap.size, 4, none⟩ = some (.bool wa) := by rw [cell_at b1]; rfl
 have f5 : w2.cell? ⟨w.heap.size, 5, none⟩ = some (.int .i64 ag) := by rw [cell_at b1]; rfl
 have g0 : w2.cell? ⟨w.heap.size + 1, 0, none⟩ = some (.int .i64 st) := by rw [cell_at b2]; rfl
 have g1 : w2.cell? ⟨w.heap.size + 1, 1, none⟩ = some (.int .i64 sa) := by rw [cell_at b2]; rfl
 have g2 : w2.cell? ⟨w.heap.size + 1, 2, none⟩ = some (.int .i64 ne) := by rw [cell_at b2]; rfl
 have g3 : w2.cell? ⟨w.heap.size + 1, 3, none⟩ = some (.bool wo) := by rw [cell_at b2]; rfl
 have g4 : w2.cell? ⟨w.heap.size + 1, 4, none⟩ = some (.bool wa) := by rw [cell_at b2]; rfl
 have g5 : w2.cell? ⟨w.heap.size + 1, 5, none⟩ = some (.int .i64 ag) := by rw [cell_at b2]; rfl
 have HK2 : Hid _ := HK1.out.trans' hk2
 clear b1 b2 hk2 d1 d2 hr hs
 go_wp2_with fail
 go_ret
 exact ⟨by simp, HK2.out⟩
end Go.Proofs.YtmcajfefagdbnaaGreat
namespace Go.Proofs.YtmcajfefagdbnaaGreat
open Go Go.RowKit
theorem Kept.set1 (w : World) (b o : Nat) (v : Value) : Kept (Blk b) w (w.setCell ⟨b, o, none⟩ v) := (Kept.refl (Blk b) w).setCell (p := ⟨b, o, none⟩) (.inl rfl) v
theorem Kept.cell0 {w w' : World} (h : Kept NoBlk w w') {a : Addr} {v : Value} (hc : w.cell? a = some v) : w'.cell? a = some v := h.cell hc (fun x => x)
theorem from_new1 (w : World) (x : Value) (ty : TypeId) (h1 : x.oneCell' = true) : FromMem (w.alloc (.cells #[x] ty)) 1 (.slice (some ⟨w.heap.size, 0, none⟩) 1 1) 1 [x] := by
 refine ⟨⟨_, 1, rfl, fun h => by simp at h, ?_⟩, rfl, fun u hu => by simp at hu; subst hu; exact h1⟩
 intro ad had j u hu
 obtain rfl := Option.some.inj had
 match j, hu with
 | 0, hu => simp at hu; subst hu; rw [Addr.add_lit, cell_at (block_alloc_new w _)]; rfl
 | j + 1, hu => simp at hu
theorem Moved.keptOf {w w' : World} {v v' : Value} {need : Nat} (h : Moved w w' v v' need) : Kept (fun k => v.ownBlock = some k) w w' := by
 rcases h with ⟨_, _, _, hk⟩ | ⟨_, _, hk⟩
 ·exact hk
 ·exact hk.mono (fun _ x => x.elim)
theorem Moved.fresh {w w' : World} {v v' : Value} {need : Nat} (h : Moved w w' v v' need) : ∀ k, v'.ownBlock = some k → v.ownBlock = some k ∨ w.heap.size ≤ k := fun k hk => by
 rcases h with ⟨ho, _, _, _⟩ | ⟨_, ho, _⟩
 ·left; rw [← ho]; exact hk
 ·right; rw [hk] at ho; cases ho; exact Nat.le_refl _
theorem ownsRow_lt {w : World} {e : TypeId} {size : Nat} {v : Value} {n : Nat} {xs : List Value} (h : w.ownsRow 0 e size v n xs) : ∀ k, v.ownBlock = some k → k < w.heap.size := fun k hk => by
 obtain ⟨cur, hcur⟩ := ownsRow_block h hk
 exact lt_of_block hcur
end Go.Proofs.YtmcajfefagdbnaaGreat
namespace Go.Proofs.YtmcajfefagdbnaaGreat
open Go Go.RowKit Go.Maps
def inI (a : Int) : Prop := -9223372036854775808 ≤ a ∧ a ≤ 9223372036854775807
theorem wfI {a : Int} : (Lit.int .i64 a).wf = true ↔ inI a := by
 constructor
 ·intro h
  simp only [Lit.wf, Bool.and_eq_true, decide_eq_true_eq] at h
  exact h
 ·exact WalkArith.wf_i64
theorem int_inj {q : IntKind} {a b : Int} (h : Value.int q a = .int q b) : a = b := by cases h; rfl
def keyI : KeyTy Tryz.prog 3 Int where
 law := int_keyed Tryz.underlying3
 ok := inI
 va := Value.int .i64
 lit := Lit.int .i64
 key a h := keyOf_int_mk Tryz.underlying3 (wfI.2 h)
 inv v kl h := by
  obtain ⟨x, rfl, _, hw⟩ := Maps.keyOf_int_inv Tryz.underlying3 h
  exact ⟨x, wfI.1 hw, rfl⟩
 inj a b h := int_inj h
theorem holdRow : (168 : TypeId) < Tryz.prog.types.size := of_decide_eq_true (by kernel_rfl)
theorem holdCells : Tryz.prog.cellsOf 168 = 2 := by kernel_rfl
theorem holdLaid : laidOutB Tryz.prog = true := by kernel_rfl
theorem holdWide : (match Tryz.prog.underlying 168 with | some (.array _ _) | some (.struct _) => true | _ => false) = true := by kernel_rfl
set_option maxRecDepth 100000 in
theorem holdLaw : WideMaps.KeyLaw Tryz.prog 168 := deep_law_laid holdLaid (m := 2) (by omega) holdRow (by kernel_rfl) holdWide
theorem holdKey : Tryz.prog.keyType 168 = true := by kernel_rfl
theorem aboveSome {a n : Nat} (h : a < n) : ∃ m, n = m + 1 := ⟨n - 1, by omega⟩
theorem typesTwo : ∃ m, Tryz.prog.types.size = m + 1 := aboveSome holdRow
theorem intCells : Tryz.prog.cellsOf 3 = 1 := by kernel_rfl
def holdVal (x : Int × Int) : Value := .agg #[.int .i64 x.1, .int .i64 x.2]
def holdLit (x : Int × Int) : Lit := .string (keyBytes [.int .i64 x.1, .int .i64 x.2])
theorem pairKeyOf {P : Program} {k e : TypeId} {f0 f1 : Field} (hu : P.underlying k = some (.struct #[f0, f1])) (t0 : f0.type = e) (t1 : f1.type = e) (o0 : f0.offset = 0) (o1 : f1.offset = 1) (n0 : (f0.name != "_") = true) (n1 : (f1.name != "_") = true)
  (he : P.underlying e = some (.int .i64)) (hc : P.cellsOf e = 1) (hk : P.cellsOf k = 2) (kt : P.keyType k = true) (hsz : ∃ m, P.types.size = m + 1) (x : Int × Int) (h : inI x.1 ∧ inI x.2) : keyOf P k (holdVal x) = some (holdLit x) := by
 obtain ⟨m, hm⟩ := hsz
 have w1 := wfI.2 h.1
 have w2 := wfI.2 h.2
 simp only [bne_iff_ne, ne_eq] at n0 n1
 simp [keyOf, hu, kt, Value.formed, holdVal, hk, Program.keyLits, hm, Value.cells, he, hc, w1, w2, holdLit, t0, t1, o0, o1, n0, n1]
theorem pairInv {P : Program} {k e : TypeId} {f0 f1 : Field} (hu : P.underlying k = some (.struct #[f0, f1])) (t0 : f0.type = e) (t1 : f1.type = e) (o0 : f0.offset = 0) (o1 : f1.offset = 1) (n0 : (f0.name != "_") = true) (n1 : (f1.name != "_") = true)
  (he : P.underlying e = some (.int .i64)) (hc : P.cellsOf e = 1) (hk : P.cellsOf k = 2) (hsz : ∃ m, P.types.size = m + 1) (v : Value) (kl : Lit) (h : keyOf P k v = some kl) : ∃ x : Int × Int, (inI x.1 ∧ inI x.2) ∧ v = holdVal x := by
 obtain ⟨m, hm⟩ := hsz
 simp only [bne_iff_ne, ne_eq] at n0 n1
 simp only [keyOf, hu] at h
 split at h
 ·rename_i hf
  simp only [Bool.and_eq_true] at hf
  have hf2 := hf.2
  cases v <;> simp [Value.formed, hu, hk] at hf2
  rename_i cs
  obtain ⟨c0, c1, rfl⟩ : ∃ c0 c1, cs = #[c0, c1] := by
   obtain ⟨l⟩ := cs
   match l, hf2 with
   | [c0, c1], _ => exact ⟨c0, c1, rfl⟩
  simp [Program.keyLits, hm, Value.cells, hu, he, hc, hk, t0, t1, o0, o1, n0, n1] at h
  cases c0 <;> simp at h
  rename_i q0 a0
  by_cases e0 : q0 = .i64 ∧ (Lit.int .i64 a0).wf = true
  ·obtain ⟨rfl, w0⟩ := e0
   simp only [w0, and_self, if_true, Option.bind_some] at h
   cases c1 <;> simp at h
   rename_i q1 a1
   by_cases e1 : q1 = .i64 ∧ (Lit.int .i64 a1).wf = true
   ·obtain ⟨rfl, w1⟩ := e1
    exact ⟨(a0, a1), ⟨wfI.1 w0, wfI.1 w1⟩, rfl⟩
   ·simp [e1] at h
  ·simp [e0] at h
 ·cases h
theorem holdKeyOf (x : Int × Int) (h : inI x.1 ∧ inI x.2) : keyOf Tryz.prog 168 (holdVal x) = some (holdLit x) :=
 pairKeyOf Tryz.underlying168 rfl rfl rfl rfl (by decide) (by decide) Tryz.underlying3 intCells holdCells holdKey typesTwo x h
theorem holdInv (v : Value) (kl : Lit) (h : keyOf Tryz.prog 168 v = some kl) : ∃ x : Int × Int, (inI x.1 ∧ inI x.2) ∧ v = holdVal x :=
 pairInv Tryz.underlying168 rfl rfl rfl rfl (by decide) (by decide) Tryz.underlying3 intCells holdCells typesTwo v kl h
def keyH : KeyTy Tryz.prog 168 (Int × Int) where
 law := Keyed.of_law holdLaw
 ok x := inI x.1 ∧ inI x.2
 va := holdVal
 lit := holdLit
 key := holdKeyOf
 inv := holdInv
 inj a b h := by
  simp only [holdVal, Value.agg.injEq, Array.mk.injEq, List.cons.injEq, Value.int.injEq, true_and, and_true] at h
  exact Prod.ext h.1 h.2
end Go.Proofs.YtmcajfefagdbnaaGreat
namespace Go.Proofs.YtmcajfefagdbnaaGreat
open Go.RowKit
structure Op4 where
 k : Int
 a : Int
 b : Int
 c : Int
def Op4.z : Op4 := ⟨0, 0, 0, 0⟩
def Op4.ok (o : Op4) : Bool := opB o.k o.a o.b
def Op4.cells (o : Op4) : List Value := [.int .i64 o.k, .int .i64 o.a, .int .i64 o.b, .int .i64 o.c]
def OpsAt (w : World) (b off : Nat) (l : List Op4) : Prop := ∀ i, i < l.length →
 w.cell? ⟨b, off + i * 4, none⟩ = some (.int .i64 (l.getD i Op4.z).k) ∧ w.cell? ⟨b, off + i * 4 + 1, none⟩ = some (.int .i64 (l.getD i Op4.z).a) ∧
 w.cell? ⟨b, off + i * 4 + 2, none⟩ = some (.int .i64 (l.getD i Op4.z).b) ∧ w.cell? ⟨b, off + i * 4 + 3, none⟩ = some (.int .i64 (l.getD i Op4.z).c)
theorem OpsAt.kept {S : Nat → Prop} {w w' : World} {b off : Nat} {l : List Op4} (h : OpsAt w b off l) (hk : Kept S w w') (hn : ¬ S b) : OpsAt w' b off l := fun i hi =>
 ⟨hk.cell (h i hi).1 hn, hk.cell (h i hi).2.1 hn, hk.cell (h i hi).2.2.1 hn, hk.cell (h i hi).2.2.2 hn⟩
theorem all_take_succ (l : List Op4) (k : Nat) (hk : k < l.length) (h : (l.take k).all Op4.ok = true) : (l.take (k + 1)).all Op4.ok = (l.getD k Op4.z).ok := by
 rw [List.take_succ_eq_append_getElem hk, List.all_append, h]
 simp [List.getD, hk]
theorem all_false_of (l : List Op4) (k : Nat) (hk : k < l.length) (h : (l.getD k Op4.z).ok = false) : l.all Op4.ok = false := by
 rw [List.all_eq_false]
 exact ⟨l[k], List.getElem_mem hk, by simp [List.getD, hk] at h; simp [h]⟩
set_option maxHeartbeats 1600000 in
theorem allAllowed_some (b off cap : Nat) (l : List Op4) (w : World) (h : OpsAt w b off l) (hl : l.length ≤ 1048576) :
  Calls Tryz.prog 106 #[.slice (some ⟨b, off, none⟩) l.length cap] w fun e w' => e = .returned (.bool (l.all Op4.ok)) ∧ Kept NoBlk w w' := by
 generalize hn : l.length = n at hl ⊢
 have Hn : Hid _ := hn
 clear hn
 go_enter Tryz.func106, Tryz.ntmps106
 go_wp2
 go_loopw [7] (fun i wr => ∃ k : Nat, k ≤ n ∧ i = .int .i64 k ∧ (l.take k).all Op4.ok = true ∧ Kept NoBlk w wr) (fun i _ => n - (intOf i).toNat)
 case atStart => exact ⟨0, Nat.zero_le _, rfl, rfl, Kept.refl _ _⟩
 case round =>
  obtain ⟨k, hk, rfl, hall, hkw⟩ := hrel
  by_cases hlt : k < n
  ·have hkl : k < l.length := by rw [Hn.out]; exact hlt
   obtain ⟨g0, g1, g2, g3⟩ := (h.kept hkw (fun x => x)) k hkl
   have Hs : Hid _ := all_take_succ l k hkl hall
   have Hf : Hid _ := all_false_of l k hkl
   have Hk : Hid _ := hkw
   clear hkl h hall hkw
   generalize l.getD k Op4.z = o at *
   go_wp2_with fail
   refine (allowed_any _ _ _ _ _).mono ?_
   rintro e w' ⟨rfl, rfl⟩
   have hko : o.ok = opB o.k o.a o.b := rfl
   have Ho : Hid _ := hko
   clear hko
   generalize opB o.k o.a o.b = x at *
   cases x
   ·go_wp2_with fail
    go_ret
    exact ⟨ret_bool (Hf.out Ho.out).symm, (Hk.out.alloc _).alloc _⟩
   ·go_wp2_with fail
    go_roundw
    case rel => exact ⟨k + 1, by omega, by go_num, Hs.out.trans Ho.out, (Hk.out.alloc _).alloc _⟩
    case measure => simp [intOf]; omega
  ·go_wp2_with fail
   go_ret
   refine ⟨ret_bool ?_, hkw⟩
   rw [← hall, List.take_of_length_le (by rw [Hn.out]; omega)]
end Go.Proofs.YtmcajfefagdbnaaGreat
