import Derived.Test.YtmcajfefagdbnaaGreatJ05
import Derived.Test.YtmcajfefagdbnaaGreatJ06
import Derived.Test.YtmcajfefagdbnaaGreatJ04
import Derived.Deep.RegionHeld3
import Derived.Deep.DrawnRows
namespace Go.Proofs.YtmcajfefagdbnaaGreat
open Go Go.RowKit
theorem ret_pair {a b : Int} (n : Int) (h : a = b) : Ending.returned (.tuple #[.int .i64 n, .int .i64 a]) = .returned (.tuple #[.int .i64 n, .int .i64 b]) := by rw [h]
set_option maxHeartbeats 3200000 in
theorem wadmit_err (p : Nat) (v : Value) (l : List Op4) (m : Nat) (c : Int) (v0 v1 v2 v3 : Value) (w : World) (h : OpsSrc w v l) (hl : l.length ≤ 1048576) (hm : m ≤ 1048576)
  (hp : w.heap[p]? = some (.cells #[v0, v1, v2, v3, .int .i64 c] 47 (0, 0)))
  (hlv : Hid (∀ W, Kept NoBlk w W → Calls Tryz.prog 109 #[.pointer (some ⟨p, 0, none⟩)] W fun e w' => e = .returned (.int .i64 m) ∧ w' = W)) (he : admErr l m c ≠ 0) :
  Calls Tryz.prog 77 #[.pointer (some ⟨p, 0, none⟩), v] w fun e w' => e = .returned (.tuple #[.int .i64 0, .int .i64 (admErr l m c)]) ∧ Kept NoBlk w w' := by
 obtain ⟨ao, cp, rfl, h⟩ := h
 by_cases h1 : 12 < l.length
 ·have he2 : Hid (admErr l m c = 2) := by simp [Hid, admErr, h1]
  clear he h hp
  go_enter Tryz.func77, Tryz.ntmps77
  go_wp2_with fail
  go_ret2
  exact ⟨ret_pair 0 he2.out.symm, Kept.refl _ _⟩
 generalize hn : l.length = n at h hl h1 ⊢
 have Hn : Hid _ := hn
 have HE : Hid _ := he
 have HP : Hid _ := hp
 clear hn he hp
 go_enter Tryz.func77, Tryz.ntmps77
 go_wp2_with fail
 go_loopw [6] (fun i wr => ∃ k : Nat, k ≤ n ∧ i = .int .i64 k ∧ (l.take k).all Op4.ok = true ∧ Kept NoBlk w wr) (fun i _ => n - (intOf i).toNat)
 case atStart => exact ⟨0, Nat.zero_le _, rfl, rfl, Kept.refl _ _⟩
 case round =>
  obtain ⟨k, hk, rfl, hall, hkw⟩ := hrel
  by_cases hlt : k < n
  ·have hkl : k < l.length := by rw [Hn.out]; exact hlt
   obtain ⟨b, off, rfl, hat⟩ := h (by omega)
   obtain ⟨g0, g1, g2, g3⟩ := (hat.kept hkw (fun x => x)) k hkl
   have Hs : Hid _ := all_take_succ l k hkl hall
   have Hf : Hid _ := all_false_of l k hkl
   have Hk : Hid _ := hkw
   clear hkl h hat hall hkw
   generalize l.getD k Op4.z = o at *
   go_wp2_with fail
   refine (may_any _ _ _ _ _).mono ?_
   rintro e w' ⟨rfl, rfl⟩
   have hko : o.ok = opB o.k o.a o.b := rfl
   have Ho : Hid _ := hko
   clear hko
   generalize opB o.k o.a o.b = x at *
   cases x
   ·go_wp2_with fail
    go_ret2
    refine ⟨ret_pair 0 ?_, Hk.out.alloc _⟩
    have := Hf.out Ho.out
    have hh1 := h1
    rw [← Hn.out] at hh1
    simp [admErr, this, hh1]
   ·go_wp2_with fail
    go_roundw
    case rel => exact ⟨k + 1, by omega, by go_num, Hs.out.trans Ho.out, Hk.out.alloc _⟩
    case measure => simp [intOf]; omega
  ·have ha : Hid (l.all Op4.ok = true) := by
    unfold Hid
    rw [← hall, List.take_of_length_le (by rw [Hn.out]; omega)]
   have hp := hkw.heap HP.out (fun x => x)
   have hc : wr.cell? ⟨p, 4, none⟩ = some (.int .i64 c) := by rw [cell_at hp]; rfl
   have Hk : Hid _ := hkw
   clear h hall hkw hp
   go_wp2_with fail
   refine (hlv.out _ Hk.out).mono ?_
   rintro e w' ⟨rfl, rfl⟩
   have hh1 : Hid (¬ 12 < l.length) := by unfold Hid; rw [Hn.out]; exact h1
   by_cases h3 : 12 ≤ m
   ·go_wp2_with fail
    go_ret2
    exact ⟨ret_pair 0 (by simp [admErr, hh1.out, ha.out, h3]), Hk.out⟩
   ·by_cases h4 : 1099511627776 ≤ c
    ·go_wp2_with fail
     go_ret2
     exact ⟨ret_pair 0 (by simp [admErr, hh1.out, ha.out, h3, h4]), Hk.out⟩
    ·exact absurd (by simp [admErr, hh1.out, ha.out, h3, h4]) HE.out
end Go.Proofs.YtmcajfefagdbnaaGreat
namespace Go.Proofs.YtmcajfefagdbnaaGreat
open Go Go.RowKit
def opPads : List Value := [.int .i64 77, .int .i64 0, .int .i64 0, .int .i64 0, .int .i64 77, .int .i64 0, .int .i64 0, .int .i64 0, .int .i64 77, .int .i64 0, .int .i64 0, .int .i64 0, .int .i64 77, .int .i64 0, .int .i64 0, .int .i64 0]
theorem opPads_get (k : Nat) (hk : k < 4) : opPads[k * 4]? = some (.int .i64 77) ∧ opPads[k * 4 + 1]? = some (.int .i64 0) ∧ opPads[k * 4 + 2]? = some (.int .i64 0) ∧ opPads[k * 4 + 3]? = some (.int .i64 0) := by
 match k, hk with
 | 0, _ => exact ⟨rfl, rfl, rfl, rfl⟩
 | 1, _ => exact ⟨rfl, rfl, rfl, rfl⟩
 | 2, _ => exact ⟨rfl, rfl, rfl, rfl⟩
 | 3, _ => exact ⟨rfl, rfl, rfl, rfl⟩
theorem opCellsPads_get (l : List Op4) (k : Nat) (hk : k < 4) : (opCells l ++ opPads)[(l.length + k) * 4]? = some (.int .i64 77) ∧ (opCells l ++ opPads)[(l.length + k) * 4 + 1]? = some (.int .i64 0) ∧ (opCells l ++ opPads)[(l.length + k) * 4 + 2]? = some (.int .i64 0) ∧ (opCells l ++ opPads)[(l.length + k) * 4 + 3]? = some (.int .i64 0) := by
 have h := opPads_get k hk
 have hl := opCells_len l
 rw [List.getElem?_append_right (by omega), List.getElem?_append_right (by omega), List.getElem?_append_right (by omega), List.getElem?_append_right (by omega), hl]
 rw [show (l.length + k) * 4 - l.length * 4 = k * 4 from by omega, show (l.length + k) * 4 + 1 - l.length * 4 = k * 4 + 1 from by omega, show (l.length + k) * 4 + 2 - l.length * 4 = k * 4 + 2 from by omega, show (l.length + k) * 4 + 3 - l.length * 4 = k * 4 + 3 from by omega]
 exact h
theorem opCells_get (l : List Op4) (i : Nat) (h : i < l.length) : (opCells l)[i * 4]? = some (.int .i64 (l.getD i Op4.z).k) ∧ (opCells l)[i * 4 + 1]? = some (.int .i64 (l.getD i Op4.z).a) ∧ (opCells l)[i * 4 + 2]? = some (.int .i64 (l.getD i Op4.z).b) ∧ (opCells l)[i * 4 + 3]? = some (.int .i64 (l.getD i Op4.z).c) := by
 induction l generalizing i with
 | nil => simp at h
 | cons r l ih =>
  match i with
  | 0 => simp [opCells, Op4.cells]
  | i + 1 =>
   have := ih i (by simpa using h)
   have e : opCells (r :: l) = .int .i64 r.k :: .int .i64 r.a :: .int .i64 r.b :: .int .i64 r.c :: opCells l := by simp [opCells, Op4.cells]
   rw [e, show (i + 1) * 4 = i * 4 + 1 + 1 + 1 + 1 from by omega]
   simp only [List.getElem?_cons_succ, List.getD_cons_succ]
   exact this
theorem opPads_low (l : List Op4) (i : Nat) (h : i < l.length) : (opCells l ++ opPads)[i * 4]? = some (.int .i64 (l.getD i Op4.z).k) ∧ (opCells l ++ opPads)[i * 4 + 1]? = some (.int .i64 (l.getD i Op4.z).a) ∧ (opCells l ++ opPads)[i * 4 + 2]? = some (.int .i64 (l.getD i Op4.z).b) ∧ (opCells l ++ opPads)[i * 4 + 3]? = some (.int .i64 (l.getD i Op4.z).c) := by
 have hl := opCells_len l
 rw [List.getElem?_append_left (by omega), List.getElem?_append_left (by omega), List.getElem?_append_left (by omega), List.getElem?_append_left (by omega)]
 exact opCells_get l i h
theorem opsAt_given {w : World} {g : Nat} {l : List Op4} {t : TypeId} (h : w.heap[g]? = some (.cells (opCells l ++ opPads).toArray t (0, 0))) : OpsAt w g 0 l := fun i hi => by
 have := opPads_low l i hi
 rw [cell_at h, cell_at h, cell_at h, cell_at h, List.getElem?_toArray, List.getElem?_toArray, List.getElem?_toArray, List.getElem?_toArray, Nat.zero_add]
 exact this
def set4 (cs : Array Value) (m : Nat) (a b c d : Value) : Array Value := (((cs.setIfInBounds m a).setIfInBounds (m + 1) b).setIfInBounds (m + 2) c).setIfInBounds (m + 3) d
theorem set4_size (cs : Array Value) (m : Nat) (a b c d : Value) : (set4 cs m a b c d).size = cs.size := by simp [set4]
theorem set4_pref {cs : Array Value} {L : List Value} {m : Nat} {a b c d : Value} (hsz : m + 4 ≤ cs.size) (h : ∀ j, j < m → cs[j]? = L[j]?) (e0 : L[m]? = some a) (e1 : L[m + 1]? = some b) (e2 : L[m + 2]? = some c) (e3 : L[m + 3]? = some d) :
  ∀ j, j < m + 4 → (set4 cs m a b c d)[j]? = L[j]? := by
 intro j hj
 unfold set4
 simp only [Array.getElem?_setIfInBounds, Array.size_setIfInBounds]
 by_cases h3 : m + 3 = j
 ·subst h3; rw [if_pos rfl, if_pos (by omega), e3]
 rw [if_neg h3]
 by_cases h2 : m + 2 = j
 ·subst h2; rw [if_pos rfl, if_pos (by omega), e2]
 rw [if_neg h2]
 by_cases h1 : m + 1 = j
 ·subst h1; rw [if_pos rfl, if_pos (by omega), e1]
 rw [if_neg h1]
 by_cases h0 : m = j
 ·subst h0; rw [if_pos rfl, if_pos (by omega), e0]
 rw [if_neg h0]
 exact h j (by omega)
theorem set4_behind {cs : Array Value} {L : List Value} {m : Nat} {a b c d : Value} (h : ∀ j, m ≤ j → cs[j]? = L[j]?) : ∀ j, m + 4 ≤ j → (set4 cs m a b c d)[j]? = L[j]? := by
 intro j hj
 unfold set4
 simp only [Array.getElem?_setIfInBounds]
 rw [if_neg (by omega), if_neg (by omega), if_neg (by omega), if_neg (by omega)]
 exact h j (by omega)
def setW4 (w : World) (g m : Nat) (a b c d : Value) : World := (((w.setCell ⟨g, m, none⟩ a).setCell ⟨g, m + 1, none⟩ b).setCell ⟨g, m + 2, none⟩ c).setCell ⟨g, m + 3, none⟩ d
theorem setW4_at {w : World} {g : Nat} {cs : Array Value} {t : TypeId} (h : w.heap[g]? = some (.cells cs t (0, 0))) (m : Nat) (a b c d : Value) : (setW4 w g m a b c d).heap[g]? = some (.cells (set4 cs m a b c d) t (0, 0)) :=
 block_setCell (block_setCell (block_setCell (block_setCell h a) b) c) d
theorem setW4_kept (w : World) (g m : Nat) (a b c d : Value) : Kept (Blk g) w (setW4 w g m a b c d) :=
 (((Kept.set1 w g m a).trans' (Kept.set1 _ g (m + 1) b)).trans' (Kept.set1 _ g (m + 2) c)).trans' (Kept.set1 _ g (m + 3) d)
def Disj (S T : Nat → Prop) : Prop := ∀ k, S k → ¬ T k
end Go.Proofs.YtmcajfefagdbnaaGreat
namespace Go.Proofs.YtmcajfefagdbnaaGreat
open Go Go.RowKit
def mks (c : List Value) : Nat → List Value
 | 0 => []
 | n + 1 => c ++ mks c n
theorem mks_len (c : List Value) (n : Nat) : (mks c n).length = n * c.length := by
 induction n with
 | zero => simp [mks]
 | succ n ih => simp only [mks, List.length_append, ih, Nat.succ_mul]; omega
theorem mks_add (c : List Value) (n m : Nat) : mks c n ++ mks c m = mks c (n + m) := by
 induction n with
 | zero => simp [mks]
 | succ n ih => rw [show n + 1 + m = (n + m) + 1 from by omega]; simp only [mks, List.append_assoc, ih]
theorem mks_get (c : List Value) : ∀ (n j i : Nat), j < n → i < c.length → (mks c n)[j * c.length + i]? = c[i]?
 | 0, j, i, h, _ => by omega
 | n + 1, 0, i, _, hi => by
  simp only [mks, Nat.zero_mul, Nat.zero_add]
  rw [List.getElem?_append_left hi]
 | n + 1, j + 1, i, h, hi => by
  have := mks_get c n j i (by omega) hi
  simp only [mks]
  rw [List.getElem?_append_right (by rw [Nat.succ_mul]; omega), show (j + 1) * c.length + i - c.length = j * c.length + i from by rw [Nat.succ_mul]; omega]
  exact this
theorem RowAt.pre {w : World} {e : TypeId} {size n m g off cap : Nat} {xs ys : List Value} (h : RowAt w e size (.slice (some ⟨g, off, none⟩) n cap) n (xs ++ ys)) (hx : xs.length = m * size) (hm : m ≤ n) : RowAt w e size (.slice (some ⟨g, off, none⟩) m cap) m xs := by
 rcases h.2 with ⟨h0, _⟩ | ⟨g', off', cap', cur, h0, hg, h1, h2, h3, h4⟩
 ·cases h0
 ·simp only [Value.slice.injEq, Option.some.injEq, Addr.mk.injEq, and_true, true_and] at h0
  obtain ⟨⟨rfl, rfl⟩, rfl⟩ := h0
  exact ⟨hx, .inr ⟨g, off, cap, cur, rfl, hg, by omega, h2, h3, fun j u hu => h4 j u (by rw [List.getElem?_append_left (List.getElem?_eq_some_iff.1 hu).1]; exact hu)⟩⟩
theorem RowAt.setc {w : World} {e : TypeId} {size n g off cap : Nat} {xs : List Value} (h : RowAt w e size (.slice (some ⟨g, off, none⟩) n cap) n xs) (j : Nat) (u : Value) : RowAt (w.setCell ⟨g, off + j, none⟩ u) e size (.slice (some ⟨g, off, none⟩) n cap) n (xs.set j u) := by
 rcases h.2 with ⟨h0, _⟩ | ⟨g', off', cap', cur, h0, hg, h1, h2, h3, h4⟩
 ·cases h0
 ·simp only [Value.slice.injEq, Option.some.injEq, Addr.mk.injEq, and_true, true_and] at h0
  obtain ⟨⟨rfl, rfl⟩, rfl⟩ := h0
  refine ⟨by rw [List.length_set]; exact h.1, .inr ⟨g, off, cap, cur.setIfInBounds (off + j) u, rfl, block_setCell hg u, h1, h2, by rw [Array.size_setIfInBounds]; exact h3, fun i v hv => ?_⟩⟩
  rw [List.getElem?_set] at hv
  split at hv
  ·rename_i e1
   subst e1
   split at hv
   ·rename_i hl
    obtain rfl := Option.some.inj hv
    have hlt : off + j < cur.size := by
     obtain ⟨y, hy⟩ : ∃ y, xs[j]? = some y := ⟨_, List.getElem?_eq_getElem hl⟩
     have := h4 j y hy
     exact (Array.getElem?_eq_some_iff.1 this).1
    rw [Array.getElem?_setIfInBounds]
    simp [hlt]
   ·cases hv
  ·rename_i e1
   rw [Array.getElem?_setIfInBounds, if_neg (by omega)]
   exact h4 i v hv
theorem RowAt.place {w : World} {e : TypeId} {size n cp : Nat} {ao : Option Addr} {xs : List Value} (h : RowAt w e size (.slice ao n cp) n xs) (h0 : 0 < n) : ∃ g off, ao = some ⟨g, off, none⟩ := by
 rcases h.2 with ⟨_, h1⟩ | ⟨g, off, cap, cur, h1, _⟩
 ·omega
 ·simp only [Value.slice.injEq] at h1
  exact ⟨g, off, h1.1⟩
theorem mks_snoc (c : List Value) (k : Nat) : mks c (k + 1) = mks c k ++ c := by
 have := mks_add c k 1
 rw [← this]
 simp [mks]
theorem mks_set1 {c0 : Value} (xs : List Value) (k : Nat) (h : k + 1 ≤ xs.length) : (mks [c0] k ++ xs.drop (k * 1)).set k c0 = mks [c0] (k + 1) ++ xs.drop ((k + 1) * 1) := by
 have hl : (mks [c0] k).length = k := by rw [mks_len]; simp
 rw [Nat.mul_one, Nat.mul_one, mks_snoc, List.drop_eq_getElem_cons (show k < xs.length by omega), List.set_append_right _ _ (by omega), hl, Nat.sub_self, List.set_cons_zero]
 simp
theorem mks_set2 {c0 c1 : Value} (xs : List Value) (k : Nat) (h : k * 2 + 2 ≤ xs.length) : ((mks [c0, c1] k ++ xs.drop (k * 2)).set (k * 2) c0).set (k * 2 + 1) c1 = mks [c0, c1] (k + 1) ++ xs.drop ((k + 1) * 2) := by
 have hl : (mks [c0, c1] k).length = k * 2 := by rw [mks_len]; rfl
 rw [mks_snoc, List.drop_eq_getElem_cons (show k * 2 < xs.length by omega), List.drop_eq_getElem_cons (show k * 2 + 1 < xs.length by omega), List.set_append_right _ _ (by omega), hl, Nat.sub_self, List.set_cons_zero, List.set_append_right _ _ (by omega), hl,
  show k * 2 + 1 - k * 2 = 1 from by omega, List.set_cons_succ, List.set_cons_zero, show (k + 1) * 2 = k * 2 + 1 + 1 from by omega]
 simp
theorem mks_set3 {c0 c1 c2 : Value} (xs : List Value) (k : Nat) (h : k * 3 + 3 ≤ xs.length) : (((mks [c0, c1, c2] k ++ xs.drop (k * 3)).set (k * 3) c0).set (k * 3 + 1) c1).set (k * 3 + 2) c2 = mks [c0, c1, c2] (k + 1) ++ xs.drop ((k + 1) * 3) := by
 have hl : (mks [c0, c1, c2] k).length = k * 3 := by rw [mks_len]; rfl
 rw [mks_snoc, List.drop_eq_getElem_cons (show k * 3 < xs.length by omega), List.drop_eq_getElem_cons (show k * 3 + 1 < xs.length by omega), List.drop_eq_getElem_cons (show k * 3 + 1 + 1 < xs.length by omega), List.set_append_right _ _ (by omega), hl, Nat.sub_self, List.set_cons_zero, List.set_append_right _ _ (by omega), hl,
  show k * 3 + 1 - k * 3 = 1 from by omega, List.set_cons_succ, List.set_cons_zero, List.set_append_right _ _ (by omega), hl, show k * 3 + 2 - k * 3 = 2 from by omega, List.set_cons_succ, List.set_cons_succ, List.set_cons_zero, show (k + 1) * 3 = k * 3 + 1 + 1 + 1 from by omega]
 simp
theorem infoLockT : (Tryz.prog.info? 107).map (fun i => (i.zero, i.size, i.bytes)) = some (some (.agg #[.int .i64 0, .int .i64 0]), 2, 16) := by kernel_rfl
theorem infoRowT : (Tryz.prog.info? 95).map (fun i => (i.zero, i.size, i.bytes)) = some (some (.agg #[.int .i64 0, .int .i64 0]), 2, 16) := by kernel_rfl
theorem infoLLocks : (Tryz.prog.info? 74).map (fun i => (i.zero, i.size, i.bytes)) = some (some (.slice none 0 0), 1, 24) := by kernel_rfl
theorem infoLRows : (Tryz.prog.info? 22).map (fun i => (i.zero, i.size, i.bytes)) = some (some (.slice none 0 0), 1, 24) := by kernel_rfl
theorem mark4 {N j : Nat} (h : N % 4 = 0) (hj : j < 4) : mark (N + j) = mark N := by
 unfold mark
 rw [show (N + j) / 4 = N / 4 from by omega]
theorem get4 {vs : List Value} {N : Nat} (hl : vs.length = N) (x0 x1 x2 x3 : Value) :
  (∀ i, i < N → (vs ++ [x0, x1, x2, x3])[i]? = vs[i]?) ∧ (vs ++ [x0, x1, x2, x3])[N]? = some x0 ∧ (vs ++ [x0, x1, x2, x3])[N + 1]? = some x1 ∧ (vs ++ [x0, x1, x2, x3])[N + 2]? = some x2 ∧ (vs ++ [x0, x1, x2, x3])[N + 3]? = some x3 := by
 subst hl
 refine ⟨fun i hi => List.getElem?_append_left hi, ?_, ?_, ?_, ?_⟩ <;> (rw [List.getElem?_append_right (by omega)]; simp)
def Moved2 (w w' : World) (v v' : Value) (n need : Nat) : Prop :=
 (∃ ao c, v = .slice ao n c ∧ v' = .slice ao need c ∧ need ≤ c ∧ Kept (fun k => v.ownBlock = some k) w w') ∨ (capOf v < need ∧ v'.ownBlock = some w.heap.size ∧ Kept NoBlk w w')
theorem run_append_row2 {P : Program} (w : World) (t ty e : TypeId) (i : TypeInfo) (z : Value) (size bytes : Nat) (ht : P.underlying t = some (.slice e)) (hi : P.info? e = some i) (hz : i.zero = some z)
  (hsize : i.size = size) (hby : i.bytes = bytes) (hzs : z.cells.size = size)
  (v : Value) (n : Nat) (xs : List Value) (hown : RowAt w e size v n xs) (x : Value) (m : Nat) (news : List Value) (hx : FromMem w size x m news)
  (h63 : n + m ≤ maxLen) (hbytes : (n + m) * bytes ≤ 140737488355328) (hm : 0 < m) :
  ∃ v' w', (Builtin.append_ #[t, t] ty #[v, x]).run P w = .ok v' w' ∧ RowAt w' e size v' (n + m) (xs ++ news) ∧ Moved2 w w' v v' n (n + m) := by
 obtain ⟨v', w', hr, h1, h2⟩ := run_append_row (P := P) w t ty e i z size bytes ht hi hz hsize hby hzs v n xs hown x m news hx h63 hbytes
 refine ⟨v', w', hr, h1, ?_⟩
 rcases h2 with ⟨ho, hc, hn, hk⟩ | h2
 ·left
  rcases hown.2 with ⟨rfl, rfl⟩ | ⟨g, off, cap, cur, rfl, hg, hnc, hcm, hcs, htake⟩
  ·simp only [capOf] at hn
   omega
  ·simp only [capOf] at hn
   subst hsize
   have hle : (n + m) * i.size ≤ cap * i.size := Nat.mul_le_mul_right _ hn
   have hfit : off + n * i.size + news.length ≤ cur.size := by rw [hx.len, Nat.add_assoc, ← Nat.add_mul]; omega
   have hst := run_storeCells_at P g (off + n * i.size) e news 0 cur w hg (by simpa using hfit) hx.one
   simp only [Nat.add_zero] at hst
   have hsrc := hx.src (P := P) ht
   have hr' : (Builtin.append_ #[t, t] ty #[.slice (some ⟨g, off, none⟩) n cap, x]).run P w =
     .ok (.slice (some ⟨g, off, none⟩) (n + m) cap) (w.setRow g (cur.toList.take (off + n * i.size) ++ news ++ cur.toList.drop (off + n * i.size + news.length)).toArray) := by
    simp [Builtin.append_, run_underlying ht, sizeOf, typeInfo, hi, hsrc.len, hn, hsrc.cells, Addr.add_lit, hst]
   rw [hr'] at hr
   injection hr with e1 e2
   exact ⟨_, cap, rfl, e1.symm, hn, hk⟩
 ·exact .inr h2
theorem wpList_append_row2 {P : Program} {w : World} {ops : Array Oper} {rest : List Oper} {o : Oper} {a : Act} {Q : Exit → Act → World → Prop} (hgd : o.guard = none) (s x : Operand) (t : TypeId)
  (ho : o.op = .call { callee := .builtin .append, args := #[s, x], argTypes := #[t, t] })
  (e : TypeId) (i : TypeInfo) (z : Value) (size bytes : Nat) (ht : P.underlying t = some (.slice e)) (hi : P.info? e = some i) (hz : i.zero = some z)
  (hsize : i.size = size) (hby : i.bytes = bytes) (hzs : z.cells.size = size)
  (v : Value) (n : Nat) (xs : List Value) (hs : a.eval s = v) (hown : RowAt w e size v n xs) (xv : Value) (m : Nat) (news : List Value) (hx : a.eval x = xv) (hsrc : FromMem w size xv m news)
  (h63 : n + m ≤ maxLen) (hbytes : (n + m) * bytes ≤ 140737488355328) (hm : 0 < m)
  (h : ∀ ao' c' w', RowAt w' e size (.slice ao' (n + m) c') (n + m) (xs ++ news) → Moved2 w w' v (.slice ao' (n + m) c') n (n + m) → wpList P ops Q rest (a.put o.dst (.slice ao' (n + m) c')) w') : wpList P ops Q (o :: rest) a w := by
 refine wpList_plain hgd fun K hK => ?_
 obtain ⟨v', w', hr, h2, h3⟩ := run_append_row2 (P := P) w t o.type e i z size bytes ht hi hz hsize hby hzs v n xs hown xv m news hsrc h63 hbytes hm
 unfold Oper.wp
 simp only [execOp, ho, resolve, invoke, builtin, Sem.run_bind, Sem.run_pure, Result.andThen_ok, List.map_toArray, List.map_cons, List.map_nil, hs, hx, hr]
 obtain ⟨ao', c', rfl, _, _⟩ := h2.form
 exact hK _ _ (h ao' c' w' h2 h3)
structure TkI (w : World) (e : TypeId) (c : List Value) (l : Value) (n : Nat) (xs : List (Value × Nat)) (W : World) : Prop where
 kept : Kept (fun b => l.ownBlock = some b) w W
 own : RowAt W e c.length l n (mks c n)
 rows : ∀ x ∈ xs, RowAt W e c.length x.1 x.2 (mks c x.2) ∧ ∀ b, x.1.ownBlock = some b → l.ownBlock = some b ∨ w.heap.size ≤ b
 pre : ∀ x ∈ xs, ∀ b, x.1.ownBlock = some b → l.ownBlock = some b → ∃ ao cap, l = .slice ao n cap ∧ x.1 = .slice ao x.2 cap
theorem RowAt.cut {w : World} {e : TypeId} {c : List Value} {ao : Option Addr} {cap n m : Nat} (h : RowAt w e c.length (.slice ao n cap) n (mks c n)) (hm : m ≤ n) (ha : ao ≠ none) : RowAt w e c.length (.slice ao m cap) m (mks c m) := by
 rcases h.2 with ⟨h0, _⟩ | ⟨g', off', cap', cur, h0, _⟩
 ·simp only [Value.slice.injEq] at h0
  exact absurd h0.1 ha
 ·simp only [Value.slice.injEq] at h0
  obtain ⟨rfl, _, rfl⟩ := h0
  rw [show n = m + (n - m) from by omega, ← mks_add, show m + (n - m) = n from by omega] at h
  exact h.pre (mks_len c m) hm
theorem TkI.push {w : World} {e : TypeId} {c : List Value} {l : Value} {n : Nat} {xs : List (Value × Nat)} {W W1 W2 : World} (h : TkI w e c l n xs W) (hka : Kept NoBlk W W1) {v' : Value} {need : Nat} (hx : ∀ x ∈ xs, x.2 ≤ need) (hn : n ≤ need)
  (hown : RowAt W2 e c.length v' need (mks c need)) (hmv : Moved2 W1 W2 l v' n need) : TkI w e c l n (xs ++ [(v', need)]) W2 := by
 have hll := h.own.lt
 rcases hmv with ⟨ao, cp, rfl, rfl, hcp, hk⟩ | ⟨hcp, hb, hk⟩
 ·have hkept : Kept (fun b => (Value.slice ao n cp).ownBlock = some b) W W2 := (hka.mono (fun _ x => x.elim)).trans' hk
  have hsame : (Value.slice ao n cp).ownBlock = (Value.slice ao need cp).ownBlock := by cases ao <;> rfl
  refine ⟨h.kept.trans' hkept, ?_, fun x hx0 => ?_, fun x hx0 b h1 h2 => ?_⟩
  ·cases ao with
   | none => exact h.own.kept hkept (fun k hk0 => by simp [Value.ownBlock] at hk0)
   | some ad => exact hown.cut hn (by simp)
  ·rcases List.mem_append.1 hx0 with hx1 | hx1
   ·obtain ⟨r1, r2⟩ := h.rows x hx1
    refine ⟨?_, r2⟩
    by_cases hs : ∃ b, x.1.ownBlock = some b ∧ (Value.slice ao n cp).ownBlock = some b
    ·obtain ⟨b, b1, b2⟩ := hs
     obtain ⟨ao', cap', e1, e2⟩ := h.pre x hx1 b b1 b2
     simp only [Value.slice.injEq, true_and] at e1
     obtain ⟨rfl, rfl⟩ := e1
     rw [e2]
     exact hown.cut (hx x hx1) (fun e0 => by rw [e0] at b2; simp [Value.ownBlock] at b2)
    ·exact r1.kept hkept (fun k k1 k2 => hs ⟨k, k1, k2⟩)
   ·simp only [List.mem_singleton] at hx1
    subst hx1
    exact ⟨hown, fun b hb => .inl (by rw [hsame]; exact hb)⟩
  ·rcases List.mem_append.1 hx0 with hx1 | hx1
   ·exact h.pre x hx1 b h1 h2
   ·simp only [List.mem_singleton] at hx1
    subst hx1
    exact ⟨ao, cp, rfl, rfl⟩
 ·have hkept : Kept NoBlk W W2 := hka.trans' hk
  have hs1 : W.heap.size ≤ W1.heap.size := hka.size
  have hs0 : w.heap.size ≤ W.heap.size := h.kept.size
  refine ⟨h.kept.trans hkept (fun _ x => x.elim), h.own.kept hkept (fun _ _ x => x), fun x hx0 => ?_, fun x hx0 b h1 h2 => ?_⟩
  ·rcases List.mem_append.1 hx0 with hx1 | hx1
   ·obtain ⟨r1, r2⟩ := h.rows x hx1
    exact ⟨r1.kept hkept (fun _ _ x => x), r2⟩
   ·simp only [List.mem_singleton] at hx1
    subst hx1
    refine ⟨hown, fun b hb' => .inr ?_⟩
    rw [hb] at hb'
    cases hb'
    omega
  ·rcases List.mem_append.1 hx0 with hx1 | hx1
   ·exact h.pre x hx1 b h1 h2
   ·simp only [List.mem_singleton] at hx1
    subst hx1
    have := hll b h2
    rw [hb] at h1
    cases h1
    omega
end Go.Proofs.YtmcajfefagdbnaaGreat
namespace Go.Proofs.YtmcajfefagdbnaaGreat
open Go Go.RowKit Go.Sort Go.Lib
theorem isNaN_ok (x : Int) (w : World) : Calls Tryz.prog 138 #[.int .i64 x] w fun e w' => e = .returned (.bool false) ∧ w' = w := by
 go_enter Tryz.func138, Tryz.ntmps138
 go_wp2_with fail
 go_ret
 exact ⟨by simp, rfl⟩
theorem compare_ok (x y : Int) (w : World) : Calls Tryz.prog 103 #[.int .i64 x, .int .i64 y] w fun e w' => e = .returned (.int .i64 (Lib.compareInt x y)) ∧ w' = w := by
 by_cases h1 : x < y
 ·have e : Lib.compareInt x y = -1 := by simp [Lib.compareInt, h1]
  rw [e]
  go_enter Tryz.func103, Tryz.ntmps103
  go_wp2_with (go_at_call 138; refine (isNaN_ok _ _).mono ?_; rintro e w' ⟨rfl, rfl⟩)
  go_ret
  exact ⟨rfl, rfl⟩
 ·by_cases h2 : y < x
  ·have e : Lib.compareInt x y = 1 := by simp [Lib.compareInt, h1, h2]
   rw [e]
   go_enter Tryz.func103, Tryz.ntmps103
   go_wp2_with (go_at_call 138; refine (isNaN_ok _ _).mono ?_; rintro e w' ⟨rfl, rfl⟩)
   go_ret
   exact ⟨rfl, rfl⟩
  ·have e : Lib.compareInt x y = 0 := by simp [Lib.compareInt, h1, h2]
   rw [e]
   go_enter Tryz.func103, Tryz.ntmps103
   go_wp2_with (go_at_call 138; refine (isNaN_ok _ _).mono ?_; rintro e w' ⟨rfl, rfl⟩)
   go_ret
   exact ⟨rfl, rfl⟩
theorem closure_ok (x y : Int × Int) (W : World) : Calls Tryz.prog 102 #[.agg #[.int .i64 x.1, .int .i64 x.2], .agg #[.int .i64 y.1, .int .i64 y.2]] W fun e w' => e = .returned (.int .i64 (Lib.compareInt x.1 y.1)) ∧ ∃ q os', w' = grow (W.drewN q) os' := by
 have hcon := fun W' => compare_ok x.1 y.1 W'
 generalize Lib.compareInt x.1 y.1 = r at hcon ⊢
 go_enter Tryz.func102, Tryz.ntmps102
 go_wp2_with (go_at_call 103; refine (hcon _).mono ?_; rintro e w' ⟨rfl, rfl⟩)
 go_ret
 exact ⟨rfl, 0, _, by rw [alloc_eq_grow, alloc_eq_grow, grow_grow]; rfl⟩
theorem cmpLays (blk off size : Nat) (w : World) : CmpLays Tryz.prog 102 #[] encLk 2 (fun x y => Lib.compareInt x.1 y.1) blk off size w :=
 fun _ _ _ _ x y => closure_ok x y _
theorem len12 (n : Nat) (W : World) (h : n ≤ 12) : Calls Tryz.prog 137 #[.int .u64 n] W fun e w' => (∃ l : Int, e = .returned (.int .i64 l)) ∧ w' = W :=
 (Any.bits_Len Tryz.lays125 n W (by omega) (by omega)).mono fun _ _ ⟨he, hw⟩ => ⟨⟨_, he⟩, hw⟩
theorem ltTxn (x y : Int × Int) : ltOf (fun x y : Int × Int => Lib.compareInt x.1 y.1) x y = decide (x.1 < y.1) := by
 unfold ltOf Lib.compareInt
 by_cases h1 : x.1 < y.1
 ·simp [h1]
 ·by_cases h2 : y.1 < x.1 <;> simp [h1, h2]
theorem swoTxn : SWO (ltOf fun x y : Int × Int => Lib.compareInt x.1 y.1) where
 irrefl x := by rw [ltTxn]; simp
 trans x y z h1 h2 := by rw [ltTxn] at *; simp at *; omega
 ntrans x y z h1 h2 := by rw [ltTxn] at *; simp at *; omega
theorem sortLocks (v : Value) (n : Nat) (l : List (Int × Int)) (w : World) (h : w.ownsRow 0 107 2 v n (lkc l)) (hn : n ≤ 12) :
  Calls Tryz.prog 101 #[v, .func (.func 102) #[] #[]] w fun e w' => ∃ l', e = .returned (.tuple #[]) ∧ l'.Perm l ∧ l'.Pairwise (fun x y => x.1 ≤ y.1) ∧ w'.ownsRow 0 107 2 v n (lkc l') ∧ Kept (fun k => v.ownBlock = some k) w w' := by
 have hl : l.length = n := by have := h.1; rw [lkc_len] at this; omega
 rcases h.2 with ⟨rfl, rfl⟩ | ⟨g, cap, cur, rfl, _, hg, h1, h2, h3, h4⟩
 ·have : l = [] := List.eq_nil_of_length_eq_zero hl
  subst this
  refine (show Calls Tryz.prog 101 #[.slice none 0 0, .func (.func 102) #[] #[]] w _ from AnyF.slices_SortFunc_none Tryz.sortLk none 0 _ w).mono ?_
  rintro e w' ⟨rfl, rfl⟩
  exact ⟨[], rfl, List.Perm.refl _, List.Pairwise.nil, h, Kept.refl _ _⟩
 ·subst hl
  have eg : ∀ args w, (callFunc 102 args).run Tryz.prog w = .ok (.enter 102 args) w := enters_of Tryz.func102 (by kernel_rfl) rfl
  have hH : HoldsK encLk 2 w g 0 l.toArray := by
   unfold HoldsK
   rw [lkc_flat]
   intro j hj
   have hj' : j < (lkc l).length := by simpa using hj
   refine ⟨?_, frozen_at hg _⟩
   rw [cell_at hg, Nat.zero_add]
   have e1 : (cur.toList.take (l.length * 2))[j]? = (lkc l)[j]? := by rw [h4]
   rw [List.getElem?_take_of_lt (by rw [lkc_len] at hj'; exact hj')] at e1
   rw [← Array.getElem?_toList, e1]
   simp [hj']
  have hcon := AnyQ.slices_SortFunc_small_sorted Tryz.sortLk 2 Tryz.isAgg107 Tryz.sizeOf107 encLk (fun _ => rfl) (fun x v hv => by simp [encLk] at hv; rcases hv with rfl | rfl <;> rfl) (fun x y => Lib.compareInt x.1 y.1)
   102 #[] swoTxn g 0 cap l.toArray w eg (cmpLays g 0 l.toArray.size w) hH (lt_of_block hg) (by simpa using hn) len12
  refine (show Calls Tryz.prog 101 #[.slice (some ⟨g, 0, none⟩) l.length cap, .func (.func 102) #[] #[]] w _ from hcon).mono ?_
  rintro e w' ⟨rfl, d', m, os, hp, hs, rfl⟩
  obtain ⟨l'⟩ := d'
  have hsz : l'.length = l.length := by simpa using hp.1
  have hperm : l'.Perm l := by
   have := hp.2.2
   have e1 : l'.take l.length = l' := List.take_of_length_le (by omega)
   have e2 : l.take l.length = l := List.take_of_length_le (by omega)
   simpa [e1, e2] using this
  refine ⟨l', rfl, hperm, ?_, ⟨by rw [lkc_len, hsz], .inr ⟨g, cap, putCells id 0 (lkc l').toArray cur, rfl, Nat.zero_le _, ?_, h1, h2, ?_, ?_⟩⟩, ?_⟩
  ·rw [List.pairwise_iff_getElem]
   intro i j hi hj hij
   have := hs i j (Nat.zero_le _) hij (by simpa [hsz] using hj)
   rw [ltTxn] at this
   simp [hi, hj] at this
   exact this
  ·unfold sortWorldK putRowK
   rw [lkc_flat]
   exact putRow_block id m 0 _ os hg
  ·simp [putCells, h3]
  ·apply List.ext_getElem?
   intro j
   by_cases hj : j < l.length * 2
   ·rw [List.getElem?_take_of_lt hj, Array.getElem?_toList]
    have hj2 : j < (lkc l').length := by rw [lkc_len]; omega
    have hj4 : j < l.length * 2 := hj
    have hj3 : j < cur.size := by
     have : l.length * 2 ≤ cap * 2 := Nat.mul_le_mul_right _ h1
     omega
    simp [putCells, hj2, hj3]
   ·rw [List.getElem?_take_eq_none (by omega), List.getElem?_eq_none (by rw [lkc_len]; omega)]
  ·unfold sortWorldK putRowK
   exact (putRow_kept id w m g 0 _ os).mono (fun k hk => by cases hk; rfl)
end Go.Proofs.YtmcajfefagdbnaaGreat
namespace Go.Proofs.YtmcajfefagdbnaaGreat
open Go Go.RowKit
def slotNat (a : Act) (j : Nat) : Nat := match a.tmps[j]? with | some (Value.int _ i) => i.toNat | _ => 0
def fnOf (x : FuncId × Array Value) : Value := .func (.func x.1) #[] x.2
def dfr (x : FuncId × Array Value) : Deferred := { target := .fn (.func x.1) x.2, args := #[] }
set_option maxHeartbeats 1600000 in
theorem runDeferred_any (t n : Nat) (dv : Value) (cs : List (FuncId × Array Value)) (w : World) (R : Ending → World → Prop) (hd : w.cell? ⟨t, 13, none⟩ = some dv) (hr : RowAt w 1 1 dv n (cs.map fnOf)) (hn : n ≤ 12)
  (hL : ∀ tmps, Leaves Tryz.prog Tryz.f139 tmps R (cs.map dfr).reverse .returning w) :
  Calls Tryz.prog 139 #[.pointer (some ⟨t, 5, none⟩)] w R := by
 have hlen : cs.length = n := by have := hr.1; simpa using this
 obtain ⟨ao, cap, rfl, hnc, hcm⟩ := hr.form
 have hcell : ∀ i, i < n → ∃ d off, ao = some ⟨d, off, none⟩ ∧ w.cell? ⟨d, off + i, none⟩ = some (fnOf (cs.getD i (0, #[]))) := by
  intro i hi
  rcases hr.2 with ⟨h0, h1⟩ | ⟨g, off, cap', cur, h0, _⟩
  ·omega
  ·simp only [Value.slice.injEq] at h0
   obtain ⟨rfl, _, rfl⟩ := h0
   refine ⟨g, off, rfl, hr.cell i ?_⟩
   simp [List.getD, show i < cs.length by omega]
 have HR : True := trivial
 clear hr
 go_enter_defers Tryz.func139, Tryz.ntmps139
 go_wp2_with fail
 refine wp_loop (fun a w' => w' = w ∧ ∃ i x3 x10 x11 x12 x13 x14, i ≤ n ∧ a = { tmps := #[Value.pointer (some { block := t, off := 5 }), undef, undef, x3, Value.pointer (some { block := t, off := 5 }), Value.pointer (some { block := t, off := 5 }),
  Value.pointer (some { block := t, off := 13 }), Value.slice ao n cap, Value.int IntKind.i64 (n : Int), Value.int IntKind.i64 ((i : Nat) : Int), x10, x11, x12, x13, x14], defers := ((cs.take i).map dfr).reverse })
  (fun (a : Act) _ => n - slotNat a 9) ⟨rfl, 0, undef, undef, undef, undef, undef, undef, Nat.zero_le _, by simp⟩ ?_
 rintro a w' ⟨rfl, i, x3, x10, x11, x12, x13, x14, hi, rfl⟩
 by_cases h : i < n
 ·obtain ⟨d, off, rfl, hc⟩ := hcell i h
  have hlt : (i : Int) < n := by omega
  obtain ⟨f, caps, hfc⟩ : ∃ f caps, cs.getD i (0, #[]) = (f, caps) := ⟨_, _, rfl⟩
  rw [hfc] at hc
  simp only [fnOf] at hc
  have htake : ((cs.take (i + 1)).map dfr).reverse = dfr (f, caps) :: ((cs.take i).map dfr).reverse := by
   rw [← hfc, List.take_add_one, List.map_append, List.reverse_append]
   simp [List.getD, show i < cs.length by omega]
  have HT : Hid _ := htake
  clear hcell hL htake hfc
  generalize hl : ((cs.take i).map dfr).reverse = L at *
  clear hl
  go_wp2_with fail
  refine ⟨⟨trivial, i + 1, .func (.func f) #[] caps, .bool true, .pointer (some ⟨d, off + i, none⟩), .func (.func f) #[] caps, .func (.func f) #[] caps, .int .i64 ((i : Int) + 1), by omega, ?_⟩, ?_⟩
  ·rw [HT.out, show ((i + 1 : Nat) : Int) = (i : Int) + 1 from by omega]; rfl
  ·simp [slotNat]; omega
 ·have hin : i = n := by omega
  subst hin
  have hge : ¬ ((i : Int) < i) := by omega
  have hall : cs.take i = cs := List.take_of_length_le (by omega)
  rw [hall]
  have HL : Hid _ := hL
  clear hcell hL
  generalize hl : (cs.map dfr).reverse = L at *
  clear hl
  go_wp2_with fail
  exact HL.out _
end Go.Proofs.YtmcajfefagdbnaaGreat
