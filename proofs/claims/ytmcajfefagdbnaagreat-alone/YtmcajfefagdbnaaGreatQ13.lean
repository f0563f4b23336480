import Derived.Test.YtmcajfefagdbnaaGreatQ04
import Derived.Test.YtmcajfefagdbnaaGreatQ10
import Derived.Test.YtmcajfefagdbnaaGreatQ12
import Derived.Test.YtmcajfefagdbnaaGreatQ08
import Derived.Test.YtmcajfefagdbnaaGreatQ09
namespace Go.Proofs.YtmcajfefagdbnaaGreat
open Go Go.RowKit
def RowsIn (l : List Row2) : Prop := ∀ r ∈ l, inI r.k
def rowsF (l : List Row2) : Int → Option Int := l.foldl (fun f r => upd f r.k (some r.v)) (fun _ => none)
theorem rowsF_snoc (l : List Row2) (r : Row2) : rowsF (l ++ [r]) = upd (rowsF l) r.k (some r.v) := by simp [rowsF]
theorem foldRows_mem (l : List Row2) (f : Int → Option Int) (k : Int) : l.foldl (fun f r => upd f r.k (some r.v)) f k ≠ none → f k ≠ none ∨ ∃ r ∈ l, r.k = k := by
 induction l generalizing f with
 | nil => exact fun h => .inl h
 | cons r l ih =>
  intro h
  rcases ih _ h with h1 | ⟨x, h1, h2⟩
  ·by_cases e : k = r.k
   ·exact .inr ⟨r, by simp, e.symm⟩
   ·change upd f r.k (some r.v) k ≠ none at h1
    rw [upd_other _ _ _ _ e] at h1; exact .inl h1
  ·exact .inr ⟨x, by simp [h1], h2⟩
theorem rowsF_mem (l : List Row2) (k : Int) (h : rowsF l k ≠ none) : ∃ r ∈ l, r.k = k := (foldRows_mem l _ k h).elim (fun x => absurd rfl x) (fun x => x)
theorem run_makeMapHint2 (n : Int) (w : World) : (Instr.makeMap 122 (some (.int .i64 n))).run Tryz.prog w = .ok (.map (some w.heap.size)) (w.alloc (.map #[] 0)) := by
 simp [Instr.makeMap, run_underlying Tryz.underlying122, asInt, asIntOf]
theorem take_succ_getD (l : List Row2) (k : Nat) (h : k < l.length) : l.take (k + 1) = l.take k ++ [l.getD k Row2.z] := by
 rw [List.take_add_one, List.getElem?_eq_getElem h]
 simp [List.getD_eq_getElem?_getD, List.getElem?_eq_getElem h]
theorem ivals_put2 (f : Int → Option Int) (k v : Int) : put (ivals f) k (some (.int .i64 v)) = ivals (upd f k (some v)) := by
 funext x
 unfold put ivals upd
 split <;> simp
set_option maxRecDepth 100000 in
set_option maxHeartbeats 1600000 in
theorem valuesByKey_map (ao : Option Addr) (c n : Nat) (l : List Row2) (w : World) (hn : l.length = n) (hl : n ≤ 1048576) (h : 0 < n → ∃ b off, ao = some ⟨b, off, none⟩ ∧ RowsAt w b off l) (hw : RowsIn l) :
  Calls Tryz.prog 76 #[.slice ao n c] w fun e w' => e = .returned (.map (some w.heap.size)) ∧ MapAt keyI w' w.heap.size n (ivals (rowsF l)) ∧ Kept NoBlk w w' := by
 have Hn : Hid (l.length = n) := hn
 have hmm := fun n w => run_makeMapHint2 n w
 clear hn
 go_enter Tryz.func76, Tryz.ntmps76
 go_wp2_with fail
 go_loopw [11] (fun i wr => ∃ k : Nat, k ≤ n ∧ i = .int .i64 k ∧ MapAt keyI wr w.heap.size k (ivals (rowsF (l.take k))) ∧ Kept NoBlk w wr) (fun i _ => n - (intOf i).toNat)
 case atStart => exact ⟨0, Nat.zero_le _, rfl, MapAt.made keyI w, (Kept.refl _ _).alloc _⟩
 case round =>
  obtain ⟨k, hk, rfl, hown, hkw⟩ := hrel
  by_cases hlt : k < n
  ·obtain ⟨b, off, rfl, hat⟩ := h (by omega)
   have hkl : k < l.length := by rw [Hn.out]; exact hlt
   obtain ⟨g0, g1⟩ := (hat.kept hkw (fun x => x)) k hkl
   have hwk : inI (l.getD k Row2.z).k := hw _ (by rw [List.getD_eq_getElem?_getD, List.getElem?_eq_getElem hkl]; exact List.getElem_mem hkl)
   have hsn : rowsF (l.take (k + 1)) = upd (rowsF (l.take k)) (l.getD k Row2.z).k (some (l.getD k Row2.z).v) := by rw [take_succ_getD l k hkl, rowsF_snoc]
   have HSN : Hid (rowsF (l.take (k + 1)) = upd (rowsF (l.take k)) (l.getD k Row2.z).k (some (l.getD k Row2.z).v)) := hsn
   have HKW : Hid (Kept NoBlk w wr) := hkw
   clear hkw hat h hw hkl hsn
   generalize l.getD k Row2.z = r at *
   have hst : ∀ o, ∃ w', (Instr.mapUpdate 122 (.map (some w.heap.size)) (.int .i64 r.k) (.int .i64 r.v)).run Tryz.prog (wr.alloc o) = .ok () w' ∧ MapAt keyI w' w.heap.size (k + 1) (put (ivals (rowsF (l.take k))) r.k (some (.int .i64 r.v))) ∧ Kept (Blk w.heap.size) (wr.alloc o) w' ∧ w'.heap.size = (wr.alloc o).heap.size := fun o => (hown.kept ((Kept.refl NoBlk wr).alloc o) (fun x => x)).store Tryz.underlying122 (by unfold maxLen; omega) (a := r.k) hwk (.int .i64 r.v)
   have HST : Hid (∀ o, ∃ w', (Instr.mapUpdate 122 (.map (some w.heap.size)) (.int .i64 r.k) (.int .i64 r.v)).run Tryz.prog (wr.alloc o) = .ok () w' ∧ MapAt keyI w' w.heap.size (k + 1) (put (ivals (rowsF (l.take k))) r.k (some (.int .i64 r.v))) ∧ Kept (Blk w.heap.size) (wr.alloc o) w' ∧ w'.heap.size = (wr.alloc o).heap.size) := hst
   clear hst hown
   obtain ⟨w1, hrun1, hm1, hk1, hs1⟩ := HST.out (.cells #[.int .i64 r.k, .int .i64 r.v] 95)
   have HM1 : Hid (MapAt keyI w1 w.heap.size (k + 1) (put (ivals (rowsF (l.take k))) r.k (some (.int .i64 r.v))) ∧ Kept (Blk w.heap.size) (wr.alloc (.cells #[.int .i64 r.k, .int .i64 r.v] 95)) w1) := ⟨hm1, hk1⟩
   clear hm1 hk1 hs1
   go_wp2_with fail
   go_roundw
   case rel =>
    refine ⟨k + 1, by omega, by go_num, ?_, (HKW.out.alloc _).trans HM1.out.2 (fun j hj => .inr (by cases hj; exact Nat.le_refl _))⟩
    rw [HSN.out, ← ivals_put2]; exact HM1.out.1
   case measure => simp [intOf]; omega
  ·obtain rfl : k = n := by omega
   go_wp2_with fail
   go_ret
   rw [← Hn.out, List.take_length] at hown
   rw [← Hn.out]
   exact ⟨rfl, hown, hkw⟩
def St.born (f : Int → Option Int) : St := ⟨0, f, 0, fun _ => ⟨0, 0, [], 0, false, none, 0, fun _ => 0, [], []⟩, fun _ => ⟨fun _ => 0, []⟩, [], []⟩
theorem run_makeMapH (w : World) : (Instr.makeMap 124 none).run Tryz.prog w = .ok (.map (some w.heap.size)) (w.alloc (.map #[] 0)) := by
 simp [Instr.makeMap]
theorem run_makeMapQ (w : World) : (Instr.makeMap 125 none).run Tryz.prog w = .ok (.map (some w.heap.size)) (w.alloc (.map #[] 0)) := by
 simp [Instr.makeMap]
def bornOw (L : Lay) : Ow := fun k => if k = L.p then (1, 0) else if k = L.vb then (2, 0) else if k = L.hb then (3, 0) else if k = L.qb then (4, 0) else (0, 0)
theorem PSt.born {w : World} {L : Lay} {n : Nat} {f : Int → Option Int} {u : Value} (hb : w.heap[L.p]? = some (.cells #[.int .i32 0, u, .int .i64 0, .map (some L.vb), .slice none 0 0, .int .i64 0, .map (some L.hb), .map (some L.qb), .slice none 0 0] 127 (0, 0)))
  (hv : MapAt keyI w L.vb n (ivals f)) (hh : MapAt keyH w L.hb 0 (fun _ => none)) (hq : MapAt keyI w L.qb 0 (fun _ => none)) (hf : ∀ k, f k ≠ none → inI k) (n1 : L.vb ≠ L.p) (n2 : L.hb ≠ L.p) (n3 : L.qb ≠ L.p) (n4 : L.hb ≠ L.vb) (n5 : L.qb ≠ L.vb) (n6 : L.qb ≠ L.hb) (bs : Nat → Nat) :
  PSt L bs [] (bornOw L) n 0 0 (St.born f) w := by
 refine ⟨?_, ⟨?_, ?_, ?_, ?_⟩, ⟨u, .slice none 0 0, .slice none 0 0, hb, RowT.nil _ _ _ _ _, RowT.nil _ _ _ _ _⟩, hv, ?_, ⟨fun _ => none, hq.mono (Nat.zero_le _), fun k => rfl⟩, ?_, Nat.zero_le _, ?_, ?_, ?_, hf, Nat.zero_le _⟩
 ·intro k hk
  unfold bornOw at hk
  by_cases e1 : k = L.p
  ·subst e1; exact lt_of_block hb
  rw [if_neg e1] at hk
  by_cases e2 : k = L.vb
  ·subst e2; exact hv.lt
  rw [if_neg e2] at hk
  by_cases e3 : k = L.hb
  ·subst e3; exact hh.lt
  rw [if_neg e3] at hk
  by_cases e4 : k = L.qb
  ·subst e4; exact hq.lt
  rw [if_neg e4] at hk
  exact absurd rfl hk
 ·unfold bornOw; rw [if_pos rfl]
 ·unfold bornOw; rw [if_neg n1, if_pos rfl]
 ·unfold bornOw; rw [if_neg n2, if_neg n4, if_pos rfl]
 ·unfold bornOw; rw [if_neg n3, if_neg n5, if_neg n6, if_pos rfl]
 ·refine (hh.mono (Nat.zero_le _)).congr ?_
  intro a _
  unfold hvals holdF
  simp [St.born]
 ·intro i h1 h2
  have : i ≤ 0 := h2
  omega
 ·intro i hi; cases hi
 ·intro k j hj; exact absurd rfl hj
 ·intro k x hx; cases hx
theorem bornOw_own {L : Lay} {k : Nat} (h : OwnP (bornOw L) k) : k = L.p ∨ k = L.vb ∨ k = L.hb ∨ k = L.qb := by
 unfold OwnP bornOw at h
 by_cases e1 : k = L.p
 ·exact .inl e1
 rw [if_neg e1] at h
 by_cases e2 : k = L.vb
 ·exact .inr (.inl e2)
 rw [if_neg e2] at h
 by_cases e3 : k = L.hb
 ·exact .inr (.inr (.inl e3))
 rw [if_neg e3] at h
 by_cases e4 : k = L.qb
 ·exact .inr (.inr (.inr e4))
 rw [if_neg e4] at h
 exact absurd rfl h
set_option maxRecDepth 20000 in
set_option maxHeartbeats 1600000 in
theorem pNew_any (ao : Option Addr) (c n : Nat) (l : List Row2) (w : World) (hn : l.length = n) (hl : n ≤ 1048576) (h : 0 < n → ∃ b off, ao = some ⟨b, off, none⟩ ∧ RowsAt w b off l) (hw : RowsIn l) :
  Calls Tryz.prog 39 #[.slice ao n c] w fun e w' => Kept NoBlk w w' ∧ ((¬ Rise l ∧ e = .returned (.tuple #[.pointer none, .int .i64 7])) ∨
   (Rise l ∧ ∃ L ow, e = .returned (.tuple #[.pointer (some ⟨L.p, 0, none⟩), .int .i64 0]) ∧ (∀ k, OwnP ow k → w.heap.size ≤ k) ∧ L.q0.val = 0 ∧ ∀ bs, PSt L bs [] ow n 0 0 (St.born (rowsF l)) w')) := by
 have Hn : Hid (l.length = n) := hn
 have HH : Hid (0 < n → ∃ b off, ao = some ⟨b, off, none⟩ ∧ RowsAt w b off l) := h
 have HW : Hid (RowsIn l) := hw
 have m1 := fun w => run_makeMapH w
 have m2 := fun w => run_makeMapQ w
 clear hn h hw
 go_enter Tryz.func39, Tryz.ntmps39
 go_wp2_with fail
 refine (keysRise_any ao c n l w Hn.out hl HH.out).mono ?_
 rintro e w1 ⟨r, rfl, hr, hk⟩
 cases r
 ·have HR : Hid (¬ Rise l) := fun x => by simpa using hr.2 x
  have HK : Hid (Kept NoBlk w w1) := hk
  clear hr hk
  go_wp2_with fail
  go_ret2
  exact ⟨HK.out, .inl ⟨HR.out, rfl⟩⟩
 ·have HR : Hid (Rise l) := hr.1 rfl
  have HK : Hid (Kept NoBlk w w1) := hk
  clear hr hk
  go_wp2_with fail
  refine (valuesByKey_map ao c n l w1 Hn.out hl (fun h0 => ?_) HW.out).mono ?_
  ·obtain ⟨b, off, e, hat⟩ := HH.out h0
   exact ⟨b, off, e, hat.kept HK.out (fun x => x)⟩
  rintro e w2 ⟨rfl, hD, hk2⟩
  have HD : Hid (MapAt keyI w2 w1.heap.size n (ivals (rowsF l))) := hD
  have HK2 : Hid (Kept NoBlk w1 w2) := hk2
  clear hD hk2
  go_wp2_with fail
  go_ret2
  have hs2 : w1.heap.size < w2.heap.size := HD.out.lt
  have hs1 : w.heap.size ≤ w1.heap.size := HK.out.size
  refine ⟨(((HK.out.trans' HK2.out).alloc _).alloc _).alloc _, .inr ⟨HR.out, ⟨w2.heap.size + 1 + 1, w1.heap.size, w2.heap.size, w2.heap.size + 1, 0⟩, bornOw _, rfl, fun k hk => ?_, rfl, fun bs => PSt.born (block_new3 w2 _ _ _) ?_ ?_ ?_ ?_ (by show w1.heap.size ≠ w2.heap.size + 1 + 1; omega) (by show w2.heap.size ≠ w2.heap.size + 1 + 1; omega) (by show w2.heap.size + 1 ≠ w2.heap.size + 1 + 1; omega) (by show w2.heap.size ≠ w1.heap.size; omega) (by show w2.heap.size + 1 ≠ w1.heap.size; omega) (by show w2.heap.size + 1 ≠ w2.heap.size; omega) bs⟩⟩
  ·rcases bornOw_own hk with e | e | e | e
   ·have : k = w2.heap.size + 1 + 1 := e
    omega
   ·have : k = w1.heap.size := e
    omega
   ·have : k = w2.heap.size := e
    omega
   ·have : k = w2.heap.size + 1 := e
    omega
  ·exact (HD.out : MapAt keyI w2 w1.heap.size n (ivals (rowsF l))).kept ((((Kept.refl NoBlk w2).alloc _).alloc _).alloc _) (fun x => x)
  ·exact (MapAt.made keyH w2).kept (((Kept.refl NoBlk _).alloc _).alloc _) (fun x => x)
  ·have := MapAt.made keyI (w2.alloc (.map #[] 0))
   rw [alloc_size] at this
   exact this.kept ((Kept.refl NoBlk _).alloc _) (fun x => x)
  ·intro k hk
   obtain ⟨r, h1, h2⟩ := rowsF_mem l k hk
   rw [← h2]; exact (HW.out : RowsIn l) r h1
end Go.Proofs.YtmcajfefagdbnaaGreat
namespace Go.Proofs.YtmcajfefagdbnaaGreat
theorem go_commits (s : St) (i : Nat) : ((s.go i).1.wins = s.wins ∧ (((s.go i).1.tx i).state = (s.tx i).state ∨ (((s.go i).1.tx i).state = 2 ∧ (s.tx i).op.k = 5 ∧ (s.tx i).next ≠ (s.tx i).ops.length) ∨ (((s.go i).1.tx i).state = 3 ∧ s.crowded (s.tx i).op.a = true ∧ 0 < modeOf (s.tx i).op ∧ (s.tx i).next ≠ (s.tx i).ops.length))) ∨
  ((s.tx i).wounded = false ∧ (s.tx i).waits = none ∧ (s.tx i).next = (s.tx i).ops.length ∧ (s.go i).1 = s.commit i) := by
 simp only [St.go]
 split
 ·exact .inl ⟨rfl, .inl (again_self s i).2.1⟩
 rename_i hw
 split
 ·exact .inl ⟨rfl, .inl rfl⟩
 rename_i hn
 split
 ·rename_i hl
  exact .inr ⟨by simpa using hw, by simpa using hn, hl, rfl⟩
 rename_i hl
 have act : ∀ (s' : St), s'.tx = s.tx → s'.wins = s.wins → ((s'.actOn i (s.tx i).op).1.wins = s.wins ∧ (((s'.actOn i (s.tx i).op).1.tx i).state = (s.tx i).state ∨ (((s'.actOn i (s.tx i).op).1.tx i).state = 2 ∧ (s.tx i).op.k = 5 ∧ (s.tx i).next ≠ (s.tx i).ops.length) ∨ (((s'.actOn i (s.tx i).op).1.tx i).state = 3 ∧ s.crowded (s.tx i).op.a = true ∧ 0 < modeOf (s.tx i).op ∧ (s.tx i).next ≠ (s.tx i).ops.length))) := by
  intro s' h1 h2
  simp only [St.actOn]
  split
  ·rename_i h5
   exact ⟨h2, .inr (.inl ⟨(fell_self s' i 2).2.1, h5.1, hl⟩)⟩
  ·exact ⟨by rw [doOp_wins]; exact h2, .inl (by rw [(doOp_next s' i _).2.1, h1])⟩
 split
 ·rename_i hm
  split
  ·rename_i hc
   exact .inl ⟨rfl, .inr (.inr ⟨(fell_self s i 3).2.1, hc, hm.1, hl⟩)⟩
  split
  ·exact .inl (act _ rfl rfl)
  ·exact .inl ⟨rfl, .inl (by simp [St.enq])⟩
 ·exact .inl (act s rfl rfl)
theorem Ser.go {s : St} {D : Int → Option Int} (hs : Good s) (hS : Ser s D) {i : Nat} (hl : Lives s i) (hc : ¬ ((s.tx i).wounded = false ∧ (s.tx i).waits = none ∧ (s.tx i).next = (s.tx i).ops.length)) : Ser (s.go i).1 D := by
 have act : ∀ (s' : St), Inv s' → Ser s' D → s'.tx = s.tx → s'.n = s.n → (s.tx i).next ≠ (s.tx i).ops.length → modeOf (s.tx i).op ≤ (s'.lk (s.tx i).op.a).h i → Ser (s'.actOn i (s.tx i).op).1 D := by
  intro s' h1 h2 h3 h4 hne h5
  have hl' : Lives s' i := ⟨hl.low, by rw [h4]; exact hl.high, by rw [h3]; exact hl.lives⟩
  simp only [St.actOn]
  split
  ·exact h2.fell h1 hl' 2
  ·rename_i h6
   have hf := hs.fits i
   have := h2.doOp h1 hl' (by rw [h3]; omega) (by rw [h3]; exact h5) (fun h7 h8 => h6 ⟨by rw [h3] at h7; exact h7, by rw [h3] at h8 ⊢; exact h8⟩)
   rw [h3] at this
   exact this
 simp only [St.go]
 split
 ·exact hS.again hs.inv hl
 rename_i hw
 split
 ·exact hS
 rename_i hn
 split
 ·rename_i h
  exact absurd ⟨by simpa using hw, by simpa using hn, h⟩ hc
 rename_i hne
 split
 ·rename_i hm
  split
  ·exact hS.fell hs.inv hl 3
  split
  ·rename_i hf
   simp only [Bool.and_eq_true, List.isEmpty_iff, Bool.not_eq_true'] at hf
   refine act _ (hs.inv.grant ⟨hl.low, hl.high⟩ hl.lives (modeOf_pos hm.1) hf.1 hf.2) (hS.grant hs.inv hl (modeOf_pos hm.1) hm.2 hf.2) rfl rfl hne ?_
   simp [St.grant]
  ·exact hS.enq i _ _
 ·rename_i hm
  refine act s hs.inv hS rfl rfl hne ?_
  rcases modeOf_cases (s.tx i).op with h | h | h
  ·rcases (hs.inv.row (s.tx i).op.a).mode i with h0 | h0 | h0 <;> omega
  ·omega
  ·omega
def serD (D0 : Int → Option Int) (ops : Nat → List Op4) (w : List Nat) : Int → Option Int := w.foldl (fun D i => (runP D (ops i)).f) D0
structure Hist (D0 : Int → Option Int) (s : St) : Prop where
 good : Good s
 ser : Ser s (serD D0 (fun i => (s.tx i).ops) s.wins)
 past : ∀ w1 i w2, s.wins = w1 ++ i :: w2 → (s.tx i).reads = (runP (serD D0 (fun i => (s.tx i).ops) w1) (s.tx i).ops).reads ∧ clean (serD D0 (fun i => (s.tx i).ops) w1) (s.tx i).ops ∧ (s.tx i).state = 1 ∧ 1 ≤ i ∧ i ≤ s.n
 once : s.wins.Nodup
 won : ∀ i, (s.tx i).state = 1 → i ∈ s.wins
theorem go_ops (s : St) (i j : Nat) : ((s.go i).1.tx j).ops = (s.tx j).ops := by
 by_cases e : j = i
 ·subst e; exact (go_self s j).2
 ·exact (base_eq (go_oth s e).base).2.2.1
theorem Hist.go {D0 : Int → Option Int} {s : St} (hh : Hist D0 s) {i : Nat} (hl : Lives s i) : Hist D0 (s.go i).1 := by
 have hops : (fun j => ((s.go i).1.tx j).ops) = fun j => (s.tx j).ops := funext (go_ops s i)
 have hin : ∀ j, j ∈ s.wins → (s.tx j).state = 1 := fun j hj => by
  obtain ⟨w1, w2, e⟩ := List.append_of_mem hj
  exact (hh.past w1 j w2 e).2.2.1
 have hni : i ∉ s.wins := fun h => by have := hin i h; rw [hl.lives] at this; cases this
 have old : ∀ j, j ∈ s.wins → (((s.go i).1.tx j).reads = (s.tx j).reads ∧ ((s.go i).1.tx j).state = (s.tx j).state) := fun j hj => by
  have hji : j ≠ i := fun e => hni (e ▸ hj)
  have hb := base_eq (go_oth s hji).base
  exact ⟨hb.2.2.2.2.2.2.1, hb.2.1⟩
 rcases go_commits s i with ⟨h1, h2⟩ | ⟨h1, h2, h3, h4⟩
 ·refine ⟨hh.good.go hl, ?_, ?_, by rw [h1]; exact hh.once, ?_⟩
  ·rw [hops, h1]
   refine hh.ser.go hh.good hl ?_
   rintro ⟨c1, c2, c3⟩
   have : (s.go i).1.wins = s.wins ++ [i] := by
    simp only [St.go, c1, c2, c3, Bool.false_eq_true, if_false, Option.isSome_none, if_true]
    rfl
   rw [h1] at this
   have := congrArg List.length this
   simp at this
  ·rw [hops, h1]
   intro w1 j w2 e
   have hj : j ∈ s.wins := by rw [e]; simp
   rw [(old j hj).1, (old j hj).2, go_ops, (go_n s i).1]
   exact hh.past w1 j w2 e
  ·rw [h1]
   intro j hj
   by_cases e : j = i
   ·subst e
    rcases h2 with h2 | ⟨h2, _⟩ | ⟨h2, _⟩
    ·rw [h2, hl.lives] at hj; cases hj
    ·rw [h2] at hj; cases hj
    ·rw [h2] at hj; cases hj
   ·rw [(base_eq (go_oth s e).base).2.1] at hj
    exact hh.won j hj
 ·have hw : (s.go i).1.wins = s.wins ++ [i] := by rw [h4]; rfl
  have hpr : s.pr (serD D0 (fun j => (s.tx j).ops) s.wins) i = runP (serD D0 (fun j => (s.tx j).ops) s.wins) (s.tx i).ops := by
   simp only [St.pr, h3, List.take_length]
  have hown := hh.ser.own i hl
  have hself : ((s.go i).1.tx i).reads = (s.tx i).reads ∧ ((s.go i).1.tx i).state = 1 := by
   rw [h4]
   simp [St.commit, St.setTx, St.freed, Tx.look]
  refine ⟨hh.good.go hl, ?_, ?_, ?_, ?_⟩
  ·rw [hops, hw, h4]
   have := hh.ser.commit hh.good.inv hl
   rw [hpr] at this
   simp only [serD, List.foldl_append, List.foldl_cons, List.foldl_nil] at this ⊢
   exact this
  ·rw [hops, hw]
   intro w1 j w2 e
   rw [go_ops, (go_n s i).1]
   by_cases hw2 : w2 = []
   ·subst hw2
    obtain ⟨e1, e2⟩ := List.append_inj' e rfl
    simp only [List.cons.injEq, and_true] at e2
    subst e1 e2
    rw [hself.1, hself.2]
    refine ⟨?_, ?_, rfl, hl.low, hl.high⟩
    ·rw [hown.2.1, hpr]
    ·have := hown.2.2.2
     rw [h3, List.take_length] at this
     exact this
   ·have e' := congrArg List.dropLast e
    rw [List.dropLast_concat, List.dropLast_append_of_ne_nil (by simp), List.dropLast_cons_of_ne_nil hw2] at e'
    have hj : j ∈ s.wins := by rw [e']; simp
    rw [(old j hj).1, (old j hj).2]
    exact hh.past w1 j w2.dropLast e'
  ·rw [hw, List.nodup_append]
   exact ⟨hh.once, by simp, fun a ha b hb => by simp at hb; subst hb; exact fun e => hni (e ▸ ha)⟩
  ·rw [hw]
   intro j hj
   by_cases e : j = i
   ·subst e; simp
   ·rw [(base_eq (go_oth s e).base).2.1] at hj
    exact List.mem_append_left _ (hh.won j hj)
theorem Hist.stepN {D0 : Int → Option Int} {s : St} (hh : Hist D0 s) (i : Nat) : Hist D0 (s.stepN i) := by
 rcases stepN_cases s i with ⟨h1, h2⟩ | ⟨_, h2⟩
 ·rw [h2]; exact hh.go h1
 ·rw [h2]; exact hh
theorem Hist.steps {D0 : Int → Option Int} {s : St} (hh : Hist D0 s) (l : List Nat) : Hist D0 (s.steps l) := by
 induction l generalizing s with
 | nil => exact hh
 | cons i l ih => exact ih (hh.stepN i)
theorem Hist.done {D0 : Int → Option Int} {s : St} (hh : Hist D0 s) (hd : ∀ i, ¬ Lives s i) : s.rows = serD D0 (fun i => (s.tx i).ops) s.wins := by
 funext k
 refine hh.ser.free k (fun i h => ?_)
 exact hd i (hh.good.inv.live (k := k) (by rw [h]; decide))
theorem rounds_end {s : St} (hs : Good s) {e : Nat} (he : Eld s e) (L : List (List Nat)) (hL : ∀ l, l ∈ L → ∀ j, 1 ≤ j → j ≤ s.n → j ∈ l) (hr : rank s e ≤ L.length) : ((L.foldl St.steps s).tx e).state ≠ 0 := by
 have stepn : ∀ (l : List Nat) (s : St), (s.steps l).n = s.n := by
  intro l
  induction l with
  | nil => intro s; rfl
  | cons i l ih =>
   intro s
   show ((s.stepN i).steps l).n = s.n
   rw [ih]
   rcases stepN_cases s i with ⟨_, h2⟩ | ⟨_, h2⟩
   ·rw [h2, (go_n s i).1]
   ·rw [h2]
 have stays : ∀ (l : List Nat) (s : St), (s.tx e).state ≠ 0 → ((s.steps l).tx e).state ≠ 0 := by
  intro l
  induction l with
  | nil => intro s h; exact h
  | cons i l ih => intro s h; exact ih _ (by rw [state_stays h]; exact h)
 have staysL : ∀ (L : List (List Nat)) (s : St), (s.tx e).state ≠ 0 → ((L.foldl St.steps s).tx e).state ≠ 0 := by
  intro L
  induction L with
  | nil => intro s h; exact h
  | cons l L ih => intro s h; exact ih _ (stays l s h)
 induction L generalizing s with
 | nil =>
  intro h
  have := rank_pos hs.inv h
  simp at hr
  omega
 | cons l L ih =>
  rw [List.foldl_cons]
  by_cases h0 : (s.tx e).state = 0
  ·refine ih (hs.steps l) (he.steps l) (fun l' hl' j h1 h2 => hL l' (List.mem_cons_of_mem _ hl') j h1 (by rw [stepn] at h2; exact h2)) ?_
   have := round_rank hs he l (hL l List.mem_cons_self) h0
   simp only [List.length_cons] at hr
   omega
  ·exact staysL L _ (stays l s h0)
end Go.Proofs.YtmcajfefagdbnaaGreat
namespace Go.Proofs.YtmcajfefagdbnaaGreat
open Go Go.RowKit
abbrev Lay.wq (L : Lay) (q : Fin 1152921504606846976) : Lay := { L with q0 := q }
theorem act_of {s : St} (hI : Inv s) {k : Int} {i : Nat} (h : (s.lk k).h i ≠ 0) : k ∈ s.act :=
 (hI.act k).2 ((live_iff _ _).2 (.inr ⟨i, ((hI.row k).hold i h).2, h⟩))
theorem pairs_len (l : List Int) (A : List Nat) : (l.flatMap fun k => A.map fun (i : Nat) => (k, (i : Int))).length = l.length * A.length := by
 induction l with
 | nil => simp
 | cons x l ih => simp only [List.flatMap_cons, List.length_append, List.length_map, ih, List.length_cons]; rw [Nat.succ_mul, Nat.add_comm]
theorem PSt.reset {L : Lay} {bs : Nat → Nat} {A : List Nat} {ow : Ow} {m : Nat} {mu lv : Int} {s : St} {w : World} (h : PSt L bs A ow m mu lv s w) (hI : Inv s) (hact : s.act.length ≤ 16) (hA : A.length ≤ 5) (h9 : ∀ k, s.rows k ≠ none → K9 k) (q : Fin 1152921504606846976) (hq : m + L.q0.val ≤ 100 + q.val) :
  PSt (L.wq q) bs A ow 100 mu lv s w := by
 obtain ⟨qf, q1, q2⟩ := h.que
 refine ⟨h.lt, h.tags, h.body, ?_, ?_, ⟨qf, q1.mono hq, q2⟩, h.txs, h.few, h.among, h.hdom, h.qdom, h.rdom, h.nmax⟩
 ·refine (h.vals.trim [0, 1, 2, 3, 4, 5, 6, 7, 8] (fun a _ ha => ?_)).mono (by decide)
  have h0 : s.rows a ≠ none := fun e => by simp [ivals, e] at ha
  have := h9 a h0
  unfold K9 at this
  simp only [List.mem_cons, List.not_mem_nil, or_false]
  omega
 ·have hlen : s.act.length * A.length ≤ 16 * 5 := Nat.mul_le_mul hact hA
  refine (h.hold.trim (s.act.flatMap fun k => A.map fun (i : Nat) => (k, (i : Int))) (fun a _ ha => ?_)).mono (by rw [pairs_len]; omega)
  have h0 : 0 ≤ a.2 ∧ (s.lk a.1).h a.2.toNat ≠ 0 := by
   by_cases e : 0 ≤ a.2 ∧ (s.lk a.1).h a.2.toNat ≠ 0
   ·exact e
   ·simp [hvals, holdF, if_neg e] at ha
  refine List.mem_flatMap.2 ⟨a.1, act_of hI h0.2, List.mem_map.2 ⟨a.2.toNat, (h.hdom _ _ h0.2).2, ?_⟩⟩
  rw [Int.toNat_of_nonneg h0.1]
end Go.Proofs.YtmcajfefagdbnaaGreat
namespace Go.Proofs.YtmcajfefagdbnaaGreat
open Go Go.RowKit
theorem modeOf_ok (o : Op4) (w : World) : Calls Tryz.prog 91 #[.agg #[.int .i64 o.k, .int .i64 o.a, .int .i64 o.b, .int .i64 o.c]] w fun e w' => e = .returned (.int .i64 (modeOf o)) ∧ Kept NoBlk w w' := by
 have HK : Hid (∀ o1, Kept NoBlk w (w.alloc o1)) := fun o1 => (Kept.refl _ _).alloc _
 obtain ⟨k, a, b, c⟩ := o
 simp only
 go_enter Tryz.func91, Tryz.ntmps91
 go_wp2_with fail
 all_goals
  go_ret
  refine ⟨?_, HK.out _⟩
  first | rfl | (simp_all [modeOf]; done)
set_option maxHeartbeats 800000 in
theorem holdsAsGood_any (p hb m : Nat) (row : Int) (want : Int × Int) (H : Int × Int → Option Int) (w : World) (hp : w.cell? ⟨p, 6, none⟩ = some (.map (some hb))) (hm : MapAt keyH w hb m (hvals H)) (hr : inI row) (hw : inI want.1) :
  Calls Tryz.prog 92 #[.pointer (some ⟨p, 0, none⟩), .int .i64 row, .agg #[.int .i64 want.1, .int .i64 want.2]] w fun e w' => e = .returned (.bool (decide (want.2 ≤ (H (row, want.1)).getD 0))) ∧ Kept NoBlk w w' := by
 have hpl := World.block_lt_of_cell? w _ hp
 have hl : ∀ o, (Instr.lookup 124 (.map (some hb)) (.agg #[.int .i64 row, .int .i64 want.1]) false).run Tryz.prog (w.alloc o).drew = .ok (.int .i64 ((H (row, want.1)).getD 0)) (w.alloc o).drew := by
  intro o
  have := (hm.kept ((Kept.refl NoBlk w).alloc o).drew (fun x => x)).look Tryz.underlying124 (zeroInt _) (a := (row, want.1)) ⟨hr, hw⟩
  rw [show (hvals H (row, want.1)).getD (.int .i64 0) = .int .i64 ((H (row, want.1)).getD 0) from by simp only [hvals]; cases H (row, want.1) <;> rfl] at this
  exact this
 generalize (H (row, want.1)).getD 0 = v at *
 obtain ⟨w1, w2⟩ := want
 simp only at *
 clear hm
 have HK : Hid (∀ o1, Kept NoBlk w (w.alloc o1).drew) := fun o1 => ((Kept.refl _ _).alloc _).drew
 go_enter Tryz.func92, Tryz.ntmps92
 go_wp2_with fail
 go_region
 go_wp2_with fail
 go_ret
 refine ⟨?_, HK.out _⟩
 first | rfl | (simp; done)
set_option maxHeartbeats 800000 in
theorem take_any (p hb m : Nat) (row : Int) (lock : Int × Int) (H : Int × Int → Option Int) (w : World) (hp : w.cell? ⟨p, 6, none⟩ = some (.map (some hb))) (hm : MapAt keyH w hb m (hvals H)) (hmm : m < maxLen) (hr : inI row) (hw : inI lock.1) :
  Calls Tryz.prog 96 #[.pointer (some ⟨p, 0, none⟩), .int .i64 row, .agg #[.int .i64 lock.1, .int .i64 lock.2]] w fun e w' => e = .returned (.tuple #[]) ∧ MapAt keyH w' hb (m + 1) (hvals (put H (row, lock.1) (some lock.2))) ∧ Kept (Blk hb) w w' := by
 have hpl := World.block_lt_of_cell? w _ hp
 obtain ⟨l1, l2⟩ := lock
 simp only at *
 have h0 : hb < w.heap.size := hm.lt
 have hk0 : Kept NoBlk w (w.alloc (Obj.cells #[.int .i64 l1, .int .i64 l2] 107)).drew := ((Kept.refl NoBlk w).alloc _).drew
 obtain ⟨w', hrun, hm', hk, _⟩ := (hm.kept hk0 (fun x => x)).store Tryz.underlying124 hmm (a := (row, l1)) ⟨hr, hw⟩ (.int .i64 l2)
 have hrun' : (Instr.mapUpdate 124 (.map (some hb)) (.agg #[.int .i64 row, .int .i64 l1]) (.int .i64 l2)).run Tryz.prog (w.alloc (Obj.cells #[.int .i64 l1, .int .i64 l2] 107)).drew = .ok () w' := hrun
 have he : put (hvals H) (row, l1) (some (.int .i64 l2)) = hvals (put H (row, l1) (some l2)) := by
  funext c
  simp only [put, hvals]
  split <;> rfl
 have HM : Hid (MapAt keyH w' hb (m + 1) (hvals (put H (row, l1) (some l2)))) := he ▸ hm'
 have HK : Hid (Kept (Blk hb) w w') := (hk0.mono (fun _ x => x.elim)).trans' hk
 clear hm hm' hk hk0 hrun he
 go_enter Tryz.func96, Tryz.ntmps96
 go_wp2_with fail
 go_region
 go_end0
 exact ⟨rfl, HM.out, HK.out⟩
end Go.Proofs.YtmcajfefagdbnaaGreat
