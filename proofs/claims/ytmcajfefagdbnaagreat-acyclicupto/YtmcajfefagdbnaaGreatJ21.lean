import Derived.Test.YtmcajfefagdbnaaGreatJ20
import Derived.Test.YtmcajfefagdbnaaGreatJ09
import Derived.Test.YtmcajfefagdbnaaGreatJ04
import Derived.Test.YtmcajfefagdbnaaGreatJ18
import Derived.Test.YtmcajfefagdbnaaGreatJ19
namespace Go.Proofs.YtmcajfefagdbnaaGreat
open Go Go.RowKit

def RowsIn (l : List Row2) : Prop := ∀ r ∈ l, inI r.k

/-- The rows that a list names. -/
def rowsF (l : List Row2) : Int → Option Int := l.foldl (fun f r => upd f r.k (some r.v)) (fun _ => none)

theorem rowsF_snoc (l : List Row2) (r : Row2) : rowsF (l ++ [r]) = upd (rowsF l) r.k (some r.v) := by simp [rowsF]

theorem foldRows_mem (l : List Row2) (f : Int → Option Int) (k : Int) : l.foldl (fun f r => upd f r.k (some r.v)) f k ≠ none → f k ≠ none ∨ ∃ r ∈ l, r.k = k := by
  induction l generalizing f with
  | nil => exact fun h => .inl h
  | cons r l ih =>
    intro h
    rcases ih _ h with h1 | ⟨x, h1, h2⟩
    · by_cases e : k = r.k
      · exact .inr ⟨r, by simp, e.symm⟩
      · change upd f r.k (some r.v) k ≠ none at h1
        rw [upd_other _ _ _ _ e] at h1; exact .inl h1
    · exact .inr ⟨x, by simp [h1], h2⟩

theorem rowsF_mem (l : List Row2) (k : Int) (h : rowsF l k ≠ none) : ∃ r ∈ l, r.k = k := (foldRows_mem l _ k h).elim (fun x => absurd rfl x) (fun x => x)

theorem run_makeMapHint2 (n : Int) (w : World) : (Instr.makeMap 122 (some (.int .i64 n))).run Tryz.prog w = .ok (.map (some w.heap.size)) (w.alloc (.map #[] 0)) := by
  simp [Instr.makeMap, run_underlying Tryz.underlying122, asInt, asIntOf]

theorem take_succ_getD (l : List Row2) (k : Nat) (h : k < l.length) : l.take (k + 1) = l.take k ++ [l.getD k Row2.z] := by
  rw [List.take_add_one, List.getElem?_eq_getElem h]
  simp [List.getD_eq_getElem?_getD, List.getElem?_eq_getElem h]

theorem ivals_put2 (f : Int → Option Int) (k v : Int) : put (ivals f) k (some (.int .i64 v)) = ivals (upd f k (some v)) := by
  funext x
  unfold put ivals upd
  split <;> simp

set_option maxRecDepth 100000 in
set_option maxHeartbeats 1600000 in
theorem valuesByKey_map (ao : Option Addr) (c n : Nat) (l : List Row2) (w : World) (hn : l.length = n) (hl : n ≤ 1048576) (h : 0 < n → ∃ b off, ao = some ⟨b, off, none⟩ ∧ RowsAt w b off l) (hw : RowsIn l) :
    Calls Tryz.prog 76 #[.slice ao n c] w fun e w' => e = .returned (.map (some w.heap.size)) ∧ MapAt keyI w' w.heap.size n (ivals (rowsF l)) ∧ Kept NoBlk w w' := by
  have Hn : Hid (l.length = n) := hn
  have hmm := fun n w => run_makeMapHint2 n w
  clear hn
  go_enter Tryz.func76, Tryz.ntmps76
  go_wp2_with fail
  go_loopw [11] (fun i wr => ∃ k : Nat, k ≤ n ∧ i = .int .i64 k ∧ MapAt keyI wr w.heap.size k (ivals (rowsF (l.take k))) ∧ Kept NoBlk w wr) (fun i _ => n - (intOf i).toNat)
  case atStart => exact ⟨0, Nat.zero_le _, rfl, MapAt.made keyI w, (Kept.refl _ _).alloc _⟩
  case round =>
    obtain ⟨k, hk, rfl, hown, hkw⟩ := hrel
    by_cases hlt : k < n
    · obtain ⟨b, off, rfl, hat⟩ := h (by omega)
      have hkl : k < l.length := by rw [Hn.out]; exact hlt
      obtain ⟨g0, g1⟩ := (hat.kept hkw (fun x => x)) k hkl
      have hwk : inI (l.getD k Row2.z).k := hw _ (by rw [List.getD_eq_getElem?_getD, List.getElem?_eq_getElem hkl]; exact List.getElem_mem hkl)
      have hsn : rowsF (l.take (k + 1)) = upd (rowsF (l.take k)) (l.getD k Row2.z).k (some (l.getD k Row2.z).v) := by rw [take_succ_getD l k hkl, rowsF_snoc]
      have HSN : Hid (rowsF (l.take (k + 1)) = upd (rowsF (l.take k)) (l.getD k Row2.z).k (some (l.getD k Row2.z).v)) := hsn
      have HKW : Hid (Kept NoBlk w wr) := hkw
      clear hkw hat h hw hkl hsn
      generalize l.getD k Row2.z = r at *
      have hst : ∀ o, ∃ w', (Instr.mapUpdate 122 (.map (some w.heap.size)) (.int .i64 r.k) (.int .i64 r.v)).run Tryz.prog (wr.alloc o) = .ok () w' ∧ MapAt keyI w' w.heap.size (k + 1) (put (ivals (rowsF (l.take k))) r.k (some (.int .i64 r.v))) ∧ Kept (Blk w.heap.size) (wr.alloc o) w' ∧ w'.heap.size = (wr.alloc o).heap.size := fun o => (hown.kept ((Kept.refl NoBlk wr).alloc o) (fun x => x)).store Tryz.underlying122 (by unfold maxLen; omega) (a := r.k) hwk (.int .i64 r.v)
      have HST : Hid (∀ o, ∃ w', (Instr.mapUpdate 122 (.map (some w.heap.size)) (.int .i64 r.k) (.int .i64 r.v)).run Tryz.prog (wr.alloc o) = .ok () w' ∧ MapAt keyI w' w.heap.size (k + 1) (put (ivals (rowsF (l.take k))) r.k (some (.int .i64 r.v))) ∧ Kept (Blk w.heap.size) (wr.alloc o) w' ∧ w'.heap.size = (wr.alloc o).heap.size) := hst
      clear hst hown
      obtain ⟨w1, hrun1, hm1, hk1, hs1⟩ := HST.out (.cells #[.int .i64 r.k, .int .i64 r.v] 95)
      have HM1 : Hid (MapAt keyI w1 w.heap.size (k + 1) (put (ivals (rowsF (l.take k))) r.k (some (.int .i64 r.v))) ∧ Kept (Blk w.heap.size) (wr.alloc (.cells #[.int .i64 r.k, .int .i64 r.v] 95)) w1) := ⟨hm1, hk1⟩
      clear hm1 hk1 hs1
      go_wp2_with fail
      go_roundw
      case rel =>
        refine ⟨k + 1, by omega, by go_num, ?_, (HKW.out.alloc _).trans HM1.out.2 (fun j hj => .inr (by cases hj; exact Nat.le_refl _))⟩
        rw [HSN.out, ← ivals_put2]; exact HM1.out.1
      case measure => simp [intOf]; omega
    · obtain rfl : k = n := by omega
      go_wp2_with fail
      go_ret
      rw [← Hn.out, List.take_length] at hown
      rw [← Hn.out]
      exact ⟨rfl, hown, hkw⟩

/-- The store that New makes. -/
def St.born (f : Int → Option Int) : St := ⟨0, f, 0, fun _ => ⟨0, 0, [], 0, false, none, 0, fun _ => 0, [], []⟩, fun _ => ⟨fun _ => 0, []⟩, [], []⟩

theorem run_makeMapH (w : World) : (Instr.makeMap 124 none).run Tryz.prog w = .ok (.map (some w.heap.size)) (w.alloc (.map #[] 0)) := by
  simp [Instr.makeMap]
theorem run_makeMapQ (w : World) : (Instr.makeMap 125 none).run Tryz.prog w = .ok (.map (some w.heap.size)) (w.alloc (.map #[] 0)) := by
  simp [Instr.makeMap]

def bornOw (L : Lay) : Ow := fun k => if k = L.p then (1, 0) else if k = L.vb then (2, 0) else if k = L.hb then (3, 0) else if k = L.qb then (4, 0) else (0, 0)

theorem PSt.born {w : World} {L : Lay} {n : Nat} {f : Int → Option Int} {u : Value} (hb : w.heap[L.p]? = some (.cells #[.int .i32 0, u, .int .i64 0, .map (some L.vb), .slice none 0 0, .int .i64 0, .map (some L.hb), .map (some L.qb), .slice none 0 0] 127 (0, 0)))
    (hv : MapAt keyI w L.vb n (ivals f)) (hh : MapAt keyH w L.hb 0 (fun _ => none)) (hq : MapAt keyI w L.qb 0 (fun _ => none)) (hf : ∀ k, f k ≠ none → inI k) (n1 : L.vb ≠ L.p) (n2 : L.hb ≠ L.p) (n3 : L.qb ≠ L.p) (n4 : L.hb ≠ L.vb) (n5 : L.qb ≠ L.vb) (n6 : L.qb ≠ L.hb) (bs : Nat → Nat) :
    PSt L bs [] (bornOw L) n 0 0 (St.born f) w := by
  refine ⟨?_, ⟨?_, ?_, ?_, ?_⟩, ⟨u, .slice none 0 0, .slice none 0 0, hb, RowT.nil _ _ _ _ _, RowT.nil _ _ _ _ _⟩, hv, ?_, ⟨fun _ => none, hq.mono (Nat.zero_le _), fun k => rfl⟩, ?_, Nat.zero_le _, ?_, ?_, ?_, hf, Nat.zero_le _⟩
  · intro k hk
    unfold bornOw at hk
    by_cases e1 : k = L.p
    · subst e1; exact lt_of_block hb
    rw [if_neg e1] at hk
    by_cases e2 : k = L.vb
    · subst e2; exact hv.lt
    rw [if_neg e2] at hk
    by_cases e3 : k = L.hb
    · subst e3; exact hh.lt
    rw [if_neg e3] at hk
    by_cases e4 : k = L.qb
    · subst e4; exact hq.lt
    rw [if_neg e4] at hk
    exact absurd rfl hk
  · unfold bornOw; rw [if_pos rfl]
  · unfold bornOw; rw [if_neg n1, if_pos rfl]
  · unfold bornOw; rw [if_neg n2, if_neg n4, if_pos rfl]
  · unfold bornOw; rw [if_neg n3, if_neg n5, if_neg n6, if_pos rfl]
  · refine (hh.mono (Nat.zero_le _)).congr ?_
    intro a _
    unfold hvals holdF
    simp [St.born]
  · intro i h1 h2
    have : i ≤ 0 := h2
    omega
  · intro i hi; cases hi
  · intro k j hj; exact absurd rfl hj
  · intro k x hx; cases hx

theorem bornOw_own {L : Lay} {k : Nat} (h : OwnP (bornOw L) k) : k = L.p ∨ k = L.vb ∨ k = L.hb ∨ k = L.qb := by
  unfold OwnP bornOw at h
  by_cases e1 : k = L.p
  · exact .inl e1
  rw [if_neg e1] at h
  by_cases e2 : k = L.vb
  · exact .inr (.inl e2)
  rw [if_neg e2] at h
  by_cases e3 : k = L.hb
  · exact .inr (.inr (.inl e3))
  rw [if_neg e3] at h
  by_cases e4 : k = L.qb
  · exact .inr (.inr (.inr e4))
  rw [if_neg e4] at h
  exact absurd rfl h

set_option maxRecDepth 20000 in
set_option maxHeartbeats 1600000 in
theorem pNew_any (ao : Option Addr) (c n : Nat) (l : List Row2) (w : World) (hn : l.length = n) (hl : n ≤ 1048576) (h : 0 < n → ∃ b off, ao = some ⟨b, off, none⟩ ∧ RowsAt w b off l) (hw : RowsIn l) :
    Calls Tryz.prog 39 #[.slice ao n c] w fun e w' => Kept NoBlk w w' ∧ ((¬ Rise l ∧ e = .returned (.tuple #[.pointer none, .int .i64 7])) ∨
      (Rise l ∧ ∃ L ow, e = .returned (.tuple #[.pointer (some ⟨L.p, 0, none⟩), .int .i64 0]) ∧ (∀ k, OwnP ow k → w.heap.size ≤ k) ∧ ∀ bs, PSt L bs [] ow n 0 0 (St.born (rowsF l)) w')) := by
  have Hn : Hid (l.length = n) := hn
  have HH : Hid (0 < n → ∃ b off, ao = some ⟨b, off, none⟩ ∧ RowsAt w b off l) := h
  have HW : Hid (RowsIn l) := hw
  have m1 := fun w => run_makeMapH w
  have m2 := fun w => run_makeMapQ w
  clear hn h hw
  go_enter Tryz.func39, Tryz.ntmps39
  go_wp2_with fail
  refine (keysRise_any ao c n l w Hn.out hl HH.out).mono ?_
  rintro e w1 ⟨r, rfl, hr, hk⟩
  cases r
  · have HR : Hid (¬ Rise l) := fun x => by simpa using hr.2 x
    have HK : Hid (Kept NoBlk w w1) := hk
    clear hr hk
    go_wp2_with fail
    go_ret2
    exact ⟨HK.out, .inl ⟨HR.out, rfl⟩⟩
  · have HR : Hid (Rise l) := hr.1 rfl
    have HK : Hid (Kept NoBlk w w1) := hk
    clear hr hk
    go_wp2_with fail
    refine (valuesByKey_map ao c n l w1 Hn.out hl (fun h0 => ?_) HW.out).mono ?_
    · obtain ⟨b, off, e, hat⟩ := HH.out h0
      exact ⟨b, off, e, hat.kept HK.out (fun x => x)⟩
    rintro e w2 ⟨rfl, hD, hk2⟩
    have HD : Hid (MapAt keyI w2 w1.heap.size n (ivals (rowsF l))) := hD
    have HK2 : Hid (Kept NoBlk w1 w2) := hk2
    clear hD hk2
    go_wp2_with fail
    go_ret2
    have hs2 : w1.heap.size < w2.heap.size := HD.out.lt
    have hs1 : w.heap.size ≤ w1.heap.size := HK.out.size
    refine ⟨(((HK.out.trans' HK2.out).alloc _).alloc _).alloc _, .inr ⟨HR.out, ⟨w2.heap.size + 1 + 1, w1.heap.size, w2.heap.size, w2.heap.size + 1⟩, bornOw _, rfl, fun k hk => ?_, fun bs => PSt.born (block_new3 w2 _ _ _) ?_ ?_ ?_ ?_ (by show w1.heap.size ≠ w2.heap.size + 1 + 1; omega) (by show w2.heap.size ≠ w2.heap.size + 1 + 1; omega) (by show w2.heap.size + 1 ≠ w2.heap.size + 1 + 1; omega) (by show w2.heap.size ≠ w1.heap.size; omega) (by show w2.heap.size + 1 ≠ w1.heap.size; omega) (by show w2.heap.size + 1 ≠ w2.heap.size; omega) bs⟩⟩
    · rcases bornOw_own hk with e | e | e | e
      · have : k = w2.heap.size + 1 + 1 := e
        omega
      · have : k = w1.heap.size := e
        omega
      · have : k = w2.heap.size := e
        omega
      · have : k = w2.heap.size + 1 := e
        omega
    · exact (HD.out : MapAt keyI w2 w1.heap.size n (ivals (rowsF l))).kept ((((Kept.refl NoBlk w2).alloc _).alloc _).alloc _) (fun x => x)
    · exact (MapAt.made keyH w2).kept (((Kept.refl NoBlk _).alloc _).alloc _) (fun x => x)
    · have := MapAt.made keyI (w2.alloc (.map #[] 0))
      rw [alloc_size] at this
      exact this.kept ((Kept.refl NoBlk _).alloc _) (fun x => x)
    · intro k hk
      obtain ⟨r, h1, h2⟩ := rowsF_mem l k hk
      rw [← h2]; exact (HW.out : RowsIn l) r h1

end Go.Proofs.YtmcajfefagdbnaaGreat

namespace Go.Proofs.YtmcajfefagdbnaaGreat
open Go Go.RowKit

structure KSt (L : Lay) (bs : Nat → Nat) (ow : Ow) (j : Nat) (s : St) (w : World) : Prop where
  st : PSt L bs (List.range' 1 s.n) ow (500 * j + 10) 0 (alive s : Int) s w
  good : Good s
  act : s.act.length ≤ 16
  n5 : s.n ≤ 5
  ag : ∀ i, 0 ≤ (s.tx i).agains ∧ (s.tx i).agains ≤ j
  wins : s.wins.length ≤ j
  clock : s.clock = s.n

theorem KSt.kept {L : Lay} {bs : Nat → Nat} {ow : Ow} {j : Nat} {s : St} {S : Nat → Prop} {w w' : World} (h : KSt L bs ow j s w) (hk : Kept S w w') (hd : ∀ k, OwnP ow k → ¬ S k) : KSt L bs ow j s w' :=
  ⟨h.st.kept hk hd, h.good, h.act, h.n5, h.ag, h.wins, h.clock⟩

theorem mem_range1 {i n : Nat} : i ∈ List.range' 1 n ↔ 1 ≤ i ∧ i ≤ n := by rw [List.mem_range'_1]; omega

/-- What a call leaves of it. -/
def KAft (L : Lay) (bs : Nat → Nat) (ow : Ow) (j : Nat) (w : World) (s' : St) (w' : World) : Prop := (∃ ow', KSt L bs ow' j s' w' ∧ AgreeP w ow ow') ∧ Kept (OwnP ow) w w'

theorem kStep {L : Lay} {bs : Nat → Nat} {ow : Ow} {j : Nat} {s : St} {w : World} (h : KSt L bs ow j s w) (id : Int) (hj : j ≤ 4194304) :
    Calls Tryz.prog 22 #[.pointer (some ⟨L.p, 0, none⟩), .int .i64 id] w fun e w' => e = .returned (.tuple #[.int .i64 (s.step id).2.1, .int .i64 (s.step id).2.2]) ∧ KAft L bs ow (j + 1) w (s.step id).1 w' := by
  refine (pStep h.st h.good.inv id (fun i h1 h2 _ => mem_range1.2 ⟨h1, h2⟩) h.act (by omega) (fun i h1 h2 h3 => ?_) (fun i => ⟨(h.ag i).1, by have := (h.ag i).2; omega⟩) (by have := h.wins; omega)).mono ?_
  · have h4 := alive_pos (s := s) (i := i) ⟨h1, h2, h3⟩
    have h5 := alive_le s
    have h6 := h.n5
    omega
  rintro e w' ⟨rfl, ⟨ow', h1, h2⟩, h3⟩
  refine ⟨rfl, ⟨ow', ?_, h2⟩, h3⟩
  by_cases hz : s.there id = 0
  · have hid : 1 ≤ id ∧ id ≤ s.n ∧ (s.tx id.toNat).state = 0 := by
      unfold St.there at hz
      split at hz
      · omega
      · split at hz
        · omega
        · rename_i a b
          exact ⟨by omega, by omega, by simpa using b⟩
    have hl : Lives s id.toNat := ⟨by omega, by omega, hid.2.2⟩
    have e1 : s.step id = ((s.go id.toNat).1, (s.go id.toNat).2, 0) := by unfold St.step; rw [if_neg (by simp [hz])]
    rw [e1] at h1 ⊢
    obtain ⟨a1, a2, a3, a4, a5, a6⟩ := go_ans s id.toNat hl.lives
    have hn := go_n s id.toNat
    refine ⟨?_, h.good.go hl, go_act h.act, ?_, fun i => ?_, ?_, ?_⟩
    · have e2 : lvAft (s.go id.toNat).2 (alive s : Int) = (alive (s.go id.toNat).1 : Int) := by rw [alive_go hl]; rfl
      have h1' := h1.mono (m' := 500 * (j + 1) + 10) (by omega)
      show PSt L bs (List.range' 1 (s.go id.toNat).1.n) ow' _ 0 (alive (s.go id.toNat).1 : Int) (s.go id.toNat).1 w'
      rw [hn.1, ← e2]
      exact h1'
    · show (s.go id.toNat).1.n ≤ 5
      rw [hn.1]; exact h.n5
    · have hai := h.ag i
      by_cases e : i = id.toNat
      · subst e
        show 0 ≤ ((s.go id.toNat).1.tx id.toNat).agains ∧ _
        rw [a6]
        split <;> omega
      · have := (base_eq (go_oth s e).base).2.2.2.2.1
        show 0 ≤ ((s.go id.toNat).1.tx i).agains ∧ ((s.go id.toNat).1.tx i).agains ≤ _
        rw [this]; omega
    · show (s.go id.toNat).1.wins.length ≤ _
      have := h.wins
      omega
    · show (s.go id.toNat).1.clock = (s.go id.toNat).1.n
      rw [hn.1, hn.2]; exact h.clock
  · have e1 : s.step id = (s, 0, s.there id) := by unfold St.step; rw [if_pos hz]
    rw [e1] at h1 ⊢
    refine ⟨?_, h.good, h.act, h.n5, fun i => ⟨(h.ag i).1, by have := (h.ag i).2; show (s.tx i).agains ≤ _; omega⟩, by have := h.wins; show s.wins.length ≤ _; omega, h.clock⟩
    have e2 : lvAft 0 (alive s : Int) = (alive s : Int) := rfl
    have h1' := h1.mono (m' := 500 * (j + 1) + 10) (by omega)
    rw [← e2]
    exact h1'

/-- What Txn tells. -/
def TxnTold (w : World) (t : Tx) (x : Value) (w' : World) : Prop := ∃ a k, x = .agg #[.int .i64 t.stamp, .int .i64 t.state, .int .i64 (t.next : Int), .bool t.wounded, .bool t.waits.isSome, .int .i64 t.agains, .slice (some ⟨a, 0, none⟩) 4 4, .slice (some ⟨k, 0, none⟩) t.reads.length t.reads.length] ∧ w.heap.size ≤ a ∧ w.heap.size ≤ k ∧
  w'.heap[a]? = some (.cells #[.int .i64 (t.regs 0), .int .i64 (t.regs 1), .int .i64 (t.regs 2), .int .i64 (t.regs 3)] 3 (0, 0)) ∧ w'.heap[k]? = some (.cells (seenCells t.reads).toArray 105 (0, 0))

theorem kTxn {L : Lay} {bs : Nat → Nat} {ow : Ow} {j : Nat} {s : St} {w : World} (h : KSt L bs ow j s w) (i : Nat) (hin : 1 ≤ i ∧ i ≤ s.n) :
    Calls Tryz.prog 23 #[.pointer (some ⟨L.p, 0, none⟩), .int .i64 (i : Int)] w fun e w' => ∃ x, e = .returned (.tuple #[x, .int .i64 0]) ∧ TxnTold w (s.tx i) x w' ∧ KSt L bs ow j s w' ∧ Kept (OwnP ow) w w' := by
  refine (pTxn_some h.st i hin).mono ?_
  rintro e w' ⟨a, k, rfl, h1, h2, h3, h4, h5, h6⟩
  exact ⟨_, rfl, ⟨a, k, rfl, h1, h2, h3, h4⟩, ⟨h5, h.good, h.act, h.n5, h.ag, h.wins, h.clock⟩, h6⟩

theorem alive_admit {s : St} (l : List Op4) : alive (s.admit l) = alive s + 1 := by
  unfold alive
  show (((List.range' 1 (s.n + 1)).filter fun i => ((upd s.tx (s.n + 1) _) i).state == 0).length) = _
  rw [List.range'_concat, List.filter_append, List.length_append]
  congr 1
  · congr 1
    apply List.filter_congr
    intro i hi
    rw [mem_range1] at hi
    rw [upd_other _ _ _ _ (by omega)]
  · simp [upd, Nat.add_comm]

theorem admit_tx (s : St) (l : List Op4) {i : Nat} (h : i ≠ s.n + 1) : (s.admit l).tx i = s.tx i := upd_other _ _ _ _ h

theorem Inv.admit {s : St} (hs : Inv s) (l : List Op4) : Inv (s.admit l) := by
  have hh : ∀ k j, (s.lk k).h j ≠ 0 → j ≠ s.n + 1 := fun k j hj => by have := (hs.row k).hold j hj; omega
  have hq : ∀ k j m, (j, m) ∈ (s.lk k).q → j ≠ s.n + 1 := fun k j m hj => by have := ((hs.row k).qmode _ hj).1; simp only at this; omega
  have hnew : (s.admit l).tx (s.n + 1) = ⟨s.clock + 1, 0, l, 0, false, none, 0, fun _ => 0, [], []⟩ := upd_same _ _ _
  refine ⟨fun k => ?_, fun k => ?_, fun k j hj => ?_, fun k j m hj => ?_, fun k j m hj => ?_, fun j k hj => ?_, fun i j h1 h2 h3 => ?_, fun j h1 h2 => ?_, fun j h1 => ?_, hs.actOnce, fun k => ?_⟩
  · refine (hs.row k).mono (Nat.le_succ _) (fun j i h1 h2 he => ?_)
    have hj : j ≠ s.n + 1 := h1.elim (hh k j) (fun ⟨m, hm⟩ => hq k j m hm)
    obtain ⟨m, hm⟩ := h2
    unfold Elder at he ⊢
    rw [admit_tx s l hj, admit_tx s l (hq k i m hm)]
    exact he
  · intro i m q e
    have := hs.still k i m q e
    rw [hind_true] at this ⊢
    obtain ⟨j, h1, h2⟩ := this
    exact ⟨j, Nat.le_succ_of_le h1, h2⟩
  · rw [admit_tx s l (hh k j hj)]; exact hs.holds k j hj
  · rw [admit_tx s l (hq k j m hj)]; exact hs.queue k j m hj
  · rw [admit_tx s l (hq k j m hj)]; exact hs.asks k j m hj
  · by_cases e : j = s.n + 1
    · subst e; rw [hnew] at hj; cases hj
    · rw [admit_tx s l e] at hj; exact hs.waits j k hj
  · have h3' : j ≤ s.n + 1 := h3
    rw [admit_tx s l (show i ≠ s.n + 1 by omega)]
    by_cases e : j = s.n + 1
    · subst e; rw [hnew]
      have := hs.late i h1 (by omega)
      show (s.tx i).stamp < s.clock + 1
      omega
    · rw [admit_tx s l e]; exact hs.age i j h1 h2 (by omega)
  · have h2' : j ≤ s.n + 1 := h2
    show _ ≤ s.clock + 1
    by_cases e : j = s.n + 1
    · subst e; rw [hnew]; exact Int.le_refl _
    · rw [admit_tx s l e]; have := hs.late j h1 (by omega); omega
  · have h1' : s.n + 1 < j := h1
    rw [admit_tx s l (by omega)]; exact hs.later j (by omega)
  · show k ∈ s.act ↔ (s.lk k).live (s.n + 1) = true
    rw [hs.act k, live_iff, live_iff]
    constructor
    · rintro (h | ⟨j, h1, h2⟩)
      · exact .inl h
      · exact .inr ⟨j, Nat.le_succ_of_le h1, h2⟩
    · rintro (h | ⟨j, h1, h2⟩)
      · exact .inl h
      · exact .inr ⟨j, ((hs.row k).hold j h2).2, h2⟩

theorem kAdmit {L : Lay} {bs : Nat → Nat} {ow : Ow} {j : Nat} {s : St} {w : World} (h : KSt L bs ow j s w) (v : Value) (l : List Op4) (ho : OpsSrc w v l) (hn : ∀ k, v.ownBlock = some k → ¬ OwnP ow k) (hin : ∀ o ∈ l, OpWf o) (hl : l.length ≤ 12) (h4 : s.n < 5) :
    Calls Tryz.prog 36 #[.pointer (some ⟨L.p, 0, none⟩), v] w fun e w' => e = .returned (.tuple #[.int .i64 ((s.n : Int) + 1), .int .i64 0]) ∧ (∃ t, KAft L (upd bs (s.n + 1) t) ow j w (s.admit l) w') := by
  have hal := alive_le s
  have hck := h.clock
  have he : admErr l (alive s) s.clock = 0 := by
    unfold admErr
    rw [if_neg (by omega), if_neg (by rw [List.all_eq_true.2 (fun o ho' => (hin o ho').2.2.2)]; simp), if_neg (by omega), if_neg (by omega)]
  refine (pAdmit_ok (lv := alive s) h.st v l ho hn (fun o ho' => ⟨(hin o ho').1, (hin o ho').2.1, (hin o ho').2.2.1⟩) (by omega) (by omega) (by simp; omega) he).mono ?_
  rintro e w' ⟨rfl, ⟨t, ow', h1, h2⟩, h3⟩
  refine ⟨rfl, t, ⟨ow', ?_, h2⟩, h3⟩
  refine ⟨?_, ⟨h.good.inv.admit l, fun i => ?_⟩, h.act, ?_, fun i => ?_, h.wins, ?_⟩
  · have e1 : List.range' 1 (s.admit l).n = List.range' 1 s.n ++ [s.n + 1] := by
      show List.range' 1 (s.n + 1) = _
      rw [List.range'_concat]; simp [Nat.add_comm]
    rw [e1, alive_admit]
    exact h1
  · show ((upd s.tx (s.n + 1) _) i).next ≤ ((upd s.tx (s.n + 1) _) i).ops.length
    by_cases e : i = s.n + 1
    · subst e; rw [upd_same]; exact Nat.zero_le _
    · rw [upd_other _ _ _ _ e]; exact h.good.fits i
  · show s.n + 1 ≤ 5
    omega
  · show 0 ≤ ((upd s.tx (s.n + 1) _) i).agains ∧ ((upd s.tx (s.n + 1) _) i).agains ≤ _
    by_cases e : i = s.n + 1
    · subst e; rw [upd_same]; simp
    · rw [upd_other _ _ _ _ e]; exact h.ag i
  · show s.clock + 1 = ((s.n + 1 : Nat) : Int)
    omega

end Go.Proofs.YtmcajfefagdbnaaGreat

namespace Go.Proofs.YtmcajfefagdbnaaGreat

def knOps1 : List Op4 := [⟨2, 7, 0, 0⟩, ⟨2, 8, 0, 0⟩]
def knOps2 : List Op4 := [⟨2, 8, 0, 0⟩]
def knWho : List Int := [2, 1, 1, 1, 2, 2, 1, 1, 2, 2]
def knWhat : List Int := [1, 1, 2, 2, 3, 2, 1, 6, 1, 6]
def knS : Nat → St
  | 0 => ((St.born (fun _ => none)).admit knOps1).admit knOps2
  | i + 1 => ((knS i).step (knWho.getD i 0)).1

set_option maxRecDepth 100000 in
theorem kn_ans : ∀ i, i < 10 → ((knS i).step (knWho.getD i 0)).2 = (knWhat.getD i 0, 0)
  | 0, _ => rfl
  | 1, _ => rfl
  | 2, _ => rfl
  | 3, _ => rfl
  | 4, _ => rfl
  | 5, _ => rfl
  | 6, _ => rfl
  | 7, _ => rfl
  | 8, _ => rfl
  | 9, _ => rfl
  | _ + 10, h => absurd h (by omega)

end Go.Proofs.YtmcajfefagdbnaaGreat

namespace Go.Proofs.YtmcajfefagdbnaaGreat
open Go Go.RowKit

theorem good_born (f : Int → Option Int) : Good (St.born f) := by
  refine ⟨⟨fun k => ?_, fun k => ?_, fun k j h => absurd rfl h, fun k j m h => (by cases h), fun k j m h => (by cases h), fun j k h => (by cases h), fun i j h1 h2 h3 => ?_, fun j h1 h2 => ?_, fun j _ => rfl, List.nodup_nil, fun k => ?_⟩, fun j => Nat.le_refl _⟩
  · refine ⟨fun j h => absurd rfl h, fun j => .inl rfl, fun x h => (by cases h), List.nodup_nil, fun i j _ h => absurd rfl h, fun l1 i m l2 h => ?_, fun x h => (by cases h)⟩
    have := congrArg List.length h
    simp [St.born] at this
  · intro i m q h; cases h
  · have : j ≤ 0 := h3
    omega
  · have : j ≤ 0 := h2
    omega
  · constructor
    · intro h; cases h
    · intro h
      rw [live_iff] at h
      rcases h with h | ⟨j, _, h⟩
      · exact absurd rfl h
      · exact absurd rfl h

theorem kNew (v : Value) (l : List Row2) (w : World) (hv : RowsSrc w v l) (hl : l.length ≤ 10) (hw : RowsIn l) (hr : Rise l) :
    Calls Tryz.prog 39 #[v] w fun e w' => ∃ L ow, e = .returned (.tuple #[.pointer (some ⟨L.p, 0, none⟩), .int .i64 0]) ∧ (∀ bs, KSt L bs ow 0 (St.born (rowsF l)) w') ∧ (∀ k, OwnP ow k → w.heap.size ≤ k) ∧ Kept NoBlk w w' := by
  obtain ⟨ao, c, rfl, hv⟩ := hv
  refine (pNew_any ao c l.length l w rfl (by omega) hv hw).mono ?_
  rintro e w' ⟨hk, ⟨h1, _⟩ | ⟨_, L, ow, rfl, h1, h2⟩⟩
  · exact absurd hr h1
  · refine ⟨L, ow, rfl, fun bs => ⟨(h2 bs).mono (by omega), good_born _, Nat.zero_le _, Nat.zero_le _, fun i => ⟨Int.le_refl _, Int.le_refl _⟩, Nat.zero_le _, rfl⟩, h1, hk⟩

theorem RowAt.ops {w : World} {x : Value} {l : List Op4} (h : RowAt w 114 4 x l.length (opCells l)) : OpsSrc w x l := by
  rcases h.2 with ⟨rfl, h0⟩ | ⟨g, off, cap, cur, rfl, _⟩
  · exact ⟨none, 0, by rw [h0], fun hp => by omega⟩
  · refine ⟨_, cap, rfl, fun _ => ⟨g, off, rfl, fun i hi => ?_⟩⟩
    obtain ⟨o0, o1, o2, o3⟩ := opCells_at l i hi
    have e0 := h.cell _ o0
    have e1 := h.cell _ o1
    have e2 := h.cell _ o2
    have e3 := h.cell _ o3
    exact ⟨e0, by rw [Nat.add_assoc]; exact e1, by rw [Nat.add_assoc]; exact e2, by rw [Nat.add_assoc]; exact e3⟩

/-- All that is owned lies from a place on. -/
def Fr (H : Nat) (ow : Ow) : Prop := ∀ k, OwnP ow k → H ≤ k

theorem Fr.agree {H : Nat} {w : World} {ow ow' : Ow} (h : Fr H ow) (ha : AgreeP w ow ow') (hs : H ≤ w.heap.size) : Fr H ow' := fun k hk => by
  by_cases e : k < w.heap.size
  · refine h k ?_
    unfold OwnP at hk ⊢
    rw [← ha k e]; exact hk
  · omega

theorem Fr.kept {H : Nat} {S : Nat → Prop} {w w1 w2 : World} {ow : Ow} (h : Fr H ow) (hw : w.heap.size ≤ H) (h1 : Kept S w w1) (h2 : Kept (OwnP ow) w1 w2) : Kept S w w2 := h1.trans h2 (fun k hk => .inr (by have := h k hk; omega))

theorem not_own {w : World} {ow ow' : Ow} {k : Nat} (h : ¬ OwnP ow k) (ha : AgreeP w ow ow') (hk : k < w.heap.size) : ¬ OwnP ow' k := by
  unfold OwnP at h ⊢
  rw [ha k hk]; exact h

def kn10 (l : List Int) : Array Value := #[.int .i64 (l.getD 0 0), .int .i64 (l.getD 1 0), .int .i64 (l.getD 2 0), .int .i64 (l.getD 3 0), .int .i64 (l.getD 4 0), .int .i64 (l.getD 5 0), .int .i64 (l.getD 6 0), .int .i64 (l.getD 7 0), .int .i64 (l.getD 8 0), .int .i64 (l.getD 9 0)]
theorem kn10_at (l : List Int) : ∀ k, k < 10 → (kn10 l)[k]? = some (.int .i64 (l.getD k 0))
  | 0, _ => rfl
  | 1, _ => rfl
  | 2, _ => rfl
  | 3, _ => rfl
  | 4, _ => rfl
  | 5, _ => rfl
  | 6, _ => rfl
  | 7, _ => rfl
  | 8, _ => rfl
  | 9, _ => rfl
  | _ + 10, h => absurd h (by omega)

theorem knOps_wf : (∀ o ∈ knOps1, OpWf o) ∧ ∀ o ∈ knOps2, OpWf o := by
  have h : ∀ a : Int, (a = 7 ∨ a = 8) → OpWf ⟨2, a, 0, 0⟩ := by
    intro a ha
    refine ⟨⟨?_, ?_⟩, ⟨by simp, by simp⟩, ⟨by simp, by simp⟩, by rfl⟩ <;> simp only <;> omega
  constructor
  · intro o ho
    simp [knOps1] at ho
    rcases ho with rfl | rfl
    · exact h 7 (.inl rfl)
    · exact h 8 (.inr rfl)
  · intro o ho
    simp [knOps2] at ho
    subst ho
    exact h 8 (.inr rfl)

set_option maxRecDepth 20000 in
set_option maxHeartbeats 3200000 in
theorem known_any (w : World) :
    Calls Tryz.prog 56 #[] w fun e w' => e = .returned (.bool true) ∧ Kept NoBlk w w' := by
  have hnew := kNew (.slice none 0 0) [] w ⟨none, 0, rfl, fun h => by simp at h⟩ (by simp) (fun r h => by cases h) (by intro i hi; simp at hi)
  have HN : Hid (Calls Tryz.prog 39 #[.slice none 0 0] w fun e w' => ∃ L ow, e = .returned (.tuple #[.pointer (some ⟨L.p, 0, none⟩), .int .i64 0]) ∧ (∀ bs, KSt L bs ow 0 (St.born (rowsF [])) w') ∧ (∀ k, OwnP ow k → w.heap.size ≤ k) ∧ Kept NoBlk w w') := hnew
  clear hnew
  go_enter Tryz.func56, Tryz.ntmps56
  go_wp2_with fail
  refine HN.out.mono ?_
  rintro e w1 ⟨L, ow, rfl, h1, h2, hk1⟩
  have H1 : Hid (∀ bs, KSt L bs ow 0 (St.born (rowsF [])) w1) := h1
  have H2 : Hid ((∀ k, OwnP ow k → w.heap.size ≤ k) ∧ Kept NoBlk w w1) := ⟨h2, hk1⟩
  clear h1 h2 hk1
  go_wp2_with fail
  have HA1 : Hid (Calls Tryz.prog 36 #[.pointer (some ⟨L.p, 0, none⟩), .slice (some ⟨w1.heap.size, 0, none⟩) 2 2] (w1.alloc (.cells #[.int .i64 2, .int .i64 7, .int .i64 0, .int .i64 0, .int .i64 2, .int .i64 8, .int .i64 0, .int .i64 0] 114)) fun e w' => e = .returned (.tuple #[.int .i64 1, .int .i64 0]) ∧ (∃ t, KAft L (upd (fun _ => 0) 1 t) ow 0 (w1.alloc (.cells #[.int .i64 2, .int .i64 7, .int .i64 0, .int .i64 0, .int .i64 2, .int .i64 8, .int .i64 0, .int .i64 0] 114)) ((St.born (rowsF [])).admit knOps1) w')) := by
    have hk : Kept NoBlk w1 (w1.alloc (.cells #[.int .i64 2, .int .i64 7, .int .i64 0, .int .i64 0, .int .i64 2, .int .i64 8, .int .i64 0, .int .i64 0] 114)) := (Kept.refl _ _).alloc _
    have hrow : RowAt (w1.alloc (.cells #[.int .i64 2, .int .i64 7, .int .i64 0, .int .i64 0, .int .i64 2, .int .i64 8, .int .i64 0, .int .i64 0] 114)) 114 4 (.slice (some ⟨w1.heap.size, 0, none⟩) 2 2) knOps1.length (opCells knOps1) := RowAt.full (block_alloc_new w1 _) rfl (by unfold maxLen; omega)
    exact kAdmit ((H1.out (fun _ => 0)).kept hk (fun _ _ x => x)) _ knOps1 hrow.ops (fun k e => by
      obtain rfl : w1.heap.size = k := by simpa [Value.ownBlock] using e
      intro ho
      have := (H1.out (fun _ => 0)).st.lt _ ho
      omega) knOps_wf.1 (by simp [knOps1]) (by show 0 < 5; omega)
  refine HA1.out.mono ?_
  rintro e w2 ⟨rfl, t1, ⟨ow2, h2, ha2⟩, hk2⟩
  have HF2 : Hid (Fr w.heap.size ow2 ∧ Kept NoBlk w w2) := by
    have hsz : w.heap.size ≤ (w1.alloc (.cells #[.int .i64 2, .int .i64 7, .int .i64 0, .int .i64 0, .int .i64 2, .int .i64 8, .int .i64 0, .int .i64 0] 114)).heap.size := (H2.out.2.alloc _).size
    exact ⟨Fr.agree (H2.out.1 : Fr w.heap.size ow) ha2 hsz, Fr.kept (H2.out.1 : Fr w.heap.size ow) (Nat.le_refl _) (H2.out.2.alloc _) hk2⟩
  have H3 : Hid (KSt L (upd (fun _ => 0) 1 t1) ow2 0 ((St.born (rowsF [])).admit knOps1) w2) := h2
  clear h2 ha2 hk2 HA1 H1 H2
  go_wp2_with fail
  have HA2 : Hid (Calls Tryz.prog 36 #[.pointer (some ⟨L.p, 0, none⟩), .slice (some ⟨w2.heap.size, 0, none⟩) 1 1] (w2.alloc (.cells #[.int .i64 2, .int .i64 8, .int .i64 0, .int .i64 0] 114)) fun e w' => e = .returned (.tuple #[.int .i64 2, .int .i64 0]) ∧ (∃ t, KAft L (upd (upd (fun _ => 0) 1 t1) 2 t) ow2 0 (w2.alloc (.cells #[.int .i64 2, .int .i64 8, .int .i64 0, .int .i64 0] 114)) (knS 0) w')) := by
    have hk : Kept NoBlk w2 (w2.alloc (.cells #[.int .i64 2, .int .i64 8, .int .i64 0, .int .i64 0] 114)) := (Kept.refl _ _).alloc _
    have hrow : RowAt (w2.alloc (.cells #[.int .i64 2, .int .i64 8, .int .i64 0, .int .i64 0] 114)) 114 4 (.slice (some ⟨w2.heap.size, 0, none⟩) 1 1) knOps2.length (opCells knOps2) := RowAt.full (block_alloc_new w2 _) rfl (by unfold maxLen; omega)
    exact kAdmit (H3.out.kept hk (fun _ _ x => x)) _ knOps2 hrow.ops (fun k e => by
      obtain rfl : w2.heap.size = k := by simpa [Value.ownBlock] using e
      intro ho
      have := H3.out.st.lt _ ho
      omega) knOps_wf.2 (by simp [knOps2]) (by show 1 < 5; omega)
  refine HA2.out.mono ?_
  rintro e w3 ⟨rfl, t2, ⟨ow3, h3, ha3⟩, hk3⟩
  have HF3 : Hid (Fr w.heap.size ow3 ∧ Kept NoBlk w w3) := by
    have hsz : w.heap.size ≤ (w2.alloc (.cells #[.int .i64 2, .int .i64 8, .int .i64 0, .int .i64 0] 114)).heap.size := (HF2.out.2.alloc _).size
    exact ⟨Fr.agree HF2.out.1 ha3 hsz, Fr.kept HF2.out.1 (Nat.le_refl _) (HF2.out.2.alloc _) hk3⟩
  have H4 : Hid (KSt L (upd (upd (fun _ => 0) 1 t1) 2 t2) ow3 0 (knS 0) w3) := h3
  clear h3 ha3 hk3 HA2 H3 HF2
  generalize upd (upd (fun _ => 0) 1 t1) 2 t2 = bs at *
  go_wp2_with fail
  have hkw : Kept NoBlk w3 ((w3.alloc (.cells (kn10 knWho) 3)).alloc (.cells (kn10 knWhat) 3)) := ((Kept.refl _ _).alloc _).alloc _
  have HB : Hid (((w3.alloc (.cells (kn10 knWho) 3)).alloc (.cells (kn10 knWhat) 3)).heap[w3.heap.size]? = some (.cells (kn10 knWho) 3 (0, 0)) ∧ ((w3.alloc (.cells (kn10 knWho) 3)).alloc (.cells (kn10 knWhat) 3)).heap[w3.heap.size + 1]? = some (.cells (kn10 knWhat) 3 (0, 0)) ∧ KSt L bs ow3 0 (knS 0) ((w3.alloc (.cells (kn10 knWho) 3)).alloc (.cells (kn10 knWhat) 3)) ∧ Fr w.heap.size ow3 ∧ ¬ OwnP ow3 w3.heap.size ∧ ¬ OwnP ow3 (w3.heap.size + 1) ∧ Kept NoBlk w ((w3.alloc (.cells (kn10 knWho) 3)).alloc (.cells (kn10 knWhat) 3))) := by
    refine ⟨block_alloc_old _ (block_alloc_new w3 _), block_new2 w3 _ _, H4.out.kept hkw (fun _ _ x => x), HF3.out.1, fun x => ?_, fun x => ?_, HF3.out.2.trans' hkw⟩
    · have := H4.out.st.lt _ x; omega
    · have := H4.out.st.lt _ x; omega
  clear hkw H4 HF3
  generalize w3.heap.size = B at *
  go_loopw [9] (fun i wr => ∃ (k : Nat) (ow : Ow), k ≤ 10 ∧ i = .int .i64 k ∧ wr.heap[B]? = some (.cells (kn10 knWho) 3 (0, 0)) ∧ wr.heap[B + 1]? = some (.cells (kn10 knWhat) 3 (0, 0)) ∧ KSt L bs ow k (knS k) wr ∧ Fr w.heap.size ow ∧ ¬ OwnP ow B ∧ ¬ OwnP ow (B + 1) ∧ Kept NoBlk w wr) (fun i _ => 10 - (intOf i).toNat)
  case atStart => exact ⟨0, ow3, by omega, rfl, HB.out⟩
  case round =>
    clear HB
    obtain ⟨k, ow4, hk, rfl, b1, b2, h4, hf, n1, n2, hkw⟩ := hrel
    by_cases hlt : k < 10
    · have g1 : wr.cell? ⟨B, k, none⟩ = some (.int .i64 (knWho.getD k 0)) := by rw [cell_at b1]; exact kn10_at _ k hlt
      have hst := kStep h4 (knWho.getD k 0) (by omega)
      rw [kn_ans k hlt] at hst
      have HST : Hid (Calls Tryz.prog 22 #[.pointer (some ⟨L.p, 0, none⟩), .int .i64 (knWho.getD k 0)] wr fun e w' => e = .returned (.tuple #[.int .i64 (knWhat.getD k 0), .int .i64 0]) ∧ KAft L bs ow4 (k + 1) wr (knS (k + 1)) w') := hst
      have HR : Hid (wr.heap[B]? = some (.cells (kn10 knWho) 3 (0, 0)) ∧ wr.heap[B + 1]? = some (.cells (kn10 knWhat) 3 (0, 0)) ∧ Fr w.heap.size ow4 ∧ ¬ OwnP ow4 B ∧ ¬ OwnP ow4 (B + 1) ∧ Kept NoBlk w wr) := ⟨b1, b2, hf, n1, n2, hkw⟩
      have j0 : (0 : Int) ≤ (k : Int) := by omega
      have j1 : (k : Int) < 10 := by omega
      clear hst b1 b2 h4 hf n1 n2 hkw
      generalize hid : knWho.getD k 0 = idk at *
      generalize han : knWhat.getD k 0 = ank at *
      go_wp2_with fail
      refine HST.out.mono ?_
      rintro e w4 ⟨rfl, ⟨ow5, h5, ha5⟩, hk5⟩
      have g2 : w4.cell? ⟨B + 1, k, none⟩ = some (.int .i64 ank) := by rw [cell_at (hk5.heap HR.out.2.1 HR.out.2.2.2.2.1), ← han]; exact kn10_at _ k hlt
      have H5 : Hid (w4.heap[B]? = some (.cells (kn10 knWho) 3 (0, 0)) ∧ w4.heap[B + 1]? = some (.cells (kn10 knWhat) 3 (0, 0)) ∧ KSt L bs ow5 (k + 1) (knS (k + 1)) w4 ∧ Fr w.heap.size ow5 ∧ ¬ OwnP ow5 B ∧ ¬ OwnP ow5 (B + 1) ∧ Kept NoBlk w w4) := by
        obtain ⟨r1, r2, r3, r4, r5, r6⟩ := HR.out
        exact ⟨hk5.heap r1 r4, hk5.heap r2 r5, h5, r3.agree ha5 r6.size, not_own r4 ha5 (lt_of_block r1), not_own r5 ha5 (lt_of_block r2), r3.kept (Nat.le_refl _) r6 hk5⟩
      clear h5 ha5 hk5 g1
      go_wp2_with fail
      go_roundw
      case rel => exact ⟨k + 1, ow5, by omega, by go_num, H5.out⟩
      case measure => simp [intOf]; omega
    · go_wp2_with fail
      go_ret
      exact ⟨rfl, hkw⟩

end Go.Proofs.YtmcajfefagdbnaaGreat
