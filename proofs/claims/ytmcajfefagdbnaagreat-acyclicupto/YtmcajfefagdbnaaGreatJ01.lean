import Derived.Below
import Derived.WalkKit
import Derived.Deep.QuietTactic
import Derived.BigQuiet
import Derived.Test.YtmcajfefagdbnaaGreatProg
namespace Go.Proofs.YtmcajfefagdbnaaGreat
open Go.RowKit

/-- Blocks outside S are as they were; the streams too; no block has gone. -/
structure Kept (S : Nat → Prop) (w w' : World) : Prop where
  os : w'.os = w.os
  tape : w'.tape = w.tape
  output : w'.output = w.output
  size : w.heap.size ≤ w'.heap.size
  block : ∀ k, k < w.heap.size → ¬ S k → w'.heap[k]? = w.heap[k]?

/-- Nothing old has turned. -/
def NoBlk : Nat → Prop := fun _ => False
/-- One block alone. -/
def Blk (b : Nat) : Nat → Prop := fun k => k = b

theorem Kept.refl (S : Nat → Prop) (w : World) : Kept S w w := ⟨rfl, rfl, rfl, Nat.le_refl _, fun _ _ _ => rfl⟩

theorem Kept.mono {S S' : Nat → Prop} {w w' : World} (h : Kept S w w') (hs : ∀ k, S k → S' k) : Kept S' w w' :=
  ⟨h.os, h.tape, h.output, h.size, fun k hk hn => h.block k hk (fun x => hn (hs k x))⟩

/-- What the second may turn is what the first may, or new since. -/
theorem Kept.trans {S S' : Nat → Prop} {a b c : World} (h : Kept S a b) (k : Kept S' b c) (hs : ∀ i, S' i → S i ∨ a.heap.size ≤ i) : Kept S a c :=
  ⟨k.os.trans h.os, k.tape.trans h.tape, k.output.trans h.output, Nat.le_trans h.size k.size, fun i hi hn =>
    (k.block i (Nat.lt_of_lt_of_le hi h.size) (fun x => (hs i x).elim hn (fun y => by omega))).trans (h.block i hi hn)⟩

theorem Kept.trans' {S : Nat → Prop} {a b c : World} (h : Kept S a b) (k : Kept S b c) : Kept S a c := h.trans k (fun _ x => .inl x)

theorem Kept.drew {S : Nat → Prop} {a w : World} (h : Kept S a w) : Kept S a w.drew := ⟨h.os, h.tape, h.output, h.size, h.block⟩

theorem Kept.drewN {S : Nat → Prop} {a w : World} (h : Kept S a w) (n : Nat) : Kept S a (w.drewN n) := ⟨h.os, h.tape, h.output, h.size, h.block⟩

theorem Kept.alloc {S : Nat → Prop} {a w : World} (h : Kept S a w) (o : Obj) : Kept S a (w.alloc o) :=
  h.trans (S' := NoBlk) ⟨rfl, rfl, rfl, by simp, fun k hk _ => Below.heap_alloc _ _ _ hk⟩ (fun _ x => x.elim)

theorem Kept.setCell {S : Nat → Prop} {a w : World} (h : Kept S a w) {p : Addr} (hp : S p.block ∨ a.heap.size ≤ p.block) (u : Value) : Kept S a (w.setCell p u) :=
  h.trans (S' := Blk p.block) ⟨rfl, rfl, rfl, by simp [World.setCell], fun _ _ hn => Below.heap_setCell _ _ _ _ hn⟩ (fun i x => by cases x; exact hp)

theorem Kept.grown {S : Nat → Prop} {a w w' : World} {row : Option Nat} (h : Kept S a w) (hg : w.grownBy w' row) (hr : ∀ k, row = some k → S k ∨ a.heap.size ≤ k) : Kept S a w' :=
  h.trans (S' := fun k => row = some k) ⟨hg.os, hg.tape, hg.output, hg.size, fun k hk hn => hg.block k hk (fun e => hn e.symm)⟩ (fun i x => hr i x)

theorem Kept.below {S : Nat → Prop} {w w' : World} (h : Kept S w w') {B : Nat} (hB : B ≤ w.heap.size) (hs : ∀ k, S k → B ≤ k) : Below B w w' :=
  ⟨h.os, h.tape, h.output, h.size, fun k hk => h.block k (by omega) (fun x => by have := hs k x; omega)⟩

theorem Kept.of_below {w w' : World} (h : Below w.heap.size w w') : Kept NoBlk w w' := ⟨h.os, h.tape, h.output, h.size, fun k hk _ => h.block k hk⟩

/-- A block's cells, as the walk wants them. -/
theorem cell_at {w : World} {b : Nat} {cs : Array Value} {t : TypeId} {f : Nat × Nat} (h : w.heap[b]? = some (.cells cs t f)) (o : Nat) : w.cell? ⟨b, o, none⟩ = cs[o]? := by
  simp [World.cell?, h]

theorem frozen_at {w : World} {b : Nat} {cs : Array Value} {t : TypeId} (h : w.heap[b]? = some (.cells cs t (0, 0))) (o : Nat) : w.frozen? ⟨b, o, none⟩ = false := by
  simp [World.frozen?, h]

theorem lt_of_block {w : World} {b : Nat} {o : Obj} (h : w.heap[b]? = some o) : b < w.heap.size := (Array.getElem?_eq_some_iff.1 h).1

theorem block_setCell {w : World} {b o : Nat} {cs : Array Value} {t : TypeId} {f : Nat × Nat} (h : w.heap[b]? = some (.cells cs t f)) (v : Value) :
    (w.setCell ⟨b, o, none⟩ v).heap[b]? = some (.cells (cs.setIfInBounds o v) t f) := by
  simp [World.setCell, Array.getElem?_modify, h]

theorem block_setCell_other {w : World} {a : Addr} {k : Nat} (h : k ≠ a.block) (v : Value) : (w.setCell a v).heap[k]? = w.heap[k]? := Below.heap_setCell _ _ _ _ h

theorem block_alloc_new (w : World) (o : Obj) : (w.alloc o).heap[w.heap.size]? = some o := heap_alloc_new w o

theorem block_alloc_old {w : World} (o : Obj) {k : Nat} {x : Obj} (h : w.heap[k]? = some x) : (w.alloc o).heap[k]? = some x := by
  rw [Below.heap_alloc _ _ _ (lt_of_block h)]; exact h

theorem Kept.cell {S : Nat → Prop} {w w' : World} (h : Kept S w w') {a : Addr} {v : Value} (hc : w.cell? a = some v) (hn : ¬ S a.block) : w'.cell? a = some v :=
  (World.cell?_of_block (h.block a.block (World.block_lt_of_cell? w a hc) hn)).trans hc

theorem Kept.heap {S : Nat → Prop} {w w' : World} (h : Kept S w w') {b : Nat} {o : Obj} (hc : w.heap[b]? = some o) (hn : ¬ S b) : w'.heap[b]? = some o :=
  (h.block b (lt_of_block hc) hn).trans hc

theorem ret_bool {a b : Bool} (h : a = b) : Ending.returned (.bool a) = .returned (.bool b) := by rw [h]

end Go.Proofs.YtmcajfefagdbnaaGreat

namespace Go.Proofs.YtmcajfefagdbnaaGreat
open Go.RowKit

/-- May a register be so? -/
def regB (n : Int) : Bool := decide (0 ≤ n) && decide (n < 4)
/-- May an operation be? -/
def opB (k a b : Int) : Bool := if k = 1 then regB b else if k = 2 then regB b else if k = 3 then true else if k = 4 then regB a && regB b else if k = 5 then regB a else false

set_option maxHeartbeats 400000 in
theorem register_any (n : Int) (w : World) : Calls Tryz.prog 142 #[.int .i64 n] w fun e w' => e = .returned (.bool (regB n)) ∧ w' = w := by
  by_cases h0 : 0 ≤ n
  · by_cases h4 : n < 4
    · have : regB n = true := by simp [regB, h0, h4]
      rw [this]; clear this
      go_enter Tryz.func142, Tryz.ntmps142
      go_wp2
      go_ret
      exact ⟨rfl, rfl⟩
    · have : regB n = false := by simp [regB, h4]
      rw [this]; clear this
      go_enter Tryz.func142, Tryz.ntmps142
      go_wp2
      go_ret
      exact ⟨rfl, rfl⟩
  · have : regB n = false := by simp [regB, h0]
    rw [this]; clear this
    go_enter Tryz.func142, Tryz.ntmps142
    go_wp2
    go_ret
    exact ⟨rfl, rfl⟩

set_option maxHeartbeats 400000 in
theorem isRegister_any (n : Int) (w : World) : Calls Tryz.prog 171 #[.int .i64 n] w fun e w' => e = .returned (.bool (regB n)) ∧ w' = w := by
  by_cases h0 : 0 ≤ n
  · by_cases h4 : n < 4
    · have : regB n = true := by simp [regB, h0, h4]
      rw [this]; clear this
      go_enter Tryz.func171, Tryz.ntmps171
      go_wp2
      go_ret
      exact ⟨rfl, rfl⟩
    · have : regB n = false := by simp [regB, h4]
      rw [this]; clear this
      go_enter Tryz.func171, Tryz.ntmps171
      go_wp2
      go_ret
      exact ⟨rfl, rfl⟩
  · have : regB n = false := by simp [regB, h0]
    rw [this]; clear this
    go_enter Tryz.func171, Tryz.ntmps171
    go_wp2
    go_ret
    exact ⟨rfl, rfl⟩

theorem opB_cases (k a b : Int) : (k = 1 ∧ opB k a b = regB b) ∨ (k = 2 ∧ opB k a b = regB b) ∨ (k = 3 ∧ opB k a b = true) ∨ (k = 4 ∧ opB k a b = (regB a && regB b)) ∨ (k = 5 ∧ opB k a b = regB a) ∨
    ((k == 1) = false ∧ (k == 2) = false ∧ (k == 3) = false ∧ (k == 4) = false ∧ (k == 5) = false ∧ opB k a b = false) := by
  by_cases h1 : k = 1
  · exact .inl ⟨h1, by simp [opB, h1]⟩
  by_cases h2 : k = 2
  · exact .inr (.inl ⟨h2, by simp [opB, h2]⟩)
  by_cases h3 : k = 3
  · exact .inr (.inr (.inl ⟨h3, by simp [opB, h3]⟩))
  by_cases h4 : k = 4
  · exact .inr (.inr (.inr (.inl ⟨h4, by simp [opB, h4]⟩)))
  by_cases h5 : k = 5
  · exact .inr (.inr (.inr (.inr (.inl ⟨h5, by simp [opB, h5]⟩))))
  exact .inr (.inr (.inr (.inr (.inr ⟨by simp [h1], by simp [h2], by simp [h3], by simp [h4], by simp [h5], by simp [opB, h1, h2, h3, h4, h5]⟩))))

set_option maxHeartbeats 1600000 in
theorem may_any (k a b c : Int) (w : World) : Calls Tryz.prog 108 #[.agg #[.int .i64 k, .int .i64 a, .int .i64 b, .int .i64 c]] w fun e w' =>
    e = .returned (.bool (opB k a b)) ∧ w' = w.alloc (.cells #[.int .i64 k, .int .i64 a, .int .i64 b, .int .i64 c] 114) := by
  rcases opB_cases k a b with ⟨rfl, h⟩ | ⟨rfl, h⟩ | ⟨rfl, h⟩ | ⟨rfl, h⟩ | ⟨rfl, h⟩ | ⟨h1, h2, h3, h4, h5, h⟩
  all_goals
    rw [h]; clear h
  case inr.inr.inr.inl =>
    cases hx : regB a
    all_goals
      have Hx : Hid _ := hx
      clear hx
      go_enter Tryz.func108, Tryz.ntmps108
      go_wp2_with fail
      refine (register_any _ _).mono ?_; rintro e w' ⟨rfl, rfl⟩
      rw [Hx.out]
      go_wp2_with fail
      refine (register_any _ _).mono ?_; rintro e w' ⟨rfl, rfl⟩
      go_wp2_with fail
      go_ret
      exact ⟨by simp, rfl⟩
  all_goals
    go_enter Tryz.func108, Tryz.ntmps108
    go_wp2_with (go_at_call 142; refine (register_any _ _).mono ?_; rintro e w' ⟨rfl, rfl⟩)
    go_ret
    exact ⟨rfl, rfl⟩

set_option maxHeartbeats 1600000 in
theorem allowed_any (k a b c : Int) (w : World) : Calls Tryz.prog 141 #[.agg #[.int .i64 k, .int .i64 a, .int .i64 b, .int .i64 c]] w fun e w' =>
    e = .returned (.bool (opB k a b)) ∧ w' = w.alloc (.cells #[.int .i64 k, .int .i64 a, .int .i64 b, .int .i64 c] 114) := by
  rcases opB_cases k a b with ⟨rfl, h⟩ | ⟨rfl, h⟩ | ⟨rfl, h⟩ | ⟨rfl, h⟩ | ⟨rfl, h⟩ | ⟨h1, h2, h3, h4, h5, h⟩
  all_goals
    rw [h]; clear h
  case inr.inr.inr.inl =>
    cases hx : regB a
    · have Hx : Hid _ := hx
      clear hx
      go_enter Tryz.func141, Tryz.ntmps141
      go_wp2_with fail
      refine (isRegister_any _ _).mono ?_; rintro e w' ⟨rfl, rfl⟩
      rw [Hx.out]
      go_wp2_with fail
      go_ret
      exact ⟨by simp, rfl⟩
    · have Hx : Hid _ := hx
      clear hx
      go_enter Tryz.func141, Tryz.ntmps141
      go_wp2_with fail
      refine (isRegister_any _ _).mono ?_; rintro e w' ⟨rfl, rfl⟩
      rw [Hx.out]
      go_wp2_with fail
      refine (isRegister_any _ _).mono ?_; rintro e w' ⟨rfl, rfl⟩
      go_wp2_with fail
      go_ret
      exact ⟨by simp, rfl⟩
  all_goals
    go_enter Tryz.func141, Tryz.ntmps141
    go_wp2_with (go_at_call 171; refine (isRegister_any _ _).mono ?_; rintro e w' ⟨rfl, rfl⟩)
    go_ret
    exact ⟨rfl, rfl⟩
end Go.Proofs.YtmcajfefagdbnaaGreat

namespace Go.Proofs.YtmcajfefagdbnaaGreat
open Go.RowKit

/-- An operation's four numbers. -/
structure Op4 where
  k : Int
  a : Int
  b : Int
  c : Int

def Op4.z : Op4 := ⟨0, 0, 0, 0⟩
def Op4.ok (o : Op4) : Bool := opB o.k o.a o.b
def Op4.cells (o : Op4) : List Value := [.int .i64 o.k, .int .i64 o.a, .int .i64 o.b, .int .i64 o.c]

/-- Operations in memory, from a place on. -/
def OpsAt (w : World) (b off : Nat) (l : List Op4) : Prop := ∀ i, i < l.length →
  w.cell? ⟨b, off + i * 4, none⟩ = some (.int .i64 (l.getD i Op4.z).k) ∧ w.cell? ⟨b, off + i * 4 + 1, none⟩ = some (.int .i64 (l.getD i Op4.z).a) ∧
  w.cell? ⟨b, off + i * 4 + 2, none⟩ = some (.int .i64 (l.getD i Op4.z).b) ∧ w.cell? ⟨b, off + i * 4 + 3, none⟩ = some (.int .i64 (l.getD i Op4.z).c)

theorem OpsAt.kept {S : Nat → Prop} {w w' : World} {b off : Nat} {l : List Op4} (h : OpsAt w b off l) (hk : Kept S w w') (hn : ¬ S b) : OpsAt w' b off l := fun i hi =>
  ⟨hk.cell (h i hi).1 hn, hk.cell (h i hi).2.1 hn, hk.cell (h i hi).2.2.1 hn, hk.cell (h i hi).2.2.2 hn⟩

theorem all_take_succ (l : List Op4) (k : Nat) (hk : k < l.length) (h : (l.take k).all Op4.ok = true) : (l.take (k + 1)).all Op4.ok = (l.getD k Op4.z).ok := by
  rw [List.take_succ_eq_append_getElem hk, List.all_append, h]
  simp [List.getD, hk]

theorem all_false_of (l : List Op4) (k : Nat) (hk : k < l.length) (h : (l.getD k Op4.z).ok = false) : l.all Op4.ok = false := by
  rw [List.all_eq_false]
  exact ⟨l[k], List.getElem_mem hk, by simp [List.getD, hk] at h; simp [h]⟩

set_option maxHeartbeats 1600000 in
theorem allAllowed_some (b off cap : Nat) (l : List Op4) (w : World) (h : OpsAt w b off l) (hl : l.length ≤ 1048576) :
    Calls Tryz.prog 106 #[.slice (some ⟨b, off, none⟩) l.length cap] w fun e w' => e = .returned (.bool (l.all Op4.ok)) ∧ Kept NoBlk w w' := by
  generalize hn : l.length = n at hl ⊢
  have Hn : Hid _ := hn
  clear hn
  go_enter Tryz.func106, Tryz.ntmps106
  go_wp2
  go_loopw [7] (fun i wr => ∃ k : Nat, k ≤ n ∧ i = .int .i64 k ∧ (l.take k).all Op4.ok = true ∧ Kept NoBlk w wr) (fun i _ => n - (intOf i).toNat)
  case atStart => exact ⟨0, Nat.zero_le _, rfl, rfl, Kept.refl _ _⟩
  case round =>
    obtain ⟨k, hk, rfl, hall, hkw⟩ := hrel
    by_cases hlt : k < n
    · have hkl : k < l.length := by rw [Hn.out]; exact hlt
      obtain ⟨g0, g1, g2, g3⟩ := (h.kept hkw (fun x => x)) k hkl
      have Hs : Hid _ := all_take_succ l k hkl hall
      have Hf : Hid _ := all_false_of l k hkl
      have Hk : Hid _ := hkw
      clear hkl h hall hkw
      generalize l.getD k Op4.z = o at *
      go_wp2_with fail
      refine (allowed_any _ _ _ _ _).mono ?_
      rintro e w' ⟨rfl, rfl⟩
      have hko : o.ok = opB o.k o.a o.b := rfl
      have Ho : Hid _ := hko
      clear hko
      generalize opB o.k o.a o.b = x at *
      cases x
      · go_wp2_with fail
        go_ret
        exact ⟨ret_bool (Hf.out Ho.out).symm, (Hk.out.alloc _).alloc _⟩
      · go_wp2_with fail
        go_roundw
        case rel => exact ⟨k + 1, by omega, by go_num, Hs.out.trans Ho.out, (Hk.out.alloc _).alloc _⟩
        case measure => simp [intOf]; omega
    · go_wp2_with fail
      go_ret
      refine ⟨ret_bool ?_, hkw⟩
      rw [← hall, List.take_of_length_le (by rw [Hn.out]; omega)]
end Go.Proofs.YtmcajfefagdbnaaGreat

namespace Go.Proofs.YtmcajfefagdbnaaGreat

def upd {α β : Type} [DecidableEq α] (f : α → β) (i : α) (x : β) : α → β := fun j => if j = i then x else f j

@[simp] theorem upd_same {α β : Type} [DecidableEq α] (f : α → β) (i : α) (x : β) : upd f i x i = x := by simp [upd]
theorem upd_other {α β : Type} [DecidableEq α] (f : α → β) (i j : α) (x : β) (h : j ≠ i) : upd f i x j = f j := by simp [upd, h]

/-- What a row was found to be. -/
structure Saw where
  key : Int
  there : Bool
  val : Int

/-- A transaction; what it would take back, the latest first. -/
structure Tx where
  stamp : Int
  state : Int
  ops : List Op4
  next : Nat
  wounded : Bool
  waits : Option Int
  agains : Int
  regs : Int → Int
  reads : List Saw
  undo : List Saw

/-- The next operation. -/
def Tx.op (t : Tx) : Op4 := t.ops.getD t.next Op4.z

/-- A row's locks: in which mode each holds it (0: it does not); who waits. -/
structure Lk where
  h : Nat → Int
  q : List (Nat × Int)

structure St where
  clock : Int
  rows : Int → Option Int
  n : Nat
  tx : Nat → Tx
  lk : Int → Lk
  act : List Int
  wins : List Nat

def conf (a b : Int) : Bool := a == 2 || b == 2

/-- Does a holder, but i, conflict? -/
def hind (n : Nat) (h : Nat → Int) (i : Nat) (m : Int) : Bool := (List.range (n + 1)).any fun j => j != i && h j != 0 && conf (h j) m

/-- The first ones get it, as long as they can. -/
def settle (n : Nat) : (Nat → Int) → List (Nat × Int) → Lk
  | h, [] => ⟨h, []⟩
  | h, (i, m) :: q => if hind n h i m then ⟨h, (i, m) :: q⟩ else settle n (upd h i m) q

def Lk.drop (l : Lk) (i : Nat) : Lk := ⟨upd l.h i 0, l.q.filter (fun x => x.1 != i)⟩
def Lk.freed (l : Lk) (n i : Nat) : Lk := settle n (l.drop i).h (l.drop i).q
def Lk.live (l : Lk) (n : Nat) : Bool := !l.q.isEmpty || (List.range (n + 1)).any fun j => l.h j != 0

/-- Who waits for a row, and is in its queue no more, waits no more. -/
def Tx.look (t : Tx) (lk : Int → Lk) (j : Nat) : Tx :=
  { t with waits := match t.waits with
    | none => none
    | some k => if (lk k).q.any (fun x => x.1 == j) then some k else none }

def St.freed (s : St) (i : Nat) : St :=
  { s with lk := fun k => (s.lk k).freed s.n i, act := s.act.filter (fun k => ((s.lk k).freed s.n i).live s.n), tx := fun j => (s.tx j).look (fun k => (s.lk k).freed s.n i) j }

def Saw.old (b : Saw) : Option Int := if b.there then some b.val else none
def back (f : Int → Option Int) (l : List Saw) : Int → Option Int := l.foldl (fun f b => upd f b.key b.old) f

def Tx.anew (t : Tx) : Tx := { t with undo := [], next := 0, wounded := false, waits := none, regs := fun _ => 0, reads := [] }

def St.undone (s : St) (i : Nat) : St := St.freed { s with rows := back s.rows (s.tx i).undo, tx := upd s.tx i (s.tx i).anew } i

def St.setTx (s : St) (i : Nat) (f : Tx → Tx) : St := { s with tx := upd s.tx i (f (s.tx i)) }

def St.again (s : St) (i : Nat) : St := (s.undone i).setTx i fun t => { t with agains := t.agains + 1 }
def St.fell (s : St) (i : Nat) (z : Int) : St := (s.undone i).setTx i fun t => { t with state := z }
def St.commit (s : St) (i : Nat) : St := St.freed { s.setTx i (fun t => { t with state := 1 }) with wins := s.wins ++ [i] } i

def St.crowded (s : St) (k : Int) : Bool := !s.act.contains k && decide (16 ≤ s.act.length)

def addKey (l : List Int) (k : Int) : List Int := if l.contains k then l else l ++ [k]

def St.grant (s : St) (i : Nat) (k m : Int) : St :=
  { s with lk := upd s.lk k ⟨upd (s.lk k).h i m, (s.lk k).q⟩, act := addKey s.act k }

/-- Is j wounded by i, which waits for the row k in the mode m? -/
def St.hit (s : St) (i : Nat) (k m : Int) (j : Nat) : Bool :=
  j != i && decide ((s.tx i).stamp < (s.tx j).stamp) && ((s.lk k).h j != 0 && conf ((s.lk k).h j) m || (s.lk k).q.any (fun x => x.1 == j && conf x.2 m))

def St.enq (s : St) (i : Nat) (k m : Int) : St :=
  { s with lk := upd s.lk k ⟨(s.lk k).h, (s.lk k).q ++ [(i, m)]⟩, act := addKey s.act k,
           tx := fun j => if j = i then { s.tx j with waits := some k } else if s.hit i k m j then { s.tx j with wounded := true } else s.tx j }

def modeOf (o : Op4) : Int := if o.k = 1 then 1 else if o.k = 2 ∨ o.k = 3 then 2 else 0

def sawOf (f : Int → Option Int) (k : Int) : Saw := ⟨k, (f k).isSome, (f k).getD 0⟩

def St.doOp (s : St) (i : Nat) (o : Op4) : St :=
  let t := s.tx i
  if o.k = 1 then s.setTx i fun t => { t with next := t.next + 1, regs := upd t.regs o.b ((s.rows o.a).getD 0), reads := t.reads ++ [sawOf s.rows o.a] }
  else if o.k = 2 then { s.setTx i (fun t => { t with next := t.next + 1, undo := sawOf s.rows o.a :: t.undo }) with rows := upd s.rows o.a (some (t.regs o.b)) }
  else if o.k = 3 then { s.setTx i (fun t => { t with next := t.next + 1, undo := sawOf s.rows o.a :: t.undo }) with rows := upd s.rows o.a none }
  else if o.k = 4 then s.setTx i fun t => { t with next := t.next + 1, regs := upd t.regs o.a (IntKind.wrap .i64 (IntKind.wrap .i64 (t.regs o.a + t.regs o.b) + o.c)) }
  else s.setTx i fun t => { t with next := t.next + 1 }

def St.actOn (s : St) (i : Nat) (o : Op4) : St × Int :=
  if o.k = 5 ∧ (s.tx i).regs o.a = 0 then (s.fell i 2, 4) else (s.doOp i o, 1)

/-- A step of one that lives. -/
def St.go (s : St) (i : Nat) : St × Int :=
  if (s.tx i).wounded then (s.again i, 3)
  else if (s.tx i).waits.isSome then (s, 2)
  else if (s.tx i).next = (s.tx i).ops.length then (s.commit i, 6)
  else
    let o := (s.tx i).op
    if 0 < modeOf o ∧ (s.lk o.a).h i < modeOf o then
      if s.crowded o.a then (s.fell i 3, 5)
      else if (s.lk o.a).q.isEmpty && !hind s.n (s.lk o.a).h i (modeOf o) then (s.grant i o.a (modeOf o)).actOn i o
      else (s.enq i o.a (modeOf o), 2)
    else s.actOn i o

/-- Is there such a transaction, and does it live? -/
def St.there (s : St) (id : Int) : Int := if id < 1 ∨ id > s.n then 5 else if (s.tx id.toNat).state ≠ 0 then 6 else 0

def St.step (s : St) (id : Int) : St × Int × Int := if s.there id ≠ 0 then (s, 0, s.there id) else ((s.go id.toNat).1, (s.go id.toNat).2, 0)

/-- What Admit makes. -/
def St.admit (s : St) (ops : List Op4) : St :=
  { s with clock := s.clock + 1, n := s.n + 1, tx := upd s.tx (s.n + 1) ⟨s.clock + 1, 0, ops, 0, false, none, 0, fun _ => 0, [], []⟩ }

end Go.Proofs.YtmcajfefagdbnaaGreat

namespace Go.Proofs.YtmcajfefagdbnaaGreat

theorem conf_comm (a b : Int) : conf a b = conf b a := by simp only [conf, Bool.or_comm]

theorem hind_true {n : Nat} {h : Nat → Int} {i : Nat} {m : Int} : hind n h i m = true ↔ ∃ j, j ≤ n ∧ j ≠ i ∧ h j ≠ 0 ∧ conf (h j) m = true := by
  simp only [hind, List.any_eq_true, List.mem_range, Bool.and_eq_true, bne_iff_ne, ne_eq]
  constructor
  · rintro ⟨j, h1, ⟨h2, h3⟩, h4⟩
    exact ⟨j, by omega, h2, h3, h4⟩
  · rintro ⟨j, h1, h2, h3, h4⟩
    exact ⟨j, by omega, ⟨h2, h3⟩, h4⟩

theorem hind_false {n : Nat} {h : Nat → Int} {i : Nat} {m : Int} : hind n h i m = false ↔ ∀ j, j ≤ n → j ≠ i → h j ≠ 0 → conf (h j) m = false := by
  rw [← Bool.not_eq_true, hind_true]
  constructor
  · intro h1 j h2 h3 h4
    cases h5 : conf (h j) m
    · rfl
    · exact absurd ⟨j, h2, h3, h4, h5⟩ h1
  · rintro h1 ⟨j, h2, h3, h4, h5⟩
    rw [h1 j h2 h3 h4] at h5
    cases h5

/-- A row as it may be. E j i: j is elder than i, or wounded. -/
structure RowOk (n : Nat) (E : Nat → Nat → Prop) (l : Lk) : Prop where
  hold : ∀ j, l.h j ≠ 0 → 1 ≤ j ∧ j ≤ n
  mode : ∀ j, l.h j = 0 ∨ l.h j = 1 ∨ l.h j = 2
  qmode : ∀ x, x ∈ l.q → (1 ≤ x.1 ∧ x.1 ≤ n) ∧ (x.2 = 1 ∨ x.2 = 2)
  once : (l.q.map (·.1)).Nodup
  apart : ∀ i j, i ≠ j → l.h i ≠ 0 → l.h j ≠ 0 → conf (l.h i) (l.h j) = false
  edge : ∀ l1 i m l2, l.q = l1 ++ (i, m) :: l2 → ∀ j, j ≠ i → ((l.h j ≠ 0 ∧ conf (l.h j) m = true) ∨ ∃ m', (j, m') ∈ l1 ∧ conf m' m = true) → E j i
  want : ∀ x, x ∈ l.q → l.h x.1 < x.2

/-- Its first one, if there is one, is held up. -/
def RowStill (n : Nat) (l : Lk) : Prop := ∀ i m q, l.q = (i, m) :: q → hind n l.h i m = true

theorem settle_still (n : Nat) (h : Nat → Int) (q : List (Nat × Int)) : RowStill n (settle n h q) := by
  induction q generalizing h with
  | nil => intro i m q e; cases e
  | cons x q ih =>
    obtain ⟨i, m⟩ := x
    simp only [settle]
    split
    · rename_i hh
      intro i' m' q' e
      simp only [List.cons.injEq, Prod.mk.injEq] at e
      obtain ⟨⟨rfl, rfl⟩, rfl⟩ := e
      exact hh
    · exact ih _

theorem settle_same (n : Nat) (l : Lk) (hs : RowStill n l) : settle n l.h l.q = l := by
  obtain ⟨h, q⟩ := l
  cases q with
  | nil => rfl
  | cons x q =>
    obtain ⟨i, m⟩ := x
    simp only [settle]
    rw [if_pos (hs i m q rfl)]

theorem settle_suffix (n : Nat) (h : Nat → Int) (q : List (Nat × Int)) : ∃ p, q = p ++ (settle n h q).q := by
  induction q generalizing h with
  | nil => exact ⟨[], rfl⟩
  | cons x q ih =>
    obtain ⟨i, m⟩ := x
    simp only [settle]
    split
    · exact ⟨[], rfl⟩
    · obtain ⟨p, hp⟩ := ih (upd h i m)
      exact ⟨(i, m) :: p, by rw [List.cons_append, ← hp]⟩

theorem settle_mem {n : Nat} {h : Nat → Int} {q : List (Nat × Int)} {x : Nat × Int} (hx : x ∈ (settle n h q).q) : x ∈ q := by
  obtain ⟨p, hp⟩ := settle_suffix n h q
  rw [hp]
  exact List.mem_append_right _ hx

/-- Who holds it then: held it so, or waited for it so, and waits no more. -/
theorem settle_holds (n : Nat) (h : Nat → Int) (q : List (Nat × Int)) (hq : (q.map (·.1)).Nodup) (j : Nat) :
    ((settle n h q).h j = h j ∧ (∀ m, (j, m) ∈ q → (j, m) ∈ (settle n h q).q)) ∨ ((j, (settle n h q).h j) ∈ q ∧ ∀ m, (j, m) ∉ (settle n h q).q) := by
  induction q generalizing h with
  | nil => exact .inl ⟨rfl, fun _ x => x⟩
  | cons x q ih =>
    obtain ⟨i, m⟩ := x
    simp only [List.map_cons, List.nodup_cons] at hq
    simp only [settle]
    split
    · exact .inl ⟨rfl, fun _ x => x⟩
    · by_cases hj : j = i
      · subst hj
        have no : ∀ m', (j, m') ∉ q := fun m' hm => hq.1 (List.mem_map.mpr ⟨(j, m'), hm, rfl⟩)
        rcases ih (upd h j m) hq.2 with ⟨h1, h2⟩ | ⟨h1, h2⟩
        · rw [h1]
          simp only [upd_same]
          exact .inr ⟨List.mem_cons_self, fun m' hm => no m' (settle_mem hm)⟩
        · exact absurd h1 (no _)
      · rcases ih (upd h i m) hq.2 with ⟨h1, h2⟩ | ⟨h1, h2⟩
        · refine .inl ⟨by rw [h1, upd_other _ _ _ _ hj], fun m' hm => ?_⟩
          simp only [List.mem_cons, Prod.mk.injEq] at hm
          rcases hm with ⟨e, _⟩ | hm
          · exact absurd e hj
          · exact h2 m' hm
        · exact .inr ⟨List.mem_cons_of_mem _ h1, h2⟩

theorem RowOk.give {n : Nat} {E : Nat → Nat → Prop} {h : Nat → Int} {i : Nat} {m : Int} {q : List (Nat × Int)} (hr : RowOk n E ⟨h, (i, m) :: q⟩) (hh : hind n h i m = false) : RowOk n E ⟨upd h i m, q⟩ := by
  have hq := hr.qmode (i, m) List.mem_cons_self
  have hn := hr.once
  simp only [List.map_cons, List.nodup_cons] at hn
  have no : ∀ m', (i, m') ∉ q := fun m' hm => hn.1 (List.mem_map.mpr ⟨(i, m'), hm, rfl⟩)
  have hf := hind_false.mp hh
  refine ⟨fun j hj => ?_, fun j => ?_, fun x hx => hr.qmode x (List.mem_cons_of_mem _ hx), hn.2, fun a b hab ha hb => ?_, fun l1 p mp l2 e j hj hc => ?_, fun x hx => ?_⟩
  · by_cases e : j = i
    · subst e; exact hq.1
    · exact hr.hold j (by simpa [upd_other _ _ _ _ e] using hj)
  · by_cases e : j = i
    · subst e; simp only [upd_same]; exact .inr hq.2
    · simp only [upd_other _ _ _ _ e]; exact hr.mode j
  · by_cases ea : a = i
    · subst ea
      have eb : b ≠ a := fun x => hab x.symm
      simp only [upd_same, upd_other _ _ _ _ eb] at hb ⊢
      rw [conf_comm]
      exact hf b (hr.hold b hb).2 eb hb
    · by_cases eb : b = i
      · subst eb
        simp only [upd_same, upd_other _ _ _ _ ea] at ha ⊢
        exact hf a (hr.hold a ha).2 ea ha
      · simp only [upd_other _ _ _ _ ea, upd_other _ _ _ _ eb] at ha hb ⊢
        exact hr.apart a b hab ha hb
  · refine hr.edge ((i, m) :: l1) p mp l2 (by simp only at e; rw [e]; rfl) j hj ?_
    rcases hc with ⟨h1, h2⟩ | ⟨m', h1, h2⟩
    · by_cases ej : j = i
      · subst ej
        simp only [upd_same] at h2
        exact .inr ⟨m, List.mem_cons_self, h2⟩
      · simp only [upd_other _ _ _ _ ej] at h1 h2
        exact .inl ⟨h1, h2⟩
    · exact .inr ⟨m', List.mem_cons_of_mem _ h1, h2⟩
  · have hxi : x.1 ≠ i := fun e => no x.2 (by rw [← e]; exact hx)
    simp only [upd_other _ _ _ _ hxi]
    exact hr.want x (List.mem_cons_of_mem _ hx)

theorem RowOk.settle {n : Nat} {E : Nat → Nat → Prop} {h : Nat → Int} {q : List (Nat × Int)} (hr : RowOk n E ⟨h, q⟩) : RowOk n E (settle n h q) := by
  induction q generalizing h with
  | nil => exact hr
  | cons x q ih =>
    obtain ⟨i, m⟩ := x
    simp only [Go.Proofs.YtmcajfefagdbnaaGreat.settle]
    split
    · exact hr
    · rename_i hh
      exact ih (hr.give (by simpa using hh))

theorem RowOk.mono {n n' : Nat} {E E' : Nat → Nat → Prop} {l : Lk} (hr : RowOk n E l) (hn : n ≤ n') (he : ∀ j i, (l.h j ≠ 0 ∨ ∃ m, (j, m) ∈ l.q) → (∃ m, (i, m) ∈ l.q) → E j i → E' j i) : RowOk n' E' l := by
  refine ⟨fun j hj => ⟨(hr.hold j hj).1, Nat.le_trans (hr.hold j hj).2 hn⟩, hr.mode, fun x hx => ⟨⟨(hr.qmode x hx).1.1, Nat.le_trans (hr.qmode x hx).1.2 hn⟩, (hr.qmode x hx).2⟩, hr.once, hr.apart, fun l1 i m l2 e j hj hc => ?_, hr.want⟩
  refine he j i ?_ ⟨m, by rw [e]; simp⟩ (hr.edge l1 i m l2 e j hj hc)
  rcases hc with ⟨h1, _⟩ | ⟨m', h1, _⟩
  · exact .inl h1
  · exact .inr ⟨m', by rw [e]; simp [h1]⟩

/-- A part of the list without some is a part of the list: where one stands, who was ahead. -/
theorem filter_split {α : Type} (p : α → Bool) (l : List α) : ∀ l1 x l2, l.filter p = l1 ++ x :: l2 → ∃ k1 k2, l = k1 ++ x :: k2 ∧ k1.filter p = l1 := by
  induction l with
  | nil => intro l1 x l2 e; simp at e
  | cons a l ih =>
    intro l1 x l2 e
    by_cases ha : p a = true
    · rw [List.filter_cons_of_pos ha] at e
      cases l1 with
      | nil =>
        simp only [List.nil_append, List.cons.injEq] at e
        exact ⟨[], l, by rw [e.1]; rfl, rfl⟩
      | cons b l1 =>
        simp only [List.cons_append, List.cons.injEq] at e
        obtain ⟨k1, k2, h1, h2⟩ := ih l1 x l2 e.2
        exact ⟨a :: k1, k2, by rw [h1]; rfl, by rw [List.filter_cons_of_pos ha, h2, e.1]⟩
    · rw [List.filter_cons_of_neg ha] at e
      obtain ⟨k1, k2, h1, h2⟩ := ih l1 x l2 e
      exact ⟨a :: k1, k2, by rw [h1]; rfl, by rw [List.filter_cons_of_neg ha, h2]⟩

theorem RowOk.drop {n : Nat} {E : Nat → Nat → Prop} {l : Lk} (hr : RowOk n E l) (i : Nat) : RowOk n E (l.drop i) := by
  have sub : ∀ j, (l.drop i).h j ≠ 0 → (l.drop i).h j = l.h j ∧ j ≠ i := by
    intro j hj
    by_cases e : j = i
    · subst e; simp [Lk.drop] at hj
    · exact ⟨upd_other _ _ _ _ e, e⟩
  have memq : ∀ x, x ∈ (l.drop i).q → x ∈ l.q ∧ x.1 ≠ i := by
    intro x hx
    simp only [Lk.drop, List.mem_filter, bne_iff_ne, ne_eq] at hx
    exact hx
  refine ⟨fun j hj => ?_, fun j => ?_, fun x hx => hr.qmode x (memq x hx).1, ?_, fun a b hab ha hb => ?_, fun l1 p m l2 e j hj hc => ?_, fun x hx => ?_⟩
  · have := sub j hj; rw [this.1] at hj; exact hr.hold j hj
  · by_cases e : j = i
    · subst e; exact .inl (by simp [Lk.drop])
    · simp only [Lk.drop, upd_other _ _ _ _ e]; exact hr.mode j
  · exact List.Sublist.nodup (List.Sublist.map _ List.filter_sublist) hr.once
  · have h1 := sub a ha; have h2 := sub b hb
    rw [h1.1] at ha ⊢; rw [h2.1] at hb ⊢
    exact hr.apart a b hab ha hb
  · obtain ⟨k1, k2, h1, h2⟩ := filter_split _ _ _ _ _ e
    refine hr.edge k1 p m k2 h1 j hj ?_
    rcases hc with ⟨h3, h4⟩ | ⟨m', h3, h4⟩
    · have := sub j h3; rw [this.1] at h3 h4; exact .inl ⟨h3, h4⟩
    · rw [← h2] at h3
      exact .inr ⟨m', (List.mem_filter.mp h3).1, h4⟩
  · have := memq x hx
    simp only [Lk.drop, upd_other _ _ _ _ this.2]
    exact hr.want x this.1

theorem RowOk.freed {n : Nat} {E : Nat → Nat → Prop} {l : Lk} (hr : RowOk n E l) (i : Nat) : RowOk n E (l.freed n i) := RowOk.settle (hr.drop i)

theorem freed_no (n : Nat) (l : Lk) (i : Nat) : (∀ m, (i, m) ∉ (l.freed n i).q) := by
  intro m hm
  have := settle_mem hm
  simp [Lk.drop] at this

theorem freed_no_h (n : Nat) (l : Lk) (i : Nat) (hq : (l.q.map (·.1)).Nodup) : (l.freed n i).h i = 0 := by
  have hd : (((l.drop i).q).map (·.1)).Nodup := List.Sublist.nodup (List.Sublist.map _ List.filter_sublist) hq
  rcases settle_holds n (l.drop i).h (l.drop i).q hd i with ⟨h1, _⟩ | ⟨h1, _⟩
  · simp only [Lk.freed]; rw [h1]; simp [Lk.drop]
  · simp [Lk.drop] at h1

/-- Who is there afterwards, j: not i; held or waited before. -/
theorem freed_h {n : Nat} {l : Lk} {i j : Nat} (hq : (l.q.map (·.1)).Nodup) (hj : (l.freed n i).h j ≠ 0) : j ≠ i ∧ ((l.freed n i).h j = l.h j ∨ (j, (l.freed n i).h j) ∈ l.q) := by
  have hd : (((l.drop i).q).map (·.1)).Nodup := List.Sublist.nodup (List.Sublist.map _ List.filter_sublist) hq
  have hji : j ≠ i := by
    intro e; subst e; exact hj (freed_no_h n l j hq)
  refine ⟨hji, ?_⟩
  rcases settle_holds n (l.drop i).h (l.drop i).q hd j with ⟨h1, _⟩ | ⟨h1, _⟩
  · left; simp only [Lk.freed]; rw [h1]; simp only [Lk.drop, upd_other _ _ _ _ hji]
  · right; exact (List.mem_filter.mp h1).1

theorem freed_q {n : Nat} {l : Lk} {i : Nat} {x : Nat × Int} (hx : x ∈ (l.freed n i).q) : x ∈ l.q ∧ x.1 ≠ i := by
  have := settle_mem hx
  simp only [Lk.drop, List.mem_filter, bne_iff_ne, ne_eq] at this
  exact this

end Go.Proofs.YtmcajfefagdbnaaGreat
