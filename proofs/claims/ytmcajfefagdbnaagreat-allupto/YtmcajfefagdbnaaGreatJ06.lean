import Derived.Test.YtmcajfefagdbnaaGreatJ04
import Derived.Test.YtmcajfefagdbnaaGreatJ05
import Derived.Test.YtmcajfefagdbnaaGreatProg
import Derived.Deep.AppendLies
import Derived.Test.YtmcajfefagdbnaaGreatJ02
import Derived.Defers
namespace Go.Proofs.YtmcajfefagdbnaaGreat
def upd {α β : Type} [DecidableEq α] (f : α → β) (i : α) (x : β) : α → β := fun j => if j = i then x else f j
@[simp] theorem upd_same {α β : Type} [DecidableEq α] (f : α → β) (i : α) (x : β) : upd f i x i = x := by simp [upd]
theorem upd_other {α β : Type} [DecidableEq α] (f : α → β) (i j : α) (x : β) (h : j ≠ i) : upd f i x j = f j := by simp [upd, h]
structure Saw where
 key : Int
 there : Bool
 val : Int
structure Tx where
 stamp : Int
 state : Int
 ops : List Op4
 next : Nat
 wounded : Bool
 waits : Option Int
 agains : Int
 regs : Int → Int
 reads : List Saw
 undo : List Saw
def Tx.op (t : Tx) : Op4 := t.ops.getD t.next Op4.z
structure Lk where
 h : Nat → Int
 q : List (Nat × Int)
structure St where
 clock : Int
 rows : Int → Option Int
 n : Nat
 tx : Nat → Tx
 lk : Int → Lk
 act : List Int
 wins : List Nat
def conf (a b : Int) : Bool := a == 2 || b == 2
def hind (n : Nat) (h : Nat → Int) (i : Nat) (m : Int) : Bool := (List.range (n + 1)).any fun j => j != i && h j != 0 && conf (h j) m
def settle (n : Nat) : (Nat → Int) → List (Nat × Int) → Lk
 | h, [] => ⟨h, []⟩
 | h, (i, m) :: q => if hind n h i m then ⟨h, (i, m) :: q⟩ else settle n (upd h i m) q
def Lk.drop (l : Lk) (i : Nat) : Lk := ⟨upd l.h i 0, l.q.filter (fun x => x.1 != i)⟩
def Lk.freed (l : Lk) (n i : Nat) : Lk := settle n (l.drop i).h (l.drop i).q
def Lk.live (l : Lk) (n : Nat) : Bool := !l.q.isEmpty || (List.range (n + 1)).any fun j => l.h j != 0
def Tx.look (t : Tx) (lk : Int → Lk) (j : Nat) : Tx :=
  { t with waits := match t.waits with
    | none => none
    | some k => if (lk k).q.any (fun x => x.1 == j) then some k else none }
def St.freed (s : St) (i : Nat) : St :=
  { s with lk := fun k => (s.lk k).freed s.n i, act := s.act.filter (fun k => ((s.lk k).freed s.n i).live s.n), tx := fun j => (s.tx j).look (fun k => (s.lk k).freed s.n i) j }
def Saw.old (b : Saw) : Option Int := if b.there then some b.val else none
def back (f : Int → Option Int) (l : List Saw) : Int → Option Int := l.foldl (fun f b => upd f b.key b.old) f
def Tx.anew (t : Tx) : Tx := { t with undo := [], next := 0, wounded := false, waits := none, regs := fun _ => 0, reads := [] }
def St.undone (s : St) (i : Nat) : St := St.freed { s with rows := back s.rows (s.tx i).undo, tx := upd s.tx i (s.tx i).anew } i
def St.setTx (s : St) (i : Nat) (f : Tx → Tx) : St := { s with tx := upd s.tx i (f (s.tx i)) }
def St.again (s : St) (i : Nat) : St := (s.undone i).setTx i fun t => { t with agains := t.agains + 1 }
def St.fell (s : St) (i : Nat) (z : Int) : St := (s.undone i).setTx i fun t => { t with state := z }
def St.commit (s : St) (i : Nat) : St := St.freed { s.setTx i (fun t => { t with state := 1 }) with wins := s.wins ++ [i] } i
def St.crowded (s : St) (k : Int) : Bool := !s.act.contains k && decide (16 ≤ s.act.length)
def addKey (l : List Int) (k : Int) : List Int := if l.contains k then l else l ++ [k]
def St.grant (s : St) (i : Nat) (k m : Int) : St :=
  { s with lk := upd s.lk k ⟨upd (s.lk k).h i m, (s.lk k).q⟩, act := addKey s.act k }
def St.hit (s : St) (i : Nat) (k m : Int) (j : Nat) : Bool :=
 j != i && decide ((s.tx i).stamp < (s.tx j).stamp) && ((s.lk k).h j != 0 && conf ((s.lk k).h j) m || (s.lk k).q.any (fun x => x.1 == j && conf x.2 m))
def St.enq (s : St) (i : Nat) (k m : Int) : St :=
  { s with lk := upd s.lk k ⟨(s.lk k).h, (s.lk k).q ++ [(i, m)]⟩, act := addKey s.act k,
           tx := fun j => if j = i then { s.tx j with waits := some k } else if s.hit i k m j then { s.tx j with wounded := true } else s.tx j }
def modeOf (o : Op4) : Int := if o.k = 1 then 1 else if o.k = 2 ∨ o.k = 3 then 2 else 0
def sawOf (f : Int → Option Int) (k : Int) : Saw := ⟨k, (f k).isSome, (f k).getD 0⟩
def St.doOp (s : St) (i : Nat) (o : Op4) : St :=
 let t := s.tx i
 if o.k = 1 then s.setTx i fun t => { t with next := t.next + 1, regs := upd t.regs o.b ((s.rows o.a).getD 0), reads := t.reads ++ [sawOf s.rows o.a] }
 else if o.k = 2 then { s.setTx i (fun t => { t with next := t.next + 1, undo := sawOf s.rows o.a :: t.undo }) with rows := upd s.rows o.a (some (t.regs o.b)) }
 else if o.k = 3 then { s.setTx i (fun t => { t with next := t.next + 1, undo := sawOf s.rows o.a :: t.undo }) with rows := upd s.rows o.a none }
 else if o.k = 4 then s.setTx i fun t => { t with next := t.next + 1, regs := upd t.regs o.a (IntKind.wrap .i64 (IntKind.wrap .i64 (t.regs o.a + t.regs o.b) + o.c)) }
 else s.setTx i fun t => { t with next := t.next + 1 }
def St.actOn (s : St) (i : Nat) (o : Op4) : St × Int :=
 if o.k = 5 ∧ (s.tx i).regs o.a = 0 then (s.fell i 2, 4) else (s.doOp i o, 1)
def St.go (s : St) (i : Nat) : St × Int :=
 if (s.tx i).wounded then (s.again i, 3)
 else if (s.tx i).waits.isSome then (s, 2)
 else if (s.tx i).next = (s.tx i).ops.length then (s.commit i, 6)
 else
  let o := (s.tx i).op
  if 0 < modeOf o ∧ (s.lk o.a).h i < modeOf o then
   if s.crowded o.a then (s.fell i 3, 5)
   else if (s.lk o.a).q.isEmpty && !hind s.n (s.lk o.a).h i (modeOf o) then (s.grant i o.a (modeOf o)).actOn i o
   else (s.enq i o.a (modeOf o), 2)
  else s.actOn i o
def St.there (s : St) (id : Int) : Int := if id < 1 ∨ id > s.n then 5 else if (s.tx id.toNat).state ≠ 0 then 6 else 0
def St.step (s : St) (id : Int) : St × Int × Int := if s.there id ≠ 0 then (s, 0, s.there id) else ((s.go id.toNat).1, (s.go id.toNat).2, 0)
def St.admit (s : St) (ops : List Op4) : St :=
  { s with clock := s.clock + 1, n := s.n + 1, tx := upd s.tx (s.n + 1) ⟨s.clock + 1, 0, ops, 0, false, none, 0, fun _ => 0, [], []⟩ }
end Go.Proofs.YtmcajfefagdbnaaGreat
namespace Go.Proofs.YtmcajfefagdbnaaGreat
open Go Go.RowKit
structure Row2 where
 k : Int
 v : Int
def Row2.z : Row2 := ⟨0, 0⟩
def Row2.cells (o : Row2) : List Value := [.int .i64 o.k, .int .i64 o.v]
def rowCells (l : List Row2) : List Value := l.flatMap Row2.cells
def RowsAt (w : World) (b off : Nat) (l : List Row2) : Prop := ∀ i, i < l.length →
 w.cell? ⟨b, off + i * 2, none⟩ = some (.int .i64 (l.getD i Row2.z).k) ∧ w.cell? ⟨b, off + i * 2 + 1, none⟩ = some (.int .i64 (l.getD i Row2.z).v)
theorem RowsAt.kept {S : Nat → Prop} {w w' : World} {b off : Nat} {l : List Row2} (h : RowsAt w b off l) (hk : Kept S w w') (hn : ¬ S b) : RowsAt w' b off l := fun i hi =>
 ⟨hk.cell (h i hi).1 hn, hk.cell (h i hi).2 hn⟩
def RowsSrc (w : World) (v : Value) (l : List Row2) : Prop := ∃ ao c, v = .slice ao l.length c ∧ (0 < l.length → ∃ b off, ao = some ⟨b, off, none⟩ ∧ RowsAt w b off l)
theorem rowCells_len (l : List Row2) : (rowCells l).length = l.length * 2 := by
 induction l with
 | nil => rfl
 | cons o l ih => simp only [rowCells, List.flatMap_cons, List.length_append] at ih ⊢; rw [ih]; simp [Row2.cells]; omega
theorem RowsAt.tail {w : World} {b off : Nat} {o : Row2} {l : List Row2} (h : RowsAt w b off (o :: l)) : RowsAt w b (off + 2) l := by
 intro i hi
 have := h (i + 1) (by simpa using hi)
 simp only [List.getD_cons_succ] at this
 rw [show off + (i + 1) * 2 = off + 2 + i * 2 from by omega] at this
 exact this
theorem RowsAt.flat {w : World} {b : Nat} : ∀ {off : Nat} {l : List Row2}, RowsAt w b off l → ∀ j u, (rowCells l)[j]? = some u → w.cell? ((⟨b, off, none⟩ : Addr).add j) = some u
 | off, [], _, j, u, hu => by simp [rowCells] at hu
 | off, o :: l, h, j, u, hu => by
  have h0 := h 0 (by simp)
  simp only [Nat.zero_mul, Nat.add_zero, List.getD_cons_zero] at h0
  rw [Addr.add_lit]
  by_cases hj : j < 2
  ·match j, hj with
   | 0, _ => simp [rowCells, Row2.cells] at hu; rw [← hu]; exact h0.1
   | 1, _ => simp [rowCells, Row2.cells] at hu; rw [← hu]; exact h0.2
  ·obtain ⟨j, rfl⟩ : ∃ i, j = i + 2 := ⟨j - 2, by omega⟩
   have hu' : (rowCells l)[j]? = some u := by
    simp only [rowCells, List.flatMap_cons] at hu
    rw [List.getElem?_append_right (by simp [Row2.cells])] at hu
    simpa [Row2.cells, rowCells] using hu
   have := RowsAt.flat h.tail j u hu'
   rw [Addr.add_lit] at this
   rw [show off + (j + 2) = off + 2 + j from by omega]
   exact this
theorem rowCells_one (l : List Row2) : ∀ u ∈ rowCells l, u.oneCell' = true := by
 intro u hu
 simp only [rowCells, List.mem_flatMap] at hu
 obtain ⟨o, _, ho⟩ := hu
 simp [Row2.cells] at ho
 rcases ho with rfl | rfl <;> rfl
theorem RowsSrc.mem {w : World} {v : Value} {l : List Row2} (h : RowsSrc w v l) : FromMem w 2 v l.length (rowCells l) := by
 obtain ⟨ao, c, rfl, h⟩ := h
 refine ⟨⟨ao, c, rfl, ?_, ?_⟩, rowCells_len l, rowCells_one l⟩
 ·intro hn
  rcases Nat.eq_zero_or_pos l.length with h0 | h0
  ·exact h0
  ·obtain ⟨b, off, hao, _⟩ := h h0
   rw [hn] at hao
   cases hao
 ·intro ad had j u hu
  have h0 : 0 < l.length := by
   rcases Nat.eq_zero_or_pos l.length with h0 | h0
   ·rw [List.eq_nil_of_length_eq_zero h0] at hu
    simp [rowCells] at hu
   ·exact h0
  obtain ⟨b, off, hao, hat⟩ := h h0
  rw [had] at hao
  obtain rfl := Option.some.inj hao
  exact hat.flat j u hu
theorem RowsAt.src {w : World} {b off c : Nat} {l : List Row2} (h : RowsAt w b off l) : RowsSrc w (.slice (some ⟨b, off, none⟩) l.length c) l := ⟨_, c, rfl, fun _ => ⟨b, off, rfl, h⟩⟩
theorem RowsSrc.kept {S : Nat → Prop} {w w' : World} {v : Value} {l : List Row2} (h : RowsSrc w v l) (hk : Kept S w w') (hn : ∀ b, v.ownBlock = some b → ¬ S b) : RowsSrc w' v l := by
 obtain ⟨ao, c, rfl, h⟩ := h
 refine ⟨ao, c, rfl, fun h0 => ?_⟩
 obtain ⟨b, off, rfl, hat⟩ := h h0
 exact ⟨b, off, rfl, hat.kept hk (hn b rfl)⟩
def Rise (l : List Row2) : Prop := ∀ i, i + 1 < l.length → (l.getD i Row2.z).k < (l.getD (i + 1) Row2.z).k
set_option maxHeartbeats 1600000 in
theorem keysRise_any (ao : Option Addr) (c n : Nat) (l : List Row2) (w : World) (hn : l.length = n) (hl : n ≤ 1048576) (h : 0 < n → ∃ b off, ao = some ⟨b, off, none⟩ ∧ RowsAt w b off l) :
  Calls Tryz.prog 75 #[.slice ao n c] w fun e w' => ∃ r : Bool, e = .returned (.bool r) ∧ (r = true ↔ Rise l) ∧ Kept NoBlk w w' := by
 have Hn : Hid _ := hn
 clear hn
 go_enter Tryz.func75, Tryz.ntmps75
 go_wp2_with fail
 go_loopw [3] (fun i wr => ∃ k nq : Nat, (k + 1 ≤ n ∨ k = 0) ∧ i = .int .i64 ((k : Int) + 1) ∧ (∀ i, i + 1 < k + 1 → (l.getD i Row2.z).k < (l.getD (i + 1) Row2.z).k) ∧ wr = w.drewN nq) (fun i _ => n - (intOf i).toNat)
 case atStart => exact ⟨0, 0, .inr rfl, rfl, fun i hi => by omega, rfl⟩
 case round =>
  obtain ⟨k, nq, hk, rfl, hrise, rfl⟩ := hrel
  by_cases hlt : k + 1 < n
  ·obtain ⟨b, off, rfl, hat⟩ := h (by omega)
   have g0 := (hat k (by rw [Hn.out]; omega)).1
   have g1 := (hat (k + 1) (by rw [Hn.out]; omega)).1
   have i1 : (0 : Int) ≤ (k : Int) + 1 := by omega
   have i2 : (k : Int) + 1 < (n : Int) := by omega
   have i3 : (0 : Int) ≤ (k : Int) + 1 - 1 := by omega
   have i4 : (k : Int) + 1 - 1 < (n : Int) := by omega
   have HR : Hid _ := hrise
   have HS : Hid (∀ (hkk : (l.getD k Row2.z).k < (l.getD (k + 1) Row2.z).k), ∀ i, i + 1 < k + 1 + 1 → (l.getD i Row2.z).k < (l.getD (i + 1) Row2.z).k) := fun hkk i hi => by
    by_cases e : i = k
    ·subst e; exact hkk
    ·exact hrise i (by omega)
   have HN : Hid (¬ (l.getD k Row2.z).k < (l.getD (k + 1) Row2.z).k → ¬ Rise l) := fun hkk hr => hkk (hr k (by rw [Hn.out]; omega))
   clear hrise hat h
   generalize (l.getD k Row2.z).k = a at *
   generalize (l.getD (k + 1) Row2.z).k = a' at *
   go_wp2_with fail
   go_quiet (fail)
   by_cases hle : a' ≤ a
   ·go_wp2_with fail
    go_ret
    exact ⟨false, rfl, by simp; exact HN.out (by omega), ((Kept.refl _ _).drewN _).drewN _⟩
   ·go_wp2_with fail
    exact ⟨⟨k + 1, _, .inl (by omega), by go_num, HS.out (by omega), rfl⟩, by simp [intOf]; omega⟩
  ·have hr : Rise l := fun i hi => hrise i (by rw [Hn.out] at hi; omega)
   go_wp2_with fail
   go_ret
   exact ⟨true, rfl, by simp [hr], (Kept.refl _ _).drewN _⟩
end Go.Proofs.YtmcajfefagdbnaaGreat
namespace Go.Proofs.YtmcajfefagdbnaaGreat
open Go Go.RowKit
structure Cl where
 key : Int
 txn : Int
 mode : Int
 holds : Bool
def Cl.z : Cl := ⟨0, 0, 0, false⟩
def Cl.cells (c : Cl) : List Value := [.int .i64 c.key, .int .i64 c.txn, .int .i64 c.mode, .bool c.holds]
def clCells (l : List Cl) : List Value := l.flatMap Cl.cells
def ClsAt (w : World) (b off : Nat) (l : List Cl) : Prop := ∀ i, i < l.length →
 w.cell? ⟨b, off + i * 4, none⟩ = some (.int .i64 (l.getD i Cl.z).key) ∧ w.cell? ⟨b, off + i * 4 + 1, none⟩ = some (.int .i64 (l.getD i Cl.z).txn) ∧
 w.cell? ⟨b, off + i * 4 + 2, none⟩ = some (.int .i64 (l.getD i Cl.z).mode) ∧ w.cell? ⟨b, off + i * 4 + 3, none⟩ = some (.bool (l.getD i Cl.z).holds)
theorem ClsAt.kept {S : Nat → Prop} {w w' : World} {b off : Nat} {l : List Cl} (h : ClsAt w b off l) (hk : Kept S w w') (hn : ¬ S b) : ClsAt w' b off l := fun i hi =>
 ⟨hk.cell (h i hi).1 hn, hk.cell (h i hi).2.1 hn, hk.cell (h i hi).2.2.1 hn, hk.cell (h i hi).2.2.2 hn⟩
def ClsSrc (w : World) (v : Value) (l : List Cl) : Prop := ∃ ao c, v = .slice ao l.length c ∧ (0 < l.length → ∃ b off, ao = some ⟨b, off, none⟩ ∧ ClsAt w b off l)
theorem clCells_len (l : List Cl) : (clCells l).length = l.length * 4 := by
 induction l with
 | nil => rfl
 | cons o l ih => simp only [clCells, List.flatMap_cons, List.length_append] at ih ⊢; rw [ih]; simp [Cl.cells]; omega
theorem clCells_one (l : List Cl) : ∀ u ∈ clCells l, u.oneCell' = true := by
 intro u hu
 simp only [clCells, List.mem_flatMap] at hu
 obtain ⟨o, _, ho⟩ := hu
 simp [Cl.cells] at ho
 rcases ho with rfl | rfl | rfl | rfl <;> rfl
theorem clCells_append (a b : List Cl) : clCells (a ++ b) = clCells a ++ clCells b := by simp [clCells]
theorem clCells_at (l : List Cl) (i : Nat) (hi : i < l.length) (j : Nat) (hj : j < 4) : (clCells l)[i * 4 + j]? = (l.getD i Cl.z).cells[j]? := by
 induction l generalizing i with
 | nil => simp at hi
 | cons c l ih =>
  cases i with
  | zero =>
   simp only [clCells, List.flatMap_cons, List.getD_cons_zero]
   rw [List.getElem?_append_left (by simp [Cl.cells]; omega)]
   congr 1
   omega
  | succ i =>
   simp only [clCells, List.flatMap_cons, List.getD_cons_succ]
   rw [List.getElem?_append_right (by simp [Cl.cells]; omega)]
   have := ih i (by simpa using hi)
   simp only [clCells] at this
   rw [← this]
   congr 1
   simp [Cl.cells]
   omega
theorem cls_of_owns {w : World} {v : Value} {l : List Cl} (h : w.ownsRow 0 109 4 v l.length (clCells l)) : ClsSrc w v l := by
 rcases h.2 with ⟨rfl, h0⟩ | ⟨g, cap, cur, rfl, _⟩
 ·refine ⟨none, 0, by rw [h0], fun hp => by omega⟩
 ·refine ⟨_, cap, rfl, fun _ => ⟨g, 0, rfl, fun i hi => ?_⟩⟩
  have hc := h.cells (g := g) rfl
  have at' : ∀ j, j < 4 → ∀ u, (l.getD i Cl.z).cells[j]? = some u → w.cell? ⟨g, 0 + (i * 4 + j), none⟩ = some u := fun j hj u hu => by
   have := hc (i * 4 + j) u (by rw [clCells_at l i hi j hj]; exact hu)
   simpa [Addr.add_lit] using this
  refine ⟨at' 0 (by decide) _ rfl, ?_, ?_, ?_⟩
  ·have := at' 1 (by decide) _ rfl; rw [← Nat.add_assoc] at this; exact this
  ·have := at' 2 (by decide) _ rfl; rw [← Nat.add_assoc] at this; exact this
  ·have := at' 3 (by decide) _ rfl; rw [← Nat.add_assoc] at this; exact this
theorem ClsSrc.kept {S : Nat → Prop} {w w' : World} {v : Value} {l : List Cl} (h : ClsSrc w v l) (hk : Kept S w w') (hn : ∀ k, v.ownBlock = some k → ¬ S k) : ClsSrc w' v l := by
 obtain ⟨ao, c, rfl, h⟩ := h
 refine ⟨ao, c, rfl, fun hp => ?_⟩
 obtain ⟨b, off, rfl, h'⟩ := h hp
 exact ⟨b, off, rfl, h'.kept hk (hn b rfl)⟩
theorem find_more {l : List Cl} {p : Cl → Bool} {k : Nat} (hk : k < l.length) (h : (l.take k).find? p = none) (hp : p (l.getD k Cl.z) = false) : (l.take (k + 1)).find? p = none := by
 rw [List.take_succ_eq_append_getElem hk, List.find?_append, h]
 simp only [List.getD, List.getElem?_eq_getElem hk, Option.getD_some] at hp
 simp [hp]
theorem find_hit {l : List Cl} {p : Cl → Bool} {k : Nat} (hk : k < l.length) (h : (l.take k).find? p = none) (hp : p (l.getD k Cl.z) = true) : l.find? p = some (l.getD k Cl.z) := by
 have e : l = l.take k ++ l[k] :: l.drop (k + 1) := by rw [List.getElem_cons_drop, List.take_append_drop]
 simp only [List.getD, List.getElem?_eq_getElem hk, Option.getD_some] at hp ⊢
 have e2 : l.find? p = (l.take k ++ l[k] :: l.drop (k + 1)).find? p := by rw [← e]
 rw [e2, List.find?_append, h, List.find?_cons, hp]
 rfl
def isHeld (key id : Int) (c : Cl) : Bool := decide (c.key = key) && decide (c.txn = id) && c.holds
def heldL (cl : List Cl) (key id : Int) : Int := match cl.find? (isHeld key id) with
 | some c => c.mode
 | none => 0
set_option maxHeartbeats 800000 in
theorem wheld (p : Nat) (cl : List Cl) (v : Value) (key id : Int) (w : World) (hp : w.cell? ⟨p, 2, none⟩ = some v) (h : ClsSrc w v cl) (hn : cl.length ≤ 1099511627776) :
    Calls Tryz.prog 82 #[.pointer (some ⟨p, 0, none⟩), .int .i64 key, .int .i64 id] w fun e w' => e = .returned (.int .i64 (heldL cl key id)) ∧ Kept NoBlk w w' := by
  obtain ⟨ao, cp, rfl, h⟩ := h
  generalize hn' : cl.length = n at h hn hp ⊢
  have Hn : Hid _ := hn'
  clear hn'
  go_enter Tryz.func82, Tryz.ntmps82
  go_wp2
  go_loopw [7] (fun i wr => ∃ k : Nat, k ≤ n ∧ i = .int .i64 k ∧ (cl.take k).find? (isHeld key id) = none ∧ Kept NoBlk w wr) (fun i _ => n - (intOf i).toNat)
  case atStart => exact ⟨0, Nat.zero_le _, rfl, rfl, Kept.refl _ _⟩
  case round =>
    obtain ⟨k, hk, rfl, hf, hkw⟩ := hrel
    have hp' := hkw.cell0 hp
    have Hk : Hid _ := hkw
    have Hf : Hid _ := hf
    by_cases hlt : k < n
    · have hkl : k < cl.length := by rw [Hn.out]; exact hlt
      obtain ⟨b, off, rfl, hat⟩ := h (by omega)
      obtain ⟨g0, g1, g2, g3⟩ := (hat.kept hkw (fun x => x)) k hkl
      have Hkl : Hid _ := hkl
      clear hkl h hat hkw hf hp
      generalize hc : cl.getD k Cl.z = c at *
      have Hc : Hid _ := hc
      clear hc
      go_wp2_with fail
      all_goals clear g0 g1 g2 g3 hp'
      all_goals first
        | exact ⟨⟨k + 1, by omega, by go_num, find_more Hkl.out Hf.out (by rw [Hc.out]; simp_all [isHeld]), Hk.out.alloc _⟩, by simp [intOf]; omega⟩
        | (go_ret
           refine ⟨?_, Hk.out.alloc _⟩
           have := find_hit Hkl.out Hf.out (p := isHeld key id) (by rw [Hc.out]; simp_all [isHeld])
           rw [Hc.out] at this
           simp [heldL, this])
    · obtain rfl : k = n := by omega
      go_wp2_with fail
      go_ret
      refine ⟨?_, Hk.out⟩
      have := Hf.out
      rw [← Hn.out, List.take_length] at this
      simp [heldL, this]
end Go.Proofs.YtmcajfefagdbnaaGreat
namespace Go.Proofs.YtmcajfefagdbnaaGreat
open Go Go.RowKit
theorem from_new (w : World) (cs : List Value) (ty : TypeId) (size n : Nat) (hn : cs.length = n * size) (h1 : ∀ u ∈ cs, u.oneCell' = true) : FromMem (w.alloc (.cells cs.toArray ty)) size (.slice (some ⟨w.heap.size, 0, none⟩) n n) n cs := by
 refine ⟨⟨_, n, rfl, fun h => by simp at h, ?_⟩, hn, h1⟩
 intro ad had j u hu
 obtain rfl := Option.some.inj had
 rw [Addr.add_lit, cell_at (block_alloc_new w _)]
 simpa using hu
theorem infoLI : (Tryz.prog.info? 45).map (fun i => (i.zero, i.size, i.bytes)) = some (some (.slice none 0 0), 1, 24) := by kernel_rfl
theorem infoLS : (Tryz.prog.info? 61).map (fun i => (i.zero, i.size, i.bytes)) = some (some (.slice none 0 0), 1, 24) := by kernel_rfl
def mark (N : Nat) : Int := -1000 - (N / 4 : Nat)
end Go.Proofs.YtmcajfefagdbnaaGreat
namespace Go.Proofs.YtmcajfefagdbnaaGreat
open Go.RowKit
def admErr (l : List Op4) (living : Nat) (clock : Int) : Int :=
 if 12 < l.length then 2 else if l.all Op4.ok = false then 1 else if 12 ≤ living then 3 else if 1099511627776 ≤ clock then 4 else 0
theorem ret_int {k : IntKind} {a b : Int} (h : a = b) : Ending.returned (.int k a) = .returned (.int k b) := by rw [h]
end Go.Proofs.YtmcajfefagdbnaaGreat
namespace Go.Proofs.YtmcajfefagdbnaaGreat
open Go Go.RowKit Go.Sort Go.Lib
theorem putRow_kept {α : Type} [Inhabited α] (enc : α → Value) (w : World) (n blk off : Nat) (d : Array α) (os : Array Obj) : Kept (Blk blk) w (grow (putRow enc (Sort.ahead w n) blk off d) os) := by
 refine ⟨rfl, rfl, rfl, by simp, fun k hk hne => ?_⟩
 rw [heap_grow_old _ _ (by simpa using hk)]
 have : blk ≠ k := fun e => hne e.symm
 simp [putRow, mapBlock, Sort.ahead, Array.getElem?_modify, this]
theorem putRow_block {α : Type} [Inhabited α] (enc : α → Value) {w : World} (n : Nat) {blk : Nat} (off : Nat) (d : Array α) (os : Array Obj) {cur : Array Value} {e : TypeId} {fr : Nat × Nat} (hb : w.heap[blk]? = some (.cells cur e fr)) :
  (grow (putRow enc (Sort.ahead w n) blk off d) os).heap[blk]? = some (.cells (putCells enc off d cur) e fr) := by
 have hg : blk < w.heap.size := (Array.getElem?_eq_some_iff.1 hb).1
 rw [heap_grow_old _ _ (by simpa using hg)]
 simp [putRow, mapBlock, Sort.ahead, Array.getElem?_modify, hb, onCells]
def sortedI (l : List Int) : List Int := l.mergeSort fun x y => decide (x ≤ y)
theorem sortInts (v : Value) (n : Nat) (zs : List Int) (w : World) (h : w.ownsRow 0 3 1 v n (zs.map (Value.int .i64))) (hn : n < 4611686018427387904) :
  Calls Tryz.prog 134 #[v] w fun e w' => e = .returned (.tuple #[]) ∧ w'.ownsRow 0 3 1 v n ((sortedI zs).map (Value.int .i64)) ∧ Kept (fun k => v.ownBlock = some k) w w' := by
 have hl : zs.length = n := by have := h.1; simpa using this
 rcases h.2 with ⟨rfl, rfl⟩ | ⟨g, cap, cur, rfl, _, hg, h1, h2, h3, h4⟩
 ·have : zs = [] := List.eq_nil_of_length_eq_zero hl
  subst this
  refine (show Calls Tryz.prog 134 #[.slice none 0 0] w _ from Any.slices_Sort_int_none Tryz.lays189 none 0 w).mono ?_
  rintro e w' ⟨rfl, rfl⟩
  exact ⟨rfl, by simpa [sortedI] using World.ownsRow_nil _ _ _ _, Kept.refl _ _⟩
 ·subst hl
  have hH : Holds (Value.int .i64) w g 0 zs.toArray := by
   intro j hj
   have hj' : j < zs.length := by simpa using hj
   refine ⟨?_, frozen_at hg _⟩
   rw [cell_at hg, Nat.zero_add]
   have e1 : (cur.toList.take (zs.length * 1))[j]? = (zs.map (Value.int .i64))[j]? := by rw [h4]
   rw [List.getElem?_take_of_lt (by omega)] at e1
   rw [← Array.getElem?_toList, e1]
   simp [hj']
  refine (show Calls Tryz.prog 134 #[.slice (some ⟨g, 0, none⟩) zs.length cap] w _ from Any.slices_Sort_int Tryz.lays189 g 0 cap zs w hH (lt_of_block hg) hn).mono ?_
  rintro e w' ⟨rfl, m, os, rfl⟩
  have hlen : (sortedI zs).length = zs.length := by simp [sortedI]
  refine ⟨rfl, ⟨by simp [hlen], .inr ⟨g, cap, _, rfl, Nat.zero_le _, putRow_block _ m 0 _ os hg, h1, h2, by simp [putCells, h3], ?_⟩⟩, (putRow_kept _ w m g 0 _ os).mono (fun k hk => by cases hk; rfl)⟩
  apply List.ext_getElem?
  intro j
  by_cases hj : j < zs.length
  ·rw [List.getElem?_take_of_lt (by omega), Array.getElem?_toList]
   have hj2 : j < (sortedI zs).length := by omega
   have hj3 : j < cur.size := by omega
   have hj4 : j < (zs.mergeSort fun x y => decide (x ≤ y)).length := hj2
   simp [putCells, sortedI, hj, hj3]
  ·rw [List.getElem?_take_eq_none (by omega), List.getElem?_eq_none (by simp [hlen]; omega)]
def lkc (l : List (Int × Int)) : List Value := l.flatMap fun x => [.int .i64 x.1, .int .i64 x.2]
def encLk (x : Int × Int) : List Value := [.int .i64 x.1, .int .i64 x.2]
theorem lkc_len (l : List (Int × Int)) : (lkc l).length = l.length * 2 := by
 induction l with
 | nil => rfl
 | cons o l ih => simp only [lkc, List.flatMap_cons, List.length_append] at ih ⊢; rw [ih]; simp; omega
theorem lkc_one (l : List (Int × Int)) : ∀ u ∈ lkc l, u.oneCell' = true := by
 intro u hu
 simp only [lkc, List.mem_flatMap] at hu
 obtain ⟨o, _, ho⟩ := hu
 simp at ho
 rcases ho with rfl | rfl <;> rfl
theorem lkc_get (l : List (Int × Int)) : ∀ t, t < l.length * 2 → (lkc l)[t]? = some ((encLk (l.getD (t / 2) (0, 0)))[t % 2]!) := by
 induction l with
 | nil => intro t ht; simp at ht
 | cons o l ih =>
  intro t ht
  match t with
  | 0 => simp [lkc, encLk]
  | 1 => simp [lkc, encLk]
  | t + 2 =>
   have := ih t (by simp at ht; omega)
   rw [show (t + 2) / 2 = t / 2 + 1 from by omega, show (t + 2) % 2 = t % 2 from by omega]
   simpa [lkc] using this
theorem lkc_flat (l : List (Int × Int)) : (flatK encLk 2 l.toArray) = (lkc l).toArray := by
 apply Array.ext_getElem?
 intro t
 by_cases ht : t < l.length * 2
 ·have h1 := lkc_get l t ht
  have h2 := get_flatK encLk 2 l.toArray t (by simpa using ht)
  rw [getElem!_pos _ t (by simpa using ht)] at h2
  rw [Array.getElem?_eq_getElem (by simpa using ht), h2]
  simp only [List.getElem?_toArray]
  rw [h1]
  have h3 : t / 2 < l.length := by omega
  simp [List.getD, h3]
 ·rw [Array.getElem?_eq_none (by simp; omega), Array.getElem?_eq_none (by simp [lkc_len]; omega)]
end Go.Proofs.YtmcajfefagdbnaaGreat
namespace Go.Proofs.YtmcajfefagdbnaaGreat
open Go Go.RowKit
theorem ivals_put (f : Int → Option Int) (k : Int) (v : Option Int) : put (ivals f) k (v.map (Value.int .i64)) = ivals (upd f k v) := by
 funext c
 simp only [put, ivals, upd]
 split <;> rfl
set_option maxHeartbeats 800000 in
theorem back_some (p vb m x s r : Nat) (row v : Int) (f : Int → Option Int) (u : FrameMode) (w : World) (hp : w.cell? ⟨p, 3, none⟩ = some (.map (some vb))) (hm : MapAt keyI w vb m (ivals f)) (hmm : m < maxLen) (hr : inI row)
  (h0 : w.heap[x]? = some (.cells #[.int .i64 v] 3 (0, 0))) (h1 : w.heap[s]? = some (.cells #[.pointer (some ⟨p, 0, none⟩)] 35 (0, 0))) (h2 : w.heap[r]? = some (.cells #[.int .i64 row] 3 (0, 0))) :
  CallsD Tryz.prog 156 #[.pointer (some ⟨x, 0, none⟩), .pointer (some ⟨s, 0, none⟩), .pointer (some ⟨r, 0, none⟩)] u w fun e u' w' => u' = u ∧ (∃ v, e = .returned v) ∧ MapAt keyI w' vb (m + 1) (ivals (upd f row (some v))) ∧ Kept (Blk vb) w w' := by
 obtain ⟨w', hrun, hm', hk, _⟩ := (show MapAt keyI w.drew vb m (ivals f) from hm).store Tryz.underlying122 hmm (a := row) hr (.int .i64 v)
 have hrun' : (Instr.mapUpdate 122 (.map (some vb)) (.int .i64 row) (.int .i64 v)).run Tryz.prog w.drew = .ok () w' := hrun
 have c0 : w.cell? ⟨x, 0, none⟩ = some (.int .i64 v) := by rw [cell_at h0]; rfl
 have c1 : w.cell? ⟨s, 0, none⟩ = some (.pointer (some ⟨p, 0, none⟩)) := by rw [cell_at h1]; rfl
 have c2 : w.cell? ⟨r, 0, none⟩ = some (.int .i64 row) := by rw [cell_at h2]; rfl
 have hm2 := ivals_put f row (some v) ▸ hm'
 clear hrun hm' hm h0 h1 h2
 go_enter_d Tryz.func156, Tryz.ntmps156
 go_wp2_with fail
 go_region
 go_end0
 exact ⟨⟨_, rfl⟩, hm2, ⟨hk.os, hk.tape, hk.output, hk.size, hk.block⟩⟩
set_option maxHeartbeats 800000 in
theorem back_none (p vb m s r : Nat) (row : Int) (f : Int → Option Int) (u : FrameMode) (w : World) (hp : w.cell? ⟨p, 3, none⟩ = some (.map (some vb))) (hm : MapAt keyI w vb m (ivals f)) (hr : inI row)
  (h1 : w.heap[s]? = some (.cells #[.pointer (some ⟨p, 0, none⟩)] 35 (0, 0))) (h2 : w.heap[r]? = some (.cells #[.int .i64 row] 3 (0, 0))) :
  CallsD Tryz.prog 155 #[.pointer (some ⟨s, 0, none⟩), .pointer (some ⟨r, 0, none⟩)] u w fun e u' w' => u' = u ∧ (∃ v, e = .returned v) ∧ MapAt keyI w' vb (m + 1) (ivals (upd f row none)) ∧ Kept (Blk vb) w w' := by
 have hd : ∀ ty, ∃ w', (Builtin.delete_ #[122, 3] ty #[.map (some vb), .int .i64 row]).run Tryz.prog w.drew = .ok (.tuple #[]) w' ∧ MapAt keyI w' vb (m + 1) (ivals (upd f row none)) ∧ Kept (Blk vb) w w' := by
  intro ty
  obtain ⟨w', h1, h2, h3, _⟩ := (show MapAt keyI w.drew vb m (ivals f) from hm).drop Tryz.underlying122 (a := row) hr ty
  exact ⟨w', h1, ivals_put f row none ▸ h2.mono (Nat.le_succ _), ⟨h3.os, h3.tape, h3.output, h3.size, h3.block⟩⟩
 have c1 : w.cell? ⟨s, 0, none⟩ = some (.pointer (some ⟨p, 0, none⟩)) := by rw [cell_at h1]; rfl
 have c2 : w.cell? ⟨r, 0, none⟩ = some (.int .i64 row) := by rw [cell_at h2]; rfl
 obtain ⟨w', hrun, hm2, hk⟩ := hd 0
 clear hm h1 h2 hd
 go_enter_d Tryz.func155, Tryz.ntmps155
 go_wp2_with fail
 go_region
 go_end0
 exact ⟨⟨_, rfl⟩, hm2, ⟨hk.os, hk.tape, hk.output, hk.size, hk.block⟩⟩
end Go.Proofs.YtmcajfefagdbnaaGreat
