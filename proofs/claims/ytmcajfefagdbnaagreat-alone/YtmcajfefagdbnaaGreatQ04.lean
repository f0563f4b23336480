import Derived.Test.YtmcajfefagdbnaaGreatQ03
import Derived.RegionTactic
import Derived.BigRegion
import Derived.Test.YtmcajfefagdbnaaGreatQ02
import Derived.Test.YtmcajfefagdbnaaGreatQ01
import Derived.Defers
namespace Go.Proofs.YtmcajfefagdbnaaGreat
open Go Go.RowKit
theorem zeroInt (w : World) : (zeroValue 3).run Tryz.prog w = .ok (.int .i64 0) w := by kernel_rfl
theorem alloc_size (w : World) (a : Obj) : (w.alloc a).heap.size = w.heap.size + 1 := by simp
theorem block_new2 (w : World) (a b : Obj) : ((w.alloc a).alloc b).heap[w.heap.size + 1]? = some b := by rw [← alloc_size w a]; exact block_alloc_new _ _
theorem block_new3 (w : World) (a b c : Obj) : (((w.alloc a).alloc b).alloc c).heap[w.heap.size + 1 + 1]? = some c := by rw [← alloc_size w a, ← alloc_size (w.alloc a) b]; exact block_alloc_new _ _
def ivals (f : Int → Option Int) : Int → Option Value := fun k => (f k).map (Value.int .i64)
def PutsBack (w : World) (T : Nat → Prop) (p : Nat) (c : Value) (key : Int) (old : Option Int) : Prop :=
 match old with
 | some v => ∃ x s r, c = .func (.func 156) #[] #[.pointer (some ⟨x, 0, none⟩), .pointer (some ⟨s, 0, none⟩), .pointer (some ⟨r, 0, none⟩)] ∧
   w.heap[x]? = some (.cells #[.int .i64 v] 3 (0, 0)) ∧ w.heap[s]? = some (.cells #[.pointer (some ⟨p, 0, none⟩)] 35 (0, 0)) ∧ w.heap[r]? = some (.cells #[.int .i64 key] 3 (0, 0)) ∧ T x ∧ T s ∧ T r
 | none => ∃ s r, c = .func (.func 155) #[] #[.pointer (some ⟨s, 0, none⟩), .pointer (some ⟨r, 0, none⟩)] ∧
   w.heap[s]? = some (.cells #[.pointer (some ⟨p, 0, none⟩)] 35 (0, 0)) ∧ w.heap[r]? = some (.cells #[.int .i64 key] 3 (0, 0)) ∧ T s ∧ T r
theorem PutsBack.of_same {w w' : World} {T T' : Nat → Prop} {p : Nat} {c : Value} {key : Int} {old : Option Int} (h : PutsBack w T p c key old) (hT : ∀ k, k < w.heap.size → T k → T' k) (hb : ∀ k, k < w.heap.size → T k → w'.heap[k]? = w.heap[k]?) : PutsBack w' T' p c key old := by
 cases old with
 | none =>
  obtain ⟨s, r, h1, h2, h3, h4, h5⟩ := h
  exact ⟨s, r, h1, (hb s (lt_of_block h2) h4).trans h2, (hb r (lt_of_block h3) h5).trans h3, hT s (lt_of_block h2) h4, hT r (lt_of_block h3) h5⟩
 | some v =>
  obtain ⟨x, s, r, h1, h0, h2, h3, h6, h4, h5⟩ := h
  exact ⟨x, s, r, h1, (hb x (lt_of_block h0) h6).trans h0, (hb s (lt_of_block h2) h4).trans h2, (hb r (lt_of_block h3) h5).trans h3, hT x (lt_of_block h0) h6, hT s (lt_of_block h2) h4, hT r (lt_of_block h3) h5⟩
set_option maxHeartbeats 1600000 in
theorem putBack_some (p vb n : Nat) (row v : Int) (f : Int → Option Int) (w : World) (hp : w.cell? ⟨p, 3, none⟩ = some (.map (some vb))) (hm : MapAt keyI w vb n (ivals f)) (hr : inI row) (hv : f row = some v) :
  Calls Tryz.prog 132 #[.pointer (some ⟨p, 0, none⟩), .int .i64 row] w fun e w' => ∃ c, e = .returned c ∧ PutsBack w' (fun k => w.heap.size ≤ k) p c row (f row) ∧ Kept NoBlk w w' := by
 have hpl := World.block_lt_of_cell? w _ hp
 have look : ∀ W, Kept NoBlk w W → (Instr.lookup 122 (.map (some vb)) (.int .i64 row) true).run Tryz.prog W = .ok (.tuple #[.int .i64 v, .bool true]) W := by
  intro W hk
  have hl := (hm.kept hk (fun x => x)).look_ok Tryz.underlying122 (zeroInt _) (a := row) hr
  simp only [ivals, hv, Option.map_some, Option.getD_some, Option.isSome_some] at hl
  exact hl
 have l1 : ∀ o1 o2, (Instr.lookup 122 (.map (some vb)) (.int .i64 row) true).run Tryz.prog ((w.alloc o1).alloc o2).drew = .ok (.tuple #[.int .i64 v, .bool true]) ((w.alloc o1).alloc o2).drew := fun o1 o2 => look _ (((Kept.refl _ _).alloc _).alloc _).drew
 have l2 : ∀ o1 o2 o3, (Instr.lookup 122 (.map (some vb)) (.int .i64 row) true).run Tryz.prog (((w.alloc o1).alloc o2).alloc o3).drew = .ok (.tuple #[.int .i64 v, .bool true]) (((w.alloc o1).alloc o2).alloc o3).drew := fun o1 o2 o3 => look _ ((((Kept.refl _ _).alloc _).alloc _).alloc _).drew
 have c1 : ∀ o1 o2, ((w.alloc o1).alloc o2).cell? ⟨p, 3, none⟩ = some (.map (some vb)) := fun o1 o2 => (((Kept.refl NoBlk w).alloc o1).alloc o2).cell0 hp
 have c2 : ∀ o1 o2 o3, (((w.alloc o1).alloc o2).alloc o3).cell? ⟨p, 3, none⟩ = some (.map (some vb)) := fun o1 o2 o3 => ((((Kept.refl NoBlk w).alloc o1).alloc o2).alloc o3).cell0 hp
 clear look hm
 rw [hv]
 go_enter Tryz.func132, Tryz.ntmps132
 go_wp2_with fail
 go_region
 go_wp2_with fail
 go_ret
 refine ⟨_, rfl, ⟨w.heap.size + 1 + 1, w.heap.size, w.heap.size + 1, rfl, ?_, ?_, ?_, by omega, by omega, by omega⟩, ((((Kept.refl _ _).alloc _).alloc _).alloc _).drew⟩
 ·exact block_new3 w _ _ _
 ·exact block_alloc_old _ (block_alloc_old _ (block_alloc_new w _))
 ·exact block_alloc_old _ (block_new2 w _ _)
set_option maxHeartbeats 1600000 in
theorem putBack_none (p vb n : Nat) (row : Int) (f : Int → Option Int) (w : World) (hp : w.cell? ⟨p, 3, none⟩ = some (.map (some vb))) (hm : MapAt keyI w vb n (ivals f)) (hr : inI row) (hv : f row = none) :
  Calls Tryz.prog 132 #[.pointer (some ⟨p, 0, none⟩), .int .i64 row] w fun e w' => ∃ c, e = .returned c ∧ PutsBack w' (fun k => w.heap.size ≤ k) p c row (f row) ∧ Kept NoBlk w w' := by
 have hpl := World.block_lt_of_cell? w _ hp
 have look : ∀ W, Kept NoBlk w W → (Instr.lookup 122 (.map (some vb)) (.int .i64 row) true).run Tryz.prog W = .ok (.tuple #[.int .i64 0, .bool false]) W := by
  intro W hk
  have hl := (hm.kept hk (fun x => x)).look_ok Tryz.underlying122 (zeroInt _) (a := row) hr
  simp only [ivals, hv, Option.map_none, Option.getD_none, Option.isSome_none] at hl
  exact hl
 have l1 : ∀ o1 o2, (Instr.lookup 122 (.map (some vb)) (.int .i64 row) true).run Tryz.prog ((w.alloc o1).alloc o2).drew = .ok (.tuple #[.int .i64 0, .bool false]) ((w.alloc o1).alloc o2).drew := fun o1 o2 => look _ (((Kept.refl _ _).alloc _).alloc _).drew
 have l2 : ∀ o1 o2 o3, (Instr.lookup 122 (.map (some vb)) (.int .i64 row) true).run Tryz.prog (((w.alloc o1).alloc o2).alloc o3).drew = .ok (.tuple #[.int .i64 0, .bool false]) (((w.alloc o1).alloc o2).alloc o3).drew := fun o1 o2 o3 => look _ ((((Kept.refl _ _).alloc _).alloc _).alloc _).drew
 have c1 : ∀ o1 o2, ((w.alloc o1).alloc o2).cell? ⟨p, 3, none⟩ = some (.map (some vb)) := fun o1 o2 => (((Kept.refl NoBlk w).alloc o1).alloc o2).cell0 hp
 have c2 : ∀ o1 o2 o3, (((w.alloc o1).alloc o2).alloc o3).cell? ⟨p, 3, none⟩ = some (.map (some vb)) := fun o1 o2 o3 => ((((Kept.refl NoBlk w).alloc o1).alloc o2).alloc o3).cell0 hp
 clear look hm
 rw [hv]
 go_enter Tryz.func132, Tryz.ntmps132
 go_wp2_with fail
 go_region
 go_wp2_with fail
 go_ret
 refine ⟨_, rfl, ⟨w.heap.size, w.heap.size + 1, rfl, ?_, ?_, by omega, by omega⟩, ((((Kept.refl _ _).alloc _).alloc _).alloc _).drew⟩
 ·exact block_alloc_old _ (block_alloc_old _ (block_alloc_new w _))
 ·exact block_alloc_old _ (block_new2 w _ _)
end Go.Proofs.YtmcajfefagdbnaaGreat
namespace Go.Proofs.YtmcajfefagdbnaaGreat
open Go Go.RowKit
def opCells (l : List Op4) : List Value := l.flatMap Op4.cells
def OpsSrc (w : World) (v : Value) (l : List Op4) : Prop := ∃ ao c, v = .slice ao l.length c ∧ (0 < l.length → ∃ b off, ao = some ⟨b, off, none⟩ ∧ OpsAt w b off l)
theorem opCells_len (l : List Op4) : (opCells l).length = l.length * 4 := by
 induction l with
 | nil => rfl
 | cons o l ih => simp only [opCells, List.flatMap_cons, List.length_append] at ih ⊢; rw [ih]; simp [Op4.cells]; omega
theorem OpsAt.tail {w : World} {b off : Nat} {o : Op4} {l : List Op4} (h : OpsAt w b off (o :: l)) : OpsAt w b (off + 4) l := by
 intro i hi
 have := h (i + 1) (by simpa using hi)
 simp only [List.getD_cons_succ] at this
 rw [show off + (i + 1) * 4 = off + 4 + i * 4 from by omega] at this
 exact this
theorem OpsAt.flat {w : World} {b : Nat} : ∀ {off : Nat} {l : List Op4}, OpsAt w b off l → ∀ j u, (opCells l)[j]? = some u → w.cell? ((⟨b, off, none⟩ : Addr).add j) = some u
 | off, [], _, j, u, hu => by simp [opCells] at hu
 | off, o :: l, h, j, u, hu => by
  have h0 := h 0 (by simp)
  simp only [Nat.zero_mul, Nat.add_zero, List.getD_cons_zero] at h0
  rw [Addr.add_lit]
  by_cases hj : j < 4
  ·match j, hj with
   | 0, _ => simp [opCells, Op4.cells] at hu; rw [← hu]; exact h0.1
   | 1, _ => simp [opCells, Op4.cells] at hu; rw [← hu]; exact h0.2.1
   | 2, _ => simp [opCells, Op4.cells] at hu; rw [← hu]; exact h0.2.2.1
   | 3, _ => simp [opCells, Op4.cells] at hu; rw [← hu]; exact h0.2.2.2
  ·obtain ⟨j, rfl⟩ : ∃ i, j = i + 4 := ⟨j - 4, by omega⟩
   have hu' : (opCells l)[j]? = some u := by
    simp only [opCells, List.flatMap_cons] at hu
    rw [List.getElem?_append_right (by simp [Op4.cells])] at hu
    simpa [Op4.cells, opCells] using hu
   have := OpsAt.flat h.tail j u hu'
   rw [Addr.add_lit] at this
   rw [show off + (j + 4) = off + 4 + j from by omega]
   exact this
theorem opCells_one (l : List Op4) : ∀ u ∈ opCells l, u.oneCell' = true := by
 intro u hu
 simp only [opCells, List.mem_flatMap] at hu
 obtain ⟨o, _, ho⟩ := hu
 simp [Op4.cells] at ho
 rcases ho with rfl | rfl | rfl | rfl <;> rfl
theorem OpsSrc.mem {w : World} {v : Value} {l : List Op4} (h : OpsSrc w v l) : FromMem w 4 v l.length (opCells l) := by
 obtain ⟨ao, c, rfl, h⟩ := h
 refine ⟨⟨ao, c, rfl, ?_, ?_⟩, opCells_len l, opCells_one l⟩
 ·intro hn
  rcases Nat.eq_zero_or_pos l.length with h0 | h0
  ·exact h0
  ·obtain ⟨b, off, hao, _⟩ := h h0
   rw [hn] at hao
   cases hao
 ·intro ad had j u hu
  have h0 : 0 < l.length := by
   rcases Nat.eq_zero_or_pos l.length with h0 | h0
   ·rw [List.eq_nil_of_length_eq_zero h0] at hu
    simp [opCells] at hu
   ·exact h0
  obtain ⟨b, off, hao, hat⟩ := h h0
  rw [had] at hao
  obtain rfl := Option.some.inj hao
  exact hat.flat j u hu
theorem OpsAt.src {w : World} {b off c : Nat} {l : List Op4} (h : OpsAt w b off l) : OpsSrc w (.slice (some ⟨b, off, none⟩) l.length c) l := ⟨_, c, rfl, fun _ => ⟨b, off, rfl, h⟩⟩
theorem OpsSrc.kept {S : Nat → Prop} {w w' : World} {v : Value} {l : List Op4} (h : OpsSrc w v l) (hk : Kept S w w') (hn : 0 < l.length → ∀ b, v.ownBlock = some b → ¬ S b) : OpsSrc w' v l := by
 obtain ⟨ao, c, rfl, h⟩ := h
 refine ⟨ao, c, rfl, fun h0 => ?_⟩
 obtain ⟨b, off, rfl, hat⟩ := h h0
 exact ⟨b, off, rfl, hat.kept hk (hn h0 b rfl)⟩
end Go.Proofs.YtmcajfefagdbnaaGreat
namespace Go.Proofs.YtmcajfefagdbnaaGreat
open Go.RowKit
def admErr (l : List Op4) (living : Nat) (clock : Int) : Int :=
 if 12 < l.length then 2 else if l.all Op4.ok = false then 1 else if 12 ≤ living then 3 else if 1099511627776 ≤ clock then 4 else 0
theorem ret_int {k : IntKind} {a b : Int} (h : a = b) : Ending.returned (.int k a) = .returned (.int k b) := by rw [h]
end Go.Proofs.YtmcajfefagdbnaaGreat
namespace Go.Proofs.YtmcajfefagdbnaaGreat
open Go Go.RowKit
structure Row2 where
 k : Int
 v : Int
def Row2.z : Row2 := ⟨0, 0⟩
def Row2.cells (o : Row2) : List Value := [.int .i64 o.k, .int .i64 o.v]
def rowCells (l : List Row2) : List Value := l.flatMap Row2.cells
def RowsAt (w : World) (b off : Nat) (l : List Row2) : Prop := ∀ i, i < l.length →
 w.cell? ⟨b, off + i * 2, none⟩ = some (.int .i64 (l.getD i Row2.z).k) ∧ w.cell? ⟨b, off + i * 2 + 1, none⟩ = some (.int .i64 (l.getD i Row2.z).v)
theorem RowsAt.kept {S : Nat → Prop} {w w' : World} {b off : Nat} {l : List Row2} (h : RowsAt w b off l) (hk : Kept S w w') (hn : ¬ S b) : RowsAt w' b off l := fun i hi =>
 ⟨hk.cell (h i hi).1 hn, hk.cell (h i hi).2 hn⟩
def RowsSrc (w : World) (v : Value) (l : List Row2) : Prop := ∃ ao c, v = .slice ao l.length c ∧ (0 < l.length → ∃ b off, ao = some ⟨b, off, none⟩ ∧ RowsAt w b off l)
theorem rowCells_len (l : List Row2) : (rowCells l).length = l.length * 2 := by
 induction l with
 | nil => rfl
 | cons o l ih => simp only [rowCells, List.flatMap_cons, List.length_append] at ih ⊢; rw [ih]; simp [Row2.cells]; omega
theorem RowsAt.tail {w : World} {b off : Nat} {o : Row2} {l : List Row2} (h : RowsAt w b off (o :: l)) : RowsAt w b (off + 2) l := by
 intro i hi
 have := h (i + 1) (by simpa using hi)
 simp only [List.getD_cons_succ] at this
 rw [show off + (i + 1) * 2 = off + 2 + i * 2 from by omega] at this
 exact this
theorem RowsAt.flat {w : World} {b : Nat} : ∀ {off : Nat} {l : List Row2}, RowsAt w b off l → ∀ j u, (rowCells l)[j]? = some u → w.cell? ((⟨b, off, none⟩ : Addr).add j) = some u
 | off, [], _, j, u, hu => by simp [rowCells] at hu
 | off, o :: l, h, j, u, hu => by
  have h0 := h 0 (by simp)
  simp only [Nat.zero_mul, Nat.add_zero, List.getD_cons_zero] at h0
  rw [Addr.add_lit]
  by_cases hj : j < 2
  ·match j, hj with
   | 0, _ => simp [rowCells, Row2.cells] at hu; rw [← hu]; exact h0.1
   | 1, _ => simp [rowCells, Row2.cells] at hu; rw [← hu]; exact h0.2
  ·obtain ⟨j, rfl⟩ : ∃ i, j = i + 2 := ⟨j - 2, by omega⟩
   have hu' : (rowCells l)[j]? = some u := by
    simp only [rowCells, List.flatMap_cons] at hu
    rw [List.getElem?_append_right (by simp [Row2.cells])] at hu
    simpa [Row2.cells, rowCells] using hu
   have := RowsAt.flat h.tail j u hu'
   rw [Addr.add_lit] at this
   rw [show off + (j + 2) = off + 2 + j from by omega]
   exact this
theorem rowCells_one (l : List Row2) : ∀ u ∈ rowCells l, u.oneCell' = true := by
 intro u hu
 simp only [rowCells, List.mem_flatMap] at hu
 obtain ⟨o, _, ho⟩ := hu
 simp [Row2.cells] at ho
 rcases ho with rfl | rfl <;> rfl
theorem RowsSrc.mem {w : World} {v : Value} {l : List Row2} (h : RowsSrc w v l) : FromMem w 2 v l.length (rowCells l) := by
 obtain ⟨ao, c, rfl, h⟩ := h
 refine ⟨⟨ao, c, rfl, ?_, ?_⟩, rowCells_len l, rowCells_one l⟩
 ·intro hn
  rcases Nat.eq_zero_or_pos l.length with h0 | h0
  ·exact h0
  ·obtain ⟨b, off, hao, _⟩ := h h0
   rw [hn] at hao
   cases hao
 ·intro ad had j u hu
  have h0 : 0 < l.length := by
   rcases Nat.eq_zero_or_pos l.length with h0 | h0
   ·rw [List.eq_nil_of_length_eq_zero h0] at hu
    simp [rowCells] at hu
   ·exact h0
  obtain ⟨b, off, hao, hat⟩ := h h0
  rw [had] at hao
  obtain rfl := Option.some.inj hao
  exact hat.flat j u hu
theorem RowsAt.src {w : World} {b off c : Nat} {l : List Row2} (h : RowsAt w b off l) : RowsSrc w (.slice (some ⟨b, off, none⟩) l.length c) l := ⟨_, c, rfl, fun _ => ⟨b, off, rfl, h⟩⟩
theorem RowsSrc.kept {S : Nat → Prop} {w w' : World} {v : Value} {l : List Row2} (h : RowsSrc w v l) (hk : Kept S w w') (hn : ∀ b, v.ownBlock = some b → ¬ S b) : RowsSrc w' v l := by
 obtain ⟨ao, c, rfl, h⟩ := h
 refine ⟨ao, c, rfl, fun h0 => ?_⟩
 obtain ⟨b, off, rfl, hat⟩ := h h0
 exact ⟨b, off, rfl, hat.kept hk (hn b rfl)⟩
def Rise (l : List Row2) : Prop := ∀ i, i + 1 < l.length → (l.getD i Row2.z).k < (l.getD (i + 1) Row2.z).k
set_option maxHeartbeats 1600000 in
theorem keysRise_any (ao : Option Addr) (c n : Nat) (l : List Row2) (w : World) (hn : l.length = n) (hl : n ≤ 1048576) (h : 0 < n → ∃ b off, ao = some ⟨b, off, none⟩ ∧ RowsAt w b off l) :
  Calls Tryz.prog 75 #[.slice ao n c] w fun e w' => ∃ r : Bool, e = .returned (.bool r) ∧ (r = true ↔ Rise l) ∧ Kept NoBlk w w' := by
 have Hn : Hid _ := hn
 clear hn
 go_enter Tryz.func75, Tryz.ntmps75
 go_wp2_with fail
 go_loopw [3] (fun i wr => ∃ k nq : Nat, (k + 1 ≤ n ∨ k = 0) ∧ i = .int .i64 ((k : Int) + 1) ∧ (∀ i, i + 1 < k + 1 → (l.getD i Row2.z).k < (l.getD (i + 1) Row2.z).k) ∧ wr = w.drewN nq) (fun i _ => n - (intOf i).toNat)
 case atStart => exact ⟨0, 0, .inr rfl, rfl, fun i hi => by omega, rfl⟩
 case round =>
  obtain ⟨k, nq, hk, rfl, hrise, rfl⟩ := hrel
  by_cases hlt : k + 1 < n
  ·obtain ⟨b, off, rfl, hat⟩ := h (by omega)
   have g0 := (hat k (by rw [Hn.out]; omega)).1
   have g1 := (hat (k + 1) (by rw [Hn.out]; omega)).1
   have i1 : (0 : Int) ≤ (k : Int) + 1 := by omega
   have i2 : (k : Int) + 1 < (n : Int) := by omega
   have i3 : (0 : Int) ≤ (k : Int) + 1 - 1 := by omega
   have i4 : (k : Int) + 1 - 1 < (n : Int) := by omega
   have HR : Hid _ := hrise
   have HS : Hid (∀ (hkk : (l.getD k Row2.z).k < (l.getD (k + 1) Row2.z).k), ∀ i, i + 1 < k + 1 + 1 → (l.getD i Row2.z).k < (l.getD (i + 1) Row2.z).k) := fun hkk i hi => by
    by_cases e : i = k
    ·subst e; exact hkk
    ·exact hrise i (by omega)
   have HN : Hid (¬ (l.getD k Row2.z).k < (l.getD (k + 1) Row2.z).k → ¬ Rise l) := fun hkk hr => hkk (hr k (by rw [Hn.out]; omega))
   clear hrise hat h
   generalize (l.getD k Row2.z).k = a at *
   generalize (l.getD (k + 1) Row2.z).k = a' at *
   go_wp2_with fail
   go_quiet (fail)
   by_cases hle : a' ≤ a
   ·go_wp2_with fail
    go_ret
    exact ⟨false, rfl, by simp; exact HN.out (by omega), ((Kept.refl _ _).drewN _).drewN _⟩
   ·go_wp2_with fail
    exact ⟨⟨k + 1, _, .inl (by omega), by go_num, HS.out (by omega), rfl⟩, by simp [intOf]; omega⟩
  ·have hr : Rise l := fun i hi => hrise i (by rw [Hn.out] at hi; omega)
   go_wp2_with fail
   go_ret
   exact ⟨true, rfl, by simp [hr], (Kept.refl _ _).drewN _⟩
end Go.Proofs.YtmcajfefagdbnaaGreat
namespace Go.Proofs.YtmcajfefagdbnaaGreat
theorem conf_comm (a b : Int) : conf a b = conf b a := by simp only [conf, Bool.or_comm]
theorem hind_true {n : Nat} {h : Nat → Int} {i : Nat} {m : Int} : hind n h i m = true ↔ ∃ j, j ≤ n ∧ j ≠ i ∧ h j ≠ 0 ∧ conf (h j) m = true := by
 simp only [hind, List.any_eq_true, List.mem_range, Bool.and_eq_true, bne_iff_ne, ne_eq]
 constructor
 ·rintro ⟨j, h1, ⟨h2, h3⟩, h4⟩
  exact ⟨j, by omega, h2, h3, h4⟩
 ·rintro ⟨j, h1, h2, h3, h4⟩
  exact ⟨j, by omega, ⟨h2, h3⟩, h4⟩
theorem hind_false {n : Nat} {h : Nat → Int} {i : Nat} {m : Int} : hind n h i m = false ↔ ∀ j, j ≤ n → j ≠ i → h j ≠ 0 → conf (h j) m = false := by
 rw [← Bool.not_eq_true, hind_true]
 constructor
 ·intro h1 j h2 h3 h4
  cases h5 : conf (h j) m
  ·rfl
  ·exact absurd ⟨j, h2, h3, h4, h5⟩ h1
 ·rintro h1 ⟨j, h2, h3, h4, h5⟩
  rw [h1 j h2 h3 h4] at h5
  cases h5
structure RowOk (n : Nat) (E : Nat → Nat → Prop) (l : Lk) : Prop where
 hold : ∀ j, l.h j ≠ 0 → 1 ≤ j ∧ j ≤ n
 mode : ∀ j, l.h j = 0 ∨ l.h j = 1 ∨ l.h j = 2
 qmode : ∀ x, x ∈ l.q → (1 ≤ x.1 ∧ x.1 ≤ n) ∧ (x.2 = 1 ∨ x.2 = 2)
 once : (l.q.map (·.1)).Nodup
 apart : ∀ i j, i ≠ j → l.h i ≠ 0 → l.h j ≠ 0 → conf (l.h i) (l.h j) = false
 edge : ∀ l1 i m l2, l.q = l1 ++ (i, m) :: l2 → ∀ j, j ≠ i → ((l.h j ≠ 0 ∧ conf (l.h j) m = true) ∨ ∃ m', (j, m') ∈ l1 ∧ conf m' m = true) → E j i
 want : ∀ x, x ∈ l.q → l.h x.1 < x.2
def RowStill (n : Nat) (l : Lk) : Prop := ∀ i m q, l.q = (i, m) :: q → hind n l.h i m = true
theorem settle_still (n : Nat) (h : Nat → Int) (q : List (Nat × Int)) : RowStill n (settle n h q) := by
 induction q generalizing h with
 | nil => intro i m q e; cases e
 | cons x q ih =>
  obtain ⟨i, m⟩ := x
  simp only [settle]
  split
  ·rename_i hh
   intro i' m' q' e
   simp only [List.cons.injEq, Prod.mk.injEq] at e
   obtain ⟨⟨rfl, rfl⟩, rfl⟩ := e
   exact hh
  ·exact ih _
theorem settle_same (n : Nat) (l : Lk) (hs : RowStill n l) : settle n l.h l.q = l := by
 obtain ⟨h, q⟩ := l
 cases q with
 | nil => rfl
 | cons x q =>
  obtain ⟨i, m⟩ := x
  simp only [settle]
  rw [if_pos (hs i m q rfl)]
theorem settle_suffix (n : Nat) (h : Nat → Int) (q : List (Nat × Int)) : ∃ p, q = p ++ (settle n h q).q := by
 induction q generalizing h with
 | nil => exact ⟨[], rfl⟩
 | cons x q ih =>
  obtain ⟨i, m⟩ := x
  simp only [settle]
  split
  ·exact ⟨[], rfl⟩
  ·obtain ⟨p, hp⟩ := ih (upd h i m)
   exact ⟨(i, m) :: p, by rw [List.cons_append, ← hp]⟩
theorem settle_mem {n : Nat} {h : Nat → Int} {q : List (Nat × Int)} {x : Nat × Int} (hx : x ∈ (settle n h q).q) : x ∈ q := by
 obtain ⟨p, hp⟩ := settle_suffix n h q
 rw [hp]
 exact List.mem_append_right _ hx
theorem settle_holds (n : Nat) (h : Nat → Int) (q : List (Nat × Int)) (hq : (q.map (·.1)).Nodup) (j : Nat) :
  ((settle n h q).h j = h j ∧ (∀ m, (j, m) ∈ q → (j, m) ∈ (settle n h q).q)) ∨ ((j, (settle n h q).h j) ∈ q ∧ ∀ m, (j, m) ∉ (settle n h q).q) := by
 induction q generalizing h with
 | nil => exact .inl ⟨rfl, fun _ x => x⟩
 | cons x q ih =>
  obtain ⟨i, m⟩ := x
  simp only [List.map_cons, List.nodup_cons] at hq
  simp only [settle]
  split
  ·exact .inl ⟨rfl, fun _ x => x⟩
  ·by_cases hj : j = i
   ·subst hj
    have no : ∀ m', (j, m') ∉ q := fun m' hm => hq.1 (List.mem_map.mpr ⟨(j, m'), hm, rfl⟩)
    rcases ih (upd h j m) hq.2 with ⟨h1, h2⟩ | ⟨h1, h2⟩
    ·rw [h1]
     simp only [upd_same]
     exact .inr ⟨List.mem_cons_self, fun m' hm => no m' (settle_mem hm)⟩
    ·exact absurd h1 (no _)
   ·rcases ih (upd h i m) hq.2 with ⟨h1, h2⟩ | ⟨h1, h2⟩
    ·refine .inl ⟨by rw [h1, upd_other _ _ _ _ hj], fun m' hm => ?_⟩
     simp only [List.mem_cons, Prod.mk.injEq] at hm
     rcases hm with ⟨e, _⟩ | hm
     ·exact absurd e hj
     ·exact h2 m' hm
    ·exact .inr ⟨List.mem_cons_of_mem _ h1, h2⟩
theorem RowOk.give {n : Nat} {E : Nat → Nat → Prop} {h : Nat → Int} {i : Nat} {m : Int} {q : List (Nat × Int)} (hr : RowOk n E ⟨h, (i, m) :: q⟩) (hh : hind n h i m = false) : RowOk n E ⟨upd h i m, q⟩ := by
 have hq := hr.qmode (i, m) List.mem_cons_self
 have hn := hr.once
 simp only [List.map_cons, List.nodup_cons] at hn
 have no : ∀ m', (i, m') ∉ q := fun m' hm => hn.1 (List.mem_map.mpr ⟨(i, m'), hm, rfl⟩)
 have hf := hind_false.mp hh
 refine ⟨fun j hj => ?_, fun j => ?_, fun x hx => hr.qmode x (List.mem_cons_of_mem _ hx), hn.2, fun a b hab ha hb => ?_, fun l1 p mp l2 e j hj hc => ?_, fun x hx => ?_⟩
 ·by_cases e : j = i
  ·subst e; exact hq.1
  ·exact hr.hold j (by simpa [upd_other _ _ _ _ e] using hj)
 ·by_cases e : j = i
  ·subst e; simp only [upd_same]; exact .inr hq.2
  ·simp only [upd_other _ _ _ _ e]; exact hr.mode j
 ·by_cases ea : a = i
  ·subst ea
   have eb : b ≠ a := fun x => hab x.symm
   simp only [upd_same, upd_other _ _ _ _ eb] at hb ⊢
   rw [conf_comm]
   exact hf b (hr.hold b hb).2 eb hb
  ·by_cases eb : b = i
   ·subst eb
    simp only [upd_same, upd_other _ _ _ _ ea] at ha ⊢
    exact hf a (hr.hold a ha).2 ea ha
   ·simp only [upd_other _ _ _ _ ea, upd_other _ _ _ _ eb] at ha hb ⊢
    exact hr.apart a b hab ha hb
 ·refine hr.edge ((i, m) :: l1) p mp l2 (by simp only at e; rw [e]; rfl) j hj ?_
  rcases hc with ⟨h1, h2⟩ | ⟨m', h1, h2⟩
  ·by_cases ej : j = i
   ·subst ej
    simp only [upd_same] at h2
    exact .inr ⟨m, List.mem_cons_self, h2⟩
   ·simp only [upd_other _ _ _ _ ej] at h1 h2
    exact .inl ⟨h1, h2⟩
  ·exact .inr ⟨m', List.mem_cons_of_mem _ h1, h2⟩
 ·have hxi : x.1 ≠ i := fun e => no x.2 (by rw [← e]; exact hx)
  simp only [upd_other _ _ _ _ hxi]
  exact hr.want x (List.mem_cons_of_mem _ hx)
theorem RowOk.settle {n : Nat} {E : Nat → Nat → Prop} {h : Nat → Int} {q : List (Nat × Int)} (hr : RowOk n E ⟨h, q⟩) : RowOk n E (settle n h q) := by
 induction q generalizing h with
 | nil => exact hr
 | cons x q ih =>
  obtain ⟨i, m⟩ := x
  simp only [Go.Proofs.YtmcajfefagdbnaaGreat.settle]
  split
  ·exact hr
  ·rename_i hh
   exact ih (hr.give (by simpa using hh))
theorem RowOk.mono {n n' : Nat} {E E' : Nat → Nat → Prop} {l : Lk} (hr : RowOk n E l) (hn : n ≤ n') (he : ∀ j i, (l.h j ≠ 0 ∨ ∃ m, (j, m) ∈ l.q) → (∃ m, (i, m) ∈ l.q) → E j i → E' j i) : RowOk n' E' l := by
 refine ⟨fun j hj => ⟨(hr.hold j hj).1, Nat.le_trans (hr.hold j hj).2 hn⟩, hr.mode, fun x hx => ⟨⟨(hr.qmode x hx).1.1, Nat.le_trans (hr.qmode x hx).1.2 hn⟩, (hr.qmode x hx).2⟩, hr.once, hr.apart, fun l1 i m l2 e j hj hc => ?_, hr.want⟩
 refine he j i ?_ ⟨m, by rw [e]; simp⟩ (hr.edge l1 i m l2 e j hj hc)
 rcases hc with ⟨h1, _⟩ | ⟨m', h1, _⟩
 ·exact .inl h1
 ·exact .inr ⟨m', by rw [e]; simp [h1]⟩
theorem filter_split {α : Type} (p : α → Bool) (l : List α) : ∀ l1 x l2, l.filter p = l1 ++ x :: l2 → ∃ k1 k2, l = k1 ++ x :: k2 ∧ k1.filter p = l1 := by
 induction l with
 | nil => intro l1 x l2 e; simp at e
 | cons a l ih =>
  intro l1 x l2 e
  by_cases ha : p a = true
  ·rw [List.filter_cons_of_pos ha] at e
   cases l1 with
   | nil =>
    simp only [List.nil_append, List.cons.injEq] at e
    exact ⟨[], l, by rw [e.1]; rfl, rfl⟩
   | cons b l1 =>
    simp only [List.cons_append, List.cons.injEq] at e
    obtain ⟨k1, k2, h1, h2⟩ := ih l1 x l2 e.2
    exact ⟨a :: k1, k2, by rw [h1]; rfl, by rw [List.filter_cons_of_pos ha, h2, e.1]⟩
  ·rw [List.filter_cons_of_neg ha] at e
   obtain ⟨k1, k2, h1, h2⟩ := ih l1 x l2 e
   exact ⟨a :: k1, k2, by rw [h1]; rfl, by rw [List.filter_cons_of_neg ha, h2]⟩
theorem RowOk.drop {n : Nat} {E : Nat → Nat → Prop} {l : Lk} (hr : RowOk n E l) (i : Nat) : RowOk n E (l.drop i) := by
 have sub : ∀ j, (l.drop i).h j ≠ 0 → (l.drop i).h j = l.h j ∧ j ≠ i := by
  intro j hj
  by_cases e : j = i
  ·subst e; simp [Lk.drop] at hj
  ·exact ⟨upd_other _ _ _ _ e, e⟩
 have memq : ∀ x, x ∈ (l.drop i).q → x ∈ l.q ∧ x.1 ≠ i := by
  intro x hx
  simp only [Lk.drop, List.mem_filter, bne_iff_ne, ne_eq] at hx
  exact hx
 refine ⟨fun j hj => ?_, fun j => ?_, fun x hx => hr.qmode x (memq x hx).1, ?_, fun a b hab ha hb => ?_, fun l1 p m l2 e j hj hc => ?_, fun x hx => ?_⟩
 ·have := sub j hj; rw [this.1] at hj; exact hr.hold j hj
 ·by_cases e : j = i
  ·subst e; exact .inl (by simp [Lk.drop])
  ·simp only [Lk.drop, upd_other _ _ _ _ e]; exact hr.mode j
 ·exact List.Sublist.nodup (List.Sublist.map _ List.filter_sublist) hr.once
 ·have h1 := sub a ha; have h2 := sub b hb
  rw [h1.1] at ha ⊢; rw [h2.1] at hb ⊢
  exact hr.apart a b hab ha hb
 ·obtain ⟨k1, k2, h1, h2⟩ := filter_split _ _ _ _ _ e
  refine hr.edge k1 p m k2 h1 j hj ?_
  rcases hc with ⟨h3, h4⟩ | ⟨m', h3, h4⟩
  ·have := sub j h3; rw [this.1] at h3 h4; exact .inl ⟨h3, h4⟩
  ·rw [← h2] at h3
   exact .inr ⟨m', (List.mem_filter.mp h3).1, h4⟩
 ·have := memq x hx
  simp only [Lk.drop, upd_other _ _ _ _ this.2]
  exact hr.want x this.1
theorem RowOk.freed {n : Nat} {E : Nat → Nat → Prop} {l : Lk} (hr : RowOk n E l) (i : Nat) : RowOk n E (l.freed n i) := RowOk.settle (hr.drop i)
theorem freed_no (n : Nat) (l : Lk) (i : Nat) : (∀ m, (i, m) ∉ (l.freed n i).q) := by
 intro m hm
 have := settle_mem hm
 simp [Lk.drop] at this
theorem freed_no_h (n : Nat) (l : Lk) (i : Nat) (hq : (l.q.map (·.1)).Nodup) : (l.freed n i).h i = 0 := by
 have hd : (((l.drop i).q).map (·.1)).Nodup := List.Sublist.nodup (List.Sublist.map _ List.filter_sublist) hq
 rcases settle_holds n (l.drop i).h (l.drop i).q hd i with ⟨h1, _⟩ | ⟨h1, _⟩
 ·simp only [Lk.freed]; rw [h1]; simp [Lk.drop]
 ·simp [Lk.drop] at h1
theorem freed_h {n : Nat} {l : Lk} {i j : Nat} (hq : (l.q.map (·.1)).Nodup) (hj : (l.freed n i).h j ≠ 0) : j ≠ i ∧ ((l.freed n i).h j = l.h j ∨ (j, (l.freed n i).h j) ∈ l.q) := by
 have hd : (((l.drop i).q).map (·.1)).Nodup := List.Sublist.nodup (List.Sublist.map _ List.filter_sublist) hq
 have hji : j ≠ i := by
  intro e; subst e; exact hj (freed_no_h n l j hq)
 refine ⟨hji, ?_⟩
 rcases settle_holds n (l.drop i).h (l.drop i).q hd j with ⟨h1, _⟩ | ⟨h1, _⟩
 ·left; simp only [Lk.freed]; rw [h1]; simp only [Lk.drop, upd_other _ _ _ _ hji]
 ·right; exact (List.mem_filter.mp h1).1
theorem freed_q {n : Nat} {l : Lk} {i : Nat} {x : Nat × Int} (hx : x ∈ (l.freed n i).q) : x ∈ l.q ∧ x.1 ≠ i := by
 have := settle_mem hx
 simp only [Lk.drop, List.mem_filter, bne_iff_ne, ne_eq] at this
 exact this
end Go.Proofs.YtmcajfefagdbnaaGreat
namespace Go.Proofs.YtmcajfefagdbnaaGreat
open Go Go.RowKit Go.Sort Go.Lib
theorem putRow_kept {α : Type} [Inhabited α] (enc : α → Value) (w : World) (n blk off : Nat) (d : Array α) (os : Array Obj) : Kept (Blk blk) w (grow (putRow enc (Sort.ahead w n) blk off d) os) := by
 refine ⟨rfl, rfl, rfl, by simp, fun k hk hne => ?_⟩
 rw [heap_grow_old _ _ (by simpa using hk)]
 have : blk ≠ k := fun e => hne e.symm
 simp [putRow, mapBlock, Sort.ahead, Array.getElem?_modify, this]
theorem putRow_block {α : Type} [Inhabited α] (enc : α → Value) {w : World} (n : Nat) {blk : Nat} (off : Nat) (d : Array α) (os : Array Obj) {cur : Array Value} {e : TypeId} {fr : Nat × Nat} (hb : w.heap[blk]? = some (.cells cur e fr)) :
  (grow (putRow enc (Sort.ahead w n) blk off d) os).heap[blk]? = some (.cells (putCells enc off d cur) e fr) := by
 have hg : blk < w.heap.size := (Array.getElem?_eq_some_iff.1 hb).1
 rw [heap_grow_old _ _ (by simpa using hg)]
 simp [putRow, mapBlock, Sort.ahead, Array.getElem?_modify, hb, onCells]
def sortedI (l : List Int) : List Int := l.mergeSort fun x y => decide (x ≤ y)
theorem sortInts (v : Value) (n : Nat) (zs : List Int) (w : World) (h : w.ownsRow 0 3 1 v n (zs.map (Value.int .i64))) (hn : n < 4611686018427387904) :
  Calls Tryz.prog 134 #[v] w fun e w' => e = .returned (.tuple #[]) ∧ w'.ownsRow 0 3 1 v n ((sortedI zs).map (Value.int .i64)) ∧ Kept (fun k => v.ownBlock = some k) w w' := by
 have hl : zs.length = n := by have := h.1; simpa using this
 rcases h.2 with ⟨rfl, rfl⟩ | ⟨g, cap, cur, rfl, _, hg, h1, h2, h3, h4⟩
 ·have : zs = [] := List.eq_nil_of_length_eq_zero hl
  subst this
  refine (show Calls Tryz.prog 134 #[.slice none 0 0] w _ from Any.slices_Sort_int_none Tryz.lays189 none 0 w).mono ?_
  rintro e w' ⟨rfl, rfl⟩
  exact ⟨rfl, by simpa [sortedI] using World.ownsRow_nil _ _ _ _, Kept.refl _ _⟩
 ·subst hl
  have hH : Holds (Value.int .i64) w g 0 zs.toArray := by
   intro j hj
   have hj' : j < zs.length := by simpa using hj
   refine ⟨?_, frozen_at hg _⟩
   rw [cell_at hg, Nat.zero_add]
   have e1 : (cur.toList.take (zs.length * 1))[j]? = (zs.map (Value.int .i64))[j]? := by rw [h4]
   rw [List.getElem?_take_of_lt (by omega)] at e1
   rw [← Array.getElem?_toList, e1]
   simp [hj']
  refine (show Calls Tryz.prog 134 #[.slice (some ⟨g, 0, none⟩) zs.length cap] w _ from Any.slices_Sort_int Tryz.lays189 g 0 cap zs w hH (lt_of_block hg) hn).mono ?_
  rintro e w' ⟨rfl, m, os, rfl⟩
  have hlen : (sortedI zs).length = zs.length := by simp [sortedI]
  refine ⟨rfl, ⟨by simp [hlen], .inr ⟨g, cap, _, rfl, Nat.zero_le _, putRow_block _ m 0 _ os hg, h1, h2, by simp [putCells, h3], ?_⟩⟩, (putRow_kept _ w m g 0 _ os).mono (fun k hk => by cases hk; rfl)⟩
  apply List.ext_getElem?
  intro j
  by_cases hj : j < zs.length
  ·rw [List.getElem?_take_of_lt (by omega), Array.getElem?_toList]
   have hj2 : j < (sortedI zs).length := by omega
   have hj3 : j < cur.size := by omega
   have hj4 : j < (zs.mergeSort fun x y => decide (x ≤ y)).length := hj2
   simp [putCells, sortedI, hj, hj3]
  ·rw [List.getElem?_take_eq_none (by omega), List.getElem?_eq_none (by simp [hlen]; omega)]
def lkc (l : List (Int × Int)) : List Value := l.flatMap fun x => [.int .i64 x.1, .int .i64 x.2]
def encLk (x : Int × Int) : List Value := [.int .i64 x.1, .int .i64 x.2]
theorem lkc_len (l : List (Int × Int)) : (lkc l).length = l.length * 2 := by
 induction l with
 | nil => rfl
 | cons o l ih => simp only [lkc, List.flatMap_cons, List.length_append] at ih ⊢; rw [ih]; simp; omega
theorem lkc_one (l : List (Int × Int)) : ∀ u ∈ lkc l, u.oneCell' = true := by
 intro u hu
 simp only [lkc, List.mem_flatMap] at hu
 obtain ⟨o, _, ho⟩ := hu
 simp at ho
 rcases ho with rfl | rfl <;> rfl
theorem lkc_get (l : List (Int × Int)) : ∀ t, t < l.length * 2 → (lkc l)[t]? = some ((encLk (l.getD (t / 2) (0, 0)))[t % 2]!) := by
 induction l with
 | nil => intro t ht; simp at ht
 | cons o l ih =>
  intro t ht
  match t with
  | 0 => simp [lkc, encLk]
  | 1 => simp [lkc, encLk]
  | t + 2 =>
   have := ih t (by simp at ht; omega)
   rw [show (t + 2) / 2 = t / 2 + 1 from by omega, show (t + 2) % 2 = t % 2 from by omega]
   simpa [lkc] using this
theorem lkc_flat (l : List (Int × Int)) : (flatK encLk 2 l.toArray) = (lkc l).toArray := by
 apply Array.ext_getElem?
 intro t
 by_cases ht : t < l.length * 2
 ·have h1 := lkc_get l t ht
  have h2 := get_flatK encLk 2 l.toArray t (by simpa using ht)
  rw [getElem!_pos _ t (by simpa using ht)] at h2
  rw [Array.getElem?_eq_getElem (by simpa using ht), h2]
  simp only [List.getElem?_toArray]
  rw [h1]
  have h3 : t / 2 < l.length := by omega
  simp [List.getD, h3]
 ·rw [Array.getElem?_eq_none (by simp; omega), Array.getElem?_eq_none (by simp [lkc_len]; omega)]
end Go.Proofs.YtmcajfefagdbnaaGreat
namespace Go.Proofs.YtmcajfefagdbnaaGreat
open Go Go.RowKit
theorem ivals_put (f : Int → Option Int) (k : Int) (v : Option Int) : put (ivals f) k (v.map (Value.int .i64)) = ivals (upd f k v) := by
 funext c
 simp only [put, ivals, upd]
 split <;> rfl
set_option maxHeartbeats 800000 in
theorem back_some (p vb m x s r : Nat) (row v : Int) (f : Int → Option Int) (u : FrameMode) (w : World) (hp : w.cell? ⟨p, 3, none⟩ = some (.map (some vb))) (hm : MapAt keyI w vb m (ivals f)) (hmm : m < maxLen) (hr : inI row)
  (h0 : w.heap[x]? = some (.cells #[.int .i64 v] 3 (0, 0))) (h1 : w.heap[s]? = some (.cells #[.pointer (some ⟨p, 0, none⟩)] 35 (0, 0))) (h2 : w.heap[r]? = some (.cells #[.int .i64 row] 3 (0, 0))) :
  CallsD Tryz.prog 156 #[.pointer (some ⟨x, 0, none⟩), .pointer (some ⟨s, 0, none⟩), .pointer (some ⟨r, 0, none⟩)] u w fun e u' w' => u' = u ∧ (∃ v, e = .returned v) ∧ MapAt keyI w' vb (m + 1) (ivals (upd f row (some v))) ∧ Kept (Blk vb) w w' := by
 obtain ⟨w', hrun, hm', hk, _⟩ := (show MapAt keyI w.drew vb m (ivals f) from hm).store Tryz.underlying122 hmm (a := row) hr (.int .i64 v)
 have hrun' : (Instr.mapUpdate 122 (.map (some vb)) (.int .i64 row) (.int .i64 v)).run Tryz.prog w.drew = .ok () w' := hrun
 have c0 : w.cell? ⟨x, 0, none⟩ = some (.int .i64 v) := by rw [cell_at h0]; rfl
 have c1 : w.cell? ⟨s, 0, none⟩ = some (.pointer (some ⟨p, 0, none⟩)) := by rw [cell_at h1]; rfl
 have c2 : w.cell? ⟨r, 0, none⟩ = some (.int .i64 row) := by rw [cell_at h2]; rfl
 have hm2 := ivals_put f row (some v) ▸ hm'
 clear hrun hm' hm h0 h1 h2
 go_enter_d Tryz.func156, Tryz.ntmps156
 go_wp2_with fail
 go_region
 go_end0
 exact ⟨⟨_, rfl⟩, hm2, ⟨hk.os, hk.tape, hk.output, hk.size, hk.block⟩⟩
set_option maxHeartbeats 800000 in
theorem back_none (p vb m s r : Nat) (row : Int) (f : Int → Option Int) (u : FrameMode) (w : World) (hp : w.cell? ⟨p, 3, none⟩ = some (.map (some vb))) (hm : MapAt keyI w vb m (ivals f)) (hr : inI row)
  (h1 : w.heap[s]? = some (.cells #[.pointer (some ⟨p, 0, none⟩)] 35 (0, 0))) (h2 : w.heap[r]? = some (.cells #[.int .i64 row] 3 (0, 0))) :
  CallsD Tryz.prog 155 #[.pointer (some ⟨s, 0, none⟩), .pointer (some ⟨r, 0, none⟩)] u w fun e u' w' => u' = u ∧ (∃ v, e = .returned v) ∧ MapAt keyI w' vb (m + 1) (ivals (upd f row none)) ∧ Kept (Blk vb) w w' := by
 have hd : ∀ ty, ∃ w', (Builtin.delete_ #[122, 3] ty #[.map (some vb), .int .i64 row]).run Tryz.prog w.drew = .ok (.tuple #[]) w' ∧ MapAt keyI w' vb (m + 1) (ivals (upd f row none)) ∧ Kept (Blk vb) w w' := by
  intro ty
  obtain ⟨w', h1, h2, h3, _⟩ := (show MapAt keyI w.drew vb m (ivals f) from hm).drop Tryz.underlying122 (a := row) hr ty
  exact ⟨w', h1, ivals_put f row none ▸ h2.mono (Nat.le_succ _), ⟨h3.os, h3.tape, h3.output, h3.size, h3.block⟩⟩
 have c1 : w.cell? ⟨s, 0, none⟩ = some (.pointer (some ⟨p, 0, none⟩)) := by rw [cell_at h1]; rfl
 have c2 : w.cell? ⟨r, 0, none⟩ = some (.int .i64 row) := by rw [cell_at h2]; rfl
 obtain ⟨w', hrun, hm2, hk⟩ := hd 0
 clear hm h1 h2 hd
 go_enter_d Tryz.func155, Tryz.ntmps155
 go_wp2_with fail
 go_region
 go_end0
 exact ⟨⟨_, rfl⟩, hm2, ⟨hk.os, hk.tape, hk.output, hk.size, hk.block⟩⟩
end Go.Proofs.YtmcajfefagdbnaaGreat
