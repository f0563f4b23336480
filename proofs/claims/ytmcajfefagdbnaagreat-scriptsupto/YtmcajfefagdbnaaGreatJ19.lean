import Derived.Test.YtmcajfefagdbnaaGreatJ05
import Derived.Test.YtmcajfefagdbnaaGreatJ16
import Derived.Deep.RegionHeld3
import Derived.Deep.DrawnRows
import Derived.WalkSpells
import Derived.Test.YtmcajfefagdbnaaGreatJ17
import Derived.Test.YtmcajfefagdbnaaGreatJ18
namespace Go.Proofs.YtmcajfefagdbnaaGreat
open Go Go.RowKit
attribute [local go_sem ↓] Go.wp_at_zero Go.wp_at_succ
theorem from4 {w : World} {b o : Nat} {x0 x1 x2 x3 : Value} (h0 : w.cell? ⟨b, o, none⟩ = some x0) (h1 : w.cell? ⟨b, o + 1, none⟩ = some x1) (h2 : w.cell? ⟨b, o + 2, none⟩ = some x2) (h3 : w.cell? ⟨b, o + 3, none⟩ = some x3)
  (g0 : x0.oneCell' = true) (g1 : x1.oneCell' = true) (g2 : x2.oneCell' = true) (g3 : x3.oneCell' = true) (c : Nat) : FromMem w 1 (.slice (some ⟨b, o, none⟩) 4 c) 4 [x0, x1, x2, x3] := by
 refine ⟨⟨some ⟨b, o, none⟩, c, rfl, fun h => by simp at h, ?_⟩, rfl, ?_⟩
 ·intro ad had j u hu
  obtain rfl := Option.some.inj had
  rw [Addr.add_lit]
  match j, hu with
  | 0, hu => simp at hu; subst hu; exact h0
  | 1, hu => simp at hu; subst hu; exact h1
  | 2, hu => simp at hu; subst hu; exact h2
  | 3, hu => simp at hu; subst hu; exact h3
  | j + 4, hu => simp at hu
 ·intro u hu
  simp at hu
  rcases hu with rfl | rfl | rfl | rfl <;> assumption
def ToldPre (b H : Nat) (nm ov rv dv : Value) (st sa ag ne : Int) (wo wa : Bool) (r0 r1 r2 r3 : Int) (nr : Nat) (sc : List Value) (W : World) : Prop :=
 W.heap[b]? = some (.cells #[nm, ov, .int .i64 st, .int .i64 sa, .int .i64 ag, .int .i64 ne, .bool wo, .bool wa, .int .i64 r0, .int .i64 r1, .int .i64 r2, .int .i64 r3, rv, dv] 146 (0, 0)) ∧ b ≠ H ∧ ∃ cs : Array Value, cs.size = 8 ∧ W.heap[H]? = some (.cells cs 69 (0, 0)) ∧ RowAt W 105 3 rv nr sc ∧ (∀ k, rv.ownBlock = some k → k ≠ H) ∧ (∀ u ∈ sc, u.oneCell' = true) ∧ nr ≤ 12
section
variable {b H : Nat} {nm ov rv dv : Value} {st sa ag ne : Int} {wo wa : Bool} {r0 r1 r2 r3 : Int} {nr : Nat} {sc : List Value}
theorem ToldPre.kept {W W' : World} (hk : Kept NoBlk W W') (h : ToldPre b H nm ov rv dv st sa ag ne wo wa r0 r1 r2 r3 nr sc W) : ToldPre b H nm ov rv dv st sa ag ne wo wa r0 r1 r2 r3 nr sc W' := by
 obtain ⟨h1, hn, cs, hs, h2, h3, h4, h5, h6⟩ := h
 exact ⟨hk.heap h1 (fun x => x), hn, cs, hs, hk.heap h2 (fun x => x), h3.kept hk (fun _ _ x => x), h4, h5, h6⟩
theorem ToldPre.drew {W : World} (h : ToldPre b H nm ov rv dv st sa ag ne wo wa r0 r1 r2 r3 nr sc W) : ToldPre b H nm ov rv dv st sa ag ne wo wa r0 r1 r2 r3 nr sc W.drew := h
theorem ToldPre.setCell {W : World} (o : Nat) (v : Value) (h : ToldPre b H nm ov rv dv st sa ag ne wo wa r0 r1 r2 r3 nr sc W) : ToldPre b H nm ov rv dv st sa ag ne wo wa r0 r1 r2 r3 nr sc (W.setCell ⟨H, o, none⟩ v) := by
 obtain ⟨h1, hn, cs, hs, h2, h3, h4, h5, h6⟩ := h
 exact ⟨by rw [block_setCell_other (by exact hn)]; exact h1, hn, _, by simpa using hs, block_setCell h2 v, h3.of_block (fun k hk => block_setCell_other (by exact h4 k hk) v), h4, h5, h6⟩
theorem ToldPre.cells {w' : World} (h : ToldPre b H nm ov rv dv st sa ag ne wo wa r0 r1 r2 r3 nr sc w') : w'.cell? ⟨b, 2, none⟩ = some (.int .i64 st) ∧ w'.cell? ⟨b, 3, none⟩ = some (.int .i64 sa) ∧ w'.cell? ⟨b, 4, none⟩ = some (.int .i64 ag) ∧ w'.cell? ⟨b, 5, none⟩ = some (.int .i64 ne) ∧ w'.cell? ⟨b, 6, none⟩ = some (.bool wo) ∧ w'.cell? ⟨b, 7, none⟩ = some (.bool wa) ∧ w'.cell? ⟨b, 12, none⟩ = some rv ∧ ToldPre b H nm ov rv dv st sa ag ne wo wa r0 r1 r2 r3 nr sc w' := by
 have h1 := h.1
 refine ⟨?_, ?_, ?_, ?_, ?_, ?_, ?_, h⟩ <;> (rw [cell_at h1]; rfl)
theorem ToldPre.held {w' : World} (h : w'.cell? ⟨b, 2, none⟩ = some (.int .i64 st) ∧ w'.cell? ⟨b, 3, none⟩ = some (.int .i64 sa) ∧ w'.cell? ⟨b, 4, none⟩ = some (.int .i64 ag) ∧ w'.cell? ⟨b, 5, none⟩ = some (.int .i64 ne) ∧ w'.cell? ⟨b, 6, none⟩ = some (.bool wo) ∧ w'.cell? ⟨b, 7, none⟩ = some (.bool wa) ∧ w'.cell? ⟨b, 12, none⟩ = some rv ∧ ToldPre b H nm ov rv dv st sa ag ne wo wa r0 r1 r2 r3 nr sc w') : ToldPre b H nm ov rv dv st sa ag ne wo wa r0 r1 r2 r3 nr sc w' := h.2.2.2.2.2.2.2
theorem ToldPre.from4 {W : World} (h : ToldPre b H nm ov rv dv st sa ag ne wo wa r0 r1 r2 r3 nr sc W) : FromMem W 1 (.slice (some ⟨b, 8, none⟩) 4 4) 4 [.int .i64 r0, .int .i64 r1, .int .i64 r2, .int .i64 r3] := by
 have h1 := h.1
 refine YtmcajfefagdbnaaGreat.from4 ?_ ?_ ?_ ?_ rfl rfl rfl rfl _ <;> (rw [cell_at h1]; rfl)
theorem ToldPre.reads {W : World} (h : ToldPre b H nm ov rv dv st sa ag ne wo wa r0 r1 r2 r3 nr sc W) : FromMem W 3 rv nr sc := by
 obtain ⟨_, _, cs, hs, h2, h3, h4, h5, h6⟩ := h
 exact h3.mem h5
theorem ToldPre.room {W : World} (h : ToldPre b H nm ov rv dv st sa ag ne wo wa r0 r1 r2 r3 nr sc W) : (∃ x, W.cell? ⟨H, 0, none⟩ = some x) ∧ (∃ x, W.cell? ⟨H, 1, none⟩ = some x) ∧ (∃ x, W.cell? ⟨H, 2, none⟩ = some x) ∧ (∃ x, W.cell? ⟨H, 3, none⟩ = some x) ∧
  (∃ x, W.cell? ⟨H, 4, none⟩ = some x) ∧ (∃ x, W.cell? ⟨H, 5, none⟩ = some x) ∧ (∃ x, W.cell? ⟨H, 6, none⟩ = some x) ∧ (∃ x, W.cell? ⟨H, 7, none⟩ = some x) ∧ ∀ o, W.frozen? ⟨H, o, none⟩ = false := by
 obtain ⟨_, _, cs, hs, h2, _⟩ := h
 have hc : ∀ j, j < 8 → ∃ x, W.cell? ⟨H, j, none⟩ = some x := fun j hj => ⟨cs[j]'(by omega), by rw [cell_at h2]; exact Array.getElem?_eq_getElem _⟩
 exact ⟨hc 0 (by omega), hc 1 (by omega), hc 2 (by omega), hc 3 (by omega), hc 4 (by omega), hc 5 (by omega), hc 6 (by omega), hc 7 (by omega), fun o => frozen_at h2 o⟩
end
set_option maxRecDepth 100000 in
set_option maxHeartbeats 3200000 in
theorem told_any (b : Nat) (nm ov rv dv : Value) (st sa ag ne : Int) (wo wa : Bool) (r0 r1 r2 r3 : Int) (nr : Nat) (sc : List Value) (w : World)
  (h : w.heap[b]? = some (.cells #[nm, ov, .int .i64 st, .int .i64 sa, .int .i64 ag, .int .i64 ne, .bool wo, .bool wa, .int .i64 r0, .int .i64 r1, .int .i64 r2, .int .i64 r3, rv, dv] 146 (0, 0))) (hr : RowAt w 105 3 rv nr sc) (hs1 : ∀ u ∈ sc, u.oneCell' = true) (hn12 : nr ≤ 12) :
  Calls Tryz.prog 64 #[.pointer (some ⟨b, 0, none⟩)] w fun e w' => ∃ g k, e = .returned (.agg #[.int .i64 st, .int .i64 sa, .int .i64 ne, .bool wo, .bool wa, .int .i64 ag, .slice (some ⟨g, 0, none⟩) 4 4, .slice (some ⟨k, 0, none⟩) nr nr]) ∧
   w.heap.size ≤ g ∧ w.heap.size ≤ k ∧ w'.heap[g]? = some (.cells #[.int .i64 r0, .int .i64 r1, .int .i64 r2, .int .i64 r3] 3 (0, 0)) ∧ w'.heap[k]? = some (.cells sc.toArray 105 (0, 0)) ∧ Kept NoBlk w w' := by
 have hb := lt_of_block h
 have hp0 : ToldPre b w.heap.size nm ov rv dv st sa ag ne wo wa r0 r1 r2 r3 nr sc (w.alloc (.cells #[.int .i64 0, .int .i64 0, .int .i64 0, .bool false, .bool false, .int .i64 0, .slice none 0 0, .slice none 0 0] 69)) :=
  ⟨block_alloc_old _ h, by omega, _, rfl, block_alloc_new w _, hr.kept ((Kept.refl NoBlk w).alloc _) (fun _ _ x => x), fun k hk => by have := hr.lt k hk; omega, hs1, hn12⟩
 obtain ⟨ar, cr, rfl, _, _⟩ := hr.form
 have HN12 : Hid (nr ≤ 1048576) := by unfold Hid; omega
 clear h hr hs1 hn12
 have hsz : (w.alloc (.cells #[.int .i64 0, .int .i64 0, .int .i64 0, .bool false, .bool false, .int .i64 0, .slice none 0 0, .slice none 0 0] 69)).heap.size = w.heap.size + 1 := by simp
 go_enter Tryz.func64, Tryz.ntmps64
 go_wp2_with fail
 have HK0 : Hid (Kept NoBlk w (w.alloc (.cells #[.int .i64 0, .int .i64 0, .int .i64 0, .bool false, .bool false, .int .i64 0, .slice none 0 0, .slice none 0 0] 69))) := (Kept.refl _ _).alloc _
 generalize (w.alloc (.cells #[.int .i64 0, .int .i64 0, .int .i64 0, .bool false, .bool false, .int .i64 0, .slice none 0 0, .slice none 0 0] 69)) = W0 at *
 have hlt : Hid (w.heap.size < W0.heap.size) := by unfold Hid; omega
 generalize hH : w.heap.size = H at *
 have HH : Hid _ := hH
 clear hH
 clear hsz hb
 go_region_held3 (fun w' => w'.cell? ⟨b, 2, none⟩ = some (.int .i64 st) ∧ w'.cell? ⟨b, 3, none⟩ = some (.int .i64 sa) ∧ w'.cell? ⟨b, 4, none⟩ = some (.int .i64 ag) ∧ w'.cell? ⟨b, 5, none⟩ = some (.int .i64 ne) ∧ w'.cell? ⟨b, 6, none⟩ = some (.bool wo) ∧ w'.cell? ⟨b, 7, none⟩ = some (.bool wa) ∧ w'.cell? ⟨b, 12, none⟩ = some (.slice ar nr cr) ∧ ToldPre b H nm ov (.slice ar nr cr) dv st sa ag ne wo wa r0 r1 r2 r3 nr sc w')
  ((refine ToldPre.cells ?_; first | (refine ToldPre.setCell _ _ ?_; (repeat (refine ToldPre.setCell _ _ ?_)); exact ToldPre.held (by assumption)) | exact ToldPre.kept hk2 (ToldPre.held (by assumption)) | exact ToldPre.kept hk1 (ToldPre.drew hp0) | exact ToldPre.drew hp0))
  (first
   | (go_at_call 68; refine (freshInt _ 4 [.int .i64 r0, .int .i64 r1, .int .i64 r2, .int .i64 r3] _ (ToldPre.from4 (by first | assumption | exact ToldPre.held (by assumption))) (by omega)).mono ?_; rintro e w1 ⟨rfl, hg1, hk1⟩; obtain ⟨⟨x0, z0⟩, ⟨x1, z1⟩, ⟨x2, z2⟩, ⟨x3, z3⟩, ⟨x4, z4⟩, ⟨x5, z5⟩, ⟨x6, z6⟩, ⟨x7, z7⟩, zf⟩ := ToldPre.room (ToldPre.kept hk1 (by first | assumption | exact ToldPre.held (by assumption))))
   | (go_at_call 98; refine (freshSeen _ nr sc _ (ToldPre.reads (by first | assumption | exact ToldPre.held (by assumption))) HN12.out).mono ?_; rintro e w2 ⟨rfl, hg2, hk2⟩; obtain ⟨⟨y0, z0⟩, ⟨y1, z1⟩, ⟨y2, z2⟩, ⟨y3, z3⟩, ⟨y4, z4⟩, ⟨y5, z5⟩, ⟨y6, z6⟩, ⟨y7, z7⟩, zf⟩ := ToldPre.room (ToldPre.kept hk2 (by first | assumption | exact ToldPre.held (by assumption)))))
 go_wp2
 have e1 : W0.heap.size ≤ w1.heap.size := hk1.size
 have n1 : W0.heap.size ≠ H := by have := hlt.out; omega
 have n2 : w1.heap.size ≠ H := by have := hlt.out; omega
 refine bodyPost_ret (v := .agg #[.int .i64 st, .int .i64 sa, .int .i64 ne, .bool wo, .bool wa, .int .i64 ag, .slice (some ⟨W0.heap.size, 0, none⟩) 4 4, .slice (some ⟨w1.heap.size, 0, none⟩) nr nr]) (by simp [results, Tryz.results64, go_sem, z0, z1, z2, z3, z4, z5, z6, z7]) rfl ?_
 refine ⟨W0.heap.size, w1.heap.size, rfl, by have := hlt.out; have := HH.out; omega, by have := hlt.out; have := HH.out; omega, ?_, ?_, ?_⟩
 ·repeat rw [block_setCell_other (by exact n1)]
  exact hk2.heap hg1 (fun x => x)
 ·repeat rw [block_setCell_other (by exact n2)]
  exact hg2
 ·repeat (refine Kept.setCell ?_ (by right; exact Nat.le_of_eq HH.out) _)
  exact (HK0.out.drew.trans' hk1).trans' hk2
end Go.Proofs.YtmcajfefagdbnaaGreat
namespace Go.Proofs.YtmcajfefagdbnaaGreat
open Go Go.RowKit
structure OwB where
 f : Nat → Nat
 bs : List Nat
instance : CoeFun OwB (fun _ => Nat → Nat) := ⟨OwB.f⟩
def Owns (ow : OwB) (tag : Nat) (w : World) (e : TypeId) (size : Nat) (v : Value) (n : Nat) (cs : List Value) : Prop := w.ownsRow 0 e size v n cs ∧ ∀ k, v.ownBlock = some k → ow k = tag
def sawCells (l : List Saw) : List Value := l.flatMap fun s => [.int .i64 s.key, .bool s.there, .int .i64 s.val]
def txCells (bs : List Nat) : List Value := bs.map fun b => .pointer (some ⟨b, 0, none⟩)
def winCells (l : List Nat) : List Value := l.map fun (i : Nat) => .int .i64 (i : Int)
def TxAt (ow : OwB) (tag : Nat) (w : World) (b : Nat) (t : Tx) : Prop := ∃ r rd ov uv,
 w.heap[b]? = some (.cells #[.int .i64 t.stamp, .int .i64 t.state, .int .i64 (t.next : Nat), .bool t.wounded, .bool t.waits.isSome, .int .i64 t.agains, .slice (some ⟨r, 0, none⟩) 4 4, rd, ov, uv] 152 (0, 0)) ∧ ow b = tag ∧
 w.heap[r]? = some (.cells #[.int .i64 (t.regs 0), .int .i64 (t.regs 1), .int .i64 (t.regs 2), .int .i64 (t.regs 3)] 3 (0, 0)) ∧ ow r = tag ∧
 Owns ow tag w 105 3 rd t.reads.length (sawCells t.reads) ∧ Owns ow tag w 114 4 ov t.ops.length (opCells t.ops) ∧ Owns ow tag w 174 3 uv t.undo.length (sawCells t.undo.reverse)
def FixT (ow : OwB) (p n : Nat) (w : World) : Prop := ∀ rv tv cv wv c bs, w.heap[p]? = some (.cells #[rv, tv, cv, wv, c] 47 (0, 0)) → w.ownsRow 0 149 1 tv n (txCells bs) → bs.length = n → bs = ow.bs
theorem ownsRow_inj {w : World} {e : TypeId} {size : Nat} {v : Value} {n : Nat} {xs ys : List Value} (h : w.ownsRow 0 e size v n xs) (h' : w.ownsRow 0 e size v n ys) : xs = ys := by
 have l1 := h.1
 have l2 := h'.1
 rcases h.2 with ⟨rfl, rfl⟩ | ⟨g, cap, cur, rfl, _, hg, _, _, _, hc⟩
 ·simp only [Nat.zero_mul] at l1 l2
  rw [List.eq_nil_of_length_eq_zero l1, List.eq_nil_of_length_eq_zero l2]
 ·rcases h'.2 with ⟨h0, _⟩ | ⟨g', cap', cur', h0, _, hg', _, _, _, hc'⟩
  ·cases h0
  ·simp only [Value.slice.injEq, Option.some.injEq, Addr.mk.injEq, and_true, true_and] at h0
   obtain ⟨rfl, rfl⟩ := h0
   rw [hg] at hg'
   simp only [Option.some.injEq, Obj.cells.injEq, and_true] at hg'
   subst hg'
   rw [← hc, ← hc']
theorem txCells_inj {a b : List Nat} (h : txCells a = txCells b) : a = b := by
 unfold txCells at h
 induction a generalizing b with
 | nil => cases b with
  | nil => rfl
  | cons y b => simp at h
 | cons x a ih => cases b with
  | nil => simp at h
  | cons y b =>
   simp only [List.map_cons, List.cons.injEq, Value.pointer.injEq, Option.some.injEq, Addr.mk.injEq, and_true] at h
   rw [h.1, ih h.2]
theorem FixT.mk {ow : OwB} {p n : Nat} {w : World} {rv tv cv wv c : Value} {bs : List Nat} (hp : w.heap[p]? = some (.cells #[rv, tv, cv, wv, c] 47 (0, 0))) (ho : w.ownsRow 0 149 1 tv n (txCells bs)) (e : bs = ow.bs) : FixT ow p n w := by
 intro rv' tv' cv' wv' c' bs' q1 q2 _
 rw [hp] at q1
 simp only [Option.some.injEq, Obj.cells.injEq, Array.mk.injEq, List.cons.injEq, and_true] at q1
 obtain ⟨_, rfl, _⟩ := q1
 rw [← e]
 exact txCells_inj (ownsRow_inj q2 ho)
structure WSt (ow : OwB) (p : Nat) (rl : List Row2) (cl : List Cl) (n : Nat) (tx : Nat → Tx) (wins : List Nat) (clock : Int) (w : World) : Prop where
 lt : ∀ k, ow k ≠ 0 → k < w.heap.size
 fix : FixT ow p n w
 body : ∃ rv tv cv wv bs, w.heap[p]? = some (.cells #[rv, tv, cv, wv, .int .i64 clock] 47 (0, 0)) ∧ ow p = 1 ∧ Owns ow 1 w 95 2 rv rl.length (rowCells rl) ∧
  Owns ow 1 w 149 1 tv n (txCells bs) ∧ bs.length = n ∧ Owns ow 1 w 109 4 cv cl.length (clCells cl) ∧ Owns ow 1 w 3 1 wv wins.length (winCells wins) ∧
  ∀ i, i < n → TxAt ow (i + 2) w (bs.getD i 0) (tx (i + 1))
def Own (ow : OwB) : Nat → Prop := fun k => ow k ≠ 0
structure Agree (w : World) (ow ow' : OwB) : Prop where
 out : ∀ k, k < w.heap.size → ow' k = ow k
 bs : ow'.bs = ow.bs
instance {w : World} {ow ow' : OwB} : CoeFun (Agree w ow ow') (fun _ => ∀ k, k < w.heap.size → ow' k = ow k) := ⟨Agree.out⟩
theorem Agree.refl (w : World) (ow : OwB) : Agree w ow ow := ⟨fun _ _ => rfl, rfl⟩
theorem Agree.trans {w w' : World} {a b c : OwB} (h : Agree w a b) (hs : w.heap.size ≤ w'.heap.size) (k : Agree w' b c) : Agree w a c := ⟨fun i hi => (k.out i (by omega)).trans (h.out i hi), k.bs.trans h.bs⟩
theorem Agree.less {w w' : World} {a b : OwB} (h : Agree w' a b) (hs : w.heap.size ≤ w'.heap.size) : Agree w a b := ⟨fun k hk => h.out k (Nat.lt_of_lt_of_le hk hs), h.bs⟩
def give (ow : OwB) (k tag : Nat) : OwB := ⟨fun i => if i = k then tag else ow i, ow.bs⟩
theorem give_agree {w : World} (ow : OwB) {k : Nat} (tag : Nat) (h : w.heap.size ≤ k) : Agree w ow (give ow k tag) := ⟨fun i hi => by simp only [give]; rw [if_neg (by omega)], rfl⟩
theorem Owns.kept {ow ow' : OwB} {tag : Nat} {w w' : World} {e : TypeId} {size : Nat} {v : Value} {n : Nat} {cs : List Value} (h : Owns ow tag w e size v n cs) (ha : Agree w ow ow') (hb : ∀ k, k < w.heap.size → ow k = tag → w'.heap[k]? = w.heap[k]?) : Owns ow' tag w' e size v n cs :=
 ⟨ownsRow_of_block h.1 (fun k hk => hb k (ownsRow_lt h.1 k hk) (h.2 k hk)), fun k hk => by rw [ha k (ownsRow_lt h.1 k hk)]; exact h.2 k hk⟩
theorem TxAt.kept {ow ow' : OwB} {tag : Nat} {w w' : World} {b : Nat} {t : Tx} (h : TxAt ow tag w b t) (ha : Agree w ow ow') (hb : ∀ k, k < w.heap.size → ow k = tag → w'.heap[k]? = w.heap[k]?) : TxAt ow' tag w' b t := by
 obtain ⟨r, rd, ov, uv, h1, h2, h3, h4, h5, h6, h7⟩ := h
 have l1 := lt_of_block h1
 have l3 := lt_of_block h3
 exact ⟨r, rd, ov, uv, by rw [hb b l1 h2]; exact h1, by rw [ha b l1]; exact h2, by rw [hb r l3 h4]; exact h3, by rw [ha r l3]; exact h4, h5.kept ha hb, h6.kept ha hb, h7.kept ha hb⟩
theorem WSt.of_same {ow : OwB} {p : Nat} {rl : List Row2} {cl : List Cl} {n : Nat} {tx : Nat → Tx} {wins : List Nat} {c : Int} {w w' : World} (h : WSt ow p rl cl n tx wins c w) (hs : w.heap.size ≤ w'.heap.size) (hb : ∀ k, ow k ≠ 0 → w'.heap[k]? = w.heap[k]?) : WSt ow p rl cl n tx wins c w' := by
 obtain ⟨rv, tv, cv, wv, bs, h1, h2, h3, h4, h5, h6, h7, h8⟩ := h.body
 have hb1 : ∀ k, k < w.heap.size → ow k = 1 → w'.heap[k]? = w.heap[k]? := fun k _ e => hb k (by omega)
 have h1' : w'.heap[p]? = some (.cells #[rv, tv, cv, wv, .int .i64 c] 47 (0, 0)) := by rw [hb p (by omega)]; exact h1
 have h4' := h4.kept (Agree.refl _ _) hb1
 exact ⟨fun k hk => Nat.lt_of_lt_of_le (h.lt k hk) hs, FixT.mk h1' h4'.1 (h.fix _ _ _ _ _ _ h1 h4.1 h5), rv, tv, cv, wv, bs, h1', h2, h3.kept (Agree.refl _ _) hb1, h4', h5, h6.kept (Agree.refl _ _) hb1, h7.kept (Agree.refl _ _) hb1, fun i hi => (h8 i hi).kept (Agree.refl _ _) (fun k _ e => hb k (by omega))⟩
theorem WSt.kept {ow : OwB} {p : Nat} {rl : List Row2} {cl : List Cl} {n : Nat} {tx : Nat → Tx} {wins : List Nat} {c : Int} {S : Nat → Prop} {w w' : World} (h : WSt ow p rl cl n tx wins c w) (hk : Kept S w w') (hd : ∀ k, ow k ≠ 0 → ¬ S k) : WSt ow p rl cl n tx wins c w' :=
 h.of_same hk.size (fun k hs => hk.block k (h.lt k hs) (hd k hs))
theorem WSt.kept0 {ow : OwB} {p : Nat} {rl : List Row2} {cl : List Cl} {n : Nat} {tx : Nat → Tx} {wins : List Nat} {c : Int} {w w' : World} (h : WSt ow p rl cl n tx wins c w) (hk : Kept NoBlk w w') : WSt ow p rl cl n tx wins c w' := h.kept hk (fun _ _ x => x)
theorem WSt.claims {ow : OwB} {p : Nat} {rl : List Row2} {cl cl' : List Cl} {n : Nat} {tx : Nat → Tx} {wins : List Nat} {c : Int} {w w' : World} (h : WSt ow p rl cl n tx wins c w) {rv tv cv wv cv' : Value}
  (hp : w.heap[p]? = some (.cells #[rv, tv, cv, wv, .int .i64 c] 47 (0, 0))) (hp' : w'.heap[p]? = some (.cells #[rv, tv, cv', wv, .int .i64 c] 47 (0, 0)))
  (hown : w'.ownsRow 0 109 4 cv' cl'.length (clCells cl')) (hf : ∀ k, cv'.ownBlock = some k → cv.ownBlock = some k ∨ w.heap.size ≤ k) (hk : Kept (fun k => k = p ∨ cv.ownBlock = some k) w w') :
  ∃ ow', Agree w ow ow' ∧ WSt ow' p rl cl' n tx wins c w' ∧ Kept (Own ow) w w' := by
 obtain ⟨rv0, tv0, cv0, wv0, bs, h1, h2, h3, h4, h5, h6, h7, h8⟩ := h.body
 rw [hp] at h1
 simp only [Option.some.injEq, Obj.cells.injEq, Array.mk.injEq, List.cons.injEq, and_true] at h1
 obtain ⟨rfl, rfl, rfl, rfl, _⟩ := h1
 have hkO : Kept (Own ow) w w' := hk.mono (fun k x => by
  rcases x with rfl | x
  ·unfold Own; omega
  ·have := h6.2 k x; unfold Own; omega)
 have hlt := lt_of_block hp
 let ow' : OwB := ⟨fun k => if k < w.heap.size then ow k else if cv'.ownBlock = some k then 1 else 0, ow.bs⟩
 have hag : Agree w ow ow' := ⟨fun k hk => by simp only [ow', hk, if_true], rfl⟩
 have hcvp : cv.ownBlock ≠ some p := fun e => by
  obtain ⟨cur, hc⟩ := ownsRow_block h6.1 e
  exact blocks_apart hp hc (by decide) rfl
 have same : ∀ k, k < w.heap.size → k ≠ p → cv.ownBlock ≠ some k → w'.heap[k]? = w.heap[k]? := fun k hk1 h1 h2 => hk.block k hk1 (fun x => x.elim h1 h2)
 have keep : ∀ {e : TypeId} {size : Nat} {v : Value} {m : Nat} {cs : List Value}, Owns ow 1 w e size v m cs → e ≠ 47 → e ≠ 109 → Owns ow' 1 w' e size v m cs := by
  intro e size v m cs ho e1 e2
  refine ⟨ownsRow_of_block ho.1 (fun k hk => ?_), fun k hk => by rw [hag k (ownsRow_lt ho.1 k hk)]; exact ho.2 k hk⟩
  obtain ⟨cur, hc⟩ := ownsRow_block ho.1 hk
  refine same k (lt_of_block hc) (blocks_apart hc hp e1) (fun x => ?_)
  obtain ⟨cur', hc'⟩ := ownsRow_block h6.1 x
  exact blocks_apart hc hc' e2 rfl
 have h4' := keep h4 (by decide) (by decide)
 refine ⟨ow', hag, ⟨fun k hk0 => ?_, FixT.mk hp' h4'.1 (h.fix _ _ _ _ _ _ hp h4.1 h5), rv, tv, cv', wv, bs, hp', by rw [hag p hlt]; exact h2, keep h3 (by decide) (by decide), h4', h5, ⟨hown, fun k hk0 => ?_⟩, keep h7 (by decide) (by decide), fun i hi => ?_⟩, hkO⟩
 ·by_cases hk1 : k < w.heap.size
  ·exact Nat.lt_of_lt_of_le hk1 hk.size
  ·simp only [ow', hk1, if_false] at hk0
   split at hk0
   ·rename_i hx
    exact ownsRow_lt hown k hx
   ·exact absurd rfl hk0
 ·rcases hf k hk0 with hx | hx
  ·rw [hag k (ownsRow_lt h6.1 k hx)]; exact h6.2 k hx
  ·simp only [ow', show ¬ k < w.heap.size from by omega, if_false, hk0, if_true]
 ·refine (h8 i hi).kept hag (fun k hk1 e => ?_)
  refine same k hk1 (fun x => by subst x; omega) (fun x => ?_)
  have := h6.2 k x
  omega
theorem WSt.txn {ow : OwB} {p : Nat} {rl : List Row2} {cl : List Cl} {n : Nat} {tx : Nat → Tx} {wins : List Nat} {c : Int} {w w' : World} (h : WSt ow p rl cl n tx wins c w) (i : Nat) (t : Tx) (hi : i < n)
  (hb : ∀ k, ow k ≠ 0 → ow k ≠ i + 2 → w'.heap[k]? = w.heap[k]?) {ow' : OwB} (ha : Agree w ow ow') (hlt : ∀ k, ow' k ≠ 0 → k < w'.heap.size)
  (ht : ∀ b, TxAt ow (i + 2) w b (tx (i + 1)) → (∃ rv tv cv wv bs, w.heap[p]? = some (.cells #[rv, tv, cv, wv, .int .i64 c] 47 (0, 0)) ∧ w.ownsRow 0 149 1 tv n (txCells bs) ∧ bs.length = n ∧ bs.getD i 0 = b) → TxAt ow' (i + 2) w' b t) : WSt ow' p rl cl n (upd tx (i + 1) t) wins c w' := by
 obtain ⟨rv, tv, cv, wv, bs, h1, h2, h3, h4, h5, h6, h7, h8⟩ := h.body
 have hb1 : ∀ k, k < w.heap.size → ow k = 1 → w'.heap[k]? = w.heap[k]? := fun k _ e => hb k (by omega) (by omega)
 have hpl := lt_of_block h1
 have h1' : w'.heap[p]? = some (.cells #[rv, tv, cv, wv, .int .i64 c] 47 (0, 0)) := by rw [hb p (by omega) (by omega)]; exact h1
 have h4' := h4.kept ha hb1
 refine ⟨hlt, FixT.mk h1' h4'.1 ((h.fix _ _ _ _ _ _ h1 h4.1 h5).trans ha.bs.symm), rv, tv, cv, wv, bs, h1', by rw [ha p hpl]; exact h2, h3.kept ha hb1, h4', h5, h6.kept ha hb1, h7.kept ha hb1, fun j hj => ?_⟩
 by_cases e : j = i
 ·subst e
  rw [upd_same]
  exact ht _ (h8 j hj) ⟨rv, tv, cv, wv, bs, h1, h4.1, h5, rfl⟩
 ·rw [upd_other _ _ _ _ (by omega)]
  exact (h8 j hj).kept ha (fun k _ ek => hb k (by omega) (by omega))
theorem txCells_at {bs : List Nat} {i : Nat} (h : i < bs.length) : (txCells bs)[i]? = some (.pointer (some ⟨bs.getD i 0, 0, none⟩)) := by
 simp [txCells, List.getD, h]
theorem WSt.find {ow : OwB} {p : Nat} {rl : List Row2} {cl : List Cl} {n : Nat} {tx : Nat → Tx} {wins : List Nat} {c : Int} {w : World} (h : WSt ow p rl cl n tx wins c w) {i : Nat} (hi : i < n) :
  ∃ g cap b, w.cell? ⟨p, 1, none⟩ = some (.slice (some ⟨g, 0, none⟩) n cap) ∧ w.cell? ⟨g, i, none⟩ = some (.pointer (some ⟨b, 0, none⟩)) ∧ TxAt ow (i + 2) w b (tx (i + 1)) ∧ (∀ rv tv cv wv bs, w.heap[p]? = some (.cells #[rv, tv, cv, wv, .int .i64 c] 47 (0, 0)) → w.ownsRow 0 149 1 tv n (txCells bs) → bs.length = n → bs.getD i 0 = b) := by
 obtain ⟨rv, tv, cv, wv, bs, h1, h2, h3, h4, h5, h6, h7, h8⟩ := h.body
 rcases h4.1.2 with ⟨_, h0⟩ | ⟨g, cap, cur, rfl, _⟩
 ·omega
 ·have at' : ∀ (bs' : List Nat), w.ownsRow 0 149 1 (.slice (some ⟨g, 0, none⟩) n cap) n (txCells bs') → bs'.length = n → w.cell? ⟨g, i, none⟩ = some (.pointer (some ⟨bs'.getD i 0, 0, none⟩)) := fun bs' ho hl => by
   have := ho.cells (g := g) rfl i _ (txCells_at (by omega))
   simpa [Addr.add_lit] using this
  refine ⟨g, cap, bs.getD i 0, by rw [cell_at h1]; rfl, at' bs h4.1 h5, h8 i hi, fun rv' tv' cv' wv' bs' q1 q2 q3 => ?_⟩
  rw [h1] at q1
  simp only [Option.some.injEq, Obj.cells.injEq, Array.mk.injEq, List.cons.injEq, and_true] at q1
  obtain ⟨_, rfl, _⟩ := q1
  have e1 := at' bs h4.1 h5
  have e2 := at' bs' q2 q3
  rw [e1] at e2
  simp only [Option.some.injEq, Value.pointer.injEq, Addr.mk.injEq, and_true] at e2
  exact e2.symm
def Tx.arr (t : Tx) (r : Nat) (rd ov uv : Value) : Array Value := #[.int .i64 t.stamp, .int .i64 t.state, .int .i64 (t.next : Nat), .bool t.wounded, .bool t.waits.isSome, .int .i64 t.agains, .slice (some ⟨r, 0, none⟩) 4 4, rd, ov, uv]
theorem TxAt.block {ow : OwB} {tag : Nat} {w : World} {b : Nat} {t : Tx} (h : TxAt ow tag w b t) : ∃ cs, w.heap[b]? = some (.cells cs 152 (0, 0)) ∧ ow b = tag := by
 obtain ⟨r, rd, ov, uv, h1, h2, _⟩ := h
 exact ⟨_, h1, h2⟩
theorem TxAt.set {ow : OwB} {tag : Nat} {w : World} {b : Nat} {t t' : Tx} {j : Nat} {v : Value} (h : TxAt ow tag w b t) (hr : t'.regs = t.regs) (hd : t'.reads = t.reads) (ho : t'.ops = t.ops) (hu : t'.undo = t.undo)
  (hc : ∀ r rd ov uv, (t.arr r rd ov uv).setIfInBounds j v = t'.arr r rd ov uv) : TxAt ow tag (w.setCell ⟨b, j, none⟩ v) b t' := by
 obtain ⟨r, rd, ov, uv, h1, h2, h3, h4, h5, h6, h7⟩ := h
 have hk := Kept.set1 w b j v
 have ap : ∀ {e : TypeId} {size : Nat} {x : Value} {m : Nat} {cs : List Value}, Owns ow tag w e size x m cs → e ≠ 152 → Owns ow tag (w.setCell ⟨b, j, none⟩ v) e size x m cs := fun ho he =>
  ⟨ownsRow_kept ho.1 hk (fun k hk' e => by
   obtain ⟨cur, hcur⟩ := ownsRow_block ho.1 hk'
   exact blocks_apart hcur h1 he e), ho.2⟩
 refine ⟨r, rd, ov, uv, ?_, h2, ?_, h4, ?_, ?_, ?_⟩
 ·rw [block_setCell h1]
  have := hc r rd ov uv
  simp only [Tx.arr] at this
  rw [this]
 ·rw [hr]; exact hk.heap h3 (fun e => blocks_apart h3 h1 (by decide) e)
 ·rw [hd]; exact ap h5 (by decide)
 ·rw [ho]; exact ap h6 (by decide)
 ·rw [hu]; exact ap h7 (by decide)
theorem WSt.setTxn {ow : OwB} {p : Nat} {rl : List Row2} {cl : List Cl} {n : Nat} {tx : Nat → Tx} {wins : List Nat} {c : Int} {w : World} (h : WSt ow p rl cl n tx wins c w) {i b : Nat} (hi : i < n) (hT : TxAt ow (i + 2) w b (tx (i + 1)))
  (hb : ∀ rv tv cv wv bs, w.heap[p]? = some (.cells #[rv, tv, cv, wv, .int .i64 c] 47 (0, 0)) → w.ownsRow 0 149 1 tv n (txCells bs) → bs.length = n → bs.getD i 0 = b)
  {t' : Tx} {j : Nat} {v : Value} (hr : t'.regs = (tx (i + 1)).regs) (hd : t'.reads = (tx (i + 1)).reads) (ho : t'.ops = (tx (i + 1)).ops) (hu : t'.undo = (tx (i + 1)).undo)
  (hc : ∀ r rd ov uv, ((tx (i + 1)).arr r rd ov uv).setIfInBounds j v = t'.arr r rd ov uv) : WSt ow p rl cl n (upd tx (i + 1) t') wins c (w.setCell ⟨b, j, none⟩ v) ∧ Kept (Own ow) w (w.setCell ⟨b, j, none⟩ v) := by
 obtain ⟨cs, hB, hO⟩ := hT.block
 have hk := Kept.set1 w b j v
 refine ⟨h.txn i t' hi (fun k h1 h2 => hk.block k (h.lt k h1) (fun e => h2 (by rw [show k = b from e]; exact hO))) (Agree.refl _ _) (fun k hk0 => Nat.lt_of_lt_of_le (h.lt k hk0) hk.size) (fun b' hT' ⟨rv, tv, cv, wv, bs, q1, q2, q3, q4⟩ => ?_), hk.mono (fun k e => by rw [show k = b from e]; unfold Own; omega)⟩
 have := hb rv tv cv wv bs q1 q2 q3
 rw [q4] at this
 subst this
 exact hT.set hr hd ho hu hc
theorem WSt.findB {ow : OwB} {p : Nat} {rl : List Row2} {cl : List Cl} {n : Nat} {tx : Nat → Tx} {wins : List Nat} {c : Int} {w : World} (h : WSt ow p rl cl n tx wins c w) {i : Nat} (hi : i < n) :
  ∃ g cap, w.cell? ⟨p, 1, none⟩ = some (.slice (some ⟨g, 0, none⟩) n cap) ∧ w.cell? ⟨g, i, none⟩ = some (.pointer (some ⟨ow.bs.getD i 0, 0, none⟩)) ∧ TxAt ow (i + 2) w (ow.bs.getD i 0) (tx (i + 1)) ∧ (∀ rv tv cv wv bs, w.heap[p]? = some (.cells #[rv, tv, cv, wv, .int .i64 c] 47 (0, 0)) → w.ownsRow 0 149 1 tv n (txCells bs) → bs.length = n → bs.getD i 0 = ow.bs.getD i 0) := by
 obtain ⟨g, cap, b, f1, f2, f3, f4⟩ := h.find hi
 obtain ⟨rv, tv, cv, wv, bs, h1, h2, h3, h4, h5, _⟩ := h.body
 have e1 := f4 rv tv cv wv bs h1 h4.1 h5
 have e2 := h.fix _ _ _ _ _ _ h1 h4.1 h5
 rw [e2] at e1
 rw [e1]
 exact ⟨g, cap, f1, f2, f3, f4⟩
end Go.Proofs.YtmcajfefagdbnaaGreat
namespace Go.Proofs.YtmcajfefagdbnaaGreat
open Go Go.RowKit
theorem mem_range1 {i n : Nat} : i ∈ List.range' 1 n ↔ 1 ≤ i ∧ i ≤ n := by rw [List.mem_range'_1]; omega
theorem alive_admit {s : St} (l : List Op4) : alive (s.admit l) = alive s + 1 := by
 unfold alive
 show (((List.range' 1 (s.n + 1)).filter fun i => ((upd s.tx (s.n + 1) _) i).state == 0).length) = _
 rw [List.range'_concat, List.filter_append, List.length_append]
 congr 1
 ·congr 1
  apply List.filter_congr
  intro i hi
  rw [mem_range1] at hi
  rw [upd_other _ _ _ _ (by omega)]
 ·simp [upd, Nat.add_comm]
theorem admit_tx (s : St) (l : List Op4) {i : Nat} (h : i ≠ s.n + 1) : (s.admit l).tx i = s.tx i := upd_other _ _ _ _ h
theorem Inv.admit {s : St} (hs : Inv s) (l : List Op4) : Inv (s.admit l) := by
 have hh : ∀ k j, (s.lk k).h j ≠ 0 → j ≠ s.n + 1 := fun k j hj => by have := (hs.row k).hold j hj; omega
 have hq : ∀ k j m, (j, m) ∈ (s.lk k).q → j ≠ s.n + 1 := fun k j m hj => by have := ((hs.row k).qmode _ hj).1; simp only at this; omega
 have hnew : (s.admit l).tx (s.n + 1) = ⟨s.clock + 1, 0, l, 0, false, none, 0, fun _ => 0, [], []⟩ := upd_same _ _ _
 refine ⟨fun k => ?_, fun k => ?_, fun k j hj => ?_, fun k j m hj => ?_, fun k j m hj => ?_, fun j k hj => ?_, fun i j h1 h2 h3 => ?_, fun j h1 h2 => ?_, fun j h1 => ?_, hs.actOnce, fun k => ?_⟩
 ·refine (hs.row k).mono (Nat.le_succ _) (fun j i h1 h2 he => ?_)
  have hj : j ≠ s.n + 1 := h1.elim (hh k j) (fun ⟨m, hm⟩ => hq k j m hm)
  obtain ⟨m, hm⟩ := h2
  unfold Elder at he ⊢
  rw [admit_tx s l hj, admit_tx s l (hq k i m hm)]
  exact he
 ·intro i m q e
  have := hs.still k i m q e
  rw [hind_true] at this ⊢
  obtain ⟨j, h1, h2⟩ := this
  exact ⟨j, Nat.le_succ_of_le h1, h2⟩
 ·rw [admit_tx s l (hh k j hj)]; exact hs.holds k j hj
 ·rw [admit_tx s l (hq k j m hj)]; exact hs.queue k j m hj
 ·rw [admit_tx s l (hq k j m hj)]; exact hs.asks k j m hj
 ·by_cases e : j = s.n + 1
  ·subst e; rw [hnew] at hj; cases hj
  ·rw [admit_tx s l e] at hj; exact hs.waits j k hj
 ·have h3' : j ≤ s.n + 1 := h3
  rw [admit_tx s l (show i ≠ s.n + 1 by omega)]
  by_cases e : j = s.n + 1
  ·subst e; rw [hnew]
   have := hs.late i h1 (by omega)
   show (s.tx i).stamp < s.clock + 1
   omega
  ·rw [admit_tx s l e]; exact hs.age i j h1 h2 (by omega)
 ·have h2' : j ≤ s.n + 1 := h2
  show _ ≤ s.clock + 1
  by_cases e : j = s.n + 1
  ·subst e; rw [hnew]; exact Int.le_refl _
  ·rw [admit_tx s l e]; have := hs.late j h1 (by omega); omega
 ·have h1' : s.n + 1 < j := h1
  rw [admit_tx s l (by omega)]; exact hs.later j (by omega)
 ·show k ∈ s.act ↔ (s.lk k).live (s.n + 1) = true
  rw [hs.act k, live_iff, live_iff]
  constructor
  ·rintro (h | ⟨j, h1, h2⟩)
   ·exact .inl h
   ·exact .inr ⟨j, Nat.le_succ_of_le h1, h2⟩
  ·rintro (h | ⟨j, h1, h2⟩)
   ·exact .inl h
   ·exact .inr ⟨j, ((hs.row k).hold j h2).2, h2⟩
end Go.Proofs.YtmcajfefagdbnaaGreat
namespace Go.Proofs.YtmcajfefagdbnaaGreat
theorem fell_n (s : St) (i : Nat) (z : Int) : (s.fell i z).n = s.n ∧ (s.fell i z).clock = s.clock := ⟨rfl, rfl⟩
theorem alive_fell {s : St} {i : Nat} (hl : Lives s i) (z : Int) (hz : z ≠ 0) : (alive (s.fell i z) : Int) = (alive s : Int) - 1 := by
 have hoth : ∀ j, j ≠ i → ((s.fell i z).tx j).state = (s.tx j).state := fun j hj => (base_eq (fell_oth s z hj).base).2.1
 unfold alive
 rw [(fell_n s i z).1]
 have := (filter_one (p := fun j => (s.tx j).state == 0) (q := fun j => ((s.fell i z).tx j).state == 0) (i := i) (by simp [hl.lives]) (by rw [(fell_self s i z).2.1]; simpa using hz) (List.range' 1 s.n) List.nodup_range' (fun j _ hj => by rw [hoth j hj])).1 (by rw [List.mem_range'_1]; have := hl.low; have := hl.high; omega)
 omega
theorem Good.fell {s : St} (h : Good s) (i : Nat) (z : Int) : Good (s.fell i z) := by
 refine ⟨h.inv.fell i z, fun j => ?_⟩
 by_cases e : j = i
 ·subst e; rw [(fell_self s j z).1]; exact Nat.zero_le _
 ·have hb := base_eq (fell_oth s z e).base
  rw [hb.2.2.2.1, hb.2.2.1]; exact h.fits j
end Go.Proofs.YtmcajfefagdbnaaGreat
