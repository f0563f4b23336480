import Derived.Test.YtmcajfefagdbnaaGreatLWInv
import Derived.Deep.RegionHeld3
import Derived.Deep.DrawnRows
import Derived.WalkSpells
namespace Go.Proofs.YtmcajfefagdbnaaGreat
open Go Go.RowKit

def opPads : List Value := [.int .i64 77, .int .i64 0, .int .i64 0, .int .i64 0, .int .i64 77, .int .i64 0, .int .i64 0, .int .i64 0, .int .i64 77, .int .i64 0, .int .i64 0, .int .i64 0, .int .i64 77, .int .i64 0, .int .i64 0, .int .i64 0]

theorem opPads_get (k : Nat) (hk : k < 4) : opPads[k * 4]? = some (.int .i64 77) ∧ opPads[k * 4 + 1]? = some (.int .i64 0) ∧ opPads[k * 4 + 2]? = some (.int .i64 0) ∧ opPads[k * 4 + 3]? = some (.int .i64 0) := by
  match k, hk with
  | 0, _ => exact ⟨rfl, rfl, rfl, rfl⟩
  | 1, _ => exact ⟨rfl, rfl, rfl, rfl⟩
  | 2, _ => exact ⟨rfl, rfl, rfl, rfl⟩
  | 3, _ => exact ⟨rfl, rfl, rfl, rfl⟩

theorem opCellsPads_get (l : List Op4) (k : Nat) (hk : k < 4) : (opCells l ++ opPads)[(l.length + k) * 4]? = some (.int .i64 77) ∧ (opCells l ++ opPads)[(l.length + k) * 4 + 1]? = some (.int .i64 0) ∧ (opCells l ++ opPads)[(l.length + k) * 4 + 2]? = some (.int .i64 0) ∧ (opCells l ++ opPads)[(l.length + k) * 4 + 3]? = some (.int .i64 0) := by
  have h := opPads_get k hk
  have hl := opCells_len l
  rw [List.getElem?_append_right (by omega), List.getElem?_append_right (by omega), List.getElem?_append_right (by omega), List.getElem?_append_right (by omega), hl]
  rw [show (l.length + k) * 4 - l.length * 4 = k * 4 from by omega, show (l.length + k) * 4 + 1 - l.length * 4 = k * 4 + 1 from by omega, show (l.length + k) * 4 + 2 - l.length * 4 = k * 4 + 2 from by omega, show (l.length + k) * 4 + 3 - l.length * 4 = k * 4 + 3 from by omega]
  exact h

theorem opCells_get (l : List Op4) (i : Nat) (h : i < l.length) : (opCells l)[i * 4]? = some (.int .i64 (l.getD i Op4.z).k) ∧ (opCells l)[i * 4 + 1]? = some (.int .i64 (l.getD i Op4.z).a) ∧ (opCells l)[i * 4 + 2]? = some (.int .i64 (l.getD i Op4.z).b) ∧ (opCells l)[i * 4 + 3]? = some (.int .i64 (l.getD i Op4.z).c) := by
  induction l generalizing i with
  | nil => simp at h
  | cons r l ih =>
    match i with
    | 0 => simp [opCells, Op4.cells]
    | i + 1 =>
      have := ih i (by simpa using h)
      have e : opCells (r :: l) = .int .i64 r.k :: .int .i64 r.a :: .int .i64 r.b :: .int .i64 r.c :: opCells l := by simp [opCells, Op4.cells]
      rw [e, show (i + 1) * 4 = i * 4 + 1 + 1 + 1 + 1 from by omega]
      simp only [List.getElem?_cons_succ, List.getD_cons_succ]
      exact this

theorem opPads_low (l : List Op4) (i : Nat) (h : i < l.length) : (opCells l ++ opPads)[i * 4]? = some (.int .i64 (l.getD i Op4.z).k) ∧ (opCells l ++ opPads)[i * 4 + 1]? = some (.int .i64 (l.getD i Op4.z).a) ∧ (opCells l ++ opPads)[i * 4 + 2]? = some (.int .i64 (l.getD i Op4.z).b) ∧ (opCells l ++ opPads)[i * 4 + 3]? = some (.int .i64 (l.getD i Op4.z).c) := by
  have hl := opCells_len l
  rw [List.getElem?_append_left (by omega), List.getElem?_append_left (by omega), List.getElem?_append_left (by omega), List.getElem?_append_left (by omega)]
  exact opCells_get l i h

theorem opsAt_given {w : World} {g : Nat} {l : List Op4} {t : TypeId} (h : w.heap[g]? = some (.cells (opCells l ++ opPads).toArray t (0, 0))) : OpsAt w g 0 l := fun i hi => by
  have := opPads_low l i hi
  rw [cell_at h, cell_at h, cell_at h, cell_at h, List.getElem?_toArray, List.getElem?_toArray, List.getElem?_toArray, List.getElem?_toArray, Nat.zero_add]
  exact this

/-- Four cells, one behind the other. -/
def set4 (cs : Array Value) (m : Nat) (a b c d : Value) : Array Value := (((cs.setIfInBounds m a).setIfInBounds (m + 1) b).setIfInBounds (m + 2) c).setIfInBounds (m + 3) d

theorem set4_size (cs : Array Value) (m : Nat) (a b c d : Value) : (set4 cs m a b c d).size = cs.size := by simp [set4]

theorem set4_pref {cs : Array Value} {L : List Value} {m : Nat} {a b c d : Value} (hsz : m + 4 ≤ cs.size) (h : ∀ j, j < m → cs[j]? = L[j]?) (e0 : L[m]? = some a) (e1 : L[m + 1]? = some b) (e2 : L[m + 2]? = some c) (e3 : L[m + 3]? = some d) :
    ∀ j, j < m + 4 → (set4 cs m a b c d)[j]? = L[j]? := by
  intro j hj
  unfold set4
  simp only [Array.getElem?_setIfInBounds, Array.size_setIfInBounds]
  by_cases h3 : m + 3 = j
  · subst h3; rw [if_pos rfl, if_pos (by omega), e3]
  rw [if_neg h3]
  by_cases h2 : m + 2 = j
  · subst h2; rw [if_pos rfl, if_pos (by omega), e2]
  rw [if_neg h2]
  by_cases h1 : m + 1 = j
  · subst h1; rw [if_pos rfl, if_pos (by omega), e1]
  rw [if_neg h1]
  by_cases h0 : m = j
  · subst h0; rw [if_pos rfl, if_pos (by omega), e0]
  rw [if_neg h0]
  exact h j (by omega)

theorem set4_behind {cs : Array Value} {L : List Value} {m : Nat} {a b c d : Value} (h : ∀ j, m ≤ j → cs[j]? = L[j]?) : ∀ j, m + 4 ≤ j → (set4 cs m a b c d)[j]? = L[j]? := by
  intro j hj
  unfold set4
  simp only [Array.getElem?_setIfInBounds]
  rw [if_neg (by omega), if_neg (by omega), if_neg (by omega), if_neg (by omega)]
  exact h j (by omega)

def setW4 (w : World) (g m : Nat) (a b c d : Value) : World := (((w.setCell ⟨g, m, none⟩ a).setCell ⟨g, m + 1, none⟩ b).setCell ⟨g, m + 2, none⟩ c).setCell ⟨g, m + 3, none⟩ d

theorem setW4_at {w : World} {g : Nat} {cs : Array Value} {t : TypeId} (h : w.heap[g]? = some (.cells cs t (0, 0))) (m : Nat) (a b c d : Value) : (setW4 w g m a b c d).heap[g]? = some (.cells (set4 cs m a b c d) t (0, 0)) :=
  block_setCell (block_setCell (block_setCell (block_setCell h a) b) c) d

theorem setW4_kept (w : World) (g m : Nat) (a b c d : Value) : Kept (Blk g) w (setW4 w g m a b c d) :=
  (((Kept.set1 w g m a).trans' (Kept.set1 _ g (m + 1) b)).trans' (Kept.set1 _ g (m + 2) c)).trans' (Kept.set1 _ g (m + 3) d)

def Disj (S T : Nat → Prop) : Prop := ∀ k, S k → ¬ T k

/-- A store of the program beside the document's. -/
structure QInv (x p q o : Nat) (S : Nat → Prop) (c : Int) (sts : List Int) (w : World) : Prop where
  lt : ∀ k, S k → k < w.heap.size
  body : ∃ Sp Sw, w.heap[x]? = some (.cells #[.pointer (some ⟨p, 0, none⟩), .pointer (some ⟨q, 0, none⟩), .pointer (some ⟨o, 0, none⟩)] 38 (0, 0)) ∧ S x ∧ ¬ Sp x ∧ ¬ Sw x ∧
    PInv Sp p c sts w ∧ WInv Sw q c sts w ∧ Disj Sp Sw ∧ (∀ k, Sp k → S k) ∧ (∀ k, Sw k → S k)

theorem QInv.kept {x p q o : Nat} {S S' : Nat → Prop} {c : Int} {sts : List Int} {w w' : World} (h : QInv x p q o S c sts w) (hk : Kept S' w w') (hd : Disj S S') : QInv x p q o S c sts w' := by
  obtain ⟨Sp, Sw, h1, h2, h3, h4, h5, h6, h7, h8, h9⟩ := h.body
  exact ⟨fun k hs => Nat.lt_of_lt_of_le (h.lt k hs) hk.size, Sp, Sw, hk.heap h1 (hd x h2), h2, h3, h4, h5.kept hk (fun k hs => hd k (h8 k hs)), h6.kept hk (fun k hs => hd k (h9 k hs)), h7, h8, h9⟩

set_option maxRecDepth 100000 in
set_option maxHeartbeats 6400000 in
theorem padmit_pair (x p q o n cp : Nat) (ao : Option Addr) (S : Nat → Prop) (c : Int) (sts : List Int) (l : List Op4) (w : World) (h : QInv x p q o S c sts w) (hn : l.length = n) (hl : n ≤ 1048576) (hin : OpsIn l) (ho : 0 < n → ∃ b off, ao = some ⟨b, off, none⟩ ∧ OpsAt w b off l ∧ ¬ S b) :
    Calls Tryz.prog 43 #[.pointer (some ⟨x, 0, none⟩), .slice ao n cp] w fun e w' => e = .returned (.bool true) ∧ Kept S w w' ∧ ∃ S', QInv x p q o S' (admClk l sts c) (admSts l sts c) w' ∧ ∀ k, S' k → S k ∨ w.heap.size ≤ k := by
  obtain ⟨Sp, Sw, h1, h2, h3, h4, h5, h6, h7, h8, h9⟩ := h.body
  obtain ⟨i0, hi0, hz0, hz1, hz2⟩ := info_parts infoOp
  have HS : Hid ((Tryz.prog.info? 114).map (·.size) = some 4) := by unfold Hid; rw [hi0]; simp [hz1]
  have HSRC : Hid (OpsSrc w (.slice ao n cp) l) := ⟨ao, cp, by rw [hn], fun h0 => by obtain ⟨b, off, e, hat, _⟩ := ho (by rw [← hn]; exact h0); exact ⟨b, off, e, hat⟩⟩
  have HX : Hid (FromMem (w.alloc (.cells (madeCells (Value.agg #[.int .i64 0, .int .i64 0, .int .i64 0, .int .i64 0]).cells ((n + 4) * 4)) 114)) 4 (.slice ao n cp) n (opCells l)) := by
    have := ((show OpsSrc w (.slice ao n cp) l from HSRC.out).kept ((Kept.refl NoBlk w).alloc (.cells (madeCells (Value.agg #[.int .i64 0, .int .i64 0, .int .i64 0, .int .i64 0]).cells ((n + 4) * 4)) 114)) (fun _ _ _ x => x)).mem
    rw [hn] at this
    exact this
  have HB : Hid (i0.bytes * (n + 4) ≤ 281474976710656) := by unfold Hid; rw [hz2]; omega
  have HM : Hid (n + 4 ≤ maxLen) := by unfold Hid maxLen; omega
  have HL : Hid ((opCells l).length = n * 4) := by unfold Hid; rw [opCells_len, hn]
  have HN : Hid _ := hn
  have HI : Hid (Tryz.prog.info? 114 = some i0 ∧ i0.zero = some (.agg #[.int .i64 0, .int .i64 0, .int .i64 0, .int .i64 0]) ∧ i0.size = 4) := ⟨hi0, hz0, hz1⟩
  have HQ : Hid (QInv x p q o S c sts w) := h
  have HOPS : Hid (0 < n → ∃ b off, ao = some ⟨b, off, none⟩ ∧ OpsAt w b off l ∧ ¬ S b) := ho
  have H1 : Hid _ := h1
  have H2 : Hid (S x ∧ ¬ Sp x ∧ ¬ Sw x) := ⟨h2, h3, h4⟩
  have H5 : Hid (PInv Sp p c sts w) := h5
  have H6 : Hid (WInv Sw q c sts w) := h6
  have H7 : Hid (Disj Sp Sw ∧ (∀ k, Sp k → S k) ∧ (∀ k, Sw k → S k)) := ⟨h7, h8, h9⟩
  have HIN : Hid (OpsIn l) := hin
  clear h h1 h2 h3 h4 h5 h6 h7 h8 h9 hi0 hz0 hz1 hz2 hn ho hin
  go_enter Tryz.func43, Tryz.ntmps43
  go_wp2_with (first
    | (at_make; refine wpList_make_at rfl _ _ 39 rfl 114 i0 _ 4 Tryz.underlying39 HI.out.1 HI.out.2.1 HI.out.2.2 .i64 .i64 _ _ (n + 4) (n + 4) rfl rfl (by omega) (by omega) (Nat.le_refl _) HB.out HM.out ?_)
    | (refine wpList_copy_at (by rfl) _ _ 39 39 (by rfl) 114 4 Tryz.underlying39 HS.out w.heap.size (n + 4) (n + 4) (by rfl) _ 114 (block_alloc_new w _) _ n (opCells l) (by rfl) HX.out (by omega) (by rw [size_madeCells, HL.out]; omega) ?_))
  intro w1 hg hk
  have hsz : ((opCells l ++ List.drop (opCells l).length (madeCells (Value.agg #[.int .i64 0, .int .i64 0, .int .i64 0, .int .i64 0]).cells ((n + 4) * 4)).toList)).toArray.size = (n + 4) * 4 := by
    simp only [List.size_toArray, List.length_append, List.length_drop, Array.length_toList, size_madeCells, HL.out]
    omega
  have h0 : ∀ j, j < (n + 0) * 4 → ((opCells l ++ List.drop (opCells l).length (madeCells (Value.agg #[.int .i64 0, .int .i64 0, .int .i64 0, .int .i64 0]).cells ((n + 4) * 4)).toList)).toArray[j]? = (opCells l ++ opPads)[j]? := fun j hj => by
    have := HL.out
    rw [List.getElem?_toArray, List.getElem?_append_left (by omega), List.getElem?_append_left (by omega)]
  have HK1 : Hid (Kept NoBlk w w1) := ((Kept.refl NoBlk w).alloc _).trans hk (fun i x => .inr (by cases x; exact Nat.le_refl _))
  have HG1 : Hid (∃ cs : Array Value, cs.size = (n + 4) * 4 ∧ w1.heap[w.heap.size]? = some (.cells cs 114 (0, 0)) ∧ ∀ j, j < (n + 0) * 4 → cs[j]? = (opCells l ++ opPads)[j]?) := ⟨_, hsz, hg, h0⟩
  clear hg hk hsz h0
  generalize hG : w.heap.size = g at HG1 ⊢
  have HGG : Hid _ := hG
  clear hG
  go_wp2_with fail
  go_loopw [6] (fun i wr => ∃ k : Nat, k ≤ 4 ∧ i = .int .i64 k ∧ Kept NoBlk w wr ∧ ∃ cs : Array Value, cs.size = (n + 4) * 4 ∧ wr.heap[g]? = some (.cells cs 114 (0, 0)) ∧ ∀ j, j < (n + k) * 4 → cs[j]? = (opCells l ++ opPads)[j]?) (fun i _ => 4 - (intOf i).toNat)
  case atStart => exact ⟨0, by omega, rfl, HK1.out, HG1.out⟩
  case round =>
    obtain ⟨k, hk, rfl, hkw, cs, hsz, hg, hpre⟩ := hrel
    by_cases hlt : k < 4
    · have hp := opCellsPads_get l k hlt
      rw [HN.out] at hp
      have HS2 : Hid (∀ j, j < (n + k) * 4 + 4 → (set4 cs ((n + k) * 4) (.int .i64 77) (.int .i64 0) (.int .i64 0) (.int .i64 0))[j]? = (opCells l ++ opPads)[j]?) := set4_pref (by omega) hpre hp.1 hp.2.1 hp.2.2.1 hp.2.2.2
      obtain ⟨y0, c0⟩ : ∃ y, wr.cell? ⟨g, (n + k) * 4, none⟩ = some y := ⟨cs[(n + k) * 4]'(by omega), by rw [cell_at hg]; exact Array.getElem?_eq_getElem _⟩
      obtain ⟨y1, c1⟩ : ∃ y, wr.cell? ⟨g, (n + k) * 4 + 1, none⟩ = some y := ⟨cs[(n + k) * 4 + 1]'(by omega), by rw [cell_at hg]; exact Array.getElem?_eq_getElem _⟩
      obtain ⟨y2, c2⟩ : ∃ y, wr.cell? ⟨g, (n + k) * 4 + 2, none⟩ = some y := ⟨cs[(n + k) * 4 + 2]'(by omega), by rw [cell_at hg]; exact Array.getElem?_eq_getElem _⟩
      obtain ⟨y3, c3⟩ : ∃ y, wr.cell? ⟨g, (n + k) * 4 + 3, none⟩ = some y := ⟨cs[(n + k) * 4 + 3]'(by omega), by rw [cell_at hg]; exact Array.getElem?_eq_getElem _⟩
      have hf : ∀ o, wr.frozen? ⟨g, o, none⟩ = false := fun o => frozen_at hg o
      have HG2 : Hid ((setW4 wr g ((n + k) * 4) (.int .i64 77) (.int .i64 0) (.int .i64 0) (.int .i64 0)).heap[g]? = some (.cells (set4 cs ((n + k) * 4) (.int .i64 77) (.int .i64 0) (.int .i64 0) (.int .i64 0)) 114 (0, 0))) := setW4_at hg _ _ _ _ _
      have HK2 : Hid (Kept NoBlk w (setW4 wr g ((n + k) * 4) (.int .i64 77) (.int .i64 0) (.int .i64 0) (.int .i64 0))) := hkw.trans (setW4_kept _ _ _ _ _ _ _) (fun i x => .inr (by cases x; exact Nat.le_of_eq HGG.out))
      have HZ : Hid (cs.size = (n + 4) * 4) := hsz
      clear hp hpre hg hkw hsz
      go_wp2_with fail
      go_roundw
      case rel => exact ⟨k + 1, by omega, by go_num, HK2.out, _, by rw [set4_size]; exact HZ.out, HG2.out, fun j hj => HS2.out j (by omega)⟩
      case measure => simp [intOf]; omega
    · obtain rfl : k = 4 := by omega
      have hcs : cs = (opCells l ++ opPads).toArray := by
        have := HL.out
        apply Array.ext'
        apply List.ext_getElem?
        intro j
        by_cases hj : j < (n + 4) * 4
        · rw [Array.getElem?_toList, hpre j hj]
        · rw [List.getElem?_eq_none (by simp; omega), List.getElem?_eq_none (by simp [opPads]; omega)]
      subst hcs
      have HG2 : Hid _ := hg
      have HK2 : Hid _ := hkw
      have hX2 := hkw.heap H1.out (fun x => x)
      have HX2 : Hid _ := hX2
      have x0 : wr.cell? ⟨x, 0, none⟩ = some (.pointer (some ⟨p, 0, none⟩)) := by rw [cell_at hX2]; rfl
      have i1 : (0 : Int) ≤ (n : Int) := by omega
      have i2 : (n : Int) ≤ ((n + 4 : Nat) : Int) := by omega
      have i3 : (n : Int) ≤ (n : Int) + 4 := by omega
      clear hpre hg hkw hsz hX2
      have hgw : w.heap.size ≤ g := Nat.le_of_eq HGG.out
      have hSg : ∀ k, S k → k < g := fun k hk => by have := HQ.out.lt k hk; have := HGG.out; omega
      have hP1 : PInv Sp p c sts wr := H5.out.kept HK2.out (fun _ _ x => x)
      have hW1 : WInv Sw q c sts wr := H6.out.kept HK2.out (fun _ _ x => x)
      have HPA : Hid (Calls Tryz.prog 36 #[.pointer (some ⟨p, 0, none⟩), .slice (some ⟨g, 0, none⟩) n (n + 4)] wr.drew fun e w' => e = .returned (.tuple #[.int .i64 (admNum l sts c), .int .i64 (admErr l sts.length c)]) ∧ Kept Sp wr.drew w' ∧
          ∃ S', PInv S' p (admClk l sts c) (admSts l sts c) w' ∧ ∀ k, S' k → Sp k ∨ wr.drew.heap.size ≤ k) := by
        have := padmit_inv Sp p g 0 (n + 4) c sts l wr.drew (hP1.of_same (Nat.le_refl _) (fun _ _ => rfl)) (opsAt_given (t := 114) HG2.out) (fun hs => by have := hSg g (H7.out.2.1 g hs); omega) (by rw [HN.out]; exact hl) HIN.out
        rw [HN.out] at this
        exact this
      have HW1 : Hid (WInv Sw q c sts wr) := hW1
      have HGW : Hid _ := hgw
      have HSG : Hid _ := hSg
      clear hP1 hW1 hgw hSg
      go_wp2_with fail
      go_region_held3 (fun w' => w'.cell? ⟨x, 0, none⟩ = some (.pointer (some ⟨p, 0, none⟩)))
        (first | exact hx2 | exact x0 | go_keep)
        (first
          | (go_at_call 36; refine HPA.out.mono ?_; rintro e w2 ⟨rfl, hk2, Sp', hP2, hS2⟩; have hx2 := hk2.cell (show wr.drew.cell? ⟨x, 0, none⟩ = some (.pointer (some ⟨p, 0, none⟩)) from x0) H2.out.2.1))
      have hsd : wr.drew.heap.size = wr.heap.size := rfl
      have hgr : g < wr.heap.size := lt_of_block HG2.out
      have hSg := HSG.out
      have hS2' : ∀ k, Sp' k → Sp k ∨ wr.heap.size ≤ k := hS2
      have hgp' : ¬ Sp' g := fun hs => by
        rcases hS2' g hs with h | h
        · have := hSg g (H7.out.2.1 g h); omega
        · omega
      have hxp' : ¬ Sp' x := fun hs => by
        rcases hS2' x hs with h | h
        · exact H2.out.2.1 h
        · have := hSg x H2.out.1; omega
      have hk2w : Kept Sp w w2 := (HK2.out.drew.mono (fun _ x => x.elim)).trans' hk2
      have hX3 := hk2.heap (show wr.drew.heap[x]? = _ from HX2.out) H2.out.2.1
      have x1 : w2.cell? ⟨x, 1, none⟩ = some (.pointer (some ⟨q, 0, none⟩)) := by rw [cell_at hX3]; rfl
      have hG3 := hk2.heap (show wr.drew.heap[g]? = _ from HG2.out) (fun hs => by have := hSg g (H7.out.2.1 g hs); omega)
      have hW2 : WInv Sw q c sts w2 := (HW1.out.of_same (w' := wr.drew) (Nat.le_refl _) (fun _ _ => rfl)).kept hk2 (fun k hw hp => H7.out.1 k hp hw)
      have hO2 : OpsSrc w2 (.slice ao n cp) l := (show OpsSrc w (.slice ao n cp) l from HSRC.out).kept hk2w (fun h0 b hb hs => by
        obtain ⟨b', off, e', _, hnb⟩ := HOPS.out (by rw [← HN.out]; exact h0)
        subst e'
        simp [Value.ownBlock] at hb
        subst hb
        exact hnb (H7.out.2.1 _ hs))
      have HWA : Hid (Calls Tryz.prog 77 #[.pointer (some ⟨q, 0, none⟩), .slice ao n cp] w2 fun e w' => e = .returned (.tuple #[.int .i64 (admNum l sts c), .int .i64 (admErr l sts.length c)]) ∧ Kept Sw w2 w' ∧
          ∃ S', WInv S' q (admClk l sts c) (admSts l sts c) w' ∧ ∀ k, S' k → Sw k ∨ w2.heap.size ≤ k) :=
        wadmit_inv Sw q (.slice ao n cp) c sts l w2 hW2 hO2 (fun h0 b hb hs => by
          obtain ⟨b', off, e', _, hnb⟩ := HOPS.out (by rw [← HN.out]; exact h0)
          subst e'
          simp [Value.ownBlock] at hb
          subst hb
          exact hnb (H7.out.2.2 _ hs)) (by rw [HN.out]; exact hl)
      have HP2 : Hid (PInv Sp' p (admClk l sts c) (admSts l sts c) w2) := hP2
      have HS2 : Hid (∀ k, Sp' k → Sp k ∨ wr.heap.size ≤ k) := hS2'
      have HNP : Hid (¬ Sp' g ∧ ¬ Sp' x) := ⟨hgp', hxp'⟩
      have HK2w : Hid _ := hk2w
      have HX3 : Hid _ := hX3
      have HG3 : Hid _ := hG3
      have HGR : Hid _ := hgr
      have HSZ2 : Hid (wr.heap.size ≤ w2.heap.size) := hk2.size
      clear hsd hgr hSg hS2' hgp' hxp' hk2w hX3 hG3 hW2 hO2 hP2 hS2 hk2 hx2 HPA HW1 x0
      generalize admNum l sts c = num at *
      generalize hER : admErr l sts.length c = er at *
      have HER : Hid _ := hER
      clear hER
      have en : (num == num) = true := by simp
      have ee : (er == er) = true := by simp
      go_wp2_with fail
      refine HWA.out.mono ?_
      rintro e w3 ⟨rfl, hk3, Sw', hW3, hS3⟩
      have hwg : ¬ Sw g := fun hs => by have := HSG.out g (H7.out.2.2 g hs); omega
      have hG4 := hk3.heap HG3.out hwg
      have hX4 := hk3.heap HX3.out H2.out.2.2
      have hxs := HSG.out x H2.out.1
      have hgrr := HGR.out
      have hz2 := HSZ2.out
      have hwg' : ¬ Sw' g := fun hs => by
        rcases hS3 g hs with h | h
        · exact hwg h
        · omega
      have hwx' : ¬ Sw' x := fun hs => by
        rcases hS3 x hs with h | h
        · exact H2.out.2.2 h
        · omega
      have hP3 : PInv Sp' p (admClk l sts c) (admSts l sts c) w3 := HP2.out.kept hk3 (fun k hp hw => by
        rcases HS2.out k hp with h | h
        · exact H7.out.1 k h hw
        · have := HSG.out k (H7.out.2.2 k hw); omega)
      have hdis : Disj Sp' Sw' := fun k hp hw => by
        rcases hS3 k hw with h | h
        · rcases HS2.out k hp with h' | h'
          · exact H7.out.1 k h' h
          · have := HSG.out k (H7.out.2.2 k h); omega
        · have := HP2.out.lt k hp; omega
      have hKws : Kept S w w3 := (HK2w.out.mono H7.out.2.1).trans (hk3.mono H7.out.2.2) (fun _ x => .inl x)
      have HKws : Hid _ := hKws
      have HG4 : Hid _ := hG4
      have HX4 : Hid _ := hX4
      have HW3 : Hid (WInv Sw' q (admClk l sts c) (admSts l sts c) w3) := hW3
      have HP3 : Hid (PInv Sp' p (admClk l sts c) (admSts l sts c) w3) := hP3
      have HDIS : Hid (Disj Sp' Sw') := hdis
      have HNW : Hid (¬ Sw' g ∧ ¬ Sw' x) := ⟨hwg', hwx'⟩
      have HS3 : Hid (∀ k, Sw' k → Sw k ∨ w2.heap.size ≤ k) := hS3
      have HSZ3 : Hid (w2.heap.size ≤ w3.heap.size) := hk3.size
      have HK3 : Hid (0 < n → ∃ b off, ao = some ⟨b, off, none⟩ ∧ OpsAt w3 b off l ∧ b ≠ g) := fun h0 => by
        obtain ⟨b, off, e', hat, hnb⟩ := HOPS.out h0
        refine ⟨b, off, e', hat.kept hKws hnb, fun e => ?_⟩
        have h1 := (hat 0 (by rw [HN.out]; exact h0)).1
        have hlt : b < w.heap.size := World.block_lt_of_cell? w _ h1
        have := HGG.out
        omega
      clear hwg hG4 hX4 hxs hgrr hz2 hwg' hwx' hP3 hdis hKws hW3 hS3 hk3 x1 HWA
      go_wp2_with fail
      go_loopw [11, 12] (fun b i wr => ∃ k : Nat, k ≤ n + 4 ∧ b = .bool true ∧ i = .int .i64 k ∧ Kept (Blk g) w3 wr ∧ ∃ cs : Array Value, cs.size = (n + 4) * 4 ∧ wr.heap[g]? = some (.cells cs 114 (0, 0)) ∧ ∀ j, k * 4 ≤ j → cs[j]? = (opCells l ++ opPads)[j]?) (fun _ i _ => n + 4 - (intOf i).toNat)
      case atStart => exact ⟨0, Nat.zero_le _, rfl, rfl, Kept.refl _ _, (opCells l ++ opPads).toArray, by have := opCells_len l; have := HN.out; simp [opPads]; omega, HG4.out, fun j _ => by rw [List.getElem?_toArray]⟩
      case round =>
        obtain ⟨k, hk, rfl, rfl, hkw, cs, hsz, hg, hpre⟩ := hrel
        by_cases hlt : k < n + 4
        · have hf : ∀ o, wr.frozen? ⟨g, o, none⟩ = false := fun o => frozen_at hg o
          have HGG2 : Hid ((setW4 wr g (k * 4) (.int .i64 5) (.int .i64 0) (.int .i64 0) (.int .i64 0)).heap[g]? = some (.cells (set4 cs (k * 4) (.int .i64 5) (.int .i64 0) (.int .i64 0) (.int .i64 0)) 114 (0, 0))) := setW4_at hg _ _ _ _ _
          have HKW0 : Hid _ := hkw
          have HSS2 : Hid (∀ j, k * 4 + 4 ≤ j → (set4 cs (k * 4) (.int .i64 5) (.int .i64 0) (.int .i64 0) (.int .i64 0))[j]? = (opCells l ++ opPads)[j]?) := set4_behind hpre
          have HZ : Hid (cs.size = (n + 4) * 4) := hsz
          have i0 : (0 : Int) ≤ (k : Int) := by omega
          have i1 : (k : Int) < (n : Int) + 4 := by omega
          have i1' : (k : Int) < ((n + 4 : Nat) : Int) := by omega
          by_cases hkn : k < n
          · obtain ⟨b, off, rfl, hat, hbg⟩ := HK3.out (by omega)
            obtain ⟨g0, g1, g2, g3⟩ := (hat.kept hkw hbg) k (by rw [HN.out]; exact hkn)
            have hp := opPads_low l k (by rw [HN.out]; exact hkn)
            have c0 : wr.cell? ⟨g, k * 4, none⟩ = some (.int .i64 (l.getD k Op4.z).k) := by rw [cell_at hg, hpre _ (Nat.le_refl _)]; exact hp.1
            have c1 : wr.cell? ⟨g, k * 4 + 1, none⟩ = some (.int .i64 (l.getD k Op4.z).a) := by rw [cell_at hg, hpre _ (by omega)]; exact hp.2.1
            have c2 : wr.cell? ⟨g, k * 4 + 2, none⟩ = some (.int .i64 (l.getD k Op4.z).b) := by rw [cell_at hg, hpre _ (by omega)]; exact hp.2.2.1
            have c3 : wr.cell? ⟨g, k * 4 + 3, none⟩ = some (.int .i64 (l.getD k Op4.z).c) := by rw [cell_at hg, hpre _ (by omega)]; exact hp.2.2.2
            have i2 : (k : Int) < (n : Int) := by omega
            clear hp hpre hg hkw hsz hat
            generalize l.getD k Op4.z = r at *
            have e1 : (r.k == r.k) = true := by simp
            have e2 : (r.a == r.a) = true := by simp
            have e3 : (r.b == r.b) = true := by simp
            have e4 : (r.c == r.c) = true := by simp
            go_wp2_with fail
            have i3 : decide (n ≤ k) = false := by simp; omega
            go_quiet (fail)
            go_wp2_with fail
            exact ⟨⟨k + 1, by omega, rfl, by go_num, (HKW0.out.drewN _).trans' (setW4_kept _ _ _ _ _ _ _), _, by rw [set4_size]; exact HZ.out, HGG2.out, fun j hj => HSS2.out j (by omega)⟩, by simp [intOf]; omega⟩
          · have hp := opCellsPads_get l (k - n) (by omega)
            rw [HN.out, show n + (k - n) = k from by omega] at hp
            have c0 : wr.cell? ⟨g, k * 4, none⟩ = some (.int .i64 77) := by rw [cell_at hg, hpre _ (Nat.le_refl _)]; exact hp.1
            have c1 : wr.cell? ⟨g, k * 4 + 1, none⟩ = some (.int .i64 0) := by rw [cell_at hg, hpre _ (by omega)]; exact hp.2.1
            have c2 : wr.cell? ⟨g, k * 4 + 2, none⟩ = some (.int .i64 0) := by rw [cell_at hg, hpre _ (by omega)]; exact hp.2.2.1
            have c3 : wr.cell? ⟨g, k * 4 + 3, none⟩ = some (.int .i64 0) := by rw [cell_at hg, hpre _ (by omega)]; exact hp.2.2.2
            clear hp hpre hg hkw hsz
            go_wp2_with fail
            have i2 : decide ((k : Int) < (n : Int)) = false := by simp; omega
            have i2' : decide (k < n) = false := by simp; omega
            have i3 : decide (n ≤ k) = true := by simp; omega
            go_quiet (fail)
            go_wp2_with fail
            exact ⟨⟨k + 1, by omega, rfl, by go_num, (HKW0.out.drewN _).trans' (setW4_kept _ _ _ _ _ _ _), _, by rw [set4_size]; exact HZ.out, HGG2.out, fun j hj => HSS2.out j (by omega)⟩, by simp [intOf]; omega⟩
        · have HKW : Hid _ := hkw
          clear hpre hg hkw hsz
          go_wp2_with fail
          go_ret
          have hP4 := HP3.out.kept HKW.out (fun k hp e => HNP.out.1 (by cases e; exact hp))
          have hW4 := HW3.out.kept HKW.out (fun k hp e => HNW.out.1 (by cases e; exact hp))
          have hxs := HSG.out x H2.out.1
          have hX5 := HKW.out.heap HX4.out (fun e => by unfold Blk at e; omega)
          refine ⟨rfl, HKws.out.trans HKW.out (fun i x => .inr (by cases x; exact HGW.out)), fun k => k = x ∨ Sp' k ∨ Sw' k, ⟨?_, Sp', Sw', hX5, .inl rfl, HNP.out.2, HNW.out.2, hP4, hW4, HDIS.out, fun k hk => .inr (.inl hk), fun k hk => .inr (.inr hk)⟩, ?_⟩
          · intro k hk
            rcases hk with rfl | hk | hk
            · exact lt_of_block hX5
            · exact hP4.lt k hk
            · exact hW4.lt k hk
          · intro k hk
            have hgw := HGW.out
            have hgr := HGR.out
            have hz2 := HSZ2.out
            rcases hk with rfl | hk | hk
            · exact .inl H2.out.1
            · rcases HS2.out k hk with h | h
              · exact .inl (H7.out.2.1 k h)
              · right; omega
            · rcases HS3.out k hk with h | h
              · exact .inl (H7.out.2.2 k h)
              · right; omega
end Go.Proofs.YtmcajfefagdbnaaGreat
