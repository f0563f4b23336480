import Derived.Test.YtmcajfefagdbnaaGreatJ06
import Derived.Test.YtmcajfefagdbnaaGreatJ19
import Derived.Deep.AppendLies
namespace Go.Proofs.YtmcajfefagdbnaaGreat
open Go Go.RowKit

/-- A slice literal. -/
theorem from_new (w : World) (cs : List Value) (ty : TypeId) (size n : Nat) (hn : cs.length = n * size) (h1 : ∀ u ∈ cs, u.oneCell' = true) : FromMem (w.alloc (.cells cs.toArray ty)) size (.slice (some ⟨w.heap.size, 0, none⟩) n n) n cs := by
  refine ⟨⟨_, n, rfl, fun h => by simp at h, ?_⟩, hn, h1⟩
  intro ad had j u hu
  obtain rfl := Option.some.inj had
  rw [Addr.add_lit, cell_at (block_alloc_new w _)]
  simpa using hu

theorem infoLI : (Tryz.prog.info? 45).map (fun i => (i.zero, i.size, i.bytes)) = some (some (.slice none 0 0), 1, 24) := by kernel_rfl
theorem infoLS : (Tryz.prog.info? 61).map (fun i => (i.zero, i.size, i.bytes)) = some (some (.slice none 0 0), 1, 24) := by kernel_rfl

/-- The mark of the k-th four lists. -/
def mark (N : Nat) : Int := -1000 - (N / 4 : Nat)

theorem set_marks (xs : List Value) (k : Nat) (u : Value) (hk : k < xs.length) : (List.replicate k u ++ xs.drop k).set k u = List.replicate (k + 1) u ++ xs.drop (k + 1) := by
  rw [List.set_append, if_neg (by simp), List.length_replicate, Nat.sub_self, List.drop_eq_getElem_cons hk, List.set_cons_zero, List.replicate_succ']
  simp

theorem Moved.grew {w w' : World} {v v' : Value} {need : Nat} (h : Moved w w' v v' need) (hc : capOf v < need) : v'.ownBlock = some w.heap.size ∧ Kept NoBlk w w' := by
  rcases h with ⟨_, _, hr, _⟩ | ⟨_, ho, hk⟩
  · omega
  · exact ⟨ho, hk⟩

set_option maxRecDepth 100000 in
set_option maxHeartbeats 3200000 in
theorem takeInts_any (o n N : Nat) (ao : Option Addr) (xs vs : List Value) (iv v1 v2 v3 : Value) (w : World) (hN : N ≤ 16777216) (hn : n ≤ 1048576)
    (ho : w.heap[o]? = some (.cells #[iv, v1, v2, v3] 30 (0, 0))) (hv : w.ownsRow 0 3 1 (.slice ao n n) n xs) (hiv : w.ownsRow 0 45 1 iv N vs) :
    Calls Tryz.prog 48 #[.pointer (some ⟨o, 0, none⟩), .slice ao n n] w fun e w' => e = .returned (.tuple #[]) ∧
      ∃ iv' a1 c1 a2 c2 a3 c3, w'.heap[o]? = some (.cells #[iv', v1, v2, v3] 30 (0, 0)) ∧
        w'.ownsRow 0 45 1 iv' (N + 4) (vs ++ [.slice ao n n, .slice a1 (n + 1) c1, .slice a2 (n + 2) c2, .slice a3 (n + 3) c3]) ∧
        w'.ownsRow 0 3 1 (.slice ao n n) n (List.replicate n (.int .i64 (mark N))) ∧ w'.ownsRow 0 3 1 (.slice a1 (n + 1) c1) (n + 1) (List.replicate (n + 1) (.int .i64 (mark N))) ∧
        w'.ownsRow 0 3 1 (.slice a2 (n + 2) c2) (n + 2) (List.replicate (n + 2) (.int .i64 (mark N))) ∧ w'.ownsRow 0 3 1 (.slice a3 (n + 3) c3) (n + 3) (List.replicate (n + 3) (.int .i64 (mark N))) ∧
        (∀ k, (Value.slice a1 (n + 1) c1).ownBlock = some k ∨ (Value.slice a2 (n + 2) c2).ownBlock = some k ∨ (Value.slice a3 (n + 3) c3).ownBlock = some k → w.heap.size ≤ k) ∧ (∀ k, iv'.ownBlock = some k → iv.ownBlock = some k ∨ w.heap.size ≤ k) ∧
        Kept (fun k => k = o ∨ iv.ownBlock = some k ∨ (Value.slice ao n n).ownBlock = some k) w w' := by
  have c0 : w.cell? ⟨o, 0, none⟩ = some iv := by rw [cell_at ho]; rfl
  obtain ⟨ia, ic, rfl⟩ := ownsRow_form hiv
  have HO : Hid _ := ho
  have HV : Hid (w.ownsRow 0 3 1 (.slice ao n n) n xs) := hv
  have HI : Hid (w.ownsRow 0 45 1 (.slice ia N ic) N vs) := hiv
  clear ho hv hiv
  go_enter Tryz.func48, Tryz.ntmps48
  go_wp2_with fail
  generalize hm : (-1000 - (N : Int) / 4) = mk at *
  have HM : Hid _ := hm
  clear hm c0
  go_loopw [5] (fun i wr => ∃ k : Nat, k ≤ n ∧ i = .int .i64 k ∧ Kept (fun b => (Value.slice ao n n).ownBlock = some b) w wr ∧ wr.ownsRow 0 3 1 (.slice ao n n) n (List.replicate k (.int .i64 mk) ++ xs.drop k)) (fun i _ => n - (intOf i).toNat)
  case atStart => exact ⟨0, Nat.zero_le _, rfl, Kept.refl _ _, HV.out⟩
  case round =>
    obtain ⟨k, hk, rfl, hkw, hwr'⟩ := hrel
    have hwr : wr.ownsRow 0 3 1 (.slice ao n n) n (List.replicate k (.int .i64 mk) ++ xs.drop k) := hwr'
    clear hwr'
    have hxl : xs.length = n := by have := HV.out.1; omega
    by_cases hlt : k < n
    · obtain ⟨g, cap, hform, _, _⟩ := hwr.form (by omega)
      simp only [Value.slice.injEq] at hform
      obtain ⟨rfl, _, rfl⟩ := hform
      have hst := hwr.stored k (.int .i64 mk)
      have hcell := hwr.cellAt k (by omega)
      have hfz := hwr.frozenAt k
      obtain ⟨y, hy⟩ : ∃ y, wr.cell? ⟨g, k, none⟩ = some y := by
        rw [hcell]
        exact ⟨_, List.getElem?_eq_getElem (by rw [hwr.1]; omega)⟩
      have HST : Hid _ := hst
      have HKW : Hid _ := hkw
      clear hst hcell hwr hkw
      go_wp2_with fail
      go_roundw
      case rel =>
        refine ⟨k + 1, by omega, by go_num, HKW.out.setCell (p := ⟨g, k, none⟩) (.inl rfl) _, ?_⟩
        rw [← set_marks xs k (.int .i64 mk) (by omega)]
        exact HST.out.1
      case measure => simp [intOf]; omega
    · obtain rfl : k = n := by omega
      rw [List.drop_of_length_le (by omega), List.append_nil] at hwr
      have HW : Hid (wr.ownsRow 0 3 1 (.slice ao k k) k (List.replicate k (.int .i64 mk))) := hwr
      have HKW : Hid _ := hkw
      clear hwr hkw
      obtain ⟨i0, hi0, hz0, hz1, hz2⟩ := info_parts infoInt
      have HI0 : Hid (Tryz.prog.info? 3 = some i0 ∧ i0.zero = some (.int .i64 0) ∧ i0.size = 1 ∧ i0.bytes = 8) := ⟨hi0, hz0, hz1, hz2⟩
      clear hi0 hz0 hz1 hz2
      have HKW0 : Hid (Kept (fun b => (Value.slice ao k k).ownBlock = some b) w wr) := HKW.out
      have HW0 : Hid (wr.ownsRow 0 3 1 (.slice ao k k) k (List.replicate k (.int .i64 mk))) := HW.out
      have HB1 : Hid ((k + 1) * 8 ≤ 140737488355328) := by unfold Hid; omega
      have HM1 : Hid (k + 1 ≤ maxLen) := by unfold Hid maxLen; omega
      go_wp2_with (at_builtin; refine wpList_append_at (by rfl) _ _ 45 (by rfl) 3 i0 _ 1 8 Tryz.underlying45 HI0.out.1 HI0.out.2.1 HI0.out.2.2.1 HI0.out.2.2.2 (by rfl) (.slice ao k k) k (List.replicate k (.int .i64 mk)) (by rfl) (ownsRow_kept HW0.out ((Kept.refl NoBlk wr).alloc _) (fun _ _ x => x)) (.slice (some ⟨wr.heap.size, 0, none⟩) 1 1) 1 [.int .i64 mk] (by rfl) (from_new wr [.int .i64 mk] _ 1 1 (by rfl) (by simp [Value.oneCell'])) HM1.out HB1.out ?_)
      intro a1 c1 W1 hown1 hmv1
      obtain ⟨hb1, hk1⟩ := hmv1.grew (by simp [capOf])
      have hK1 : Kept NoBlk wr W1 := ((Kept.refl NoBlk wr).alloc _).trans' hk1
      have HW1 : Hid (W1.ownsRow 0 3 1 (.slice ao k k) k (List.replicate k (.int .i64 mk))) := ownsRow_kept HW0.out hK1 (fun _ _ x => x)
      have HX1 : Hid (W1.ownsRow 0 3 1 (.slice a1 (k + 1) c1) (k + 1) (List.replicate (k + 1) (.int .i64 mk))) := by
        have e : List.replicate k (Value.int .i64 mk) ++ [.int .i64 mk] = List.replicate (k + 1) (.int .i64 mk) := by rw [← List.replicate_append_replicate]; rfl
        rw [← e]
        exact hown1
      have HF1 : Hid (∀ b, (Value.slice a1 (k + 1) c1).ownBlock = some b → w.heap.size ≤ b) := by
        intro b hb
        rw [hb] at hb1
        cases hb1
        have := HKW0.out.size
        have := ((Kept.refl NoBlk wr).alloc (.cells #[.int .i64 mk] 3)).size
        exact Nat.le_trans ‹_› ‹_›
      have HKW1 : Hid (Kept (fun b => (Value.slice ao k k).ownBlock = some b) w W1) := HKW0.out.trans hK1 (fun _ x => x.elim)
      clear hown1 hmv1 hb1 hk1 hK1
      have HB2 : Hid ((k + 2) * 8 ≤ 140737488355328) := by unfold Hid; omega
      have HM2 : Hid (k + 2 ≤ maxLen) := by unfold Hid maxLen; omega
      go_wp2_with (at_builtin; refine wpList_append_at (by rfl) _ _ 45 (by rfl) 3 i0 _ 1 8 Tryz.underlying45 HI0.out.1 HI0.out.2.1 HI0.out.2.2.1 HI0.out.2.2.2 (by rfl) (.slice ao k k) k (List.replicate k (.int .i64 mk)) (by rfl) (ownsRow_kept HW1.out ((Kept.refl NoBlk W1).alloc _) (fun _ _ x => x)) (.slice (some ⟨W1.heap.size, 0, none⟩) 2 2) 2 [.int .i64 mk, .int .i64 mk] (by rfl) (from_new W1 [.int .i64 mk, .int .i64 mk] _ 1 2 (by rfl) (by simp [Value.oneCell'])) HM2.out HB2.out ?_)
      intro a2 c2 W2 hown2 hmv2
      obtain ⟨hb2, hk2⟩ := hmv2.grew (by simp [capOf])
      have hK2 : Kept NoBlk W1 W2 := ((Kept.refl NoBlk W1).alloc _).trans' hk2
      have HW2 : Hid (W2.ownsRow 0 3 1 (.slice ao k k) k (List.replicate k (.int .i64 mk))) := ownsRow_kept HW1.out hK2 (fun _ _ x => x)
      have HX2 : Hid (W2.ownsRow 0 3 1 (.slice a2 (k + 2) c2) (k + 2) (List.replicate (k + 2) (.int .i64 mk))) := by
        have e : List.replicate k (Value.int .i64 mk) ++ [.int .i64 mk, .int .i64 mk] = List.replicate (k + 2) (.int .i64 mk) := by rw [← List.replicate_append_replicate]; rfl
        rw [← e]
        exact hown2
      have HF2 : Hid (∀ b, (Value.slice a2 (k + 2) c2).ownBlock = some b → w.heap.size ≤ b) := by
        intro b hb
        rw [hb] at hb2
        cases hb2
        have := HKW1.out.size
        have := ((Kept.refl NoBlk W1).alloc (.cells #[.int .i64 mk, .int .i64 mk] 3)).size
        exact Nat.le_trans ‹_› ‹_›
      have HKW2 : Hid (Kept (fun b => (Value.slice ao k k).ownBlock = some b) w W2) := HKW1.out.trans hK2 (fun _ x => x.elim)
      have HX1' : Hid (W2.ownsRow 0 3 1 (.slice a1 (k + 1) c1) (k + 1) (List.replicate (k + 1) (.int .i64 mk))) := ownsRow_kept HX1.out hK2 (fun _ _ x => x)
      clear hown2 hmv2 hb2 hk2 hK2
      have HB3 : Hid ((k + 3) * 8 ≤ 140737488355328) := by unfold Hid; omega
      have HM3 : Hid (k + 3 ≤ maxLen) := by unfold Hid maxLen; omega
      go_wp2_with (at_builtin; refine wpList_append_at (by rfl) _ _ 45 (by rfl) 3 i0 _ 1 8 Tryz.underlying45 HI0.out.1 HI0.out.2.1 HI0.out.2.2.1 HI0.out.2.2.2 (by rfl) (.slice ao k k) k (List.replicate k (.int .i64 mk)) (by rfl) (ownsRow_kept HW2.out ((Kept.refl NoBlk W2).alloc _) (fun _ _ x => x)) (.slice (some ⟨W2.heap.size, 0, none⟩) 3 3) 3 [.int .i64 mk, .int .i64 mk, .int .i64 mk] (by rfl) (from_new W2 [.int .i64 mk, .int .i64 mk, .int .i64 mk] _ 1 3 (by rfl) (by simp [Value.oneCell'])) HM3.out HB3.out ?_)
      intro a3 c3 W3 hown3 hmv3
      obtain ⟨hb3, hk3⟩ := hmv3.grew (by simp [capOf])
      have hK3 : Kept NoBlk W2 W3 := ((Kept.refl NoBlk W2).alloc _).trans' hk3
      have HW3 : Hid (W3.ownsRow 0 3 1 (.slice ao k k) k (List.replicate k (.int .i64 mk))) := ownsRow_kept HW2.out hK3 (fun _ _ x => x)
      have HX3 : Hid (W3.ownsRow 0 3 1 (.slice a3 (k + 3) c3) (k + 3) (List.replicate (k + 3) (.int .i64 mk))) := by
        have e : List.replicate k (Value.int .i64 mk) ++ [.int .i64 mk, .int .i64 mk, .int .i64 mk] = List.replicate (k + 3) (.int .i64 mk) := by rw [← List.replicate_append_replicate]; rfl
        rw [← e]
        exact hown3
      have HF3 : Hid (∀ b, (Value.slice a3 (k + 3) c3).ownBlock = some b → w.heap.size ≤ b) := by
        intro b hb
        rw [hb] at hb3
        cases hb3
        have := HKW2.out.size
        have := ((Kept.refl NoBlk W2).alloc (.cells #[.int .i64 mk, .int .i64 mk, .int .i64 mk] 3)).size
        exact Nat.le_trans ‹_› ‹_›
      have HKW3 : Hid (Kept (fun b => (Value.slice ao k k).ownBlock = some b) w W3) := HKW2.out.trans hK3 (fun _ x => x.elim)
      have HX1'' : Hid (W3.ownsRow 0 3 1 (.slice a1 (k + 1) c1) (k + 1) (List.replicate (k + 1) (.int .i64 mk))) := ownsRow_kept HX1'.out hK3 (fun _ _ x => x)
      have HX2' : Hid (W3.ownsRow 0 3 1 (.slice a2 (k + 2) c2) (k + 2) (List.replicate (k + 2) (.int .i64 mk))) := ownsRow_kept HX2.out hK3 (fun _ _ x => x)
      clear hown3 hmv3 hb3 hk3 hK3
      have hov : ¬ (Value.slice ao k k).ownBlock = some o := fun e => by
        obtain ⟨cur, hcur⟩ := ownsRow_block HV.out e
        exact blocks_apart hcur HO.out (by decide) rfl
      have hiv : ∀ b, (Value.slice ia N ic).ownBlock = some b → ¬ (Value.slice ao k k).ownBlock = some b := fun b hb e => by
        obtain ⟨cur, hcur⟩ := ownsRow_block HV.out e
        obtain ⟨cur', hcur'⟩ := ownsRow_block HI.out hb
        exact blocks_apart hcur hcur' (by decide) rfl
      have hio : ∀ b, (Value.slice ia N ic).ownBlock = some b → b ≠ o := fun b hb e => by
        obtain ⟨cur', hcur'⟩ := ownsRow_block HI.out hb
        exact blocks_apart hcur' HO.out (by decide) e
      have hO3 := HKW3.out.heap HO.out hov
      have HO3 : Hid _ := hO3
      have HI3 : Hid (W3.ownsRow 0 45 1 (.slice ia N ic) N vs) := ownsRow_kept HI.out HKW3.out hiv
      have c0 : W3.cell? ⟨o, 0, none⟩ = some (.slice ia N ic) := by rw [cell_at hO3]; rfl
      obtain ⟨i1, hi1, hy0, hy1, hy2⟩ := info_parts infoLI
      have HI1 : Hid (Tryz.prog.info? 45 = some i1 ∧ i1.zero = some (.slice none 0 0) ∧ i1.size = 1 ∧ i1.bytes = 24) := ⟨hi1, hy0, hy1, hy2⟩
      have HB4 : Hid ((N + 4) * 24 ≤ 140737488355328) := by unfold Hid; omega
      have HM4 : Hid (N + 4 ≤ maxLen) := by unfold Hid maxLen; omega
      have HOV : Hid _ := hov
      have HIV : Hid _ := hiv
      have HIO : Hid _ := hio
      clear hi1 hy0 hy1 hy2 hO3 hov hiv hio
      go_wp2_with (at_builtin; refine wpList_append_at (by rfl) _ _ 25 (by rfl) 45 i1 _ 1 24 Tryz.underlying25 HI1.out.1 HI1.out.2.1 HI1.out.2.2.1 HI1.out.2.2.2 (by rfl) (.slice ia N ic) N vs (by rfl) (ownsRow_kept HI3.out ((Kept.refl NoBlk W3).alloc _) (fun _ _ x => x)) (.slice (some ⟨W3.heap.size, 0, none⟩) 4 4) 4 [.slice ao k k, .slice a1 (k + 1) c1, .slice a2 (k + 2) c2, .slice a3 (k + 3) c3] (by rfl) (from_new W3 [.slice ao k k, .slice a1 (k + 1) c1, .slice a2 (k + 2) c2, .slice a3 (k + 3) c3] _ 1 4 (by rfl) (by simp [Value.oneCell'])) HM4.out HB4.out ?_)
      intro a4 c4 W4 hown4 hmv4
      have hk4 := hmv4.keptOf
      have hn4 := hmv4.fresh
      have hs4 : W3.heap.size ≤ (W3.alloc (.cells #[.slice ao k k, .slice a1 (k + 1) c1, .slice a2 (k + 2) c2, .slice a3 (k + 3) c3] 45)).heap.size := ((Kept.refl NoBlk W3).alloc _).size
      have hK4 : Kept (fun b => (Value.slice ia N ic).ownBlock = some b) W3 W4 := (((Kept.refl NoBlk W3).alloc _).mono (fun _ x => x.elim)).trans' hk4
      have hsw : w.heap.size ≤ W3.heap.size := HKW3.out.size
      have hil := ownsRow_lt HI.out
      have hO4 := hK4.heap HO3.out (fun e => HIO.out o e rfl)
      have d0 : W4.cell? ⟨o, 0, none⟩ = some (.slice ia N ic) := by rw [cell_at hO4]; rfl
      have df : W4.frozen? ⟨o, 0, none⟩ = false := frozen_at hO4 _
      have hX0 := ownsRow_kept HW3.out hK4 (fun b hb e => HIV.out b e hb)
      have hX1 := ownsRow_kept HX1''.out hK4 (fun b hb e => by have := HF1.out b hb; have := hil b e; omega)
      have hX2 := ownsRow_kept HX2'.out hK4 (fun b hb e => by have := HF2.out b hb; have := hil b e; omega)
      have hX3 := ownsRow_kept HX3.out hK4 (fun b hb e => by have := HF3.out b hb; have := hil b e; omega)
      have hKw : Kept (fun b => b = o ∨ (Value.slice ia N ic).ownBlock = some b ∨ (Value.slice ao k k).ownBlock = some b) w W4 := (HKW3.out.mono (fun b x => Or.inr (Or.inr x))).trans hK4 (fun b x => .inl (.inr (.inl x)))
      have hol := lt_of_block HO.out
      have H4 : Hid (W4.heap[o]? = some (.cells #[.slice ia N ic, v1, v2, v3] 30 (0, 0))) := hO4
      have HL4 : Hid (W4.ownsRow 0 45 1 (.slice a4 (N + 4) c4) (N + 4) (vs ++ [.slice ao k k, .slice a1 (k + 1) c1, .slice a2 (k + 2) c2, .slice a3 (k + 3) c3])) := hown4
      have HN4 : Hid (∀ b, (Value.slice a4 (N + 4) c4).ownBlock = some b → (Value.slice ia N ic).ownBlock = some b ∨ w.heap.size ≤ b) := fun b hb => by
        rcases hn4 b hb with h | h
        · exact .inl h
        · right; omega
      have HZ0 : Hid (W4.ownsRow 0 3 1 (.slice ao k k) k (List.replicate k (.int .i64 mk))) := hX0
      have HZ1 : Hid (W4.ownsRow 0 3 1 (.slice a1 (k + 1) c1) (k + 1) (List.replicate (k + 1) (.int .i64 mk))) := hX1
      have HZ2 : Hid (W4.ownsRow 0 3 1 (.slice a2 (k + 2) c2) (k + 2) (List.replicate (k + 2) (.int .i64 mk))) := hX2
      have HZ3 : Hid (W4.ownsRow 0 3 1 (.slice a3 (k + 3) c3) (k + 3) (List.replicate (k + 3) (.int .i64 mk))) := hX3
      have HKK : Hid _ := hKw
      have HOL : Hid _ := hol
      clear hown4 hmv4 hk4 hn4 hK4 hO4 hX0 hX1 hX2 hX3 hKw c0 hol hil
      go_wp2_with fail
      go_end0
      have e5 := Kept.set1 W4 o 0 (.slice a4 (N + 4) c4)
      have hmk : mk = mark N := by rw [← HM.out]; unfold mark; omega
      rw [← hmk]
      have hno : ∀ b, w.heap.size ≤ b → b ≠ o := fun b hb e => by have := HOL.out; omega
      refine ⟨rfl, .slice a4 (N + 4) c4, a1, c1, a2, c2, a3, c3, block_setCell H4.out _, ownsRow_kept HL4.out e5 ?_, ownsRow_kept HZ0.out e5 (fun b hb e => HOV.out (by rw [hb]; cases e; rfl)), ownsRow_kept HZ1.out e5 (fun b hb => hno b (HF1.out b hb)), ownsRow_kept HZ2.out e5 (fun b hb => hno b (HF2.out b hb)),
        ownsRow_kept HZ3.out e5 (fun b hb => hno b (HF3.out b hb)), ?_, HN4.out, HKK.out.setCell (p := ⟨o, 0, none⟩) (.inl (.inl rfl)) _⟩
      · intro b hb
        rcases HN4.out b hb with h | h
        · exact HIO.out b h
        · exact hno b h
      · intro b hb
        rcases hb with h | h | h
        · exact HF1.out b h
        · exact HF2.out b h
        · exact HF3.out b h
end Go.Proofs.YtmcajfefagdbnaaGreat
