import Derived.Test.YtmplmoicliobaaaGreatRows0
import Derived.Maps.Own
import Derived.Maps.OwnOps
namespace Go.Proofs.YtmplmoicliobaaaGreat
open Go Go.RowKit Go.Maps

def RowsWf (l : List Row2) : Prop := ∀ i, i < l.length → (Lit.int .i64 (l.getD i Row2.z).k).wf = true ∧ (Lit.int .i64 (l.getD i Row2.z).v).wf = true

theorem lawInt : Keyed Tryz.prog 3 := int_keyed Tryz.underlying3

theorem run_makeMapHint (n : Int) (w : World) : (Instr.makeMap 84 (some (.int .i64 n))).run Tryz.prog w = .ok (.map (some w.heap.size)) (w.alloc (.map #[] 0)) := by
  simp [Instr.makeMap, run_underlying Tryz.underlying84, asInt, asIntOf]

set_option maxRecDepth 100000 in
set_option maxHeartbeats 1600000 in
theorem valuesByKey_any (ao : Option Addr) (c n : Nat) (l : List Row2) (w : World) (hn : l.length = n) (hl : n ≤ 1048576) (h : 0 < n → ∃ b off, ao = some ⟨b, off, none⟩ ∧ RowsAt w b off l) (hw : RowsWf l) :
    Calls Tryz.prog 33 #[.slice ao n c] w fun e w' => e = .returned (.map (some w.heap.size)) ∧ (∃ D : DataW Unit, w'.ownsMap Tryz.prog 3 (plainElem Tryz.prog 3) w.heap.size n D) ∧ Kept NoBlk w w' := by
  have Hn : Hid _ := hn
  have hmm := fun n w => run_makeMapHint n w
  clear hn
  go_enter Tryz.func33, Tryz.ntmps33
  go_wp2_with fail
  go_loopw [11] (fun i wr => ∃ k : Nat, k ≤ n ∧ i = .int .i64 k ∧ (∃ D : DataW Unit, wr.ownsMap Tryz.prog 3 (plainElem Tryz.prog 3) w.heap.size k D) ∧ Kept NoBlk w wr) (fun i _ => n - (intOf i).toNat)
  case atStart => exact ⟨0, Nat.zero_le _, rfl, ⟨_, World.ownsMap_made _ _ _ _⟩, (Kept.refl _ _).alloc _⟩
  case round =>
    obtain ⟨k, hk, rfl, ⟨D, hown⟩, hkw⟩ := hrel
    by_cases hlt : k < n
    · obtain ⟨b, off, rfl, hat⟩ := h (by omega)
      have hkl : k < l.length := by rw [Hn.out]; exact hlt
      obtain ⟨g0, g1⟩ := (hat.kept hkw (fun x => x)) k hkl
      obtain ⟨wk, wv⟩ := hw k hkl
      have HKW : Hid _ := hkw
      have HOW : Hid (wr.ownsMap Tryz.prog 3 (plainElem (H := Unit) Tryz.prog 3) w.heap.size k D) := hown
      have HWK : Hid _ := wk
      have HWV : Hid _ := wv
      clear hkw hown hat h hw wk wv hkl
      generalize l.getD k Row2.z = r at *
      go_wp2_with (first
        | (at_mapUpdate; refine wpList_mapUpdate_own _ rfl _ _ _ 84 rfl 3 3 lawInt Tryz.underlying84 _ w.heap.size k _ rfl (HOW.out.alloc _) (by unfold maxLen; omega) _ _ _ rfl rfl (keyOf_int_mk Tryz.underlying3 HWK.out) _ [] (plainElem_int Tryz.underlying3 HWV.out) ?_))
      intro w1 hown1 hgrow1
      go_wp2_with fail
      go_roundw
      case rel => exact ⟨k + 1, by omega, by go_num, ⟨_, hown1⟩, (HKW.out.alloc _).grown hgrow1 (fun j hj => .inr (by cases hj; exact Nat.le_refl _))⟩
      case measure => simp [intOf]; omega
    · obtain rfl : k = n := by omega
      go_wp2_with fail
      go_ret
      exact ⟨rfl, ⟨D, hown⟩, hkw⟩

set_option maxHeartbeats 800000 in
theorem pnew_any (ao : Option Addr) (c n : Nat) (l : List Row2) (w : World) (hn : l.length = n) (hl : n ≤ 1048576) (h : 0 < n → ∃ b off, ao = some ⟨b, off, none⟩ ∧ RowsAt w b off l) (hw : RowsWf l) :
    Calls Tryz.prog 9 #[.slice ao n c] w fun e w' => Kept NoBlk w w' ∧ ((¬ Rise l ∧ e = .returned (.tuple #[.pointer none, .int .i64 7])) ∨
      (Rise l ∧ ∃ p m, e = .returned (.tuple #[.pointer (some ⟨p, 0, none⟩), .int .i64 0]) ∧ w.heap.size ≤ p ∧ w.heap.size ≤ m ∧ (∃ D : DataW Unit, w'.ownsMap Tryz.prog 3 (plainElem Tryz.prog 3) m n D) ∧
        w'.heap[p]? = some (.cells #[.int .i32 0, .int .u32 0, .int .i64 0, .map (some m), .slice none 0 0, .int .i64 0] 95 (0, 0)))) := by
  have Hn : Hid _ := hn
  have HH : Hid (0 < n → ∃ b off, ao = some ⟨b, off, none⟩ ∧ RowsAt w b off l) := h
  have HW : Hid (RowsWf l) := hw
  clear hn h hw
  go_enter Tryz.func9, Tryz.ntmps9
  go_wp2_with fail
  refine (keysRise_any ao c n l w Hn.out hl HH.out).mono ?_
  rintro e w1 ⟨r, rfl, hr, hk⟩
  cases r
  · have HR : Hid (¬ Rise l) := fun x => by simpa using hr.2 x
    have HK : Hid _ := hk
    clear hr hk
    go_wp2_with fail
    go_ret2
    exact ⟨HK.out, .inl ⟨HR.out, rfl⟩⟩
  · have HR : Hid (Rise l) := hr.1 rfl
    have HK : Hid _ := hk
    clear hr hk
    go_wp2_with fail
    refine (valuesByKey_any ao c n l w1 Hn.out hl (fun h0 => ?_) HW.out).mono ?_
    · obtain ⟨b, off, e, hat⟩ := HH.out h0
      exact ⟨b, off, e, hat.kept HK.out (fun x => x)⟩
    rintro e w2 ⟨rfl, ⟨D, hD⟩, hk2⟩
    have HD : Hid (w2.ownsMap Tryz.prog 3 (plainElem (H := Unit) Tryz.prog 3) w1.heap.size n D) := hD
    have HK2 : Hid _ := hk2
    clear hD hk2
    go_wp2_with fail
    go_ret2
    exact ⟨(HK.out.trans' HK2.out).alloc _, .inr ⟨HR.out, w2.heap.size, w1.heap.size, rfl, (HK.out.trans' HK2.out).size, HK.out.size, ⟨D, HD.out.alloc _⟩, block_alloc_new w2 _⟩⟩
end Go.Proofs.YtmplmoicliobaaaGreat
