import Derived.Test.YtmplmoicliobaaaGreatSmall
namespace Go.Proofs.YtmplmoicliobaaaGreat
open Go.RowKit

/-- An operation's four numbers. -/
structure Op4 where
  k : Int
  a : Int
  b : Int
  c : Int

def Op4.z : Op4 := ⟨0, 0, 0, 0⟩
def Op4.ok (o : Op4) : Bool := opB o.k o.a o.b
def Op4.cells (o : Op4) : List Value := [.int .i64 o.k, .int .i64 o.a, .int .i64 o.b, .int .i64 o.c]

/-- Operations in memory, from a place on. -/
def OpsAt (w : World) (b off : Nat) (l : List Op4) : Prop := ∀ i, i < l.length →
  w.cell? ⟨b, off + i * 4, none⟩ = some (.int .i64 (l.getD i Op4.z).k) ∧ w.cell? ⟨b, off + i * 4 + 1, none⟩ = some (.int .i64 (l.getD i Op4.z).a) ∧
  w.cell? ⟨b, off + i * 4 + 2, none⟩ = some (.int .i64 (l.getD i Op4.z).b) ∧ w.cell? ⟨b, off + i * 4 + 3, none⟩ = some (.int .i64 (l.getD i Op4.z).c)

theorem OpsAt.kept {S : Nat → Prop} {w w' : World} {b off : Nat} {l : List Op4} (h : OpsAt w b off l) (hk : Kept S w w') (hn : ¬ S b) : OpsAt w' b off l := fun i hi =>
  ⟨hk.cell (h i hi).1 hn, hk.cell (h i hi).2.1 hn, hk.cell (h i hi).2.2.1 hn, hk.cell (h i hi).2.2.2 hn⟩

theorem all_take_succ (l : List Op4) (k : Nat) (hk : k < l.length) (h : (l.take k).all Op4.ok = true) : (l.take (k + 1)).all Op4.ok = (l.getD k Op4.z).ok := by
  rw [List.take_succ_eq_append_getElem hk, List.all_append, h]
  simp [List.getD, hk]

theorem all_false_of (l : List Op4) (k : Nat) (hk : k < l.length) (h : (l.getD k Op4.z).ok = false) : l.all Op4.ok = false := by
  rw [List.all_eq_false]
  exact ⟨l[k], List.getElem_mem hk, by simp [List.getD, hk] at h; simp [h]⟩

set_option maxHeartbeats 1600000 in
theorem allAllowed_some (b off cap : Nat) (l : List Op4) (w : World) (h : OpsAt w b off l) (hl : l.length ≤ 1048576) :
    Calls Tryz.prog 77 #[.slice (some ⟨b, off, none⟩) l.length cap] w fun e w' => e = .returned (.bool (l.all Op4.ok)) ∧ Kept NoBlk w w' := by
  generalize hn : l.length = n at hl ⊢
  have Hn : Hid _ := hn
  clear hn
  go_enter Tryz.func77, Tryz.ntmps77
  go_wp2
  go_loopw [7] (fun i wr => ∃ k : Nat, k ≤ n ∧ i = .int .i64 k ∧ (l.take k).all Op4.ok = true ∧ Kept NoBlk w wr) (fun i _ => n - (intOf i).toNat)
  case atStart => exact ⟨0, Nat.zero_le _, rfl, rfl, Kept.refl _ _⟩
  case round =>
    obtain ⟨k, hk, rfl, hall, hkw⟩ := hrel
    by_cases hlt : k < n
    · have hkl : k < l.length := by rw [Hn.out]; exact hlt
      obtain ⟨g0, g1, g2, g3⟩ := (h.kept hkw (fun x => x)) k hkl
      have Hs : Hid _ := all_take_succ l k hkl hall
      have Hf : Hid _ := all_false_of l k hkl
      have Hk : Hid _ := hkw
      clear hkl h hall hkw
      generalize l.getD k Op4.z = o at *
      go_wp2_with fail
      refine (allowed_any _ _ _ _ _).mono ?_
      rintro e w' ⟨rfl, rfl⟩
      have hko : o.ok = opB o.k o.a o.b := rfl
      have Ho : Hid _ := hko
      clear hko
      generalize opB o.k o.a o.b = x at *
      cases x
      · go_wp2_with fail
        go_ret
        exact ⟨ret_bool (Hf.out Ho.out).symm, (Hk.out.alloc _).alloc _⟩
      · go_wp2_with fail
        go_roundw
        case rel => exact ⟨k + 1, by omega, by go_num, Hs.out.trans Ho.out, (Hk.out.alloc _).alloc _⟩
        case measure => simp [intOf]; omega
    · go_wp2_with fail
      go_ret
      refine ⟨ret_bool ?_, hkw⟩
      rw [← hall, List.take_of_length_le (by rw [Hn.out]; omega)]
end Go.Proofs.YtmplmoicliobaaaGreat
