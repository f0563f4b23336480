import Derived.Test.YtmcajfefagdbnaaGreatLTakeSeen
namespace Go.Proofs.YtmcajfefagdbnaaGreat
open Go Go.RowKit

def seenCsL (mk : Int) : Nat → List Value
  | 0 => []
  | n + 1 => .int .i64 mk :: .bool false :: .int .i64 0 :: seenCsL mk n

theorem seenCsL_len (mk : Int) (n : Nat) : (seenCsL mk n).length = n * 3 := by
  induction n with
  | zero => rfl
  | succ n ih => simp only [seenCsL, List.length_cons, ih]; omega

theorem seenCsL_get (mk : Int) : ∀ (n j : Nat), j < n → (seenCsL mk n)[j * 3]? = some (.int .i64 mk) ∧ (seenCsL mk n)[j * 3 + 1]? = some (.bool false) ∧ (seenCsL mk n)[j * 3 + 2]? = some (.int .i64 0)
  | 0, j, h => by omega
  | n + 1, 0, _ => by simp [seenCsL]
  | n + 1, j + 1, h => by
    have := seenCsL_get mk n j (by omega)
    simp only [seenCsL, show (j + 1) * 3 = j * 3 + 1 + 1 + 1 from by omega, List.getElem?_cons_succ]
    exact this

/-- The lists of ints that came out read as their owner wrote them. -/
def IntsKept (w : World) (vs : List Value) (N : Nat) : Prop := ∀ i, i < N → ∃ v n, vs[i]? = some v ∧ n ≤ 1048580 ∧ w.ownsRow 0 3 1 v n (List.replicate n (.int .i64 (mark i)))
def SeenKept (w : World) (us : List Value) (M : Nat) : Prop := ∀ i, i < M → ∃ v n, us[i]? = some v ∧ n ≤ 1048580 ∧ w.ownsRow 0 105 3 v n (seenCsL (mark i) n)

set_option maxRecDepth 100000 in
set_option maxHeartbeats 6400000 in
theorem kept_any (o N M : Nat) (iv sv : Value) (vs us : List Value) (w : World) (hN : N ≤ 16777216) (hM : M ≤ 16777216)
    (ho : w.heap[o]? = some (.cells #[iv, sv, .slice none 0 0, .slice none 0 0] 30 (0, 0)))
    (hiv : w.ownsRow 0 45 1 iv N vs) (hsv : w.ownsRow 0 61 1 sv M us) (hi : IntsKept w vs N) (hs : SeenKept w us M) :
    Calls Tryz.prog 17 #[.pointer (some ⟨o, 0, none⟩)] w fun e w' => e = .returned (.bool true) ∧ w' = w := by
  have c2 : w.cell? ⟨o, 2, none⟩ = some (.slice none 0 0) := by rw [cell_at ho]; rfl
  have c3 : w.cell? ⟨o, 3, none⟩ = some (.slice none 0 0) := by rw [cell_at ho]; rfl
  have c0 : w.cell? ⟨o, 0, none⟩ = some iv := by rw [cell_at ho]; rfl
  have c1 : w.cell? ⟨o, 1, none⟩ = some sv := by rw [cell_at ho]; rfl
  obtain ⟨ia, ic, rfl⟩ := ownsRow_form hiv
  obtain ⟨sa, sc, rfl⟩ := ownsRow_form hsv
  have HIV : Hid (w.ownsRow 0 45 1 (.slice ia N ic) N vs) := hiv
  have HSV : Hid (w.ownsRow 0 61 1 (.slice sa M sc) M us) := hsv
  have HI : Hid (IntsKept w vs N) := hi
  have HS : Hid (SeenKept w us M) := hs
  clear ho hiv hsv hi hs
  go_enter Tryz.func17, Tryz.ntmps17
  go_wp2_with fail
  go_loop [3] (fun i => ∃ k : Nat, k ≤ N ∧ i = .int .i64 k) (fun i => N - (intOf i).toNat)
  case atStart => exact ⟨0, Nat.zero_le _, rfl⟩
  case round =>
    obtain ⟨i, hi, rfl⟩ := hrel
    by_cases hlt : i < N
    · obtain ⟨v, n, hv, hn, hown⟩ := HI.out i hlt
      obtain ⟨g, cap, hform, _, _⟩ := HIV.out.form (by omega)
      simp only [Value.slice.injEq] at hform
      obtain ⟨rfl, _, rfl⟩ := hform
      have hcell : w.cell? ⟨g, i, none⟩ = some v := (HIV.out.cellAt i (by omega)).trans hv
      obtain ⟨va, vc, rfl⟩ := ownsRow_form hown
      have HOWN : Hid (w.ownsRow 0 3 1 (.slice va n vc) n (List.replicate n (.int .i64 (mark i)))) := hown
      clear hown hv
      go_wp2_with fail
      go_loop [4] (fun j => ∃ k : Nat, k ≤ n ∧ j = .int .i64 k) (fun j => n - (intOf j).toNat)
      case atStart => exact ⟨0, Nat.zero_le _, rfl⟩
      case round =>
        obtain ⟨j, hj, rfl⟩ := hrel
        by_cases hjlt : j < n
        · obtain ⟨b, cap', hform, _, _⟩ := HOWN.out.form (by omega)
          simp only [Value.slice.injEq] at hform
          obtain ⟨rfl, _, rfl⟩ := hform
          have hx : w.cell? ⟨b, j, none⟩ = some (.int .i64 (mark i)) := by
            rw [HOWN.out.cellAt j (by omega)]
            simp [hjlt]
          have hmk : (mark i != -1000 - (i : Int) / 4) = false := by
            have : mark i = -1000 - (i : Int) / 4 := by unfold mark; omega
            simp [this]
          generalize mark i = mk at *
          go_wp2_with fail
          go_round
          case rel => exact ⟨j + 1, by omega, by go_num⟩
          case measure => simp [intOf]; omega
        · go_wp2_with fail
          go_round
          case rel => exact ⟨i + 1, by omega, by go_num⟩
          case measure => simp [intOf]; omega
    · go_wp2_with fail
      clear hi hlt
      go_loop [5] (fun i => ∃ k : Nat, k ≤ M ∧ i = .int .i64 k) (fun i => M - (intOf i).toNat)
      case atStart => exact ⟨0, Nat.zero_le _, rfl⟩
      case round =>
        obtain ⟨i, hi, rfl⟩ := hrel
        by_cases hlt : i < M
        · obtain ⟨v, n, hv, hn, hown⟩ := HS.out i hlt
          obtain ⟨g, cap, hform, _, _⟩ := HSV.out.form (by omega)
          simp only [Value.slice.injEq] at hform
          obtain ⟨rfl, _, rfl⟩ := hform
          have hcell : w.cell? ⟨g, i, none⟩ = some v := (HSV.out.cellAt i (by omega)).trans hv
          obtain ⟨va, vc, rfl⟩ := ownsRow_form hown
          have HOWN : Hid (w.ownsRow 0 105 3 (.slice va n vc) n (seenCsL (mark i) n)) := hown
          clear hown hv
          go_wp2_with fail
          go_loop [6] (fun j => ∃ k : Nat, k ≤ n ∧ j = .int .i64 k) (fun j => n - (intOf j).toNat)
          case atStart => exact ⟨0, Nat.zero_le _, rfl⟩
          case round =>
            obtain ⟨j, hj, rfl⟩ := hrel
            by_cases hjlt : j < n
            · obtain ⟨b, cap', hform, _, _⟩ := HOWN.out.form (by omega)
              simp only [Value.slice.injEq] at hform
              obtain ⟨rfl, _, rfl⟩ := hform
              have hg := seenCsL_get (mark i) n j hjlt
              have hx0 : w.cell? ⟨b, j * 3, none⟩ = some (.int .i64 (mark i)) := by rw [HOWN.out.cellAt (j * 3) (by omega)]; exact hg.1
              have hx1 : w.cell? ⟨b, j * 3 + 1, none⟩ = some (.bool false) := by rw [HOWN.out.cellAt (j * 3 + 1) (by omega)]; exact hg.2.1
              have hx2 : w.cell? ⟨b, j * 3 + 2, none⟩ = some (.int .i64 0) := by rw [HOWN.out.cellAt (j * 3 + 2) (by omega)]; exact hg.2.2
              have hmk : (mark i == -1000 - (i : Int) / 4) = true := by
                have : mark i = -1000 - (i : Int) / 4 := by unfold mark; omega
                simp [this]
              clear hg
              generalize mark i = mk at *
              go_wp2_with fail
              exact ⟨⟨j + 1, by omega, by go_num⟩, by simp [intOf]; omega⟩
            · go_wp2_with fail
              go_round
              case rel => exact ⟨i + 1, by omega, by go_num⟩
              case measure => simp [intOf]; omega
        · go_wp2_with fail
          clear hi hlt
          go_loop [7] (fun i => i = .int .i64 0) (fun _ => 0)
          case atStart => rfl
          case round =>
            subst hrel
            go_wp2_with fail
            go_loop [9] (fun i => i = .int .i64 0) (fun _ => 0)
            case atStart => rfl
            case round =>
              subst hrel
              go_wp2_with fail
              go_ret
              exact ⟨rfl, rfl⟩
end Go.Proofs.YtmcajfefagdbnaaGreat
