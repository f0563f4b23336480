import Derived.Test.YtmcajfefagdbnaaGreatLGiven
import Derived.Test.YtmcajfefagdbnaaGreatLPNew
import Derived.Test.YtmcajfefagdbnaaGreatLWNew
namespace Go.Proofs.YtmcajfefagdbnaaGreat
open Go Go.RowKit Go.Maps

theorem rowCells_get (l : List Row2) (i : Nat) (h : i < l.length) : (rowCells l)[i * 2]? = some (.int .i64 (l.getD i Row2.z).k) ∧ (rowCells l)[i * 2 + 1]? = some (.int .i64 (l.getD i Row2.z).v) := by
  induction l generalizing i with
  | nil => simp at h
  | cons r l ih =>
    match i with
    | 0 => simp [rowCells, Row2.cells]
    | i + 1 =>
      have := ih i (by simpa using h)
      have e : rowCells (r :: l) = .int .i64 r.k :: .int .i64 r.v :: rowCells l := by simp [rowCells, Row2.cells]
      rw [e, show (i + 1) * 2 = i * 2 + 1 + 1 from by omega]
      simp only [List.getElem?_cons_succ, List.getD_cons_succ]
      exact this

theorem rowPads_low (l : List Row2) (i : Nat) (h : i < l.length) : (rowCells l ++ pads)[i * 2]? = some (.int .i64 (l.getD i Row2.z).k) ∧ (rowCells l ++ pads)[i * 2 + 1]? = some (.int .i64 (l.getD i Row2.z).v) := by
  have hl := rowCells_len l
  rw [List.getElem?_append_left (by omega), List.getElem?_append_left (by omega)]
  exact rowCells_get l i h

theorem rowsAt_given {w : World} {g : Nat} {l : List Row2} {t : TypeId} (h : w.heap[g]? = some (.cells (rowCells l ++ pads).toArray t (0, 0))) : RowsAt w g 0 l := fun i hi => by
  have := rowPads_low l i hi
  rw [cell_at h, cell_at h, List.getElem?_toArray, List.getElem?_toArray, Nat.zero_add]
  exact this

theorem set2_behind {cs : Array Value} {L : List Value} {m : Nat} {a b : Value} (h : ∀ j, m ≤ j → cs[j]? = L[j]?) : ∀ j, m + 2 ≤ j → ((cs.setIfInBounds m a).setIfInBounds (m + 1) b)[j]? = L[j]? := by
  intro j hj
  rw [Array.getElem?_setIfInBounds, Array.getElem?_setIfInBounds, if_neg (by omega), if_neg (by omega)]
  exact h j (by omega)

/-- A new pair of stores, its parts in new memory. -/
def PairNew (w w' : World) (x o : Nat) (l : List Row2) : Prop :=
  (¬ Rise l ∧ w'.heap[x]? = some (.cells #[.pointer none, .pointer none, .pointer (some ⟨o, 0, none⟩)] 38 (0, 0))) ∨
  (Rise l ∧ ∃ p q rv hi, w'.heap[x]? = some (.cells #[.pointer (some ⟨p, 0, none⟩), .pointer (some ⟨q, 0, none⟩), .pointer (some ⟨o, 0, none⟩)] 38 (0, 0)) ∧
    PNewAt w.heap.size hi p l.length l w' ∧ hi ≤ q ∧ hi ≤ x ∧
    w.heap.size ≤ q ∧ (∀ k, rv.ownBlock = some k → w.heap.size ≤ k) ∧ w'.ownsRow 0 95 2 rv l.length (rowCells l) ∧
    w'.heap[q]? = some (.cells #[rv, .slice none 0 0, .slice none 0 0, .slice none 0 0, .int .i64 0] 47 (0, 0)))

set_option maxRecDepth 100000 in
set_option maxHeartbeats 6400000 in
theorem begun_any (ao : Option Addr) (c n o : Nat) (l : List Row2) (w : World) (hn : l.length = n) (hl : n ≤ 1048576) (h : 0 < n → ∃ b off, ao = some ⟨b, off, none⟩ ∧ RowsAt w b off l) (hw : RowsWf l) :
    Calls Tryz.prog 14 #[.slice ao n c, .pointer (some ⟨o, 0, none⟩)] w fun e w' => ∃ x, e = .returned (.tuple #[.pointer (some ⟨x, 0, none⟩), .bool true]) ∧ w.heap.size ≤ x ∧ Kept NoBlk w w' ∧ PairNew w w' x o l := by
  have HN : Hid _ := hn
  have HH : Hid (0 < n → ∃ b off, ao = some ⟨b, off, none⟩ ∧ RowsAt w b off l) := h
  have HW : Hid (RowsWf l) := hw
  have HS : Hid (RowsSrc w (.slice ao n c) l) := ⟨ao, c, by rw [hn], by rw [hn]; exact h⟩
  clear hn h hw
  go_enter Tryz.func14, Tryz.ntmps14
  go_wp2_with fail
  refine (given_any (.slice ao n c) n l w HN.out hl (by have := (show RowsSrc w (.slice ao n c) l from HS.out).mem; rw [HN.out] at this; exact this)).mono ?_
  rintro e w1 ⟨rfl, hg1, hk1⟩
  generalize hG : w.heap.size = g at hg1 ⊢
  have HG : Hid _ := hG
  have HG1 : Hid _ := hg1
  have HK1 : Hid _ := hk1
  clear hG hg1 hk1
  go_wp2_with fail
  refine (pnew_any (some ⟨g, 0, none⟩) (n + 4) n l w1 HN.out hl (fun _ => ⟨g, 0, rfl, rowsAt_given HG1.out⟩) HW.out).mono ?_
  rintro e w2 ⟨hk2, hp2⟩
  have HG2 : Hid _ := hk2.heap HG1.out (fun x => x)
  have HK2 : Hid _ := HK1.out.trans' hk2
  obtain ⟨po, ev, rfl, hP2⟩ : ∃ (po : Option Addr) (ev : Int), e = .returned (.tuple #[.pointer po, .int .i64 ev]) ∧ ((¬ Rise l ∧ po = none ∧ ev = 7) ∨
      (Rise l ∧ ∃ p, po = some ⟨p, 0, none⟩ ∧ ev = 0 ∧ PNewAt w1.heap.size w2.heap.size p n l w2)) := by
    rcases hp2 with ⟨hr, rfl⟩ | ⟨hr, p, rfl, h1⟩
    · exact ⟨none, 7, rfl, .inl ⟨hr, rfl, rfl⟩⟩
    · exact ⟨some ⟨p, 0, none⟩, 0, rfl, .inr ⟨hr, p, rfl, rfl, h1⟩⟩
  have HP2 : Hid _ := hP2
  have HS1 : Hid (w.heap.size ≤ w1.heap.size) := HK1.out.size
  have HSX : Hid (w1.heap.size ≤ w2.heap.size) := hk2.size
  clear hp2 hP2 hk2
  go_wp2_with fail
  refine (wnew_any ao c n l w2 HN.out hl (fun h0 => ?_)).mono ?_
  · obtain ⟨b, off, e, hat⟩ := HH.out h0
    exact ⟨b, off, e, hat.kept HK2.out (fun x => x)⟩
  rintro e w3 ⟨hk3, hq3⟩
  have HG3 : Hid _ := hk3.heap HG2.out (fun x => x)
  have HK3 : Hid _ := HK2.out.trans' hk3
  have HKs : Hid _ := hk3
  obtain ⟨qo, fv, rfl, hQ3⟩ : ∃ (qo : Option Addr) (fv : Int), e = .returned (.tuple #[.pointer qo, .int .i64 fv]) ∧ ((¬ Rise l ∧ qo = none ∧ fv = 7) ∨
      (Rise l ∧ ∃ p rv, qo = some ⟨p, 0, none⟩ ∧ fv = 0 ∧ w2.heap.size ≤ p ∧ (∀ k, rv.ownBlock = some k → w2.heap.size ≤ k) ∧ w3.ownsRow 0 95 2 rv n (rowCells l) ∧
        w3.heap[p]? = some (.cells #[rv, .slice none 0 0, .slice none 0 0, .slice none 0 0, .int .i64 0] 47 (0, 0)))) := by
    rcases hq3 with ⟨hr, rfl⟩ | ⟨hr, p, rv, rfl, h1, h2, h3, h4⟩
    · exact ⟨none, 7, rfl, .inl ⟨hr, rfl, rfl⟩⟩
    · exact ⟨some ⟨p, 0, none⟩, 0, rfl, .inr ⟨hr, p, rv, rfl, rfl, h1, h2, h3, h4⟩⟩
  have HQ3 : Hid _ := hQ3
  clear hq3 hQ3 hk3
  go_wp2_with fail
  have hgl := lt_of_block HG1.out
  have hgw : ∀ b, (Value.slice ao n c).ownBlock = some b → 0 < n → b ≠ g := fun b hb h0 e => by
    obtain ⟨b', off, e', hat⟩ := HH.out h0
    subst e'
    simp [Value.ownBlock] at hb
    subst hb
    have h1 := (hat 0 (by rw [HN.out]; exact h0)).1
    have := World.block_lt_of_cell? w _ h1
    have := HG.out
    simp only at *
    omega
  have HGW : Hid _ := hgw
  have HGL : Hid _ := hgl
  clear hgw hgl
  go_loopw [12, 13] (fun b i wr => ∃ k : Nat, k ≤ n + 4 ∧ b = .bool true ∧ i = .int .i64 k ∧ Kept (Blk g) w3 wr ∧ ∃ cs : Array Value, cs.size = (n + 4) * 2 ∧ wr.heap[g]? = some (.cells cs 95 (0, 0)) ∧ ∀ j, k * 2 ≤ j → cs[j]? = (rowCells l ++ pads)[j]?) (fun _ i _ => n + 4 - (intOf i).toNat)
  case atStart => exact ⟨0, Nat.zero_le _, rfl, rfl, Kept.refl _ _, (rowCells l ++ pads).toArray, by have := rowCells_len l; have := HN.out; simp [pads]; omega, HG3.out, fun j _ => by rw [List.getElem?_toArray]⟩
  case round =>
    obtain ⟨k, hk, rfl, rfl, hkw, cs, hsz, hg, hpre⟩ := hrel
    by_cases hlt : k < n + 4
    · have hf : ∀ o, wr.frozen? ⟨g, o, none⟩ = false := fun o => frozen_at hg o
      have HG2 : Hid (((wr.setCell ⟨g, k * 2, none⟩ (.int .i64 k)).setCell ⟨g, k * 2 + 1, none⟩ (.int .i64 (-9))).heap[g]? = some (.cells ((cs.setIfInBounds (k * 2) (.int .i64 k)).setIfInBounds (k * 2 + 1) (.int .i64 (-9))) 95 (0, 0))) := block_setCell (block_setCell hg _) _
      have HKW0 : Hid _ := hkw
      have HS2 : Hid (∀ j, k * 2 + 2 ≤ j → ((cs.setIfInBounds (k * 2) (.int .i64 k)).setIfInBounds (k * 2 + 1) (.int .i64 (-9)))[j]? = (rowCells l ++ pads)[j]?) := set2_behind hpre
      have HZ : Hid _ := hsz
      have i0 : (0 : Int) ≤ (k : Int) := by omega
      have i1 : (k : Int) < (n : Int) + 4 := by omega
      have i1' : (k : Int) < ((n + 4 : Nat) : Int) := by omega
      by_cases hkn : k < n
      · obtain ⟨b, off, rfl, hat⟩ := HH.out (by omega)
        have hbg : b ≠ g := HGW.out b rfl (by omega)
        obtain ⟨g0, g1⟩ := ((hat.kept HK3.out (fun x => x)).kept hkw hbg) k (by rw [HN.out]; exact hkn)
        have hp := rowPads_low l k (by rw [HN.out]; exact hkn)
        have c0 : wr.cell? ⟨g, k * 2, none⟩ = some (.int .i64 (l.getD k Row2.z).k) := by rw [cell_at hg, hpre _ (Nat.le_refl _)]; exact hp.1
        have c1 : wr.cell? ⟨g, k * 2 + 1, none⟩ = some (.int .i64 (l.getD k Row2.z).v) := by rw [cell_at hg, hpre _ (by omega)]; exact hp.2
        have i2 : (k : Int) < (n : Int) := by omega
        have e1 : ((l.getD k Row2.z).k == (l.getD k Row2.z).k) = true := by simp
        have e2 : ((l.getD k Row2.z).v == (l.getD k Row2.z).v) = true := by simp
        clear hp hpre hg hkw hsz hat
        generalize l.getD k Row2.z = r at *
        go_wp2_with fail
        have i3 : decide (n ≤ k) = false := by simp; omega
        go_quiet (fail)
        go_wp2_with fail
        exact ⟨⟨k + 1, by omega, rfl, by go_num, ((HKW0.out.drewN _).setCell (p := ⟨g, _, none⟩) (.inl rfl) _).setCell (p := ⟨g, _, none⟩) (.inl rfl) _, _, by simp [HZ.out], HG2.out, fun j hj => HS2.out j (by omega)⟩, by simp [intOf]; omega⟩
      · have hp := rowPads_get l (k - n) (by omega)
        rw [HN.out, show n + (k - n) = k from by omega] at hp
        have c0 : wr.cell? ⟨g, k * 2, none⟩ = some (.int .i64 77) := by rw [cell_at hg, hpre _ (Nat.le_refl _)]; exact hp.1
        have c1 : wr.cell? ⟨g, k * 2 + 1, none⟩ = some (.int .i64 0) := by rw [cell_at hg, hpre _ (by omega)]; exact hp.2
        clear hp hpre hg hkw hsz
        go_wp2_with fail
        have i2 : decide ((k : Int) < (n : Int)) = false := by simp; omega
        have i2' : decide (k < n) = false := by simp; omega
        have i3 : decide (n ≤ k) = true := by simp; omega
        go_quiet (fail)
        go_wp2_with fail
        exact ⟨⟨k + 1, by omega, rfl, by go_num, ((HKW0.out.drewN _).setCell (p := ⟨g, _, none⟩) (.inl rfl) _).setCell (p := ⟨g, _, none⟩) (.inl rfl) _, _, by simp [HZ.out], HG2.out, fun j hj => HS2.out j (by omega)⟩, by simp [intOf]; omega⟩
    · have HKW3 : Hid _ := hkw
      clear hpre hg hkw hsz
      have hgw : w.heap.size ≤ g := Nat.le_of_eq HG.out
      have hKf : Kept NoBlk w wr := HK3.out.trans HKW3.out (fun i x => .inr (by cases x; exact hgw))
      have hs3 : w2.heap.size ≤ w3.heap.size := HKs.out.size
      have hsr : w3.heap.size ≤ wr.heap.size := HKW3.out.size
      have hs1 := HS1.out
      have hsx := HSX.out
      have hgl := HGL.out
      rcases HP2.out with ⟨hr, rfl, rfl⟩ | ⟨hr, p, rfl, rfl, p1⟩
      · rcases HQ3.out with ⟨_, rfl, rfl⟩ | ⟨hr', _⟩
        · have HR : Hid (¬ Rise l) := hr
          have HKF : Hid _ := hKf
          have HSS : Hid (w.heap.size ≤ wr.heap.size) := hKf.size
          clear hr hKf HP2 HQ3 hs3 hsr hs1 hsx hgl hgw
          go_wp2_with fail
          go_ret2
          exact ⟨wr.heap.size, rfl, HSS.out, HKF.out.alloc _, .inl ⟨HR.out, block_alloc_new wr _⟩⟩
        · exact absurd hr' hr
      · rcases HQ3.out with ⟨hr', _⟩ | ⟨_, q, rv, rfl, rfl, q1, q2, q3, q4⟩
        · exact absurd hr hr'
        · have HR : Hid (Rise l) := hr
          have HKF : Hid _ := hKf
          have HSS : Hid (w.heap.size ≤ wr.heap.size) := hKf.size
          have hql := lt_of_block q4
          have hqg : q ≠ g := by omega
          have hpn : PNewAt w1.heap.size w2.heap.size p n l wr := (p1.kept HKs.out (fun _ _ _ x => x)).kept HKW3.out (fun k k1 k2 x => by unfold Blk at x; omega)
          have hq3' := HKW3.out.heap q4 hqg
          have hrv := ownsRow_kept q3 HKW3.out (fun b hb e => by have := q2 b hb; unfold Blk at e; omega)
          have HPP : Hid (PNewAt w1.heap.size w2.heap.size p n l wr) := hpn
          have HQQ : Hid _ := hq3'
          have HRV : Hid (wr.ownsRow 0 95 2 rv n (rowCells l)) := hrv
          have HNN : Hid (w.heap.size ≤ w1.heap.size ∧ w.heap.size ≤ q ∧ w2.heap.size ≤ q ∧ w2.heap.size ≤ wr.heap.size) := ⟨by omega, by omega, by omega, by omega⟩
          have HRB : Hid (∀ k, rv.ownBlock = some k → w.heap.size ≤ k) := fun k hk => by have := q2 k hk; omega
          clear hr hKf HP2 HQ3 hs3 hsr hs1 hsx hgl hgw p1 q1 q2 q3 q4 hql hqg hpn hq3' hrv
          go_wp2_with fail
          go_ret2
          have ea : Kept NoBlk wr (wr.alloc (.cells #[.pointer (some ⟨p, 0, none⟩), .pointer (some ⟨q, 0, none⟩), .pointer (some ⟨o, 0, none⟩)] 38)) := (Kept.refl _ _).alloc _
          refine ⟨wr.heap.size, rfl, HSS.out, HKF.out.alloc _, .inr ⟨HR.out, p, q, rv, w2.heap.size, block_alloc_new wr _, by rw [HN.out]; exact (HPP.out.mono HNN.out.1).kept ea (fun _ _ _ x => x), HNN.out.2.2.1, HNN.out.2.2.2, HNN.out.2.1, HRB.out, by rw [HN.out]; exact ownsRow_kept HRV.out ea (fun _ _ x => x), ea.heap HQQ.out (fun x => x)⟩⟩
end Go.Proofs.YtmcajfefagdbnaaGreat
