import Derived.Test.YtmcajfefagdbnaaGreatLPairAdmit
namespace Go.Proofs.YtmcajfefagdbnaaGreat
open Go Go.RowKit

theorem ret_boolT {b : Bool} (h : b = true) : Ending.returned (.bool b) = .returned (.bool true) := by rw [h]

set_option maxRecDepth 100000 in
set_option maxHeartbeats 6400000 in
theorem play_tick (x p q o : Nat) (S : Nat → Prop) (c n s : Int) (ao : Option Addr) (k kc : Nat) (sts : List Int) (w : World) (h : QInv x p q o S c sts w) :
    Calls Tryz.prog 16 #[.pointer (some ⟨x, 0, none⟩), .agg #[.int .i64 1, .int .i64 n, .int .i64 s, .slice ao k kc]] w fun e w' => e = .returned (.bool true) ∧ Kept S w w' ∧ QInv x p q o S (tickClk c n) sts w' := by
  obtain ⟨Sp, Sw, h1, h2, h3, h4, h5, h6, h7, h8, h9⟩ := h.body
  have HQ : Hid (QInv x p q o S c sts w) := h
  have hxl := lt_of_block h1
  have hk0 : Kept NoBlk w (w.alloc (.cells #[.int .i64 1, .int .i64 n, .int .i64 s, .slice ao k kc] 41)) := (Kept.refl _ _).alloc _
  have HX0 : Hid _ := hk0.heap h1 (fun x => x)
  have HO0 : Hid ((w.alloc (.cells #[.int .i64 1, .int .i64 n, .int .i64 s, .slice ao k kc] 41)).heap[w.heap.size]? = some (.cells #[.int .i64 1, .int .i64 n, .int .i64 s, .slice ao k kc] 41 (0, 0))) := block_alloc_new w _
  have HP0 : Hid (PInv Sp p c sts (w.alloc (.cells #[.int .i64 1, .int .i64 n, .int .i64 s, .slice ao k kc] 41))) := h5.kept hk0 (fun _ _ x => x)
  have HW0 : Hid (WInv Sw q c sts (w.alloc (.cells #[.int .i64 1, .int .i64 n, .int .i64 s, .slice ao k kc] 41))) := h6.kept hk0 (fun _ _ x => x)
  have HK0 : Hid _ := hk0
  have H2 : Hid (S x ∧ ¬ Sp x ∧ ¬ Sw x) := ⟨h2, h3, h4⟩
  have H7 : Hid (Disj Sp Sw ∧ (∀ k, Sp k → S k) ∧ (∀ k, Sw k → S k)) := ⟨h7, h8, h9⟩
  have HL : Hid (∀ k, S k → k < w.heap.size) := h.lt
  clear h h1 h2 h3 h4 h5 h6 h7 h8 h9 hk0 hxl
  go_enter Tryz.func16, Tryz.ntmps16
  go_wp2_with fail
  generalize w.alloc (.cells #[.int .i64 1, .int .i64 n, .int .i64 s, .slice ao k kc] 41) = W0 at *
  generalize hH : w.heap.size = H at HO0 ⊢
  have HH : Hid _ := hH
  clear hH
  have hSpH : ¬ Sp H := fun hs => by have := HL.out H (H7.out.2.1 H hs); have := HH.out; omega
  have hSwH : ¬ Sw H := fun hs => by have := HL.out H (H7.out.2.2 H hs); have := HH.out; omega
  have x0 : W0.cell? ⟨x, 0, none⟩ = some (.pointer (some ⟨p, 0, none⟩)) := by rw [cell_at HX0.out]; rfl
  have n0 : W0.cell? ⟨H, 1, none⟩ = some (.int .i64 n) := by rw [cell_at HO0.out]; rfl
  go_region_held3 (fun w' => w'.cell? ⟨x, 0, none⟩ = some (.pointer (some ⟨p, 0, none⟩)) ∧ w'.cell? ⟨H, 1, none⟩ = some (.int .i64 n))
    (first | exact ⟨hx2, hn2⟩ | exact ⟨x0, n0⟩)
    (first
      | (go_at_call 41; refine (ptick_inv Sp p c n sts W0.drew (HP0.out.of_same (Nat.le_refl _) (fun _ _ => rfl))).mono ?_; rintro e w2 ⟨rfl, hP2, hk2⟩; have hx2 := hk2.cell (show W0.drew.cell? ⟨x, 0, none⟩ = some (.pointer (some ⟨p, 0, none⟩)) from x0) H2.out.2.1; have hn2 := hk2.cell (show W0.drew.cell? ⟨H, 1, none⟩ = some (.int .i64 n) from n0) hSpH))
  have hk2' : Kept Sp W0 w2 := ((Kept.refl Sp W0).drew).trans' hk2
  have hX2 := hk2'.heap HX0.out H2.out.2.1
  have x1 : w2.cell? ⟨x, 1, none⟩ = some (.pointer (some ⟨q, 0, none⟩)) := by rw [cell_at hX2]; rfl
  have HX2 : Hid _ := hX2
  have HP2 : Hid (PInv Sp p (tickClk c n) sts w2) := hP2
  have HW2 : Hid (WInv Sw q c sts w2) := HW0.out.kept hk2' (fun k hw hp => H7.out.1 k hp hw)
  have HK2 : Hid (Kept Sp w w2) := (HK0.out.mono (fun _ x => x.elim)).trans' hk2'
  have hmm : w2.cell? ⟨H, 1, none⟩ = some (.int .i64 n) := hn2
  clear hP2 hk2 hx2 hk2' hX2 x0 n0 hn2
  go_wp2_with fail
  go_region_held3 (fun w' => w'.cell? ⟨x, 1, none⟩ = some (.pointer (some ⟨q, 0, none⟩)) ∧ w'.cell? ⟨H, 1, none⟩ = some (.int .i64 n))
    (first | exact ⟨hx3, hn3⟩ | exact ⟨x1, hmm⟩)
    (first
      | (go_at_call 42; refine (wtick_inv Sw q c n sts w2.drew (HW2.out.of_same (Nat.le_refl _) (fun _ _ => rfl))).mono ?_; rintro e w3 ⟨rfl, hW3, hk3⟩; have hx3 := hk3.cell (show w2.drew.cell? ⟨x, 1, none⟩ = some (.pointer (some ⟨q, 0, none⟩)) from x1) H2.out.2.2; have hn3 := hk3.cell (show w2.drew.cell? ⟨H, 1, none⟩ = some (.int .i64 n) from hmm) hSwH))
  have hk3' : Kept Sw w2 w3 := ((Kept.refl Sw w2).drew).trans' hk3
  have HP3 : Hid (PInv Sp p (tickClk c n) sts w3) := HP2.out.kept hk3' (fun k hp hw => H7.out.1 k hp hw)
  have HW3 : Hid (WInv Sw q (tickClk c n) sts w3) := hW3
  have HX3 : Hid _ := hk3'.heap HX2.out H2.out.2.2
  have HK3 : Hid (Kept S w w3) := (HK2.out.mono H7.out.2.1).trans (hk3'.mono H7.out.2.2) (fun _ x => .inl x)
  clear hW3 hk3 hk3' hx3 hn3 x1 hmm
  generalize tickErr c n = er at *
  have ee : (er == er) = true := by simp
  go_wp2_with fail
  go_ret
  exact ⟨ret_boolT (by simp), HK3.out, ⟨fun k hk => Nat.lt_of_lt_of_le (HL.out k hk) HK3.out.size, Sp, Sw, HX3.out, H2.out.1, H2.out.2.1, H2.out.2.2, HP3.out, HW3.out, H7.out.1, H7.out.2.1, H7.out.2.2⟩⟩

set_option maxRecDepth 100000 in
set_option maxHeartbeats 6400000 in
theorem play_admit (x p q o n cp : Nat) (S : Nat → Prop) (c s i : Int) (ao : Option Addr) (sts : List Int) (l : List Op4) (w : World) (h : QInv x p q o S c sts w) (hn : l.length = n) (hl : n ≤ 1048576) (hin : OpsIn l) (ho : 0 < n → ∃ b off, ao = some ⟨b, off, none⟩ ∧ OpsAt w b off l ∧ ¬ S b) :
    Calls Tryz.prog 16 #[.pointer (some ⟨x, 0, none⟩), .agg #[.int .i64 2, .int .i64 i, .int .i64 s, .slice ao n cp]] w fun e w' => e = .returned (.bool true) ∧ Kept S w w' ∧ ∃ S', QInv x p q o S' (admClk l sts c) (admSts l sts c) w' ∧ ∀ k, S' k → S k ∨ w.heap.size ≤ k := by
  have hk0 : Kept NoBlk w (w.alloc (.cells #[.int .i64 2, .int .i64 i, .int .i64 s, .slice ao n cp] 41)) := (Kept.refl _ _).alloc _
  have HPA : Hid (Calls Tryz.prog 43 #[.pointer (some ⟨x, 0, none⟩), .slice ao n cp] (w.alloc (.cells #[.int .i64 2, .int .i64 i, .int .i64 s, .slice ao n cp] 41)) fun e w' => e = .returned (.bool true) ∧ Kept S (w.alloc (.cells #[.int .i64 2, .int .i64 i, .int .i64 s, .slice ao n cp] 41)) w' ∧ ∃ S', QInv x p q o S' (admClk l sts c) (admSts l sts c) w' ∧ ∀ k, S' k → S k ∨ (w.alloc (.cells #[.int .i64 2, .int .i64 i, .int .i64 s, .slice ao n cp] 41)).heap.size ≤ k) := (padmit_pair x p q o n cp ao S c sts l (w.alloc (.cells #[.int .i64 2, .int .i64 i, .int .i64 s, .slice ao n cp] 41)) (h.kept hk0 (fun _ _ x => x)) hn hl hin (fun h0 => by
    obtain ⟨b, off, e, hat, hb⟩ := ho h0
    exact ⟨b, off, e, hat.kept hk0 (fun x => x), hb⟩))
  have HK0 : Hid _ := hk0
  clear h hn ho hk0
  go_enter Tryz.func16, Tryz.ntmps16
  go_wp2_with fail
  refine HPA.out.mono ?_
  rintro e w1 ⟨rfl, hk, S', hQ, hS⟩
  have HQ : Hid (QInv x p q o S' (admClk l sts c) (admSts l sts c) w1) := hQ
  have HK : Hid _ := hk
  have HS : Hid _ := hS
  clear hQ hk hS
  go_wp2_with fail
  go_ret
  refine ⟨rfl, (HK0.out.mono (fun _ x => x.elim)).trans' HK.out, S', HQ.out, fun k hk => ?_⟩
  rcases HS.out k hk with h | h
  · exact .inl h
  · right
    have := HK0.out.size
    omega
end Go.Proofs.YtmcajfefagdbnaaGreat
