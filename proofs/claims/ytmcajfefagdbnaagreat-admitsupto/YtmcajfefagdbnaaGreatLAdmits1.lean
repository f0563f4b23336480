import Derived.Test.YtmcajfefagdbnaaGreatLPlayTxn
import Derived.Test.YtmcajfefagdbnaaGreatLBegun
import Derived.Test.YtmcajfefagdbnaaGreatLRising
namespace Go.Proofs.YtmcajfefagdbnaaGreat
open Go Go.RowKit

/-- One step of a script: its numbers, and its operations. -/
structure SOp where
  k : Int
  n : Int
  s : Int
  oa : Option Addr
  oc : Nat
  l : List Op4

/-- A step's operations lie in memory that is as it was. -/
def SOp.at (w : World) (o : SOp) : Prop := (o.l.length ≤ 1048576 ∧ OpsIn o.l) ∧ (0 < o.l.length → ∃ b off, o.oa = some ⟨b, off, none⟩ ∧ OpsAt w b off o.l)

/-- play, of a kind that this statement speaks of. -/
theorem play_any (x p q o N M : Nat) (S T : Nat → Prop) (c : Int) (sts : List Int) (u : SOp) (w0 w : World) (h : QInv x p q o S c sts w) (hB : BInv T o N M w) (hN : N ≤ 16777000) (hM : M ≤ 16777000) (hd : Disj S T)
    (hk : u.k = 1 ∨ u.k = 2 ∨ u.k = 5) (hw : Kept NoBlk w0 w) (hu : u.at w0) (hS : ∀ k, S k → w0.heap.size ≤ k) :
    Calls Tryz.prog 16 #[.pointer (some ⟨x, 0, none⟩), .agg #[.int .i64 u.k, .int .i64 u.n, .int .i64 u.s, .slice u.oa u.l.length u.oc]] w fun e w' => e = .returned (.bool true) ∧ Kept (fun k => S k ∨ T k) w w' ∧
      ∃ S' T' c' sts' N' M', QInv x p q o S' c' sts' w' ∧ BInv T' o N' M' w' ∧ Disj S' T' ∧ (∀ k, S' k → S k ∨ w.heap.size ≤ k) ∧ (∀ k, T' k → T k ∨ w.heap.size ≤ k) ∧ N' ≤ N + 4 ∧ M' ≤ M + 4 := by
  obtain ⟨uk, un, us, oa, oc, l⟩ := u
  simp only at hk hu ⊢
  rcases hk with rfl | rfl | rfl
  · refine (play_tick x p q o S c un us oa l.length oc sts w h).mono ?_
    rintro e w' ⟨rfl, hkw, hq⟩
    exact ⟨rfl, hkw.mono (fun _ x => .inl x), S, T, _, sts, N, M, hq, hB.kept hkw (fun k ht hs => hd k hs ht), hd, fun k hk => .inl hk, fun k hk => .inl hk, by omega, by omega⟩
  · refine (play_admit x p q o l.length oc S c us un oa sts l w h rfl hu.1.1 hu.1.2 (fun h0 => ?_)).mono ?_
    · obtain ⟨b, off, e, hat⟩ := hu.2 h0
      refine ⟨b, off, e, hat.kept hw (fun x => x), fun hs => ?_⟩
      have h1 := (hat 0 h0).1
      have hlt : b < w0.heap.size := World.block_lt_of_cell? w0 _ h1
      have := hS b hs
      omega
    · rintro e w' ⟨rfl, hkw, S', hq, hs⟩
      refine ⟨rfl, hkw.mono (fun _ x => .inl x), S', T, _, _, N, M, hq, hB.kept hkw (fun k ht hs => hd k hs ht), fun k hk ht => ?_, hs, fun k hk => .inl hk, by omega, by omega⟩
      rcases hs k hk with h' | h'
      · exact hd k h' ht
      · have := hB.lt k ht; omega
  · refine (play_txn x p q o N M S T c un us oa l.length oc sts w h hB hN hM hd).mono ?_
    rintro e w' ⟨rfl, hkw, hq, T', hb, ht⟩
    refine ⟨rfl, hkw, S, T', c, sts, N + 4, M + 4, hq, hb, fun k hk ht' => ?_, fun k hk => .inl hk, ht, by omega, by omega⟩
    rcases ht k ht' with h' | h'
    · exact hd k hk h'
    · have := h.lt k hk; omega

/-- The pair whose rows may not rise: none, or as the other. -/
def XInv (x o : Nat) (Sy T : Nat → Prop) (B : Nat) (w : World) : Prop :=
  (w.heap[x]? = some (.cells #[.pointer none, .pointer none, .pointer (some ⟨o, 0, none⟩)] 38 (0, 0)) ∧ ¬ Sy x ∧ ¬ T x) ∨
  (∃ p q S c sts, QInv x p q o S c sts w ∧ Disj S Sy ∧ Disj S T ∧ ∀ k, S k → B ≤ k)

theorem begun_inv {w w' : World} {x o : Nat} {l : List Row2} (h : PairNew w w' x o l) (hx : w.heap.size ≤ x) (hr : Rise l) : ∃ p q S, QInv x p q o S 0 [] w' ∧ (∀ k, S k → w.heap.size ≤ k) := by
  rcases h with ⟨hn, _⟩ | ⟨_, p, q, rv, hi, h1, h2, h3, h4, h7, h9, h10, h11⟩
  · exact absurd hr hn
  · have hxq : x ≠ q := blocks_apart h1 h11 (by decide)
    obtain ⟨Sp, s1, s2⟩ := h2.inv
    refine ⟨p, q, fun k => k = x ∨ Sp k ∨ k = q, ⟨?_, Sp, Blk q, h1, .inl rfl, fun e => by have := s2 _ e; omega, hxq, s1, ⟨?_, by omega, by omega, by simp, _, _, _, _, [], h11, rfl, World.ownsRow_nil _ _ _ _, fun k hk => by simp [Value.ownBlock] at hk, rfl, fun i hi => by simp at hi⟩, ?_, fun k hk => .inr (.inl hk), fun k hk => .inr (.inr hk)⟩, ?_⟩
    · rintro k (rfl | hk | rfl)
      · exact lt_of_block h1
      · exact s1.lt k hk
      · exact lt_of_block h11
    · intro k hk; cases hk; exact lt_of_block h11
    · intro k hk hk'; unfold Blk at hk'; subst hk'; have := s2 _ hk; omega
    · rintro k (rfl | hk | rfl)
      · exact hx
      · exact (s2 k hk).1
      · exact h7
end Go.Proofs.YtmcajfefagdbnaaGreat
