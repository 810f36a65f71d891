/-
  '(*picks).next' of the disk: one of n, by the next choice.
-/
import Derived.Test.YtnipbplghijdmaaLaws
namespace Go.Proofs.Ytnipbplghijdmaa
open Go.RowKit Go.Maps Go.WideShapes
set_option linter.unusedVariables false

/-- Which of n a choice is. -/
def pickOf (c : Int) (n : Nat) : Nat := ((if c < 0 then -(c + 1) else c) % n).toNat

/-- Block p has these choices; they lie in block g. -/
def Picks (w : World) (p : Nat) (l : List Int) : Prop :=
  (l = [] ∧ ∃ a c, w.heap[p]? = some (.cells #[.slice a 0 c] 62 (0, 0))) ∨
  ∃ g o c, w.heap[p]? = some (.cells #[.slice (some ⟨g, o, none⟩) l.length c] 62 (0, 0)) ∧ l.length ≤ c ∧ c ≤ maxLen ∧ g ≠ p ∧ (∀ j, j < l.length → w.cell? ⟨g, o + j, none⟩ = some (.int .i64 (l.getD j 0))) ∧ ∀ x ∈ l, -9223372036854775808 ≤ x ∧ x ≤ 9223372036854775807

theorem ret_int {k : IntKind} {a b : Int} (h : a = b) : Ending.returned (.int k a) = .returned (.int k b) := by rw [h]
theorem pick_neg {x : Int} {n : Nat} (hx : x < 0) (hn : 0 < n) : -((x + 1).tmod n) = (pickOf x n : Int) := by
  unfold pickOf
  rw [if_pos hx, ← Int.neg_tmod, Int.tmod_eq_emod_of_nonneg (by omega)]
  have := Int.emod_nonneg (-(x + 1)) (b := (n : Int)) (by omega)
  omega
theorem pick_pos {x : Int} {n : Nat} (hx : ¬ x < 0) (hn : 0 < n) : x % (n : Int) = (pickOf x n : Int) := by
  unfold pickOf
  rw [if_neg hx]
  have := Int.emod_nonneg x (b := (n : Int)) (by omega)
  omega

set_option maxHeartbeats 1000000 in
theorem next_nil (w : World) (p n : Nat) (a : Option Addr) (c : Nat) (h : w.heap[p]? = some (.cells #[.slice a 0 c] 62 (0, 0))) :
    Calls Try.prog 25 #[.pointer (some ⟨p, 0, none⟩), .int .i64 n] w fun e w' => e = .returned (.int .i64 0) ∧ w' = w := by
  have c0 := cell_of_heap (o := 0) h
  simp at c0
  clear h
  go_enter Try.func25, Try.ntmps25
  go_wp2
  go_ret
  exact ⟨rfl, rfl⟩

set_option maxHeartbeats 1000000 in
theorem next_cons (w : World) (p n g o c : Nat) (x : Int) (r : List Int) (hn : 0 < n) (hn2 : n < 9223372036854775807) (h : w.heap[p]? = some (.cells #[.slice (some ⟨g, o, none⟩) (r.length + 1) c] 62 (0, 0)))
    (hc : r.length + 1 ≤ c) (hcm : c ≤ maxLen) (hx : w.cell? ⟨g, o, none⟩ = some (.int .i64 x)) (hb : -9223372036854775808 ≤ x ∧ x ≤ 9223372036854775807) :
    Calls Try.prog 25 #[.pointer (some ⟨p, 0, none⟩), .int .i64 n] w fun e w' => e = .returned (.int .i64 (pickOf x n)) ∧ w' = w.setCell ⟨p, 0, none⟩ (.slice (if c = 1 then some ⟨g, o, none⟩ else some ⟨g, o + 1, none⟩) r.length (c - 1)) := by
  have c0 := cell_of_heap (o := 0) h
  have f0 := frozen_of_heap (o := 0) h
  simp at c0
  clear h
  unfold maxLen at hcm
  obtain ⟨hb1, hb2⟩ := hb
  have hnz : ¬ (n : Int) = 0 := by omega
  by_cases hc1 : c = 1
  · subst hc1
    go_enter Try.func25, Try.ntmps25
    go_wp2
    all_goals go_ret
    all_goals have hr : r.length = 0 := by omega
    · exact ⟨ret_int (pick_neg (by omega) hn), by rw [hr]⟩
    · exact ⟨ret_int (pick_pos (by omega) hn), by rw [hr]⟩
  · go_enter Try.func25, Try.ntmps25
    go_wp2
    all_goals go_ret
    · exact ⟨ret_int (pick_neg (by omega) hn), rfl⟩
    · exact ⟨ret_int (pick_pos (by omega) hn), rfl⟩

/-- The next choice (0, if there are no more). -/
theorem next_any {w : World} {p : Nat} {l : List Int} (n : Nat) (hn : 0 < n) (hn2 : n < 9223372036854775807) (h : Picks w p l) :
    Calls Try.prog 25 #[.pointer (some ⟨p, 0, none⟩), .int .i64 n] w fun e w' => e = .returned (.int .i64 (pickOf (l.headD 0) n)) ∧ Picks w' p l.tail ∧ Keeps w w' (fun i => i = p) := by
  cases l with
  | nil =>
    have h' : ∃ a c, w.heap[p]? = some (.cells #[.slice a 0 c] 62 (0, 0)) := by
      rcases h with ⟨_, h⟩ | ⟨g, o, c, h, _⟩
      · exact h
      · exact ⟨_, _, h⟩
    obtain ⟨a, c, h1⟩ := h'
    refine (next_nil w p n a c h1).mono ?_
    rintro e w' ⟨rfl, rfl⟩
    exact ⟨by simp [pickOf], .inl ⟨rfl, a, c, h1⟩, Keeps.refl _ _⟩
  | cons x r =>
    rcases h with ⟨e, _⟩ | ⟨g, o, c, h, hc, hcm, hgp, hcell, hbd⟩
    · cases e
    refine (next_cons w p n g o c x r hn hn2 h hc hcm (by simpa using hcell 0 (by simp)) (hbd x (by simp))).mono ?_
    rintro e w' ⟨rfl, rfl⟩
    refine ⟨rfl, ?_, Keeps.setCell _ _ _⟩
    by_cases hc1 : c = 1
    · have hr : r = [] := List.eq_nil_of_length_eq_zero (by simp at hc; omega)
      subst hr
      exact .inl ⟨rfl, _, _, by rw [heap_setCell_at h]; rfl⟩
    · refine .inr ⟨g, o + 1, c - 1, by rw [heap_setCell_at h, if_neg hc1]; rfl, by simp at hc ⊢; omega, by omega, hgp, fun j hj => ?_, fun y hy => hbd y (by simp at hy ⊢; exact .inr hy)⟩
      have h1 := hcell (j + 1) (by simpa using hj)
      rw [show o + 1 + j = o + (j + 1) by omega]
      rw [(Keeps.setCell w _ _).cell h1 hgp]
      simp
end Go.Proofs.Ytnipbplghijdmaa
