/-
  What '(*Disk).call' does: it counts, and tells whether this call of the disk fails.
-/
import Derived.Test.YtnipbplghijdmaaMem
namespace Go.Proofs.Ytnipbplghijdmaa
open Go.RowKit Go.Maps
set_option linter.unusedVariables false

def DiskA.bad (S : DiskA) : Bool := S.fail == 0 || S.cut == 0

set_option maxHeartbeats 400000 in
theorem call_walk (d : Nat) (nm sm lv : Value) (cs fl ct wr : Int) (ch : Bool) (w : World)
    (h : w.heap[d]? = some (.cells #[nm, sm, lv, .int .i64 cs, .int .i64 fl, .int .i64 ct, .int .i64 wr] 45 (0, 0)))
    (hf : -1 ≤ fl ∧ fl ≤ 9223372036854775807) (hc : -1 ≤ ct ∧ ct ≤ 9223372036854775807) :
    Calls Try.prog 19 #[.pointer (some ⟨d, 0, none⟩), .bool ch] w fun e w' => e = .returned (.bool (fl == 0 || ct == 0)) ∧
      w'.heap[d]? = some (.cells #[nm, sm, lv, .int .i64 (wrap64 (cs + 1)), .int .i64 (if 0 ≤ fl then fl - 1 else fl), .int .i64 (if 0 < ct then ct - 1 else ct), .int .i64 (if ch then wrap64 (wr + 1) else wr)] 45 (0, 0)) ∧
      Keeps w w' (fun i => i = d) := by
  have c3 := cell_of_heap (o := 3) h
  have c4 := cell_of_heap (o := 4) h
  have c5 := cell_of_heap (o := 5) h
  have c6 := cell_of_heap (o := 6) h
  have f3 := frozen_of_heap (o := 3) h
  have f4 := frozen_of_heap (o := 4) h
  have f5 := frozen_of_heap (o := 5) h
  have f6 := frozen_of_heap (o := 6) h
  simp at c3 c4 c5 c6
  obtain ⟨hf1, hf2⟩ := hf
  obtain ⟨hc1, hc2⟩ := hc
  have H : Hid (w.heap[d]? = _) := h
  clear h
  go_enter Try.func19, Try.ntmps19
  go_wp2
  all_goals go_ret
  all_goals exact ⟨rfl, by have h := H.out; simp [World.setCell, Array.getElem?_modify, h], by repeat (first | exact Keeps.refl _ _ | refine Keeps.set ?_ (by exact rfl) _)⟩

/-- One more call. -/
def DiskA.called (S : DiskA) (ch : Bool) : DiskA :=
  { S with calls := wrap64 (S.calls + 1), fail := if 0 ≤ S.fail then S.fail - 1 else S.fail, cut := if 0 < S.cut then S.cut - 1 else S.cut, wrote := if ch then wrap64 (S.wrote + 1) else S.wrote }

theorem call_any {w : World} {ρ : Nat → Role} {d : Nat} {S : DiskA} (ch : Bool) (R : Rep w ρ d S) :
    Calls Try.prog 19 #[.pointer (some ⟨d, 0, none⟩), .bool ch] w fun e w' => e = .returned (.bool S.bad) ∧ Rep w' ρ d (S.called ch) ∧ Grew w ρ w' ρ := by
  obtain ⟨⟨nm, sm, lv, hd, rn, rs, on, os, ol, rl⟩, rd, rf, nt, st, lo, hlt, fb, cb⟩ := R
  refine (call_walk d _ _ lv S.calls S.fail S.cut S.wrote ch w hd fb cb).mono ?_
  rintro e w' ⟨rfl, hd', hk⟩
  have hn : ∀ i, ρ i ≠ .disk → ¬ i = d := fun i hi e => hi (e ▸ rd)
  refine ⟨rfl, ⟨⟨nm, sm, lv, hd', rn, rs, hk.map on (hn nm (by rw [rn]; decide)), hk.map os (hn sm (by rw [rs]; decide)), hk.row ol (fun g hg => hn g (by rw [rl g hg]; decide)), rl⟩, rd, ?_, nt, st, lo, fun i hi => Nat.lt_of_lt_of_le (hlt i hi) hk.size, ?_, ?_⟩, ?_⟩
  · intro f a hf
    exact (rf f a hf).keep hk (fun _ _ => rfl) (hn f (by rw [(rf f a hf).1]; decide)) (fun i hi => hn i (by rw [hi]; exact fun h => by cases h)) (fun i hi => hn i (by rw [hi]; exact fun h => by cases h))
  · simp only [DiskA.called]; split <;> omega
  · simp only [DiskA.called]; split <;> omega
  · exact Grew.of hk (fun i _ e => by rw [e, rd]; decide)

theorem Small.called {S : DiskA} (h : Small S) (ch : Bool) : Small (S.called ch) := ⟨h.names, h.safe, h.late, h.files⟩
end Go.Proofs.Ytnipbplghijdmaa
