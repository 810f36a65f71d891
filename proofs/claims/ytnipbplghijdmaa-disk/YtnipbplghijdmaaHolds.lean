/-
  'holds' (a disk has just one file, of a name, which holds this), where it is so; Names of a disk that fails.
-/
import Derived.Test.YtnipbplghijdmaaAll
import Derived.Test.YtnipbplghijdmaaOps3
import Derived.Laws.IdiomStrings
namespace Go.Proofs.Ytnipbplghijdmaa
open Go.RowKit Go.Maps Go.WideShapes Go.Sort
set_option linter.unusedVariables false

theorem conv_row {w : World} {base : Nat} {p : Option Addr} {c : Nat} {l : List UInt8} (h : w.ownsRow base 5 1 (.slice p l.length c) l.length (l.map byteV)) (hl : 0 < l.length) : (convert 27 9 (.slice p l.length c)).run Try.prog w = .ok (.string ⟨l.toArray⟩) w := by
  rcases h.2 with ⟨e, h0⟩ | ⟨g, cap, cur, e, _⟩
  · omega
  · cases e
    have hc := h.cells (g := g) rfl
    exact run_convert_bytes_back w 27 9 5 ⟨g, 0, none⟩ c l Try.underlying27 Try.underlying5 Try.underlying9 (fun j hj => hc j _ (by simp [List.getElem?_eq_getElem hj]))

set_option maxHeartbeats 1000000 in
theorem holds_true {w : World} {ρ : Nat → Role} {d f : Nat} {S : DiskA} {a : FileA} (nm : Str) (R : Rep w ρ d S) (Z : Small S) (hn : nm.length < 1099511627776) (hk : S.keys = [nm]) (hA : S.at nm = some f) (ha : S.files f = some a) (hpos : 0 < a.bytes.length) :
    Calls Try.prog 12 #[.pointer (some ⟨d, 0, none⟩), strV nm, strV a.bytes] w fun e w' => e = .returned (.bool true) ∧ Keeps w w' (fun _ => False) := by
  go_enter Try.func12, Try.ntmps12
  go_wp2_with fail
  refine (all_any R Z).mono ?_
  rintro e w1 ⟨k1, p1, c1, rfl, hrow1⟩
  rw [hk] at hrow1
  have R1 := R.keep k1 (fun _ h => h.elim)
  rw [hk]
  go_wp2_with fail
  refine (peek_any nm R1 Z hn).mono ?_
  rintro e w2 ⟨k2, h2⟩
  rcases h2 with ⟨h, _⟩ | ⟨f', a', p2, c2, hf', ha', rfl, hrow2⟩
  · rw [hA] at h; cases h
  rw [hA] at hf'
  cases hf'
  rw [ha] at ha'
  cases ha'
  have hconv := conv_row hrow2 hpos
  have hrow3 := k2.row hrow1 (fun _ _ => id)
  rcases hrow3.2 with ⟨e, h0⟩ | ⟨g, cap, cur, e, _⟩
  · simp at h0
  cases e
  have hc := hrow3.cells (g := g) rfl 0 _ rfl
  rw [add_zero] at hc
  go_wp2
  go_ret
  exact ⟨rfl, k1.trans k2 (fun _ _ h => h)⟩

theorem names_bad {w : World} {ρ : Nat → Role} {d : Nat} {S : DiskA} (R : Rep w ρ d S) (hB : S.bad = true) :
    Calls Try.prog 17 #[.pointer (some ⟨d, 0, none⟩)] w fun e w' => e = .returned (.tuple #[.slice none 0 0, .int .i64 1]) ∧ Grew w ρ w' ρ ∧ Rep w' ρ d (S.called false) := by
  go_enter Try.func17, Try.ntmps17
  go_wp2_with (go_at_call 19; refine (call_any false R).mono ?_; rintro e w1 ⟨rfl, R1, G1⟩)
  go_ret2
  exact ⟨rfl, G1, R1⟩
end Go.Proofs.Ytnipbplghijdmaa
