/-
  New, Create, Fail and Cut of the disk, over a disk that is as told.
-/
import Derived.Test.YtnipbplghijdmaaNameRep
namespace Go.Proofs.Ytnipbplghijdmaa
open Go.RowKit Go.Maps Go.WideShapes
set_option linter.unusedVariables false

/-! ### New -/
def DiskA.new : DiskA := { names := .map [], safe := .map [], late := [], files := fun _ => none, calls := 0, fail := -1, cut := -1, wrote := 0 }
def newRole (n : Nat) (i : Nat) : Role := if i = n then .names else if i = n + 1 then .safe else if i = n + 2 then .disk else .none

theorem new_walk (w : World) : Calls Try.prog 4 #[] w fun e w' => e = .returned (.pointer (some ⟨w.heap.size + 2, 0, none⟩)) ∧
    w' = ((w.alloc (.map #[] 0)).alloc (.map #[] 0)).alloc (.cells #[.map (some w.heap.size), .map (some (w.heap.size + 1)), .slice none 0 0, .int .i64 0, .int .i64 (-1), .int .i64 (-1), .int .i64 0] 45 (0, 0)) := by
  have hmm := @run_makeMap Try.prog
  go_enter Try.func4, Try.ntmps4
  go_wp2
  go_ret
  exact ⟨rfl, rfl⟩

theorem new_any (w : World) : Calls Try.prog 4 #[] w fun e w' => e = .returned (.pointer (some ⟨w.heap.size + 2, 0, none⟩)) ∧
    Rep w' (newRole w.heap.size) (w.heap.size + 2) DiskA.new ∧ Keeps w w' (fun _ => False) := by
  refine (new_walk w).mono ?_
  rintro e w' ⟨rfl, rfl⟩
  have s1 : (w.alloc (.map #[] 0)).heap.size = w.heap.size + 1 := by simp
  have s2 : ((w.alloc (.map #[] 0)).alloc (.map #[] 0)).heap.size = w.heap.size + 2 := by simp
  refine ⟨rfl, ⟨⟨w.heap.size, w.heap.size + 1, .slice none 0 0, ?_, ?_, ?_, ?_, ?_, World.ownsRow_nil _ _ _ _, fun g hg => (by cases hg)⟩, ?_, fun f a h => (by cases h), fun k hk => (by cases hk), fun k hk => (by cases hk), fun c hc => (by cases hc), ?_, ?_, ?_⟩, ((Keeps.refl w _).more _).more _ |>.more _⟩
  · have := heap_alloc_top ((w.alloc (.map #[] 0)).alloc (.map #[] 0)) (.cells #[.map (some w.heap.size), .map (some (w.heap.size + 1)), .slice none 0 0, .int .i64 0, .int .i64 (-1), .int .i64 (-1), .int .i64 0] 45 (0, 0))
    rw [s2] at this; exact this
  · simp [newRole]
  · simp [newRole]
  · exact ((World.ownsMap_made w _ _ _).alloc _).alloc _
  · have := World.ownsMap_made (H := Nat) (w.alloc (.map #[] 0)) Try.prog 9 fileElem
    rw [s1] at this
    exact this.alloc _
  · simp [newRole]
  · intro i hi
    unfold newRole at hi
    simp
    split at hi
    · omega
    · split at hi
      · omega
      · split at hi
        · omega
        · exact absurd rfl hi
  · simp [DiskA.new]
  · simp [DiskA.new]

/-! ### a new file -/
def newFile : FileA := ⟨[], 0, []⟩
def DiskA.withFile (S : DiskA) (f : Nat) (a : FileA) : DiskA := { S with files := fun i => if i = f then some a else S.files i }

theorem Small.withFile {S : DiskA} (h : Small S) (f : Nat) {a : FileA} (ha : a.bytes.length < 1099511627776 ∧ a.late.length < 1099511627776 ∧ a.safe < 1099511627776) : Small (S.withFile f a) := by
  refine ⟨h.names, h.safe, h.late, fun g b hb => ?_⟩
  simp only [DiskA.withFile] at hb
  split at hb
  · cases hb; exact ha
  · exact h.files g b hb

theorem Rep.addFile {w : World} {ρ : Nat → Role} {d : Nat} {S : DiskA} (R : Rep w ρ d S) :
    Rep (w.alloc (.cells #[.slice none 0 0, .int .i64 0, .slice none 0 0] 51 (0, 0))) (fun i => if i = w.heap.size then .file else ρ i) d (S.withFile w.heap.size newFile) ∧ S.files w.heap.size = none ∧
    Grew w ρ (w.alloc (.cells #[.slice none 0 0, .int .i64 0, .slice none 0 0] 51 (0, 0))) (fun i => if i = w.heap.size then .file else ρ i) := by
  obtain ⟨⟨nm, sm, lv, hd, rn, rs, on, os, ol, rl⟩, rd, rf, nt, st, lo, hlt, fb, cb⟩ := R
  have hnone : S.files w.heap.size = none := by
    cases h : S.files w.heap.size with
    | none => rfl
    | some a =>
      have := hlt w.heap.size (by rw [(rf _ a h).1]; decide)
      omega
  have hρ : ∀ i, i < w.heap.size → (if i = w.heap.size then Role.file else ρ i) = ρ i := fun i hi => if_neg (by omega)
  have hk := Keeps.alloc w (.cells #[.slice none 0 0, .int .i64 0, .slice none 0 0] 51 (0, 0)) (fun _ => False)
  have hm : ∀ f a, S.files f = some a → ∃ a', (S.withFile w.heap.size newFile).files f = some a' := by
    intro f a h
    exact ⟨a, by simp only [DiskA.withFile]; rw [if_neg (fun e => by rw [e, hnone] at h; cases h)]; exact h⟩
  have hof : ∀ g, g < w.heap.size → ∀ r, ρ g = r → (if g = w.heap.size then Role.file else ρ g) = r := fun g hg r hr => (hρ g hg).trans hr
  refine ⟨⟨⟨nm, sm, lv, hk.same hd id, hof nm (hlt nm (by rw [rn]; decide)) _ rn, hof sm (hlt sm (by rw [rs]; decide)) _ rs, hk.map on id, hk.map os id, hk.row ol (fun _ _ => id), fun g hg => hof g (ol.lt g hg).2 _ (rl g hg)⟩, hof d (hlt d (by rw [rd]; decide)) _ rd, ?_, nt.mono hm, st.mono hm, fun c hc => (lo c hc).mono hm, ?_, fb, cb⟩, hnone, ⟨hk.mono (fun _ _ h => h.elim), hρ⟩⟩
  · intro f a hf
    simp only [DiskA.withFile] at hf
    split at hf
    · rename_i e
      cases hf
      subst e
      exact ⟨by simp, .slice none 0 0, .slice none 0 0, heap_alloc_top w _, World.ownsRow_nil _ _ _ _, fun g hg => (by cases hg), World.ownsRow_nil _ _ _ _, fun g hg => (by cases hg)⟩
    · exact (rf f a hf).keep hk hρ id (fun _ _ => id) (fun _ _ => id)
  · intro i hi
    simp
    by_cases e : i = w.heap.size
    · omega
    · rw [if_neg e] at hi
      have := hlt i hi
      omega

/-! ### Create -/
theorem create_any {w : World} {ρ : Nat → Role} {d : Nat} {S : DiskA} (nm : Str) (R : Rep w ρ d S) (Z : Small S) (hn : nm.length < 1099511627776) :
    Calls Try.prog 5 #[.pointer (some ⟨d, 0, none⟩), strV nm] w fun e w' => ∃ ρ', Grew w ρ w' ρ' ∧
      ((S.bad = true ∧ e = .returned (.int .i64 1) ∧ Rep w' ρ' d (S.called true)) ∨
       (S.bad = false ∧ nm = [] ∧ e = .returned (.int .i64 2) ∧ Rep w' ρ' d (S.called true)) ∨
       (S.bad = false ∧ nm ≠ [] ∧ e = .returned (.int .i64 0) ∧ ∃ f, S.files f = none ∧ Rep w' ρ' d (((S.called true).withFile f newFile).named ⟨nm, [], [], some f⟩))) := by
  have hN : nm.isEmpty = true ∨ nm.isEmpty = false := by cases nm.isEmpty <;> simp
  have hB : S.bad = true ∨ S.bad = false := by cases S.bad <;> simp
  rcases hB with hB | hB
  · go_enter Try.func5, Try.ntmps5
    go_wp2_with (go_at_call 19; refine (call_any true R).mono ?_; rintro e w1 ⟨rfl, R1, G1⟩)
    go_ret
    exact ⟨ρ, G1, .inl ⟨hB, rfl, R1⟩⟩
  · rcases hN with hN | hN
    · go_enter Try.func5, Try.ntmps5
      go_wp2_with (go_at_call 19; refine (call_any true R).mono ?_; rintro e w1 ⟨rfl, R1, G1⟩)
      go_ret
      exact ⟨ρ, G1, .inr (.inl ⟨hB, by simpa using hN, rfl, R1⟩)⟩
    · go_enter Try.func5, Try.ntmps5
      go_wp2_with (first
        | (go_at_call 19; refine (call_any true R).mono ?_; rintro e w1 ⟨rfl, R1, G1⟩)
        | (go_at_call 20; obtain ⟨R2, hnone, G2⟩ := R1.addFile; refine (name_any nm [] [] (some w1.heap.size) R2 ((Z.called true).withFile _ (by simp [newFile])) ⟨hn, by simp, by simp, fun _ => ⟨_, newFile, rfl, by simp [DiskA.withFile]⟩⟩).mono ?_; rintro e w2 ⟨rfl, ρ2, R3, G3⟩))
      go_ret
      exact ⟨ρ2, (G1.trans G2).trans G3, .inr (.inr ⟨hB, by simpa using hN, rfl, _, hnone, R3⟩)⟩

/-! ### Fail, Cut -/
theorem Rep.setInts {w w' : World} {ρ : Nat → Role} {d : Nat} {S : DiskA} (R : Rep w ρ d S) (c f k x : Int) (hk : Keeps w w' (fun i => i = d))
    (hd' : ∀ nm sm lv, w.heap[d]? = some (.cells #[nm, sm, lv, .int .i64 S.calls, .int .i64 S.fail, .int .i64 S.cut, .int .i64 S.wrote] 45 (0, 0)) → w'.heap[d]? = some (.cells #[nm, sm, lv, .int .i64 c, .int .i64 f, .int .i64 k, .int .i64 x] 45 (0, 0)))
    (fb' : -1 ≤ f ∧ f ≤ 9223372036854775807) (cb' : -1 ≤ k ∧ k ≤ 9223372036854775807) : Rep w' ρ d { S with calls := c, fail := f, cut := k, wrote := x } ∧ Grew w ρ w' ρ := by
  obtain ⟨⟨nm, sm, lv, hd, rn, rs, on, os, ol, rl⟩, rd, rf, nt, st, lo, hlt, fb, cb⟩ := R
  have hn : ∀ i, ρ i ≠ .disk → ¬ i = d := fun i hi e => hi (e ▸ rd)
  refine ⟨⟨⟨nm, sm, lv, hd' _ _ _ hd, rn, rs, hk.map on (hn nm (by rw [rn]; decide)), hk.map os (hn sm (by rw [rs]; decide)), hk.row ol (fun g hg => hn g (by rw [rl g hg]; decide)), rl⟩, rd, ?_, nt, st, lo, fun i hi => Nat.lt_of_lt_of_le (hlt i hi) hk.size, fb', cb'⟩, ?_⟩
  · intro f a hf
    exact (rf f a hf).keep hk (fun _ _ => rfl) (hn f (by rw [(rf f a hf).1]; decide)) (fun i hi => hn i (by rw [hi]; exact fun h => by cases h)) (fun i hi => hn i (by rw [hi]; exact fun h => by cases h))
  · exact Grew.of hk (fun i _ e => by rw [e, rd]; decide)

set_option maxHeartbeats 400000 in
theorem fail_any {w : World} {ρ : Nat → Role} {d : Nat} {S : DiskA} (n : Int) (hn : n ≤ 9223372036854775807) (R : Rep w ρ d S) :
    Calls Try.prog 14 #[.pointer (some ⟨d, 0, none⟩), .int .i64 n] w fun e w' => e = .returned (.tuple #[]) ∧ Rep w' ρ d { S with fail := max n (-1) } ∧ Grew w ρ w' ρ := by
  obtain ⟨nm, sm, lv, hd, _⟩ := R.mem
  have c4 := cell_of_heap (o := 4) hd
  have f4 := frozen_of_heap (o := 4) hd
  simp at c4
  clear hd
  go_enter Try.func14, Try.ntmps14
  go_wp2
  all_goals go_end0
  · refine ⟨rfl, ?_⟩
    have e : max n (-1) = -1 := by omega
    rw [e]
    exact R.setInts S.calls (-1) S.cut S.wrote (Keeps.setCell w _ _) (fun _ _ _ h => by rw [heap_setCell_at h]; rfl) (by omega) R.cutBd
  · refine ⟨rfl, ?_⟩
    have e : max n (-1) = n := by omega
    rw [e]
    exact R.setInts S.calls n S.cut S.wrote (Keeps.setCell w _ _) (fun _ _ _ h => by rw [heap_setCell_at h]; rfl) (by omega) R.cutBd

set_option maxHeartbeats 400000 in
theorem cut_any {w : World} {ρ : Nat → Role} {d : Nat} {S : DiskA} (n : Int) (hn : n ≤ 9223372036854775807) (R : Rep w ρ d S) :
    Calls Try.prog 15 #[.pointer (some ⟨d, 0, none⟩), .int .i64 n] w fun e w' => e = .returned (.tuple #[]) ∧ Rep w' ρ d { S with cut := max n (-1) } ∧ Grew w ρ w' ρ := by
  obtain ⟨nm, sm, lv, hd, _⟩ := R.mem
  have c4 := cell_of_heap (o := 5) hd
  have f4 := frozen_of_heap (o := 5) hd
  simp at c4
  clear hd
  go_enter Try.func15, Try.ntmps15
  go_wp2
  all_goals go_end0
  · refine ⟨rfl, ?_⟩
    have e : max n (-1) = -1 := by omega
    rw [e]
    exact R.setInts S.calls S.fail (-1) S.wrote (Keeps.setCell w _ _) (fun _ _ _ h => by rw [heap_setCell_at h]; rfl) R.failBd (by omega)
  · refine ⟨rfl, ?_⟩
    have e : max n (-1) = n := by omega
    rw [e]
    exact R.setInts S.calls S.fail n S.wrote (Keeps.setCell w _ _) (fun _ _ _ h => by rw [heap_setCell_at h]; rfl) R.failBd (by omega)
end Go.Proofs.Ytnipbplghijdmaa
