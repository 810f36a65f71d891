/-
  '(*Disk).name' over a disk that is as told.
-/
import Derived.Test.YtnipbplghijdmaaName
import Derived.Test.YtnipbplghijdmaaCall
namespace Go.Proofs.Ytnipbplghijdmaa
open Go.RowKit Go.Maps Go.WideShapes
set_option linter.unusedVariables false

theorem leads_put {D : DataW Nat} {fs : Nat → Option FileA} {f : Nat} {a : FileA} (hD : IsMap D) (h : Leads D fs) (hf : fs f = some a) (s : Str) : Leads (D.put (.string s) (.held f)) fs := by
  intro k hk
  by_cases e : k = .string s
  · subst e
    exact ⟨f, a, atKey_put_same (k := .string s) hD (by trivial) _ _, hf⟩
  · rw [has_put_other e] at hk
    obtain ⟨f', a', h1, h2⟩ := h k hk
    exact ⟨f', a', by rw [atKey_put_other e]; exact h1, h2⟩
theorem leads_del {D : DataW Nat} {fs : Nat → Option FileA} (h : Leads D fs) (s : Str) : Leads (D.del (.string s)) fs := by
  intro k hk
  by_cases e : k = .string s
  · subst e
    rw [has_del_same] at hk; cases hk
  · rw [has_del_other e] at hk
    obtain ⟨f', a', h1, h2⟩ := h k hk
    exact ⟨f', a', by rw [atKey_del_other e]; exact h1, h2⟩
theorem leads_do {D : DataW Nat} {fs : Nat → Option FileA} {c : ChangeA} (hD : IsMap D) (h : Leads D fs) (hc : ChOk fs c) : Leads (doA D c) fs := by
  obtain ⟨_, _, _, h4⟩ := hc
  unfold doA
  split
  · rename_i hm
    obtain ⟨f, a, e, hf⟩ := h4 (.inl (by intro e; rw [e] at hm; cases hm))
    rw [e]; exact leads_put hD h hf _
  · split
    · rename_i hm
      obtain ⟨f, a, e, hf⟩ := h4 (.inr (by intro e; rw [e] at hm; cases hm))
      rw [e]
      split
      · exact leads_del (leads_put hD h hf _) _
      · exact leads_put hD h hf _
    · exact leads_del h _

/-- A change of names, as told. -/
def DiskA.named (S : DiskA) (c : ChangeA) : DiskA := { S with names := doA S.names c, late := S.late ++ [c] }

theorem name_any {w : World} {ρ : Nat → Role} {d : Nat} {S : DiskA} (mk sr ds : Str) (f : Option Nat) (R : Rep w ρ d S) (Z : Small S) (hc : ChOk S.files ⟨mk, sr, ds, f⟩) :
    Calls Try.prog 20 #[.pointer (some ⟨d, 0, none⟩), .agg #[strV mk, strV sr, strV ds, ptrV f]] w fun e w' => e = .returned (.tuple #[]) ∧ ∃ ρ', Rep w' ρ' d (S.named ⟨mk, sr, ds, f⟩) ∧ Grew w ρ w' ρ' := by
  obtain ⟨⟨nm, sm, lv, hd, rn, rs, on, os, ol, rl⟩, rd, rf, nt, st, lo, hlt, fb, cb⟩ := R
  have hnd : nm ≠ d := fun e => by rw [e, rd] at rn; cases rn
  have hlv : ∀ g, lv.ownBlock = some g → g ≠ d ∧ g ≠ nm := fun g hg => by
    have hr := rl g hg
    exact ⟨fun e => (by rw [e, rd] at hr; cases hr), fun e => (by rw [e, rn] at hr; cases hr)⟩
  refine (name_walk d nm (Maps.size S.names) S.names S.late mk sr ds f _ lv _ _ _ _ w hd on Z.names hc.1 hc.2.1 hc.2.2.1 ol Z.late hnd hlv).mono ?_
  rintro e w' ⟨rfl, lv', hd', on', ol', hloc, hk⟩
  have hT : ∀ i, ρ i ≠ .disk → ρ i ≠ .names → ρ i ≠ .late → ¬ (i = d ∨ i = nm ∨ some i = lv.ownBlock) := by
    rintro i h1 h2 h3 (e | e | e)
    · exact h1 (e ▸ rd)
    · exact h2 (e ▸ rn)
    · exact h3 (rl i e.symm)
  have hTn : ∀ i, i < w.heap.size → (i = d ∨ i = nm ∨ some i = lv.ownBlock) → ρ i ≠ .none := by
    rintro i _ (e | e | e)
    · rw [e, rd]; decide
    · rw [e, rn]; decide
    · rw [rl i e.symm]; decide
  refine ⟨rfl, fun i => if some i = lv'.ownBlock then .late else ρ i, ?_, ⟨hk.mono hTn, fun i hi => ?_⟩⟩
  · have hρ : ∀ i, i < w.heap.size → (if some i = lv'.ownBlock then Role.late else ρ i) = ρ i := by
      intro i hi
      split
      · rename_i e
        rcases hloc with e1 | ⟨g, e1, hg⟩
        · rw [e1] at e; exact (rl i e.symm).symm
        · rw [e1] at e; have := Option.some.inj e; omega
      · rfl
    refine ⟨⟨nm, sm, lv', hd', ?_, ?_, tight on', hk.map os (hT sm (by rw [rs]; decide) (by rw [rs]; decide) (by rw [rs]; decide)), ?_, ?_⟩, ?_, ?_, ?_, ?_, ?_, ?_, fb, cb⟩
    · exact (hρ nm (hlt nm (by rw [rn]; decide))).trans rn
    · exact (hρ sm (hlt sm (by rw [rs]; decide))).trans rs
    · simpa [DiskA.named] using ol'
    · intro g hg; simp [hg]
    · exact (hρ d (hlt d (by rw [rd]; decide))).trans rd
    · intro f' a hf'
      have hfo := rf f' a hf'
      exact hfo.keep hk hρ (hT f' (by rw [hfo.1]; decide) (by rw [hfo.1]; decide) (by rw [hfo.1]; decide)) (fun i hi => hT i (by rw [hi]; exact fun h => by cases h) (by rw [hi]; exact fun h => by cases h) (by rw [hi]; exact fun h => by cases h)) (fun i hi => hT i (by rw [hi]; exact fun h => by cases h) (by rw [hi]; exact fun h => by cases h) (by rw [hi]; exact fun h => by cases h))
    · exact leads_do on.isMap nt hc
    · exact st
    · intro c hc'
      rcases List.mem_append.1 hc' with h | h
      · exact lo c h
      · rw [List.mem_singleton.1 h]; exact hc
    · intro i hi
      by_cases e : some i = lv'.ownBlock
      · exact (ol'.lt i e.symm).2
      · rw [if_neg e] at hi; exact Nat.lt_of_lt_of_le (hlt i hi) hk.size
  · split
    · rename_i e
      rcases hloc with e1 | ⟨g, e1, hg⟩
      · rw [e1] at e; exact (rl i e.symm).symm
      · rw [e1] at e; have := Option.some.inj e; omega
    · rfl
end Go.Proofs.Ytnipbplghijdmaa
