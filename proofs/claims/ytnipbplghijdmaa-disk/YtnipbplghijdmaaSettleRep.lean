/-
  '(*file).settle' over a disk that is as told.
-/
import Derived.Test.YtnipbplghijdmaaSettle
import Derived.Test.YtnipbplghijdmaaAll
import Derived.Test.YtnipbplghijdmaaSyncDir
namespace Go.Proofs.Ytnipbplghijdmaa
open Go.RowKit Go.Maps Go.WideShapes
set_option linter.unusedVariables false

theorem settle_any {w : World} {ρ : Nat → Role} {d f pb pg : Nat} {S : DiskA} {a : FileA} (ch : List Int) (R : Rep w ρ d S) (Z : Small S) (hf : S.files f = some a) (hwf : a.Wf) (hpk : PicksIn w pb pg ch)
    (hpb : ρ pb = .none) (hpg : ρ pg = .none) (hpbl : pb < w.heap.size) (hpgl : pg < w.heap.size) :
    Calls Try.prog 26 #[.pointer (some ⟨f, 0, none⟩), .pointer (some ⟨pb, 0, none⟩)] w fun e w' => e = .returned (.tuple #[]) ∧ PicksIn w' pb pg (a.left ch) ∧
      ∃ ρ', Rep w' ρ' d (S.withFile f (a.settled ch)) ∧ Keeps w w' (fun i => ρ i ≠ .none ∨ i = pb) ∧ (∀ i, i < w.heap.size → ρ' i = ρ i) := by
  obtain ⟨rf, bv, pv, hc, hb, rb, hp, rp⟩ := R.files f a hf
  have zf := Z.files f a hf
  have n1 : f ≠ pb := fun e => by rw [e, hpb] at rf; cases rf
  have n2 : f ≠ pg := fun e => by rw [e, hpg] at rf; cases rf
  have n3 : bv.ownBlock ≠ some pb := fun e => by have := rb pb e; rw [hpb] at this; cases this
  have n4 : pv.ownBlock ≠ some pb := fun e => by have := rp pb e; rw [hpb] at this; cases this
  refine (settle_walk f pb pg a ch bv pv w hwf zf.1 zf.2.1 hc hb hp hpk n1 n2 n3 n4 hpgl hpbl).mono ?_
  rintro e w' ⟨rfl, bv', hc', hb', hpk', hk⟩
  have hk2 : Keeps w w' (fun i => ρ i ≠ .none ∨ i = pb) := hk.mono (fun i _ h => h.elim (fun e => .inl (by rw [e, rf]; decide)) .inr)
  have hnew : ∀ g, bv'.ownBlock = some g → w.heap.size ≤ g := fun g hg => (hb'.lt g hg).1
  have hρ : ∀ i, i < w.heap.size → (if some i = bv'.ownBlock then Role.bytes f else ρ i) = ρ i := by
    intro i hi
    split
    · rename_i e; have := hnew i e.symm; omega
    · rfl
  refine ⟨rfl, hpk', fun i => if some i = bv'.ownBlock then .bytes f else ρ i, ?_, hk2, hρ⟩
  -- the block of the choices is nothing to the disk
  obtain ⟨⟨nm, sm, lv, hd, rn, rs, on, os, ol, rl⟩, rd, rfs, nt, st, lo, hlt, fb, cb⟩ := R
  have hT : ∀ i, ρ i ≠ .none → i ≠ f → ¬ (i = f ∨ i = pb) := by
    rintro i h1 h2 (e | e)
    · exact h2 e
    · exact h1 (e ▸ hpb)
  have hne : ∀ i r, ρ i = r → r ≠ .file → r ≠ .none → ¬ (i = f ∨ i = pb) := fun i r h1 h2 h3 => hT i (by rw [h1]; exact h3) (fun e => h2 (by rw [← h1, e, rf]))
  have hm : ∀ g b, S.files g = some b → ∃ b', (S.withFile f (a.settled ch)).files g = some b' := by
    intro g b h
    by_cases e : g = f
    · exact ⟨_, by simp [DiskA.withFile, e]; rfl⟩
    · exact ⟨b, by simp [DiskA.withFile, e, h]⟩
  have ht : ∀ i r, ρ i = r → r ≠ .none → (if some i = bv'.ownBlock then Role.bytes f else ρ i) = r := fun i r h hr => (hρ i (hlt i (by rw [h]; exact hr))).trans h
  refine ⟨⟨nm, sm, lv, hk.same hd (hne d _ rd (by decide) (by decide)), ht _ _ rn (by decide), ht _ _ rs (by decide), hk.map on (hne nm _ rn (by decide) (by decide)), hk.map os (hne sm _ rs (by decide) (by decide)),
    hk.row ol (fun g hg => hne g _ (rl g hg) (by decide) (by decide)), fun g hg => ht _ _ (rl g hg) (by decide)⟩, ht _ _ rd (by decide), ?_, nt.mono hm, st.mono hm, fun c hc => (lo c hc).mono hm, ?_, fb, cb⟩
  · intro g b hgb
    simp only [DiskA.withFile] at hgb
    split at hgb
    · rename_i e
      cases hgb
      subst e
      refine ⟨ht _ _ rf (by decide), bv', .slice none 0 0, hc', row_base hb' (Nat.zero_le _), fun g' hg' => by simp [hg'], World.ownsRow_nil _ _ _ _, fun g' hg' => (by cases hg')⟩
    · rename_i e
      have hgo := rfs g b hgb
      refine hgo.keep hk hρ (hT g (by rw [hgo.1]; decide) e) (fun i hi => hne i _ hi (fun h => by cases h) (fun h => by cases h)) (fun i hi => hne i _ hi (fun h => by cases h) (fun h => by cases h))
  · intro i hi
    split at hi
    · rename_i e; exact (hb'.lt i e.symm).2
    · exact Nat.lt_of_lt_of_le (hlt i hi) hk.size
end Go.Proofs.Ytnipbplghijdmaa
