/-
  '(*file).put' over a disk that is as told.
-/
import Derived.Test.YtnipbplghijdmaaOps3
namespace Go.Proofs.Ytnipbplghijdmaa
open Go.RowKit Go.Maps Go.WideShapes
set_option linter.unusedVariables false

def FileA.put (a : FileA) (src : List UInt8) : FileA := if src = [] then a else ⟨a.bytes ++ src, a.safe, a.late ++ [(a.bytes.length, src.length)]⟩

/-- A slice of bytes that is no part of the disk. -/
def Arg (w : World) (ρ : Nat → Role) (v : Value) (l : List UInt8) : Prop :=
  (v = .slice none 0 0 ∧ l = []) ∨ ∃ ad c, v = .slice (some ad) l.length c ∧ l.length ≤ c ∧ ρ ad.block = .none ∧ ∀ j u, (l.map byteV)[j]? = some u → w.cell? (ad.add j) = some u

theorem withFile_self {S : DiskA} {f : Nat} {a : FileA} (h : S.files f = some a) : S.withFile f a = S := by
  have e : (fun i => if i = f then some a else S.files i) = S.files := by
    funext i
    split
    · rename_i e; rw [e, h]
    · rfl
  unfold DiskA.withFile
  rw [e]

theorem put_none (w : World) (f : Nat) (p : Option Addr) (c : Nat) : Calls Try.prog 21 #[.pointer (some ⟨f, 0, none⟩), .slice p 0 c] w fun e w' => e = .returned (.tuple #[]) ∧ w' = w := by
  go_enter Try.func21, Try.ntmps21
  go_wp2
  go_end0
  exact ⟨rfl, rfl⟩

theorem put_any {w : World} {ρ : Nat → Role} {d f : Nat} {S : DiskA} {a : FileA} (R : Rep w ρ d S) (Z : Small S) (hf : S.files f = some a) (src : List UInt8) (hsl : src.length < 1099511627776) (v : Value) (hv : Arg w ρ v src) :
    Calls Try.prog 21 #[.pointer (some ⟨f, 0, none⟩), v] w fun e w' => e = .returned (.tuple #[]) ∧ ∃ ρ', Rep w' ρ' d (S.withFile f (a.put src)) ∧ Grew w ρ w' ρ' := by
  by_cases h0 : src = []
  · subst h0
    have e : a.put [] = a := if_pos rfl
    have hv' : ∃ p c, v = .slice p 0 c := by
      rcases hv with ⟨rfl, _⟩ | ⟨ad, c, rfl, _⟩
      · exact ⟨_, _, rfl⟩
      · exact ⟨_, _, rfl⟩
    obtain ⟨p, c, rfl⟩ := hv'
    refine (put_none w f p c).mono ?_
    rintro e' w' ⟨rfl, rfl⟩
    exact ⟨rfl, ρ, by rw [e, withFile_self hf]; exact R, Grew.refl _ _⟩
  · rcases hv with ⟨_, e⟩ | ⟨ad, c, rfl, _, hr, hc⟩
    · exact absurd e h0
    have hpos : 0 < src.length := List.length_pos_iff.2 h0
    obtain ⟨rf, bv, pv, hd, hb, rb, hp, rp⟩ := R.files f a hf
    have zf := Z.files f a hf
    have ha : ad.block ≠ f := fun e => by rw [e, rf] at hr; cases hr
    have hap : pv.ownBlock ≠ some ad.block := fun e => by rw [rp _ e] at hr; cases hr
    have hbp : ∀ g, bv.ownBlock = some g → g ≠ f ∧ pv.ownBlock ≠ some g := fun g hg => ⟨fun e => (by have := rb g hg; rw [e, rf] at this; cases this), fun e => (by have := rb g hg; rw [rp g e] at this; cases this)⟩
    have hpf : ∀ g, pv.ownBlock = some g → g ≠ f := fun g hg e => by have := rp g hg; rw [e, rf] at this; cases this
    refine (put_walk f a.bytes src a.late _ bv pv ad c w hd hb hp zf.1 zf.2.1 hsl hpos hc ha hap hbp hpf).mono ?_
    rintro e w' ⟨rfl, bv', pv', hd', hb', hp', lb, lp, hne, hk⟩
    refine ⟨rfl, fun i => if some i = bv'.ownBlock then .bytes f else if some i = pv'.ownBlock then .pieces f else ρ i, ?_⟩
    have hρ : ∀ i, i < w.heap.size → (if some i = bv'.ownBlock then Role.bytes f else if some i = pv'.ownBlock then .pieces f else ρ i) = ρ i := by
      intro i hi
      split
      · rename_i e
        rcases lb with e1 | ⟨g, e1, hg⟩
        · rw [e1] at e; exact (rb i e.symm).symm
        · rw [e1] at e; have := Option.some.inj e; omega
      · split
        · rename_i e
          rcases lp with e1 | ⟨g, e1, hg⟩
          · rw [e1] at e; exact (rp i e.symm).symm
          · rw [e1] at e; have := Option.some.inj e; omega
        · rfl
    have e : a.put src = ⟨a.bytes ++ src, a.safe, a.late ++ [(a.bytes.length, src.length)]⟩ := if_neg h0
    rw [e]
    refine R.setFile hf hk ?_ hρ ?_ ⟨(hρ f (lt_of_heap hd)).trans rf, bv', pv', hd', hb', ?_, hp', ?_⟩
    · rintro i _ (e | e | e)
      · exact .inl e
      · exact .inr (.inl (rb i e.symm))
      · exact .inr (.inr (rp i e.symm))
    · intro i hi
      split at hi
      · rename_i e; exact (hb'.lt i e.symm).2
      · split at hi
        · rename_i e; exact (hp'.lt i e.symm).2
        · exact Nat.lt_of_lt_of_le (R.lt i hi) hk.size
    · intro g hg; simp [hg]
    · intro g hg
      have h1 : some g ≠ bv'.ownBlock := fun e => hne g e.symm hg
      simp [hg, h1]
end Go.Proofs.Ytnipbplghijdmaa
