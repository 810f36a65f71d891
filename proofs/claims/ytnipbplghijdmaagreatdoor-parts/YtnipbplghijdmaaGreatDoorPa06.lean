/-
  Pa: Ops3 PutRep.
-/
import Derived.Lib.SliceRun
import Derived.Test.YtnipbplghijdmaaGreatDoorPa05
namespace Go.Proofs.YtnipbplghijdmaaGreatDoor
open Go.RowKit Go.Maps Go.WideShapes
set_option linter.unusedVariables false
def Reads (w : World) (v : Value) (l : List UInt8) : Prop :=
 (v = .slice none 0 0 ∧ l = []) ∨ ∃ ad c, v = .slice (some ad) l.length c ∧ ∀ j u, (l.map byteV)[j]? = some u → w.cell? (ad.add j) = some u
theorem reads_of_row {w : World} {base : Nat} {v : Value} {l : List UInt8} (h : w.ownsRow base 5 1 v l.length (l.map byteV)) : Reads w v l := by
 have h' := h
 rcases h.2 with ⟨e, h0⟩ | ⟨g, cap, cur, e, _⟩
 · exact .inl ⟨e, List.eq_nil_of_length_eq_zero h0⟩
 · refine .inr ⟨⟨g, 0, none⟩, cap, e, ?_⟩
   exact h'.cells (by rw [e]; rfl)
set_option maxHeartbeats 400000 in
set_option maxRecDepth 100000 in
theorem clone_any (w : World) (v : Value) (l : List UInt8) (hl : l.length < 1099511627776) (hv : Reads w v l) :
   Calls Tryz.prog 85 #[v] w fun e w' => ∃ p c, e = .returned (.slice p l.length c) ∧ w'.ownsRow w.heap.size 5 1 (.slice p l.length c) l.length (l.map byteV) ∧ Keeps w w' (fun _ => False) := by
 obtain ⟨j0, hj, hy0, hy1, hy2⟩ := info_parts Tryz.infoU8
 have q : ∀ (w : World) (a : Option Addr) (n c n' c' : Nat), (binOp .eql 84 (.slice a n c) (.slice none n' c')).run Tryz.prog w = .ok (.bool a.isNone) w := fun w a n c n' c' => Lib.run_eql_slice_nil w _ _ a n c n' c' Tryz.underlying84
 rcases hv with ⟨rfl, rfl⟩ | ⟨ad, c, rfl, hc⟩
 · go_enter Tryz.func85, Tryz.ntmps85
   go_wp2
   go_ret
   exact ⟨none, 0, rfl, World.ownsRow_nil _ _ _ _, Keeps.refl _ _⟩
 · have hown : (w.alloc (.cells #[] 5)).ownsRow w.heap.size 5 1 (.slice (some ⟨w.heap.size, 0, none⟩) 0 0) 0 [] := World.ownsRow_made w #[] 0 (Nat.le_refl _) (Nat.zero_le _) rfl
   have hc2 : ∀ j u, (l.map byteV)[j]? = some u → (w.alloc (.cells #[] 5)).cell? (ad.add j) = some u := fun j u hu => (Keeps.alloc w _ (fun _ => False)).cell (hc j u hu) id
   go_enter Tryz.func85, Tryz.ntmps85
   go_wp2_with (first | (at_builtin; refine wpList_append_own_sl _ rfl (.tmp 5) (.tmp 6) 84 rfl w.heap.size 5 j0 (.int .u8 0) 1 1 Tryz.underlying84 hj hy0 hy1 hy2 rfl (by decide) _ 0 [] rfl hown ad l.length c (l.map byteV) rfl (by simp) hc2 (bytes_one _) (by unfold maxLen; omega) (by omega) (by simp) ?_; intro p3 cp3 w3 hown3 hg3 hloc3; simp only [Nat.zero_add, List.nil_append] at hown3 hloc3 ⊢) | go_in)
   go_ret
   refine ⟨p3, cp3, rfl, hown3, ((Keeps.refl w _).more _).grow hg3 (fun k e hk => ?_)⟩
   have := Option.some.inj e
   simp only at this
   omega
def FileA.put (a : FileA) (src : List UInt8) : FileA := if src = [] then a else ⟨a.bytes ++ src, a.safe, a.late ++ [(a.bytes.length, src.length)]⟩
def Arg (w : World) (ρ : Nat → Role) (v : Value) (l : List UInt8) : Prop :=
 (v = .slice none 0 0 ∧ l = []) ∨ ∃ ad c, v = .slice (some ad) l.length c ∧ l.length ≤ c ∧ ρ ad.block = .none ∧ ∀ j u, (l.map byteV)[j]? = some u → w.cell? (ad.add j) = some u
theorem withFile_self {S : DiskA} {f : Nat} {a : FileA} (h : S.files f = some a) : S.withFile f a = S := by
 have e : (fun i => if i = f then some a else S.files i) = S.files := by
   funext i
   split
   · rename_i e; rw [e, h]
   · rfl
 unfold DiskA.withFile
 rw [e]
set_option maxRecDepth 100000 in
theorem put_none (w : World) (f : Nat) (p : Option Addr) (c : Nat) : Calls Tryz.prog 103 #[.pointer (some ⟨f, 0, none⟩), .slice p 0 c] w fun e w' => e = .returned (.tuple #[]) ∧ w' = w := by
 go_enter Tryz.func103, Tryz.ntmps103
 go_wp2
 go_end0
 exact ⟨rfl, rfl⟩
theorem put_any {w : World} {ρ : Nat → Role} {d f : Nat} {S : DiskA} {a : FileA} (R : Rep w ρ d S) (Z : Small S) (hf : S.files f = some a) (src : List UInt8) (hsl : src.length < 1099511627776) (v : Value) (hv : Arg w ρ v src) :
   Calls Tryz.prog 103 #[.pointer (some ⟨f, 0, none⟩), v] w fun e w' => e = .returned (.tuple #[]) ∧ ∃ ρ', Rep w' ρ' d (S.withFile f (a.put src)) ∧ Grew w ρ w' ρ' := by
 by_cases h0 : src = []
 · subst h0
   have e : a.put [] = a := if_pos rfl
   have hv' : ∃ p c, v = .slice p 0 c := by
     rcases hv with ⟨rfl, _⟩ | ⟨ad, c, rfl, _⟩
     · exact ⟨_, _, rfl⟩
     · exact ⟨_, _, rfl⟩
   obtain ⟨p, c, rfl⟩ := hv'
   refine (put_none w f p c).mono ?_
   rintro e' w' ⟨rfl, rfl⟩
   exact ⟨rfl, ρ, by rw [e, withFile_self hf]; exact R, Grew.refl _ _⟩
 · rcases hv with ⟨_, e⟩ | ⟨ad, c, rfl, _, hr, hc⟩
   · exact absurd e h0
   have hpos : 0 < src.length := List.length_pos_iff.2 h0
   obtain ⟨rf, bv, pv, hd, hb, rb, hp, rp⟩ := R.files f a hf
   have zf := Z.files f a hf
   have ha : ad.block ≠ f := fun e => by rw [e, rf] at hr; cases hr
   have hap : pv.ownBlock ≠ some ad.block := fun e => by rw [rp _ e] at hr; cases hr
   have hbp : ∀ g, bv.ownBlock = some g → g ≠ f ∧ pv.ownBlock ≠ some g := fun g hg => ⟨fun e => (by have := rb g hg; rw [e, rf] at this; cases this), fun e => (by have := rb g hg; rw [rp g e] at this; cases this)⟩
   have hpf : ∀ g, pv.ownBlock = some g → g ≠ f := fun g hg e => by have := rp g hg; rw [e, rf] at this; cases this
   refine (put_walk f a.bytes src a.late _ bv pv ad c w hd hb hp zf.1 zf.2.1 hsl hpos hc ha hap hbp hpf).mono ?_
   rintro e w' ⟨rfl, bv', pv', hd', hb', hp', lb, lp, hne, hk⟩
   refine ⟨rfl, fun i => if some i = bv'.ownBlock then .bytes f else if some i = pv'.ownBlock then .pieces f else ρ i, ?_⟩
   have hρ : ∀ i, i < w.heap.size → (if some i = bv'.ownBlock then Role.bytes f else if some i = pv'.ownBlock then .pieces f else ρ i) = ρ i := by
     intro i hi
     split
     · rename_i e
       rcases lb with e1 | ⟨g, e1, hg⟩
       · rw [e1] at e; exact (rb i e.symm).symm
       · rw [e1] at e; have := Option.some.inj e; omega
     · split
       · rename_i e
         rcases lp with e1 | ⟨g, e1, hg⟩
         · rw [e1] at e; exact (rp i e.symm).symm
         · rw [e1] at e; have := Option.some.inj e; omega
       · rfl
   have e : a.put src = ⟨a.bytes ++ src, a.safe, a.late ++ [(a.bytes.length, src.length)]⟩ := if_neg h0
   rw [e]
   refine R.setFile hf hk ?_ hρ ?_ ⟨(hρ f (lt_of_heap hd)).trans rf, bv', pv', hd', hb', ?_, hp', ?_⟩
   · rintro i _ (e | e | e)
     · exact .inl e
     · exact .inr (.inl (rb i e.symm))
     · exact .inr (.inr (rp i e.symm))
   · intro i hi
     split at hi
     · rename_i e; exact (hb'.lt i e.symm).2
     · split at hi
       · rename_i e; exact (hp'.lt i e.symm).2
       · exact Nat.lt_of_lt_of_le (R.lt i hi) hk.size
   · intro g hg; simp [hg]
   · intro g hg
     have h1 : some g ≠ bv'.ownBlock := fun e => hne g e.symm hg
     simp [hg, h1]
end Go.Proofs.YtnipbplghijdmaaGreatDoor
