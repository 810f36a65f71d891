/-
  La: Ops3 PutRep.
-/
import Derived.Lib.SliceRun
import Derived.Test.YtnipbplghijdmaaGreatDoorLa05
namespace Go.Proofs.YtnipbplghijdmaaGreatDoor
open Go.RowKit Go.Maps Go.WideShapes
set_option linter.unusedVariables false
def Reads (w : World) (v : Value) (l : List UInt8) : Prop :=
 (v = .slice none 0 0 ∧ l = []) ∨ ∃ ad c, v = .slice (some ad) l.length c ∧ ∀ j u, (l.map qg)[j]? = some u → w.cell? (ad.add j) = some u
theorem Dw {w : World} {base : Nat} {v : Value} {l : List UInt8} (h : w.ownsRow base 5 1 v l.length (l.map qg)) : Reads w v l := by
 have h' := h
 rcases h.2 with ⟨e, h0⟩ | ⟨g, cap, cur, e, _⟩
 · exact .inl ⟨e, List.eq_nil_of_length_eq_zero h0⟩
 · refine .inr ⟨⟨g, 0, none⟩, cap, e, ?_⟩
   exact h'.cells (by rw [e]; rfl)
set_option maxHeartbeats 400000 in
set_option maxRecDepth 100000 in
theorem Oy (w : World) (v : Value) (l : List UInt8) (hl : l.length < 1099511627776) (hv : Reads w v l) :
   Calls Tryz.prog 85 #[v] w fun e w' => ∃ p c, e = .returned (.slice p l.length c) ∧ w'.ownsRow w.heap.size 5 1 (.slice p l.length c) l.length (l.map qg) ∧ ja w w' (fun _ => False) := by
 obtain ⟨j0, hj, hy0, hy1, hy2⟩ := info_parts Tryz.Ap
 have q : ∀ (w : World) (a : Option Addr) (n c n' c' : Nat), (binOp .eql 84 (.slice a n c) (.slice none n' c')).run Tryz.prog w = .ok (.bool a.isNone) w := fun w a n c n' c' => Lib.run_eql_slice_nil w _ _ a n c n' c' Tryz.underlying84
 rcases hv with ⟨rfl, rfl⟩ | ⟨ad, c, rfl, hc⟩
 · go_enter Tryz.func85, Tryz.ntmps85
   go_wp2
   go_ret
   exact ⟨none, 0, rfl, World.ownsRow_nil _ _ _ _, ja.refl _ _⟩
 · have hown : (w.alloc (.cells #[] 5)).ownsRow w.heap.size 5 1 (.slice (some ⟨w.heap.size, 0, none⟩) 0 0) 0 [] := World.ownsRow_made w #[] 0 (Nat.le_refl _) (Nat.zero_le _) rfl
   have hc2 : ∀ j u, (l.map qg)[j]? = some u → (w.alloc (.cells #[] 5)).cell? (ad.add j) = some u := fun j u hu => (ja.alloc w _ (fun _ => False)).cell (hc j u hu) id
   go_enter Tryz.func85, Tryz.ntmps85
   go_wp2_with (first | (at_builtin; refine jm _ rfl (.tmp 5) (.tmp 6) 84 rfl w.heap.size 5 j0 (.int .u8 0) 1 1 Tryz.underlying84 hj hy0 hy1 hy2 rfl (by decide) _ 0 [] rfl hown ad l.length c (l.map qg) rfl (by simp) hc2 (F5 _) (by unfold maxLen; omega) (by omega) (by simp) ?_; intro p3 cp3 w3 hown3 hg3 hloc3; simp only [Nat.zero_add, List.nil_append] at hown3 hloc3 ⊢) | go_in)
   go_ret
   refine ⟨p3, cp3, rfl, hown3, ((ja.refl w _).more _).grow hg3 (fun k e hk => ?_)⟩
   have := Option.some.inj e
   simp only at this
   omega
set_option maxHeartbeats 400000 in
set_option maxRecDepth 100000 in
theorem jd5 {w : World} {ρ : Nat → jw} {d : Nat} {S : je} (nm : Str) (R : Rep w ρ d S) (Z : Small S) (hn : nm.length < 1099511627776) :
   Calls Tryz.prog 46 #[.pointer (some ⟨d, 0, none⟩), jc nm] w fun e w' => ja w w' (fun _ => False) ∧
     ((S.at nm = none ∧ e = .returned (.tuple #[.slice none 0 0, .bool false])) ∨
      (∃ f a p c, S.at nm = some f ∧ S.files f = some a ∧ e = .returned (.tuple #[.slice p a.bytes.length c, .bool true]) ∧ w'.ownsRow w.heap.size 5 1 (.slice p a.bytes.length c) a.bytes.length (a.bytes.map qg))) := by
 have hkey := Yz hn
 have hAt : S.at nm = none ∨ ∃ f, S.at nm = some f := by cases S.at nm <;> simp
 obtain ⟨nb, sm, lv, hd, rn, rs, on, _⟩ := R.mem
 have c0 := cell_of_heap (o := 0) hd
 simp at c0
 clear hd
 rcases hAt with hA | ⟨f, hA⟩
 · have HA := hide hA
   clear hA
   go_enter Tryz.func46, Tryz.ntmps46
   go_wp2_with (first
     | (at_lookup; refine xq _ rfl _ _ rfl nb _ _ rfl on _ _ rfl hkey (.pointer none) (congrArg ig HA.out) ?_)
     | go_in)
   go_ret2
   exact ⟨ja.refl _ _, .inl ⟨HA.out, rfl⟩⟩
 · obtain ⟨a, ha⟩ := R.at hA
   have HA := hide hA
   have HF := hide ha
   clear hA ha
   obtain ⟨rf, bv, pv, hc, hb, rb, hp, rp⟩ := R.files f a HF.out
   have hr := Dw hb
   have hz := (Z.files f a HF.out).1
   have b0 := cell_of_heap (o := 0) hc
   simp at b0
   clear hc
   obtain ⟨pb, cb, rfl⟩ := jh hb
   go_enter Tryz.func46, Tryz.ntmps46
   go_wp2_with (first
     | (at_lookup; refine xq _ rfl _ _ rfl nb _ _ rfl on _ _ rfl hkey (.pointer (some ⟨f, 0, none⟩)) (congrArg ig HA.out) ?_)
     | (go_at_call 85; refine (Oy w _ a.bytes hz hr).mono ?_; rintro e w1 ⟨p1, c1, rfl, hown1, k1⟩)
     | go_in)
   go_ret2
   exact ⟨k1, .inr ⟨f, a, p1, c1, HA.out, HF.out, rfl, hown1⟩⟩
def yw.put (a : yw) (src : List UInt8) : yw := if src = [] then a else ⟨a.bytes ++ src, a.safe, a.late ++ [(a.bytes.length, src.length)]⟩
def Arg (w : World) (ρ : Nat → jw) (v : Value) (l : List UInt8) : Prop :=
 (v = .slice none 0 0 ∧ l = []) ∨ ∃ ad c, v = .slice (some ad) l.length c ∧ l.length ≤ c ∧ ρ ad.block = .none ∧ ∀ j u, (l.map qg)[j]? = some u → w.cell? (ad.add j) = some u
theorem Ml {S : je} {f : Nat} {a : yw} (h : S.files f = some a) : S.withFile f a = S := by
 have e : (fun i => if i = f then some a else S.files i) = S.files := by
   funext i
   split
   · rename_i e; rw [e, h]
   · rfl
 unfold je.withFile
 rw [e]
set_option maxRecDepth 100000 in
theorem jdy (w : World) (f : Nat) (p : Option Addr) (c : Nat) : Calls Tryz.prog 103 #[.pointer (some ⟨f, 0, none⟩), .slice p 0 c] w fun e w' => e = .returned (.tuple #[]) ∧ w' = w := by
 go_enter Tryz.func103, Tryz.ntmps103
 go_wp2
 go_end0
 exact ⟨rfl, rfl⟩
theorem Px {w : World} {ρ : Nat → jw} {d f : Nat} {S : je} {a : yw} (R : Rep w ρ d S) (Z : Small S) (hf : S.files f = some a) (src : List UInt8) (hsl : src.length < 1099511627776) (v : Value) (hv : Arg w ρ v src) :
   Calls Tryz.prog 103 #[.pointer (some ⟨f, 0, none⟩), v] w fun e w' => e = .returned (.tuple #[]) ∧ ∃ ρ', Rep w' ρ' d (S.withFile f (a.put src)) ∧ yf w ρ w' ρ' := by
 by_cases h0 : src = []
 · subst h0
   have e : a.put [] = a := if_pos rfl
   have hv' : ∃ p c, v = .slice p 0 c := by
     rcases hv with ⟨rfl, _⟩ | ⟨ad, c, rfl, _⟩
     · exact ⟨_, _, rfl⟩
     · exact ⟨_, _, rfl⟩
   obtain ⟨p, c, rfl⟩ := hv'
   refine (jdy w f p c).mono ?_
   rintro e' w' ⟨rfl, rfl⟩
   exact ⟨rfl, ρ, by rw [e, Ml hf]; exact R, yf.refl _ _⟩
 · rcases hv with ⟨_, e⟩ | ⟨ad, c, rfl, _, hr, hc⟩
   · exact absurd e h0
   have hpos : 0 < src.length := List.length_pos_iff.2 h0
   obtain ⟨rf, bv, pv, hd, hb, rb, hp, rp⟩ := R.files f a hf
   have zf := Z.files f a hf
   have ha : ad.block ≠ f := fun e => by rw [e, rf] at hr; cases hr
   have hap : pv.ownBlock ≠ some ad.block := fun e => by rw [rp _ e] at hr; cases hr
   have hbp : ∀ g, bv.ownBlock = some g → g ≠ f ∧ pv.ownBlock ≠ some g := fun g hg => ⟨fun e => (by have := rb g hg; rw [e, rf] at this; cases this), fun e => (by have := rb g hg; rw [rp g e] at this; cases this)⟩
   have hpf : ∀ g, pv.ownBlock = some g → g ≠ f := fun g hg e => by have := rp g hg; rw [e, rf] at this; cases this
   refine (jdx f a.bytes src a.late _ bv pv ad c w hd hb hp zf.1 zf.2.1 hsl hpos hc ha hap hbp hpf).mono ?_
   rintro e w' ⟨rfl, bv', pv', hd', hb', hp', lb, lp, hne, hk⟩
   refine ⟨rfl, fun i => if some i = bv'.ownBlock then .bytes f else if some i = pv'.ownBlock then .pieces f else ρ i, ?_⟩
   have hρ : ∀ i, i < w.heap.size → (if some i = bv'.ownBlock then jw.bytes f else if some i = pv'.ownBlock then .pieces f else ρ i) = ρ i := by
     intro i hi
     split
     · rename_i e
       rcases lb with e1 | ⟨g, e1, hg⟩
       · rw [e1] at e; exact (rb i e.symm).symm
       · rw [e1] at e; have := Option.some.inj e; omega
     · split
       · rename_i e
         rcases lp with e1 | ⟨g, e1, hg⟩
         · rw [e1] at e; exact (rp i e.symm).symm
         · rw [e1] at e; have := Option.some.inj e; omega
       · rfl
   have e : a.put src = ⟨a.bytes ++ src, a.safe, a.late ++ [(a.bytes.length, src.length)]⟩ := if_neg h0
   rw [e]
   refine R.jbc hf hk ?_ hρ ?_ ⟨(hρ f (lt_of_heap hd)).trans rf, bv', pv', hd', hb', ?_, hp', ?_⟩
   · rintro i _ (e | e | e)
     · exact .inl e
     · exact .inr (.inl (rb i e.symm))
     · exact .inr (.inr (rp i e.symm))
   · intro i hi
     split at hi
     · rename_i e; exact (hb'.lt i e.symm).2
     · split at hi
       · rename_i e; exact (hp'.lt i e.symm).2
       · exact Nat.lt_of_lt_of_le (R.lt i hi) hk.size
   · intro g hg; simp [hg]
   · intro g hg
     have h1 : some g ≠ bv'.ownBlock := fun e => hne g e.symm hg
     simp [hg, h1]
end Go.Proofs.YtnipbplghijdmaaGreatDoor
