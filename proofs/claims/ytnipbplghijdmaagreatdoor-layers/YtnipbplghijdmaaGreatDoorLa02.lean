/-
  La: ManRead.
-/
import Derived.Test.YtnipbplghijdmaaGreatDoorLa01
namespace Go.Proofs.YtnipbplghijdmaaGreatDoor.Ref
set_option linter.unusedVariables false
def Bd (l : List UInt8) : Option (Nat × List UInt8) := if 8 ≤ l.length ∧ number (l.take 8) ≤ 2000000000 then some (number (l.take 8), l.drop 8) else none
def qx : Nat → List UInt8 → Option (List Nat × List UInt8)
 | 0, l => some ([], l)
 | n + 1, l =>
   match Bd l with
   | none => none
   | some (x, q) =>
     match qx n q with
     | none => none
     | some (xs, q') => some (x :: xs, q')
theorem Zv {n : Nat} {l q : List UInt8} {xs : List Nat} : qx n l = some (xs, q) ↔ 8 * n ≤ l.length ∧ xs = zz n l ∧ q = l.drop (8 * n) ∧ ∀ x ∈ xs, x ≤ 2000000000 := by
 induction n generalizing l xs q with
 | zero =>
   simp only [qx, zz, Nat.mul_zero, List.drop_zero, Nat.zero_le, true_and, Option.some.injEq, Prod.mk.injEq]
   constructor
   · rintro ⟨rfl, rfl⟩; exact ⟨rfl, rfl, fun x hx => by cases hx⟩
   · rintro ⟨rfl, rfl, _⟩; exact ⟨rfl, rfl⟩
 | succ n ih =>
   unfold qx Bd
   by_cases hc : 8 ≤ l.length ∧ number (l.take 8) ≤ 2000000000
   · rw [if_pos hc]
     simp only
     cases h : qx n (l.drop 8) with
     | none =>
       simp only [reduceCtorEq, false_iff]
       rintro ⟨h1, rfl, rfl, h2⟩
       have : qx n (l.drop 8) = some (zz n (l.drop 8), (l.drop 8).drop (8 * n)) := ih.2 ⟨by simp; omega, rfl, rfl, fun x hx => h2 x (by rw [zz]; exact List.mem_cons_of_mem _ hx)⟩
       rw [h] at this
       cases this
     | some y =>
       obtain ⟨ys, q'⟩ := y
       obtain ⟨h1, h2, h3, h4⟩ := ih.1 h
       simp only [Option.some.injEq, Prod.mk.injEq]
       constructor
       · rintro ⟨rfl, rfl⟩
         refine ⟨by simp at h1; omega, by rw [zz, h2], by rw [h3, List.drop_drop]; congr 1; omega, fun x hx => ?_⟩
         rcases List.mem_cons.1 hx with rfl | hx
         · exact hc.2
         · exact h4 x hx
       · rintro ⟨_, rfl, rfl, _⟩
         exact ⟨by rw [zz, h2], by rw [h3, List.drop_drop]; congr 1; omega⟩
   · rw [if_neg hc]
     simp only [reduceCtorEq, false_iff]
     rintro ⟨h1, rfl, rfl, h2⟩
     exact hc ⟨by omega, h2 _ (by rw [zz]; exact List.mem_cons_self)⟩
def Ql (l : List UInt8) : Option Man :=
 match qx 4 l with
 | some ([a, b, c, d], q) =>
   if 2 ≤ q.length then
     match qx (number (q.take 2)) (q.drop 2) with
     | some (rs, []) => some ⟨a, b, c, d, rs⟩
     | _ => none
   else none
 | _ => none
def jbi (l : List UInt8) : Option Man :=
 match xh l with
 | some (h, []) =>
   match Ql h with
   | some m => if m.Good then some m else none
   | none => none
 | _ => none
theorem Ca (l : List UInt8) : zz 4 l = [number (l.take 8), number ((l.drop 8).take 8), number ((l.drop 16).take 8), number ((l.drop 24).take 8)] := by
 simp [zz, List.drop_drop]
theorem uq {h : List UInt8} {m : Man} (e : Ql h = some m) : 34 ≤ h.length ∧ h.length = 34 + 8 * number ((h.drop 32).take 2) ∧
   m = ⟨number (h.take 8), number ((h.drop 8).take 8), number ((h.drop 16).take 8), number ((h.drop 24).take 8), zz (number ((h.drop 32).take 2)) (h.drop 34)⟩ ∧ m.next ≤ 2000000000 ∧ m.last ≤ 2000000000 := by
 unfold Ql at e
 cases h4 : qx 4 h with
 | none => rw [h4] at e; cases e
 | some y =>
   obtain ⟨xs, q⟩ := y
   obtain ⟨a1, a2, a3, a4⟩ := Zv.1 h4
   rw [Ca] at a2
   subst a2
   rw [h4] at e
   simp only at e
   split at e
   · rename_i h2
     cases hr : qx (number (q.take 2)) (q.drop 2) with
     | none => rw [hr] at e; cases e
     | some z =>
       obtain ⟨rs, q'⟩ := z
       rw [hr] at e
       cases q' with
       | cons _ _ => cases e
       | nil =>
         simp only [Option.some.injEq] at e
         obtain ⟨b1, b2, b3, b4⟩ := Zv.1 hr
         subst a3
         have hd : (h.drop 32).drop 2 = h.drop 34 := by rw [List.drop_drop]
         have hz := congrArg List.length b3
         simp at a1 h2 b1 hz
         refine ⟨by omega, by omega, ?_, ?_, ?_⟩
         · rw [← e, b2, hd]
         · rw [← e]; exact a4 _ List.mem_cons_self
         · rw [← e]; exact a4 _ (List.mem_cons_of_mem _ List.mem_cons_self)
   · cases e
theorem jei (l : List UInt8) : jbi l = Dx l := by
 unfold jbi Dx
 cases hf : xh l with
 | none => rfl
 | some y =>
   obtain ⟨h, q⟩ := y
   cases q with
   | cons a b => simp
   | nil =>
     simp only [true_and]
     cases hr : Ql h with
     | some m =>
       obtain ⟨h1, h2, h3, _, _⟩ := uq hr
       rw [if_pos ⟨h1, h2⟩]
       simp only [← h3]
     | none =>
       simp only
       by_cases hc : 34 ≤ h.length ∧ h.length = 34 + 8 * number ((h.drop 32).take 2)
       · rw [if_pos hc]
         by_cases hg : Man.Good ⟨number (h.take 8), number ((h.drop 8).take 8), number ((h.drop 16).take 8), number ((h.drop 24).take 8), zz (number ((h.drop 32).take 2)) (h.drop 34)⟩
         · exfalso
           obtain ⟨g1, g2, g3, g4⟩ := hg
           simp only at g1 g2
           have hnum : ∀ n ∈ Man.numbers ⟨number (h.take 8), number ((h.drop 8).take 8), number ((h.drop 16).take 8), number ((h.drop 24).take 8), zz (number ((h.drop 32).take 2)) (h.drop 34)⟩, n ≤ 2000000000 := fun n hn => by have := (g3 n hn).2; simp only at this; omega
           have hlog := hnum (number ((h.drop 16).take 8)) (by simp [Man.numbers])
           have hbase : number ((h.drop 24).take 8) ≤ 2000000000 := by
             by_cases hb : number ((h.drop 24).take 8) = 0
             · omega
             · exact hnum _ (by simp [Man.numbers, Man.settled, hb])
           have hruns : ∀ n ∈ zz (number ((h.drop 32).take 2)) (h.drop 34), n ≤ 2000000000 := fun n hn => hnum n (by unfold Man.numbers Man.settled; split <;> simp [hn])
           have e4 : qx 4 h = some ([number (h.take 8), number ((h.drop 8).take 8), number ((h.drop 16).take 8), number ((h.drop 24).take 8)], h.drop 32) := Zv.2 ⟨by omega, (Ca h).symm, rfl, by
             intro x hx
             simp only [List.mem_cons, List.not_mem_nil, or_false] at hx
             rcases hx with rfl | rfl | rfl | rfl
             · exact g1
             · omega
             · exact hlog
             · exact hbase⟩
           have hd : (h.drop 32).drop 2 = h.drop 34 := by rw [List.drop_drop]
           have e5 : qx (number ((h.drop 32).take 2)) ((h.drop 32).drop 2) = some (zz (number ((h.drop 32).take 2)) (h.drop 34), []) := Zv.2 ⟨by simp; omega, by rw [hd], by rw [hd, List.drop_drop]; exact (List.drop_of_length_le (by omega)).symm, hruns⟩
           unfold Ql at hr
           rw [e4] at hr
           simp only at hr
           rw [if_pos (by simp; omega), e5] at hr
           cases hr
         · rw [if_neg hg]
       · rw [if_neg hc]
end Go.Proofs.YtnipbplghijdmaaGreatDoor.Ref
