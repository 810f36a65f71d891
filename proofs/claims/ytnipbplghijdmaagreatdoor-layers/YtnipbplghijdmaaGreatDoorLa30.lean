/-
  La: RoundR.
-/
import Derived.RangeFuncCalls
import Derived.RegionTactic
import Derived.OrdersIn
import Derived.Test.YtnipbplghijdmaaGreatDoorLa22
namespace Go.Proofs.YtnipbplghijdmaaGreatDoor
open Go.RowKit Go.Maps Go.WideShapes
set_option linter.unusedVariables false
theorem M9 {P : Program} {l n : Nat} {o : Oper} {a : Act} {w : World} {K : Act → World → Prop} {Q : Exit → Act → World → Prop} (hd : ∀ c, o.op ≠ .defer c) (h : o.wp P a w K Q) : o.wpIn (Fence.wide.inRound l) n P a w K Q := by
 refine ⟨fun f _ => trivial, ?_⟩
 rw [Oper.semAt_eq _ _ _ hd]
 unfold Oper.wp at h
 generalize (execOp a.eval o).run P w = r at h ⊢
 cases r with
 | ok x w' =>
   cases x with
   | value v => exact h
   | skip => exact h
   | defer d => exact h
   | enter f args => exact ⟨fun h => by simp [Fence.wide] at h, ((callsIn_wide.2 h).inRound l).mono (fun e w' he => he)⟩
   | row row args => exact ⟨fun h => by simp [Fence.wide] at h, fun c cs _ => let ⟨v, w', r, s⟩ := h c cs; ⟨v, w', r, stepsIn_wide.2 s⟩⟩
   | round l' f tmps assign body => exact h.elim
   | _ => exact h.elim
 | halt s w' =>
   cases s with
   | panic v => exact h
   | _ => exact h.elim
theorem Ig {P : Program} {l n : Nat} {md : Region.Mode} {ops : Array Oper} {Q : Exit → Act → World → Prop} (hd : ∀ (i : Nat) o, ops[i]? = some o → ∀ c, o.op ≠ .defer c) (hL : ¬ LetsOut Q) :
   ∀ (fuel : Nat) (listed : Array Bool) (a : Act) (w : World), wpAny P md ops Q fuel listed a w → wpAnyIn (Fence.wide.inRound l) n P md ops Q fuel listed a w := by
 intro fuel
 induction fuel with
 | zero => intro listed a w h; exact h
 | succ fuel ih =>
   intro listed a w h
   refine ⟨h.1, fun i hi => ?_⟩
   have h2 := h.2 i hi
   unfold wpOp at h2
   unfold wpOpIn
   cases ho : ops[i]? with
   | none =>
     simp only [ho] at h2
     exact ih _ _ _ h2
   | some o =>
     simp only [ho] at h2
     by_cases hw : Region.wanted o (yielded ops a.tmps) = true
     · simp only [hw, if_true] at h2 ⊢
       rcases h2 with h2 | h2
       · exact Oper.wpIn_mono (fun a w h => ih _ _ _ h) (M9 (hd i o ho) h2)
       · exact (hL h2.2).elim
     · simp only [hw] at h2 ⊢
       exact ⟨fun f _ => trivial, ih _ _ _ h2⟩
def Ue (ops : Array Oper) : Bool := ops.all (fun o => match o.op with | .defer _ => false | _ => true)
theorem M7 {ops : Array Oper} (h : Ue ops = true) : ∀ (i : Nat) o, ops[i]? = some o → ∀ c, o.op ≠ .defer c := by
 intro i o ho c e
 have := (Array.all_eq_true_iff_forall_mem.1 h) o (Array.mem_of_getElem? ho)
 rw [e] at this
 cases this
theorem uo {P : Program} {l n id : Nat} {ops : Array Oper} {Q : Exit → Act → World → Prop} {a : Act} {w : World} (hm : P.follows .mixedOrders = true) (hd : Ue ops = true) (hL : ¬ LetsOut Q)
   (h : wpAny P .any ops Q ops.size (Array.replicate ops.size false) a w.drew) : (Code.region id ops true).wpIn (Fence.wide.inRound l) n P Q a w :=
 wpIn_region_any hm (Ig (M7 hd) hL _ _ _ _ h)
end Go.Proofs.YtnipbplghijdmaaGreatDoor
