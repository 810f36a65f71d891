/-
  Layers (sedimentkeep; the document's P12 and P6: flushed and compacted here and there, or not at all: the same): it returns true whatever the arguments, which read as they did. The card over the row.
-/
import Derived.Test.YtnipbplghijdmaaGreatDoorCards
import Derived.Test.YtnipbplghijdmaaGreatDoorTie
import Derived.WalkKit
import Derived.ChangeMaps5
import Derived.ProofKit
import Derived.OpenShut
import Derived.WideKeyArgs
import Derived.WideKeyElems4
import Derived.Deep.DeepHandedRow
import Derived.Deep.DeepWitnessRowRef
import Derived.Test.YtnipbplghijdmaaGreatDoorLa39
import Derived.Test.YtnipbplghijdmaaGreatDoorLa40
import Derived.Test.YtnipbplghijdmaaGreatDoorLa41
import Derived.Test.YtnipbplghijdmaaGreatDoorLa38
namespace Go.Proofs.YtnipbplghijdmaaGreatDoor
open Go.ChangeShapes Go.WideShapes Go.ChangeAt Go.RowKit Go.ChangeMaps
set_option linter.unusedVariables false
theorem own : ownKnob Tryz.prog.godebug = none := by kernel_rfl
theorem laidOut : laidOutB Tryz.prog = true := by kernel_rfl
theorem ja.below {w w' : World} (h : ja w w' (fun _ => False)) : Below w.heap.size w w' := ⟨h.os, h.tape, h.output, h.size, fun k hk => h.block k hk id⟩
theorem again {H : Type} {enc : TypeId × Value → H} {W W' : World} {t : TypeId} {v : Value} {d : DataW H} {ps : List MemPlace} (hr : Tryz.prog.readableRec t = true) (hrow : t < Tryz.prog.types.size) (h : DataW.Trod enc Tryz.prog W 0 (fun _ => true) true t v d ps) (hb : Below W.heap.size W W') (hlt : ∀ x ∈ ps, x.block < W.heap.size) :
   DataW.Trod enc Tryz.prog W' 0 (fun b => decide (b < W.heap.size)) true t v d ps :=
 WideElems.Trod_stays laidOut hr hrow h (fun p hp => hb.same (hlt p hp)) (fun p hp => by simpa using hlt p hp)
set_option maxRecDepth 100000 in
theorem Hl (H : Type) (enc : TypeId × Value → H) (F : Stop.Interp) (W : World) (base : Nat) (args : Array Value) (ds gs : List (DataW H)) (before : List MemPlace)
   (hval : ∀ (j : Nat) t v, Tryz.f6.params[j]? = some t → args[j]? = some v → Value.okWide Tryz.prog W .any base t v)
   (hW : DataW.Whole enc Tryz.prog Tryz.f6.params.toList Rows.layersSpec.vars false W args.toList ds gs before)
   (hsz : (DataW.weightsEach Tryz.prog (Tryz.f6.params.toList ++ (OpenSpec.ofChange Rows.layersSpec).bare.plain.varTypes Tryz.prog) (ds ++ gs)).all (· ≤ reachBytes) = true)
   (hL : laidMet Tryz.prog Lf W) :
   Calls Tryz.prog 6 args W fun e W' => ∃ v, e = .returned v ∧ Rows.layersSpec.post enc Tryz.prog Tryz.f6 false true false false W args v W' := by
 have hW' := hW
 obtain ⟨p, q, hA0, hV, rfl, hfz, hnd⟩ := hW
 have hA : DataW.TrodAll enc Tryz.prog W 0 (fun _ => true) true Tryz.f6.params.toList args.toList ds p := hA0
 rw [Tryz.params6] at hA hval
 obtain ⟨v0, vs0, d0, ds0, p0, q0, hargs, rfl, rfl, h0, r0⟩ := trodAll_cons hA
 obtain ⟨v1, vs1, d1, ds1, p1, q1, rfl, rfl, rfl, h1, r1⟩ := trodAll_cons r0
 obtain ⟨rfl, rfl, rfl⟩ := trodAll_nil r1
 obtain rfl : args = #[v0, v1] := by cases args; simp_all
 obtain ⟨rfl, rfl⟩ := trodVars_none hV
 clear hA0
 have hsz' : (DataW.weightsEach Tryz.prog [26, 39] [d0, d1]).all (· ≤ reachBytes) = true := by
   rw [Tryz.params6] at hsz
   exact hsz
 have hw0 : ∀ n ∈ d0.weights Tryz.prog 26, n ≤ reachBytes := fun n hn => by
   have := List.all_eq_true.1 hsz' n (DataW.weights_mem_each (j := 0) rfl rfl n hn)
   simpa using this
 have hw1 : ∀ n ∈ d1.weights Tryz.prog 39, n ≤ reachBytes := fun n hn => by
   have := List.all_eq_true.1 hsz' n (DataW.weights_mem_each (j := 1) rfl rfl n hn)
   simpa using this
 have h0k := h0
 have h1k := h1
 obtain ⟨a0, l0, c0, rfl⟩ := okWide_slice Tryz.underlying26 (hval 0 26 v0 rfl rfl)
 obtain ⟨a1, l1, c1, rfl⟩ := okWide_slice Tryz.underlying39 (hval 1 39 v1 rfl rfl)
 obtain ⟨fu0, hf0⟩ := h0
 obtain ⟨fu1, hf1⟩ := h1
 obtain ⟨x0, rss, e0, hr⟩ := jca hf0 hw0
 obtain ⟨x1, zs, e1, hz⟩ := jbg hf1 hw1
 obtain rfl : Value.slice a0 l0 c0 = x0 := by simpa [Value.cells] using e0
 obtain rfl : Value.slice a1 l1 c1 = x1 := by simpa [Value.cells] using e1
 obtain ⟨E, hE⟩ := Vl hL
 have walk := Ww hE (Nat.le_refl _) _ _ rss zs hr hz
 have hlt : ∀ x ∈ p0 ++ p1, x.block < W.heap.size := fun x hx => hW'.lt x (by simpa using hx)
 refine walk.mono fun e W' ⟨he, hk⟩ => ?_
 subst he
 have bel := hk.below
 refine ⟨_, rfl, _, _, _, [], p0 ++ (p1 ++ []), [], hW', trodAll_mk1 (shut_bool Tryz.underlying4 _), ?_, rfl, bel.frame _, fun h => by cases h⟩
 rw [Tryz.params6]
 exact trodAll_cons_mk (again (by kernel_rfl) (of_decide_eq_true (by kernel_rfl)) h0k bel (fun x hx => hlt x (by simp [hx])))
   (trodAll_cons_mk (again (by kernel_rfl) (of_decide_eq_true (by kernel_rfl)) h1k bel (fun x hx => hlt x (by simp [hx]))) trodAll_mk0)
abbrev rz : Array Value := #[.slice none 0 0, .slice none 0 0]
theorem Hg (os : Os) : laidMet Tryz.prog Rows.layersRow.laid ((Fw Tryz.prog os).forCall (fun _ _ => 0) ⟨#[], rz, []⟩).memory :=
 laidMet_of_run' 8 (by kernel_rfl) (by kernel_rfl)
theorem Rq (os : Os) {H : Type} (enc : TypeId × Value → H) : ∃ places, DataW.whole enc Tryz.prog ((Fw Tryz.prog os).forCall (fun _ _ => 0) ⟨#[], rz, []⟩).memory Tryz.f6.params.toList Rows.layersSpec.vars false rz.toList 8 = some ([.nil, .nil], [], places) :=
 ⟨[], by kernel_rfl⟩
set_option maxRecDepth 100000 in
theorem Nb (os : Os) (started : os.Started) (H : Type) (enc : TypeId × Value → H) (F : Stop.Interp) :
   ReturnsInHanded {} Tryz.checked os 6 .any ((OpenSpec.ofChange Rows.layersSpec).preRow enc Tryz.prog Tryz.f6 Rows.layersRow.domain false Rows.layersRow.laid) (((OpenSpec.ofChange Rows.layersSpec).at F).post enc Tryz.prog Tryz.f6 false true false false) := by
 obtain ⟨places, hx⟩ := Rq os enc
 refine returnsInHanded_of_row (C := Tryz.checked) (s := OpenSpec.ofChange Rows.layersSpec) own started (by kernel_rfl) Tryz.func6
   (witness_row_atRef (enc := enc) (C := Tryz.checked) false (Fw Tryz.prog os) rz rfl (by kernel_rfl) (by kernel_rfl) (by kernel_rfl)
     (OpenSpec.preRow_of_cond 8 hx (by kernel_rfl) (fun k hk => by cases hk) (by kernel_rfl) (Hg os))) ?_
 intro W base args ds gs before hval hW _ _ hsz hL _ _
 exact Hl H enc F W base args ds gs before hval hW hsz hL
theorem Rt : joinedFacts Tryz.prog 6 Tryz.f6 (OpenSpec.ofChange Rows.layersSpec).bare Rows.layersRow = true :=
 jcl R8 R7 R6 R5 Rz Ry Rx Rw Rv Ru N8 N7 Nz Ny Nw Nv Nu Nt Ns Nr Nq Np Nn Nl Nk Nj Ni Nh (by kernel_rfl) Ng Nf Nc
theorem Ux : Rows.LayersSaid :=
 OpenClaim.holds_of_cond 6 Tryz.f6 rfl rfl rfl rfl rfl rfl rfl ⟨rfl, rfl, rfl, rfl, rfl⟩ rfl rfl rfl rfl rfl (by kernel_rfl) Tryz.func6 Rt
   (of_decide_eq_true (by kernel_rfl)) (by unfold Func.isWrapper; first | (rw [if_pos (by decide +kernel)]; kernel_rfl) | (rw [if_neg (by decide +kernel)]; exact ⟨rfl, rfl⟩))
   (fun os started H enc _ F => by rw [OpenClaim.pre_eq_preRow]; exact Nb os started H enc F)
theorem Rs (f : FuncId) (fn : Func) (hf : Tryz.pinned.checked.prog.funcNamed "sediment/sedimentkeep.Layers" = some f) (hfn : Tryz.pinned.checked.prog.funcs[f]? = some fn) :
   true = Tryz.pinned.checked.prog.looks [] ∧ ∀ (j : Nat) t, fn.params[j]? = some t → Tryz.pinned.checked.prog.wantsStandIn t = false := by
 obtain rfl : f = 6 := Option.some.inj ((show Tryz.prog.funcNamed "sediment/sedimentkeep.Layers" = some 6 by kernel_rfl).symm.trans hf) |>.symm
 obtain rfl : fn = Tryz.f6 := (Option.some.inj (Tryz.func6.symm.trans hfn)).symm
 refine ⟨by kernel_rfl, fun j t ht => ?_⟩
 rw [Tryz.params6] at ht
 have hm := Array.mem_of_getElem? ht
 simp only [List.mem_toArray, List.mem_cons, List.not_mem_nil, or_false] at hm
 rcases hm with rfl | rfl
 · exact (show Tryz.prog.wantsStandIn 26 = false by kernel_rfl)
 · exact (show Tryz.prog.wantsStandIn 39 = false by kernel_rfl)
theorem layers_card : Rows.LayersCardSaid :=
 Claim7.holds_tied_plain_at .later [] _ _ _ _ Ux (fun _ h => by cases h) (by kernel_rfl) (fun _ h => by cases h) layers_row_tie rfl ⟨rfl, rfl⟩ (by kernel_rfl) rfl Rs (by kernel_rfl)
#print axioms layers_card
end Go.Proofs.YtnipbplghijdmaaGreatDoor
