/-
  Tells (sedimentkeep; the document's P8, P9, P12: the like, and behind each step Scan and Get tell what the batches come to that were answered OK, or say that the disk failed): it returns true for every script of bulk at most 1048576, which reads as it did. The card over the row.
-/
import Derived.Test.YtnipbplghijdmaaGreatDoorCards
import Derived.LaidByTextLater
import Derived.SevenTiedAt
import Derived.LaidSub
import Derived.LaidOnce
import Derived.WalkKit
import Derived.ChangeMaps5
import Derived.ProofKit
import Derived.OpenShut
import Derived.WideKeyArgs
import Derived.WideKeyElems4
import Derived.Deep.DeepHandedRow
import Derived.Deep.DeepWitnessRowRef
import Derived.Test.YtnipbplghijdmaaGreatDoorV35
import Derived.Test.YtnipbplghijdmaaGreatDoorT01
import Derived.Test.YtnipbplghijdmaaGreatDoorV43
import Derived.Test.YtnipbplghijdmaaGreatDoorV46
namespace Go.Proofs.YtnipbplghijdmaaGreatDoor
open Go.ChangeShapes Go.WideShapes Go.ChangeAt Go.RowKit Go.ChangeMaps
set_option linter.unusedVariables false
theorem own : ownKnob Tryz.prog.godebug = none := by kernel_rfl
theorem laidOut : laidOutB Tryz.prog = true := by kernel_rfl
theorem ja.below {w w' : World} (h : ja w w' (fun _ => False)) : Below w.heap.size w w' := ⟨h.os, h.tape, h.output, h.size, fun k hk => h.block k hk id⟩
theorem again {H : Type} {enc : TypeId × Value → H} {W W' : World} {t : TypeId} {v : Value} {d : DataW H} {ps : List MemPlace} (hr : Tryz.prog.readableRec t = true) (hrow : t < Tryz.prog.types.size) (h : DataW.Trod enc Tryz.prog W 0 (fun _ => true) true t v d ps) (hb : Below W.heap.size W W') (hlt : ∀ x ∈ ps, x.block < W.heap.size) :
   DataW.Trod enc Tryz.prog W' 0 (fun b => decide (b < W.heap.size)) true t v d ps :=
 WideElems.Trod_stays laidOut hr hrow h (fun p hp => hb.same (hlt p hp)) (fun p hp => by simpa using hlt p hp)
set_option maxRecDepth 100000 in
theorem tells_contract (H : Type) (enc : TypeId × Value → H) (F : Stop.Interp) (W : World) (base : Nat) (args : Array Value) (ds gs : List (DataW H)) (before : List MemPlace)
   (hval : ∀ (j : Nat) t v, Tryz.f8.params[j]? = some t → args[j]? = some v → Value.okWide Tryz.prog W .any base t v)
   (hW : DataW.Whole enc Tryz.prog Tryz.f8.params.toList Rows.tellsSpec.vars false W args.toList ds gs before)
   (hk : Rows.uptoSmall H (ds ++ gs) = true)
   (hL : laidMet Tryz.prog Hp W) :
   Calls Tryz.prog 8 args W fun e W' => ∃ v, e = .returned v ∧ Rows.tellsSpec.post enc Tryz.prog Tryz.f8 false true false false W args v W' := by
 have hW' := hW
 obtain ⟨p, q, hA0, hV, rfl, hfz, hnd⟩ := hW
 have hA : DataW.TrodAll enc Tryz.prog W 0 (fun _ => true) true Tryz.f8.params.toList args.toList ds p := hA0
 rw [Tryz.params8] at hA hval
 obtain ⟨v0, vs0, d0, ds0, p0, q0, hargs, rfl, rfl, h0, r0⟩ := trodAll_cons hA
 obtain ⟨rfl, rfl, rfl⟩ := trodAll_nil r0
 obtain rfl : args = #[v0] := by cases args; simp_all
 obtain ⟨rfl, rfl⟩ := trodVars_none hV
 clear hA0
 have hbd : Rows.uptoBulk d0 ≤ 1048576 := by
   have h := of_decide_eq_true hk
   simp only [List.append_nil, Rows.uptoBulkAll, Nat.add_zero] at h
   exact h
 have h0k := h0
 obtain ⟨a0, l0, c0, rfl⟩ := okWide_slice Tryz.underlying69 (hval 0 69 v0 rfl rfl)
 obtain ⟨fu0, hf0⟩ := h0
 obtain ⟨pp, pc, ops, e0, hops, hn⟩ := jav hf0 hbd
 have e1 : Value.slice a0 l0 c0 = .slice pp ops.length pc := by simpa [Value.cells] using e0
 injection e1 with x1 x2 x3
 subst x1
 subst x2
 subst x3
 obtain ⟨E, hE⟩ := Sg hL
 have walk := tells_law hE (Nat.le_refl _) (pc := c0) hops hn
 have hlt : ∀ x ∈ p0, x.block < W.heap.size := fun x hx => hW'.lt x (by simpa using hx)
 refine walk.mono fun e W' ⟨he, hkk⟩ => ?_
 subst he
 have bel := hkk.below
 refine ⟨_, rfl, _, _, _, [], p0 ++ [], [], hW', trodAll_mk1 (shut_bool Tryz.underlying4 _), ?_, rfl, bel.frame _, fun h => by cases h⟩
 rw [Tryz.params8]
 exact trodAll_cons_mk (again (by kernel_rfl) (of_decide_eq_true (by kernel_rfl)) h0k bel (fun x hx => hlt x (by simp [hx]))) trodAll_mk0
abbrev tellsArgs : Array Value := #[.slice none 0 0]
theorem tells_laid_met (os : Os) : laidMet Tryz.prog Rows.tellsUptoRow.laid ((Bs Tryz.prog os).forCall (fun _ _ => 0) ⟨#[], tellsArgs, []⟩).memory :=
 laidMet_of_run' 8 (by kernel_rfl) (by kernel_rfl)
theorem tells_reads (os : Os) {H : Type} (enc : TypeId × Value → H) : ∃ places, DataW.whole enc Tryz.prog ((Bs Tryz.prog os).forCall (fun _ _ => 0) ⟨#[], tellsArgs, []⟩).memory Tryz.f8.params.toList Rows.tellsSpec.vars false tellsArgs.toList 8 = some ([.nil], [], places) :=
 ⟨[], by kernel_rfl⟩
set_option maxRecDepth 100000 in
theorem tells_lifted (os : Os) (started : os.Started) (H : Type) (enc : TypeId × Value → H) (F : Stop.Interp) :
   ReturnsInHanded {} Tryz.checked os 8 .any ((Rows.OpenSpec.upto Rows.tellsSpec).preRow enc Tryz.prog Tryz.f8 Rows.tellsUptoRow.domain false Rows.tellsUptoRow.laid) (((Rows.OpenSpec.upto Rows.tellsSpec).at F).post enc Tryz.prog Tryz.f8 false true false false) := by
 obtain ⟨places, hx⟩ := tells_reads os enc
 refine returnsInHanded_of_row (C := Tryz.checked) (s := Rows.OpenSpec.upto Rows.tellsSpec) own started (by kernel_rfl) Tryz.func8
   (witness_row_atRef (enc := enc) (C := Tryz.checked) false (Bs Tryz.prog os) tellsArgs rfl (by kernel_rfl) (by kernel_rfl) (by kernel_rfl)
     (OpenSpec.preRow_of_cond 8 hx (by kernel_rfl) (fun k hk => by cases hk; kernel_rfl) (by kernel_rfl) (tells_laid_met os))) ?_
 intro W base args ds gs before hval hW _ hcond _ hL _ _
 exact tells_contract H enc F W base args ds gs before hval hW (hcond _ rfl) hL
theorem tells_facts : joinedFacts Tryz.prog 8 Tryz.f8 (Rows.OpenSpec.upto Rows.tellsSpec).bare Rows.tellsUptoRow = true :=
 ja7 tells_fact0 tells_fact1 tells_fact2 tells_fact3 tells_fact4 tells_fact5 tells_fact6 tells_fact7 tells_fact8 tells_fact9 tells_fact10 tells_fact11 tells_fact12 tells_fact13 tells_fact14 tells_fact15 tells_fact16 tells_fact17 tells_fact18 tells_fact19 tells_fact20 tells_fact21 tells_fact22 tells_fact23 tells_fact24 tells_fact25 tells_fact26 tells_fact27 (by kernel_rfl) tells_fact29 tells_fact30 tells_fact31
theorem tells_said : Rows.TellsUptoSaid :=
 OpenClaim.holds_of_cond 8 Tryz.f8 rfl rfl rfl rfl rfl rfl rfl ⟨rfl, rfl, rfl, rfl, rfl⟩ rfl rfl rfl rfl rfl (by kernel_rfl) Tryz.func8 tells_facts
   (of_decide_eq_true (by kernel_rfl)) (by unfold Func.isWrapper; first | (rw [if_pos (by decide +kernel)]; kernel_rfl) | (rw [if_neg (by decide +kernel)]; exact ⟨rfl, rfl⟩))
   (fun os started H enc _ F => by rw [OpenClaim.pre_eq_preRow]; exact tells_lifted os started H enc F)
theorem tells_plain (f : FuncId) (fn : Func) (hf : Tryz.pinned.checked.prog.funcNamed "sediment/sedimentkeep.Tells" = some f) (hfn : Tryz.pinned.checked.prog.funcs[f]? = some fn) :
   true = Tryz.pinned.checked.prog.looks [] ∧ ∀ (j : Nat) t, fn.params[j]? = some t → Tryz.pinned.checked.prog.wantsStandIn t = false := by
 obtain rfl : f = 8 := Option.some.inj ((show Tryz.prog.funcNamed "sediment/sedimentkeep.Tells" = some 8 by kernel_rfl).symm.trans hf) |>.symm
 obtain rfl : fn = Tryz.f8 := (Option.some.inj (Tryz.func8.symm.trans hfn)).symm
 refine ⟨by kernel_rfl, fun j t ht => ?_⟩
 rw [Tryz.params8] at ht
 obtain rfl : t = 69 := by simpa using Array.mem_of_getElem? ht
 exact (show Tryz.prog.wantsStandIn 69 = false by kernel_rfl)
set_option maxRecDepth 100000 in
theorem tells_tie : Rows.tellsUptoRow.laidByTextAt .later Tryz.pinned [.data, .data, .data, .sentinel, .sentinel, .sentinel, .sentinel, .sentinel, .sentinel, .sentinel] true :=
 OpenClaim.laidByTextAt_later rfl rfl (Program.laidByTextLater_by_one 157 8 65 (by kernel_rfl) (by kernel_rfl) (by kernel_rfl) (by kernel_rfl) (by kernel_rfl) (by kernel_rfl) (fun _ _ => by kernel_rfl)) (by kernel_rfl)
theorem tells_card : Rows.TellsUptoCardSaid :=
 Claim7.holds_tied_plain_at .later [] _ _ _ _ tells_said (fun _ h => by cases h) (by kernel_rfl) (fun _ h => by cases h) tells_tie rfl ⟨rfl, rfl⟩ (by kernel_rfl) rfl tells_plain (by kernel_rfl)
#print axioms tells_card
end Go.Proofs.YtnipbplghijdmaaGreatDoor
