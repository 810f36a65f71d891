/-
  Stays (sedimentkeep; the document's P11: once an Open was OK, the power may go in whatever Open, again and again: it comes to the same): it returns true for every script, cuts and choices of bulk at most 1048576 in all, which read as they did. The card over the row.
-/
import Derived.Test.YtnipbplghijdmaaGreatDoorCards
import Derived.LaidByTextLater
import Derived.SevenTiedAt
import Derived.LaidSub
import Derived.LaidOnce
import Derived.WalkKit
import Derived.ChangeMaps5
import Derived.ProofKit
import Derived.OpenShut
import Derived.SizedLaws
import Derived.ChangeSlices
import Derived.Deep.Slices
import Derived.WideKeyArgs
import Derived.WideKeyElems4
import Derived.Deep.DeepHandedRow
import Derived.Deep.DeepWitnessRowRef
import Derived.Test.YtnipbplghijdmaaGreatDoorV35
import Derived.Test.YtnipbplghijdmaaGreatDoorX01
import Derived.Test.YtnipbplghijdmaaGreatDoorV43
import Derived.Test.YtnipbplghijdmaaGreatDoorV46
namespace Go.Proofs.YtnipbplghijdmaaGreatDoor
open Go.RowKit Go.ChangeShapes Go.WideShapes Go.ChangeAt Go.Deep
set_option linter.unusedVariables false
section
variable {H : Type} {enc : TypeId × Value → H} {W : World}
set_option maxRecDepth 100000 in
theorem open_chooses {fuel : Nat} {cs : List Value} {x : DataW H × List MemPlace} (h : DataW.trod enc Tryz.prog W 0 (fun _ => true) true fuel 26 cs = some x) (hb : Rows.uptoBulk x.1 ≤ 1048576) : ∃ p c css, cs = [.slice p css.length c] ∧ ChoosesAt W W.heap.size p css ∧ css.length ≤ 1048576 := by
 rcases open_slice Tryz.underlying26 h with ⟨rfl, _⟩ | ⟨a, len, cap, m, n, D, Pl, rfl, _, hlc, hcm, hm, hx, hel⟩
 · exact ⟨none, 0, [], rfl, fun i hi => (by simp at hi), by simp⟩
 · simp only [if_true] at hm
   subst hm
   rw [hx] at hb
   rw [Iv] at hb
   have hlb := Su ((List.range len).map D)
   simp only [List.length_map, List.length_range] at hlb
   rcases Nat.eq_zero_or_pos len with h0 | h0
   · subst h0
     exact ⟨some a, m, [], rfl, fun i hi => (by simp at hi), by simp⟩
   have hdi : ∀ i, i < len → Rows.uptoBulk (D i) ≤ Rows.uptoBulkAll ((List.range len).map D) := fun i hi => Wy (List.mem_map.2 ⟨i, List.mem_range.2 hi, rfl⟩)
   have each : ∀ i, i < len → ∃ q : List Int, ∃ v, W.cell? (a.add i) = some v ∧ Zm W W.heap.size v q := by
     intro i hi
     obtain ⟨cs', hc, ht⟩ := hel i (by omega)
     rw [He, Nat.mul_one] at hc
     obtain ⟨v, q, rfl, _, _, h1⟩ := Lu ht (by have := hdi i hi; simp only; omega)
     exact ⟨q, v, cell_of_cells?_one hc, h1⟩
   obtain ⟨F, hF⟩ := choose_lt each
   have hsp : a.spot = none := by
     obtain ⟨v, h1, _⟩ := hF 0 h0
     simpa [Addr.add] using World.cell?_spot h1
   obtain ⟨b, o, sp⟩ := a
   simp only at hsp
   subst hsp
   refine ⟨some ⟨b, o, none⟩, m, (List.range len).map F, by simp, fun i hi => ?_, by simp; omega⟩
   have hi' : i < len := by simpa using hi
   obtain ⟨v, h1, h2⟩ := hF i hi'
   rw [add_plain] at h1
   exact ⟨b, o, v, rfl, h1, by simpa using h2⟩
end
end Go.Proofs.YtnipbplghijdmaaGreatDoor
namespace Go.Proofs.YtnipbplghijdmaaGreatDoor
open Go.ChangeShapes Go.WideShapes Go.ChangeAt Go.RowKit Go.ChangeMaps
set_option linter.unusedVariables false
theorem own : ownKnob Tryz.prog.godebug = none := by kernel_rfl
theorem laidOut : laidOutB Tryz.prog = true := by kernel_rfl
theorem ja.below {w w' : World} (h : ja w w' (fun _ => False)) : Below w.heap.size w w' := ⟨h.os, h.tape, h.output, h.size, fun k hk => h.block k hk id⟩
theorem again {H : Type} {enc : TypeId × Value → H} {W W' : World} {t : TypeId} {v : Value} {d : DataW H} {ps : List MemPlace} (hr : Tryz.prog.readableRec t = true) (hrow : t < Tryz.prog.types.size) (h : DataW.Trod enc Tryz.prog W 0 (fun _ => true) true t v d ps) (hb : Below W.heap.size W W') (hlt : ∀ x ∈ ps, x.block < W.heap.size) :
   DataW.Trod enc Tryz.prog W' 0 (fun b => decide (b < W.heap.size)) true t v d ps :=
 WideElems.Trod_stays laidOut hr hrow h (fun p hp => hb.same (hlt p hp)) (fun p hp => by simpa using hlt p hp)
set_option maxRecDepth 100000 in
theorem stays_contract (H : Type) (enc : TypeId × Value → H) (F : Stop.Interp) (W : World) (base : Nat) (args : Array Value) (ds gs : List (DataW H)) (before : List MemPlace)
   (hval : ∀ (j : Nat) t v, Tryz.f12.params[j]? = some t → args[j]? = some v → Value.okWide Tryz.prog W .any base t v)
   (hW : DataW.Whole enc Tryz.prog Tryz.f12.params.toList Rows.staysSpec.vars false W args.toList ds gs before)
   (hk : Rows.uptoSmall H (ds ++ gs) = true)
   (hL : laidMet Tryz.prog Hp W) :
   Calls Tryz.prog 12 args W fun e W' => ∃ v, e = .returned v ∧ Rows.staysSpec.post enc Tryz.prog Tryz.f12 false true false false W args v W' := by
 have hW' := hW
 obtain ⟨p, q, hA0, hV, rfl, hfz, hnd⟩ := hW
 have hA : DataW.TrodAll enc Tryz.prog W 0 (fun _ => true) true Tryz.f12.params.toList args.toList ds p := hA0
 rw [Tryz.params12] at hA hval
 obtain ⟨v0, vs0, d0, ds0, p0, q0, hargs, rfl, rfl, h0, r0⟩ := trodAll_cons hA
 obtain ⟨v1, vs1, d1, ds1, p1, q1, rfl, rfl, rfl, h1, r1⟩ := trodAll_cons r0
 obtain ⟨v2, vs2, d2, ds2, p2, q2, rfl, rfl, rfl, h2, r2⟩ := trodAll_cons r1
 obtain ⟨rfl, rfl, rfl⟩ := trodAll_nil r2
 obtain rfl : args = #[v0, v1, v2] := by cases args; simp_all
 obtain ⟨rfl, rfl⟩ := trodVars_none hV
 clear hA0
 have hbd : Rows.uptoBulk d0 + (Rows.uptoBulk d1 + Rows.uptoBulk d2) ≤ 1048576 := by
   have h := of_decide_eq_true hk
   simp only [List.append_nil, Rows.uptoBulkAll, Nat.add_zero] at h
   exact h
 have h0k := h0
 have h1k := h1
 have h2k := h2
 obtain ⟨a0, l0, c0, rfl⟩ := okWide_slice Tryz.underlying69 (hval 0 69 v0 rfl rfl)
 obtain ⟨a1, l1, c1, rfl⟩ := okWide_slice Tryz.underlying39 (hval 1 39 v1 rfl rfl)
 obtain ⟨a2, l2, c2, rfl⟩ := okWide_slice Tryz.underlying26 (hval 2 26 v2 rfl rfl)
 obtain ⟨fu0, hf0⟩ := h0
 obtain ⟨fu1, hf1⟩ := h1
 obtain ⟨fu2, hf2⟩ := h2
 obtain ⟨pp, pc, ops, e0, hops, hn⟩ := jav hf0 (by simp only; omega)
 obtain ⟨x1, zs, e1, hz, _, _⟩ := Lu hf1 (by simp only; omega)
 obtain ⟨pq, cq, css, e2, hcs, hcl⟩ := open_chooses hf2 (by simp only; omega)
 have e3 : Value.slice a0 l0 c0 = .slice pp ops.length pc := by simpa [Value.cells] using e0
 have e4 : Value.slice a1 l1 c1 = x1 := by simpa [Value.cells] using e1
 have e5 : Value.slice a2 l2 c2 = .slice pq css.length cq := by simpa [Value.cells] using e2
 subst e4
 obtain ⟨pzv, czv, e6, _⟩ := id hz
 injection e3 with x1 x2 x3
 subst x1
 subst x2
 subst x3
 injection e5 with x1 x2 x3
 subst x1
 subst x2
 subst x3
 injection e6 with x1 x2 x3
 subst x1
 subst x2
 subst x3
 obtain ⟨E, hE⟩ := Sg hL
 have walk := stays_law hE (Nat.le_refl _) (pc := c0) (cq := c2) hops hn hz hcs hcl
 have hlt : ∀ x ∈ p0 ++ (p1 ++ p2), x.block < W.heap.size := fun x hx => hW'.lt x (by simpa using hx)
 refine walk.mono fun e W' ⟨he, hkk⟩ => ?_
 subst he
 have bel := hkk.below
 refine ⟨_, rfl, _, _, _, [], p0 ++ (p1 ++ (p2 ++ [])), [], hW', trodAll_mk1 (shut_bool Tryz.underlying4 _), ?_, rfl, bel.frame _, fun h => by cases h⟩
 rw [Tryz.params12]
 exact trodAll_cons_mk (again (by kernel_rfl) (of_decide_eq_true (by kernel_rfl)) h0k bel (fun x hx => hlt x (by simp [hx])))
   (trodAll_cons_mk (again (by kernel_rfl) (of_decide_eq_true (by kernel_rfl)) h1k bel (fun x hx => hlt x (by simp [hx])))
   (trodAll_cons_mk (again (by kernel_rfl) (of_decide_eq_true (by kernel_rfl)) h2k bel (fun x hx => hlt x (by simp [hx]))) trodAll_mk0))
abbrev staysArgs : Array Value := #[.slice none 0 0, .slice none 0 0, .slice none 0 0]
theorem stays_laid_met (os : Os) : laidMet Tryz.prog Rows.staysUptoRow.laid ((Bs Tryz.prog os).forCall (fun _ _ => 0) ⟨#[], staysArgs, []⟩).memory :=
 laidMet_of_run' 8 (by kernel_rfl) (by kernel_rfl)
theorem stays_reads (os : Os) {H : Type} (enc : TypeId × Value → H) : ∃ places, DataW.whole enc Tryz.prog ((Bs Tryz.prog os).forCall (fun _ _ => 0) ⟨#[], staysArgs, []⟩).memory Tryz.f12.params.toList Rows.staysSpec.vars false staysArgs.toList 8 = some ([.nil, .nil, .nil], [], places) :=
 ⟨[], by kernel_rfl⟩
set_option maxRecDepth 100000 in
theorem stays_lifted (os : Os) (started : os.Started) (H : Type) (enc : TypeId × Value → H) (F : Stop.Interp) :
   ReturnsInHanded {} Tryz.checked os 12 .any ((Rows.OpenSpec.upto Rows.staysSpec).preRow enc Tryz.prog Tryz.f12 Rows.staysUptoRow.domain false Rows.staysUptoRow.laid) (((Rows.OpenSpec.upto Rows.staysSpec).at F).post enc Tryz.prog Tryz.f12 false true false false) := by
 obtain ⟨places, hx⟩ := stays_reads os enc
 refine returnsInHanded_of_row (C := Tryz.checked) (s := Rows.OpenSpec.upto Rows.staysSpec) own started (by kernel_rfl) Tryz.func12
   (witness_row_atRef (enc := enc) (C := Tryz.checked) false (Bs Tryz.prog os) staysArgs rfl (by kernel_rfl) (by kernel_rfl) (by kernel_rfl)
     (OpenSpec.preRow_of_cond 8 hx (by kernel_rfl) (fun k hk => by cases hk; kernel_rfl) (by kernel_rfl) (stays_laid_met os))) ?_
 intro W base args ds gs before hval hW _ hcond _ hL _ _
 exact stays_contract H enc F W base args ds gs before hval hW (hcond _ rfl) hL
theorem stays_facts : joinedFacts Tryz.prog 12 Tryz.f12 (Rows.OpenSpec.upto Rows.staysSpec).bare Rows.staysUptoRow = true :=
 ja7 stays_fact0 stays_fact1 stays_fact2 stays_fact3 stays_fact4 stays_fact5 stays_fact6 stays_fact7 stays_fact8 stays_fact9 stays_fact10 stays_fact11 stays_fact12 stays_fact13 stays_fact14 stays_fact15 stays_fact16 stays_fact17 stays_fact18 stays_fact19 stays_fact20 stays_fact21 stays_fact22 stays_fact23 stays_fact24 stays_fact25 stays_fact26 stays_fact27 (by kernel_rfl) stays_fact29 stays_fact30 stays_fact31
theorem stays_said : Rows.StaysUptoSaid :=
 OpenClaim.holds_of_cond 12 Tryz.f12 rfl rfl rfl rfl rfl rfl rfl ⟨rfl, rfl, rfl, rfl, rfl⟩ rfl rfl rfl rfl rfl (by kernel_rfl) Tryz.func12 stays_facts
   (of_decide_eq_true (by kernel_rfl)) (by unfold Func.isWrapper; first | (rw [if_pos (by decide +kernel)]; kernel_rfl) | (rw [if_neg (by decide +kernel)]; exact ⟨rfl, rfl⟩))
   (fun os started H enc _ F => by rw [OpenClaim.pre_eq_preRow]; exact stays_lifted os started H enc F)
theorem stays_plain (f : FuncId) (fn : Func) (hf : Tryz.pinned.checked.prog.funcNamed "sediment/sedimentkeep.Stays" = some f) (hfn : Tryz.pinned.checked.prog.funcs[f]? = some fn) :
   true = Tryz.pinned.checked.prog.looks [] ∧ ∀ (j : Nat) t, fn.params[j]? = some t → Tryz.pinned.checked.prog.wantsStandIn t = false := by
 obtain rfl : f = 12 := Option.some.inj ((show Tryz.prog.funcNamed "sediment/sedimentkeep.Stays" = some 12 by kernel_rfl).symm.trans hf) |>.symm
 obtain rfl : fn = Tryz.f12 := (Option.some.inj (Tryz.func12.symm.trans hfn)).symm
 refine ⟨by kernel_rfl, fun j t ht => ?_⟩
 rw [Tryz.params12] at ht
 have hm := Array.mem_of_getElem? ht
 simp only [List.mem_toArray, List.mem_cons, List.not_mem_nil, or_false] at hm
 rcases hm with rfl | rfl | rfl
 · exact (show Tryz.prog.wantsStandIn 69 = false by kernel_rfl)
 · exact (show Tryz.prog.wantsStandIn 39 = false by kernel_rfl)
 · exact (show Tryz.prog.wantsStandIn 26 = false by kernel_rfl)
set_option maxRecDepth 100000 in
theorem stays_tie : Rows.staysUptoRow.laidByTextAt .later Tryz.pinned [.data, .data, .data, .sentinel, .sentinel, .sentinel, .sentinel, .sentinel, .sentinel, .sentinel] true :=
 OpenClaim.laidByTextAt_later rfl rfl (Program.laidByTextLater_by_one 157 8 65 (by kernel_rfl) (by kernel_rfl) (by kernel_rfl) (by kernel_rfl) (by kernel_rfl) (by kernel_rfl) (fun _ _ => by kernel_rfl)) (by kernel_rfl)
theorem stays_card : Rows.StaysUptoCardSaid :=
 Claim7.holds_tied_plain_at .later [] _ _ _ _ stays_said (fun _ h => by cases h) (by kernel_rfl) (fun _ h => by cases h) stays_tie rfl ⟨rfl, rfl⟩ (by kernel_rfl) rfl stays_plain (by kernel_rfl)
#print axioms stays_card
end Go.Proofs.YtnipbplghijdmaaGreatDoor
