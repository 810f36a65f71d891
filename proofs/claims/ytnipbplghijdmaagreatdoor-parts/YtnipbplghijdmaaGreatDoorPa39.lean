/-
  Pa: FactsA PartsF.
-/
import Derived.JoinedCond
import Derived.Test.YtnipbplghijdmaaGreatDoorRows
namespace Go.Proofs.YtnipbplghijdmaaGreatDoor
set_option linter.unusedVariables false
theorem joined_of {P : Program} {f : FuncId} {fn : Func} {s : ChangeSpec} {c : OpenClaim} (k0 : (c.wf (OpenSpec.ofChange s)) = true) (k1 : (laidOutB P) = true) (k2 : (mapsRowed P) = true) (k3 : (fn.params.all (P.readableRec ·)) = true) (k4 : (namedTie P c.named s.vars) = true) (k5 : ((c.stops == [])) = true) (k6 : ((P.stops == [])) = true) (k7 : ((c.knobs == [])) = true) (k8 : ((P.stopKnobs == [])) = true) (k9 : ((c.inPlace == P.inPlace f)) = true) (k10 : ((c.unfollowed == P.unfollowed f)) = true) (k11 : ((c.recurses == P.recurses f)) = true) (k12 : ((c.named == P.varsNamed f)) = true) (k13 : ((c.maps == (fn.params.toList ++ s.plain.varTypes P).any (P.mapsRec ·))) = true) (k14 : ((c.ifaces == (fn.params.toList ++ s.plain.varTypes P).any (P.ifacesRec ·))) = true) (k15 : ((c.mapsOut == P.mapsAmong fn.resultTypes.toList)) = true) (k16 : ((c.loops == (fn.params.toList ++ s.plain.varTypes P).any (P.loopsFrom ·))) = true) (k17 : ((c.wideKeys == (fn.params.toList ++ s.plain.varTypes P ++ fn.resultTypes.toList).any (P.wideKeysFrom ·))) = true) (k18 : (s.vars.all (P.varReadable ·)) = true) (k19 : (fn.resultTypes.all (fun t => P.readableRec t && decide (t < P.types.size))) = true) (k20 : ((c.ifacesOut == fn.resultTypes.toList.any (P.ifacesRec ·))) = true) (k21 : ((c.loopsOut == fn.resultTypes.toList.any (P.loopsFrom ·))) = true) (k22 : ((c.plainKeys == P.plainKeys)) = true) (k23 : (c.shortTexts.isNone) = true) (k24 : (P.stopsHeard) = true) (k25 : (P.mayEnter) = true) (k26 : ((c.lifted == P.liftsFinal)) = true) (k27 : ((P.make == some c.make)) = true) (k28 : ((c.kinds == (if c.domain.isEmpty then [] else fn.params.toList.map fun t => match P.underlying t with | some (.int k) => some k | _ => none))) = true) (k29 : ((c.pinned == c.pinnedBy)) = true) (k30 : ((c.veiled == (fn.params.toList ++ s.plain.varTypes P ++ fn.resultTypes.toList).any (P.veiledRec ·))) = true) (k31 : (c.veiledFits P fn.params.toList (fn.params.toList ++ s.plain.varTypes P ++ fn.resultTypes.toList)) = true) : joinedFacts P f fn s c = true := by
 simp only [joinedFacts, Bool.and_eq_true]
 exact ⟨⟨⟨⟨⟨⟨⟨⟨⟨⟨⟨⟨⟨⟨⟨⟨⟨⟨⟨⟨⟨⟨⟨⟨⟨⟨⟨⟨⟨⟨⟨k0, k1⟩, k2⟩, k3⟩, k4⟩, k5⟩, k6⟩, k7⟩, k8⟩, k9⟩, k10⟩, k11⟩, k12⟩, k13⟩, k14⟩, k15⟩, k16⟩, k17⟩, k18⟩, k19⟩, k20⟩, k21⟩, k22⟩, k23⟩, k24⟩, k25⟩, k26⟩, k27⟩, k28⟩, k29⟩, k30⟩, k31⟩
theorem parts_fact0 : (Rows.partsRow.wf (OpenSpec.ofChange (OpenSpec.ofChange Rows.partsSpec).bare)) = true := by kernel_rfl
theorem parts_fact1 : (laidOutB Tryz.prog) = true := by kernel_rfl
theorem parts_fact2 : (mapsRowed Tryz.prog) = true := by kernel_rfl
theorem parts_fact3 : (Tryz.f7.params.all (Tryz.prog.readableRec ·)) = true := by kernel_rfl
theorem parts_fact4 : (namedTie Tryz.prog Rows.partsRow.named (OpenSpec.ofChange Rows.partsSpec).bare.vars) = true := by kernel_rfl
theorem parts_fact5 : ((Rows.partsRow.stops == [])) = true := by kernel_rfl
theorem parts_fact6 : ((Tryz.prog.stops == [])) = true := by kernel_rfl
theorem parts_fact7 : ((Rows.partsRow.knobs == [])) = true := by kernel_rfl
theorem parts_fact8 : ((Tryz.prog.stopKnobs == [])) = true := by kernel_rfl
theorem parts_fact9 : ((Rows.partsRow.inPlace == Tryz.prog.inPlace 7)) = true := by kernel_rfl
theorem parts_fact10 : ((Rows.partsRow.unfollowed == Tryz.prog.unfollowed 7)) = true := by kernel_rfl
theorem parts_fact11 : ((Rows.partsRow.recurses == Tryz.prog.recurses 7)) = true := by kernel_rfl
theorem parts_fact12 : ((Rows.partsRow.named == Tryz.prog.varsNamed 7)) = true := by kernel_rfl
theorem parts_fact13 : ((Rows.partsRow.maps == (Tryz.f7.params.toList ++ (OpenSpec.ofChange Rows.partsSpec).bare.plain.varTypes Tryz.prog).any (Tryz.prog.mapsRec ·))) = true := by kernel_rfl
theorem parts_fact14 : ((Rows.partsRow.ifaces == (Tryz.f7.params.toList ++ (OpenSpec.ofChange Rows.partsSpec).bare.plain.varTypes Tryz.prog).any (Tryz.prog.ifacesRec ·))) = true := by kernel_rfl
theorem parts_fact15 : ((Rows.partsRow.mapsOut == Tryz.prog.mapsAmong Tryz.f7.resultTypes.toList)) = true := by kernel_rfl
theorem parts_fact16 : ((Rows.partsRow.loops == (Tryz.f7.params.toList ++ (OpenSpec.ofChange Rows.partsSpec).bare.plain.varTypes Tryz.prog).any (Tryz.prog.loopsFrom ·))) = true := by kernel_rfl
theorem parts_fact17 : ((Rows.partsRow.wideKeys == (Tryz.f7.params.toList ++ (OpenSpec.ofChange Rows.partsSpec).bare.plain.varTypes Tryz.prog ++ Tryz.f7.resultTypes.toList).any (Tryz.prog.wideKeysFrom ·))) = true := by kernel_rfl
theorem parts_fact18 : ((OpenSpec.ofChange Rows.partsSpec).bare.vars.all (Tryz.prog.varReadable ·)) = true := by kernel_rfl
theorem parts_fact19 : (Tryz.f7.resultTypes.all (fun t => Tryz.prog.readableRec t && decide (t < Tryz.prog.types.size))) = true := by kernel_rfl
theorem parts_fact20 : ((Rows.partsRow.ifacesOut == Tryz.f7.resultTypes.toList.any (Tryz.prog.ifacesRec ·))) = true := by kernel_rfl
theorem parts_fact21 : ((Rows.partsRow.loopsOut == Tryz.f7.resultTypes.toList.any (Tryz.prog.loopsFrom ·))) = true := by kernel_rfl
theorem parts_fact22 : ((Rows.partsRow.plainKeys == Tryz.prog.plainKeys)) = true := by kernel_rfl
theorem parts_fact23 : (Rows.partsRow.shortTexts.isNone) = true := by kernel_rfl
theorem parts_fact24 : (Tryz.prog.stopsHeard) = true := by kernel_rfl
theorem parts_fact25 : (Tryz.prog.mayEnter) = true := by kernel_rfl
theorem parts_fact26 : ((Rows.partsRow.lifted == Tryz.prog.liftsFinal)) = true := by kernel_rfl
theorem parts_fact27 : ((Tryz.prog.make == some Rows.partsRow.make)) = true := by kernel_rfl
theorem parts_fact29 : ((Rows.partsRow.pinned == Rows.partsRow.pinnedBy)) = true := by kernel_rfl
theorem parts_fact30 : ((Rows.partsRow.veiled == (Tryz.f7.params.toList ++ (OpenSpec.ofChange Rows.partsSpec).bare.plain.varTypes Tryz.prog ++ Tryz.f7.resultTypes.toList).any (Tryz.prog.veiledRec ·))) = true := by kernel_rfl
theorem parts_fact31 : (Rows.partsRow.veiledFits Tryz.prog Tryz.f7.params.toList (Tryz.f7.params.toList ++ (OpenSpec.ofChange Rows.partsSpec).bare.plain.varTypes Tryz.prog ++ Tryz.f7.resultTypes.toList)) = true := by kernel_rfl
end Go.Proofs.YtnipbplghijdmaaGreatDoor
