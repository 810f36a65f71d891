/-
  La: FactsA LayersF.
-/
import Derived.JoinedCond
import Derived.Test.YtnipbplghijdmaaGreatDoorRows
namespace Go.Proofs.YtnipbplghijdmaaGreatDoor
set_option linter.unusedVariables false
theorem jcl {P : Program} {f : FuncId} {fn : Func} {s : ChangeSpec} {c : OpenClaim} (k0 : (c.wf (OpenSpec.ofChange s)) = true) (k1 : (laidOutB P) = true) (k2 : (mapsRowed P) = true) (k3 : (fn.params.all (P.readableRec ·)) = true) (k4 : (namedTie P c.named s.vars) = true) (k5 : ((c.stops == [])) = true) (k6 : ((P.stops == [])) = true) (k7 : ((c.knobs == [])) = true) (k8 : ((P.stopKnobs == [])) = true) (k9 : ((c.inPlace == P.inPlace f)) = true) (k10 : ((c.unfollowed == P.unfollowed f)) = true) (k11 : ((c.recurses == P.recurses f)) = true) (k12 : ((c.named == P.varsNamed f)) = true) (k13 : ((c.maps == (fn.params.toList ++ s.plain.varTypes P).any (P.mapsRec ·))) = true) (k14 : ((c.ifaces == (fn.params.toList ++ s.plain.varTypes P).any (P.ifacesRec ·))) = true) (k15 : ((c.mapsOut == P.mapsAmong fn.resultTypes.toList)) = true) (k16 : ((c.loops == (fn.params.toList ++ s.plain.varTypes P).any (P.loopsFrom ·))) = true) (k17 : ((c.wideKeys == (fn.params.toList ++ s.plain.varTypes P ++ fn.resultTypes.toList).any (P.wideKeysFrom ·))) = true) (k18 : (s.vars.all (P.varReadable ·)) = true) (k19 : (fn.resultTypes.all (fun t => P.readableRec t && decide (t < P.types.size))) = true) (k20 : ((c.ifacesOut == fn.resultTypes.toList.any (P.ifacesRec ·))) = true) (k21 : ((c.loopsOut == fn.resultTypes.toList.any (P.loopsFrom ·))) = true) (k22 : ((c.plainKeys == P.plainKeys)) = true) (k23 : (c.shortTexts.isNone) = true) (k24 : (P.stopsHeard) = true) (k25 : (P.mayEnter) = true) (k26 : ((c.lifted == P.liftsFinal)) = true) (k27 : ((P.make == some c.make)) = true) (k28 : ((c.kinds == (if c.domain.isEmpty then [] else fn.params.toList.map fun t => match P.underlying t with | some (.int k) => some k | _ => none))) = true) (k29 : ((c.pinned == c.pinnedBy)) = true) (k30 : ((c.veiled == (fn.params.toList ++ s.plain.varTypes P ++ fn.resultTypes.toList).any (P.veiledRec ·))) = true) (k31 : (c.veiledFits P fn.params.toList (fn.params.toList ++ s.plain.varTypes P ++ fn.resultTypes.toList)) = true) : joinedFacts P f fn s c = true := by
 simp only [joinedFacts, Bool.and_eq_true]
 exact ⟨⟨⟨⟨⟨⟨⟨⟨⟨⟨⟨⟨⟨⟨⟨⟨⟨⟨⟨⟨⟨⟨⟨⟨⟨⟨⟨⟨⟨⟨⟨k0, k1⟩, k2⟩, k3⟩, k4⟩, k5⟩, k6⟩, k7⟩, k8⟩, k9⟩, k10⟩, k11⟩, k12⟩, k13⟩, k14⟩, k15⟩, k16⟩, k17⟩, k18⟩, k19⟩, k20⟩, k21⟩, k22⟩, k23⟩, k24⟩, k25⟩, k26⟩, k27⟩, k28⟩, k29⟩, k30⟩, k31⟩
theorem R8 : (Rows.layersRow.wf (OpenSpec.ofChange (OpenSpec.ofChange Rows.layersSpec).bare)) = true := by kernel_rfl
theorem R7 : (laidOutB Tryz.prog) = true := by kernel_rfl
theorem R6 : (mapsRowed Tryz.prog) = true := by kernel_rfl
theorem R5 : (Tryz.f6.params.all (Tryz.prog.readableRec ·)) = true := by kernel_rfl
theorem Rz : (namedTie Tryz.prog Rows.layersRow.named (OpenSpec.ofChange Rows.layersSpec).bare.vars) = true := by kernel_rfl
theorem Ry : ((Rows.layersRow.stops == [])) = true := by kernel_rfl
theorem Rx : ((Tryz.prog.stops == [])) = true := by kernel_rfl
theorem Rw : ((Rows.layersRow.knobs == [])) = true := by kernel_rfl
theorem Rv : ((Tryz.prog.stopKnobs == [])) = true := by kernel_rfl
theorem Ru : ((Rows.layersRow.inPlace == Tryz.prog.inPlace 6)) = true := by kernel_rfl
theorem N8 : ((Rows.layersRow.unfollowed == Tryz.prog.unfollowed 6)) = true := by kernel_rfl
theorem N7 : ((Rows.layersRow.recurses == Tryz.prog.recurses 6)) = true := by kernel_rfl
theorem Nz : ((Rows.layersRow.named == Tryz.prog.varsNamed 6)) = true := by kernel_rfl
theorem Ny : ((Rows.layersRow.maps == (Tryz.f6.params.toList ++ (OpenSpec.ofChange Rows.layersSpec).bare.plain.varTypes Tryz.prog).any (Tryz.prog.mapsRec ·))) = true := by kernel_rfl
theorem Nw : ((Rows.layersRow.ifaces == (Tryz.f6.params.toList ++ (OpenSpec.ofChange Rows.layersSpec).bare.plain.varTypes Tryz.prog).any (Tryz.prog.ifacesRec ·))) = true := by kernel_rfl
theorem Nv : ((Rows.layersRow.mapsOut == Tryz.prog.mapsAmong Tryz.f6.resultTypes.toList)) = true := by kernel_rfl
theorem Nu : ((Rows.layersRow.loops == (Tryz.f6.params.toList ++ (OpenSpec.ofChange Rows.layersSpec).bare.plain.varTypes Tryz.prog).any (Tryz.prog.loopsFrom ·))) = true := by kernel_rfl
theorem Nt : ((Rows.layersRow.wideKeys == (Tryz.f6.params.toList ++ (OpenSpec.ofChange Rows.layersSpec).bare.plain.varTypes Tryz.prog ++ Tryz.f6.resultTypes.toList).any (Tryz.prog.wideKeysFrom ·))) = true := by kernel_rfl
theorem Ns : ((OpenSpec.ofChange Rows.layersSpec).bare.vars.all (Tryz.prog.varReadable ·)) = true := by kernel_rfl
theorem Nr : (Tryz.f6.resultTypes.all (fun t => Tryz.prog.readableRec t && decide (t < Tryz.prog.types.size))) = true := by kernel_rfl
theorem Nq : ((Rows.layersRow.ifacesOut == Tryz.f6.resultTypes.toList.any (Tryz.prog.ifacesRec ·))) = true := by kernel_rfl
theorem Np : ((Rows.layersRow.loopsOut == Tryz.f6.resultTypes.toList.any (Tryz.prog.loopsFrom ·))) = true := by kernel_rfl
theorem Nn : ((Rows.layersRow.plainKeys == Tryz.prog.plainKeys)) = true := by kernel_rfl
theorem Nl : (Rows.layersRow.shortTexts.isNone) = true := by kernel_rfl
theorem Nk : (Tryz.prog.stopsHeard) = true := by kernel_rfl
theorem Nj : (Tryz.prog.mayEnter) = true := by kernel_rfl
theorem Ni : ((Rows.layersRow.lifted == Tryz.prog.liftsFinal)) = true := by kernel_rfl
theorem Nh : ((Tryz.prog.make == some Rows.layersRow.make)) = true := by kernel_rfl
theorem Ng : ((Rows.layersRow.pinned == Rows.layersRow.pinnedBy)) = true := by kernel_rfl
theorem Nf : ((Rows.layersRow.veiled == (Tryz.f6.params.toList ++ (OpenSpec.ofChange Rows.layersSpec).bare.plain.varTypes Tryz.prog ++ Tryz.f6.resultTypes.toList).any (Tryz.prog.veiledRec ·))) = true := by kernel_rfl
theorem Nc : (Rows.layersRow.veiledFits Tryz.prog Tryz.f6.params.toList (Tryz.f6.params.toList ++ (OpenSpec.ofChange Rows.layersSpec).bare.plain.varTypes Tryz.prog ++ Tryz.f6.resultTypes.toList)) = true := by kernel_rfl
end Go.Proofs.YtnipbplghijdmaaGreatDoor
