/-
  D: FactsA DegradedF.
-/
import Derived.Test.YtnipbplghijdmaaGreatDoorD01
import Derived.JoinedCond
import Derived.Test.YtnipbplghijdmaaGreatDoorRows
set_option linter.unusedVariables false
set_option linter.unusedSimpArgs false
namespace Go.Proofs.YtnipbplghijdmaaGreatDoor
open Go.Proofs.Tryz
theorem jbo{P:Program}{f:FuncId}{fn:Func}{s:ChangeSpec}{c:OpenClaim}(R:(c.wf (OpenSpec.ofChange s))=true)(O:(laidOutB P)=true)(N:(mapsRowed P)=true)(M:(fn.params.all (P.readableRec ·))=true)(L:(namedTie P c.named s.vars)=true)(J:((c.stops==[]))=true)(I:((P.stops==[]))=true)(H:((c.knobs==[]))=true)(G:((P.stopKnobs==[]))=true)(F:((c.inPlace==P.inPlace f))=true)(E:((c.unfollowed==P.unfollowed f))=true)(D:((c.recurses==P.recurses f))=true)(C:((c.named==P.varsNamed f))=true)(B:((c.maps==(fn.params.toList++s.plain.varTypes P).any (P.mapsRec ·)))=true)(A:((c.ifaces==(fn.params.toList++s.plain.varTypes P).any (P.ifacesRec ·)))=true)(z:((c.mapsOut==P.mapsAmong fn.resultTypes.toList))=true)(y:((c.loops==(fn.params.toList++s.plain.varTypes P).any (P.loopsFrom ·)))=true)(x:((c.wideKeys==(fn.params.toList++s.plain.varTypes P++fn.resultTypes.toList).any (P.wideKeysFrom ·)))=true)(v:(s.vars.all (P.varReadable ·))=true)(u:(fn.resultTypes.all (fun t=>P.readableRec t&&decide (t<P.types.size)))=true)(r:((c.ifacesOut==fn.resultTypes.toList.any (P.ifacesRec ·)))=true)(q:((c.loopsOut==fn.resultTypes.toList.any (P.loopsFrom ·)))=true)(p:((c.plainKeys==P.plainKeys))=true)(o:(c.shortTexts.isNone)=true)(n:(P.stopsHeard)=true)(m:(P.mayEnter)=true)(l:((c.lifted==P.liftsFinal))=true)(j:((P.make==some c.make))=true)(i:((c.kinds==(if c.domain.isEmpty then [] else fn.params.toList.map fun t=>match P.underlying t with|some (.int k)=>some k|_=>none)))=true)(g:((c.pinned==c.pinnedBy))=true)(d:((c.veiled==(fn.params.toList++s.plain.varTypes P++fn.resultTypes.toList).any (P.veiledRec ·)))=true)(b:(c.veiledFits P fn.params.toList (fn.params.toList++s.plain.varTypes P++fn.resultTypes.toList))=true):joinedFacts P f fn s c=true:=by
 simp only[joinedFacts,ZU];exact⟨⟨⟨⟨⟨⟨⟨⟨⟨⟨⟨⟨⟨⟨⟨⟨⟨⟨⟨⟨⟨⟨⟨⟨⟨⟨⟨⟨⟨⟨⟨R,O⟩,N⟩,M⟩,L⟩,J⟩,I⟩,H⟩,G⟩,F⟩,E⟩,D⟩,C⟩,B⟩,A⟩,z⟩,y⟩,x⟩,v⟩,u⟩,r⟩,q⟩,p⟩,o⟩,n⟩,m⟩,l⟩,j⟩,i⟩,g⟩,d⟩,b⟩
theorem I0:(Rows.degradedUptoRow.wf (OpenSpec.ofChange (Rows.OpenSpec.upto Rows.degradedSpec).bare))=true:=by kernel_rfl
theorem Iz:(laidOutB prog)=true:=by kernel_rfl
theorem Iy:(mapsRowed prog)=true:=by kernel_rfl
theorem Iw:(f9.params.all (prog.readableRec ·))=true:=by kernel_rfl
theorem Iv:(namedTie prog Rows.degradedUptoRow.named (Rows.OpenSpec.upto Rows.degradedSpec).bare.vars)=true:=by kernel_rfl
theorem Iu:((Rows.degradedUptoRow.stops==[]))=true:=by kernel_rfl
theorem It:((prog.stops==[]))=true:=by kernel_rfl
theorem Is:((Rows.degradedUptoRow.knobs==[]))=true:=by kernel_rfl
theorem Ir:((prog.stopKnobs==[]))=true:=by kernel_rfl
theorem Iq:((Rows.degradedUptoRow.inPlace==prog.inPlace 9))=true:=by kernel_rfl
theorem Eu:((Rows.degradedUptoRow.unfollowed==prog.unfollowed 9))=true:=by kernel_rfl
theorem Et:((Rows.degradedUptoRow.recurses==prog.recurses 9))=true:=by kernel_rfl
theorem Es:((Rows.degradedUptoRow.named==prog.varsNamed 9))=true:=by kernel_rfl
theorem Er:((Rows.degradedUptoRow.maps==(f9.params.toList++(Rows.OpenSpec.upto Rows.degradedSpec).bare.plain.varTypes prog).any (prog.mapsRec ·)))=true:=by kernel_rfl
theorem Ep:((Rows.degradedUptoRow.ifaces==(f9.params.toList++(Rows.OpenSpec.upto Rows.degradedSpec).bare.plain.varTypes prog).any (prog.ifacesRec ·)))=true:=by kernel_rfl
theorem Eo:((Rows.degradedUptoRow.mapsOut==prog.mapsAmong f9.resultTypes.toList))=true:=by kernel_rfl
theorem En:((Rows.degradedUptoRow.loops==(f9.params.toList++(Rows.OpenSpec.upto Rows.degradedSpec).bare.plain.varTypes prog).any (prog.loopsFrom ·)))=true:=by kernel_rfl
theorem Em:((Rows.degradedUptoRow.wideKeys==(f9.params.toList++(Rows.OpenSpec.upto Rows.degradedSpec).bare.plain.varTypes prog++f9.resultTypes.toList).any (prog.wideKeysFrom ·)))=true:=by kernel_rfl
theorem Ek:((Rows.OpenSpec.upto Rows.degradedSpec).bare.vars.all (prog.varReadable ·))=true:=by kernel_rfl
theorem Ej:(f9.resultTypes.all (fun t=>prog.readableRec t&&decide (t<prog.types.size)))=true:=by kernel_rfl
theorem Ei:((Rows.degradedUptoRow.ifacesOut==f9.resultTypes.toList.any (prog.ifacesRec ·)))=true:=by kernel_rfl
theorem Eh:((Rows.degradedUptoRow.loopsOut==f9.resultTypes.toList.any (prog.loopsFrom ·)))=true:=by kernel_rfl
theorem Eg:((Rows.degradedUptoRow.plainKeys==prog.plainKeys))=true:=by kernel_rfl
theorem Ef:(Rows.degradedUptoRow.shortTexts.isNone)=true:=by kernel_rfl
theorem Ee:(prog.stopsHeard)=true:=by kernel_rfl
theorem Ed:(prog.mayEnter)=true:=by kernel_rfl
theorem Ec:((Rows.degradedUptoRow.lifted==prog.liftsFinal))=true:=by kernel_rfl
theorem Eb:((prog.make==some Rows.degradedUptoRow.make))=true:=by kernel_rfl
theorem Ea:((Rows.degradedUptoRow.pinned==Rows.degradedUptoRow.pinnedBy))=true:=by kernel_rfl
theorem D0:((Rows.degradedUptoRow.veiled==(f9.params.toList++(Rows.OpenSpec.upto Rows.degradedSpec).bare.plain.varTypes prog++f9.resultTypes.toList).any (prog.veiledRec ·)))=true:=by kernel_rfl
theorem Dz:(Rows.degradedUptoRow.veiledFits prog f9.params.toList (f9.params.toList++(Rows.OpenSpec.upto Rows.degradedSpec).bare.plain.varTypes prog++f9.resultTypes.toList))=true:=by kernel_rfl
end Go.Proofs.YtnipbplghijdmaaGreatDoor
