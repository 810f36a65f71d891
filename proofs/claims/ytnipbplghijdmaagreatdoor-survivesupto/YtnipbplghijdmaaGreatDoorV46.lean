/-
  V: FactsA SurvivesF.
-/
import Derived.Test.YtnipbplghijdmaaGreatDoorRows
import Derived.Test.YtnipbplghijdmaaGreatDoorV31
set_option maxRecDepth 100000
set_option maxHeartbeats 8000000
set_option linter.unusedVariables false
set_option linter.unusedSimpArgs false
namespace Go.Proofs.YtnipbplghijdmaaGreatDoor
open Go.Proofs.Tryz
theorem ja7{P:Program}{f:FuncId}{fn:Func}{s:ChangeSpec}{c:OpenClaim}(R:(c.wf (OpenSpec.ofChange s))=true)(O:(laidOutB P)=true)(N:(mapsRowed P)=true)(M:(fn.params.all (P.readableRec ·))=true)(L:(namedTie P c.named s.vars)=true)(J:((c.stops==[]))=true)(I:((P.stops==[]))=true)(H:((c.knobs==[]))=true)(G:((P.stopKnobs==[]))=true)(F:((c.inPlace==P.inPlace f))=true)(E:((c.unfollowed==P.unfollowed f))=true)(D:((c.recurses==P.recurses f))=true)(C:((c.named==P.varsNamed f))=true)(B:((c.maps==(fn.params.toList++s.plain.varTypes P).any (P.mapsRec ·)))=true)(A:((c.ifaces==(fn.params.toList++s.plain.varTypes P).any (P.ifacesRec ·)))=true)(z:((c.mapsOut==P.mapsAmong fn.resultTypes.toList))=true)(y:((c.loops==(fn.params.toList++s.plain.varTypes P).any (P.loopsFrom ·)))=true)(x:((c.wideKeys==(fn.params.toList++s.plain.varTypes P++fn.resultTypes.toList).any (P.wideKeysFrom ·)))=true)(v:(s.vars.all (P.varReadable ·))=true)(u:(fn.resultTypes.all (fun t=>P.readableRec t&&decide (t<P.types.size)))=true)(r:((c.ifacesOut==fn.resultTypes.toList.any (P.ifacesRec ·)))=true)(q:((c.loopsOut==fn.resultTypes.toList.any (P.loopsFrom ·)))=true)(p:((c.plainKeys==P.plainKeys))=true)(o:(c.shortTexts.isNone)=true)(n:(P.stopsHeard)=true)(m:(P.mayEnter)=true)(l:((c.lifted==P.liftsFinal))=true)(j:((P.make==some c.make))=true)(i:((c.kinds==(if c.domain.isEmpty then [] else fn.params.toList.map fun t=>match P.underlying t with|some (.int k)=>some k|_=>none)))=true)(g:((c.pinned==c.pinnedBy))=true)(d:((c.veiled==(fn.params.toList++s.plain.varTypes P++fn.resultTypes.toList).any (P.veiledRec ·)))=true)(b:(c.veiledFits P fn.params.toList (fn.params.toList++s.plain.varTypes P++fn.resultTypes.toList))=true):joinedFacts P f fn s c=true:=by
 simp only[joinedFacts,xW];exact⟨⟨⟨⟨⟨⟨⟨⟨⟨⟨⟨⟨⟨⟨⟨⟨⟨⟨⟨⟨⟨⟨⟨⟨⟨⟨⟨⟨⟨⟨⟨R,O⟩,N⟩,M⟩,L⟩,J⟩,I⟩,H⟩,G⟩,F⟩,E⟩,D⟩,C⟩,B⟩,A⟩,z⟩,y⟩,x⟩,v⟩,u⟩,r⟩,q⟩,p⟩,o⟩,n⟩,m⟩,l⟩,j⟩,i⟩,g⟩,d⟩,b⟩
theorem Ga:(Rows.survivesUptoRow.wf (OpenSpec.ofChange (Rows.OpenSpec.upto Rows.survivesSpec).bare))=true:=by kernel_rfl
theorem F8:(laidOutB prog)=true:=by kernel_rfl
theorem F7:(mapsRowed prog)=true:=by kernel_rfl
theorem Fz:(f11.params.all (prog.readableRec ·))=true:=by kernel_rfl
theorem Fy:(namedTie prog Rows.survivesUptoRow.named (Rows.OpenSpec.upto Rows.survivesSpec).bare.vars)=true:=by kernel_rfl
theorem Fx:((Rows.survivesUptoRow.stops==[]))=true:=by kernel_rfl
theorem Fw:((prog.stops==[]))=true:=by kernel_rfl
theorem Fv:((Rows.survivesUptoRow.knobs==[]))=true:=by kernel_rfl
theorem Fu:((prog.stopKnobs==[]))=true:=by kernel_rfl
theorem Ft:((Rows.survivesUptoRow.inPlace==prog.inPlace 11))=true:=by kernel_rfl
theorem Dz:((Rows.survivesUptoRow.unfollowed==prog.unfollowed 11))=true:=by kernel_rfl
theorem Dy:((Rows.survivesUptoRow.recurses==prog.recurses 11))=true:=by kernel_rfl
theorem Dx:((Rows.survivesUptoRow.named==prog.varsNamed 11))=true:=by kernel_rfl
theorem Dw:((Rows.survivesUptoRow.maps==(f11.params.toList++(Rows.OpenSpec.upto Rows.survivesSpec).bare.plain.varTypes prog).any (prog.mapsRec ·)))=true:=by kernel_rfl
theorem Dv:((Rows.survivesUptoRow.ifaces==(f11.params.toList++(Rows.OpenSpec.upto Rows.survivesSpec).bare.plain.varTypes prog).any (prog.ifacesRec ·)))=true:=by kernel_rfl
theorem Du:((Rows.survivesUptoRow.mapsOut==prog.mapsAmong f11.resultTypes.toList))=true:=by kernel_rfl
theorem Dt:((Rows.survivesUptoRow.loops==(f11.params.toList++(Rows.OpenSpec.upto Rows.survivesSpec).bare.plain.varTypes prog).any (prog.loopsFrom ·)))=true:=by kernel_rfl
theorem Dr:((Rows.survivesUptoRow.wideKeys==(f11.params.toList++(Rows.OpenSpec.upto Rows.survivesSpec).bare.plain.varTypes prog++f11.resultTypes.toList).any (prog.wideKeysFrom ·)))=true:=by kernel_rfl
theorem Dp:((Rows.OpenSpec.upto Rows.survivesSpec).bare.vars.all (prog.varReadable ·))=true:=by kernel_rfl
theorem Dn:(f11.resultTypes.all (fun t=>prog.readableRec t&&decide (t<prog.types.size)))=true:=by kernel_rfl
theorem Dm:((Rows.survivesUptoRow.ifacesOut==f11.resultTypes.toList.any (prog.ifacesRec ·)))=true:=by kernel_rfl
theorem Dj:((Rows.survivesUptoRow.loopsOut==f11.resultTypes.toList.any (prog.loopsFrom ·)))=true:=by kernel_rfl
theorem Di:((Rows.survivesUptoRow.plainKeys==prog.plainKeys))=true:=by kernel_rfl
theorem Dh:(Rows.survivesUptoRow.shortTexts.isNone)=true:=by kernel_rfl
theorem Dg:(prog.stopsHeard)=true:=by kernel_rfl
theorem Df:(prog.mayEnter)=true:=by kernel_rfl
theorem De:((Rows.survivesUptoRow.lifted==prog.liftsFinal))=true:=by kernel_rfl
theorem Dd:((prog.make==some Rows.survivesUptoRow.make))=true:=by kernel_rfl
theorem Dc:((Rows.survivesUptoRow.pinned==Rows.survivesUptoRow.pinnedBy))=true:=by kernel_rfl
theorem Db:((Rows.survivesUptoRow.veiled==(f11.params.toList++(Rows.OpenSpec.upto Rows.survivesSpec).bare.plain.varTypes prog++f11.resultTypes.toList).any (prog.veiledRec ·)))=true:=by kernel_rfl
theorem Da:(Rows.survivesUptoRow.veiledFits prog f11.params.toList (f11.params.toList++(Rows.OpenSpec.upto Rows.survivesSpec).bare.plain.varTypes prog++f11.resultTypes.toList))=true:=by kernel_rfl
end Go.Proofs.YtnipbplghijdmaaGreatDoor
