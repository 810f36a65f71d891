/-
-/
import Derived.Test.YtmjgfacoogdcdaaGreatDoorO01
import Derived.JoinedCond
import Derived.Test.YtmjgfacoogdcdaaGreatDoorRows
set_option linter.all false
namespace Go.Proofs.YtmjgfacoogdcdaaGreatDoor
open Go.Proofs.Tryz
theorem jdx{P:Program}{f:FuncId}{fn:Func}{s:ChangeSpec}{c:OpenClaim}(R:(c.wf (OpenSpec.ofChange s))=true)(O:(laidOutB P)=true)(N:(mapsRowed P)=true)(M:(fn.params.all (P.readableRec ·))=true)(L:(namedTie P c.named s.vars)=true)(J:((c.stops==[]))=true)(I:((P.stops==[]))=true)(H:((c.knobs==[]))=true)(G:((P.stopKnobs==[]))=true)(F:((c.inPlace==P.inPlace f))=true)(E:((c.unfollowed==P.unfollowed f))=true)(D:((c.recurses==P.recurses f))=true)(C:((c.named==P.varsNamed f))=true)(B:((c.maps==(fn.params.toList++s.plain.varTypes P).any (P.mapsRec ·)))=true)(A:((c.ifaces==(fn.params.toList++s.plain.varTypes P).any (P.ifacesRec ·)))=true)(z:((c.mapsOut==P.mapsAmong fn.resultTypes.toList))=true)(y:((c.loops==(fn.params.toList++s.plain.varTypes P).any (P.loopsFrom ·)))=true)(x:((c.wideKeys==(fn.params.toList++s.plain.varTypes P++fn.resultTypes.toList).any (P.wideKeysFrom ·)))=true)(v:(s.vars.all (P.varReadable ·))=true)(u:(fn.resultTypes.all (λt=>P.readableRec t&&decide (t<P.types.size)))=true)(r:((c.ifacesOut==fn.resultTypes.toList.any (P.ifacesRec ·)))=true)(q:((c.loopsOut==fn.resultTypes.toList.any (P.loopsFrom ·)))=true)(p:((c.plainKeys==P.plainKeys))=true)(o:(c.shortTexts.isNone)=true)(n:(P.stopsHeard)=true)(m:(P.mayEnter)=true)(l:((c.lifted==P.liftsFinal))=true)(j:((P.make==some c.make))=true)(i:((c.kinds==(if c.domain.isEmpty then [] else fn.params.toList.map λt=>match P.underlying t with|some (.int k)=>some k|_=>none)))=true)(g:((c.pinned==c.pinnedBy))=true)(d:((c.veiled==(fn.params.toList++s.plain.varTypes P++fn.resultTypes.toList).any (P.veiledRec ·)))=true)(b:(c.veiledFits P fn.params.toList (fn.params.toList++s.plain.varTypes P++fn.resultTypes.toList))=true):joinedFacts P f fn s c=true:=by simp only[joinedFacts,XJ];grind
theorem Tz:(Rows.opensUptoRow.wf (OpenSpec.ofChange (Rows.OpenSpec.upto Rows.opensSpec).bare))=true:=by kernel_rfl
theorem Ty:(laidOutB prog)=true:=by kernel_rfl
theorem Tx:(mapsRowed prog)=true:=by kernel_rfl
theorem Tw:(f3.params.all (prog.readableRec ·))=true:=by kernel_rfl
theorem Tv:(namedTie prog Rows.opensUptoRow.named (Rows.OpenSpec.upto Rows.opensSpec).bare.vars)=true:=by kernel_rfl
theorem Tu:((Rows.opensUptoRow.stops==[]))=true:=by kernel_rfl
theorem Tt:((prog.stops==[]))=true:=by kernel_rfl
theorem Ts:((Rows.opensUptoRow.knobs==[]))=true:=by kernel_rfl
theorem Tr:((prog.stopKnobs==[]))=true:=by kernel_rfl
theorem To:((Rows.opensUptoRow.inPlace==prog.inPlace 3))=true:=by kernel_rfl
theorem Px:((Rows.opensUptoRow.unfollowed==prog.unfollowed 3))=true:=by kernel_rfl
theorem Pw:((Rows.opensUptoRow.recurses==prog.recurses 3))=true:=by kernel_rfl
theorem Pv:((Rows.opensUptoRow.named==prog.varsNamed 3))=true:=by kernel_rfl
theorem Pu:((Rows.opensUptoRow.maps==(f3.params.toList++(Rows.OpenSpec.upto Rows.opensSpec).bare.plain.varTypes prog).any (prog.mapsRec ·)))=true:=by kernel_rfl
theorem Pt:((Rows.opensUptoRow.ifaces==(f3.params.toList++(Rows.OpenSpec.upto Rows.opensSpec).bare.plain.varTypes prog).any (prog.ifacesRec ·)))=true:=by kernel_rfl
theorem Ps:((Rows.opensUptoRow.mapsOut==prog.mapsAmong f3.resultTypes.toList))=true:=by kernel_rfl
theorem Pr:((Rows.opensUptoRow.loops==(f3.params.toList++(Rows.OpenSpec.upto Rows.opensSpec).bare.plain.varTypes prog).any (prog.loopsFrom ·)))=true:=by kernel_rfl
theorem Pp:((Rows.opensUptoRow.wideKeys==(f3.params.toList++(Rows.OpenSpec.upto Rows.opensSpec).bare.plain.varTypes prog++f3.resultTypes.toList).any (prog.wideKeysFrom ·)))=true:=by kernel_rfl
theorem Po:((Rows.OpenSpec.upto Rows.opensSpec).bare.vars.all (prog.varReadable ·))=true:=by kernel_rfl
theorem Pn:(f3.resultTypes.all (λt=>prog.readableRec t&&decide (t<prog.types.size)))=true:=by kernel_rfl
theorem Pk:((Rows.opensUptoRow.ifacesOut==f3.resultTypes.toList.any (prog.ifacesRec ·)))=true:=by kernel_rfl
theorem Pj:((Rows.opensUptoRow.loopsOut==f3.resultTypes.toList.any (prog.loopsFrom ·)))=true:=by kernel_rfl
theorem Ph:((Rows.opensUptoRow.plainKeys==prog.plainKeys))=true:=by kernel_rfl
theorem Pg:(Rows.opensUptoRow.shortTexts.isNone)=true:=by kernel_rfl
theorem Pf:(prog.stopsHeard)=true:=by kernel_rfl
theorem Pe:(prog.mayEnter)=true:=by kernel_rfl
theorem Pd:((Rows.opensUptoRow.lifted==prog.liftsFinal))=true:=by kernel_rfl
theorem Pc:((prog.make==some Rows.opensUptoRow.make))=true:=by kernel_rfl
theorem Pb:((Rows.opensUptoRow.pinned==Rows.opensUptoRow.pinnedBy))=true:=by kernel_rfl
theorem Pa:((Rows.opensUptoRow.veiled==(f3.params.toList++(Rows.OpenSpec.upto Rows.opensSpec).bare.plain.varTypes prog++f3.resultTypes.toList).any (prog.veiledRec ·)))=true:=by kernel_rfl
theorem O9:(Rows.opensUptoRow.veiledFits prog f3.params.toList (f3.params.toList++(Rows.OpenSpec.upto Rows.opensSpec).bare.plain.varTypes prog++f3.resultTypes.toList))=true:=by kernel_rfl
