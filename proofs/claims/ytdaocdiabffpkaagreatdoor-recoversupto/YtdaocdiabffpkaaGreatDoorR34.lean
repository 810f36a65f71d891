/-
-/
import Derived.Test.YtdaocdiabffpkaaGreatDoorR01
import Derived.JoinedCond
import Derived.Test.YtdaocdiabffpkaaGreatDoorRows
set_option linter.all false
namespace Go.Proofs.YtdaocdiabffpkaaGreatDoor
open Go.Proofs.Tryz
theorem jg4{P:Program}{f:FuncId}{fn:Func}{s:ChangeSpec}{c:OpenClaim}(R:(c.wf (OpenSpec.ofChange s))=true)(O:(laidOutB P)=true)(N:(mapsRowed P)=true)(M:(fn.params.all (P.readableRec ·))=true)(L:(namedTie P c.named s.vars)=true)(J:((c.stops==[]))=true)(I:((P.stops==[]))=true)(H:((c.knobs==[]))=true)(G:((P.stopKnobs==[]))=true)(F:((c.inPlace==P.inPlace f))=true)(E:((c.unfollowed==P.unfollowed f))=true)(D:((c.recurses==P.recurses f))=true)(C:((c.named==P.varsNamed f))=true)(B:((c.maps==(fn.params.toList++s.plain.varTypes P).any (P.mapsRec ·)))=true)(A:((c.ifaces==(fn.params.toList++s.plain.varTypes P).any (P.ifacesRec ·)))=true)(z:((c.mapsOut==P.mapsAmong fn.resultTypes.toList))=true)(y:((c.loops==(fn.params.toList++s.plain.varTypes P).any (P.loopsFrom ·)))=true)(x:((c.wideKeys==(fn.params.toList++s.plain.varTypes P++fn.resultTypes.toList).any (P.wideKeysFrom ·)))=true)(v:(s.vars.all (P.varReadable ·))=true)(u:(fn.resultTypes.all (λt=>P.readableRec t&&decide (t<P.types.size)))=true)(r:((c.ifacesOut==fn.resultTypes.toList.any (P.ifacesRec ·)))=true)(q:((c.loopsOut==fn.resultTypes.toList.any (P.loopsFrom ·)))=true)(p:((c.plainKeys==P.plainKeys))=true)(o:(c.shortTexts.isNone)=true)(n:(P.stopsHeard)=true)(m:(P.mayEnter)=true)(l:((c.lifted==P.liftsFinal))=true)(j:((P.make==some c.make))=true)(i:((c.kinds==(if c.domain.isEmpty then [] else fn.params.toList.map λt=>match P.underlying t with|some (.int k)=>some k|_=>none)))=true)(g:((c.pinned==c.pinnedBy))=true)(d:((c.veiled==(fn.params.toList++s.plain.varTypes P++fn.resultTypes.toList).any (P.veiledRec ·)))=true)(b:(c.veiledFits P fn.params.toList (fn.params.toList++s.plain.varTypes P++fn.resultTypes.toList))=true):joinedFacts P f fn s c=true:=by simp only[joinedFacts,ZR];grind
theorem Mg:(Rows.recoversUptoRow.wf (OpenSpec.ofChange (Rows.OpenSpec.upto Rows.recoversSpec).bare))=true:=by kernel_rfl
theorem Mf:(laidOutB prog)=true:=by kernel_rfl
theorem Me:(mapsRowed prog)=true:=by kernel_rfl
theorem Md:(f3.params.all (prog.readableRec ·))=true:=by kernel_rfl
theorem Mc:(namedTie prog Rows.recoversUptoRow.named (Rows.OpenSpec.upto Rows.recoversSpec).bare.vars)=true:=by kernel_rfl
theorem Mb:((Rows.recoversUptoRow.stops==[]))=true:=by kernel_rfl
theorem Ma:((prog.stops==[]))=true:=by kernel_rfl
theorem L9:((Rows.recoversUptoRow.knobs==[]))=true:=by kernel_rfl
theorem L8:((prog.stopKnobs==[]))=true:=by kernel_rfl
theorem L7:((Rows.recoversUptoRow.inPlace==prog.inPlace 3))=true:=by kernel_rfl
theorem Iw:((Rows.recoversUptoRow.unfollowed==prog.unfollowed 3))=true:=by kernel_rfl
theorem Iv:((Rows.recoversUptoRow.recurses==prog.recurses 3))=true:=by kernel_rfl
theorem Iu:((Rows.recoversUptoRow.named==prog.varsNamed 3))=true:=by kernel_rfl
theorem It:((Rows.recoversUptoRow.maps==(f3.params.toList++(Rows.OpenSpec.upto Rows.recoversSpec).bare.plain.varTypes prog).any (prog.mapsRec ·)))=true:=by kernel_rfl
theorem Is:((Rows.recoversUptoRow.ifaces==(f3.params.toList++(Rows.OpenSpec.upto Rows.recoversSpec).bare.plain.varTypes prog).any (prog.ifacesRec ·)))=true:=by kernel_rfl
theorem Ir:((Rows.recoversUptoRow.mapsOut==prog.mapsAmong f3.resultTypes.toList))=true:=by kernel_rfl
theorem Iq:((Rows.recoversUptoRow.loops==(f3.params.toList++(Rows.OpenSpec.upto Rows.recoversSpec).bare.plain.varTypes prog).any (prog.loopsFrom ·)))=true:=by kernel_rfl
theorem Ip:((Rows.recoversUptoRow.wideKeys==(f3.params.toList++(Rows.OpenSpec.upto Rows.recoversSpec).bare.plain.varTypes prog++f3.resultTypes.toList).any (prog.wideKeysFrom ·)))=true:=by kernel_rfl
theorem Io:((Rows.OpenSpec.upto Rows.recoversSpec).bare.vars.all (prog.varReadable ·))=true:=by kernel_rfl
theorem Im:(f3.resultTypes.all (λt=>prog.readableRec t&&decide (t<prog.types.size)))=true:=by kernel_rfl
theorem Il:((Rows.recoversUptoRow.ifacesOut==f3.resultTypes.toList.any (prog.ifacesRec ·)))=true:=by kernel_rfl
theorem Ik:((Rows.recoversUptoRow.loopsOut==f3.resultTypes.toList.any (prog.loopsFrom ·)))=true:=by kernel_rfl
theorem Ij:((Rows.recoversUptoRow.plainKeys==prog.plainKeys))=true:=by kernel_rfl
theorem Ii:(Rows.recoversUptoRow.shortTexts.isNone)=true:=by kernel_rfl
theorem Ih:(prog.stopsHeard)=true:=by kernel_rfl
theorem Ig:(prog.mayEnter)=true:=by kernel_rfl
theorem Ie:((Rows.recoversUptoRow.lifted==prog.liftsFinal))=true:=by kernel_rfl
theorem Ic:((prog.make==some Rows.recoversUptoRow.make))=true:=by kernel_rfl
theorem Ib:((Rows.recoversUptoRow.pinned==Rows.recoversUptoRow.pinnedBy))=true:=by kernel_rfl
theorem Ia:((Rows.recoversUptoRow.veiled==(f3.params.toList++(Rows.OpenSpec.upto Rows.recoversSpec).bare.plain.varTypes prog++f3.resultTypes.toList).any (prog.veiledRec ·)))=true:=by kernel_rfl
theorem H9:(Rows.recoversUptoRow.veiledFits prog f3.params.toList (f3.params.toList++(Rows.OpenSpec.upto Rows.recoversSpec).bare.plain.varTypes prog++f3.resultTypes.toList))=true:=by kernel_rfl
