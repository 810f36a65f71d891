/-
  S: FactsA SettlesF RPut ROver RAll RGet RBytes.
-/
import Derived.Test.YtnipbplghijdmaaGreatDoorRows
import Derived.Test.YtnipbplghijdmaaGreatDoorS32
set_option maxRecDepth 100000
set_option maxHeartbeats 8000000
set_option linter.unusedVariables false
set_option linter.unusedSimpArgs false
namespace Go.Proofs.YtnipbplghijdmaaGreatDoor
open Go.Proofs.Tryz
theorem V9{P:Program}{f:FuncId}{fn:Func}{s:ChangeSpec}{c:OpenClaim}(R:(c.wf (OpenSpec.ofChange s))=true)(O:(laidOutB P)=true)(N:(mapsRowed P)=true)(M:(fn.params.all (P.readableRec ·))=true)(L:(namedTie P c.named s.vars)=true)(J:((c.stops==[]))=true)(I:((P.stops==[]))=true)(H:((c.knobs==[]))=true)(G:((P.stopKnobs==[]))=true)(F:((c.inPlace==P.inPlace f))=true)(E:((c.unfollowed==P.unfollowed f))=true)(D:((c.recurses==P.recurses f))=true)(C:((c.named==P.varsNamed f))=true)(B:((c.maps==(fn.params.toList++s.plain.varTypes P).any (P.mapsRec ·)))=true)(A:((c.ifaces==(fn.params.toList++s.plain.varTypes P).any (P.ifacesRec ·)))=true)(z:((c.mapsOut==P.mapsAmong fn.resultTypes.toList))=true)(y:((c.loops==(fn.params.toList++s.plain.varTypes P).any (P.loopsFrom ·)))=true)(x:((c.wideKeys==(fn.params.toList++s.plain.varTypes P++fn.resultTypes.toList).any (P.wideKeysFrom ·)))=true)(v:(s.vars.all (P.varReadable ·))=true)(u:(fn.resultTypes.all (fun t=>P.readableRec t&&decide (t<P.types.size)))=true)(r:((c.ifacesOut==fn.resultTypes.toList.any (P.ifacesRec ·)))=true)(q:((c.loopsOut==fn.resultTypes.toList.any (P.loopsFrom ·)))=true)(p:((c.plainKeys==P.plainKeys))=true)(o:(c.shortTexts.isNone)=true)(n:(P.stopsHeard)=true)(m:(P.mayEnter)=true)(l:((c.lifted==P.liftsFinal))=true)(j:((P.make==some c.make))=true)(i:((c.kinds==(if c.domain.isEmpty then [] else fn.params.toList.map fun t=>match P.underlying t with|some (.int k)=>some k|_=>none)))=true)(g:((c.pinned==c.pinnedBy))=true)(d:((c.veiled==(fn.params.toList++s.plain.varTypes P++fn.resultTypes.toList).any (P.veiledRec ·)))=true)(b:(c.veiledFits P fn.params.toList (fn.params.toList++s.plain.varTypes P++fn.resultTypes.toList))=true):joinedFacts P f fn s c=true:=by
 simp only[joinedFacts,XR];exact⟨⟨⟨⟨⟨⟨⟨⟨⟨⟨⟨⟨⟨⟨⟨⟨⟨⟨⟨⟨⟨⟨⟨⟨⟨⟨⟨⟨⟨⟨⟨R,O⟩,N⟩,M⟩,L⟩,J⟩,I⟩,H⟩,G⟩,F⟩,E⟩,D⟩,C⟩,B⟩,A⟩,z⟩,y⟩,x⟩,v⟩,u⟩,r⟩,q⟩,p⟩,o⟩,n⟩,m⟩,l⟩,j⟩,i⟩,g⟩,d⟩,b⟩
theorem Ia:(Rows.settlesUptoRow.wf (OpenSpec.ofChange (Rows.OpenSpec.upto Rows.settlesSpec).bare))=true:=by kernel_rfl
theorem H9:(laidOutB prog)=true:=by kernel_rfl
theorem H7:(mapsRowed prog)=true:=by kernel_rfl
theorem Hz:(f4.params.all (prog.readableRec ·))=true:=by kernel_rfl
theorem Hy:(namedTie prog Rows.settlesUptoRow.named (Rows.OpenSpec.upto Rows.settlesSpec).bare.vars)=true:=by kernel_rfl
theorem Hx:((Rows.settlesUptoRow.stops==[]))=true:=by kernel_rfl
theorem Hw:((prog.stops==[]))=true:=by kernel_rfl
theorem Hv:((Rows.settlesUptoRow.knobs==[]))=true:=by kernel_rfl
theorem Hu:((prog.stopKnobs==[]))=true:=by kernel_rfl
theorem Ht:((Rows.settlesUptoRow.inPlace==prog.inPlace 4))=true:=by kernel_rfl
theorem Ev:((Rows.settlesUptoRow.unfollowed==prog.unfollowed 4))=true:=by kernel_rfl
theorem Eu:((Rows.settlesUptoRow.recurses==prog.recurses 4))=true:=by kernel_rfl
theorem Et:((Rows.settlesUptoRow.named==prog.varsNamed 4))=true:=by kernel_rfl
theorem Es:((Rows.settlesUptoRow.maps==(f4.params.toList++(Rows.OpenSpec.upto Rows.settlesSpec).bare.plain.varTypes prog).any (prog.mapsRec ·)))=true:=by kernel_rfl
theorem Er:((Rows.settlesUptoRow.ifaces==(f4.params.toList++(Rows.OpenSpec.upto Rows.settlesSpec).bare.plain.varTypes prog).any (prog.ifacesRec ·)))=true:=by kernel_rfl
theorem Ep:((Rows.settlesUptoRow.mapsOut==prog.mapsAmong f4.resultTypes.toList))=true:=by kernel_rfl
theorem Eo:((Rows.settlesUptoRow.loops==(f4.params.toList++(Rows.OpenSpec.upto Rows.settlesSpec).bare.plain.varTypes prog).any (prog.loopsFrom ·)))=true:=by kernel_rfl
theorem En:((Rows.settlesUptoRow.wideKeys==(f4.params.toList++(Rows.OpenSpec.upto Rows.settlesSpec).bare.plain.varTypes prog++f4.resultTypes.toList).any (prog.wideKeysFrom ·)))=true:=by kernel_rfl
theorem Em:((Rows.OpenSpec.upto Rows.settlesSpec).bare.vars.all (prog.varReadable ·))=true:=by kernel_rfl
theorem Ek:(f4.resultTypes.all (fun t=>prog.readableRec t&&decide (t<prog.types.size)))=true:=by kernel_rfl
theorem Ej:((Rows.settlesUptoRow.ifacesOut==f4.resultTypes.toList.any (prog.ifacesRec ·)))=true:=by kernel_rfl
theorem Ei:((Rows.settlesUptoRow.loopsOut==f4.resultTypes.toList.any (prog.loopsFrom ·)))=true:=by kernel_rfl
theorem Eh:((Rows.settlesUptoRow.plainKeys==prog.plainKeys))=true:=by kernel_rfl
theorem Eg:(Rows.settlesUptoRow.shortTexts.isNone)=true:=by kernel_rfl
theorem Ef:(prog.stopsHeard)=true:=by kernel_rfl
theorem Ee:(prog.mayEnter)=true:=by kernel_rfl
theorem Ed:((Rows.settlesUptoRow.lifted==prog.liftsFinal))=true:=by kernel_rfl
theorem Ec:((prog.make==some Rows.settlesUptoRow.make))=true:=by kernel_rfl
theorem Eb:((Rows.settlesUptoRow.pinned==Rows.settlesUptoRow.pinnedBy))=true:=by kernel_rfl
theorem Ea:((Rows.settlesUptoRow.veiled==(f4.params.toList++(Rows.OpenSpec.upto Rows.settlesSpec).bare.plain.varTypes prog++f4.resultTypes.toList).any (prog.veiledRec ·)))=true:=by kernel_rfl
theorem D0:(Rows.settlesUptoRow.veiledFits prog f4.params.toList (f4.params.toList++(Rows.OpenSpec.upto Rows.settlesSpec).bare.plain.varTypes prog++f4.resultTypes.toList))=true:=by kernel_rfl
end Go.Proofs.YtnipbplghijdmaaGreatDoor
namespace Go.Proofs.YtnipbplghijdmaaGreatDoor
open RowKit Maps WideShapes Go.Proofs.Tryz
variable {j m n y:Nat} {w w':World} {bv lv rv v xv:Value} {s:List UInt8}
def rto(l:List Rf.Ch)(c:Rf.Ch)(j:Nat):List Rf.Ch×Bool:=(l.take j).foldl (Rf.z8 c) ([],false)
theorem Nq{l:List Rf.Ch}{c x:Rf.Ch}(h:l[j]?=some x):rto l c (j+1)=Rf.z8 c (rto l c j) x:=by
 unfold rto;rw[zY,h,zZ,zO];rfl
theorem N2(c x:Rf.Ch)(s:List Rf.Ch×Bool):(Rf.z8 c s x).1.length<=s.1.length+2:=by
 unfold Rf.z8;simp only
 repeat' split
 all_goals simp
theorem Rm(l:List Rf.Ch)(c:Rf.Ch)(j:Nat)(b:j<=l.length):(rto l c j).1.length<=2*j:=by
 induction j with
 | zero=>simp[rto]
 | succ j ih =>
  rw[Nq (zL (show j<l.length by omega))];have f:=ih (by omega);have d:=N2 c l[j] (rto l c j);omega
theorem jdt(l:List Rf.Ch)(c:Rf.Ch):Rf.put l c=Rf.od c (rto l c l.length):=by
 unfold rto Rf.put;rw[zW]
theorem Mq(l:List Rf.Ch):∀ u∈jg l,u.oneCell'=true:=Xf l
theorem ja4(v:Value)(l:List Rf.Ch)(hv:Chs w v l)(hl:l.length<10000000)(c:Rf.Ch) :
 Calls prog 220 #[v,.agg #[jd c.key,jd c.value,.bool c.gone]] w fun e w'=>∃ v',e = .returned v'/\w'.ownsRow w.heap.size 88 3 v' (Rf.put l c).length (jg (Rf.put l c))/\ja w w' (fun _=>False):=by
 obtain⟨j1,ax,aw,av,au⟩:=info_parts Tryz.Jz;obtain⟨M,cv,N⟩:=c;simp only;obtain⟨p0,c0,rfl⟩:∃ p c,v = .slice p l.length c:=by obtain⟨p,c,e,_⟩:=hv;exact⟨p,c,e⟩
 obtain⟨n,hn⟩:∃ n,n=l.length:=⟨_,rfl⟩;rw[<-hn] at hv hl ⊢;obtain⟨w1,b8⟩:∃ w1,w1=w.alloc (.cells #[jd M,jd cv,.bool N] 88):=⟨_,rfl⟩;obtain⟨z,bi⟩:∃ z,z=w.heap.size:=⟨_,rfl⟩;have k1:ja w w1 (fun _=>False):=by rw[b8];exact ja.alloc _ _ _
 have c9:w1.heap[z]?=some (.cells #[jd M,jd cv,.bool N] 88 (0,0)):=by rw[b8,bi];exact je _ _
 have s1:w1.heap.size=z+1:=by rw[b8,bi];exact Array.size_push _
 have HV:=jb (hv.same k1);have HN:=jb hn;have d0:=jb c9;have aa:=jb s1;have c3:=jb bi;have cy:=jb b8;clear hv hn c9 s1 bi b8;go_enter func220,ntmps220;go_wp2_with fail;rw[<-cy.out,<-c3.out]
 go_loopw [5,6,7] (fun t5 t6 t7 wr=>∃(j:Nat) (dn:Bool),t7 = .int .i64 j/\j<=n/\t6 = .bool dn/\Hid (dn=(rto l ⟨M,cv,N⟩ j).2)/\wr.ownsRow (z+1) 88 3 t5 (rto l ⟨M,cv,N⟩ j).1.length (jg (rto l ⟨M,cv,N⟩ j).1)/\ja w1 wr (fun _=>False)) (fun _ _ t7 _=>n-(intOf t7).toNat)
 case atStart=>exact⟨0,false,rfl,zU _,rfl,rfl,by simp[rto,jg];exact zS _ _ _ _,ja.refl _ _⟩
 case round =>
  obtain⟨j,dn,rfl,cu,rfl,HD,bv,kk⟩:=hrel;have cz:=jb bv;obtain⟨pq,cq,rfl⟩:=jj bv;have c1:=kk.same d0.out id;have b0:=zA (o:=0) c1;have b1:=zA (o:=1) c1;have b2:=zA (o:=2) c1;simp at b0 b1 b2;obtain⟨q,hq⟩:∃ q,q=(rto l ⟨M,cv,N⟩ j).1.length:=⟨_,rfl⟩;have cs:=Rm l ⟨M,cv,N⟩ j (by rw[<-HN.out];exact cu);rw[<-hq] at cs ⊢;have HQ:=jb hq;obtain⟨L,hL⟩:∃ L,L=(rto l ⟨M,cv,N⟩ j).1:=⟨_,rfl⟩;have a4:Hid (wr.ownsRow (z+1) 88 3 (.slice pq q cq) q (jg L)):=by have:=cz.out;rw[<-HQ.out,<-hL] at this;exact this
  have b3:Hid (rto l ⟨M,cv,N⟩ j=(L,dn)):=jb (by rw[hL,HD.out]);have aq:Hid (q=L.length):=jb (by rw[HQ.out,hL]);have b7:Hid (q+1<=maxLen):=jb (by unfold maxLen;omega);have b6:Hid ((q+1)*40<=140737488355328):=jb (by omega);have cc:Hid (q+1+1<=maxLen):=jb (by unfold maxLen;omega);have cb:Hid ((q+1+1)*40<=140737488355328):=jb (by omega);have bu:=kk.size;rw[aa.out] at bu;have az:=jb bu;clear bv hq hL HD bu;rcases ZJ j n with ct|dc
  ·have b9:j<l.length:=by rw[<-HN.out];exact ct
   obtain⟨g,og,rfl,a0,a1,a2⟩:=(by have:=HV.out.same kk;rw[HN.out] at this;exact this:Chs wr (.slice p0 l.length c0) l).at b9;have bz:l[j]?=some l[j]:=zL b9;generalize l[j]=x at a0 a1 a2 bz;obtain⟨xk,xv,xg⟩:=x;simp only at a0 a1 a2;have a6:=jb (Nq (c:=⟨M,cv,N⟩) bz);have cw:(j:Int)<(n:Int):=by omega
   have db:IntKind.i64.wrap ((j:Int)+1)=(j:Int)+1:=zE (by omega) (by omega)
   have HG:Hid (g<z+1):=by
    have h2:=HV.out.lt (fun e=>by rw[e] at b9;cases b9);rw[aa.out] at h2;exact h2
   clear bz b9;have am:∀ u∈jg [⟨xk,xv,xg⟩],u.oneCell'=true:=Mq _;have an:∀ u∈jg [⟨M,cv,N⟩],u.oneCell'=true:=Mq _
   have HX:Hid (∀(W:World) (j':Nat) (u:Value),(jg [⟨xk,xv,xg⟩])[j']?=some u->(W.alloc (.cells #[jd xk,jd xv,.bool xg] 88)).cell? ((⟨W.heap.size,0,none⟩:Addr).add j')=some u):=fun W j' u hu=>by
    rw[Ju,zA (je W _)];simpa [jg] using hu
   have HC:Hid (∀(W:World) (j':Nat) (u:Value),(jg [⟨M,cv,N⟩])[j']?=some u->(W.alloc (.cells #[jd M,jd cv,.bool N] 88)).cell? ((⟨W.heap.size,0,none⟩:Addr).add j')=some u):=fun W j' u hu=>by
    rw[Ju,zA (je W _)];simpa [jg] using hu
   by_cases he:xk=M
   ·have cx:(xk==M)=true:=by simp[he]
    have c6:Op.bytesLess xk M=false:=by rw[bytesLess_eq,he];simp[XS]
    cases dn with
    | true =>
     have R:Hid (rto l ⟨M,cv,N⟩ (j+1)=(L,true)):=jb (by rw[a6.out,b3.out];simp[Rf.z8,he]);have ab:=kk;have A:=az;have Y:=a0;have X:=a1;have V:=a2;have U:=b0;have T:=b1;have S:=b2;clear he;go_wp2_with fail;go_quiet (fail);obtain⟨f,t⟩:∃ wq,wq=World.drewN wr nq:=⟨_,rfl⟩;rw[<-t];have d:ja wr f (fun _=>False):=by rw[t];exact ja.drewN wr nq _
     clear t;have D:ja w1 f (fun _=>False):=kk.tt d;have m:=d.row a4.out (fun _ _ h=>h);have y:Hid (z+1<=f.heap.size):=ZF A.out d.size;have J:=d.cell Y id;have I:=d.cell X id;have H:=d.cell V id;have G:=d.cell U id;have F:=d.cell T id;have E:=d.cell S id;go_wp2_with fail;go_quiet (fail);obtain⟨r,s⟩:∃ wq,wq=World.drewN f nq:=⟨_,rfl⟩;rw[<-s];have b:ja f r (fun _=>False):=by rw[s];exact ja.drewN f nq _
     clear s;have C:ja w1 r (fun _=>False):=D.tt b;have k:=b.row m (fun _ _ h=>h);have B:Hid (z+1<=r.heap.size):=ZF y.out b.size;have ak:=b.cell J id;have aj:=b.cell I id;have ai:=b.cell H id;have ah:=b.cell G id;have ag:=b.cell F id;have af:=b.cell E id;go_wp2;exact⟨⟨j+1,true,by simp,by omega,rfl,(show true=_ from by rw[R.out]),by rw[R.out,<-aq.out];exact k,C⟩,by simp[intOf];omega⟩
    | false =>
     have R:Hid (rto l ⟨M,cv,N⟩ (j+1)=(L++[⟨M,cv,N⟩],true)):=jb (by rw[a6.out,b3.out];simp[Rf.z8,he]);have ab:=kk;have A:=az;have Y:=a0;have X:=a1;have V:=a2;have U:=b0;have T:=b1;have S:=b2;clear he;go_wp2_with fail;go_quiet (fail);obtain⟨f,t⟩:∃ wq,wq=World.drewN wr nq:=⟨_,rfl⟩;rw[<-t];have d:ja wr f (fun _=>False):=by rw[t];exact ja.drewN wr nq _
     clear t;have D:ja w1 f (fun _=>False):=kk.tt d;have m:=d.row a4.out (fun _ _ h=>h);have y:Hid (z+1<=f.heap.size):=ZF A.out d.size;have J:=d.cell Y id;have I:=d.cell X id;have H:=d.cell V id;have G:=d.cell U id;have F:=d.cell T id;have E:=d.cell S id;have ad:=m.alloc (.cells #[jd M,jd cv,.bool N] 88);have ae:=HC.out f;have ar:z+1<=(f.alloc (.cells #[jd M,jd cv,.bool N] 88)).heap.size:=ZF y.out (ja.alloc f _ (fun _=>False)).size
     go_wp2_with (first|(at_builtin;refine jk _ rfl (.tmp 26) (.tmp 28) 38 rfl (z+1) 88 j1 Jy 3 40 underlying38 ax aw av au rfl (ZG 2) _ _ _ rfl ad ⟨f.heap.size,0,none⟩ 1 1 (jg [⟨M,cv,N⟩]) rfl rfl ae an b7.out b6.out ar ?_;intro p7 c7 w7 ap O c5;have a5:Hid (∀ i,(Value.slice pq q cq).ownBlock=some i->z+1<=i):=fun i e=>(m.lt i e).1;have bf:=(ja.grown O).cell ((ja.alloc f _ (fun _=>False)).cell J id) (fun e=>yD g (zT HG.out (a5.out g e.symm)));have be:=(ja.grown O).cell ((ja.alloc f _ (fun _=>False)).cell I id) (fun e=>yD g (zT HG.out (a5.out g e.symm)));have bd:=(ja.grown O).cell ((ja.alloc f _ (fun _=>False)).cell H id) (fun e=>yD g (zT HG.out (a5.out g e.symm)));have bc:=(ja.grown O).cell ((ja.alloc f _ (fun _=>False)).cell G id) (fun e=>yD z (zT (Nat.lt_succ_self z) (a5.out z e.symm)));have bb:=(ja.grown O).cell ((ja.alloc f _ (fun _=>False)).cell F id) (fun e=>yD z (zT (Nat.lt_succ_self z) (a5.out z e.symm)));have ba:=(ja.grown O).cell ((ja.alloc f _ (fun _=>False)).cell E id) (fun e=>yD z (zT (Nat.lt_succ_self z) (a5.out z e.symm)))))
     have k7:ja w1 w7 (fun _=>False):=(D.more _).grow O (fun i e hi=>by have:=(m.lt i e).1;have:=aa.out;omega);have ca:=k7;have b4:Hid (z+1<=w7.heap.size):=jb (by have:=k7.size;rw[aa.out] at this;exact this);rw[<-yq] at ap;go_quiet (fail);obtain⟨r,s⟩:∃ wq,wq=World.drewN w7 nq:=⟨_,rfl⟩;rw[<-s];have b:ja w7 r (fun _=>False):=by rw[s];exact ja.drewN w7 nq _
     clear s;have C:ja w1 r (fun _=>False):=k7.tt b;have k:=b.row ap (fun _ _ h=>h);have B:Hid (z+1<=r.heap.size):=ZF b4.out b.size;have ak:=b.cell bf id;have aj:=b.cell be id;have ai:=b.cell bd id;have ah:=b.cell bc id;have ag:=b.cell bb id;have af:=b.cell ba id;go_wp2;exact⟨⟨j+1,true,by simp,by omega,rfl,(show true=_ from by rw[R.out]),by rw[R.out,ZY,<-aq.out];exact k,C⟩,by simp[intOf];omega⟩
   ·have cx:(xk==M)=false:=by simpa using he
    by_cases hL2:xk<M
    ·have c6:Op.bytesLess xk M=true:=by rw[bytesLess_eq];simpa using hL2
     cases dn with
     | true =>
      have R:Hid (rto l ⟨M,cv,N⟩ (j+1)=(L++[⟨xk,xv,xg⟩],true)):=jb (by rw[a6.out,b3.out];simp[Rf.z8,he,hL2]);have ab:=kk;have A:=az;have Y:=a0;have X:=a1;have V:=a2;have U:=b0;have T:=b1;have S:=b2;clear he hL2;go_wp2_with fail;go_quiet (fail);obtain⟨f,t⟩:∃ wq,wq=World.drewN wr nq:=⟨_,rfl⟩;rw[<-t];have d:ja wr f (fun _=>False):=by rw[t];exact ja.drewN wr nq _
      clear t;have D:ja w1 f (fun _=>False):=kk.tt d;have m:=d.row a4.out (fun _ _ h=>h);have y:Hid (z+1<=f.heap.size):=ZF A.out d.size;have J:=d.cell Y id;have I:=d.cell X id;have H:=d.cell V id;have G:=d.cell U id;have F:=d.cell T id;have E:=d.cell S id;go_wp2_with fail;go_quiet (fail);obtain⟨r,s⟩:∃ wq,wq=World.drewN f nq:=⟨_,rfl⟩;rw[<-s];have b:ja f r (fun _=>False):=by rw[s];exact ja.drewN f nq _
      clear s;have C:ja w1 r (fun _=>False):=D.tt b;have k:=b.row m (fun _ _ h=>h);have B:Hid (z+1<=r.heap.size):=ZF y.out b.size;have ak:=b.cell J id;have aj:=b.cell I id;have ai:=b.cell H id;have ah:=b.cell G id;have ag:=b.cell F id;have af:=b.cell E id;have Z:=k.alloc (.cells #[jd xk,jd xv,.bool xg] 88);have a3:=HX.out r;have ac:z+1<=(r.alloc (.cells #[jd xk,jd xv,.bool xg] 88)).heap.size:=ZF B.out (ja.alloc r _ (fun _=>False)).size
      go_wp2_with (first|(at_builtin;refine jk _ rfl (.tmp 38) (.tmp 43) 38 rfl (z+1) 88 j1 Jy 3 40 underlying38 ax aw av au rfl (ZG 2) _ _ _ rfl Z ⟨r.heap.size,0,none⟩ 1 1 (jg [⟨xk,xv,xg⟩]) rfl rfl a3 am b7.out b6.out ac ?_;intro p8 c8 w8 a9 ay bw))
      have k8:ja w1 w8 (fun _=>False):=(C.more _).grow ay (fun i e hi=>by have:=(k.lt i e).1;have:=aa.out;omega);rw[<-yq] at a9;exact⟨⟨j+1,true,by simp,by omega,rfl,(show true=_ from by rw[R.out]),by rw[R.out,ZY,<-aq.out];exact a9,k8⟩,by simp[intOf];omega⟩
     | false =>
      have R:Hid (rto l ⟨M,cv,N⟩ (j+1)=(L++[⟨xk,xv,xg⟩],false)):=jb (by rw[a6.out,b3.out];simp[Rf.z8,he,hL2]);have ab:=kk;have A:=az;have Y:=a0;have X:=a1;have V:=a2;have U:=b0;have T:=b1;have S:=b2;clear he hL2;go_wp2_with fail;go_quiet (fail);obtain⟨f,t⟩:∃ wq,wq=World.drewN wr nq:=⟨_,rfl⟩;rw[<-t];have d:ja wr f (fun _=>False):=by rw[t];exact ja.drewN wr nq _
      clear t;have D:ja w1 f (fun _=>False):=kk.tt d;have m:=d.row a4.out (fun _ _ h=>h);have y:Hid (z+1<=f.heap.size):=ZF A.out d.size;have J:=d.cell Y id;have I:=d.cell X id;have H:=d.cell V id;have G:=d.cell U id;have F:=d.cell T id;have E:=d.cell S id;go_wp2_with fail;go_quiet (fail);obtain⟨r,s⟩:∃ wq,wq=World.drewN f nq:=⟨_,rfl⟩;rw[<-s];have b:ja f r (fun _=>False):=by rw[s];exact ja.drewN f nq _
      clear s;have C:ja w1 r (fun _=>False):=D.tt b;have k:=b.row m (fun _ _ h=>h);have B:Hid (z+1<=r.heap.size):=ZF y.out b.size;have ak:=b.cell J id;have aj:=b.cell I id;have ai:=b.cell H id;have ah:=b.cell G id;have ag:=b.cell F id;have af:=b.cell E id;have Z:=k.alloc (.cells #[jd xk,jd xv,.bool xg] 88);have a3:=HX.out r;have ac:z+1<=(r.alloc (.cells #[jd xk,jd xv,.bool xg] 88)).heap.size:=ZF B.out (ja.alloc r _ (fun _=>False)).size
      go_wp2_with (first|(at_builtin;refine jk _ rfl (.tmp 38) (.tmp 43) 38 rfl (z+1) 88 j1 Jy 3 40 underlying38 ax aw av au rfl (ZG 2) _ _ _ rfl Z ⟨r.heap.size,0,none⟩ 1 1 (jg [⟨xk,xv,xg⟩]) rfl rfl a3 am b7.out b6.out ac ?_;intro p8 c8 w8 a9 ay bw))
      have k8:ja w1 w8 (fun _=>False):=(C.more _).grow ay (fun i e hi=>by have:=(k.lt i e).1;have:=aa.out;omega);rw[<-yq] at a9;exact⟨⟨j+1,false,by simp,by omega,rfl,(show false=_ from by rw[R.out]),by rw[R.out,ZY,<-aq.out];exact a9,k8⟩,by simp[intOf];omega⟩
    ·have c6:Op.bytesLess xk M=false:=by rw[bytesLess_eq];simpa using hL2
     cases dn with
     | true =>
      have R:Hid (rto l ⟨M,cv,N⟩ (j+1)=(L++[⟨xk,xv,xg⟩],true)):=jb (by rw[a6.out,b3.out];simp[Rf.z8,he,hL2]);have ab:=kk;have A:=az;have Y:=a0;have X:=a1;have V:=a2;have U:=b0;have T:=b1;have S:=b2;clear he hL2;go_wp2_with fail;go_quiet (fail);obtain⟨f,t⟩:∃ wq,wq=World.drewN wr nq:=⟨_,rfl⟩;rw[<-t];have d:ja wr f (fun _=>False):=by rw[t];exact ja.drewN wr nq _
      clear t;have D:ja w1 f (fun _=>False):=kk.tt d;have m:=d.row a4.out (fun _ _ h=>h);have y:Hid (z+1<=f.heap.size):=ZF A.out d.size;have J:=d.cell Y id;have I:=d.cell X id;have H:=d.cell V id;have G:=d.cell U id;have F:=d.cell T id;have E:=d.cell S id;go_wp2_with fail;go_quiet (fail);obtain⟨r,s⟩:∃ wq,wq=World.drewN f nq:=⟨_,rfl⟩;rw[<-s];have b:ja f r (fun _=>False):=by rw[s];exact ja.drewN f nq _
      clear s;have C:ja w1 r (fun _=>False):=D.tt b;have k:=b.row m (fun _ _ h=>h);have B:Hid (z+1<=r.heap.size):=ZF y.out b.size;have ak:=b.cell J id;have aj:=b.cell I id;have ai:=b.cell H id;have ah:=b.cell G id;have ag:=b.cell F id;have af:=b.cell E id;have Z:=k.alloc (.cells #[jd xk,jd xv,.bool xg] 88);have a3:=HX.out r;have ac:z+1<=(r.alloc (.cells #[jd xk,jd xv,.bool xg] 88)).heap.size:=ZF B.out (ja.alloc r _ (fun _=>False)).size
      go_wp2_with (first|(at_builtin;refine jk _ rfl (.tmp 38) (.tmp 43) 38 rfl (z+1) 88 j1 Jy 3 40 underlying38 ax aw av au rfl (ZG 2) _ _ _ rfl Z ⟨r.heap.size,0,none⟩ 1 1 (jg [⟨xk,xv,xg⟩]) rfl rfl a3 am b7.out b6.out ac ?_;intro p8 c8 w8 a9 ay bw))
      have k8:ja w1 w8 (fun _=>False):=(C.more _).grow ay (fun i e hi=>by have:=(k.lt i e).1;have:=aa.out;omega);rw[<-yq] at a9;exact⟨⟨j+1,true,by simp,by omega,rfl,(show true=_ from by rw[R.out]),by rw[R.out,ZY,<-aq.out];exact a9,k8⟩,by simp[intOf];omega⟩
     | false =>
      have R:Hid (rto l ⟨M,cv,N⟩ (j+1)=((L++[⟨M,cv,N⟩])++[⟨xk,xv,xg⟩],true)):=jb (by rw[a6.out,b3.out];simp[Rf.z8,he,hL2]);have ab:=kk;have A:=az;have Y:=a0;have X:=a1;have V:=a2;have U:=b0;have T:=b1;have S:=b2;clear he hL2;go_wp2_with fail;go_quiet (fail);obtain⟨f,t⟩:∃ wq,wq=World.drewN wr nq:=⟨_,rfl⟩;rw[<-t];have d:ja wr f (fun _=>False):=by rw[t];exact ja.drewN wr nq _
      clear t;have D:ja w1 f (fun _=>False):=kk.tt d;have m:=d.row a4.out (fun _ _ h=>h);have y:Hid (z+1<=f.heap.size):=ZF A.out d.size;have J:=d.cell Y id;have I:=d.cell X id;have H:=d.cell V id;have G:=d.cell U id;have F:=d.cell T id;have E:=d.cell S id;have ad:=m.alloc (.cells #[jd M,jd cv,.bool N] 88);have ae:=HC.out f;have ar:z+1<=(f.alloc (.cells #[jd M,jd cv,.bool N] 88)).heap.size:=ZF y.out (ja.alloc f _ (fun _=>False)).size
      go_wp2_with (first|(at_builtin;refine jk _ rfl (.tmp 26) (.tmp 28) 38 rfl (z+1) 88 j1 Jy 3 40 underlying38 ax aw av au rfl (ZG 2) _ _ _ rfl ad ⟨f.heap.size,0,none⟩ 1 1 (jg [⟨M,cv,N⟩]) rfl rfl ae an b7.out b6.out ar ?_;intro p7 c7 w7 ap O c5;have a5:Hid (∀ i,(Value.slice pq q cq).ownBlock=some i->z+1<=i):=fun i e=>(m.lt i e).1;have bf:=(ja.grown O).cell ((ja.alloc f _ (fun _=>False)).cell J id) (fun e=>yD g (zT HG.out (a5.out g e.symm)));have be:=(ja.grown O).cell ((ja.alloc f _ (fun _=>False)).cell I id) (fun e=>yD g (zT HG.out (a5.out g e.symm)));have bd:=(ja.grown O).cell ((ja.alloc f _ (fun _=>False)).cell H id) (fun e=>yD g (zT HG.out (a5.out g e.symm)));have bc:=(ja.grown O).cell ((ja.alloc f _ (fun _=>False)).cell G id) (fun e=>yD z (zT (Nat.lt_succ_self z) (a5.out z e.symm)));have bb:=(ja.grown O).cell ((ja.alloc f _ (fun _=>False)).cell F id) (fun e=>yD z (zT (Nat.lt_succ_self z) (a5.out z e.symm)));have ba:=(ja.grown O).cell ((ja.alloc f _ (fun _=>False)).cell E id) (fun e=>yD z (zT (Nat.lt_succ_self z) (a5.out z e.symm)))))
      have k7:ja w1 w7 (fun _=>False):=(D.more _).grow O (fun i e hi=>by have:=(m.lt i e).1;have:=aa.out;omega);have ca:=k7;have b4:Hid (z+1<=w7.heap.size):=jb (by have:=k7.size;rw[aa.out] at this;exact this);rw[<-yq] at ap;go_quiet (fail);obtain⟨r,s⟩:∃ wq,wq=World.drewN w7 nq:=⟨_,rfl⟩;rw[<-s];have b:ja w7 r (fun _=>False):=by rw[s];exact ja.drewN w7 nq _
      clear s;have C:ja w1 r (fun _=>False):=k7.tt b;have k:=b.row ap (fun _ _ h=>h);have B:Hid (z+1<=r.heap.size):=ZF b4.out b.size;have ak:=b.cell bf id;have aj:=b.cell be id;have ai:=b.cell bd id;have ah:=b.cell bc id;have ag:=b.cell bb id;have af:=b.cell ba id;have Z:=k.alloc (.cells #[jd xk,jd xv,.bool xg] 88);have a3:=HX.out r;have ac:z+1<=(r.alloc (.cells #[jd xk,jd xv,.bool xg] 88)).heap.size:=ZF B.out (ja.alloc r _ (fun _=>False)).size
      go_wp2_with (first|(at_builtin;refine jk _ rfl (.tmp 38) (.tmp 43) 38 rfl (z+1) 88 j1 Jy 3 40 underlying38 ax aw av au rfl (ZG 2) _ _ _ rfl Z ⟨r.heap.size,0,none⟩ 1 1 (jg [⟨xk,xv,xg⟩]) rfl rfl a3 am cc.out cb.out ac ?_;intro p8 c8 w8 a9 ay bw))
      have k8:ja w1 w8 (fun _=>False):=(C.more _).grow ay (fun i e hi=>by have:=(k.lt i e).1;have:=aa.out;omega);rw[<-yq] at a9;exact⟨⟨j+1,true,by simp,by omega,rfl,(show true=_ from by rw[R.out]),by rw[R.out,ZY,ZY,<-aq.out];exact a9,k8⟩,by simp[intOf];omega⟩
  ·have cw:¬(j:Int)<(n:Int):=by omega
   have bm:j=l.length:=by rw[<-HN.out];omega
   have bn:Hid (Rf.put l ⟨M,cv,N⟩=Rf.od ⟨M,cv,N⟩ (L,dn)):=jb (by rw[jdt,<-bm,b3.out]);clear bm
   cases dn with
   | true =>
    have c2:Hid (Rf.put l ⟨M,cv,N⟩=L):=jb (by rw[bn.out];rfl);go_wp2;go_ret;exact⟨_,rfl,by rw[c2.out,<-aq.out];exact qg a4.out (by have:=c3.out;omega),k1.tt kk⟩
   | false =>
    have c2:Hid (Rf.put l ⟨M,cv,N⟩=L++[⟨M,cv,N⟩]):=jb (by rw[bn.out];rfl);have an:∀ u∈jg [⟨M,cv,N⟩],u.oneCell'=true:=Mq _
    have HC:Hid (∀(W:World) (j':Nat) (u:Value),(jg [⟨M,cv,N⟩])[j']?=some u->(W.alloc (.cells #[jd M,jd cv,.bool N] 88)).cell? ((⟨W.heap.size,0,none⟩:Addr).add j')=some u):=fun W j' u hu=>by
     rw[Ju,zA (je W _)];simpa [jg] using hu
    have A:=az;have ab:=kk;have ad:=a4.out.alloc (.cells #[jd M,jd cv,.bool N] 88);have ae:=HC.out wr;have ar:z+1<=(wr.alloc (.cells #[jd M,jd cv,.bool N] 88)).heap.size:=ZF A.out (ja.alloc wr _ (fun _=>False)).size
    go_wp2_with (first|(at_builtin;refine jk _ rfl (.tmp 47) (.tmp 49) 38 rfl (z+1) 88 j1 Jy 3 40 underlying38 ax aw av au rfl (ZG 2) _ _ _ rfl ad ⟨wr.heap.size,0,none⟩ 1 1 (jg [⟨M,cv,N⟩]) rfl rfl ae an b7.out b6.out ar ?_;intro p7 c7 w7 ap O c5))
    go_ret;have k7:ja w1 w7 (fun _=>False):=(ab.more _).grow O (fun i e hi=>by have:=(a4.out.lt i e).1;have:=aa.out;omega);rw[<-yq] at ap;exact⟨_,rfl,by rw[c2.out,ZY,<-aq.out];exact qg ap (by have:=c3.out;omega),k1.tt k7⟩
def Fr(w:World)(v:Value):Prop:=∀ g,v.ownBlock=some g->w.heap.size<=g
theorem Fr.nil(w:World):Fr w (.slice none 0 0):=fun g h=>by cases h
theorem Fr.row{e:TypeId}{size base:Nat}{xs:List Value}(h:w'.ownsRow base e size v n xs)(b:w.heap.size<=base):Fr w v:=fun g hg=>ZF b (h.lt g hg).1
theorem Fr.mono(h:Fr w' v)(b:w.heap.size<=w'.heap.size):Fr w v:=fun g hg=>ZF b (h g hg)
theorem Chs.shape{l:List Rf.Ch}(h:Chs w v l):∃ p c,v = .slice p l.length c:=by
 obtain⟨p,c,e,_⟩:=h;exact⟨p,c,e⟩
theorem Az(l b:List Rf.Ch)(c:Rf.Ch):Rf.over l (b++[c])=Rf.put (Rf.over l b) c:=by simp[Rf.over,zO]
theorem ra(v u:Value)(l m:List Rf.Ch)(B:Chs w v l)(C:Chs w u m)(L:Rf.jy l)(W:l.length+m.length<10000000) :
 Calls prog 186 #[v,u] w fun e w'=>∃ v',e = .returned v'/\Chs w' v' (Rf.over l m)/\(v'=v\/Fr w v')/\ja w w' (fun _=>False):=by
 obtain⟨U,Y,rfl⟩:=B.shape;obtain⟨T,X,rfl⟩:=C.shape;have R:=jb B;have S:=jb C;have J:=jb L;obtain⟨n,z⟩:∃ n,n=l.length:=⟨_,rfl⟩;obtain⟨k,A⟩:∃ k,k=m.length:=⟨_,rfl⟩;rw[<-z,<-A] at W;rw[<-z] at R ⊢;rw[<-A] at S ⊢;have Z:=jb z;have D:=jb A;clear B C L z A;go_enter func186,ntmps186;go_wp2_with fail
 go_loopw [0,5] (fun t0 t5 wr=>∃ j:Nat,t5 = .int .i64 j/\j<=k/\Chs wr t0 (Rf.over l (m.take j))/\(t0 = .slice U n Y\/Fr w t0)/\ja w wr (fun _=>False)) (fun _ t5 _=>k-(intOf t5).toNat)
 case atStart=>exact⟨0,rfl,zU _,R.out,.inl rfl,ja.refl _ _⟩
 case round =>
  obtain⟨j,rfl,a4,b,f,y⟩:=hrel;have s:=jb b;have r:=jb f;obtain⟨pt,ct,rfl⟩:=b.shape;rcases ZJ j k with F|H
  ·have G:(j:Int)<(k:Int):=by omega
   have a3:IntKind.i64.wrap ((j:Int)+1)=(j:Int)+1:=zE (by omega) (by omega);have d:j<m.length:=by rw[<-D.out];exact F
   obtain⟨g,og,rfl,O,N,M⟩:=(by have:=S.out.same y;rw[D.out] at this;exact this:Chs wr (.slice T m.length X) m).at d;have p:Hid (Rf.over l (m.take (j+1))=Rf.put (Rf.over l (m.take j)) m[j]):=(show _=_ from by rw[zY,zL d,zZ,Az]);have t:=(Rf.Zl (more:=m.take j) J.out).1;have E:(m.take j).length<=j:=ZW _ _;have c:=jb (ja4 _ _ b (by have:=Z.out;omega) m[j]);generalize m[j]=x at O N M p c;obtain⟨xk,xv,xg⟩:=x;simp only at O N M;obtain⟨q,i⟩:∃ q,q=(Rf.over l (m.take j)).length:=⟨_,rfl⟩;rw[<-i] at c ⊢;clear b f t E d i;go_wp2_with fail;refine c.out.mono ?_;rintro e w3 ⟨v3,rfl,o,V⟩;go_wp2;exact⟨⟨j+1,by simp,by omega,by rw[p.out];exact xw o,.inr (Fr.row o y.size),y.tt V⟩,by simp[intOf];omega⟩
  ·have G:¬(j:Int)<(k:Int):=by omega
   have I:Hid (m.take j=m):=jb (ZO (by rw[<-D.out];exact H));obtain⟨q,i⟩:∃ q,q=(Rf.over l (m.take j)).length:=⟨_,rfl⟩;rw[<-i] at s r ⊢;clear b f i;go_wp2;go_ret;exact⟨_,rfl,by have:=s.out;rw[I.out] at this;exact this,r.out,y⟩
theorem Rb(l:List Rf.Ch)(c:Rf.Ch):Rf.there (l++[c])=Rf.there l++(if c.gone=true then [] else [c]):=by
 unfold Rf.there;rw[xR];cases h:c.gone<;>simp[h]
theorem E0(v:Value)(l:List Rf.Ch)(C:Chs w v l)(hl:l.length<10000000) :
 Calls prog 146 #[v] w fun e w'=>∃ v',e = .returned v'/\w'.ownsRow w.heap.size 88 3 v' (Rf.there l).length (jg (Rf.there l))/\ja w w' (fun _=>False):=by
 obtain⟨j1,O,I,H,G⟩:=info_parts Tryz.Jz;obtain⟨p0,c0,rfl⟩:=C.shape;have Z:=jb C;obtain⟨n,D⟩:∃ n,n=l.length:=⟨_,rfl⟩;rw[<-D] at hl Z ⊢;have E:=jb D;clear C D;go_enter func146,ntmps146;go_wp2_with fail
 go_loopw [3,4] (fun t3 t4 wr=>∃ j:Nat,t4 = .int .i64 j/\j<=n/\wr.ownsRow w.heap.size 88 3 t3 (Rf.there (l.take j)).length (jg (Rf.there (l.take j)))/\ja w wr (fun _=>False)) (fun _ t4 _=>n-(intOf t4).toNat)
 case atStart=>exact⟨0,rfl,zU _,by simp[Rf.there,jg];exact zS _ _ _ _,ja.refl _ _⟩
 case round =>
  obtain⟨j,rfl,ae,f,p⟩:=hrel;have V:=jb f;obtain⟨pq,cq,rfl⟩:=jj f
  have s:(Rf.there (l.take j)).length<=j:=by
   have h1:(Rf.there (l.take j)).length<=(l.take j).length:=XF _ _;have h2:=ZW j l;omega
  obtain⟨q,A⟩:∃ q,q=(Rf.there (l.take j)).length:=⟨_,rfl⟩;obtain⟨L,B⟩:∃ L,L=Rf.there (l.take j):=⟨_,rfl⟩;rw[<-A] at s ⊢;have d:Hid (q=L.length):=jb (by rw[A,B]);have b:Hid (wr.ownsRow w.heap.size 88 3 (.slice pq q cq) q (jg L)):=by have:=V.out;rw[<-A,<-B] at this;exact this
  have F:=jb B;clear f A B;rcases ZJ j n with M|R
  ·have N:(j:Int)<(n:Int):=by omega
   have ac:IntKind.i64.wrap ((j:Int)+1)=(j:Int)+1:=zE (by omega) (by omega);have k:j<l.length:=by rw[<-E.out];exact M
   obtain⟨g,og,rfl,Y,X,W⟩:=(by have:=Z.out.same p;rw[E.out] at this;exact this:Chs wr (.slice p0 l.length c0) l).at k;have c:Hid (Rf.there (l.take (j+1))=L++(if l[j].gone=true then [] else [l[j]])):=(show _=_ from by rw[zY,zL k,zZ,Rb,F.out]);generalize l[j]=x at Y X W c;obtain⟨o,xv,xg⟩:=x;simp only at Y X W c;clear k
   cases xg with
   | true =>
    go_wp2;exact⟨⟨j+1,by simp,by omega,by rw[c.out,if_pos rfl,ZC,<-d.out];exact b.out,p⟩,by simp[intOf];omega⟩
   | false =>
    have U:Hid (q+1<=maxLen):=jb (by unfold maxLen;omega);have T:Hid ((q+1)*40<=140737488355328):=jb (by omega);have m:=b.out.alloc (.cells #[jd o,jd xv,.bool false] 88);have y:∀ u∈jg [⟨o,xv,false⟩],u.oneCell'=true:=Xf _
    have z:∀ j' u,(jg [⟨o,xv,false⟩])[j']?=some u->(wr.alloc (.cells #[jd o,jd xv,.bool false] 88)).cell? ((⟨wr.heap.size,0,none⟩:Addr).add j')=some u:=fun j' u hu=>by
     rw[Ju,zA (je wr _)];simpa [jg] using hu
    have J:w.heap.size<=(wr.alloc (.cells #[jd o,jd xv,.bool false] 88)).heap.size:=ZF p.size (ja.alloc wr _ (fun _=>False)).size
    go_wp2_with (first|(at_builtin;refine jk _ rfl (.tmp 17) (.tmp 22) 38 rfl w.heap.size 88 j1 Jy 3 40 underlying38 O I H G rfl (ZG 2) _ _ _ rfl m ⟨wr.heap.size,0,none⟩ 1 1 (jg [⟨o,xv,false⟩]) rfl rfl z y U.out T.out J ?_;intro p7 c7 w7 r S ad))
    have k7:ja w w7 (fun _=>False):=(p.more _).grow S (fun i e hi=>by have:=(b.out.lt i e).1;omega);rw[<-yq] at r;exact⟨⟨j+1,by simp,by omega,by rw[c.out,if_neg (by simp),ZY,<-d.out];exact r,k7⟩,by simp[intOf];omega⟩
  ·have N:¬(j:Int)<(n:Int):=by omega
   have t:Hid (l.take j=l):=jb (ZO (by rw[<-E.out];exact R));clear s;go_wp2;go_ret;exact⟨_,rfl,by have:=b.out;rw[d.out,F.out,t.out] at this;rw[d.out,F.out,t.out];exact this,p⟩
def Bj(w:World)(v:Value)(ess:List (List Rf.Ch)):Prop :=
 ∃ p c,v = .slice p ess.length c/\∀ j (h:j<ess.length),∃ b o x,p=some ⟨b,o,none⟩/\w.cell? ⟨b,o+j,none⟩=some x/\Chs w x ess[j]
theorem Bj.same{d:List (List Rf.Ch)}(h:Bj w v d)(k:ja w w' (fun _=>False)):Bj w' v d:=by
 obtain⟨p,c,rfl,i⟩:=h;refine⟨p,c,rfl,fun j hj=>?_⟩;obtain⟨b,o,x,e,g,f⟩:=i j hj;exact⟨b,o,x,e,k.cell g id,f.same k⟩
theorem Bj.shape{b:List (List Rf.Ch)}(h:Bj w v b):∃ p c,v = .slice p b.length c:=by
 obtain⟨p,c,e,_⟩:=h;exact⟨p,c,e⟩
theorem Bj.at{p:Option Addr}{c:Nat}{d:List (List Rf.Ch)}(h:Bj w (.slice p n c) d)(f:j<d.length):∃ b o x,p=some ⟨b,o,none⟩/\w.cell? ⟨b,o+j,none⟩=some x/\Chs w x d[j]:=by
 obtain⟨i,k,e,g⟩:=h;cases e;exact g j f
def x7(ls:List (List Rf.Ch)):Nat:=(ls.map List.length).sum
theorem V0(ls:List (List Rf.Ch))(j:Nat):x7 (ls.take j)<=x7 ls:=by
 have h:ls=ls.take j++ls.drop j:=(ZR j ls).symm
 have:x7 ls=x7 (ls.take j)+x7 (ls.drop j):=by
  conv=>lhs;rw[h]
  unfold x7;rw[ZA,List.sum_append]
 omega
theorem jb8{ls:List (List Rf.Ch)}(h:j<ls.length):x7 (ls.take j)+ls[j].length<=x7 ls:=by
 have b:=V0 ls (j+1);rw[zY,zL h,zZ] at b;unfold x7 at b ⊢;rw[ZA,List.sum_append] at b;simpa using b
theorem bq(bs:List (List Rf.Ch)):(Rf.memory bs).length<=x7 bs:=by
 have H:∀(bs:List (List Rf.Ch)) (l:List Rf.Ch),Rf.jy l->(bs.foldl Rf.over l).length<=l.length+x7 bs:=by
  intro bs
  induction bs with
  | nil=>intro l _;simp[x7]
  | cons b r ih =>
   intro l c;have g:=ih (Rf.over l b) (Rf.J2 c);have f:=(Rf.Zl (more:=b) c).1;have d:x7 (b::r)=b.length+x7 r:=by simp[x7]
   rw[List.foldl_cons];omega
 have:=H bs [] List.Pairwise.nil;simpa [Rf.memory] using this
theorem L7(bs:List (List Rf.Ch))(b:List Rf.Ch):Rf.memory (bs++[b])=Rf.over (Rf.memory bs) b:=by simp[Rf.memory,zO]
theorem Bq{bs:List (List Rf.Ch)}(F:w.cell? ⟨y,4,none⟩=some bv)(s:Bj w bv bs)(E:x7 bs<5000000)(J:bs.length<10000000) :
 Calls prog 145 #[.pointer (some ⟨y,0,none⟩)] w fun e w'=>∃ v',e = .returned v'/\Chs w' v' (Rf.memory bs)/\Fr w v'/\ja w w' (fun _=>False):=by
 obtain⟨U,X,rfl⟩:=s.shape;have H:=jb s;obtain⟨n,f⟩:∃ n,n=bs.length:=⟨_,rfl⟩;rw[<-f] at J F H;have G:=jb f;have M:=jb E;clear s f E;go_enter func145,ntmps145;go_wp2_with fail
 go_loopw [3,4] (fun t3 t4 wr=>∃ j:Nat,t4 = .int .i64 j/\j<=n/\Chs wr t3 (Rf.memory (bs.take j))/\Fr w t3/\ja w wr (fun _=>False)) (fun _ t4 _=>n-(intOf t4).toNat)
 case atStart=>exact⟨0,rfl,zU _,Chs.nil _,Fr.nil _,ja.refl _ _⟩
 case round =>
  obtain⟨j,rfl,O,b,i,k⟩:=hrel;have p:=jb b;have d:=jb i;obtain⟨T,W,rfl⟩:=b.shape;have R:=k.cell F id;rcases ZJ j n with v|A
  ·have z:(j:Int)<(n:Int):=by omega
   have N:IntKind.i64.wrap ((j:Int)+1)=(j:Int)+1:=zE (by omega) (by omega);have c:j<bs.length:=by rw[<-G.out];exact v
   obtain⟨g,V,x,rfl,Y,r⟩:=(H.out.same k).at c;have D:=jb8 c;have u:=bq (bs.take j);have m:Hid (Rf.memory (bs.take (j+1))=Rf.over (Rf.memory (bs.take j)) bs[j]):=(show _=_ from by rw[zY,zL c,zZ,L7]);generalize bs[j]=bj at D m r;have o:=jb (ra _ _ _ _ b r (Rf.yv _) (by have:=M.out;omega));obtain⟨q,l⟩:∃ q,q=(Rf.memory (bs.take j)).length:=⟨_,rfl⟩;rw[<-l] at o d ⊢;clear b i c D u r l;go_wp2_with fail;refine o.out.mono ?_;rintro e S ⟨v3,rfl,L,B,I⟩;go_wp2;refine⟨⟨j+1,by simp,by omega,by rw[m.out];exact L,?_,k.tt I⟩,by simp[intOf];omega⟩;rcases B with rfl|t
   ·exact d.out
   ·exact t.mono k.size
  ·have z:¬(j:Int)<(n:Int):=by omega
   have C:Hid (bs.take j=bs):=jb (ZO (by rw[<-G.out];exact A));obtain⟨q,l⟩:∃ q,q=(Rf.memory (bs.take j)).length:=⟨_,rfl⟩;rw[<-l] at p d ⊢;clear b i l;go_wp2;go_ret;exact⟨_,rfl,by have:=p.out;rw[C.out] at this;exact this,d.out,k⟩
theorem Yz(ls:List (List Rf.Ch)):(Rf.merged ls).length<=x7 ls:=Rf.It ls
theorem V7(ls:List (List Rf.Ch))(j:Nat):x7 (ls.drop j)<=x7 ls:=by
 have h:ls=ls.take j++ls.drop j:=(ZR j ls).symm
 have:x7 ls=x7 (ls.take j)+x7 (ls.drop j):=by
  conv=>lhs;rw[h]
  unfold x7;rw[ZA,List.sum_append]
 omega
theorem dy(a b:List (List Rf.Ch)):x7 (a++b)=x7 a+x7 b:=by unfold x7;rw[ZA,List.sum_append]
theorem Br{bl:List Rf.Ch}{rls:List (List Rf.Ch)}(U:w.cell? ⟨y,5,none⟩=some lv)(H:w.cell? ⟨y,7,none⟩=some xv)(G:Chs w lv bl)(l:Bj w xv rls)(T:bl.length+x7 rls<5000000)(hn:rls.length<10000000) :
 Calls prog 147 #[.pointer (some ⟨y,0,none⟩)] w fun e w'=>∃ v',e = .returned v'/\Chs w' v' (Rf.merged (rls++[bl]))/\Fr w v'/\ja w w' (fun _=>False):=by
 obtain⟨p0,c0,rfl⟩:=l.shape;obtain⟨Z,c1,rfl⟩:=G.shape;have k:=jb (ra (.slice none 0 0) (.slice Z bl.length c1) [] bl (Chs.nil w) G List.Pairwise.nil (by simp;omega));have W:=jb l;obtain⟨n,m⟩:∃ n,n=rls.length:=⟨_,rfl⟩;obtain⟨S,s⟩:∃ S,S=bl.length:=⟨_,rfl⟩;rw[<-m] at hn H W;rw[<-s] at U k;have X:=jb m;have HL:=jb T;clear l G m T s;go_enter func147,ntmps147;go_wp2_with fail;refine k.out.mono ?_;rintro e Y ⟨v1,rfl,V,v,D⟩
 have f:Fr w v1:=by
  rcases v with rfl|t
  ·exact Fr.nil _
  ·exact t
 have N:=D.cell H id;have a7:IntKind.i64.wrap ((n:Int)-1)=(n:Int)-1:=zE (by omega) (by omega);have H1:=jb V;have R:=jb f;clear V v f H U;go_wp2_with fail
 go_loopw [3,4] (fun t3 t4 wr=>∃ j:Nat,t4 = .int .i64 ((j:Int)-1)/\j<=n/\Chs wr t3 (Rf.merged (rls.drop j++[bl]))/\Fr w t3/\ja Y wr (fun _=>False)) (fun _ t4 _=>(intOf t4+1).toNat)
 case atStart=>exact⟨n,rfl,xA _,by rw[X.out,List.drop_length];exact H1.out,R.out,ja.refl _ _⟩
 case round =>
  obtain⟨j,rfl,a9,b,o,p⟩:=hrel;have C:=jb b;have d:=jb o;obtain⟨pt,ct,rfl⟩:=b.shape;have ac:=p.cell N id;rcases ZB j with E|E
  ·have J:¬(0:Int)<=(j:Int)-1:=by omega
   have O:Hid (rls.drop j++[bl]=rls++[bl]):=jb (by rw[E];rfl);obtain⟨q,r⟩:∃ q,q=(Rf.merged (rls.drop j++[bl])).length:=⟨_,rfl⟩;rw[<-r] at C d ⊢;have aa:(j:Int)-1<0:=by omega
   clear b o r E;go_wp2;go_ret;exact⟨_,rfl,by have:=C.out;rw[O.out] at this;exact this,d.out,D.tt p⟩
  ·obtain⟨i,rfl⟩:∃ i,j=i+1:=⟨j-1,by omega⟩
   have u:((i+1:Nat):Int)-1=(i:Int):=by omega
   rw[u];have J:(0:Int)<=(i:Int):=by omega
   have ab:(i:Int)<(n:Int):=by omega
   have a8:IntKind.i64.wrap ((i:Int)-1)=(i:Int)-1:=zE (by omega) (by omega);have c:i<rls.length:=by rw[<-X.out];omega
   obtain⟨g,og,x,rfl,a0,l⟩:=((W.out.same D).same p).at c;have A:Hid (Rf.merged (rls.drop i++[bl])=Rf.over (Rf.merged (rls.drop (i+1)++[bl])) rls[i]):=(show _=_ from by rw[ZP c,xE,Rf.Qx]);have I:=Yz (rls.drop (i+1)++[bl]);have F:=V7 rls i;rw[ZP c] at F;have z:x7 (rls[i]::rls.drop (i+1))=rls[i].length+x7 (rls.drop (i+1)):=by unfold x7;rw[zI,List.sum_cons]
   have M:x7 (rls.drop (i+1)++[bl])=x7 (rls.drop (i+1))+bl.length:=by rw[dy];simp[x7]
   generalize rls[i]=bj at F z A l;have B:=jb (ra _ _ _ _ b l (Rf.yu _) (by have:=HL.out;omega));obtain⟨q,r⟩:∃ q,q=(Rf.merged (rls.drop (i+1)++[bl])).length:=⟨_,rfl⟩;rw[<-r] at B d ⊢;clear b o c I F z M l r E u;go_wp2_with fail;refine B.out.mono ?_;rintro e w3 ⟨v3,rfl,h3,L,k3⟩;go_wp2;refine⟨⟨i,rfl,by omega,by rw[A.out];exact h3,?_,p.tt k3⟩,by simp[intOf]⟩;rcases L with rfl|t
   ·exact d.out
   ·exact t.mono (by have:=D.size;have:=p.size;omega)
theorem jbd{bs rls:List (List Rf.Ch)}{bl:List Rf.Ch}(F:w.cell? ⟨y,4,none⟩=some bv)(E:w.cell? ⟨y,5,none⟩=some lv)(D:w.cell? ⟨y,7,none⟩=some xv)(b:Bj w bv bs)(C:Chs w lv bl)(A:Bj w xv rls)(q:x7 bs+(bl.length+x7 rls)<5000000)(B:bs.length<10000000)(i:rls.length<10000000) :
 Calls prog 139 #[.pointer (some ⟨y,0,none⟩)] w fun e w'=>∃ v',e = .returned v'/\w'.ownsRow w.heap.size 88 3 v' (Rf.there (Rf.over (Rf.merged (rls++[bl])) (Rf.memory bs))).length (jg (Rf.there (Rf.over (Rf.merged (rls++[bl])) (Rf.memory bs))))/\ja w w' (fun _=>False):=by
 have n:=jb (Br E D C A (by omega) i);have v:=Yz (rls++[bl]);have g:x7 (rls++[bl])=x7 rls+bl.length:=by rw[dy];simp[x7]
 have u:=bq bs;have G:=jb b;have f:=jb q;clear b q;go_enter func139,ntmps139;go_wp2_with fail;refine n.out.mono ?_;rintro e M ⟨v1,rfl,t,R,d⟩;have m:=jb (Bq (d.cell F id) (G.out.same d) (by have:=f.out;omega) B);go_wp2_with fail;refine m.out.mono ?_;rintro e L ⟨v2,rfl,s,O,p⟩;have l:=jb (ra _ _ _ _ (t.same p) s (Rf.yu _) (by have:=f.out;omega));go_wp2_with fail;refine l.out.mono ?_;rintro e J ⟨v3,rfl,r,N,z⟩;have j:=(Rf.Zl (more:=Rf.memory bs) (Rf.yu (rls++[bl]))).1;have k:=jb (E0 _ _ r (by have:=f.out;omega));go_wp2_with fail;refine k.out.mono ?_;rintro e I ⟨v4,rfl,c,x⟩;have o:=(d.tt p).tt z;have H:=jb c;clear c r s t v g u j;go_wp2;go_ret;exact⟨_,rfl,qg H.out o.size,o.tt x⟩
def Rf.St.rls(s:Rf.St):List (List Rf.Ch):=s.bls.take s.m.runs.length
def Rf.St.bl(s:Rf.St):List Rf.Ch:=(s.bls.drop s.m.runs.length).headD []
theorem Rf.Fy(ls:List (List Rf.Ch)):Rf.merged (ls++[[]])=Rf.merged ls:=by
 induction ls with
 | nil=>rfl
 | cons l r ih=>rw[xE,Rf.Qx,Rf.Qx,ih]
theorem Rf.St.lr{s:Rf.St}(h:s.Ok):(s.m.base=0/\s.rls=s.bls/\s.bl=[]/\s.bls.length=s.m.runs.length)\/(s.m.base≠0/\s.bls=s.rls++[s.bl]/\s.rls.length=s.m.runs.length):=by
 have b:=h.len;by_cases hb:s.m.base=0
 ·have e:s.m.settled=s.m.runs:=by unfold Rf.Man.settled;rw[if_pos hb]
  rw[e] at b;refine .inl ⟨hb,?_,?_,b⟩
  ·unfold Rf.St.rls
   exact ZO (by omega)
  ·unfold Rf.St.bl
   rw[ZQ (by omega)];rfl
 ·have e:s.m.settled=s.m.runs++[s.m.base]:=by unfold Rf.Man.settled;rw[if_neg hb]
  rw[e,ZY,xC] at b;refine .inr ⟨hb,?_,?_⟩
  ·unfold Rf.St.rls Rf.St.bl
   rw[ZP (by omega),ZQ (by omega)];simp only[List.headD_cons];have c:=ZR s.m.runs.length s.bls;rw[ZP (by omega),ZQ (by omega)] at c;exact c.symm
  ·unfold Rf.St.rls
   rw[ZT];omega
theorem Rf.St.Fz{s:Rf.St}(h:s.Ok):Rf.merged (s.rls++[s.bl])=Rf.merged s.bls:=by
 rcases Rf.St.lr h with⟨_,b,c,_⟩|⟨_,b,_⟩
 ·rw[b,c,Rf.Fy]
 ·rw[<-b]
theorem Rf.St.On{s:Rf.St}(h:s.Ok):s.bl.length+x7 s.rls=x7 s.bls:=by
 rcases Rf.St.lr h with⟨_,b,c,_⟩|⟨_,b,_⟩
 ·rw[b,c];simp
 ·rw[b,dy]
  have:x7 [s.bl]=s.bl.length:=by simp[x7]
  omega
structure RAt(w:World)(y:Nat)(s:Rf.St)(cl:Bool)(bv lv rv xv:Value):Prop where
 row:w.heap[y]?=some (.cells #[jf s.m.next,jf s.m.last,jf s.m.log,jf s.m.base,bv,lv,rv,xv,.bool cl] 108 (0,0))
 bat:Bj w bv s.bs
 bas:Chs w lv s.bl
 run:zl w rv s.m.runs
 rls:Bj w xv s.rls
 ok:s.Ok
 few:x7 s.bs+x7 s.bls<4000000/\s.bs.length<1000000/\s.bls.length<1000000
theorem RAt.same{s:Rf.St}{cl:Bool}(h:RAt w y s cl bv lv rv xv)(k:ja w w' (fun _=>False)):RAt w' y s cl bv lv rv xv :=
 ⟨k.same h.row id,h.bat.same k,h.bas.same k,h.run.same k,h.rls.same k,h.ok,h.few⟩
theorem RAt.Ln{s:Rf.St}{cl:Bool}(h:RAt w y s cl bv lv rv xv):s.rls.length<1000000:=by
 have:=h.few;unfold Rf.St.rls;rw[ZT];omega
theorem Kd{s:Rf.St}{cl:Bool}(R:RAt w y s cl bv lv rv xv) :
 Calls prog 139 #[.pointer (some ⟨y,0,none⟩)] w fun e w'=>∃ v',e = .returned v'/\w'.ownsRow w.heap.size 88 3 v' s.tell.length (jg s.tell)/\ja w w' (fun _=>False):=by
 have d:=zA (o:=4) R.row;have c:=zA (o:=5) R.row;have b:=zA (o:=7) R.row;simp at d c b;have h:=R.few;have f:=Rf.St.On R.ok;have:=jbd d c b R.bat R.bas R.rls (by omega) (by omega) (by have:=R.Ln;omega);rw[Rf.St.Fz R.ok] at this;exact this
theorem RAt.M3{s:Rf.St}{cl:Bool}(h:RAt w y s cl bv lv rv xv):s.tell.length<4000000:=by
 have f:s.tell.length<=s.all.length:=XF _ _;have d:s.all.length<=x7 (s.mem::s.bls):=Yz _;have c:x7 (s.mem::s.bls)=s.mem.length+x7 s.bls:=by simp[x7]
 have b:s.mem.length<=x7 s.bs:=bq s.bs;have:=h.few;omega
theorem Sq{T:List Rf.Ch}{key:Str}{c:Rf.Ch}(b:Rf.xh (T.take j) key=none)(d:T[j]?=some c):(c.key=key->Rf.xh T key=some c)/\(c.key≠key->Rf.xh (T.take (j+1)) key=none):=by
 have f:j<T.length:=(XA.1 d).1;have g:T[j]=c:=(XA.1 d).2;refine⟨fun e=>?_,fun e=>?_⟩
 ·have i:T=T.take j++T.drop j:=(ZR j T).symm
  unfold Rf.xh at b ⊢;rw[i,List.find?_append,b,ZP f,g,List.find?_cons];simp[e]
 ·unfold Rf.xh at b ⊢
  rw[zY,d,zZ,List.find?_append,b];simp[e]
def Cq(T:List Rf.Ch)(key:Str):Str×Bool:=match Rf.xh T key with|some c=>(c.value,true)|none=>([],false)
theorem ja7{s:Rf.St}{cl:Bool}(R:RAt w y s cl bv lv rv xv)(key:Str) :
 Calls prog 93 #[.pointer (some ⟨y,0,none⟩),jd key] w fun e w'=>e = .returned (if cl=true then .tuple #[jd [],.bool false,.int .i64 3] else .tuple #[jd (Cq s.tell key).1,.bool (Cq s.tell key).2,.int .i64 0])/\ja w w' (fun _=>False):=by
 have I:=zA (o:=8) R.row;simp at I;have F:=jb (Kd R);have i:=R.M3;generalize s.tell=T at F i;clear R
 cases cl with
 | true =>
  rw[if_pos rfl];go_enter func93,ntmps93;go_wp2;go_ret3;exact⟨rfl,ja.refl _ _⟩
 | false =>
  rw[if_neg (by simp)];go_enter func93,ntmps93;go_wp2_with fail;refine F.out.mono ?_;rintro e H ⟨v1,rfl,d,A⟩;obtain⟨J,L,rfl⟩:=jj d;have z:=jb (xw d);obtain⟨n,p⟩:∃ n,n=T.length:=⟨_,rfl⟩;rw[<-p] at i ⊢;have G:=jb p;clear d p;go_wp2_with fail
  go_loopw [4,5,6,8] (fun _ _ _ t8 wr=>∃ j:Nat,t8 = .int .i64 j/\j<=n/\Hid (Rf.xh (T.take j) key=none)/\ja H wr (fun _=>False)) (fun _ _ _ t8 _=>n-(intOf t8).toNat)
  case atStart=>exact⟨0,rfl,zU _,rfl,ja.refl _ _⟩
  case round =>
   obtain⟨j,rfl,N,k,l⟩:=hrel;rcases ZJ j n with r|u
   ·have t:(j:Int)<(n:Int):=by omega
    have M:IntKind.i64.wrap ((j:Int)+1)=(j:Int)+1:=zE (by omega) (by omega);have c:j<T.length:=by rw[<-G.out];exact r
    obtain⟨g,S,rfl,E,D,C⟩:=(by have:=z.out.same l;exact this:Chs wr (.slice J T.length L) T).at c;have b:=Sq (key:=key) k.out (zL c);generalize T[j]=x at E D C b;obtain⟨m,q,O⟩:=x;simp only at E D C b;by_cases he:m=key
    ·have v:(m==key)=true:=by simp[he]
     have f:Hid (Cq T key=(q,true)):=jb (by unfold Cq;rw[b.1 he]);clear b he c;go_wp2;go_ret3;exact⟨by rw[f.out];rfl,A.tt l⟩
    ·have v:(m==key)=false:=by simpa using he
     have f:=jb (b.2 he);clear b he c;go_wp2;exact⟨⟨j+1,by simp,by omega,f.out,l⟩,by simp[intOf];omega⟩
   ·have t:¬(j:Int)<(n:Int):=by omega
    have f:Hid (Cq T key=([],false)):=jb (by
     have B:=k.out
     rw[ZO (by rw[<-G.out];exact u)] at B
     unfold Cq
     rw[B])
    go_wp2;go_ret3;exact⟨by rw[f.out];rfl,A.tt l⟩
theorem Zb{c:Rf.Ch}(h:¬(1<=c.key.length/\c.key.length<=16/\c.value.length<=40/\(c.gone=true->c.value=[]))):Rf.allowed c=false:=by
 cases ha:Rf.allowed c with
 | false=>rfl
 | true=>exact absurd ((Rf.xz c).1 ha) h
theorem Y7{l:List Rf.Ch}{c:Rf.Ch}(b:c∈l)(h:Rf.allowed c=false):Rf.qy l=false:=by
 cases hb:Rf.qy l with
 | false=>rfl
 | true =>
  have:=((Rf.yd l).1 hb).2.2 c b;rw[h] at this;cases this
theorem R4(v:Value)(l:List Rf.Ch)(D:Chs w v l)(Y:l.length<100000000)(L:∀ c∈l,c.key.length<1000000000/\c.value.length<1000000000) :
 Calls prog 185 #[v] w fun e w'=>e = .returned (.bool (Rf.qy l))/\ja w w' (fun _=>False):=by
 obtain⟨X,c0,rfl⟩:=D.shape;have R:=jb D;obtain⟨n,E⟩:∃ n,n=l.length:=⟨_,rfl⟩;rw[<-E] at Y R ⊢;have s:=jb E;have HS:=jb L;clear D E L;go_enter func185,ntmps185;go_wp2_with fail
 go_loopw [2,3] (fun _ z wr=>∃ j:Nat,z = .int .i64 j/\j<=n/\Hid (∀ c∈l.take j,Rf.allowed c=true)/\ja w wr (fun _=>False)) (fun _ z _=>n-(intOf z).toNat)
 case atStart=>exact⟨0,rfl,zU _,fun c hc=>(by cases hc),ja.refl _ _⟩
 case round =>
  obtain⟨j,rfl,a5,B,i⟩:=hrel;rcases ZJ j n with H|J
  ·have I:(j:Int)<(n:Int):=by omega
   have a4:IntKind.i64.wrap ((j:Int)+1)=(j:Int)+1:=zE (by omega) (by omega);have m:j<l.length:=by rw[<-s.out];exact H
   obtain⟨g,og,rfl,O,N,M⟩:=(by have:=R.out.same i;rw[s.out] at this;exact this:Chs wr (.slice X l.length c0) l).at m;have b:l[j]∈l:=zV m;have u:=HS.out _ b
   have y:Rf.allowed l[j]=true->∀ c∈l.take (j+1),Rf.allowed c=true:=fun ha c hc=>by
    rw[zY,zL m,zZ] at hc;rcases ZD.1 hc with t|t
    ·exact B.out c t
    ·rw[ZE.1 t];exact ha
   generalize l[j]=x at O N M b u y;obtain⟨p,xv,S⟩:=x;simp only at O N M u;obtain⟨s1,s2⟩:=u;have A:=jb y;have o:=jb b;clear y b m;rcases ZJ p.length 1 with k|k
   ·have V:(p.length:Int)<1:=by omega
    have f:=jb (Y7 o.out (Zb (fun h=>by have:=h.1;simp only at this;omega)));clear k;go_wp2;go_ret;exact⟨by rw[f.out];rfl,i⟩
   ·have V:¬(p.length:Int)<1:=by omega
    rcases ZJ 16 p.length with q|q
    ·have U:(16:Int)<(p.length:Int):=by omega
     have f:=jb (Y7 o.out (Zb (fun h=>by have:=h.2.1;simp only at this;omega)));clear k q;go_wp2;go_ret;exact⟨by rw[f.out];rfl,i⟩
    ·have U:¬(16:Int)<(p.length:Int):=by omega
     rcases ZJ 40 xv.length with r|r
     ·have z:(40:Int)<(xv.length:Int):=by omega
      have f:=jb (Y7 o.out (Zb (fun h=>by have:=h.2.2.1;simp only at this;omega)));clear k q r;go_wp2;go_ret;exact⟨by rw[f.out];rfl,i⟩
     ·have z:¬(40:Int)<(xv.length:Int):=by omega
      cases S with
      | false =>
       have G:Hid (Rf.allowed ⟨p,xv,false⟩=true):=jb ((Rf.xz _).2 ⟨k,q,r,fun h=>by cases h⟩);clear k q r;go_wp2;exact⟨⟨j+1,by simp,by omega,A.out G.out,i⟩,by simp[intOf];omega⟩
      | true =>
       by_cases h4:xv=[]
       ·have Z:List.isEmpty xv=true:=by rw[h4];rfl
        have G:Hid (Rf.allowed ⟨p,xv,true⟩=true):=jb ((Rf.xz _).2 ⟨k,q,r,fun _=>h4⟩);clear k q r h4;go_wp2;exact⟨⟨j+1,by simp,by omega,A.out G.out,i⟩,by simp[intOf];omega⟩
       ·have Z:List.isEmpty xv=false:=by cases xv<;>simp_all
        have f:=jb (Y7 o.out (Zb (fun h=>h4 (h.2.2.2 rfl))));clear k q r h4;go_wp2;go_ret;exact⟨by rw[f.out];rfl,i⟩
  ·have I:¬(j:Int)<(n:Int):=by omega
   have d:∀ c∈l,Rf.allowed c=true:=fun c hc=>B.out c (by rw[ZO (by rw[<-s.out];exact J)];exact hc);rcases ZB n with C|C
   ·have f:Hid (Rf.qy l=false):=jb (by
     cases hb:Rf.qy l with
     | false=>rfl
     | true=>have:=((Rf.yd l).1 hb).1;have:=s.out;omega)
    have W:¬(0:Int)<(n:Int):=by omega
    clear d C
    go_wp2
    go_ret
    exact⟨by rw[f.out];rfl,i⟩
   ·have W:(0:Int)<(n:Int):=by omega
    rcases ZJ n 9 with F|F
    ·have f:Hid (Rf.qy l=true):=jb ((Rf.yd l).2 ⟨by have:=s.out;omega,by have:=s.out;omega,d⟩)
     have T:(n:Int)<9:=by omega
     clear d C F;go_wp2;go_ret;exact⟨by rw[f.out];rfl,i⟩
    ·have f:Hid (Rf.qy l=false):=jb (by
      cases hb:Rf.qy l with
      | false=>rfl
      | true=>have:=((Rf.yd l).1 hb).2.1;have:=s.out;omega)
     have T:¬(n:Int)<9:=by omega
     clear d C F
     go_wp2
     go_ret
     exact⟨by rw[f.out];rfl,i⟩
theorem Bz(a b:Nat)(f:a<4294967296)(d:b<4294967296):bits .xor .i64 (a:Int) (b:Int)=((a ^^^ b:Nat):Int):=by
 have c:a ^^^ b<2^32:=yE (by omega) (by omega);show IntKind.i64.wrap ((BitVec.ofInt 64 (a:Int) ^^^ BitVec.ofInt 64 (b:Int)).toNat:Int)=_;rw[BitVec.toNat_xor,ofInt_u64 a (by omega),ofInt_u64 b (by omega)];exact zE (by omega) (by omega)
theorem yb(a b:List UInt8):((⟨a.toArray⟩:ByteArray)++(⟨b.toArray⟩:ByteArray))=⟨(a++b).toArray⟩:=by
 ext1;simp[ByteArray.data_append]
theorem Kz(n m:Nat):Rf.big n (m+1)=UInt8.ofNat (n/256^m%256)::Rf.big n m:=by
 induction m generalizing n with
 | zero=>simp[Rf.big]
 | succ m ih =>
  have e:Rf.big n (m+1+1)=Rf.big (n/256) (m+1)++[UInt8.ofNat (n%256)]:=rfl;rw[e,ih,xE,Nat.div_div_eq_div_mul];have b:256*256^m=256^(m+1):=by rw[xK,Nat.mul_comm]
  rw[b];rfl
theorem Pu(W:World)(k:Nat)(b:k<256):(convert 84 9 (.slice (some ⟨W.heap.size,0,none⟩) 1 1)).run prog (W.alloc (.cells #[.int .u8 (k:Int)] 5)) = .ok (jd [UInt8.ofNat k]) (W.alloc (.cells #[.int .u8 (k:Int)] 5)):=by
 refine Sc W.heap.size [.int .u8 (k:Int)] [UInt8.ofNat k] ?_ ?_ (by simp)
 ·exact je W _
 ·rw[List.map_singleton,jgb b]
theorem Jr(n m:Nat)(p:n<9223372036854775808)(D:m<=8)(w:World) :
 Calls prog 135 #[.int .i64 n,.int .i64 m] w fun e w'=>e = .returned (jd (Rf.big n m))/\ja w w' (fun _=>False):=by
 have t:Hid (n<9223372036854775808):=p;clear p;go_enter func135,ntmps135;go_wp2_with fail
 go_loopw [0,5,6] (fun t0 t5 t6 wr=>∃(i:Nat),t6 = .int .i64 i/\i<=m/\t0 = .int .i64 ((n/256^i:Nat):Int)/\t5=jd (Rf.big n i)/\ja w wr (fun _=>False)) (fun _ _ t6 _=>m-(intOf t6).toNat)
 case atStart=>exact⟨0,rfl,zU _,by simp,rfl,ja.refl _ _⟩
 case round =>
  obtain⟨i,rfl,A,rfl,rfl,o⟩:=hrel;have b:=Rf.ji n i;rcases ZJ i m with y|B
  ·have j:(i:Int)<(m:Int):=by omega
   have v:IntKind.i64.wrap ((i:Int)+1)=(i:Int)+1:=zE (by omega) (by omega);have g:=jb (Kz n i);have s:n/256^i<9223372036854775808:=ZZ (Nat.div_le_self _ _) t.out;have d:Hid (n/256^(i+1)=n/256^i/256):=jb (by rw[xK,<-Nat.div_div_eq_div_mul]);generalize n/256^i=q at s g d ⊢
   have k:(convert 84 9 (.slice (some ⟨wr.heap.size,0,none⟩) 1 1)).run prog (wr.alloc (.cells #[.int .u8 ((q:Int)%256)] 5)) = .ok (jd [UInt8.ofNat (q%256)]) (wr.alloc (.cells #[.int .u8 ((q:Int)%256)] 5)):=by
    have:=Pu wr (q%256) (by omega);rw[Int.natCast_emod] at this;exact this
   obtain⟨r,c⟩:∃ x,x=UInt8.ofNat (q%256):=⟨_,rfl⟩;rw[<-c] at k g;have f:=yb [r] (Rf.big n i);generalize Rf.big n i=L at b f g ⊢;have C:=jb b;have z:L.length<=8:=by omega
   clear b c;go_wp2;exact⟨⟨i+1,by simp,by omega,by rw[d.out];simp,by rw[g.out],o.more _⟩,by simp[intOf];omega⟩
  ·have j:¬(i:Int)<(m:Int):=by omega
   have l:Hid (i=m):=jb (by omega);generalize hL:Rf.big n i=L;have u:=jb hL;clear hL b;go_wp2;go_ret;exact⟨by rw[<-l.out,u.out];rfl,o⟩
theorem Rz(h:n<10):Rf.j4 n=[UInt8.ofNat (48+n)]:=by unfold Rf.j4;rw[dif_pos h]
theorem N0(h:¬n<10):Rf.j4 n=Rf.j4 (n/10)++[UInt8.ofNat (48+n%10)]:=by
 conv=>lhs;unfold Rf.j4
 rw[dif_neg h]
theorem T9(k:Nat)(h:n<10^(k+1)):(Rf.j4 n).length<=k+1:=by
 induction k generalizing n with
 | zero=>rw[Rz (by omega)];simp
 | succ k ih =>
  by_cases h1:n<10
  ·rw[Rz h1];simp
  ·rw[N0 h1,ZY,xC]
   have:=ih (n:=n/10) (by rw[xK] at h;omega);omega
def Hg(n m:Nat)(s:List UInt8):Prop:=(s=[]/\m=n)\/(s≠[]/\((m=0/\s=Rf.j4 n)\/(0<m/\Rf.j4 n=Rf.j4 m++s)))
theorem Hg.step(h:Hg n m s)(c:s=[]\/0<m):Hg n (m/10) (UInt8.ofNat (48+m%10)::s):=by
 refine .inr ⟨by simp,?_⟩
 have key:Rf.j4 n=Rf.j4 m++s:=by
  rcases h with⟨rfl,rfl⟩|⟨b,⟨rfl,rfl⟩|⟨_,h⟩⟩
  ·simp
  ·rcases c with h|h
   ·exact absurd h b
   ·omega
  ·exact h
 by_cases h1:m<10
 ·refine .inl ⟨by omega,?_⟩
  rw[key,Rz h1,show m%10=m by omega];rfl
 ·refine .inr ⟨by omega,?_⟩
  rw[key,N0 h1,ZK];rfl
theorem Hg.len(h:Hg n m s):s.length<=(Rf.j4 n).length:=by
 rcases h with⟨rfl,rfl⟩|⟨b,⟨rfl,rfl⟩|⟨_,h⟩⟩
 ·simp
 ·exact xA _
 ·rw[h,ZY];omega
theorem J0(n:Nat)(t:n<10000000000000)(w:World) :
 Calls prog 88 #[.int .i64 n] w fun e w'=>e = .returned (jd (Rf.j4 n))/\ja w w' (fun _=>False):=by
 have y:Hid (n<10000000000000):=t;have f:=T9 12 (n:=n) (by omega);have r:=jb f;clear t f;go_enter func88,ntmps88;go_wp2_with fail
 go_loopw [0,3] (fun t0 t3 wr=>∃(m:Nat) (s:List UInt8),t0 = .int .i64 m/\t3=jd s/\Hid (Hg n m s)/\Hid (m<=n)/\ja w wr (fun _=>False)) (fun t0 t3 _=>2*(intOf t0).toNat+(match t3 with|.string b=>if b.data.size=0 then 1 else 0|_=>0))
 case atStart=>exact⟨n,[],rfl,rfl,(show Hg n n [] from .inl ⟨rfl,rfl⟩),(show n<=n from xA _),ja.refl _ _⟩
 case round =>
  obtain⟨m,s,rfl,rfl,i,o,k⟩:=hrel;have A:s.length<=13:=ZF i.out.len r.out;have B:m<10000000000000:=ZZ o.out y.out
  have q:(convert 84 9 (.slice (some ⟨wr.heap.size,0,none⟩) 1 1)).run prog (wr.alloc (.cells #[.int .u8 (48+(m:Int)%10)] 5)) = .ok (jd [UInt8.ofNat (48+m%10)]) (wr.alloc (.cells #[.int .u8 (48+(m:Int)%10)] 5)):=by
   have:=Pu wr (48+m%10) (by omega);rw[Int.natCast_add,Int.natCast_emod] at this;exact this
  obtain⟨j,d⟩:∃ x,x=UInt8.ofNat (48+m%10):=⟨_,rfl⟩;rw[<-d] at q;have g:=jb d;have u:=yb [j] s;clear d;by_cases hs:s=[]
  ·have v:List.isEmpty s=true:=by rw[hs];rfl
   have c:=jb (i.out.step (.inl hs));rw[<-g.out] at c;have HS:=jb hs;clear hs;go_wp2;exact⟨⟨m/10,j::s,by simp,rfl,c.out,(show m/10<=n from ZF (Nat.div_le_self _ _) o.out),k.more _⟩,by rw[HS.out];simp[intOf];omega⟩
  ·have v:List.isEmpty s=false:=by cases s<;>simp_all
   rcases ZB m with l|l
   ·have p:¬(0:Int)<(m:Int):=by omega
    have z:Hid (s=Rf.j4 n):=jb (by
     rcases i.out with⟨h,_⟩|⟨_,⟨_,h⟩|⟨h,_⟩⟩
     ·exact absurd h hs
     ·exact h
     ·omega)
    clear hs l;go_wp2;go_ret;exact⟨by rw[<-z.out];rfl,k⟩
   ·have p:(0:Int)<(m:Int):=by omega
    have c:=jb (i.out.step (.inr l));rw[<-g.out] at c;clear hs;go_wp2;exact⟨⟨m/10,j::s,by simp,rfl,c.out,(show m/10<=n from ZF (Nat.div_le_self _ _) o.out),k.more _⟩,by simp[intOf];omega⟩
theorem jam{l:List UInt8}{i:Nat}{x:UInt8}(h:l[i]?=some x):(l.take (i+1)).foldl Rf.Qs 4294967295=Rf.Qs ((l.take i).foldl Rf.Qs 4294967295) x:=by
 rw[zY,h,zZ,zO];rfl
theorem Nr(l:List UInt8)(F:l.length<1000000000)(w:World) :
 Calls prog 183 #[jd l] w fun e w'=>e = .returned (.int .i64 (Rf.sum l:Nat))/\w'=w:=by
 obtain⟨n,B⟩:∃ n,n=l.length:=⟨_,rfl⟩;rw[<-B] at F;have X:=jb B;go_enter func183,ntmps183;go_wp2_with fail
 go_loopw [3,4,5,6] (fun t3 t4 _ _ wr=>∃(i c:Nat),t4 = .int .i64 i/\i<=n/\t3 = .int .i64 c/\Hid (c=(l.take i).foldl Rf.Qs 4294967295)/\c<4294967296/\wr=w) (fun _ t4 _ _ _=>n-(intOf t4).toNat)
 case atStart=>exact⟨0,4294967295,rfl,zU _,rfl,(show 4294967295=_ from rfl),by omega,rfl⟩
 case round =>
  obtain⟨i,c,rfl,T,rfl,C,H,rfl⟩:=hrel;rcases ZJ i n with S|U
  ·have v:(i:Int)<(l.length:Int):=by omega
   have f:i<l.length:=by omega
   have R:IntKind.i64.wrap ((i:Int)+1)=(i:Int)+1:=zE (by omega) (by omega);have s:=l[i].toNat_lt
   have m:bits BinOp.xor IntKind.i64 (c:Int) (wrap64 (((⟨l.toArray⟩:ByteArray)[i]'(by simpa [ByteArray.size] using f)).toNat:Int))=((c ^^^ l[i].toNat:Nat):Int):=by
    have J:((⟨l.toArray⟩:ByteArray)[i]'(by simpa [ByteArray.size] using f))=l[i]:=by simp[ByteArray.getElem_eq_getElem_data]
    rw[J];have I:wrap64 (l[i].toNat:Int)=(l[i].toNat:Int):=by unfold wrap64;omega
    rw[I];exact Bz _ _ H (by omega)
   have A:=jb (jam (zL f));have p:c ^^^ l[i].toNat<4294967296:=yE (n:=32) (by omega) (by omega);have x:=jb m;have z:=jb p;clear m p s;go_wp2_with fail
   go_loopw [3,5,6] (fun t3 t5 _ wr2=>∃(k d:Nat),t5 = .int .i64 k/\k<=8/\t3 = .int .i64 d/\d<4294967296/\Hid (Rf.bits (8-k) d=Rf.bits 8 (c ^^^ (l[i]'f).toNat))/\wr2=wr) (fun _ t5 _ _=>8-(intOf t5).toNat)
   case atStart=>exact⟨0,c ^^^ l[i].toNat,rfl,by omega,by rw[x.out],z.out,(show Rf.bits (8-0) _=_ from rfl),rfl⟩
   case round =>
    obtain⟨k,d,rfl,W,rfl,G,D,rfl⟩:=hrel;rcases ZJ k 8 with u|u
    ·have t:(k:Int)<8:=by omega
     have O:IntKind.i64.wrap ((k:Int)+1)=(k:Int)+1:=zE (by omega) (by omega)
     have q:Hid (Rf.bits (8-(k+1)) (Rf.bit d)=Rf.bits 8 (c ^^^ (l[i]'f).toNat)):=(show Rf.bits (8-(k+1)) (Rf.bit d)=_ from by
      rw[<-D.out,show 8-k=(8-(k+1))+1 by omega]
      rfl)
     rcases Nat.mod_two_eq_zero_or_one d with r|r
     ·have E:((d:Int)%2==1)=false:=by simp;omega
      have g:Hid (Rf.bit d=d/2):=jb (by unfold Rf.bit;rw[if_neg (by omega)]);clear r;go_wp2;exact⟨⟨k+1,d/2,by simp,by omega,by simp,by omega,(show Rf.bits (8-(k+1)) (d/2)=_ from by rw[<-g.out];exact q.out),trivial⟩,by simp[intOf];omega⟩
     ·have E:((d:Int)%2==1)=true:=by simp;omega
      have N:bits BinOp.xor IntKind.i64 ((d:Int)/2) 2197175160=((d/2 ^^^ 2197175160:Nat):Int):=by
       have:=Bz (d/2) 2197175160 (by omega) (by omega);rw[<-this];rfl
      have g:Hid (Rf.bit d=d/2 ^^^ 2197175160):=jb (by unfold Rf.bit;rw[if_pos r]);have o:d/2 ^^^ 2197175160<4294967296:=yE (n:=32) (by omega) (by omega);have y:=jb o;clear r o;go_wp2;exact⟨⟨k+1,d/2 ^^^ 2197175160,by simp,by omega,by simp,y.out,(show Rf.bits (8-(k+1)) (d/2 ^^^ 2197175160)=_ from by rw[<-g.out];exact q.out),trivial⟩,by simp[intOf];omega⟩
    ·have t:¬(k:Int)<8:=by omega
     have b:8-k=0:=by omega
     have M:Hid (d=(l.take (i+1)).foldl Rf.Qs 4294967295):=(show d=_ from by
      have j:=D.out
      rw[b] at j
      rw[A.out,<-C.out]
      exact j)
     clear b;go_wp2;exact⟨⟨i+1,d,by simp,by omega,rfl,M.out,G,trivial⟩,by simp[intOf];omega⟩
  ·have v:¬(i:Int)<(l.length:Int):=by omega
   have L:Hid (Rf.sum l=4294967295-c):=jb (by
    have j:=C.out
    rw[ZO (by omega)] at j
    unfold Rf.sum
    rw[<-j])
   have V:IntKind.i64.wrap (4294967295-(c:Int))=4294967295-(c:Int):=zE (by omega) (by omega);go_wp2;go_ret;refine⟨?_,rfl⟩;rw[L.out];show Ending.returned (.int .i64 (4294967295-(c:Int)))=_;congr 2;omega
theorem tt(l:List UInt8):Rf.sum l<4294967296:=by unfold Rf.sum;omega
theorem iz(l:List UInt8)(m:l.length<1000000000)(w:World) :
 Calls prog 137 #[jd l] w fun e w'=>e = .returned (jd (Rf.frame l))/\ja w w' (fun _=>False):=by
 have i:=jb (Jr l.length 4 (by omega) (by omega) w);have HS:Hid (∀ W,Calls prog 183 #[jd l] W fun e w'=>e = .returned (.int .i64 (Rf.sum l:Nat))/\w'=W):=fun W=>Nr l m W;have d:=tt l;have b:Hid (∀ W,Calls prog 135 #[.int .i64 (Rf.sum l:Nat),.int .i64 4] W fun e w'=>e = .returned (jd (Rf.big (Rf.sum l) 4))/\ja W w' (fun _=>False)):=fun W=>Jr (Rf.sum l) 4 (by omega) (by omega) W;have c:Hid (Rf.frame l=Rf.big l.length 4++Rf.big (Rf.sum l) 4++l):=(show _=_ from rfl);have g:=Rf.ji l.length 4;have f:=Rf.ji (Rf.sum l) 4;generalize Rf.big l.length 4=X at i c g;generalize Rf.big (Rf.sum l) 4=Y at b c f;generalize Rf.sum l=S at HS b d;have v:(X++Y).length<=8:=by rw[ZY];omega
 have u:=yb X Y;have t:=yb (X++Y) l;have p:X.length<=4:=by omega
 have o:Y.length<=4:=by omega
 clear g f;go_enter func137,ntmps137;go_wp2_with fail;refine i.out.mono ?_;rintro e s ⟨rfl,k⟩;go_wp2_with fail;refine(HS.out _).mono ?_;rintro e r ⟨rfl,n⟩;subst n;go_wp2_with fail;refine(b.out _).mono ?_;rintro e q ⟨rfl,j⟩;go_wp2;go_ret;exact⟨by rw[c.out];first|rfl|simp,k.tt j⟩
theorem Av(l:List UInt8)(j:l.length<1000000000)(w:World) :
 Calls prog 148 #[jd l] w fun e w'=>e = .returned (jd (Rf.text l))/\ja w w' (fun _=>False):=by
 have d:=jb (Jr l.length 1 (by omega) (by omega) w);have c:Hid (Rf.text l=Rf.big l.length 1++l):=(show _=_ from rfl);have b:=Rf.ji l.length 1;generalize Rf.big l.length 1=X at d c b;have k:=yb X l;have g:X.length<=4:=by omega
 clear b;go_enter func148,ntmps148;go_wp2_with fail;refine d.out.mono ?_;rintro e i ⟨rfl,f⟩;go_wp2;go_ret;exact⟨by rw[c.out];first|rfl|simp,f⟩
end Go.Proofs.YtnipbplghijdmaaGreatDoor
