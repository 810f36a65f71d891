/- W41 -/
import Derived.OpenShut
import Derived.Test.YtnipbplghijdmaaGreatDoorW40
set_option maxRecDepth 100000
set_option linter.unusedVariables false
set_option linter.unusedSimpArgs false
namespace Go.Proofs.YtnipbplghijdmaaGreatDoor
open RowKit Go.ChangeShapes WideShapes Go.ChangeAt Go.Deep Go.Proofs.Tryz
theorem C8{H:Type}{d:DataW H}:∀ {l:List (DataW H)},d∈l->Rows.uptoBulk d<=Rows.uptoBulkAll l
 | x::r,h=>by
  rw[Rows.uptoBulkAll]
  rcases zH.1 h with e|e
  ·rw[e];omega
  ·have:=C8 e;omega
theorem jcx{H:Type}(d:DataW H):0<Rows.uptoBulk d:=by
 cases d with
 | lit l=>cases l<;>simp[Rows.uptoBulk]
 | nil=>simp[Rows.uptoBulk]
 | ptr d=>simp[Rows.uptoBulk]
 | slice elems spare=>simp[Rows.uptoBulk]
 | agg parts=>simp[Rows.uptoBulk]
 | iface t d=>simp[Rows.uptoBulk]
 | map entries=>simp[Rows.uptoBulk]
 | held h=>simp[Rows.uptoBulk]
theorem Gz{H:Type}:∀(l:List (DataW H)),l.length<=Rows.uptoBulkAll l
 | []=>zU _
 | x::r=>by
  have h1:=Gz r
  have b:=jcx x
  rw[Rows.uptoBulkAll,zX]
  omega
theorem Gy{H:Type}(e s:List (DataW H)):Rows.uptoBulk (.slice e s)=Rows.uptoBulkAll e+Rows.uptoBulkAll s+1:=by simp only[Rows.uptoBulk]
theorem G4{H:Type}(e:List (DataW H)):Rows.uptoBulk (.agg e)=Rows.uptoBulkAll e+1:=by simp only[Rows.uptoBulk]
theorem Pv{H:Type}(b:List UInt8):Rows.uptoBulk (DataW.lit (H:=H) (.string b))=b.length+1:=by simp[Rows.uptoBulk]
theorem Lc(s:ByteArray):Value.string s=jd s.data.toList:=by
 obtain⟨d⟩:=s;rfl
theorem Kj:prog.cellsOf 3=1:=by kernel_rfl
theorem Gw:prog.cellsOf 88=3:=by kernel_rfl
theorem Fu:prog.cellsOf 103=7:=by kernel_rfl
theorem py:prog.cellsOf 9=1:=by kernel_rfl
theorem G6:prog.cellsOf 4=1:=by kernel_rfl
theorem Wv:prog.cellsOf 38=1:=by kernel_rfl
theorem jcw:∃ f0 f1 f2:Field,prog.underlying 88=some (.struct #[f0,f1,f2])/\(f0.type,f1.type,f2.type)=(9,9,4)/\(f0.offset,f1.offset,f2.offset)=(0,1,2):=⟨_,_,_,underlying88,rfl,rfl⟩
theorem jbn:∃ f0 f1 f2 f3 f4 f5 f6:Field,prog.underlying 103=some (.struct #[f0,f1,f2,f3,f4,f5,f6])/\(f0.type,f1.type,f2.type,f3.type,f4.type,f5.type,f6.type)=(3,3,39,9,9,38,4)/\(f0.offset,f1.offset,f2.offset,f3.offset,f4.offset,f5.offset,f6.offset)=(0,1,2,3,4,5,6):=⟨_,_,_,_,_,_,_,underlying103,rfl,rfl⟩
section
variable {H:Type} {enc:TypeId×Value->H} {W:World}
theorem Uf{fuel:Nat}{cs:List Value}{x:DataW H×List MemPlace}(h:DataW.trod enc prog W 0 (fun _=>true) true fuel 88 cs=some x):∃ c:Rf.Ch,cs=[jd c.key,jd c.value,.bool c.gone]/\c.key.length<=Rows.uptoBulk x.1/\c.value.length<=Rows.uptoBulk x.1:=by
 obtain⟨D,C,B,A,i,j⟩:=jcw;simp only[Prod.mk.injEq] at i j;obtain⟨t,s,r⟩:=i;obtain⟨z,y,v⟩:=j;obtain⟨xs,k,J,g,b,f,d⟩:=DataW.trod_struct A h;rw[Gw] at b
 match xs,f,cs,b with
 | [y0,y1,y2],_,[v0,v1,v2],_ =>
  have n:=d 0 D rfl;have m:=d 1 C rfl;have l:=d 2 B rfl;rw[t,z,py] at n;rw[s,y,py] at m;rw[r,v,G6] at l;obtain⟨s0,q,G,_⟩:=DataW.trod_string underlying9 (x:=y0) n;obtain⟨u,p,F,_⟩:=DataW.trod_string underlying9 (x:=y1) m;obtain⟨I,o,E⟩:=DataW.trod_bool underlying4 (x:=y2) l;simp at q p o;subst q;subst p;subst o;subst G;subst F;subst E;refine⟨⟨s0.data.toList,u.data.toList,I⟩,by rw[Lc,Lc],?_,?_⟩
  ·rw[g]
   simp only[zI,ZI,G4,Rows.uptoBulkAll,Pv];omega
  ·rw[g]
   simp only[zI,ZI,G4,Rows.uptoBulkAll,Pv];omega
theorem jbm{fuel:Nat}{cs:List Value}{x:DataW H×List MemPlace}(h:DataW.trod enc prog W 0 (fun _=>true) true fuel 38 cs=some x)(L:Rows.uptoBulk x.1<=1048576):∃ v l,cs=[v]/\im W v l/\(l≠[]->∀ p n c,v = .slice (some p) n c->p.block<W.heap.size)/\l.length<10000000/\∀ c∈l,c.key.length<10000000/\c.value.length<10000000:=by
 rcases open_slice underlying38 h with⟨rfl,_⟩|⟨a,len,cap,m,n,D,Pl,rfl,_,A,E,I,S,r⟩
 ·exact⟨_,[],rfl,.inl (Chs.nil _),fun e=>(e rfl).elim,by simp,fun c g=>by cases g⟩
 ·simp only[if_true] at I
  subst I;rcases ZB len with z|z
  ·subst z
   exact⟨_,[],rfl,.inr ⟨rfl,a,m,rfl⟩,fun e=>(e rfl).elim,by simp,fun c g=>by cases g⟩
  rw[S] at L;rw[Gy] at L;have B:=Gz ((List.range len).map D);simp only[ZM,List.length_range] at B
  have q:a.spot=none:=by
   obtain⟨G,g,t⟩:=r 0 (by omega);rw[Gw] at g;obtain⟨_,d,f⟩:=World.cells?_some g;obtain⟨c,rfl,_⟩:=Uf t;have:=World.cell?_spot (f 0 (by omega));simpa [Addr.add] using this
  obtain⟨b,o,Y⟩:=a;simp only at q;subst q
  have s:∀ i,i<len->∃ c:Rf.Ch,W.cell? ((⟨b,o,none⟩:Addr).add (i*3))=some (jd c.key)/\W.cell? ((⟨b,o,none⟩:Addr).add (i*3+1))=some (jd c.value)/\W.cell? ((⟨b,o,none⟩:Addr).add (i*3+2))=some (.bool c.gone)/\c.key.length<10000000/\c.value.length<10000000:=by
   intro i hi;obtain⟨G,g,t⟩:=r i (by omega);rw[Gw] at g;obtain⟨_,d,f⟩:=World.cells?_some g;obtain⟨c,rfl,X,V⟩:=Uf t;have Z:Rows.uptoBulk (D i)<=Rows.uptoBulkAll ((List.range len).map D):=C8 (ZN.2 ⟨i,List.mem_range.2 hi,rfl⟩);have R:=f 0 (by omega);have O:=f 1 (by omega);have N:=f 2 (by omega);rw[add_plain,add_plain] at R O N;rw[add_plain,add_plain,add_plain];exact⟨c,by simpa using R,by simpa [ZL] using O,by simpa [ZL] using N,by simp only at X;omega,by simp only at V;omega⟩
  haveI:Inhabited Rf.Ch:=⟨⟨[],[],false⟩⟩
  obtain⟨F,y⟩:=choose_lt s;have d:((List.range len).map F).length=len:=by simp
  refine⟨_,(List.range len).map F,rfl,.inl ⟨some ⟨b,o,none⟩,m,by rw[d],by rw[d];exact A,E,fun e=>(by cases e),fun ad e=>?_⟩,fun hne p n' c' e=>?_,by rw[d];omega,fun c g=>?_⟩
  ·cases e
   refine⟨rfl,fun j u hu=>?_⟩;have T:j<(jg ((List.range len).map F)).length:=(XA.1 hu).1;rw[qq,d] at T;have J:j/3<len:=by omega
   have C:j/3<((List.range len).map F).length:=by rw[d];exact J
   have k:=Y2 C;have U:((List.range len).map F)[j/3]=F (j/3):=by simp
   rw[U] at k;have g:=y (j/3) J;rcases(by omega:j=j/3*3\/j=j/3*3+1\/j=j/3*3+2)with e|e|e
   ·rw[e] at hu ⊢
    rw[k.1] at hu;cases hu;exact g.1
   ·rw[e] at hu ⊢
    rw[k.2.1] at hu;cases hu;exact g.2.1
   ·rw[e] at hu ⊢
    rw[k.2.2] at hu;cases hu;exact g.2.2.1
  ·cases e
   have M:=(y 0 z).1;rw[add_plain] at M;exact kt M
  ·obtain⟨i,hi,rfl⟩:=ZN.1 g
   have:=y i (List.mem_range.1 hi);exact this.2.2.2
theorem Ue{fuel:Nat}{cs:List Value}{x:DataW H×List MemPlace}(h:DataW.trod enc prog W 0 (fun _=>true) true fuel 103 cs=some x)(m:Rows.uptoBulk x.1<=1048576):∃ o:OpA,cs=[.int .i64 o.kd,.int .i64 o.N,o.cv,jd o.key,jd o.til,o.bv,.bool o.wh]/\im W o.bv o.l/\(o.l≠[]->∀ p n c,o.bv = .slice (some p) n c->p.block<W.heap.size)/\o.l.length<10000000/\(∀ c∈o.l,c.key.length<10000000/\c.value.length<10000000)/\ -9223372036854775808<=o.N/\o.N<=9223372036854775807:=by
 obtain⟨f0,f1,f2,f3,f4,f5,f6,hu,i,j⟩:=jbn;simp only[Prod.mk.injEq] at i j;obtain⟨O,M,t2,L,J,I,G⟩:=i;obtain⟨Z,Y,o2,X,V,U,T⟩:=j;obtain⟨xs,k,hk,hx,b,f,d⟩:=DataW.trod_struct hu h;rw[Fu] at b
 match xs,f,cs,b with
 | [y0,y1,y2,y3,y4,y5,y6],_,[v0,v1,v2,v3,v4,v5,v6],_ =>
  have y:=d 0 f0 rfl;have u:=d 1 f1 rfl;have t:=d 3 f3 rfl;have s:=d 4 f4 rfl;have r:=d 5 f5 rfl;have q:=d 6 f6 rfl;rw[O,Z,Kj] at y;rw[M,Y,Kj] at u;rw[L,X,py] at t;rw[J,V,py] at s;rw[I,U,Wv] at r;rw[G,T,G6] at q;obtain⟨n0,E,d0,_⟩:=DataW.trod_int underlying3 (x:=y0) y;obtain⟨n1,D,d1,F⟩:=DataW.trod_int underlying3 (x:=y1) u;obtain⟨S,C,d3,_⟩:=DataW.trod_string underlying9 (x:=y3) t;obtain⟨R,B,d4,_⟩:=DataW.trod_string underlying9 (x:=y4) s;obtain⟨b6,z,d6⟩:=DataW.trod_bool underlying4 (x:=y6) q
  have g:Rows.uptoBulk y5.1<=1048576:=by
   rw[hx] at m;simp only[zI,ZI,G4,Rows.uptoBulkAll] at m;omega
  obtain⟨v,l,A,h5,l5,n5,c5⟩:=jbm (x:=y5) r g;simp at E D C B A z;subst E;subst D;subst C;subst B;subst A;subst z;exact⟨⟨n0,n1,v2,S.data.toList,R.data.toList,v5,l,b6⟩,by rw[Lc,Lc],h5,l5,n5,c5,bounds_i64 F⟩
theorem jbl{fuel:Nat}{cs:List Value}{x:DataW H×List MemPlace}(h:DataW.trod enc prog W 0 (fun _=>true) true fuel 22 cs=some x)(B:Rows.uptoBulk x.1<=1048576):∃ p c ops,cs=[.slice p ops.length c]/\K8 W W.heap.size p ops/\ops.length<=1048576:=by
 rcases open_slice underlying22 h with⟨rfl,_⟩|⟨a,len,cap,m,n,D,Z,rfl,_,V,X,A,M,k⟩
 ·exact⟨none,0,[],rfl,fun i hi=>(by simp at hi),by simp⟩
 ·simp only[if_true] at A
  subst A;rw[M] at B;rw[Gy] at B;have v:=Gz ((List.range len).map D);simp only[ZM,List.length_range] at v;rcases ZB len with u|u
  ·subst u
   exact⟨some a,m,[],rfl,fun i hi=>(by simp at hi),by simp⟩
  have j:a.spot=none:=by
   obtain⟨z,f,s⟩:=k 0 (by omega);rw[Fu] at f;obtain⟨_,l,d⟩:=World.cells?_some f;have N:Rows.uptoBulk (D 0)<=Rows.uptoBulkAll ((List.range len).map D):=C8 (ZN.2 ⟨0,List.mem_range.2 u,rfl⟩);obtain⟨q,rfl,_⟩:=Ue s (by simp only;omega);have:=World.cell?_spot (d 0 (by omega));simpa [Addr.add] using this
  obtain⟨b,o,Y⟩:=a;simp only at j;subst j
  have r:∀ i,i<len->∃ q:OpA,P0 W W.heap.size b (o+i*7) q:=by
   intro i hi;obtain⟨z,f,s⟩:=k i (by omega);rw[Fu] at f;obtain⟨_,l,d⟩:=World.cells?_some f;have N:Rows.uptoBulk (D i)<=Rows.uptoBulkAll ((List.range len).map D):=C8 (ZN.2 ⟨i,List.mem_range.2 hi,rfl⟩);obtain⟨q,rfl,t,U,T,S,R⟩:=Ue s (by simp only;omega);have g:=d 0 (by omega);have L:=d 1 (by omega);have J:=d 2 (by omega);have I:=d 3 (by omega);have G:=d 4 (by omega);have E:=d 5 (by omega);have C:=d 6 (by omega);rw[add_plain,add_plain] at g L J I G E C;have g:W.cell? ⟨b,o+i*7,none⟩=some (.int .i64 q.kd):=g;exact⟨q,⟨g,L,J,I,G,E,C,kt g,t,U,T,S,R⟩⟩
  haveI:Inhabited OpA:=⟨⟨0,0,.nilIface,[],[],.nilIface,[],false⟩⟩
  obtain⟨F,O⟩:=choose_lt r;refine⟨some ⟨b,o,none⟩,m,(List.range len).map F,by simp,fun i hi=>?_,by simp;omega⟩;have y:i<len:=by simpa using hi
  have t:=O i y;exact⟨b,o,rfl,by simpa using t⟩
end
end Go.Proofs.YtnipbplghijdmaaGreatDoor
namespace Go.Proofs.YtnipbplghijdmaaGreatDoor
open Go.Proofs.Tryz
theorem Ia':(Rows.writesUptoRow.wf (OpenSpec.ofChange (Rows.OpenSpec.upto Rows.writesSpec).bare))=true:=by kernel_rfl
theorem Hz':(f3.params.all (prog.readableRec ·))=true:=by kernel_rfl
theorem Hy':(namedTie prog Rows.writesUptoRow.named (Rows.OpenSpec.upto Rows.writesSpec).bare.vars)=true:=by kernel_rfl
theorem Hx':((Rows.writesUptoRow.stops==[]))=true:=by kernel_rfl
theorem Hv':((Rows.writesUptoRow.knobs==[]))=true:=by kernel_rfl
theorem Ht':((Rows.writesUptoRow.inPlace==prog.inPlace 3))=true:=by kernel_rfl
theorem Ev':((Rows.writesUptoRow.unfollowed==prog.unfollowed 3))=true:=by kernel_rfl
theorem Eu':((Rows.writesUptoRow.recurses==prog.recurses 3))=true:=by kernel_rfl
theorem Et':((Rows.writesUptoRow.named==prog.varsNamed 3))=true:=by kernel_rfl
theorem Es':((Rows.writesUptoRow.maps==(f3.params.toList++(Rows.OpenSpec.upto Rows.writesSpec).bare.plain.varTypes prog).any (prog.mapsRec ·)))=true:=by kernel_rfl
theorem Er':((Rows.writesUptoRow.ifaces==(f3.params.toList++(Rows.OpenSpec.upto Rows.writesSpec).bare.plain.varTypes prog).any (prog.ifacesRec ·)))=true:=by kernel_rfl
theorem Ep':((Rows.writesUptoRow.mapsOut==prog.mapsAmong f3.resultTypes.toList))=true:=by kernel_rfl
theorem Eo':((Rows.writesUptoRow.loops==(f3.params.toList++(Rows.OpenSpec.upto Rows.writesSpec).bare.plain.varTypes prog).any (prog.loopsFrom ·)))=true:=by kernel_rfl
theorem En':((Rows.writesUptoRow.wideKeys==(f3.params.toList++(Rows.OpenSpec.upto Rows.writesSpec).bare.plain.varTypes prog++f3.resultTypes.toList).any (prog.wideKeysFrom ·)))=true:=by kernel_rfl
theorem Em':((Rows.OpenSpec.upto Rows.writesSpec).bare.vars.all (prog.varReadable ·))=true:=by kernel_rfl
theorem Ek':(f3.resultTypes.all (fun t=>prog.readableRec t&&decide (t<prog.types.size)))=true:=by kernel_rfl
theorem Ej':((Rows.writesUptoRow.ifacesOut==f3.resultTypes.toList.any (prog.ifacesRec ·)))=true:=by kernel_rfl
theorem Ei':((Rows.writesUptoRow.loopsOut==f3.resultTypes.toList.any (prog.loopsFrom ·)))=true:=by kernel_rfl
theorem Eh':((Rows.writesUptoRow.plainKeys==prog.plainKeys))=true:=by kernel_rfl
theorem Eg':(Rows.writesUptoRow.shortTexts.isNone)=true:=by kernel_rfl
theorem Ed':((Rows.writesUptoRow.lifted==prog.liftsFinal))=true:=by kernel_rfl
theorem Ec':((prog.make==some Rows.writesUptoRow.make))=true:=by kernel_rfl
theorem Eb':((Rows.writesUptoRow.pinned==Rows.writesUptoRow.pinnedBy))=true:=by kernel_rfl
theorem Ea':((Rows.writesUptoRow.veiled==(f3.params.toList++(Rows.OpenSpec.upto Rows.writesSpec).bare.plain.varTypes prog++f3.resultTypes.toList).any (prog.veiledRec ·)))=true:=by kernel_rfl
theorem D0':(Rows.writesUptoRow.veiledFits prog f3.params.toList (f3.params.toList++(Rows.OpenSpec.upto Rows.writesSpec).bare.plain.varTypes prog++f3.resultTypes.toList))=true:=by kernel_rfl
end Go.Proofs.YtnipbplghijdmaaGreatDoor
