/-
  S: Insert.
-/
import Derived.Lib.Overlaps
import Derived.Lib.AppendZeros
import Derived.Test.YtnipbplghijdmaaGreatDoorS13
import Derived.Test.YtnipbplghijdmaaGreatDoorS17
set_option maxRecDepth 100000
set_option maxHeartbeats 8000000
set_option linter.unusedVariables false
set_option linter.unusedSimpArgs false
namespace Go.Proofs.YtnipbplghijdmaaGreatDoor
open RowKit Maps WideShapes Go.Proofs.Tryz
theorem Tryz.jfe(w:World):(sizeOf 88).run prog w = .ok 3 w:=by kernel_rfl
theorem Chs.src{w:World}{v:Value}{l:List Rf.Ch}(h:Chs w v l):Src prog 3 38 v l.length (jg l) w:=by
 obtain⟨p,c,rfl,i,g,f,d⟩:=h
 cases p with
 | none =>
  have:c=0:=f rfl;have b:l=[]:=xB (by omega);subst b;exact Src.ofNil w underlying38 c
 | some ad=>exact Src.ofSlice w underlying38 ad l.length c _ (qq l) (fun j u hu=>(d ad rfl).2 j u hu) (Xf l)
theorem zr(a b:List Rf.Ch):jg (a++b)=jg a++jg b:=by simp[jg]
def One(w:World)(q:Nat)(c:Rf.Ch):Prop:=w.heap[q]?=some (.cells (jg [c]).toArray 88 (0,0))
theorem Sj(v:Value)(l:List Rf.Ch)(c:Rf.Ch)(base q:Nat)(w:World)(A:l.length<1048576)(f:base<=w.heap.size)(b:w.ownsRow base 88 3 v l.length (jg l))(z:One w q c) :
 Calls prog 155 #[v,.int .i64 l.length,.slice (some ⟨q,0,none⟩) 1 1] w fun e w' =>
  ∃ v',e = .returned v'/\w'.ownsRow base 88 3 v' (l.length+1) (jg (l++[c]))/\Grown w v w' v':=by
 have i:Src prog 3 38 (.slice (some ⟨q,0,none⟩) 1 1) 1 (jg [c]) w:=by
  refine Src.ofSlice w underlying38 ⟨q,0,none⟩ 1 1 _ rfl (fun j u hu=>?_) (Xf _);exact Jt z rfl j u hu
 obtain⟨p,G,rfl⟩:=jj b;have x:Hid (l.length+1<=maxLen):=by unfold Hid maxLen;omega
 have t:Hid ((l.length+1)*40<=140737488355328):=by unfold Hid;omega
 clear A;obtain⟨y,B,n,m,k⟩:=info_parts Tryz.Jz;rcases p with _|⟨g,o,E⟩
 all_goals
  go_enter func155,ntmps155
  go_wp2_with (at_builtin;go_must (refine za _ rfl (.tmp 23) (.tmp 24) 38 38 rfl base 88 y Jy 3 40 underlying38 B n m k rfl (ZG 2) _ l.length (jg l) rfl b _ 1 (jg [c]) rfl i x.out t.out f ?_);intro F C D d s r)
  all_goals
   go_ret;exact⟨_,rfl,by rw[zr];exact d,Grown.grown s r⟩
theorem Ng{α:Type}(A B R C:List α)(k:Nat)(o:C.length=k)(n:k<=R.length)(L b:List α)(c:L=A++(B++R))(d:b=L.take (A.length+k)++B++L.drop (A.length+k+B.length)) :
 b.take A.length++C++b.drop (A.length+k)=A++(C++(B++R.drop k)):=by
 have m:L.take (A.length+k)=A++(B++R).take k:=by rw[c,List.take_append,ZO (by omega),yF]
 have l:L.drop (A.length+k+B.length)=R.drop k:=by
  rw[c,List.drop_append,ZQ (by omega),xZ,List.drop_append,ZQ (by omega),xZ];congr 1;omega
 have j:((B++R).take k).length=k:=by rw[ZT,ZY];omega
 rw[m,l] at d;have f:b=A++((B++R).take k++(B++R.drop k)):=by rw[d];simp
 have i:b.take A.length=A:=by rw[f,xQ]
 have g:b.drop (A.length+k)=B++R.drop k:=by
  rw[f,List.drop_append,ZQ (by omega),xZ,yF,List.drop_append,ZQ (by omega),xZ,j,Nat.sub_self,List.drop_zero]
 rw[i,g];simp
theorem O0(g cap:Nat)(a:List Rf.Ch)(y:Rf.Ch)(b:List Rf.Ch)(c:Rf.Ch)(q n:Nat)(d:Array Value)(w:World)(X:n=a.length+(b.length+1))(ai:n+1<=cap)(C:cap<=maxLen)(U:w.heap[g]?=some (.cells d 88 (0,0)))(l:d.size=cap*3)(p:d.toList.take (n*3)=jg (a++y::b))(H:One w q c)(L:q≠g) :
 Calls prog 155 #[.slice (some ⟨g,0,none⟩) n cap,.int .i64 a.length,.slice (some ⟨q,0,none⟩) 1 1] w fun e w' =>
  e = .returned (.slice (some ⟨g,0,none⟩) (n+1) cap)/\(∃ cur',w'.heap[g]?=some (.cells cur' 88 (0,0))/\cur'.size=cap*3/\cur'.toList.take ((n+1)*3)=jg (a++c::y::b))/\ja w w' (fun i=>i=g):=by
 obtain⟨i,hi⟩:∃ i,i=a.length:=⟨_,rfl⟩;rw[<-hi] at X ⊢;have A:maxLen=9223372036854775807:=by unfold maxLen;rfl
 rw[A] at C;have ap:¬((i:Int)=(n:Int)):=by omega
 have a0:∀ lb cb,(callFunc 191 #[.slice (some ⟨q,0,none⟩) 1 1,.slice (some ⟨g,(i+1)*3,none⟩) lb cb]).run prog w = .ok (.value (.bool false)) w:=fun lb cb=>by
  rw[run_callFunc_extern func191 (by kernel_rfl) (by kernel_rfl) (by kernel_rfl) (e:=Extern.SlicesOverlaps.overlaps #[38,38] #[4]) (by kernel_rfl),
   Lib.run_overlaps_apart w 38 4 88 underlying38 3 Tryz.jfe ⟨q,0,none⟩ ⟨g,(i+1)*3,none⟩ 1 1 lb cb L 88 88 3 d.size (by unfold World.shape?;rw[H];rfl) (by unfold World.shape?;rw[U]) (by omega) (zB H) (zB H)]
  rfl
 have x:(prog.info? 88).map (·.size)=some 3:=by kernel_rfl
 have x:=jb x;obtain⟨B,I⟩:∃ B,B=jg (y::b):=⟨_,rfl⟩;have F:B.length=(n-i)*3:=by rw[I,qq,zX];congr 1;omega
 have N:∀ u∈B,u.oneCell'=true:=by rw[I];exact Xf _
 have G:(jg a).length=i*3:=by rw[qq,hi]
 have Y:d.toList=jg a++(B++d.toList.drop (n*3)):=by
  rw[<-ZK,I,<-zr,<-p,ZR]
 have M:3<=(d.toList.drop (n*3)).length:=by rw[ZU,XM,l];omega
 have s:∀ j u,B[j]?=some u->w.drew.cell? ((⟨g,i*3,none⟩:Addr).add j)=some u:=by
  intro j u hu;rw[Ju];have V:=zA (o:=i*3+j) U;refine Eq.trans (b:=w.cell? ⟨g,i*3+j,none⟩) rfl ?_;rw[V,<-Array.getElem?_toList,Y,zR (by omega),G,yF,zQ (XA.1 hu).1];exact hu
 have t:n-i=Nat.min (n+1-i) (n-i):=by show _=min _ _;rw[Nat.min_def];split<;>omega
 have v:(i+1)*3+B.length<=d.size:=by rw[F,l];omega
 have HF:=jb v;have HM:=jb t;have S:=jb F;have T:=jb s;have HL:=jb Y;have R:=jb M;have z:=jb G;have a9:=jb N;have m:=jb l;have HG:=jb U;have HX:=jb H;clear v t F s Y M G N l U H p;have ar:IntKind.i64.wrap ((i:Int)+1)=(i:Int)+1:=zE (by omega) (by omega);have az:(0:Int)<=(i:Int)+1:=by omega
 have av:i<=n:=by omega
 have au:((i:Int)+1).toNat=i+1:=by omega
 have ay:¬(cap=i+1):=by omega
 have ax:(i:Int)<=(n:Int)+1:=by omega
 have aw:¬(cap=i):=by omega
 have aa:¬((cap:Int)<(n:Int)+1):=by omega
 have aq:IntKind.i64.wrap ((n:Int)+1)=(n:Int)+1:=zE (by omega) (by omega);have ag:((n:Int)+1).toNat=n+1:=by omega
 have ah:(i:Int)<(n:Int):=by omega
 have HN:=jb X;have HI:=jb hi;have a8:=jb I;clear X hi I A C;go_enter func155,ntmps155
 go_wp2_with (simp only[a0])
 go_region_law (refine u6 rfl (.tmp 73) (.tmp 76) 38 38 rfl 88 3 underlying38 x.out g ((i+1)*3) (n-i) (cap-(i+1)) ⟨g,i*3,none⟩ (n+1-i) (cap-i) (by simp[Act.eval,Act.put]) (by simp[Act.eval,Act.put]) d 88 HG.out B (n-i) HM.out S.out T.out HF.out a9.out ?_;intro w1 a3)
 obtain⟨E,k1⟩:=a3;obtain⟨f,W⟩:∃ f:Array Value,f.toList=d.toList.take ((i+1)*3)++B++d.toList.drop ((i+1)*3+B.length):=⟨(d.toList.take ((i+1)*3)++B++d.toList.drop ((i+1)*3+B.length)).toArray,rfl⟩;rw[<-W] at E;have D:=Ng (jg a) B (d.toList.drop (n*3)) (jg [c]) 3 (qq [c]) R.out d.toList f.toList HL.out (by rw[z.out,show i*3+3=(i+1)*3 by omega];exact W);rw[z.out] at D
 have k:f.size=cap*3:=by
  have Z:d.toList.length=cap*3:=by rw[XM];exact m.out
  have V:=HF.out;rw[m.out] at V;have h3:=congrArg List.length W;simp only[ZY,ZT,ZU,Z,XM] at h3;omega
 have J:w1.heap[q]?=some (.cells (jg [c]).toArray 88 (0,0)):=k1.same (w:=w.drew) HX.out L;have r:=Jt J rfl;have a7:Hid (i*3+(jg [c]).length<=f.size):=by unfold Hid;rw[k,qq];simp only[zX,xU];omega
 have a5:Hid (1=Nat.min 1 (n+1-i)):=by unfold Hid;show _=min _ _;rw[Nat.min_def];split<;>omega
 have O:=jb D;have b0:=jb k;have a6:=jb E;have a4:=jb r;clear D k E r J W
 go_wp2_with (refine my rfl (.tmp 80) (.tmp 81) 38 38 rfl 88 3 underlying38 x.out g (i*3) (n+1-i) (cap-i) ⟨q,0,none⟩ 1 1 rfl rfl f 88 a6.out (jg [c]) 1 a5.out rfl a4.out a7.out (Xf [c]) ?_;intro w2 a2)
 go_ret;obtain⟨a1,k2⟩:=a2;refine⟨rfl,⟨_,a1,?_,?_⟩,((ja.drew w _).tt k1).tt k2⟩
 ·rw[xP,show(jg [c]).length=3 from rfl,O.out]
  have Z:=congrArg List.length HL.out;rw[XM,m.out,ZY,ZY] at Z;have V:=R.out;have h3:=z.out;rw[ZY,ZY,ZY,ZU,show(jg [c]).length=3 from rfl];omega
 ·rw[show(jg [c]).length=3 from rfl]
  show List.take _ (List.take (i*3) f.toList++jg [c]++List.drop (i*3+3) f.toList)=_;rw[O.out,show a++c::y::b=a++([c]++(y::b))from rfl,zr,zr,<-a8.out]
  have e3:(n+1)*3=(jg a++(jg [c]++B)).length:=by
   rw[ZY,ZY,z.out,S.out,show(jg [c]).length=3 from rfl];omega
  rw[e3,show jg a++(jg [c]++(B++List.drop 3 (List.drop (n*3) d.toList)))=(jg a++(jg [c]++B))++List.drop 3 (List.drop (n*3) d.toList) by simp only[ZK]];exact xQ
theorem O1(g cap:Nat)(a:List Rf.Ch)(y:Rf.Ch)(b:List Rf.Ch)(c:Rf.Ch)(q n:Nat)(x:Array Value)(w:World)(hn:n=a.length+(b.length+1))(A:cap=n)(a6:n<1048576)(L:w.heap[g]?=some (.cells x 88 (0,0)))(o:x.toList.take (n*3)=jg (a++y::b))(hx:One w q c) :
 Calls prog 155 #[.slice (some ⟨g,0,none⟩) n cap,.int .i64 a.length,.slice (some ⟨q,0,none⟩) 1 1] w fun e w' =>
  ∃ cap',e = .returned (.slice (some ⟨w.heap.size,0,none⟩) (n+1) cap')/\n+1<=cap'/\cap'<=maxLen/\(∃ cur',w'.heap[w.heap.size]?=some (.cells cur' 88 (0,0))/\cur'.size=cap'*3/\cur'.toList.take ((n+1)*3)=jg (a++c::y::b))/\ja w w' (fun _=>False):=by
 obtain⟨i,hi⟩:∃ i,i=a.length:=⟨_,rfl⟩;rw[<-hi] at hn ⊢;have Y:=zC L;have ag:=zC hx;have s:(prog.info? 88).map (·.size)=some 3:=by kernel_rfl
 have s:=jb s;obtain⟨B,M⟩:∃ B,B=jg (y::b):=⟨_,rfl⟩;have a2:B.length=(n-i)*3:=by rw[M,qq,zX];congr 1;omega
 have a3:∀ u∈B,u.oneCell'=true:=by rw[M];exact Xf _
 have v:(jg a).length=i*3:=by rw[qq,hi]
 have hL:x.toList=jg a++(B++x.toList.drop (n*3)):=by
  rw[<-ZK,M,<-zr,<-o,ZR]
 have D:∀ j u,(jg a)[j]?=some u->w.cell? ((⟨g,0,none⟩:Addr).add j)=some u:=by
  intro j u E;rw[add_zero,zA L,<-Array.getElem?_toList,hL,zQ (XA.1 E).1];exact E
 have C:∀ j u,B[j]?=some u->w.cell? (⟨g,i*3+j,none⟩:Addr)=some u:=by
  intro j u E;rw[zA L,<-Array.getElem?_toList,hL,zR (by omega),v,yF,zQ (XA.1 E).1];exact E
 obtain⟨j0,J,R,O,N⟩:=info_parts Tryz.Jz;obtain⟨k,hk⟩:∃ k,i+k=n+1:=⟨n+1-i,by omega⟩;obtain⟨cap',w1,l,a5⟩:=nj (P:=prog) w 38 3 38 88 j0 Jy 3 40 underlying38 underlying3 J R O N rfl (by omega) (by omega) (by omega) g i cap (jg a) v D k (by omega) (by omega) (by omega);rw[hk] at l;obtain⟨ak,t,⟨m,G,F,T⟩,k1⟩:=a5;obtain⟨W,hW⟩:∃ W,W=w.heap.size:=⟨_,rfl⟩;rw[<-hW] at G l Y ag ⊢;have S:w1.heap[q]?=some (.cells (jg [c]).toArray 88 (0,0)):=k1.same hx (fun h=>h);have r:∀ j u,(jg [c])[j]?=some u->w1.cell? ((⟨q,0,none⟩:Addr).add j)=some u:=Jt S rfl;have X:(n:Int)+1-(i:Int)=(k:Int):=by omega
 have be:IntKind.i64.wrap ((n:Int)+1-(i:Int))=(k:Int):=by rw[X];exact zE (by omega) (by omega)
 have bo:=jb A;have bg:IntKind.i64.wrap ((i:Int)+1)=(i:Int)+1:=zE (by omega) (by omega);have bf:IntKind.i64.wrap ((n:Int)+1)=(n:Int)+1:=zE (by omega) (by omega);have bd:¬((i:Int)=(n:Int)):=by omega
 have bn:(0:Int)<=(i:Int)+1:=by omega
 have bi:i<=n:=by omega
 have b8:(i:Int)<=(cap:Int):=by omega
 have bh:((i:Int)+1).toNat=i+1:=by omega
 have b7:((n:Int)+1).toNat=n+1:=by omega
 have b1:(cap:Int)<(n:Int)+1:=by omega
 have bm:¬(cap'=i+1):=by omega
 have bk:¬(cap'=i):=by omega
 have bj:¬(cap=i):=by omega
 have bl:(i:Int)<=(n:Int)+1:=by omega
 have ah:n+1<=cap':=by omega
 have V:1=Nat.min 1 (n+1-i):=by show _=min _ _;rw[Nat.min_def];split<;>omega
 have U:n-i=Nat.min (n-i) (n-i):=by show _=min _ _;rw[Nat.min_def];split<;>omega
 have a1:i*3+(jg [c]).length<=m.size:=by rw[F,qq];simp only[zX,xU];omega
 have ax:=jb t;have ap:=jb V;have ao:=jb U;have av:=jb a1;have an:=jb r;have au:=jb G;have a8:=jb l;have b0:=jb C;have H:=jb a2;have az:=jb a3;have I:=jb v;have al:=jb T;have a7:=jb F;have HN:=jb hn;have HI:=jb hi;have ay:=jb M;have HK:=jb hk;have HG:=jb L;have HW:=jb hW;clear ak t V U a1 r G l D C a2 a3 v T F hn hi M hk L hx S hL o A a6 X hW J R O N;go_enter func155,ntmps155
 go_wp2_with (first
  | (at_builtin;go_must (refine Lib.wpList_append_run _ rfl (.tmp 34) (.tmp 39) 38 3 rfl _ _ rfl rfl _ _ a8.out ?_))
  | (refine my rfl (.tmp 43) (.tmp 44) 38 38 rfl 88 3 underlying38 s.out W (i*3) (n+1-i) (cap' - i) ⟨q,0,none⟩ 1 1 rfl rfl m 88 au.out (jg [c]) 1 ap.out rfl an.out av.out (Xf [c]) ?_;intro w2 t))
 obtain⟨Z,k2⟩:=t;obtain⟨d,e2⟩:∃ d:Array Value,d.toList=jg a++jg [c]++m.toList.drop (i*3+3):=⟨(jg a++jg [c]++m.toList.drop (i*3+3)).toArray,rfl⟩
 have z:w2.heap[W]?=some (.cells d 88 (0,0)):=by
  rw[Z,al.out,show(jg [c]).length=3 from rfl,<-e2]
 have f:d.size=cap'*3:=by
  have h3:=congrArg List.length e2;rw[ZY,ZY,ZU,I.out,show(jg [c]).length=3 from rfl] at h3;simp only[XM,a7.out] at h3;omega
 have p:∀ j u,B[j]?=some u->w2.drew.cell? ((⟨g,i*3,none⟩:Addr).add j)=some u:=by
  intro j u E;rw[Ju];exact k2.cell (k1.cell (b0.out j u E) (fun h=>h)) (Nat.ne_of_lt Y)
 have a0:(i+1)*3+B.length<=d.size:=by rw[f,H.out];omega
 have ar:=jb z;have aq:=jb f;have am:=jb p;have a4:=jb a0;have aw:=jb e2;clear Z z f p a0 e2
 go_region_law (refine u6 rfl (.tmp 50) (.tmp 53) 38 38 rfl 88 3 underlying38 s.out W ((i+1)*3) (n-i) (cap' - (i+1)) ⟨g,i*3,none⟩ (n-i) (cap-i) (by simp[Act.eval,Act.put]) (by simp[Act.eval,Act.put]) d 88 ar.out B (n-i) ao.out H.out am.out a4.out az.out ?_;intro w3 aj)
 go_wp2;go_ret;obtain⟨ai,k3⟩:=aj
 have ht:d.toList.take ((i+1)*3)=jg a++jg [c]:=by
  rw[aw.out];have:(i+1)*3=(jg a++jg [c]).length:=by rw[ZY,I.out,show(jg [c]).length=3 from rfl];omega
  rw[this];exact xQ
 refine⟨cap',rfl,ah,ax.out,⟨_,ai,?_,?_⟩,(((k1.trans k2 (fun j J e=>absurd (HW.out▸J) (by rw[e];exact yD _))).draw).trans k3 (fun j J e=>absurd (HW.out▸J) (by rw[e];exact yD _)))⟩
 ·have h1:=a4.out
  have h2:=aq.out;rw[xP,ZY,ZY,ZU,ZT,XM];omega
 ·show List.take _ (List.take ((i+1)*3) d.toList++B++_)=_
  rw[ht,show a++c::y::b=a++([c]++(y::b))from rfl,zr,zr,<-ay.out]
  have e3:(n+1)*3=(jg a++(jg [c]++B)).length:=by
   rw[ZY,ZY,I.out,H.out,show(jg [c]).length=3 from rfl];omega
  rw[e3,ZK (jg a)];exact xQ
theorem Sl(v:Value)(a b:List Rf.Ch)(c:Rf.Ch)(base q:Nat)(w:World)(A:(a++b).length<1048576)(j:base<=w.heap.size)(d:w.ownsRow base 88 3 v (a++b).length (jg (a++b)))(z:One w q c)(C:v.ownBlock≠some q) :
 Calls prog 155 #[v,.int .i64 a.length,.slice (some ⟨q,0,none⟩) 1 1] w fun e w' =>
  ∃ v',e = .returned v'/\w'.ownsRow base 88 3 v' (a++c::b).length (jg (a++c::b))/\Grown w v w' v':=by
 cases b with
 | nil =>
  rw[ZC] at A d;refine(Sj v a c base q w A j d z).mono ?_;rintro e w' ⟨v',rfl,B,x⟩;exact⟨v',rfl,by rw[ZY];exact B,x⟩
 | cons y b =>
  rcases d.2 with⟨rfl,J⟩|⟨g,cap,t,rfl,G,r,B,x,I,H⟩
  ·simp at J
  ·have n:(a++y::b).length=a.length+(b.length+1):=by simp
   have p:(a++c::y::b).length=(a++y::b).length+1:=by simp only[ZY,zX];omega
   have s:(jg (a++c::y::b)).length=((a++y::b).length+1)*3:=by rw[qq,p]
   rw[p];rcases ZJ (a++y::b).length cap with o|D
   ·refine(O0 g cap a y b c q _ t w n o x r I H z (fun e=>C (by rw[e];rfl))).mono ?_
    rintro e w' ⟨rfl,⟨f,m,l,k⟩,k'⟩;exact⟨_,rfl,⟨s,.inr ⟨g,cap,f,rfl,G,m,o,x,l,k⟩⟩,.inl rfl,k'.mono (fun i _ e=>by rw[e];rfl)⟩
   ·refine(O1 g cap a y b c q _ t w n (Nat.le_antisymm D B) A r H z).mono ?_
    rintro e w' ⟨u,rfl,F,E,⟨f,m,l,k⟩,k'⟩;exact⟨_,rfl,⟨s,.inr ⟨w.heap.size,u,f,rfl,j,m,F,E,l,k⟩⟩,.inr ⟨_,rfl,xA _⟩,k'.up⟩
end Go.Proofs.YtnipbplghijdmaaGreatDoor
