/-
  D: Insert.
-/
import Derived.Lib.Overlaps
import Derived.Lib.AppendZeros
import Derived.Test.YtnipbplghijdmaaGreatDoorD14
import Derived.Test.YtnipbplghijdmaaGreatDoorD18
set_option maxRecDepth 100000
set_option maxHeartbeats 8000000
set_option linter.unusedVariables false
set_option linter.unusedSimpArgs false
namespace Go.Proofs.YtnipbplghijdmaaGreatDoor
open RowKit Maps WideShapes Go.Proofs.Tryz
theorem Tryz.jgr(w:World):(sizeOf 88).run prog w = .ok 3 w:=by kernel_rfl
theorem Chs.src{w:World}{v:Value}{l:List Rf.Ch}(h:Chs w v l):Src prog 3 38 v l.length (jj l) w:=by
 obtain⟨p,c,rfl,i,g,f,d⟩:=h
 cases p with
 | none =>
  have:c=0:=f rfl;have b:l=[]:=zT (by omega);subst b;exact Src.ofNil w underlying38 c
 | some ad=>exact Src.ofSlice w underlying38 ad l.length c _ (yp l) (fun j u hu=>(d ad rfl).2 j u hu) (na l)
theorem J1(a b:List Rf.Ch):jj (a++b)=jj a++jj b:=by simp[jj]
def One(w:World)(q:Nat)(c:Rf.Ch):Prop:=w.heap[q]?=some (.cells (jj [c]).toArray 88 (0,0))
theorem Vk(v:Value)(l:List Rf.Ch)(c:Rf.Ch)(base q:Nat)(w:World)(A:l.length<1048576)(f:base<=w.heap.size)(b:w.ownsRow base 88 3 v l.length (jj l))(z:One w q c) :
 Calls prog 155 #[v,.int .i64 l.length,.slice (some ⟨q,0,none⟩) 1 1] w fun e w' =>
  ∃ v',e = .returned v'/\w'.ownsRow base 88 3 v' (l.length+1) (jj (l++[c]))/\Grown w v w' v':=by
 have i:Src prog 3 38 (.slice (some ⟨q,0,none⟩) 1 1) 1 (jj [c]) w:=by
  refine Src.ofSlice w underlying38 ⟨q,0,none⟩ 1 1 _ rfl (fun j u hu=>?_) (na _);exact J8 z rfl j u hu
 obtain⟨p,G,rfl⟩:=jl b;have x:Hid (l.length+1<=maxLen):=by unfold Hid maxLen;omega
 have t:Hid ((l.length+1)*40<=140737488355328):=by unfold Hid;omega
 clear A;obtain⟨y,B,n,m,k⟩:=info_parts Tryz.dq;rcases p with _|⟨g,o,E⟩
 all_goals
  go_enter func155,ntmps155
  go_wp2_with (at_builtin;go_must (refine Xq _ rfl (.tmp 23) (.tmp 24) 38 38 rfl base 88 y su 3 40 underlying38 B n m k rfl (ZM 2) _ l.length (jj l) rfl b _ 1 (jj [c]) rfl i x.out t.out f ?_);intro F C D d s r)
  all_goals
   go_ret;exact⟨_,rfl,by rw[J1];exact d,Grown.grown s r⟩
theorem Py{α:Type}(A B R C:List α)(k:Nat)(o:C.length=k)(n:k<=R.length)(L b:List α)(c:L=A++(B++R))(d:b=L.take (A.length+k)++B++L.drop (A.length+k+B.length)) :
 b.take A.length++C++b.drop (A.length+k)=A++(C++(B++R.drop k)):=by
 have m:L.take (A.length+k)=A++(B++R).take k:=by rw[c,List.take_append,xF (by omega),Nat.add_sub_cancel_left]
 have l:L.drop (A.length+k+B.length)=R.drop k:=by
  rw[c,List.drop_append,yD (by omega),xL,List.drop_append,yD (by omega),xL];congr 1;omega
 have j:((B++R).take k).length=k:=by rw[zK,zW];omega
 rw[m,l] at d;have f:b=A++((B++R).take k++(B++R.drop k)):=by rw[d];simp
 have i:b.take A.length=A:=by rw[f,XK]
 have g:b.drop (A.length+k)=B++R.drop k:=by
  rw[f,List.drop_append,yD (by omega),xL,Nat.add_sub_cancel_left,List.drop_append,yD (by omega),xL,j,Nat.sub_self,List.drop_zero]
 rw[i,g];simp
theorem Sn(g cap:Nat)(a:List Rf.Ch)(y:Rf.Ch)(b:List Rf.Ch)(c:Rf.Ch)(q n:Nat)(d:Array Value)(w:World)(Y:n=a.length+(b.length+1))(aj:n+1<=cap)(C:cap<=maxLen)(V:w.heap[g]?=some (.cells d 88 (0,0)))(l:d.size=cap*3)(p:d.toList.take (n*3)=jj (a++y::b))(H:One w q c)(L:q≠g) :
 Calls prog 155 #[.slice (some ⟨g,0,none⟩) n cap,.int .i64 a.length,.slice (some ⟨q,0,none⟩) 1 1] w fun e w' =>
  e = .returned (.slice (some ⟨g,0,none⟩) (n+1) cap)/\(∃ cur',w'.heap[g]?=some (.cells cur' 88 (0,0))/\cur'.size=cap*3/\cur'.toList.take ((n+1)*3)=jj (a++c::y::b))/\ja w w' (fun i=>i=g):=by
 obtain⟨i,U⟩:∃ i,i=a.length:=⟨_,rfl⟩;rw[<-U] at Y ⊢;have A:maxLen=9223372036854775807:=by unfold maxLen;rfl
 rw[A] at C;have aq:¬((i:Int)=(n:Int)):=by omega
 have a1:∀ lb cb,(callFunc 191 #[.slice (some ⟨q,0,none⟩) 1 1,.slice (some ⟨g,(i+1)*3,none⟩) lb cb]).run prog w = .ok (.value (.bool false)) w:=fun lb cb=>by
  rw[run_callFunc_extern func191 (by kernel_rfl) (by kernel_rfl) (by kernel_rfl) (e:=Extern.SlicesOverlaps.overlaps #[38,38] #[4]) (by kernel_rfl),
   Lib.run_overlaps_apart w 38 4 88 underlying38 3 Tryz.jgr ⟨q,0,none⟩ ⟨g,(i+1)*3,none⟩ 1 1 lb cb L 88 88 3 d.size (by unfold World.shape?;rw[H];rfl) (by unfold World.shape?;rw[V]) (by omega) (zB H) (zB H)]
  rfl
 have x:(prog.info? 88).map (·.size)=some 3:=by kernel_rfl
 have x:=jb x;obtain⟨B,I⟩:∃ B,B=jj (y::b):=⟨_,rfl⟩;have F:B.length=(n-i)*3:=by rw[I,yp,zH];congr 1;omega
 have N:∀ u∈B,u.oneCell'=true:=by rw[I];exact na _
 have G:(jj a).length=i*3:=by rw[yp,U]
 have Z:d.toList=jj a++(B++d.toList.drop (n*3)):=by
  rw[<-XL,I,<-J1,<-p,xQ]
 have M:3<=(d.toList.drop (n*3)).length:=by rw[XQ,yC,l];omega
 have s:∀ j u,B[j]?=some u->w.drew.cell? ((⟨g,i*3,none⟩:Addr).add j)=some u:=by
  intro j u hu;rw[Yv];have W:=zA (o:=i*3+j) V;refine Eq.trans (b:=w.cell? ⟨g,i*3+j,none⟩) rfl ?_;rw[W,<-Array.getElem?_toList,Z,ZW (by omega),G,Nat.add_sub_cancel_left,XS (zO.1 hu).1];exact hu
 have t:n-i=Nat.min (n+1-i) (n-i):=by show _=min _ _;rw[Nat.min_def];split<;>omega
 have v:(i+1)*3+B.length<=d.size:=by rw[F,l];omega
 have HF:=jb v;have HM:=jb t;have S:=jb F;have T:=jb s;have HL:=jb Z;have R:=jb M;have z:=jb G;have aa:=jb N;have m:=jb l;have HG:=jb V;have HX:=jb H;clear v t F s Z M G N l V H p;have au:IntKind.i64.wrap ((i:Int)+1)=(i:Int)+1:=zE (by omega) (by omega);have b0:(0:Int)<=(i:Int)+1:=by omega
 have aw:i<=n:=by omega
 have av:((i:Int)+1).toNat=i+1:=by omega
 have az:¬(cap=i+1):=by omega
 have ay:(i:Int)<=(n:Int)+1:=by omega
 have ax:¬(cap=i):=by omega
 have ab:¬((cap:Int)<(n:Int)+1):=by omega
 have ar:IntKind.i64.wrap ((n:Int)+1)=(n:Int)+1:=zE (by omega) (by omega);have ah:((n:Int)+1).toNat=n+1:=by omega
 have ai:(i:Int)<(n:Int):=by omega
 have HN:=jb Y;have HI:=jb U;have a9:=jb I;clear Y U I A C;go_enter func155,ntmps155
 go_wp2_with (simp only[a1])
 go_region_law (refine Ae rfl (.tmp 73) (.tmp 76) 38 38 rfl 88 3 underlying38 x.out g ((i+1)*3) (n-i) (cap-(i+1)) ⟨g,i*3,none⟩ (n+1-i) (cap-i) (by simp[Act.eval,Act.put]) (by simp[Act.eval,Act.put]) d 88 HG.out B (n-i) HM.out S.out T.out HF.out aa.out ?_;intro w1 a4)
 obtain⟨E,k1⟩:=a4;obtain⟨f,X⟩:∃ f:Array Value,f.toList=d.toList.take ((i+1)*3)++B++d.toList.drop ((i+1)*3+B.length):=⟨(d.toList.take ((i+1)*3)++B++d.toList.drop ((i+1)*3+B.length)).toArray,rfl⟩;rw[<-X] at E;have D:=Py (jj a) B (d.toList.drop (n*3)) (jj [c]) 3 (yp [c]) R.out d.toList f.toList HL.out (by rw[z.out,show i*3+3=(i+1)*3 by omega];exact X);rw[z.out] at D
 have k:f.size=cap*3:=by
  have h1:d.toList.length=cap*3:=by rw[yC];exact m.out
  have W:=HF.out;rw[m.out] at W;have h3:=congrArg List.length X;simp only[zW,zK,XQ,h1,yC] at h3;omega
 have J:w1.heap[q]?=some (.cells (jj [c]).toArray 88 (0,0)):=k1.same (w:=w.drew) HX.out L;have r:=J8 J rfl;have a8:Hid (i*3+(jj [c]).length<=f.size):=by unfold Hid;rw[k,yp];simp only[zH,zX];omega
 have a6:Hid (1=Nat.min 1 (n+1-i)):=by unfold Hid;show _=min _ _;rw[Nat.min_def];split<;>omega
 have O:=jb D;have b1:=jb k;have a7:=jb E;have a5:=jb r;clear D k E r J X
 go_wp2_with (refine ot rfl (.tmp 80) (.tmp 81) 38 38 rfl 88 3 underlying38 x.out g (i*3) (n+1-i) (cap-i) ⟨q,0,none⟩ 1 1 rfl rfl f 88 a7.out (jj [c]) 1 a6.out rfl a5.out a8.out (na [c]) ?_;intro w2 a3)
 go_ret;obtain⟨a2,k2⟩:=a3;refine⟨rfl,⟨_,a2,?_,?_⟩,((ja.drew w _).tt k1).tt k2⟩
 ·rw[xY,show(jj [c]).length=3 from rfl,O.out]
  have h1:=congrArg List.length HL.out;rw[yC,m.out,zW,zW] at h1;have W:=R.out;have h3:=z.out;rw[zW,zW,zW,XQ,show(jj [c]).length=3 from rfl];omega
 ·rw[show(jj [c]).length=3 from rfl]
  show List.take _ (List.take (i*3) f.toList++jj [c]++List.drop (i*3+3) f.toList)=_;rw[O.out,show a++c::y::b=a++([c]++(y::b))from rfl,J1,J1,<-a9.out]
  have e3:(n+1)*3=(jj a++(jj [c]++B)).length:=by
   rw[zW,zW,z.out,S.out,show(jj [c]).length=3 from rfl];omega
  rw[e3,show jj a++(jj [c]++(B++List.drop 3 (List.drop (n*3) d.toList)))=(jj a++(jj [c]++B))++List.drop 3 (List.drop (n*3) d.toList) by simp only[XL]];exact XK
theorem Sp(g cap:Nat)(a:List Rf.Ch)(y:Rf.Ch)(b:List Rf.Ch)(c:Rf.Ch)(q n:Nat)(x:Array Value)(w:World)(hn:n=a.length+(b.length+1))(A:cap=n)(a6:n<1048576)(L:w.heap[g]?=some (.cells x 88 (0,0)))(o:x.toList.take (n*3)=jj (a++y::b))(hx:One w q c) :
 Calls prog 155 #[.slice (some ⟨g,0,none⟩) n cap,.int .i64 a.length,.slice (some ⟨q,0,none⟩) 1 1] w fun e w' =>
  ∃ cap',e = .returned (.slice (some ⟨w.heap.size,0,none⟩) (n+1) cap')/\n+1<=cap'/\cap'<=maxLen/\(∃ cur',w'.heap[w.heap.size]?=some (.cells cur' 88 (0,0))/\cur'.size=cap'*3/\cur'.toList.take ((n+1)*3)=jj (a++c::y::b))/\ja w w' (fun _=>False):=by
 obtain⟨i,hi⟩:∃ i,i=a.length:=⟨_,rfl⟩;rw[<-hi] at hn ⊢;have Y:=zC L;have ah:=zC hx;have s:(prog.info? 88).map (·.size)=some 3:=by kernel_rfl
 have s:=jb s;obtain⟨B,M⟩:∃ B,B=jj (y::b):=⟨_,rfl⟩;have a2:B.length=(n-i)*3:=by rw[M,yp,zH];congr 1;omega
 have a3:∀ u∈B,u.oneCell'=true:=by rw[M];exact na _
 have v:(jj a).length=i*3:=by rw[yp,hi]
 have hL:x.toList=jj a++(B++x.toList.drop (n*3)):=by
  rw[<-XL,M,<-J1,<-o,xQ]
 have D:∀ j u,(jj a)[j]?=some u->w.cell? ((⟨g,0,none⟩:Addr).add j)=some u:=by
  intro j u E;rw[add_zero,zA L,<-Array.getElem?_toList,hL,XS (zO.1 E).1];exact E
 have C:∀ j u,B[j]?=some u->w.cell? (⟨g,i*3+j,none⟩:Addr)=some u:=by
  intro j u E;rw[zA L,<-Array.getElem?_toList,hL,ZW (by omega),v,Nat.add_sub_cancel_left,XS (zO.1 E).1];exact E
 obtain⟨j0,J,R,O,N⟩:=info_parts Tryz.dq;obtain⟨k,hk⟩:∃ k,i+k=n+1:=⟨n+1-i,by omega⟩;obtain⟨cap',w1,l,a5⟩:=po (P:=prog) w 38 3 38 88 j0 su 3 40 underlying38 underlying3 J R O N rfl (by omega) (by omega) (by omega) g i cap (jj a) v D k (by omega) (by omega) (by omega);rw[hk] at l;obtain⟨al,t,⟨m,G,F,T⟩,k1⟩:=a5;obtain⟨W,hW⟩:∃ W,W=w.heap.size:=⟨_,rfl⟩;rw[<-hW] at G l Y ah ⊢;have S:w1.heap[q]?=some (.cells (jj [c]).toArray 88 (0,0)):=k1.same hx (fun h=>h);have r:∀ j u,(jj [c])[j]?=some u->w1.cell? ((⟨q,0,none⟩:Addr).add j)=some u:=J8 S rfl;have X:(n:Int)+1-(i:Int)=(k:Int):=by omega
 have bf:IntKind.i64.wrap ((n:Int)+1-(i:Int))=(k:Int):=by rw[X];exact zE (by omega) (by omega)
 have bp:=jb A;have bh:IntKind.i64.wrap ((i:Int)+1)=(i:Int)+1:=zE (by omega) (by omega);have bg:IntKind.i64.wrap ((n:Int)+1)=(n:Int)+1:=zE (by omega) (by omega);have be:¬((i:Int)=(n:Int)):=by omega
 have bo:(0:Int)<=(i:Int)+1:=by omega
 have bj:i<=n:=by omega
 have b9:(i:Int)<=(cap:Int):=by omega
 have bi:((i:Int)+1).toNat=i+1:=by omega
 have b8:((n:Int)+1).toNat=n+1:=by omega
 have b2:(cap:Int)<(n:Int)+1:=by omega
 have bn:¬(cap'=i+1):=by omega
 have bl:¬(cap'=i):=by omega
 have bk:¬(cap=i):=by omega
 have bm:(i:Int)<=(n:Int)+1:=by omega
 have ai:n+1<=cap':=by omega
 have V:1=Nat.min 1 (n+1-i):=by show _=min _ _;rw[Nat.min_def];split<;>omega
 have U:n-i=Nat.min (n-i) (n-i):=by show _=min _ _;rw[Nat.min_def];split<;>omega
 have a1:i*3+(jj [c]).length<=m.size:=by rw[F,yp];simp only[zH,zX];omega
 have ay:=jb t;have aq:=jb V;have ap:=jb U;have aw:=jb a1;have ao:=jb r;have av:=jb G;have a8:=jb l;have b1:=jb C;have H:=jb a2;have b0:=jb a3;have I:=jb v;have am:=jb T;have a7:=jb F;have HN:=jb hn;have HI:=jb hi;have az:=jb M;have HK:=jb hk;have HG:=jb L;have HW:=jb hW;clear al t V U a1 r G l D C a2 a3 v T F hn hi M hk L hx S hL o A a6 X hW J R O N;go_enter func155,ntmps155
 go_wp2_with (first
  | (at_builtin;go_must (refine Lib.wpList_append_run _ rfl (.tmp 34) (.tmp 39) 38 3 rfl _ _ rfl rfl _ _ a8.out ?_))
  | (refine ot rfl (.tmp 43) (.tmp 44) 38 38 rfl 88 3 underlying38 s.out W (i*3) (n+1-i) (cap' - i) ⟨q,0,none⟩ 1 1 rfl rfl m 88 av.out (jj [c]) 1 aq.out rfl ao.out aw.out (na [c]) ?_;intro w2 t))
 obtain⟨Z,k2⟩:=t;obtain⟨d,e2⟩:∃ d:Array Value,d.toList=jj a++jj [c]++m.toList.drop (i*3+3):=⟨(jj a++jj [c]++m.toList.drop (i*3+3)).toArray,rfl⟩
 have z:w2.heap[W]?=some (.cells d 88 (0,0)):=by
  rw[Z,am.out,show(jj [c]).length=3 from rfl,<-e2]
 have f:d.size=cap'*3:=by
  have h3:=congrArg List.length e2;rw[zW,zW,XQ,I.out,show(jj [c]).length=3 from rfl] at h3;simp only[yC,a7.out] at h3;omega
 have p:∀ j u,B[j]?=some u->w2.drew.cell? ((⟨g,i*3,none⟩:Addr).add j)=some u:=by
  intro j u E;rw[Yv];exact k2.cell (k1.cell (b1.out j u E) (fun h=>h)) (Nat.ne_of_lt Y)
 have a0:(i+1)*3+B.length<=d.size:=by rw[f,H.out];omega
 have au:=jb z;have ar:=jb f;have an:=jb p;have a4:=jb a0;have ax:=jb e2;clear Z z f p a0 e2
 go_region_law (refine Ae rfl (.tmp 50) (.tmp 53) 38 38 rfl 88 3 underlying38 s.out W ((i+1)*3) (n-i) (cap' - (i+1)) ⟨g,i*3,none⟩ (n-i) (cap-i) (by simp[Act.eval,Act.put]) (by simp[Act.eval,Act.put]) d 88 au.out B (n-i) ap.out H.out an.out a4.out b0.out ?_;intro w3 ak)
 go_wp2;go_ret;obtain⟨aj,k3⟩:=ak
 have ht:d.toList.take ((i+1)*3)=jj a++jj [c]:=by
  rw[ax.out];have:(i+1)*3=(jj a++jj [c]).length:=by rw[zW,I.out,show(jj [c]).length=3 from rfl];omega
  rw[this];exact XK
 refine⟨cap',rfl,ai,ay.out,⟨_,aj,?_,?_⟩,(((k1.trans k2 (fun j J e=>absurd (HW.out▸J) (by rw[e];exact XZ _))).draw).trans k3 (fun j J e=>absurd (HW.out▸J) (by rw[e];exact XZ _)))⟩
 ·have h1:=a4.out
  have h2:=ar.out;rw[xY,zW,zW,XQ,zK,yC];omega
 ·show List.take _ (List.take ((i+1)*3) d.toList++B++_)=_
  rw[ht,show a++c::y::b=a++([c]++(y::b))from rfl,J1,J1,<-az.out]
  have e3:(n+1)*3=(jj a++(jj [c]++B)).length:=by
   rw[zW,zW,I.out,H.out,show(jj [c]).length=3 from rfl];omega
  rw[e3,XL (jj a)];exact XK
theorem Vl(v:Value)(a b:List Rf.Ch)(c:Rf.Ch)(base q:Nat)(w:World)(A:(a++b).length<1048576)(j:base<=w.heap.size)(d:w.ownsRow base 88 3 v (a++b).length (jj (a++b)))(z:One w q c)(C:v.ownBlock≠some q) :
 Calls prog 155 #[v,.int .i64 a.length,.slice (some ⟨q,0,none⟩) 1 1] w fun e w' =>
  ∃ v',e = .returned v'/\w'.ownsRow base 88 3 v' (a++c::b).length (jj (a++c::b))/\Grown w v w' v':=by
 cases b with
 | nil =>
  rw[ZC] at A d;refine(Vk v a c base q w A j d z).mono ?_;rintro e w' ⟨v',rfl,B,x⟩;exact⟨v',rfl,by rw[zW];exact B,x⟩
 | cons y b =>
  rcases d.2 with⟨rfl,J⟩|⟨g,cap,t,rfl,G,r,B,x,I,H⟩
  ·simp at J
  ·have n:(a++y::b).length=a.length+(b.length+1):=by simp
   have p:(a++c::y::b).length=(a++y::b).length+1:=by simp only[zW,zH];omega
   have s:(jj (a++c::y::b)).length=((a++y::b).length+1)*3:=by rw[yp,p]
   rw[p];rcases zV (a++y::b).length cap with o|D
   ·refine(Sn g cap a y b c q _ t w n o x r I H z (fun e=>C (by rw[e];rfl))).mono ?_
    rintro e w' ⟨rfl,⟨f,m,l,k⟩,k'⟩;exact⟨_,rfl,⟨s,.inr ⟨g,cap,f,rfl,G,m,o,x,l,k⟩⟩,.inl rfl,k'.mono (fun i _ e=>by rw[e];rfl)⟩
   ·refine(Sp g cap a y b c q _ t w n (Nat.le_antisymm D B) A r H z).mono ?_
    rintro e w' ⟨u,rfl,F,E,⟨f,m,l,k⟩,k'⟩;exact⟨_,rfl,⟨s,.inr ⟨w.heap.size,u,f,rfl,j,m,F,E,l,k⟩⟩,.inr ⟨_,rfl,zJ _⟩,k'.up⟩
end Go.Proofs.YtnipbplghijdmaaGreatDoor
