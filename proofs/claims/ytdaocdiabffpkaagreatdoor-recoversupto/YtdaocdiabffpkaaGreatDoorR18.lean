/-
-/
import Derived.Lib.Overlaps
import Derived.Lib.AppendZeros
import Derived.Test.YtdaocdiabffpkaaGreatDoorR13
import Derived.Test.YtdaocdiabffpkaaGreatDoorR17
set_option maxRecDepth 100000
set_option maxHeartbeats 8000000
set_option linter.all false
namespace Go.Proofs.YtdaocdiabffpkaaGreatDoor
open RowKit Maps WideShapes Go.Proofs.Tryz
theorem Tryz.jne(w:World):(sizeOf 47).run prog w=.ok 3 w:=by kernel_rfl
theorem Chs.src{w:World}{v:Value}{l:L1}(h:Chs w v l):Src prog 3 68 v l.length (jh l) w:=by obtain⟨p,c,rfl,i,g,f,d⟩:=h;cases p with|none=>have:c=0:=f rfl;have b:l=[]:=xY zC;subst b;exact Src.ofNil w underlying68 c|some ad=>exact Src.ofSlice w underlying68 ad l.length c _ (xl l) (λj u b=>(d ad rfl).2 j u b)<|Yz l
theorem Jp(a b:L1):jh (a++b)=jh a++jh b:=by simp[jh]
def One(w:World)(q:Nat)(c:Rf.Ch):Prop:=w.heap[q]?=some (.cells (jh [c]).toArray 47 (0,0))
theorem jds(v:Value)(l:L1)(c:Rf.Ch)(base q:Nat)(w:World)(A:l.length<1048576)(f:base<=w.heap.size)(b:w.ownsRow base 47 3 v l.length (jh l))(z:One w q c):Calls prog 123 #[v,aA l.length,.slice (some (A2 q)) 1 1] w λe w' =>
  ∃ v',e=.returned v'/\w'.ownsRow base 47 3 v' (l.length+1) (jh (l++[c]))/\Grown w v w' v':=by
 have i:Src prog 3 68 (.slice (some (A2 q)) 1 1) 1 (jh [c]) w:=by refine Src.ofSlice w underlying68 (A2 q) 1 1 _ rfl (λj u d=>?_)<|Yz _;exact Qg z rfl j u d
 obtain⟨p,G,rfl⟩:=jl b;have x:Hid (l.length+1<=maxLen):=by unfold Hid maxLen;omega
 have t:Hid ((l.length+1)*40<=140737488355328):=by unfold Hid;omega
 clear A;obtain⟨y,B,n,m,k⟩:=info_parts Tryz.Q5;obtain _|⟨g,o,E⟩:=p;all_goals go_enter func123,ntmps123;go_wp2_with (at_builtin;go_must (refine zz _ rfl (.tmp 23) (.tmp 24) 68 68 rfl base 47 y Qy 3 40 underlying68 B n m k rfl (zX 2) _ l.length (jh l) rfl b _ 1 (jh [c]) rfl i x t f ?_);intro F C D d s r);all_goals go_ret;exact⟨_,rfl,by rw[Jp];exact d,Grown.grown s r⟩
theorem Vy{α:Type}(A B R C:List α)(k:Nat)(f:C.length=k)(d:k<=R.length)(L b:List α)(c:L=A++(B++R))(g:b=L.take (A.length+k)++B++L.drop (A.length+k+B.length)):b.take A.length++C++b.drop (A.length+k)=A++(C++(B++R.drop k)):=by
 have l:L.take (A.length+k)=A++(B++R).take k:=by rw[c,List.take_append,ZC zC,Nat.add_sub_cancel_left]
 have j:L.drop (A.length+k+B.length)=R.drop k:=by rw[c,List.drop_append,XM zC,xI,List.drop_append,XM zC,xI];congr 1;omega
 have i:((B++R).take k).length=k:=zF;simp_all
theorem jaz(g cap:Nat)(a:L1)(y:Rf.Ch)(b:L1)(c:Rf.Ch)(q n:Nat)(d:Array Value)(w:World)(hn:n=a.length+(b.length+1))(a5:n+1<=cap)(A:cap<=maxLen)(L:w.heap[g]?=some (.cells d 47 (0,0)))(k:d.size=cap*3)(E:d.toList.take (n*3)=jh (a++y::b))(G:One w q c)(I:q≠g):Calls prog 123 #[.slice (some (A2 g)) n cap,aA a.length,.slice (some (A2 q)) 1 1] w λe w' =>
  e=.returned (.slice (some (A2 g)) (n+1) cap)/\(∃ cur',w'.heap[g]?=some (.cells cur' 47 (0,0))/\cur'.size=cap*3/\cur'.toList.take ((n+1)*3)=jh (a++c::y::b))/\ja w w' (λi=>i=g):=by
 obtain⟨i,hi⟩:=zJ a.length;rw[<-hi] at hn ⊢;have z:maxLen=9223372036854775807:=by unfold maxLen;rfl
 rw[z] at A;have a9:¬((i:Int)=(n:Int)):=zC;have T:∀ lb f,(callFunc 160 #[.slice (some (A2 q)) 1 1,.slice (some ⟨g,(i+1)*3,none⟩) lb f]).run prog w=.ok (.value<|.bool false) w:=λlb f=>by rw[run_callFunc_extern func160 zH zH zH (e:=Extern.SlicesOverlaps.overlaps #[68,68] #[4]) zH,Lib.run_overlaps_apart w 68 4 47 underlying68 3 Tryz.jne (A2 q) ⟨g,(i+1)*3,none⟩ 1 1 lb f I 47 47 3 d.size (by unfold World.shape?;rw[G];rfl) (by unfold World.shape?;rw[L]) zC (zN G) (zN G)];rfl
 have t:(prog.info? 47).map (·.size)=some 3:=zH;have t:=jb t;obtain⟨B,R⟩:=zJ (jh (y::b));have x:B.length=(n-i)*3:=by grind [xl]
 have J:∀ u∈B,u.oneCell'=true:=by rw[R];exact Yz _
 have m:(jh a).length=i*3:=by rw[xl,hi]
 have M:d.toList=jh a++(B++d.toList.drop (n*3)):=by grind [Jp,ZF]
 have D:3<=(d.toList.drop (n*3)).length:=zF;have r:∀ j u,B[j]?=some u->w.drew.cell? ((⟨g,i*3,none⟩:Addr).add j)=some u:=by intro j u f;rw[Xi];have N:=zM (o:=i*3+j) L;refine Eq.trans (b:=w.cell? ⟨g,i*3+j,none⟩) rfl ?_;rw[N,<-Array.getElem?_toList,M,List.getElem?_append_right zC,m,Nat.add_sub_cancel_left,List.getElem?_append_left (ZY.1 f).1];exact f
 have s:n-i=Nat.min (n+1-i) (n-i):=zF;have l:(i+1)*3+B.length<=d.size:=by rw[x,k];omega
 change Hid _ at l s x r M D m J k L G;clear E;have ab:IntKind.i64.wrap ((i:Int)+1)=(i:Int)+1:=zQ;have ah:(0:Int)<=(i:Int)+1:=zC;have f:i<=n:=zC;have f:((i:Int)+1).toNat=i+1:=zC;have f:¬(cap=i+1):=zC;have f:(i:Int)<=(n:Int)+1:=zC;have f:¬(cap=i):=zC;have Z:¬((cap:Int)<(n:Int)+1):=zC;have aa:IntKind.i64.wrap ((n:Int)+1)=(n:Int)+1:=zQ;have a3:((n:Int)+1).toNat=n+1:=zC;have a4:(i:Int)<(n:Int):=zC;change Hid _ at hn hi R;clear z A;go_enter func123,ntmps123;go_wp2_with (simp only[T]);go_region_law (refine C5 rfl (.tmp 73) (.tmp 76) 68 68 rfl 47 3 underlying68 t g ((i+1)*3) (n-i) (cap-(i+1)) ⟨g,i*3,none⟩ (n+1-i) (cap-i) (by simp[Act.eval,Act.put]) (by simp[Act.eval,Act.put]) d 47 L B (n-i) s x r l J ?_;intro o W);obtain⟨C,j⟩:=W;obtain⟨f,O⟩:∃ f:Array Value,f.toList=d.toList.take ((i+1)*3)++B++d.toList.drop ((i+1)*3+B.length):=⟨(d.toList.take ((i+1)*3)++B++d.toList.drop ((i+1)*3+B.length)).toArray,rfl⟩;rw[<-O] at C;have v:=Vy (jh a) B (d.toList.drop (n*3)) (jh [c]) 3 (xl [c]) D d.toList f.toList M (by rw[m.out,show i*3+3=(i+1)*3 by omega];exact O);rw[m.out] at v;have F:f.size=cap*3:=by(have S:d.toList.length=cap*3:=by rw[Array.length_toList];exact k);have N:=l.out;rw[k.out] at N;have l:=congrArg List.length O;simp only[ZA,ZQ,ZU,S,Array.length_toList] at l;omega
 have H:o.heap[q]?=some (.cells (jh [c]).toArray 47 (0,0)):=j.same (w:=w.drew) G I;have p:=Qg H rfl;have Y:Hid (i*3+(jh [c]).length<=f.size):=by grind [Hid,xl]
 have X:Hid (1=Nat.min 1 (n+1-i)):=by unfold Hid;show _=min _ _;omega
 change Hid _ at v F C p;clear H O;go_wp2_with (refine u6 rfl (.tmp 80) (.tmp 81) 68 68 rfl 47 3 underlying68 t g (i*3) (n+1-i) (cap-i) (A2 q) 1 1 rfl rfl f 47 C (jh [c]) 1 X rfl p Y (Yz [c]) ?_;intro l V);go_ret;obtain⟨U,l⟩:=V;refine⟨rfl,⟨_,U,?_,?_⟩,((ja.drew w _).tt j).tt l⟩;rw[ZZ,show(jh [c]).length=3 from rfl,v.out];have S:=congrArg List.length M;rw[Array.length_toList,k.out,ZA,ZA] at S;have N:=D.out;grind [jh];rw[show(jh [c]).length=3 from rfl];show List.take _ (List.take (i*3) f.toList++jh [c]++List.drop (i*3+3) f.toList)=_;rw[v.out,show a++c::y::b=a++([c]++(y::b))from rfl,Jp,Jp,<-R.out];have f:(n+1)*3=(jh a++(jh [c]++B)).length:=by rw[ZA,ZA,m.out,x.out,show(jh [c]).length=3 from rfl];omega
 grind
theorem ja0(g cap:Nat)(a:L1)(y:Rf.Ch)(b:L1)(c:Rf.Ch)(q n:Nat)(x:Array Value)(w:World)(hn:n=a.length+(b.length+1))(A:cap=n)(a0:n<1048576)(hg:w.heap[g]?=some (.cells x 47 (0,0)))(H:x.toList.take (n*3)=jh (a++y::b))(hx:One w q c):Calls prog 123 #[.slice (some (A2 g)) n cap,aA a.length,.slice (some (A2 q)) 1 1] w λe w' =>
  ∃ cap',e=.returned (.slice (some (A2 w.heap.size)) (n+1) cap')/\n+1<=cap'/\cap'<=maxLen/\(∃ cur',w'.heap[w.heap.size]?=some (.cells cur' 47 (0,0))/\cur'.size=cap'*3/\cur'.toList.take ((n+1)*3)=jh (a++c::y::b))/\ja w w' N_:=by
 obtain⟨i,hi⟩:=zJ a.length;rw[<-hi] at hn ⊢;have U:=zO hg;have a8:=zO hx;have s:(prog.info? 47).map (·.size)=some 3:=zH;have s:=jb s;obtain⟨B,hB⟩:=zJ (jh (y::b));have v:B.length=(n-i)*3:=by grind [xl]
 have Y:∀ u∈B,u.oneCell'=true:=by rw[hB];exact Yz _
 have o:(jh a).length=i*3:=by rw[xl,hi]
 have d:x.toList=jh a++(B++x.toList.drop (n*3)):=by grind [Jp,ZF]
 have D:∀ j u,(jh a)[j]?=some u->w.cell? (((A2 g):Addr).add j)=some u:=by intro j u E;rw[add_zero,zM hg,<-Array.getElem?_toList,d,List.getElem?_append_left (ZY.1 E).1];exact E
 have C:∀ j u,B[j]?=some u->w.cell? (⟨g,i*3+j,none⟩:Addr)=some u:=by intro j u E;rw[zM hg,<-Array.getElem?_toList,d,List.getElem?_append_right zC,o,Nat.add_sub_cancel_left,List.getElem?_append_left (ZY.1 E).1];exact E
 obtain⟨m,I,M,L,J⟩:=info_parts Tryz.Q5;obtain⟨k,f⟩:∃ k,i+k=n+1:=⟨n+1-i,zC⟩;obtain⟨cap',p,l,Z⟩:=vo (P:=prog) w 68 3 68 47 m Qy 3 40 underlying68 underlying3 I M L J rfl zC zC zC g i cap (jh a) o D k zC zC zC;rw[f] at l;obtain⟨z,t,⟨m,F,R,O⟩,k1⟩:=Z;obtain⟨W,Z⟩:=zJ w.heap.size;rw[<-Z] at F l U a8 ⊢;have N:p.heap[q]?=some (.cells (jh [c]).toArray 47 (0,0)):=k1.same hx λh=>h
 have r:∀ j u,(jh [c])[j]?=some u->p.cell? (((A2 q):Addr).add j)=some u:=Qg N rfl;have a9:(n:Int)+1-(i:Int)=(k:Int):=zC;have au:IntKind.i64.wrap ((n:Int)+1-(i:Int))=(k:Int):=by grind [zQ]
 have k:=jb A;have aw:IntKind.i64.wrap ((i:Int)+1)=(i:Int)+1:=zQ;have k:IntKind.i64.wrap ((n:Int)+1)=(n:Int)+1:=zQ;have ar:¬((i:Int)=(n:Int)):=zC;have k:(0:Int)<=(i:Int)+1:=zC;have ay:i<=n:=zC;have k:(i:Int)<=(cap:Int):=zC;have k:((i:Int)+1).toNat=i+1:=zC;have k:((n:Int)+1).toNat=n+1:=zC;have k:(cap:Int)<(n:Int)+1:=zC;have k:¬(cap'=i+1):=zC;have k:¬(cap'=i):=zC;have k:¬(cap=i):=zC;have k:(i:Int)<=(n:Int)+1:=zC;have aa:n+1<=cap':=zC;have T:1=Nat.min 1 (n+1-i):=zF;have S:n-i=Nat.min (n-i) (n-i):=zF;have X:i*3+(jh [c]).length<=m.size:=by grind [xl]
 have ae:=jb t;change Hid _ at T S X r F l C v Y o O R hn hi hB f hg Z;clear z t D hx N d H A a0 a9 I M L J;go_enter func123,ntmps123;go_wp2_with (first|(at_builtin;go_must (refine Lib.wpList_append_run _ rfl (.tmp 34) (.tmp 39) 68 3 rfl _ _ rfl rfl _ _ l ?_))|(refine u6 rfl (.tmp 43) (.tmp 44) 68 68 rfl 47 3 underlying68 s W (i*3) (n+1-i) (cap' - i) (A2 q) 1 1 rfl rfl m 47 F (jh [c]) 1 T rfl r X (Yz [c]) ?_;intro D t));obtain⟨V,r⟩:=t;obtain⟨d,k⟩:∃ d:Array Value,d.toList=jh a++jh [c]++m.toList.drop (i*3+3):=⟨(jh a++jh [c]++m.toList.drop (i*3+3)).toArray,rfl⟩;have z:D.heap[W]?=some (.cells d 47 (0,0)):=by rw[V,O.out,show(jh [c]).length=3 from rfl,<-k]
 have f:d.size=cap'*3:=by have l:=congrArg List.length k;rw[ZA,ZA,ZU,o.out,show(jh [c]).length=3 from rfl] at l;simp only[Array.length_toList,R.out] at l;omega
 have p:∀ j u,B[j]?=some u->D.drew.cell? ((⟨g,i*3,none⟩:Addr).add j)=some u:=by intro j u E;rw[Xi];exact r.cell (k1.cell (C.out j u E) λh=>h)<|Nat.ne_of_lt U
 have G:(i+1)*3+B.length<=d.size:=by rw[f,v.out];omega
 change Hid _ at z f p G k;clear V;go_region_law (refine C5 rfl (.tmp 50) (.tmp 53) 68 68 rfl 47 3 underlying68 s W ((i+1)*3) (n-i) (cap' - (i+1)) ⟨g,i*3,none⟩ (n-i) (cap-i) (by simp[Act.eval,Act.put]) (by simp[Act.eval,Act.put]) d 47 z B (n-i) S v p G Y ?_;intro l l);go_wp2;go_ret;obtain⟨ab,m⟩:=l;have l:d.toList.take ((i+1)*3)=jh a++jh [c]:=by rw[k.out];(have:(i+1)*3=(jh a++jh [c]).length:=by rw[ZA,o.out,show(jh [c]).length=3 from rfl];omega);grind
 refine⟨cap',rfl,aa,ae,⟨_,ab,?_,?_⟩,(((k1.trans r λj I e=>absurd (Z.out▸I)<|by rw[e];exact zY _).draw).trans m λj I e=>absurd (Z.out▸I)<|by rw[e];exact zY _)⟩;have j:=G.out;have j:=f.out;grind;show List.take _ (List.take ((i+1)*3) d.toList++B++_)=_;rw[l,show a++c::y::b=a++([c]++(y::b))from rfl,Jp,Jp,<-hB.out];have d:(n+1)*3=(jh a++(jh [c]++B)).length:=by rw[ZA,ZA,o.out,v.out,show(jh [c]).length=3 from rfl];omega
 grind
theorem jdt(v:Value)(a b:L1)(c:Rf.Ch)(base q:Nat)(w:World)(z:(a++b).length<1048576)(j:base<=w.heap.size)(d:w.ownsRow base 47 3 v (a++b).length (jh (a++b)))(x:One w q c)(A:v.ownBlock≠some q):Calls prog 123 #[v,aA a.length,.slice (some (A2 q)) 1 1] w λe w' =>
  ∃ v',e=.returned v'/\w'.ownsRow base 47 3 v' (a++c::b).length (jh (a++c::b))/\Grown w v w' v':=by
 cases b with|nil=>rw[ZE] at z d;refine(jds v a c base q w z j d x).mono ?_;simp_all|cons y b=>obtain⟨rfl,J⟩|⟨g,cap,t,rfl,E,r,I,G,H,F⟩:=d.2;simp at J;(have n:(a++y::b).length=a.length+(b.length+1):=zD);(have p:(a++c::y::b).length=(a++y::b).length+1:=zF);(have s:(jh (a++c::y::b)).length=((a++y::b).length+1)*3:=by rw[xl,p]);rw[p];obtain o|B:=zV (a++y::b).length cap;refine(jaz g cap a y b c q _ t w n o G r H F x λe=>A<|by rw[e];rfl).mono ?_;rintro e w' ⟨rfl,⟨f,m,l,k⟩,k'⟩;exact⟨_,rfl,⟨s,.inr ⟨g,cap,f,rfl,E,m,o,G,l,k⟩⟩,.inl rfl,k'.mono λi _ e=>by rw[e];rfl⟩;refine(ja0 g cap a y b c q _ t w n (Nat.le_antisymm B I) z r F x).mono ?_;rintro e w' ⟨u,rfl,D,C,⟨f,m,l,k⟩,k'⟩;exact⟨_,rfl,⟨s,.inr ⟨w.heap.size,u,f,rfl,j,m,D,C,l,k⟩⟩,.inr ⟨_,rfl,ZG _⟩,k'.up⟩
