/-
-/
import Derived.Lib.Overlaps
import Derived.Lib.AppendZeros
import Derived.Test.YtmjgfacoogdcdaaGreatDoorO13
import Derived.Test.YtmjgfacoogdcdaaGreatDoorO17
set_option maxRecDepth 100000
set_option maxHeartbeats 8000000
set_option linter.all false
namespace Go.Proofs.YtmjgfacoogdcdaaGreatDoor
open RowKit Maps WideShapes Go.Proofs.Tryz
theorem Tryz.jkr(w:World):(sizeOf 53).run prog w=.ok 3 w:=by kernel_rfl
theorem Chs.src{w:World}{v:Value}{l:aD}(h:Chs w v l):Src prog 3 23 v l.length (jh l) w:=by obtain⟨p,c,rfl,i,g,f,d⟩:=h;cases p with|none=>have:c=0:=f rfl;have b:l=[]:=ZH zC;subst b;exact Src.ofNil w underlying23 c|some ad=>exact Src.ofSlice w underlying23 ad l.length c _ (qv l) (λj u hu=>(d ad rfl).2 j u hu)<|Yu l
theorem Jg(a b:aD):jh (a++b)=jh a++jh b:=by simp[jh]
def One(w:World)(q:Nat)(c:Rf.Ch):Prop:=w.heap[q]?=some (.cells (jh [c]).toArray 53 (0,0))
theorem jas(v:Value)(l:aD)(c:Rf.Ch)(base q:Nat)(w:World)(A:l.length<1048576)(f:base<=w.heap.size)(b:w.ownsRow base 53 3 v l.length (jh l))(z:One w q c):Calls prog 121 #[v,aB l.length,.slice (some (aC q)) 1 1] w λe w' =>
  ∃ v',e=.returned v'/\w'.ownsRow base 53 3 v' (l.length+1) (jh (l++[c]))/\Grown w v w' v':=by
 have i:Src prog 3 23 (.slice (some (aC q)) 1 1) 1 (jh [c]) w:=by refine Src.ofSlice w underlying23 (aC q) 1 1 _ rfl (λj u hu=>?_)<|Yu _;exact Qj z rfl j u hu
 obtain⟨p,G,rfl⟩:=ji b;have x:Hid (l.length+1<=maxLen):=by unfold Hid maxLen;omega
 have t:Hid ((l.length+1)*40<=140737488355328):=by unfold Hid;omega
 clear A;obtain⟨y,B,n,m,k⟩:=info_parts Tryz.Qr;obtain _|⟨g,o,E⟩:=p;all_goals go_enter func121,ntmps121;go_wp2_with (at_builtin;go_must (refine zv _ rfl (.tmp 23) (.tmp 24) 23 23 rfl base 53 y Qp 3 40 underlying23 B n m k rfl (ZF 2) _ l.length (jh l) rfl b _ 1 (jh [c]) rfl i x t f ?_);intro F C D d s r);all_goals go_ret;exact⟨_,rfl,by rw[Jg];exact d,Grown.grown s r⟩
theorem Sj{α:Type}(A B R C:List α)(k:Nat)(f:C.length=k)(d:k<=R.length)(L b:List α)(c:L=A++(B++R))(g:b=L.take (A.length+k)++B++L.drop (A.length+k+B.length)):b.take A.length++C++b.drop (A.length+k)=A++(C++(B++R.drop k)):=by
 have l:L.take (A.length+k)=A++(B++R).take k:=by rw[c,List.take_append,zY zC,Nat.add_sub_cancel_left]
 have j:L.drop (A.length+k+B.length)=R.drop k:=by rw[c,List.drop_append,xG zC,ZO,List.drop_append,xG zC,ZO];congr 1;omega
 have i:((B++R).take k).length=k:=zF;simp_all
theorem Ut(g cap:Nat)(a:aD)(y:Rf.Ch)(b:aD)(c:Rf.Ch)(q n:Nat)(d:Array Value)(w:World)(hn:n=a.length+(b.length+1))(a5:n+1<=cap)(A:cap<=maxLen)(L:w.heap[g]?=some (.cells d 53 (0,0)))(k:d.size=cap*3)(E:d.toList.take (n*3)=jh (a++y::b))(G:One w q c)(I:q≠g):Calls prog 121 #[.slice (some (aC g)) n cap,aB a.length,.slice (some (aC q)) 1 1] w λe w' =>
  e=.returned (.slice (some (aC g)) (n+1) cap)/\(∃ cur',w'.heap[g]?=some (.cells cur' 53 (0,0))/\cur'.size=cap*3/\cur'.toList.take ((n+1)*3)=jh (a++c::y::b))/\ja w w' (λi=>i=g):=by
 obtain⟨i,hi⟩:=zJ a.length;rw[<-hi] at hn ⊢;have z:maxLen=9223372036854775807:=by unfold maxLen;rfl
 rw[z] at A;have a9:¬((i:Int)=(n:Int)):=zC;have T:∀ lb cb,(callFunc 161 #[.slice (some (aC q)) 1 1,.slice (some ⟨g,(i+1)*3,none⟩) lb cb]).run prog w=.ok (.value<|.bool false) w:=λlb cb=>by rw[run_callFunc_extern func161 zH zH zH (e:=Extern.SlicesOverlaps.overlaps #[23,23] #[4]) zH,Lib.run_overlaps_apart w 23 4 53 underlying23 3 Tryz.jkr (aC q) ⟨g,(i+1)*3,none⟩ 1 1 lb cb I 53 53 3 d.size (by unfold World.shape?;rw[G];rfl) (by unfold World.shape?;rw[L]) zC (zN G) (zN G)];rfl
 have t:(prog.info? 53).map (·.size)=some 3:=zH;have t:=jb t;obtain⟨B,R⟩:=zJ (jh (y::b));have x:B.length=(n-i)*3:=by grind [qv]
 have J:∀ u∈B,u.oneCell'=true:=by rw[R];exact Yu _
 have m:(jh a).length=i*3:=by rw[qv,hi]
 have M:d.toList=jh a++(B++d.toList.drop (n*3)):=by grind [Jg,ZY]
 have D:3<=(d.toList.drop (n*3)).length:=zF;have r:∀ j u,B[j]?=some u->w.drew.cell? ((⟨g,i*3,none⟩:Addr).add j)=some u:=by intro j u hu;rw[Q7];have N:=zM (o:=i*3+j) L;refine Eq.trans (b:=w.cell? ⟨g,i*3+j,none⟩) rfl ?_;rw[N,<-Array.getElem?_toList,M,List.getElem?_append_right zC,m,Nat.add_sub_cancel_left,List.getElem?_append_left (ZT.1 hu).1];exact hu
 have s:n-i=Nat.min (n+1-i) (n-i):=zF;have l:(i+1)*3+B.length<=d.size:=by rw[x,k];omega
 change Hid _ at l s x r M D m J k L G;clear E;have ab:IntKind.i64.wrap ((i:Int)+1)=(i:Int)+1:=zQ;have ah:(0:Int)<=(i:Int)+1:=zC;have ad:i<=n:=zC;have ac:((i:Int)+1).toNat=i+1:=zC;have ag:¬(cap=i+1):=zC;have af:(i:Int)<=(n:Int)+1:=zC;have ae:¬(cap=i):=zC;have Z:¬((cap:Int)<(n:Int)+1):=zC;have aa:IntKind.i64.wrap ((n:Int)+1)=(n:Int)+1:=zQ;have a3:((n:Int)+1).toNat=n+1:=zC;have a4:(i:Int)<(n:Int):=zC;change Hid _ at hn hi R;clear z A;go_enter func121,ntmps121;go_wp2_with (simp only[T]);go_region_law (refine Ci rfl (.tmp 73) (.tmp 76) 23 23 rfl 53 3 underlying23 t g ((i+1)*3) (n-i) (cap-(i+1)) ⟨g,i*3,none⟩ (n+1-i) (cap-i) (by simp[Act.eval,Act.put]) (by simp[Act.eval,Act.put]) d 53 L.out B (n-i) s.out x.out r.out l.out J.out ?_;intro w1 W);obtain⟨C,k1⟩:=W;obtain⟨f,O⟩:∃ f:Array Value,f.toList=d.toList.take ((i+1)*3)++B++d.toList.drop ((i+1)*3+B.length):=⟨(d.toList.take ((i+1)*3)++B++d.toList.drop ((i+1)*3+B.length)).toArray,rfl⟩;rw[<-O] at C;have v:=Sj (jh a) B (d.toList.drop (n*3)) (jh [c]) 3 (qv [c]) D.out d.toList f.toList M.out (by rw[m.out,show i*3+3=(i+1)*3 by omega];exact O);rw[m.out] at v;have F:f.size=cap*3:=by(have S:d.toList.length=cap*3:=by rw[Array.length_toList];exact k.out);have N:=l.out;rw[k.out] at N;have h3:=congrArg List.length O;simp only[ZV,xD,xH,S,Array.length_toList] at h3;omega
 have H:w1.heap[q]?=some (.cells (jh [c]).toArray 53 (0,0)):=k1.same (w:=w.drew) G.out I;have p:=Qj H rfl;have Y:Hid (i*3+(jh [c]).length<=f.size):=by grind [Hid,qv]
 have X:Hid (1=Nat.min 1 (n+1-i)):=by unfold Hid;show _=min _ _;omega
 change Hid _ at v F C p;clear H O;go_wp2_with (refine ua rfl (.tmp 80) (.tmp 81) 23 23 rfl 53 3 underlying23 t g (i*3) (n+1-i) (cap-i) (aC q) 1 1 rfl rfl f 53 C.out (jh [c]) 1 X rfl p.out Y (Yu [c]) ?_;intro w2 V);go_ret;obtain⟨U,k2⟩:=V;refine⟨rfl,⟨_,U,?_,?_⟩,((ja.drew w _).tt k1).tt k2⟩;rw[ZJ,show(jh [c]).length=3 from rfl,v.out];have S:=congrArg List.length M.out;rw[Array.length_toList,k.out,ZV,ZV] at S;have N:=D.out;grind [jh];rw[show(jh [c]).length=3 from rfl];show List.take _ (List.take (i*3) f.toList++jh [c]++List.drop (i*3+3) f.toList)=_;rw[v.out,show a++c::y::b=a++([c]++(y::b))from rfl,Jg,Jg,<-R.out];have e3:(n+1)*3=(jh a++(jh [c]++B)).length:=by rw[ZV,ZV,m.out,x.out,show(jh [c]).length=3 from rfl];omega
 grind
theorem Uu(g cap:Nat)(a:aD)(y:Rf.Ch)(b:aD)(c:Rf.Ch)(q n:Nat)(x:Array Value)(w:World)(hn:n=a.length+(b.length+1))(A:cap=n)(a0:n<1048576)(hg:w.heap[g]?=some (.cells x 53 (0,0)))(H:x.toList.take (n*3)=jh (a++y::b))(hx:One w q c):Calls prog 121 #[.slice (some (aC g)) n cap,aB a.length,.slice (some (aC q)) 1 1] w λe w' =>
  ∃ cap',e=.returned (.slice (some (aC w.heap.size)) (n+1) cap')/\n+1<=cap'/\cap'<=maxLen/\(∃ cur',w'.heap[w.heap.size]?=some (.cells cur' 53 (0,0))/\cur'.size=cap'*3/\cur'.toList.take ((n+1)*3)=jh (a++c::y::b))/\ja w w' No:=by
 obtain⟨i,hi⟩:=zJ a.length;rw[<-hi] at hn ⊢;have U:=zO hg;have a8:=zO hx;have s:(prog.info? 53).map (·.size)=some 3:=zH;have s:=jb s;obtain⟨B,hB⟩:=zJ (jh (y::b));have v:B.length=(n-i)*3:=by grind [qv]
 have Y:∀ u∈B,u.oneCell'=true:=by rw[hB];exact Yu _
 have o:(jh a).length=i*3:=by rw[qv,hi]
 have hL:x.toList=jh a++(B++x.toList.drop (n*3)):=by grind [Jg,ZY]
 have D:∀ j u,(jh a)[j]?=some u->w.cell? (((aC g):Addr).add j)=some u:=by intro j u E;rw[add_zero,zM hg,<-Array.getElem?_toList,hL,List.getElem?_append_left (ZT.1 E).1];exact E
 have C:∀ j u,B[j]?=some u->w.cell? (⟨g,i*3+j,none⟩:Addr)=some u:=by intro j u E;rw[zM hg,<-Array.getElem?_toList,hL,List.getElem?_append_right zC,o,Nat.add_sub_cancel_left,List.getElem?_append_left (ZT.1 E).1];exact E
 obtain⟨j0,I,M,L,J⟩:=info_parts Tryz.Qr;obtain⟨k,hk⟩:∃ k,i+k=n+1:=⟨n+1-i,zC⟩;obtain⟨cap',w1,l,Z⟩:=uk (P:=prog) w 23 3 23 53 j0 Qp 3 40 underlying23 underlying3 I M L J rfl zC zC zC g i cap (jh a) o D k zC zC zC;rw[hk] at l;obtain⟨ad,t,⟨m,F,R,O⟩,k1⟩:=Z;obtain⟨W,hW⟩:=zJ w.heap.size;rw[<-hW] at F l U a8 ⊢;have N:w1.heap[q]?=some (.cells (jh [c]).toArray 53 (0,0)):=k1.same hx λh=>h
 have r:∀ j u,(jh [c])[j]?=some u->w1.cell? (((aC q):Addr).add j)=some u:=Qj N rfl;have a9:(n:Int)+1-(i:Int)=(k:Int):=zC;have au:IntKind.i64.wrap ((n:Int)+1-(i:Int))=(k:Int):=by grind [zQ]
 have b4:=jb A;have aw:IntKind.i64.wrap ((i:Int)+1)=(i:Int)+1:=zQ;have av:IntKind.i64.wrap ((n:Int)+1)=(n:Int)+1:=zQ;have ar:¬((i:Int)=(n:Int)):=zC;have b3:(0:Int)<=(i:Int)+1:=zC;have ay:i<=n:=zC;have an:(i:Int)<=(cap:Int):=zC;have ax:((i:Int)+1).toNat=i+1:=zC;have am:((n:Int)+1).toNat=n+1:=zC;have af:(cap:Int)<(n:Int)+1:=zC;have b2:¬(cap'=i+1):=zC;have b0:¬(cap'=i):=zC;have az:¬(cap=i):=zC;have b1:(i:Int)<=(n:Int)+1:=zC;have aa:n+1<=cap':=zC;have T:1=Nat.min 1 (n+1-i):=zF;have S:n-i=Nat.min (n-i) (n-i):=zF;have X:i*3+(jh [c]).length<=m.size:=by grind [qv]
 have ae:=jb t;change Hid _ at T S X r F l C v Y o O R hn hi hB hk hg hW;clear ad t D hx N hL H A a0 a9 I M L J;go_enter func121,ntmps121;go_wp2_with (first|(at_builtin;go_must (refine Lib.wpList_append_run _ rfl (.tmp 34) (.tmp 39) 23 3 rfl _ _ rfl rfl _ _ l.out ?_))|(refine ua rfl (.tmp 43) (.tmp 44) 23 23 rfl 53 3 underlying23 s W (i*3) (n+1-i) (cap' - i) (aC q) 1 1 rfl rfl m 53 F.out (jh [c]) 1 T.out rfl r.out X.out (Yu [c]) ?_;intro w2 t));obtain⟨V,k2⟩:=t;obtain⟨d,e2⟩:∃ d:Array Value,d.toList=jh a++jh [c]++m.toList.drop (i*3+3):=⟨(jh a++jh [c]++m.toList.drop (i*3+3)).toArray,rfl⟩;have z:w2.heap[W]?=some (.cells d 53 (0,0)):=by rw[V,O.out,show(jh [c]).length=3 from rfl,<-e2]
 have f:d.size=cap'*3:=by have h3:=congrArg List.length e2;rw[ZV,ZV,xH,o.out,show(jh [c]).length=3 from rfl] at h3;simp only[Array.length_toList,R.out] at h3;omega
 have p:∀ j u,B[j]?=some u->w2.drew.cell? ((⟨g,i*3,none⟩:Addr).add j)=some u:=by intro j u E;rw[Q7];exact k2.cell (k1.cell (C.out j u E) λh=>h)<|Nat.ne_of_lt U
 have G:(i+1)*3+B.length<=d.size:=by rw[f,v.out];omega
 change Hid _ at z f p G e2;clear V;go_region_law (refine Ci rfl (.tmp 50) (.tmp 53) 23 23 rfl 53 3 underlying23 s W ((i+1)*3) (n-i) (cap' - (i+1)) ⟨g,i*3,none⟩ (n-i) (cap-i) (by simp[Act.eval,Act.put]) (by simp[Act.eval,Act.put]) d 53 z.out B (n-i) S.out v.out p.out G.out Y.out ?_;intro w3 ac);go_wp2;go_ret;obtain⟨ab,k3⟩:=ac;have ht:d.toList.take ((i+1)*3)=jh a++jh [c]:=by rw[e2.out];(have:(i+1)*3=(jh a++jh [c]).length:=by rw[ZV,o.out,show(jh [c]).length=3 from rfl];omega);grind
 refine⟨cap',rfl,aa,ae,⟨_,ab,?_,?_⟩,(((k1.trans k2 λj I e=>absurd (hW.out▸I)<|by rw[e];exact XS _).draw).trans k3 λj I e=>absurd (hW.out▸I)<|by rw[e];exact XS _)⟩;have h1:=G.out;have h2:=f.out;grind;show List.take _ (List.take ((i+1)*3) d.toList++B++_)=_;rw[ht,show a++c::y::b=a++([c]++(y::b))from rfl,Jg,Jg,<-hB.out];have e3:(n+1)*3=(jh a++(jh [c]++B)).length:=by rw[ZV,ZV,o.out,v.out,show(jh [c]).length=3 from rfl];omega
 grind
theorem jat(v:Value)(a b:aD)(c:Rf.Ch)(base q:Nat)(w:World)(z:(a++b).length<1048576)(j:base<=w.heap.size)(d:w.ownsRow base 53 3 v (a++b).length (jh (a++b)))(x:One w q c)(A:v.ownBlock≠some q):Calls prog 121 #[v,aB a.length,.slice (some (aC q)) 1 1] w λe w' =>
  ∃ v',e=.returned v'/\w'.ownsRow base 53 3 v' (a++c::b).length (jh (a++c::b))/\Grown w v w' v':=by
 cases b with|nil=>rw[ZU] at z d;refine(jas v a c base q w z j d x).mono ?_;simp_all|cons y b=>obtain⟨rfl,J⟩|⟨g,cap,t,rfl,E,r,I,G,H,F⟩:=d.2;simp at J;(have n:(a++y::b).length=a.length+(b.length+1):=zD);(have p:(a++c::y::b).length=(a++y::b).length+1:=zF);(have s:(jh (a++c::y::b)).length=((a++y::b).length+1)*3:=by rw[qv,p]);rw[p];obtain o|B:=zS (a++y::b).length cap;refine(Ut g cap a y b c q _ t w n o G r H F x λe=>A<|by rw[e];rfl).mono ?_;rintro e w' ⟨rfl,⟨f,m,l,k⟩,k'⟩;exact⟨_,rfl,⟨s,.inr ⟨g,cap,f,rfl,E,m,o,G,l,k⟩⟩,.inl rfl,k'.mono λi _ e=>by rw[e];rfl⟩;refine(Uu g cap a y b c q _ t w n (Nat.le_antisymm B I) z r F x).mono ?_;rintro e w' ⟨u,rfl,D,C,⟨f,m,l,k⟩,k'⟩;exact⟨_,rfl,⟨s,.inr ⟨w.heap.size,u,f,rfl,j,m,D,C,l,k⟩⟩,.inr ⟨_,rfl,zR _⟩,k'.up⟩
