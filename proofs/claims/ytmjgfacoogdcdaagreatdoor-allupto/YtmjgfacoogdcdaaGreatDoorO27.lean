/-
-/
import Derived.Shelf.RegionOpen
import Derived.OwnWalkIn
import Derived.LoopNIn
import Derived.LoopIn
import Derived.Test.YtmjgfacoogdcdaaGreatDoorO21
import Derived.Test.YtmjgfacoogdcdaaGreatDoorO13
set_option maxRecDepth 100000
set_option maxHeartbeats 8000000
set_option linter.all false
namespace Go.Proofs.YtmjgfacoogdcdaaGreatDoor
open RowKit Maps WideShapes Go.Shelf Go.Proofs.Tryz
attribute [local go_sem] Oper.semAt_some
def partAt(l:List Rf.Ch)(i:Nat):List Rf.Ch:=(l.drop i).take 4
def Xl(n i:Nat):Nat:=min 4 (n-i)
def jb5(b o n i:Nat):Value:=.slice (some ⟨b,o+i*3,none⟩) (Xl n i) (Xl n i)
theorem mg(l:List Rf.Ch)(i:Nat):(partAt l i).length=Xl l.length i:=by grind [partAt,Xl]
theorem Vi(a b:List Rf.Ch):jh (a++b)=jh a++jh b:=by simp[jh]
theorem Rp(l:List Rf.Ch)(i j:Nat)(u:Value)(h:(jh (partAt l i))[j]?=some u):(jh l)[i*3+j]?=some u:=by
 have e:jh l=jh (l.take i)++(jh (partAt l i)++jh ((l.drop i).drop 4)):=by grind [partAt,Vi,ZY]
 have b:j<(jh<|partAt l i).length:=(ZT.1 h).1;have hi:i<=l.length:=by grind [partAt,List.drop_of_length_le,jh]
 grind [qv]
theorem Chs.part{w:World}{b o c:Nat}{l:List Rf.Ch}(h:Chs w (.slice (some ⟨b,o,none⟩) l.length c) l)(i:Nat):Chs w (jb5 b o l.length i) (partAt l i):=by obtain⟨f,n,e,m,k,g,d⟩:=h;cases e;refine⟨some ⟨b,o+i*3,none⟩,Xl l.length i,by rw[mg];rfl,by grind [mg],by unfold Xl;omega,(λh=>by cases h),λad had=>?_⟩;cases had;refine⟨rfl,λj u hu=>?_⟩;have:=(d _ rfl).2 (i*3+j) u<|Rp l i j u hu;grind [Q7]
theorem G8(b:Array Value)(w:World):(callFunc 210 b).run prog w=.ok (.enter 210 b) w:=by kernel_rfl
abbrev jld(b o n:Nat)(k:Nat):Array Value:=#[jb5 b o n (4*k)]
def jl6(n:Nat)(pre:List Nat)(x:Nat)(W:World):Prop:=pre=List.range x/\4*x<n
def jmi(n:Nat)(xs:List Nat)(W:World):Prop:=xs=List.range ((n+3)/4)
def jid(b b1 b2 i:Nat):Prop:=i=b\/i=b1\/i=b2
def jh2(b o c b1 b2:Nat)(l:List Rf.Ch)(W:World):Prop:=Chs W (.slice (some ⟨b,o,none⟩) l.length c) l/\W.heap[b1]?=some (.cells #[.slice (some ⟨b,o,none⟩) l.length c] 23 (0,0))/\W.heap[b2]?=some (.cells #[.int .i64 4] 3 (0,0))
theorem G9{n:Nat}(b o c t x:Nat)(l:List Rf.Ch)(hl:l.length<1048576):Gn Fence.wide n prog 210 #[] #[.pointer (some ⟨t,0,none⟩),.pointer (some ⟨x,0,none⟩)] (jld b o l.length) (λ_=>False) (jid b t x) (jh2 b o c t x l) (jl6 l.length) (jmi l.length) (λ_ _=>True):=by
 intro lp n₀ J Jx aJ hY C W E Z al hS T;obtain⟨v,F,m⟩:=hS;have V:=jb v;have HC:=jb Z;have HB:=jb E;have X:=jb F;have I:=jb m;have g:l.length<=c/\c<=maxLen:=by obtain⟨p',c',e,h1,h2,h3,h4⟩:=v;cases e;exact⟨h1,h2⟩
 change Hid _ at g;clear v Z E F m;show CallsIn Fence.wide n prog 210 #[.func (.yield lp) #[] #[],.pointer (some ⟨t,0,none⟩),.pointer (some ⟨x,0,none⟩)] W _;refine callsIn_of_wp func210 rfl trivial ?_ rfl;simp only[ntmps210,ZJ,zZ,ZA,Nat.reduceAdd,Nat.reduceSub,ZK,ZL,ZM,ZN,ZO,ZP];gi_wp2;gi_loopw [4] (λi wr=>∃(k j:Nat) (y:Nat->Prop),Hid (j=4*k)/\Hid (k<=(l.length+3)/4)/\i=.int .i64 j/\J (List.range k) y wr/\(∀ i,y i->C i\/W.heap.size<=i)/\(∀ i,y i->i<wr.heap.size)/\ja W wr C) (λi _=>l.length+4-(intOf i).toNat);case atStart=>exact⟨0,0,C,rfl,ZC _,rfl,T,λ_ h=>.inl h,HB,ja.refl _ _⟩
 case round=>obtain⟨k,j,y,p,HK,rfl,H,d,s,f⟩:=hrel;(have N:∀ i,jid b t x i->¬C i:=λi h hc=>(HC.out i hc).2 h);have R:=zM (o:=0)<|f.same X<|N _<|.inr<|.inl rfl;have d2:=zM (o:=0)<|f.same I<|N _<|.inr<|.inr rfl;simp at R d2;(have q:Chs wr (.slice (some ⟨b,o,none⟩) l.length c) l:=V.out.keep f λ_ p' n' c' e hc=>N _ (.inl<|by cases e;rfl) hc);obtain aq|au:=zS j l.length;(· change Hid _ at q;have ay:wr.drew.cell? ⟨t,0,none⟩=some (.slice (some ⟨b,o,none⟩) l.length c):=R;have aw:wr.drew.cell? ⟨x,0,none⟩=some (.int .i64 4):=d2;(have ak:j<=c:=zA g.out);obtain⟨M,O⟩:=zJ (Xl l.length j);(have av:(if ((l.length-j:Nat):Int)<4 then((l.length-j:Nat):Int)else 4)=(M:Int):=by grind [Xl]);(have G:1<=M/\j+M<=l.length/\M<=4:=by rw[O];unfold Xl;omega);(have aj:IntKind.i64.wrap ((j:Int)+(M:Int))=((j+M:Nat):Int):=by grind [zQ]);have r:jl6 l.length (List.range k) k wr:=⟨rfl,zA p.out⟩;(have ar:j+M-j=M:=zC);have HM:=jb O;have az:=jb G;(have ap:(j:Int)<=((j+M:Nat):Int):=zC);(have ao:((j+M:Nat):Int)<=(c:Int):=zA g.out);(have an:j<=j+M:=zC);(have am:j+M<=c:=zA g.out);clear O G;gi_wp2;refine wpIn_wide.2 ?_;go_quiet (fail);have ax:(wr.drewN nq).cell? ⟨t,0,none⟩=some (.slice (some ⟨b,o,none⟩) l.length c):=R;(have z:=ja.drewN wr nq λ_=>False);obtain⟨fn,tmps,assign,body,hy,Y⟩:=hY (List.range k) k y (wr.drewN nq) (aJ _ _ _ _ H<|Qk z) (λi hi=>s i hi) r;simp only[jld,jb5,<-p.out,<-HM.out] at hy;have HR:=jb Y;clear Y r;gi_wp2;refine⟨λh=>by simp[Fence.wide] at h,HR.out.mono ?_⟩;rintro e W3 ⟨C2,A,m,D,⟨rfl,S⟩|⟨rfl,L⟩⟩;(· have u:ja W W3 C:=(f.tt (z.up)).trans D (λi hi hc=>(d i hc).resolve_right zC);have U:=zM (o:=0)<|u.same I<|N _<|.inr<|.inr rfl;simp at U;(have ai:IntKind.i64.wrap ((j:Int)+4)=((j+4:Nat):Int):=by rw[zQ];omega);gi_wp2;go_roundw;(case rel=>have h4:=p.out;refine⟨k+1,j+4,C2,(zC:j+4=4*(k+1)),(zC:k+1<=(l.length+3)/4),zD,by rw[List.range_succ];exact S,λi hi=>?_,m,u⟩;obtain h|h:=A i hi;exact d i h;have:=f.size;have:=z.size;exact .inr zC);grind [intOf]);· have u:ja W W3 C:=(f.tt (z.up)).trans D (λi hi hc=>(d i hc).resolve_right zC);gi_wp2;refine bodyPost_ret (results_none rfl _ _ _) rfl ?_;refine⟨C2,λi hi=>?_,m,⟨_,rfl⟩,.inr ⟨_,trivial,L⟩⟩;obtain h|h:=A i hi;exact d i h;have:=f.size;have:=z.size;exact .inr zC);· (have B:k=(l.length+3)/4:=zB p.out HK.out);change Hid _ at B;clear q;gi_wp2;go_end0;refine⟨y,d,s,⟨_,rfl⟩,.inl ⟨_,?_,H⟩⟩;show List.range k=_;rw[B.out]
theorem jef(v:Value)(w:World)(b:v.oneCell'=true):Calls prog 178 #[v,.int .i64 4] w λe w'=>e=.returned (.func (.func 210) #[] #[.pointer (some ⟨w.heap.size,0,none⟩),.pointer (some ⟨w.heap.size+1,0,none⟩)])/\w'=(w.alloc (.cells #[v] 23)).alloc (.cells #[.int .i64 4] 3):=by go_enter func178,ntmps178;go_wp2;go_ret;exact⟨rfl,rfl⟩
