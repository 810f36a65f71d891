/-
-/
import Derived.Shelf.RegionOpen
import Derived.OwnWalkIn
import Derived.LoopNIn
import Derived.LoopIn
import Derived.Test.YtdaocdiabffpkaaGreatDoorR21
import Derived.Test.YtdaocdiabffpkaaGreatDoorR13
set_option maxRecDepth 100000
set_option maxHeartbeats 8000000
set_option linter.all false
namespace Go.Proofs.YtdaocdiabffpkaaGreatDoor
open RowKit Maps WideShapes Go.Shelf Go.Proofs.Tryz
attribute [local go_sem] Oper.semAt_some
def partAt(l:List Rf.Ch)(i:Nat):List Rf.Ch:=(l.drop i).take 4
def Xt(n i:Nat):Nat:=min 4 (n-i)
def jfb(b o n i:Nat):Value:=.slice (some ⟨b,o+i*3,none⟩) (Xt n i) (Xt n i)
theorem na(l:List Rf.Ch)(i:Nat):(partAt l i).length=Xt l.length i:=by grind [partAt,Xt]
theorem jbs(a b:List Rf.Ch):jh (a++b)=jh a++jh b:=by simp[jh]
theorem U8(l:List Rf.Ch)(i j:Nat)(u:Value)(h:(jh (partAt l i))[j]?=some u):(jh l)[i*3+j]?=some u:=by
 have e:jh l=jh (l.take i)++(jh (partAt l i)++jh ((l.drop i).drop 4)):=by grind [partAt,jbs,ZF]
 have b:j<(jh<|partAt l i).length:=(ZY.1 h).1;have hi:i<=l.length:=by grind [partAt,List.drop_of_length_le,jh]
 grind [xl]
theorem Chs.part{w:World}{b o c:Nat}{l:List Rf.Ch}(h:Chs w (.slice (some ⟨b,o,none⟩) l.length c) l)(i:Nat):Chs w (jfb b o l.length i) (partAt l i):=by obtain⟨f,n,e,m,k,g,d⟩:=h;cases e;refine⟨some ⟨b,o+i*3,none⟩,Xt l.length i,by rw[na];rfl,by grind [na],by unfold Xt;omega,(λh=>by cases h),λf f=>?_⟩;cases f;refine⟨rfl,λj u f=>?_⟩;have:=(d _ rfl).2 (i*3+j) u<|U8 l i j u f;grind [Xi]
theorem I5(b:Array Value)(w:World):(callFunc 165 b).run prog w=.ok (.enter 165 b) w:=by kernel_rfl
abbrev jnz(b o n:Nat)(k:Nat):Array Value:=#[jfb b o n (4*k)]
def jou(n:Nat)(pre:List Nat)(x:Nat)(W:World):Prop:=pre=List.range x/\4*x<n
def jo7(n:Nat)(xs:List Nat)(W:World):Prop:=xs=List.range ((n+3)/4)
def jk2(b b1 b2 i:Nat):Prop:=i=b\/i=b1\/i=b2
def jkv(b o c b1 b2:Nat)(l:List Rf.Ch)(W:World):Prop:=Chs W (.slice (some ⟨b,o,none⟩) l.length c) l/\W.heap[b1]?=some (.cells #[.slice (some ⟨b,o,none⟩) l.length c] 68 (0,0))/\W.heap[b2]?=some (.cells #[.int .i64 4] 3 (0,0))
theorem I6{n:Nat}(b o c t x:Nat)(l:List Rf.Ch)(hl:l.length<1048576):Oh Fence.wide n prog 165 #[] #[.pointer (some ⟨t,0,none⟩),.pointer (some ⟨x,0,none⟩)] (jnz b o l.length) (λ_=>False) (jk2 b t x) (jkv b o c t x l) (jou l.length) (jo7 l.length) (λ_ _=>True):=by
 intro f d J d A B C W E Z al d T;obtain⟨v,F,m⟩:=d;have V:=jb v;have q:=jb Z;have p:=jb E;have X:=jb F;have I:=jb m;have g:l.length<=c/\c<=maxLen:=by obtain⟨u,z,e,i,d,j,h4⟩:=v;cases e;exact⟨i,d⟩
 change Hid _ at g;clear v Z E F m;show CallsIn Fence.wide n prog 165 #[.func (.yield f) #[] #[],.pointer (some ⟨t,0,none⟩),.pointer (some ⟨x,0,none⟩)] W _;refine callsIn_of_wp func165 rfl trivial ?_ rfl;simp only[ntmps165,ZZ,xC,xD,Nat.reduceAdd,Nat.reduceSub,xE,xF,xG,xH,xI,xJ];gi_wp2;gi_loopw [4] (λi wr=>∃(k j:Nat) (y:Nat->Prop),Hid (j=4*k)/\Hid (k<=(l.length+3)/4)/\i=.int .i64 j/\J (List.range k) y wr/\(∀ i,y i->C i\/W.heap.size<=i)/\(∀ i,y i->i<wr.heap.size)/\ja W wr C) (λi _=>l.length+4-(intOf i).toNat);case atStart=>exact⟨0,0,C,rfl,zT _,rfl,T,λ_ h=>.inl h,p,ja.refl _ _⟩
 case round=>obtain⟨k,j,y,p,E,rfl,H,d,s,f⟩:=hrel;(have N:∀ i,jk2 b t x i->¬C i:=λi h v=>(q.out i v).2 h);have R:=zM (o:=0)<|f.same X<|N _<|.inr<|.inl rfl;have r:=zM (o:=0)<|f.same I<|N _<|.inr<|.inr rfl;simp at R r;(have q:Chs wr (.slice (some ⟨b,o,none⟩) l.length c) l:=V.out.keep f λ_ u u z e v=>N _ (.inl<|by cases e;rfl) v);obtain u|au:=zV j l.length;(· change Hid _ at q;have ay:wr.drew.cell? ⟨t,0,none⟩=some (.slice (some ⟨b,o,none⟩) l.length c):=R;have aw:wr.drew.cell? ⟨x,0,none⟩=some (.int .i64 4):=r;(have r:j<=c:=zA g.out);obtain⟨M,O⟩:=zJ (Xt l.length j);(have r:(if ((l.length-j:Nat):Int)<4 then((l.length-j:Nat):Int)else 4)=(M:Int):=by grind [Xt]);(have G:1<=M/\j+M<=l.length/\M<=4:=by rw[O];unfold Xt;omega);(have aj:IntKind.i64.wrap ((j:Int)+(M:Int))=((j+M:Nat):Int):=by grind [zQ]);have r:jou l.length (List.range k) k wr:=⟨rfl,zA p.out⟩;(have ar:j+M-j=M:=zC);have u:=jb O;have z:=jb G;(have z:(j:Int)<=((j+M:Nat):Int):=zC);(have ao:((j+M:Nat):Int)<=(c:Int):=zA g.out);(have z:j<=j+M:=zC);(have z:j+M<=c:=zA g.out);clear O G;gi_wp2;refine wpIn_wide.2 ?_;go_quiet (fail);have g:(wr.drewN nq).cell? ⟨t,0,none⟩=some (.slice (some ⟨b,o,none⟩) l.length c):=R;(have z:=ja.drewN wr nq λ_=>False);obtain⟨fn,tmps,assign,body,g,Y⟩:=B (List.range k) k y (wr.drewN nq) (A _ _ _ _ H<|Xh z) (λi hi=>s i hi) r;simp only[jnz,jfb,<-p.out,<-u.out] at g;have g:=jb Y;clear Y r;gi_wp2;refine⟨λh=>by simp[Fence.wide] at h,g.out.mono ?_⟩;rintro e g ⟨r,A,m,D,⟨rfl,S⟩|⟨rfl,L⟩⟩;(· have u:ja W g C:=(f.tt (z.up)).trans D (λi hi v=>(d i v).resolve_right zC);have U:=zM (o:=0)<|u.same I<|N _<|.inr<|.inr rfl;simp at U;(have ai:IntKind.i64.wrap ((j:Int)+4)=((j+4:Nat):Int):=by rw[zQ];omega);gi_wp2;go_roundw;(case rel=>have h4:=p.out;refine⟨k+1,j+4,r,(zC:j+4=4*(k+1)),(zC:k+1<=(l.length+3)/4),zD,by rw[List.range_succ];exact S,λi hi=>?_,m,u⟩;obtain h|h:=A i hi;exact d i h;have:=f.size;have:=z.size;exact .inr zC);grind [intOf]);· have u:ja W g C:=(f.tt (z.up)).trans D (λi hi v=>(d i v).resolve_right zC);gi_wp2;refine bodyPost_ret (results_none rfl _ _ _) rfl ?_;refine⟨r,λi hi=>?_,m,⟨_,rfl⟩,.inr ⟨_,trivial,L⟩⟩;obtain h|h:=A i hi;exact d i h;have:=f.size;have:=z.size;exact .inr zC);· (have B:k=(l.length+3)/4:=zB p.out E.out);change Hid _ at B;clear q;gi_wp2;go_end0;refine⟨y,d,s,⟨_,rfl⟩,.inl ⟨_,?_,H⟩⟩;show List.range k=_;rw[B.out]
theorem jho(v:Value)(w:World)(b:v.oneCell'=true):Calls prog 129 #[v,.int .i64 4] w λe w'=>e=.returned (.func (.func 165) #[] #[.pointer (some ⟨w.heap.size,0,none⟩),.pointer (some ⟨w.heap.size+1,0,none⟩)])/\w'=(w.alloc (.cells #[v] 68)).alloc (.cells #[.int .i64 4] 3):=by go_enter func129,ntmps129;go_wp2;go_ret;exact⟨rfl,rfl⟩
