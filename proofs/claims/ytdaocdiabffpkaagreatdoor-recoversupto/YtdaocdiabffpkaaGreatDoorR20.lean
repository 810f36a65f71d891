/-
-/
import Derived.Test.YtdaocdiabffpkaaGreatDoorR19
import Derived.Test.YtdaocdiabffpkaaGreatDoorR14
set_option maxRecDepth 100000
set_option maxHeartbeats 8000000
set_option linter.all false
namespace Go.Proofs.YtdaocdiabffpkaaGreatDoor
section
open RowKit Maps WideShapes Go.Proofs.Tryz
variable {w:World} {ba dv la lo mv nx ru v:Value} {ks:List Str} {B b d k:Nat} {E:Nat->Addr} {t:TypeId} {deg:Bool}
theorem Ej{base:Nat}(x:Str)(k:ks.length<1099511627776)(b:w.ownsRow base 9 1 v ks.length (ks.map encStr)):Calls prog 150 #[v,je x] w λe w'=>e=.returned (.bool (decide (x∈ks)))/\w'=w:=by
 obtain⟨rfl,d⟩|⟨g,cap,i,rfl,_,l,p,o,n,m⟩:=b.2;have:ks=[]:=xY d;subst this;refine(Tryz.slices_Contains_string_empty none 0 ⟨x.toArray⟩ w).mono ?_;simp_all;refine(Tryz.slices_Contains_string g 0 ks.length cap (ks.map λs=>⟨s.toArray⟩) ⟨x.toArray⟩ w zD zC ?_).mono ?_;intro j c;have f:j<ks.length:=by simpa using c
 have:=b.cells rfl j (encStr ks[j]) zG;grind [add_zero];grind [Lib.containsS_iff,ZC]
theorem jjg{ρ:Nat->j4}{S:jd}(R:Rep w ρ d S)(g:S.bad=true):Calls prog 149 #[P1 d] w λe w'=>e=.returned (.tuple #[S5,aA 1])/\yc w ρ w' ρ/\Rep w' ρ d (S.called false):=by go_enter func149,ntmps149;go_wp2_with (go_at_call 64;refine(Ja false R).mono ?_;rintro e f ⟨rfl,b,c⟩);go_ret2;exact⟨rfl,c,b⟩
def others(ks ns:List Str):List Str:=ns.filter (λx=>!decide (x∈ks))
theorem jab{ns:List Str}{x:Str}(c:k<ns.length)(b:ns[k]=x):others ks (ns.take (k+1))=if x∈ks then others ks (ns.take k)else others ks (ns.take k)++[x]:=by grind [others,zR]
theorem Pj(ks ns:List Str):(others ks ns).length<=ns.length:=ZK _ _
def jd.z8(ks:List Str)(S:jd):jd×Bool:=if S.bad=true then(S.called false,false)else jd.jt (others ks S.keys) (S.called false)
theorem cw{ρ:Nat->j4}{S:jd}(D:Dk E B w ρ d S)(Z:Small S)(v:Value)(ks:List Str)(base:Nat)(hv:w.ownsRow base 9 1 v ks.length (ks.map encStr))(hρ:∀ g,v.ownBlock=some g->ρ g=.none)(hl:ks.length<1099511627776)(O:∀ n∈S.keys,n.length<1099511627776)(hz:Maps.size S.safe+S.late.length+S.keys.length<1099511627776):Calls prog 110 #[P1 d,v] w (Yj E B w ρ d (jd.z8 ks S)):=by
 obtain⟨p,c,rfl⟩:=jl hv;obtain⟨i0,hi,a4,a3,a2⟩:=info_parts Tryz.D0;have I:S.bad=true\/S.bad=false:=by cases S.bad<;>simp
 obtain I|I:=I
 ·(have b:jd.z8 ks S=(S.called false,false):=by grind [jd.z8]);change Hid _ at b;go_enter func110,ntmps110;go_wp2_with fail;refine(jjg D.rep I).mono ?_;rintro e f ⟨rfl,G,V⟩;have W:=D.step G V;go_wp2_with fail;refine(Qm W.Jk [110,97,109,101,115] 1 zE).mono ?_;rintro e u ⟨v2,rfl,X,c⟩;obtain⟨i,i,rfl⟩:=X.shape;go_wp2;go_ret;rw[b.out];exact⟨ρ,G.same c,W.same c,.inr ⟨rfl,_,rfl,X⟩⟩
 ·(have b:jd.z8 ks S=jd.jt (others ks S.keys) (S.called false):=by grind [jd.z8]);change Hid _ at b;go_enter func110,ntmps110;go_wp2_with fail;refine(jjf D.rep Z I).mono ?_;rintro e f ⟨G,V,m,c,rfl,t⟩;have W:=D.step G V;(have a5:=G.keeps.row hv λg c h=>h<|hρ g c);generalize hns:S.keys=ns at t O hz b;change Hid _ at hns;go_wp2_with fail;refine(Yo [110,97,109,101,115] f).mono ?_;rintro e u ⟨rfl,rfl⟩;obtain⟨f,f⟩:=zJ u.heap.size;change Hid _ at f;go_wp2_with fail;go_loopw [8,23] (λf i wr=>∃(k:Nat) (ss:List Str) (F:Option Addr) (H:Nat),k<=ns.length/\i = aA k/\f=.slice F ss.length H/\ss=others ks (ns.take k)/\wr.ownsRow u.heap.size 9 1 (.slice F ss.length H) ss.length (ss.map encStr)/\ja u wr N_) (λ_ i _=>ns.length-(intOf i).toNat);(case atStart=>exact⟨0,[],none,0,zT _,rfl,rfl,rfl,zU _ _ _ _,ja.refl _ _⟩);case round=>obtain⟨k,ss,F,H,i,rfl,rfl,y,j,l⟩:=hrel;have f:=Pj ks<|ns.take k;rw[<-y,ZQ] at f;have A:=jb y;clear y;obtain z|aw:=zV k ns.length;(· (have N:=l.row t λ_ _ h=>h);(have L:=l.row a5 λ_ _ h=>h);(have U:∃ g,m=some (A2 g):=by obtain⟨_,f⟩|⟨g,cap,f,e,_⟩:=N.2;omega;cases e;exact⟨g,rfl⟩);obtain⟨g,rfl⟩:=U;have m:=N.cells rfl k (encStr ns[k]) zG;rw[add_zero] at m;generalize hx:ns[k]=x at m;have f:=jab (ks:=ks) z hx;rw[<-A.out] at f;change Hid _ at f;clear hx;unfold encStr at m;have m:u.heap.size<=wr.heap.size:=l.size;by_cases hxm:x∈ks;(· (have Y:decide (x∈ks)=true:=by simp[hxm]);(have r:Hid (others ks (ns.take (k+1))=ss):=zG);clear hxm f;go_wp2_with fail;refine(Ej x hl L).mono ?_;rintro e T ⟨rfl,rfl⟩;rw[Y];go_wp2;exact⟨⟨k+1,ss,F,H,z,zD,rfl,r.out.symm,j,l⟩,by simp[intOf];omega⟩);· (have Y:decide (x∈ks)=false:=by simp[hxm]);(have r:Hid (others ks (ns.take (k+1))=ss++[x]):=zG);clear hxm f;(have f:Hid (ss.length+1<=maxLen):=by unfold Hid maxLen;omega);(have aa:Hid ((ss.length+1)*16<=140737488355328):=by unfold Hid;omega);(have ab:∀ o,Hid (u.heap.size<=(wr.alloc o).heap.size):=by intro o;unfold Hid;simp;omega);go_wp2_with fail;refine(Ej x hl L).mono ?_;rintro e T ⟨rfl,rfl⟩;rw[Y];have M:=je2 x;change Hid _ at M;go_wp2_with (first|(at_builtin;go_must (refine jo _ rfl (.tmp 31) (.tmp 33) 99 rfl u.heap.size 9 i0 (.string ⟨#[]⟩) 1 16 underlying99 hi a4 a3 a2 rfl (zX 0) (.slice F ss.length H) ss.length (ss.map encStr) rfl (j.alloc _) (A2 T.heap.size) 1 1 [encStr x] rfl rfl (Qg (jf T _) rfl) M f aa (ab _).out ?_);intro f m o C a9 p)|go_in);(have a8:ja u o N_:=(l.more _).grow a9 λk e i=>(zA (j.lt k e).1));(have s:(ss++[x]).length=ss.length+1:=zD);exact⟨⟨k+1,ss++[x],f,m,z,zD,by rw[s],r.out.symm,by rw[s];simpa using C,a8⟩,by simp[intOf];omega⟩);· (have f:k=ns.length:=zC);(have q:ss=others ks ns:=by rw[A.out,f,xM]);rw[<-q] at b;(have R:∀ n∈ss,n.length<1099511627776:=λn f=>O n (by rw[q] at f;exact(XB.1 f).1));have f:=W.same l;(have a0:∀ g,(Value.slice F ss.length H).ownBlock=some g->ρ g=.none:=λg c=>by obtain h|h:=Classical.em (ρ g=.none);exact h;have i:=V.lt g h;have i:=(j.lt g c).1;omega);(have J:Maps.size (S.called false).safe+(S.called false).late.length+ss.length<1099511627776:=by show Maps.size S.safe+S.late.length+ss.length<_;omega);change Hid _ at J;clear q A;go_wp2_with fail;refine(Zg f (Z.called false) _ ss _ j a0 R zC J).mono ?_;intro e T U;have c:=U.before<|G.same l;rw[<-b.out] at c;obtain⟨f,f,f,⟨f,rfl⟩|⟨f,v1,rfl,X⟩⟩:=U;all_goals go_wp2;go_ret;exact c
def jd7(k:Nat):Int:=if k=0 then 1 else if k=2 then 7 else 6
theorem jbg(S:Xv E B w)(h:Err E w v k):Calls prog 25 #[v] w λe w'=>e=.returned (aA (jd7 k))/\w'=w:=by
 have s0:=S.cell 0 zE;have i:=S.cell 2 zE;obtain⟨t,a,rfl⟩:=h.shape;obtain⟨n,b⟩:=zJ (jd7 k);rw[<-b];unfold jd7 at b;by_cases h1:k=0
 .rw[if_pos h1] at b;subst b;(have d:decide (k=0)=true:=by simp[h1]);clear h1;go_enter func25,ntmps25;go_wp2_with fail;refine(wo S h 0 zE).mono ?_;rintro e f ⟨rfl,rfl⟩;rw[d];go_wp2;go_ret;exact⟨rfl,rfl⟩
 .rw[if_neg h1] at b;(have d:decide (k=0)=false:=by simp[h1]);clear h1;by_cases h2:k=2;(· rw[if_pos h2] at b;subst b;(have c:decide (k=2)=true:=by simp[h2]);clear h2;go_enter func25,ntmps25;go_wp2_with fail;refine(wo S h 0 zE).mono ?_;rintro e f ⟨rfl,rfl⟩;rw[d];go_wp2_with fail;refine(wo S h 2 zE).mono ?_;rintro e g ⟨rfl,rfl⟩;rw[c];go_wp2;go_ret;exact⟨rfl,rfl⟩);· rw[if_neg h2] at b;subst b;(have c:decide (k=2)=false:=by simp[h2]);clear h2;go_enter func25,ntmps25;go_wp2_with fail;refine(wo S h 0 zE).mono ?_;rintro e f ⟨rfl,rfl⟩;rw[d];go_wp2_with fail;refine(wo S h 2 zE).mono ?_;rintro e g ⟨rfl,rfl⟩;rw[c];go_wp2;go_ret;exact⟨rfl,rfl⟩
abbrev ql(dv nx la lo ba ru last mv:Value)(deg cl:Bool):Array Value:=#[dv,nx,la,lo,ba,ru,last,mv,.bool deg,.bool cl]
def Xz(deg cl:Bool):Int:=if cl=true then 3 else if deg=true then 4 else 0
theorem J5{last:Value}{cl:Bool}(c:w.heap[b]?=some (.cells (ql dv nx la lo ba ru last mv deg cl) t (0,0))):Calls prog 27 #[P1 b] w λe w'=>e=.returned (aA (Xz deg cl))/\w'=w:=by have f:=zK 8 c;have d:=zK 9 c;simp at f d;clear c;cases cl<;>cases deg;all_goals go_enter func27,ntmps27;go_wp2;go_ret;exact⟨rfl,rfl⟩
theorem mh{last:Value}{cl:Bool}(c:w.heap[b]?=some (.cells (ql dv nx la lo ba ru last mv deg cl) t (0,0))):Calls prog 32 #[P1 b] w λe w'=>e=.returned (aA 1)/\w'.heap[b]?=some (.cells (ql dv nx la lo ba ru last mv true cl) t (0,0))/\ja w w' (λi=>i=b):=by have d:=zK 8 c;have f:=zL 8 c;simp at d;change Hid _ at c;go_enter func32,ntmps32;go_wp2;go_ret;exact⟨rfl,(jc c _).trans rfl,ja.setCell w _ _⟩
theorem Vx{last:Value}{cl:Bool}(c:w.heap[b]?=some (.cells (ql dv nx la lo ba ru last mv deg cl) t (0,0))):Calls prog 97 #[P1 b] w λe w'=>e=.returned (.tuple #[])/\w'.heap[b]?=some (.cells (ql (.pointer none) nx la lo ba ru last S5 deg true) t (0,0))/\ja w w' (λi=>i=b):=by have g:=zK 0 c;have f:=zK 7 c;have d:=zK 9 c;have l:=zL 0 c;have k:=zL 7 c;have j:=zL 9 c;simp at g f d;change Hid _ at c;go_enter func97,ntmps97;go_wp2;go_end0;exact⟨rfl,(jc (jc (jc c _) _) _).trans rfl,((ja.setCell w (B1 b 9) _).set (p:=(A2 b)) rfl _).set (p:=(B1 b 7)) rfl _⟩
theorem Se{last:Value}{cl:Bool}(c:w.heap[b]?=some (.cells (ql dv nx la lo ba ru last mv deg cl) t (0,0))):Calls prog 52 #[P1 b] w λe w'=>ja w w' (λi=>i=b)/\((cl=true/\e=.returned (aA 3)/\w'=w)\/(cl=false/\e=.returned (aA 0)/\w'.heap[b]?=some (.cells (ql (.pointer none) nx la lo ba ru last S5 deg true) t (0,0)))):=by have g:=zK 9 c;simp at g;change Hid _ at c;cases cl with|true=>go_enter func52,ntmps52;go_wp2;go_ret;exact⟨ja.refl _ _,.inl ⟨by first|trivial|rfl,rfl,rfl⟩⟩|false=>go_enter func52,ntmps52;go_wp2_with fail;refine(Vx c).mono ?_;rintro e j ⟨rfl,d,f⟩;change Hid _ at d;go_wp2;go_ret;exact⟨f,.inr ⟨by first|trivial|rfl,rfl,d⟩⟩
def Ss(E:Nat->Addr)(B:Nat)(w:World)(ρ:Nat->j4)(d b:Nat)(t:TypeId)(row:Array Value)(S':jd)(w':World):Prop :=
 ∃ ρ',ja w w' (λi=>ρ i≠.none\/i=b)/\(∀ i,i<w.heap.size->ρ' i=ρ i)/\Dk E B w' ρ' d S'/\w'.heap[b]?=some (.cells row t (0,0))
end
section
open RowKit Maps WideShapes Go.Sort Go.Proofs.Tryz
variable {α:Type} {ds n nm sr:Str} {D:DataW Nat} {f k m:Nat} {U V:List (Str×List UInt8)} {b c:List UInt8} {ok:Bool}
abbrev Tok:=Str×Nat
def jlb(p:Tok):Lit×DataW Nat:=(.string p.1,.held p.2)
structure di(D:DataW Nat)(T:List Tok):Prop where
 es:∃ es,D=.map es/\es.Perm (T.map jlb)
 apart:T.Pairwise (λp q=>p.1≠q.1)
theorem di.nil:di (.map []) []:=⟨⟨[],rfl,List.Perm.nil⟩,List.Pairwise.nil⟩
def js{α:Type}(T:List (Str×α))(n:Str):List (Str×α):=T.filter (λp=>decide (p.1≠n))
theorem qh{T:List (Str×α)}{p:Str×α}:p∈js T n↔p∈T/\p.1≠n:=by simp[js]
theorem Bb{T:List (Str×α)}(h:T.Pairwise (λp q=>p.1≠q.1))(n:Str):(js T n).Pairwise (λp q=>p.1≠q.1):=h.sublist xQ
theorem Gq(n m:Str):(Lit.string n).sameKey (.string m)=decide (n=m):=by by_cases h:n=m;subst h;rw[WideAt.sameKey_self (by trivial)];simp;grind [sameKey_ne]
theorem Nr(T:List Tok)(n:Str):(T.map jlb).filter (λp=>!p.1.sameKey (.string n))=(js T n).map jlb:=by induction T with|nil=>rfl|cons x r ih=>unfold js at *;rw[XA,List.filter_cons,List.filter_cons];show(if !(Lit.string x.1).sameKey (.string n)then _ else _)=_;grind [Gq]
theorem insert_perm(x:Lit×DataW Nat)(l:List (Lit×DataW Nat)):(DataW.insert x l).Perm (x::l):=by induction l with|nil=>exact List.Perm.refl _|cons y r ih=>unfold DataW.insert;split;exact List.Perm.refl _;exact(ih.cons y).trans<|List.Perm.swap x y r
theorem di.del{T:List Tok}(h:di D T)(n:Str):di (D.del (.string n)) (js T n):=by obtain⟨⟨es,rfl,q⟩,a⟩:=h;exact⟨⟨_,rfl,by grind [Nr]⟩,Bb a n⟩
theorem di.put{T:List Tok}(h:di D T)(n:Str)(f:Nat):di (D.put (.string n) (.held f)) ((n,f)::js T n):=by obtain⟨⟨es,rfl,q⟩,a⟩:=h;refine⟨⟨_,rfl,(insert_perm _ _).trans ?_⟩,XC.2 ⟨λp d=>Ne.symm (qh.1 d).2,Bb a n⟩⟩;rw[XA,<-Nr];exact(q.filter _).cons _
theorem di.at{T:List Tok}(h:di D T)(b:(n,f)∈T)(z:DataW Nat):D.atKey (.string n) z=.held f:=by obtain⟨⟨es,rfl,q⟩,a⟩:=h;have c:=q.mem_iff.2<|xR.2 ⟨_,b,rfl⟩;exact WideAt.atKey_mem (k:=.string n) z (by trivial) (by refine(q.pairwise_iff λe=>Ne.symm e).2 ?_;rw[XD];exact a.imp (λh e=>h<|by injection e)) c
theorem di.none{T:List Tok}(h:di D T)(c:∀ f,(n,f)∉T)(z:DataW Nat):D.atKey (.string n) z=z:=by
 obtain⟨⟨es,rfl,q⟩,a⟩:=h;have:es.find? (λp=>p.1.sameKey<|.string n)=Option.none:=by(refine List.find?_eq_none.2 λp d=>?_);obtain⟨t,b,rfl⟩:=xR.1<|q.mem_iff.1 d;show ¬(Lit.string t.1).sameKey (.string n)=true;grind [Gq]
 simp only[DataW.atKey,this]
theorem C4{l m:List Nat}(p:l.Perm m):l.sum=m.sum:=by grind
theorem di.total{T:List Tok}(h:di D T)(fs:Nat->Option j2):total fs D=(T.map (λp=>((fs p.2).elim 0 (λa=>a.bytes.length)))).sum:=by obtain⟨⟨es,rfl,q⟩,a⟩:=h;unfold Go.Proofs.YtdaocdiabffpkaaGreatDoor.total;rw[C4 ((show(entriesOf<|.map es)=es from rfl)▸(q.map _))];rw[List.map_map];rfl
theorem di.keys{T:List Tok}(h:di D T):(strKeys D).Perm (T.map Prod.fst):=by obtain⟨⟨es,rfl,q⟩,a⟩:=h;unfold strKeys;refine(q.map _).trans ?_;rw[List.map_map];exact List.Perm.of_eq<|XE λp _=>rfl
theorem di.size{T:List Tok}(h:di D T):Maps.size D=T.length:=by obtain⟨⟨es,rfl,q⟩,a⟩:=h;show es.length=_;rw[q.length_eq,XF]
structure Fs(S:jd)(T:List Tok):Prop where
 Z9:di S.names T
 files:∀ p∈T,∃ a,S.files p.2=some a
 apart:T.Pairwise (λp q=>p.2≠q.2)
def y9(fs:Nat->Option j2)(f:Nat):By:=(fs f).elim [] j2.bytes
def Jl(fs:Nat->Option j2)(T:List Tok):List (Str×By):=T.map (λp=>(p.1,y9 fs p.2))
def View(S:jd)(V:List (Str×By)):Prop:=∃ T,Fs S T/\V.Perm (Jl S.files T)
def Yc(V:List (Str×By))(n:Str)(b:By):List (Str×By):=(n,b)::js V n
def qe(V:List (Str×By)):Nat:=(V.map (λp=>p.2.length)).sum
theorem Ku(p:V.Perm U):qe V=qe U:=C4<|p.map _
theorem Yk(p:Str×By)(V:List (Str×By)):qe (p::V)=p.2.length+qe V:=by simp[qe]
theorem zi(V:List (Str×By))(n:Str):qe (js V n)<=qe V:=by induction V with|nil=>simp[js,qe]|cons x r ih=>grind [js,Yk]
theorem Bc(h:V.Pairwise (λp q=>p.1≠q.1))(c:(n,b)∈V):qe (js V n)+b.length=qe V:=by induction V with|nil=>cases c|cons x r ih=>grind [XC,js,XG,qe]
theorem Sz{V:List (Str×α)}(h:∀ b,(n,b)∉V):js V n=V:=XG.2 (λp d=>zF)
theorem View.perm{S:jd}(h:View S V)(p:U.Perm V):View S U:=by obtain⟨T,F,q⟩:=h;exact⟨T,F,p.trans q⟩
theorem ah(fs:Nat->Option j2)(T:List Tok)(n:Str):js (Jl fs T) n=Jl fs (js T n):=by unfold Jl js;rw[List.filter_map];rfl
theorem View.apart{S:jd}(h:View S V):V.Pairwise (λp q=>p.1≠q.1):=by obtain⟨T,F,q⟩:=h;refine(q.pairwise_iff λe=>Ne.symm e).2 ?_;unfold Jl;rw[XD];exact F.Z9.apart
theorem Fs.at{S:jd}{T:List Tok}(h:Fs S T):S.at n=some f↔(n,f)∈T:=by unfold jd.at;constructor;intro e;obtain⟨g,b⟩|c:=Classical.em (∃ g,(n,g)∈T);rw[h.Z9.at b] at e;cases e;exact b;rw[h.Z9.none (λf d=>c ⟨f,d⟩)] at e;cases e;intro e;rw[h.Z9.at e];rfl
theorem View.get{S:jd}(h:View S V)(d:(n,b)∈V):∃ f a,S.at n=some f/\S.files f=some a/\a.bytes=b:=by obtain⟨T,F,q⟩:=h;obtain⟨t,c,e⟩:=xR.1<|q.mem_iff.1 d;obtain⟨a,g⟩:=F.files t c;injection e with e1 e2;refine⟨t.2,a,?_,g,?_⟩;rw[F.at,<-e1];exact c;grind [y9]
theorem View.of{S:jd}(h:View S V){a:j2}(c:S.at n=some f)(b:S.files f=some a):(n,a.bytes)∈V:=by obtain⟨T,F,q⟩:=h;refine q.mem_iff.2<|xR.2 ⟨(n,f),F.at.1 c,?_⟩;unfold y9;rw[b];rfl
theorem View.none{S:jd}(h:View S V)(c:∀ b,(n,b)∉V):S.at n=Option.none:=by cases e:S.at n with|none=>rfl|some f=>have g:=h;obtain⟨T,F,q⟩:=h;obtain⟨a,d⟩:=F.files _<|F.at.1 e;exact(c _ (g.of e d)).elim
theorem View.one{S:jd}(h:View S V)(j:(n,b)∈V)(i:(n,c)∈V):b=c:=by obtain⟨f,a,o,m,rfl⟩:=h.get j;obtain⟨g,d,l,k,rfl⟩:=h.get i;simp_all
theorem View.total{S:jd}(h:View S V):total S.files S.names=qe V:=by
 obtain⟨T,F,q⟩:=h;rw[F.Z9.total,Ku q];unfold qe Jl;rw[List.map_map];congr 1;refine XE λp _=>?_
 simp only[Function.comp,y9];cases S.files p.2<;>rfl
theorem View.keys{S:jd}(h:View S V):S.keys.Perm (V.map Prod.fst):=by obtain⟨T,F,q⟩:=h;unfold jd.keys;refine(List.mergeSort_perm _ _).trans<|F.Z9.keys.trans ?_;have:=q.map Prod.fst;unfold Jl at this;rw[List.map_map] at this;exact this.symm
theorem View.count{S:jd}(h:View S V):Maps.size S.names=V.length:=by obtain⟨T,F,q⟩:=h;rw[F.Z9.size,q.length_eq];simp[Jl]
theorem View.Jc{S S':jd}(h:View S V)(c:S'.names=S.names)(b:S'.files=S.files):View S' V:=by obtain⟨T,F,q⟩:=h;exact⟨T,⟨c▸F.Z9,by rw[b];exact F.files,F.apart⟩,by rw[b];exact q⟩
theorem View.called{S:jd}(h:View S V)(b:Bool):View (S.called b) V:=h.Jc rfl rfl
theorem View.write{S:jd}(h:View S V)(o:S.at n=some f)(a':j2):View (S.withFile f a') (Yc V n a'.bytes):=by
 obtain⟨T,F,q⟩:=h;have d:=F.at.1 o;refine⟨T,⟨F.Z9,λp c=>?_,F.apart⟩,?_⟩;by_cases e:p.2=f;exact⟨a',by simp[jd.withFile,e]⟩;obtain⟨a,k⟩:=F.files p c;grind [jd.withFile];have m:T.Perm ((n,f)::js T n):=by(have H:∀ {T:List Tok},T.Pairwise (λp q=>p.1≠q.1)->(n,f)∈T->T.Perm ((n,f)::js T n):=by intro T;induction T with|nil=>intro _ h;cases h|cons x r ih=>intro c d;obtain⟨t,s⟩:=XC.1 c;obtain rfl|d:=xN.1 d;grind [js,XG];grind [js]);exact H F.Z9.apart d
 have l:(js V n).Perm (Jl S.files<|js T n):=by rw[<-ah];exact q.filter _
 have e:Jl (S.withFile f a').files ((n,f)::js T n)=(n,a'.bytes)::Jl S.files (js T n):=by unfold Jl;rw[XA];congr 1;simp[y9,jd.withFile];(refine XE λp c=>?_);obtain⟨i,g⟩:=qh.1 c;(have j:p.2≠f:=by intro e;(have H:∀ {T:List Tok},T.Pairwise (λp q=>p.2≠q.2)->∀ a∈T,∀ b∈T,a.2=b.2->a=b:=by intro T;induction T with|nil=>intro _ a k;cases k|cons x r ih=>grind [XC]);have:=H F.apart p i (n,f) d e;exact g (by rw[this]));simp[y9,jd.withFile,j]
 exact(l.cons _).trans<|(List.Perm.of_eq e.symm).trans ((m.map _).symm)
theorem jgo(h:V.Pairwise (λp q=>p.1≠q.1))(c:(n,b)∈V):V.Perm (Yc V n b):=by unfold Yc;induction V with|nil=>cases c|cons x r ih=>obtain⟨f,d⟩:=XC.1 h;obtain rfl|c:=xN.1 c;grind [js,XG];grind [js]
theorem View.synced{S:jd}(h:View S V){a:j2}(b:S.at n=some f)(c:S.files f=some a):View (S.withFile f a.synced) V:=by exact(h.write b a.synced).perm<|jgo h.apart (by have:=h.of b c;exact this)
theorem View.create{S:jd}(h:View S V)(i:S.files f=Option.none)(k:n≠[]):View ((S.withFile f qg).named ⟨n,[],[],some f⟩) (Yc V n []):=by
 obtain⟨T,F,q⟩:=h;have j:(((S.withFile f qg).named ⟨n,[],[],some f⟩)).names=S.names.put (.string n) (.held f):=by grind [jd.named,doA,o7,jd.withFile]
 have c:∀ p∈js T n,p.2≠f:=λp b e=>by obtain⟨a,d⟩:=F.files p (qh.1 b).1;rw[e,i] at d;cases d
 refine⟨(n,f)::js T n,⟨by rw[j];exact F.Z9.put n f,λp b=>?_,XC.2 ⟨λp b=>Ne.symm<|c p b,F.apart.sublist xQ⟩⟩,?_⟩;obtain rfl|b:=xN.1 b;exact⟨qg,by simp[jd.named,jd.withFile]⟩;obtain⟨a,d⟩:=F.files p (qh.1 b).1;exact⟨a,by grind [jd.named,jd.withFile]⟩;have g:(js V n).Perm (Jl S.files<|js T n):=by rw[<-ah];exact q.filter _
 refine(g.cons (n,[])).trans<|List.Perm.of_eq ?_;grind [Jl,y9,jd.named,jd.withFile,qg]
theorem View.dt{S:jd}(h:View S V)(n:Str):View (S.named ⟨[],n,[],Option.none⟩) (js V n):=by obtain⟨T,F,q⟩:=h;refine⟨js T n,⟨?_,λp d=>F.files p (qh.1 d).1,F.apart.sublist xQ⟩,?_⟩;show di (doA S.names ⟨[],n,[],Option.none⟩) _;exact F.Z9.del n;rw[<-ah];exact q.filter _
theorem View.renamed{S:jd}(h:View S V)(o:ds≠[])(i:ds≠sr){a:j2}(n:S.at sr=some f)(g:S.files f=some a):View (S.named ⟨[],sr,ds,some f⟩) (Yc (js V sr) ds a.bytes):=by
 obtain⟨T,F,q⟩:=h;have m:(S.named ⟨[],sr,ds,some f⟩).names=(S.names.put (.string ds)<|.held f).del (.string sr):=by grind [jd.named,doA,o7]
 have j:=(F.Z9.put ds f).del sr;have e:js ((ds,f)::js T ds) sr=(ds,f)::js (js T sr) ds:=by unfold js;rw[List.filter_cons_of_pos (by simpa using i),List.filter_filter,List.filter_filter];grind
 rw[e] at j;have c:∀ p∈js (js T sr) ds,p.2≠f:=λp d e=>by have k:=(qh.1 (qh.1 d).1);(have H:∀ {T:List Tok},T.Pairwise (λp q=>p.2≠q.2)->∀ a∈T,∀ b∈T,a.2=b.2->a=b:=by intro T;induction T with|nil=>intro _ a g;cases g|cons x r ih=>grind [XC]);exact k.2 (by rw[H F.apart p k.1 (sr,f) (F.at.1 n) e])
 refine⟨(ds,f)::js (js T sr) ds,⟨by rw[m];exact j,λp d=>?_,XC.2 ⟨λp d=>Ne.symm<|c p d,(F.apart.sublist xQ).sublist xQ⟩⟩,?_⟩;obtain rfl|d:=xN.1 d;exact⟨a,g⟩;exact F.files p (qh.1 (qh.1 d).1).1;have l:(js (js V sr) ds).Perm (Jl S.files<|js (js T sr) ds):=by rw[<-ah,<-ah];exact(q.filter _).filter _
 refine(l.cons (ds,a.bytes)).trans<|List.Perm.of_eq ?_;grind [Jl,y9,jd.named]
structure Fit(k:Nat)(S:jd):Prop where
 fs:∃ T,Fs S T
 names:Maps.size S.names<=k
 safe:Maps.size S.safe+S.late.length<=k
 Aw:IsMap S.safe
 files:∀ f a,S.files f=some a->a.bytes.length<=k/\a.late.length<=k/\a.safe<=k
 total:total S.files S.names<=k
 keys:∀ n∈S.keys,n.length<=k
theorem Fit.view{S:jd}(h:Fit k S):∃ V,View S V:=by obtain⟨T,F⟩:=h.fs;exact⟨_,T,F,List.Perm.refl _⟩
theorem View.fs{S:jd}(h:View S V):∃ T,Fs S T:=by obtain⟨T,F,_⟩:=h;exact⟨T,F⟩
theorem Fit.mono{S:jd}(h:Fit k S)(b:k<=m):Fit m S:=⟨h.fs,zW h.names b,zW h.safe b,h.Aw,λf a d=>⟨zW (h.files f a d).1 b,zW (h.files f a d).2.1 b,zW (h.files f a d).2.2 b⟩,zW h.total b,λn d=>zW (h.keys n d) b⟩
theorem Fit.small{S:jd}(h:Fit k S)(b:k<549755813888):Small S:=⟨zA h.names,zA h.safe,zA h.safe,λf a d=>zA<|h.files f a d⟩
theorem Fit.Jc{S S':jd}(h:Fit k S)(b:S'.names=S.names)(c:S'.files=S.files)(d:S'.safe=S.safe)(g:S'.late=S.late):Fit k S':=by obtain⟨V,f⟩:=h.view;exact⟨(f.Jc b c).fs,by rw[b];exact h.names,by rw[d,g];exact h.safe,by rw[d];exact h.Aw,by rw[c];exact h.files,by rw[b,c];exact h.total,by unfold jd.keys;rw[b];exact h.keys⟩
theorem Fit.called{S:jd}(h:Fit k S)(b:Bool):Fit k (S.called b):=h.Jc rfl rfl rfl rfl
theorem Fit.write{S:jd}(h:Fit k S){a:j2}(l:S.at n=some f)(i:S.files f=some a){c:Nat}{a':j2}(r:a'.bytes.length<=a.bytes.length+c)(q:a'.late.length<=a.late.length+c)(p:a'.safe<=k+c):Fit (k+c) (S.withFile f a'):=by
 obtain⟨V,d⟩:=h.view;have j:=d.write l a';have m:=d.of l i;refine⟨j.fs,zW h.names zC,zW h.safe zC,h.Aw,λg b o=>?_,?_,λn s=>zW (h.keys n s) zC⟩;by_cases e:g=f;simp[jd.withFile,e] at o;subst o;have:=h.files f a i;omega;simp[jd.withFile,e] at o;have:=h.files g b o;omega
 .rw[j.total];have s:=Bc d.apart m;have o:=h.total;rw[d.total] at o;grind [Yc,qe]
theorem Fit.synced{S:jd}(h:Fit k S){a:j2}(d:S.at n=some f)(b:S.files f=some a):Fit k (S.withFile f a.synced):=h.write (c:=0) d b (by simp[j2.synced]) (by simp[j2.synced]) (by have:=h.files f a b;simp[j2.synced];omega)
theorem Fit.put{S:jd}(h:Fit k S){a:j2}(c:S.at n=some f)(b:S.files f=some a)(src:By):Fit (k+src.length) (S.withFile f (a.put src)):=by
 have d:=h.files f a b;by_cases e:src=[]
 .refine h.write c b ?_ ?_ ?_;all_goals grind [j2.put]
 .have:0<src.length:=XH.2 e;refine h.write c b ?_ ?_ ?_;all_goals grind [j2.put]
theorem Vv(D:DataW Nat)(k:Lit)(d:DataW Nat):Maps.size (D.put k d)<=Maps.size D+1:=by cases D with|map es=>show(DataW.insert (k,d)<|es.filter λp=>!p.1.sameKey k).length<=es.length+1;rw[(insert_perm _ _).length_eq,xC];grind|_=>exact Nat.le_succ _
theorem Vw(D:DataW Nat)(k:Lit):Maps.size (D.del k)<=Maps.size D:=by cases D with|map es=>exact ZK _ _|_=>exact ZG _
theorem Li(D:DataW Nat)(c:zh):Maps.size (doA D c)<=Maps.size D+1:=by grind [doA,Vv,Vw]
theorem jg6(h:IsMap D)(c:zh):IsMap (doA D c):=by unfold doA;split;exact h.put _ _;split;split;exact(h.put _ _).del _;exact h.put _ _;exact h.del _
theorem O4(l:List zh)(D:DataW Nat):Maps.size (l.foldl doA D)<=Maps.size D+l.length:=by induction l generalizing D with|nil=>exact ZG _|cons c r ih=>grind [Li]
theorem jay(l:List zh)(h:IsMap D):IsMap (l.foldl doA D):=by induction l generalizing D with|nil=>exact h|cons c r ih=>exact ih<|jg6 h c
theorem Fit.named{S:jd}(h:Fit k S)(g:View S V){c:zh}(b:View (S.named c) U)(j:qe U<=qe V)(d:∀ n∈U.map Prod.fst,n.length<=k+m):Fit (k+1+m) (S.named c):=by
 have p:=Li S.names c;have o:=h.names;have l:=h.safe;have i:=h.total;rw[g.total] at i;refine⟨b.fs,by show Maps.size (doA S.names c)<=_;omega,?_,h.Aw,λf a i=>?_,?_,λn l=>?_⟩
 .show Maps.size S.safe+(S.late++[c]).length<=_;grind
 have:=h.files f a i;omega;rw[b.total];omega;have:=d n<|b.keys.mem_iff.1 l;omega
theorem Fit.key{S:jd}(h:Fit k S)(b:View S V):∀ n∈V.map Prod.fst,n.length<=k:=λn hn=>h.keys n<|b.keys.mem_iff.2 hn
theorem Vj{m:Str}(h:m∈(Yc V n b).map Prod.fst):m=n\/m∈V.map Prod.fst:=by grind [Yc,qh]
theorem Fit.create{S:jd}(h:Fit k S)(i:S.files f=none)(o:n≠[]):Fit (k+1+n.length) ((S.withFile f qg).named ⟨n,[],[],some f⟩):=by
 obtain⟨V,j⟩:=h.view;have r:=j.create i o;obtain⟨T,F,q⟩:=j;have s:∀ p∈T,p.2≠f:=λp g e=>by obtain⟨a,d⟩:=F.files p g;rw[e,i] at d;cases d
 have b:View (S.withFile f qg) V:=by refine⟨T,⟨F.Z9,λp g=>?_,F.apart⟩,q.trans<|List.Perm.of_eq ?_⟩;(· obtain⟨a,d⟩:=F.files p g;exact⟨a,by grind [jd.withFile]⟩);· (refine XE λp g=>?_);grind [y9,jd.withFile]
 have l:Fit k (S.withFile f qg):=by refine⟨b.fs,h.names,h.safe,h.Aw,λg a d=>?_,?_,h.keys⟩;(· by_cases e:g=f;(· grind [jd.withFile,qg]);· simp[jd.withFile,e] at d;exact h.files g a d);· rw[b.total];have:=h.total;rwa [View.total ⟨T,F,q⟩] at this
 refine l.named b r ?_ (λm c=>?_)
 .grind [Yc,zi,qe]
 .obtain rfl|c:=Vj c;(· omega);· have:=l.key b m c;omega
theorem Fit.dt{S:jd}(h:Fit k S)(n:Str):Fit (k+1) (S.named ⟨[],n,[],none⟩):=by
 obtain⟨V,b⟩:=h.view;refine h.named (m:=0) b (b.dt n) (zi V n) λm d=>?_
 obtain⟨p,c,e⟩:=xR.1 d;exact h.key b m<|xR.2 ⟨p,(qh.1 c).1,e⟩
theorem Fit.renamed{S:jd}(h:Fit k S)(g:ds≠[])(d:ds≠sr){a:j2}(j:S.at sr=some f)(i:S.files f=some a):Fit (k+1+ds.length) (S.named ⟨[],sr,ds,some f⟩):=by
 obtain⟨V,b⟩:=h.view;have n:=b.renamed g d j i;refine h.named (m:=ds.length) b n ?_ λm c=>?_
 .have o:=Bc b.apart<|b.of j i;grind [zi,Yc,Yk]
 obtain rfl|c:=Vj c;omega;obtain⟨p,l,e⟩:=xR.1 c;have:=h.key b m<|xR.2 ⟨p,(qh.1 l).1,e⟩;omega
theorem Fit.Za{S:jd}(h:Fit k S):Fit k S.Za.1:=by
 unfold jd.Za;split;exact h.called true
 .have d:=O4 S.late S.safe;have c:=h.safe;obtain⟨V,b⟩:=h.view;exact⟨(b.Jc (S':={ S.called true with safe:=S.late.foldl doA S.safe,late:=[] }) rfl rfl).fs,h.names,by show Maps.size (S.late.foldl doA S.safe)+0<=k;omega,jay _ h.Aw,h.files,h.total,h.keys⟩
theorem Fit.qo{S:jd}(h:Fit k S)(n:Str):Fit k (S.qo n).1:=by unfold jd.qo;split;exact h.called true;split;exact h.called true;rename_i f hA;split;exact h.called true;rename_i a ha;exact(h.called true).synced (n:=n) hA ha
theorem Fit.x8{S:jd}(h:Fit k S)(ns:List Str):Fit k (jd.x8 ns S).1:=by induction ns generalizing S with|nil=>exact h.Za|cons n r ih=>unfold jd.x8;split;exact ih<|h.qo n;exact h.qo n
theorem Fit.xw{S:jd}(h:Fit k S)(n:Str):Fit (k+1) (S.xw n).1:=by unfold jd.xw;split;exact(h.called true).mono zC;split;exact(h.called true).mono zC;exact(h.called true).dt n
theorem Fit.qz{S:jd}(h:Fit k S)(b:ds≠sr):Fit (k+1+ds.length) (S.qz sr ds).1:=by unfold jd.qz;split;exact(h.called true).mono zC;split;exact(h.called true).mono zC;rename_i f hA;split;exact(h.called true).mono zC;rename_i hds;obtain⟨T,F⟩:=h.fs;obtain⟨a,c⟩:=F.files _<|F.at.1 hA;exact(h.called true).renamed hds b (sr:=sr) hA c
theorem Fit.yj{S:jd}(h:Fit k S)(ns:List Str):Fit (k+ns.length) (jd.yj ns S).1:=by induction ns generalizing S k with|nil=>exact h|cons n r ih=>unfold jd.yj;split;exact(ih<|h.xw n).mono (by rw[xC];omega);exact(h.xw n).mono (by rw[xC];omega)
theorem Fit.x7{F:jd×Bool}(h:Fit k F.1):Fit k (Go.Proofs.YtdaocdiabffpkaaGreatDoor.x7 F).1:=by unfold Go.Proofs.YtdaocdiabffpkaaGreatDoor.x7;split;exact h.Za;exact h
theorem Fit.jt{S:jd}(h:Fit k S)(ns:List Str):Fit (k+ns.length) (jd.jt ns S).1:=by unfold jd.jt;split;exact h.mono zC;exact(h.yj ns).x7
theorem Fit.z8{S:jd}(h:Fit k S)(ks:List Str):Fit (k+S.keys.length) (jd.z8 ks S).1:=by unfold jd.z8;split;exact(h.called false).mono zC;refine((h.called false).jt _).mono ?_;grind [others]
theorem Fit.G9{S:jd}(h:Fit k S):S.keys.length<=k:=by obtain⟨V,b⟩:=h.view;rw[b.keys.length_eq,XF,<-b.count];exact h.names
theorem Fit.new:Fit 0 jd.new:=by
 refine⟨⟨[],⟨di.nil,λp d=>(by cases d),List.Pairwise.nil⟩⟩,ZG _,ZG _,⟨[],rfl⟩,λf a h=>(by cases h),ZG _,λn d=>?_⟩;have:jd.new.keys=[]:=by simp[jd.keys,jd.new,strKeys]
 rw[this] at d;cases d
abbrev DStep:=jd->jd->Bool->Prop
def Fn(f:jd->jd×Bool):DStep:=λS S' ok=>f S=(S',ok)
def ub:List DStep->DStep
 | [],S,S',ok=>S'=S/\ok=true
 | R::r,S,S',ok=>(R S S' false/\ok=false)\/∃ S1,R S S1 true/\ub r S1 S' ok
def Oq(nm:Str)(b:By):DStep:=λS S' ok=>∃ f a,S.at nm=some f/\S.files f=some a /\
 (((S.bad=true\/20000<b.length+total S.files S.names)/\S'=(S.called true).withFile f (a.put (b.take (b.length/2)))/\ok=false) \/
  (S.bad=false/\b.length+total S.files S.names<=20000/\S'=(S.called true).withFile f (a.put b)/\ok=true))
def P6(nm:Str):DStep:=λS S' ok =>
 (S.bad=true/\S'=S.called true/\ok=false)\/(S.bad=false/\ok=true/\∃ f,S.files f=none/\S'=((S.called true).withFile f qg).named ⟨nm,[],[],some f⟩)
def Yf(nm:Str)(b:By):DStep:=if b=[] then P6 nm else ub [P6 nm,Oq nm b]
def jk:Str:=[109,97,110,105,102,101,115,116]
def ju:Str:=[109,97,110,105,102,101,115,116,46,116,109,112]
def za(m:Rf.Man):DStep:=ub [Fn (jd.x8 (jz m)),Yf ju m.bytes,Fn (λS=>S.qo ju),Fn (λS=>x7 (S.qz ju jk))]
theorem Fit.jn5{S S':jd}(h:Fit k S)(r:Oq nm b S S' ok):Fit (k+b.length) S':=by obtain⟨f,a,d,c,⟨_,rfl,_⟩|⟨_,_,rfl,_⟩⟩:=r;exact((h.called true).put (n:=nm) d c _).mono (by rw[ZQ];omega);exact(h.called true).put (n:=nm) d c _
theorem Fit.jmk{S S':jd}(h:Fit k S)(b:nm≠[])(r:P6 nm S S' ok):Fit (k+1+nm.length) S':=by obtain⟨_,rfl,_⟩|⟨_,_,f,c,rfl⟩:=r;exact(h.called true).mono zC;exact(h.called true).create c b
theorem Fit.I1{S S':jd}(h:Fit k S)(c:nm≠[])(r:Yf nm b S S' ok):Fit (k+1+nm.length+b.length) S':=by unfold Yf at r;split at r;exact(h.jmk c r).mono zC;obtain⟨r,_⟩|⟨l,i,g⟩:=r;exact(h.jmk c r).mono zC;have d:=h.jmk c i;obtain⟨r,_⟩|⟨j,f,rfl,_⟩:=g;exact d.jn5 r;exact d.jn5 f
theorem Fit.za{S S':jd}{m:Rf.Man}(h:Fit k S)(r:za m S S' ok):Fit (k+22+m.bytes.length) S':=by
 obtain⟨r,_⟩|⟨u,s,q⟩:=r;have b:=h.x8<|jz m;rw[r] at b;exact b.mono zC
 .have b:=h.x8<|jz m;rw[s] at b;obtain⟨r,_⟩|⟨i,p,o⟩:=q;(· exact(Fit.I1 b zE r).mono (by simp[ju];try omega));· have g:=Fit.I1 b zE p;obtain⟨r,_⟩|⟨f,n,l⟩:=o;(· have c:=g.qo ju;have e:i.qo ju=(S',false):=r;rw[e] at c;exact c.mono (by simp[ju];try omega));have c:=g.qo ju;have e:i.qo ju=(f,true):=n;rw[e] at c;have d:=(Fit.qz (ds:=jk) (sr:=ju) c zE).x7;obtain⟨r,_⟩|⟨t,j,rfl,_⟩:=l;have e:Go.Proofs.YtdaocdiabffpkaaGreatDoor.x7 (f.qz ju jk)=(S',false):=r;rw[e] at d;exact d.mono (by simp[ju,jk];omega);have e:Go.Proofs.YtdaocdiabffpkaaGreatDoor.x7 (f.qz ju jk)=(S',true):=j;rw[e] at d;exact d.mono (by simp[ju,jk];omega)
structure qi(S:jd):Prop where
 fail:S.fail = -1
 cut:S.cut = -1
theorem qi.bad{S:jd}(h:qi S):S.bad=false:=by simp[jd.bad,h.fail,h.cut]
theorem qi.called{S:jd}(h:qi S)(b:Bool):qi (S.called b):=⟨by simp[jd.called,h.fail],by simp[jd.called,h.cut]⟩
theorem qi.Jc{S S':jd}(h:qi S)(c:S'.fail=S.fail)(b:S'.cut=S.cut):qi S':=⟨c.trans h.fail,b.trans h.cut⟩
theorem qi.new:qi jd.new:=⟨rfl,rfl⟩
theorem qi.sync{S:jd}(h:qi S)(d:View S V)(i:(n,b)∈V):(S.qo n).2=true/\qi (S.qo n).1/\View (S.qo n).1 V:=by
 obtain⟨f,a,g,c,_⟩:=d.get i;have e:S.qo n=((S.called true).withFile f a.synced,true):=by unfold jd.qo;rw[if_neg (by rw[h.bad];decide),g];simp only[c]
 rw[e];exact⟨rfl,(h.called true).Jc rfl rfl,(d.called true).synced (n:=n) g c⟩
theorem qi.dir{S:jd}(h:qi S)(b:View S V):S.Za.2=true/\qi S.Za.1/\View S.Za.1 V/\S.Za.1.late=[]:=by unfold jd.Za;rw[if_neg (by rw[h.bad];decide)];exact⟨rfl,(h.called true).Jc rfl rfl,b.Jc rfl rfl,rfl⟩
theorem qi.sure{S:jd}(h:qi S)(c:View S V)(ns:List Str)(d:∀ n∈ns,∃ b,(n,b)∈V):(jd.x8 ns S).2=true/\qi (jd.x8 ns S).1/\View (jd.x8 ns S).1 V/\(jd.x8 ns S).1.late=[]:=by induction ns generalizing S with|nil=>exact h.dir c|cons n r ih=>obtain⟨b,f⟩:=d n xO;obtain⟨j,i,g⟩:=h.sync c f;grind [jd.x8]
theorem qi.app{S S':jd}(h:qi S)(j:View S V)(l:(nm,c)∈V)(o:b.length+qe V<=20000)(r:Oq nm b S S' ok):ok=true/\qi S'/\View S' (Yc V nm (c++b)):=by obtain⟨f,a,k,m,⟨d,_,_⟩|⟨_,_,rfl,rfl⟩⟩:=r;obtain d|d:=d;rw[h.bad] at d;cases d;rw[j.total] at d;omega;obtain⟨p,a',i,g,e⟩:=j.get l;rw[k] at i;cases i;rw[m] at g;cases g;refine⟨rfl,(h.called true).Jc rfl rfl,?_⟩;have:=(j.called true).write (n:=nm) k<|a.put b;grind [j2.put]
theorem qi.cre{S S':jd}(h:qi S)(c:nm≠[])(g:View S V)(r:P6 nm S S' ok):ok=true/\qi S'/\View S' (Yc V nm []):=by obtain⟨b,_,_⟩|⟨_,rfl,f,d,rfl⟩:=r;rw[h.bad] at b;cases b;exact⟨rfl,(h.called true).Jc rfl rfl,(g.called true).create d c⟩
theorem Cy(V:List (Str×α))(n:Str):js (js V n) n=js V n:=by grind [js,List.filter_filter]
theorem kz(V:List (Str×α))(n:Str)(b:α):js ((n,b)::V) n=js V n:=by grind [js]
theorem jfz(V:List (Str×By))(n:Str)(b c:By):Yc (Yc V n b) n c=Yc V n c:=by unfold Yc;rw[kz,Cy]
theorem qi.lay{S S':jd}(h:qi S)(d:nm≠[])(f:View S V)(n:b.length+qe (js V nm)<=20000)(r:Yf nm b S S' ok):ok=true/\qi S'/\View S' (Yc V nm b):=by
 unfold Yf at r;split at r;rename_i e;rw[e];exact h.cre d f r;obtain⟨r,_⟩|⟨q,l,k⟩:=r;obtain⟨e,_⟩:=h.cre d f r;cases e;obtain⟨_,i,c⟩:=h.cre d f l;have g:b.length+qe (Yc V nm [])<=20000:=by grind [Yc,qe]
 obtain⟨r,_⟩|⟨p,j,rfl,rfl⟩:=k;obtain⟨e,_⟩:=i.app c xO g r;cases e;obtain⟨_,o,m⟩:=i.app c xO g j;grind [jfz]
theorem qi.rename{S:jd}(h:qi S)(c:ds≠[])(g:ds≠sr)(i:View S V)(k:(sr,b)∈V):(x7 (S.qz sr ds)).2=true/\qi (x7 (S.qz sr ds)).1/\View (x7 (S.qz sr ds)).1 (Yc (js V sr) ds b)/\(x7 (S.qz sr ds)).1.late=[]:=by
 obtain⟨f,a,j,l,e⟩:=i.get k;have n:S.qz sr ds=((S.called true).named ⟨[],sr,ds,some f⟩,true):=by unfold jd.qz;rw[if_neg (by rw[h.bad];decide),j];simp only[c,if_false]
 have d:=(i.called true).renamed c g (sr:=sr) j l;rw[e] at d;unfold x7;rw[n];have m:qi ((S.called true).named ⟨[],sr,ds,some f⟩):=(h.called true).Jc rfl rfl;exact m.dir d
theorem qi.remove{S:jd}(h:qi S)(c:View S V)(d:(n,b)∈V):(S.xw n).2=true/\qi (S.xw n).1/\View (S.xw n).1 (js V n):=by
 obtain⟨f,a,g,j,e⟩:=c.get d;have i:S.xw n=((S.called true).named ⟨[],n,[],none⟩,true):=by unfold jd.xw;rw[if_neg (by rw[h.bad];decide),g]
 rw[i];exact⟨rfl,(h.called true).Jc rfl rfl,(c.called true).dt n⟩
theorem qi.Ze{S:jd}(h:qi S)(c:View S V)(ns:List Str)(f:ns.Nodup)(d:∀ n∈ns,∃ b,(n,b)∈V):(jd.yj ns S).2=true/\qi (jd.yj ns S).1/\View (jd.yj ns S).1 (V.filter (λp=>decide (p.1∉ns))):=by induction ns generalizing S V with|nil=>refine⟨rfl,h,?_⟩;rw[XG.2 (λp _=>zD)];exact c|cons n r ih=>obtain⟨b,g⟩:=d n xO;obtain⟨k,j,i⟩:=h.remove c g;obtain⟨s,q⟩:=XI.1 f;unfold jd.yj;rw[if_pos k];obtain⟨o,m,l⟩:=ih j i q (λx g=>by grind [qh]);refine⟨o,m,?_⟩;(have e:(js V n).filter (λp=>decide (p.1∉r))=V.filter (λp=>decide (p.1∉n::r)):=by unfold js;rw[List.filter_filter];grind);rwa [e] at l
theorem qi.removeAll{S:jd}(h:qi S)(f:View S V)(ns:List Str)(d:ns.Nodup)(c:∀ n∈ns,∃ b,(n,b)∈V):(jd.jt ns S).2=true/\qi (jd.jt ns S).1/\View (jd.jt ns S).1 (V.filter (λp=>decide (p.1∉ns)))/\(S.late=[]->(jd.jt ns S).1.late=[]):=by unfold jd.jt;split;grind [XG];obtain⟨j,i,g⟩:=h.Ze f ns d c;unfold x7;rw[if_pos j];obtain⟨o,m,l,k⟩:=i.dir g;simp_all
theorem View.jg3{S:jd}(h:View S V):S.keys.Nodup:=by refine(h.keys.nodup_iff).2 ?_;unfold List.Nodup;rw[XD];exact h.apart
theorem l9:jk≠[]/\ju≠[]/\jk≠ju:=by decide
theorem qi.install{S S':jd}{m:Rf.Man}(h:qi S)(A:View S V)(z:∀ n∈jz m,∃ b,(n,b)∈V)(l:m.bytes.length+qe (js V ju)<=20000)(r:za m S S' ok):ok=true/\qi S'/\View S' (Yc (js V ju) jk m.bytes)/\S'.late=[]:=by obtain⟨o,d,c,_⟩:=h.sure A _ z;obtain⟨r,_⟩|⟨C,y,x⟩:=r;rw[r] at o;cases o;have e:jd.x8 (jz m) S=(C,true):=y;rw[e] at d c;obtain⟨r,_⟩|⟨p,v,u⟩:=x;obtain⟨e,_⟩:=d.lay l9.2.1 c l r;cases e;obtain⟨_,B,v2⟩:=d.lay l9.2.1 c l v;obtain⟨k,j,i⟩:=B.sync v2 (n:=ju) xO;obtain⟨r,_⟩|⟨f,t,s⟩:=u;have e:p.qo ju=(S',false):=r;rw[e] at k;cases k;have e:p.qo ju=(f,true):=t;rw[e] at j i;obtain⟨g,F,E,D⟩:=j.rename (sr:=ju) (ds:=jk) l9.1 l9.2.2 i xO;obtain⟨r,_⟩|⟨G,q,rfl,rfl⟩:=s;have e:x7 (f.qz ju jk)=(S',false):=r;rw[e] at g;cases g;have e:x7 (f.qz ju jk)=(S',true):=q;grind [Yc,kz,Cy]
end
section
open RowKit Maps WideShapes Go.Proofs.Tryz
variable {E:Nat->Addr} {B d:Nat} {w:World}
def fy(E:Nat->Addr)(B:Nat)(w:World)(ρ:Nat->j4)(d:Nat)(S:jd)(R:DStep)(e:Ending)(w':World):Prop:=∃ S' ok,R S S' ok/\Yj E B w ρ d (S',ok) e w'
theorem fy.before{c:World}{ρ b:Nat->j4}{S:jd}{R:DStep}{e:Ending}{w':World}(g:yc w ρ c b)(h:fy E B c b d S R e w'):fy E B w ρ d S R e w':=by obtain⟨S',f,r,h⟩:=h;exact⟨S',f,r,h.before g⟩
def Off(ρ:Nat->j4)(v:Value):Prop:=∀ p n c,v=.slice (some p) n c->ρ p.block=.none
theorem A5{ρ:Nat->j4}{k:Nat}{S:jd}(D:Dk E B w ρ d S)(F:Fit k S)(nm:Str)(W:nm≠[])(v:Value)(b:By)(U:Bytes w v b)(q:Off ρ v)(hk:k+1+nm.length+b.length<549755813888):Calls prog 76 #[P1 d,je nm,v] w (fy E B w ρ d S (Yf nm b)):=by
 have Z:Small S:=F.small zC;have z:nm.length<1099511627776:=zC;obtain⟨p,c,rfl,f,a8,i,l⟩:=id U;have g:∀ S' f,Yf nm b S S' f=(if b=[] then P6 nm else ub [P6 nm,Oq nm b]) S S' f:=λ_ _=>rfl
 obtain⟨f,C⟩:=zJ (Yf nm b);rw[<-C] at g ⊢;change Hid _ at g;have j:=jb U;clear C i l U;go_enter func76,ntmps76;go_wp2_with fail;refine(jeh nm D.rep Z z).mono ?_;rintro e x ⟨I,o,⟨s,rfl,M⟩|⟨s,i,rfl,M⟩|⟨s,i,rfl,f,l,M⟩⟩
 .have r:=D.step o M;go_wp2_with fail;refine(Qm r.Jk nm 1 zE).mono ?_;rintro e O ⟨v2,rfl,J,m⟩;obtain⟨t,a,rfl⟩:=J.shape;go_wp2;go_ret;refine⟨S.called true,false,?_,I,o.same m,r.same m,.inr ⟨rfl,_,rfl,J⟩⟩;rw[g.out];split;exact .inl ⟨s,rfl,rfl⟩;exact .inl ⟨.inl ⟨s,rfl,rfl⟩,rfl⟩
 exact absurd i W
 .have r:=D.step o M;have i:P6 nm S (((S.called true).withFile f qg).named ⟨nm,[],[],some f⟩) true:=.inr ⟨s,rfl,f,l,rfl⟩;have L:=F.jmk W i;(have A:(((S.called true).withFile f qg).named ⟨nm,[],[],some f⟩).at nm=some f:=by obtain⟨V,n⟩:=F.view;have m:=(n.called true).create l W;obtain⟨l,a',X,u,y⟩:=m.get (n:=nm) (b:=[]) xO;(have a5:nm.isEmpty=false:=by cases nm<;>simp_all);unfold jd.at;simp only[jd.named,doA,a5,if_true,o7];rw[atKey_put_same (k:=.string nm) ?_ (by trivial)];rfl;obtain⟨T,⟨⟨es,e,_⟩,_⟩,_⟩:=F.fs;exact⟨es,e⟩);(have l:(((S.called true).withFile f qg).named ⟨nm,[],[],some f⟩).files f=some qg:=by simp[jd.named,jd.withFile]);generalize hS1:((S.called true).withFile f qg).named ⟨nm,[],[],some f⟩=S1 at *;have t:=jb A;have s:=jb l;have C:=jb i;clear hS1 A l i;go_wp2_with fail;refine(Yo nm x).mono ?_;rintro e O ⟨rfl,rfl⟩;by_cases hb0:b=[];(· subst hb0;go_wp2;go_ret;refine⟨S1,true,?_,I,o,r,.inl ⟨rfl,rfl⟩⟩;rw[g.out];exact C);· have G:0<b.length:=XH.2 hb0;(have aj:((b.length:Int)==0)=false:=by simp;omega);(obtain⟨m,rfl⟩:∃ m,p=some m:=by cases p with|some m=>exact⟨m,rfl⟩|none=>obtain⟨A,i,e,X,u,y,l⟩:=j.out;simp_all);have x:Bytes O (.slice (some m) b.length c) b:=j.out.keep o.keeps (λp n i e h=>by cases e;exact h<|q _ _ _ rfl);have a4:I m.block=.none:=(o.role _<|j.out.lt hb0).trans<|q _ _ _ rfl;(have H:Arg O I (.slice (some m) b.length c) b:=by obtain⟨A,i,e,X,u,y,l⟩:=x;cases e;exact .inr ⟨m,c,rfl,X,a4,λj u i=>zF⟩);have i:Small S1:=L.small zC;(have y:total S1.files S1.names<1099511627776:=zA L.total);change Hid _ at y;clear x;go_wp2_with fail;refine(Hn nm b m c r.rep i z t s G zC H zC a8 y).mono ?_;rintro e l ⟨c,L,⟨R,rfl,Y⟩|⟨R,m,rfl,Y⟩⟩;(· have N:=r.step L Y;go_wp2_with fail;refine(Qm N.Jk nm 1 zE).mono ?_;rintro e j ⟨v4,rfl,J,i⟩;go_wp2;go_ret;refine⟨_,false,?_,c,(o.trans L).same i,N.same i,.inr ⟨rfl,v4,rfl,J⟩⟩;rw[g.out,if_neg hb0];exact .inr ⟨S1,C,.inl ⟨⟨f,qg,t,s,.inl ⟨R,rfl,rfl⟩⟩,rfl⟩⟩);· have N:=r.step L Y;go_wp2_with fail;refine(Yo nm l).mono ?_;rintro e j ⟨rfl,rfl⟩;go_wp2;go_ret;refine⟨_,true,?_,c,o.trans L,N,.inl ⟨rfl,rfl⟩⟩;rw[g.out,if_neg hb0];exact .inr ⟨S1,C,.inr ⟨_,⟨f,qg,t,s,.inr ⟨R,m,rfl,rfl⟩⟩,rfl,rfl⟩⟩
end
