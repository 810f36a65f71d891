/-
-/
import Derived.Test.YtmjgfacoogdcdaaGreatDoorO19
import Derived.Test.YtmjgfacoogdcdaaGreatDoorO14
set_option maxRecDepth 100000
set_option maxHeartbeats 8000000
set_option linter.all false
namespace Go.Proofs.YtmjgfacoogdcdaaGreatDoor
section
open RowKit Maps WideShapes Go.Proofs.Tryz
variable {w:World} {ba dv la lo mv nx ru v:Value} {ks:List Str} {B b d k:Nat} {E:Nat->Addr} {t:TypeId} {deg:Bool}
theorem Dl{base:Nat}(x:Str)(k:ks.length<1099511627776)(b:w.ownsRow base 9 1 v ks.length (ks.map encStr)):Calls prog 145 #[v,jc x] w λe w'=>e=.returned (.bool (decide (x∈ks)))/\w'=w:=by
 obtain⟨rfl,d⟩|⟨g,cap,i,rfl,_,l,p,o,n,m⟩:=b.2;have:ks=[]:=ZH d;subst this;refine(Tryz.slices_Contains_string_empty none 0 ⟨x.toArray⟩ w).mono ?_;simp_all;refine(Tryz.slices_Contains_string g 0 ks.length cap (ks.map λs=>⟨s.toArray⟩) ⟨x.toArray⟩ w zD zC ?_).mono ?_;intro j c;have f:j<ks.length:=by simpa using c
 have:=b.cells rfl j (encStr ks[j]) zG;grind [add_zero];grind [Lib.containsS_iff,zY]
theorem jgh{ρ:Nat->jz}{S:jg}(R:Rep w ρ d S)(g:S.bad=true):Calls prog 144 #[aA d] w λe w'=>e=.returned (.tuple #[S7,aB 1])/\xq w ρ w' ρ/\Rep w' ρ d (S.called false):=by go_enter func144,ntmps144;go_wp2_with (go_at_call 66;refine(zy false R).mono ?_;rintro e f ⟨rfl,b,c⟩);go_ret2;exact⟨rfl,c,b⟩
def others(ks ns:List Str):List Str:=ns.filter (λx=>!decide (x∈ks))
theorem Tk{ns:List Str}{x:Str}(c:k<ns.length)(b:ns[k]=x):others ks (ns.take (k+1))=if x∈ks then others ks (ns.take k)else others ks (ns.take k)++[x]:=by grind [others,zX]
theorem Mo(ks ns:List Str):(others ks ns).length<=ns.length:=ZI _ _
def jg.Z5(ks:List Str)(S:jg):jg×Bool:=if S.bad=true then(S.called false,false)else jg.yy (others ks S.keys) (S.called false)
theorem Ef{ρ:Nat->jz}{S:jg}(D:Dk E B w ρ d S)(Z:Small S)(v:Value)(ks:List Str)(base:Nat)(hv:w.ownsRow base 9 1 v ks.length (ks.map encStr))(hρ:∀ g,v.ownBlock=some g->ρ g=.none)(hl:ks.length<1099511627776)(O:∀ n∈S.keys,n.length<1099511627776)(hz:Maps.size S.safe+S.late.length+S.keys.length<1099511627776):Calls prog 106 #[aA d,v] w (ly E B w ρ d (jg.Z5 ks S)):=by
 obtain⟨p,c,rfl⟩:=ji hv;obtain⟨i0,hi,a4,a3,a2⟩:=info_parts Tryz.Db;have I:S.bad=true\/S.bad=false:=by cases S.bad<;>simp
 obtain I|I:=I
 ·(have b:jg.Z5 ks S=(S.called false,false):=by grind [jg.Z5]);change Hid _ at b;go_enter func106,ntmps106;go_wp2_with fail;refine(jgh D.rep I).mono ?_;rintro e w1 ⟨rfl,G,V⟩;have W:=D.step G V;go_wp2_with fail;refine(Qb W.Qo [110,97,109,101,115] 1 zE).mono ?_;rintro e u ⟨v2,rfl,X,k2⟩;obtain⟨t1,a1,rfl⟩:=X.shape;go_wp2;go_ret;rw[b.out];exact⟨ρ,G.same k2,W.same k2,.inr ⟨rfl,_,rfl,X⟩⟩
 ·(have b:jg.Z5 ks S=jg.yy (others ks S.keys) (S.called false):=by grind [jg.Z5]);change Hid _ at b;go_enter func106,ntmps106;go_wp2_with fail;refine(jgg D.rep Z I).mono ?_;rintro e w1 ⟨G,V,pk,ck,rfl,t⟩;have W:=D.step G V;(have a5:=G.keeps.row hv λg hg2 h=>h<|hρ g hg2);generalize hns:S.keys=ns at t O hz b;change Hid _ at hns;go_wp2_with fail;refine(Yd [110,97,109,101,115] w1).mono ?_;rintro e u ⟨rfl,rfl⟩;obtain⟨N1,ac⟩:=zJ u.heap.size;change Hid _ at ac;go_wp2_with fail;go_loopw [8,23] (λv8 i wr=>∃(k:Nat) (ss:List Str) (F:Option Addr) (H:Nat),k<=ns.length/\i = aB k/\v8=.slice F ss.length H/\ss=others ks (ns.take k)/\wr.ownsRow u.heap.size 9 1 (.slice F ss.length H) ss.length (ss.map encStr)/\ja u wr No) (λ_ i _=>ns.length-(intOf i).toNat);(case atStart=>exact⟨0,[],none,0,ZC _,rfl,rfl,rfl,ZR _ _ _ _,ja.refl _ _⟩);case round=>obtain⟨k,ss,F,H,hk,rfl,rfl,y,j,l⟩:=hrel;have a6:=Mo ks<|ns.take k;rw[<-y,xD] at a6;have A:=jb y;clear y;obtain z|aw:=zS k ns.length;(· (have N:=l.row t λ_ _ h=>h);(have L:=l.row a5 λ_ _ h=>h);(have U:∃ g,pk=some (aC g):=by obtain⟨_,h0⟩|⟨g,cap,ax,e,_⟩:=N.2;omega;cases e;exact⟨g,rfl⟩);obtain⟨g,rfl⟩:=U;have m:=N.cells rfl k (encStr ns[k]) zG;rw[add_zero] at m;generalize hx:ns[k]=x at m;have f:=Tk (ks:=ks) z hx;rw[<-A.out] at f;change Hid _ at f;clear hx;unfold encStr at m;have av:u.heap.size<=wr.heap.size:=l.size;by_cases hxm:x∈ks;(· (have Y:decide (x∈ks)=true:=by simp[hxm]);(have r:Hid (others ks (ns.take (k+1))=ss):=zG);clear hxm f;go_wp2_with fail;refine(Dl x hl L).mono ?_;rintro e T ⟨rfl,rfl⟩;rw[Y];go_wp2;exact⟨⟨k+1,ss,F,H,z,zD,rfl,r.out.symm,j,l⟩,by simp[intOf];omega⟩);· (have Y:decide (x∈ks)=false:=by simp[hxm]);(have r:Hid (others ks (ns.take (k+1))=ss++[x]):=zG);clear hxm f;(have ad:Hid (ss.length+1<=maxLen):=by unfold Hid maxLen;omega);(have aa:Hid ((ss.length+1)*16<=140737488355328):=by unfold Hid;omega);(have ab:∀ o,Hid (u.heap.size<=(wr.alloc o).heap.size):=by intro o;unfold Hid;simp;omega);go_wp2_with fail;refine(Dl x hl L).mono ?_;rintro e T ⟨rfl,rfl⟩;rw[Y];have M:=jbw x;change Hid _ at M;go_wp2_with (first|(at_builtin;go_must (refine jl _ rfl (.tmp 31) (.tmp 33) 25 rfl u.heap.size 9 i0 (.string ⟨#[]⟩) 1 16 underlying25 hi a4 a3 a2 rfl (ZF 0) (.slice F ss.length H) ss.length (ss.map encStr) rfl (j.alloc _) (aC T.heap.size) 1 1 [encStr x] rfl rfl (Qj (je T _) rfl) M.out ad aa (ab _).out ?_);intro p3 ae w4 C a9 af)|go_in);(have a8:ja u w4 No:=(l.more _).grow a9 λk e hk=>(zA (j.lt k e).1));(have s:(ss++[x]).length=ss.length+1:=zD);exact⟨⟨k+1,ss++[x],p3,ae,z,zD,by rw[s],r.out.symm,by rw[s];simpa using C,a8⟩,by simp[intOf];omega⟩);· (have ek:k=ns.length:=zC);(have q:ss=others ks ns:=by rw[A.out,ek,ZX]);rw[<-q] at b;(have R:∀ n∈ss,n.length<1099511627776:=λn hn=>O n (by rw[q] at hn;exact(List.mem_filter.1 hn).1));have D2:=W.same l;(have a0:∀ g,(Value.slice F ss.length H).ownBlock=some g->ρ g=.none:=λg hg2=>by obtain h|h:=Classical.em (ρ g=.none);exact h;have h5:=V.lt g h;have h6:=(j.lt g hg2).1;omega);(have J:Maps.size (S.called false).safe+(S.called false).late.length+ss.length<1099511627776:=by show Maps.size S.safe+S.late.length+ss.length<_;omega);change Hid _ at J;clear q A;go_wp2_with fail;refine(tt D2 (Z.called false) _ ss _ j a0 R zC J.out).mono ?_;intro e T U;have hq:=U.before<|G.same l;rw[<-b.out] at hq;obtain⟨ρ3,g3,D3,⟨a7,rfl⟩|⟨a7,v1,rfl,X⟩⟩:=U;all_goals go_wp2;go_ret;exact hq
def Bt(k:Nat):Int:=if k=0 then 1 else if k=2 then 7 else 6
theorem U9(S:Qg E B w)(h:Err E w v k):Calls prog 28 #[v] w λe w'=>e=.returned (aB (Bt k))/\w'=w:=by
 have s0:=S.cell 0 zE;have i:=S.cell 2 zE;obtain⟨t,a,rfl⟩:=h.shape;obtain⟨n,b⟩:=zJ (Bt k);rw[<-b];unfold Bt at b;by_cases h1:k=0
 .rw[if_pos h1] at b;subst b;(have d:decide (k=0)=true:=by simp[h1]);clear h1;go_enter func28,ntmps28;go_wp2_with fail;refine(Bq S h 0 zE).mono ?_;rintro e f ⟨rfl,rfl⟩;rw[d];go_wp2;go_ret;exact⟨rfl,rfl⟩
 .rw[if_neg h1] at b;(have d:decide (k=0)=false:=by simp[h1]);clear h1;by_cases h2:k=2;(· rw[if_pos h2] at b;subst b;(have c:decide (k=2)=true:=by simp[h2]);clear h2;go_enter func28,ntmps28;go_wp2_with fail;refine(Bq S h 0 zE).mono ?_;rintro e f ⟨rfl,rfl⟩;rw[d];go_wp2_with fail;refine(Bq S h 2 zE).mono ?_;rintro e g ⟨rfl,rfl⟩;rw[c];go_wp2;go_ret;exact⟨rfl,rfl⟩);· rw[if_neg h2] at b;subst b;(have c:decide (k=2)=false:=by simp[h2]);clear h2;go_enter func28,ntmps28;go_wp2_with fail;refine(Bq S h 0 zE).mono ?_;rintro e f ⟨rfl,rfl⟩;rw[d];go_wp2_with fail;refine(Bq S h 2 zE).mono ?_;rintro e g ⟨rfl,rfl⟩;rw[c];go_wp2;go_ret;exact⟨rfl,rfl⟩
abbrev j6(dv nx la lo ba ru last mv:Value)(deg cl:Bool):Array Value:=#[dv,nx,la,lo,ba,ru,last,mv,.bool deg,.bool cl]
def Xd(deg cl:Bool):Int:=if cl=true then 3 else if deg=true then 4 else 0
theorem Jj{last:Value}{cl:Bool}(c:w.heap[b]?=some (.cells (j6 dv nx la lo ba ru last mv deg cl) t (0,0))):Calls prog 30 #[aA b] w λe w'=>e=.returned (aB (Xd deg cl))/\w'=w:=by have f:=zK 8 c;have d:=zK 9 c;simp at f d;clear c;cases cl<;>cases deg;all_goals go_enter func30,ntmps30;go_wp2;go_ret;exact⟨rfl,rfl⟩
theorem Gf{last:Value}{cl:Bool}(c:w.heap[b]?=some (.cells (j6 dv nx la lo ba ru last mv deg cl) t (0,0))):Calls prog 35 #[aA b] w λe w'=>e=.returned (aB 1)/\w'.heap[b]?=some (.cells (j6 dv nx la lo ba ru last mv true cl) t (0,0))/\ja w w' (λi=>i=b):=by have d:=zK 8 c;have f:=zL 8 c;simp at d;change Hid _ at c;go_enter func35,ntmps35;go_wp2;go_ret;exact⟨rfl,(jd c.out _).trans rfl,ja.setCell w _ _⟩
theorem Si{last:Value}{cl:Bool}(c:w.heap[b]?=some (.cells (j6 dv nx la lo ba ru last mv deg cl) t (0,0))):Calls prog 93 #[aA b] w λe w'=>e=.returned (.tuple #[])/\w'.heap[b]?=some (.cells (j6 (.pointer none) nx la lo ba ru last S7 deg true) t (0,0))/\ja w w' (λi=>i=b):=by have g:=zK 0 c;have f:=zK 7 c;have d:=zK 9 c;have l:=zL 0 c;have k:=zL 7 c;have j:=zL 9 c;simp at g f d;change Hid _ at c;go_enter func93,ntmps93;go_wp2;go_end0;exact⟨rfl,(jd (jd (jd c.out _) _) _).trans rfl,((ja.setCell w (B3 b 9) _).set (p:=(aC b)) rfl _).set (p:=(B3 b 7)) rfl _⟩
theorem N3{last:Value}{cl:Bool}(c:w.heap[b]?=some (.cells (j6 dv nx la lo ba ru last mv deg cl) t (0,0))):Calls prog 53 #[aA b] w λe w'=>ja w w' (λi=>i=b)/\((cl=true/\e=.returned (aB 3)/\w'=w)\/(cl=false/\e=.returned (aB 0)/\w'.heap[b]?=some (.cells (j6 (.pointer none) nx la lo ba ru last S7 deg true) t (0,0)))):=by have g:=zK 9 c;simp at g;change Hid _ at c;cases cl with|true=>go_enter func53,ntmps53;go_wp2;go_ret;exact⟨ja.refl _ _,.inl ⟨by first|trivial|rfl,rfl,rfl⟩⟩|false=>go_enter func53,ntmps53;go_wp2_with fail;refine(Si c.out).mono ?_;rintro e j ⟨rfl,d,f⟩;change Hid _ at d;go_wp2;go_ret;exact⟨f,.inr ⟨by first|trivial|rfl,rfl,d.out⟩⟩
end
section
open RowKit Maps WideShapes Go.Sort Go.Proofs.Tryz
variable {α:Type} {ds n nm sr:Str} {D:DataW Nat} {f k m:Nat} {U V:List (Str×List UInt8)} {b c:List UInt8}
abbrev Tok:=Str×Nat
def jij(p:Tok):Lit×DataW Nat:=(.string p.1,.held p.2)
structure iy(D:DataW Nat)(T:List Tok):Prop where
 es:∃ es,D=.map es/\es.Perm (T.map jij)
 apart:T.Pairwise (λp q=>p.1≠q.1)
theorem iy.nil:iy (.map []) []:=⟨⟨[],rfl,List.Perm.nil⟩,List.Pairwise.nil⟩
def ju{α:Type}(T:List (Str×α))(n:Str):List (Str×α):=T.filter (λp=>decide (p.1≠n))
theorem qo{T:List (Str×α)}{p:Str×α}:p∈ju T n↔p∈T/\p.1≠n:=by simp[ju]
theorem bq{T:List (Str×α)}(h:T.Pairwise (λp q=>p.1≠q.1))(n:Str):(ju T n).Pairwise (λp q=>p.1≠q.1):=h.sublist xN
theorem Fh(n m:Str):(Lit.string n).sameKey (.string m)=decide (n=m):=by by_cases h:n=m;subst h;rw[WideAt.sameKey_self (by trivial)];simp;grind [sameKey_ne]
theorem Kz(T:List Tok)(n:Str):(T.map jij).filter (λp=>!p.1.sameKey (.string n))=(ju T n).map jij:=by induction T with|nil=>rfl|cons x r ih=>unfold ju at *;rw[xO,List.filter_cons,List.filter_cons];show(if !(Lit.string x.1).sameKey (.string n)then _ else _)=_;grind [Fh]
theorem insert_perm(x:Lit×DataW Nat)(l:List (Lit×DataW Nat)):(DataW.insert x l).Perm (x::l):=by induction l with|nil=>exact List.Perm.refl _|cons y r ih=>unfold DataW.insert;split;exact List.Perm.refl _;exact(ih.cons y).trans<|List.Perm.swap x y r
theorem iy.del{T:List Tok}(h:iy D T)(n:Str):iy (D.del (.string n)) (ju T n):=by obtain⟨⟨es,rfl,q⟩,a⟩:=h;exact⟨⟨_,rfl,by grind [Kz]⟩,bq a n⟩
theorem iy.put{T:List Tok}(h:iy D T)(n:Str)(f:Nat):iy (D.put (.string n) (.held f)) ((n,f)::ju T n):=by obtain⟨⟨es,rfl,q⟩,a⟩:=h;refine⟨⟨_,rfl,(insert_perm _ _).trans ?_⟩,xP.2 ⟨λp hp=>Ne.symm (qo.1 hp).2,bq a n⟩⟩;rw[xO,<-Kz];exact(q.filter _).cons _
theorem iy.at{T:List Tok}(h:iy D T)(b:(n,f)∈T)(z:DataW Nat):D.atKey (.string n) z=.held f:=by
 obtain⟨⟨es,rfl,q⟩,a⟩:=h;have d:jij (n,f)∈es:=q.mem_iff.2<|ZW.2 ⟨_,b,rfl⟩;have c:es.Pairwise (λp q=>p.1≠q.1):=by refine(q.pairwise_iff λe=>Ne.symm e).2 ?_;rw[xQ];exact a.imp (λh e=>h<|by injection e)
 exact WideAt.atKey_mem (k:=.string n) z (by trivial) c d
theorem iy.none{T:List Tok}(h:iy D T)(c:∀ f,(n,f)∉T)(z:DataW Nat):D.atKey (.string n) z=z:=by
 obtain⟨⟨es,rfl,q⟩,a⟩:=h;have:es.find? (λp=>p.1.sameKey<|.string n)=Option.none:=by(refine List.find?_eq_none.2 λp hp=>?_);obtain⟨t,b,rfl⟩:=ZW.1<|q.mem_iff.1 hp;show ¬(Lit.string t.1).sameKey (.string n)=true;grind [Fh]
 simp only[DataW.atKey,this]
theorem Hw{l m:List Nat}(p:l.Perm m):l.sum=m.sum:=by grind
theorem iy.total{T:List Tok}(h:iy D T)(fs:Nat->Option yr):total fs D=(T.map (λp=>((fs p.2).elim 0 (λa=>a.bytes.length)))).sum:=by obtain⟨⟨es,rfl,q⟩,a⟩:=h;unfold Go.Proofs.YtmjgfacoogdcdaaGreatDoor.total;rw[Hw ((show(entriesOf<|.map es)=es from rfl)▸(q.map _))];rw[List.map_map];rfl
theorem iy.keys{T:List Tok}(h:iy D T):(strKeys D).Perm (T.map Prod.fst):=by obtain⟨⟨es,rfl,q⟩,a⟩:=h;unfold strKeys;refine(q.map _).trans ?_;rw[List.map_map];exact List.Perm.of_eq<|xR λp _=>rfl
theorem iy.size{T:List Tok}(h:iy D T):Maps.size D=T.length:=by obtain⟨⟨es,rfl,q⟩,a⟩:=h;show es.length=_;rw[q.length_eq,xS]
structure Fs(S:jg)(T:List Tok):Prop where
 Ai:iy S.names T
 files:∀ p∈T,∃ a,S.files p.2=some a
 apart:T.Pairwise (λp q=>p.2≠q.2)
def Z6(fs:Nat->Option yr)(f:Nat):By:=(fs f).elim [] yr.bytes
def Xx(fs:Nat->Option yr)(T:List Tok):List (Str×By):=T.map (λp=>(p.1,Z6 fs p.2))
def View(S:jg)(V:List (Str×By)):Prop:=∃ T,Fs S T/\V.Perm (Xx S.files T)
def yd(V:List (Str×By))(n:Str)(b:By):List (Str×By):=(n,b)::ju V n
def j2(V:List (Str×By)):Nat:=(V.map (λp=>p.2.length)).sum
theorem pg(p:V.Perm U):j2 V=j2 U:=Hw<|p.map _
theorem Jq(p:Str×By)(V:List (Str×By)):j2 (p::V)=p.2.length+j2 V:=by simp[j2]
theorem xj(V:List (Str×By))(n:Str):j2 (ju V n)<=j2 V:=by induction V with|nil=>simp[ju,j2]|cons x r ih=>grind [ju,Jq]
theorem Al(h:V.Pairwise (λp q=>p.1≠q.1))(c:(n,b)∈V):j2 (ju V n)+b.length=j2 V:=by induction V with|nil=>cases c|cons x r ih=>grind [xP,ju,xU,j2]
theorem View.perm{S:jg}(h:View S V)(p:U.Perm V):View S U:=by obtain⟨T,F,q⟩:=h;exact⟨T,F,p.trans q⟩
theorem Yi(fs:Nat->Option yr)(T:List Tok)(n:Str):ju (Xx fs T) n=Xx fs (ju T n):=by unfold Xx ju;rw[List.filter_map];rfl
theorem View.apart{S:jg}(h:View S V):V.Pairwise (λp q=>p.1≠q.1):=by obtain⟨T,F,q⟩:=h;refine(q.pairwise_iff λe=>Ne.symm e).2 ?_;unfold Xx;rw[xQ];exact F.Ai.apart
theorem Fs.at{S:jg}{T:List Tok}(h:Fs S T):S.at n=some f↔(n,f)∈T:=by unfold jg.at;constructor;intro e;obtain⟨g,b⟩|c:=Classical.em (∃ g,(n,g)∈T);rw[h.Ai.at b] at e;cases e;exact b;rw[h.Ai.none (λf hf=>c ⟨f,hf⟩)] at e;cases e;intro e;rw[h.Ai.at e];rfl
theorem View.get{S:jg}(h:View S V)(d:(n,b)∈V):∃ f a,S.at n=some f/\S.files f=some a/\a.bytes=b:=by obtain⟨T,F,q⟩:=h;obtain⟨t,c,e⟩:=ZW.1<|q.mem_iff.1 d;obtain⟨a,g⟩:=F.files t c;injection e with e1 e2;refine⟨t.2,a,?_,g,?_⟩;rw[F.at,<-e1];exact c;grind [Z6]
theorem View.of{S:jg}(h:View S V){a:yr}(c:S.at n=some f)(b:S.files f=some a):(n,a.bytes)∈V:=by obtain⟨T,F,q⟩:=h;refine q.mem_iff.2<|ZW.2 ⟨(n,f),F.at.1 c,?_⟩;unfold Z6;rw[b];rfl
theorem View.none{S:jg}(h:View S V)(c:∀ b,(n,b)∉V):S.at n=Option.none:=by cases e:S.at n with|none=>rfl|some f=>have g:=h;obtain⟨T,F,q⟩:=h;obtain⟨a,d⟩:=F.files _<|F.at.1 e;exact(c _<|g.of e d).elim
theorem View.one{S:jg}(h:View S V)(j:(n,b)∈V)(i:(n,c)∈V):b=c:=by obtain⟨f,a,o,m,rfl⟩:=h.get j;obtain⟨g,d,l,k,rfl⟩:=h.get i;simp_all
theorem View.total{S:jg}(h:View S V):total S.files S.names=j2 V:=by
 obtain⟨T,F,q⟩:=h;rw[F.Ai.total,pg q];unfold j2 Xx;rw[List.map_map];congr 1;refine xR λp _=>?_
 simp only[Function.comp,Z6];cases S.files p.2<;>rfl
theorem View.keys{S:jg}(h:View S V):S.keys.Perm (V.map Prod.fst):=by obtain⟨T,F,q⟩:=h;unfold jg.keys;refine(List.mergeSort_perm _ _).trans<|F.Ai.keys.trans ?_;have:=q.map Prod.fst;unfold Xx at this;rw[List.map_map] at this;exact this.symm
theorem View.count{S:jg}(h:View S V):Maps.size S.names=V.length:=by obtain⟨T,F,q⟩:=h;rw[F.Ai.size,q.length_eq];simp[Xx]
theorem View.C9{S S':jg}(h:View S V)(c:S'.names=S.names)(b:S'.files=S.files):View S' V:=by obtain⟨T,F,q⟩:=h;exact⟨T,⟨c▸F.Ai,by rw[b];exact F.files,F.apart⟩,by rw[b];exact q⟩
theorem View.called{S:jg}(h:View S V)(b:Bool):View (S.called b) V:=h.C9 rfl rfl
theorem View.write{S:jg}(h:View S V)(o:S.at n=some f)(a':yr):View (S.withFile f a') (yd V n a'.bytes):=by
 obtain⟨T,F,q⟩:=h;have d:=F.at.1 o;refine⟨T,⟨F.Ai,λp c=>?_,F.apart⟩,?_⟩;by_cases e:p.2=f;exact⟨a',by simp[jg.withFile,e]⟩;obtain⟨a,k⟩:=F.files p c;grind [jg.withFile];have m:T.Perm ((n,f)::ju T n):=by(have H:∀ {T:List Tok},T.Pairwise (λp q=>p.1≠q.1)->(n,f)∈T->T.Perm ((n,f)::ju T n):=by intro T;induction T with|nil=>intro _ h;cases h|cons x r ih=>intro c d;obtain⟨t,s⟩:=xP.1 c;obtain rfl|d:=xB.1 d;grind [ju,xU];grind [ju]);exact H F.Ai.apart d
 have l:(ju V n).Perm (Xx S.files<|ju T n):=by rw[<-Yi];exact q.filter _
 have e:Xx (S.withFile f a').files ((n,f)::ju T n)=(n,a'.bytes)::Xx S.files (ju T n):=by unfold Xx;rw[xO];congr 1;simp[Z6,jg.withFile];(refine xR λp c=>?_);obtain⟨i,g⟩:=qo.1 c;(have j:p.2≠f:=by intro e;(have H:∀ {T:List Tok},T.Pairwise (λp q=>p.2≠q.2)->∀ a∈T,∀ b∈T,a.2=b.2->a=b:=by intro T;induction T with|nil=>intro _ a k;cases k|cons x r ih=>grind [xP]);have:=H F.apart p i (n,f) d e;exact g (by rw[this]));simp[Z6,jg.withFile,j]
 exact(l.cons _).trans<|(List.Perm.of_eq e.symm).trans ((m.map _).symm)
theorem jdg(h:V.Pairwise (λp q=>p.1≠q.1))(c:(n,b)∈V):V.Perm (yd V n b):=by unfold yd;induction V with|nil=>cases c|cons x r ih=>obtain⟨f,d⟩:=xP.1 h;obtain rfl|c:=xB.1 c;grind [ju,xU];grind [ju]
theorem View.synced{S:jg}(h:View S V){a:yr}(b:S.at n=some f)(c:S.files f=some a):View (S.withFile f a.synced) V:=by
 have d:(n,a.synced.bytes)∈V:=by have:=h.of b c;exact this
 exact(h.write b a.synced).perm<|jdg h.apart d
theorem View.create{S:jg}(h:View S V)(i:S.files f=Option.none)(k:n≠[]):View ((S.withFile f Jv).named ⟨n,[],[],some f⟩) (yd V n []):=by
 obtain⟨T,F,q⟩:=h;have j:(((S.withFile f Jv).named ⟨n,[],[],some f⟩)).names=S.names.put (.string n) (.held f):=by grind [jg.named,doA,vg,jg.withFile]
 have c:∀ p∈ju T n,p.2≠f:=λp b e=>by obtain⟨a,d⟩:=F.files p (qo.1 b).1;rw[e,i] at d;cases d
 refine⟨(n,f)::ju T n,⟨by rw[j];exact F.Ai.put n f,λp b=>?_,xP.2 ⟨λp b=>Ne.symm<|c p b,F.apart.sublist xN⟩⟩,?_⟩;obtain rfl|b:=xB.1 b;exact⟨Jv,by simp[jg.named,jg.withFile]⟩;obtain⟨a,d⟩:=F.files p (qo.1 b).1;exact⟨a,by grind [jg.named,jg.withFile]⟩;have g:(ju V n).Perm (Xx S.files<|ju T n):=by rw[<-Yi];exact q.filter _
 refine(g.cons (n,[])).trans<|List.Perm.of_eq ?_;grind [Xx,Z6,jg.named,jg.withFile,Jv]
theorem View.Hf{S:jg}(h:View S V)(n:Str):View (S.named ⟨[],n,[],Option.none⟩) (ju V n):=by obtain⟨T,F,q⟩:=h;refine⟨ju T n,⟨?_,λp hp=>F.files p (qo.1 hp).1,F.apart.sublist xN⟩,?_⟩;show iy (doA S.names ⟨[],n,[],Option.none⟩) _;exact F.Ai.del n;rw[<-Yi];exact q.filter _
theorem View.renamed{S:jg}(h:View S V)(t:ds≠[])(i:ds≠sr){a:yr}(o:S.at sr=some f)(g:S.files f=some a):View (S.named ⟨[],sr,ds,some f⟩) (yd (ju V sr) ds a.bytes):=by
 obtain⟨T,F,q⟩:=h;have m:=F.at.1 o;have s:ds.isEmpty=false:=by cases ds<;>simp_all
 have n:(S.named ⟨[],sr,ds,some f⟩).names=(S.names.put (.string ds)<|.held f).del (.string sr):=by grind [jg.named,doA,vg]
 have j:=(F.Ai.put ds f).del sr;have e:ju ((ds,f)::ju T ds) sr=(ds,f)::ju (ju T sr) ds:=by unfold ju;rw[List.filter_cons_of_pos (by simpa using i),List.filter_filter,List.filter_filter];grind
 rw[e] at j;have c:∀ p∈ju (ju T sr) ds,p.2≠f:=λp d e=>by have k:=(qo.1 (qo.1 d).1);(have H:∀ {T:List Tok},T.Pairwise (λp q=>p.2≠q.2)->∀ a∈T,∀ b∈T,a.2=b.2->a=b:=by intro T;induction T with|nil=>intro _ a g;cases g|cons x r ih=>grind [xP]);exact k.2 (by rw[H F.apart p k.1 (sr,f) m e])
 refine⟨(ds,f)::ju (ju T sr) ds,⟨by rw[n];exact j,λp d=>?_,xP.2 ⟨λp d=>Ne.symm<|c p d,(F.apart.sublist xN).sublist xN⟩⟩,?_⟩;obtain rfl|d:=xB.1 d;exact⟨a,g⟩;exact F.files p (qo.1 (qo.1 d).1).1;have l:(ju (ju V sr) ds).Perm (Xx S.files<|ju (ju T sr) ds):=by rw[<-Yi,<-Yi];exact(q.filter _).filter _
 refine(l.cons (ds,a.bytes)).trans<|List.Perm.of_eq ?_;grind [Xx,Z6,jg.named]
structure Fit(k:Nat)(S:jg):Prop where
 fs:∃ T,Fs S T
 names:Maps.size S.names<=k
 safe:Maps.size S.safe+S.late.length<=k
 wm:IsMap S.safe
 files:∀ f a,S.files f=some a->a.bytes.length<=k/\a.late.length<=k/\a.safe<=k
 total:total S.files S.names<=k
 keys:∀ n∈S.keys,n.length<=k
theorem Fit.view{S:jg}(h:Fit k S):∃ V,View S V:=by obtain⟨T,F⟩:=h.fs;exact⟨_,T,F,List.Perm.refl _⟩
theorem View.fs{S:jg}(h:View S V):∃ T,Fs S T:=by obtain⟨T,F,_⟩:=h;exact⟨T,F⟩
theorem Fit.mono{S:jg}(h:Fit k S)(b:k<=m):Fit m S:=⟨h.fs,zT h.names b,zT h.safe b,h.wm,λf a ha=>⟨zT (h.files f a ha).1 b,zT (h.files f a ha).2.1 b,zT (h.files f a ha).2.2 b⟩,zT h.total b,λn hn=>zT (h.keys n hn) b⟩
theorem Fit.small{S:jg}(h:Fit k S)(b:k<549755813888):Small S:=⟨zA h.names,zA h.safe,zA h.safe,λf a ha=>zA<|h.files f a ha⟩
theorem Fit.C9{S S':jg}(h:Fit k S)(b:S'.names=S.names)(c:S'.files=S.files)(d:S'.safe=S.safe)(g:S'.late=S.late):Fit k S':=by obtain⟨V,f⟩:=h.view;exact⟨(f.C9 b c).fs,by rw[b];exact h.names,by rw[d,g];exact h.safe,by rw[d];exact h.wm,by rw[c];exact h.files,by rw[b,c];exact h.total,by unfold jg.keys;rw[b];exact h.keys⟩
theorem Fit.called{S:jg}(h:Fit k S)(b:Bool):Fit k (S.called b):=h.C9 rfl rfl rfl rfl
theorem ub(V:List (Str×α))(n:Str):(ju V n).length<=V.length:=ZI _ _
theorem Fit.write{S:jg}(h:Fit k S){a:yr}(l:S.at n=some f)(i:S.files f=some a){c:Nat}{a':yr}(r:a'.bytes.length<=a.bytes.length+c)(q:a'.late.length<=a.late.length+c)(p:a'.safe<=k+c):Fit (k+c) (S.withFile f a'):=by obtain⟨V,d⟩:=h.view;have j:=d.write l a';have m:=d.of l i;refine⟨j.fs,zT h.names zC,zT h.safe zC,h.wm,λg b hg=>?_,?_,λn hn=>zT (h.keys n hn) zC⟩;by_cases e:g=f;simp[jg.withFile,e] at hg;subst hg;have:=h.files f a i;omega;simp[jg.withFile,e] at hg;have:=h.files g b hg;omega;rw[j.total];have s:=Al d.apart m;have o:=h.total;rw[d.total] at o;grind [yd,j2]
theorem Fit.synced{S:jg}(h:Fit k S){a:yr}(d:S.at n=some f)(b:S.files f=some a):Fit k (S.withFile f a.synced):=h.write (c:=0) d b (by simp[yr.synced]) (by simp[yr.synced]) (by have:=h.files f a b;simp[yr.synced];omega)
theorem Fit.put{S:jg}(h:Fit k S){a:yr}(c:S.at n=some f)(b:S.files f=some a)(src:By):Fit (k+src.length) (S.withFile f (a.put src)):=by
 have d:=h.files f a b;by_cases e:src=[]
 .refine h.write c b ?_ ?_ ?_;all_goals grind [yr.put]
 .have:0<src.length:=xV.2 e;refine h.write c b ?_ ?_ ?_;all_goals grind [yr.put]
theorem Fg(D:DataW Nat)(k:Lit)(d:DataW Nat):Maps.size (D.put k d)<=Maps.size D+1:=by cases D with|map es=>show(DataW.insert (k,d)<|es.filter λp=>!p.1.sameKey k).length<=es.length+1;rw[(insert_perm _ _).length_eq,zZ];grind|_=>exact Nat.le_succ _
theorem Sh(D:DataW Nat)(k:Lit):Maps.size (D.del k)<=Maps.size D:=by cases D with|map es=>exact ZI _ _|_=>exact zR _
theorem Ia(D:DataW Nat)(c:Jh):Maps.size (doA D c)<=Maps.size D+1:=by grind [doA,Fg,Sh]
theorem jdy(h:IsMap D)(c:Jh):IsMap (doA D c):=by unfold doA;split;exact h.put _ _;split;split;exact(h.put _ _).del _;exact h.put _ _;exact h.del _
theorem L8(l:List Jh)(D:DataW Nat):Maps.size (l.foldl doA D)<=Maps.size D+l.length:=by induction l generalizing D with|nil=>exact zR _|cons c r ih=>grind [Ia]
theorem Us(l:List Jh)(h:IsMap D):IsMap (l.foldl doA D):=by induction l generalizing D with|nil=>exact h|cons c r ih=>exact ih<|jdy h c
theorem Fit.named{S:jg}(h:Fit k S)(g:View S V){c:Jh}(b:View (S.named c) U)(j:j2 U<=j2 V)(d:∀ n∈U.map Prod.fst,n.length<=k+m):Fit (k+1+m) (S.named c):=by have p:=Ia S.names c;have o:=h.names;have l:=h.safe;have i:=h.total;rw[g.total] at i;refine⟨b.fs,by show Maps.size (doA S.names c)<=_;omega,?_,h.wm,λf a ha=>?_,?_,λn hn=>?_⟩;show Maps.size S.safe+(S.late++[c]).length<=_;grind;have:=h.files f a ha;omega;rw[b.total];omega;have:=d n<|b.keys.mem_iff.1 hn;omega
theorem Fit.key{S:jg}(h:Fit k S)(b:View S V):∀ n∈V.map Prod.fst,n.length<=k:=λn hn=>h.keys n<|b.keys.mem_iff.2 hn
theorem Hl{m:Str}(h:m∈(yd V n b).map Prod.fst):m=n\/m∈V.map Prod.fst:=by grind [yd,qo]
theorem Fit.create{S:jg}(h:Fit k S)(i:S.files f=none)(o:n≠[]):Fit (k+1+n.length) ((S.withFile f Jv).named ⟨n,[],[],some f⟩):=by
 obtain⟨V,j⟩:=h.view;have r:=j.create i o;obtain⟨T,F,q⟩:=j;have s:∀ p∈T,p.2≠f:=λp hp e=>by obtain⟨a,d⟩:=F.files p hp;rw[e,i] at d;cases d
 have b:View (S.withFile f Jv) V:=by refine⟨T,⟨F.Ai,λp hp=>?_,F.apart⟩,q.trans<|List.Perm.of_eq ?_⟩;obtain⟨a,d⟩:=F.files p hp;exact⟨a,by grind [jg.withFile]⟩;(refine xR λp hp=>?_);grind [Z6,jg.withFile]
 have l:Fit k (S.withFile f Jv):=by refine⟨b.fs,h.names,h.safe,h.wm,λg a hg=>?_,?_,h.keys⟩;by_cases e:g=f;grind [jg.withFile,Jv];simp[jg.withFile,e] at hg;exact h.files g a hg;rw[b.total];have:=h.total;rwa [View.total ⟨T,F,q⟩] at this
 refine l.named b r ?_ λm c=>?_
 grind [yd,xj,j2];obtain rfl|c:=Hl c;omega;have:=l.key b m c;omega
theorem Fit.Hf{S:jg}(h:Fit k S)(n:Str):Fit (k+1) (S.named ⟨[],n,[],none⟩):=by
 obtain⟨V,b⟩:=h.view;refine h.named (m:=0) b (b.Hf n) (xj V n) λm hm=>?_
 obtain⟨p,c,e⟩:=ZW.1 hm;exact h.key b m<|ZW.2 ⟨p,(qo.1 c).1,e⟩
theorem Fit.renamed{S:jg}(h:Fit k S)(g:ds≠[])(d:ds≠sr){a:yr}(j:S.at sr=some f)(i:S.files f=some a):Fit (k+1+ds.length) (S.named ⟨[],sr,ds,some f⟩):=by
 obtain⟨V,b⟩:=h.view;have n:=b.renamed g d j i;refine h.named (m:=ds.length) b n ?_ λm c=>?_
 have o:=Al b.apart<|b.of j i;grind [xj,yd,Jq];obtain rfl|c:=Hl c;omega;obtain⟨p,l,e⟩:=ZW.1 c;have:=h.key b m<|ZW.2 ⟨p,(qo.1 l).1,e⟩;omega
theorem Fit.tw{S:jg}(h:Fit k S):Fit k S.tw.1:=by unfold jg.tw;split;exact h.called true;have d:=L8 S.late S.safe;have c:=h.safe;obtain⟨V,b⟩:=h.view;exact⟨(b.C9 (S':={ S.called true with safe:=S.late.foldl doA S.safe,late:=[] }) rfl rfl).fs,h.names,by show Maps.size (S.late.foldl doA S.safe)+0<=k;omega,Us _ h.wm,h.files,h.total,h.keys⟩
theorem Fit.Xc{S:jg}(h:Fit k S)(n:Str):Fit k (S.Xc n).1:=by unfold jg.Xc;split;exact h.called true;split;exact h.called true;rename_i f hA;split;exact h.called true;rename_i a ha;exact(h.called true).synced (n:=n) hA ha
theorem Fit.Zj{S:jg}(h:Fit k S)(ns:List Str):Fit k (jg.Zj ns S).1:=by induction ns generalizing S with|nil=>exact h.tw|cons n r ih=>unfold jg.Zj;split;exact ih<|h.Xc n;exact h.Xc n
theorem Fit.yx{S:jg}(h:Fit k S)(n:Str):Fit (k+1) (S.yx n).1:=by unfold jg.yx;split;exact(h.called true).mono zC;split;exact(h.called true).mono zC;exact(h.called true).Hf n
theorem Fit.Qm{S:jg}(h:Fit k S)(b:ds≠sr):Fit (k+1+ds.length) (S.Qm sr ds).1:=by unfold jg.Qm;split;exact(h.called true).mono zC;split;exact(h.called true).mono zC;rename_i f hA;split;exact(h.called true).mono zC;rename_i hds;obtain⟨T,F⟩:=h.fs;obtain⟨a,c⟩:=F.files _<|F.at.1 hA;exact(h.called true).renamed hds b (sr:=sr) hA c
theorem Fit.Jm{S:jg}(h:Fit k S)(ns:List Str):Fit (k+ns.length) (jg.Jm ns S).1:=by induction ns generalizing S k with|nil=>exact h|cons n r ih=>unfold jg.Jm;split;exact(ih<|h.yx n).mono (by rw[zZ];omega);exact(h.yx n).mono (by rw[zZ];omega)
theorem Fit.X6{F:jg×Bool}(h:Fit k F.1):Fit k (Go.Proofs.YtmjgfacoogdcdaaGreatDoor.X6 F).1:=by unfold Go.Proofs.YtmjgfacoogdcdaaGreatDoor.X6;split;exact h.tw;exact h
theorem Fit.yy{S:jg}(h:Fit k S)(ns:List Str):Fit (k+ns.length) (jg.yy ns S).1:=by unfold jg.yy;split;exact h.mono zC;exact(h.Jm ns).X6
theorem Fit.Z5{S:jg}(h:Fit k S)(ks:List Str):Fit (k+S.keys.length) (jg.Z5 ks S).1:=by unfold jg.Z5;split;exact(h.called false).mono zC;refine((h.called false).yy _).mono ?_;grind [others]
theorem Fit.Un{S:jg}(h:Fit k S):S.keys.length<=k:=by obtain⟨V,b⟩:=h.view;rw[b.keys.length_eq,xS,<-b.count];exact h.names
theorem Fit.new:Fit 0 jg.new:=by
 refine⟨⟨[],⟨iy.nil,λp hp=>(by cases hp),List.Pairwise.nil⟩⟩,zR _,zR _,⟨[],rfl⟩,λf a h=>(by cases h),zR _,λn hn=>?_⟩;have:jg.new.keys=[]:=by simp[jg.keys,jg.new,strKeys]
 rw[this] at hn;cases hn
abbrev DStep:=jg->jg->Bool->Prop
def Fn(f:jg->jg×Bool):DStep:=λS S' ok=>f S=(S',ok)
def jbm:List DStep->DStep
 | [],S,S',ok=>S'=S/\ok=true
 | R::r,S,S',ok=>(R S S' false/\ok=false)\/∃ S1,R S S1 true/\jbm r S1 S' ok
def jig(nm:Str)(b:By):DStep:=λS S' ok=>∃ f a,S.at nm=some f/\S.files f=some a /\
 (((S.bad=true\/20000<b.length+total S.files S.names)/\S'=(S.called true).withFile f (a.put (b.take (b.length/2)))/\ok=false) \/
  (S.bad=false/\b.length+total S.files S.names<=20000/\S'=(S.called true).withFile f (a.put b)/\ok=true))
def jbo(nm:Str):DStep:=λS S' ok =>
 (S.bad=true/\S'=S.called true/\ok=false)\/(S.bad=false/\ok=true/\∃ f,S.files f=none/\S'=((S.called true).withFile f Jv).named ⟨nm,[],[],some f⟩)
def jbl(nm:Str)(b:By):DStep:=if b=[] then jbo nm else jbm [jbo nm,jig nm b]
def jo:Str:=[109,97,110,105,102,101,115,116]
def ya:Str:=[109,97,110,105,102,101,115,116,46,116,109,112]
theorem Fit.jli{S S':jg}{ok:Bool}(h:Fit k S)(r:jig nm b S S' ok):Fit (k+b.length) S':=by obtain⟨f,a,d,c,⟨_,rfl,_⟩|⟨_,_,rfl,_⟩⟩:=r;exact((h.called true).put (n:=nm) d c _).mono (by rw[xD];omega);exact(h.called true).put (n:=nm) d c _
theorem Fit.jjs{S S':jg}{ok:Bool}(h:Fit k S)(b:nm≠[])(r:jbo nm S S' ok):Fit (k+1+nm.length) S':=by obtain⟨_,rfl,_⟩|⟨_,_,f,c,rfl⟩:=r;exact(h.called true).mono zC;exact(h.called true).create c b
theorem Fit.jmc{S S':jg}{ok:Bool}(h:Fit k S)(c:nm≠[])(r:jbl nm b S S' ok):Fit (k+1+nm.length+b.length) S':=by unfold jbl at r;split at r;exact(h.jjs c r).mono zC;obtain⟨r,_⟩|⟨l,i,g⟩:=r;exact(h.jjs c r).mono zC;have d:=h.jjs c i;obtain⟨r,_⟩|⟨j,f,rfl,_⟩:=g;exact d.jli r;exact d.jli f
structure J9(S:jg):Prop where
 fail:S.fail = -1
 cut:S.cut = -1
theorem J9.bad{S:jg}(h:J9 S):S.bad=false:=by simp[jg.bad,h.fail,h.cut]
theorem J9.called{S:jg}(h:J9 S)(b:Bool):J9 (S.called b):=⟨by simp[jg.called,h.fail],by simp[jg.called,h.cut]⟩
theorem J9.C9{S S':jg}(h:J9 S)(c:S'.fail=S.fail)(b:S'.cut=S.cut):J9 S':=⟨c.trans h.fail,b.trans h.cut⟩
theorem J9.new:J9 jg.new:=⟨rfl,rfl⟩
theorem J9.sync{S:jg}(h:J9 S)(d:View S V)(i:(n,b)∈V):(S.Xc n).2=true/\J9 (S.Xc n).1/\View (S.Xc n).1 V:=by
 obtain⟨f,a,g,c,_⟩:=d.get i;have e:S.Xc n=((S.called true).withFile f a.synced,true):=by unfold jg.Xc;rw[if_neg (by rw[h.bad];decide),g];simp only[c]
 rw[e];exact⟨rfl,(h.called true).C9 rfl rfl,(d.called true).synced (n:=n) g c⟩
theorem J9.dir{S:jg}(h:J9 S)(b:View S V):S.tw.2=true/\J9 S.tw.1/\View S.tw.1 V/\S.tw.1.late=[]:=by unfold jg.tw;rw[if_neg (by rw[h.bad];decide)];exact⟨rfl,(h.called true).C9 rfl rfl,b.C9 rfl rfl,rfl⟩
theorem J9.sure{S:jg}(h:J9 S)(c:View S V)(ns:List Str)(d:∀ n∈ns,∃ b,(n,b)∈V):(jg.Zj ns S).2=true/\J9 (jg.Zj ns S).1/\View (jg.Zj ns S).1 V/\(jg.Zj ns S).1.late=[]:=by induction ns generalizing S with|nil=>exact h.dir c|cons n r ih=>obtain⟨b,f⟩:=d n xW;obtain⟨j,i,g⟩:=h.sync c f;grind [jg.Zj]
theorem J9.app{S S':jg}{ok:Bool}(h:J9 S)(j:View S V)(l:(nm,c)∈V)(o:b.length+j2 V<=20000)(r:jig nm b S S' ok):ok=true/\J9 S'/\View S' (yd V nm (c++b)):=by obtain⟨f,a,k,m,⟨d,_,_⟩|⟨_,_,rfl,rfl⟩⟩:=r;obtain d|d:=d;rw[h.bad] at d;cases d;rw[j.total] at d;omega;obtain⟨p,a',i,g,e⟩:=j.get l;rw[k] at i;cases i;rw[m] at g;cases g;refine⟨rfl,(h.called true).C9 rfl rfl,?_⟩;have:=(j.called true).write (n:=nm) k<|a.put b;grind [yr.put]
theorem J9.cre{S S':jg}{ok:Bool}(h:J9 S)(c:nm≠[])(g:View S V)(r:jbo nm S S' ok):ok=true/\J9 S'/\View S' (yd V nm []):=by obtain⟨b,_,_⟩|⟨_,rfl,f,d,rfl⟩:=r;rw[h.bad] at b;cases b;exact⟨rfl,(h.called true).C9 rfl rfl,(g.called true).create d c⟩
theorem Ce(V:List (Str×α))(n:Str):ju (ju V n) n=ju V n:=by grind [ju,List.filter_filter]
theorem kf(V:List (Str×α))(n:Str)(b:α):ju ((n,b)::V) n=ju V n:=by grind [ju]
theorem jcp(V:List (Str×By))(n:Str)(b c:By):yd (yd V n b) n c=yd V n c:=by unfold yd;rw[kf,Ce]
theorem J9.lay{S S':jg}{ok:Bool}(h:J9 S)(d:nm≠[])(f:View S V)(n:b.length+j2 (ju V nm)<=20000)(r:jbl nm b S S' ok):ok=true/\J9 S'/\View S' (yd V nm b):=by
 unfold jbl at r;split at r;rename_i e;rw[e];exact h.cre d f r;obtain⟨r,_⟩|⟨q,l,k⟩:=r;obtain⟨e,_⟩:=h.cre d f r;cases e;obtain⟨_,i,c⟩:=h.cre d f l;have g:b.length+j2 (yd V nm [])<=20000:=by grind [yd,j2]
 obtain⟨r,_⟩|⟨p,j,rfl,rfl⟩:=k;obtain⟨e,_⟩:=i.app c xW g r;cases e;obtain⟨_,o,m⟩:=i.app c xW g j;grind [jcp]
theorem J9.rename{S:jg}(h:J9 S)(c:ds≠[])(g:ds≠sr)(i:View S V)(k:(sr,b)∈V):(X6 (S.Qm sr ds)).2=true/\J9 (X6 (S.Qm sr ds)).1/\View (X6 (S.Qm sr ds)).1 (yd (ju V sr) ds b)/\(X6 (S.Qm sr ds)).1.late=[]:=by
 obtain⟨f,a,j,l,e⟩:=i.get k;have n:S.Qm sr ds=((S.called true).named ⟨[],sr,ds,some f⟩,true):=by unfold jg.Qm;rw[if_neg (by rw[h.bad];decide),j];simp only[c,if_false]
 have d:=(i.called true).renamed c g (sr:=sr) j l;rw[e] at d;unfold X6;rw[n];have m:J9 ((S.called true).named ⟨[],sr,ds,some f⟩):=(h.called true).C9 rfl rfl;exact m.dir d
theorem J9.remove{S:jg}(h:J9 S)(c:View S V)(d:(n,b)∈V):(S.yx n).2=true/\J9 (S.yx n).1/\View (S.yx n).1 (ju V n):=by
 obtain⟨f,a,g,j,e⟩:=c.get d;have i:S.yx n=((S.called true).named ⟨[],n,[],none⟩,true):=by unfold jg.yx;rw[if_neg (by rw[h.bad];decide),g]
 rw[i];exact⟨rfl,(h.called true).C9 rfl rfl,(c.called true).Hf n⟩
theorem J9.jiw{S:jg}(h:J9 S)(c:View S V)(ns:List Str)(f:ns.Nodup)(d:∀ n∈ns,∃ b,(n,b)∈V):(jg.Jm ns S).2=true/\J9 (jg.Jm ns S).1/\View (jg.Jm ns S).1 (V.filter (λp=>decide (p.1∉ns))):=by induction ns generalizing S V with|nil=>refine⟨rfl,h,?_⟩;rw[xU.2 (λp _=>zD)];exact c|cons n r ih=>obtain⟨b,g⟩:=d n xW;obtain⟨k,j,i⟩:=h.remove c g;obtain⟨s,q⟩:=List.nodup_cons.1 f;unfold jg.Jm;rw[if_pos k];obtain⟨o,m,l⟩:=ih j i q (λx hx=>by grind [qo]);refine⟨o,m,?_⟩;(have e:(ju V n).filter (λp=>decide (p.1∉r))=V.filter (λp=>decide (p.1∉n::r)):=by unfold ju;rw[List.filter_filter];grind);rwa [e] at l
theorem J9.removeAll{S:jg}(h:J9 S)(f:View S V)(ns:List Str)(d:ns.Nodup)(c:∀ n∈ns,∃ b,(n,b)∈V):(jg.yy ns S).2=true/\J9 (jg.yy ns S).1/\View (jg.yy ns S).1 (V.filter (λp=>decide (p.1∉ns)))/\(S.late=[]->(jg.yy ns S).1.late=[]):=by unfold jg.yy;split;grind [xU];obtain⟨j,i,g⟩:=h.jiw f ns d c;unfold X6;rw[if_pos j];obtain⟨o,m,l,k⟩:=i.dir g;simp_all
theorem View.jdu{S:jg}(h:View S V):S.keys.Nodup:=by refine(h.keys.nodup_iff).2 ?_;unfold List.Nodup;rw[xQ];exact h.apart
theorem J9.clear{S:jg}(h:J9 S)(d:View S V)(ks:List Str):(jg.Z5 ks S).2=true/\J9 (jg.Z5 ks S).1/\View (jg.Z5 ks S).1 (V.filter (λp=>decide (p.1∈ks)))/\(S.late=[]->(jg.Z5 ks S).1.late=[]):=by
 unfold jg.Z5;rw[if_neg (by rw[h.bad];decide)];have c:∀ n∈S.keys,∃ b,(n,b)∈V:=λn hn=>by obtain⟨p,f,e⟩:=ZW.1<|d.keys.mem_iff.1 hn;grind
 have g:=J9.removeAll (h.called false) (d.called false) (others ks S.keys) (d.jdu.sublist xN) λn hn=>c n (List.mem_filter.1 hn).1
 have e:V.filter (λp=>decide (p.1∉others ks S.keys))=V.filter (λp=>decide (p.1∈ks)):=by(refine List.filter_congr λp f=>?_);have i:p.1∈S.keys:=d.keys.mem_iff.2<|ZW.2 ⟨p,f,rfl⟩;grind [others]
 rwa [e] at g
end
section
open RowKit Maps WideShapes Go.Proofs.Tryz
def jl3(E:Nat->Addr)(B:Nat)(w:World)(ρ:Nat->jz)(d:Nat)(S:jg)(R:DStep)(e:Ending)(w':World):Prop:=∃ S' ok,R S S' ok/\ly E B w ρ d (S',ok) e w'
def Off(ρ:Nat->jz)(v:Value):Prop:=∀ p n c,v=.slice (some p) n c->ρ p.block=.none
theorem jjg{E:Nat->Addr}{B:Nat}{w:World}{ρ:Nat->jz}{d k:Nat}{S:jg}(D:Dk E B w ρ d S)(F:Fit k S)(nm:Str)(W:nm≠[])(v:Value)(b:By)(U:Bytes w v b)(q:Off ρ v)(hk:k+1+nm.length+b.length<549755813888):Calls prog 107 #[aA d,jc nm,v] w (jl3 E B w ρ d S (jbl nm b)):=by
 have Z:Small S:=F.small zC;have z:nm.length<1099511627776:=zC;obtain⟨p,c,rfl,av,a8,a7,a6⟩:=id U;have g:∀ S' ok,jbl nm b S S' ok=(if b=[] then jbo nm else jbm [jbo nm,jig nm b]) S S' ok:=λ_ _=>rfl
 obtain⟨R0,C⟩:=zJ (jbl nm b);rw[<-C] at g ⊢;change Hid _ at g;have HV:=jb U;clear C a7 a6 U;go_enter func107,ntmps107;go_wp2_with fail;refine(jbc nm D.rep Z z).mono ?_;rintro e w1 ⟨I,o,⟨s,rfl,M⟩|⟨s,hA,rfl,M⟩|⟨s,hA,rfl,f,hf,M⟩⟩
 .have r:=D.step o M;go_wp2_with fail;refine(Qb r.Qo nm 1 zE).mono ?_;rintro e O ⟨v2,rfl,J,k2⟩;obtain⟨t,a,rfl⟩:=J.shape;go_wp2;go_ret;refine⟨S.called true,false,?_,I,o.same k2,r.same k2,.inr ⟨rfl,_,rfl,J⟩⟩;rw[g.out];split;exact .inl ⟨s,rfl,rfl⟩;exact .inl ⟨.inl ⟨s,rfl,rfl⟩,rfl⟩
 exact absurd hA W
 .have r:=D.step o M;have i:jbo nm S (((S.called true).withFile f Jv).named ⟨nm,[],[],some f⟩) true:=.inr ⟨s,rfl,f,hf,rfl⟩;have F1:=F.jjs W i;(have A:(((S.called true).withFile f Jv).named ⟨nm,[],[],some f⟩).at nm=some f:=by obtain⟨V,hV⟩:=F.view;have hU:=(hV.called true).create hf W;obtain⟨f',a',X,h2,h3⟩:=hU.get (n:=nm) (b:=[]) xW;(have a5:nm.isEmpty=false:=by cases nm<;>simp_all);unfold jg.at;simp only[jg.named,doA,a5,if_true,vg];rw[atKey_put_same (k:=.string nm) ?_ (by trivial)];rfl;obtain⟨T,⟨⟨es,e,_⟩,_⟩,_⟩:=F.fs;exact⟨es,e⟩);(have l:(((S.called true).withFile f Jv).named ⟨nm,[],[],some f⟩).files f=some Jv:=by simp[jg.named,jg.withFile]);generalize hS1:((S.called true).withFile f Jv).named ⟨nm,[],[],some f⟩=S1 at *;have HA:=jb A;have HF:=jb l;have HC:=jb i;clear hS1 A l i;go_wp2_with fail;refine(Yd nm w1).mono ?_;rintro e O ⟨rfl,rfl⟩;by_cases hb0:b=[];(· subst hb0;go_wp2;go_ret;refine⟨S1,true,?_,I,o,r,.inl ⟨rfl,rfl⟩⟩;rw[g.out];exact HC.out);· have G:0<b.length:=xV.2 hb0;(have aj:((b.length:Int)==0)=false:=by simp;omega);(obtain⟨m,rfl⟩:∃ m,p=some m:=by cases p with|some m=>exact⟨m,rfl⟩|none=>obtain⟨p',c',e,X,h2,h3,h4⟩:=HV.out;simp_all);have x:Bytes O (.slice (some m) b.length c) b:=HV.out.keep o.keeps (λp n c' e h=>by cases e;exact h<|q _ _ _ rfl);have a4:I m.block=.none:=(o.role _<|HV.out.lt hb0).trans<|q _ _ _ rfl;(have H:Arg O I (.slice (some m) b.length c) b:=by obtain⟨p',c',e,X,h2,h3,h4⟩:=x;cases e;exact .inr ⟨m,c,rfl,X,a4,λj u hu=>zF⟩);have Z1:Small S1:=F1.small zC;(have y:total S1.files S1.names<1099511627776:=zA F1.total);change Hid _ at y;clear x;go_wp2_with fail;refine(Gk nm b m c r.rep Z1 z HA HF G zC H zC a8 y.out).mono ?_;rintro e w3 ⟨ρ3,L,⟨R,rfl,Y⟩|⟨R,hy,rfl,Y⟩⟩;(· have N:=r.step L Y;go_wp2_with fail;refine(Qb N.Qo nm 1 zE).mono ?_;rintro e w4 ⟨v4,rfl,J,k4⟩;go_wp2;go_ret;refine⟨_,false,?_,ρ3,(o.trans L).same k4,N.same k4,.inr ⟨rfl,v4,rfl,J⟩⟩;rw[g.out,if_neg hb0];exact .inr ⟨S1,HC.out,.inl ⟨⟨f,Jv,HA.out,HF.out,.inl ⟨R,rfl,rfl⟩⟩,rfl⟩⟩);· have N:=r.step L Y;go_wp2_with fail;refine(Yd nm w3).mono ?_;rintro e w4 ⟨rfl,rfl⟩;go_wp2;go_ret;refine⟨_,true,?_,ρ3,o.trans L,N,.inl ⟨rfl,rfl⟩⟩;rw[g.out,if_neg hb0];exact .inr ⟨S1,HC.out,.inr ⟨_,⟨f,Jv,HA.out,HF.out,.inr ⟨R,hy,rfl,rfl⟩⟩,rfl,rfl⟩⟩
end
