/-
-/
import Derived.Test.YtmjgfacoogdcdaaGreatDoorO23
import Derived.Test.YtmjgfacoogdcdaaGreatDoorO20
set_option maxRecDepth 100000
set_option maxHeartbeats 8000000
set_option linter.all false
namespace Go.Proofs.YtmjgfacoogdcdaaGreatDoor
section
open RowKit Maps WideShapes Go.Proofs.Tryz
variable {P:Program} {W W' w w':World} {e t:TypeId} {b g hb i j k n:Nat} {name:String} {p1 v:Value} {p2 x y:Int} {T:Nat->Prop} {l:List Value} {hi:Str} {ls:List (List Rf.Ch)}
theorem Sp(a:Addr)(b c:TypeId)(s t:String):(Builtin.ssaWrapNilChk_ #[b] c #[.pointer (some a),strVal s,strVal t]).run P w=.ok (.pointer (some a)) w:=rfl
theorem jfi{i:TypeInfo}(h:P.info? t=some i):(typeInfo t).run P w=.ok i w:=by simp[typeInfo,Sem.run_bind,Result.andThen,go_sem,h]
theorem Bl{fuel:Nat}{b:TypeId}{f:FuncId}{i:TypeInfo}{m:Method}{a:Addr}(hi:P.info? t=some i)(k:i.methods.find? (·.name==name)=some m)(j:m.path=#[])(l:m.func=some (f,false))(g:P.underlying t=some (.pointer b))(d:(isAgg b).run P w=.ok false w)(c:w.cell? a=some v):(Go.method (fuel+1) t (.pointer (some a)) name).run P w=.ok (f,v) w:=by simp[Go.method,Sem.run_bind,jfi hi,run_underlying g,k,j,l,d,c,Result.andThen,follow,receiverAt,Place.get,Sp,go_sem]
theorem rowOf{i:TypeInfo}{r:Nat×Option (FuncId×Bool)}(h:(i.methods.find? (·.name==name)).map (λm=>(m.path.size,m.func))=some r):∃ m,i.methods.find? (·.name==name)=some m/\m.path.size=r.1/\m.func=r.2:=by grind [XE]
theorem B9(w:World):(isAgg 315).run prog w=.ok false w:=by kernel_rfl
theorem mc:(prog.info? 294).map (λi=>((i.methods.find? (·.name== "Len")).map (λm=>(m.path.size,m.func)),(i.methods.find? (·.name== "Less")).map (λm=>(m.path.size,m.func)),(i.methods.find? (·.name== "Swap")).map (λm=>(m.path.size,m.func)))) =
 some (some (0,some (208,false)),some (0,some (282,false)),some (0,some (285,false))):=by
 kernel_rfl
theorem Em(h:w.cell? (aC b)=some v):(Go.method 482 294 (aA b) "Len").run prog w=.ok (208,v) w:=by obtain⟨i,hi,c⟩:=XE.1 mc;obtain⟨m,g,f,d⟩:=rowOf (r:=(0,some (208,false)))<|congrArg Prod.fst c;exact Bl (fuel:=481) hi g (Array.eq_empty_of_size_eq_zero f) d underlying294 (B9 w) h
theorem Bm(h:w.cell? (aC b)=some v):(Go.method 482 294 (aA b) "Less").run prog w=.ok (282,v) w:=by obtain⟨i,hi,c⟩:=XE.1 mc;obtain⟨m,g,f,d⟩:=rowOf (r:=(0,some (282,false)))<|congrArg (λx=>x.2.1) c;exact Bl (fuel:=481) hi g (Array.eq_empty_of_size_eq_zero f) d underlying294 (B9 w) h
theorem ib(h:w.cell? (aC b)=some v):(Go.method 482 294 (aA b) "Swap").run prog w=.ok (285,v) w:=by obtain⟨i,hi,c⟩:=XE.1 mc;obtain⟨m,g,f,d⟩:=rowOf (r:=(0,some (285,false)))<|congrArg (λx=>x.2.2) c;exact Bl (fuel:=481) hi g (Array.eq_empty_of_size_eq_zero f) d underlying294 (B9 w) h
theorem jah(v:Value)(w:World):(Go.method 482 294 v "Push").run prog w=.ok (284,v) w:=by kernel_rfl
theorem jdm(v:Value)(w:World):(Go.method 482 294 v "Pop").run prog w=.ok (283,v) w:=by kernel_rfl
abbrev HS:=Value×Rf.Source
def zc(ps:List HS):List Value:=ps.flatMap λp=>[p.1,jw p.2.age]
theorem th(ps:List HS):(zc ps).length=ps.length*2:=by induction ps with|nil=>rfl|cons p r ih=>grind [zc]
theorem Sf{ps:List HS}{p:HS}(h:ps[k]?=some p):(zc ps)[k*2]?=some p.1/\(zc ps)[k*2+1]?=some (jw p.2.age):=by induction ps generalizing k with|nil=>simp at h|cons q r ih=>(have e:zc (q::r)=[q.1,jw q.2.age]++zc r:=by simp[zc]);rw[e];cases k with|zero=>cases h;simp|succ k=>grind
structure xh(W:World)(base hb:Nat)(v:Value)(ps:List HS):Prop where
 box:W.heap[hb]?=some (.cells #[v] 315 (0,0))
 row:W.ownsRow base 318 2 v ps.length (zc ps)
 ne:v.ownBlock≠some hb
 has:∀ p∈ps,Chs W p.1 p.2.entries/\∀ ad n c,p.1=.slice (some ad) n c->ad.block≠hb/\v.ownBlock≠some ad.block
theorem xh.cell{base:Nat}{ps:List HS}(h:xh W base hb v ps):W.cell? (aC hb)=Option.some v:=(zM h.box).trans rfl
theorem xh.src{base:Nat}{ps:List HS}(h:xh W base hb v ps){p:HS}(c:ps[k]?=Option.some p):∃ g cap,v=.slice (Option.some (aC g)) ps.length cap/\ps.length<=cap/\W.cell? ⟨g,k*2,none⟩=Option.some p.1/\W.cell? ⟨g,k*2+1,none⟩=Option.some (jw p.2.age):=by have m:=(ZT.1 c).1;obtain⟨f,d⟩:=Sf c;obtain⟨rfl,n⟩|⟨g,cap,l,rfl,j,i,b,_⟩:=h.row.2;omega;refine⟨g,cap,rfl,b,?_,?_⟩;have:=h.row.cells rfl _ _ f;rwa [add_zero] at this;have:=h.row.cells rfl _ _ d;rwa [add_zero] at this
theorem jey{l:aD}(h:Chs W v l)(f:l≠[]):∃ b o cap,v=.slice (some (B3 b o)) l.length cap/\l.length<=cap/\W.cell? (B3 b o)=some (jc ((l.head?.map Rf.Ch.key).getD [])):=by obtain⟨p,c,rfl,g,m,k,j⟩:=id h;have d:0<l.length:=xV.2 f;obtain⟨b,o,rfl,i,q,n⟩:=h.at d;refine⟨b,o,c,rfl,g,?_⟩;cases l with|nil=>exact(f rfl).elim|cons x r=>simpa using i
theorem Da(p:Option Addr)(n c:Nat)(w:World)(b:n<1099511627776):Calls prog 208 #[.slice p n c] w λe w'=>e=.returned (jw n)/\w'=w:=by go_enter func208,ntmps208;go_wp2;go_ret;exact⟨rfl,rfl⟩
theorem jgv{base:Nat}{ps:List HS}(H:xh W base hb v ps){p q:HS}(hi:ps[i]?=some p)(m:ps[j]?=some q)(f:p.2.entries≠[])(d:q.2.entries≠[])(L:ps.length<1048576)(N:p.2.age<4611686018427387904/\q.2.age<4611686018427387904):Calls prog 282 #[v,jw i,jw j] W λe w'=>e=.returned (.bool (p.2.less q.2))/\ja W w' No:=by
 obtain⟨g,cap,rfl,u,A,a2⟩:=H.src hi;obtain⟨T,x,e,_,z,U⟩:=H.src m;cases e;have E:=(ZT.1 hi).1;have D:=(ZT.1 m).1;have o:=XF hi;have n:=XF m;obtain⟨X,G,J,t,S,y⟩:=jey (H.has p o).1 f;obtain⟨V,F,I,s,O,t2⟩:=jey (H.has q n).1 d;have C:0<p.2.entries.length:=xV.2 f;have B:0<q.2.entries.length:=xV.2 d;rw[t] at A;rw[s] at z;have b:p.2.less q.2=(decide (p.2.top<q.2.top)||(decide (p.2.top=q.2.top)&&decide (p.2.age<q.2.age))):=rfl;unfold Rf.Source.top at b;generalize (p.2.entries.head?.map Rf.Ch.key).getD []=kp at y b;generalize (q.2.entries.head?.map Rf.Ch.key).getD []=kq at t2 b;generalize p.2.less q.2=R at b ⊢;generalize p.2.entries.length=np at *;generalize q.2.entries.length=nq at *;generalize p.2.age=ap at *;generalize q.2.age=aq at *;change Hid _ at b;clear t s H hi m o n f d;have r:∀ q,ja W (W.drewN q) No:=λq=>⟨rfl,rfl,rfl,zR _,λ_ _ _=>rfl⟩
 obtain⟨l,k⟩|⟨l,k⟩|⟨l,k⟩:=im kp kq
 ·(have c:Hid (R=true):=zG);unfold Ev at k;clear l;go_enter func282,ntmps282;go_wp2_with fail;go_quiet ((go_at_call 160;exact Calls.quiet_of_same<|Tryz.strings_Compare ⟨kp.toArray⟩ ⟨kq.toArray⟩ _));go_wp2;go_ret;exact⟨by rw[c.out];rfl,r _⟩
 ·(have c:Hid (R=decide (ap<aq)):=zF);unfold Ev at k;clear l;(have M:decide ((ap:Int)<aq)=decide (ap<aq):=zD);go_enter func282,ntmps282;go_wp2_with fail;go_quiet ((go_at_call 160;exact Calls.quiet_of_same<|Tryz.strings_Compare ⟨kp.toArray⟩ ⟨kq.toArray⟩ _));go_wp2_with fail;go_quiet (fail);go_wp2;go_ret;exact⟨by rw[c.out];simp,⟨rfl,rfl,rfl,zR _,λ_ _ _=>rfl⟩⟩
 ·(have c:Hid (R=false):=by grind [Hid]);unfold Ev at k;clear l;go_enter func282,ntmps282;go_wp2_with fail;go_quiet ((go_at_call 160;exact Calls.quiet_of_same<|Tryz.strings_Compare ⟨kp.toArray⟩ ⟨kq.toArray⟩ _));go_wp2;go_ret;exact⟨by rw[c.out];rfl,r _⟩
theorem jct{cap:Nat}{d:Value}{f:Int}(m:i≠j)(hi:i<n)(A:j<n)(z:n<1048576)(C:n<=cap)(l:∃ a b c,p1=.slice a b c)(k:∃ a b c,d=.slice a b c)(F:W.cell? ⟨g,i*2,none⟩=some p1)(a2:W.cell? ⟨g,i*2+1,none⟩=some (aB p2))(E:W.cell? ⟨g,j*2,none⟩=some d)(D:W.cell? ⟨g,j*2+1,none⟩=some (aB f))(B:∀ o,W.frozen? (B3 g o)=false):Calls prog 285 #[.slice (some (aC g)) n cap,jw i,jw j] W λe w'=>e=.returned (.tuple #[])/\w'=((((W.setCell ⟨g,i*2,none⟩ d).setCell ⟨g,i*2+1,none⟩ (aB f)).setCell ⟨g,j*2,none⟩ p1).setCell ⟨g,j*2+1,none⟩ (aB p2)).drew:=by obtain⟨t,s,pc,rfl⟩:=l;obtain⟨r,q,p,rfl⟩:=k;have y:¬j*2=i*2:=zC;have x:¬j*2=i*2+1:=zC;have v:¬j*2+1=i*2:=zC;have u:¬j*2+1=i*2+1:=zC;go_enter func285,ntmps285;go_wp2_with fail;go_region;go_end0;exact⟨rfl,rfl⟩
theorem Hu{cap:Nat}(hi:i<n)(m:n<1048576)(q:n<=cap)(d:∃ a b c,p1=.slice a b c)(r:W.cell? ⟨g,i*2,none⟩=some p1)(a2:W.cell? ⟨g,i*2+1,none⟩=some (aB p2))(p:∀ o,W.frozen? (B3 g o)=false):Calls prog 285 #[.slice (some (aC g)) n cap,jw i,jw i] W λe w'=>e=.returned (.tuple #[])/\w'=((((W.setCell ⟨g,i*2,none⟩ p1).setCell ⟨g,i*2+1,none⟩ (aB p2)).setCell ⟨g,i*2,none⟩ p1).setCell ⟨g,i*2+1,none⟩ (aB p2)).drew:=by obtain⟨j,f,pc,rfl⟩:=d;have l:¬i*2=i*2+1:=zC;have k:¬i*2+1=i*2:=zC;go_enter func285,ntmps285;go_wp2_with fail;go_region;go_end0;exact⟨rfl,rfl⟩
theorem X8{base:Nat}{size cap:Nat}{xs:List Value}(h:w.ownsRow base e size (.slice (some (aC g)) n cap) n xs)(o:j<n*size)(u:Value):(w.setCell (B3 g j) u).ownsRow base e size (.slice (some (aC g)) n cap) n (xs.set j u):=by refine⟨by rw[xF];exact h.1,?_⟩;obtain⟨b,_⟩|⟨q,d,c,b,m,l,k,i,f,p⟩:=h.2;cases b;cases b;refine .inr ⟨g,cap,c.setIfInBounds j u,rfl,m,jd l u,k,i,by simpa using f,?_⟩;grind [List.take_set]
theorem Cj{ps:List HS}(h:k<ps.length)(q:HS):zc (ps.set k q)=((zc ps).set (k*2) q.1).set (k*2+1) (jw q.2.age):=by induction ps generalizing k with|nil=>simp at h|cons p r ih=>(have e:∀(x:HS) (l:List HS),zc (x::l)=x.1::jw x.2.age::zc l:=λx l=>by simp[zc]);cases k with|zero=>simp[e]|succ k=>grind
theorem xh.frozen{base:Nat}{ps:List HS}{cap:Nat}(h:xh W base hb (.slice (Option.some (aC g)) n cap) ps)(o:Nat):W.frozen? (B3 g o)=false:=by obtain⟨b,_⟩|⟨j,c,d,b,i,f,_⟩:=h.row.2;cases b;grind [zN]
theorem xh.keep{base:Nat}{ps:List HS}(h:xh W base hb v ps)(k:ja W W' T)(f:¬T hb)(d:∀ g,v.ownBlock=Option.some g->¬T g)(b:∀ p∈ps,∀ ad n c,p.1=.slice (Option.some ad) n c->¬T ad.block):xh W' base hb v ps:=⟨k.same h.box f,k.row h.row d,h.ne,λp hp=>⟨(h.has p hp).1.keep k λ_ ad n c e=>b p hp ad n c e,(h.has p hp).2⟩⟩
theorem xh.same{base:Nat}{ps:List HS}(h:xh W base hb v ps)(k:ja W W' No):xh W' base hb v ps:=h.keep k id (λ_ _=>id) λ_ _ _ _ _ _=>id
theorem xh.jl9{base:Nat}{ps:List HS}{cap:Nat}(h:xh W base hb (.slice (Option.some (aC g)) ps.length cap) ps){p q:HS}(hi:ps[i]?=Option.some p)(l:ps[j]?=Option.some q):xh ((((W.setCell ⟨g,i*2,none⟩ q.1).setCell ⟨g,i*2+1,none⟩ (jw q.2.age)).setCell ⟨g,j*2,none⟩ p.1).setCell ⟨g,j*2+1,none⟩ (jw p.2.age)).drew base hb (.slice (Option.some (aC g)) ps.length cap) ((ps.set i q).set j p)/\ja W ((((W.setCell ⟨g,i*2,none⟩ q.1).setCell ⟨g,i*2+1,none⟩ (jw q.2.age)).setCell ⟨g,j*2,none⟩ p.1).setCell ⟨g,j*2+1,none⟩ (jw p.2.age)).drew (λi=>i=g):=by
 have d:=(ZT.1 hi).1;have m:=(ZT.1 l).1;have k:ja W ((((W.setCell ⟨g,i*2,none⟩ q.1).setCell ⟨g,i*2+1,none⟩<|jw q.2.age).setCell ⟨g,j*2,none⟩ p.1).setCell ⟨g,j*2+1,none⟩<|jw p.2.age).drew (λi=>i=g):=(((((ja.refl W λi=>i=g).set (p:=⟨g,i*2,none⟩) rfl _).set (p:=⟨g,i*2+1,none⟩) rfl _).set (p:=⟨g,j*2,none⟩) rfl _).set (p:=⟨g,j*2+1,none⟩) rfl _).draw;refine⟨⟨k.same h.box λe=>h.ne<|by rw[e];rfl,?_,h.ne,?_⟩,k⟩;have f:=(((X8 (X8 (X8 (X8 h.row (j:=i*2) zC q.1) (j:=i*2+1) zC<|jw q.2.age) (j:=j*2) zC p.1) (j:=j*2+1) zC<|jw p.2.age)));rw[xF,xF,Cj zG,Cj d];exact(ja.drew _ λ_=>False).row f λ_ _=>id
 intro x o;have b:x∈ps:=zF;exact⟨(h.has x b).1.keep k λ_ ad n c e e2=>((h.has x b).2 ad n c e).2<|by rw[<-e2];rfl,(h.has x b).2⟩
theorem je0{base:Nat}{ps:List HS}(H:xh W base hb v ps){p q:HS}(hi:ps[i]?=some p)(c:ps[j]?=some q)(k:ps.length<1048576):Calls prog 285 #[v,jw i,jw j] W λe w'=>e=.returned (.tuple #[])/\xh w' base hb v ((ps.set i q).set j p)/\ja W w' (λi=>v.ownBlock=some i):=by obtain⟨g,cap,rfl,b,m,a2⟩:=H.src hi;obtain⟨B,n,e,_,t,s⟩:=H.src c;cases e;have d:=(ZT.1 hi).1;have f:=(ZT.1 c).1;obtain⟨y,pc,l,_⟩:=(H.has p<|XF hi).1;obtain⟨u,x,r,_⟩:=(H.has q<|XF c).1;obtain⟨A,o⟩:=H.jl9 hi c;have z:=o.mono (U:=λi=>(Value.slice (some (aC g)) ps.length cap).ownBlock=some i) (λi _ e=>by rw[e];rfl);by_cases hij:i=j;subst hij;rw[hi] at c;cases c;refine(Hu d k b ⟨_,_,_,l⟩ m a2 H.frozen).mono ?_;simp_all;refine(jct hij d f k b ⟨_,_,_,l⟩ ⟨_,_,_,r⟩ m a2 t s H.frozen).mono ?_;simp_all
abbrev Kp(hb:Nat):Value:=.iface 294 (.pointer (some ⟨hb,0,none⟩))
def ye(ps:List HS):List Rf.Source:=ps.map Prod.snd
theorem Q9{ps:List HS}{p:HS}(h:ps[k]?=some p):(ye ps)[k]?=some p.2:=by grind [ye]
theorem H7{ps:List HS}{s:Rf.Source}(h:(ye ps)[k]?=some s):∃ p,ps[k]?=some p/\p.2=s:=by grind [ye]
theorem ng(ps:List HS)(i j:Nat)(p q:HS):ye ((ps.set i q).set j p)=((ye ps).set i q.2).set j p.2:=by unfold ye;simp_all
theorem Zw{l:List HS}{a b:HS}(c:l[i]?=some a)(hb:l[j]?=some b):((l.set i b).set j a).Perm l:=by grind [List.set_set_perm]
theorem Kk{base:Nat}{ps:List HS}(H:xh W base hb v ps){p q:HS}(k:x=i)(g:y=j)(hi:ps[i]?=some p)(d:ps[j]?=some q)(c:p.2.entries≠[])(b:q.2.entries≠[])(l:ps.length<1048576)(f:∀ p∈ps,p.2.age<4611686018427387904):Calls prog 282 #[v,aB x,aB y] W λe w'=>e=.returned (.bool (p.2.less q.2))/\ja W w' No:=by subst k g;exact jgv H hi d c b l ⟨f p<|XF hi,f q<|XF d⟩
theorem Hv{base:Nat}{ps:List HS}(H:xh W base hb v ps){p q:HS}(c:x=i)(b:y=j)(hi:ps[i]?=some p)(f:ps[j]?=some q)(d:ps.length<1048576):Calls prog 285 #[v,aB x,aB y] W λe w'=>e=.returned (.tuple #[])/\xh w' base hb v ((ps.set i q).set j p)/\ja W w' (λi=>v.ownBlock=some i):=by subst c b;exact je0 H hi f d
theorem jkm{base:Nat}{ps:List HS}(H:xh W base hb v ps)(s:∀ p∈ps,p.2.entries≠[])(U:Rf.ow (ye ps) j)(J:j<ps.length)(G:ps.length<1048576)(u:∀ p∈ps,p.2.age<4611686018427387904):Calls prog 241 #[Kp hb,jw j] W λe w'=>e=.returned (.tuple #[])/\∃ qs,qs.Perm ps/\xh w' base hb v qs/\Rf.Ql (ye qs) qs.length/\ja W w' (λi=>v.ownBlock=some i):=by
 go_enter func241,ntmps241;go_wp2_with fail;go_loopw [1] (λjv wr=>∃(k:Nat) (qs:List HS),jv = aB k/\k<ps.length/\qs.Perm ps/\xh wr base hb v qs/\Rf.ow (ye qs) k/\ja W wr (λi=>v.ownBlock=some i)) (λjv _=>(intOf jv).toNat);case atStart=>grind [List.Perm.refl,ja.refl]
 case round=>obtain⟨k,qs,rfl,I,f,l,n,g⟩:=hrel;have B:qs.length=ps.length:=f.length_eq;by_cases h0:k=0;(· subst h0;go_wp2;go_end0;refine⟨rfl,qs,f,l,?_,g⟩;have:=n.done<|.inl rfl;grind [ye]);· (have A:((((k:Int)-1)/2)==(k:Int))=false:=zF);obtain⟨q,d⟩:∃ q,qs[k]?=some q:=⟨_,XG zC⟩;obtain⟨p,b⟩:∃ p,qs[(k-1)/2]?=some p:=⟨_,XG zC⟩;have F:=Bm l.cell;(have x:1<=k:=zC);(have r:∀ p∈qs,p.2.age<4611686018427387904:=λp h=>u p<|f.mem_iff.1 h);(have c:qs.length<1048576:=zC);change Hid _ at d b;clear h0;go_wp2_with fail;refine(Kk l (i:=k) (j:=(k-1)/2) rfl zC d.out b.out (s q<|f.mem_iff.1<|XF d.out) (s p<|f.mem_iff.1<|XF b.out) c r).mono ?_;rintro e D ⟨rfl,m⟩;have o:=l.same m;cases hb0:q.2.less p.2 with|false=>have y:=jb hb0;clear hb0;go_wp2;go_end0;refine⟨rfl,qs,f,o,?_,g.trans m λ_ _ h=>h.elim⟩;have:=n.done<|.inr ⟨p.2,q.2,Q9 b.out,Q9 d.out,y⟩;grind [ye]|true=>change Hid _ at hb0;have E:=ib o.cell;go_wp2_with fail;refine(Hv o (i:=(k-1)/2) (j:=k) zC rfl b.out d.out c).mono ?_;rintro e C ⟨rfl,z,t⟩;go_wp2;go_roundw;(case rel=>refine⟨(k-1)/2,_,zF,zC,(Zw b.out d.out).trans f,z,?_,(g.trans m λ_ _ h=>h.elim).tt t⟩;rw[ng];exact n.step x (Q9 b.out) (Q9 d.out) hb0.out);grind [intOf]
theorem pj{b:List HS}{p q:HS}(h:∀ k p,k<n->b[k]?=some p->p.2.entries≠[])(hi:i<n)(f:j<n)(d:b[i]?=some p)(c:b[j]?=some q):∀ k x,k<n->((b.set i q).set j p)[k]?=some x->x.2.entries≠[]:=by grind
def Vr(W:World)(base hb:Nat)(v:Value)(ps:List HS)(n:Nat)(e:Ending)(w':World):Prop :=
 ∃(mv:Bool) (qs:List HS),e=.returned (.bool mv)/\qs.Perm ps/\xh w' base hb v qs/\Rf.Ql (ye qs) n/\(∀ k,n<=k->qs[k]?=ps[k]?)/\ja W w' (λi=>v.ownBlock=some i)
theorem jhk{base:Nat}{ps:List HS}(H:xh W base hb v ps)(hs:∀ k p,k<n->ps[k]?=some p->p.2.entries≠[])(U:Rf.Qx (ye ps) 0 n)(hn:n<=ps.length)(hl:ps.length<1048576)(ha:∀ p∈ps,p.2.age<4611686018427387904):Calls prog 242 #[Kp hb,aB 0,jw n] W (Vr W base hb v ps n):=by
 go_enter func242,ntmps242
 go_wp2_with fail
 go_loopw [7] (λiv wr=>∃(k:Nat) (o:List HS),iv = aB k/\k<=ps.length/\o.Perm ps/\xh wr base hb v o/\Rf.Qx (ye o) k n/\(∀ k,n<=k->o[k]?=ps[k]?)/\(∀ k p,k<n->o[k]?=some p->p.2.entries≠[])/\ja W wr (λi=>v.ownBlock=some i))
  (λiv _=>ps.length-(intOf iv).toNat)
 case atStart=>grind [List.Perm.refl,ja.refl]
 case round =>
  obtain⟨k,o,rfl,hk,E,I,G,D,R,t⟩:=hrel
  have a5:o.length=ps.length:=E.length_eq
  have F:∀ p∈o,p.2.age<4611686018427387904:=λp h=>ha p (E.mem_iff.1 h)
  have g:o.length<1048576:=by omega
  have u:=jb D
  have d:=jb R
  clear D R
  by_cases h1:n<=2*k+1
  .have V:(n:Int)<=2*(k:Int)+1:=by omega
   go_wp2
   go_ret
   exact⟨_,o,rfl,E,I,G.none h1,u.out,t⟩
  .have V:2*(k:Int)+1<(n:Int):=by omega
   obtain⟨p,S⟩:∃ p,o[k]?=some p:=⟨_,XG (by omega)⟩
   obtain⟨q,hq⟩:∃ q,o[2*k+1]?=some q:=⟨_,XG (by omega)⟩
   have mL:=Bm I.cell
   have l:=jb S
   have s:=jb hq
   clear S hq
   by_cases h2:2*k+2<n
   .have T:2*(k:Int)+1+1<(n:Int):=by omega
    obtain⟨r,hr⟩:∃ r,o[2*k+2]?=some r:=⟨_,XG (by omega)⟩
    have B:=jb hr
    clear hr
    go_wp2_with fail
    refine(Kk I (i:=2*k+2) (j:=2*k+1) (by omega) (by omega) B.out s.out (d.out _ r h2 B.out) (d.out _ q (by omega) s.out) g F).mono ?_
    rintro e w4 ⟨rfl,L⟩
    have O:=I.same L
    have a3:=Bm O.cell
    cases hb4:r.2.less q.2 with
    | true =>
     have b:Hid (∀ m c,(m=2*k+1\/m=2*k+2)->m<n->(ye o)[m]?=some c->r.2.le c):=by
      intro m c A _ M
      obtain⟨x,z,rfl⟩:=H7 M
      rcases A with rfl|rfl
      .rw[s.out] at z;cases z;exact Rf.Source.Bp hb4
      .rw[B.out] at z;cases z;exact Rf.Source.le_refl _
     clear hb4
     go_wp2_with fail
     refine(Kk O (i:=2*k+2) (j:=k) (by omega) rfl B.out l.out (d.out _ r (by omega) B.out) (d.out _ p (by omega) l.out) g F).mono ?_
     rintro e Y ⟨rfl,y⟩
     have C:=O.same y
     cases hb5:r.2.less p.2 with
     | false =>
      have f:=jb hb5
      clear hb5
      go_wp2
      go_ret
      exact⟨_,o,rfl,E,C,G.done (j:=2*k+2) (by omega) (by omega) (Q9 l.out) (Q9 B.out) f.out b.out,u.out,t.trans (L.tt y) (λ_ _ h=>h.elim)⟩
     | true =>
      have f:=jb hb5
      clear hb5
      have Z:=ib C.cell
      go_wp2_with fail
      refine(Hv C (i:=k) (j:=2*k+2) rfl (by omega) l.out B.out g).mono ?_
      rintro e X ⟨rfl,N,J⟩
      go_wp2
      go_roundw
      case rel =>
       refine⟨2*k+2,_,by grind,by omega,(Zw l.out B.out).trans E,N,?_,λm A=>?_,pj d.out (by omega) (by omega) l.out B.out,(t.trans (L.tt y) (λ_ _ h=>h.elim)).tt J⟩
       .rw[ng]
        exact G.step (j:=2*k+2) (by omega) (by omega) (Q9 l.out) (Q9 B.out) f.out b.out
       .rw[XH (by omega),XH (by omega)]
        exact u.out m A
      grind [intOf]
    | false =>
     have b:Hid (∀ m c,(m=2*k+1\/m=2*k+2)->m<n->(ye o)[m]?=some c->q.2.le c):=by
      intro m c A _ M
      obtain⟨x,z,rfl⟩:=H7 M
      rcases A with rfl|rfl
      .rw[s.out] at z;cases z;exact Rf.Source.le_refl _
      .rw[B.out] at z;cases z;exact hb4
     clear hb4
     go_wp2_with fail
     refine(Kk O (i:=2*k+1) (j:=k) (by omega) rfl s.out l.out (d.out _ q (by omega) s.out) (d.out _ p (by omega) l.out) g F).mono ?_
     rintro e Y ⟨rfl,y⟩
     have C:=O.same y
     cases hb5:q.2.less p.2 with
     | false =>
      have f:=jb hb5
      clear hb5
      go_wp2
      go_ret
      exact⟨_,o,rfl,E,C,G.done (j:=2*k+1) (by omega) (by omega) (Q9 l.out) (Q9 s.out) f.out b.out,u.out,t.trans (L.tt y) (λ_ _ h=>h.elim)⟩
     | true =>
      have f:=jb hb5
      clear hb5
      have Z:=ib C.cell
      go_wp2_with fail
      refine(Hv C (i:=k) (j:=2*k+1) rfl (by omega) l.out s.out g).mono ?_
      rintro e X ⟨rfl,N,J⟩
      go_wp2
      go_roundw
      case rel =>
       refine⟨2*k+1,_,by simp_all,by omega,(Zw l.out s.out).trans E,N,?_,λm A=>?_,pj d.out (by omega) (by omega) l.out s.out,(t.trans (L.tt y) (λ_ _ h=>h.elim)).tt J⟩
       .rw[ng]
        exact G.step (j:=2*k+1) (by omega) (by omega) (Q9 l.out) (Q9 s.out) f.out b.out
       .rw[XH (by omega),XH (by omega)]
        exact u.out m A
      grind [intOf]
   .have T:decide (2*(k:Int)+1+1<(n:Int))=false:=by simp;omega
    have b:Hid (∀ m c,(m=2*k+1\/m=2*k+2)->m<n->(ye o)[m]?=some c->q.2.le c):=by
     intro m c A a4 M
     obtain⟨x,z,rfl⟩:=H7 M
     rcases A with rfl|rfl
     .rw[s.out] at z;grind [Rf.Source.le_refl]
     .omega
    go_wp2_with fail
    refine(Kk I (i:=2*k+1) (j:=k) (by omega) rfl s.out l.out (d.out _ q (by omega) s.out) (d.out _ p (by omega) l.out) g F).mono ?_
    rintro e Y ⟨rfl,y⟩
    have C:=I.same y
    cases hb5:q.2.less p.2 with
    | false =>
     have f:=jb hb5
     clear hb5
     go_wp2
     go_ret
     exact⟨_,o,rfl,E,C,G.done (j:=2*k+1) (by omega) (by omega) (Q9 l.out) (Q9 s.out) f.out b.out,u.out,t.trans y (λ_ _ h=>h.elim)⟩
    | true =>
     have f:=jb hb5
     clear hb5
     have Z:=ib C.cell
     go_wp2_with fail
     refine(Hv C (i:=k) (j:=2*k+1) rfl (by omega) l.out s.out g).mono ?_
     rintro e X ⟨rfl,N,J⟩
     go_wp2
     go_roundw
     case rel =>
      refine⟨2*k+1,_,by simp_all,by omega,(Zw l.out s.out).trans E,N,?_,λm A=>?_,pj d.out (by omega) (by omega) l.out s.out,(t.trans y (λ_ _ h=>h.elim)).tt J⟩
      .rw[ng]
       exact G.step (j:=2*k+1) (by omega) (by omega) (Q9 l.out) (Q9 s.out) f.out b.out
      .rw[XH (by omega),XH (by omega)]
       exact u.out m A
     grind [intOf]
theorem jem(v:Value)(b:TypeId)(w:World):(Instr.typeAssert (.iface 318 v) b 318 false).run prog w=.ok v w:=by kernel_rfl
def jls:Value:=.agg #[S7,aB 0]
theorem Tryz.jjj:(prog.info? 318).map (λi=>(i.zero,i.size,i.bytes))=some (some jls,2,32):=by kernel_rfl
theorem Ol(ps:List HS)(f:∀ p∈ps,∃ a b c,p.1=.slice a b c):∀ u∈zc ps,u.oneCell'=true:=by intro u d;simp only[zc,List.mem_flatMap] at d;obtain⟨p,g,d⟩:=d;obtain⟨a,b,c,e⟩:=f p g;simp at d;obtain rfl|rfl:=d;rw[e];rfl;rfl
theorem Ap(ps:List HS)(p:HS):zc (ps++[p])=zc ps++zc [p]:=by simp[zc]
def jh6(W:World)(base hb:Nat)(v:Value)(ps:List HS)(p:HS)(w':World)(v':Value):Prop :=
 xh w' base hb v' (ps++[p])/\(v'.ownBlock=v.ownBlock\/∃ g,v'.ownBlock=some g/\W.heap.size<=g)/\ja W w' (λi=>i=hb\/v.ownBlock=some i)
theorem jf2{base:Nat}{ps:List HS}(H:xh W base hb v ps)(hs:∀ p∈ps,p.2.entries≠[])(p:HS)(I:Chs W p.1 p.2.entries)(O:p.2.entries≠[])(T:∀ ad n c,p.1=.slice (some ad) n c->ad.block≠hb/\v.ownBlock≠some ad.block)(hl:ps.length+1<1048576)(X:base<=W.heap.size):Calls prog 284 #[aA hb,.iface 318 (.agg #[p.1,jw p.2.age])] W λe w'=>e=.returned (.tuple #[])/\∃ v',jh6 W base hb v ps p w' v':=by
 obtain⟨j0,hj,M,L,J⟩:=info_parts Tryz.jjj;obtain⟨pv,cv,rfl⟩:=ji H.row;have c0:=H.cell;have f0:=zL 0 H.box;change Hid _ at H;obtain⟨pl,Z⟩:=p;obtain⟨f,z⟩:=Z;simp only at I O T ⊢;obtain⟨y,pc,rfl,_⟩:=id I;have A:=jb<|H.out.row.alloc<|.cells #[.slice y f.length pc,jw z] 318;have r:∀ j u,(zc [((.slice y f.length pc,⟨f,z⟩):HS)])[j]?=some u->(W.alloc<|.cells #[.slice y f.length pc,jw z] 318).cell? (((aC W.heap.size):Addr).add j)=some u:=Qj (je W _) rfl;have o:=Ol [((.slice y f.length pc,⟨f,z⟩):HS)] (λp I=>zG);have U:Hid (ps.length+1<=maxLen):=by unfold Hid maxLen;omega
 have R:Hid ((ps.length+1)*32<=140737488355328):=by unfold Hid;omega
 have S:Hid (base<=(W.alloc<|.cells #[.slice y f.length pc,jw z] 318).heap.size):=by unfold Hid;simp;omega
 change Hid _ at r o;have t:∀ m:World,(W.alloc<|.cells #[.slice y f.length pc,jw z] 318).drew.grownBy m (Value.slice pv ps.length cv).ownBlock->m.heap[hb]?=some (.cells #[.slice pv ps.length cv] 315 (0,0)):=λm hg=>(ja.grown hg).same ((ja.alloc W _ λ_=>False).draw.same H.out.box id) λe=>H.out.ne e.symm
 change Hid _ at t;have a6:=jem;have a8:∀ x,(W.alloc x).cell? (aC hb)=some (.slice pv ps.length cv):=λx=>(Ye H.out.box x).trans rfl
 go_enter func284,ntmps284;go_wp2_with fail;go_region_law ( refine qy rfl (.tmp 7) (.tmp 10) 315 rfl base 318 j0 jls 2 32 underlying315 hj M L J rfl (ZF 1) (.slice pv ps.length cv) ps.length (zc ps) rfl A (aC W.heap.size) 1 1 (zc [((.slice y f.length pc,⟨f,z⟩):HS)]) rfl rfl r.out o.out U R S ?_;intro p2 b m B E C;have F:=t.out m E;have e0:=zK 0 F;have ef:=zL 0 F;simp at e0;have V:=jb F;clear F);all_goals go_wp2;go_end0;(have Y:ja W m (λi=>(Value.slice pv ps.length cv).ownBlock=some i):=(((ja.alloc W _ λ_=>False).draw).up).trans (ja.grown E) λi _ e=>e.symm);have G:=ja.setCell m (aC hb)<|.slice p2 (ps.length+1) b;(have d:(Value.slice p2 (ps.length+1) b).ownBlock=(Value.slice pv ps.length cv).ownBlock\/∃ g,(Value.slice p2 (ps.length+1) b).ownBlock=some g/\W.heap.size<=g:=by obtain h|h:=C;exact .inl h;simp_all);have a7:=zO H.out.box;(have s:(Value.slice p2 (ps.length+1) b).ownBlock≠some hb:=by obtain h|⟨g,h,h5⟩:=d;rw[h];exact H.out.ne;grind);(have D:∀ q:HS,Chs W q.1 q.2.entries->q.2.entries≠[]->(∀ ad n c,q.1=.slice (some ad) n c->ad.block≠hb/\(Value.slice pv ps.length cv).ownBlock≠some ad.block)->Chs (m.setCell (aC hb)<|.slice p2 (ps.length+1) b) q.1 q.2.entries/\∀ ad n c,q.1=.slice (some ad) n c->ad.block≠hb/\(Value.slice p2 (ps.length+1) b).ownBlock≠some ad.block:=by intro q k N l;refine⟨(k.keep Y λ_ ad n c e=>(l ad n c e).2).keep G λ_ ad n c e=>(l ad n c e).1,λad n c e=>⟨(l ad n c e).1,?_⟩⟩;obtain h|⟨g,h,h5⟩:=d;rw[h];exact(l ad n c e).2;rw[h];intro e2;cases e2;rw[e] at k;have:=k.lt N;omega);refine⟨rfl,_,⟨(jd V _).trans rfl,?_,s,?_⟩,d,(Y.mono λ_ _ h=>.inr h).trans G λ_ _ h=>.inl h⟩;rw[ZV,xK,Ap];exact G.row B (λg hg e=>s<|by rw[hg,e]);intro q k;obtain k|k:=zV.1 k;exact D q (H.out.has q k).1 (hs q k) (H.out.has q k).2;grind
def Lv(W:World)(base hb:Nat)(v:Value)(ps:List HS)(w':World):Prop :=
 ∃ v' qs,qs.Perm ps/\xh w' base hb v' qs/\Rf.Ql (ye qs) qs.length/\(v'.ownBlock=v.ownBlock\/∃ g,v'.ownBlock=some g/\W.heap.size<=g)/\ja W w' (λi=>i=hb\/v.ownBlock=some i)
theorem ki(ps:List HS):(ye ps).length=ps.length:=by simp[ye]
theorem xh.slice{base:Nat}{ps:List HS}(h:xh W base hb v ps):∃ a c,v=.slice a ps.length c:=ji h.row
theorem jlp{base:Nat}{ps:List HS}(b:x=j)(H:xh W base hb v ps)(c:∀ p∈ps,p.2.entries≠[])(U:Rf.ow (ye ps) j)(f:j<ps.length)(d:ps.length<1048576)(g:∀ p∈ps,p.2.age<4611686018427387904):Calls prog 241 #[Kp hb,aB x] W λe w'=>e=.returned (.tuple #[])/\∃ qs,qs.Perm ps/\xh w' base hb v qs/\Rf.Ql (ye qs) qs.length/\ja W w' (λi=>v.ownBlock=some i):=by subst b;exact jkm H c U f d g
theorem jhj{base:Nat}{ps:List HS}(b:x=n)(H:xh W base hb v ps)(c:∀ k p,k<n->ps[k]?=some p->p.2.entries≠[])(U:Rf.Qx (ye ps) 0 n)(d:n<=ps.length)(f:ps.length<1048576)(g:∀ p∈ps,p.2.age<4611686018427387904):Calls prog 242 #[Kp hb,aB 0,aB x] W (Vr W base hb v ps n):=by subst b;exact jhk H c U d f g
theorem Rb{base:Nat}{ps:List HS}(H:xh W base hb v ps)(r:∀ p∈ps,p.2.entries≠[])(O:Rf.Ql (ye ps) ps.length)(p:HS)(s:Chs W p.1 p.2.entries)(m:p.2.entries≠[])(o:∀ ad n c,p.1=.slice (some ad) n c->ad.block≠hb/\v.ownBlock≠some ad.block)(A:ps.length+1<1048576)(d:base<=W.heap.size)(t:∀ q∈ps++[p],q.2.age<4611686018427387904):Calls prog 225 #[Kp hb,.iface 318 (.agg #[p.1,jw p.2.age])] W λe w'=>e=.returned (.tuple #[])/\Lv W base hb v (ps++[p]) w':=by
 have L:=jah;change Hid _ at s H;go_enter func225,ntmps225;go_wp2_with fail;refine(jf2 H.out r p s.out m o A d).mono ?_;rintro e u ⟨rfl,v1,f,b,z⟩;obtain⟨C,B,rfl⟩:=f.slice;have M:=Em f.cell;go_wp2_with fail;refine(Da C (ps.length+1) B u zC).mono ?_;rintro e J ⟨rfl,rfl⟩;have E:Hid (Rf.ow (ye (ps++[p])) ps.length):=by grind [Hid,Rf.ow.start,ye]
 have F:Hid ((ps++[p]).length<1048576):=by unfold Hid;simp;omega
 change Hid _ at t f;go_wp2_with fail;refine(jlp (j:=ps.length) zC f.out (λq k=>(zV.1 k).elim (r q) λh=>zG) E zD F t.out).mono ?_;rintro e I ⟨rfl,x,k,G,D,y⟩;go_wp2;go_end0;refine⟨rfl,_,x,k,G,D,b,z.trans y λi hi h=>?_⟩;obtain l|⟨g,l,N⟩:=b;exact .inr (l▸h);rw[l] at h;cases h;omega
def jj4(W:World)(base hb:Nat)(v:Value)(rs:List HS)(e:Ending)(w':World):Prop :=
 (∃ u,e=.returned u)/\∃ v',xh w' base hb v' rs/\v'.ownBlock=v.ownBlock/\ja W w' (λi=>i=hb)
theorem jiz{base:Nat}{rs:List HS}{x:HS}(H:xh W base hb v (rs++[x]))(S:rs.length<1048576):Calls prog 283 #[aA hb] W (jj4 W base hb v rs):=by
 obtain⟨g,cap,rfl,j,J,a2⟩:=H.src (k:=rs.length) (p:=x) zD;have b:(rs++[x]).length=rs.length+1:=zD;rw[b] at j;obtain⟨u,y,G,_⟩:=(H.has x zD).1;rw[G] at J;have I:=H.cell;rw[b] at I;have V:=zL 0 H.box;change Hid _ at H;generalize x.2.entries.length=xn at *;generalize x.2.age=xa at *;have d:∀ o,(W.alloc o).heap[hb]?=some (.cells #[.slice (some (aC g)) (rs.length+1) cap] 315 (0,0)):=λo=>by have:=(ja.alloc W o λ_=>False).same H.out.box id;rwa [b] at this
 have N:∀ o,(W.alloc o).cell? (aC hb)=some (.slice (some (aC g)) (rs.length+1) cap):=λo=>(zM<|d o).trans rfl
 have M:∀ o,(W.alloc o).frozen? (aC hb)=false:=λo=>zN<|d o
 change Hid _ at d;have L:=zO H.out.box;have R:¬W.heap.size=hb:=zC;have O:¬hb=W.heap.size:=zC;go_enter func283,ntmps283;go_wp2;go_ret;have l:ja W ((W.setCell (aC hb)<|.slice (some (aC g)) rs.length cap).alloc<|.cells #[.slice u xn y,jw xa] 318) (λi=>i=hb):=((ja.refl W λi=>i=hb).set (p:=(aC hb)) rfl _).more _;have r:=H.out.box;refine⟨⟨_,rfl⟩,.slice (some (aC g)) rs.length cap,⟨(ja.alloc _ _ λ_=>False).same ((jd r _).trans rfl) id,?_,H.out.ne,λq hq=>?_⟩,rfl,l⟩;have z:=l.row H.out.row (λF hg e=>H.out.ne<|by rw[hg,e]);obtain⟨m,_⟩|⟨F,t,s,m,E,D,U,C,B,A⟩:=z.2;cases m;cases m;refine⟨th rs,.inr ⟨g,cap,s,rfl,E,D,zC,C,B,?_⟩⟩;have T:=congrArg (List.take (rs.length*2)) A;grind [Ap,th];have f:=H.out.has q<|List.mem_append_left _ hq;exact⟨f.1.keep l λ_ ad n c e=>(f.2 ad n c e).1,f.2⟩
theorem Uw{base:Nat}{s0:HS}{rs:List HS}(H:xh W base hb v (s0::rs))(hs:∀ p∈rs,p.2.entries≠[])(hd:Rf.Qx (ye (s0::rs)) 0 (s0::rs).length)(Y:(s0::rs).length<1048576)(ha:∀ q∈s0::rs,q.2.age<4611686018427387904):Calls prog 227 #[Kp hb] W λe w'=>(∃ u,e=.returned u)/\Lv W base hb v rs w':=by
 obtain⟨a1,c1,rfl⟩:=H.slice;have mN:=Em H.cell;have mS:=ib H.cell;obtain⟨x,X⟩:∃ x,(s0::rs)[rs.length]?=some x:=⟨_,XG zD⟩;have C:=jb X;have HH:=jb H;have HA:=jb ha;have HL:=jb Y;simp only[zZ] at Y;clear X H ha;go_enter func227,ntmps227;go_wp2_with fail;refine(Da a1 (rs.length+1) c1 W zC).mono ?_;rintro e w1 ⟨rfl,rfl⟩;go_wp2_with fail;refine(Hv HH (i:=0) (j:=rs.length) rfl rfl (p:=s0) (q:=x) rfl C HL).mono ?_;rintro e w2 ⟨rfl,H2,k2⟩;have g:(((s0::rs).set 0 x).set rs.length s0).length=rs.length+1:=zD;have f:(((s0::rs).set 0 x).set rs.length s0).Perm (s0::rs):=Zw rfl C;have l:(((s0::rs).set 0 x).set rs.length s0)[rs.length]?=some s0:=zG;have m:Rf.Qx (ye<|((s0::rs).set 0 x).set rs.length s0) 0 rs.length:=by refine⟨λk a b z Z hne s r=>?_,λk a b z Z hi _ _ _=>zC⟩;rw[ng,XH zC,XH zC] at s r;exact hd.other k a b z (by simp;omega) hne s r
 have d:∀ k p,k<rs.length->(((s0::rs).set 0 x).set rs.length s0)[k]?=some p->p.2.entries≠[]:=by intro k p Z B;rw[XH zC] at B;have ak:=C.out;grind
 generalize hL:((s0::rs).set 0 x).set rs.length s0=L at *;have HD:=jb m;have J:=jb d;have y:=jb f;have R:=jb l;have S:=jb g;have V:=jb H2;have T:Hid (∀ p∈L,p.2.age<4611686018427387904):=λp B=>HA.out p<|y.out.mem_iff.1 B
 have N:Hid (L.length<1048576):=zG;have O:Hid (rs.length<=L.length):=zG;clear hL m d f l g H2;go_wp2_with fail;refine(jhj rfl V J HD O N T).mono ?_;rintro e w3 ⟨mv,c,rfl,A,D,T3,t,k3⟩;have F:c.length=rs.length+1:=by rw[A.length_eq,S.out]
 have n:c=c.take rs.length++[s0]:=by have h5:c[rs.length]?=some s0:=(t _<|zR _).trans R;(have h6:c.take (rs.length+1)=c.take rs.length++[s0]:=by rw[zX,h5];rfl);grind
 have o:(c.take rs.length).Perm rs:=by have h7:c.Perm (s0::rs):=A.trans y;rw[n] at h7;exact((List.perm_append_singleton s0<|c.take rs.length).symm.trans h7).cons_inv
 have hT:Rf.Ql (ye<|c.take rs.length) (c.take rs.length).length:=by rw[o.length_eq];intro j a b z hj s r;(have e5:∀ i,i<rs.length->(ye<|c.take rs.length)[i]?=(ye c)[i]?:=λi hi=>by grind [ye]);rw[e5 _ zC] at s;rw[e5 _ hj] at r;exact T3 j a b z hj s r
 rw[n] at D;have M:=jb o;have G:=jb hT;have U:=jb D;have I:Hid ((c.take rs.length).length<1048576):=zF;clear F n o hT D T3 t A;have mP:=jdm;go_wp2_with fail;refine(jiz U I).mono ?_;rintro e w4 ⟨⟨u,rfl⟩,v4,H4,E,k4⟩;go_wp2;go_ret;refine⟨⟨_,rfl⟩,v4,_,M,H4,G,.inl E,?_⟩;exact((k2.mono λ_ _ h=>.inr h).trans k3 λ_ _ h=>.inr h).trans k4 λ_ _ h=>.inl h
theorem Ux{base:Nat}{ps:List HS}(H:xh W base hb v ps)(u:∀ p∈ps,p.2.entries≠[])(C:Rf.Qx (ye ps) 0 ps.length)(x:0<ps.length)(B:ps.length<1048576)(i:∀ q∈ps,q.2.age<4611686018427387904):Calls prog 226 #[Kp hb,aB 0] W λe w'=>e=.returned (.tuple #[])/\Lv W base hb v ps w':=by obtain⟨E,D,rfl⟩:=H.slice;have N:=Em H.cell;change Hid _ at H i;go_enter func226,ntmps226;go_wp2_with fail;refine(Da E ps.length D W zC).mono ?_;rintro e M ⟨rfl,rfl⟩;go_wp2_with fail;refine(jhj rfl H.out (λk p _ h=>u p<|XF h) C (zR _) B i.out).mono ?_;rintro e L ⟨y,d,rfl,c,l,g,m,t⟩;have n:=c.length_eq;rw[<-n] at g;change Hid _ at c l g;clear m;cases y with|true=>go_wp2;go_end0;exact⟨rfl,_,d,c.out,l.out,g.out,.inl rfl,t.mono λ_ _ h=>.inr h⟩|false=>(have f:Rf.ow (ye d) 0:=by refine⟨λk a b h0 hk hA hB=>g.out k a b h0 ?_ hA hB,λk a b h0 h1=>zC⟩;grind [ki]);have G:=jb f;(have s:Hid (∀ p∈d,p.2.age<4611686018427387904):=λp hp=>i.out p<|c.out.mem_iff.1 hp);(have r:Hid (d.length<1048576):=by unfold Hid;omega);(have o:Hid (0<d.length):=by unfold Hid;omega);clear f;go_wp2_with fail;refine(jlp (j:=0) rfl l.out (λp h=>u p<|c.out.mem_iff.1 h) G o r s).mono ?_;rintro e J ⟨rfl,rs,A,I,F,z⟩;go_wp2;go_end0;exact⟨rfl,_,rs,A.trans c.out,I,F,.inl rfl,(t.mono λ_ _ h=>.inr h).trans z λ_ _ h=>.inr h⟩
theorem nh(p:HS)(rs:List HS):ye (p::rs)=p.2::ye rs:=rfl
theorem xh.turn{base cap:Nat}{s0:HS}{rs:List HS}(h:xh W base hb (.slice (Option.some (aC g)) (s0::rs).length cap) (s0::rs))(u:Value)(q:aD)(x y:Obj)(m:Chs W u q)(b:∀ ad n c,u=.slice (Option.some ad) n c->ad.block≠hb/\g≠ad.block):xh (((W.setCell (aC g) u).alloc x).alloc y) base hb (.slice (Option.some (aC g)) (s0::rs).length cap) ((u,⟨q,s0.2.age⟩)::rs)/\ja W (((W.setCell (aC g) u).alloc x).alloc y) (λi=>i=g):=by
 have k:ja W (((W.setCell (aC g) u).alloc x).alloc y) (λi=>i=g):=(((ja.refl W λi=>i=g).set (p:=(aC g)) rfl _).more _).more _;refine⟨⟨k.same h.box λe=>h.ne<|by rw[e];rfl,?_,h.ne,?_⟩,k⟩;have l:=X8 h.row (j:=0) zD u;have e:(zc (s0::rs)).set 0 u=zc ((u,⟨q,s0.2.age⟩)::rs):=by simp[zc]
 rw[e] at l;exact((ja.alloc _ x λ_=>False).more y).row l λ_ _=>id
 intro p d;obtain rfl|d:=xB.1 d;refine⟨m.keep k λ_ ad n c e e2=>(b ad n c e).2 e2.symm,λad n c e=>⟨(b ad n c e).1,λe2=>(b ad n c e).2<|by injection e2⟩⟩;have f:=h.has p<|xJ _ d;exact⟨f.1.keep k λ_ ad n c e e2=>(f.2 ad n c e).2<|by rw[<-e2];rfl,f.2⟩
def jic(W:World)(base hb:Nat)(v:Value)(s0:HS)(rs:List HS)(c:Rf.Ch)(e:Ending)(w':World):Prop :=
 e=.returned (chV c)/\∃ v' qs,(ye qs).Perm (Rf.taken s0.2 (ye rs))/\xh w' base hb v' qs/\Rf.Ql (ye qs) qs.length/\(v'.ownBlock=v.ownBlock\/∃ g,v'.ownBlock=some g/\W.heap.size<=g)/\ja W w' (λi=>i=hb\/v.ownBlock=some i) /\
  ∀ p∈qs,∀ ad n c,p.1=.slice (some ad) n c->∃ p'∈s0::rs,∃ ad' n' c',p'.1=.slice (some ad') n' c'/\ad'.block=ad.block
theorem Se{base:Nat}{s0:HS}{rs:List HS}{c:Rf.Ch}{q:aD}(H:xh W base hb v (s0::rs))(hs:∀ p∈s0::rs,p.2.entries≠[])(HT:Rf.Ql (ye (s0::rs)) (s0::rs).length)(he:s0.2.entries=c::q)(hl:(s0::rs).length<1048576)(hq:q.length<1048576)(ha:∀ p∈s0::rs,p.2.age<4611686018427387904):Calls prog 209 #[aA hb] W (jic W base hb v s0 rs c):=by
 obtain⟨g,cap,rfl,a9,U,a2⟩:=H.src (k:=0) (p:=s0) rfl;have s:=(H.has s0 xW).1;rw[he] at s;obtain⟨sp,sc,es,ak,b4,am,al⟩:=id s;rw[es] at s;obtain⟨b,o,rfl,e0,e1,e2⟩:=s.at (k:=0) zD;simp only[List.getElem_cons_zero,Nat.zero_mul,Nat.add_zero] at e0 e1 e2 U a2;have c0:=H.cell;rw[es] at U;simp only[zZ] at U c0 a9 ak hl;obtain⟨D,cv,E⟩:=c;simp only at e0 e1 e2;have f0:=H.frozen 0;have a5:g≠b:=λe=>((H.has s0 xW).2 _ _ _ es).2 (by rw[e];rfl)
 have a8:g≠hb:=λe=>H.ne (by rw[e];rfl)
 change Hid _ at H he es;have ao:=jb s;clear s am al;have n1:¬b=g:=λe=>a5 e.symm
 have n2:¬hb=g:=λe=>a8 e.symm
 have b6:=zO H.out.box;have a7:=xX W _ e0;have a6:=xX W _ U;simp only at a7 a6;have Y:∀ x,ja W (W.alloc x) No:=λx=>ja.alloc W x _
 have kB:∀ x y,ja W ((W.alloc x).alloc y) No:=λx y=>(ja.alloc W x _).more y
 have bb:∀ x,(W.alloc x).cell? (aC hb)=some (.slice (some (aC g)) (rs.length+1) cap):=λx=>(Y x).cell c0 id
 have bd:∀ x,(W.alloc x).cell? (aC g)=some (.slice (some (B3 b o)) (q.length+1) sc):=λx=>(Y x).cell U id
 have ba:∀ x,(W.alloc x).cell? (B3 b o)=some (jc D):=λx=>(Y x).cell e0 id
 have b9:∀ x,(W.alloc x).cell? ⟨b,o+1,none⟩=some (jc cv):=λx=>(Y x).cell e1 id
 have b8:∀ x,(W.alloc x).cell? ⟨b,o+2,none⟩=some (.bool E):=λx=>(Y x).cell e2 id
 have bc:∀ x y,((W.alloc x).alloc y).cell? (aC g)=some (.slice (some (B3 b o)) (q.length+1) sc):=λx y=>(kB x y).cell U id
 have b7:∀ x y,((W.alloc x).alloc y).frozen? (aC g)=false:=λx y=>(H.out.same<|kB x y).frozen 0
 have n3:¬W.heap.size=g:=zC;have n4:¬W.heap.size+1=g:=zC;have n5:¬g=W.heap.size:=zC;have n6:¬g=W.heap.size+1:=zC;have I:∀(u:Value),(∃ o' n c,u=.slice (some ⟨b,o',none⟩) n c)->∀ f n c,u=.slice (some f) n c->f.block≠hb/\g≠f.block:=by rintro u ⟨o',n',c',rfl⟩ f n c e;cases e;exact⟨((H.out.has s0 xW).2 _ _ _ es.out).1,a5⟩
 have O:∀ u:Rf.Source,Rf.Qx (u::ye rs) 0 (rs.length+1):=by intro u;have:=Rf.Qx.start (x:=u) HT;simpa [nh] using this
 have S:∀(u:Value) (L:List HS) (r:World),ja (((W.setCell (aC g) u).alloc<|.cells #[jc [],jc [],.bool false] 53).alloc<|.cells #[jc D,jc cv,.bool E] 53) r (λi=>i=hb\/(Value.slice (some (aC g)) (rs.length+1) cap).ownBlock=some i)->r.heap[W.heap.size]?=some (.cells #[jc [],jc [],.bool false] 53 (0,0))/\r.heap[W.heap.size+1]?=some (.cells #[jc D,jc cv,.bool E] 53 (0,0)):=by intro u L r C;(have a4:(W.setCell (aC g) u).heap.size=W.heap.size:=by simp[World.setCell]);have t1:=je (W.setCell (aC g) u)<|.cells #[jc [],jc [],.bool false] 53;have t2:=je ((W.setCell (aC g) u).alloc<|.cells #[jc [],jc [],.bool false] 53)<|.cells #[jc D,jc cv,.bool E] 53;rw[a4] at t1;rw[ZQ,a4] at t2;refine⟨C.same ((ja.alloc _ _ λ_=>False).same t1 id) ?_,C.same t2 ?_⟩;rintro(h|h);omega;(have h':g=W.heap.size:=by injection h);omega;rintro(h|h);omega;(have h':g=W.heap.size+1:=by injection h);omega
 have M:∀ u x y,ja W (((W.setCell (aC g) u).alloc x).alloc y) (λi=>i=g):=λu x y=>(((ja.refl W λi=>i=g).set (p:=(aC g)) rfl _).more _).more _
 have R:∀ p∈rs,∀ f n c,p.1=.slice (some f) n c->f.block<W.heap.size:=λp m f n c e=>by have h1:=(H.out.has p<|xJ _ m).1;rw[e] at h1;exact h1.lt<|hs p<|xJ _ m
 change Hid _ at M R S I O;cases q with|nil=>simp only[ZA,ZB] at *;(have t:Hid (∀ p∈rs,p.2.entries≠[]):=λp m=>hs p<|xJ _ m);(have J:Hid (Rf.taken s0.2 (ye rs)=ye rs):=by grind [Hid,Rf.taken]);go_enter func209,ntmps209;go_wp2_with fail;all_goals refine(Uw (s0:=(_,⟨[],s0.2.age⟩)) (H.out.turn _ [] _ _ ⟨_,_,rfl,ZC _,zC,λh=>(by cases h),λf h=>⟨(by cases h;rfl),λj u hu=>(by simp[jh] at hu)⟩⟩<|I.out _ ⟨_,_,_,rfl⟩).1 t (O.out _) (by simpa using hl) λp m=>?_).mono ?_;grind;· rintro e r ⟨⟨uu,rfl⟩,v3,qs,d,H3,T3,F,C⟩;obtain⟨l,A⟩:=S.out _ rs r C;have y0:=zK 0 A;have y1:=zK 1 A;have y2:=zK 2 A;have z0:=zK 0 l;have V:=zK 1 l;have z2:=zK 2 l;have g0:=zL 0 l;have g1:=zL 1 l;have G:=zL 2 l;simp at y0 y1 y2 z0 V z2;change Hid _ at l d T3 F;have T:=jb H3;clear A H3;go_wp2;have X:ja r (((r.setCell (aC W.heap.size)<|jc D).setCell (B3 W.heap.size 1)<|jc cv).setCell (B3 W.heap.size 2)<|.bool E) (λi=>i=W.heap.size):=(((ja.refl r λi=>i=W.heap.size).set (p:=(aC W.heap.size)) rfl _).set (p:=(B3 W.heap.size 1)) rfl _).set (p:=(B3 W.heap.size 2)) rfl _;(have z:∀ g',v3.ownBlock=some g'->¬g'=W.heap.size:=λg' hg' e=>by obtain h|⟨G,h,B⟩:=F.out;rw[h] at hg';(have h':g=g':=by injection hg');omega;rw[h] at hg';cases hg';simp at B;omega);refine bodyPost_ret (v:=chV ⟨D,cv,E⟩) (by simp[results,Tryz.results209,go_sem,z0,V,z2]) rfl ⟨rfl,v3,qs,?_,T.out.keep X zC z ?_,T3.out,?_,(((M.out _ _ _).mono λi _ e=>.inr<|by rw[e];rfl).trans C λi _ h=>h).trans X (λi hi e=>zC),?_⟩;rw[J.out];exact d.out.map _;intro p m f n c e B;have h6:=R.out p (d.out.mem_iff.1 m) f n c e;omega;obtain h|⟨G,h,B⟩:=F.out;exact .inl h;exact .inr ⟨G,h,by simp at B;omega⟩;intro p m f n c e;exact⟨p,xJ _<|d.out.mem_iff.1 m,f,n,c,e,rfl⟩|cons c2 q2=>have N:=ao.out.drop (k:=1) zD;simp only[zZ,List.drop_succ_cons,List.drop_zero,Nat.one_mul,Nat.add_sub_cancel] at N;have an:=jb N;(have b5:q2.length+1<1048576:=by simpa using hq);simp only[zZ] at *;(have t:Hid (∀ u:Value,∀ p∈(((u,⟨c2::q2,s0.2.age⟩):HS)::rs),p.2.entries≠[]):=by intro u p m;grind);(have J:Hid (Rf.taken s0.2 (ye rs)=⟨c2::q2,s0.2.age⟩::ye rs):=by grind [Hid,Rf.taken]);clear N;go_enter func209,ntmps209;go_wp2_with fail;all_goals refine(Ux (H.out.turn _ (c2::q2) _ _ an<|I.out _ ⟨_,_,_,rfl⟩).1 (t.out _) (O.out _) zD (by simpa using hl) λp m=>?_).mono ?_;grind;· rintro e r ⟨rfl,v3,qs,d,H3,T3,F,C⟩;obtain⟨l,A⟩:=S.out _ rs r C;have y0:=zK 0 A;have y1:=zK 1 A;have y2:=zK 2 A;have z0:=zK 0 l;have V:=zK 1 l;have z2:=zK 2 l;have g0:=zL 0 l;have g1:=zL 1 l;have G:=zL 2 l;simp at y0 y1 y2 z0 V z2;change Hid _ at l d T3 F;have T:=jb H3;clear A H3;go_wp2;have X:ja r (((r.setCell (aC W.heap.size)<|jc D).setCell (B3 W.heap.size 1)<|jc cv).setCell (B3 W.heap.size 2)<|.bool E) (λi=>i=W.heap.size):=(((ja.refl r λi=>i=W.heap.size).set (p:=(aC W.heap.size)) rfl _).set (p:=(B3 W.heap.size 1)) rfl _).set (p:=(B3 W.heap.size 2)) rfl _;(have z:∀ g',v3.ownBlock=some g'->¬g'=W.heap.size:=λg' hg' e=>by obtain h|⟨G,h,B⟩:=F.out;rw[h] at hg';(have h':g=g':=by injection hg');omega;rw[h] at hg';cases hg';simp at B;omega);refine bodyPost_ret (v:=chV ⟨D,cv,E⟩) (by simp[results,Tryz.results209,go_sem,z0,V,z2]) rfl ⟨rfl,v3,qs,?_,T.out.keep X zC z ?_,T3.out,?_,(((M.out _ _ _).mono λi _ e=>.inr<|by rw[e];rfl).trans C λi _ h=>h).trans X (λi hi e=>zC),?_⟩;rw[J.out];exact d.out.map _;intro p m f n c e B;obtain Z|Z:=xB.1 (d.out.mem_iff.1 m);grind;have h6:=R.out p Z f n c e;omega;obtain h|⟨G,h,B⟩:=F.out;exact .inl h;exact .inr ⟨G,h,by simp at B;omega⟩;intro p m f n c e;obtain Z|Z:=xB.1 (d.out.mem_iff.1 m);rw[Z] at e;cases e;exact⟨s0,xW,_,_,_,es.out,rfl⟩;grind
def ix(w:World)(v:Value)(l:List Value):Prop :=
 ∃ p c,v=.slice p l.length c/\l.length<=c/\c<=maxLen/\(p=none->c=0)/\∀ ad,p=some ad->ad.spot=none/\∀ j u,l[j]?=some u->w.cell? (ad.add j)=some u
theorem ix.keep(h:ix w v l)(d:ja w w' T)(f:l≠[]->∀ p n c,v=.slice (some p) n c->¬T p.block):ix w' v l:=by obtain⟨p,c,rfl,k,i,g,b⟩:=h;exact⟨p,c,rfl,k,i,g,λad e=>⟨(b ad e).1,λj u hu=>d.cell ((b ad e).2 j u hu)<|by rw[Qf];exact f (λe=>by rw[e] at hu;cases hu) ad _ _<|by rw[e]⟩⟩
theorem ix.same(h:ix w v l)(b:ja w w' No):ix w' v l:=h.keep b λ_ _ _ _ _ h=>h
theorem ix.at{p:Option Addr}{c:Nat}(h:ix w (.slice p l.length c) l){u:Value}(d:l[k]?=some u):∃ b o,p=some (B3 b o)/\w.cell? ⟨b,o+k,none⟩=some u:=by obtain⟨g,q,e,n,m,f,j⟩:=h;cases e;have i:=(ZT.1 d).1;cases p with|none=>have:=f rfl;omega|some ad=>obtain⟨b,o,s⟩:=ad;grind [Q7]
theorem cj{base:Nat}(h:w.ownsRow base e 1 v n l)(b:l.length=n):ix w v l:=by subst b;obtain⟨e,f⟩|⟨g,cap,k,e,_,i,d,c,_⟩:=h.2;have:l=[]:=ZH f;subst this;rw[e];exact⟨none,0,rfl,zR _,ZC _,λ_=>rfl,λ_ h=>by cases h⟩;refine⟨some (aC g),cap,e,d,c,(λh=>by cases h),λad had=>?_⟩;cases had;exact⟨rfl,λj u hu=>h.cells (by rw[e];rfl) j _ hu⟩
abbrev Jo:=jg->jg×List Rf.Ch×Option Bool
def tq(hi:Str)(r:jg×aD×Option Bool):Option aD:=if r.2.2=none\/(cu hi r.2.1).length<r.2.1.length then some (cu hi r.2.1)else none
def qd(hi:Str):List Jo->jg->jg×(List (List Rf.Ch) ⊕ Bool)
 | [],S=>(S,.inl [])
 | st::r,S =>
  match tq hi (st S)with
  | none=>((st S).1,.inr ((st S).2.2.getD false))
  | some l =>
   match qd hi r (st S).1 with
   | (S2,.inl ls)=>(S2,.inl (l::ls))
   | (S2,.inr b)=>(S2,.inr b)
theorem A5{b:List Jo}{c:Jo}{S d:jg}(h:qd hi b S=(d,.inl ls)):qd hi (b++[c]) S=(match tq hi (c d)with|none=>((c d).1,.inr ((c d).2.2.getD false))|some l=>((c d).1,.inl (ls++[l]))):=by induction b generalizing S ls with|nil=>grind [qd]|cons x r ih=>grind [qd]
theorem Rc{c more:List Jo}{S d:jg}{b:Bool}(h:qd hi c S=(d,.inr b)):qd hi (c++more) S=(d,.inr b):=by induction c generalizing S with|nil=>cases h|cons x r ih=>grind [qd]
theorem ni(n:Nat)(ls:List aD)(l:aD):Rf.qn n (ls++[l])=Rf.qn n ls++(if l=[] then [] else [⟨l,n+ls.length⟩]):=by induction ls generalizing n with|nil=>grind [Rf.qn]|cons x r ih=>grind [Rf.qn]
theorem gp(n:Nat)(ls:List aD):(Rf.qn n ls).length<=ls.length:=by induction ls generalizing n with|nil=>exact zR _|cons l r ih=>grind [Rf.qn]
theorem uh:∀ s∈Rf.qn n ls,s.age<n+ls.length:=by induction ls generalizing n with|nil=>intro s b;cases b|cons l r ih=>grind [Rf.qn]
theorem tr{b:List Jo}{S c:jg}(h:qd hi b S=(c,.inl ls)):ls.length=b.length:=by induction b generalizing S ls with|nil=>cases h;rfl|cons x r ih=>grind [qd]
def nc(P:jg->Prop)(E:Nat->Addr)(B:Nat)(ρ:Nat->jz)(d:Nat)(w:World)(f:Value)(st:Jo):Prop :=
 ∀(hi:Str) (W:World) (S:jg),ja w W (qe ρ)->Dk E B W ρ d S->P S->P (st S).1/\(st S).2.1.length<1048576/\Calls prog 138 #[f,jc hi] W (Cc E B ρ d (st S).1 (st S).2.1 (st S).2.2 hi W)
def jh7(P:jg->Prop)(E:Nat->Addr)(B:Nat)(ρ:Nat->jz)(d:Nat)(w:World)(G:jg×(List aD ⊕ Bool))(e:Ending)(w':World):Prop :=
 ja w w' (qe ρ)/\Dk E B w' ρ d G.1/\P G.1 /\
 ((∃ ls hb v qs,G.2=.inl ls/\e=.returned (.tuple #[aA hb,.nilIface])/\w.heap.size<=hb/\xh w' w.heap.size hb v qs/\Rf.Ql (ye qs) qs.length/\(ye qs).Perm (Rf.qn 0 ls)/\∀ p∈qs,∀ ad n c,p.1=.slice (some ad) n c->w.heap.size<=ad.block) \/
  (∃ bad ev,G.2=.inr bad/\e=.returned (.tuple #[.pointer none,ev])/\ke E w' ev bad))
theorem Kf{P:jg->Prop}{E:Nat->Addr}{B:Nat}{ρ:Nat->jz}{d:Nat}{S:jg}(D:Dk E B w ρ d S)(Z:P S)(lv:Value)(fs:List Value)(l:List Jo)(hi:Str)(a2:ix w lv fs)(ag:fs≠[]->∀ p n c,lv=.slice (some p) n c->¬qe ρ p.block)(V:fs.length=l.length)(hl:fs.length<524288)(aj:∀ f∈fs,∃ g a b,f=.func g a b)(hC:∀(k:Nat) f st,fs[k]?=some f->l[k]?=some st->nc P E B ρ d w f st):Calls prog 207 #[.agg #[lv,jc hi]] w (jh7 P E B ρ d w (qd hi l S)):=by
 obtain⟨lp,lc,rfl,h1,h2,h3,h4⟩:=id a2;have b7:=jb a2;have F:=jb V;have hρ:=D.rep.lt;have bw:=D.size;have nT:∀ i,w.heap.size<=i->¬qe ρ i:=λi hi h=>zA<|hρ i h
 change Hid _ at D hC;clear h3 h4 a2 V;obtain⟨G,hG⟩:=zJ (qd hi l S);rw[<-hG];change Hid _ at hG;go_enter func207,ntmps207;go_wp2_with fail;have kW:ja w (((w.alloc<|.cells #[.slice lp fs.length lc,jc hi] 260).alloc<|.cells #[] 318).alloc<|.cells #[.slice (some (aC (w.heap.size+1))) 0 0] 315) No:=((ja.alloc w _ _).more _).more _;go_loopw [14] (λiv wr=>∃(k:Nat) (r:jg) (ls:List aD) (v:Value) (z:List HS),k<=fs.length/\iv = aB k/\Hid (qd hi (l.take k) S=(r,.inl ls))/\Dk E B wr ρ d r/\P r/\ja w wr (qe ρ)/\wr.heap[w.heap.size]?=some (.cells #[.slice lp fs.length lc,jc hi] 260 (0,0))/\xh wr w.heap.size (w.heap.size+1+1) v z/\Rf.Ql (ye z) z.length/\(ye z).Perm (Rf.qn 0 ls)/\(∀ p∈z,p.2.entries≠[])/\(∀ p∈z,∀ x n c,p.1=.slice (some x) n c->w.heap.size<=x.block)) (λiv _=>fs.length-(intOf iv).toNat);case atStart=>refine⟨0,S,[],.slice (some (aC (w.heap.size+1))) 0 0,[],ZC _,rfl,(by unfold Hid;rfl),D.out.same kW,Z,kW.up,((ja.alloc _ _ λ_=>False).more _).same (je w _) id,⟨?_,?_,?_,λp A=>(by cases A)⟩,λj a b h0 hj=>(by simp at hj),List.Perm.nil,λp A=>(by cases A),λp A=>(by cases A)⟩;grind [je,ZQ];have L:=je (w.alloc<|.cells #[.slice lp fs.length lc,jc hi] 260)<|.cells #[] 318;rw[ZQ] at L;exact⟨rfl,.inr ⟨w.heap.size+1,0,#[],rfl,zC,(ja.alloc _ _ λ_=>False).same L id,zR _,ZC _,rfl,rfl⟩⟩;intro e;(have:w.heap.size+1=w.heap.size+1+1:=by injection e);omega
 case round=>obtain⟨k,r,ls,v,z,hk,rfl,s,Dq,Zq,C,m,Hq,Tq,Pq,a0,R⟩:=hrel;obtain O|bv:=zS k fs.length;(· obtain⟨f,hf⟩:∃ f,fs[k]?=some f:=⟨_,XG O⟩;obtain⟨st,M⟩:∃ st,l[k]?=some st:=⟨_,XG<|by rw[<-F.out];exact O⟩;have b3:ix wr (.slice lp fs.length lc) fs:=b7.out.keep C ag;obtain⟨b,o,rfl,b8⟩:=b3.at hf;obtain⟨gf,ga,gb,rfl⟩:=aj f<|XF hf;have c1:=zK 1 m;simp at c1;obtain⟨Z1,bu,H⟩:=hC.out k _ st hf M hi wr r C Dq Zq;have a6:=jb H;change Hid _ at M m;have HQ:=jb Hq;clear H hf Hq;go_wp2_with fail;refine a6.out.mono ?_;rintro e w1 ⟨v2,ev,rfl,k1,D1,⟨rfl,y,u⟩|⟨bad,W,b4,rfl,a3⟩⟩;(· obtain⟨p2,c2,rfl⟩:=ji y;(have H1:xh w1 w.heap.size (w.heap.size+1+1) v z:=HQ.out.keep k1 (nT _ zC) (λg hg=>nT g (HQ.out.row.lt g hg).1) λp A x n c e=>nT _<|R p A x n c e);have J:=k1.same m.out<|nT _<|zR _;(have a1:qd hi (l.take (k+1)) S=((st r).1,.inl (ls++[cu hi (st r).2.1])):=by rw[zX,M.out,XI,A5 s];(have:tq hi (st r)=some (cu hi (st r).2.1):=by unfold tq;rw[if_pos u]);rw[this]);(have ah:ls.length=k:=by rw[tr s,xD,<-F.out,xE hk]);have b5:(cu hi (st r).2.1).length<=(st r).2.1.length:=(List.takeWhile_prefix _).length_le;(have bg:z.length<=k:=by have L:=Pq.length_eq;rw[ki] at L;have h6:=gp 0 ls;omega);(have ak:∀ q∈z,q.2.age<k:=by intro q Y;have L:q.2∈Rf.qn 0 ls:=Pq.mem_iff.1<|ZW.2 ⟨q,Y,rfl⟩;have h6:=uh q.2 L;omega);generalize cu hi (st r).2.1=t at y a1 b5 u ⊢;have af:=jb a1;have ac:=jb H1;have X:=jb J;have a5:Hid (ja w w1<|qe ρ):=C.tt k1;clear a1 H1 J s u;by_cases ht:t=[];(· subst ht;go_wp2;go_roundw;(case rel=>refine⟨k+1,_,_,v,z,O,zD,af,D1,Z1,a5,X,ac,Tq,?_,a0,R⟩;grind [ni]);grind [intOf]);· (have bh:(0:Int)<(t.length:Int):=zA<|xV.2 ht);have b6:Chs w1 (.slice p2 t.length c2) t:=x7 y;(have U:∀ g,v.ownBlock=some g->w.heap.size<=g/\g<wr.heap.size:=λg hg=>HQ.out.row.lt g hg);(have aa:∀ x n c,Value.slice p2 t.length c2=.slice (some x) n c->wr.heap.size<=x.block:=λx n c e=>(y.lt x.block<|by rw[e];rfl).1);have bt:w.heap.size+1+1<wr.heap.size:=zO HQ.out.box;(have al:Hid (¬v.ownBlock=some w.heap.size):=λe=>by obtain⟨h,_⟩|⟨g,cap,bx,h,_,hg,_⟩:=HQ.out.row.2;rw[h] at e;cases e;rw[h] at e;(have e2:g=w.heap.size:=by injection e);rw[e2,m.out] at hg;cases hg);go_wp2_with fail;refine(Rb ac a0 Tq ((.slice p2 t.length c2,⟨t,k⟩):HS) b6 ht (λx n c e=>⟨zA<|aa x n c e,λe2=>zB (aa x n c e) (U _ e2).2⟩) zC (zA a5.out.size) λq Y=>?_).mono ?_;obtain Y|Y:=zV.1 Y;have:=ak q Y;omega;rw[zW.1 Y];show k<4611686018427387904;omega;· rintro e w2 ⟨rfl,v',b2,N,H2,T2,l2,k2⟩;(have a4:∀ i,(i=w.heap.size+1+1\/v.ownBlock=some i)->w.heap.size<=i:=by rintro i (h|h);omega;exact(U i h).1);(have D2:=D1.apart k2 λi _ h=>⟨nT i<|a4 i h,zA<|a4 i h⟩);have ai:ja w w2 (qe ρ):=a5.out.trans k2 (λi hi h=>zA<|a4 i h);have I:=k2.same X (λh=>by obtain h|h:=h;omega;exact al.out h);change Hid _ at H2 N T2 I;clear l2;go_wp2;go_roundw;(case rel=>refine⟨k+1,_,_,v',b2,O,zD,af,D2,Z1,ai,I.out,H2.out,T2.out,?_,?_,?_⟩;rw[ni,if_neg ht,ah,ZB];have L:=N.out.map Prod.snd;rw[XC] at L;exact L.trans<|Pq.append_right _;intro p A;obtain h|h:=zV.1 (N.out.mem_iff.1 A);exact a0 p h;simp_all;intro p A x n c e;obtain h|h:=zV.1 (N.out.mem_iff.1 A);exact R p h x n c e;grind);grind [intOf]);· obtain⟨te,ae,rfl⟩:=a3.shape;(have T:qd hi l S=((st r).1,.inr bad):=by have e5:l=l.take (k+1)++l.drop (k+1):=(ZY _ _).symm;rw[e5];refine Rc ?_;rw[zX,M.out,XI,A5 s];(have:tq hi (st r)=none:=by unfold tq;rw[if_neg (by rw[W,b4];simp)]);rw[this,W];rfl);change Hid _ at T a3;clear s;go_wp2;go_ret2;rw[hG.out,T.out];exact⟨C.tt k1,D1,Z1,.inr ⟨bad,_,rfl,rfl,a3.out⟩⟩);· (have ek:k=fs.length:=zC);(have ab:qd hi l S=(r,.inl ls):=by have:=s.out;rwa [ek,F.out,ZX] at this);change Hid _ at ab Hq;clear s m;go_wp2;go_ret2;rw[hG.out,ab.out];exact⟨C,Dq,Zq,.inl ⟨ls,_,v,z,rfl,rfl,zC,Hq.out,Tq,Pq,R⟩⟩
end
section
open RowKit Maps WideShapes Go.Shelf Go.Proofs.Tryz
attribute [local go_sem] Oper.semAt_some
variable {E:Nat->Addr} {B d n:Nat} {s:Rf.Source} {r:List Rf.Source}
open Classical in
theorem jgx{α:Type}(R:Nat->α->Prop):∃ m:α->Nat,∀ a,(∃ n,R n a)->R (m a) a/\∀ n,R n a->m a<=n:=by
 have H:∀ a,(∃ n,R n a)->∃ m,R m a/\∀ n,R n a->m<=n:=by rintro a ⟨n,b⟩;induction n using Nat.strongRecOn with|ind n ih=>grind
 refine⟨λa=>if h:∃ n,R n a then Classical.choose (H a h)else 0,λa h=>?_⟩;grind
def X9(G:jg×(List (List Rf.Ch) ⊕ Bool)):List Rf.Ch:=match G.2 with|.inl ls=>Rf.merged ls|.inr _=>[]
def G5(G:jg×(List (List Rf.Ch) ⊕ Bool)):Option Bool:=match G.2 with|.inl _=>none|.inr b=>some b
structure E6(P:jg->Prop)(E:Nat->Addr)(B:Nat)(ρ:Nat->jz)(d:Nat)(S:jg)(lv:Value)(fs:List Value)(sts:List Jo)(W:World):Prop where
 dk:Dk E B W ρ d S
 small:P S
 jkl:ix W lv fs
 off:fs≠[]->∀ p n c,lv=.slice (some p) n c->¬qe ρ p.block
 Kn:∀(k:Nat) f st,fs[k]?=some f->sts[k]?=some st->nc P E B ρ d W f st
theorem nc.same{P:jg->Prop}{ρ:Nat->jz}{w b:World}{f:Value}{c:Jo}(h:nc P E B ρ d w f c)(k:ja w b No):nc P E B ρ d b f c:=λhi W S kk D Z=>h hi W S ((k.up).tt kk) D Z
theorem E6.same{P:jg->Prop}{ρ:Nat->jz}{S:jg}{lv:Value}{fs:List Value}{b:List Jo}{W W':World}(h:E6 P E B ρ d S lv fs b W)(k:ja W W' No):E6 P E B ρ d S lv fs b W':=⟨h.dk.same k,h.small,h.jkl.same k,h.off,λi f st hf hst=>(h.Kn i f st hf hst).same k⟩
theorem ot(b:Array Value)(w:World):(callFunc 176 b).run prog w=.ok (.enter 176 b) w:=by kernel_rfl
def Y6(l:List Rf.Source):Nat:=(l.map (λs=>s.entries.length)).sum
theorem Oi{l m:List Rf.Source}(p:l.Perm m):Y6 l=Y6 m:=Hw<|p.map _
theorem L7{c:Rf.Ch}{q:aD}(h:s.entries=c::q):Y6 (Rf.taken s r)+1=Y6 (s::r):=by grind [Rf.taken,Y6]
theorem Gt{ls:List aD}:∀ s∈Rf.qn n ls,s.entries∈ls:=by induction ls generalizing n with|nil=>intro s b;cases b|cons l r ih=>grind [Rf.qn]
theorem R8{N A:Nat}(h:∀ x∈s::r,x.entries.length<N/\x.age<A):∀ x∈Rf.taken s r,x.entries.length<N/\x.age<A:=by grind [Rf.taken]
theorem Og(s:Rf.Source)(r:List Rf.Source):(Rf.taken s r).length<=(s::r).length:=by grind [Rf.taken]
structure Cb(ls:List (List Rf.Ch)):Prop where
 rising:∀ l∈ls,Rf.j3 l
 keys:∀ l∈ls,∀ c∈l,c.key≠[]
 len:∀ l∈ls,l.length<1048576
theorem oc{P:jg->Prop}{ρ:Nat->jz}{S:jg}(lv:Value)(fs:List Value)(F:List Jo)(hi:Str)(b2:fs.length=F.length)(hl:fs.length<524288)(c8:∀ f∈fs,∃ g a b,f=.func g a b)(Y:∀ ls,(qd hi F S).2=.inl ls->Cb ls):Gn Fence.wide n prog 176 #[.agg #[lv,jc hi]] #[] encI (qe ρ) (λi=>i<B) (E6 P E B ρ d S lv fs F) (jeu E (X9 (qd hi F S)) (G5 (qd hi F S))) (jeq E B ρ d (qd hi F S).1 (X9 (qd hi F S)) (G5 (qd hi F S))) (Lw E B ρ d (qd hi F S).1):=by
 intro lp n₀ J Jx aJ hY C W bh hC ct hS cz;have eh:∀ i,i<W.heap.size->C i->¬qe ρ i/\B<=i:=λi _ hc=>⟨(hC i hc).1,Nat.le_of_not_lt (hC i hc).2⟩
 have kA:=ja.alloc W (.cells #[lv,jc hi] 260) λ_=>False
 have a6:=hS.same kA;obtain⟨p0,c0,rfl,_⟩:=id hS.jkl;have X:=Kf a6.dk a6.small _ fs F hi a6.jkl a6.off b2 hl c8 a6.Kn;obtain⟨G,hG⟩:=zJ (qd hi F S);rw[<-hG] at X Y hY ⊢;have HO:=jb X;have hρ:=hS.dk.rep.lt;have d1:=hS.dk.size;have nT:∀ i,W.heap.size<=i->¬qe ρ i:=λi hi h=>zA<|hρ i h
 have c6:∀ ls,G.2=.inl ls->ls.length<524288:=λls h=>by grind [tr]
 clear X hG a6 hS b2;show CallsIn Fence.wide n prog 176 #[.agg #[.slice p0 fs.length c0,jc hi],.func (.yield lp) #[] #[]] W _;refine callsIn_of_wp func176 rfl trivial ?_ rfl;simp only[ntmps176,ZJ,zZ,ZA,Nat.reduceAdd,Nat.reduceSub,ZK,ZL,ZM,ZN,ZO,ZP];gi_wp2_with fail;refine⟨trivial,λh=>(by simp[Fence.wide] at h),(callsIn_wide.2 HO).mono ?_⟩;rintro e w1 ⟨k1,D1,Z1,⟨ls,U,v,j,a9,rfl,cw,Hq,Tq,Pq,bg⟩|⟨bad,ev,b4,rfl,bz⟩⟩;all_goals have kW:ja W w1 (qe ρ):=(kA.up).tt k1;(have bk:=aJ _ _ _ _ cz<|iq kW λi _ h=>.inl h);have ah:∀ i,C i->i<w1.heap.size:=λi h=>zU (bh i h) kW.size
 ·(have ef:W.heap.size+1<=U:=by simpa using cw);have G1:=Y ls a9;have eg:=c6 ls a9;(have eM:X9 G=Rf.merged ls:=by unfold X9;rw[a9]);(have eE:G5 G=none:=by unfold G5;rw[a9]);rw[eM,eE] at hY;have HM:=jb eM;have HE:=jb eE;have T0:Rf.ai (ye j) [] (Rf.merged ls):=(Rf.Om G1.rising G1.keys).perm Pq.symm;have F0:Rf.vz (ye j) []:=(Rf.On G1.rising).perm Pq.symm;(have a4:∀ s∈ye j,s.entries.length<1048576/\s.age<4611686018427387904:=by intro s hs;have O:=Pq.mem_iff.1 hs;have h6:=uh s O;exact⟨G1.len _<|Gt s O,zC⟩);(have a5:(ye j).length<1048576:=by have O:=Pq.length_eq;grind [gp]);(have b0:(W.alloc<|.cells #[.slice p0 fs.length c0,jc hi] 260).heap.size=W.heap.size+1:=zD);rw[b0] at Hq bg;generalize hMM:Rf.merged ls=MM at *;clear eM eE hMM Pq G1 Y a9 b0;(obtain⟨mf,ap⟩:=jgx λ(m:Nat) (x:Value×World)=>∃(D:Str) (k L:aD) (j:List HS) (v:Value) (l:Nat->Prop),x.1=jc D/\Y6 (ye j)=m/\MM=k++L/\Rf.ai (ye j) D L/\Rf.vz (ye j) D/\xh x.2 (W.heap.size+1) U v j/\Rf.Ql (ye j) j.length/\J (k.map Jb) l x.2/\(∀ i,l i->C i\/W.heap.size<=i)/\(∀ i,l i->i<x.2.heap.size)/\¬l U/\(∀ g,v.ownBlock=some g->¬l g)/\(∀ p∈j,∀ o n c,p.1=.slice (some o) n c->¬l o.block/\W.heap.size+1<=o.block)/\ja W x.2 (λi=>C i\/qe ρ i)/\Dk E B x.2 ρ d G.1/\(∀ s∈ye j,s.entries.length<1048576/\s.age<4611686018427387904)/\(ye j).length<1048576);change Hid _ at ap hY;(have a3:∃ m,∃(D:Str) (k L:aD) (j:List HS) (v:Value) (l:Nat->Prop),jc []=jc D/\Y6 (ye j)=m/\MM=k++L/\Rf.ai (ye j) D L/\Rf.vz (ye j) D/\xh w1 (W.heap.size+1) U v j/\Rf.Ql (ye j) j.length/\J (k.map Jb) l w1/\(∀ i,l i->C i\/W.heap.size<=i)/\(∀ i,l i->i<w1.heap.size)/\¬l U/\(∀ g,v.ownBlock=some g->¬l g)/\(∀ p∈j,∀ o n c,p.1=.slice (some o) n c->¬l o.block/\W.heap.size+1<=o.block)/\ja W w1 (λi=>C i\/qe ρ i)/\Dk E B w1 ρ d G.1/\(∀ s∈ye j,s.entries.length<1048576/\s.age<4611686018427387904)/\(ye j).length<1048576:=by refine⟨_,[],[],MM,j,v,C,rfl,rfl,rfl,T0,F0,Hq,Tq,bk,λ_ h=>.inl h,ah,λh=>zA<|bh U h,λg Z h=>?_,λp N o n c e=>⟨λh=>?_,bg p N o n c e⟩,kW.mono λ_ _ h=>.inr h,D1,a4,a5⟩;have:=(Hq.row.lt g Z).1;have:=bh g h;omega;grind);change Hid _ at a3;clear T0 F0 Hq Tq bk ah bg D1 a4 a5;gi_wp2_with fail;gi_loopw [6] (λlv wr=>∃ m,∃(D:Str) (k L:aD) (j:List HS) (v:Value) (l:Nat->Prop),lv=jc D/\Y6 (ye j)=m/\MM=k++L/\Rf.ai (ye j) D L/\Rf.vz (ye j) D/\xh wr (W.heap.size+1) U v j/\Rf.Ql (ye j) j.length/\J (k.map Jb) l wr/\(∀ i,l i->C i\/W.heap.size<=i)/\(∀ i,l i->i<wr.heap.size)/\¬l U/\(∀ g,v.ownBlock=some g->¬l g)/\(∀ p∈j,∀ o n c,p.1=.slice (some o) n c->¬l o.block/\W.heap.size+1<=o.block)/\ja W wr (λi=>C i\/qe ρ i)/\Dk E B wr ρ d G.1/\(∀ s∈ye j,s.entries.length<1048576/\s.age<4611686018427387904)/\(ye j).length<1048576) (λlv wr=>mf (lv,wr));(case atStart=>exact a3.out);case round=>obtain⟨cy,c5⟩:=ap.out (_,wr) hrel;obtain⟨D,k,L,j,v,l,rfl,a2,ar,Tq,Fq,Hq,Tp,c3,A,a0,ac,al,bn,cu,Dq,bc,dq⟩:=cy;simp only at *;change Hid _ at c5;clear hrel;obtain⟨a1,c1,rfl⟩:=Hq.slice;have cb:=Hq.cell;(have bd:j.length<1048576:=by grind [ki]);cases j with|nil=>have eL:=Tq.nil;change Hid _ at eL;have ca:=jb ar;have ej:=jb Hq;clear ar Hq;gi_wp2_with fail;refine⟨trivial,λh=>(by simp[Fence.wide] at h),(callsIn_wide.2<|Da a1 0 c1 wr zC).mono ?_⟩;rintro e T ⟨rfl,rfl⟩;gi_wp2;go_end0;refine⟨l,A,a0,⟨_,rfl⟩,.inl ⟨k.map Jb,⟨Dq,.inl ⟨HE,?_⟩⟩,c3⟩⟩;rw[HM.out,ca.out,eL.out,ZU]|cons s0 rs=>(obtain⟨c,q,bf⟩:∃ c q,s0.2.entries=c::q:=by cases O:s0.2.entries with|nil=>exact(Fq.some s0.2 xW O).elim|cons c q=>exact⟨c,q,rfl⟩);(have bm:∀ p∈s0::rs,p.2.entries≠[]:=λp N=>Fq.some p.2<|ZW.2 ⟨p,N,rfl⟩);(have bo:∀ p∈s0::rs,p.2.age<4611686018427387904:=λp N=>(bc p.2<|ZW.2 ⟨p,N,rfl⟩).2);(have cr:q.length<1048576:=by have:=(bc s0.2 xW).1;grind);have I:∀ t∈s0.2::ye rs,s0.2.le t:=Rf.Ql.top (by grind [nh,ki]);have am:=Se Hq bm Tp bf bd cr bo;have HN:=jb am;have d3:=jb Hq;have a7:=jb bf;have av:=jb ar;(have dp:rs.length+1<1048576:=by simpa using bd);(have u:∀ i,(i=U\/(Value.slice a1 (s0::rs).length c1).ownBlock=some i)->W.heap.size<=i/\¬l i:=by rintro i (h|h);grind;exact⟨zA (d3.out.row.lt i h).1,al i h⟩);change Hid _ at u;clear am Hq bf ar bd;simp only[zZ] at cb;gi_wp2_with fail;refine⟨trivial,λh=>(by simp[Fence.wide] at h),(callsIn_wide.2<|Da a1 (rs.length+1) c1 wr zC).mono ?_⟩;rintro e wq ⟨rfl,rfl⟩;gi_wp2_with fail;refine⟨trivial,λh=>(by simp[Fence.wide] at h),(callsIn_wide.2 HN).mono ?_⟩;rintro e T ⟨rfl,v2,V,P2,H2,T2,l2,k2,b3⟩;obtain⟨z,cv,R⟩:=c;(have ka:=ja.alloc T (.cells #[jc z,jc cv,.bool R] 53) λ_=>False);(have kk:ja wq (T.alloc<|.cells #[jc z,jc cv,.bool R] 53) (λi=>i=U\/(Value.slice a1 (s0::rs).length c1).ownBlock=some i):=k2.trans ka λ_ _ h=>h.elim);(have c4:=aJ _ _ _ _ c3<|iq kk λi _ h=>.inr ⟨zT ct (u.out i h).1,(u.out i h).2⟩);(have D2:=Dq.apart kk λi _ h=>⟨nT i (u.out i h).1,zT d1 (u.out i h).1⟩);have ag:ja W (T.alloc<|.cells #[jc z,jc cv,.bool R] 53) (λi=>C i\/qe ρ i):=cu.trans kk (λi hi h=>zA (u.out i h).1);have aw:=H2.same ka;have Pm:(Rf.taken s0.2<|ye rs).Perm (ye V):=P2.symm;(have dm:Y6 (ye V)+1=Y6 (ye (s0::rs)):=by rw[<-Oi Pm,nh];exact L7 a7);(have b1:∀ s∈ye V,s.entries.length<1048576/\s.age<4611686018427387904:=λs hs=>R8 (by rw[<-nh];exact bc) s<|Pm.mem_iff.2 hs);(have an:(ye V).length<1048576:=by rw[<-Pm.length_eq];have:=Og s0.2<|ye rs;rw[<-nh] at this;omega);have dl:wq.heap.size<=T.heap.size:=k2.size;(have H:∀ g,v2.ownBlock=some g->¬l g/\g<(T.alloc<|.cells #[jc z,jc cv,.bool R] 53).heap.size:=by intro g Z;refine⟨?_,(aw.row.lt g Z).2⟩;rcases l2 with h|⟨g2,h,O⟩;rw[h] at Z;exact al g Z;rw[h] at Z;cases Z;intro hc;have:=a0 _ hc;omega);(have y:∀ p∈V,∀ o n c,p.1=.slice (some o) n c->¬l o.block/\W.heap.size+1<=o.block/\o.block<(T.alloc<|.cells #[jc z,jc cv,.bool R] 53).heap.size:=by intro p N o n c e;obtain⟨p',cs,d2,n',c',e',eb⟩:=b3 p N o n c e;have O:=bn p' cs d2 n' c' e';rw[eb] at O;refine⟨O.1,O.2,?_⟩;have h6:=(aw.has p N).1;(have h7:p.2.entries≠[]:=by have h8:p.2∈Rf.taken s0.2 (ye rs):=Pm.mem_iff.2<|ZW.2 ⟨p,N,rfl⟩;exact(Fq.next a7 I).2.some p.2 h8);rw[e] at h6;exact h6.lt h7);have au:=je T<|.cells #[jc z,jc cv,.bool R] 53;have y0:=zK 0 au;have y1:=zK 1 au;have y2:=zK 2 au;simp at y0 y1 y2;change Hid _ at T2;have bl:=jb aw;clear aw H2 au b3;by_cases hcl:z=D;(· subst hcl;(have cx:(z==z)=true:=zD);gi_wp2;(have af:∃ m,m<mf (jc z,wq)/\∃(D:Str) (k L:aD) (j:List HS) (v:Value) (l:Nat->Prop),jc z=jc D/\Y6 (ye j)=m/\MM=k++L/\Rf.ai (ye j) D L/\Rf.vz (ye j) D/\xh (T.alloc<|.cells #[jc z,jc cv,.bool R] 53) (W.heap.size+1) U v j/\Rf.Ql (ye j) j.length/\J (k.map Jb) l (T.alloc<|.cells #[jc z,jc cv,.bool R] 53)/\(∀ i,l i->C i\/W.heap.size<=i)/\(∀ i,l i->i<(T.alloc<|.cells #[jc z,jc cv,.bool R] 53).heap.size)/\¬l U/\(∀ g,v.ownBlock=some g->¬l g)/\(∀ p∈j,∀ o n c,p.1=.slice (some o) n c->¬l o.block/\W.heap.size+1<=o.block)/\ja W (T.alloc<|.cells #[jc z,jc cv,.bool R] 53) (λi=>C i\/qe ρ i)/\Dk E B (T.alloc<|.cells #[jc z,jc cv,.bool R] 53) ρ d G.1/\(∀ s∈ye j,s.entries.length<1048576/\s.age<4611686018427387904)/\(ye j).length<1048576:=by refine⟨_,by rw[<-a2];omega,z,k,L,V,v2,l,rfl,rfl,av,(Tq.again a7 rfl).perm Pm,((Fq.next a7 I).2).perm Pm,bl,T2.out,c4,A,λi h=>by have:=a0 i h;simp;omega,ac,λg Z=>(H g Z).1,λp N o n c e=>⟨(y p N o n c e).1,(y p N o n c e).2.1⟩,ag,D2,b1,an⟩);obtain⟨m2,aq,r⟩:=af;go_roundw;(case rel=>exact⟨m2,r⟩);case measure=>exact xA ((ap.out (_,_) ⟨m2,r⟩).2 m2 r) aq);· (have cx:(z==D)=false:=by simp[hcl]);obtain⟨dn,M,bi,TM⟩:=Tq.next Fq a7 I hcl;(have b5:MM=(k++[⟨z,cv,R⟩])++M:=by rw[av.out,bi];simp);(have c2:MM[k.length]?=some ⟨z,cv,R⟩:=by rw[av.out,bi];simp);(have bx:k.map Jb=(MM.take k.length).map Jb:=by rw[av.out];simp);(have c9:∀ i,l i->i<(T.alloc<|.cells #[jc z,jc cv,.bool R] 53).heap.size:=λi h=>by have:=a0 i h;simp;omega);obtain⟨fn,tmps,assign,body,hy,hR⟩:=hY.out (k.map Jb) (Jb ⟨z,cv,R⟩) l _ c4 c9<|.inl ⟨k.length,_,bx,c2,rfl⟩;dsimp only[encI,Jb] at hy;have HR:=jb hR;change Hid _ at b5;clear hR bi c2 bx;gi_wp2;refine⟨λh=>by simp[Fence.wide] at h,HR.out.mono ?_⟩;rintro e W3 ⟨C2,ao,ab,aa,be⟩;(have ak:∀ i,C2 i->C i\/W.heap.size<=i:=λi h=>by rcases ao i h with h|h;exact A i h;have h6:=ag.size;exact .inr zC);have c7:ja W W3 (λi=>C i\/qe ρ i):=ag.trans aa (λi hi h=>by rcases A i h with O|O;exact .inl O;omega);(have d0:∀ i,l i->¬qe ρ i/\B<=i:=λi h=>by rcases A i h with O|O;exact⟨(hC i O).1,Nat.le_of_not_lt (hC i O).2⟩;exact⟨nT i O,zC⟩);(have D3:=D2.apart aa λi _ h=>d0 i h);rcases be with⟨rfl,bj⟩|⟨rfl,aj⟩;(· (have af:∃ m,m<mf (jc D,wq)/\∃(D:Str) (k L:aD) (j:List HS) (v:Value) (l:Nat->Prop),jc z=jc D/\Y6 (ye j)=m/\MM=k++L/\Rf.ai (ye j) D L/\Rf.vz (ye j) D/\xh W3 (W.heap.size+1) U v j/\Rf.Ql (ye j) j.length/\J (k.map Jb) l W3/\(∀ i,l i->C i\/W.heap.size<=i)/\(∀ i,l i->i<W3.heap.size)/\¬l U/\(∀ g,v.ownBlock=some g->¬l g)/\(∀ p∈j,∀ o n c,p.1=.slice (some o) n c->¬l o.block/\W.heap.size+1<=o.block)/\ja W W3 (λi=>C i\/qe ρ i)/\Dk E B W3 ρ d G.1/\(∀ s∈ye j,s.entries.length<1048576/\s.age<4611686018427387904)/\(ye j).length<1048576:=by(have bb:∀ i,¬l i->i<(T.alloc<|.cells #[jc z,jc cv,.bool R] 53).heap.size->¬C2 i:=λi h1 h2 h3=>by rcases ao i h3 with h|h;exact h1 h;omega);refine⟨_,by rw[<-a2];omega,z,k++[⟨z,cv,R⟩],M,V,v2,C2,rfl,rfl,b5.out,TM.perm Pm,((Fq.next a7 I).1).perm Pm,bl.out.keep aa ac (λg Z=>(H g Z).1) λp N o n c e=>(y p N o n c e).1,T2.out,by rw[XC];exact bj,ak,ab,bb U ac<|zO bl.out.box,λg Z=>bb g (H g Z).1 (H g Z).2,λp N o n c e=>⟨bb _ (y p N o n c e).1 (y p N o n c e).2.2,(y p N o n c e).2.1⟩,c7,D3,b1,an⟩);obtain⟨m2,aq,r⟩:=af;change Hid _ at r aq;gi_wp2;go_roundw;(case rel=>exact⟨m2,r.out⟩);case measure=>exact xA ((ap.out (_,_) ⟨m2,r.out⟩).2 m2 r.out) aq.out);· gi_wp2;refine bodyPost_ret (results_none rfl _ _ _) rfl ?_;exact⟨C2,ak,ab,⟨_,rfl⟩,.inr ⟨_,D3,aj⟩⟩
 .obtain⟨te,ae,rfl⟩:=bz.shape;(have eM:X9 G=[]:=by unfold X9;rw[b4]);(have eE:G5 G=some bad:=by unfold G5;rw[b4]);rw[eM,eE] at hY;change Hid _ at eM eE;obtain⟨fn,tmps,assign,body,hy,hR⟩:=hY [] (ei,.iface te<|.pointer<|some ae) C w1 bk ah<|.inr ⟨bad,rfl,rfl,rfl,bz⟩;dsimp only[encI,ei] at hy;have HR:=jb hR;change Hid _ at D1;clear hR hY;gi_wp2;refine⟨λh=>by simp[Fence.wide] at h,HR.out.mono ?_⟩;rintro e W3 ⟨C2,ao,ab,aa,be⟩;(have D3:=D1.out.apart aa λi _ h=>⟨(hC i h).1,Nat.le_of_not_lt (hC i h).2⟩);(have A:∀ i,C2 i->C i\/W.heap.size<=i:=λi h=>(ao i h).imp id λh=>zT kW.size h);rcases be with⟨rfl,bj⟩|⟨rfl,aj⟩;(· gi_wp2;refine bodyPost_ret (results_none rfl _ _ _) rfl ?_;exact⟨C2,A,ab,⟨_,rfl⟩,.inl ⟨_,⟨D3,.inr ⟨bad,_,eE.out,⟨te,ae,rfl⟩,by rw[eM.out];rfl⟩⟩,bj⟩⟩);· gi_wp2;refine bodyPost_ret (results_none rfl _ _ _) rfl ?_;exact⟨C2,A,ab,⟨_,rfl⟩,.inr ⟨_,D3,aj⟩⟩
end
section
open RowKit Maps WideShapes Go.Proofs.Tryz
variable {E:Nat->Addr} {B b x y:Nat} {w:World} {t:TypeId} {c:Nat×Nat×Str} {k:Str}
abbrev Zc(d:Nat)(n:Nat)(key:Str):Value:=.func (.func 163) #[.agg #[.pointer (some ⟨d,0,none⟩),jc (jq n),jc key]] #[]
theorem U1(d n:Nat)(key:Str)(c:n<=9223372036854775807)(H:Env E B w):Calls prog 124 #[aA d,jw n,jc key] w λe w'=>e=.returned (Zc d n key)/\ja w w' No:=by go_enter func124,ntmps124;go_wp2_with fail;refine(km n c H).mono ?_;rintro e f ⟨rfl,b⟩;go_wp2;go_ret;exact⟨rfl,b⟩
theorem Tryz.Uv:(prog.info? 138).map (λi=>(i.zero,i.size,i.bytes))=some (some .nilFunc,1,8):=by kernel_rfl
theorem ji3(d n:Nat)(key:Str):∀ u∈[Zc d n key],u.oneCell'=true:=by intro u b;simp at b;subst b;rfl
theorem ao(d:Nat)(m:Rf.Man)(rv last mv:Value)(R cl:Bool)(key:Str)(H:Env E B w)(x:w.heap[b]?=some (.cells (j6 (aA d) (jf m.next) (jf m.last) (jf m.log) (jf m.base) rv last mv R cl) t (0,0)))(hv:zz w rv m.runs)(hl:m.runs.length<524288)(Y:∀ n∈m.settled,n<=9223372036854775807):Calls prog 74 #[aA b,jc key] w λe w'=>∃ p c,e=.returned (.slice p m.settled.length c)/\w'.ownsRow w.heap.size 138 1 (.slice p m.settled.length c) m.settled.length (m.settled.map (λn=>Zc d n key))/\ja w w' No:=by
 obtain⟨j0,Z,I,G,F⟩:=info_parts Tryz.Uv;have r:=cw w m rv hv zC;have J:=xx m;have d0:=zK 0 x;have d1:=zK 1 x;have d2:=zK 2 x;have d3:=zK 3 x;have d4:=zK 4 x;have d5:=zK 5 x;simp at d0 d1 d2 d3 d4 d5;have HB:=jb x;generalize m.settled=l at r J Y ⊢;have A:=jb r;clear x r;go_enter func74,ntmps74;go_wp2_with fail;refine A.out.mono ?_;rintro e C ⟨p1,c1,rfl,f,D⟩;have hN:=Ja f rfl;go_wp2_with fail;go_loopw [5,14] (λb i wr=>∃(k:Nat) (p:Option Addr) (c:Nat),k<=l.length/\i = aB k/\b=.slice p k c/\wr.ownsRow C.heap.size 138 1 (.slice p k c) k ((l.take k).map λn=>Zc d n key)/\ja C wr No) (λ_ i _=>l.length-(intOf i).toNat);case atStart=>grind [ZR,ja.refl]
 case round=>obtain⟨k,p,c,hk,rfl,rfl,q,v⟩:=hrel;obtain z|ah:=zS k l.length;(· obtain⟨g,o,rfl,e0⟩:=(hN.same v).at z;have L:=Y l[k]<|xI z;have V:=D.tt v;have HR:=H.same V;have S:=zM (o:=0)<|V.same HB id;simp at S;go_wp2_with fail;refine(U1 d l[k] key L HR).mono ?_;rintro e w2 ⟨rfl,X⟩;have W:=v.tt X;(have f:=X.row q λ_ _ h=>h);have y:=f.alloc<|.cells #[Zc d l[k] key] 138;(have O:Hid (k+1<=maxLen):=by unfold Hid maxLen;omega);(have N:Hid ((k+1)*8<=140737488355328):=by unfold Hid;omega);(have s:(l.take (k+1)).map (λn=>Zc d n key)=(l.take k).map (λn=>Zc d n key)++[Zc d l[k] key]:=by grind [xY]);change Hid _ at s;clear q;go_wp2_with (first|(at_builtin;go_must (refine jl _ rfl (.tmp 18) (.tmp 26) 104 rfl C.heap.size 138 j0 .nilFunc 1 8 underlying104 Z I G F rfl ZE _ _ _ rfl y (aC w2.heap.size) 1 1 [Zc d l[k] key] rfl rfl (cell_one_new _ _ _) (ji3 _ _ _) O N (W.more _).size ?_);intro p3 T w3 u M U)|go_in);have k3:ja C w3 No:=(W.more _).grow M (λj e Z=>zA (f.lt j e).1);rw[<-s.out] at u;exact⟨⟨k+1,p3,T,zC,zD,rfl,u,k3⟩,by simp[intOf];omega⟩);· (have ek:k=l.length:=zC);subst ek;rw[ZX] at q;go_wp2;go_ret;exact⟨p,c,rfl,qi q D.size,D.tt v⟩
theorem jiu{P:Program}{base:Nat}{e c:TypeId}{v:Value}{n:Nat}{xs:List Value}(b:P.underlying c=some (.slice e))(h:w.ownsRow base e 1 v n xs)(d:∀ u∈xs,u.oneCell'=true):Src P 1 c v n xs w:=by obtain⟨rfl,f⟩|⟨g,cap,i,rfl,_⟩:=h.2;have k:xs=[]:=ZH (by rw[h.1,f]);grind [Src.ofNil];exact Src.ofSlice w b (aC g) n cap _ h.1 (λj u hu=>h.cells rfl j u hu) d
abbrev Eo(v:Value):Value:=.func (.func 122) #[v] #[]
def jbk(d:Nat)(m:Rf.Man)(l:aD)(mv:Value)(key:Str)(w:World)(e:Ending)(w':World):Prop :=
 ∃ p c v,e=.returned (.slice p (m.settled.length+1) c)/\w'.ownsRow w.heap.size 138 1 (.slice p (m.settled.length+1) c) (m.settled.length+1) (Eo v::m.settled.map (λn=>Zc d n key))/\Chs w' v (l.drop (Rf.below l key)) /\
  (∀ ad n c,v=.slice (some ad) n c->∃ ad' n' c',mv=.slice (some ad') n' c'/\ad'.block=ad.block)/\ja w w' No
theorem tg(d:Nat)(m:Rf.Man)(rv last k:Value)(l:aD)(q cl:Bool)(key:Str)(H:Env E B w)(D:w.heap[b]?=some (.cells (j6 (aA d) (jf m.next) (jf m.last) (jf m.log) (jf m.base) rv last k q cl) t (0,0)))(hv:zz w rv m.runs)(hl:m.runs.length<524288)(hs:∀ n∈m.settled,n<=9223372036854775807)(L:Chs w k l)(hr:Rf.j3 l)(J:l.length<1048576):Calls prog 38 #[aA b,jc key] w (jbk d m l k key w):=by
 obtain⟨j0,C,I,G,F⟩:=info_parts Tryz.Uv;have a7:=xx m;have W:=U0 b 7 _ t k l key w D rfl L hr J;change Hid _ at D;have HM:=jb W;clear W;go_enter func38,ntmps38;go_wp2_with fail;refine HM.out.mono ?_;rintro e y ⟨v,rfl,M,V,p⟩;have z:ja w (y.alloc<|.cells #[Eo v] 138) No:=V.more _;have i:=ao d m rv last k q cl key (H.same z) (z.same D.out id) (hv.same z) hl hs;have s:=World.ownsRow_lit (base:=w.heap.size) (e:=138) (size:=1) y #[Eo v] 1 V.size (by unfold maxLen;omega) rfl;have x:=jb i;change Hid _ at p;clear i;go_wp2_with fail;refine x.out.mono ?_;rintro e X ⟨p2,c2,rfl,g,A⟩;have U:=z.tt A;have c:=A.row s λ_ _ h=>h
 have r:=jiu (P:=prog) underlying104 g (λu hu=>by obtain⟨n,_,rfl⟩:=ZW.1 hu;rfl);have O:Hid (1+m.settled.length<=maxLen):=by unfold Hid maxLen;omega
 have N:Hid ((1+m.settled.length)*8<=140737488355328):=by unfold Hid;omega
 change Hid _ at g;go_wp2_with (at_builtin;go_must (refine zv X rfl (.tmp 10) (.tmp 13) 104 104 rfl w.heap.size 138 j0 .nilFunc 1 8 underlying104 C I G F rfl ZE _ 1 _ rfl c _ m.settled.length _ rfl r O N U.size ?_);intro Y R T f o S);have k3:ja w T No:=U.grow o (λj e C=>zA (c.lt j e).1);have Z:ja y T No:=((ja.alloc y _ λ_=>False).tt A).grow o (λj e C=>by injection e with e;simp_all);go_ret;rw[show 1+m.settled.length=m.settled.length+1 by omega] at f ⊢;exact⟨Y,R,v,rfl,f,M.same Z,p.out,k3⟩
abbrev plV(p:Nat×Nat×Str):Value:=.agg #[jw p.1,jw p.2.1,jc p.2.2]
def yu(l:List (Nat×Nat×Str)):List Value:=l.flatMap λp=>[jw p.1,jw p.2.1,jc p.2.2]
theorem C1(l:List (Nat×Nat×Str))(c:Nat×Nat×Str):yu (l++[c])=yu l++yu [c]:=by simp[yu]
theorem jf4(l:List (Nat×Nat×Str)):∀ u∈yu l,u.oneCell'=true:=by intro u b;obtain⟨c,_,h⟩:=List.mem_flatMap.1 b;simp at h;obtain rfl|rfl|rfl:=h<;>rfl
theorem Qh{l:List (Nat×Nat×Str)}{k:Nat}(h:k<l.length):(yu l)[k*3]?=some (jw l[k].1)/\(yu l)[k*3+1]?=some (jw l[k].2.1)/\(yu l)[k*3+2]?=some (jc l[k].2.2):=by induction l generalizing k with|nil=>simp at h|cons c r ih=>(have e:yu (c::r)=jw c.1::jw c.2.1::jc c.2.2::yu r:=by simp[yu]);cases k with|zero=>rw[e];simp|succ k=>grind
theorem jjc(h:w.heap[b]?=some (.cells #[jw c.1,jw c.2.1,jc c.2.2] 308 (0,0))):(loadVar 308 (aC b)).run prog w=.ok (plV c) w:=by have g:=zK 0 h;have f:=zK 1 h;have d:=zK 2 h;simp at g f d;go_simp
theorem Bf{fn:Func}{t u:Tmp}(h:fn.results=#[.cell t 308,.tmp u]){tmps:Array Value}(f:tmps.getD t undef = aA b)(i:w.heap[b]?=some (.cells #[jw c.1,jw c.2.1,jc c.2.2] 308 (0,0))):(results fn tmps).run prog w=.ok (.tuple #[plV c,tmps.getD u undef]) w:=by
 have g:=jjc i;have d:tmps[t]?.getD undef = aA b:=by simpa using f
 simp[results,h,d,asAddr,g]
theorem Cy(h:w.heap[b]?=some (.cells #[jw x,jw y,jc k] 308 (0,0))):w.cell? (aC b)=some (jw x)/\w.cell? (B3 b 1)=some (jw y)/\w.cell? (B3 b 2)=some (jc k)/\w.frozen? (aC b)=false/\w.frozen? (B3 b 1)=false/\w.frozen? (B3 b 2)=false:=by have f:=zK 0 h;have d:=zK 1 h;have c:=zK 2 h;grind [zN]
theorem Wy{x' y':Nat}{k':Str}(h:w.heap[b]?=some (.cells #[jw x,jw y,jc k] 308 (0,0))):(((w.setCell (aC b) (jw x')).setCell (B3 b 1) (jw y')).setCell (B3 b 2) (jc k')).heap[b]?=some (.cells #[jw x',jw y',jc k'] 308 (0,0)):=by have f:=jd (o:=0) h<|jw x';have d:=jd (o:=1) f<|jw y';have c:=jd (o:=2) d<|jc k';simpa using c
theorem jlt{c:Nat×Nat}(h:w.heap[b]?=some (.cells #[jw x,jw y,jc k] t c)):∀ j u,w.cell? (B3 b j)≠some (j7 u):=by intro j x;rw[zM h];grind
theorem Cu{r:Nat}{l q:By}{F:Nat}{p:Nat×Str}(I:Rd w r l)(g:Rf.Ji F l=some (p,q))(R:F<1099511627776):Calls prog 248 #[aA r,jw F] w λe w'=>e=.returned (.tuple #[plV (p.1,F,p.2),.nilIface])/\Rd w' r q/\ja w w' (λi=>i=r):=by
 have O:r<w.heap.size:=by obtain⟨v,M,_⟩:=I;exact zO M
 unfold Rf.Ji at g;split at g
 .rename_i hc;obtain⟨L,z⟩:=hc;split at g;(· rename_i t q' htt;cases g;(have E:=ja.alloc w (.cells #[jw 0,jw 0,jc []] 308) λ_=>False);have m:=je w<|.cells #[jw 0,jw 0,jc []] 308;obtain⟨N,o⟩:=zJ (Rf.number (l.take 4));have C:=jb m;rw[<-o] at z ⊢;clear m;go_enter func248,ntmps248;go_wp2_with fail;refine(xl (n:=4) (I.same E) L zC).mono ?_;rintro e J ⟨rfl,u,H⟩;rw[<-o];change Hid _ at o;have f:=H.same C zC;have B:ja w J (λi=>i=r):=(Jk E).tt H;change Hid _ at f;go_wp2_with fail;refine(kh u htt).mono ?_;rintro e D ⟨rfl,s,G⟩;have b:=G.same f.out zC;have A:ja w D (λi=>i=r):=B.tt G;obtain⟨a0,V,a2,U,T,S⟩:=Cy (x:=0) (y:=0) b;have j:=jlt (x:=0) (y:=0) b;have k:=s.other (Xy D w.heap.size (jw N) (jw F)<|jc t) (zC:r≠w.heap.size) j;have d:=Wy (x:=0) (y:=0) (x':=N) (y':=F) (k':=t) b;change Hid _ at d k;clear b j;go_wp2;refine bodyPost_ret (Bf rfl rfl (c:=(N,F,t)) d.out) rfl ?_;exact⟨rfl,k.out,A.trans (Xy _ _ _ _ _) λi hi e=>zC⟩);cases g
 cases g
end
