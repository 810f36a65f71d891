/-
-/
import Derived.Test.YtdaocdiabffpkaaGreatDoorR23
import Derived.Test.YtdaocdiabffpkaaGreatDoorR20
set_option maxRecDepth 100000
set_option maxHeartbeats 8000000
set_option linter.all false
namespace Go.Proofs.YtdaocdiabffpkaaGreatDoor
section
open RowKit Maps WideShapes Go.Proofs.Tryz
variable {P:Program} {W W' w w':World} {e t:TypeId} {b cap g hb i j k n:Nat} {name:String} {p1 v:Value} {p2 x y:Int} {T:Nat->Prop} {l:List Value} {hi:Str} {ls:List (List Rf.Ch)}
theorem V8(a:Addr)(b c:TypeId)(s t:String):(Builtin.ssaWrapNilChk_ #[b] c #[.pointer (some a),strVal s,strVal t]).run P w=.ok (.pointer (some a)) w:=rfl
theorem jil{i:TypeInfo}(h:P.info? t=some i):(typeInfo t).run P w=.ok i w:=by simp[typeInfo,Sem.run_bind,Result.andThen,go_sem,h]
theorem Cf{fuel:Nat}{b:TypeId}{f:FuncId}{i:TypeInfo}{m:Method}{a:Addr}(hi:P.info? t=some i)(k:i.methods.find? (·.name==name)=some m)(j:m.path=#[])(l:m.func=some (f,false))(g:P.underlying t=some (.pointer b))(d:(isAgg b).run P w=.ok false w)(c:w.cell? a=some v):(Go.method (fuel+1) t (.pointer (some a)) name).run P w=.ok (f,v) w:=by simp[Go.method,Sem.run_bind,jil hi,run_underlying g,k,j,l,d,c,Result.andThen,follow,receiverAt,Place.get,V8,go_sem]
theorem rowOf{i:TypeInfo}{r:Nat×Option (FuncId×Bool)}(h:(i.methods.find? (·.name==name)).map (λm=>(m.path.size,m.func))=some r):∃ m,i.methods.find? (·.name==name)=some m/\m.path.size=r.1/\m.func=r.2:=by grind [XP]
theorem Cu(w:World):(isAgg 311).run prog w=.ok false w:=by kernel_rfl
theorem mx:(prog.info? 290).map (λi=>((i.methods.find? (·.name== "Len")).map (λm=>(m.path.size,m.func)),(i.methods.find? (·.name== "Less")).map (λm=>(m.path.size,m.func)),(i.methods.find? (·.name== "Swap")).map (λm=>(m.path.size,m.func)))) =
 some (some (0,some (206,false)),some (0,some (279,false)),some (0,some (282,false))):=by
 kernel_rfl
theorem Fx(h:w.cell? (A2 b)=some v):(Go.method 478 290 (P1 b) "Len").run prog w=.ok (206,v) w:=by obtain⟨i,hi,c⟩:=XP.1 mx;obtain⟨m,g,f,d⟩:=rowOf (r:=(0,some (206,false)))<|congrArg Prod.fst c;exact Cf (fuel:=477) hi g (Array.eq_empty_of_size_eq_zero f) d underlying290 (Cu w) h
theorem Cg(h:w.cell? (A2 b)=some v):(Go.method 478 290 (P1 b) "Less").run prog w=.ok (279,v) w:=by obtain⟨i,hi,c⟩:=XP.1 mx;obtain⟨m,g,f,d⟩:=rowOf (r:=(0,some (279,false)))<|congrArg (λx=>x.2.1) c;exact Cf (fuel:=477) hi g (Array.eq_empty_of_size_eq_zero f) d underlying290 (Cu w) h
theorem iq(h:w.cell? (A2 b)=some v):(Go.method 478 290 (P1 b) "Swap").run prog w=.ok (282,v) w:=by obtain⟨i,hi,c⟩:=XP.1 mx;obtain⟨m,g,f,d⟩:=rowOf (r:=(0,some (282,false)))<|congrArg (λx=>x.2.2) c;exact Cf (fuel:=477) hi g (Array.eq_empty_of_size_eq_zero f) d underlying290 (Cu w) h
theorem jdi(v:Value)(w:World):(Go.method 478 290 v "Push").run prog w=.ok (281,v) w:=by kernel_rfl
theorem jgv(v:Value)(w:World):(Go.method 478 290 v "Pop").run prog w=.ok (280,v) w:=by kernel_rfl
abbrev HS:=Value×Rf.Source
def zg(ps:List HS):List Value:=ps.flatMap λp=>[p.1,j9 p.2.age]
theorem ui(ps:List HS):(zg ps).length=ps.length*2:=by induction ps with|nil=>rfl|cons p r ih=>grind [zg]
theorem Vt{ps:List HS}{p:HS}(h:ps[k]?=some p):(zg ps)[k*2]?=some p.1/\(zg ps)[k*2+1]?=some (j9 p.2.age):=by induction ps generalizing k with|nil=>simp at h|cons q r ih=>(have e:zg (q::r)=[q.1,j9 q.2.age]++zg r:=by simp[zg]);rw[e];cases k with|zero=>cases h;simp|succ k=>grind
structure xz(W:World)(base hb:Nat)(v:Value)(ps:List HS):Prop where
 box:W.heap[hb]?=some (.cells #[v] 311 (0,0))
 row:W.ownsRow base 314 2 v ps.length (zg ps)
 ne:v.ownBlock≠some hb
 has:∀ p∈ps,Chs W p.1 p.2.entries/\∀ ad n c,p.1=.slice (some ad) n c->ad.block≠hb/\v.ownBlock≠some ad.block
theorem xz.cell{base:Nat}{ps:List HS}(h:xz W base hb v ps):W.cell? (A2 hb)=Option.some v:=(zM h.box).trans rfl
theorem xz.src{base:Nat}{ps:List HS}(h:xz W base hb v ps){p:HS}(c:ps[k]?=Option.some p):∃ g cap,v=.slice (Option.some (A2 g)) ps.length cap/\ps.length<=cap/\W.cell? ⟨g,k*2,none⟩=Option.some p.1/\W.cell? ⟨g,k*2+1,none⟩=Option.some (j9 p.2.age):=by
 have m:=(ZY.1 c).1;obtain⟨f,d⟩:=Vt c;obtain⟨rfl,n⟩|⟨g,cap,l,rfl,j,i,b,_⟩:=h.row.2
 .omega
 refine⟨g,cap,rfl,b,?_,?_⟩;have:=h.row.cells rfl _ _ f;rwa [add_zero] at this;have:=h.row.cells rfl _ _ d;rwa [add_zero] at this
theorem jh3{l:L1}(h:Chs W v l)(d:l≠[]):∃ b o cap,v=.slice (some (B1 b o)) l.length cap/\l.length<=cap/\W.cell? (B1 b o)=some (je ((l.head?.map Rf.Ch.key).getD [])):=by obtain⟨p,c,rfl,f,k,j,i⟩:=id h;obtain⟨b,o,rfl,g,n,m⟩:=h.at (XH.2 d);refine⟨b,o,c,rfl,f,?_⟩;cases l with|nil=>exact(d rfl).elim|cons x r=>simpa using g
theorem Dz(p:Option Addr)(n c:Nat)(w:World)(b:n<1099511627776):Calls prog 206 #[.slice p n c] w λe w'=>e=.returned (j9 n)/\w'=w:=by go_enter func206,ntmps206;go_wp2;go_ret;exact⟨rfl,rfl⟩
theorem jjs{base:Nat}{ps:List HS}(H:xz W base hb v ps){p q:HS}(hi:ps[i]?=some p)(m:ps[j]?=some q)(f:p.2.entries≠[])(d:q.2.entries≠[])(L:ps.length<1048576)(N:p.2.age<4611686018427387904/\q.2.age<4611686018427387904):Calls prog 279 #[v,j9 i,j9 j] W λe w'=>e=.returned (.bool (p.2.less q.2))/\ja W w' N_:=by
 obtain⟨g,cap,rfl,u,A,a2⟩:=H.src hi;obtain⟨T,x,e,_,z,U⟩:=H.src m;cases e;have E:=(ZY.1 hi).1;have D:=(ZY.1 m).1;have o:=ZX hi;have n:=ZX m;obtain⟨X,G,J,t,S,y⟩:=jh3 (H.has p o).1 f;obtain⟨V,F,I,s,O,t2⟩:=jh3 (H.has q n).1 d;have C:0<p.2.entries.length:=XH.2 f;have B:0<q.2.entries.length:=XH.2 d;rw[t] at A;rw[s] at z;have b:p.2.less q.2=(decide (p.2.top<q.2.top)||(decide (p.2.top=q.2.top)&&decide (p.2.age<q.2.age))):=rfl;unfold Rf.Source.top at b;generalize (p.2.entries.head?.map Rf.Ch.key).getD []=kp at y b;generalize (q.2.entries.head?.map Rf.Ch.key).getD []=kq at t2 b;generalize p.2.less q.2=R at b ⊢;generalize p.2.entries.length=np at *;generalize q.2.entries.length=nq at *;generalize p.2.age=ap at *;generalize q.2.age=aq at *;change Hid _ at b;clear t s H hi m o n f d;have r:∀ q,ja W (W.drewN q) N_:=λq=>⟨rfl,rfl,rfl,ZG _,λ_ _ _=>rfl⟩
 obtain⟨l,k⟩|⟨l,k⟩|⟨l,k⟩:=kj kp kq
 ·(have c:Hid (R=true):=zG);unfold Ge at k;clear l;go_enter func279,ntmps279;go_wp2_with fail;go_quiet ((go_at_call 159;exact Calls.quiet_of_same<|Tryz.strings_Compare ⟨kp.toArray⟩ ⟨kq.toArray⟩ _));go_wp2;go_ret;exact⟨by rw[c.out];rfl,r _⟩
 ·(have c:Hid (R=decide (ap<aq)):=zF);unfold Ge at k;clear l;(have M:decide ((ap:Int)<aq)=decide (ap<aq):=zD);go_enter func279,ntmps279;go_wp2_with fail;go_quiet ((go_at_call 159;exact Calls.quiet_of_same<|Tryz.strings_Compare ⟨kp.toArray⟩ ⟨kq.toArray⟩ _));go_wp2_with fail;go_quiet (fail);go_wp2;go_ret;exact⟨by rw[c.out];simp,⟨rfl,rfl,rfl,ZG _,λ_ _ _=>rfl⟩⟩
 ·(have c:Hid (R=false):=by grind [Hid]);unfold Ge at k;clear l;go_enter func279,ntmps279;go_wp2_with fail;go_quiet ((go_at_call 159;exact Calls.quiet_of_same<|Tryz.strings_Compare ⟨kp.toArray⟩ ⟨kq.toArray⟩ _));go_wp2;go_ret;exact⟨by rw[c.out];rfl,r _⟩
theorem jf2{d:Value}{f:Int}(m:i≠j)(hi:i<n)(A:j<n)(z:n<1048576)(C:n<=cap)(l:∃ a b c,p1=.slice a b c)(k:∃ a b c,d=.slice a b c)(F:W.cell? ⟨g,i*2,none⟩=some p1)(a2:W.cell? ⟨g,i*2+1,none⟩=some (aA p2))(E:W.cell? ⟨g,j*2,none⟩=some d)(D:W.cell? ⟨g,j*2+1,none⟩=some (aA f))(B:∀ o,W.frozen? (B1 g o)=false):Calls prog 282 #[.slice (some (A2 g)) n cap,j9 i,j9 j] W λe w'=>e=.returned (.tuple #[])/\w'=((((W.setCell ⟨g,i*2,none⟩ d).setCell ⟨g,i*2+1,none⟩ (aA f)).setCell ⟨g,j*2,none⟩ p1).setCell ⟨g,j*2+1,none⟩ (aA p2)).drew:=by obtain⟨t,s,pc,rfl⟩:=l;obtain⟨r,q,p,rfl⟩:=k;have y:¬j*2=i*2:=zC;have x:¬j*2=i*2+1:=zC;have v:¬j*2+1=i*2:=zC;have u:¬j*2+1=i*2+1:=zC;go_enter func282,ntmps282;go_wp2_with fail;go_region;go_end0;exact⟨rfl,rfl⟩
theorem Lb(hi:i<n)(m:n<1048576)(q:n<=cap)(d:∃ a b c,p1=.slice a b c)(r:W.cell? ⟨g,i*2,none⟩=some p1)(a2:W.cell? ⟨g,i*2+1,none⟩=some (aA p2))(p:∀ o,W.frozen? (B1 g o)=false):Calls prog 282 #[.slice (some (A2 g)) n cap,j9 i,j9 i] W λe w'=>e=.returned (.tuple #[])/\w'=((((W.setCell ⟨g,i*2,none⟩ p1).setCell ⟨g,i*2+1,none⟩ (aA p2)).setCell ⟨g,i*2,none⟩ p1).setCell ⟨g,i*2+1,none⟩ (aA p2)).drew:=by obtain⟨j,f,pc,rfl⟩:=d;have l:¬i*2=i*2+1:=zC;have k:¬i*2+1=i*2:=zC;go_enter func282,ntmps282;go_wp2_with fail;go_region;go_end0;exact⟨rfl,rfl⟩
theorem Yr{base:Nat}{size:Nat}{xs:List Value}(h:w.ownsRow base e size (.slice (some (A2 g)) n cap) n xs)(o:j<n*size)(u:Value):(w.setCell (B1 g j) u).ownsRow base e size (.slice (some (A2 g)) n cap) n (xs.set j u):=by refine⟨by rw[XV];exact h.1,?_⟩;obtain⟨b,_⟩|⟨q,d,c,b,m,l,k,i,f,p⟩:=h.2;cases b;cases b;refine .inr ⟨g,cap,c.setIfInBounds j u,rfl,m,jc l u,k,i,by simpa using f,?_⟩;grind [List.take_set]
theorem C6{ps:List HS}(h:k<ps.length)(q:HS):zg (ps.set k q)=((zg ps).set (k*2) q.1).set (k*2+1) (j9 q.2.age):=by induction ps generalizing k with|nil=>simp at h|cons p r ih=>(have e:∀(x:HS) (l:List HS),zg (x::l)=x.1::j9 x.2.age::zg l:=λx l=>by simp[zg]);cases k with|zero=>simp[e]|succ k=>grind
theorem xz.frozen{base:Nat}{ps:List HS}(h:xz W base hb (.slice (Option.some (A2 g)) n cap) ps)(o:Nat):W.frozen? (B1 g o)=false:=by obtain⟨b,_⟩|⟨j,c,d,b,i,f,_⟩:=h.row.2;cases b;grind [zN]
theorem xz.keep{base:Nat}{ps:List HS}(h:xz W base hb v ps)(k:ja W W' T)(f:¬T hb)(d:∀ g,v.ownBlock=Option.some g->¬T g)(b:∀ p∈ps,∀ ad n c,p.1=.slice (Option.some ad) n c->¬T ad.block):xz W' base hb v ps:=⟨k.same h.box f,k.row h.row d,h.ne,λp m=>⟨(h.has p m).1.keep k λ_ ad n c e=>b p m ad n c e,(h.has p m).2⟩⟩
theorem xz.same{base:Nat}{ps:List HS}(h:xz W base hb v ps)(k:ja W W' N_):xz W' base hb v ps:=h.keep k id (λ_ _=>id) λ_ _ _ _ _ _=>id
theorem xz.joy{base:Nat}{ps:List HS}(h:xz W base hb (.slice (Option.some (A2 g)) ps.length cap) ps){p q:HS}(hi:ps[i]?=Option.some p)(l:ps[j]?=Option.some q):xz ((((W.setCell ⟨g,i*2,none⟩ q.1).setCell ⟨g,i*2+1,none⟩ (j9 q.2.age)).setCell ⟨g,j*2,none⟩ p.1).setCell ⟨g,j*2+1,none⟩ (j9 p.2.age)).drew base hb (.slice (Option.some (A2 g)) ps.length cap) ((ps.set i q).set j p)/\ja W ((((W.setCell ⟨g,i*2,none⟩ q.1).setCell ⟨g,i*2+1,none⟩ (j9 q.2.age)).setCell ⟨g,j*2,none⟩ p.1).setCell ⟨g,j*2+1,none⟩ (j9 p.2.age)).drew (λi=>i=g):=by
 have d:=(ZY.1 hi).1;have m:=(ZY.1 l).1;have k:ja W ((((W.setCell ⟨g,i*2,none⟩ q.1).setCell ⟨g,i*2+1,none⟩ (j9 q.2.age)).setCell ⟨g,j*2,none⟩ p.1).setCell ⟨g,j*2+1,none⟩ (j9 p.2.age)).drew (λi=>i=g):=(((((ja.refl W (λi=>i=g)).set (p:=⟨g,i*2,none⟩) rfl _).set (p:=⟨g,i*2+1,none⟩) rfl _).set (p:=⟨g,j*2,none⟩) rfl _).set (p:=⟨g,j*2+1,none⟩) rfl _).draw;refine⟨⟨k.same h.box λe=>h.ne<|by rw[e];rfl,?_,h.ne,?_⟩,k⟩
 .have f:=(((Yr (Yr (Yr (Yr h.row (j:=i*2) zC q.1) (j:=i*2+1) zC (j9 q.2.age)) (j:=j*2) zC p.1) (j:=j*2+1) zC (j9 p.2.age))));rw[XV,XV,C6 zG,C6 d];exact(ja.drew _ λ_=>False).row f (λ_ _=>id)
 intro x o;have b:x∈ps:=zF;exact⟨(h.has x b).1.keep k λ_ f n c e d=>((h.has x b).2 f n c e).2<|by rw[<-d];rfl,(h.has x b).2⟩
theorem jh6{base:Nat}{ps:List HS}(H:xz W base hb v ps){p q:HS}(hi:ps[i]?=some p)(c:ps[j]?=some q)(k:ps.length<1048576):Calls prog 282 #[v,j9 i,j9 j] W λe w'=>e=.returned (.tuple #[])/\xz w' base hb v ((ps.set i q).set j p)/\ja W w' (λi=>v.ownBlock=some i):=by
 obtain⟨g,cap,rfl,b,m,a2⟩:=H.src hi;obtain⟨B,n,e,_,t,s⟩:=H.src c;cases e;have d:=(ZY.1 hi).1;have f:=(ZY.1 c).1;obtain⟨y,pc,l,_⟩:=(H.has p<|ZX hi).1;obtain⟨u,x,r,_⟩:=(H.has q<|ZX c).1;obtain⟨A,o⟩:=H.joy hi c;have z:=o.mono (U:=λi=>(Value.slice (some (A2 g)) ps.length cap).ownBlock=some i) (λi _ e=>by rw[e];rfl);by_cases hij:i=j
 .subst hij;rw[hi] at c;cases c;refine(Lb d k b ⟨_,_,_,l⟩ m a2 H.frozen).mono ?_;simp_all
 .refine(jf2 hij d f k b ⟨_,_,_,l⟩ ⟨_,_,_,r⟩ m a2 t s H.frozen).mono ?_;simp_all
abbrev M9(hb:Nat):Value:=.iface 290 (.pointer (some ⟨hb,0,none⟩))
def yi(ps:List HS):List Rf.Source:=ps.map Prod.snd
theorem Xk{ps:List HS}{p:HS}(h:ps[k]?=some p):(yi ps)[k]?=some p.2:=by grind [yi]
theorem Lf{ps:List HS}{s:Rf.Source}(h:(yi ps)[k]?=some s):∃ p,ps[k]?=some p/\p.2=s:=by grind [yi]
theorem ob(ps:List HS)(i j:Nat)(p q:HS):yi ((ps.set i q).set j p)=((yi ps).set i q.2).set j p.2:=by unfold yi;simp_all
theorem ay{l:List HS}{a b:HS}(c:l[i]?=some a)(hb:l[j]?=some b):((l.set i b).set j a).Perm l:=by grind [List.set_set_perm]
theorem M1{base:Nat}{ps:List HS}(H:xz W base hb v ps){p q:HS}(k:x=i)(g:y=j)(hi:ps[i]?=some p)(d:ps[j]?=some q)(c:p.2.entries≠[])(b:q.2.entries≠[])(l:ps.length<1048576)(f:∀ p∈ps,p.2.age<4611686018427387904):Calls prog 279 #[v,aA x,aA y] W λe w'=>e=.returned (.bool (p.2.less q.2))/\ja W w' N_:=by subst k g;exact jjs H hi d c b l ⟨f p<|ZX hi,f q<|ZX d⟩
theorem Lc{base:Nat}{ps:List HS}(H:xz W base hb v ps){p q:HS}(c:x=i)(b:y=j)(hi:ps[i]?=some p)(f:ps[j]?=some q)(d:ps.length<1048576):Calls prog 282 #[v,aA x,aA y] W λe w'=>e=.returned (.tuple #[])/\xz w' base hb v ((ps.set i q).set j p)/\ja W w' (λi=>v.ownBlock=some i):=by subst c b;exact jh6 H hi f d
theorem jm9{base:Nat}{ps:List HS}(H:xz W base hb v ps)(s:∀ p∈ps,p.2.entries≠[])(U:Rf.pn (yi ps) j)(I:j<ps.length)(F:ps.length<1048576)(u:∀ p∈ps,p.2.age<4611686018427387904):Calls prog 238 #[M9 hb,j9 j] W λe w'=>e=.returned (.tuple #[])/\∃ qs,qs.Perm ps/\xz w' base hb v qs/\Rf.Qw (yi qs) qs.length/\ja W w' (λi=>v.ownBlock=some i):=by
 go_enter func238,ntmps238;go_wp2_with fail;go_loopw [1] (λc wr=>∃(k:Nat) (qs:List HS),c = aA k/\k<ps.length/\qs.Perm ps/\xz wr base hb v qs/\Rf.pn (yi qs) k/\ja W wr (λi=>v.ownBlock=some i)) (λc _=>(intOf c).toNat);case atStart=>grind [List.Perm.refl,ja.refl]
 case round=>obtain⟨k,qs,rfl,G,f,l,n,g⟩:=hrel;have A:qs.length=ps.length:=f.length_eq;by_cases h0:k=0;(· subst h0;go_wp2;go_end0;refine⟨rfl,qs,f,l,?_,g⟩;have:=n.done<|.inl rfl;grind [yi]);· (have z:((((k:Int)-1)/2)==(k:Int))=false:=zF);obtain⟨q,d⟩:∃ q,qs[k]?=some q:=⟨_,zS zC⟩;obtain⟨p,b⟩:∃ p,qs[(k-1)/2]?=some p:=⟨_,zS zC⟩;have E:=Cg l.cell;(have x:1<=k:=zC);(have r:∀ p∈qs,p.2.age<4611686018427387904:=λp h=>u p<|f.mem_iff.1 h);(have c:qs.length<1048576:=zC);change Hid _ at d b;clear h0;go_wp2_with fail;refine(M1 l (i:=k) (j:=(k-1)/2) rfl zC d b (s q<|f.mem_iff.1<|ZX d) (s p<|f.mem_iff.1<|ZX b) c r).mono ?_;rintro e C ⟨rfl,m⟩;have o:=l.same m;cases hb0:q.2.less p.2 with|false=>change Hid _ at hb0;go_wp2;go_end0;refine⟨rfl,qs,f,o,?_,g.trans m λ_ _ h=>h.elim⟩;have:=n.done<|.inr ⟨p.2,q.2,Xk b,Xk d,hb0⟩;grind [yi]|true=>change Hid _ at hb0;have D:=iq o.cell;go_wp2_with fail;refine(Lc o (i:=(k-1)/2) (j:=k) zC rfl b d c).mono ?_;rintro e B ⟨rfl,y,t⟩;go_wp2;go_roundw;(case rel=>refine⟨(k-1)/2,_,zF,zC,(ay b d).trans f,y,?_,(g.trans m λ_ _ h=>h.elim).tt t⟩;rw[ob];exact n.step x (Xk b) (Xk d) hb0);grind [intOf]
theorem rh{b:List HS}{p q:HS}(h:∀ k p,k<n->b[k]?=some p->p.2.entries≠[])(hi:i<n)(f:j<n)(d:b[i]?=some p)(c:b[j]?=some q):∀ k x,k<n->((b.set i q).set j p)[k]?=some x->x.2.entries≠[]:=by grind
def jb4(W:World)(base hb:Nat)(v:Value)(ps:List HS)(n:Nat)(e:Ending)(w':World):Prop :=
 ∃(mv:Bool) (qs:List HS),e=.returned (.bool mv)/\qs.Perm ps/\xz w' base hb v qs/\Rf.Qw (yi qs) n/\(∀ k,n<=k->qs[k]?=ps[k]?)/\ja W w' (λi=>v.ownBlock=some i)
theorem jkd{base:Nat}{ps:List HS}(H:xz W base hb v ps)(hs:∀ k p,k<n->ps[k]?=some p->p.2.entries≠[])(U:Rf.Xd (yi ps) 0 n)(hn:n<=ps.length)(hl:ps.length<1048576)(ha:∀ p∈ps,p.2.age<4611686018427387904):Calls prog 239 #[M9 hb,aA 0,j9 n] W (jb4 W base hb v ps n):=by
 go_enter func239,ntmps239
 go_wp2_with fail
 go_loopw [7] (λc wr=>∃(k:Nat) (o:List HS),c = aA k/\k<=ps.length/\o.Perm ps/\xz wr base hb v o/\Rf.Xd (yi o) k n/\(∀ k,n<=k->o[k]?=ps[k]?)/\(∀ k p,k<n->o[k]?=some p->p.2.entries≠[])/\ja W wr (λi=>v.ownBlock=some i))
  (λc _=>ps.length-(intOf c).toNat)
 case atStart=>grind [List.Perm.refl,ja.refl]
 case round =>
  obtain⟨k,o,rfl,c,E,I,G,D,R,t⟩:=hrel
  have a5:o.length=ps.length:=E.length_eq
  have F:∀ p∈o,p.2.age<4611686018427387904:=λp h=>ha p (E.mem_iff.1 h)
  have g:o.length<1048576:=by omega
  have u:=jb D
  have d:=jb R
  clear D R
  by_cases h1:n<=2*k+1
  .have V:(n:Int)<=2*(k:Int)+1:=by omega
   go_wp2
   go_ret
   exact⟨_,o,rfl,E,I,G.none h1,u.out,t⟩
  .have V:2*(k:Int)+1<(n:Int):=by omega
   obtain⟨p,S⟩:∃ p,o[k]?=some p:=⟨_,zS (by omega)⟩
   obtain⟨q,c⟩:∃ q,o[2*k+1]?=some q:=⟨_,zS (by omega)⟩
   have f:=Cg I.cell
   have l:=jb S
   have s:=jb c
   clear S c
   by_cases h2:2*k+2<n
   .have T:2*(k:Int)+1+1<(n:Int):=by omega
    obtain⟨r,c⟩:∃ r,o[2*k+2]?=some r:=⟨_,zS (by omega)⟩
    have B:=jb c
    clear c
    go_wp2_with fail
    refine(M1 I (i:=2*k+2) (j:=2*k+1) (by omega) (by omega) B.out s.out (d.out _ r h2 B.out) (d.out _ q (by omega) s.out) g F).mono ?_
    rintro e c ⟨rfl,L⟩
    have O:=I.same L
    have a3:=Cg O.cell
    cases hb4:r.2.less q.2 with
    | true =>
     have b:Hid (∀ m c,(m=2*k+1\/m=2*k+2)->m<n->(yi o)[m]?=some c->r.2.le c):=by
      intro m c A _ M
      obtain⟨x,z,rfl⟩:=Lf M
      rcases A with rfl|rfl
      .rw[s.out] at z;cases z;exact Rf.Source.Ck hb4
      .rw[B.out] at z;cases z;exact Rf.Source.le_refl _
     clear hb4
     go_wp2_with fail
     refine(M1 O (i:=2*k+2) (j:=k) (by omega) rfl B.out l.out (d.out _ r (by omega) B.out) (d.out _ p (by omega) l.out) g F).mono ?_
     rintro e Y ⟨rfl,y⟩
     have C:=O.same y
     cases hb5:r.2.less p.2 with
     | false =>
      have f:=jb hb5
      clear hb5
      go_wp2
      go_ret
      exact⟨_,o,rfl,E,C,G.done (j:=2*k+2) (by omega) (by omega) (Xk l.out) (Xk B.out) f.out b.out,u.out,t.trans (L.tt y) (λ_ _ h=>h.elim)⟩
     | true =>
      have f:=jb hb5
      clear hb5
      have Z:=iq C.cell
      go_wp2_with fail
      refine(Lc C (i:=k) (j:=2*k+2) rfl (by omega) l.out B.out g).mono ?_
      rintro e X ⟨rfl,N,J⟩
      go_wp2
      go_roundw
      case rel =>
       refine⟨2*k+2,_,by grind,by omega,(ay l.out B.out).trans E,N,?_,λm A=>?_,rh d.out (by omega) (by omega) l.out B.out,(t.trans (L.tt y) (λ_ _ h=>h.elim)).tt J⟩
       .rw[ob]
        exact G.step (j:=2*k+2) (by omega) (by omega) (Xk l.out) (Xk B.out) f.out b.out
       .rw[XW (by omega),XW (by omega)]
        exact u.out m A
      grind [intOf]
    | false =>
     have b:Hid (∀ m c,(m=2*k+1\/m=2*k+2)->m<n->(yi o)[m]?=some c->q.2.le c):=by
      intro m c A _ M
      obtain⟨x,z,rfl⟩:=Lf M
      rcases A with rfl|rfl
      .rw[s.out] at z;cases z;exact Rf.Source.le_refl _
      .rw[B.out] at z;cases z;exact hb4
     clear hb4
     go_wp2_with fail
     refine(M1 O (i:=2*k+1) (j:=k) (by omega) rfl s.out l.out (d.out _ q (by omega) s.out) (d.out _ p (by omega) l.out) g F).mono ?_
     rintro e Y ⟨rfl,y⟩
     have C:=O.same y
     cases hb5:q.2.less p.2 with
     | false =>
      have f:=jb hb5
      clear hb5
      go_wp2
      go_ret
      exact⟨_,o,rfl,E,C,G.done (j:=2*k+1) (by omega) (by omega) (Xk l.out) (Xk s.out) f.out b.out,u.out,t.trans (L.tt y) (λ_ _ h=>h.elim)⟩
     | true =>
      have f:=jb hb5
      clear hb5
      have Z:=iq C.cell
      go_wp2_with fail
      refine(Lc C (i:=k) (j:=2*k+1) rfl (by omega) l.out s.out g).mono ?_
      rintro e X ⟨rfl,N,J⟩
      go_wp2
      go_roundw
      case rel =>
       refine⟨2*k+1,_,by simp_all,by omega,(ay l.out s.out).trans E,N,?_,λm A=>?_,rh d.out (by omega) (by omega) l.out s.out,(t.trans (L.tt y) (λ_ _ h=>h.elim)).tt J⟩
       .rw[ob]
        exact G.step (j:=2*k+1) (by omega) (by omega) (Xk l.out) (Xk s.out) f.out b.out
       .rw[XW (by omega),XW (by omega)]
        exact u.out m A
      grind [intOf]
   .have T:decide (2*(k:Int)+1+1<(n:Int))=false:=by simp;omega
    have b:Hid (∀ m c,(m=2*k+1\/m=2*k+2)->m<n->(yi o)[m]?=some c->q.2.le c):=by
     intro m c A a4 M
     obtain⟨x,z,rfl⟩:=Lf M
     rcases A with rfl|rfl
     .rw[s.out] at z;grind [Rf.Source.le_refl]
     .omega
    go_wp2_with fail
    refine(M1 I (i:=2*k+1) (j:=k) (by omega) rfl s.out l.out (d.out _ q (by omega) s.out) (d.out _ p (by omega) l.out) g F).mono ?_
    rintro e Y ⟨rfl,y⟩
    have C:=I.same y
    cases hb5:q.2.less p.2 with
    | false =>
     have f:=jb hb5
     clear hb5
     go_wp2
     go_ret
     exact⟨_,o,rfl,E,C,G.done (j:=2*k+1) (by omega) (by omega) (Xk l.out) (Xk s.out) f.out b.out,u.out,t.trans y (λ_ _ h=>h.elim)⟩
    | true =>
     have f:=jb hb5
     clear hb5
     have Z:=iq C.cell
     go_wp2_with fail
     refine(Lc C (i:=k) (j:=2*k+1) rfl (by omega) l.out s.out g).mono ?_
     rintro e X ⟨rfl,N,J⟩
     go_wp2
     go_roundw
     case rel =>
      refine⟨2*k+1,_,by simp_all,by omega,(ay l.out s.out).trans E,N,?_,λm A=>?_,rh d.out (by omega) (by omega) l.out s.out,(t.trans y (λ_ _ h=>h.elim)).tt J⟩
      .rw[ob]
       exact G.step (j:=2*k+1) (by omega) (by omega) (Xk l.out) (Xk s.out) f.out b.out
      .rw[XW (by omega),XW (by omega)]
       exact u.out m A
     grind [intOf]
theorem jhv(v:Value)(b:TypeId)(w:World):(Instr.typeAssert (.iface 314 v) b 314 false).run prog w=.ok v w:=by kernel_rfl
def joe:Value:=.agg #[S5,aA 0]
theorem Tryz.jmb:(prog.info? 314).map (λi=>(i.zero,i.size,i.bytes))=some (some joe,2,32):=by kernel_rfl
theorem Te(ps:List HS)(f:∀ p∈ps,∃ a b c,p.1=.slice a b c):∀ u∈zg ps,u.oneCell'=true:=by intro u d;simp only[zg,List.mem_flatMap] at d;obtain⟨p,g,d⟩:=d;obtain⟨a,b,c,e⟩:=f p g;simp at d;obtain rfl|rfl:=d;rw[e];rfl;rfl
theorem Bf(ps:List HS)(p:HS):zg (ps++[p])=zg ps++zg [p]:=by simp[zg]
def jkx(W:World)(base hb:Nat)(v:Value)(ps:List HS)(p:HS)(w':World)(v':Value):Prop :=
 xz w' base hb v' (ps++[p])/\(v'.ownBlock=v.ownBlock\/∃ g,v'.ownBlock=some g/\W.heap.size<=g)/\ja W w' (λi=>i=hb\/v.ownBlock=some i)
theorem ji0{base:Nat}{ps:List HS}(H:xz W base hb v ps)(hs:∀ p∈ps,p.2.entries≠[])(p:HS)(J:Chs W p.1 p.2.entries)(R:p.2.entries≠[])(U:∀ ad n c,p.1=.slice (some ad) n c->ad.block≠hb/\v.ownBlock≠some ad.block)(hl:ps.length+1<1048576)(Z:base<=W.heap.size):Calls prog 281 #[P1 hb,.iface 314 (.agg #[p.1,j9 p.2.age])] W λe w'=>e=.returned (.tuple #[])/\∃ v',jkx W base hb v ps p w' v':=by
 obtain⟨D,C,N,M,L⟩:=info_parts Tryz.jmb;obtain⟨pv,cv,rfl⟩:=jl H.row;have d:=H.cell;have d:=zL 0 H.box;have o:=jb H;clear H;obtain⟨d,d⟩:=p;obtain⟨f,A⟩:=d;simp only at J R U ⊢;obtain⟨z,pc,rfl,_⟩:=id J;have B:=jb<|o.out.row.alloc<|.cells #[.slice z f.length pc,j9 A] 314;have s:∀ j u,(zg [((.slice z f.length pc,⟨f,A⟩):HS)])[j]?=some u->(W.alloc<|.cells #[.slice z f.length pc,j9 A] 314).cell? (((A2 W.heap.size):Addr).add j)=some u:=Qg (jf W _) rfl;have r:=Te [((.slice z f.length pc,⟨f,A⟩):HS)] (λp J=>by simp_all);have V:Hid (ps.length+1<=maxLen):=by unfold Hid maxLen;omega
 have S:Hid ((ps.length+1)*32<=140737488355328):=by unfold Hid;omega
 have T:Hid (base<=(W.alloc<|.cells #[.slice z f.length pc,j9 A] 314).heap.size):=by unfold Hid;simp;omega
 have q:=jb s;have d:=jb r;clear s r;have y:∀ m:World,(W.alloc<|.cells #[.slice z f.length pc,j9 A] 314).drew.grownBy m (Value.slice pv ps.length cv).ownBlock->m.heap[hb]?=some (.cells #[.slice pv ps.length cv] 311 (0,0)):=λm r=>(ja.grown r).same ((ja.alloc W _ λ_=>False).draw.same o.out.box id) λe=>o.out.ne e.symm
 have Y:=jb y;clear y;have aa:=jhv;have s:∀ x,(W.alloc x).cell? (A2 hb)=some (.slice pv ps.length cv):=λx=>(Jq o.out.box x).trans rfl
 go_enter func281,ntmps281;go_wp2_with fail;go_region_law ( refine qx rfl (.tmp 7) (.tmp 10) 311 rfl base 314 D joe 2 32 underlying311 C N M L rfl (zX 1) (.slice pv ps.length cv) ps.length (zg ps) rfl B (A2 W.heap.size) 1 1 (zg [((.slice z f.length pc,⟨f,A⟩):HS)]) rfl rfl q d V S T ?_;intro p2 b m C F D;have G:=Y.out m F;have d:=zK 0 G;have f:=zL 0 G;simp at d;have X:=jb G;clear G);all_goals go_wp2;go_end0;(have f:ja W m (λi=>(Value.slice pv ps.length cv).ownBlock=some i):=(((ja.alloc W _ λ_=>False).draw).up).trans (ja.grown F) λi _ e=>e.symm);have I:=ja.setCell m (A2 hb)<|.slice p2 (ps.length+1) b;(have d:(Value.slice p2 (ps.length+1) b).ownBlock=(Value.slice pv ps.length cv).ownBlock\/∃ g,(Value.slice p2 (ps.length+1) b).ownBlock=some g/\W.heap.size<=g:=by obtain h|h:=D;exact .inl h;simp_all);have ab:=zO o.out.box;(have t:(Value.slice p2 (ps.length+1) b).ownBlock≠some hb:=by obtain h|⟨g,h,s⟩:=d;rw[h];exact o.out.ne;grind);(have E:∀ q:HS,Chs W q.1 q.2.entries->q.2.entries≠[]->(∀ ad n c,q.1=.slice (some ad) n c->ad.block≠hb/\(Value.slice pv ps.length cv).ownBlock≠some ad.block)->Chs (m.setCell (A2 hb)<|.slice p2 (ps.length+1) b) q.1 q.2.entries/\∀ ad n c,q.1=.slice (some ad) n c->ad.block≠hb/\(Value.slice p2 (ps.length+1) b).ownBlock≠some ad.block:=by intro q k O l;refine⟨(k.keep f λ_ ad n c e=>(l ad n c e).2).keep I λ_ ad n c e=>(l ad n c e).1,λad n c e=>⟨(l ad n c e).1,?_⟩⟩;obtain h|⟨g,h,s⟩:=d;rw[h];exact(l ad n c e).2;rw[h];intro m;cases m;rw[e] at k;have:=k.lt O;omega);refine⟨rfl,_,⟨(jc X _).trans rfl,?_,t,?_⟩,d,(f.mono λ_ _ h=>.inr h).trans I λ_ _ h=>.inl h⟩;rw[ZA,ZJ,Bf];exact I.row C (λg r e=>t<|by rw[r,e]);intro q k;obtain k|k:=ZM.1 k;exact E q (o.out.has q k).1 (hs q k) (o.out.has q k).2;grind
def Og(W:World)(base hb:Nat)(v:Value)(ps:List HS)(w':World):Prop :=
 ∃ v' qs,qs.Perm ps/\xz w' base hb v' qs/\Rf.Qw (yi qs) qs.length/\(v'.ownBlock=v.ownBlock\/∃ g,v'.ownBlock=some g/\W.heap.size<=g)/\ja W w' (λi=>i=hb\/v.ownBlock=some i)
theorem ll(ps:List HS):(yi ps).length=ps.length:=by simp[yi]
theorem xz.slice{base:Nat}{ps:List HS}(h:xz W base hb v ps):∃ a c,v=.slice a ps.length c:=jl h.row
theorem job{base:Nat}{ps:List HS}(b:x=j)(H:xz W base hb v ps)(c:∀ p∈ps,p.2.entries≠[])(U:Rf.pn (yi ps) j)(f:j<ps.length)(d:ps.length<1048576)(g:∀ p∈ps,p.2.age<4611686018427387904):Calls prog 238 #[M9 hb,aA x] W λe w'=>e=.returned (.tuple #[])/\∃ qs,qs.Perm ps/\xz w' base hb v qs/\Rf.Qw (yi qs) qs.length/\ja W w' (λi=>v.ownBlock=some i):=by subst b;exact jm9 H c U f d g
theorem jkc{base:Nat}{ps:List HS}(b:x=n)(H:xz W base hb v ps)(c:∀ k p,k<n->ps[k]?=some p->p.2.entries≠[])(U:Rf.Xd (yi ps) 0 n)(d:n<=ps.length)(f:ps.length<1048576)(g:∀ p∈ps,p.2.age<4611686018427387904):Calls prog 239 #[M9 hb,aA 0,aA x] W (jb4 W base hb v ps n):=by subst b;exact jkd H c U d f g
theorem Ut{base:Nat}{ps:List HS}(H:xz W base hb v ps)(r:∀ p∈ps,p.2.entries≠[])(O:Rf.Qw (yi ps) ps.length)(p:HS)(s:Chs W p.1 p.2.entries)(m:p.2.entries≠[])(o:∀ ad n c,p.1=.slice (some ad) n c->ad.block≠hb/\v.ownBlock≠some ad.block)(A:ps.length+1<1048576)(d:base<=W.heap.size)(t:∀ q∈ps++[p],q.2.age<4611686018427387904):Calls prog 222 #[M9 hb,.iface 314 (.agg #[p.1,j9 p.2.age])] W λe w'=>e=.returned (.tuple #[])/\Og W base hb v (ps++[p]) w':=by
 have L:=jdi;change Hid _ at s H;go_enter func222,ntmps222;go_wp2_with fail;refine(ji0 H r p s m o A d).mono ?_;rintro e u ⟨rfl,v1,f,b,z⟩;obtain⟨C,B,rfl⟩:=f.slice;have M:=Fx f.cell;go_wp2_with fail;refine(Dz C (ps.length+1) B u zC).mono ?_;rintro e J ⟨rfl,rfl⟩;have E:Hid (Rf.pn (yi (ps++[p])) ps.length):=by grind [Hid,Rf.pn.start,yi]
 have F:Hid ((ps++[p]).length<1048576):=by unfold Hid;simp;omega
 change Hid _ at t f;go_wp2_with fail;refine(job (j:=ps.length) zC f (λq k=>(ZM.1 k).elim (r q) λh=>zG) E zD F t).mono ?_;rintro e I ⟨rfl,x,k,G,D,y⟩;go_wp2;go_end0;refine⟨rfl,_,x,k,G,D,b,z.trans y λi hi h=>?_⟩;obtain l|⟨g,l,N⟩:=b;exact .inr (l▸h);rw[l] at h;cases h;omega
def jmv(W:World)(base hb:Nat)(v:Value)(rs:List HS)(e:Ending)(w':World):Prop :=
 (∃ u,e=.returned u)/\∃ v',xz w' base hb v' rs/\v'.ownBlock=v.ownBlock/\ja W w' (λi=>i=hb)
theorem jlp{base:Nat}{rs:List HS}{x:HS}(H:xz W base hb v (rs++[x]))(S:rs.length<1048576):Calls prog 280 #[P1 hb] W (jmv W base hb v rs):=by
 obtain⟨g,cap,rfl,j,J,a2⟩:=H.src (k:=rs.length) (p:=x) zD;have b:(rs++[x]).length=rs.length+1:=zD;rw[b] at j;obtain⟨u,y,G,_⟩:=(H.has x zD).1;rw[G] at J;have I:=H.cell;rw[b] at I;have V:=zL 0 H.box;change Hid _ at H;generalize x.2.entries.length=xn at *;generalize x.2.age=xa at *;have d:∀ o,(W.alloc o).heap[hb]?=some (.cells #[.slice (some (A2 g)) (rs.length+1) cap] 311 (0,0)):=λo=>by have:=(ja.alloc W o λ_=>False).same H.out.box id;rwa [b] at this
 have N:∀ o,(W.alloc o).cell? (A2 hb)=some (.slice (some (A2 g)) (rs.length+1) cap):=λo=>(zM<|d o).trans rfl
 have M:∀ o,(W.alloc o).frozen? (A2 hb)=false:=λo=>zN<|d o
 change Hid _ at d;have L:=zO H.out.box;have R:¬W.heap.size=hb:=zC;have O:¬hb=W.heap.size:=zC;go_enter func280,ntmps280;go_wp2;go_ret;have l:ja W ((W.setCell (A2 hb)<|.slice (some (A2 g)) rs.length cap).alloc<|.cells #[.slice u xn y,j9 xa] 314) (λi=>i=hb):=((ja.refl W λi=>i=hb).set (p:=(A2 hb)) rfl _).more _;have r:=H.out.box;refine⟨⟨_,rfl⟩,.slice (some (A2 g)) rs.length cap,⟨(ja.alloc _ _ λ_=>False).same ((jc r _).trans rfl) id,?_,H.out.ne,λq d=>?_⟩,rfl,l⟩;have z:=l.row H.out.row (λF c e=>H.out.ne<|by rw[c,e]);obtain⟨m,_⟩|⟨F,t,s,m,E,D,U,C,B,A⟩:=z.2;cases m;cases m;refine⟨ui rs,.inr ⟨g,cap,s,rfl,E,D,zC,C,B,?_⟩⟩;have T:=congrArg (List.take (rs.length*2)) A;grind [Bf,ui];have f:=H.out.has q<|XQ _ d;exact⟨f.1.keep l λ_ d n c e=>(f.2 d n c e).1,f.2⟩
theorem ja3{base:Nat}{s0:HS}{rs:List HS}(H:xz W base hb v (s0::rs))(hs:∀ p∈rs,p.2.entries≠[])(hd:Rf.Xd (yi (s0::rs)) 0 (s0::rs).length)(Y:(s0::rs).length<1048576)(ha:∀ q∈s0::rs,q.2.age<4611686018427387904):Calls prog 224 #[M9 hb] W λe w'=>(∃ u,e=.returned u)/\Og W base hb v rs w':=by
 obtain⟨a1,c1,rfl⟩:=H.slice;have mN:=Fx H.cell;have mS:=iq H.cell;obtain⟨x,X⟩:∃ x,(s0::rs)[rs.length]?=some x:=⟨_,zS zD⟩;have C:=jb X;have HH:=jb H;have HA:=jb ha;have HL:=jb Y;simp only[xC] at Y;clear X H ha;go_enter func224,ntmps224;go_wp2_with fail;refine(Dz a1 (rs.length+1) c1 W zC).mono ?_;rintro e w1 ⟨rfl,rfl⟩;go_wp2_with fail;refine(Lc HH (i:=0) (j:=rs.length) rfl rfl (p:=s0) (q:=x) rfl C HL).mono ?_;rintro e w2 ⟨rfl,H2,k2⟩;have g:(((s0::rs).set 0 x).set rs.length s0).length=rs.length+1:=zD;have f:(((s0::rs).set 0 x).set rs.length s0).Perm (s0::rs):=ay rfl C;have l:(((s0::rs).set 0 x).set rs.length s0)[rs.length]?=some s0:=zG;have m:Rf.Xd (yi<|((s0::rs).set 0 x).set rs.length s0) 0 rs.length:=by refine⟨λk a b z Z hne s r=>?_,λk a b z Z hi _ _ _=>zC⟩;rw[ob,XW zC,XW zC] at s r;exact hd.other k a b z (by simp;omega) hne s r
 have d:∀ k p,k<rs.length->(((s0::rs).set 0 x).set rs.length s0)[k]?=some p->p.2.entries≠[]:=by intro k p Z B;rw[XW zC] at B;have ak:=C.out;grind
 generalize hL:((s0::rs).set 0 x).set rs.length s0=L at *;have HD:=jb m;have J:=jb d;have y:=jb f;have R:=jb l;have S:=jb g;have V:=jb H2;have T:Hid (∀ p∈L,p.2.age<4611686018427387904):=λp B=>HA.out p<|y.out.mem_iff.1 B
 have N:Hid (L.length<1048576):=zG;have O:Hid (rs.length<=L.length):=zG;clear hL m d f l g H2;go_wp2_with fail;refine(jkc rfl V J HD O N T).mono ?_;rintro e w3 ⟨mv,c,rfl,A,D,T3,t,k3⟩;have F:c.length=rs.length+1:=by rw[A.length_eq,S.out]
 have n:c=c.take rs.length++[s0]:=by have h5:c[rs.length]?=some s0:=(t _<|ZG _).trans R;(have h6:c.take (rs.length+1)=c.take rs.length++[s0]:=by rw[zR,h5];rfl);grind
 have o:(c.take rs.length).Perm rs:=by have h7:c.Perm (s0::rs):=A.trans y;rw[n] at h7;exact((List.perm_append_singleton s0<|c.take rs.length).symm.trans h7).cons_inv
 have hT:Rf.Qw (yi<|c.take rs.length) (c.take rs.length).length:=by rw[o.length_eq];intro j a b z hj s r;(have e5:∀ i,i<rs.length->(yi<|c.take rs.length)[i]?=(yi c)[i]?:=λi hi=>by grind [yi]);rw[e5 _ zC] at s;rw[e5 _ hj] at r;exact T3 j a b z hj s r
 rw[n] at D;have M:=jb o;have G:=jb hT;have U:=jb D;have I:Hid ((c.take rs.length).length<1048576):=zF;clear F n o hT D T3 t A;have mP:=jgv;go_wp2_with fail;refine(jlp U I).mono ?_;rintro e w4 ⟨⟨u,rfl⟩,v4,H4,E,k4⟩;go_wp2;go_ret;refine⟨⟨_,rfl⟩,v4,_,M,H4,G,.inl E,?_⟩;exact((k2.mono λ_ _ h=>.inr h).trans k3 λ_ _ h=>.inr h).trans k4 λ_ _ h=>.inl h
theorem ja4{base:Nat}{ps:List HS}(H:xz W base hb v ps)(u:∀ p∈ps,p.2.entries≠[])(C:Rf.Xd (yi ps) 0 ps.length)(x:0<ps.length)(B:ps.length<1048576)(i:∀ q∈ps,q.2.age<4611686018427387904):Calls prog 223 #[M9 hb,aA 0] W λe w'=>e=.returned (.tuple #[])/\Og W base hb v ps w':=by obtain⟨E,D,rfl⟩:=H.slice;have N:=Fx H.cell;change Hid _ at H i;go_enter func223,ntmps223;go_wp2_with fail;refine(Dz E ps.length D W zC).mono ?_;rintro e M ⟨rfl,rfl⟩;go_wp2_with fail;refine(jkc rfl H (λk p _ h=>u p<|ZX h) C (ZG _) B i).mono ?_;rintro e L ⟨y,d,rfl,c,l,g,m,t⟩;have n:=c.length_eq;rw[<-n] at g;change Hid _ at c l g;clear m;cases y with|true=>go_wp2;go_end0;exact⟨rfl,_,d,c,l,g,.inl rfl,t.mono λ_ _ h=>.inr h⟩|false=>(have f:Rf.pn (yi d) 0:=by refine⟨λk a b m o o r=>g.out k a b m ?_ o r,λk a b m m=>zC⟩;grind [ll]);have G:=jb f;(have s:Hid (∀ p∈d,p.2.age<4611686018427387904):=λp m=>i.out p<|c.out.mem_iff.1 m);(have r:Hid (d.length<1048576):=by unfold Hid;omega);(have o:Hid (0<d.length):=by unfold Hid;omega);clear f;go_wp2_with fail;refine(job (j:=0) rfl l (λp h=>u p<|c.out.mem_iff.1 h) G o r s).mono ?_;rintro e J ⟨rfl,rs,A,I,F,z⟩;go_wp2;go_end0;exact⟨rfl,_,rs,A.trans c,I,F,.inl rfl,(t.mono λ_ _ h=>.inr h).trans z λ_ _ h=>.inr h⟩
theorem oc(p:HS)(rs:List HS):yi (p::rs)=p.2::yi rs:=rfl
theorem xz.turn{base:Nat}{s0:HS}{rs:List HS}(h:xz W base hb (.slice (Option.some (A2 g)) (s0::rs).length cap) (s0::rs))(u:Value)(q:L1)(x y:Obj)(m:Chs W u q)(b:∀ ad n c,u=.slice (Option.some ad) n c->ad.block≠hb/\g≠ad.block):xz (((W.setCell (A2 g) u).alloc x).alloc y) base hb (.slice (Option.some (A2 g)) (s0::rs).length cap) ((u,⟨q,s0.2.age⟩)::rs)/\ja W (((W.setCell (A2 g) u).alloc x).alloc y) (λi=>i=g):=by
 have k:ja W (((W.setCell (A2 g) u).alloc x).alloc y) (λi=>i=g):=(((ja.refl W (λi=>i=g)).set (p:=(A2 g)) rfl _).more _).more _;refine⟨⟨k.same h.box λe=>h.ne<|by rw[e];rfl,?_,h.ne,?_⟩,k⟩;have l:=Yr h.row (j:=0) zD u;have e:(zg (s0::rs)).set 0 u=zg ((u,⟨q,s0.2.age⟩)::rs):=by simp[zg]
 rw[e] at l;exact((ja.alloc _ x λ_=>False).more y).row l λ_ _=>id
 intro p d;obtain rfl|d:=xN.1 d;refine⟨m.keep k λ_ ad n c e o=>(b ad n c e).2 o.symm,λad n c e=>⟨(b ad n c e).1,λo=>(b ad n c e).2<|by injection o⟩⟩;have f:=h.has p<|xP _ d;exact⟨f.1.keep k λ_ ad n c e o=>(f.2 ad n c e).2<|by rw[<-o];rfl,f.2⟩
def jk1(W:World)(base hb:Nat)(v:Value)(s0:HS)(rs:List HS)(c:Rf.Ch)(e:Ending)(w':World):Prop :=
 e=.returned (chV c)/\∃ v' qs,(yi qs).Perm (Rf.taken s0.2 (yi rs))/\xz w' base hb v' qs/\Rf.Qw (yi qs) qs.length/\(v'.ownBlock=v.ownBlock\/∃ g,v'.ownBlock=some g/\W.heap.size<=g)/\ja W w' (λi=>i=hb\/v.ownBlock=some i) /\
  ∀ p∈qs,∀ ad n c,p.1=.slice (some ad) n c->∃ p'∈s0::rs,∃ ad' n' c',p'.1=.slice (some ad') n' c'/\ad'.block=ad.block
theorem Vs{base:Nat}{s0:HS}{rs:List HS}{c:Rf.Ch}{q:L1}(H:xz W base hb v (s0::rs))(hs:∀ p∈s0::rs,p.2.entries≠[])(HT:Rf.Qw (yi (s0::rs)) (s0::rs).length)(he:s0.2.entries=c::q)(hl:(s0::rs).length<1048576)(hq:q.length<1048576)(ha:∀ p∈s0::rs,p.2.age<4611686018427387904):Calls prog 207 #[P1 hb] W (jk1 W base hb v s0 rs c):=by
 obtain⟨g,cap,rfl,a9,U,a2⟩:=H.src (k:=0) (p:=s0) rfl;have s:=(H.has s0 xO).1;rw[he] at s;obtain⟨d,u,es,A,d,z,al⟩:=id s;rw[es] at s;obtain⟨b,o,rfl,d,f,m⟩:=s.at (k:=0) zD;simp only[List.getElem_cons_zero,Nat.zero_mul,Nat.add_zero] at d f m U a2;have r:=H.cell;rw[es] at U;simp only[xC] at U r a9 A hl;obtain⟨D,cv,E⟩:=c;simp only at d f m;have A:=H.frozen 0;have a5:g≠b:=λe=>((H.has s0 xO).2 _ _ _ es).2 (by rw[e];rfl)
 have a8:g≠hb:=λe=>H.ne (by rw[e];rfl)
 change Hid _ at H he es;have ao:=jb s;clear s z al;have s:¬b=g:=λe=>a5 e.symm
 have s:¬hb=g:=λe=>a8 e.symm
 have s:=zO H.out.box;have s:=XJ W _ d;have z:=XJ W _ U;simp only at s z;have Y:∀ x,ja W (W.alloc x) N_:=λx=>ja.alloc W x _
 have s:∀ x y,ja W ((W.alloc x).alloc y) N_:=λx y=>(ja.alloc W x _).more y
 have z:∀ x,(W.alloc x).cell? (A2 hb)=some (.slice (some (A2 g)) (rs.length+1) cap):=λx=>(Y x).cell r id
 have bc:∀ x,(W.alloc x).cell? (A2 g)=some (.slice (some (B1 b o)) (q.length+1) u):=λx=>(Y x).cell U id
 have b9:∀ x,(W.alloc x).cell? (B1 b o)=some (je D):=λx=>(Y x).cell d id
 have b8:∀ x,(W.alloc x).cell? ⟨b,o+1,none⟩=some (je cv):=λx=>(Y x).cell f id
 have d:∀ x,(W.alloc x).cell? ⟨b,o+2,none⟩=some (.bool E):=λx=>(Y x).cell m id
 have d:∀ x y,((W.alloc x).alloc y).cell? (A2 g)=some (.slice (some (B1 b o)) (q.length+1) u):=λx y=>(s x y).cell U id
 have d:∀ x y,((W.alloc x).alloc y).frozen? (A2 g)=false:=λx y=>(H.out.same<|s x y).frozen 0
 have d:¬W.heap.size=g:=zC;have d:¬W.heap.size+1=g:=zC;have d:¬g=W.heap.size:=zC;have d:¬g=W.heap.size+1:=zC;have I:∀(u:Value),(∃ d n c,u=.slice (some (B1 b d)) n c)->∀ f n c,u=.slice (some f) n c->f.block≠hb/\g≠f.block:=by rintro u ⟨d,d,d,rfl⟩ f n c e;cases e;exact⟨((H.out.has s0 xO).2 _ _ _ es).1,a5⟩
 have O:∀ u:Rf.Source,Rf.Xd (u::yi rs) 0 (rs.length+1):=by intro u;have:=Rf.Xd.start (x:=u) HT;simpa [oc] using this
 have S:∀(u:Value) (L:List HS) (r:World),ja (((W.setCell (A2 g) u).alloc<|.cells #[je [],je [],.bool false] 47).alloc<|.cells #[je D,je cv,.bool E] 47) r (λi=>i=hb\/(Value.slice (some (A2 g)) (rs.length+1) cap).ownBlock=some i)->r.heap[W.heap.size]?=some (.cells #[je [],je [],.bool false] 47 (0,0))/\r.heap[W.heap.size+1]?=some (.cells #[je D,je cv,.bool E] 47 (0,0)):=by intro u L r C;(have a4:(W.setCell (A2 g) u).heap.size=W.heap.size:=by simp[World.setCell]);have d:=jf (W.setCell (A2 g) u)<|.cells #[je [],je [],.bool false] 47;have t2:=jf ((W.setCell (A2 g) u).alloc<|.cells #[je [],je [],.bool false] 47)<|.cells #[je D,je cv,.bool E] 47;rw[a4] at d;rw[xS,a4] at t2;refine⟨C.same ((ja.alloc _ _ λ_=>False).same d id) ?_,C.same t2 ?_⟩;rintro(h|h);omega;(have h':g=W.heap.size:=by injection h);omega;rintro(h|h);omega;(have h':g=W.heap.size+1:=by injection h);omega
 have M:∀ u x y,ja W (((W.setCell (A2 g) u).alloc x).alloc y) (λi=>i=g):=λu x y=>(((ja.refl W λi=>i=g).set (p:=(A2 g)) rfl _).more _).more _
 have R:∀ p∈rs,∀ f n c,p.1=.slice (some f) n c->f.block<W.heap.size:=λp m f n c e=>by have d:=(H.out.has p<|xP _ m).1;rw[e] at d;exact d.lt<|hs p<|xP _ m
 change Hid _ at M R S I O;cases q with|nil=>simp only[xD,xX] at *;(have t:Hid (∀ p∈rs,p.2.entries≠[]):=λp m=>hs p<|xP _ m);(have J:Hid (Rf.taken s0.2 (yi rs)=yi rs):=by grind [Hid,Rf.taken]);go_enter func207,ntmps207;go_wp2_with fail;all_goals refine(ja3 (s0:=(_,⟨[],s0.2.age⟩)) (H.out.turn _ [] _ _ ⟨_,_,rfl,zT _,zC,λh=>(by cases h),λf h=>⟨(by cases h;rfl),λj u d=>(by simp[jh] at d)⟩⟩<|I.out _ ⟨_,_,_,rfl⟩).1 t (O.out _) (by simpa using hl) λp m=>?_).mono ?_;grind;· rintro e r ⟨⟨d,rfl⟩,v3,Y,d,U,L,F,C⟩;obtain⟨l,A⟩:=S.out _ rs r C;have y0:=zK 0 A;have Z:=zK 1 A;have y2:=zK 2 A;have z0:=zK 0 l;have V:=zK 1 l;have z2:=zK 2 l;have g0:=zL 0 l;have g1:=zL 1 l;have G:=zL 2 l;simp at y0 Z y2 z0 V z2;change Hid _ at l d L F;have T:=jb U;clear A U;go_wp2;have X:ja r (((r.setCell (A2 W.heap.size)<|je D).setCell (B1 W.heap.size 1)<|je cv).setCell (B1 W.heap.size 2)<|.bool E) (λi=>i=W.heap.size):=(((ja.refl r λi=>i=W.heap.size).set (p:=(A2 W.heap.size)) rfl _).set (p:=(B1 W.heap.size 1)) rfl _).set (p:=(B1 W.heap.size 2)) rfl _;(have z:∀ s,v3.ownBlock=some s->¬s=W.heap.size:=λs o e=>by obtain h|⟨G,h,B⟩:=F.out;rw[h] at o;(have h':g=s:=by injection o);omega;rw[h] at o;cases o;simp at B;omega);refine bodyPost_ret (v:=chV ⟨D,cv,E⟩) (by simp[results,Tryz.results207,go_sem,z0,V,z2]) rfl ⟨rfl,v3,Y,?_,T.out.keep X zC z ?_,L,?_,(((M.out _ _ _).mono λi _ e=>.inr<|by rw[e];rfl).trans C λi _ h=>h).trans X (λi hi e=>zC),?_⟩;rw[J.out];exact d.out.map _;intro p m f n c e B;have h6:=R.out p (d.out.mem_iff.1 m) f n c e;omega;obtain h|⟨G,h,B⟩:=F.out;exact .inl h;exact .inr ⟨G,h,by simp at B;omega⟩;intro p m f n c e;exact⟨p,xP _<|d.out.mem_iff.1 m,f,n,c,e,rfl⟩|cons c2 q2=>have N:=ao.out.drop (k:=1) (by simp);simp only[xC,List.drop_succ_cons,List.drop_zero,Nat.one_mul,Nat.add_sub_cancel] at N;have an:=jb N;(have b4:q2.length+1<1048576:=by simpa using hq);simp only[xC] at *;(have t:Hid (∀ u:Value,∀ p∈(((u,⟨c2::q2,s0.2.age⟩):HS)::rs),p.2.entries≠[]):=by intro u p m;grind);(have J:Hid (Rf.taken s0.2 (yi rs)=⟨c2::q2,s0.2.age⟩::yi rs):=by grind [Hid,Rf.taken]);clear N;go_enter func207,ntmps207;go_wp2_with fail;all_goals refine(ja4 (H.out.turn _ (c2::q2) _ _ an<|I.out _ ⟨_,_,_,rfl⟩).1 (t.out _) (O.out _) zD (by simpa using hl) λp m=>?_).mono ?_;grind;· rintro e r ⟨rfl,v3,Y,d,U,L,F,C⟩;obtain⟨l,A⟩:=S.out _ rs r C;have y0:=zK 0 A;have Z:=zK 1 A;have y2:=zK 2 A;have z0:=zK 0 l;have V:=zK 1 l;have z2:=zK 2 l;have g0:=zL 0 l;have g1:=zL 1 l;have G:=zL 2 l;simp at y0 Z y2 z0 V z2;change Hid _ at l d L F;have T:=jb U;clear A U;go_wp2;have X:ja r (((r.setCell (A2 W.heap.size)<|je D).setCell (B1 W.heap.size 1)<|je cv).setCell (B1 W.heap.size 2)<|.bool E) (λi=>i=W.heap.size):=(((ja.refl r λi=>i=W.heap.size).set (p:=(A2 W.heap.size)) rfl _).set (p:=(B1 W.heap.size 1)) rfl _).set (p:=(B1 W.heap.size 2)) rfl _;(have z:∀ s,v3.ownBlock=some s->¬s=W.heap.size:=λs o e=>by obtain h|⟨G,h,B⟩:=F.out;rw[h] at o;(have h':g=s:=by injection o);omega;rw[h] at o;cases o;simp at B;omega);refine bodyPost_ret (v:=chV ⟨D,cv,E⟩) (by simp[results,Tryz.results207,go_sem,z0,V,z2]) rfl ⟨rfl,v3,Y,?_,T.out.keep X zC z ?_,L,?_,(((M.out _ _ _).mono λi _ e=>.inr<|by rw[e];rfl).trans C λi _ h=>h).trans X (λi hi e=>zC),?_⟩;rw[J.out];exact d.out.map _;intro p m f n c e B;obtain Z|Z:=xN.1 (d.out.mem_iff.1 m);grind;have h6:=R.out p Z f n c e;omega;obtain h|⟨G,h,B⟩:=F.out;exact .inl h;exact .inr ⟨G,h,by simp at B;omega⟩;intro p m f n c e;obtain Z|Z:=xN.1 (d.out.mem_iff.1 m);rw[Z] at e;cases e;exact⟨s0,xO,_,_,_,es,rfl⟩;grind
def pj(w:World)(v:Value)(l:List Value):Prop :=
 ∃ p c,v=.slice p l.length c/\l.length<=c/\c<=maxLen/\(p=none->c=0)/\∀ ad,p=some ad->ad.spot=none/\∀ j u,l[j]?=some u->w.cell? (ad.add j)=some u
theorem pj.keep(h:pj w v l)(d:ja w w' T)(f:l≠[]->∀ p n c,v=.slice (some p) n c->¬T p.block):pj w' v l:=by obtain⟨p,c,rfl,k,i,g,b⟩:=h;exact⟨p,c,rfl,k,i,g,λo e=>⟨(b o e).1,λj u m=>d.cell ((b o e).2 j u m)<|by rw[Js];exact f (λe=>by rw[e] at m;cases m) o _ _<|by rw[e]⟩⟩
theorem pj.same(h:pj w v l)(b:ja w w' N_):pj w' v l:=h.keep b λ_ _ _ _ _ h=>h
theorem pj.at{p:Option Addr}{c:Nat}(h:pj w (.slice p l.length c) l){u:Value}(d:l[k]?=some u):∃ b o,p=some (B1 b o)/\w.cell? ⟨b,o+k,none⟩=some u:=by obtain⟨g,q,e,n,m,f,j⟩:=h;cases e;have i:=(ZY.1 d).1;cases p with|none=>have:=f rfl;omega|some ad=>obtain⟨b,o,s⟩:=ad;grind [Xi]
theorem lf{base:Nat}(h:w.ownsRow base e 1 v n l)(b:l.length=n):pj w v l:=by subst b;obtain⟨e,f⟩|⟨g,cap,k,e,_,i,d,c,_⟩:=h.2;have:l=[]:=xY f;subst this;rw[e];exact⟨none,0,rfl,ZG _,zT _,λ_=>rfl,λ_ h=>by cases h⟩;refine⟨some (A2 g),cap,e,d,c,(λh=>by cases h),λc c=>?_⟩;cases c;exact⟨rfl,λj u c=>h.cells (by rw[e];rfl) j _ c⟩
abbrev J9:=jd->jd×List Rf.Ch×Option Bool
def iy(hi:Str)(r:jd×L1×Option Bool):Option L1:=if r.2.2=none\/(aa hi r.2.1).length<r.2.1.length then some (aa hi r.2.1)else none
def qj(hi:Str):List J9->jd->jd×(List (List Rf.Ch) ⊕ Bool)
 | [],S=>(S,.inl [])
 | st::r,S =>
  match iy hi (st S)with
  | none=>((st S).1,.inr ((st S).2.2.getD false))
  | some l =>
   match qj hi r (st S).1 with
   | (S2,.inl ls)=>(S2,.inl (l::ls))
   | (S2,.inr b)=>(S2,.inr b)
theorem Bu{b:List J9}{c:J9}{S d:jd}(h:qj hi b S=(d,.inl ls)):qj hi (b++[c]) S=(match iy hi (c d)with|none=>((c d).1,.inr ((c d).2.2.getD false))|some l=>((c d).1,.inl (ls++[l]))):=by induction b generalizing S ls with|nil=>grind [qj]|cons x r ih=>grind [qj]
theorem Uu{c more:List J9}{S d:jd}{b:Bool}(h:qj hi c S=(d,.inr b)):qj hi (c++more) S=(d,.inr b):=by induction c generalizing S with|nil=>cases h|cons x r ih=>grind [qj]
theorem od(n:Nat)(ls:List L1)(l:L1):Rf.xd n (ls++[l])=Rf.xd n ls++(if l=[] then [] else [⟨l,n+ls.length⟩]):=by induction ls generalizing n with|nil=>grind [Rf.xd]|cons x r ih=>grind [Rf.xd]
theorem ie(n:Nat)(ls:List L1):(Rf.xd n ls).length<=ls.length:=by induction ls generalizing n with|nil=>exact ZG _|cons l r ih=>grind [Rf.xd]
theorem vi:∀ s∈Rf.xd n ls,s.age<n+ls.length:=by induction ls generalizing n with|nil=>intro s b;cases b|cons l r ih=>grind [Rf.xd]
theorem uw{b:List J9}{S c:jd}(h:qj hi b S=(c,.inl ls)):ls.length=b.length:=by induction b generalizing S ls with|nil=>cases h;rfl|cons x r ih=>grind [qj]
def nu(P:jd->Prop)(E:Nat->Addr)(B:Nat)(ρ:Nat->j4)(d:Nat)(w:World)(f:Value)(st:J9):Prop :=
 ∀(hi:Str) (W:World) (S:jd),ja w W (qm ρ)->Dk E B W ρ d S->P S->P (st S).1/\(st S).2.1.length<1048576/\Calls prog 74 #[f,je hi] W (Cw E B ρ d (st S).1 (st S).2.1 (st S).2.2 hi W)
def jk0(P:jd->Prop)(E:Nat->Addr)(B:Nat)(ρ:Nat->j4)(d:Nat)(w:World)(G:jd×(List L1 ⊕ Bool))(e:Ending)(w':World):Prop :=
 ja w w' (qm ρ)/\Dk E B w' ρ d G.1/\P G.1 /\
 ((∃ ls hb v qs,G.2=.inl ls/\e=.returned (.tuple #[P1 hb,.nilIface])/\w.heap.size<=hb/\xz w' w.heap.size hb v qs/\Rf.Qw (yi qs) qs.length/\(yi qs).Perm (Rf.xd 0 ls)/\∀ p∈qs,∀ ad n c,p.1=.slice (some ad) n c->w.heap.size<=ad.block) \/
  (∃ bad ev,G.2=.inr bad/\e=.returned (.tuple #[.pointer none,ev])/\pw E w' ev bad))
theorem Mz{P:jd->Prop}{E:Nat->Addr}{B:Nat}{ρ:Nat->j4}{d:Nat}{S:jd}(D:Dk E B w ρ d S)(Z:P S)(lv:Value)(fs:List Value)(l:List J9)(hi:Str)(a2:pj w lv fs)(ah:fs≠[]->∀ p n c,lv=.slice (some p) n c->¬qm ρ p.block)(V:fs.length=l.length)(hl:fs.length<524288)(ak:∀ f∈fs,∃ g a b,f=.func g a b)(hC:∀(k:Nat) f st,fs[k]?=some f->l[k]?=some st->nu P E B ρ d w f st):Calls prog 205 #[.agg #[lv,je hi]] w (jk0 P E B ρ d w (qj hi l S)):=by
 obtain⟨lp,lc,rfl,h1,h2,h3,h4⟩:=id a2;have b6:=jb a2;have F:=jb V;have hρ:=D.rep.lt;have bx:=D.size;have nT:∀ i,w.heap.size<=i->¬qm ρ i:=λi hi h=>zA<|hρ i h
 change Hid _ at D hC;clear h3 h4 a2 V;obtain⟨G,hG⟩:=zJ (qj hi l S);rw[<-hG];change Hid _ at hG;go_enter func205,ntmps205;go_wp2_with fail;have kW:ja w (((w.alloc<|.cells #[.slice lp fs.length lc,je hi] 262).alloc<|.cells #[] 314).alloc<|.cells #[.slice (some (A2 (w.heap.size+1))) 0 0] 311) N_:=((ja.alloc w _ _).more _).more _;go_loopw [14] (λiv wr=>∃(k:Nat) (r:jd) (ls:List L1) (v:Value) (z:List HS),k<=fs.length/\iv = aA k/\Hid (qj hi (l.take k) S=(r,.inl ls))/\Dk E B wr ρ d r/\P r/\ja w wr (qm ρ)/\wr.heap[w.heap.size]?=some (.cells #[.slice lp fs.length lc,je hi] 262 (0,0))/\xz wr w.heap.size (w.heap.size+1+1) v z/\Rf.Qw (yi z) z.length/\(yi z).Perm (Rf.xd 0 ls)/\(∀ p∈z,p.2.entries≠[])/\(∀ p∈z,∀ x n c,p.1=.slice (some x) n c->w.heap.size<=x.block)) (λiv _=>fs.length-(intOf iv).toNat);case atStart=>refine⟨0,S,[],.slice (some (A2 (w.heap.size+1))) 0 0,[],zT _,rfl,(by unfold Hid;rfl),D.out.same kW,Z,kW.up,((ja.alloc _ _ λ_=>False).more _).same (jf w _) id,⟨?_,?_,?_,λp A=>(by cases A)⟩,λj a b h0 hj=>(by simp at hj),List.Perm.nil,λp A=>(by cases A),λp A=>(by cases A)⟩;grind [jf,xS];have L:=jf (w.alloc<|.cells #[.slice lp fs.length lc,je hi] 262)<|.cells #[] 314;rw[xS] at L;exact⟨rfl,.inr ⟨w.heap.size+1,0,#[],rfl,zC,(ja.alloc _ _ λ_=>False).same L id,ZG _,zT _,rfl,rfl⟩⟩;intro e;(have:w.heap.size+1=w.heap.size+1+1:=by injection e);omega
 case round=>obtain⟨k,r,ls,v,z,hk,rfl,s,Dq,Zq,C,m,Hq,Tq,Pq,a0,R⟩:=hrel;obtain O|bw:=zV k fs.length;(· obtain⟨f,hf⟩:∃ f,fs[k]?=some f:=⟨_,zS O⟩;obtain⟨st,M⟩:∃ st,l[k]?=some st:=⟨_,zS<|by rw[<-F.out];exact O⟩;have b2:pj wr (.slice lp fs.length lc) fs:=b6.out.keep C ah;obtain⟨b,o,rfl,b7⟩:=b2.at hf;obtain⟨gf,ga,gb,rfl⟩:=ak f<|ZX hf;have c1:=zK 1 m;simp at c1;obtain⟨Z1,bv,H⟩:=hC.out k _ st hf M hi wr r C Dq Zq;have a6:=jb H;change Hid _ at M m;have HQ:=jb Hq;clear H hf Hq;go_wp2_with fail;refine a6.out.mono ?_;rintro e w1 ⟨v2,ev,rfl,k1,D1,⟨rfl,y,u⟩|⟨bad,W,b3,rfl,a3⟩⟩;(· obtain⟨p2,c2,rfl⟩:=jl y;(have H1:xz w1 w.heap.size (w.heap.size+1+1) v z:=HQ.out.keep k1 (nT _ zC) (λg hg=>nT g (HQ.out.row.lt g hg).1) λp A x n c e=>nT _<|R p A x n c e);have J:=k1.same m<|nT _<|ZG _;(have a1:qj hi (l.take (k+1)) S=((st r).1,.inl (ls++[aa hi (st r).2.1])):=by rw[zR,M.out,ZD,Bu s];(have:iy hi (st r)=some (aa hi (st r).2.1):=by unfold iy;rw[if_pos u]);rw[this]);(have ai:ls.length=k:=by rw[uw s,ZQ,<-F.out,ZV hk]);have b4:(aa hi (st r).2.1).length<=(st r).2.1.length:=(List.takeWhile_prefix _).length_le;(have bh:z.length<=k:=by have L:=Pq.length_eq;rw[ll] at L;have h6:=ie 0 ls;omega);(have al:∀ q∈z,q.2.age<k:=by intro q Y;have L:q.2∈Rf.xd 0 ls:=Pq.mem_iff.1<|xR.2 ⟨q,Y,rfl⟩;have h6:=vi q.2 L;omega);generalize aa hi (st r).2.1=t at y a1 b4 u ⊢;have ag:=jb a1;have af:=jb H1;have X:=jb J;have a5:Hid (ja w w1 (qm ρ)):=C.tt k1;clear a1 H1 J s u;by_cases ht:t=[];(· subst ht;go_wp2;go_roundw;(case rel=>refine⟨k+1,_,_,v,z,O,zD,ag,D1,Z1,a5,X,af,Tq,?_,a0,R⟩;grind [od]);grind [intOf]);· (have bi:(0:Int)<(t.length:Int):=zA<|XH.2 ht);have b5:=yf y;(have U:∀ g,v.ownBlock=some g->w.heap.size<=g/\g<wr.heap.size:=λg hg=>HQ.out.row.lt g hg);(have ab:∀ x n c,Value.slice p2 t.length c2=.slice (some x) n c->wr.heap.size<=x.block:=λx n c e=>(y.lt x.block<|by rw[e];rfl).1);have bu:w.heap.size+1+1<wr.heap.size:=zO HQ.out.box;(have am:Hid (¬v.ownBlock=some w.heap.size):=λe=>by obtain⟨h,_⟩|⟨g,cap,bz,h,_,hg,_⟩:=HQ.out.row.2;rw[h] at e;cases e;rw[h] at e;(have e2:g=w.heap.size:=by injection e);rw[e2,m.out] at hg;cases hg);go_wp2_with fail;refine(Ut af a0 Tq ((.slice p2 t.length c2,⟨t,k⟩):HS) b5 ht (λx n c e=>⟨zA<|ab x n c e,λe2=>zB (ab x n c e) (U _ e2).2⟩) zC (zA a5.out.size) λq Y=>?_).mono ?_;obtain Y|Y:=ZM.1 Y;have:=al q Y;omega;rw[xV.1 Y];show k<4611686018427387904;omega;· rintro e w2 ⟨rfl,v',b1,N,H2,T2,l2,k2⟩;(have a4:∀ i,(i=w.heap.size+1+1\/v.ownBlock=some i)->w.heap.size<=i:=by rintro i (h|h);omega;exact(U i h).1);(have D2:=D1.apart k2 λi _ h=>⟨nT i<|a4 i h,zA<|a4 i h⟩);have aj:ja w w2 (qm ρ):=a5.out.trans k2 (λi hi h=>zA<|a4 i h);have I:=k2.same X (λh=>by obtain h|h:=h;omega;exact am.out h);change Hid _ at H2 N T2 I;clear l2;go_wp2;go_roundw;(case rel=>refine⟨k+1,_,_,v',b1,O,zD,ag,D2,Z1,aj,I,H2,T2,?_,?_,?_⟩;rw[od,if_neg ht,ai,xX];have L:=N.out.map Prod.snd;rw[xL] at L;exact L.trans<|Pq.append_right _;intro p A;obtain h|h:=ZM.1 (N.out.mem_iff.1 A);exact a0 p h;simp_all;intro p A x n c e;obtain h|h:=ZM.1 (N.out.mem_iff.1 A);exact R p h x n c e;grind);grind [intOf]);· obtain⟨te,ae,rfl⟩:=a3.shape;(have T:qj hi l S=((st r).1,.inr bad):=by have e5:l=l.take (k+1)++l.drop (k+1):=(ZF _ _).symm;rw[e5];refine Uu ?_;rw[zR,M.out,ZD,Bu s];(have:iy hi (st r)=none:=by unfold iy;rw[if_neg (by rw[W,b3];simp)]);rw[this,W];rfl);change Hid _ at T a3;clear s;go_wp2;go_ret2;rw[hG.out,T.out];exact⟨C.tt k1,D1,Z1,.inr ⟨bad,_,rfl,rfl,a3⟩⟩);· (have ek:k=fs.length:=zC);(have ac:qj hi l S=(r,.inl ls):=by have:=s.out;rwa [ek,F.out,xM] at this);change Hid _ at ac Hq;clear s m;go_wp2;go_ret2;rw[hG.out,ac.out];exact⟨C,Dq,Zq,.inl ⟨ls,_,v,z,rfl,rfl,zC,Hq,Tq,Pq,R⟩⟩
end
section
open RowKit Maps WideShapes Go.Shelf Go.Proofs.Tryz
attribute [local go_sem] Oper.semAt_some
variable {E:Nat->Addr} {B d n:Nat} {s:Rf.Source} {r:List Rf.Source}
open Classical in
theorem jju{α:Type}(R:Nat->α->Prop):∃ m:α->Nat,∀ a,(∃ n,R n a)->R (m a) a/\∀ n,R n a->m a<=n:=by
 have H:∀ a,(∃ n,R n a)->∃ m,R m a/\∀ n,R n a->m<=n:=by rintro a ⟨n,b⟩;induction n using Nat.strongRecOn with|ind n ih=>grind
 refine⟨λa=>if h:∃ n,R n a then Classical.choose (H a h)else 0,λa h=>?_⟩;grind
def Xu(G:jd×(List (List Rf.Ch) ⊕ Bool)):List Rf.Ch:=match G.2 with|.inl ls=>Rf.merged ls|.inr _=>[]
def Pu(G:jd×(List (List Rf.Ch) ⊕ Bool)):Option Bool:=match G.2 with|.inl _=>none|.inr b=>some b
structure Gg(P:jd->Prop)(E:Nat->Addr)(B:Nat)(ρ:Nat->j4)(d:Nat)(S:jd)(lv:Value)(fs:List Value)(sts:List J9)(W:World):Prop where
 dk:Dk E B W ρ d S
 small:P S
 jm8:pj W lv fs
 off:fs≠[]->∀ p n c,lv=.slice (some p) n c->¬qm ρ p.block
 M5:∀(k:Nat) f st,fs[k]?=some f->sts[k]?=some st->nu P E B ρ d W f st
theorem nu.same{P:jd->Prop}{ρ:Nat->j4}{w w':World}{f:Value}{b:J9}(h:nu P E B ρ d w f b)(k:ja w w' N_):nu P E B ρ d w' f b:=λhi W S kk D Z=>h hi W S ((k.up).tt kk) D Z
theorem Gg.same{P:jd->Prop}{ρ:Nat->j4}{S:jd}{lv:Value}{fs:List Value}{b:List J9}{W W':World}(h:Gg P E B ρ d S lv fs b W)(k:ja W W' N_):Gg P E B ρ d S lv fs b W':=⟨h.dk.same k,h.small,h.jm8.same k,h.off,λi f j g c=>(h.M5 i f j g c).same k⟩
theorem o9(b:Array Value)(w:World):(callFunc 180 b).run prog w=.ok (.enter 180 b) w:=by kernel_rfl
def Zc(l:List Rf.Source):Nat:=(l.map (λs=>s.entries.length)).sum
theorem Tc{l m:List Rf.Source}(p:l.Perm m):Zc l=Zc m:=C4<|p.map _
theorem O1{c:Rf.Ch}{q:L1}(h:s.entries=c::q):Zc (Rf.taken s r)+1=Zc (s::r):=by grind [Rf.taken,Zc]
theorem Hx{ls:List L1}:∀ s∈Rf.xd n ls,s.entries∈ls:=by induction ls generalizing n with|nil=>intro s b;cases b|cons l r ih=>grind [Rf.xd]
theorem Vo{N A:Nat}(h:∀ x∈s::r,x.entries.length<N/\x.age<A):∀ x∈Rf.taken s r,x.entries.length<N/\x.age<A:=by grind [Rf.taken]
theorem S8(s:Rf.Source)(r:List Rf.Source):(Rf.taken s r).length<=(s::r).length:=by grind [Rf.taken]
structure Cv(ls:List (List Rf.Ch)):Prop where
 rising:∀ l∈ls,Rf.j8 l
 keys:∀ l∈ls,∀ c∈l,c.key≠[]
 len:∀ l∈ls,l.length<1048576
theorem ot{P:jd->Prop}{ρ:Nat->j4}{S:jd}(lv:Value)(fs:List Value)(F:List J9)(hi:Str)(b1:fs.length=F.length)(hl:fs.length<524288)(c7:∀ f∈fs,∃ g a b,f=.func g a b)(Y:∀ ls,(qj hi F S).2=.inl ls->Cv ls):Oh Fence.wide n prog 180 #[.agg #[lv,je hi]] #[] encI (qm ρ) (λi=>i<B) (Gg P E B ρ d S lv fs F) (jk8 E (Xu (qj hi F S)) (Pu (qj hi F S))) (jk6 E B ρ d (qj hi F S).1 (Xu (qj hi F S)) (Pu (qj hi F S))) (P5 E B ρ d (qj hi F S).1):=by
 intro lp n₀ J Jx aJ hY C W bg hC cr hS cx;have ef:∀ i,i<W.heap.size->C i->¬qm ρ i/\B<=i:=λi _ hc=>⟨(hC i hc).1,Nat.le_of_not_lt (hC i hc).2⟩
 have kA:=ja.alloc W (.cells #[lv,je hi] 262) λ_=>False
 have a6:=hS.same kA;obtain⟨p0,c0,rfl,_⟩:=id hS.jm8;have X:=Mz a6.dk a6.small _ fs F hi a6.jm8 a6.off b1 hl c7 a6.M5;obtain⟨G,hG⟩:=zJ (qj hi F S);rw[<-hG] at X Y hY ⊢;have HO:=jb X;have hρ:=hS.dk.rep.lt;have cz:=hS.dk.size;have nT:∀ i,W.heap.size<=i->¬qm ρ i:=λi hi h=>zA<|hρ i h
 have c5:∀ ls,G.2=.inl ls->ls.length<524288:=λls h=>by grind [uw]
 clear X hG a6 hS b1;show CallsIn Fence.wide n prog 180 #[.agg #[.slice p0 fs.length c0,je hi],.func (.yield lp) #[] #[]] W _;refine callsIn_of_wp func180 rfl trivial ?_ rfl;simp only[ntmps180,ZZ,xC,xD,Nat.reduceAdd,Nat.reduceSub,xE,xF,xG,xH,xI,xJ];gi_wp2_with fail;refine⟨trivial,λh=>(by simp[Fence.wide] at h),(callsIn_wide.2 HO).mono ?_⟩;rintro e w1 ⟨k1,D1,Z1,⟨ls,U,v,j,a9,rfl,ct,Hq,Tq,Pq,bf⟩|⟨bad,ev,b3,rfl,bx⟩⟩;all_goals have kW:ja W w1 (qm ρ):=(kA.up).tt k1;(have bj:=aJ _ _ _ _ cx<|km kW λi _ h=>.inl h);have ah:∀ i,C i->i<w1.heap.size:=λi h=>zZ (bg i h) kW.size
 ·(have ed:W.heap.size+1<=U:=by simpa using ct);have G1:=Y ls a9;have ee:=c5 ls a9;(have eM:Xu G=Rf.merged ls:=by unfold Xu;rw[a9]);(have eE:Pu G=none:=by unfold Pu;rw[a9]);rw[eM,eE] at hY;have HM:=jb eM;have HE:=jb eE;have T0:Rf.b8 (yi j) [] (Rf.merged ls):=(Rf.Tf G1.rising G1.keys).perm Pq.symm;have F0:Rf.Am (yi j) []:=(Rf.Tg G1.rising).perm Pq.symm;(have a4:∀ s∈yi j,s.entries.length<1048576/\s.age<4611686018427387904:=by intro s hs;have O:=Pq.mem_iff.1 hs;have h6:=vi s O;exact⟨G1.len _<|Hx s O,zC⟩);(have a5:(yi j).length<1048576:=by have O:=Pq.length_eq;grind [ie]);(have az:(W.alloc<|.cells #[.slice p0 fs.length c0,je hi] 262).heap.size=W.heap.size+1:=zD);rw[az] at Hq bf;generalize hMM:Rf.merged ls=MM at *;clear eM eE hMM Pq G1 Y a9 az;(obtain⟨mf,ao⟩:=jju λ(m:Nat) (x:Value×World)=>∃(D:Str) (k L:L1) (j:List HS) (v:Value) (l:Nat->Prop),x.1=je D/\Zc (yi j)=m/\MM=k++L/\Rf.b8 (yi j) D L/\Rf.Am (yi j) D/\xz x.2 (W.heap.size+1) U v j/\Rf.Qw (yi j) j.length/\J (k.map Jj) l x.2/\(∀ i,l i->C i\/W.heap.size<=i)/\(∀ i,l i->i<x.2.heap.size)/\¬l U/\(∀ g,v.ownBlock=some g->¬l g)/\(∀ p∈j,∀ o n c,p.1=.slice (some o) n c->¬l o.block/\W.heap.size+1<=o.block)/\ja W x.2 (λi=>C i\/qm ρ i)/\Dk E B x.2 ρ d G.1/\(∀ s∈yi j,s.entries.length<1048576/\s.age<4611686018427387904)/\(yi j).length<1048576);change Hid _ at ao hY;(have a3:∃ m,∃(D:Str) (k L:L1) (j:List HS) (v:Value) (l:Nat->Prop),je []=je D/\Zc (yi j)=m/\MM=k++L/\Rf.b8 (yi j) D L/\Rf.Am (yi j) D/\xz w1 (W.heap.size+1) U v j/\Rf.Qw (yi j) j.length/\J (k.map Jj) l w1/\(∀ i,l i->C i\/W.heap.size<=i)/\(∀ i,l i->i<w1.heap.size)/\¬l U/\(∀ g,v.ownBlock=some g->¬l g)/\(∀ p∈j,∀ o n c,p.1=.slice (some o) n c->¬l o.block/\W.heap.size+1<=o.block)/\ja W w1 (λi=>C i\/qm ρ i)/\Dk E B w1 ρ d G.1/\(∀ s∈yi j,s.entries.length<1048576/\s.age<4611686018427387904)/\(yi j).length<1048576:=by refine⟨_,[],[],MM,j,v,C,rfl,rfl,rfl,T0,F0,Hq,Tq,bj,λ_ h=>.inl h,ah,λh=>zA<|bg U h,λg Z h=>?_,λp N o n c e=>⟨λh=>?_,bf p N o n c e⟩,kW.mono λ_ _ h=>.inr h,D1,a4,a5⟩;have:=(Hq.row.lt g Z).1;have:=bg g h;omega;grind);change Hid _ at a3;clear T0 F0 Hq Tq bj ah bf D1 a4 a5;gi_wp2_with fail;gi_loopw [6] (λlv wr=>∃ m,∃(D:Str) (k L:L1) (j:List HS) (v:Value) (l:Nat->Prop),lv=je D/\Zc (yi j)=m/\MM=k++L/\Rf.b8 (yi j) D L/\Rf.Am (yi j) D/\xz wr (W.heap.size+1) U v j/\Rf.Qw (yi j) j.length/\J (k.map Jj) l wr/\(∀ i,l i->C i\/W.heap.size<=i)/\(∀ i,l i->i<wr.heap.size)/\¬l U/\(∀ g,v.ownBlock=some g->¬l g)/\(∀ p∈j,∀ o n c,p.1=.slice (some o) n c->¬l o.block/\W.heap.size+1<=o.block)/\ja W wr (λi=>C i\/qm ρ i)/\Dk E B wr ρ d G.1/\(∀ s∈yi j,s.entries.length<1048576/\s.age<4611686018427387904)/\(yi j).length<1048576) (λlv wr=>mf (lv,wr));(case atStart=>exact a3);case round=>obtain⟨cw,c4⟩:=ao.out (_,wr) hrel;obtain⟨D,k,L,j,v,l,rfl,a2,aq,Tq,Fq,Hq,Tp,c2,A,a0,ac,ak,bm,cs,Dq,bb,dn⟩:=cw;simp only at *;change Hid _ at c4;clear hrel;obtain⟨a1,c1,rfl⟩:=Hq.slice;have cb:=Hq.cell;(have bc:j.length<1048576:=by grind [ll]);cases j with|nil=>have eL:=Tq.nil;change Hid _ at eL aq Hq;gi_wp2_with fail;refine⟨trivial,λh=>(by simp[Fence.wide] at h),(callsIn_wide.2<|Dz a1 0 c1 wr zC).mono ?_⟩;rintro e T ⟨rfl,rfl⟩;gi_wp2;go_end0;refine⟨l,A,a0,⟨_,rfl⟩,.inl ⟨k.map Jj,⟨Dq,.inl ⟨HE,?_⟩⟩,c2⟩⟩;rw[HM.out,aq.out,eL.out,ZE]|cons s0 rs=>(obtain⟨c,q,be⟩:∃ c q,s0.2.entries=c::q:=by cases O:s0.2.entries with|nil=>exact(Fq.some s0.2 xO O).elim|cons c q=>exact⟨c,q,rfl⟩);(have bl:∀ p∈s0::rs,p.2.entries≠[]:=λp N=>Fq.some p.2<|xR.2 ⟨p,N,rfl⟩);(have bn:∀ p∈s0::rs,p.2.age<4611686018427387904:=λp N=>(bb p.2<|xR.2 ⟨p,N,rfl⟩).2);(have cp:q.length<1048576:=by have:=(bb s0.2 xO).1;grind);have I:∀ t∈s0.2::yi rs,s0.2.le t:=Rf.Qw.top (by grind [oc,ll]);have al:=Vs Hq bl Tp be bc cp bn;have HN:=jb al;have d1:=jb Hq;have a7:=jb be;have au:=jb aq;(have dm:rs.length+1<1048576:=by simpa using bc);(have u:∀ i,(i=U\/(Value.slice a1 (s0::rs).length c1).ownBlock=some i)->W.heap.size<=i/\¬l i:=by rintro i (h|h);grind;exact⟨zA (d1.out.row.lt i h).1,ak i h⟩);change Hid _ at u;clear al Hq be aq bc;simp only[xC] at cb;gi_wp2_with fail;refine⟨trivial,λh=>(by simp[Fence.wide] at h),(callsIn_wide.2<|Dz a1 (rs.length+1) c1 wr zC).mono ?_⟩;rintro e wq ⟨rfl,rfl⟩;gi_wp2_with fail;refine⟨trivial,λh=>(by simp[Fence.wide] at h),(callsIn_wide.2 HN).mono ?_⟩;rintro e T ⟨rfl,v2,V,P2,H2,T2,l2,k2,b2⟩;obtain⟨z,cv,R⟩:=c;(have ka:=ja.alloc T (.cells #[je z,je cv,.bool R] 47) λ_=>False);(have kk:ja wq (T.alloc<|.cells #[je z,je cv,.bool R] 47) (λi=>i=U\/(Value.slice a1 (s0::rs).length c1).ownBlock=some i):=k2.trans ka λ_ _ h=>h.elim);(have c3:=aJ _ _ _ _ c2<|km kk λi _ h=>.inr ⟨zW cr (u.out i h).1,(u.out i h).2⟩);(have D2:=Dq.apart kk λi _ h=>⟨nT i (u.out i h).1,zW cz (u.out i h).1⟩);have ag:ja W (T.alloc<|.cells #[je z,je cv,.bool R] 47) (λi=>C i\/qm ρ i):=cs.trans kk (λi hi h=>zA (u.out i h).1);have av:=H2.same ka;have Pm:(Rf.taken s0.2<|yi rs).Perm (yi V):=P2.symm;(have dj:Zc (yi V)+1=Zc (yi (s0::rs)):=by rw[<-Tc Pm,oc];exact O1 a7);(have b0:∀ s∈yi V,s.entries.length<1048576/\s.age<4611686018427387904:=λs hs=>Vo (by rw[<-oc];exact bb) s<|Pm.mem_iff.2 hs);(have am:(yi V).length<1048576:=by rw[<-Pm.length_eq];have:=S8 s0.2<|yi rs;rw[<-oc] at this;omega);have di:wq.heap.size<=T.heap.size:=k2.size;(have H:∀ g,v2.ownBlock=some g->¬l g/\g<(T.alloc<|.cells #[je z,je cv,.bool R] 47).heap.size:=by intro g Z;refine⟨?_,(av.row.lt g Z).2⟩;rcases l2 with h|⟨g2,h,O⟩;rw[h] at Z;exact ak g Z;rw[h] at Z;cases Z;intro hc;have:=a0 _ hc;omega);(have y:∀ p∈V,∀ o n c,p.1=.slice (some o) n c->¬l o.block/\W.heap.size+1<=o.block/\o.block<(T.alloc<|.cells #[je z,je cv,.bool R] 47).heap.size:=by intro p N o n c e;obtain⟨p',cq,d0,n',c',e',eb⟩:=b2 p N o n c e;have O:=bm p' cq d0 n' c' e';rw[eb] at O;refine⟨O.1,O.2,?_⟩;have h6:=(av.has p N).1;(have h7:p.2.entries≠[]:=by have h8:p.2∈Rf.taken s0.2 (yi rs):=Pm.mem_iff.2<|xR.2 ⟨p,N,rfl⟩;exact(Fq.next a7 I).2.some p.2 h8);rw[e] at h6;exact h6.lt h7);have ar:=jf T<|.cells #[je z,je cv,.bool R] 47;have y0:=zK 0 ar;have y1:=zK 1 ar;have y2:=zK 2 ar;simp at y0 y1 y2;change Hid _ at T2;have bk:=jb av;clear av H2 ar b2;by_cases hcl:z=D;(· subst hcl;(have cu:(z==z)=true:=zD);gi_wp2;(have af:∃ m,m<mf (je z,wq)/\∃(D:Str) (k L:L1) (j:List HS) (v:Value) (l:Nat->Prop),je z=je D/\Zc (yi j)=m/\MM=k++L/\Rf.b8 (yi j) D L/\Rf.Am (yi j) D/\xz (T.alloc<|.cells #[je z,je cv,.bool R] 47) (W.heap.size+1) U v j/\Rf.Qw (yi j) j.length/\J (k.map Jj) l (T.alloc<|.cells #[je z,je cv,.bool R] 47)/\(∀ i,l i->C i\/W.heap.size<=i)/\(∀ i,l i->i<(T.alloc<|.cells #[je z,je cv,.bool R] 47).heap.size)/\¬l U/\(∀ g,v.ownBlock=some g->¬l g)/\(∀ p∈j,∀ o n c,p.1=.slice (some o) n c->¬l o.block/\W.heap.size+1<=o.block)/\ja W (T.alloc<|.cells #[je z,je cv,.bool R] 47) (λi=>C i\/qm ρ i)/\Dk E B (T.alloc<|.cells #[je z,je cv,.bool R] 47) ρ d G.1/\(∀ s∈yi j,s.entries.length<1048576/\s.age<4611686018427387904)/\(yi j).length<1048576:=by refine⟨_,by rw[<-a2];omega,z,k,L,V,v2,l,rfl,rfl,au,(Tq.again a7 rfl).perm Pm,((Fq.next a7 I).2).perm Pm,bk,T2,c3,A,λi h=>by have:=a0 i h;simp;omega,ac,λg Z=>(H g Z).1,λp N o n c e=>⟨(y p N o n c e).1,(y p N o n c e).2.1⟩,ag,D2,b0,am⟩);obtain⟨m2,ap,r⟩:=af;go_roundw;(case rel=>exact⟨m2,r⟩);case measure=>exact ZO ((ao.out (_,_) ⟨m2,r⟩).2 m2 r) ap);· (have cu:(z==D)=false:=by simp[hcl]);obtain⟨dl,M,bh,TM⟩:=Tq.next Fq a7 I hcl;(have b4:MM=(k++[⟨z,cv,R⟩])++M:=by rw[au.out,bh];simp);(have bz:MM[k.length]?=some ⟨z,cv,R⟩:=by rw[au.out,bh];simp);(have bw:k.map Jj=(MM.take k.length).map Jj:=by rw[au.out];simp);(have c8:∀ i,l i->i<(T.alloc<|.cells #[je z,je cv,.bool R] 47).heap.size:=λi h=>by have:=a0 i h;simp;omega);obtain⟨fn,tmps,assign,body,hy,hR⟩:=hY.out (k.map Jj) (Jj ⟨z,cv,R⟩) l _ c3 c8<|.inl ⟨k.length,_,bw,bz,rfl⟩;dsimp only[encI,Jj] at hy;have HR:=jb hR;change Hid _ at b4;clear hR bh bz bw;gi_wp2;refine⟨λh=>by simp[Fence.wide] at h,HR.out.mono ?_⟩;rintro e W3 ⟨C2,an,ab,aa,bd⟩;(have aj:∀ i,C2 i->C i\/W.heap.size<=i:=λi h=>by rcases an i h with h|h;exact A i h;have h6:=ag.size;exact .inr zC);have c6:ja W W3 (λi=>C i\/qm ρ i):=ag.trans aa (λi hi h=>by rcases A i h with O|O;exact .inl O;omega);(have cy:∀ i,l i->¬qm ρ i/\B<=i:=λi h=>by rcases A i h with O|O;exact⟨(hC i O).1,Nat.le_of_not_lt (hC i O).2⟩;exact⟨nT i O,zC⟩);(have D3:=D2.apart aa λi _ h=>cy i h);rcases bd with⟨rfl,bi⟩|⟨rfl,ai⟩;(· (have af:∃ m,m<mf (je D,wq)/\∃(D:Str) (k L:L1) (j:List HS) (v:Value) (l:Nat->Prop),je z=je D/\Zc (yi j)=m/\MM=k++L/\Rf.b8 (yi j) D L/\Rf.Am (yi j) D/\xz W3 (W.heap.size+1) U v j/\Rf.Qw (yi j) j.length/\J (k.map Jj) l W3/\(∀ i,l i->C i\/W.heap.size<=i)/\(∀ i,l i->i<W3.heap.size)/\¬l U/\(∀ g,v.ownBlock=some g->¬l g)/\(∀ p∈j,∀ o n c,p.1=.slice (some o) n c->¬l o.block/\W.heap.size+1<=o.block)/\ja W W3 (λi=>C i\/qm ρ i)/\Dk E B W3 ρ d G.1/\(∀ s∈yi j,s.entries.length<1048576/\s.age<4611686018427387904)/\(yi j).length<1048576:=by(have ba:∀ i,¬l i->i<(T.alloc<|.cells #[je z,je cv,.bool R] 47).heap.size->¬C2 i:=λi h1 h2 h3=>by rcases an i h3 with h|h;exact h1 h;omega);refine⟨_,by rw[<-a2];omega,z,k++[⟨z,cv,R⟩],M,V,v2,C2,rfl,rfl,b4.out,TM.perm Pm,((Fq.next a7.out I).1).perm Pm,bk.out.keep aa ac (λg Z=>(H g Z).1) (λp N o n c e=>(y p N o n c e).1),T2.out,by rw[xL];exact bi,aj,ab,ba U ac (zO bk.out.box),λg Z=>ba g (H g Z).1 (H g Z).2,λp N o n c e=>⟨ba _ (y p N o n c e).1 (y p N o n c e).2.2,(y p N o n c e).2.1⟩,c6,D3,b0,am⟩);obtain⟨m2,ap,r⟩:=af;change Hid _ at r ap;gi_wp2;go_roundw;(case rel=>exact⟨m2,r⟩);case measure=>exact ZO ((ao.out (_,_) ⟨m2,r⟩).2 m2 r) ap);· gi_wp2;refine bodyPost_ret (results_none rfl _ _ _) rfl ?_;exact⟨C2,aj,ab,⟨_,rfl⟩,.inr ⟨_,D3,ai⟩⟩
 .obtain⟨te,ae,rfl⟩:=bx.shape;(have eM:Xu G=[]:=by unfold Xu;rw[b3]);(have eE:Pu G=some bad:=by unfold Pu;rw[b3]);rw[eM,eE] at hY;change Hid _ at eM eE;obtain⟨fn,tmps,assign,body,hy,hR⟩:=hY [] (il,.iface te<|.pointer<|some ae) C w1 bj ah<|.inr ⟨bad,rfl,rfl,rfl,bx⟩;dsimp only[encI,il] at hy;have HR:=jb hR;change Hid _ at D1;clear hR hY;gi_wp2;refine⟨λh=>by simp[Fence.wide] at h,HR.out.mono ?_⟩;rintro e W3 ⟨C2,an,ab,aa,bd⟩;(have D3:=D1.out.apart aa λi _ h=>⟨(hC i h).1,Nat.le_of_not_lt (hC i h).2⟩);(have A:∀ i,C2 i->C i\/W.heap.size<=i:=λi h=>(an i h).imp id λh=>zW kW.size h);rcases bd with⟨rfl,bi⟩|⟨rfl,ai⟩;(· gi_wp2;refine bodyPost_ret (results_none rfl _ _ _) rfl ?_;exact⟨C2,A,ab,⟨_,rfl⟩,.inl ⟨_,⟨D3,.inr ⟨bad,_,eE,⟨te,ae,rfl⟩,by rw[eM.out];rfl⟩⟩,bi⟩⟩);· gi_wp2;refine bodyPost_ret (results_none rfl _ _ _) rfl ?_;exact⟨C2,A,ab,⟨_,rfl⟩,.inr ⟨_,D3,ai⟩⟩
end
section
open RowKit Maps WideShapes Go.Proofs.Tryz
variable {E:Nat->Addr} {B b x y:Nat} {w:World} {t:TypeId} {c:Nat×Nat×Str} {k:Str}
abbrev Zl(d:Nat)(n:Nat)(key:Str):Value:=.func (.func 162) #[.agg #[.pointer (some ⟨d,0,none⟩),je (jq n),je key]] #[]
theorem ja8(d n:Nat)(key:Str)(c:n<=9223372036854775807)(H:Env E B w):Calls prog 126 #[P1 d,j9 n,je key] w λe w'=>e=.returned (Zl d n key)/\ja w w' N_:=by go_enter func126,ntmps126;go_wp2_with fail;refine(lu n c H).mono ?_;rintro e f ⟨rfl,b⟩;go_wp2;go_ret;exact⟨rfl,b⟩
theorem Tryz.ja1:(prog.info? 136).map (λi=>(i.zero,i.size,i.bytes))=some (some .nilFunc,1,8):=by kernel_rfl
theorem jlw(d n:Nat)(key:Str):∀ u∈[Zl d n key],u.oneCell'=true:=by intro u b;simp at b;subst b;rfl
theorem b9(d:Nat)(m:Rf.Man)(rv last mv:Value)(R cl:Bool)(key:Str)(H:Env E B w)(x:w.heap[b]?=some (.cells (ql (P1 d) (jg m.next) (jg m.last) (jg m.log) (jg m.base) rv last mv R cl) t (0,0)))(hv:Jf w rv m.runs)(hl:m.runs.length<524288)(Y:∀ n∈m.settled,n<=9223372036854775807):Calls prog 72 #[P1 b,je key] w λe w'=>∃ p c,e=.returned (.slice p m.settled.length c)/\w'.ownsRow w.heap.size 136 1 (.slice p m.settled.length c) m.settled.length (m.settled.map (λn=>Zl d n key))/\ja w w' N_:=by
 obtain⟨u,Z,I,G,F⟩:=info_parts Tryz.ja1;have r:=dz w m rv hv zC;have J:=x9 m;have j:=zK 0 x;have i:=zK 1 x;have f:=zK 2 x;have g:=zK 3 x;have o:=zK 4 x;have l:=zK 5 x;simp at j i f g o l;have j:=jb x;generalize m.settled=l at r J Y ⊢;have A:=jb r;clear x r;go_enter func72,ntmps72;go_wp2_with fail;refine A.out.mono ?_;rintro e C ⟨f,f,rfl,f,D⟩;have r:=zl f rfl;go_wp2_with fail;go_loopw [5,14] (λb i wr=>∃(k:Nat) (p:Option Addr) (c:Nat),k<=l.length/\i = aA k/\b=.slice p k c/\wr.ownsRow C.heap.size 136 1 (.slice p k c) k ((l.take k).map λn=>Zl d n key)/\ja C wr N_) (λ_ i _=>l.length-(intOf i).toNat);case atStart=>grind [zU,ja.refl]
 case round=>obtain⟨k,p,c,g,rfl,rfl,q,v⟩:=hrel;obtain z|ah:=zV k l.length;(· obtain⟨g,o,rfl,g⟩:=(r.same v).at z;have L:=Y l[k]<|ZL z;have V:=D.tt v;have g:=H.same V;have S:=zM (o:=0)<|V.same j id;simp at S;go_wp2_with fail;refine(ja8 d l[k] key L g).mono ?_;rintro e g ⟨rfl,X⟩;have W:=v.tt X;(have f:=X.row q λ_ _ h=>h);have y:=f.alloc<|.cells #[Zl d l[k] key] 136;(have O:Hid (k+1<=maxLen):=by unfold Hid maxLen;omega);(have N:Hid ((k+1)*8<=140737488355328):=by unfold Hid;omega);(have s:(l.take (k+1)).map (λn=>Zl d n key)=(l.take k).map (λn=>Zl d n key)++[Zl d l[k] key]:=by grind [xZ]);change Hid _ at s;clear q;go_wp2_with (first|(at_builtin;go_must (refine jo _ rfl (.tmp 18) (.tmp 26) 96 rfl C.heap.size 136 u .nilFunc 1 8 underlying96 Z I G F rfl xW _ _ _ rfl y (A2 g.heap.size) 1 1 [Zl d l[k] key] rfl rfl (cell_one_new _ _ _) (jlw _ _ _) O N (W.more _).size ?_);intro g T i u M U)|go_in);have o:ja C i N_:=(W.more _).grow M (λj e Z=>zA (f.lt j e).1);rw[<-s.out] at u;exact⟨⟨k+1,g,T,zC,zD,rfl,u,o⟩,by simp[intOf];omega⟩);· (have f:k=l.length:=zC);subst f;rw[xM] at q;go_wp2;go_ret;exact⟨p,c,rfl,qn q D.size,D.tt v⟩
theorem jlm{P:Program}{base:Nat}{e c:TypeId}{v:Value}{n:Nat}{xs:List Value}(b:P.underlying c=some (.slice e))(h:w.ownsRow base e 1 v n xs)(d:∀ u∈xs,u.oneCell'=true):Src P 1 c v n xs w:=by
 obtain⟨rfl,f⟩|⟨g,cap,i,rfl,_⟩:=h.2
 .have k:xs=[]:=xY (by rw[h.1,f]);grind [Src.ofNil]
 exact Src.ofSlice w b (A2 g) n cap _ h.1 (λj u f=>h.cells rfl j u f) d
abbrev Fz(v:Value):Value:=.func (.func 124) #[v] #[]
def jeu(d:Nat)(m:Rf.Man)(l:L1)(mv:Value)(key:Str)(w:World)(e:Ending)(w':World):Prop :=
 ∃ p c v,e=.returned (.slice p (m.settled.length+1) c)/\w'.ownsRow w.heap.size 136 1 (.slice p (m.settled.length+1) c) (m.settled.length+1) (Fz v::m.settled.map (λn=>Zl d n key))/\Chs w' v (l.drop (Rf.below l key)) /\
  (∀ ad n c,v=.slice (some ad) n c->∃ ad' n' c',mv=.slice (some ad') n' c'/\ad'.block=ad.block)/\ja w w' N_
theorem uh(d:Nat)(m:Rf.Man)(rv last k:Value)(l:L1)(q cl:Bool)(key:Str)(H:Env E B w)(D:w.heap[b]?=some (.cells (ql (P1 d) (jg m.next) (jg m.last) (jg m.log) (jg m.base) rv last k q cl) t (0,0)))(hv:Jf w rv m.runs)(hl:m.runs.length<524288)(hs:∀ n∈m.settled,n<=9223372036854775807)(L:Chs w k l)(hr:Rf.j8 l)(J:l.length<1048576):Calls prog 35 #[P1 b,je key] w (jeu d m l k key w):=by
 obtain⟨j,C,I,G,F⟩:=info_parts Tryz.ja1;have f:=x9 m;have W:=ja7 b 7 _ t k l key w D rfl L hr J;change Hid _ at D;have f:=jb W;clear W;go_enter func35,ntmps35;go_wp2_with fail;refine f.out.mono ?_;rintro e y ⟨v,rfl,M,V,p⟩;have z:ja w (y.alloc<|.cells #[Fz v] 136) N_:=V.more _;have i:=b9 d m rv last k q cl key (H.same z) (z.same D id) (hv.same z) hl hs;have s:=World.ownsRow_lit (base:=w.heap.size) (e:=136) (size:=1) y #[Fz v] 1 V.size (by unfold maxLen;omega) rfl;have x:=jb i;change Hid _ at p;clear i;go_wp2_with fail;refine x.out.mono ?_;rintro e X ⟨f,f,rfl,g,A⟩;have U:=z.tt A;have c:=A.row s λ_ _ h=>h
 have r:=jlm (P:=prog) underlying96 g (λu f=>by obtain⟨n,_,rfl⟩:=xR.1 f;rfl);have O:Hid (1+m.settled.length<=maxLen):=by unfold Hid maxLen;omega
 have N:Hid ((1+m.settled.length)*8<=140737488355328):=by unfold Hid;omega
 change Hid _ at g;go_wp2_with (at_builtin;go_must (refine zz X rfl (.tmp 10) (.tmp 13) 96 96 rfl w.heap.size 136 j .nilFunc 1 8 underlying96 C I G F rfl xW _ 1 _ rfl c _ m.settled.length _ rfl r O N U.size ?_);intro Y R T f o S);have g:ja w T N_:=U.grow o (λj e C=>zA (c.lt j e).1);have Z:ja y T N_:=((ja.alloc y _ λ_=>False).tt A).grow o (λj e C=>by injection e with e;simp_all);go_ret;rw[show 1+m.settled.length=m.settled.length+1 by omega] at f ⊢;exact⟨Y,R,v,rfl,f,M.same Z,p,g⟩
abbrev plV(p:Nat×Nat×Str):Value:=.agg #[j9 p.1,j9 p.2.1,je p.2.2]
def zn(l:List (Nat×Nat×Str)):List Value:=l.flatMap λp=>[j9 p.1,j9 p.2.1,je p.2.2]
theorem T8(l:List (Nat×Nat×Str))(c:Nat×Nat×Str):zn (l++[c])=zn l++zn [c]:=by simp[zn]
theorem jnl(l:List (Nat×Nat×Str)):∀ u∈zn l,u.oneCell'=true:=by intro u b;obtain⟨c,_,h⟩:=List.mem_flatMap.1 b;simp at h;obtain rfl|rfl|rfl:=h<;>rfl
theorem Zm{l:List (Nat×Nat×Str)}{k:Nat}(h:k<l.length):(zn l)[k*3]?=some (j9 l[k].1)/\(zn l)[k*3+1]?=some (j9 l[k].2.1)/\(zn l)[k*3+2]?=some (je l[k].2.2):=by induction l generalizing k with|nil=>simp at h|cons c r ih=>(have e:zn (c::r)=j9 c.1::j9 c.2.1::je c.2.2::zn r:=by simp[zn]);cases k with|zero=>rw[e];simp|succ k=>grind
theorem jl5(h:w.heap[b]?=some (.cells #[j9 c.1,j9 c.2.1,je c.2.2] 304 (0,0))):(loadVar 304 (A2 b)).run prog w=.ok (plV c) w:=by have g:=zK 0 h;have f:=zK 1 h;have d:=zK 2 h;simp at g f d;go_simp
theorem jcw{fn:Func}{t u:Tmp}(h:fn.results=#[.cell t 304,.tmp u]){tmps:Array Value}(f:tmps.getD t undef = P1 b)(g:w.heap[b]?=some (.cells #[j9 c.1,j9 c.2.1,je c.2.2] 304 (0,0))):(results fn tmps).run prog w=.ok (.tuple #[plV c,tmps.getD u undef]) w:=by
 have d:tmps[t]?.getD undef = P1 b:=by simpa using f
 simp[results,h,d,asAddr,(jl5 g)]
theorem ji2(h:w.heap[b]?=some (.cells #[j9 x,j9 y,je k] 304 (0,0))):w.cell? (A2 b)=some (j9 x)/\w.cell? (B1 b 1)=some (j9 y)/\w.cell? (B1 b 2)=some (je k)/\w.frozen? (A2 b)=false/\w.frozen? (B1 b 1)=false/\w.frozen? (B1 b 2)=false:=by have f:=zK 0 h;have d:=zK 1 h;have c:=zK 2 h;grind [zN]
theorem jnk{x' y':Nat}{k':Str}(h:w.heap[b]?=some (.cells #[j9 x,j9 y,je k] 304 (0,0))):(((w.setCell (A2 b) (j9 x')).setCell (B1 b 1) (j9 y')).setCell (B1 b 2) (je k')).heap[b]?=some (.cells #[j9 x',j9 y',je k'] 304 (0,0)):=by have d:=jc (o:=0) h<|j9 x';have c:=jc (o:=1) d<|j9 y';simpa using (jc (o:=2) c<|je k')
theorem jog{c:Nat×Nat}(h:w.heap[b]?=some (.cells #[j9 x,j9 y,je k] t c)):∀ j u,w.cell? (B1 b j)≠some (qd u):=by intro j x;rw[zM h];grind
theorem Tv{r:Nat}{l q:By}{F:Nat}{p:Nat×Str}(I:Rd w r l)(g:Rf.gu F l=some (p,q))(R:F<1099511627776):Calls prog 245 #[P1 r,j9 F] w λe w'=>e=.returned (.tuple #[plV (p.1,F,p.2),.nilIface])/\Rd w' r q/\ja w w' (λi=>i=r):=by
 have O:r<w.heap.size:=by obtain⟨v,M,_⟩:=I;exact zO M
 unfold Rf.gu at g;split at g
 .rename_i hc;obtain⟨L,z⟩:=hc;split at g;(· rename_i t q' htt;cases g;(have E:=ja.alloc w (.cells #[j9 0,j9 0,je []] 304) λ_=>False);have m:=jf w<|.cells #[j9 0,j9 0,je []] 304;obtain⟨N,o⟩:=zJ (Rf.number (l.take 4));have C:=jb m;rw[<-o] at z ⊢;clear m;go_enter func245,ntmps245;go_wp2_with fail;refine(yz (n:=4) (I.same E) L zC).mono ?_;rintro e J ⟨rfl,u,H⟩;rw[<-o];change Hid _ at o;have f:=H.same C zC;have B:ja w J (λi=>i=r):=(Qt E).tt H;change Hid _ at f;go_wp2_with fail;refine(lh u htt).mono ?_;rintro e D ⟨rfl,s,G⟩;have b:=G.same f zC;have A:ja w D (λi=>i=r):=B.tt G;obtain⟨a0,V,a2,U,T,S⟩:=ji2 (x:=0) (y:=0) b;have j:=jog (x:=0) (y:=0) b;have k:=s.other (aw D w.heap.size (j9 N) (j9 F)<|je t) (zC:r≠w.heap.size) j;have d:=jnk (x:=0) (y:=0) (x':=N) (y':=F) (k':=t) b;change Hid _ at d k;clear b j;go_wp2;refine bodyPost_ret (jcw rfl rfl (c:=(N,F,t)) d) rfl ?_;exact⟨rfl,k,A.trans (aw _ _ _ _ _) λi hi e=>zC⟩);cases g
 cases g
end
