/-
  S: HeapA HeapB HeapC HeapD MergeA MergeB LayersA RunA RunB RunC RunD RunE.
-/
import Derived.Test.YtnipbplghijdmaaGreatDoorS23
import Derived.Test.YtnipbplghijdmaaGreatDoorS20
set_option maxRecDepth 100000
set_option maxHeartbeats 8000000
set_option linter.unusedVariables false
set_option linter.unusedSimpArgs false
namespace Go.Proofs.YtnipbplghijdmaaGreatDoor
open RowKit Maps WideShapes Go.Proofs.Tryz
variable {P:Program} {W W' w w':World} {e t:TypeId} {b cap g hb i j k n:Nat} {name:String} {p1 v:Value} {p2 x y:Int} {T:Nat->Prop} {l:List Value} {hi:Str} {ls:List (List Rf.Ch)}
theorem Nn(a:Addr)(b c:TypeId)(s t:String):(Builtin.ssaWrapNilChk_ #[b] c #[.pointer (some a),strVal s,strVal t]).run P w = .ok (.pointer (some a)) w:=rfl
theorem ja1{i:TypeInfo}(h:P.info? t=some i):(typeInfo t).run P w = .ok i w:=by
 simp[typeInfo,Sem.run_bind,Result.andThen,go_sem,h]
theorem ua{fuel:Nat}{b:TypeId}{f:FuncId}{i:TypeInfo}{m:Method}{a:Addr}(hi:P.info? t=some i)(k:i.methods.find? (·.name==name)=some m)(j:m.path=#[])(l:m.func=some (f,false))(g:P.underlying t=some (.pointer b))(d:(isAgg b).run P w = .ok false w)(c:w.cell? a=some v):(Go.method (fuel+1) t (.pointer (some a)) name).run P w = .ok (f,v) w:=by
 simp[Go.method,Sem.run_bind,ja1 hi,run_underlying g,k,j,l,d,c,Result.andThen,follow,receiverAt,Place.get,Nn,go_sem]
theorem rowOf{i:TypeInfo}{r:Nat×Option (FuncId×Bool)}(h:(i.methods.find? (·.name==name)).map (fun m=>(m.path.size,m.func))=some r):∃ m,i.methods.find? (·.name==name)=some m/\m.path.size=r.1/\m.func=r.2:=by
 obtain⟨m,c,b⟩:=xF.1 h;exact⟨m,c,by rw[<-b],by rw[<-b]⟩
theorem uo(w:World):(isAgg 285).run prog w = .ok false w:=by kernel_rfl
theorem fj:(prog.info? 241).map (fun i=>((i.methods.find? (·.name== "Len")).map (fun m=>(m.path.size,m.func)),(i.methods.find? (·.name== "Less")).map (fun m=>(m.path.size,m.func)),(i.methods.find? (·.name== "Swap")).map (fun m=>(m.path.size,m.func)))) =
 some (some (0,some (173,false)),some (0,some (298,false)),some (0,some (301,false))):=by kernel_rfl
theorem A5(h:w.cell? ⟨b,0,none⟩=some v):(Go.method 505 241 (.pointer (some ⟨b,0,none⟩)) "Len").run prog w = .ok (173,v) w:=by
 obtain⟨i,hi,c⟩:=xF.1 fj;obtain⟨m,g,f,d⟩:=rowOf (r:=(0,some (173,false))) (congrArg Prod.fst c);exact ua (fuel:=504) hi g (Array.eq_empty_of_size_eq_zero f) d underlying241 (uo w) h
theorem ub(h:w.cell? ⟨b,0,none⟩=some v):(Go.method 505 241 (.pointer (some ⟨b,0,none⟩)) "Less").run prog w = .ok (298,v) w:=by
 obtain⟨i,hi,c⟩:=xF.1 fj;obtain⟨m,g,f,d⟩:=rowOf (r:=(0,some (298,false))) (congrArg (fun x=>x.2.1) c);exact ua (fuel:=504) hi g (Array.eq_empty_of_size_eq_zero f) d underlying241 (uo w) h
theorem bp(h:w.cell? ⟨b,0,none⟩=some v):(Go.method 505 241 (.pointer (some ⟨b,0,none⟩)) "Swap").run prog w = .ok (301,v) w:=by
 obtain⟨i,hi,c⟩:=xF.1 fj;obtain⟨m,g,f,d⟩:=rowOf (r:=(0,some (301,false))) (congrArg (fun x=>x.2.2) c);exact ua (fuel:=504) hi g (Array.eq_empty_of_size_eq_zero f) d underlying241 (uo w) h
theorem Sd(v:Value)(w:World):(Go.method 505 241 v "Push").run prog w = .ok (300,v) w:=by kernel_rfl
theorem Vv(v:Value)(w:World):(Go.method 505 241 v "Pop").run prog w = .ok (299,v) w:=by kernel_rfl
abbrev HS:=Value×Rf.Source
def yr(ps:List HS):List Value:=ps.flatMap fun p=>[p.1,ju p.2.age]
theorem Zu(ps:List HS):(yr ps).length=ps.length*2:=by
 induction ps with
 | nil=>rfl
 | cons p r ih=>simp only[yr,xL,ZY,zX,xU] at ih ⊢;omega
theorem Nf{ps:List HS}{p:HS}(h:ps[k]?=some p):(yr ps)[k*2]?=some p.1/\(yr ps)[k*2+1]?=some (ju p.2.age):=by
 induction ps generalizing k with
 | nil=>simp at h
 | cons q r ih =>
  have e:yr (q::r)=[q.1,ju q.2.age]++yr r:=by simp[yr]
  rw[e]
  cases k with
  | zero=>cases h;simp
  | succ k =>
   have:=ih (k:=k) (by simpa using h);constructor
   ·rw[zR (by simp;omega)]
    simpa [show(k+1)*2-2=k*2 by omega] using this.1
   ·rw[zR (by simp;omega)]
    simpa [show(k+1)*2+1-2=k*2+1 by omega] using this.2
structure qv(W:World)(base hb:Nat)(v:Value)(ps:List HS):Prop where
 box:W.heap[hb]?=some (.cells #[v] 285 (0,0))
 row:W.ownsRow base 288 2 v ps.length (yr ps)
 ne:v.ownBlock≠some hb
 has:∀ p∈ps,Chs W p.1 p.2.entries/\∀ ad n c,p.1 = .slice (some ad) n c->ad.block≠hb/\v.ownBlock≠some ad.block
theorem qv.cell{base:Nat}{ps:List HS}(h:qv W base hb v ps):W.cell? ⟨hb,0,none⟩=Option.some v:=(zA h.box).trans rfl
theorem qv.src{base:Nat}{ps:List HS}(h:qv W base hb v ps){p:HS}(c:ps[k]?=Option.some p) :
 ∃ g cap,v = .slice (Option.some ⟨g,0,none⟩) ps.length cap/\ps.length<=cap/\W.cell? ⟨g,k*2,none⟩=Option.some p.1/\W.cell? ⟨g,k*2+1,none⟩=Option.some (ju p.2.age):=by
 have m:=(XA.1 c).1;obtain⟨f,d⟩:=Nf c;rcases h.row.2 with⟨rfl,n⟩|⟨g,cap,l,rfl,j,i,b,_⟩
 ·omega
 ·refine⟨g,cap,rfl,b,?_,?_⟩
  ·have:=h.row.cells rfl _ _ f;rwa [add_zero] at this
  ·have:=h.row.cells rfl _ _ d;rwa [add_zero] at this
theorem jaj{l:List Rf.Ch}(h:Chs W v l)(f:l≠[]):∃ b o cap,v = .slice (some ⟨b,o,none⟩) l.length cap/\l.length<=cap/\W.cell? ⟨b,o,none⟩=some (jd ((l.head?.map Rf.Ch.key).getD [])):=by
 obtain⟨p,c,rfl,g,m,k,j⟩:=id h;have d:0<l.length:=XY.2 f;obtain⟨b,o,rfl,i,q,n⟩:=h.at d;refine⟨b,o,c,rfl,g,?_⟩
 cases l with
 | nil=>exact(f rfl).elim
 | cons x r=>simpa using i
theorem wk(p:Option Addr)(n c:Nat)(w:World)(b:n<1099511627776):Calls prog 173 #[.slice p n c] w fun e w'=>e = .returned (ju n)/\w'=w:=by
 go_enter func173,ntmps173;go_wp2;go_ret;exact⟨rfl,rfl⟩
theorem jb7{base:Nat}{ps:List HS}(H:qv W base hb v ps){p q:HS}(hi:ps[i]?=some p)(m:ps[j]?=some q)(k:p.2.entries≠[])(f:q.2.entries≠[])(N:ps.length<1048576)(S:p.2.age<4611686018427387904/\q.2.age<4611686018427387904) :
 Calls prog 298 #[v,ju i,ju j] W fun e w'=>e = .returned (.bool (p.2.less q.2))/\ja W w' (fun _=>False):=by
 obtain⟨g,cap,rfl,x,C,a2⟩:=H.src hi;obtain⟨V,y,e,_,B,X⟩:=H.src m;cases e;have G:=(XA.1 hi).1;have F:=(XA.1 m).1;have r:=XU hi;have o:=XU m;obtain⟨Z,J,M,u,U,A⟩:=jaj (H.has p r).1 k;obtain⟨Y,I,L,t,T,z⟩:=jaj (H.has q o).1 f;have E:0<p.2.entries.length:=XY.2 k;have D:0<q.2.entries.length:=XY.2 f;rw[u] at C;rw[t] at B;have b:p.2.less q.2=(decide (p.2.top<q.2.top)||(decide (p.2.top=q.2.top)&&decide (p.2.age<q.2.age))):=rfl;unfold Rf.Source.top at b;generalize (p.2.entries.head?.map Rf.Ch.key).getD []=kp at A b;generalize (q.2.entries.head?.map Rf.Ch.key).getD []=kq at z b;generalize p.2.less q.2=R at b ⊢;generalize p.2.entries.length=np at *
 generalize q.2.entries.length=nq at *
 generalize p.2.age=ap at *
 generalize q.2.age=aq at *
 have n:=jb b;clear b u t H hi m r o k f;have s:∀ q,ja W (W.drewN q) (fun _=>False):=fun q=>⟨rfl,rfl,rfl,xA _,fun _ _ _=>rfl⟩;rcases b9 kp kq with⟨d,l⟩|⟨d,l⟩|⟨d,l⟩
 ·have c:Hid (R=true):=by unfold Hid;rw[n.out];simp[d]
  unfold Bd at l;clear d;go_enter func298,ntmps298;go_wp2_with fail;go_quiet ((go_at_call 190;exact Calls.quiet_of_same (Tryz.strings_Compare ⟨kp.toArray⟩ ⟨kq.toArray⟩ _)));go_wp2;go_ret;exact⟨by rw[c.out];rfl,s _⟩
 ·have c:Hid (R=decide (ap<aq)):=by unfold Hid;rw[n.out];simp[d,XS]
  unfold Bd at l;clear d;have O:decide ((ap:Int)<aq)=decide (ap<aq):=by simp
  go_enter func298,ntmps298;go_wp2_with fail;go_quiet ((go_at_call 190;exact Calls.quiet_of_same (Tryz.strings_Compare ⟨kp.toArray⟩ ⟨kq.toArray⟩ _)));go_wp2_with fail;go_quiet (fail);go_wp2;go_ret;exact⟨by rw[c.out];simp,⟨rfl,rfl,rfl,xA _,fun _ _ _=>rfl⟩⟩
 ·have c:Hid (R=false):=by
   unfold Hid;rw[n.out];simp[Rf.wo d,Ne.symm (Rf.ft d)]
  unfold Bd at l
  clear d
  go_enter func298,ntmps298
  go_wp2_with fail
  go_quiet ((go_at_call 190;exact Calls.quiet_of_same (Tryz.strings_Compare ⟨kp.toArray⟩ ⟨kq.toArray⟩ _)))
  go_wp2
  go_ret
  exact⟨by rw[c.out];rfl,s _⟩
theorem U5{d:Value}{f:Int}(m:i≠j)(hi:i<n)(A:j<n)(z:n<1048576)(C:n<=cap)(l:∃ a b c,p1 = .slice a b c)(k:∃ a b c,d = .slice a b c)(G:W.cell? ⟨g,i*2,none⟩=some p1)(F:W.cell? ⟨g,i*2+1,none⟩=some (.int .i64 p2))(E:W.cell? ⟨g,j*2,none⟩=some d)(D:W.cell? ⟨g,j*2+1,none⟩=some (.int .i64 f))(B:∀ o,W.frozen? ⟨g,o,none⟩=false) :
 Calls prog 301 #[.slice (some ⟨g,0,none⟩) n cap,ju i,ju j] W fun e w'=>e = .returned (.tuple #[])/\w'=((((W.setCell ⟨g,i*2,none⟩ d).setCell ⟨g,i*2+1,none⟩ (.int .i64 f)).setCell ⟨g,j*2,none⟩ p1).setCell ⟨g,j*2+1,none⟩ (.int .i64 p2)).drew:=by
 obtain⟨t,s,pc,rfl⟩:=l;obtain⟨r,q,p,rfl⟩:=k;have y:¬j*2=i*2:=by omega
 have x:¬j*2=i*2+1:=by omega
 have v:¬j*2+1=i*2:=by omega
 have u:¬j*2+1=i*2+1:=by omega
 go_enter func301,ntmps301;go_wp2_with fail
 go_region
 go_end0;exact⟨rfl,rfl⟩
theorem Dm(hi:i<n)(m:n<1048576)(q:n<=cap)(d:∃ a b c,p1 = .slice a b c)(s:W.cell? ⟨g,i*2,none⟩=some p1)(r:W.cell? ⟨g,i*2+1,none⟩=some (.int .i64 p2))(p:∀ o,W.frozen? ⟨g,o,none⟩=false) :
 Calls prog 301 #[.slice (some ⟨g,0,none⟩) n cap,ju i,ju i] W fun e w'=>e = .returned (.tuple #[])/\w'=((((W.setCell ⟨g,i*2,none⟩ p1).setCell ⟨g,i*2+1,none⟩ (.int .i64 p2)).setCell ⟨g,i*2,none⟩ p1).setCell ⟨g,i*2+1,none⟩ (.int .i64 p2)).drew:=by
 obtain⟨j,f,pc,rfl⟩:=d;have l:¬i*2=i*2+1:=by omega
 have k:¬i*2+1=i*2:=by omega
 go_enter func301,ntmps301;go_wp2_with fail
 go_region
 go_end0;exact⟨rfl,rfl⟩
theorem Q8{base:Nat}{size:Nat}{xs:List Value}(h:w.ownsRow base e size (.slice (some ⟨g,0,none⟩) n cap) n xs)(p:j<n*size)(u:Value):(w.setCell ⟨g,j,none⟩ u).ownsRow base e size (.slice (some ⟨g,0,none⟩) n cap) n (xs.set j u):=by
 refine⟨by rw[XK];exact h.1,?_⟩;rcases h.2 with⟨b,_⟩|⟨q,d,c,b,o,m,l,k,i,f⟩
 ·cases b
 ·cases b
  refine .inr ⟨g,cap,c.setIfInBounds j u,rfl,o,jc m u,l,k,by simpa using i,?_⟩;rw[Array.toList_setIfInBounds,List.take_set,f]
theorem u7{ps:List HS}(h:k<ps.length)(q:HS):yr (ps.set k q)=((yr ps).set (k*2) q.1).set (k*2+1) (ju q.2.age):=by
 induction ps generalizing k with
 | nil=>simp at h
 | cons p r ih =>
  have e:∀(x:HS) (l:List HS),yr (x::l)=x.1::ju x.2.age::yr l:=fun x l=>by simp[yr]
  cases k with
  | zero=>simp[e]
  | succ k =>
   rw[List.set_cons_succ,e,e,ih (by simpa using h),show(k+1)*2=k*2+1+1 by omega,show k*2+1+1+1=(k*2+1)+1+1 by omega];simp[List.set_cons_succ]
theorem qv.frozen{base:Nat}{ps:List HS}(h:qv W base hb (.slice (Option.some ⟨g,0,none⟩) n cap) ps)(o:Nat):W.frozen? ⟨g,o,none⟩=false:=by
 rcases h.row.2 with⟨b,_⟩|⟨j,c,f,b,i,d,_⟩
 ·cases b
 ·cases b
  exact zB d
theorem qv.keep{base:Nat}{ps:List HS}(h:qv W base hb v ps)(k:ja W W' T)(f:¬T hb)(d:∀ g,v.ownBlock=Option.some g->¬T g)(b:∀ p∈ps,∀ ad n c,p.1 = .slice (Option.some ad) n c->¬T ad.block):qv W' base hb v ps :=
 ⟨k.same h.box f,k.row h.row d,h.ne,fun p hp=>⟨(h.has p hp).1.keep k (fun _ ad n c e=>b p hp ad n c e),(h.has p hp).2⟩⟩
theorem qv.same{base:Nat}{ps:List HS}(h:qv W base hb v ps)(k:ja W W' (fun _=>False)):qv W' base hb v ps:=h.keep k id (fun _ _=>id) (fun _ _ _ _ _ _=>id)
theorem qv.jgu{base:Nat}{ps:List HS}(h:qv W base hb (.slice (Option.some ⟨g,0,none⟩) ps.length cap) ps){p q:HS}(hi:ps[i]?=Option.some p)(m:ps[j]?=Option.some q) :
 qv ((((W.setCell ⟨g,i*2,none⟩ q.1).setCell ⟨g,i*2+1,none⟩ (ju q.2.age)).setCell ⟨g,j*2,none⟩ p.1).setCell ⟨g,j*2+1,none⟩ (ju p.2.age)).drew base hb (.slice (Option.some ⟨g,0,none⟩) ps.length cap) ((ps.set i q).set j p) /\
 ja W ((((W.setCell ⟨g,i*2,none⟩ q.1).setCell ⟨g,i*2+1,none⟩ (ju q.2.age)).setCell ⟨g,j*2,none⟩ p.1).setCell ⟨g,j*2+1,none⟩ (ju p.2.age)).drew (fun i=>i=g):=by
 have l:=(XA.1 hi).1;have f:=(XA.1 m).1
 have k:ja W ((((W.setCell ⟨g,i*2,none⟩ q.1).setCell ⟨g,i*2+1,none⟩ (ju q.2.age)).setCell ⟨g,j*2,none⟩ p.1).setCell ⟨g,j*2+1,none⟩ (ju p.2.age)).drew (fun i=>i=g) :=
  (((((ja.refl W (fun i=>i=g)).set (p:=⟨g,i*2,none⟩) rfl _).set (p:=⟨g,i*2+1,none⟩) rfl _).set (p:=⟨g,j*2,none⟩) rfl _).set (p:=⟨g,j*2+1,none⟩) rfl _).draw
 refine⟨⟨k.same h.box (fun e=>h.ne (by rw[e];rfl)),?_,h.ne,?_⟩,k⟩
 ·have o:=(((Q8 (Q8 (Q8 (Q8 h.row (j:=i*2) (by omega) q.1) (j:=i*2+1) (by omega) (ju q.2.age)) (j:=j*2) (by omega) p.1) (j:=j*2+1) (by omega) (ju p.2.age))))
  rw[XK,XK,u7 (by rw[XK];exact f),u7 l];exact(ja.drew _ (fun _=>False)).row o (fun _ _=>id)
 ·intro x b
  have d:x∈ps:=by
   rcases List.mem_or_eq_of_mem_set b with b|rfl
   ·rcases List.mem_or_eq_of_mem_set b with b|rfl
    ·exact b
    ·exact XU m
   ·exact XU hi
  exact⟨(h.has x d).1.keep k (fun _ ad n c e e2=>((h.has x d).2 ad n c e).2 (by rw[<-e2];rfl)),(h.has x d).2⟩
theorem jal{base:Nat}{ps:List HS}(H:qv W base hb v ps){p q:HS}(hi:ps[i]?=some p)(c:ps[j]?=some q)(k:ps.length<1048576) :
 Calls prog 301 #[v,ju i,ju j] W fun e w'=>e = .returned (.tuple #[])/\qv w' base hb v ((ps.set i q).set j p)/\ja W w' (fun i=>v.ownBlock=some i):=by
 obtain⟨g,cap,rfl,b,r,o⟩:=H.src hi;obtain⟨C,s,e,_,y,x⟩:=H.src c;cases e;have d:=(XA.1 hi).1;have f:=(XA.1 c).1;obtain⟨B,pc,n,_⟩:=(H.has p (XU hi)).1;obtain⟨z,A,u,_⟩:=(H.has q (XU c)).1;obtain⟨m,t⟩:=H.jgu hi c;have l:=t.mono (U:=fun i=>(Value.slice (some ⟨g,0,none⟩) ps.length cap).ownBlock=some i) (fun i _ e=>by rw[e];rfl);by_cases hij:i=j
 ·subst hij
  rw[hi] at c;cases c;refine(Dm d k b ⟨_,_,_,n⟩ r o H.frozen).mono ?_;rintro e w' ⟨rfl,rfl⟩;exact⟨rfl,m,l⟩
 ·refine(U5 hij d f k b ⟨_,_,_,n⟩ ⟨_,_,_,u⟩ r o y x H.frozen).mono ?_
  rintro e w' ⟨rfl,rfl⟩;exact⟨rfl,m,l⟩
abbrev Gd(hb:Nat):Value:= .iface 241 (.pointer (some ⟨hb,0,none⟩))
def xr(ps:List HS):List Rf.Source:=ps.map Prod.snd
theorem Qa{ps:List HS}{p:HS}(h:ps[k]?=some p):(xr ps)[k]?=some p.2:=by unfold xr;rw[zJ,h];rfl
theorem Dv{ps:List HS}{s:Rf.Source}(h:(xr ps)[k]?=some s):∃ p,ps[k]?=some p/\p.2=s:=by
 unfold xr at h;rw[zJ] at h;obtain⟨p,c,b⟩:=xF.1 h;exact⟨p,c,b⟩
theorem gj(ps:List HS)(i j:Nat)(p q:HS):xr ((ps.set i q).set j p)=((xr ps).set i q.2).set j p.2:=by unfold xr;rw[List.map_set,List.map_set]
theorem Yl{l:List HS}{a b:HS}(d:l[i]?=some a)(hb:l[j]?=some b):((l.set i b).set j a).Perm l:=by
 obtain⟨hi,rfl⟩:=XA.1 d;obtain⟨c,rfl⟩:=XA.1 hb;exact List.set_set_perm hi c
theorem Ga{base:Nat}{ps:List HS}(H:qv W base hb v ps){p q:HS}(k:x=i)(g:y=j)(hi:ps[i]?=some p)(d:ps[j]?=some q)(c:p.2.entries≠[])(b:q.2.entries≠[])(l:ps.length<1048576)(f:∀ p∈ps,p.2.age<4611686018427387904) :
 Calls prog 298 #[v,.int .i64 x,.int .i64 y] W fun e w'=>e = .returned (.bool (p.2.less q.2))/\ja W w' (fun _=>False):=by
 subst k g;exact jb7 H hi d c b l ⟨f p (XU hi),f q (XU d)⟩
theorem Dn{base:Nat}{ps:List HS}(H:qv W base hb v ps){p q:HS}(c:x=i)(b:y=j)(hi:ps[i]?=some p)(f:ps[j]?=some q)(d:ps.length<1048576) :
 Calls prog 301 #[v,.int .i64 x,.int .i64 y] W fun e w'=>e = .returned (.tuple #[])/\qv w' base hb v ((ps.set i q).set j p)/\ja W w' (fun i=>v.ownBlock=some i):=by
 subst c b;exact jal H hi f d
theorem je9{base:Nat}{ps:List HS}(H:qv W base hb v ps)(u:∀ p∈ps,p.2.entries≠[])(U:Rf.ij (xr ps) j)(z:j<ps.length)(L:ps.length<1048576)(A:∀ p∈ps,p.2.age<4611686018427387904) :
 Calls prog 233 #[Gd hb,ju j] W fun e w'=>e = .returned (.tuple #[])/\∃ qs,qs.Perm ps/\qv w' base hb v qs/\Rf.Jv (xr qs) qs.length/\ja W w' (fun i=>v.ownBlock=some i):=by
 go_enter func233,ntmps233;go_wp2_with fail
 go_loopw [1] (fun jv wr=>∃(k:Nat) (qs:List HS),jv = .int .i64 k/\k<ps.length/\qs.Perm ps/\qv wr base hb v qs/\Rf.ij (xr qs) k/\ja W wr (fun i=>v.ownBlock=some i))
  (fun jv _=>(intOf jv).toNat)
 case atStart=>exact⟨j,ps,rfl,z,List.Perm.refl _,H,U,ja.refl _ _⟩
 case round =>
  obtain⟨k,qs,rfl,M,c,m,o,d⟩:=hrel;have E:qs.length=ps.length:=c.length_eq;by_cases h0:k=0
  ·subst h0
   go_wp2;go_end0;refine⟨rfl,qs,c,m,?_,d⟩;have:=o.done (.inl rfl);unfold xr at this ⊢;rwa [ZM] at this
  ·have D:((((k:Int)-1)/2)==(k:Int))=false:=by rw[beq_eq_false_iff_ne];omega
   obtain⟨q,x⟩:∃ q,qs[k]?=some q:=⟨_,zL (by omega)⟩;obtain⟨p,l⟩:∃ p,qs[(k-1)/2]?=some p:=⟨_,zL (by omega)⟩;have J:=ub m.cell;have B:1<=k:=by omega
   have t:∀ p∈qs,p.2.age<4611686018427387904:=fun p h=>A p (c.mem_iff.1 h);have b:qs.length<1048576:=by omega
   have f:=jb x;have g:=jb l;clear h0 x l;go_wp2_with fail;refine(Ga m (i:=k) (j:=(k-1)/2) rfl (by omega) f.out g.out (u q (c.mem_iff.1 (XU f.out))) (u p (c.mem_iff.1 (XU g.out))) b t).mono ?_;rintro e G ⟨rfl,n⟩;have s:=m.same n
   cases hb0:q.2.less p.2 with
   | false =>
    have r:=jb hb0;clear hb0;go_wp2;go_end0;refine⟨rfl,qs,c,s,?_,d.trans n (fun _ _ h=>h.elim)⟩;have:=o.done (.inr ⟨p.2,q.2,Qa g.out,Qa f.out,r.out⟩);unfold xr at this ⊢;rwa [ZM] at this
   | true =>
    have r:=jb hb0;clear hb0;have I:=bp s.cell;go_wp2_with fail;refine(Dn s (i:=(k-1)/2) (j:=k) (by omega) rfl g.out f.out b).mono ?_;rintro e F ⟨rfl,C,y⟩;go_wp2;go_roundw
    case rel =>
     refine⟨(k-1)/2,_,by rw[show((k:Int)-1)/2=(((k-1)/2:Nat):Int) by omega],by omega,(Yl g.out f.out).trans c,C,?_,(d.trans n (fun _ _ h=>h.elim)).tt y⟩;rw[gj];exact o.step B (Qa g.out) (Qa f.out) r.out
    case measure=>simp[intOf];omega
theorem ir{c:List HS}{p q:HS}(h:∀ k p,k<n->c[k]?=some p->p.2.entries≠[])(hi:i<n)(l:j<n)(f:c[i]?=some p)(d:c[j]?=some q):∀ k x,k<n->((c.set i q).set j p)[k]?=some x->x.2.entries≠[]:=by
 intro k x g b;have o:=(XA.1 f).1;have m:=(XA.1 d).1;by_cases e:k=j
 ·subst e
  rw[XP (by rw[XK];exact m)] at b;cases b;exact h i p hi f
 ·rw[XO (by omega)] at b
  by_cases e2:k=i
  ·subst e2
   rw[XP o] at b;cases b;exact h j q l d
  ·rw[XO (by omega)] at b
   exact h k x g b
def P4(W:World)(base hb:Nat)(v:Value)(ps:List HS)(n:Nat)(e:Ending)(w':World):Prop :=
 ∃(mv:Bool) (qs:List HS),e = .returned (.bool mv)/\qs.Perm ps/\qv w' base hb v qs/\Rf.Jv (xr qs) n/\(∀ k,n<=k->qs[k]?=ps[k]?)/\ja W w' (fun i=>v.ownBlock=some i)
theorem jcs{base:Nat}{ps:List HS}(H:qv W base hb v ps)(hs:∀ k p,k<n->ps[k]?=some p->p.2.entries≠[])(U:Rf.J4 (xr ps) 0 n)(hn:n<=ps.length)(hl:ps.length<1048576)(ha:∀ p∈ps,p.2.age<4611686018427387904) :
 Calls prog 234 #[Gd hb,.int .i64 0,ju n] W (P4 W base hb v ps n):=by
 go_enter func234,ntmps234;go_wp2_with fail
 go_loopw [7] (fun iv wr=>∃(k:Nat) (o:List HS),iv = .int .i64 k/\k<=ps.length/\o.Perm ps/\qv wr base hb v o/\Rf.J4 (xr o) k n/\(∀ k,n<=k->o[k]?=ps[k]?)/\(∀ k p,k<n->o[k]?=some p->p.2.entries≠[])/\ja W wr (fun i=>v.ownBlock=some i))
  (fun iv _=>ps.length-(intOf iv).toNat)
 case atStart=>exact⟨0,ps,rfl,zU _,List.Perm.refl _,H,U,fun _ _=>rfl,hs,ja.refl _ _⟩
 case round =>
  obtain⟨k,o,rfl,hk,E,I,G,D,R,t⟩:=hrel;have a6:o.length=ps.length:=E.length_eq;have F:∀ p∈o,p.2.age<4611686018427387904:=fun p h=>ha p (E.mem_iff.1 h);have g:o.length<1048576:=by omega
  have u:=jb D;have d:=jb R;clear D R;by_cases h1:n<=2*k+1
  ·have V:(n:Int)<=2*(k:Int)+1:=by omega
   go_wp2;go_ret;exact⟨_,o,rfl,E,I,G.none h1,u.out,t⟩
  ·have V:2*(k:Int)+1<(n:Int):=by omega
   obtain⟨p,S⟩:∃ p,o[k]?=some p:=⟨_,zL (by omega)⟩;obtain⟨q,hq⟩:∃ q,o[2*k+1]?=some q:=⟨_,zL (by omega)⟩;have mL:=ub I.cell;have l:=jb S;have s:=jb hq;clear S hq;by_cases h2:2*k+2<n
   ·have T:2*(k:Int)+1+1<(n:Int):=by omega
    obtain⟨r,hr⟩:∃ r,o[2*k+2]?=some r:=⟨_,zL (by omega)⟩;have B:=jb hr;clear hr;go_wp2_with fail;refine(Ga I (i:=2*k+2) (j:=2*k+1) (by omega) (by omega) B.out s.out (d.out _ r h2 B.out) (d.out _ q (by omega) s.out) g F).mono ?_;rintro e w4 ⟨rfl,L⟩;have O:=I.same L;have a4:=ub O.cell
    cases hb4:r.2.less q.2 with
    | true =>
     have b:Hid (∀ m c,(m=2*k+1\/m=2*k+2)->m<n->(xr o)[m]?=some c->r.2.le c):=by
      intro m c A _ M;obtain⟨x,y,rfl⟩:=Dv M;rcases A with rfl|rfl
      ·rw[s.out] at y;cases y;exact Rf.Source.ue hb4
      ·rw[B.out] at y;cases y;exact Rf.Source.le_refl _
     clear hb4;go_wp2_with fail;refine(Ga O (i:=2*k+2) (j:=k) (by omega) rfl B.out l.out (d.out _ r (by omega) B.out) (d.out _ p (by omega) l.out) g F).mono ?_;rintro e Y ⟨rfl,z⟩;have C:=O.same z
     cases hb5:r.2.less p.2 with
     | false =>
      have f:=jb hb5;clear hb5;go_wp2;go_ret;exact⟨_,o,rfl,E,C,G.done (j:=2*k+2) (by omega) (by omega) (Qa l.out) (Qa B.out) f.out b.out,u.out,t.trans (L.tt z) (fun _ _ h=>h.elim)⟩
     | true =>
      have f:=jb hb5;clear hb5;have Z:=bp C.cell;go_wp2_with fail;refine(Dn C (i:=k) (j:=2*k+2) rfl (by omega) l.out B.out g).mono ?_;rintro e X ⟨rfl,N,J⟩;go_wp2;go_roundw
      case rel =>
       refine⟨2*k+2,_,by first|(congr 1;done)|(congr 1;omega),by omega,(Yl l.out B.out).trans E,N,?_,fun m A=>?_,ir d.out (by omega) (by omega) l.out B.out,(t.trans (L.tt z) (fun _ _ h=>h.elim)).tt J⟩
       ·rw[gj]
        exact G.step (j:=2*k+2) (by omega) (by omega) (Qa l.out) (Qa B.out) f.out b.out
       ·rw[XO (by omega),XO (by omega)]
        exact u.out m A
      case measure=>simp[intOf];omega
    | false =>
     have b:Hid (∀ m c,(m=2*k+1\/m=2*k+2)->m<n->(xr o)[m]?=some c->q.2.le c):=by
      intro m c A _ M;obtain⟨x,y,rfl⟩:=Dv M;rcases A with rfl|rfl
      ·rw[s.out] at y;cases y;exact Rf.Source.le_refl _
      ·rw[B.out] at y;cases y;exact hb4
     clear hb4;go_wp2_with fail;refine(Ga O (i:=2*k+1) (j:=k) (by omega) rfl s.out l.out (d.out _ q (by omega) s.out) (d.out _ p (by omega) l.out) g F).mono ?_;rintro e Y ⟨rfl,z⟩;have C:=O.same z
     cases hb5:q.2.less p.2 with
     | false =>
      have f:=jb hb5;clear hb5;go_wp2;go_ret;exact⟨_,o,rfl,E,C,G.done (j:=2*k+1) (by omega) (by omega) (Qa l.out) (Qa s.out) f.out b.out,u.out,t.trans (L.tt z) (fun _ _ h=>h.elim)⟩
     | true =>
      have f:=jb hb5;clear hb5;have Z:=bp C.cell;go_wp2_with fail;refine(Dn C (i:=k) (j:=2*k+1) rfl (by omega) l.out s.out g).mono ?_;rintro e X ⟨rfl,N,J⟩;go_wp2;go_roundw
      case rel =>
       refine⟨2*k+1,_,by first|(congr 1;done)|(congr 1;omega),by omega,(Yl l.out s.out).trans E,N,?_,fun m A=>?_,ir d.out (by omega) (by omega) l.out s.out,(t.trans (L.tt z) (fun _ _ h=>h.elim)).tt J⟩
       ·rw[gj]
        exact G.step (j:=2*k+1) (by omega) (by omega) (Qa l.out) (Qa s.out) f.out b.out
       ·rw[XO (by omega),XO (by omega)]
        exact u.out m A
      case measure=>simp[intOf];omega
   ·have T:decide (2*(k:Int)+1+1<(n:Int))=false:=by simp;omega
    have b:Hid (∀ m c,(m=2*k+1\/m=2*k+2)->m<n->(xr o)[m]?=some c->q.2.le c):=by
     intro m c A a5 M;obtain⟨x,y,rfl⟩:=Dv M;rcases A with rfl|rfl
     ·rw[s.out] at y;cases y;exact Rf.Source.le_refl _
     ·omega
    go_wp2_with fail;refine(Ga I (i:=2*k+1) (j:=k) (by omega) rfl s.out l.out (d.out _ q (by omega) s.out) (d.out _ p (by omega) l.out) g F).mono ?_;rintro e Y ⟨rfl,z⟩;have C:=I.same z
    cases hb5:q.2.less p.2 with
    | false =>
     have f:=jb hb5;clear hb5;go_wp2;go_ret;exact⟨_,o,rfl,E,C,G.done (j:=2*k+1) (by omega) (by omega) (Qa l.out) (Qa s.out) f.out b.out,u.out,t.trans z (fun _ _ h=>h.elim)⟩
    | true =>
     have f:=jb hb5;clear hb5;have Z:=bp C.cell;go_wp2_with fail;refine(Dn C (i:=k) (j:=2*k+1) rfl (by omega) l.out s.out g).mono ?_;rintro e X ⟨rfl,N,J⟩;go_wp2;go_roundw
     case rel =>
      refine⟨2*k+1,_,by first|(congr 1;done)|(congr 1;omega),by omega,(Yl l.out s.out).trans E,N,?_,fun m A=>?_,ir d.out (by omega) (by omega) l.out s.out,(t.trans z (fun _ _ h=>h.elim)).tt J⟩
      ·rw[gj]
       exact G.step (j:=2*k+1) (by omega) (by omega) (Qa l.out) (Qa s.out) f.out b.out
      ·rw[XO (by omega),XO (by omega)]
       exact u.out m A
     case measure=>simp[intOf];omega
theorem jac(v:Value)(b:TypeId)(w:World):(Instr.typeAssert (.iface 288 v) b 288 false).run prog w = .ok v w:=by kernel_rfl
def jgd:Value:= .agg #[.slice none 0 0,.int .i64 0]
theorem Tryz.jeg:(prog.info? 288).map (fun i=>(i.zero,i.size,i.bytes))=some (some jgd,2,32):=by kernel_rfl
theorem Lf(ps:List HS)(f:∀ p∈ps,∃ a b c,p.1 = .slice a b c):∀ u∈yr ps,u.oneCell'=true:=by
 intro u d;simp only[yr,List.mem_flatMap] at d;obtain⟨p,g,d⟩:=d;obtain⟨a,b,c,e⟩:=f p g;simp at d;rcases d with rfl|rfl
 ·rw[e];rfl
 ·rfl
theorem r9(ps:List HS)(p:HS):yr (ps++[p])=yr ps++yr [p]:=by simp[yr]
def jc8(W:World)(base hb:Nat)(v:Value)(ps:List HS)(p:HS)(w':World)(v':Value):Prop :=
 qv w' base hb v' (ps++[p])/\(v'.ownBlock=v.ownBlock\/∃ g,v'.ownBlock=some g/\W.heap.size<=g)/\ja W w' (fun i=>i=hb\/v.ownBlock=some i)
theorem jbg{base:Nat}{ps:List HS}(H:qv W base hb v ps)(hs:∀ p∈ps,p.2.entries≠[])(p:HS)(G:Chs W p.1 p.2.entries)(I:p.2.entries≠[])(L:∀ ad n c,p.1 = .slice (some ad) n c->ad.block≠hb/\v.ownBlock≠some ad.block)(hl:ps.length+1<1048576)(a0:base<=W.heap.size) :
 Calls prog 300 #[.pointer (some ⟨hb,0,none⟩),.iface 288 (.agg #[p.1,ju p.2.age])] W fun e w'=>e = .returned (.tuple #[])/\∃ v',jc8 W base hb v ps p w' v':=by
 obtain⟨j0,hj,S,R,O⟩:=info_parts Tryz.jeg;obtain⟨pv,cv,rfl⟩:=jj H.row;have c0:=H.cell;have f0:=zB (o:=0) H.box;have s:=jb H;clear H;obtain⟨pl,sc⟩:=p;obtain⟨l,C⟩:=sc;simp only at G I L ⊢;obtain⟨B,pc,rfl,_⟩:=id G;have D:=jb (s.out.row.alloc (.cells #[.slice B l.length pc,ju C] 288));have y:∀ j u,(yr [((.slice B l.length pc,⟨l,C⟩):HS)])[j]?=some u->(W.alloc (.cells #[.slice B l.length pc,ju C] 288)).cell? ((⟨W.heap.size,0,none⟩:Addr).add j)=some u:=Jt (je W _) rfl;have t:=Lf [((.slice B l.length pc,⟨l,C⟩):HS)] (fun p G=>by simp at G;subst G;exact⟨_,_,_,rfl⟩);have X:Hid (ps.length+1<=maxLen):=by unfold Hid maxLen;omega
 have U:Hid ((ps.length+1)*32<=140737488355328):=by unfold Hid;omega
 have V:Hid (base<=(W.alloc (.cells #[.slice B l.length pc,ju C] 288)).heap.size):=by unfold Hid;simp;omega
 have HN:=jb y;have HO:=jb t;clear y t
 have A:∀ r:World,(W.alloc (.cells #[.slice B l.length pc,ju C] 288)).drew.grownBy r (Value.slice pv ps.length cv).ownBlock->r.heap[hb]?=some (.cells #[.slice pv ps.length cv] 285 (0,0)):=fun r hg =>
  (ja.grown hg).same ((ja.alloc W _ (fun _=>False)).draw.same s.out.box id) (fun e=>s.out.ne e.symm)
 have Z:=jb A;clear A;have ab:=jac;have ae:∀ x,(W.alloc x).cell? ⟨hb,0,none⟩=some (.slice pv ps.length cv):=fun x=>(Q6 s.out.box x).trans rfl;go_enter func300,ntmps300;go_wp2_with fail
 go_region_law (
  refine xu rfl (.tmp 7) (.tmp 10) 285 rfl base 288 j0 jgd 2 32 underlying285 hj S R O rfl (ZG 1) (.slice pv ps.length cv) ps.length (yr ps) rfl D.out ⟨W.heap.size,0,none⟩ 1 1 (yr [((.slice B l.length pc,⟨l,C⟩):HS)]) rfl rfl HN.out HO.out X.out U.out V.out ?_
  intro p2 b r E J F
  have M:=Z.out r J
  have e0:=zA (o:=0) M
  have ef:=zB (o:=0) M
  simp at e0
  have Y:=jb M
  clear M)
 all_goals
  go_wp2;go_end0;have k2:ja W r (fun i=>(Value.slice pv ps.length cv).ownBlock=some i):=(((ja.alloc W _ (fun _=>False)).draw).up).trans (ja.grown J) (fun i _ e=>e.symm);have N:=ja.setCell r ⟨hb,0,none⟩ (.slice p2 (ps.length+1) b)
  have f:(Value.slice p2 (ps.length+1) b).ownBlock=(Value.slice pv ps.length cv).ownBlock\/∃ g,(Value.slice p2 (ps.length+1) b).ownBlock=some g/\W.heap.size<=g:=by
   rcases F with h|h
   ·exact .inl h
   ·exact .inr ⟨_,h,by simp⟩
  have ac:=zC s.out.box
  have z:(Value.slice p2 (ps.length+1) b).ownBlock≠some hb:=by
   rcases f with h|⟨g,h,h5⟩
   ·rw[h];exact s.out.ne
   ·rw[h];intro e;cases e;omega
  have k:∀ q:HS,Chs W q.1 q.2.entries->q.2.entries≠[]->(∀ ad n c,q.1 = .slice (some ad) n c->ad.block≠hb/\(Value.slice pv ps.length cv).ownBlock≠some ad.block)->Chs (r.setCell ⟨hb,0,none⟩ (.slice p2 (ps.length+1) b)) q.1 q.2.entries/\∀ ad n c,q.1 = .slice (some ad) n c->ad.block≠hb/\(Value.slice p2 (ps.length+1) b).ownBlock≠some ad.block:=by
   intro q d T m;refine⟨(d.keep k2 (fun _ ad n c e=>(m ad n c e).2)).keep N (fun _ ad n c e=>(m ad n c e).1),fun ad n c e=>⟨(m ad n c e).1,?_⟩⟩;rcases f with h|⟨g,h,h5⟩
   ·rw[h];exact(m ad n c e).2
   ·rw[h];intro e2;cases e2
    rw[e] at d;have:=d.lt T;omega
  refine⟨rfl,_,⟨(jc Y.out _).trans rfl,?_,z,?_⟩,f,(k2.mono (fun _ _ h=> .inr h)).trans N (fun _ _ h=> .inl h)⟩
  ·rw[ZY,xC,r9]
   exact N.row E (fun g hg e=>z (by rw[hg,e]))
  ·intro q d
   rcases ZD.1 d with d|d
   ·exact k q (s.out.has q d).1 (hs q d) (s.out.has q d).2
   ·rw[ZE.1 d]
    exact k _ G I L
def Hd(W:World)(base hb:Nat)(v:Value)(ps:List HS)(w':World):Prop :=
 ∃ v' qs,qs.Perm ps/\qv w' base hb v' qs/\Rf.Jv (xr qs) qs.length/\(v'.ownBlock=v.ownBlock\/∃ g,v'.ownBlock=some g/\W.heap.size<=g)/\ja W w' (fun i=>i=hb\/v.ownBlock=some i)
theorem X9(ps:List HS):(xr ps).length=ps.length:=by simp[xr]
theorem Nc(ps:List HS)(p:HS):xr (ps++[p])=xr ps++[p.2]:=by simp[xr]
theorem qv.slice{base:Nat}{ps:List HS}(h:qv W base hb v ps):∃ a c,v = .slice a ps.length c:=jj h.row
theorem jga{base:Nat}{ps:List HS}(b:x=j)(H:qv W base hb v ps)(c:∀ p∈ps,p.2.entries≠[])(U:Rf.ij (xr ps) j)(f:j<ps.length)(d:ps.length<1048576)(g:∀ p∈ps,p.2.age<4611686018427387904) :
 Calls prog 233 #[Gd hb,.int .i64 x] W fun e w'=>e = .returned (.tuple #[])/\∃ qs,qs.Perm ps/\qv w' base hb v qs/\Rf.Jv (xr qs) qs.length/\ja W w' (fun i=>v.ownBlock=some i):=by
 subst b;exact je9 H c U f d g
theorem jcr{base:Nat}{ps:List HS}(b:x=n)(H:qv W base hb v ps)(c:∀ k p,k<n->ps[k]?=some p->p.2.entries≠[])(U:Rf.J4 (xr ps) 0 n)(d:n<=ps.length)(f:ps.length<1048576)(g:∀ p∈ps,p.2.age<4611686018427387904) :
 Calls prog 234 #[Gd hb,.int .i64 0,.int .i64 x] W (P4 W base hb v ps n):=by
 subst b;exact jcs H c U d f g
theorem Me{base:Nat}{ps:List HS}(H:qv W base hb v ps)(t:∀ p∈ps,p.2.entries≠[])(J:Rf.Jv (xr ps) ps.length)(p:HS)(u:Chs W p.1 p.2.entries)(f:p.2.entries≠[])(r:∀ ad n c,p.1 = .slice (some ad) n c->ad.block≠hb/\v.ownBlock≠some ad.block)(D:ps.length+1<1048576)(d:base<=W.heap.size)(y:∀ q∈ps++[p],q.2.age<4611686018427387904) :
 Calls prog 209 #[Gd hb,.iface 288 (.agg #[p.1,ju p.2.age])] W fun e w'=>e = .returned (.tuple #[])/\Hd W base hb v (ps++[p]) w':=by
 have U:=Sd;have L:=jb u;have N:=jb H;clear H u;go_enter func209,ntmps209;go_wp2_with fail;refine(jbg N.out t p L.out f r D d).mono ?_;rintro e z ⟨rfl,v1,k,b,C⟩;obtain⟨F,E,rfl⟩:=k.slice;have V:=A5 k.cell;go_wp2_with fail;refine(wk F (ps.length+1) E z (by omega)).mono ?_;rintro e T ⟨rfl,rfl⟩
 have I:Hid (Rf.ij (xr (ps++[p])) ps.length):=by
  unfold Hid;rw[Nc];have:=Rf.ij.start (x:=p.2) (l:=xr ps) (by rw[X9];exact J);rwa [X9] at this
 have M:Hid ((ps++[p]).length<1048576):=by unfold Hid;simp;omega
 have O:=jb y;have s:=jb k;clear y k;go_wp2_with fail;refine(jga (j:=ps.length) (by omega) s.out (fun q m=>(ZD.1 m).elim (t q) (fun h=>by rw[ZE.1 h];exact f)) I.out (by simp) M.out O.out).mono ?_;rintro e S ⟨rfl,A,m,R,G,B⟩;go_wp2;go_end0;refine⟨rfl,_,A,m,R,G,b,C.trans B (fun i hi h=>?_)⟩;rcases b with o|⟨g,o,X⟩
 ·exact .inr (o▸h)
 ·rw[o] at h;cases h;omega
def jey(W:World)(base hb:Nat)(v:Value)(rs:List HS)(e:Ending)(w':World):Prop :=
 (∃ u,e = .returned u)/\∃ v',qv w' base hb v' rs/\v'.ownBlock=v.ownBlock/\ja W w' (fun i=>i=hb)
theorem jd0{base:Nat}{rs:List HS}{x:HS}(H:qv W base hb v (rs++[x]))(U:rs.length<1048576) :
 Calls prog 299 #[.pointer (some ⟨hb,0,none⟩)] W (jey W base hb v rs):=by
 obtain⟨g,cap,rfl,l,M,Y⟩:=H.src (k:=rs.length) (p:=x) (by simp);have b:(rs++[x]).length=rs.length+1:=by simp
 rw[b] at l;obtain⟨z,A,J,_⟩:=(H.has x (by simp)).1;rw[J] at M;have L:=H.cell;rw[b] at L;have X:=zB (o:=0) H.box;have f:=jb H;clear H;generalize x.2.entries.length=xn at *
 generalize x.2.age=xa at *
 have d:∀ o,(W.alloc o).heap[hb]?=some (.cells #[.slice (some ⟨g,0,none⟩) (rs.length+1) cap] 285 (0,0)):=fun o=>by
  have:=(ja.alloc W o (fun _=>False)).same f.out.box id;rwa [b] at this
 have R:∀ o,(W.alloc o).cell? ⟨hb,0,none⟩=some (.slice (some ⟨g,0,none⟩) (rs.length+1) cap):=fun o=>(zA (d o)).trans rfl;have O:∀ o,(W.alloc o).frozen? ⟨hb,0,none⟩=false:=fun o=>zB (d o);have Z:=jb d;clear d;have N:=zC f.out.box;have T:¬W.heap.size=hb:=by omega
 have S:¬hb=W.heap.size:=by omega
 go_enter func299,ntmps299;go_wp2;go_ret;have m:ja W ((W.setCell ⟨hb,0,none⟩ (.slice (some ⟨g,0,none⟩) rs.length cap)).alloc (.cells #[.slice z xn A,ju xa] 288)) (fun i=>i=hb):=((ja.refl W (fun i=>i=hb)).set (p:=⟨hb,0,none⟩) rfl _).more _;have s:=f.out.box;refine⟨⟨_,rfl⟩,.slice (some ⟨g,0,none⟩) rs.length cap,⟨(ja.alloc _ _ (fun _=>False)).same ((jc s _).trans rfl) id,?_,f.out.ne,fun q hq=>?_⟩,rfl,m⟩
 ·have B:=m.row f.out.row (fun I hg e=>f.out.ne (by rw[hg,e]))
  rcases B.2 with⟨r,_⟩|⟨I,y,t,r,G,F,V,E,D,C⟩
  ·cases r
  ·cases r
   refine⟨Zu rs,.inr ⟨g,cap,t,rfl,G,F,by omega,E,D,?_⟩⟩;have u:=congrArg (List.take (rs.length*2)) C;rw[List.take_take,b,XI (by omega),r9] at u;rw[u,XH (by rw[Zu];omega)];exact ZO (by rw[Zu];omega)
 ·have j:=f.out.has q (List.mem_append_left _ hq)
  exact⟨j.1.keep m (fun _ ad n c e=>(j.2 ad n c e).1),j.2⟩
theorem O3{base:Nat}{s0:HS}{rs:List HS}(H:qv W base hb v (s0::rs))(hs:∀ p∈rs,p.2.entries≠[])(hd:Rf.J4 (xr (s0::rs)) 0 (s0::rs).length)(F:(s0::rs).length<1048576)(ha:∀ q∈s0::rs,q.2.age<4611686018427387904) :
 Calls prog 211 #[Gd hb] W fun e w'=>(∃ u,e = .returned u)/\Hd W base hb v rs w':=by
 obtain⟨a1,c1,rfl⟩:=H.slice;have mN:=A5 H.cell;have mS:=bp H.cell;obtain⟨x,Z⟩:∃ x,(s0::rs)[rs.length]?=some x:=⟨_,zL (by simp)⟩;have G:=jb Z;have HH:=jb H;have HA:=jb ha;have HL:=jb F;simp only[zX] at F;clear Z H ha;go_enter func211,ntmps211;go_wp2_with fail;refine(wk a1 (rs.length+1) c1 W (by omega)).mono ?_;rintro e w1 ⟨rfl,rfl⟩;go_wp2_with fail;refine(Dn HH.out (i:=0) (j:=rs.length) rfl rfl (p:=s0) (q:=x) rfl G.out HL.out).mono ?_;rintro e w2 ⟨rfl,H2,k2⟩;have g:(((s0::rs).set 0 x).set rs.length s0).length=rs.length+1:=by simp
 have f:(((s0::rs).set 0 x).set rs.length s0).Perm (s0::rs):=Yl rfl G.out;have l:(((s0::rs).set 0 x).set rs.length s0)[rs.length]?=some s0:=by rw[XP (by simp)]
 have m:Rf.J4 (xr (((s0::rs).set 0 x).set rs.length s0)) 0 rs.length:=by
  refine⟨fun k a b D hk hne y t=>?_,fun k a b D hk hi _ _ _=>by omega⟩;rw[gj,XO (by omega),XO (by omega)] at y t;exact hd.other k a b D (by simp;omega) hne y t
 have d:∀ k p,k<rs.length->(((s0::rs).set 0 x).set rs.length s0)[k]?=some p->p.2.entries≠[]:=by
  intro k p hk n;rw[XO (by omega)] at n;have z:=G.out;by_cases e:k=0
  ·subst e
   rw[XP (by simp)] at n;cases n;refine hs _ (XU (i:=rs.length-1) ?_);rw[show rs.length=(rs.length-1)+1 by omega,yC] at z;exact z
  ·rw[XO (by omega),show k=(k-1)+1 by omega,yC] at n
   exact hs p (XU n)
 generalize hL:((s0::rs).set 0 x).set rs.length s0=L at *
 have HD:=jb m;have R:=jb d;have C:=jb f;have U:=jb l;have s:=jb g;have Y:=jb H2;have V:Hid (∀ p∈L,p.2.age<4611686018427387904):=fun p n=>HA.out p (C.out.mem_iff.1 n);have S:Hid (L.length<1048576):=by unfold Hid;rw[s.out];exact F
 have T:Hid (rs.length<=L.length):=by unfold Hid;rw[s.out];omega
 clear hL m d f l g H2;go_wp2_with fail;refine(jcr rfl Y.out R.out HD.out T.out S.out V.out).mono ?_;rintro e w3 ⟨mv,c,rfl,E,I,T3,A,k3⟩;have M:c.length=rs.length+1:=by rw[E.length_eq,s.out]
 have o:c=c.take rs.length++[s0]:=by
  have h5:c[rs.length]?=some s0:=(A _ (xA _)).trans U.out;have h6:c.take (rs.length+1)=c.take rs.length++[s0]:=by rw[zY,h5];rfl
  rw[ZO (by omega)] at h6;exact h6
 have r:(c.take rs.length).Perm rs:=by
  have h7:c.Perm (s0::rs):=E.trans C.out;rw[o] at h7;exact((List.perm_append_singleton s0 (c.take rs.length)).symm.trans h7).cons_inv
 have hT:Rf.Jv (xr (c.take rs.length)) (c.take rs.length).length:=by
  rw[r.length_eq];intro j a b D hj y t
  have e5:∀ i,i<rs.length->(xr (c.take rs.length))[i]?=(xr c)[i]?:=fun i hi=>by
   unfold xr;rw[zJ,zJ,List.getElem?_take_of_lt hi]
  rw[e5 _ (by omega)] at y;rw[e5 _ hj] at t;exact T3 j a b D hj y t
 rw[o] at I;have B:=jb r;have N:=jb hT;have X:=jb I;have O:Hid ((c.take rs.length).length<1048576):=by unfold Hid;rw[B.out.length_eq];omega
 clear M o r hT I T3 A E;have mP:=Vv;go_wp2_with fail;refine(jd0 X.out O.out).mono ?_;rintro e w4 ⟨⟨u,rfl⟩,v4,H4,J,k4⟩;go_wp2;go_ret;refine⟨⟨_,rfl⟩,v4,_,B.out,H4,N.out,.inl J,?_⟩;exact((k2.mono (fun _ _ h=> .inr h)).trans k3 (fun _ _ h=> .inr h)).trans k4 (fun _ _ h=> .inl h)
theorem O4{base:Nat}{ps:List HS}(H:qv W base hb v ps)(u:∀ p∈ps,p.2.entries≠[])(G:Rf.J4 (xr ps) 0 ps.length)(B:0<ps.length)(F:ps.length<1048576)(x:∀ q∈ps,q.2.age<4611686018427387904) :
 Calls prog 210 #[Gd hb,.int .i64 0] W fun e w'=>e = .returned (.tuple #[])/\Hd W base hb v ps w':=by
 obtain⟨J,I,rfl⟩:=H.slice;have U:=A5 H.cell;have N:=jb H;have z:=jb x;clear H x;go_enter func210,ntmps210;go_wp2_with fail;refine(wk J ps.length I W (by omega)).mono ?_;rintro e T ⟨rfl,rfl⟩;go_wp2_with fail;refine(jcr rfl N.out (fun k p _ h=>u p (XU h)) G (xA _) F z.out).mono ?_;rintro e S ⟨C,c,rfl,i,A,l,m,t⟩;have n:=i.length_eq;rw[<-n] at l;have g:=jb i;have f:=jb A;have y:=jb l;clear i A l m
 cases C with
 | true =>
  go_wp2;go_end0;exact⟨rfl,_,c,g.out,f.out,y.out,.inl rfl,t.mono (fun _ _ h=> .inr h)⟩
 | false =>
  have d:Rf.ij (xr c) 0:=by
   refine⟨fun k a b h0 hk hA hB=>y.out k a b h0 ?_ hA hB,fun k a b h0 h1=>by omega⟩;have:=Rf.Zj hB;rwa [X9] at this
  have M:=jb d;have s:Hid (∀ p∈c,p.2.age<4611686018427387904):=fun p hp=>z.out p (g.out.mem_iff.1 hp);have r:Hid (c.length<1048576):=by unfold Hid;omega
  have o:Hid (0<c.length):=by unfold Hid;omega
  clear d;go_wp2_with fail;refine(jga (j:=0) rfl f.out (fun p h=>u p (g.out.mem_iff.1 h)) M.out o.out r.out s.out).mono ?_;rintro e R ⟨rfl,rs,E,O,L,D⟩;go_wp2;go_end0;exact⟨rfl,_,rs,E.trans g.out,O,L,.inl rfl,(t.mono (fun _ _ h=> .inr h)).trans D (fun _ _ h=> .inr h)⟩
theorem gk(p:HS)(rs:List HS):xr (p::rs)=p.2::xr rs:=rfl
theorem qv.turn{base:Nat}{s0:HS}{rs:List HS}(h:qv W base hb (.slice (Option.some ⟨g,0,none⟩) (s0::rs).length cap) (s0::rs))(u:Value)(q:List Rf.Ch)(x y:Obj)(m:Chs W u q)(b:∀ ad n c,u = .slice (Option.some ad) n c->ad.block≠hb/\g≠ad.block) :
 qv (((W.setCell ⟨g,0,none⟩ u).alloc x).alloc y) base hb (.slice (Option.some ⟨g,0,none⟩) (s0::rs).length cap) ((u,⟨q,s0.2.age⟩)::rs)/\ja W (((W.setCell ⟨g,0,none⟩ u).alloc x).alloc y) (fun i=>i=g):=by
 have k:ja W (((W.setCell ⟨g,0,none⟩ u).alloc x).alloc y) (fun i=>i=g):=(((ja.refl W (fun i=>i=g)).set (p:=⟨g,0,none⟩) rfl _).more _).more _;refine⟨⟨k.same h.box (fun e=>h.ne (by rw[e];rfl)),?_,h.ne,?_⟩,k⟩
 ·have l:=Q8 h.row (j:=0) (by simp) u
  have e:(yr (s0::rs)).set 0 u=yr ((u,⟨q,s0.2.age⟩)::rs):=by simp[yr]
  rw[e] at l;exact((ja.alloc _ x (fun _=>False)).more y).row l (fun _ _=>id)
 ·intro p d
  rcases zH.1 d with rfl|d
  ·refine⟨m.keep k (fun _ ad n c e e2=>(b ad n c e).2 e2.symm),fun ad n c e=>⟨(b ad n c e).1,fun e2=>(b ad n c e).2 (by injection e2)⟩⟩
  ·have f:=h.has p (xI _ d)
   exact⟨f.1.keep k (fun _ ad n c e e2=>(f.2 ad n c e).2 (by rw[<-e2];rfl)),f.2⟩
def jdb(W:World)(base hb:Nat)(v:Value)(s0:HS)(rs:List HS)(c:Rf.Ch)(e:Ending)(w':World):Prop :=
 e = .returned (chV c)/\∃ v' qs,(xr qs).Perm (Rf.taken s0.2 (xr rs))/\qv w' base hb v' qs/\Rf.Jv (xr qs) qs.length/\(v'.ownBlock=v.ownBlock\/∃ g,v'.ownBlock=some g/\W.heap.size<=g)/\ja W w' (fun i=>i=hb\/v.ownBlock=some i) /\
  ∀ p∈qs,∀ ad n c,p.1 = .slice (some ad) n c->∃ p'∈s0::rs,∃ ad' n' c',p'.1 = .slice (some ad') n' c'/\ad'.block=ad.block
theorem Nd{base:Nat}{s0:HS}{rs:List HS}{c:Rf.Ch}{q:List Rf.Ch}(H:qv W base hb v (s0::rs))(hs:∀ p∈s0::rs,p.2.entries≠[])(HT:Rf.Jv (xr (s0::rs)) (s0::rs).length)(he:s0.2.entries=c::q)(hl:(s0::rs).length<1048576)(hq:q.length<1048576)(ha:∀ p∈s0::rs,p.2.age<4611686018427387904) :
 Calls prog 174 #[.pointer (some ⟨hb,0,none⟩)] W (jdb W base hb v s0 rs c):=by
 obtain⟨g,cap,rfl,am,T,a2⟩:=H.src (k:=0) (p:=s0) rfl;have s:=(H.has s0 xJ).1;rw[he] at s;obtain⟨sp,sc,es,b1,bl,b3,b2⟩:=id s;rw[es] at s;obtain⟨b,o,rfl,e0,e1,e2⟩:=s.at (k:=0) (by simp);simp only[List.getElem_cons_zero,Nat.zero_mul,Nat.add_zero] at e0 e1 e2 T a2;have c0:=H.cell;rw[es] at T;simp only[zX] at T c0 am b1 hl;obtain⟨F,cv,G⟩:=c;simp only at e0 e1 e2;have f0:=H.frozen 0;have a9:g≠b:=fun e=>((H.has s0 xJ).2 _ _ _ es).2 (by rw[e];rfl);have al:g≠hb:=fun e=>H.ne (by rw[e];rfl);have U:=jb H;have HE:=jb he;have ag:=jb es;have b5:=jb s;clear H he es s b3 b2;have n1:¬b=g:=fun e=>a9 e.symm;have n2:¬hb=g:=fun e=>al e.symm;have bn:=zC U.out.box;have ak:=zM W _ e0;have aj:=zM W _ T;simp only at ak aj;have kA:∀ x,ja W (W.alloc x) (fun _=>False):=fun x=>ja.alloc W x _;have kB:∀ x y,ja W ((W.alloc x).alloc y) (fun _=>False):=fun x y=>(ja.alloc W x _).more y;have bs:∀ x,(W.alloc x).cell? ⟨hb,0,none⟩=some (.slice (some ⟨g,0,none⟩) (rs.length+1) cap):=fun x=>(kA x).cell c0 id;have bu:∀ x,(W.alloc x).cell? ⟨g,0,none⟩=some (.slice (some ⟨b,o,none⟩) (q.length+1) sc):=fun x=>(kA x).cell T id;have br:∀ x,(W.alloc x).cell? ⟨b,o,none⟩=some (jd F):=fun x=>(kA x).cell e0 id;have bq:∀ x,(W.alloc x).cell? ⟨b,o+1,none⟩=some (jd cv):=fun x=>(kA x).cell e1 id;have bp:∀ x,(W.alloc x).cell? ⟨b,o+2,none⟩=some (.bool G):=fun x=>(kA x).cell e2 id;have bt:∀ x y,((W.alloc x).alloc y).cell? ⟨g,0,none⟩=some (.slice (some ⟨b,o,none⟩) (q.length+1) sc):=fun x y=>(kB x y).cell T id;have bo:∀ x y,((W.alloc x).alloc y).frozen? ⟨g,0,none⟩=false:=fun x y=>(U.out.same (kB x y)).frozen 0;have n3:¬W.heap.size=g:=by omega
 have n4:¬W.heap.size+1=g:=by omega
 have n5:¬g=W.heap.size:=by omega
 have n6:¬g=W.heap.size+1:=by omega
 have a6:∀(u:Value),(∃ o' n c,u = .slice (some ⟨b,o',none⟩) n c)->∀ l n c,u = .slice (some l) n c->l.block≠hb/\g≠l.block:=by
  rintro u ⟨o',n',c',rfl⟩ l n c e;cases e;exact⟨((U.out.has s0 xJ).2 _ _ _ ag.out).1,a9⟩
 have aa:∀ u:Rf.Source,Rf.J4 (u::xr rs) 0 (rs.length+1):=by
  intro u;have:=Rf.J4.start (x:=u) HT;simpa [gk] using this
 have ac:∀(u:Value) (L:List HS) (r:World),ja (((W.setCell ⟨g,0,none⟩ u).alloc (.cells #[jd [],jd [],.bool false] 88)).alloc (.cells #[jd F,jd cv,.bool G] 88)) r (fun i=>i=hb\/(Value.slice (some ⟨g,0,none⟩) (rs.length+1) cap).ownBlock=some i) ->
  r.heap[W.heap.size]?=some (.cells #[jd [],jd [],.bool false] 88 (0,0))/\r.heap[W.heap.size+1]?=some (.cells #[jd F,jd cv,.bool G] 88 (0,0)):=by
  intro u L r E
  have a7:(W.setCell ⟨g,0,none⟩ u).heap.size=W.heap.size:=by simp[World.setCell]
  have t1:=je (W.setCell ⟨g,0,none⟩ u) (.cells #[jd [],jd [],.bool false] 88)
  have t2:=je ((W.setCell ⟨g,0,none⟩ u).alloc (.cells #[jd [],jd [],.bool false] 88)) (.cells #[jd F,jd cv,.bool G] 88)
  rw[a7] at t1
  rw[xO,a7] at t2
  refine⟨E.same ((ja.alloc _ _ (fun _=>False)).same t1 id) ?_,E.same t2 ?_⟩
  ·rintro(h|h)
   ·omega
   ·have h':g=W.heap.size:=by injection h
    omega
  ·rintro(h|h)
   ·omega
   ·have h':g=W.heap.size+1:=by injection h
    omega
 have a8:∀ u x y,ja W (((W.setCell ⟨g,0,none⟩ u).alloc x).alloc y) (fun i=>i=g):=fun u x y=>(((ja.refl W (fun i=>i=g)).set (p:=⟨g,0,none⟩) rfl _).more _).more _
 have ab:∀ p∈rs,∀ l n c,p.1 = .slice (some l) n c->l.block<W.heap.size:=fun p d l n c e=>by
  have h1:=(U.out.has p (xI _ d)).1;rw[e] at h1;exact h1.lt (hs p (xI _ d))
 have af:=jb a8;have ai:=jb ab;clear a8 ab;have I:=jb ac;have ae:=jb a6;have ah:=jb aa;clear ac a6 aa
 cases q with
 | nil =>
  simp only[xU,zP] at *
  have A:Hid (∀ p∈rs,p.2.entries≠[]):=fun p d=>hs p (xI _ d);have N:Hid (Rf.taken s0.2 (xr rs)=xr rs):=by unfold Hid Rf.taken;rw[HE.out];simp
  go_enter func174,ntmps174;go_wp2_with fail
  all_goals
   refine(O3 (s0:=(_,⟨[],s0.2.age⟩)) (U.out.turn _ [] _ _ ⟨_,_,rfl,zU _,by omega,fun h=>(by cases h),fun l h=>⟨(by cases h;rfl),fun j u hu=>(by simp[jg] at hu)⟩⟩ (ae.out _ ⟨_,_,_,rfl⟩)).1 A.out (ah.out _) (by simpa using hl) (fun p d=>?_)).mono ?_
   ·rcases zH.1 d with rfl|d
    ·exact ha s0 xJ
    ·exact ha p (xI _ d)
   ·rintro e r ⟨⟨uu,rfl⟩,v3,qs,t,H3,T3,Z,E⟩
    obtain⟨f,D⟩:=I.out _ rs r E;have y0:=zA (o:=0) D;have y1:=zA (o:=1) D;have y2:=zA (o:=2) D;have Y:=zA (o:=0) f;have X:=zA (o:=1) f;have V:=zA (o:=2) f;have g0:=zB (o:=0) f;have g1:=zB (o:=1) f;have M:=zB (o:=2) f;simp at y0 y1 y2 Y X V;have X0:=jb f;have S:=jb H3;have m:=jb t;have R:=jb T3;have z:=jb Z;clear f D H3 t T3 Z;go_wp2;have kk:ja r (((r.setCell ⟨W.heap.size,0,none⟩ (jd F)).setCell ⟨W.heap.size,1,none⟩ (jd cv)).setCell ⟨W.heap.size,2,none⟩ (.bool G)) (fun i=>i=W.heap.size):=(((ja.refl r (fun i=>i=W.heap.size)).set (p:=⟨W.heap.size,0,none⟩) rfl _).set (p:=⟨W.heap.size,1,none⟩) rfl _).set (p:=⟨W.heap.size,2,none⟩) rfl _
    have B:∀ g',v3.ownBlock=some g'->¬g'=W.heap.size:=fun g' hg' e=>by
     rcases z.out with h|⟨M,h,C⟩
     ·rw[h] at hg'
      have h':g=g':=by injection hg'
      omega
     ·rw[h] at hg'
      cases hg';simp at C;omega
    refine bodyPost_ret (v:=chV ⟨F,cv,G⟩) (by simp[results,Tryz.results174,go_sem,Y,X,V]) rfl ⟨rfl,v3,qs,?_,S.out.keep kk (by omega) B ?_,R.out,?_,?_,?_⟩
    ·rw[N.out];exact m.out.map _
    ·intro p d l n c e C
     have h6:=ai.out p (m.out.mem_iff.1 d) l n c e;omega
    ·rcases z.out with h|⟨M,h,C⟩
     ·exact .inl h
     ·exact .inr ⟨M,h,by simp at C;omega⟩
    ·exact(((af.out _ _ _).mono (fun i _ e=> .inr (by rw[e];rfl))).trans E (fun i _ h=>h)).trans kk (fun i hi e=>by omega)
    ·intro p d l n c e
     exact⟨p,xI _ (m.out.mem_iff.1 d),l,n,c,e,rfl⟩
 | cons c2 q2 =>
  have O:=b5.out.drop (k:=1) (by simp);simp only[zX,List.drop_succ_cons,List.drop_zero,Nat.one_mul,Nat.add_sub_cancel] at O;have b4:=jb O;have bm:q2.length+1<1048576:=by simpa using hq
  simp only[zX] at *
  have A:Hid (∀ u:Value,∀ p∈(((u,⟨c2::q2,s0.2.age⟩):HS)::rs),p.2.entries≠[]):=by
   intro u p d;rcases zH.1 d with rfl|d
   ·simp
   ·exact hs p (xI _ d)
  have N:Hid (Rf.taken s0.2 (xr rs)=⟨c2::q2,s0.2.age⟩::xr rs):=by unfold Hid Rf.taken;rw[HE.out];simp
  clear O;go_enter func174,ntmps174;go_wp2_with fail
  all_goals
   refine(O4 (U.out.turn _ (c2::q2) _ _ b4.out (ae.out _ ⟨_,_,_,rfl⟩)).1 (A.out _) (ah.out _) (by simp) (by simpa using hl) (fun p d=>?_)).mono ?_
   ·rcases zH.1 d with rfl|d
    ·exact ha s0 xJ
    ·exact ha p (xI _ d)
   ·rintro e r ⟨rfl,v3,qs,t,H3,T3,Z,E⟩
    obtain⟨f,D⟩:=I.out _ rs r E;have y0:=zA (o:=0) D;have y1:=zA (o:=1) D;have y2:=zA (o:=2) D;have Y:=zA (o:=0) f;have X:=zA (o:=1) f;have V:=zA (o:=2) f;have g0:=zB (o:=0) f;have g1:=zB (o:=1) f;have M:=zB (o:=2) f;simp at y0 y1 y2 Y X V;have X0:=jb f;have S:=jb H3;have m:=jb t;have R:=jb T3;have z:=jb Z;clear f D H3 t T3 Z;go_wp2;have kk:ja r (((r.setCell ⟨W.heap.size,0,none⟩ (jd F)).setCell ⟨W.heap.size,1,none⟩ (jd cv)).setCell ⟨W.heap.size,2,none⟩ (.bool G)) (fun i=>i=W.heap.size):=(((ja.refl r (fun i=>i=W.heap.size)).set (p:=⟨W.heap.size,0,none⟩) rfl _).set (p:=⟨W.heap.size,1,none⟩) rfl _).set (p:=⟨W.heap.size,2,none⟩) rfl _
    have B:∀ g',v3.ownBlock=some g'->¬g'=W.heap.size:=fun g' hg' e=>by
     rcases z.out with h|⟨M,h,C⟩
     ·rw[h] at hg'
      have h':g=g':=by injection hg'
      omega
     ·rw[h] at hg'
      cases hg';simp at C;omega
    refine bodyPost_ret (v:=chV ⟨F,cv,G⟩) (by simp[results,Tryz.results174,go_sem,Y,X,V]) rfl ⟨rfl,v3,qs,?_,S.out.keep kk (by omega) B ?_,R.out,?_,?_,?_⟩
    ·rw[N.out];exact m.out.map _
    ·intro p d l n c e C
     rcases zH.1 (m.out.mem_iff.1 d)with J|J
     ·rw[J] at e
      cases e;have h8:b=W.heap.size:=C;omega
     ·have h6:=ai.out p J l n c e
      omega
    ·rcases z.out with h|⟨M,h,C⟩
     ·exact .inl h
     ·exact .inr ⟨M,h,by simp at C;omega⟩
    ·exact(((af.out _ _ _).mono (fun i _ e=> .inr (by rw[e];rfl))).trans E (fun i _ h=>h)).trans kk (fun i hi e=>by omega)
    ·intro p d l n c e
     rcases zH.1 (m.out.mem_iff.1 d)with J|J
     ·rw[J] at e
      cases e;exact⟨s0,xJ,_,_,_,ag.out,rfl⟩
     ·exact⟨p,xI _ J,l,n,c,e,rfl⟩
def ig(w:World)(v:Value)(l:List Value):Prop :=
 ∃ p c,v = .slice p l.length c/\l.length<=c/\c<=maxLen/\(p=none->c=0)/\∀ ad,p=some ad->ad.spot=none/\∀ j u,l[j]?=some u->w.cell? (ad.add j)=some u
theorem ig.keep(h:ig w v l)(d:ja w w' T)(f:l≠[]->∀ p n c,v = .slice (some p) n c->¬T p.block):ig w' v l:=by
 obtain⟨p,c,rfl,k,i,g,b⟩:=h;exact⟨p,c,rfl,k,i,g,fun ad e=>⟨(b ad e).1,fun j u hu=>d.cell ((b ad e).2 j u hu) (by rw[Jp];exact f (fun e=>by rw[e] at hu;cases hu) ad _ _ (by rw[e]))⟩⟩
theorem ig.same(h:ig w v l)(b:ja w w' (fun _=>False)):ig w' v l:=h.keep b (fun _ _ _ _ _ h=>h)
theorem ig.at{p:Option Addr}{c:Nat}(h:ig w (.slice p l.length c) l){u:Value}(d:l[k]?=some u):∃ b o,p=some ⟨b,o,none⟩/\w.cell? ⟨b,o+k,none⟩=some u:=by
 obtain⟨m,t,e,r,q,j,i⟩:=h;cases e;have n:=(XA.1 d).1
 cases p with
 | none=>have:=j rfl;omega
 | some ad =>
  obtain⟨b,o,s⟩:=ad;obtain⟨f,g⟩:=i _ rfl;simp only at f;subst f;have:=g _ _ d;rw[Ju] at this;exact⟨b,o,rfl,this⟩
theorem df{base:Nat}(h:w.ownsRow base e 1 v n l)(b:l.length=n):ig w v l:=by
 subst b;rcases h.2 with⟨e,f⟩|⟨g,cap,k,e,_,i,d,c,_⟩
 ·have:l=[]:=xB f
  subst this;rw[e];exact⟨none,0,rfl,xA _,zU _,fun _=>rfl,fun _ h=>by cases h⟩
 ·refine⟨some ⟨g,0,none⟩,cap,e,d,c,(fun h=>by cases h),fun ad had=>?_⟩
  cases had;exact⟨rfl,fun j u hu=>h.cells (by rw[e];rfl) j _ hu⟩
abbrev Jh:=jh->jh×List Rf.Ch×Option Bool
def Zm(hi:Str)(r:jh×List Rf.Ch×Option Bool):Option (List Rf.Ch):=if r.2.2=none\/(Ys hi r.2.1).length<r.2.1.length then some (Ys hi r.2.1)else none
def j2(hi:Str):List Jh->jh->jh×(List (List Rf.Ch) ⊕ Bool)
 | [],S=>(S,.inl [])
 | st::r,S =>
  match Zm hi (st S)with
  | none=>((st S).1,.inr ((st S).2.2.getD false))
  | some l =>
   match j2 hi r (st S).1 with
   | (S2,.inl ls)=>(S2,.inl (l::ls))
   | (S2,.inr b)=>(S2,.inr b)
theorem tf{c:List Jh}{d:Jh}{S f:jh}(h:j2 hi c S=(f,.inl ls)) :
 j2 hi (c++[d]) S=(match Zm hi (d f)with|none=>((d f).1,.inr ((d f).2.2.getD false))|some l=>((d f).1,.inl (ls++[l]))):=by
 induction c generalizing S ls with
 | nil =>
  cases h;simp only[xZ,j2]
 | cons x r ih =>
  rw[xE,j2];rw[j2] at h
  cases hg:Zm hi (x S)with
  | none=>rw[hg] at h;cases h
  | some l =>
   rw[hg] at h;simp only at h ⊢
   cases hr:j2 hi r (x S).1 with
   | mk S2 u =>
    rw[hr] at h
    cases u with
    | inr b=>cases h
    | inl ls2 =>
     cases h;rw[ih hr];cases Zm hi (d f)<;>rfl
theorem Mf{c more:List Jh}{S d:jh}{b:Bool}(h:j2 hi c S=(d,.inr b)):j2 hi (c++more) S=(d,.inr b):=by
 induction c generalizing S with
 | nil=>cases h
 | cons x r ih =>
  rw[xE,j2];rw[j2] at h
  cases hg:Zm hi (x S)with
  | none=>rw[hg] at h;simpa using h
  | some l =>
   rw[hg] at h;simp only at h ⊢
   cases hr:j2 hi r (x S).1 with
   | mk S2 u =>
    rw[hr] at h
    cases u with
    | inr b2=>cases h;rw[ih hr]
    | inl ls2=>cases h
theorem gm(n:Nat)(ls:List (List Rf.Ch))(l:List Rf.Ch):Rf.qk n (ls++[l])=Rf.qk n ls++(if l=[] then [] else [⟨l,n+ls.length⟩]):=by
 induction ls generalizing n with
 | nil =>
  simp only[xZ,Rf.qk,xU,Nat.add_zero]
 | cons x r ih =>
  rw[xE];unfold Rf.qk;rw[ih,zX,show n+1+r.length=n+(r.length+1) by omega]
  split<;>simp
theorem bd(n:Nat)(ls:List (List Rf.Ch)):(Rf.qk n ls).length<=ls.length:=by
 induction ls generalizing n with
 | nil=>exact xA _
 | cons l r ih =>
  have:=ih (n+1);unfold Rf.qk
  split
  ·rw[zX];omega
  ·rw[zX,zX];omega
theorem nd:∀ s∈Rf.qk n ls,s.age<n+ls.length:=by
 induction ls generalizing n with
 | nil=>intro s b;cases b
 | cons l r ih =>
  intro s b;unfold Rf.qk at b;rw[zX]
  split at b
  ·have:=ih s b;omega
  ·rcases zH.1 b with rfl|b
   ·show n<n+(r.length+1);omega
   ·have:=ih s b;omega
theorem mj{c:List Jh}{S d:jh}(h:j2 hi c S=(d,.inl ls)):ls.length=c.length:=by
 induction c generalizing S ls with
 | nil=>cases h;rfl
 | cons x r ih =>
  rw[j2] at h
  cases hg:Zm hi (x S)with
  | none=>rw[hg] at h;cases h
  | some l =>
   rw[hg] at h;simp only at h
   cases hr:j2 hi r (x S).1 with
   | mk S2 u =>
    rw[hr] at h
    cases u with
    | inr b=>cases h
    | inl ls2=>cases h;rw[zX,zX,ih hr]
def gh(P:jh->Prop)(E:Nat->Addr)(B:Nat)(ρ:Nat->jz)(d:Nat)(w:World)(f:Value)(st:Jh):Prop :=
 ∀(hi:Str) (W:World) (S:jh),ja w W (j5 ρ)->Dk E B W ρ d S->P S->P (st S).1/\(st S).2.1.length<1048576/\Calls prog 111 #[f,jd hi] W (ur E B ρ d (st S).1 (st S).2.1 (st S).2.2 hi W)
def jda(P:jh->Prop)(E:Nat->Addr)(B:Nat)(ρ:Nat->jz)(d:Nat)(w:World)(G:jh×(List (List Rf.Ch) ⊕ Bool))(e:Ending)(w':World):Prop :=
 ja w w' (j5 ρ)/\Dk E B w' ρ d G.1/\P G.1 /\
 ((∃ ls hb v qs,G.2 = .inl ls/\e = .returned (.tuple #[.pointer (some ⟨hb,0,none⟩),.nilIface])/\w.heap.size<=hb/\qv w' w.heap.size hb v qs/\Rf.Jv (xr qs) qs.length/\(xr qs).Perm (Rf.qk 0 ls)/\∀ p∈qs,∀ ad n c,p.1 = .slice (some ad) n c->w.heap.size<=ad.block) \/
  (∃ bad ev,G.2 = .inr bad/\e = .returned (.tuple #[.pointer none,ev])/\mx E w' ev bad))
theorem F3{P:jh->Prop}{E:Nat->Addr}{B:Nat}{ρ:Nat->jz}{d:Nat}{S:jh}(D:Dk E B w ρ d S)(Z:P S)(lv:Value)(fs:List Value)(l:List Jh)(hi:Str)(a3:ig w lv fs)(am:fs≠[]->∀ p n c,lv = .slice (some p) n c->¬j5 ρ p.block)(T:fs.length=l.length)(hl:fs.length<524288)(ap:∀ f∈fs,∃ g a b,f = .func g a b)(hC:∀(k:Nat) f st,fs[k]?=some f->l[k]?=some st->gh P E B ρ d w f st) :
 Calls prog 172 #[.agg #[lv,jd hi]] w (jda P E B ρ d w (j2 hi l S)):=by
 obtain⟨lp,lc,rfl,h1,h2,h3,h4⟩:=id a3;have bg:=jb a3;have F:=jb T;have hρ:=D.rep.lt;have cc:=D.size;have nT:∀ i,w.heap.size<=i->¬j5 ρ i:=fun i hi h=>by have:=hρ i h;omega
 have HD:=jb D;have HC:=jb hC;clear h3 h4 a3 T D hC;obtain⟨G,hG⟩:∃ G,G=j2 hi l S:=⟨_,rfl⟩;rw[<-hG];have HG:=jb hG;clear hG;go_enter func172,ntmps172;go_wp2_with fail;have kW:ja w (((w.alloc (.cells #[.slice lp fs.length lc,jd hi] 189)).alloc (.cells #[] 288)).alloc (.cells #[.slice (some ⟨w.heap.size+1,0,none⟩) 0 0] 285)) (fun _=>False):=((ja.alloc w _ _).more _).more _
 go_loopw [14] (fun iv wr=>∃(k:Nat) (r:jh) (ls:List (List Rf.Ch)) (v:Value) (z:List HS),k<=fs.length/\iv = .int .i64 k/\Hid (j2 hi (l.take k) S=(r,.inl ls))/\Dk E B wr ρ d r/\P r/\ja w wr (j5 ρ)/\wr.heap[w.heap.size]?=some (.cells #[.slice lp fs.length lc,jd hi] 189 (0,0)) /\
  qv wr w.heap.size (w.heap.size+1+1) v z/\Rf.Jv (xr z) z.length/\(xr z).Perm (Rf.qk 0 ls)/\(∀ p∈z,p.2.entries≠[])/\(∀ p∈z,∀ m n c,p.1 = .slice (some m) n c->w.heap.size<=m.block))
  (fun iv _=>fs.length-(intOf iv).toNat)
 case atStart =>
  refine⟨0,S,[],.slice (some ⟨w.heap.size+1,0,none⟩) 0 0,[],zU _,rfl,(by unfold Hid;rfl),HD.out.same kW,Z,kW.up,((ja.alloc _ _ (fun _=>False)).more _).same (je w _) id,⟨?_,?_,?_,fun p A=>(by cases A)⟩,fun j a b h0 hj=>(by simp at hj),List.Perm.nil,fun p A=>(by cases A),fun p A=>(by cases A)⟩
  ·have:=je ((w.alloc (.cells #[.slice lp fs.length lc,jd hi] 189)).alloc (.cells #[] 288)) (.cells #[.slice (some ⟨w.heap.size+1,0,none⟩) 0 0] 285)
   rw[xO,xO] at this;exact this
  ·have L:=je (w.alloc (.cells #[.slice lp fs.length lc,jd hi] 189)) (.cells #[] 288)
   rw[xO] at L;exact⟨rfl,.inr ⟨w.heap.size+1,0,#[],rfl,by omega,(ja.alloc _ _ (fun _=>False)).same L id,xA _,zU _,rfl,rfl⟩⟩
  ·intro e
   have:w.heap.size+1=w.heap.size+1+1:=by injection e
   omega
 case round =>
  obtain⟨k,r,ls,v,z,hk,rfl,s,Dq,Zq,C,y,Hq,Tq,Pq,a1,N⟩:=hrel;rcases ZJ k fs.length with M|cb
  ·obtain⟨f,hf⟩:∃ f,fs[k]?=some f:=⟨_,zL M⟩
   obtain⟨st,Y⟩:∃ st,l[k]?=some st:=⟨_,zL (by rw[<-F.out];exact M)⟩;have b8:ig wr (.slice lp fs.length lc) fs:=bg.out.keep C am;obtain⟨b,o,rfl,bi⟩:=b8.at hf;obtain⟨gf,ga,gb,rfl⟩:=ap f (XU hf);have c1:=zA (o:=1) y;simp at c1;obtain⟨Z1,ca,H⟩:=HC.out k _ st hf Y hi wr r C Dq Zq;have a8:=jb H;have ai:=jb Y;have al:=jb y;have X:=jb Hq;clear y H Y hf Hq;go_wp2_with fail;refine a8.out.mono ?_;rintro e w1 ⟨v2,ev,rfl,k1,D1,⟨rfl,x,u⟩|⟨bad,U,b9,rfl,a4⟩⟩
   ·obtain⟨p2,c2,rfl⟩:=jj x
    have H1:qv w1 w.heap.size (w.heap.size+1+1) v z:=X.out.keep k1 (nT _ (by omega)) (fun g hg=>nT g (X.out.row.lt g hg).1) (fun p A m n c e=>nT _ (N p A m n c e));have J:=k1.same al.out (nT _ (xA _))
    have a2:j2 hi (l.take (k+1)) S=((st r).1,.inl (ls++[Ys hi (st r).2.1])):=by
     rw[zY,ai.out,zZ,tf s.out];have:Zm hi (st r)=some (Ys hi (st r).2.1):=by unfold Zm;rw[if_pos u]
     rw[this]
    have an:ls.length=k:=by rw[mj s.out,ZT,<-F.out,XI hk]
    have ba:(Ys hi (st r).2.1).length<=(st r).2.1.length:=(List.takeWhile_prefix _).length_le
    have br:z.length<=k:=by
     have L:=Pq.length_eq;rw[X9] at L;have h6:=bd 0 ls;omega
    have aq:∀ q∈z,q.2.age<k:=by
     intro q W;have L:q.2∈Rf.qk 0 ls:=Pq.mem_iff.1 (ZN.2 ⟨q,W,rfl⟩);have h6:=nd q.2 L;omega
    generalize Ys hi (st r).2.1=t at x a2 ba u ⊢;have ak:=jb a2;have aj:=jb H1;have V:=jb J;have a7:Hid (ja w w1 (j5 ρ)):=C.tt k1;clear a2 H1 J s u;by_cases ht:t=[]
    ·subst ht
     go_wp2;go_roundw
     case rel =>
      refine⟨k+1,_,_,v,z,M,by simp,ak,D1,Z1,a7.out,V.out,aj.out,Tq,?_,a1,N⟩;rw[gm,if_pos rfl,ZC];exact Pq
     case measure=>simp[intOf];omega
    ·have bs:(0:Int)<(t.length:Int):=by have:=XY.2 ht;omega
     have bb:Chs w1 (.slice p2 t.length c2) t:=xw x;have R:∀ g,v.ownBlock=some g->w.heap.size<=g/\g<wr.heap.size:=fun g hg=>X.out.row.lt g hg;have a0:∀ m n c,Value.slice p2 t.length c2 = .slice (some m) n c->wr.heap.size<=m.block:=fun m n c e=>(x.lt m.block (by rw[e];rfl)).1;have c9:w.heap.size+1+1<wr.heap.size:=zC X.out.box
     have au:Hid (¬v.ownBlock=some w.heap.size):=fun e=>by
      rcases X.out.row.2 with⟨h,_⟩|⟨g,cap,cd,h,_,hg,_⟩
      ·rw[h] at e;cases e
      ·rw[h] at e
       have e2:g=w.heap.size:=by injection e
       rw[e2,al.out] at hg;cases hg
     go_wp2_with fail;refine(Me aj.out a1 Tq ((.slice p2 t.length c2,⟨t,k⟩):HS) bb ht (fun m n c e=>⟨by have:=a0 m n c e;omega,fun e2=>by have:=a0 m n c e;have:=(R _ e2).2;omega⟩) (by omega) (by have:=a7.out.size;omega) (fun q W=>?_)).mono ?_
     ·rcases ZD.1 W with W|W
      ·have:=aq q W;omega
      ·rw[ZE.1 W];show k<4611686018427387904;omega
     ·rintro e w2 ⟨rfl,v',b7,ag,H2,T2,l2,k2⟩
      have a5:∀ i,(i=w.heap.size+1+1\/v.ownBlock=some i)->w.heap.size<=i:=by
       rintro i (h|h)
       ·omega
       ·exact(R i h).1
      have D2:=D1.apart k2 (fun i _ h=>⟨nT i (a5 i h),by have:=a5 i h;omega⟩);have ao:ja w w2 (j5 ρ):=a7.out.trans k2 (fun i hi h=>by have:=a5 i h;omega)
      have I:=k2.same V.out (fun h=>by
       rcases h with h|h
       ·omega
       ·exact au.out h)
      have be:=jb H2;have a6:=jb ag;have bc:=jb T2;have av:=jb I;clear H2 ag T2 I l2;go_wp2;go_roundw
      case rel =>
       refine⟨k+1,_,_,v',b7,M,by simp,ak,D2,Z1,ao,av.out,be.out,bc.out,?_,?_,?_⟩
       ·rw[gm,if_neg ht,an,zP]
        have L:=a6.out.map Prod.snd;rw[ZA] at L;exact L.trans (Pq.append_right _)
       ·intro p A
        rcases ZD.1 (a6.out.mem_iff.1 A)with h|h
        ·exact a1 p h
        ·rw[ZE.1 h];exact ht
       ·intro p A m n c e
        rcases ZD.1 (a6.out.mem_iff.1 A)with h|h
        ·exact N p h m n c e
        ·rw[ZE.1 h] at e
         have:=a0 m n c e;omega
      case measure=>simp[intOf];omega
   ·obtain⟨te,ae,rfl⟩:=a4.shape
    have O:j2 hi l S=((st r).1,.inr bad):=by
     have e5:l=l.take (k+1)++l.drop (k+1):=(ZR _ _).symm;rw[e5];refine Mf ?_;rw[zY,ai.out,zZ,tf s.out];have:Zm hi (st r)=none:=by unfold Zm;rw[if_neg (by rw[U,b9];simp)]
     rw[this,U];rfl
    have ar:=jb O;have bh:=jb a4;clear O a4 s;go_wp2;go_ret2;rw[HG.out,ar.out];exact⟨C.tt k1,D1,Z1,.inr ⟨bad,_,rfl,rfl,bh.out⟩⟩
  ·have ek:k=fs.length:=by omega
   have ah:j2 hi l S=(r,.inl ls):=by
    have:=s.out;rwa [ek,F.out,zW] at this
   have bf:=jb ah;have X:=jb Hq;clear ah s Hq y;go_wp2;go_ret2;rw[HG.out,bf.out];exact⟨C,Dq,Zq,.inl ⟨ls,_,v,z,rfl,rfl,by omega,X.out,Tq,Pq,N⟩⟩
end Go.Proofs.YtnipbplghijdmaaGreatDoor
namespace Go.Proofs.YtnipbplghijdmaaGreatDoor
open RowKit Maps WideShapes Go.Shelf Go.Proofs.Tryz
attribute [local go_sem] Oper.semAt_some
variable {E:Nat->Addr} {B d n:Nat} {s:Rf.Source} {r:List Rf.Source}
open Classical in
theorem jb9{α:Type}(R:Nat->α->Prop):∃ m:α->Nat,∀ a,(∃ n,R n a)->R (m a) a/\∀ n,R n a->m a<=n:=by
 have H:∀ a,(∃ n,R n a)->∃ m,R m a/\∀ n,R n a->m<=n:=by
  rintro a ⟨n,f⟩
  induction n using Nat.strongRecOn with
  | ind n ih =>
   rcases em (∃ k,k<n/\R k a)with⟨k,b,d⟩|c
   ·exact ih k b d
   ·exact⟨n,f,fun k b=>Nat.le_of_not_lt (fun h=>c ⟨k,h,b⟩)⟩
 refine⟨fun a=>if h:∃ n,R n a then Classical.choose (H a h)else 0,fun a h=>?_⟩;simp only[dif_pos h];exact Classical.choose_spec (H a h)
def Qt(G:jh×(List (List Rf.Ch) ⊕ Bool)):List Rf.Ch:=match G.2 with|.inl ls=>Rf.merged ls|.inr _=>[]
def Cs(G:jh×(List (List Rf.Ch) ⊕ Bool)):Option Bool:=match G.2 with|.inl _=>none|.inr b=>some b
structure Bg(P:jh->Prop)(E:Nat->Addr)(B:Nat)(ρ:Nat->jz)(d:Nat)(S:jh)(lv:Value)(fs:List Value)(sts:List Jh)(W:World):Prop where
 dk:Dk E B W ρ d S
 small:P S
 je8:ig W lv fs
 off:fs≠[]->∀ p n c,lv = .slice (some p) n c->¬j5 ρ p.block
 layers:∀(k:Nat) f st,fs[k]?=some f->sts[k]?=some st->gh P E B ρ d W f st
theorem gh.same{P:jh->Prop}{ρ:Nat->jz}{w b:World}{f:Value}{c:Jh}(h:gh P E B ρ d w f c)(k:ja w b (fun _=>False)):gh P E B ρ d b f c :=
 fun hi W S kk D Z=>h hi W S ((k.up).tt kk) D Z
theorem Bg.same{P:jh->Prop}{ρ:Nat->jz}{S:jh}{lv:Value}{fs:List Value}{b:List Jh}{W W':World}(h:Bg P E B ρ d S lv fs b W)(k:ja W W' (fun _=>False)):Bg P E B ρ d S lv fs b W' :=
 ⟨h.dk.same k,h.small,h.je8.same k,h.off,fun i f st hf hst=>(h.layers i f st hf hst).same k⟩
theorem ia(b:Array Value)(w:World):(callFunc 123 b).run prog w = .ok (.enter 123 b) w:=by kernel_rfl
def Xn(l:List Rf.Source):Nat:=(l.map (fun s=>s.entries.length)).sum
theorem Ld{l m:List Rf.Source}(p:l.Perm m):Xn l=Xn m:=Dp (p.map _)
theorem Hn{c:Rf.Ch}{q:List Rf.Ch}(h:s.entries=c::q):Xn (Rf.taken s r)+1=Xn (s::r):=by
 unfold Rf.taken Xn;rw[h,List.tail_cons]
 split
 ·rename_i e;simp[h,e];omega
 ·simp[h];omega
theorem Ck{ls:List (List Rf.Ch)}:∀ s∈Rf.qk n ls,s.entries∈ls:=by
 induction ls generalizing n with
 | nil=>intro s b;cases b
 | cons l r ih =>
  intro s b;unfold Rf.qk at b
  split at b
  ·exact xI _ (ih s b)
  ·rcases zH.1 b with rfl|b
   ·exact xJ
   ·exact xI _ (ih s b)
theorem M5{N A:Nat}(h:∀ x∈s::r,x.entries.length<N/\x.age<A):∀ x∈Rf.taken s r,x.entries.length<N/\x.age<A:=by
 intro x b;unfold Rf.taken at b
 split at b
 ·exact h x (xI _ b)
 ·rcases zH.1 b with rfl|b
  ·have:=h s xJ
   exact⟨by have c:s.entries.tail.length<=s.entries.length:=by rw[List.length_tail];omega
            exact ZZ c this.1,this.2⟩
  ·exact h x (xI _ b)
theorem La(s:Rf.Source)(r:List Rf.Source):(Rf.taken s r).length<=(s::r).length:=by
 unfold Rf.taken
 split<;>simp
structure uq(ls:List (List Rf.Ch)):Prop where
 rising:∀ l∈ls,Rf.jy l
 keys:∀ l∈ls,∀ c∈l,c.key≠[]
 len:∀ l∈ls,l.length<1048576
theorem gu{P:jh->Prop}{ρ:Nat->jz}{S:jh}(lv:Value)(fs:List Value)(D:List Jh)(hi:Str)(b7:fs.length=D.length)(hl:fs.length<524288)(ci:∀ f∈fs,∃ g a b,f = .func g a b)(Z:∀ ls,(j2 hi D S).2 = .inl ls->uq ls) :
 He Fence.wide n prog 123 #[.agg #[lv,jd hi]] #[] encI (j5 ρ) (fun i=>i<B) (Bg P E B ρ d S lv fs D) (jdg E (Qt (j2 hi D S)) (Cs (j2 hi D S))) (jdf E B ρ d (j2 hi D S).1 (Qt (j2 hi D S)) (Cs (j2 hi D S))) (I6 E B ρ d (j2 hi D S).1):=by
 intro lp n₀ J Jx aJ hY C W aw hC d5 hS da;have ew:∀ i,i<W.heap.size->C i->¬j5 ρ i/\B<=i:=fun i _ hc=>⟨(hC i hc).1,Nat.le_of_not_lt (hC i hc).2⟩;have kA:=ja.alloc W (.cells #[lv,jd hi] 189) (fun _=>False);have a8:=hS.same kA;obtain⟨p0,c0,rfl,_⟩:=id hS.je8;have Y:=F3 a8.dk a8.small _ fs D hi a8.je8 a8.off b7 hl ci a8.layers;obtain⟨G,hG⟩:∃ G,G=j2 hi D S:=⟨_,rfl⟩;rw[<-hG] at Y Z hY ⊢;have HO:=jb Y;have hρ:=hS.dk.rep.lt;have dc:=hS.dk.size;have nT:∀ i,W.heap.size<=i->¬j5 ρ i:=fun i hi h=>by have:=hρ i h;omega
 have cf:∀ ls,G.2 = .inl ls->ls.length<524288:=fun ls h=>by
  have H:j2 hi D S=(G.1,.inl ls):=by rw[<-hG];exact Prod.ext rfl h
  rw[mj H];omega
 clear Y hG a8 hS b7;show CallsIn Fence.wide n prog 123 #[.agg #[.slice p0 fs.length c0,jd hi],.func (.yield lp) #[] #[]] W _;refine callsIn_of_wp func123 rfl trivial ?_ rfl;simp only[ntmps123,xP,zX,xU,Nat.reduceAdd,Nat.reduceSub,xV,xW,xX,xY,xZ,xE]
 gi_wp2_with fail
 refine⟨trivial,fun h=>(by simp[Fence.wide] at h),(callsIn_wide.2 HO.out).mono ?_⟩;rintro e w1 ⟨k1,D1,Z1,⟨ls,V,v,j,ab,rfl,d7,Hq,Tq,Pq,av⟩|⟨bad,ev,ba,rfl,c9⟩⟩
 all_goals
  have kW:ja W w1 (j5 ρ):=(kA.up).tt k1;have bp:=aJ _ _ _ _ da (cj kW (fun i _ h=> .inl h));have ai:∀ i,C i->i<w1.heap.size:=fun i h=>zT (aw i h) kW.size
 ·have et:W.heap.size+1<=V:=by simpa using d7
  have G1:=Z ls ab;have eu:=cf ls ab;have eM:Qt G=Rf.merged ls:=by unfold Qt;rw[ab]
  have eE:Cs G=none:=by unfold Cs;rw[ab]
  rw[eM,eE] at hY;have HM:=jb eM;have HE:=jb eE;have T0:Rf.Tells (xr j) [] (Rf.merged ls):=(Rf.Lg G1.rising G1.keys).perm Pq.symm;have F0:Rf.pn (xr j) []:=(Rf.Lh G1.rising).perm Pq.symm
  have a6:∀ s∈xr j,s.entries.length<1048576/\s.age<4611686018427387904:=by
   intro s hs;have H:=Pq.mem_iff.1 hs;have h6:=nd s H;exact⟨G1.len _ (Ck s H),by omega⟩
  have a7:(xr j).length<1048576:=by
   have H:=Pq.length_eq;have h6:=bd 0 ls;omega
  have b4:(W.alloc (.cells #[.slice p0 fs.length c0,jd hi] 189)).heap.size=W.heap.size+1:=by simp
  rw[b4] at Hq av;generalize hMM:Rf.merged ls=MM at *
  clear eM eE hMM Pq G1 Z ab b4
  obtain⟨mf,c8⟩:=jb9 (fun(m:Nat) (x:Value×World)=>∃(F:Str) (k L:List Rf.Ch) (j:List HS) (v:Value) (l:Nat->Prop),x.1=jd F/\Xn (xr j)=m/\MM=k++L/\Rf.Tells (xr j) F L/\Rf.pn (xr j) F/\qv x.2 (W.heap.size+1) V v j/\Rf.Jv (xr j) j.length /\
   J (k.map zk) l x.2/\(∀ i,l i->C i\/W.heap.size<=i)/\(∀ i,l i->i<x.2.heap.size)/\¬l V/\(∀ g,v.ownBlock=some g->¬l g)/\(∀ p∈j,∀ r n c,p.1 = .slice (some r) n c->¬l r.block/\W.heap.size+1<=r.block)/\ja W x.2 (fun i=>C i\/j5 ρ i)/\Dk E B x.2 ρ d G.1 /\
   (∀ s∈xr j,s.entries.length<1048576/\s.age<4611686018427387904)/\(xr j).length<1048576)
  have bq:=jb c8;have HY:=jb hY;clear c8 hY
  have a5:∃ m,∃(F:Str) (k L:List Rf.Ch) (j:List HS) (v:Value) (l:Nat->Prop),jd []=jd F/\Xn (xr j)=m/\MM=k++L/\Rf.Tells (xr j) F L/\Rf.pn (xr j) F/\qv w1 (W.heap.size+1) V v j/\Rf.Jv (xr j) j.length /\
   J (k.map zk) l w1/\(∀ i,l i->C i\/W.heap.size<=i)/\(∀ i,l i->i<w1.heap.size)/\¬l V/\(∀ g,v.ownBlock=some g->¬l g)/\(∀ p∈j,∀ r n c,p.1 = .slice (some r) n c->¬l r.block/\W.heap.size+1<=r.block)/\ja W w1 (fun i=>C i\/j5 ρ i)/\Dk E B w1 ρ d G.1 /\
   (∀ s∈xr j,s.entries.length<1048576/\s.age<4611686018427387904)/\(xr j).length<1048576:=by
   refine⟨_,[],[],MM,j,v,C,rfl,rfl,rfl,T0,F0,Hq,Tq,bp,fun _ h=> .inl h,ai,fun h=>by have:=aw V h;omega,fun g hg h=>?_,fun p I r n c e=>⟨fun h=>?_,av p I r n c e⟩,kW.mono (fun _ _ h=> .inr h),D1,a6,a7⟩
   ·have:=(Hq.row.lt g hg).1
    have:=aw g h;omega
   ·have:=av p I r n c e
    have:=aw _ h;omega
  have de:=jb a5;clear a5 T0 F0 Hq Tq bp ai av D1 a6 a7
  gi_wp2_with fail
  gi_loopw [6] (fun lv wr=>∃ m,∃(F:Str) (k L:List Rf.Ch) (j:List HS) (v:Value) (l:Nat->Prop),lv=jd F/\Xn (xr j)=m/\MM=k++L/\Rf.Tells (xr j) F L/\Rf.pn (xr j) F/\qv wr (W.heap.size+1) V v j/\Rf.Jv (xr j) j.length /\
   J (k.map zk) l wr/\(∀ i,l i->C i\/W.heap.size<=i)/\(∀ i,l i->i<wr.heap.size)/\¬l V/\(∀ g,v.ownBlock=some g->¬l g)/\(∀ p∈j,∀ r n c,p.1 = .slice (some r) n c->¬l r.block/\W.heap.size+1<=r.block)/\ja W wr (fun i=>C i\/j5 ρ i)/\Dk E B wr ρ d G.1 /\
   (∀ s∈xr j,s.entries.length<1048576/\s.age<4611686018427387904)/\(xr j).length<1048576)
   (fun lv wr=>mf (lv,wr))
  case atStart=>exact de.out
  case round =>
   obtain⟨d9,b6⟩:=bq.out (_,wr) hrel;obtain⟨F,k,L,j,v,l,rfl,a4,ax,Tq,Fq,Hq,Tp,cc,A,a3,a2,an,bt,d6,Dq,bj,b8⟩:=d9;simp only at *
   have e6:=jb b6;clear b6 hrel;obtain⟨a1,c1,rfl⟩:=Hq.slice;have cb:=Hq.cell;have bk:j.length<1048576:=by rw[X9] at b8;exact b8
   cases j with
   | nil =>
    have eL:=Tq.nil;have dh:=jb eL;have cm:=jb ax;have ex:=jb Hq;clear eL ax Hq
    gi_wp2_with fail
    refine⟨trivial,fun h=>(by simp[Fence.wide] at h),(callsIn_wide.2 (wk a1 0 c1 wr (by omega))).mono ?_⟩;rintro e U ⟨rfl,rfl⟩
    gi_wp2
    go_end0;refine⟨l,A,a3,⟨_,rfl⟩,.inl ⟨k.map zk,⟨Dq,.inl ⟨HE.out,?_⟩⟩,cc⟩⟩;rw[HM.out,cm.out,dh.out,ZC]
   | cons s0 rs =>
    obtain⟨c,q,au⟩:∃ c q,s0.2.entries=c::q:=by
     cases H:s0.2.entries with
     | nil=>exact(Fq.some s0.2 xJ H).elim
     | cons c q=>exact⟨c,q,rfl⟩
    have bs:∀ p∈s0::rs,p.2.entries≠[]:=fun p I=>Fq.some p.2 (ZN.2 ⟨p,I,rfl⟩);have bu:∀ p∈s0::rs,p.2.age<4611686018427387904:=fun p I=>(bj p.2 (ZN.2 ⟨p,I,rfl⟩)).2
    have d3:q.length<1048576:=by
     have:=(bj s0.2 xJ).1;rw[au] at this;simp at this;omega
    have O:∀ t∈s0.2::xr rs,s0.2.le t:=Rf.Jv.top (by rw[<-gk,X9];exact Tp);have ao:=Nd Hq bs Tp au bk d3 bu;have HN:=jb ao;have dg:=jb Hq;have a9:=jb au;have az:=jb ax;have e5:rs.length+1<1048576:=by simpa using bk
    have am:∀ i,(i=V\/(Value.slice a1 (s0::rs).length c1).ownBlock=some i)->W.heap.size<=i/\¬l i:=by
     rintro i (h|h)
     ·rw[h];exact⟨by omega,a2⟩
     ·exact⟨by have:=(dg.out.row.lt i h).1;omega,an i h⟩
    have T:=jb am;clear ao Hq au ax am bk;simp only[zX] at cb
    gi_wp2_with fail
    refine⟨trivial,fun h=>(by simp[Fence.wide] at h),(callsIn_wide.2 (wk a1 (rs.length+1) c1 wr (by omega))).mono ?_⟩;rintro e wq ⟨rfl,rfl⟩
    gi_wp2_with fail
    refine⟨trivial,fun h=>(by simp[Fence.wide] at h),(callsIn_wide.2 HN.out).mono ?_⟩;rintro e U ⟨rfl,v2,X,P2,H2,T2,l2,k2,b9⟩;obtain⟨z,cv,R⟩:=c;have ka:=ja.alloc U (.cells #[jd z,jd cv,.bool R] 88) (fun _=>False);have kk:ja wq (U.alloc (.cells #[jd z,jd cv,.bool R] 88)) (fun i=>i=V\/(Value.slice a1 (s0::rs).length c1).ownBlock=some i):=k2.trans ka (fun _ _ h=>h.elim);have cd:=aJ _ _ _ _ cc (cj kk (fun i _ h=> .inr ⟨ZF d5 (T.out i h).1,(T.out i h).2⟩));have D2:=Dq.apart kk (fun i _ h=>⟨nT i (T.out i h).1,ZF dc (T.out i h).1⟩);have ah:ja W (U.alloc (.cells #[jd z,jd cv,.bool R] 88)) (fun i=>C i\/j5 ρ i):=d6.trans kk (fun i hi h=>by have:=(T.out i h).1;omega);have b0:=H2.same ka;have Pm:(Rf.taken s0.2 (xr rs)).Perm (xr X):=P2.symm
    have e3:Xn (xr X)+1=Xn (xr (s0::rs)):=by
     rw[<-Ld Pm,gk];exact Hn a9.out
    have b5:∀ s∈xr X,s.entries.length<1048576/\s.age<4611686018427387904:=fun s hs=>M5 (by rw[<-gk];exact bj) s (Pm.mem_iff.2 hs)
    have ap:(xr X).length<1048576:=by
     rw[<-Pm.length_eq];have:=La s0.2 (xr rs);rw[<-gk] at this;omega
    have e2:wq.heap.size<=U.heap.size:=k2.size
    have N:∀ g,v2.ownBlock=some g->¬l g/\g<(U.alloc (.cells #[jd z,jd cv,.bool R] 88)).heap.size:=by
     intro g hg;refine⟨?_,(b0.row.lt g hg).2⟩;rcases l2 with h|⟨g2,h,H⟩
     ·rw[h] at hg;exact an g hg
     ·rw[h] at hg
      cases hg;intro hc;have:=a3 _ hc;omega
    have y:∀ p∈X,∀ r n c,p.1 = .slice (some r) n c->¬l r.block/\W.heap.size+1<=r.block/\r.block<(U.alloc (.cells #[jd z,jd cv,.bool R] 88)).heap.size:=by
     intro p I r n c e;obtain⟨p',d4,dd,n',c',e',eb⟩:=b9 p I r n c e;have H:=bt p' d4 dd n' c' e';rw[eb] at H;refine⟨H.1,H.2,?_⟩;have h6:=(b0.has p I).1
     have h7:p.2.entries≠[]:=by
      have h8:p.2∈Rf.taken s0.2 (xr rs):=Pm.mem_iff.2 (ZN.2 ⟨p,I,rfl⟩);exact(Fq.next a9.out O).2.some p.2 h8
     rw[e] at h6;exact h6.lt h7
    have ay:=je U (.cells #[jd z,jd cv,.bool R] 88);have y0:=zA (o:=0) ay;have y1:=zA (o:=1) ay;have y2:=zA (o:=2) ay;simp at y0 y1 y2;have ce:=jb T2;have br:=jb b0;clear T2 b0 H2 ay b9;by_cases hcl:z=F
    ·subst hcl
     have d8:(z==z)=true:=by simp
     gi_wp2
     have ag:∃ m,m<mf (jd z,wq)/\∃(F:Str) (k L:List Rf.Ch) (j:List HS) (v:Value) (l:Nat->Prop),jd z=jd F/\Xn (xr j)=m/\MM=k++L/\Rf.Tells (xr j) F L/\Rf.pn (xr j) F/\qv (U.alloc (.cells #[jd z,jd cv,.bool R] 88)) (W.heap.size+1) V v j/\Rf.Jv (xr j) j.length /\
      J (k.map zk) l (U.alloc (.cells #[jd z,jd cv,.bool R] 88))/\(∀ i,l i->C i\/W.heap.size<=i)/\(∀ i,l i->i<(U.alloc (.cells #[jd z,jd cv,.bool R] 88)).heap.size)/\¬l V/\(∀ g,v.ownBlock=some g->¬l g)/\(∀ p∈j,∀ r n c,p.1 = .slice (some r) n c->¬l r.block/\W.heap.size+1<=r.block)/\ja W (U.alloc (.cells #[jd z,jd cv,.bool R] 88)) (fun i=>C i\/j5 ρ i)/\Dk E B (U.alloc (.cells #[jd z,jd cv,.bool R] 88)) ρ d G.1 /\
      (∀ s∈xr j,s.entries.length<1048576/\s.age<4611686018427387904)/\(xr j).length<1048576:=by
      refine⟨_,by rw[<-a4];omega,z,k,L,X,v2,l,rfl,rfl,az.out,(Tq.again a9.out rfl).perm Pm,((Fq.next a9.out O).2).perm Pm,br.out,ce.out,cd,A,fun i h=>by have:=a3 i h;simp;omega,a2,fun g hg=>(N g hg).1,fun p I r n c e=>⟨(y p I r n c e).1,(y p I r n c e).2.1⟩,ah,D2,b5,ap⟩
     obtain⟨m2,ar,u⟩:=ag;go_roundw
     case rel=>exact⟨m2,u⟩
     case measure=>exact ZZ ((bq.out (_,_) ⟨m2,u⟩).2 m2 u) ar
    ·have d8:(z==F)=false:=by simp[hcl]
     obtain⟨e4,M,bm,TM⟩:=Tq.next Fq a9.out O hcl;have bb:MM=(k++[⟨z,cv,R⟩])++M:=by rw[az.out,bm];simp
     have ca:MM[k.length]?=some ⟨z,cv,R⟩:=by rw[az.out,bm];simp
     have c7:k.map zk=(MM.take k.length).map zk:=by rw[az.out];simp
     have cl:∀ i,l i->i<(U.alloc (.cells #[jd z,jd cv,.bool R] 88)).heap.size:=fun i h=>by have:=a3 i h;simp;omega
     obtain⟨fn,tmps,assign,body,hy,hR⟩:=HY.out (k.map zk) (zk ⟨z,cv,R⟩) l _ cd cl (.inl ⟨k.length,_,c7,ca,rfl⟩);dsimp only[encI,zk] at hy;have HR:=jb hR;have cn:=jb bb;clear hR bm bb ca c7
     gi_wp2
     refine⟨fun h=>by simp[Fence.wide] at h,HR.out.mono ?_⟩;rintro e W3 ⟨C2,aq,af,ac,bl⟩
     have al:∀ i,C2 i->C i\/W.heap.size<=i:=fun i h=>by
      rcases aq i h with h|h
      ·exact A i h
      ·have h6:=ah.size
       exact .inr (by omega)
     have ch:ja W W3 (fun i=>C i\/j5 ρ i):=ah.trans ac (fun i hi h=>by
      rcases A i h with H|H
      ·exact .inl H
      ·omega)
     have db:∀ i,l i->¬j5 ρ i/\B<=i:=fun i h=>by
      rcases A i h with H|H
      ·exact⟨(hC i H).1,Nat.le_of_not_lt (hC i H).2⟩
      ·exact⟨nT i H,by omega⟩
     have D3:=D2.apart ac (fun i _ h=>db i h);rcases bl with⟨rfl,bo⟩|⟨rfl,aj⟩
     ·have ag:∃ m,m<mf (jd F,wq)/\∃(F:Str) (k L:List Rf.Ch) (j:List HS) (v:Value) (l:Nat->Prop),jd z=jd F/\Xn (xr j)=m/\MM=k++L/\Rf.Tells (xr j) F L/\Rf.pn (xr j) F/\qv W3 (W.heap.size+1) V v j/\Rf.Jv (xr j) j.length /\
       J (k.map zk) l W3/\(∀ i,l i->C i\/W.heap.size<=i)/\(∀ i,l i->i<W3.heap.size)/\¬l V/\(∀ g,v.ownBlock=some g->¬l g)/\(∀ p∈j,∀ r n c,p.1 = .slice (some r) n c->¬l r.block/\W.heap.size+1<=r.block)/\ja W W3 (fun i=>C i\/j5 ρ i)/\Dk E B W3 ρ d G.1 /\
       (∀ s∈xr j,s.entries.length<1048576/\s.age<4611686018427387904)/\(xr j).length<1048576:=by
       have bi:∀ i,¬l i->i<(U.alloc (.cells #[jd z,jd cv,.bool R] 88)).heap.size->¬C2 i:=fun i h1 h2 h3=>by
        rcases aq i h3 with h|h
        ·exact h1 h
        ·omega
       refine⟨_,by rw[<-a4];omega,z,k++[⟨z,cv,R⟩],M,X,v2,C2,rfl,rfl,cn.out,TM.perm Pm,((Fq.next a9.out O).1).perm Pm,br.out.keep ac a2 (fun g hg=>(N g hg).1) (fun p I r n c e=>(y p I r n c e).1),ce.out,by rw[ZA];exact bo,al,af,
        bi V a2 (zC br.out.box),fun g hg=>bi g (N g hg).1 (N g hg).2,fun p I r n c e=>⟨bi _ (y p I r n c e).1 (y p I r n c e).2.2,(y p I r n c e).2.1⟩,ch,D3,b5,ap⟩
      obtain⟨m2,ar,u⟩:=ag
      have ak:=jb u
      have df:=jb ar
      clear u ar
      gi_wp2
      go_roundw
      case rel=>exact⟨m2,ak.out⟩
      case measure=>exact ZZ ((bq.out (_,_) ⟨m2,ak.out⟩).2 m2 ak.out) df.out
     ·gi_wp2
      refine bodyPost_ret (results_none rfl _ _ _) rfl ?_;exact⟨C2,al,af,⟨_,rfl⟩,.inr ⟨_,D3,aj⟩⟩
 ·obtain⟨te,ae,rfl⟩:=c9.shape
  have eM:Qt G=[]:=by unfold Qt;rw[ba]
  have eE:Cs G=some bad:=by unfold Cs;rw[ba]
  rw[eM,eE] at hY;have HM:=jb eM;have HE:=jb eE;clear eM eE;obtain⟨fn,tmps,assign,body,hy,hR⟩:=hY [] (bn,.iface te (.pointer (some ae))) C w1 bp ai (.inr ⟨bad,rfl,rfl,rfl,c9⟩);dsimp only[encI,bn] at hy;have HR:=jb hR;have di:=jb D1;clear hR D1 hY
  gi_wp2
  refine⟨fun h=>by simp[Fence.wide] at h,HR.out.mono ?_⟩;rintro e W3 ⟨C2,aq,af,ac,bl⟩;have D3:=di.out.apart ac (fun i _ h=>⟨(hC i h).1,Nat.le_of_not_lt (hC i h).2⟩);have A:∀ i,C2 i->C i\/W.heap.size<=i:=fun i h=>(aq i h).imp id (fun h=>ZF kW.size h);rcases bl with⟨rfl,bo⟩|⟨rfl,aj⟩
  ·gi_wp2
   refine bodyPost_ret (results_none rfl _ _ _) rfl ?_;exact⟨C2,A,af,⟨_,rfl⟩,.inl ⟨_,⟨D3,.inr ⟨bad,_,HE.out,⟨te,ae,rfl⟩,by rw[HM.out];rfl⟩⟩,bo⟩⟩
  ·gi_wp2
   refine bodyPost_ret (results_none rfl _ _ _) rfl ?_;exact⟨C2,A,af,⟨_,rfl⟩,.inr ⟨_,D3,aj⟩⟩
end Go.Proofs.YtnipbplghijdmaaGreatDoor
namespace Go.Proofs.YtnipbplghijdmaaGreatDoor
open RowKit Maps WideShapes Go.Proofs.Tryz
variable {E:Nat->Addr} {B F b cap g k n r x y:Nat} {w w':World} {e t:TypeId} {hv pv v:Value} {xs:List Value} {l:List (Nat×Nat×Str)} {c:Nat×Nat×Str} {fn:Func} {u:Tmp} {tmps:Array Value} {q:List UInt8} {ps:List (Nat×Str)}
abbrev Xt(d:Nat)(n:Nat)(key:Str):Value:= .func (.func 212) #[.agg #[.pointer (some ⟨d,0,none⟩),jd (jq n),jd key]] #[]
theorem O8(d n:Nat)(key:Str)(c:n<=9223372036854775807)(H:Env E B w) :
 Calls prog 175 #[.pointer (some ⟨d,0,none⟩),ju n,jd key] w fun e w'=>e = .returned (Xt d n key)/\ja w w' (fun _=>False):=by
 go_enter func175,ntmps175;go_wp2_with fail;refine(dm n c H).mono ?_;rintro e f ⟨rfl,b⟩;go_wp2;go_ret;exact⟨rfl,b⟩
theorem Tryz.O2:(prog.info? 132).map (fun i=>(i.zero,i.size,i.bytes))=some (some .nilFunc,1,8):=by kernel_rfl
theorem jd3(d n:Nat)(key:Str):∀ u∈[Xt d n key],u.oneCell'=true:=by intro u b;simp at b;subst b;rfl
theorem Yu(d:Nat)(m:Rf.Man)(rv last mv:Value)(R cl:Bool)(key:Str)(H:Env E B w)(x:w.heap[b]?=some (.cells (qe (.pointer (some ⟨d,0,none⟩)) (jf m.next) (jf m.last) (jf m.log) (jf m.base) rv last mv R cl) t (0,0)))(hv:zl w rv m.runs)(hl:m.runs.length<524288)(Y:∀ n∈m.settled,n<=9223372036854775807) :
 Calls prog 124 #[.pointer (some ⟨b,0,none⟩),jd key] w fun e w'=>∃ p c,e = .returned (.slice p m.settled.length c)/\w'.ownsRow w.heap.size 132 1 (.slice p m.settled.length c) m.settled.length (m.settled.map (fun n=>Xt d n key))/\ja w w' (fun _=>False):=by
 obtain⟨j0,Z,I,G,F⟩:=info_parts Tryz.O2;have r:=Zc w m rv hv (by omega);have J:=x8 m;have d0:=zA (o:=0) x;have d1:=zA (o:=1) x;have d2:=zA (o:=2) x;have d3:=zA (o:=3) x;have d4:=zA (o:=4) x;have d5:=zA (o:=5) x;simp at d0 d1 d2 d3 d4 d5;have HB:=jb x;generalize m.settled=l at r J Y ⊢;have A:=jb r;clear x r;go_enter func124,ntmps124;go_wp2_with fail;refine A.out.mono ?_;rintro e C ⟨p1,c1,rfl,f,D⟩;have hN:=ze f rfl;go_wp2_with fail
 go_loopw [5,14] (fun b i wr=>∃(k:Nat) (p:Option Addr) (c:Nat),k<=l.length/\i = .int .i64 k/\b = .slice p k c /\
  wr.ownsRow C.heap.size 132 1 (.slice p k c) k ((l.take k).map (fun n=>Xt d n key))/\ja C wr (fun _=>False))
  (fun _ i _=>l.length-(intOf i).toNat)
 case atStart=>exact⟨0,none,0,zU _,rfl,rfl,zS _ _ _ _,ja.refl _ _⟩
 case round =>
  obtain⟨k,p,c,hk,rfl,rfl,q,v⟩:=hrel;rcases ZJ k l.length with y|ag
  ·obtain⟨g,o,rfl,e0⟩:=(hN.same v).at y
   have L:=Y l[k] (zV y);have V:=D.tt v;have HR:=H.same V;have S:=zA (o:=0) (V.same HB.out id);simp at S;go_wp2_with fail;refine(O8 d l[k] key L HR).mono ?_;rintro e w2 ⟨rfl,X⟩;have W:=v.tt X;have f:=X.row q (fun _ _ h=>h);have z:=f.alloc (.cells #[Xt d l[k] key] 132);have O:Hid (k+1<=maxLen):=by unfold Hid maxLen;omega
   have N:Hid ((k+1)*8<=140737488355328):=by unfold Hid;omega
   have s:(l.take (k+1)).map (fun n=>Xt d n key)=(l.take k).map (fun n=>Xt d n key)++[Xt d l[k] key]:=by
    rw[zN y,ZA];rfl
   have HS:=jb s;clear s q
   go_wp2_with (first|(at_builtin;go_must (refine jk _ rfl (.tmp 18) (.tmp 26) 134 rfl C.heap.size 132 j0 .nilFunc 1 8 underlying134 Z I G F rfl xD _ _ _ rfl z ⟨w2.heap.size,0,none⟩ 1 1 [Xt d l[k] key] rfl rfl (cell_one_new _ _ _) (jd3 _ _ _) O.out N.out (W.more _).size ?_);intro p3 T w3 u M U)|go_in)
   have k3:ja C w3 (fun _=>False):=(W.more _).grow M (fun j e Z=>by have:=(f.lt j e).1;omega);rw[<-HS.out] at u;exact⟨⟨k+1,p3,T,by omega,by simp,rfl,u,k3⟩,by simp[intOf];omega⟩
  ·have ek:k=l.length:=by omega
   subst ek;rw[zW] at q;go_wp2;go_ret;exact⟨p,c,rfl,qg q D.size,D.tt v⟩
theorem jdv{P:Program}{base:Nat}{c:TypeId}(b:P.underlying c=some (.slice e))(h:w.ownsRow base e 1 v n xs)(i:∀ u∈xs,u.oneCell'=true):Src P 1 c v n xs w:=by
 rcases h.2 with⟨rfl,d⟩|⟨g,cap,k,rfl,_⟩
 ·have f:xs=[]:=xB (by rw[h.1,d])
  subst f;subst d;exact Src.ofNil w b 0
 ·exact Src.ofSlice w b ⟨g,0,none⟩ n cap _ h.1 (fun j u hu=>h.cells rfl j u hu) i
abbrev A7(v:Value):Value:= .func (.func 158) #[v] #[]
def Ts(d:Nat)(m:Rf.Man)(l:List Rf.Ch)(mv:Value)(key:Str)(w:World)(e:Ending)(w':World):Prop :=
 ∃ p c v,e = .returned (.slice p (m.settled.length+1) c)/\w'.ownsRow w.heap.size 132 1 (.slice p (m.settled.length+1) c) (m.settled.length+1) (A7 v::m.settled.map (fun n=>Xt d n key))/\Chs w' v (l.drop (Rf.below l key)) /\
  (∀ ad n c,v = .slice (some ad) n c->∃ ad' n' c',mv = .slice (some ad') n' c'/\ad'.block=ad.block)/\ja w w' (fun _=>False)
theorem l9(d:Nat)(m:Rf.Man)(rv last o:Value)(l:List Rf.Ch)(r cl:Bool)(key:Str)(H:Env E B w)(D:w.heap[b]?=some (.cells (qe (.pointer (some ⟨d,0,none⟩)) (jf m.next) (jf m.last) (jf m.log) (jf m.base) rv last o r cl) t (0,0)))(hv:zl w rv m.runs)(hl:m.runs.length<524288)(hs:∀ n∈m.settled,n<=9223372036854775807)(L:Chs w o l)(hr:Rf.jy l)(J:l.length<1048576) :
 Calls prog 72 #[.pointer (some ⟨b,0,none⟩),jd key] w (Ts d m l o key w):=by
 obtain⟨j0,C,I,G,F⟩:=info_parts Tryz.O2;have a8:=x8 m;have X:=O7 b 7 _ t o l key w D rfl L hr J;have HB:=jb D;have HM:=jb X;clear D X;go_enter func72,ntmps72;go_wp2_with fail;refine HM.out.mono ?_;rintro e k ⟨v,rfl,M,W,q⟩;have z:ja w (k.alloc (.cells #[A7 v] 132)) (fun _=>False):=W.more _;have i:=Yu d m rv last o r cl key (H.same z) (z.same HB.out id) (hv.same z) hl hs;have x:=World.ownsRow_lit (base:=w.heap.size) (e:=132) (size:=1) k #[A7 v] 1 W.size (by unfold maxLen;omega) rfl;have y:=jb i;have S:=jb q;clear i q;go_wp2_with fail;refine y.out.mono ?_;rintro e Y ⟨p2,c2,rfl,c,A⟩;have V:=z.tt A;have f:=A.row x (fun _ _ h=>h)
 have s:=jdv (P:=prog) underlying134 c (fun u hu=>by
  obtain⟨n,_,rfl⟩:=ZN.1 hu
  rfl)
 have O:Hid (1+m.settled.length<=maxLen):=by unfold Hid maxLen;omega
 have N:Hid ((1+m.settled.length)*8<=140737488355328):=by unfold Hid;omega
 have HO:=jb c;clear c
 go_wp2_with (at_builtin;go_must (refine za Y rfl (.tmp 10) (.tmp 13) 134 134 rfl w.heap.size 132 j0 .nilFunc 1 8 underlying134 C I G F rfl xD _ 1 _ rfl f _ m.settled.length _ rfl s O.out N.out V.size ?_);intro Z R U g p T)
 have k3:ja w U (fun _=>False):=V.grow p (fun j e C=>by have:=(f.lt j e).1;omega);have k4:ja k U (fun _=>False):=((ja.alloc k _ (fun _=>False)).tt A).grow p (fun j e C=>by injection e with e;have e':k.heap.size=j:=e;omega);go_ret;rw[show 1+m.settled.length=m.settled.length+1 by omega] at g ⊢;exact⟨Z,R,v,rfl,g,M.same k4,S.out,k3⟩
abbrev plV(p:Nat×Nat×Str):Value:= .agg #[ju p.1,ju p.2.1,jd p.2.2]
def yw(l:List (Nat×Nat×Str)):List Value:=l.flatMap fun p=>[ju p.1,ju p.2.1,jd p.2.2]
theorem Lv(l:List (Nat×Nat×Str))(c:Nat×Nat×Str):yw (l++[c])=yw l++yw [c]:=by simp[yw]
theorem jfm(l:List (Nat×Nat×Str)):∀ u∈yw l,u.oneCell'=true:=by
 intro u b;obtain⟨c,_,h⟩:=List.mem_flatMap.1 b;simp at h;rcases h with rfl|rfl|rfl<;>rfl
theorem Xv(h:k<l.length):(yw l)[k*3]?=some (ju l[k].1)/\(yw l)[k*3+1]?=some (ju l[k].2.1)/\(yw l)[k*3+2]?=some (jd l[k].2.2):=by
 induction l generalizing k with
 | nil=>simp at h
 | cons c r ih =>
  have e:yw (c::r)=ju c.1::ju c.2.1::jd c.2.2::yw r:=by simp[yw]
  cases k with
  | zero=>rw[e];simp
  | succ k =>
   have:=ih (by simpa using h);rw[e,show(k+1)*3=k*3+1+1+1 by omega,show k*3+1+1+1+1=(k*3+1)+1+1+1 by omega,show k*3+1+1+1+2=(k*3+2)+1+1+1 by omega];simp only[yC,List.getElem_cons_succ];exact this
theorem jeb(h:w.heap[b]?=some (.cells #[ju c.1,ju c.2.1,jd c.2.2] 346 (0,0))):(loadVar 346 ⟨b,0,none⟩).run prog w = .ok (plV c) w:=by
 have g:=zA (o:=0) h;have f:=zA (o:=1) h;have d:=zA (o:=2) h;simp at g f d;go_simp
theorem Ru{t:Tmp}(h:fn.results=#[.cell t 346,.tmp u])(f:tmps.getD t undef = .pointer (some ⟨b,0,none⟩))(i:w.heap[b]?=some (.cells #[ju c.1,ju c.2.1,jd c.2.2] 346 (0,0))) :
 (results fn tmps).run prog w = .ok (.tuple #[plV c,tmps.getD u undef]) w:=by
 have g:=jeb i;have d:tmps[t]?.getD undef = .pointer (some ⟨b,0,none⟩):=by simpa using f
 simp[results,h,d,asAddr,g]
theorem jbi{k:Str}(h:w.heap[b]?=some (.cells #[ju x,ju y,jd k] 346 (0,0))) :
 w.cell? ⟨b,0,none⟩=some (ju x)/\w.cell? ⟨b,1,none⟩=some (ju y)/\w.cell? ⟨b,2,none⟩=some (jd k)/\w.frozen? ⟨b,0,none⟩=false/\w.frozen? ⟨b,1,none⟩=false/\w.frozen? ⟨b,2,none⟩=false:=by
 have f:=zA (o:=0) h;have d:=zA (o:=1) h;have c:=zA (o:=2) h;simp at f d c;exact⟨f,d,c,zB h,zB h,zB h⟩
theorem jfl{x' y':Nat}{k k':Str}(h:w.heap[b]?=some (.cells #[ju x,ju y,jd k] 346 (0,0))) :
 (((w.setCell ⟨b,0,none⟩ (ju x')).setCell ⟨b,1,none⟩ (ju y')).setCell ⟨b,2,none⟩ (jd k')).heap[b]?=some (.cells #[ju x',ju y',jd k'] 346 (0,0)):=by
 have f:=jc (o:=0) h (ju x');have d:=jc (o:=1) f (ju y');have c:=jc (o:=2) d (jd k');simpa using c
theorem jge{k:Str}{c:Nat×Nat}(h:w.heap[b]?=some (.cells #[ju x,ju y,jd k] t c)):∀ j u,w.cell? ⟨b,j,none⟩≠some (j6 u):=by
 intro j x;rw[zA h]
 match j with
 | 0=>simp
 | 1=>simp
 | 2=>simp
 | j+3=>rw[xN (by simp)];simp
theorem Lo{l:List UInt8}{p:Nat×Str}(M:Rd w r l)(g:Rf.ar F l=some (p,q))(U:F<1099511627776) :
 Calls prog 274 #[.pointer (some ⟨r,0,none⟩),ju F] w fun e w'=>e = .returned (.tuple #[plV (p.1,F,p.2),.nilIface])/\Rd w' r q/\ja w w' (fun i=>i=r):=by
 have T:r<w.heap.size:=by obtain⟨v,S,_⟩:=M;exact zC S
 unfold Rf.ar at g
 split at g
 ·rename_i hc
  obtain⟨R,B⟩:=hc
  split at g
  ·rename_i t q' htt
   cases g;have I:=ja.alloc w (.cells #[ju 0,ju 0,jd []] 346) (fun _=>False);have m:=je w (.cells #[ju 0,ju 0,jd []] 346);obtain⟨N,u⟩:∃ N,N=Rf.number (l.take 4):=⟨_,rfl⟩;have E:=jb m;rw[<-u] at B ⊢;clear m;go_enter func274,ntmps274;go_wp2_with fail;refine(yk (n:=4) (M.same I) R (by omega)).mono ?_;rintro e O ⟨rfl,A,L⟩;rw[<-u];have HN:=jb u;clear u;have f:=L.same E.out (by omega);have D:ja w O (fun i=>i=r):=(Js I).tt L;have s:=jb f;clear f;go_wp2_with fail;refine(dh A htt).mono ?_;rintro e H ⟨rfl,z,J⟩;have b:=J.same s.out (by omega);have C:ja w H (fun i=>i=r):=D.tt J;obtain⟨a0,a1,Z,X,W,V⟩:=jbi (x:=0) (y:=0) b;have j:=jge (x:=0) (y:=0) b;have k:=z.other (Yk H w.heap.size (ju N) (ju F) (jd t)) (show r≠w.heap.size by omega) j;have d:=jfl (x:=0) (y:=0) (x':=N) (y':=F) (k':=t) b;have o:=jb d;have G:=jb k;clear d k b j;go_wp2;refine bodyPost_ret (Ru rfl rfl (c:=(N,F,t)) o.out) rfl ?_;exact⟨rfl,G.out,C.trans (Yk _ _ _ _ _) (fun i hi e=>by have Y:i=w.heap.size:=e;omega)⟩
  ·cases g
 ·cases g
def Xw(F:Nat)(ps:List (Nat×Str))(k:Nat):List (Nat×Nat×Str):=ps.mapIdx fun j p=>(p.1,(if j<k then Rf.Qv F ps j else F),p.2)
theorem zc(F:Nat)(ps:List (Nat×Str))(k:Nat):(Xw F ps k).length=ps.length:=by simp[Xw]
theorem J1{j:Nat}(h:j<ps.length):(Xw F ps k)[j]'(by rw[zc];exact h)=(ps[j].1,(if j<k then Rf.Qv F ps j else F),ps[j].2):=by simp[Xw]
theorem Vo(F:Nat)(ps:List (Nat×Str)):Xw F ps 0=ps.map (fun p=>(p.1,F,p.2)):=by
 apply List.ext_getElem
 ·simp[Xw]
 ·intro i c b
  simp[Xw]
theorem N5{ps:List (Nat×Nat×Str)}(h:k<ps.length)(x:Nat):yw (ps.set k (ps[k].1,x,ps[k].2.2))=(yw ps).set (k*3+1) (ju x):=by
 induction ps generalizing k with
 | nil=>simp at h
 | cons p r ih =>
  have e:∀(x:Nat×Nat×Str) (l:List (Nat×Nat×Str)),yw (x::l)=ju x.1::ju x.2.1::jd x.2.2::yw l:=fun x l=>by simp[yw]
  cases k with
  | zero=>simp[e]
  | succ k =>
   have:=ih (by simpa using h:k<r.length);simp only[List.getElem_cons_succ,List.set_cons_succ];rw[e,this,e,show(k+1)*3+1=(k*3+1)+1+1+1 by omega];simp[List.set_cons_succ]
theorem Vp(h:k<ps.length):Xw F ps (k+1)=(Xw F ps k).set k (ps[k].1,Rf.Qv F ps k,ps[k].2):=by
 apply List.ext_getElem
 ·simp[Xw]
 ·intro i b c
  rw[zc] at b;rw[J1 b,List.getElem_set];by_cases e:k=i
  ·subst e
   rw[if_pos rfl,if_pos (by omega)]
  ·rw[if_neg e,J1 b]
   by_cases hi:i<k
   ·rw[if_pos hi,if_pos (by omega)]
   ·rw[if_neg hi,if_neg (by omega)]
theorem Lu(h:k<ps.length):yw (Xw F ps (k+1))=(yw (Xw F ps k)).set (k*3+1) (ju (Rf.Qv F ps k)):=by
 rw[Vp h];have b:k<(Xw F ps k).length:=by rw[zc];exact h
 have:=N5 b (Rf.Qv F ps k);rw[J1 h] at this;exact this
theorem Wb(h:Rf.ot ps=true)(b:k+1<ps.length):ps[k].1<=ps[k+1].1:=by
 unfold Rf.ot at h;rw[XR] at h;have:=of_decide_eq_true h.2;exact List.pairwise_iff_getElem.1 this k (k+1) (by omega) b (by omega)
theorem Ox(h:Rf.ot ps=true):∃ x r,ps=(0,x)::r:=by
 unfold Rf.ot at h;rw[XR] at h;have b:=of_decide_eq_true h.1
 cases ps with
 | nil=>cases b
 | cons p r =>
  obtain⟨a,x⟩:=p;simp at b;exact⟨x,r,by rw[b]⟩
theorem jef{base:Nat}(u:ps.length=n)(v:Rf.ot ps=true)(b:w.ownsRow base 346 3 (.slice (some ⟨g,0,none⟩) n cap) n (yw (Xw F ps 0)))(U:n<1048576) :
 Calls prog 275 #[.slice (some ⟨g,0,none⟩) n cap] w fun e w'=>e = .returned .nilIface/\w'.ownsRow base 346 3 (.slice (some ⟨g,0,none⟩) n cap) n (yw (Xw F ps n))/\ja w w' (fun i=>i=g):=by
 obtain⟨S,T,s⟩:=Ox v;have N:1<=n:=by rw[<-u,s];simp
 have c0:w.cell? ⟨g,0,none⟩=some (ju 0):=by
  rw[b.cellAt 0 (by omega)];have:=(Xv (l:=Xw F ps 0) (k:=0) (by rw[zc];omega)).1;rw[J1 (by omega)] at this;simp only[s] at this;simpa [s] using this
 have d:Xw F ps (n-1)=Xw F ps n:=by
  apply List.ext_getElem
  ·simp[Xw]
  ·intro i x W
   rw[zc] at x;rw[J1 x,J1 x];by_cases hi:i<n-1
   ·rw[if_pos hi,if_pos (by omega)]
   ·rw[if_neg hi,if_pos (by omega)]
    have:Rf.Qv F ps i=F:=by
     unfold Rf.Qv;rw[XQ (by omega)];rfl
    rw[this]
 have r:=jb b;have J:=jb d;have L:=jb v;have I:=jb u;clear b d v s u;have M:(1:Int)<=(n:Int):=by omega
 go_enter func275,ntmps275;go_wp2
 go_loopw [15] (fun i wr=>∃(k:Nat),k<=n-1/\i = .int .i64 k/\wr.ownsRow base 346 3 (.slice (some ⟨g,0,none⟩) n cap) n (yw (Xw F ps k))/\ja w wr (fun i=>i=g))
  (fun i _=>n-1-(intOf i).toNat)
 case atStart=>exact⟨0,zU _,rfl,r.out,ja.refl _ _⟩
 case round =>
  obtain⟨k,V,rfl,b,o⟩:=hrel;rcases ZJ k (n-1)with O|R
  ·have A:(k:Int)<(n:Int)-1:=by omega
   have q:k+1<ps.length:=by rw[I.out];omega
   have H:wr.cell? ⟨g,k*3,none⟩=some (ju ps[k].1):=by
    rw[b.cellAt _ (by omega),(Xv (l:=Xw F ps k) (k:=k) (by rw[zc];omega)).1,J1 (by omega)]
   have G:wr.cell? ⟨g,(k+1)*3,none⟩=some (ju ps[k+1].1):=by
    rw[b.cellAt _ (by omega),(Xv (l:=Xw F ps k) (k:=k+1) (by rw[zc];omega)).1,J1 (by omega)]
   have E:=b.cellAt (k*3+1) (by omega);rw[(Xv (l:=Xw F ps k) (k:=k) (by rw[zc];omega)).2.1] at E;have Z:=b.frozenAt (k*3+1);have m:=Wb L.out q
   have f:Rf.Qv F ps k=ps[k+1].1:=by
    unfold Rf.Qv;rw[zL q];rfl
   have c:=Q8 b (j:=k*3+1) (by omega) (ju ps[k+1].1);rw[<-f,<-Lu (by omega),f] at c;have t:=o.set (p:=⟨g,k*3+1,none⟩) rfl (ju ps[k+1].1);generalize ps[k+1].1=X at G m c t f;generalize ps[k].1=Y at H m;have B:¬((X:Int)<(Y:Int)):=by omega
   have y:=jb c;have z:=jb t;clear b c t;go_wp2;exact⟨⟨k+1,by omega,by simp,y.out,z.out⟩,by simp[intOf];omega⟩
  ·have D:k=n-1:=by omega
   subst D;rw[J.out] at b;have C:¬(((n-1:Nat):Int)<(n:Int)-1):=by omega
   go_wp2;go_ret;exact⟨rfl,b,o⟩
theorem Rf.l8{l:List UInt8}(h:Rf.Jq F (n+1) l=some (ps,q)):∃ p r ps',Rf.ar F l=some (p,r)/\Rf.Jq F n r=some (ps',q)/\ps=p::ps':=by
 unfold Rf.Jq at h
 split at h
 ·cases h
 ·rename_i p r e
  split at h
  ·cases h
  ·rename_i ps' q' e'
   cases h;exact⟨p,r,ps',e,e',rfl⟩
theorem Rf.Di{l:List UInt8}(h:Rf.Jq F n l=some (ps,q)):ps.length=n:=by
 induction n generalizing l ps with
 | zero=>cases h;rfl
 | succ n ih =>
  obtain⟨p,r,c,_,b,rfl⟩:=Rf.l8 h;simp[ih b]
def plZ:Value:= .agg #[.int .i64 0,.int .i64 0,.string ⟨#[]⟩]
theorem Tryz.jfy:(prog.info? 346).map (fun i=>(i.zero,i.size,i.bytes))=some (some plZ,3,32):=by kernel_rfl
theorem N6(w:World)(x y:Nat)(k:Str)(t:TypeId):∀ j u,(yw [(x,y,k)])[j]?=some u->(w.alloc (.cells #[ju x,ju y,jd k] t)).cell? ((⟨w.heap.size,0,none⟩:Addr).add j)=some u:=by
 intro j u b;exact Jt (je w (.cells #[ju x,ju y,jd k] t)) rfl j u (by simpa [yw] using b)
theorem Rd.rowAt{base:Nat}{size:Nat}(h:Rd w r q)(d:ja w w' (fun i=>some i=v.ownBlock))(l:w.ownsRow base e size v n xs)(y:r<base):Rd w' r q:=by
 obtain⟨u,m,g,f⟩:=h;have b:∀ i,i<=r->¬some i=v.ownBlock:=fun i hi e=>by have:=(l.lt i e.symm).1;omega
 refine⟨u,d.same m (b r (xA _)),?_,f⟩;rcases Classical.em (q=[])with rfl|k
 ·obtain⟨p,c,rfl,x,t,s,o⟩:=g
  exact⟨p,c,rfl,x,t,s,fun ad e=>⟨(o ad e).1,fun j u hu=>by cases hu⟩⟩
 ·exact g.keep d (fun p n c e=>b _ (Nat.le_of_lt (f k p n c e).1))
theorem Ii{l:List UInt8}(hr:Rd w r l)(h:Rf.bm F l=some ps)(hF:F<1099511627776) :
 Calls prog 263 #[.pointer (some ⟨r,0,none⟩),ju F] w fun e w'=>∃ g cap,e = .returned (.tuple #[.slice (some ⟨g,0,none⟩) ps.length cap,.nilIface]) /\
  w'.ownsRow w.heap.size 346 3 (.slice (some ⟨g,0,none⟩) ps.length cap) ps.length (yw (Xw F ps ps.length))/\ja w w' (fun i=>i=r):=by
 have Y:r<w.heap.size:=by obtain⟨v,U,_⟩:=hr;exact zC U
 obtain⟨j0,hj,X,W,V⟩:=info_parts Tryz.jfy;unfold Rf.bm at h
 split at h
 ·rename_i hc
  obtain⟨h2,a3⟩:=hc
  split at h
  ·rename_i ps' htp
   split at h
   ·rename_i hjoin
    cases h;have o:=Rf.Di htp
    have a8:Rf.number (l.take 2)<65536:=by
     have:=Rf.Yx (l.take 2);rw[ZT,XI h2] at this;exact this
    obtain⟨N,R⟩:∃ N,N=Rf.number (l.take 2):=⟨_,rfl⟩;rw[<-R] at a8 o htp a3;rw[o];have HJ:=jb hjoin;have ac:=jb htp;have O:=jb o;clear hjoin htp o;have ap:((N:Int)==0)=false:=by simp;omega
    have ao:¬((N:Int)=0):=by omega
    go_enter func263,ntmps263;go_wp2_with fail;refine(yk (n:=2) hr h2 (by omega)).mono ?_;rintro e w1 ⟨rfl,a1,k1⟩;rw[<-R];have b3:=jb R;clear R;go_wp2
    go_loopw [8,27] (fun v i wr=>∃(k:Nat) (done u:List (Nat×Str)) (q:List UInt8) (p:Option Addr) (c:Nat),k<=N/\ps=done++u/\done.length=k/\Rf.Jq F (N-k) q=some (u,[])/\i = .int .u64 k/\v = .slice p k c /\
     wr.ownsRow w.heap.size 346 3 (.slice p k c) k (yw (done.map (fun p=>(p.1,F,p.2))))/\Rd wr r q/\ja w wr (fun i=>i=r))
     (fun _ i _=>N-(intOf i).toNat)
    case atStart=>exact⟨0,[],ps,_,none,0,zU _,rfl,rfl,ac.out,rfl,rfl,zS _ _ _ _,a1,k1⟩
    case round =>
     obtain⟨k,done,u,q,p,c,hk,D,a6,d,rfl,rfl,b,A,G⟩:=hrel;have J:=jb D;clear D;rcases ZJ k N with E|b1
     ·rw[show N-k=(N-(k+1))+1 by omega] at d
      obtain⟨⟨s,t⟩,q',x,hT,I,rfl⟩:=Rf.l8 d;have ad:=jb I;clear d I;go_wp2_with fail;refine(Lo A hT hF).mono ?_;rintro e z ⟨rfl,a0,k2⟩;have m:=k2.row b (fun g T e=>by have:=(b.lt g T).1;omega);have KW:=Qz G k2;clear b A;have B:=(m.alloc (.cells #[ju s,ju F,jd t] 346)).alloc (.cells #[ju s,ju F,jd t] 346);have L:(z.alloc (.cells #[ju s,ju F,jd t] 346)).heap.size=z.heap.size+1:=by simp
      have y:=N6 (z.alloc (.cells #[ju s,ju F,jd t] 346)) s F t 346;rw[L] at y;have U:=jfm [(s,F,t)];have a9:Hid (k+1<=maxLen):=by unfold Hid maxLen;omega
      have a7:Hid ((k+1)*32<=140737488355328):=by unfold Hid;omega
      have hb:w.heap.size<=((z.alloc (.cells #[ju s,ju F,jd t] 346)).alloc (.cells #[ju s,ju F,jd t] 346)).heap.size:=by have:=KW.size;simp;omega
      have M:=m.lt
      go_wp2_with (first|(at_builtin;go_must (refine jk _ rfl (.tmp 39) (.tmp 41) 321 rfl w.heap.size 346 j0 plZ 3 32 underlying321 hj X W V rfl (ZG 2) _ _ _ rfl B ⟨z.heap.size+1,0,none⟩ 1 1 (yw [(s,F,t)]) rfl rfl y U a9.out a7.out hb ?_);intro p3 aa S f a5 af)|go_in)
      rw[<-Lv] at f;have k3:ja z S (fun i=>some i=(Value.slice p k c).ownBlock):=(((ja.refl z _).more _).more _).grow a5 (fun j e _=>e.symm);have ab:ja w S (fun i=>i=r):=KW.trans k3 (fun i hi e=>by have:=(M i e.symm).1;omega);have Z:Rd S r q':=a0.rowAt k3 m Y;have a4:(done++[(s,t)]).map (fun p=>(p.1,F,p.2))=done.map (fun p=>(p.1,F,p.2))++[(s,F,t)]:=by simp
      rw[<-a4] at f;have a2:ps=(done++[(s,t)])++x:=by rw[J.out];simp
      exact⟨⟨k+1,done++[(s,t)],x,q',p3,aa,by omega,a2,by simp[a6],ad.out,by simp,rfl,f,Z,ab⟩,by simp[intOf];omega⟩
     ·have ek:k=N:=by omega
      subst ek;rw[Nat.sub_self] at d;cases d;have hd:ps=done:=by have:=J.out;simpa using this
      rw[<-hd,<-Vo] at b;have b2:0<k:=by omega
      obtain⟨g,T⟩:∃ g,p=some ⟨g,0,none⟩:=by
       rcases b.2 with⟨e,e0⟩|⟨g,_,_,e,_⟩
       ·omega
       ·cases e;exact⟨g,rfl⟩
      subst T;have H:=jef (base:=w.heap.size) O.out HJ.out b (by omega);have ae:=jb H;have E:=b.lt;clear H b HJ hd;go_wp2_with fail;refine(Tc A).mono ?_;rintro e w' ⟨rfl,rfl⟩;go_wp2_with fail;refine ae.out.mono ?_;rintro e w5 ⟨rfl,C,k5⟩;go_wp2;go_ret2;exact⟨g,c,rfl,C,G.trans k5 (fun i hi e=>by have:=(E g rfl).1;omega)⟩
   ·cases h
  ·cases h
 ·cases h
abbrev Ib(hv pv:Value):Value:= .agg #[hv,pv]
theorem jb3(h:w.heap[b]?=some (.cells #[hv,pv] 323 (0,0))):(loadVar 323 ⟨b,0,none⟩).run prog w = .ok (Ib hv pv) w:=by
 have d:=zA (o:=0) h;have c:=zA (o:=1) h;simp at d c;go_simp
theorem nw{t:Tmp}(h:fn.results=#[.cell t 323,.tmp u])(d:tmps.getD t undef = .pointer (some ⟨b,0,none⟩))(g:w.heap[b]?=some (.cells #[hv,pv] 323 (0,0))) :
 (results fn tmps).run prog w = .ok (.tuple #[Ib hv pv,tmps.getD u undef]) w:=by
 have f:=jb3 g;have c:tmps[t]?.getD undef = .pointer (some ⟨b,0,none⟩):=by simpa using d
 simp[results,h,c,asAddr,f]
theorem run_set{x y x' y':Value}(h:w.heap[b]?=some (.cells #[x,y] 323 (0,0))) :
 ((w.setCell ⟨b,0,none⟩ x').setCell ⟨b,1,none⟩ y').heap[b]?=some (.cells #[x',y'] 323 (0,0)):=by
 have d:=jc (o:=0) h x';have c:=jc (o:=1) d y';simpa using c
theorem Si(w:World)(b:Nat)(x y:Value):ja w ((w.setCell ⟨b,0,none⟩ x).setCell ⟨b,1,none⟩ y) (fun i=>i=b) :=
 ((ja.refl w (fun i=>i=b)).set (p:=⟨b,0,none⟩) rfl x).set (p:=⟨b,1,none⟩) rfl y
theorem Rf.Hk{l h:List UInt8}(e:Rf.qw l=some (h,q)):8<=l.length:=(Rf.mz e).1
theorem Ry{b:List UInt8}(hv:Bytes w v b)(h:Rf.C6 b=some (F,ps))(hl:b.length<1099511627776) :
 Calls prog 254 #[v] w fun e w'=>∃ g cap,e = .returned (.tuple #[Ib v (.slice (some ⟨g,0,none⟩) ps.length cap),.nilIface]) /\
  w'.ownsRow w.heap.size 346 3 (.slice (some ⟨g,0,none⟩) ps.length cap) ps.length (yw (Xw F ps ps.length))/\ja w w' (fun _=>False):=by
 unfold Rf.C6 at h
 split at h
 ·rename_i hc
  obtain⟨h4,z⟩:=hc
  split at h
  ·rename_i hh htf
   split at h
   ·rename_i ps' hps
    have f:F=Rf.number (b.drop (b.length-4)):=by cases h;rfl
    have S:ps'=ps:=by cases h;rfl
    clear h;subst S;obtain⟨M,u⟩:∃ M,b.length=M+4:=⟨b.length-4,by omega⟩;rw[show b.length-4=M by omega] at z htf hps f;rw[<-f] at z htf hps;obtain⟨p,c,rfl,a1,a2,a3,a4⟩:=id hv;unfold maxLen at a2;have hp:p≠none:=fun e=>by have:=a3 e;omega
    have ay:F<4294967296:=by
     have:=Rf.Yx (b.drop M);rw[ZU,u,show M+4-M=4 by omega,<-f] at this;exact this
    have I:=hv.drop M (by omega);have b2:=(hv.take M (by omega));have k:(b.take M).length=M:=by rw[ZT];omega
    have H:Bytes w (.slice (if c=F then p else p.map (·.add F)) (M-F) (c-F)) ((b.take M).drop F):=by
     have:=Bytes.drop (l:=b.take M) (by rw[k];exact b2) F (by omega);rwa [k] at this
    rw[if_neg (by omega:¬c=M),u,show M+4-M=4 by omega] at I;rw[if_neg (by omega:¬c=F)] at H;have e4:(b.drop M).length=4:=by rw[ZU];omega
    have et:(b.drop M).take 4=b.drop M:=ZO (by omega);rw[u];rw[u] at a1 hl;clear a3 a4 b2 h4;have E:=ja.alloc w (.cells #[.slice none 0 0,.slice none 0 0] 323) (fun _=>False);have B:=je w (.cells #[.slice none 0 0,.slice none 0 0] 323);have y:=Qm _ _ _ (I.same E);have HV:=jb hv;have V:=jb B;have Y:=jb f;have a0:=jb H;have W:=jb y;have D:=jb hps;have U:=jb htf;have Z:=jb et;have X:=jb k;have az:=jb u;clear hv B f H I y hps htf et k u;have ax:¬c=F:=by omega
    have aw:¬c=M:=by omega
    go_enter func254,ntmps254;go_wp2_with fail;refine W.out.mono ?_;rintro e w1 ⟨r,rfl,au,R,k1⟩;go_wp2_with fail;refine(yk (n:=4) R (by omega) (by omega)).mono ?_;rintro e w2 ⟨rfl,av,k2⟩;rw[Z.out,<-Y.out];have t:ja w w2 (fun _=>False):=Yj (E.tt k1) (by have:=E.size;omega) k2;have h9:(w.alloc (.cells #[.slice none 0 0,.slice none 0 0] 323)).heap.size=w.heap.size+1:=by simp
    have q:=k2.same (k1.same V.out id) (by omega);clear h9;have x:=iq (a0.out.same t) U.out (by rw[ZU,X.out];omega);have T:=jb x;have s:=jb q;clear x q;go_wp2_with fail;refine T.out.mono ?_;rintro e w3 ⟨v3,rfl,A,G⟩;obtain⟨p3,c3,rfl,_⟩:=id A;go_wp2_with fail;refine(Qm _ _ _ A).mono ?_;rintro e w4 ⟨r4,rfl,af,O,k4⟩;go_wp2_with fail;refine(Ii O D.out (by omega)).mono ?_;rintro e w5 ⟨g,cap,rfl,m,k5⟩;have L:ja w2 w4 (fun _=>False):=G.tt k4;have J:ja w w4 (fun _=>False):=t.tt L;have K5:ja w w5 (fun _=>False):=Yj J (by have:=J.size;have:=(t.tt G).size;omega) k5;have ar:=zC s.out;have d:=k5.same (L.same s.out id) (by have:=G.size;omega);have q0:=zA (o:=0) d;have q1:=zA (o:=1) d;have f0:=zB (o:=0) d;have f1:=zB (o:=1) d;simp at q0 q1;have C:=jb d;clear d;go_wp2;refine bodyPost_ret (nw rfl rfl (run_set C.out)) rfl ?_;have k6:=Si w5 w.heap.size (.slice p (M+4) c) (.slice (some ⟨g,0,none⟩) ps'.length cap);have N:=J.size;refine⟨g,cap,rfl,qg (k6.row m (fun j hj e=>?_)) N,K5.trans k6 (fun i hi e=>by have e':i=w.heap.size:=e;omega)⟩;have:=(m.lt j hj).1;have:=L.size;have e':j=w.heap.size:=e;omega
   ·cases h
  ·cases h
 ·cases h
def Pls(w:World)(g cap:Nat)(l:List (Nat×Nat×Str)):Prop:=l.length<=cap/\cap<=maxLen/\∀ j u,(yw l)[j]?=some u->w.cell? ⟨g,j,none⟩=some u
theorem Pls.keep{T:Nat->Prop}(h:Pls w g cap l)(k:ja w w' T)(b:l≠[]->¬T g):Pls w' g cap l :=
 ⟨h.1,h.2.1,fun j u hu=>k.cell (h.2.2 j u hu) (b (fun e=>by rw[e] at hu;cases hu))⟩
theorem Pls.same(h:Pls w g cap l)(k:ja w w' (fun _=>False)):Pls w' g cap l:=h.keep k (fun _=>id)
theorem R7{base:Nat}(i:l.length=n)(h:w.ownsRow base 346 3 (.slice (some ⟨g,0,none⟩) n cap) n (yw l)):Pls w g cap l:=by
 rcases h.2 with⟨e,_⟩|⟨m,b,f,e,_,d,k,c,_⟩
 ·cases e
 ·cases e
  refine⟨by omega,c,fun j u hu=>?_⟩;have:=h.cells (g:=g) rfl j u hu;rwa [Ju,zP] at this
theorem Pls.at(h:Pls w g cap l)(b:k<l.length):w.cell? ⟨g,k*3,none⟩=some (ju l[k].1)/\w.cell? ⟨g,k*3+1,none⟩=some (ju l[k].2.1)/\w.cell? ⟨g,k*3+2,none⟩=some (jd l[k].2.2) :=
 ⟨h.2.2 _ _ (Xv b).1,h.2.2 _ _ (Xv b).2.1,h.2.2 _ _ (Xv b).2.2⟩
theorem Xb(c:Nat×Nat×Str)(key:Str)(w:World) :
 Calls prog 256 #[plV c,jd key] w fun e w'=>e = .returned (.int .i64 (Bd c.2.2 key))/\ja w w' (fun _=>False):=by
 obtain⟨x,y,k⟩:=c;go_enter func256,ntmps256
 go_wp2_with (go_at_call 190;refine(Tryz.strings_Compare ⟨k.toArray⟩ ⟨key.toArray⟩ _).mono ?_;rintro e w' ⟨rfl,rfl⟩)
 go_ret;exact⟨by simp[Bd],ja.alloc w _ _⟩
theorem Lj(l:List (Nat×Nat×Str))(A:Nat)(key:Str)(w:World)(F:l.length=n)(hv:Pls w g cap l)(hA:A<=l.length)(u:∀ j,∀ h:j<l.length,j<A->l[j].2.2<key)(I:∀ j,∀ h:j<l.length,A<=j->¬l[j].2.2<key)(hl:l.length<1099511627776) :
 Calls prog 255 #[.slice (some ⟨g,0,none⟩) n cap,jd key,.func (.func 256) #[] #[]] w fun e w' =>
  e = .returned (.tuple #[ju A,.bool (decide ((l[A]?).map (fun p=>p.2.2)=some key))])/\ja w w' (fun _=>False):=by
 subst F;have q:=jb u;have B:=jb I;clear u I;go_enter func255,ntmps255;go_wp2_with fail
 go_loopw [9,10] (fun a b wr=>∃(lo hi:Nat),a = .int .i64 lo/\b = .int .i64 hi/\lo<=hi/\hi<=l.length/\(∀ j,∀ h:j<l.length,j<lo->l[j].2.2<key)/\(∀ j,∀ h:j<l.length,hi<=j->¬l[j].2.2<key)/\ja w wr (fun _=>False))
  (fun a b _=>(intOf b-intOf a).toNat)
 case atStart=>exact⟨0,l.length,rfl,rfl,zU _,xA _,(fun j h Y=>by omega),(fun j h Y=>by omega),ja.refl _ _⟩
 case round =>
  obtain⟨lo,hi,rfl,rfl,E,Y,J,M,d⟩:=hrel;have t:=jb J;have C:=jb M;clear J M;rcases ZJ lo hi with z|a8
  ·have R:(lo+hi)/2<l.length:=by omega
   have x:=hv.same d;obtain⟨e0,e1,Z⟩:=x.at R;have U:((lo:Int)+(hi:Int))/2=(((lo+hi)/2:Nat):Int):=by omega
   have a5:((lo:Int)+(hi:Int))%18446744073709551616=(lo:Int)+(hi:Int):=by omega
   generalize hM:(lo+hi)/2=m at R e0 e1 Z U;have a7:lo<=m:=by omega
   have a6:m<hi:=by omega
   have f:¬l[m].2.2<key->∀ j,∀ h:j<l.length,m<=j->¬l[j].2.2<key:=by
    intro F j h hj c;refine B.out j h ?_ c;rcases ZJ m A with E|E
    ·exact(F (q.out m R E)).elim
    ·omega
   have r:l[m].2.2<key->∀ j,∀ h:j<l.length,j<m+1->l[j].2.2<key:=by
    intro F j h hj;refine q.out j h ?_;rcases ZJ m A with E|E
    ·omega
    ·exact(B.out m R E F).elim
   have o:=jb f;have s:=jb r;clear f r;rcases b9 l[m].2.2 key with⟨c,i⟩|⟨c,i⟩|⟨c,i⟩
   ·have L:=s.out c
    have W:=jb L;clear L c s o
    go_wp2_with (go_at_call 256;refine(Xb l[m] key wr).mono ?_;rintro e S ⟨rfl,v⟩;rw[i])
    exact⟨⟨m+1,hi,by simp,by simp,by omega,by omega,W.out,C.out,d.tt v⟩,by simp[intOf];omega⟩
   ·have k:=o.out (by rw[c];exact XS _)
    have D:=jb k;clear k c s o
    go_wp2_with (go_at_call 256;refine(Xb l[m] key wr).mono ?_;rintro e S ⟨rfl,v⟩;rw[i])
    exact⟨⟨lo,m,by simp,by simp,by omega,by omega,t.out,D.out,d.tt v⟩,by simp[intOf];omega⟩
   ·have k:=o.out (List.lt_asymm c)
    have D:=jb k;clear k c s o
    go_wp2_with (go_at_call 256;refine(Xb l[m] key wr).mono ?_;rintro e S ⟨rfl,v⟩;rw[i])
    exact⟨⟨lo,m,by simp,by simp,by omega,by omega,t.out,D.out,d.tt v⟩,by simp[intOf];omega⟩
  ·have eh:hi=lo:=by omega
   subst eh
   have X:A=hi:=by
    rcases Nat.lt_trichotomy A hi with G|G|G
    ·exact(B.out A (by omega) (xA _) (t.out A (by omega) G)).elim
    ·exact G
    ·exact(C.out hi (by omega) (xA _) (q.out hi (by omega) G)).elim
   have N:=jb X;clear t C X;rcases ZJ hi l.length with z|O
   ·have x:=hv.same d
    obtain⟨e0,e1,Z⟩:=x.at z;have H:(l[hi]?).map (fun p=>p.2.2)=some l[hi].2.2:=by rw[zL z];rfl
    have T:=jb H;clear H;rcases b9 l[hi].2.2 key with⟨c,i⟩|⟨c,i⟩|⟨c,i⟩
    all_goals
     have y:decide (some l[hi].2.2=some key)=(Bd l[hi].2.2 key==0):=by
      rw[i]
      first
       | (have h3:¬l[hi].2.2=key:=fun e=>by rw[e] at c;exact XS _ c
          simp[h3])
       | simp[c]
     rw[i] at y;have V:=jb y;clear y c
     go_wp2_with (go_at_call 256;refine(Xb l[hi] key wr).mono ?_;rintro e S ⟨rfl,v⟩;rw[i])
     go_ret2;refine⟨?_,d.tt v⟩;rw[N.out,T.out,V.out];rfl
   ·have H:l[hi]?=none:=XQ O
    have T:=jb H;clear H;go_wp2;go_ret2;refine⟨?_,d⟩;rw[N.out,T.out];rfl
end Go.Proofs.YtnipbplghijdmaaGreatDoor
