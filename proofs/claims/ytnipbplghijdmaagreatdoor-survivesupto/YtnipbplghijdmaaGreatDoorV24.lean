/-
  V: HeapA HeapB HeapC HeapD MergeA MergeB.
-/
import Derived.Test.YtnipbplghijdmaaGreatDoorV23
import Derived.Test.YtnipbplghijdmaaGreatDoorV20
set_option maxRecDepth 100000
set_option maxHeartbeats 8000000
set_option linter.unusedVariables false
set_option linter.unusedSimpArgs false
namespace Go.Proofs.YtnipbplghijdmaaGreatDoor
open RowKit Maps WideShapes Go.Proofs.Tryz
variable {P:Program} {W W' w w':World} {e t:TypeId} {b cap g hb i j k n:Nat} {name:String} {p1 v:Value} {p2 x y:Int} {T:Nat->Prop} {l:List Value} {hi:Str} {ls:List (List Rf.Ch)}
theorem Ph(a:Addr)(b c:TypeId)(s t:String):(Builtin.ssaWrapNilChk_ #[b] c #[.pointer (some a),strVal s,strVal t]).run P w = .ok (.pointer (some a)) w:=rfl
theorem jck{i:TypeInfo}(h:P.info? t=some i):(typeInfo t).run P w = .ok i w:=by
 simp[typeInfo,Sem.run_bind,Result.andThen,go_sem,h]
theorem vg{fuel:Nat}{b:TypeId}{f:FuncId}{i:TypeInfo}{m:Method}{a:Addr}(hi:P.info? t=some i)(k:i.methods.find? (·.name==name)=some m)(j:m.path=#[])(l:m.func=some (f,false))(g:P.underlying t=some (.pointer b))(d:(isAgg b).run P w = .ok false w)(c:w.cell? a=some v):(Go.method (fuel+1) t (.pointer (some a)) name).run P w = .ok (f,v) w:=by
 simp[Go.method,Sem.run_bind,jck hi,run_underlying g,k,j,l,d,c,Result.andThen,follow,receiverAt,Place.get,Ph,go_sem]
theorem rowOf{i:TypeInfo}{r:Nat×Option (FuncId×Bool)}(h:(i.methods.find? (·.name==name)).map (fun m=>(m.path.size,m.func))=some r):∃ m,i.methods.find? (·.name==name)=some m/\m.path.size=r.1/\m.func=r.2:=by
 obtain⟨m,c,b⟩:=XK.1 h;exact⟨m,c,by rw[<-b],by rw[<-b]⟩
theorem vz(w:World):(isAgg 285).run prog w = .ok false w:=by kernel_rfl
theorem ia:(prog.info? 241).map (fun i=>((i.methods.find? (·.name== "Len")).map (fun m=>(m.path.size,m.func)),(i.methods.find? (·.name== "Less")).map (fun m=>(m.path.size,m.func)),(i.methods.find? (·.name== "Swap")).map (fun m=>(m.path.size,m.func)))) =
 some (some (0,some (173,false)),some (0,some (298,false)),some (0,some (301,false))):=by kernel_rfl
theorem Bo(h:w.cell? ⟨b,0,none⟩=some v):(Go.method 505 241 (.pointer (some ⟨b,0,none⟩)) "Len").run prog w = .ok (173,v) w:=by
 obtain⟨i,hi,c⟩:=XK.1 ia;obtain⟨m,g,f,d⟩:=rowOf (r:=(0,some (173,false))) (congrArg Prod.fst c);exact vg (fuel:=504) hi g (Array.eq_empty_of_size_eq_zero f) d underlying241 (vz w) h
theorem vh(h:w.cell? ⟨b,0,none⟩=some v):(Go.method 505 241 (.pointer (some ⟨b,0,none⟩)) "Less").run prog w = .ok (298,v) w:=by
 obtain⟨i,hi,c⟩:=XK.1 ia;obtain⟨m,g,f,d⟩:=rowOf (r:=(0,some (298,false))) (congrArg (fun x=>x.2.1) c);exact vg (fuel:=504) hi g (Array.eq_empty_of_size_eq_zero f) d underlying241 (vz w) h
theorem eo(h:w.cell? ⟨b,0,none⟩=some v):(Go.method 505 241 (.pointer (some ⟨b,0,none⟩)) "Swap").run prog w = .ok (301,v) w:=by
 obtain⟨i,hi,c⟩:=XK.1 ia;obtain⟨m,g,f,d⟩:=rowOf (r:=(0,some (301,false))) (congrArg (fun x=>x.2.2) c);exact vg (fuel:=504) hi g (Array.eq_empty_of_size_eq_zero f) d underlying241 (vz w) h
theorem Uk(v:Value)(w:World):(Go.method 505 241 v "Push").run prog w = .ok (300,v) w:=by kernel_rfl
theorem ja0(v:Value)(w:World):(Go.method 505 241 v "Pop").run prog w = .ok (299,v) w:=by kernel_rfl
abbrev HS:=Value×Rf.Source
def yw(ps:List HS):List Value:=ps.flatMap fun p=>[p.1,j7 p.2.age]
theorem bn(ps:List HS):(yw ps).length=ps.length*2:=by
 induction ps with
 | nil=>rfl
 | cons p r ih=>simp only[yw,XH,ZC,zP,zQ] at ih ⊢;omega
theorem Pb{ps:List HS}{p:HS}(h:ps[k]?=some p):(yw ps)[k*2]?=some p.1/\(yw ps)[k*2+1]?=some (j7 p.2.age):=by
 induction ps generalizing k with
 | nil=>simp at h
 | cons q r ih =>
  have e:yw (q::r)=[q.1,j7 q.2.age]++yw r:=by simp[yw]
  rw[e]
  cases k with
  | zero=>cases h;simp
  | succ k =>
   have:=ih (k:=k) (by simpa using h);constructor
   ·rw[xD (by simp;omega)]
    simpa [show(k+1)*2-2=k*2 by omega] using this.1
   ·rw[xD (by simp;omega)]
    simpa [show(k+1)*2+1-2=k*2+1 by omega] using this.2
structure xj(W:World)(base hb:Nat)(v:Value)(ps:List HS):Prop where
 box:W.heap[hb]?=some (.cells #[v] 285 (0,0))
 row:W.ownsRow base 288 2 v ps.length (yw ps)
 ne:v.ownBlock≠some hb
 has:∀ p∈ps,Chs W p.1 p.2.entries/\∀ ad n c,p.1 = .slice (some ad) n c->ad.block≠hb/\v.ownBlock≠some ad.block
theorem xj.cell{base:Nat}{ps:List HS}(h:xj W base hb v ps):W.cell? ⟨hb,0,none⟩=Option.some v:=(zA h.box).trans rfl
theorem xj.src{base:Nat}{ps:List HS}(h:xj W base hb v ps){p:HS}(c:ps[k]?=Option.some p) :
 ∃ g cap,v = .slice (Option.some ⟨g,0,none⟩) ps.length cap/\ps.length<=cap/\W.cell? ⟨g,k*2,none⟩=Option.some p.1/\W.cell? ⟨g,k*2+1,none⟩=Option.some (j7 p.2.age):=by
 have m:=(zZ.1 c).1;obtain⟨f,d⟩:=Pb c;rcases h.row.2 with⟨rfl,n⟩|⟨g,cap,l,rfl,j,i,b,_⟩
 ·omega
 ·refine⟨g,cap,rfl,b,?_,?_⟩
  ·have:=h.row.cells rfl _ _ f;rwa [add_zero] at this
  ·have:=h.row.cells rfl _ _ d;rwa [add_zero] at this
theorem jb8{l:List Rf.Ch}(h:Chs W v l)(f:l≠[]):∃ b o cap,v = .slice (some ⟨b,o,none⟩) l.length cap/\l.length<=cap/\W.cell? ⟨b,o,none⟩=some (jf ((l.head?.map Rf.Ch.key).getD [])):=by
 obtain⟨p,c,rfl,g,m,k,j⟩:=id h;have d:0<l.length:=ZY.2 f;obtain⟨b,o,rfl,i,q,n⟩:=h.at d;refine⟨b,o,c,rfl,g,?_⟩
 cases l with
 | nil=>exact(f rfl).elim
 | cons x r=>simpa using i
theorem Aq(p:Option Addr)(n c:Nat)(w:World)(b:n<1099511627776):Calls prog 173 #[.slice p n c] w fun e w'=>e = .returned (j7 n)/\w'=w:=by
 go_enter func173,ntmps173;go_wp2;go_ret;exact⟨rfl,rfl⟩
theorem jdk{base:Nat}{ps:List HS}(H:xj W base hb v ps){p q:HS}(hi:ps[i]?=some p)(m:ps[j]?=some q)(k:p.2.entries≠[])(f:q.2.entries≠[])(N:ps.length<1048576)(S:p.2.age<4611686018427387904/\q.2.age<4611686018427387904) :
 Calls prog 298 #[v,j7 i,j7 j] W fun e w'=>e = .returned (.bool (p.2.less q.2))/\ja W w' (fun _=>False):=by
 obtain⟨g,cap,rfl,x,C,a2⟩:=H.src hi;obtain⟨V,y,e,_,B,X⟩:=H.src m;cases e;have G:=(zZ.1 hi).1;have F:=(zZ.1 m).1;have r:=XL hi;have o:=XL m;obtain⟨Z,J,M,u,U,A⟩:=jb8 (H.has p r).1 k;obtain⟨Y,I,L,t,T,z⟩:=jb8 (H.has q o).1 f;have E:0<p.2.entries.length:=ZY.2 k;have D:0<q.2.entries.length:=ZY.2 f;rw[u] at C;rw[t] at B;have b:p.2.less q.2=(decide (p.2.top<q.2.top)||(decide (p.2.top=q.2.top)&&decide (p.2.age<q.2.age))):=rfl;unfold Rf.Source.top at b;generalize (p.2.entries.head?.map Rf.Ch.key).getD []=kp at A b;generalize (q.2.entries.head?.map Rf.Ch.key).getD []=kq at z b;generalize p.2.less q.2=R at b ⊢;generalize p.2.entries.length=np at *
 generalize q.2.entries.length=nq at *
 generalize p.2.age=ap at *
 generalize q.2.age=aq at *
 have n:=jb b;clear b u t H hi m r o k f;have s:∀ q,ja W (W.drewN q) (fun _=>False):=fun q=>⟨rfl,rfl,rfl,ZQ _,fun _ _ _=>rfl⟩;rcases fh kp kq with⟨d,l⟩|⟨d,l⟩|⟨d,l⟩
 ·have c:Hid (R=true):=by unfold Hid;rw[n.out];simp[d]
  unfold Bw at l;clear d;go_enter func298,ntmps298;go_wp2_with fail;go_quiet ((go_at_call 190;exact Calls.quiet_of_same (Tryz.strings_Compare ⟨kp.toArray⟩ ⟨kq.toArray⟩ _)));go_wp2;go_ret;exact⟨by rw[c.out];rfl,s _⟩
 ·have c:Hid (R=decide (ap<aq)):=by unfold Hid;rw[n.out];simp[d,XM]
  unfold Bw at l;clear d;have O:decide ((ap:Int)<aq)=decide (ap<aq):=by simp
  go_enter func298,ntmps298;go_wp2_with fail;go_quiet ((go_at_call 190;exact Calls.quiet_of_same (Tryz.strings_Compare ⟨kp.toArray⟩ ⟨kq.toArray⟩ _)));go_wp2_with fail;go_quiet (fail);go_wp2;go_ret;exact⟨by rw[c.out];simp,⟨rfl,rfl,rfl,ZQ _,fun _ _ _=>rfl⟩⟩
 ·have c:Hid (R=false):=by
   unfold Hid;rw[n.out];simp[Rf.As d,Ne.symm (Rf.il d)]
  unfold Bw at l
  clear d
  go_enter func298,ntmps298
  go_wp2_with fail
  go_quiet ((go_at_call 190;exact Calls.quiet_of_same (Tryz.strings_Compare ⟨kp.toArray⟩ ⟨kq.toArray⟩ _)))
  go_wp2
  go_ret
  exact⟨by rw[c.out];rfl,s _⟩
theorem jag{d:Value}{f:Int}(m:i≠j)(hi:i<n)(A:j<n)(z:n<1048576)(C:n<=cap)(l:∃ a b c,p1 = .slice a b c)(k:∃ a b c,d = .slice a b c)(G:W.cell? ⟨g,i*2,none⟩=some p1)(F:W.cell? ⟨g,i*2+1,none⟩=some (.int .i64 p2))(E:W.cell? ⟨g,j*2,none⟩=some d)(D:W.cell? ⟨g,j*2+1,none⟩=some (.int .i64 f))(B:∀ o,W.frozen? ⟨g,o,none⟩=false) :
 Calls prog 301 #[.slice (some ⟨g,0,none⟩) n cap,j7 i,j7 j] W fun e w'=>e = .returned (.tuple #[])/\w'=((((W.setCell ⟨g,i*2,none⟩ d).setCell ⟨g,i*2+1,none⟩ (.int .i64 f)).setCell ⟨g,j*2,none⟩ p1).setCell ⟨g,j*2+1,none⟩ (.int .i64 p2)).drew:=by
 obtain⟨t,s,pc,rfl⟩:=l;obtain⟨r,q,p,rfl⟩:=k;have y:¬j*2=i*2:=by omega
 have x:¬j*2=i*2+1:=by omega
 have v:¬j*2+1=i*2:=by omega
 have u:¬j*2+1=i*2+1:=by omega
 go_enter func301,ntmps301;go_wp2_with fail
 go_region
 go_end0;exact⟨rfl,rfl⟩
theorem Fj(hi:i<n)(m:n<1048576)(q:n<=cap)(d:∃ a b c,p1 = .slice a b c)(s:W.cell? ⟨g,i*2,none⟩=some p1)(r:W.cell? ⟨g,i*2+1,none⟩=some (.int .i64 p2))(p:∀ o,W.frozen? ⟨g,o,none⟩=false) :
 Calls prog 301 #[.slice (some ⟨g,0,none⟩) n cap,j7 i,j7 i] W fun e w'=>e = .returned (.tuple #[])/\w'=((((W.setCell ⟨g,i*2,none⟩ p1).setCell ⟨g,i*2+1,none⟩ (.int .i64 p2)).setCell ⟨g,i*2,none⟩ p1).setCell ⟨g,i*2+1,none⟩ (.int .i64 p2)).drew:=by
 obtain⟨j,f,pc,rfl⟩:=d;have l:¬i*2=i*2+1:=by omega
 have k:¬i*2+1=i*2:=by omega
 go_enter func301,ntmps301;go_wp2_with fail
 go_region
 go_end0;exact⟨rfl,rfl⟩
theorem td{base:Nat}{size:Nat}{xs:List Value}(h:w.ownsRow base e size (.slice (some ⟨g,0,none⟩) n cap) n xs)(p:j<n*size)(u:Value):(w.setCell ⟨g,j,none⟩ u).ownsRow base e size (.slice (some ⟨g,0,none⟩) n cap) n (xs.set j u):=by
 refine⟨by rw[xH];exact h.1,?_⟩;rcases h.2 with⟨b,_⟩|⟨q,d,c,b,o,m,l,k,i,f⟩
 ·cases b
 ·cases b
  refine .inr ⟨g,cap,c.setIfInBounds j u,rfl,o,jd m u,l,k,by simpa using i,?_⟩;rw[Array.toList_setIfInBounds,List.take_set,f]
theorem Ad{ps:List HS}(h:k<ps.length)(q:HS):yw (ps.set k q)=((yw ps).set (k*2) q.1).set (k*2+1) (j7 q.2.age):=by
 induction ps generalizing k with
 | nil=>simp at h
 | cons p r ih =>
  have e:∀(x:HS) (l:List HS),yw (x::l)=x.1::j7 x.2.age::yw l:=fun x l=>by simp[yw]
  cases k with
  | zero=>simp[e]
  | succ k =>
   rw[List.set_cons_succ,e,e,ih (by simpa using h),show(k+1)*2=k*2+1+1 by omega,show k*2+1+1+1=(k*2+1)+1+1 by omega];simp[List.set_cons_succ]
theorem xj.frozen{base:Nat}{ps:List HS}(h:xj W base hb (.slice (Option.some ⟨g,0,none⟩) n cap) ps)(o:Nat):W.frozen? ⟨g,o,none⟩=false:=by
 rcases h.row.2 with⟨b,_⟩|⟨j,c,f,b,i,d,_⟩
 ·cases b
 ·cases b
  exact zB d
theorem xj.keep{base:Nat}{ps:List HS}(h:xj W base hb v ps)(k:ja W W' T)(f:¬T hb)(d:∀ g,v.ownBlock=Option.some g->¬T g)(b:∀ p∈ps,∀ ad n c,p.1 = .slice (Option.some ad) n c->¬T ad.block):xj W' base hb v ps :=
 ⟨k.same h.box f,k.row h.row d,h.ne,fun p hp=>⟨(h.has p hp).1.keep k (fun _ ad n c e=>b p hp ad n c e),(h.has p hp).2⟩⟩
theorem xj.same{base:Nat}{ps:List HS}(h:xj W base hb v ps)(k:ja W W' (fun _=>False)):xj W' base hb v ps:=h.keep k id (fun _ _=>id) (fun _ _ _ _ _ _=>id)
theorem xj.jho{base:Nat}{ps:List HS}(h:xj W base hb (.slice (Option.some ⟨g,0,none⟩) ps.length cap) ps){p q:HS}(hi:ps[i]?=Option.some p)(m:ps[j]?=Option.some q) :
 xj ((((W.setCell ⟨g,i*2,none⟩ q.1).setCell ⟨g,i*2+1,none⟩ (j7 q.2.age)).setCell ⟨g,j*2,none⟩ p.1).setCell ⟨g,j*2+1,none⟩ (j7 p.2.age)).drew base hb (.slice (Option.some ⟨g,0,none⟩) ps.length cap) ((ps.set i q).set j p) /\
 ja W ((((W.setCell ⟨g,i*2,none⟩ q.1).setCell ⟨g,i*2+1,none⟩ (j7 q.2.age)).setCell ⟨g,j*2,none⟩ p.1).setCell ⟨g,j*2+1,none⟩ (j7 p.2.age)).drew (fun i=>i=g):=by
 have l:=(zZ.1 hi).1;have f:=(zZ.1 m).1
 have k:ja W ((((W.setCell ⟨g,i*2,none⟩ q.1).setCell ⟨g,i*2+1,none⟩ (j7 q.2.age)).setCell ⟨g,j*2,none⟩ p.1).setCell ⟨g,j*2+1,none⟩ (j7 p.2.age)).drew (fun i=>i=g) :=
  (((((ja.refl W (fun i=>i=g)).set (p:=⟨g,i*2,none⟩) rfl _).set (p:=⟨g,i*2+1,none⟩) rfl _).set (p:=⟨g,j*2,none⟩) rfl _).set (p:=⟨g,j*2+1,none⟩) rfl _).draw
 refine⟨⟨k.same h.box (fun e=>h.ne (by rw[e];rfl)),?_,h.ne,?_⟩,k⟩
 ·have o:=(((td (td (td (td h.row (j:=i*2) (by omega) q.1) (j:=i*2+1) (by omega) (j7 q.2.age)) (j:=j*2) (by omega) p.1) (j:=j*2+1) (by omega) (j7 p.2.age))))
  rw[xH,xH,Ad (by rw[xH];exact f),Ad l];exact(ja.drew _ (fun _=>False)).row o (fun _ _=>id)
 ·intro x b
  have d:x∈ps:=by
   rcases List.mem_or_eq_of_mem_set b with b|rfl
   ·rcases List.mem_or_eq_of_mem_set b with b|rfl
    ·exact b
    ·exact XL m
   ·exact XL hi
  exact⟨(h.has x d).1.keep k (fun _ ad n c e e2=>((h.has x d).2 ad n c e).2 (by rw[<-e2];rfl)),(h.has x d).2⟩
theorem jca{base:Nat}{ps:List HS}(H:xj W base hb v ps){p q:HS}(hi:ps[i]?=some p)(c:ps[j]?=some q)(k:ps.length<1048576) :
 Calls prog 301 #[v,j7 i,j7 j] W fun e w'=>e = .returned (.tuple #[])/\xj w' base hb v ((ps.set i q).set j p)/\ja W w' (fun i=>v.ownBlock=some i):=by
 obtain⟨g,cap,rfl,b,r,o⟩:=H.src hi;obtain⟨C,s,e,_,y,x⟩:=H.src c;cases e;have d:=(zZ.1 hi).1;have f:=(zZ.1 c).1;obtain⟨B,pc,n,_⟩:=(H.has p (XL hi)).1;obtain⟨z,A,u,_⟩:=(H.has q (XL c)).1;obtain⟨m,t⟩:=H.jho hi c;have l:=t.mono (U:=fun i=>(Value.slice (some ⟨g,0,none⟩) ps.length cap).ownBlock=some i) (fun i _ e=>by rw[e];rfl);by_cases hij:i=j
 ·subst hij
  rw[hi] at c;cases c;refine(Fj d k b ⟨_,_,_,n⟩ r o H.frozen).mono ?_;rintro e w' ⟨rfl,rfl⟩;exact⟨rfl,m,l⟩
 ·refine(jag hij d f k b ⟨_,_,_,n⟩ ⟨_,_,_,u⟩ r o y x H.frozen).mono ?_
  rintro e w' ⟨rfl,rfl⟩;exact⟨rfl,m,l⟩
abbrev Hv(hb:Nat):Value:= .iface 241 (.pointer (some ⟨hb,0,none⟩))
def yd(ps:List HS):List Rf.Source:=ps.map Prod.snd
theorem Q0{ps:List HS}{p:HS}(h:ps[k]?=some p):(yd ps)[k]?=some p.2:=by unfold yd;rw[xP,h];rfl
theorem Gb{ps:List HS}{s:Rf.Source}(h:(yd ps)[k]?=some s):∃ p,ps[k]?=some p/\p.2=s:=by
 unfold yd at h;rw[xP] at h;obtain⟨p,c,b⟩:=XK.1 h;exact⟨p,c,b⟩
theorem iy(ps:List HS)(i j:Nat)(p q:HS):yd ((ps.set i q).set j p)=((yd ps).set i q.2).set j p.2:=by unfold yd;rw[List.map_set,List.map_set]
theorem Zb{l:List HS}{a b:HS}(d:l[i]?=some a)(hb:l[j]?=some b):((l.set i b).set j a).Perm l:=by
 obtain⟨hi,rfl⟩:=zZ.1 d;obtain⟨c,rfl⟩:=zZ.1 hb;exact List.set_set_perm hi c
theorem Hn{base:Nat}{ps:List HS}(H:xj W base hb v ps){p q:HS}(k:x=i)(g:y=j)(hi:ps[i]?=some p)(d:ps[j]?=some q)(c:p.2.entries≠[])(b:q.2.entries≠[])(l:ps.length<1048576)(f:∀ p∈ps,p.2.age<4611686018427387904) :
 Calls prog 298 #[v,.int .i64 x,.int .i64 y] W fun e w'=>e = .returned (.bool (p.2.less q.2))/\ja W w' (fun _=>False):=by
 subst k g;exact jdk H hi d c b l ⟨f p (XL hi),f q (XL d)⟩
theorem Fl{base:Nat}{ps:List HS}(H:xj W base hb v ps){p q:HS}(c:x=i)(b:y=j)(hi:ps[i]?=some p)(f:ps[j]?=some q)(d:ps.length<1048576) :
 Calls prog 301 #[v,.int .i64 x,.int .i64 y] W fun e w'=>e = .returned (.tuple #[])/\xj w' base hb v ((ps.set i q).set j p)/\ja W w' (fun i=>v.ownBlock=some i):=by
 subst c b;exact jca H hi f d
theorem jfz{base:Nat}{ps:List HS}(H:xj W base hb v ps)(u:∀ p∈ps,p.2.entries≠[])(U:Rf.kz (yd ps) j)(z:j<ps.length)(L:ps.length<1048576)(A:∀ p∈ps,p.2.age<4611686018427387904) :
 Calls prog 233 #[Hv hb,j7 j] W fun e w'=>e = .returned (.tuple #[])/\∃ qs,qs.Perm ps/\xj w' base hb v qs/\Rf.Qk (yd qs) qs.length/\ja W w' (fun i=>v.ownBlock=some i):=by
 go_enter func233,ntmps233;go_wp2_with fail
 go_loopw [1] (fun jv wr=>∃(k:Nat) (qs:List HS),jv = .int .i64 k/\k<ps.length/\qs.Perm ps/\xj wr base hb v qs/\Rf.kz (yd qs) k/\ja W wr (fun i=>v.ownBlock=some i))
  (fun jv _=>(intOf jv).toNat)
 case atStart=>exact⟨j,ps,rfl,z,List.Perm.refl _,H,U,ja.refl _ _⟩
 case round =>
  obtain⟨k,qs,rfl,M,c,m,o,d⟩:=hrel;have E:qs.length=ps.length:=c.length_eq;by_cases h0:k=0
  ·subst h0
   go_wp2;go_end0;refine⟨rfl,qs,c,m,?_,d⟩;have:=o.done (.inl rfl);unfold yd at this ⊢;rwa [XB] at this
  ·have D:((((k:Int)-1)/2)==(k:Int))=false:=by rw[beq_eq_false_iff_ne];omega
   obtain⟨q,x⟩:∃ q,qs[k]?=some q:=⟨_,xK (by omega)⟩;obtain⟨p,l⟩:∃ p,qs[(k-1)/2]?=some p:=⟨_,xK (by omega)⟩;have J:=vh m.cell;have B:1<=k:=by omega
   have t:∀ p∈qs,p.2.age<4611686018427387904:=fun p h=>A p (c.mem_iff.1 h);have b:qs.length<1048576:=by omega
   have f:=jb x;have g:=jb l;clear h0 x l;go_wp2_with fail;refine(Hn m (i:=k) (j:=(k-1)/2) rfl (by omega) f.out g.out (u q (c.mem_iff.1 (XL f.out))) (u p (c.mem_iff.1 (XL g.out))) b t).mono ?_;rintro e G ⟨rfl,n⟩;have s:=m.same n
   cases hb0:q.2.less p.2 with
   | false =>
    have r:=jb hb0;clear hb0;go_wp2;go_end0;refine⟨rfl,qs,c,s,?_,d.trans n (fun _ _ h=>h.elim)⟩;have:=o.done (.inr ⟨p.2,q.2,Q0 g.out,Q0 f.out,r.out⟩);unfold yd at this ⊢;rwa [XB] at this
   | true =>
    have r:=jb hb0;clear hb0;have I:=eo s.cell;go_wp2_with fail;refine(Fl s (i:=(k-1)/2) (j:=k) (by omega) rfl g.out f.out b).mono ?_;rintro e F ⟨rfl,C,y⟩;go_wp2;go_roundw
    case rel =>
     refine⟨(k-1)/2,_,by rw[show((k:Int)-1)/2=(((k-1)/2:Nat):Int) by omega],by omega,(Zb g.out f.out).trans c,C,?_,(d.trans n (fun _ _ h=>h.elim)).tt y⟩;rw[iy];exact o.step B (Q0 g.out) (Q0 f.out) r.out
    case measure=>simp[intOf];omega
theorem ll{c:List HS}{p q:HS}(h:∀ k p,k<n->c[k]?=some p->p.2.entries≠[])(hi:i<n)(l:j<n)(f:c[i]?=some p)(d:c[j]?=some q):∀ k x,k<n->((c.set i q).set j p)[k]?=some x->x.2.entries≠[]:=by
 intro k x g b;have o:=(zZ.1 f).1;have m:=(zZ.1 d).1;by_cases e:k=j
 ·subst e
  rw[List.getElem?_set_self (by rw[xH];exact m)] at b;cases b;exact h i p hi f
 ·rw[XN (by omega)] at b
  by_cases e2:k=i
  ·subst e2
   rw[List.getElem?_set_self o] at b;cases b;exact h j q l d
  ·rw[XN (by omega)] at b
   exact h k x g b
def Te(W:World)(base hb:Nat)(v:Value)(ps:List HS)(n:Nat)(e:Ending)(w':World):Prop :=
 ∃(mv:Bool) (qs:List HS),e = .returned (.bool mv)/\qs.Perm ps/\xj w' base hb v qs/\Rf.Qk (yd qs) n/\(∀ k,n<=k->qs[k]?=ps[k]?)/\ja W w' (fun i=>v.ownBlock=some i)
theorem jd0{base:Nat}{ps:List HS}(H:xj W base hb v ps)(hs:∀ k p,k<n->ps[k]?=some p->p.2.entries≠[])(U:Rf.Qw (yd ps) 0 n)(hn:n<=ps.length)(hl:ps.length<1048576)(ha:∀ p∈ps,p.2.age<4611686018427387904) :
 Calls prog 234 #[Hv hb,.int .i64 0,j7 n] W (Te W base hb v ps n):=by
 go_enter func234,ntmps234;go_wp2_with fail
 go_loopw [7] (fun iv wr=>∃(k:Nat) (o:List HS),iv = .int .i64 k/\k<=ps.length/\o.Perm ps/\xj wr base hb v o/\Rf.Qw (yd o) k n/\(∀ k,n<=k->o[k]?=ps[k]?)/\(∀ k p,k<n->o[k]?=some p->p.2.entries≠[])/\ja W wr (fun i=>v.ownBlock=some i))
  (fun iv _=>ps.length-(intOf iv).toNat)
 case atStart=>exact⟨0,ps,rfl,zX _,List.Perm.refl _,H,U,fun _ _=>rfl,hs,ja.refl _ _⟩
 case round =>
  obtain⟨k,o,rfl,hk,E,I,G,D,R,t⟩:=hrel;have a6:o.length=ps.length:=E.length_eq;have F:∀ p∈o,p.2.age<4611686018427387904:=fun p h=>ha p (E.mem_iff.1 h);have g:o.length<1048576:=by omega
  have u:=jb D;have d:=jb R;clear D R;by_cases h1:n<=2*k+1
  ·have V:(n:Int)<=2*(k:Int)+1:=by omega
   go_wp2;go_ret;exact⟨_,o,rfl,E,I,G.none h1,u.out,t⟩
  ·have V:2*(k:Int)+1<(n:Int):=by omega
   obtain⟨p,S⟩:∃ p,o[k]?=some p:=⟨_,xK (by omega)⟩;obtain⟨q,hq⟩:∃ q,o[2*k+1]?=some q:=⟨_,xK (by omega)⟩;have mL:=vh I.cell;have l:=jb S;have s:=jb hq;clear S hq;by_cases h2:2*k+2<n
   ·have T:2*(k:Int)+1+1<(n:Int):=by omega
    obtain⟨r,hr⟩:∃ r,o[2*k+2]?=some r:=⟨_,xK (by omega)⟩;have B:=jb hr;clear hr;go_wp2_with fail;refine(Hn I (i:=2*k+2) (j:=2*k+1) (by omega) (by omega) B.out s.out (d.out _ r h2 B.out) (d.out _ q (by omega) s.out) g F).mono ?_;rintro e w4 ⟨rfl,L⟩;have O:=I.same L;have a4:=vh O.cell
    cases hb4:r.2.less q.2 with
    | true =>
     have b:Hid (∀ m c,(m=2*k+1\/m=2*k+2)->m<n->(yd o)[m]?=some c->r.2.le c):=by
      intro m c A _ M;obtain⟨x,y,rfl⟩:=Gb M;rcases A with rfl|rfl
      ·rw[s.out] at y;cases y;exact Rf.Source.vq hb4
      ·rw[B.out] at y;cases y;exact Rf.Source.le_refl _
     clear hb4;go_wp2_with fail;refine(Hn O (i:=2*k+2) (j:=k) (by omega) rfl B.out l.out (d.out _ r (by omega) B.out) (d.out _ p (by omega) l.out) g F).mono ?_;rintro e Y ⟨rfl,z⟩;have C:=O.same z
     cases hb5:r.2.less p.2 with
     | false =>
      have f:=jb hb5;clear hb5;go_wp2;go_ret;exact⟨_,o,rfl,E,C,G.done (j:=2*k+2) (by omega) (by omega) (Q0 l.out) (Q0 B.out) f.out b.out,u.out,t.trans (L.tt z) (fun _ _ h=>h.elim)⟩
     | true =>
      have f:=jb hb5;clear hb5;have Z:=eo C.cell;go_wp2_with fail;refine(Fl C (i:=k) (j:=2*k+2) rfl (by omega) l.out B.out g).mono ?_;rintro e X ⟨rfl,N,J⟩;go_wp2;go_roundw
      case rel =>
       refine⟨2*k+2,_,by first|(congr 1;done)|(congr 1;omega),by omega,(Zb l.out B.out).trans E,N,?_,fun m A=>?_,ll d.out (by omega) (by omega) l.out B.out,(t.trans (L.tt z) (fun _ _ h=>h.elim)).tt J⟩
       ·rw[iy]
        exact G.step (j:=2*k+2) (by omega) (by omega) (Q0 l.out) (Q0 B.out) f.out b.out
       ·rw[XN (by omega),XN (by omega)]
        exact u.out m A
      case measure=>simp[intOf];omega
    | false =>
     have b:Hid (∀ m c,(m=2*k+1\/m=2*k+2)->m<n->(yd o)[m]?=some c->q.2.le c):=by
      intro m c A _ M;obtain⟨x,y,rfl⟩:=Gb M;rcases A with rfl|rfl
      ·rw[s.out] at y;cases y;exact Rf.Source.le_refl _
      ·rw[B.out] at y;cases y;exact hb4
     clear hb4;go_wp2_with fail;refine(Hn O (i:=2*k+1) (j:=k) (by omega) rfl s.out l.out (d.out _ q (by omega) s.out) (d.out _ p (by omega) l.out) g F).mono ?_;rintro e Y ⟨rfl,z⟩;have C:=O.same z
     cases hb5:q.2.less p.2 with
     | false =>
      have f:=jb hb5;clear hb5;go_wp2;go_ret;exact⟨_,o,rfl,E,C,G.done (j:=2*k+1) (by omega) (by omega) (Q0 l.out) (Q0 s.out) f.out b.out,u.out,t.trans (L.tt z) (fun _ _ h=>h.elim)⟩
     | true =>
      have f:=jb hb5;clear hb5;have Z:=eo C.cell;go_wp2_with fail;refine(Fl C (i:=k) (j:=2*k+1) rfl (by omega) l.out s.out g).mono ?_;rintro e X ⟨rfl,N,J⟩;go_wp2;go_roundw
      case rel =>
       refine⟨2*k+1,_,by first|(congr 1;done)|(congr 1;omega),by omega,(Zb l.out s.out).trans E,N,?_,fun m A=>?_,ll d.out (by omega) (by omega) l.out s.out,(t.trans (L.tt z) (fun _ _ h=>h.elim)).tt J⟩
       ·rw[iy]
        exact G.step (j:=2*k+1) (by omega) (by omega) (Q0 l.out) (Q0 s.out) f.out b.out
       ·rw[XN (by omega),XN (by omega)]
        exact u.out m A
      case measure=>simp[intOf];omega
   ·have T:decide (2*(k:Int)+1+1<(n:Int))=false:=by simp;omega
    have b:Hid (∀ m c,(m=2*k+1\/m=2*k+2)->m<n->(yd o)[m]?=some c->q.2.le c):=by
     intro m c A a5 M;obtain⟨x,y,rfl⟩:=Gb M;rcases A with rfl|rfl
     ·rw[s.out] at y;cases y;exact Rf.Source.le_refl _
     ·omega
    go_wp2_with fail;refine(Hn I (i:=2*k+1) (j:=k) (by omega) rfl s.out l.out (d.out _ q (by omega) s.out) (d.out _ p (by omega) l.out) g F).mono ?_;rintro e Y ⟨rfl,z⟩;have C:=I.same z
    cases hb5:q.2.less p.2 with
    | false =>
     have f:=jb hb5;clear hb5;go_wp2;go_ret;exact⟨_,o,rfl,E,C,G.done (j:=2*k+1) (by omega) (by omega) (Q0 l.out) (Q0 s.out) f.out b.out,u.out,t.trans z (fun _ _ h=>h.elim)⟩
    | true =>
     have f:=jb hb5;clear hb5;have Z:=eo C.cell;go_wp2_with fail;refine(Fl C (i:=k) (j:=2*k+1) rfl (by omega) l.out s.out g).mono ?_;rintro e X ⟨rfl,N,J⟩;go_wp2;go_roundw
     case rel =>
      refine⟨2*k+1,_,by first|(congr 1;done)|(congr 1;omega),by omega,(Zb l.out s.out).trans E,N,?_,fun m A=>?_,ll d.out (by omega) (by omega) l.out s.out,(t.trans z (fun _ _ h=>h.elim)).tt J⟩
      ·rw[iy]
       exact G.step (j:=2*k+1) (by omega) (by omega) (Q0 l.out) (Q0 s.out) f.out b.out
      ·rw[XN (by omega),XN (by omega)]
       exact u.out m A
     case measure=>simp[intOf];omega
theorem jbx(v:Value)(b:TypeId)(w:World):(Instr.typeAssert (.iface 288 v) b 288 false).run prog w = .ok v w:=by kernel_rfl
def jg5:Value:= .agg #[.slice none 0 0,.int .i64 0]
theorem Tryz.jfa:(prog.info? 288).map (fun i=>(i.zero,i.size,i.bytes))=some (some jg5,2,32):=by kernel_rfl
theorem Mr(ps:List HS)(f:∀ p∈ps,∃ a b c,p.1 = .slice a b c):∀ u∈yw ps,u.oneCell'=true:=by
 intro u d;simp only[yw,List.mem_flatMap] at d;obtain⟨p,g,d⟩:=d;obtain⟨a,b,c,e⟩:=f p g;simp at d;rcases d with rfl|rfl
 ·rw[e];rfl
 ·rfl
theorem ue(ps:List HS)(p:HS):yw (ps++[p])=yw ps++yw [p]:=by simp[yw]
def jed(W:World)(base hb:Nat)(v:Value)(ps:List HS)(p:HS)(w':World)(v':Value):Prop :=
 xj w' base hb v' (ps++[p])/\(v'.ownBlock=v.ownBlock\/∃ g,v'.ownBlock=some g/\W.heap.size<=g)/\ja W w' (fun i=>i=hb\/v.ownBlock=some i)
theorem jct{base:Nat}{ps:List HS}(H:xj W base hb v ps)(hs:∀ p∈ps,p.2.entries≠[])(p:HS)(I:Chs W p.1 p.2.entries)(J:p.2.entries≠[])(M:∀ ad n c,p.1 = .slice (some ad) n c->ad.block≠hb/\v.ownBlock≠some ad.block)(hl:ps.length+1<1048576)(a1:base<=W.heap.size) :
 Calls prog 300 #[.pointer (some ⟨hb,0,none⟩),.iface 288 (.agg #[p.1,j7 p.2.age])] W fun e w'=>e = .returned (.tuple #[])/\∃ v',jed W base hb v ps p w' v':=by
 obtain⟨j0,hj,T,S,R⟩:=info_parts Tryz.jfa;obtain⟨pv,C,rfl⟩:=jm H.row;have c0:=H.cell;have f0:=zB (o:=0) H.box;have s:=jb H;clear H;obtain⟨pl,sc⟩:=p;obtain⟨l,D⟩:=sc;simp only at I J M ⊢;obtain⟨B,pc,rfl,_⟩:=id I;have E:=jb (s.out.row.alloc (.cells #[.slice B l.length pc,j7 D] 288));have y:∀ j u,(yw [((.slice B l.length pc,⟨l,D⟩):HS)])[j]?=some u->(W.alloc (.cells #[.slice B l.length pc,j7 D] 288)).cell? ((⟨W.heap.size,0,none⟩:Addr).add j)=some u:=J7 (je W _) rfl;have t:=Mr [((.slice B l.length pc,⟨l,D⟩):HS)] (fun p I=>by simp at I;subst I;exact⟨_,_,_,rfl⟩);have Y:Hid (ps.length+1<=maxLen):=by unfold Hid maxLen;omega
 have V:Hid ((ps.length+1)*32<=140737488355328):=by unfold Hid;omega
 have X:Hid (base<=(W.alloc (.cells #[.slice B l.length pc,j7 D] 288)).heap.size):=by unfold Hid;simp;omega
 have HN:=jb y;have HO:=jb t;clear y t
 have A:∀ r:World,(W.alloc (.cells #[.slice B l.length pc,j7 D] 288)).drew.grownBy r (Value.slice pv ps.length C).ownBlock->r.heap[hb]?=some (.cells #[.slice pv ps.length C] 285 (0,0)):=fun r hg =>
  (ja.grown hg).same ((ja.alloc W _ (fun _=>False)).draw.same s.out.box id) (fun e=>s.out.ne e.symm)
 have a0:=jb A;clear A;have ac:=jbx;have af:∀ x,(W.alloc x).cell? ⟨hb,0,none⟩=some (.slice pv ps.length C):=fun x=>(Jf s.out.box x).trans rfl;go_enter func300,ntmps300;go_wp2_with fail
 go_region_law (
  refine ye rfl (.tmp 7) (.tmp 10) 285 rfl base 288 j0 jg5 2 32 underlying285 hj T S R rfl (ZD 1) (.slice pv ps.length C) ps.length (yw ps) rfl E.out ⟨W.heap.size,0,none⟩ 1 1 (yw [((.slice B l.length pc,⟨l,D⟩):HS)]) rfl rfl HN.out HO.out Y.out V.out X.out ?_
  intro p2 b r F L G
  have N:=a0.out r L
  have e0:=zA (o:=0) N
  have ef:=zB (o:=0) N
  simp at e0
  have Z:=jb N
  clear N)
 all_goals
  go_wp2;go_end0;have k2:ja W r (fun i=>(Value.slice pv ps.length C).ownBlock=some i):=(((ja.alloc W _ (fun _=>False)).draw).up).trans (ja.grown L) (fun i _ e=>e.symm);have O:=ja.setCell r ⟨hb,0,none⟩ (.slice p2 (ps.length+1) b)
  have f:(Value.slice p2 (ps.length+1) b).ownBlock=(Value.slice pv ps.length C).ownBlock\/∃ g,(Value.slice p2 (ps.length+1) b).ownBlock=some g/\W.heap.size<=g:=by
   rcases G with h|h
   ·exact .inl h
   ·exact .inr ⟨_,h,by simp⟩
  have ae:=zC s.out.box
  have z:(Value.slice p2 (ps.length+1) b).ownBlock≠some hb:=by
   rcases f with h|⟨g,h,h5⟩
   ·rw[h];exact s.out.ne
   ·rw[h];intro e;cases e;omega
  have k:∀ q:HS,Chs W q.1 q.2.entries->q.2.entries≠[]->(∀ ad n c,q.1 = .slice (some ad) n c->ad.block≠hb/\(Value.slice pv ps.length C).ownBlock≠some ad.block)->Chs (r.setCell ⟨hb,0,none⟩ (.slice p2 (ps.length+1) b)) q.1 q.2.entries/\∀ ad n c,q.1 = .slice (some ad) n c->ad.block≠hb/\(Value.slice p2 (ps.length+1) b).ownBlock≠some ad.block:=by
   intro q d U m;refine⟨(d.keep k2 (fun _ ad n c e=>(m ad n c e).2)).keep O (fun _ ad n c e=>(m ad n c e).1),fun ad n c e=>⟨(m ad n c e).1,?_⟩⟩;rcases f with h|⟨g,h,h5⟩
   ·rw[h];exact(m ad n c e).2
   ·rw[h];intro e2;cases e2
    rw[e] at d;have:=d.lt U;omega
  refine⟨rfl,_,⟨(jd Z.out _).trans rfl,?_,z,?_⟩,f,(k2.mono (fun _ _ h=> .inr h)).trans O (fun _ _ h=> .inl h)⟩
  ·rw[ZC,xO,ue]
   exact O.row F (fun g hg e=>z (by rw[hg,e]))
  ·intro q d
   rcases ZV.1 d with d|d
   ·exact k q (s.out.has q d).1 (hs q d) (s.out.has q d).2
   ·rw[ZW.1 d]
    exact k _ I J M
def I5(W:World)(base hb:Nat)(v:Value)(ps:List HS)(w':World):Prop :=
 ∃ v' qs,qs.Perm ps/\xj w' base hb v' qs/\Rf.Qk (yd qs) qs.length/\(v'.ownBlock=v.ownBlock\/∃ g,v'.ownBlock=some g/\W.heap.size<=g)/\ja W w' (fun i=>i=hb\/v.ownBlock=some i)
theorem Yt(ps:List HS):(yd ps).length=ps.length:=by simp[yd]
theorem O0(ps:List HS)(p:HS):yd (ps++[p])=yd ps++[p.2]:=by simp[yd]
theorem xj.slice{base:Nat}{ps:List HS}(h:xj W base hb v ps):∃ a c,v = .slice a ps.length c:=jm h.row
theorem jg2{base:Nat}{ps:List HS}(b:x=j)(H:xj W base hb v ps)(c:∀ p∈ps,p.2.entries≠[])(U:Rf.kz (yd ps) j)(f:j<ps.length)(d:ps.length<1048576)(g:∀ p∈ps,p.2.age<4611686018427387904) :
 Calls prog 233 #[Hv hb,.int .i64 x] W fun e w'=>e = .returned (.tuple #[])/\∃ qs,qs.Perm ps/\xj w' base hb v qs/\Rf.Qk (yd qs) qs.length/\ja W w' (fun i=>v.ownBlock=some i):=by
 subst b;exact jfz H c U f d g
theorem jdz{base:Nat}{ps:List HS}(b:x=n)(H:xj W base hb v ps)(c:∀ k p,k<n->ps[k]?=some p->p.2.entries≠[])(U:Rf.Qw (yd ps) 0 n)(d:n<=ps.length)(f:ps.length<1048576)(g:∀ p∈ps,p.2.age<4611686018427387904) :
 Calls prog 234 #[Hv hb,.int .i64 0,.int .i64 x] W (Te W base hb v ps n):=by
 subst b;exact jd0 H c U d f g
theorem Nq{base:Nat}{ps:List HS}(H:xj W base hb v ps)(t:∀ p∈ps,p.2.entries≠[])(J:Rf.Qk (yd ps) ps.length)(p:HS)(u:Chs W p.1 p.2.entries)(f:p.2.entries≠[])(r:∀ ad n c,p.1 = .slice (some ad) n c->ad.block≠hb/\v.ownBlock≠some ad.block)(D:ps.length+1<1048576)(d:base<=W.heap.size)(y:∀ q∈ps++[p],q.2.age<4611686018427387904) :
 Calls prog 209 #[Hv hb,.iface 288 (.agg #[p.1,j7 p.2.age])] W fun e w'=>e = .returned (.tuple #[])/\I5 W base hb v (ps++[p]) w':=by
 have V:=Uk;have L:=jb u;have N:=jb H;clear H u;go_enter func209,ntmps209;go_wp2_with fail;refine(jct N.out t p L.out f r D d).mono ?_;rintro e z ⟨rfl,U,k,b,C⟩;obtain⟨F,E,rfl⟩:=k.slice;have X:=Bo k.cell;go_wp2_with fail;refine(Aq F (ps.length+1) E z (by omega)).mono ?_;rintro e T ⟨rfl,rfl⟩
 have I:Hid (Rf.kz (yd (ps++[p])) ps.length):=by
  unfold Hid;rw[O0];have:=Rf.kz.start (x:=p.2) (l:=yd ps) (by rw[Yt];exact J);rwa [Yt] at this
 have M:Hid ((ps++[p]).length<1048576):=by unfold Hid;simp;omega
 have O:=jb y;have s:=jb k;clear y k;go_wp2_with fail;refine(jg2 (j:=ps.length) (by omega) s.out (fun q m=>(ZV.1 m).elim (t q) (fun h=>by rw[ZW.1 h];exact f)) I.out (by simp) M.out O.out).mono ?_;rintro e S ⟨rfl,A,m,R,G,B⟩;go_wp2;go_end0;refine⟨rfl,_,A,m,R,G,b,C.trans B (fun i hi h=>?_)⟩;rcases b with o|⟨g,o,Y⟩
 ·exact .inr (o▸h)
 ·rw[o] at h;cases h;omega
def jfp(W:World)(base hb:Nat)(v:Value)(rs:List HS)(e:Ending)(w':World):Prop :=
 (∃ u,e = .returned u)/\∃ v',xj w' base hb v' rs/\v'.ownBlock=v.ownBlock/\ja W w' (fun i=>i=hb)
theorem jez{base:Nat}{rs:List HS}{x:HS}(H:xj W base hb v (rs++[x]))(U:rs.length<1048576) :
 Calls prog 299 #[.pointer (some ⟨hb,0,none⟩)] W (jfp W base hb v rs):=by
 obtain⟨g,cap,rfl,l,M,Y⟩:=H.src (k:=rs.length) (p:=x) (by simp);have b:(rs++[x]).length=rs.length+1:=by simp
 rw[b] at l;obtain⟨z,A,J,_⟩:=(H.has x (by simp)).1;rw[J] at M;have L:=H.cell;rw[b] at L;have X:=zB (o:=0) H.box;have f:=jb H;clear H;generalize x.2.entries.length=xn at *
 generalize x.2.age=xa at *
 have d:∀ o,(W.alloc o).heap[hb]?=some (.cells #[.slice (some ⟨g,0,none⟩) (rs.length+1) cap] 285 (0,0)):=fun o=>by
  have:=(ja.alloc W o (fun _=>False)).same f.out.box id;rwa [b] at this
 have R:∀ o,(W.alloc o).cell? ⟨hb,0,none⟩=some (.slice (some ⟨g,0,none⟩) (rs.length+1) cap):=fun o=>(zA (d o)).trans rfl;have O:∀ o,(W.alloc o).frozen? ⟨hb,0,none⟩=false:=fun o=>zB (d o);have Z:=jb d;clear d;have N:=zC f.out.box;have T:¬W.heap.size=hb:=by omega
 have S:¬hb=W.heap.size:=by omega
 go_enter func299,ntmps299;go_wp2;go_ret;have m:ja W ((W.setCell ⟨hb,0,none⟩ (.slice (some ⟨g,0,none⟩) rs.length cap)).alloc (.cells #[.slice z xn A,j7 xa] 288)) (fun i=>i=hb):=((ja.refl W (fun i=>i=hb)).set (p:=⟨hb,0,none⟩) rfl _).more _;have s:=f.out.box;refine⟨⟨_,rfl⟩,.slice (some ⟨g,0,none⟩) rs.length cap,⟨(ja.alloc _ _ (fun _=>False)).same ((jd s _).trans rfl) id,?_,f.out.ne,fun q hq=>?_⟩,rfl,m⟩
 ·have B:=m.row f.out.row (fun I hg e=>f.out.ne (by rw[hg,e]))
  rcases B.2 with⟨r,_⟩|⟨I,y,t,r,G,F,V,E,D,C⟩
  ·cases r
  ·cases r
   refine⟨bn rs,.inr ⟨g,cap,t,rfl,G,F,by omega,E,D,?_⟩⟩;have u:=congrArg (List.take (rs.length*2)) C;rw[List.take_take,b,xC (by omega),ue] at u;rw[u,XE (by rw[bn];omega)];exact ZF (by rw[bn];omega)
 ·have j:=f.out.has q (xX _ hq)
  exact⟨j.1.keep m (fun _ ad n c e=>(j.2 ad n c e).1),j.2⟩
theorem Ry{base:Nat}{s0:HS}{rs:List HS}(H:xj W base hb v (s0::rs))(hs:∀ p∈rs,p.2.entries≠[])(hd:Rf.Qw (yd (s0::rs)) 0 (s0::rs).length)(F:(s0::rs).length<1048576)(ha:∀ q∈s0::rs,q.2.age<4611686018427387904) :
 Calls prog 211 #[Hv hb] W fun e w'=>(∃ u,e = .returned u)/\I5 W base hb v rs w':=by
 obtain⟨a1,c1,rfl⟩:=H.slice;have mN:=Bo H.cell;have mS:=eo H.cell;obtain⟨x,Z⟩:∃ x,(s0::rs)[rs.length]?=some x:=⟨_,xK (by simp)⟩;have G:=jb Z;have HH:=jb H;have HA:=jb ha;have HL:=jb F;simp only[zP] at F;clear Z H ha;go_enter func211,ntmps211;go_wp2_with fail;refine(Aq a1 (rs.length+1) c1 W (by omega)).mono ?_;rintro e w1 ⟨rfl,rfl⟩;go_wp2_with fail;refine(Fl HH.out (i:=0) (j:=rs.length) rfl rfl (p:=s0) (q:=x) rfl G.out HL.out).mono ?_;rintro e w2 ⟨rfl,H2,k2⟩;have g:(((s0::rs).set 0 x).set rs.length s0).length=rs.length+1:=by simp
 have f:(((s0::rs).set 0 x).set rs.length s0).Perm (s0::rs):=Zb rfl G.out;have l:(((s0::rs).set 0 x).set rs.length s0)[rs.length]?=some s0:=by rw[List.getElem?_set_self (by simp)]
 have m:Rf.Qw (yd (((s0::rs).set 0 x).set rs.length s0)) 0 rs.length:=by
  refine⟨fun k a b D hk hne y t=>?_,fun k a b D hk hi _ _ _=>by omega⟩;rw[iy,XN (by omega),XN (by omega)] at y t;exact hd.other k a b D (by simp;omega) hne y t
 have d:∀ k p,k<rs.length->(((s0::rs).set 0 x).set rs.length s0)[k]?=some p->p.2.entries≠[]:=by
  intro k p hk n;rw[XN (by omega)] at n;have z:=G.out;by_cases e:k=0
  ·subst e
   rw[List.getElem?_set_self (by simp)] at n;cases n;refine hs _ (XL (i:=rs.length-1) ?_);rw[show rs.length=(rs.length-1)+1 by omega,XO] at z;exact z
  ·rw[XN (by omega),show k=(k-1)+1 by omega,XO] at n
   exact hs p (XL n)
 generalize hL:((s0::rs).set 0 x).set rs.length s0=L at *
 have HD:=jb m;have R:=jb d;have C:=jb f;have U:=jb l;have s:=jb g;have Y:=jb H2;have V:Hid (∀ p∈L,p.2.age<4611686018427387904):=fun p n=>HA.out p (C.out.mem_iff.1 n);have S:Hid (L.length<1048576):=by unfold Hid;rw[s.out];exact F
 have T:Hid (rs.length<=L.length):=by unfold Hid;rw[s.out];omega
 clear hL m d f l g H2;go_wp2_with fail;refine(jdz rfl Y.out R.out HD.out T.out S.out V.out).mono ?_;rintro e w3 ⟨mv,c,rfl,E,I,T3,A,k3⟩;have M:c.length=rs.length+1:=by rw[E.length_eq,s.out]
 have o:c=c.take rs.length++[s0]:=by
  have h5:c[rs.length]?=some s0:=(A _ (ZQ _)).trans U.out;have h6:c.take (rs.length+1)=c.take rs.length++[s0]:=by rw[xJ,h5];rfl
  rw[ZF (by omega)] at h6;exact h6
 have r:(c.take rs.length).Perm rs:=by
  have h7:c.Perm (s0::rs):=E.trans C.out;rw[o] at h7;exact((List.perm_append_singleton s0 (c.take rs.length)).symm.trans h7).cons_inv
 have hT:Rf.Qk (yd (c.take rs.length)) (c.take rs.length).length:=by
  rw[r.length_eq];intro j a b D hj y t
  have e5:∀ i,i<rs.length->(yd (c.take rs.length))[i]?=(yd c)[i]?:=fun i hi=>by
   unfold yd;rw[xP,xP,List.getElem?_take_of_lt hi]
  rw[e5 _ (by omega)] at y;rw[e5 _ hj] at t;exact T3 j a b D hj y t
 rw[o] at I;have B:=jb r;have N:=jb hT;have X:=jb I;have O:Hid ((c.take rs.length).length<1048576):=by unfold Hid;rw[B.out.length_eq];omega
 clear M o r hT I T3 A E;have mP:=ja0;go_wp2_with fail;refine(jez X.out O.out).mono ?_;rintro e w4 ⟨⟨u,rfl⟩,v4,H4,J,k4⟩;go_wp2;go_ret;refine⟨⟨_,rfl⟩,v4,_,B.out,H4,N.out,.inl J,?_⟩;exact((k2.mono (fun _ _ h=> .inr h)).trans k3 (fun _ _ h=> .inr h)).trans k4 (fun _ _ h=> .inl h)
theorem Rz{base:Nat}{ps:List HS}(H:xj W base hb v ps)(u:∀ p∈ps,p.2.entries≠[])(G:Rf.Qw (yd ps) 0 ps.length)(B:0<ps.length)(F:ps.length<1048576)(x:∀ q∈ps,q.2.age<4611686018427387904) :
 Calls prog 210 #[Hv hb,.int .i64 0] W fun e w'=>e = .returned (.tuple #[])/\I5 W base hb v ps w':=by
 obtain⟨J,I,rfl⟩:=H.slice;have U:=Bo H.cell;have N:=jb H;have z:=jb x;clear H x;go_enter func210,ntmps210;go_wp2_with fail;refine(Aq J ps.length I W (by omega)).mono ?_;rintro e T ⟨rfl,rfl⟩;go_wp2_with fail;refine(jdz rfl N.out (fun k p _ h=>u p (XL h)) G (ZQ _) F z.out).mono ?_;rintro e S ⟨C,c,rfl,i,A,l,m,t⟩;have n:=i.length_eq;rw[<-n] at l;have g:=jb i;have f:=jb A;have y:=jb l;clear i A l m
 cases C with
 | true =>
  go_wp2;go_end0;exact⟨rfl,_,c,g.out,f.out,y.out,.inl rfl,t.mono (fun _ _ h=> .inr h)⟩
 | false =>
  have d:Rf.kz (yd c) 0:=by
   refine⟨fun k a b h0 hk hA hB=>y.out k a b h0 ?_ hA hB,fun k a b h0 h1=>by omega⟩;have:=Rf.az hB;rwa [Yt] at this
  have M:=jb d;have s:Hid (∀ p∈c,p.2.age<4611686018427387904):=fun p hp=>z.out p (g.out.mem_iff.1 hp);have r:Hid (c.length<1048576):=by unfold Hid;omega
  have o:Hid (0<c.length):=by unfold Hid;omega
  clear d;go_wp2_with fail;refine(jg2 (j:=0) rfl f.out (fun p h=>u p (g.out.mem_iff.1 h)) M.out o.out r.out s.out).mono ?_;rintro e R ⟨rfl,rs,E,O,L,D⟩;go_wp2;go_end0;exact⟨rfl,_,rs,E.trans g.out,O,L,.inl rfl,(t.mono (fun _ _ h=> .inr h)).trans D (fun _ _ h=> .inr h)⟩
theorem iz(p:HS)(rs:List HS):yd (p::rs)=p.2::yd rs:=rfl
theorem xj.turn{base:Nat}{s0:HS}{rs:List HS}(h:xj W base hb (.slice (Option.some ⟨g,0,none⟩) (s0::rs).length cap) (s0::rs))(u:Value)(q:List Rf.Ch)(x y:Obj)(m:Chs W u q)(b:∀ ad n c,u = .slice (Option.some ad) n c->ad.block≠hb/\g≠ad.block) :
 xj (((W.setCell ⟨g,0,none⟩ u).alloc x).alloc y) base hb (.slice (Option.some ⟨g,0,none⟩) (s0::rs).length cap) ((u,⟨q,s0.2.age⟩)::rs)/\ja W (((W.setCell ⟨g,0,none⟩ u).alloc x).alloc y) (fun i=>i=g):=by
 have k:ja W (((W.setCell ⟨g,0,none⟩ u).alloc x).alloc y) (fun i=>i=g):=(((ja.refl W (fun i=>i=g)).set (p:=⟨g,0,none⟩) rfl _).more _).more _;refine⟨⟨k.same h.box (fun e=>h.ne (by rw[e];rfl)),?_,h.ne,?_⟩,k⟩
 ·have l:=td h.row (j:=0) (by simp) u
  have e:(yw (s0::rs)).set 0 u=yw ((u,⟨q,s0.2.age⟩)::rs):=by simp[yw]
  rw[e] at l;exact((ja.alloc _ x (fun _=>False)).more y).row l (fun _ _=>id)
 ·intro p d
  rcases zN.1 d with rfl|d
  ·refine⟨m.keep k (fun _ ad n c e e2=>(b ad n c e).2 e2.symm),fun ad n c e=>⟨(b ad n c e).1,fun e2=>(b ad n c e).2 (by injection e2)⟩⟩
  ·have f:=h.has p (ZH _ d)
   exact⟨f.1.keep k (fun _ ad n c e e2=>(f.2 ad n c e).2 (by rw[<-e2];rfl)),f.2⟩
def jei(W:World)(base hb:Nat)(v:Value)(s0:HS)(rs:List HS)(c:Rf.Ch)(e:Ending)(w':World):Prop :=
 e = .returned (chV c)/\∃ v' qs,(yd qs).Perm (Rf.taken s0.2 (yd rs))/\xj w' base hb v' qs/\Rf.Qk (yd qs) qs.length/\(v'.ownBlock=v.ownBlock\/∃ g,v'.ownBlock=some g/\W.heap.size<=g)/\ja W w' (fun i=>i=hb\/v.ownBlock=some i) /\
  ∀ p∈qs,∀ ad n c,p.1 = .slice (some ad) n c->∃ p'∈s0::rs,∃ ad' n' c',p'.1 = .slice (some ad') n' c'/\ad'.block=ad.block
theorem Pa{base:Nat}{s0:HS}{rs:List HS}{c:Rf.Ch}{q:List Rf.Ch}(H:xj W base hb v (s0::rs))(hs:∀ p∈s0::rs,p.2.entries≠[])(HT:Rf.Qk (yd (s0::rs)) (s0::rs).length)(he:s0.2.entries=c::q)(hl:(s0::rs).length<1048576)(hq:q.length<1048576)(ha:∀ p∈s0::rs,p.2.age<4611686018427387904) :
 Calls prog 174 #[.pointer (some ⟨hb,0,none⟩)] W (jei W base hb v s0 rs c):=by
 obtain⟨g,cap,rfl,ap,U,a2⟩:=H.src (k:=0) (p:=s0) rfl;have s:=(H.has s0 ZG).1;rw[he] at s;obtain⟨sp,sc,es,b4,bo,b6,b5⟩:=id s;rw[es] at s;obtain⟨b,o,rfl,e0,e1,e2⟩:=s.at (k:=0) (by simp);simp only[List.getElem_cons_zero,Nat.zero_mul,Nat.add_zero] at e0 e1 e2 U a2;have c0:=H.cell;rw[es] at U;simp only[zP] at U c0 ap b4 hl;obtain⟨G,F,I⟩:=c;simp only at e0 e1 e2;have f0:=H.frozen 0;have ac:g≠b:=fun e=>((H.has s0 ZG).2 _ _ _ es).2 (by rw[e];rfl);have ao:g≠hb:=fun e=>H.ne (by rw[e];rfl);have V:=jb H;have HE:=jb he;have aj:=jb es;have b8:=jb s;clear H he es s b6 b5;have n1:¬b=g:=fun e=>ac e.symm;have n2:¬hb=g:=fun e=>ao e.symm;have bq:=zC V.out.box;have an:=xQ W _ e0;have am:=xQ W _ U;simp only at an am;have kA:∀ x,ja W (W.alloc x) (fun _=>False):=fun x=>ja.alloc W x _;have kB:∀ x y,ja W ((W.alloc x).alloc y) (fun _=>False):=fun x y=>(ja.alloc W x _).more y;have bv:∀ x,(W.alloc x).cell? ⟨hb,0,none⟩=some (.slice (some ⟨g,0,none⟩) (rs.length+1) cap):=fun x=>(kA x).cell c0 id;have bx:∀ x,(W.alloc x).cell? ⟨g,0,none⟩=some (.slice (some ⟨b,o,none⟩) (q.length+1) sc):=fun x=>(kA x).cell U id;have bu:∀ x,(W.alloc x).cell? ⟨b,o,none⟩=some (jf G):=fun x=>(kA x).cell e0 id;have bt:∀ x,(W.alloc x).cell? ⟨b,o+1,none⟩=some (jf F):=fun x=>(kA x).cell e1 id;have bs:∀ x,(W.alloc x).cell? ⟨b,o+2,none⟩=some (.bool I):=fun x=>(kA x).cell e2 id;have bw:∀ x y,((W.alloc x).alloc y).cell? ⟨g,0,none⟩=some (.slice (some ⟨b,o,none⟩) (q.length+1) sc):=fun x y=>(kB x y).cell U id;have br:∀ x y,((W.alloc x).alloc y).frozen? ⟨g,0,none⟩=false:=fun x y=>(V.out.same (kB x y)).frozen 0;have n3:¬W.heap.size=g:=by omega
 have n4:¬W.heap.size+1=g:=by omega
 have n5:¬g=W.heap.size:=by omega
 have n6:¬g=W.heap.size+1:=by omega
 have a9:∀(u:Value),(∃ o' n c,u = .slice (some ⟨b,o',none⟩) n c)->∀ l n c,u = .slice (some l) n c->l.block≠hb/\g≠l.block:=by
  rintro u ⟨o',n',c',rfl⟩ l n c e;cases e;exact⟨((V.out.has s0 ZG).2 _ _ _ aj.out).1,ac⟩
 have ae:∀ u:Rf.Source,Rf.Qw (u::yd rs) 0 (rs.length+1):=by
  intro u;have:=Rf.Qw.start (x:=u) HT;simpa [iz] using this
 have ag:∀(u:Value) (L:List HS) (r:World),ja (((W.setCell ⟨g,0,none⟩ u).alloc (.cells #[jf [],jf [],.bool false] 88)).alloc (.cells #[jf G,jf F,.bool I] 88)) r (fun i=>i=hb\/(Value.slice (some ⟨g,0,none⟩) (rs.length+1) cap).ownBlock=some i) ->
  r.heap[W.heap.size]?=some (.cells #[jf [],jf [],.bool false] 88 (0,0))/\r.heap[W.heap.size+1]?=some (.cells #[jf G,jf F,.bool I] 88 (0,0)):=by
  intro u L r E
  have aa:(W.setCell ⟨g,0,none⟩ u).heap.size=W.heap.size:=by simp[World.setCell]
  have t1:=je (W.setCell ⟨g,0,none⟩ u) (.cells #[jf [],jf [],.bool false] 88)
  have t2:=je ((W.setCell ⟨g,0,none⟩ u).alloc (.cells #[jf [],jf [],.bool false] 88)) (.cells #[jf G,jf F,.bool I] 88)
  rw[aa] at t1
  rw[zK,aa] at t2
  refine⟨E.same ((ja.alloc _ _ (fun _=>False)).same t1 id) ?_,E.same t2 ?_⟩
  ·rintro(h|h)
   ·omega
   ·have h':g=W.heap.size:=by injection h
    omega
  ·rintro(h|h)
   ·omega
   ·have h':g=W.heap.size+1:=by injection h
    omega
 have ab:∀ u x y,ja W (((W.setCell ⟨g,0,none⟩ u).alloc x).alloc y) (fun i=>i=g):=fun u x y=>(((ja.refl W (fun i=>i=g)).set (p:=⟨g,0,none⟩) rfl _).more _).more _
 have af:∀ p∈rs,∀ l n c,p.1 = .slice (some l) n c->l.block<W.heap.size:=fun p d l n c e=>by
  have h1:=(V.out.has p (ZH _ d)).1;rw[e] at h1;exact h1.lt (hs p (ZH _ d))
 have ai:=jb ab;have al:=jb af;clear ab af;have J:=jb ag;have ah:=jb a9;have ak:=jb ae;clear ag a9 ae
 cases q with
 | nil =>
  simp only[zQ,XD] at *
  have A:Hid (∀ p∈rs,p.2.entries≠[]):=fun p d=>hs p (ZH _ d);have O:Hid (Rf.taken s0.2 (yd rs)=yd rs):=by unfold Hid Rf.taken;rw[HE.out];simp
  go_enter func174,ntmps174;go_wp2_with fail
  all_goals
   refine(Ry (s0:=(_,⟨[],s0.2.age⟩)) (V.out.turn _ [] _ _ ⟨_,_,rfl,zX _,by omega,fun h=>(by cases h),fun l h=>⟨(by cases h;rfl),fun j u hu=>(by simp[jj] at hu)⟩⟩ (ah.out _ ⟨_,_,_,rfl⟩)).1 A.out (ak.out _) (by simpa using hl) (fun p d=>?_)).mono ?_
   ·rcases zN.1 d with rfl|d
    ·exact ha s0 ZG
    ·exact ha p (ZH _ d)
   ·rintro e r ⟨⟨uu,rfl⟩,v3,qs,t,H3,T3,l3,E⟩
    obtain⟨f,D⟩:=J.out _ rs r E;have y0:=zA (o:=0) D;have y1:=zA (o:=1) D;have y2:=zA (o:=2) D;have Z:=zA (o:=0) f;have Y:=zA (o:=1) f;have X:=zA (o:=2) f;have g0:=zB (o:=0) f;have g1:=zB (o:=1) f;have N:=zB (o:=2) f;simp at y0 y1 y2 Z Y X;have X0:=jb f;have T:=jb H3;have m:=jb t;have S:=jb T3;have z:=jb l3;clear f D H3 t T3 l3;go_wp2;have kk:ja r (((r.setCell ⟨W.heap.size,0,none⟩ (jf G)).setCell ⟨W.heap.size,1,none⟩ (jf F)).setCell ⟨W.heap.size,2,none⟩ (.bool I)) (fun i=>i=W.heap.size):=(((ja.refl r (fun i=>i=W.heap.size)).set (p:=⟨W.heap.size,0,none⟩) rfl _).set (p:=⟨W.heap.size,1,none⟩) rfl _).set (p:=⟨W.heap.size,2,none⟩) rfl _
    have B:∀ g',v3.ownBlock=some g'->¬g'=W.heap.size:=fun g' hg' e=>by
     rcases z.out with h|⟨N,h,C⟩
     ·rw[h] at hg'
      have h':g=g':=by injection hg'
      omega
     ·rw[h] at hg'
      cases hg';simp at C;omega
    refine bodyPost_ret (v:=chV ⟨G,F,I⟩) (by simp[results,Tryz.results174,go_sem,Z,Y,X]) rfl ⟨rfl,v3,qs,?_,T.out.keep kk (by omega) B ?_,S.out,?_,?_,?_⟩
    ·rw[O.out];exact m.out.map _
    ·intro p d l n c e C
     have h6:=al.out p (m.out.mem_iff.1 d) l n c e;omega
    ·rcases z.out with h|⟨N,h,C⟩
     ·exact .inl h
     ·exact .inr ⟨N,h,by simp at C;omega⟩
    ·exact(((ai.out _ _ _).mono (fun i _ e=> .inr (by rw[e];rfl))).trans E (fun i _ h=>h)).trans kk (fun i hi e=>by omega)
    ·intro p d l n c e
     exact⟨p,ZH _ (m.out.mem_iff.1 d),l,n,c,e,rfl⟩
 | cons c2 q2 =>
  have R:=b8.out.drop (k:=1) (by simp);simp only[zP,List.drop_succ_cons,List.drop_zero,Nat.one_mul,Nat.add_sub_cancel] at R;have b7:=jb R;have bp:q2.length+1<1048576:=by simpa using hq
  simp only[zP] at *
  have A:Hid (∀ u:Value,∀ p∈(((u,⟨c2::q2,s0.2.age⟩):HS)::rs),p.2.entries≠[]):=by
   intro u p d;rcases zN.1 d with rfl|d
   ·simp
   ·exact hs p (ZH _ d)
  have O:Hid (Rf.taken s0.2 (yd rs)=⟨c2::q2,s0.2.age⟩::yd rs):=by unfold Hid Rf.taken;rw[HE.out];simp
  clear R;go_enter func174,ntmps174;go_wp2_with fail
  all_goals
   refine(Rz (V.out.turn _ (c2::q2) _ _ b7.out (ah.out _ ⟨_,_,_,rfl⟩)).1 (A.out _) (ak.out _) (by simp) (by simpa using hl) (fun p d=>?_)).mono ?_
   ·rcases zN.1 d with rfl|d
    ·exact ha s0 ZG
    ·exact ha p (ZH _ d)
   ·rintro e r ⟨rfl,v3,qs,t,H3,T3,l3,E⟩
    obtain⟨f,D⟩:=J.out _ rs r E;have y0:=zA (o:=0) D;have y1:=zA (o:=1) D;have y2:=zA (o:=2) D;have Z:=zA (o:=0) f;have Y:=zA (o:=1) f;have X:=zA (o:=2) f;have g0:=zB (o:=0) f;have g1:=zB (o:=1) f;have N:=zB (o:=2) f;simp at y0 y1 y2 Z Y X;have X0:=jb f;have T:=jb H3;have m:=jb t;have S:=jb T3;have z:=jb l3;clear f D H3 t T3 l3;go_wp2;have kk:ja r (((r.setCell ⟨W.heap.size,0,none⟩ (jf G)).setCell ⟨W.heap.size,1,none⟩ (jf F)).setCell ⟨W.heap.size,2,none⟩ (.bool I)) (fun i=>i=W.heap.size):=(((ja.refl r (fun i=>i=W.heap.size)).set (p:=⟨W.heap.size,0,none⟩) rfl _).set (p:=⟨W.heap.size,1,none⟩) rfl _).set (p:=⟨W.heap.size,2,none⟩) rfl _
    have B:∀ g',v3.ownBlock=some g'->¬g'=W.heap.size:=fun g' hg' e=>by
     rcases z.out with h|⟨N,h,C⟩
     ·rw[h] at hg'
      have h':g=g':=by injection hg'
      omega
     ·rw[h] at hg'
      cases hg';simp at C;omega
    refine bodyPost_ret (v:=chV ⟨G,F,I⟩) (by simp[results,Tryz.results174,go_sem,Z,Y,X]) rfl ⟨rfl,v3,qs,?_,T.out.keep kk (by omega) B ?_,S.out,?_,?_,?_⟩
    ·rw[O.out];exact m.out.map _
    ·intro p d l n c e C
     rcases zN.1 (m.out.mem_iff.1 d)with M|M
     ·rw[M] at e
      cases e;have h8:b=W.heap.size:=C;omega
     ·have h6:=al.out p M l n c e
      omega
    ·rcases z.out with h|⟨N,h,C⟩
     ·exact .inl h
     ·exact .inr ⟨N,h,by simp at C;omega⟩
    ·exact(((ai.out _ _ _).mono (fun i _ e=> .inr (by rw[e];rfl))).trans E (fun i _ h=>h)).trans kk (fun i hi e=>by omega)
    ·intro p d l n c e
     rcases zN.1 (m.out.mem_iff.1 d)with M|M
     ·rw[M] at e
      cases e;exact⟨s0,ZG,_,_,_,aj.out,rfl⟩
     ·exact⟨p,ZH _ M,l,n,c,e,rfl⟩
def ky(w:World)(v:Value)(l:List Value):Prop :=
 ∃ p c,v = .slice p l.length c/\l.length<=c/\c<=maxLen/\(p=none->c=0)/\∀ ad,p=some ad->ad.spot=none/\∀ j u,l[j]?=some u->w.cell? (ad.add j)=some u
theorem ky.keep(h:ky w v l)(d:ja w w' T)(f:l≠[]->∀ p n c,v = .slice (some p) n c->¬T p.block):ky w' v l:=by
 obtain⟨p,c,rfl,k,i,g,b⟩:=h;exact⟨p,c,rfl,k,i,g,fun ad e=>⟨(b ad e).1,fun j u hu=>d.cell ((b ad e).2 j u hu) (by rw[Jt];exact f (fun e=>by rw[e] at hu;cases hu) ad _ _ (by rw[e]))⟩⟩
theorem ky.same(h:ky w v l)(b:ja w w' (fun _=>False)):ky w' v l:=h.keep b (fun _ _ _ _ _ h=>h)
theorem ky.at{p:Option Addr}{c:Nat}(h:ky w (.slice p l.length c) l){u:Value}(d:l[k]?=some u):∃ b o,p=some ⟨b,o,none⟩/\w.cell? ⟨b,o+k,none⟩=some u:=by
 obtain⟨m,t,e,r,q,j,i⟩:=h;cases e;have n:=(zZ.1 d).1
 cases p with
 | none=>have:=j rfl;omega
 | some ad =>
  obtain⟨b,o,s⟩:=ad;obtain⟨f,g⟩:=i _ rfl;simp only at f;subst f;have:=g _ _ d;rw[Yr] at this;exact⟨b,o,rfl,this⟩
theorem fu{base:Nat}(h:w.ownsRow base e 1 v n l)(b:l.length=n):ky w v l:=by
 subst b;rcases h.2 with⟨e,f⟩|⟨g,cap,k,e,_,i,d,c,_⟩
 ·have:l=[]:=ZK f
  subst this;rw[e];exact⟨none,0,rfl,ZQ _,zX _,fun _=>rfl,fun _ h=>by cases h⟩
 ·refine⟨some ⟨g,0,none⟩,cap,e,d,c,(fun h=>by cases h),fun ad had=>?_⟩
  cases had;exact⟨rfl,fun j u hu=>h.cells (by rw[e];rfl) j _ hu⟩
abbrev J4:=jc->jc×List Rf.Ch×Option Bool
def Zd(hi:Str)(r:jc×List Rf.Ch×Option Bool):Option (List Rf.Ch):=if r.2.2=none\/(Y0 hi r.2.1).length<r.2.1.length then some (Y0 hi r.2.1)else none
def j9(hi:Str):List J4->jc->jc×(List (List Rf.Ch) ⊕ Bool)
 | [],S=>(S,.inl [])
 | st::r,S =>
  match Zd hi (st S)with
  | none=>((st S).1,.inr ((st S).2.2.getD false))
  | some l =>
   match j9 hi r (st S).1 with
   | (S2,.inl ls)=>(S2,.inl (l::ls))
   | (S2,.inr b)=>(S2,.inr b)
theorem uv{c:List J4}{d:J4}{S f:jc}(h:j9 hi c S=(f,.inl ls)) :
 j9 hi (c++[d]) S=(match Zd hi (d f)with|none=>((d f).1,.inr ((d f).2.2.getD false))|some l=>((d f).1,.inl (ls++[l]))):=by
 induction c generalizing S ls with
 | nil =>
  cases h;simp only[zV,j9]
 | cons x r ih =>
  rw[zW,j9];rw[j9] at h
  cases hg:Zd hi (x S)with
  | none=>rw[hg] at h;cases h
  | some l =>
   rw[hg] at h;simp only at h ⊢
   cases hr:j9 hi r (x S).1 with
   | mk S2 u =>
    rw[hr] at h
    cases u with
    | inr b=>cases h
    | inl ls2 =>
     cases h;rw[ih hr];cases Zd hi (d f)<;>rfl
theorem Nr{c more:List J4}{S d:jc}{b:Bool}(h:j9 hi c S=(d,.inr b)):j9 hi (c++more) S=(d,.inr b):=by
 induction c generalizing S with
 | nil=>cases h
 | cons x r ih =>
  rw[zW,j9];rw[j9] at h
  cases hg:Zd hi (x S)with
  | none=>rw[hg] at h;simpa using h
  | some l =>
   rw[hg] at h;simp only at h ⊢
   cases hr:j9 hi r (x S).1 with
   | mk S2 u =>
    rw[hr] at h
    cases u with
    | inr b2=>cases h;rw[ih hr]
    | inl ls2=>cases h
theorem ke(n:Nat)(ls:List (List Rf.Ch))(l:List Rf.Ch):Rf.qw n (ls++[l])=Rf.qw n ls++(if l=[] then [] else [⟨l,n+ls.length⟩]):=by
 induction ls generalizing n with
 | nil =>
  simp only[zV,Rf.qw,zQ,Nat.add_zero]
 | cons x r ih =>
  rw[zW];unfold Rf.qw;rw[ih,zP,show n+1+r.length=n+(r.length+1) by omega]
  split<;>simp
theorem du(n:Nat)(ls:List (List Rf.Ch)):(Rf.qw n ls).length<=ls.length:=by
 induction ls generalizing n with
 | nil=>exact ZQ _
 | cons l r ih =>
  have:=ih (n+1);unfold Rf.qw
  split
  ·rw[zP];omega
  ·rw[zP,zP];omega
theorem ot:∀ s∈Rf.qw n ls,s.age<n+ls.length:=by
 induction ls generalizing n with
 | nil=>intro s b;cases b
 | cons l r ih =>
  intro s b;unfold Rf.qw at b;rw[zP]
  split at b
  ·have:=ih s b;omega
  ·rcases zN.1 b with rfl|b
   ·show n<n+(r.length+1);omega
   ·have:=ih s b;omega
theorem ob{c:List J4}{S d:jc}(h:j9 hi c S=(d,.inl ls)):ls.length=c.length:=by
 induction c generalizing S ls with
 | nil=>cases h;rfl
 | cons x r ih =>
  rw[j9] at h
  cases hg:Zd hi (x S)with
  | none=>rw[hg] at h;cases h
  | some l =>
   rw[hg] at h;simp only at h
   cases hr:j9 hi r (x S).1 with
   | mk S2 u =>
    rw[hr] at h
    cases u with
    | inr b=>cases h
    | inl ls2=>cases h;rw[zP,zP,ih hr]
def iu(P:jc->Prop)(E:Nat->Addr)(B:Nat)(ρ:Nat->j3)(d:Nat)(w:World)(f:Value)(st:J4):Prop :=
 ∀(hi:Str) (W:World) (S:jc),ja w W (qj ρ)->Dk E B W ρ d S->P S->P (st S).1/\(st S).2.1.length<1048576/\Calls prog 111 #[f,jf hi] W (wh E B ρ d (st S).1 (st S).2.1 (st S).2.2 hi W)
def jeh(P:jc->Prop)(E:Nat->Addr)(B:Nat)(ρ:Nat->j3)(d:Nat)(w:World)(G:jc×(List (List Rf.Ch) ⊕ Bool))(e:Ending)(w':World):Prop :=
 ja w w' (qj ρ)/\Dk E B w' ρ d G.1/\P G.1 /\
 ((∃ ls hb v qs,G.2 = .inl ls/\e = .returned (.tuple #[.pointer (some ⟨hb,0,none⟩),.nilIface])/\w.heap.size<=hb/\xj w' w.heap.size hb v qs/\Rf.Qk (yd qs) qs.length/\(yd qs).Perm (Rf.qw 0 ls)/\∀ p∈qs,∀ ad n c,p.1 = .slice (some ad) n c->w.heap.size<=ad.block) \/
  (∃ bad ev,G.2 = .inr bad/\e = .returned (.tuple #[.pointer none,ev])/\lg E w' ev bad))
theorem Hj{P:jc->Prop}{E:Nat->Addr}{B:Nat}{ρ:Nat->j3}{d:Nat}{S:jc}(D:Dk E B w ρ d S)(Z:P S)(lv:Value)(fs:List Value)(l:List J4)(hi:Str)(a3:ky w lv fs)(am:fs≠[]->∀ p n c,lv = .slice (some p) n c->¬qj ρ p.block)(T:fs.length=l.length)(hl:fs.length<524288)(ap:∀ f∈fs,∃ g a b,f = .func g a b)(hC:∀(k:Nat) f st,fs[k]?=some f->l[k]?=some st->iu P E B ρ d w f st) :
 Calls prog 172 #[.agg #[lv,jf hi]] w (jeh P E B ρ d w (j9 hi l S)):=by
 obtain⟨lp,lc,rfl,h1,h2,h3,h4⟩:=id a3;have bf:=jb a3;have F:=jb T;have hρ:=D.rep.lt;have cb:=D.size;have nT:∀ i,w.heap.size<=i->¬qj ρ i:=fun i hi h=>by have:=hρ i h;omega
 have HD:=jb D;have HC:=jb hC;clear h3 h4 a3 T D hC;obtain⟨G,hG⟩:∃ G,G=j9 hi l S:=⟨_,rfl⟩;rw[<-hG];have HG:=jb hG;clear hG;go_enter func172,ntmps172;go_wp2_with fail;have kW:ja w (((w.alloc (.cells #[.slice lp fs.length lc,jf hi] 189)).alloc (.cells #[] 288)).alloc (.cells #[.slice (some ⟨w.heap.size+1,0,none⟩) 0 0] 285)) (fun _=>False):=((ja.alloc w _ _).more _).more _
 go_loopw [14] (fun iv wr=>∃(k:Nat) (r:jc) (ls:List (List Rf.Ch)) (v:Value) (z:List HS),k<=fs.length/\iv = .int .i64 k/\Hid (j9 hi (l.take k) S=(r,.inl ls))/\Dk E B wr ρ d r/\P r/\ja w wr (qj ρ)/\wr.heap[w.heap.size]?=some (.cells #[.slice lp fs.length lc,jf hi] 189 (0,0)) /\
  xj wr w.heap.size (w.heap.size+1+1) v z/\Rf.Qk (yd z) z.length/\(yd z).Perm (Rf.qw 0 ls)/\(∀ p∈z,p.2.entries≠[])/\(∀ p∈z,∀ m n c,p.1 = .slice (some m) n c->w.heap.size<=m.block))
  (fun iv _=>fs.length-(intOf iv).toNat)
 case atStart =>
  refine⟨0,S,[],.slice (some ⟨w.heap.size+1,0,none⟩) 0 0,[],zX _,rfl,(by unfold Hid;rfl),HD.out.same kW,Z,kW.up,((ja.alloc _ _ (fun _=>False)).more _).same (je w _) id,⟨?_,?_,?_,fun p A=>(by cases A)⟩,fun j a b h0 hj=>(by simp at hj),List.Perm.nil,fun p A=>(by cases A),fun p A=>(by cases A)⟩
  ·have:=je ((w.alloc (.cells #[.slice lp fs.length lc,jf hi] 189)).alloc (.cells #[] 288)) (.cells #[.slice (some ⟨w.heap.size+1,0,none⟩) 0 0] 285)
   rw[zK,zK] at this;exact this
  ·have L:=je (w.alloc (.cells #[.slice lp fs.length lc,jf hi] 189)) (.cells #[] 288)
   rw[zK] at L;exact⟨rfl,.inr ⟨w.heap.size+1,0,#[],rfl,by omega,(ja.alloc _ _ (fun _=>False)).same L id,ZQ _,zX _,rfl,rfl⟩⟩
  ·intro e
   have:w.heap.size+1=w.heap.size+1+1:=by injection e
   omega
 case round =>
  obtain⟨k,r,ls,v,z,hk,rfl,s,Dq,Zq,C,y,Hq,Tq,Pq,a1,N⟩:=hrel;rcases ZM k fs.length with M|ca
  ·obtain⟨f,hf⟩:∃ f,fs[k]?=some f:=⟨_,xK M⟩
   obtain⟨st,Y⟩:∃ st,l[k]?=some st:=⟨_,xK (by rw[<-F.out];exact M)⟩;have b8:ky wr (.slice lp fs.length lc) fs:=bf.out.keep C am;obtain⟨b,o,rfl,bh⟩:=b8.at hf;obtain⟨gf,ga,gb,rfl⟩:=ap f (XL hf);have c1:=zA (o:=1) y;simp at c1;obtain⟨Z1,c9,H⟩:=HC.out k _ st hf Y hi wr r C Dq Zq;have a8:=jb H;have ai:=jb Y;have al:=jb y;have X:=jb Hq;clear y H Y hf Hq;go_wp2_with fail;refine a8.out.mono ?_;rintro e w1 ⟨v2,ev,rfl,k1,D1,⟨rfl,x,u⟩|⟨bad,U,b9,rfl,a4⟩⟩
   ·obtain⟨p2,c2,rfl⟩:=jm x
    have H1:xj w1 w.heap.size (w.heap.size+1+1) v z:=X.out.keep k1 (nT _ (by omega)) (fun g hg=>nT g (X.out.row.lt g hg).1) (fun p A m n c e=>nT _ (N p A m n c e));have J:=k1.same al.out (nT _ (ZQ _))
    have a2:j9 hi (l.take (k+1)) S=((st r).1,.inl (ls++[Y0 hi (st r).2.1])):=by
     rw[xJ,ai.out,XP,uv s.out];have:Zd hi (st r)=some (Y0 hi (st r).2.1):=by unfold Zd;rw[if_pos u]
     rw[this]
    have an:ls.length=k:=by rw[ob s.out,ZN,<-F.out,xC hk]
    have ba:(Y0 hi (st r).2.1).length<=(st r).2.1.length:=(List.takeWhile_prefix _).length_le
    have bq:z.length<=k:=by
     have L:=Pq.length_eq;rw[Yt] at L;have h6:=du 0 ls;omega
    have aq:∀ q∈z,q.2.age<k:=by
     intro q W;have L:q.2∈Rf.qw 0 ls:=Pq.mem_iff.1 (zO.2 ⟨q,W,rfl⟩);have h6:=ot q.2 L;omega
    generalize Y0 hi (st r).2.1=t at x a2 ba u ⊢;have ak:=jb a2;have aj:=jb H1;have V:=jb J;have a7:Hid (ja w w1 (qj ρ)):=C.tt k1;clear a2 H1 J s u;by_cases ht:t=[]
    ·subst ht
     go_wp2;go_roundw
     case rel =>
      refine⟨k+1,_,_,v,z,M,by simp,ak,D1,Z1,a7.out,V.out,aj.out,Tq,?_,a1,N⟩;rw[ke,if_pos rfl,ZB];exact Pq
     case measure=>simp[intOf];omega
    ·have br:(0:Int)<(t.length:Int):=by have:=ZY.2 ht;omega
     have bb:Chs w1 (.slice p2 t.length c2) t:=Je x;have R:∀ g,v.ownBlock=some g->w.heap.size<=g/\g<wr.heap.size:=fun g hg=>X.out.row.lt g hg;have a0:∀ m n c,Value.slice p2 t.length c2 = .slice (some m) n c->wr.heap.size<=m.block:=fun m n c e=>(x.lt m.block (by rw[e];rfl)).1;have c8:w.heap.size+1+1<wr.heap.size:=zC X.out.box
     have au:Hid (¬v.ownBlock=some w.heap.size):=fun e=>by
      rcases X.out.row.2 with⟨h,_⟩|⟨g,cap,cc,h,_,hg,_⟩
      ·rw[h] at e;cases e
      ·rw[h] at e
       have e2:g=w.heap.size:=by injection e
       rw[e2,al.out] at hg;cases hg
     go_wp2_with fail;refine(Nq aj.out a1 Tq ((.slice p2 t.length c2,⟨t,k⟩):HS) bb ht (fun m n c e=>⟨by have:=a0 m n c e;omega,fun e2=>by have:=a0 m n c e;have:=(R _ e2).2;omega⟩) (by omega) (by have:=a7.out.size;omega) (fun q W=>?_)).mono ?_
     ·rcases ZV.1 W with W|W
      ·have:=aq q W;omega
      ·rw[ZW.1 W];show k<4611686018427387904;omega
     ·rintro e w2 ⟨rfl,v',b7,ag,H2,T2,l2,k2⟩
      have a5:∀ i,(i=w.heap.size+1+1\/v.ownBlock=some i)->w.heap.size<=i:=by
       rintro i (h|h)
       ·omega
       ·exact(R i h).1
      have D2:=D1.apart k2 (fun i _ h=>⟨nT i (a5 i h),by have:=a5 i h;omega⟩);have ao:ja w w2 (qj ρ):=a7.out.trans k2 (fun i hi h=>by have:=a5 i h;omega)
      have I:=k2.same V.out (fun h=>by
       rcases h with h|h
       ·omega
       ·exact au.out h)
      have bd:=jb H2;have a6:=jb ag;have bc:=jb T2;have av:=jb I;clear H2 ag T2 I l2;go_wp2;go_roundw
      case rel =>
       refine⟨k+1,_,_,v',b7,M,by simp,ak,D2,Z1,ao,av.out,bd.out,bc.out,?_,?_,?_⟩
       ·rw[ke,if_neg ht,an,XD]
        have L:=a6.out.map Prod.snd;rw[xZ] at L;exact L.trans (Pq.append_right _)
       ·intro p A
        rcases ZV.1 (a6.out.mem_iff.1 A)with h|h
        ·exact a1 p h
        ·rw[ZW.1 h];exact ht
       ·intro p A m n c e
        rcases ZV.1 (a6.out.mem_iff.1 A)with h|h
        ·exact N p h m n c e
        ·rw[ZW.1 h] at e
         have:=a0 m n c e;omega
      case measure=>simp[intOf];omega
   ·obtain⟨te,ae,rfl⟩:=a4.shape
    have O:j9 hi l S=((st r).1,.inr bad):=by
     have e5:l=l.take (k+1)++l.drop (k+1):=(zJ _ _).symm;rw[e5];refine Nr ?_;rw[xJ,ai.out,XP,uv s.out];have:Zd hi (st r)=none:=by unfold Zd;rw[if_neg (by rw[U,b9];simp)]
     rw[this,U];rfl
    have ar:=jb O;have bg:=jb a4;clear O a4 s;go_wp2;go_ret2;rw[HG.out,ar.out];exact⟨C.tt k1,D1,Z1,.inr ⟨bad,_,rfl,rfl,bg.out⟩⟩
  ·have ek:k=fs.length:=by omega
   have ah:j9 hi l S=(r,.inl ls):=by
    have:=s.out;rwa [ek,F.out,ZE] at this
   have be:=jb ah;have X:=jb Hq;clear ah s Hq y;go_wp2;go_ret2;rw[HG.out,be.out];exact⟨C,Dq,Zq,.inl ⟨ls,_,v,z,rfl,rfl,by omega,X.out,Tq,Pq,N⟩⟩
end Go.Proofs.YtnipbplghijdmaaGreatDoor
namespace Go.Proofs.YtnipbplghijdmaaGreatDoor
open RowKit Maps WideShapes Go.Shelf Go.Proofs.Tryz
attribute [local go_sem] Oper.semAt_some
variable {E:Nat->Addr} {B d n:Nat} {s:Rf.Source} {r:List Rf.Source}
open Classical in
theorem jdl{α:Type}(R:Nat->α->Prop):∃ m:α->Nat,∀ a,(∃ n,R n a)->R (m a) a/\∀ n,R n a->m a<=n:=by
 have H:∀ a,(∃ n,R n a)->∃ m,R m a/\∀ n,R n a->m<=n:=by
  rintro a ⟨n,f⟩
  induction n using Nat.strongRecOn with
  | ind n ih =>
   rcases em (∃ k,k<n/\R k a)with⟨k,b,d⟩|c
   ·exact ih k b d
   ·exact⟨n,f,fun k b=>Nat.le_of_not_lt (fun h=>c ⟨k,h,b⟩)⟩
 refine⟨fun a=>if h:∃ n,R n a then Classical.choose (H a h)else 0,fun a h=>?_⟩;simp only[dif_pos h];exact Classical.choose_spec (H a h)
def Xa(G:jc×(List (List Rf.Ch) ⊕ Bool)):List Rf.Ch:=match G.2 with|.inl ls=>Rf.merged ls|.inr _=>[]
def K7(G:jc×(List (List Rf.Ch) ⊕ Bool)):Option Bool:=match G.2 with|.inl _=>none|.inr b=>some b
structure B5(P:jc->Prop)(E:Nat->Addr)(B:Nat)(ρ:Nat->j3)(d:Nat)(S:jc)(lv:Value)(fs:List Value)(sts:List J4)(W:World):Prop where
 dk:Dk E B W ρ d S
 small:P S
 jfy:ky W lv fs
 off:fs≠[]->∀ p n c,lv = .slice (some p) n c->¬qj ρ p.block
 layers:∀(k:Nat) f st,fs[k]?=some f->sts[k]?=some st->iu P E B ρ d W f st
theorem iu.same{P:jc->Prop}{ρ:Nat->j3}{w w':World}{f:Value}{b:J4}(h:iu P E B ρ d w f b)(k:ja w w' (fun _=>False)):iu P E B ρ d w' f b :=
 fun hi W S kk D Z=>h hi W S ((k.up).tt kk) D Z
theorem B5.same{P:jc->Prop}{ρ:Nat->j3}{S:jc}{lv:Value}{fs:List Value}{b:List J4}{W c:World}(h:B5 P E B ρ d S lv fs b W)(k:ja W c (fun _=>False)):B5 P E B ρ d S lv fs b c :=
 ⟨h.dk.same k,h.small,h.jfy.same k,h.off,fun i f st hf hst=>(h.layers i f st hf hst).same k⟩
theorem kx(b:Array Value)(w:World):(callFunc 123 b).run prog w = .ok (.enter 123 b) w:=by kernel_rfl
def Yc(l:List Rf.Source):Nat:=(l.map (fun s=>s.entries.length)).sum
theorem Mq{l m:List Rf.Source}(p:l.Perm m):Yc l=Yc m:=Ab (p.map _)
theorem Kl{c:Rf.Ch}{q:List Rf.Ch}(h:s.entries=c::q):Yc (Rf.taken s r)+1=Yc (s::r):=by
 unfold Rf.taken Yc;rw[h,List.tail_cons]
 split
 ·rename_i e;simp[h,e];omega
 ·simp[h];omega
theorem D0{ls:List (List Rf.Ch)}:∀ s∈Rf.qw n ls,s.entries∈ls:=by
 induction ls generalizing n with
 | nil=>intro s b;cases b
 | cons l r ih =>
  intro s b;unfold Rf.qw at b
  split at b
  ·exact ZH _ (ih s b)
  ·rcases zN.1 b with rfl|b
   ·exact ZG
   ·exact ZH _ (ih s b)
theorem Ow{N A:Nat}(h:∀ x∈s::r,x.entries.length<N/\x.age<A):∀ x∈Rf.taken s r,x.entries.length<N/\x.age<A:=by
 intro x b;unfold Rf.taken at b
 split at b
 ·exact h x (ZH _ b)
 ·rcases zN.1 b with rfl|b
  ·have:=h s ZG
   exact⟨by have c:s.entries.tail.length<=s.entries.length:=by rw[List.length_tail];omega
            exact zM c this.1,this.2⟩
  ·exact h x (ZH _ b)
theorem Ml(s:Rf.Source)(r:List Rf.Source):(Rf.taken s r).length<=(s::r).length:=by
 unfold Rf.taken
 split<;>simp
structure wg(ls:List (List Rf.Ch)):Prop where
 rising:∀ l∈ls,Rf.jw l
 keys:∀ l∈ls,∀ c∈l,c.key≠[]
 len:∀ l∈ls,l.length<1048576
theorem kn{P:jc->Prop}{ρ:Nat->j3}{S:jc}(lv:Value)(fs:List Value)(D:List J4)(R:Str)(b9:fs.length=D.length)(hl:fs.length<524288)(ch:∀ f∈fs,∃ g a b,f = .func g a b)(a2:∀ ls,(j9 R D S).2 = .inl ls->wg ls) :
 I6 Fence.wide n prog 123 #[.agg #[lv,jf R]] #[] encI (qj ρ) (fun i=>i<B) (B5 P E B ρ d S lv fs D) (jen E (Xa (j9 R D S)) (K7 (j9 R D S))) (jem E B ρ d (j9 R D S).1 (Xa (j9 R D S)) (K7 (j9 R D S))) (Ld E B ρ d (j9 R D S).1):=by
 intro lp n₀ J Jx aJ hY C W ay hC d4 hS d9;have ex:∀ i,i<W.heap.size->C i->¬qj ρ i/\B<=i:=fun i _ hc=>⟨(hC i hc).1,Nat.le_of_not_lt (hC i hc).2⟩;have kA:=ja.alloc W (.cells #[lv,jf R] 189) (fun _=>False);have aa:=hS.same kA;obtain⟨p0,c0,rfl,_⟩:=id hS.jfy;have a0:=Hj aa.dk aa.small _ fs D R aa.jfy aa.off b9 hl ch aa.layers;obtain⟨G,hG⟩:∃ G,G=j9 R D S:=⟨_,rfl⟩;rw[<-hG] at a0 a2 hY ⊢;have HO:=jb a0;have hρ:=hS.dk.rep.lt;have db:=hS.dk.size;have nT:∀ i,W.heap.size<=i->¬qj ρ i:=fun i R h=>by have:=hρ i h;omega
 have ce:∀ ls,G.2 = .inl ls->ls.length<524288:=fun ls h=>by
  have H:j9 R D S=(G.1,.inl ls):=by rw[<-hG];exact Prod.ext rfl h
  rw[ob H];omega
 clear a0 hG aa hS b9;show CallsIn Fence.wide n prog 123 #[.agg #[.slice p0 fs.length c0,jf R],.func (.yield lp) #[] #[]] W _;refine callsIn_of_wp func123 rfl trivial ?_ rfl;simp only[ntmps123,zG,zP,zQ,Nat.reduceAdd,Nat.reduceSub,zR,zS,zT,zU,zV,zW]
 gi_wp2_with fail
 refine⟨trivial,fun h=>(by simp[Fence.wide] at h),(callsIn_wide.2 HO.out).mono ?_⟩;rintro e w1 ⟨k1,D1,Z1,⟨ls,Y,v,j,af,rfl,d6,Hq,Tq,Pq,ax⟩|⟨bad,ev,bc,rfl,c8⟩⟩
 all_goals
  have kW:ja W w1 (qj ρ):=(kA.up).tt k1;have bo:=aJ _ _ _ _ d9 (fi kW (fun i _ h=> .inl h));have ak:∀ i,C i->i<w1.heap.size:=fun i h=>ZA (ay i h) kW.size
 ·have eu:W.heap.size+1<=Y:=by simpa using d6
  have G1:=a2 ls af;have ew:=ce ls af;have eM:Xa G=Rf.merged ls:=by unfold Xa;rw[af]
  have eE:K7 G=none:=by unfold K7;rw[af]
  rw[eM,eE] at hY;have HM:=jb eM;have HE:=jb eE;have T0:Rf.Tells (yd j) [] (Rf.merged ls):=(Rf.Ms G1.rising G1.keys).perm Pq.symm;have F0:Rf.so (yd j) []:=(Rf.Mt G1.rising).perm Pq.symm
  have a8:∀ s∈yd j,s.entries.length<1048576/\s.age<4611686018427387904:=by
   intro s hs;have H:=Pq.mem_iff.1 hs;have h6:=ot s H;exact⟨G1.len _ (D0 s H),by omega⟩
  have a9:(yd j).length<1048576:=by
   have H:=Pq.length_eq;have h6:=du 0 ls;omega
  have b6:(W.alloc (.cells #[.slice p0 fs.length c0,jf R] 189)).heap.size=W.heap.size+1:=by simp
  rw[b6] at Hq ax;generalize hMM:Rf.merged ls=MM at *
  clear eM eE hMM Pq G1 a2 af b6
  obtain⟨mf,c7⟩:=jdl (fun(m:Nat) (x:Value×World)=>∃(F:Str) (k L:List Rf.Ch) (j:List HS) (v:Value) (l:Nat->Prop),x.1=jf F/\Yc (yd j)=m/\MM=k++L/\Rf.Tells (yd j) F L/\Rf.so (yd j) F/\xj x.2 (W.heap.size+1) Y v j/\Rf.Qk (yd j) j.length /\
   J (k.map Ja) l x.2/\(∀ i,l i->C i\/W.heap.size<=i)/\(∀ i,l i->i<x.2.heap.size)/\¬l Y/\(∀ g,v.ownBlock=some g->¬l g)/\(∀ p∈j,∀ r n c,p.1 = .slice (some r) n c->¬l r.block/\W.heap.size+1<=r.block)/\ja W x.2 (fun i=>C i\/qj ρ i)/\Dk E B x.2 ρ d G.1 /\
   (∀ s∈yd j,s.entries.length<1048576/\s.age<4611686018427387904)/\(yd j).length<1048576)
  have bp:=jb c7;have HY:=jb hY;clear c7 hY
  have a7:∃ m,∃(F:Str) (k L:List Rf.Ch) (j:List HS) (v:Value) (l:Nat->Prop),jf []=jf F/\Yc (yd j)=m/\MM=k++L/\Rf.Tells (yd j) F L/\Rf.so (yd j) F/\xj w1 (W.heap.size+1) Y v j/\Rf.Qk (yd j) j.length /\
   J (k.map Ja) l w1/\(∀ i,l i->C i\/W.heap.size<=i)/\(∀ i,l i->i<w1.heap.size)/\¬l Y/\(∀ g,v.ownBlock=some g->¬l g)/\(∀ p∈j,∀ r n c,p.1 = .slice (some r) n c->¬l r.block/\W.heap.size+1<=r.block)/\ja W w1 (fun i=>C i\/qj ρ i)/\Dk E B w1 ρ d G.1 /\
   (∀ s∈yd j,s.entries.length<1048576/\s.age<4611686018427387904)/\(yd j).length<1048576:=by
   refine⟨_,[],[],MM,j,v,C,rfl,rfl,rfl,T0,F0,Hq,Tq,bo,fun _ h=> .inl h,ak,fun h=>by have:=ay Y h;omega,fun g hg h=>?_,fun p I r n c e=>⟨fun h=>?_,ax p I r n c e⟩,kW.mono (fun _ _ h=> .inr h),D1,a8,a9⟩
   ·have:=(Hq.row.lt g hg).1
    have:=ay g h;omega
   ·have:=ax p I r n c e
    have:=ay _ h;omega
  have dd:=jb a7;clear a7 T0 F0 Hq Tq bo ak ax D1 a8 a9
  gi_wp2_with fail
  gi_loopw [6] (fun lv wr=>∃ m,∃(F:Str) (k L:List Rf.Ch) (j:List HS) (v:Value) (l:Nat->Prop),lv=jf F/\Yc (yd j)=m/\MM=k++L/\Rf.Tells (yd j) F L/\Rf.so (yd j) F/\xj wr (W.heap.size+1) Y v j/\Rf.Qk (yd j) j.length /\
   J (k.map Ja) l wr/\(∀ i,l i->C i\/W.heap.size<=i)/\(∀ i,l i->i<wr.heap.size)/\¬l Y/\(∀ g,v.ownBlock=some g->¬l g)/\(∀ p∈j,∀ r n c,p.1 = .slice (some r) n c->¬l r.block/\W.heap.size+1<=r.block)/\ja W wr (fun i=>C i\/qj ρ i)/\Dk E B wr ρ d G.1 /\
   (∀ s∈yd j,s.entries.length<1048576/\s.age<4611686018427387904)/\(yd j).length<1048576)
   (fun lv wr=>mf (lv,wr))
  case atStart=>exact dd.out
  case round =>
   obtain⟨d8,b8⟩:=bp.out (_,wr) hrel;obtain⟨F,k,L,j,v,l,rfl,a6,az,Tq,Fq,Hq,Tp,ca,A,a5,a4,ap,bs,d5,Dq,bj,ba⟩:=d8;simp only at *
   have e7:=jb b8;clear b8 hrel;obtain⟨a1,c1,rfl⟩:=Hq.slice;have cb:=Hq.cell;have bk:j.length<1048576:=by rw[Yt] at ba;exact ba
   cases j with
   | nil =>
    have eL:=Tq.nil;have dg:=jb eL;have cj:=jb az;have ey:=jb Hq;clear eL az Hq
    gi_wp2_with fail
    refine⟨trivial,fun h=>(by simp[Fence.wide] at h),(callsIn_wide.2 (Aq a1 0 c1 wr (by omega))).mono ?_⟩;rintro e X ⟨rfl,rfl⟩
    gi_wp2
    go_end0;refine⟨l,A,a5,⟨_,rfl⟩,.inl ⟨k.map Ja,⟨Dq,.inl ⟨HE.out,?_⟩⟩,ca⟩⟩;rw[HM.out,cj.out,dg.out,ZB]
   | cons s0 rs =>
    obtain⟨c,q,aw⟩:∃ c q,s0.2.entries=c::q:=by
     cases H:s0.2.entries with
     | nil=>exact(Fq.some s0.2 ZG H).elim
     | cons c q=>exact⟨c,q,rfl⟩
    have br:∀ p∈s0::rs,p.2.entries≠[]:=fun p I=>Fq.some p.2 (zO.2 ⟨p,I,rfl⟩);have bt:∀ p∈s0::rs,p.2.age<4611686018427387904:=fun p I=>(bj p.2 (zO.2 ⟨p,I,rfl⟩)).2
    have d2:q.length<1048576:=by
     have:=(bj s0.2 ZG).1;rw[aw] at this;simp at this;omega
    have O:∀ t∈s0.2::yd rs,s0.2.le t:=Rf.Qk.top (by rw[<-iz,Yt];exact Tp);have aq:=Pa Hq br Tp aw bk d2 bt;have HN:=jb aq;have df:=jb Hq;have ab:=jb aw;have b1:=jb az;have e6:rs.length+1<1048576:=by simpa using bk
    have ao:∀ i,(i=Y\/(Value.slice a1 (s0::rs).length c1).ownBlock=some i)->W.heap.size<=i/\¬l i:=by
     rintro i (h|h)
     ·rw[h];exact⟨by omega,a4⟩
     ·exact⟨by have:=(df.out.row.lt i h).1;omega,ap i h⟩
    have V:=jb ao;clear aq Hq aw az ao bk;simp only[zP] at cb
    gi_wp2_with fail
    refine⟨trivial,fun h=>(by simp[Fence.wide] at h),(callsIn_wide.2 (Aq a1 (rs.length+1) c1 wr (by omega))).mono ?_⟩;rintro e wq ⟨rfl,rfl⟩
    gi_wp2_with fail
    refine⟨trivial,fun h=>(by simp[Fence.wide] at h),(callsIn_wide.2 HN.out).mono ?_⟩;rintro e X ⟨rfl,v2,Z,P2,H2,T2,l2,k2,bb⟩;obtain⟨z,T,U⟩:=c;have ka:=ja.alloc X (.cells #[jf z,jf T,.bool U] 88) (fun _=>False);have kk:ja wq (X.alloc (.cells #[jf z,jf T,.bool U] 88)) (fun i=>i=Y\/(Value.slice a1 (s0::rs).length c1).ownBlock=some i):=k2.trans ka (fun _ _ h=>h.elim);have cc:=aJ _ _ _ _ ca (fi kk (fun i _ h=> .inr ⟨ZR d4 (V.out i h).1,(V.out i h).2⟩));have D2:=Dq.apart kk (fun i _ h=>⟨nT i (V.out i h).1,ZR db (V.out i h).1⟩);have aj:ja W (X.alloc (.cells #[jf z,jf T,.bool U] 88)) (fun i=>C i\/qj ρ i):=d5.trans kk (fun i R h=>by have:=(V.out i h).1;omega);have b2:=H2.same ka;have Pm:(Rf.taken s0.2 (yd rs)).Perm (yd Z):=P2.symm
    have e4:Yc (yd Z)+1=Yc (yd (s0::rs)):=by
     rw[<-Mq Pm,iz];exact Kl ab.out
    have b7:∀ s∈yd Z,s.entries.length<1048576/\s.age<4611686018427387904:=fun s hs=>Ow (by rw[<-iz];exact bj) s (Pm.mem_iff.2 hs)
    have ar:(yd Z).length<1048576:=by
     rw[<-Pm.length_eq];have:=Ml s0.2 (yd rs);rw[<-iz] at this;omega
    have e3:wq.heap.size<=X.heap.size:=k2.size
    have N:∀ g,v2.ownBlock=some g->¬l g/\g<(X.alloc (.cells #[jf z,jf T,.bool U] 88)).heap.size:=by
     intro g hg;refine⟨?_,(b2.row.lt g hg).2⟩;rcases l2 with h|⟨g2,h,H⟩
     ·rw[h] at hg;exact ap g hg
     ·rw[h] at hg
      cases hg;intro hc;have:=a5 _ hc;omega
    have y:∀ p∈Z,∀ r n c,p.1 = .slice (some r) n c->¬l r.block/\W.heap.size+1<=r.block/\r.block<(X.alloc (.cells #[jf z,jf T,.bool U] 88)).heap.size:=by
     intro p I r n c e;obtain⟨p',d3,dc,n',c',e',eb⟩:=bb p I r n c e;have H:=bs p' d3 dc n' c' e';rw[eb] at H;refine⟨H.1,H.2,?_⟩;have h6:=(b2.has p I).1
     have h7:p.2.entries≠[]:=by
      have h8:p.2∈Rf.taken s0.2 (yd rs):=Pm.mem_iff.2 (zO.2 ⟨p,I,rfl⟩);exact(Fq.next ab.out O).2.some p.2 h8
     rw[e] at h6;exact h6.lt h7
    have b0:=je X (.cells #[jf z,jf T,.bool U] 88);have y0:=zA (o:=0) b0;have y1:=zA (o:=1) b0;have y2:=zA (o:=2) b0;simp at y0 y1 y2;have cd:=jb T2;have bq:=jb b2;clear T2 b2 H2 b0 bb;by_cases hcl:z=F
    ·subst hcl
     have d7:(z==z)=true:=by simp
     gi_wp2
     have ai:∃ m,m<mf (jf z,wq)/\∃(F:Str) (k L:List Rf.Ch) (j:List HS) (v:Value) (l:Nat->Prop),jf z=jf F/\Yc (yd j)=m/\MM=k++L/\Rf.Tells (yd j) F L/\Rf.so (yd j) F/\xj (X.alloc (.cells #[jf z,jf T,.bool U] 88)) (W.heap.size+1) Y v j/\Rf.Qk (yd j) j.length /\
      J (k.map Ja) l (X.alloc (.cells #[jf z,jf T,.bool U] 88))/\(∀ i,l i->C i\/W.heap.size<=i)/\(∀ i,l i->i<(X.alloc (.cells #[jf z,jf T,.bool U] 88)).heap.size)/\¬l Y/\(∀ g,v.ownBlock=some g->¬l g)/\(∀ p∈j,∀ r n c,p.1 = .slice (some r) n c->¬l r.block/\W.heap.size+1<=r.block)/\ja W (X.alloc (.cells #[jf z,jf T,.bool U] 88)) (fun i=>C i\/qj ρ i)/\Dk E B (X.alloc (.cells #[jf z,jf T,.bool U] 88)) ρ d G.1 /\
      (∀ s∈yd j,s.entries.length<1048576/\s.age<4611686018427387904)/\(yd j).length<1048576:=by
      refine⟨_,by rw[<-a6];omega,z,k,L,Z,v2,l,rfl,rfl,b1.out,(Tq.again ab.out rfl).perm Pm,((Fq.next ab.out O).2).perm Pm,bq.out,cd.out,cc,A,fun i h=>by have:=a5 i h;simp;omega,a4,fun g hg=>(N g hg).1,fun p I r n c e=>⟨(y p I r n c e).1,(y p I r n c e).2.1⟩,aj,D2,b7,ar⟩
     obtain⟨m2,av,u⟩:=ai;go_roundw
     case rel=>exact⟨m2,u⟩
     case measure=>exact zM ((bp.out (_,_) ⟨m2,u⟩).2 m2 u) av
    ·have d7:(z==F)=false:=by simp[hcl]
     obtain⟨e5,M,bm,TM⟩:=Tq.next Fq ab.out O hcl;have bd:MM=(k++[⟨z,T,U⟩])++M:=by rw[b1.out,bm];simp
     have c9:MM[k.length]?=some ⟨z,T,U⟩:=by rw[b1.out,bm];simp
     have c6:k.map Ja=(MM.take k.length).map Ja:=by rw[b1.out];simp
     have ci:∀ i,l i->i<(X.alloc (.cells #[jf z,jf T,.bool U] 88)).heap.size:=fun i h=>by have:=a5 i h;simp;omega
     obtain⟨fn,tmps,assign,body,hy,hR⟩:=HY.out (k.map Ja) (Ja ⟨z,T,U⟩) l _ cc ci (.inl ⟨k.length,_,c6,c9,rfl⟩);dsimp only[encI,Ja] at hy;have HR:=jb hR;have cl:=jb bd;clear hR bm bd c9 c6
     gi_wp2
     refine⟨fun h=>by simp[Fence.wide] at h,HR.out.mono ?_⟩;rintro e W3 ⟨C2,au,ah,ag,bl⟩
     have an:∀ i,C2 i->C i\/W.heap.size<=i:=fun i h=>by
      rcases au i h with h|h
      ·exact A i h
      ·have h6:=aj.size
       exact .inr (by omega)
     have cf:ja W W3 (fun i=>C i\/qj ρ i):=aj.trans ag (fun i R h=>by
      rcases A i h with H|H
      ·exact .inl H
      ·omega)
     have da:∀ i,l i->¬qj ρ i/\B<=i:=fun i h=>by
      rcases A i h with H|H
      ·exact⟨(hC i H).1,Nat.le_of_not_lt (hC i H).2⟩
      ·exact⟨nT i H,by omega⟩
     have D3:=D2.apart ag (fun i _ h=>da i h);rcases bl with⟨rfl,bn⟩|⟨rfl,al⟩
     ·have ai:∃ m,m<mf (jf F,wq)/\∃(F:Str) (k L:List Rf.Ch) (j:List HS) (v:Value) (l:Nat->Prop),jf z=jf F/\Yc (yd j)=m/\MM=k++L/\Rf.Tells (yd j) F L/\Rf.so (yd j) F/\xj W3 (W.heap.size+1) Y v j/\Rf.Qk (yd j) j.length /\
       J (k.map Ja) l W3/\(∀ i,l i->C i\/W.heap.size<=i)/\(∀ i,l i->i<W3.heap.size)/\¬l Y/\(∀ g,v.ownBlock=some g->¬l g)/\(∀ p∈j,∀ r n c,p.1 = .slice (some r) n c->¬l r.block/\W.heap.size+1<=r.block)/\ja W W3 (fun i=>C i\/qj ρ i)/\Dk E B W3 ρ d G.1 /\
       (∀ s∈yd j,s.entries.length<1048576/\s.age<4611686018427387904)/\(yd j).length<1048576:=by
       have bi:∀ i,¬l i->i<(X.alloc (.cells #[jf z,jf T,.bool U] 88)).heap.size->¬C2 i:=fun i h1 h2 h3=>by
        rcases au i h3 with h|h
        ·exact h1 h
        ·omega
       refine⟨_,by rw[<-a6];omega,z,k++[⟨z,T,U⟩],M,Z,v2,C2,rfl,rfl,cl.out,TM.perm Pm,((Fq.next ab.out O).1).perm Pm,bq.out.keep ag a4 (fun g hg=>(N g hg).1) (fun p I r n c e=>(y p I r n c e).1),cd.out,by rw[xZ];exact bn,an,ah,
        bi Y a4 (zC bq.out.box),fun g hg=>bi g (N g hg).1 (N g hg).2,fun p I r n c e=>⟨bi _ (y p I r n c e).1 (y p I r n c e).2.2,(y p I r n c e).2.1⟩,cf,D3,b7,ar⟩
      obtain⟨m2,av,u⟩:=ai
      have am:=jb u
      have de:=jb av
      clear u av
      gi_wp2
      go_roundw
      case rel=>exact⟨m2,am.out⟩
      case measure=>exact zM ((bp.out (_,_) ⟨m2,am.out⟩).2 m2 am.out) de.out
     ·gi_wp2
      refine bodyPost_ret (results_none rfl _ _ _) rfl ?_;exact⟨C2,an,ah,⟨_,rfl⟩,.inr ⟨_,D3,al⟩⟩
 ·obtain⟨te,ae,rfl⟩:=c8.shape
  have eM:Xa G=[]:=by unfold Xa;rw[bc]
  have eE:K7 G=some bad:=by unfold K7;rw[bc]
  rw[eM,eE] at hY;have HM:=jb eM;have HE:=jb eE;clear eM eE;obtain⟨fn,tmps,assign,body,hy,hR⟩:=hY [] (dz,.iface te (.pointer (some ae))) C w1 bo ak (.inr ⟨bad,rfl,rfl,rfl,c8⟩);dsimp only[encI,dz] at hy;have HR:=jb hR;have dh:=jb D1;clear hR D1 hY
  gi_wp2
  refine⟨fun h=>by simp[Fence.wide] at h,HR.out.mono ?_⟩;rintro e W3 ⟨C2,au,ah,ag,bl⟩;have D3:=dh.out.apart ag (fun i _ h=>⟨(hC i h).1,Nat.le_of_not_lt (hC i h).2⟩);have A:∀ i,C2 i->C i\/W.heap.size<=i:=fun i h=>(au i h).imp id (fun h=>ZR kW.size h);rcases bl with⟨rfl,bn⟩|⟨rfl,al⟩
  ·gi_wp2
   refine bodyPost_ret (results_none rfl _ _ _) rfl ?_;exact⟨C2,A,ah,⟨_,rfl⟩,.inl ⟨_,⟨D3,.inr ⟨bad,_,HE.out,⟨te,ae,rfl⟩,by rw[HM.out];rfl⟩⟩,bn⟩⟩
  ·gi_wp2
   refine bodyPost_ret (results_none rfl _ _ _) rfl ?_;exact⟨C2,A,ah,⟨_,rfl⟩,.inr ⟨_,D3,al⟩⟩
end Go.Proofs.YtnipbplghijdmaaGreatDoor
