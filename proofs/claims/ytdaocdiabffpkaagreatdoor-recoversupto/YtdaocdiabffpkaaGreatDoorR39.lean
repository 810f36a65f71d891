/-
-/
import Derived.Test.YtdaocdiabffpkaaGreatDoorR38
set_option maxRecDepth 100000
set_option maxHeartbeats 8000000
set_option linter.all false
namespace Go.Proofs.YtdaocdiabffpkaaGreatDoor
open RowKit Maps WideShapes Go.Proofs.Tryz
section
theorem Fj{P:Program}(w:World)(base:Nat)(t x e:TypeId)(i:TypeInfo)(z:Value)(size bytes:Nat)(A:P.underlying t=some (.slice e))(hi:P.info? e=some i)(J:i.zero=some z)(o:i.size=size)(s:i.bytes=bytes)(D:z.cells.size=size)(E:0<size)(v:Value)(n:Nat)(xs:List Value)(f:w.ownsRow base e size v n xs)(a:Addr)(m c:Nat)(b:List Value)(y:b.length=m*size)(d:∀ j u,b[j]?=some u->w.cell? (a.add j)=some u)(M:∀ u∈b,u.oneCell'=true)(G:n+m<=maxLen)(l:(n+m)*bytes<=140737488355328)(q:base<=w.heap.size):∃ v' w',(Builtin.append_ #[t,t] x #[v,.slice (some a) m c]).run P w=.ok v' w'/\w'.ownsRow base e size v' (n+m) (xs++b)/\w.grownBy w' v.ownBlock/\(v'.ownBlock=v.ownBlock\/(v'.ownBlock=some w.heap.size/\w.grownBy w' none)):=by
 obtain⟨v',w',B,R,L,V,r⟩:=run_append_own_at (P:=P) w base t x e i z size bytes A hi J o s D E v n xs f a m c b y d M G l q;refine⟨v',w',B,R,L,?_⟩;subst o;subst s;obtain⟨rfl,rfl⟩|⟨g,cap,H,rfl,U,O,S,T,F,I⟩:=f.2;obtain r|r:=r;exact .inl r;exact .inr ⟨r,L⟩;by_cases hroom:n+m<=cap;have C:=B.symm.trans<|run_append_room (P:=P) w t x e i A hi g n cap H O a m c b y d M hroom (by rw[y,F,<-Nat.add_mul];exact Nat.mul_le_mul_right _ hroom);injection C with e1 e2;exact .inl (by rw[e1];rfl);have p:=f.cells (g:=g) rfl;have N:n+m<=9223372036854775807:=by grind [maxLen]
 have C:=B.symm.trans (run_append_grow (P:=P) w t x e i z A hi J (A2 g) n cap xs f.1 p a m c b y d zC zC (growslice_fits zC l));injection C with e1 e2;subst e2;exact .inr ⟨by rw[e1];rfl,⟨rfl,rfl,rfl,zD,λk g _=>heap_alloc_old w.drew _ g⟩⟩
theorem fq{P:Program}(w:World){d:Array Oper}{rest:List Oper}{o:Oper}{a:Act}{Q:Exit->Act->World->Prop}(f:o.guard=none)(s x:Operand)(t:TypeId)(l:o.op=.call { callee:=.builtin .append,args:=#[s,x],argTypes:=#[t,t] })(base:Nat)(e:TypeId)(i:TypeInfo)(z:Value)(size bytes:Nat)(ht:P.underlying t=some (.slice e))(hi:P.info? e=some i)(hz:i.zero=some z)(hsize:i.size=size)(hby:i.bytes=bytes)(hzs:z.cells.size=size)(hsz:0<size)(v:Value)(n:Nat)(xs:List Value)(hs:a.eval s=v)(hown:w.ownsRow base e size v n xs)(ad:Addr)(m c:Nat)(news:List Value)(hx:a.eval x=.slice (some ad) m c)(hl:news.length=m*size)(hnews:∀ j u,news[j]?=some u->w.cell? (ad.add j)=some u)(h1:∀ u∈news,u.oneCell'=true)(h63:n+m<=maxLen)(hbytes:(n+m)*bytes<=140737488355328)(hbase:base<=w.heap.size)(hK:∀(p:Option Addr) (b:Nat) (w':World),w'.ownsRow base e size (.slice p (n+m) b) (n+m) (xs++news)->w.grownBy w' v.ownBlock->((Value.slice p (n+m) b).ownBlock=v.ownBlock\/((Value.slice p (n+m) b).ownBlock=some w.heap.size/\w.grownBy w' none))->wpList P d Q rest (a.put o.dst (.slice p (n+m) b)) w'):wpList P d Q (o::rest) a w:=by
 refine wpList_plain f λK j=>?_
 obtain⟨v',w',k,g,r,q⟩:=Fj (P:=P) w base t o.type e i z size bytes ht hi hz hsize hby hzs hsz v n xs hown ad m c news hl hnews h1 h63 hbytes hbase;obtain⟨p,b,rfl⟩:=jl g;unfold Oper.wp execOp;simp only[l,resolve,invoke,builtin,Sem.run_bind,Sem.run_pure,Result.andThen_ok,List.map_toArray,XA,List.map_nil,hs,hx,k];exact j _ _<|hK p b w' g r q
structure Gr(W:World)(es e:TypeId)(c:List Value)(f:Nat->List Value)(pv lv:Value)(n m:Nat)(us:List Value)(T:Nat->Prop):Prop where
 row:W.ownsRow 0 es 1 pv n us
 el:∀ i,i<n->∃ u,us[i]?=some u/\Cst W (f i) u/\(∀ g,u.ownBlock=some g->T g)/\∀ g,lv.ownBlock=some g->u.ownBlock=some g->f i=c/\∃ n' cap',u=.slice (some ⟨g,0,none⟩) n' cap'/\n'<=m
 l:W.ownsRow 0 e c.length lv m (cst m c)
 lT:∀ g,lv.ownBlock=some g->T g
 nT:∀ g,pv.ownBlock=some g->¬T g
 lt:∀ g,T g->g<W.heap.size
section
variable {W W':World} {es e:TypeId} {c:List Value} {f:Nat->List Value} {pv lv:Value} {n m:Nat} {us:List Value} {T:Nat->Prop}
theorem Rq{base d:Nat}{v:Value}{xs:List Value}(h:W.ownsRow base e d v m xs){g:Nat}(b:v.ownBlock=some g):∃ cap,v=.slice (some (A2 g)) m cap:=by obtain⟨rfl,_⟩|⟨i,c,f,rfl,_⟩:=h.2;cases b;cases b;exact⟨_,rfl⟩
theorem Gr.push{b:Value}(h:Gr W es e c f pv lv n m us T){U:Nat->Prop}(k:ja W W' U)(j:∀ i,U i->¬T i)(r:W'.ownsRow 0 es 1 b (n+1) (us++[lv]))(q:∀ g,b.ownBlock=some g->pv.ownBlock=some g\/W.heap.size<=g)(s:f n=c):Gr W' es e c f b lv (n+1) m (us++[lv]) T:=by
 have z:us.length=n:=zA h.row.1;have o:=k.row h.l λg e t=>j g t<|h.lT g e
 refine⟨r,λi hi=>?_,o,h.lT,λg e t=>?_,λg t=>zZ (h.lt g t) k.size⟩
 .obtain d|y:=zV i n;(· obtain⟨u,A,v,p,x⟩:=h.el i d;exact⟨u,zG,v.keep k (λg d t=>j g t (p g d)),p,x⟩);· (have e:i=n:=zC);subst e;refine⟨lv,zG,?_,h.lT,λg d _=>?_⟩;(· rw[s];exact jef o);grind [Rq]
 obtain e|e:=q g e;exact h.nT g e t;have:=h.lt g t;omega
theorem Gr.grow{b:Value}(h:Gr W es e c f pv lv n m us T)(l:W'.ownsRow 0 e c.length b (m+1) (cst m c++c))(o:ja W W' (λj=>lv.ownBlock=some j))(d:b.ownBlock=lv.ownBlock\/((∀ g,b.ownBlock=some g->W.heap.size<=g)/\ja W W' N_)):Gr W' es e c f pv b n (m+1) us (λg=>T g\/b.ownBlock=some g):=by
 rw[<-Ac] at l;refine⟨o.row h.row λg k i=>h.nT g k<|h.lT g i,λi hi=>?_,l,λg e=>.inr e,λg k t=>?_,λg t=>?_⟩;obtain⟨u,k,p,q,s⟩:=h.el i hi;obtain d|⟨d,r⟩:=d;refine⟨u,k,?_,λg i=>.inl<|q g i,λg i v=>?_⟩;by_cases hx:∃ g,lv.ownBlock=some g/\u.ownBlock=some g;grind [Rq,jkg];exact p.keep o λg i t=>hx ⟨g,t,i⟩
 grind;refine⟨u,k,p.keep r λ_ _ t=>t,λg i=>.inl<|q g i,λg i v=>?_⟩;have:=d g i;have:=p.old v;omega;obtain t|t:=t;exact h.nT g k t;obtain d|⟨d,_⟩:=d;exact h.nT g k<|h.lT g (d▸t);have q:=d g t;have s:=(h.row.lt g k).2;omega;obtain t|t:=t;exact zZ (h.lt g t) o.size;exact(l.lt g t).2
theorem Gr.cl(h:Gr W es e c f pv lv n m us T):CL W es pv f n T:=by refine⟨us,h.row,λi hi=>?_⟩;obtain⟨u,j,d,b,k⟩:=h.el i hi;exact⟨u,j,d,λg d=>⟨b g d,λe=>h.nT g e<|b g d⟩⟩
theorem CL.gr{v lv:Value}{T':Nat->Prop}(h:CL W es v f n T)(l:W.ownsRow 0 e c.length lv m (cst m c))(p:∀ g,T g->T' g)(j:∀ g,lv.ownBlock=some g->T' g/\¬T g)(b:∀ g,v.ownBlock=some g->¬T' g)(d:∀ g,T' g->g<W.heap.size):∃ us,Gr W es e c f v lv n m us T':=by obtain⟨us,k,o⟩:=h;refine⟨us,k,λi hi=>?_,l,λg e=>(j g e).1,b,d⟩;grind
end
end
section
section
variable {w:World} {b:Nat} {t:TypeId} {dv nx la lo ba ru last mv:Value} {deg:Bool}
theorem Kr(d:w.heap[b]?=some (.cells (ql dv nx la lo ba ru last mv deg true) t (0,0)))(i:Value):Calls prog 11 #[P1 b,i] w λe w'=>e=.returned (aA 3)/\w'=w:=by have f:=jb<|J5 d;have c:Xz deg true=3:=rfl;rw[c] at f;clear d c;go_enter func11,ntmps11;go_wp2_with fail;refine f.out.mono ?_;rintro e j ⟨rfl,g⟩;subst g;go_wp2;go_ret;exact⟨rfl,rfl⟩
theorem Re(d:w.heap[b]?=some (.cells (ql dv nx la lo ba ru last mv deg true) t (0,0))):Calls prog 50 #[P1 b] w λe w'=>e=.returned (aA 3)/\w'=w:=by have f:=jb<|J5 d;have c:Xz deg true=3:=rfl;rw[c] at f;clear d c;go_enter func50,ntmps50;go_wp2_with fail;refine f.out.mono ?_;rintro e i ⟨rfl,g⟩;subst g;go_wp2;go_ret;exact⟨rfl,rfl⟩
theorem Nj(d:w.heap[b]?=some (.cells (ql dv nx la lo ba ru last mv deg true) t (0,0))):Calls prog 13 #[P1 b] w λe w'=>e=.returned (aA 3)/\w'=w:=by have f:=jb<|J5 d;have c:Xz deg true=3:=rfl;rw[c] at f;clear d c;go_enter func13,ntmps13;go_wp2_with fail;refine f.out.mono ?_;rintro e i ⟨rfl,g⟩;subst g;go_wp2;go_ret;exact⟨rfl,rfl⟩
theorem En(d:w.heap[b]?=some (.cells (ql dv nx la lo ba ru last mv deg true) t (0,0))):Calls prog 55 #[P1 b] w λe w'=>e=.returned (aA 3)/\w'=w:=by have f:=jb<|J5 d;have c:Xz deg true=3:=rfl;rw[c] at f;clear d c;go_enter func55,ntmps55;go_wp2_with fail;refine f.out.mono ?_;rintro e i ⟨rfl,g⟩;subst g;go_wp2;go_ret;exact⟨rfl,rfl⟩
end
end
section
section
variable {E:Nat->Addr} {B:Nat} {w w':World} {d b k:Nat} {s:Rf.St} {F:Nat->Prop} {ρ:Nat->j4} {rv mv:Value}
theorem P7{t:TypeId}{v q r lo x p last j:Value}(d:w.heap[b]?=some (.cells (ql v q r lo x p last j false false) t (0,0)))(i:Value)(es:L1)(g:Chs w i es)(f:Rf.qv es=false)(m:es.length<1099511627776)(k:∀ c∈es,c.key.length<1099511627776/\c.value.length<1099511627776):Calls prog 11 #[P1 b,i] w λe w'=>e=.returned (aA 5)/\ja w w' N_:=by have n:=jb<|J5 d;have l:Xz false false=0:=rfl;rw[l] at n;have o:=jb<|ph i es w g m k;rw[f] at o;clear d l f m k g;go_enter func11,ntmps11;go_wp2_with fail;refine n.out.mono ?_;rintro e z ⟨rfl,u⟩;subst u;go_wp2_with fail;refine o.out.mono ?_;rintro e y ⟨rfl,s⟩;go_wp2;go_ret;exact⟨rfl,s⟩
theorem jj2{t:TypeId}{l i k lo m f last j:Value}{c:Bool}(d:w.heap[b]?=some (.cells (ql l i k lo m f last j c true) t (0,0)))(key:Str):Calls prog 12 #[P1 b,je key] w λe w'=>e=.returned (.tuple #[je [],.bool false,aA 3])/\ja w w' N_:=by have g:=zK 9 d;simp at g;clear d;go_enter func12,ntmps12;go_wp2;go_ret3;exact⟨rfl,ja.refl _ _⟩
theorem jf9{w:World}{b:Nat}{t:TypeId}{s r q p n m l c7 k:Value}(i:w.heap[b]?=some (.cells #[s,r,q,p,n,m,l,c7,k,.bool true] t (0,0)))(lo hi:Str)(most:Int):Calls prog 92 #[P1 b,je lo,je hi,aA most] w λe w'=>e=.returned (.tuple #[S5,aA 3])/\ja w w' N_:=by
 obtain⟨j,c⟩:=zJ ((((w.alloc<|.cells #[P1 b] 38).alloc<|.cells #[aA most] 3).alloc<|.cells #[S5] 118).alloc (.cells #[aA 0] 39));have g:ja w j N_:=by rw[c];exact(((ja.alloc w _ _).more _).more _).more _
 have d:=zM (o:=9)<|g.same i id;simp at d;have f:=d;rw[c] at f;clear i c d g;go_enter func92,ntmps92;go_wp2;refine bodyPost_ret (v:=.tuple #[S5,aA 3]) (by simp[results,Tryz.results92,go_sem]) rfl ?_;exact⟨rfl,(((ja.alloc w _ _).more _).more _).more _⟩
end
end
end Go.Proofs.YtdaocdiabffpkaaGreatDoor
namespace Go.Proofs.YtdaocdiabffpkaaGreatDoor.Rf
open Go.Proofs.Tryz
variable {l:List Ch}
def sg(l:List Ch):Nat:=(l.flatMap entry).length
theorem Da(c:Ch)(l:List Ch):sg (c::l)=(entry c).length+sg l:=by simp[sg]
theorem Ri(a b:List Ch):sg (a++b)=sg a+sg b:=by simp[sg]
theorem jnf(c:Ch)(l:List Ch):sg (ins c l)<=(entry c).length+sg l:=by induction l with|nil=>simp[ins,sg]|cons x r ih=>grind [ins,Da]
theorem je4(h:j8 l)(b:List Ch):sg (over l b)<=sg l+sg b:=by induction b generalizing l with|nil=>exact Nat.le_add_right _ _|cons c r ih=>have d:over l (c::r)=over (put l c) r:=rfl;grind [r8,Da,cu,jnf]
def sgs(bs:List (List Ch)):Nat:=(bs.map sg).sum
theorem C9(b:List Ch)(bs:List (List Ch)):sgs (b::bs)=sg b+sgs bs:=by simp[sgs]
theorem jie(h:j8 l)(bs:List (List Ch)):sg (bs.foldl over l)<=sg l+sgs bs:=by induction bs generalizing l with|nil=>exact Nat.le_add_right _ _|cons b r ih=>grind [C9,Ql,je4]
theorem Fc(bs:List (List Ch)):sg (memory bs)<=sgs bs:=by have:=jie (l:=[]) List.Pairwise.nil bs;simpa [memory,sg] using this
theorem E9(ls:List (List Ch)):sg (merged ls)<=sgs ls:=by induction ls with|nil=>exact ZG _|cons l r ih=>grind [Z0,C9,je4,zk]
theorem Lj(l:List Ch):sg (there l)<=sg l:=by induction l with|nil=>exact ZG _|cons c r ih=>grind [there,Da]
theorem Sb(c:Ch):c.key.length+2<=(entry c).length:=by grind [entry,text,jm]
theorem Ho{c:Ch}(h:allowed c=true):1<=c.key.length/\c.key.length<=16:=by grind [allowed]
theorem jcj(h:∀ c∈l,allowed c=true):3*l.length<=sg l:=by induction l with|nil=>exact ZG _|cons c r ih=>grind [Sb,Ho,Da]
theorem Ph(h:∀ c∈l,allowed c=true)(m:Nat)(f:4*m<=l.length):(yq l m).length+6*m<=sg (l.take (4*m)):=by induction m with|zero=>simp[yq,j3]|succ m ih=>have j:=ih zC;rw[Y4 l m zC];(have e:l.take (4*(m+1))=l.take (4*m)++(l.drop (4*m)).take 4:=zF);rw[e,Ri];(have d:((l.drop (4*m)).take 4).length=4:=zF);(have b:∀ c∈(l.drop (4*m)).take 4,allowed c=true:=λc g=>h c<|XK<|XL g);generalize hB:(l.drop (4*m)).take 4=B at d b ⊢;match B,d with|c::r,d=>(have i:=jcj (l:=r) λx g=>b x<|xP _ g);have g:=Sb c;rw[xC] at d;rw[Da];show((yq l m++big (qu l m).length 4)++text c.key).length+6*(m+1)<=_;grind [text,jm]
theorem jlh(l:List Ch)(n:Nat):sg (l.take n)<=sg l:=by grind [Ri,ZF]
theorem Yl(h:∀ c∈l,allowed c=true):4*(jr l).length<=9*sg l+176/\sg l<=(jr l).length:=by
 rw[lx];have b:=Py l ((l.length+3)/4) zC;rw[ZC zC] at b;have k:(l.flatMap entry).length=sg l:=rfl;have j:=jcj h;have i:(yq l ((l.length+3)/4)).length<=sg l+21-6*(l.length/4)/\6*(l.length/4)<=sg l/\((l.length+3)/4=l.length/4->(yq l ((l.length+3)/4)).length<=sg l-6*(l.length/4)):=by have g:=Ph h (l.length/4) zC;have f:=jlh l (4*(l.length/4));refine⟨?_,zC,λe=>by rw[e];omega⟩;by_cases hc:4*(l.length/4)<l.length;(· (have e:(l.length+3)/4=l.length/4+1:=zC);rw[e,Y4 l _ hc];(have d:(Jo<|(l.drop (4*(l.length/4))).take 4).length<=16:=by grind [bh,ZQ,Ho]);grind [text,jm]);grind
 grind [jm,frame]
theorem Jt(last:Nat)(bs:List (List Ch)):(ji last bs).length=sgs bs+17*bs.length:=by induction bs generalizing last with|nil=>simp[ji,sgs]|cons b r ih=>(have e:ji last (b::r)=jn (last+1) b++ji (last+1) r:=by simp[ji,jn]);have d:=ih (last+1);have c:=nk (last+1) b;grind [Kk,sg,C9]
theorem B8{b:List Ch}(h:qv b=true)(n:Nat):(jn n b).length<=489:=by grind [yh,Ju,nk,Kk]
theorem M3{ls:List (List Ch)}(h:∀ l∈ls,∀ c∈l,allowed c=true):3*zb ls<=sgs ls:=by induction ls with|nil=>simp[zb,sgs]|cons l r ih=>grind [jcj,zb,C9]
end Go.Proofs.YtdaocdiabffpkaaGreatDoor.Rf
namespace Go.Proofs.YtdaocdiabffpkaaGreatDoor
open Go.Proofs.Tryz
variable {n:Nat} {s:Rf.St}
theorem Y0:∀(ns:List Nat) (ls:List L1),ls.length=ns.length->(∀ l∈ls,∀ c∈l,Rf.allowed c=true)->Rf.sgs ls<=qe (j7 ns ls)
 | [],[],_,_=>by grind [Rf.sgs]
 | n::r,l::q,hl,h=>by
  have h1:=Y0 r q (by simpa using hl) (λx b=>h x (xP _ b))
  have b:=(Rf.Yl (h l xO)).2
  have e:j7 (n::r) (l::q)=(jq n,Rf.jr l)::j7 r q:=rfl
  grind [Yk,Rf.sgs]
theorem zm(s:Rf.St):qe s.files=s.m.bytes.length+((Rf.ji s.m.last s.bs).length+qe (j7 s.m.settled s.bls)):=by grind [Rf.St.files,Yk]
structure Fits(n:Nat)(s:Rf.St):Prop where
 ok:s.Ok
 size:qe s.files<=20000
 last:s.last<=n
 next:1<=s.m.next/\s.m.next<=2+4*n
theorem Fits.first:Fits 0 Rf.St.first:=⟨Rf.St.Ok.first,zE,zE,zE⟩
theorem Fits.mono{m:Nat}(h:Fits n s)(b:n<=m):Fits m s:=⟨h.ok,h.size,zW h.last b,zA h.next⟩
structure Bnd(s:Rf.St):Prop where
 lens:zb s.bs+zb s.bls<20000
 bs:s.bs.length<20000
 bls:s.bls.length<20000
 runs:s.m.runs.length<20000
 mem:s.mem.length<20000
 all:s.all.length<20000
 mrg:(Rf.merged s.bls).length<20000
 live:s.live.length<20000
theorem Qv(h:s.Ok):(∀ b∈s.bs,∀ c∈b,Rf.allowed c=true)/\∀ l∈s.bls,∀ c∈l,Rf.allowed c=true:=⟨λb d=>((Rf.yh b).1<|h.log b d).2.2,λl d=>(h.bl l d).allowed⟩
theorem Fits.bnd(h:Fits n s):Bnd s:=by
 have b:=h.size;rw[zm,j5,Rf.Jt] at b;obtain⟨c,a2⟩:=Qv h.ok;have q:=Y0 s.m.settled s.bls h.ok.len a2;have p:=Rf.M3 c;have o:=Rf.M3 a2;have l:=h.ok.len;have k:=Db s.m;have j:s.mem.length<=zb s.bs:=dd s.bs;have i:s.all.length<=zb (s.mem::s.bls):=dc _;have g:zb (s.mem::s.bls)=s.mem.length+zb s.bls:=by simp[zb]
 have f:(Rf.merged s.bls).length<=zb s.bls:=dc _;have d:s.live.length<=(Rf.merged s.bls).length:=ZK _ _;exact⟨zC,zC,zC,zC,zC,zC,zC,zC⟩
theorem jcr(h:s.Ok)(d:qe s.files<=6000):(s.m.qq s.last).bytes.length+(Rf.jr s.mem).length+qe s.files<=20000:=by have f:=d;rw[zm,j5,Rf.Jt] at f;have o:=j5<|s.m.qq s.last;have n:(s.m.qq s.last).runs.length=s.m.runs.length+1:=rfl;have k:=(Rf.Yl (l:=s.mem) λc c=>by obtain⟨b,i,g⟩:=Rf.ir c;grind [Qv]).1;have j:Rf.sg s.mem<=Rf.sgs s.bs:=Rf.Fc s.bs;omega
theorem Tn(h:s.Ok)(f:qe s.files<=6000):42+(Rf.jr s.live).length+qe s.files<=20000:=by have g:=f;rw[zm,j5,Rf.Jt] at g;have k:=Y0 s.m.settled s.bls h.len (Qv h).2;have j:=(Rf.Yl (l:=s.live) λc g=>by obtain⟨l,b,d⟩:=Rf.so (λl b=>(h.bl l b).rising)<|Rf.Ar _ c g;exact(h.bl l b).allowed c d).1;have i:Rf.sg s.live<=Rf.sg (Rf.merged s.bls):=Rf.Lj _;grind [Rf.E9]
theorem Fits.write(h:Fits n s){b:L1}(c:Rf.qv b=true)(d:qe s.files<=6000)(g:n<2000000):Fits (n+1) (s.write b):=by
 have i:=h.last;have f:=h.next;refine⟨h.ok.write c zC,?_,?_,by show 1<=s.m.next/\s.m.next<=_;omega⟩
 .rw[zm] at d ⊢;(have e:(Rf.ji s.m.last (s.bs++[b])).length=(Rf.ji s.m.last s.bs).length+(Rf.jn (s.last+1) b).length:=by rw[Rf.Jt,Rf.Jt];have j:=Rf.nk (s.last+1) b;grind [Rf.Kk,Rf.sg,Rf.sgs]);have k:=Rf.B8 c (s.last+1);show s.m.bytes.length+((Rf.ji s.m.last (s.bs++[b])).length+qe (j7 s.m.settled s.bls))<=20000;rw[e];omega
 show s.m.last+(s.bs++[b]).length<=n+1;grind [Rf.St.last]
theorem Fits.flush(h:Fits n s)(d:qe s.files<=6000)(i:n<2000000):Fits (n+1) s.flush:=by
 by_cases hb:s.bs=[];have e:s.flush=s:=by grind [Rf.St.flush]
 rw[e];exact h.mono zC
 ·(have e:s.flush=⟨s.m.qq s.last,[],s.mem::s.bls⟩:=by grind [Rf.St.flush]);have k:=h.last;have c:=h.next;have B:=h.bnd;have j:=B.mem;have g:=B.runs;have f:=jcr h.ok d;have b:=h.ok.flush zC zC c.1 zC;rw[e] at b ⊢;refine⟨b,?_,?_,?_⟩;rw[zm] at f ⊢;(have p:(Rf.ji s.last []).length=0:=by rw[Rf.Jt];simp[Rf.sgs]);(have o:(s.m.qq s.last).settled=s.m.next::s.m.settled:=by grind [Rf.Man.settled,Rf.Man.qq]);show(s.m.qq s.last).bytes.length+((Rf.ji s.last []).length+qe (j7 (s.m.qq s.last).settled (s.mem::s.bls)))<=20000;have l:j7 (s.m.next::s.m.settled) (s.mem::s.bls)=(jq s.m.next,Rf.jr s.mem)::j7 s.m.settled s.bls:=rfl;grind [Yk];(· show s.last+0<=n+1;omega);show 1<=s.m.next+2/\s.m.next+2<=_;omega
theorem Fits.j6(h:Fits n s)(c:qe s.files<=6000)(l:n<2000000):Fits (n+1) s.j6:=by
 have p:=h.last;have k:=h.next;have B:=h.bnd;have o:=B.live;have f:=Tn h.ok c;have b:=h.ok.j6 zC zC;rw[zm] at f;by_cases hr:s.m.runs=[];have e:s.j6=s:=by grind [Rf.St.j6]
 rw[e];exact h.mono zC;by_cases c:s.live=[];have e:s.j6=⟨s.m.bare,s.bs,[]⟩:=by grind [Rf.St.j6]
 rw[e] at b ⊢;refine⟨b,?_,by show s.last<=_;omega,by show 1<=s.m.next/\s.m.next<=_;omega⟩;rw[zm];have j:=j5 s.m.bare;have i:s.m.bare.runs.length=0:=rfl;have d:qe (j7 s.m.bare.settled [])=0:=by unfold j7;rw[List.zip_nil_right];rfl
 show s.m.bare.bytes.length+((Rf.ji s.m.last s.bs).length+qe (j7 s.m.bare.settled []))<=20000;omega;have e:s.j6=⟨s.m.yp,s.bs,[s.live]⟩:=by grind [Rf.St.j6]
 rw[e] at b ⊢;refine⟨b,?_,by show s.last<=_;omega,by show 1<=s.m.next+1/\s.m.next+1<=_;omega⟩;rw[zm];have j:=j5 s.m.yp;have i:s.m.yp.runs.length=0:=rfl;have d:s.m.yp.settled=[s.m.next]:=by grind [Rf.Man.settled,Rf.Man.yp]
 have g:qe (j7 [s.m.next] [s.live])=(Rf.jr s.live).length:=by simp[j7,qe]
 show s.m.yp.bytes.length+((Rf.ji s.m.last s.bs).length+qe (j7 s.m.yp.settled [s.live]))<=20000;rw[d,g];omega
