/-
-/
import Derived.Test.YtmjgfacoogdcdaaGreatDoorO38
set_option maxRecDepth 100000
set_option maxHeartbeats 8000000
set_option linter.all false
namespace Go.Proofs.YtmjgfacoogdcdaaGreatDoor
open RowKit Maps WideShapes Go.Proofs.Tryz
theorem quarter{i:Nat}(h:i<1000000000):wrap64 (wrap64 ((i:Int)/4)*4)=((i/4*4:Nat):Int):=by grind [wrap_small]
theorem ve{w:World}{wb:Nat}{sv:Value}{B C A:Nat}{K:Nat->Prop}(h:aj w wb sv B C A K)(hb:B<1000000000/\C<1000000000/\A<1000000000):Calls prog 25 #[aA wb] w λe w'=>e=.returned (.bool true)/\ja w w' No:=by
 obtain⟨pv,nv,tv,T,v⟩:=h;obtain⟨pp,pc,rfl⟩:=v.p.shape;obtain⟨ap,ac,rfl⟩:=v.n.shape;obtain⟨tp,tc,rfl⟩:=v.t.shape;have HP:=jb v.p;have HN:=jb v.n;have HT:=jb v.t;have E:=zK 1 v.row;have x:=zK 2 v.row;have D:=zK 3 v.row;simp at E x D;obtain⟨L,J,b3⟩:=hb;change Hid _ at L J b3;clear v;go_enter func25,ntmps25;go_wp2_with fail;go_loopw [3,4,5] (λt3 _ _ wr=>∃ i:Nat,t3 = aB i/\i<=B/\ja w wr No) (λt3 _ _ _=>B-(intOf t3).toNat);case atStart=>grind [ja.refl]
 case round=>obtain⟨i,rfl,am,Z⟩:=hrel;have q1:=Z.cell E id;obtain q|an:=zS i B;(· have a3:(i:Int)<(B:Int):=zC;have N:IntKind.i64.wrap ((i:Int)+1)=(i:Int)+1:=zQ (zA L.out) (zA L.out);obtain⟨g,u,rfl,j,b⟩:=HP.out.at q;obtain⟨up,c,uc,rfl⟩:=b.shape;have hu:=Z.cell j id;have o:wrap64 (wrap64 ((i:Int)/4)*4)=((i/4*4:Nat):Int):=quarter (zA L.out);(have HD:Hid (∀ W,Calls prog 40 #[aB (wrap64 (wrap64 ((i:Int)/4)*4))] W λe w'=>e=.returned (jc<|Rf.j8 (i/4*4))/\ja W w' No):=λW=>by rw[o];exact Qv _ (zA L.out) W);(have H:Hid (∀ k,k<c->∃ f,up=some (aC f)/\w.cell? ⟨f,k*2,none⟩=some (.string ⟨#[109,105,110,101]⟩)/\w.cell? ⟨f,k*2+1,none⟩=some (jc<|Rf.j8 (i/4*4))):=λk hk=>by obtain⟨f,e,z⟩:=b.at hk;exact⟨f,e,z 0 _ rfl,z 1 _ rfl⟩);generalize Rf.j8 (i/4*4)=DB at HD H;have s:Hid (c<=9223372036854775807):=jb (by have:=b.max;unfold maxLen at this;omega);change Hid _ at j;clear b o;go_wp2_with fail;refine(HD.out _).mono ?_;rintro e w2 ⟨rfl,k2⟩;have m:=Z.tt k2;clear q1 hu;go_wp2_with fail;go_loopw [5] (λt5 wr=>∃ k:Nat,t5 = aB k/\k<=c/\ja w wr No) (λt5 _=>c-(intOf t5).toNat);(case atStart=>exact⟨0,rfl,ZC _,m⟩);case round=>obtain⟨k,rfl,R,d⟩:=hrel;have q1:=d.cell E id;have hu:=d.cell j.out id;obtain l|Y:=zS k c;(· have r:(k:Int)<(c:Int):=zC;have M:IntKind.i64.wrap ((k:Int)+1)=(k:Int)+1:=zQ zC (zA s.out);obtain⟨f,rfl,y,G⟩:=H.out k l;have y0:=d.cell y id;have y1:=d.cell G id;clear y G;go_wp2;exact⟨⟨k+1,zD,zC,d⟩,by simp[intOf];omega⟩);· have r:¬(k:Int)<(c:Int):=zC;go_wp2;exact⟨⟨i+1,zD,zC,d⟩,by simp[intOf];omega⟩);· have a3:¬(i:Int)<(B:Int):=zC;go_wp2_with fail;clear q1;go_loopw [6,7] (λt6 _ wr=>∃ i:Nat,t6 = aB i/\i<=C/\ja w wr No) (λt6 _ _=>C-(intOf t6).toNat);(case atStart=>exact⟨0,rfl,ZC _,Z⟩);case round=>obtain⟨i2,rfl,ab,m⟩:=hrel;have I:=m.cell x id;obtain q|Y:=zS i2 C;(· have U:(i2:Int)<(C:Int):=zC;have N:IntKind.i64.wrap ((i2:Int)+1)=(i2:Int)+1:=zQ (zA J.out) (zA J.out);obtain⟨g,u,rfl,j,b⟩:=HN.out.at q;obtain⟨up,c,uc,rfl⟩:=b.shape;have o:=quarter (i:=i2) (zA J.out);(have O:wrap64 (-1-((i2/4*4:Nat):Int)) = -1-((i2/4*4:Nat):Int):=by have:=J.out;unfold wrap64;omega);(have H:Hid (∀ k,k<c->∃ f X,up=some (aC f)/\w.cell? (B3 f k)=some (aB X)/\(X != wrap64 (-1-wrap64 (wrap64 ((i2:Int)/4)*4)))=false):=λk hk=>by obtain⟨f,e,z⟩:=b.at hk;refine⟨f,-1-((i2/4*4:Nat):Int),e,?_,by rw[o,O];simp⟩;have:=z 0 _ rfl;simpa [fN] using this);have s:Hid (c<=9223372036854775807):=jb (by have:=b.max;unfold maxLen at this;omega);change Hid _ at j;clear b o O;clear I;have I:=m.cell x id;go_wp2_with fail;clear I;go_loopw [7] (λt7 wr=>∃ k:Nat,t7 = aB k/\k<=c/\ja w wr No) (λt7 _=>c-(intOf t7).toNat);(case atStart=>exact⟨0,rfl,ZC _,m⟩);case round=>obtain⟨k,rfl,R,d⟩:=hrel;have I:=d.cell x id;have hu:=d.cell j.out id;obtain l|V:=zS k c;(· have r:(k:Int)<(c:Int):=zC;have M:IntKind.i64.wrap ((k:Int)+1)=(k:Int)+1:=zQ zC (zA s.out);obtain⟨f,X,rfl,y,G⟩:=H.out k l;have y0:=d.cell y id;clear y;go_wp2;exact⟨⟨k+1,zD,zC,d⟩,by simp[intOf];omega⟩);· have r:¬(k:Int)<(c:Int):=zC;go_wp2;exact⟨⟨i2+1,zD,zC,d⟩,by simp[intOf];omega⟩);· have U:¬(i2:Int)<(C:Int):=zC;go_wp2_with fail;clear I;go_loopw [8,9,10] (λt8 _ _ wr=>∃ i:Nat,t8 = aB i/\i<=A/\ja w wr No) (λt8 _ _ _=>A-(intOf t8).toNat);(case atStart=>exact⟨0,rfl,ZC _,m⟩);case round=>obtain⟨i3,rfl,aa,F⟩:=hrel;have q3:=F.cell D id;obtain q|V:=zS i3 A;(· have S:(i3:Int)<(A:Int):=zC;have N:IntKind.i64.wrap ((i3:Int)+1)=(i3:Int)+1:=zQ (zA b3.out) (zA b3.out);obtain⟨g,u,rfl,j,b⟩:=HT.out.at q;obtain⟨up,c,uc,rfl⟩:=b.shape;(have H:Hid (∀ k,k<c->∃ f,up=some (aC f)/\w.cell? ⟨f,k*3,none⟩=some (.string ⟨#[116,117,114,110,101,100]⟩)/\w.cell? ⟨f,k*3+1,none⟩=some (.string ⟨#[111,118,101,114]⟩)/\w.cell? ⟨f,k*3+2,none⟩=some (.bool false)):=λk hk=>by obtain⟨f,e,z⟩:=b.at hk;exact⟨f,e,z 0 _ rfl,z 1 _ rfl,z 2 _ rfl⟩);have s:Hid (c<=9223372036854775807):=jb (by have:=b.max;unfold maxLen at this;omega);change Hid _ at j;clear b;go_wp2_with fail;clear q3;go_loopw [9,10] (λt9 _ wr=>∃ k:Nat,t9 = aB k/\k<=c/\ja w wr No) (λt9 _ _=>c-(intOf t9).toNat);(case atStart=>exact⟨0,rfl,ZC _,F⟩);case round=>obtain⟨k,rfl,R,d⟩:=hrel;have q3:=d.cell D id;have hu:=d.cell j.out id;obtain l|ad:=zS k c;(· have r:(k:Int)<(c:Int):=zC;have M:IntKind.i64.wrap ((k:Int)+1)=(k:Int)+1:=zQ zC (zA s.out);obtain⟨f,rfl,y,G,x2⟩:=H.out k l;have y0:=d.cell y id;have y1:=d.cell G id;have y2:=d.cell x2 id;clear y G x2;go_wp2;exact⟨⟨k+1,zD,zC,d.more _⟩,by simp[intOf];omega⟩);· have r:¬(k:Int)<(c:Int):=zC;go_wp2;exact⟨⟨i3+1,zD,zC,d⟩,by simp[intOf];omega⟩);· have S:¬(i3:Int)<(A:Int):=zC;go_wp2;go_ret;exact⟨rfl,F⟩
section
theorem Ed{P:Program}(w:World)(base:Nat)(t A e:TypeId)(i:TypeInfo)(z:Value)(size bytes:Nat)(C:P.underlying t=some (.slice e))(hi:P.info? e=some i)(L:i.zero=some z)(o:i.size=size)(s:i.bytes=bytes)(F:z.cells.size=size)(G:0<size)(v:Value)(n:Nat)(xs:List Value)(f:w.ownsRow base e size v n xs)(a:Addr)(m c:Nat)(b:List Value)(B:b.length=m*size)(d:∀ j u,b[j]?=some u->w.cell? (a.add j)=some u)(N:∀ u∈b,u.oneCell'=true)(I:n+m<=maxLen)(l:(n+m)*bytes<=140737488355328)(q:base<=w.heap.size):∃ v' w',(Builtin.append_ #[t,t] A #[v,.slice (some a) m c]).run P w=.ok v' w'/\w'.ownsRow base e size v' (n+m) (xs++b)/\w.grownBy w' v.ownBlock/\(v'.ownBlock=v.ownBlock\/(v'.ownBlock=some w.heap.size/\w.grownBy w' none)):=by
 obtain⟨v',w',D,S,M,W,r⟩:=run_append_own_at (P:=P) w base t A e i z size bytes C hi L o s F G v n xs f a m c b B d N I l q;refine⟨v',w',D,S,M,?_⟩;subst o;subst s;obtain⟨rfl,rfl⟩|⟨g,cap,x,rfl,V,R,T,U,H,J⟩:=f.2;obtain r|r:=r;exact .inl r;exact .inr ⟨r,M⟩;by_cases hroom:n+m<=cap;have y:n*i.size+b.length<=x.size:=by rw[B,H,<-Nat.add_mul];exact Nat.mul_le_mul_right _ hroom
 have E:=D.symm.trans<|run_append_room (P:=P) w t A e i C hi g n cap x R a m c b B d N hroom y;injection E with e1 e2;exact .inl (by rw[e1];rfl);have p:∀ j u,xs[j]?=some u->w.cell? (((aC g):Addr).add j)=some u:=f.cells (g:=g) rfl;have O:n+m<=9223372036854775807:=by grind [maxLen]
 have E:=D.symm.trans<|run_append_grow (P:=P) w t A e i z C hi L (aC g) n cap xs f.1 p a m c b B d zC zC<|growslice_fits zC l;injection E with e1 e2;subst e2;exact .inr ⟨by rw[e1];rfl,⟨rfl,rfl,rfl,zD,λk hk _=>heap_alloc_old w.drew _ hk⟩⟩
theorem eu{P:Program}(w:World){f:Array Oper}{rest:List Oper}{o:Oper}{a:Act}{Q:Exit->Act->World->Prop}(g:o.guard=none)(s x:Operand)(t:TypeId)(q:o.op=.call { callee:=.builtin .append,args:=#[s,x],argTypes:=#[t,t] })(base:Nat)(e:TypeId)(i:TypeInfo)(z:Value)(size bytes:Nat)(ht:P.underlying t=some (.slice e))(hi:P.info? e=some i)(hz:i.zero=some z)(hsize:i.size=size)(hby:i.bytes=bytes)(hzs:z.cells.size=size)(hsz:0<size)(v:Value)(n:Nat)(xs:List Value)(hs:a.eval s=v)(hown:w.ownsRow base e size v n xs)(ad:Addr)(m c:Nat)(news:List Value)(hx:a.eval x=.slice (some ad) m c)(hl:news.length=m*size)(hnews:∀ j u,news[j]?=some u->w.cell? (ad.add j)=some u)(h1:∀ u∈news,u.oneCell'=true)(h63:n+m<=maxLen)(hbytes:(n+m)*bytes<=140737488355328)(hbase:base<=w.heap.size)(hK:∀(p:Option Addr) (d:Nat) (b:World),b.ownsRow base e size (.slice p (n+m) d) (n+m) (xs++news)->w.grownBy b v.ownBlock->((Value.slice p (n+m) d).ownBlock=v.ownBlock\/((Value.slice p (n+m) d).ownBlock=some w.heap.size/\w.grownBy b none))->wpList P f Q rest (a.put o.dst (.slice p (n+m) d)) b):wpList P f Q (o::rest) a w:=by
 refine wpList_plain g λK hK'=>?_
 obtain⟨v',b,l,k,y,r⟩:=Ed (P:=P) w base t o.type e i z size bytes ht hi hz hsize hby hzs hsz v n xs hown ad m c news hl hnews h1 h63 hbytes hbase;obtain⟨p,d,rfl⟩:=ji k;unfold Oper.wp execOp;simp only[q,resolve,invoke,builtin,Sem.run_bind,Sem.run_pure,Result.andThen_ok,List.map_toArray,xO,List.map_nil,hs,hx,l];exact hK' _ _<|hK p d b k y r
structure Gr(W:World)(es e:TypeId)(c:List Value)(f:Nat->List Value)(pv lv:Value)(n m:Nat)(us:List Value)(T:Nat->Prop):Prop where
 row:W.ownsRow 0 es 1 pv n us
 el:∀ i,i<n->∃ u,us[i]?=some u/\Cst W (f i) u/\(∀ g,u.ownBlock=some g->T g)/\∀ g,lv.ownBlock=some g->u.ownBlock=some g->f i=c/\∃ n' cap',u=.slice (some ⟨g,0,none⟩) n' cap'/\n'<=m
 l:W.ownsRow 0 e c.length lv m (cst m c)
 lT:∀ g,lv.ownBlock=some g->T g
 nT:∀ g,pv.ownBlock=some g->¬T g
 lt:∀ g,T g->g<W.heap.size
section
variable {W W':World} {es e:TypeId} {c:List Value} {f:Nat->List Value} {pv lv:Value} {n m:Nat} {us:List Value} {T:Nat->Prop}
theorem Nj{base d:Nat}{v:Value}{xs:List Value}(h:W.ownsRow base e d v m xs){g:Nat}(b:v.ownBlock=some g):∃ cap,v=.slice (some (aC g)) m cap:=by obtain⟨rfl,_⟩|⟨i,c,f,rfl,_⟩:=h.2;cases b;cases b;exact⟨_,rfl⟩
theorem Gr.push{b:Value}(h:Gr W es e c f pv lv n m us T){U:Nat->Prop}(k:ja W W' U)(j:∀ i,U i->¬T i)(r:W'.ownsRow 0 es 1 b (n+1) (us++[lv]))(q:∀ g,b.ownBlock=some g->pv.ownBlock=some g\/W.heap.size<=g)(s:f n=c):Gr W' es e c f b lv (n+1) m (us++[lv]) T:=by
 have z:us.length=n:=zA h.row.1;have o:=k.row h.l λg e t=>j g t<|h.lT g e
 refine⟨r,λi hi=>?_,o,h.lT,λg e t=>?_,λg t=>zU (h.lt g t) k.size⟩;obtain d|y:=zS i n;obtain⟨u,A,v,p,x⟩:=h.el i d;exact⟨u,zG,v.keep k λg hg t=>j g t<|p g hg,p,x⟩;have e:i=n:=zC;subst e;refine⟨lv,zG,?_,h.lT,λg hg _=>?_⟩;rw[s];exact jba o;grind [Nj];obtain e|e:=q g e;exact h.nT g e t;have:=h.lt g t;omega
theorem Gr.grow{b:Value}(h:Gr W es e c f pv lv n m us T)(l:W'.ownsRow 0 e c.length b (m+1) (cst m c++c))(o:ja W W' (λj=>lv.ownBlock=some j))(d:b.ownBlock=lv.ownBlock\/((∀ g,b.ownBlock=some g->W.heap.size<=g)/\ja W W' No)):Gr W' es e c f pv b n (m+1) us (λg=>T g\/b.ownBlock=some g):=by
 rw[<-vo] at l;refine⟨o.row h.row λg k e2=>h.nT g k<|h.lT g e2,λi hi=>?_,l,λg e=>.inr e,λg k t=>?_,λg t=>?_⟩;obtain⟨u,k,p,q,s⟩:=h.el i hi;obtain d|⟨d,r⟩:=d;refine⟨u,k,?_,λg hg=>.inl<|q g hg,λg hg hu=>?_⟩;by_cases hx:∃ g,lv.ownBlock=some g/\u.ownBlock=some g;grind [Nj,jhn];exact p.keep o λg hg t=>hx ⟨g,t,hg⟩
 grind;refine⟨u,k,p.keep r λ_ _ t=>t,λg hg=>.inl<|q g hg,λg hg hu=>?_⟩;have:=d g hg;have:=p.old hu;omega;obtain t|t:=t;exact h.nT g k t;obtain d|⟨d,_⟩:=d;exact h.nT g k<|h.lT g (d▸t);have q:=d g t;have s:=(h.row.lt g k).2;omega;obtain t|t:=t;exact zU (h.lt g t) o.size;exact(l.lt g t).2
theorem Gr.cl(h:Gr W es e c f pv lv n m us T):CL W es pv f n T:=by refine⟨us,h.row,λi hi=>?_⟩;obtain⟨u,j,d,b,k⟩:=h.el i hi;exact⟨u,j,d,λg hg=>⟨b g hg,λe=>h.nT g e<|b g hg⟩⟩
theorem CL.gr{v lv:Value}{T':Nat->Prop}(h:CL W es v f n T)(l:W.ownsRow 0 e c.length lv m (cst m c))(p:∀ g,T g->T' g)(j:∀ g,lv.ownBlock=some g->T' g/\¬T g)(b:∀ g,v.ownBlock=some g->¬T' g)(d:∀ g,T' g->g<W.heap.size):∃ us,Gr W es e c f v lv n m us T':=by obtain⟨us,k,o⟩:=h;refine⟨us,k,λi hi=>?_,l,λg e=>(j g e).1,b,d⟩;grind
end
end
section
section
variable {w:World} {b:Nat} {t:TypeId} {dv nx la lo ba ru last mv:Value} {deg:Bool}
theorem Vt(d:w.heap[b]?=some (.cells (j6 dv nx la lo ba ru last mv deg true) t (0,0)))(i:Value):Calls prog 13 #[aA b,i] w λe w'=>e=.returned (aB 3)/\w'=w:=by have f:=jb<|Jj d;have c:Xd deg true=3:=rfl;rw[c] at f;clear d c;go_enter func13,ntmps13;go_wp2_with fail;refine f.out.mono ?_;rintro e j ⟨rfl,g⟩;subst g;go_wp2;go_ret;exact⟨rfl,rfl⟩
theorem jcs(d:w.heap[b]?=some (.cells (j6 dv nx la lo ba ru last mv deg true) t (0,0))):Calls prog 51 #[aA b] w λe w'=>e=.returned (aB 3)/\w'=w:=by have f:=jb<|Jj d;have c:Xd deg true=3:=rfl;rw[c] at f;clear d c;go_enter func51,ntmps51;go_wp2_with fail;refine f.out.mono ?_;rintro e i ⟨rfl,g⟩;subst g;go_wp2;go_ret;exact⟨rfl,rfl⟩
theorem ja0(d:w.heap[b]?=some (.cells (j6 dv nx la lo ba ru last mv deg true) t (0,0))):Calls prog 55 #[aA b] w λe w'=>e=.returned (aB 3)/\w'=w:=by have f:=jb<|Jj d;have c:Xd deg true=3:=rfl;rw[c] at f;clear d c;go_enter func55,ntmps55;go_wp2_with fail;refine f.out.mono ?_;rintro e i ⟨rfl,g⟩;subst g;go_wp2;go_ret;exact⟨rfl,rfl⟩
theorem Rm(d:w.heap[b]?=some (.cells (j6 dv nx la lo ba ru last mv deg true) t (0,0))):Calls prog 57 #[aA b] w λe w'=>e=.returned (aB 3)/\w'=w:=by have f:=jb<|Jj d;have c:Xd deg true=3:=rfl;rw[c] at f;clear d c;go_enter func57,ntmps57;go_wp2_with fail;refine f.out.mono ?_;rintro e i ⟨rfl,g⟩;subst g;go_wp2;go_ret;exact⟨rfl,rfl⟩
end
end
end Go.Proofs.YtmjgfacoogdcdaaGreatDoor
namespace Go.Proofs.YtmjgfacoogdcdaaGreatDoor.Rf
open Go.Proofs.Tryz
variable {l:List Ch}
def sg(l:List Ch):Nat:=(l.flatMap entry).length
theorem Cn(c:Ch)(l:List Ch):sg (c::l)=(entry c).length+sg l:=by simp[sg]
theorem Nc(a b:List Ch):sg (a++b)=sg a+sg b:=by simp[sg]
theorem jks(c:Ch)(l:List Ch):sg (ins c l)<=(entry c).length+sg l:=by induction l with|nil=>simp[ins,sg]|cons x r ih=>grind [ins,Cn]
theorem jby(h:j3 l)(b:List Ch):sg (over l b)<=sg l+sg b:=by induction b generalizing l with|nil=>exact Nat.le_add_right _ _|cons c r ih=>have d:over l (c::r)=over (put l c) r:=rfl;grind [rk,Cn,ar,jks]
def sgs(bs:List (List Ch)):Nat:=(bs.map sg).sum
theorem Cm(b:List Ch)(bs:List (List Ch)):sgs (b::bs)=sg b+sgs bs:=by simp[sgs]
theorem je8(h:j3 l)(bs:List (List Ch)):sg (bs.foldl over l)<=sg l+sgs bs:=by induction bs generalizing l with|nil=>exact Nat.le_add_right _ _|cons b r ih=>grind [Cm,Qw,jby]
theorem jc0(bs:List (List Ch)):sg (memory bs)<=sgs bs:=by have:=je8 (l:=[]) List.Pairwise.nil bs;simpa [memory,sg] using this
theorem jcz(ls:List (List Ch)):sg (merged ls)<=sgs ls:=by induction ls with|nil=>exact zR _|cons l r ih=>grind [Zl,Cm,jby,zh]
theorem je7(l:List Ch):sg (there l)<=sg l:=by induction l with|nil=>exact zR _|cons c r ih=>grind [there,Cn]
theorem N0(c:Ch):c.key.length+2<=(entry c).length:=by grind [entry,text,jk]
theorem Gm{c:Ch}(h:allowed c=true):1<=c.key.length/\c.key.length<=16:=by grind [allowed]
theorem Ib(h:∀ c∈l,allowed c=true):3*l.length<=sg l:=by induction l with|nil=>exact zR _|cons c r ih=>grind [N0,Gm,Cn]
theorem Mm(h:∀ c∈l,allowed c=true)(m:Nat)(f:4*m<=l.length):(yh l m).length+6*m<=sg (l.take (4*m)):=by induction m with|zero=>simp[yh,jy]|succ m ih=>have j:=ih zC;rw[Yy l m zC];have e:l.take (4*(m+1))=l.take (4*m)++(l.drop (4*m)).take 4:=zF;rw[e,Nc];have d:((l.drop (4*m)).take 4).length=4:=zF;(have b:∀ c∈(l.drop (4*m)).take 4,allowed c=true:=λc hc=>h c<|ZZ<|XP hc);generalize hB:(l.drop (4*m)).take 4=B at d b ⊢;match B,d with|c::r,d=>(have i:=Ib (l:=r) λx hx=>b x<|xJ _ hx);have g:=N0 c;rw[zZ] at d;rw[Cn];show((yh l m++big (qj l m).length 4)++text c.key).length+6*(m+1)<=_;grind [text,jk]
theorem jip(l:List Ch)(n:Nat):sg (l.take n)<=sg l:=by grind [Nc,ZY]
theorem da(h:∀ c∈l,allowed c=true):4*(jn l).length<=9*sg l+176/\sg l<=(jn l).length:=by
 rw[kn];have b:=M3 l ((l.length+3)/4) zC;rw[zY zC] at b;have k:(l.flatMap entry).length=sg l:=rfl;have j:=Ib h;have i:(yh l ((l.length+3)/4)).length<=sg l+21-6*(l.length/4)/\6*(l.length/4)<=sg l/\((l.length+3)/4=l.length/4->(yh l ((l.length+3)/4)).length<=sg l-6*(l.length/4)):=by have g:=Mm h (l.length/4) zC;have f:=jip l (4*(l.length/4));refine⟨?_,zC,λe=>by rw[e];omega⟩;by_cases hc:4*(l.length/4)<l.length;have e:(l.length+3)/4=l.length/4+1:=zC;rw[e,Yy l _ hc];(have d:(yw<|(l.drop (4*(l.length/4))).take 4).length<=16:=by grind [Zz,xD,Gm]);grind [text,jk];grind
 grind [jk,frame]
theorem Xh(last:Nat)(bs:List (List Ch)):(jm last bs).length=sgs bs+17*bs.length:=by induction bs generalizing last with|nil=>simp[jm,sgs]|cons b r ih=>(have e:jm last (b::r)=jx (last+1) b++jm (last+1) r:=by simp[jm,jx]);have d:=ih (last+1);have c:=my (last+1) b;grind [Hg,sg,Cm]
theorem mw{b:List Ch}(h:qm b=true)(n:Nat):(jx n b).length<=489:=by grind [yj,Jy,my,Hg]
theorem Kl{ls:List (List Ch)}(h:∀ l∈ls,∀ c∈l,allowed c=true):3*yz ls<=sgs ls:=by induction ls with|nil=>simp[yz,sgs]|cons l r ih=>grind [Ib,yz,Cm]
end Go.Proofs.YtmjgfacoogdcdaaGreatDoor.Rf
namespace Go.Proofs.YtmjgfacoogdcdaaGreatDoor
section
open Go.Proofs.Tryz
variable {n:Nat} {s:Rf.St}
theorem l8:∀(ns:List Nat) (ls:List aD),ls.length=ns.length->(∀ l∈ls,∀ c∈l,Rf.allowed c=true)->Rf.sgs ls<=j2 (j4 ns ls)
 | [],[],_,_=>by grind [Rf.sgs]
 | n::r,l::q,hl,h=>by
  have h1:=l8 r q (by simpa using hl) (λx hx=>h x (xJ _ hx))
  have b:=(Rf.da (h l xW)).2
  have e:j4 (n::r) (l::q)=(jq n,Rf.jn l)::j4 r q:=rfl
  grind [Jq,Rf.sgs]
theorem Qi(s:Rf.St):j2 s.files=s.m.bytes.length+((Rf.jm s.m.last s.bs).length+j2 (j4 s.m.settled s.bls)):=by grind [Rf.St.files,Jq]
structure Fits(n:Nat)(s:Rf.St):Prop where
 ok:s.Ok
 size:j2 s.files<=20000
theorem Fits.first:Fits 0 Rf.St.first:=⟨Rf.St.Ok.first,zE⟩
theorem Fits.mono{m:Nat}(h:Fits n s)(b:n<=m):Fits m s:=⟨h.ok,h.size⟩
theorem Fits.next(h:Fits n s):1<=s.m.next/\s.m.next<=2000000000:=by have c:=h.ok.yp.2.2.1 s.m.log<|zV.2<|.inr<|zW.2 rfl;have b:=h.ok.yp.1;omega
theorem Dy:∀ {U V:List (Str×By)},Qy U->(∀ p∈U,p∈V)->j2 U<=j2 V
 | [],V,_,_=>by simp[j2]
 | p::U,V,hU,h=>by
  obtain⟨h1,h2⟩:=xP.1 hU
  obtain⟨a,b,e⟩:=List.append_of_mem (h p xW)
  have d:=Dy (V:=a++b) h2 (λq hq=>by
   have c:=h q (xJ _ hq)
   rw[e] at c
   rcases zV.1 c with c|c
   .exact zV.2 (.inl c)
   .rcases xB.1 c with c|c
    .exact(h1 q hq (by rw[c])).elim
    .exact zV.2 (.inr c))
  rw[e,Jq]
  simp only[j2,XC,List.sum_append,xO,List.sum_cons] at d ⊢
  omega
structure Bnd(s:Rf.St):Prop where
 lens:yz s.bs+yz s.bls<20000
 bs:s.bs.length<20000
 bls:s.bls.length<20000
 runs:s.m.runs.length<20000
 mem:s.mem.length<20000
 all:s.all.length<20000
 mrg:(Rf.merged s.bls).length<20000
 live:s.live.length<20000
theorem ir(h:s.Ok):(∀ b∈s.bs,∀ c∈b,Rf.allowed c=true)/\∀ l∈s.bls,∀ c∈l,Rf.allowed c=true:=⟨λb hb=>((Rf.yj b).1<|h.log b hb).2.2,λl hl=>(h.bl l hl).allowed⟩
theorem Fits.bnd(h:Fits n s):Bnd s:=by
 have b:=h.size;rw[Qi,qq,Rf.Xh] at b;obtain⟨c,a2⟩:=ir h.ok;have q:=l8 s.m.settled s.bls h.ok.len a2;have p:=Rf.Kl c;have o:=Rf.Kl a2;have l:=h.ok.len;have k:=Co s.m;have j:s.mem.length<=yz s.bs:=bh s.bs;have i:s.all.length<=yz (s.mem::s.bls):=bd _;have g:yz (s.mem::s.bls)=s.mem.length+yz s.bls:=by simp[yz]
 have f:(Rf.merged s.bls).length<=yz s.bls:=bd _;have d:s.live.length<=(Rf.merged s.bls).length:=ZI _ _;exact⟨zC,zC,zC,zC,zC,zC,zC,zC⟩
theorem Ip(h:s.Ok)(d:j2 s.files<=6000):(s.m.qt s.last).bytes.length+(Rf.jn s.mem).length+j2 s.files<=20000:=by have f:=d;rw[Qi,qq,Rf.Xh] at f;have o:=qq<|s.m.qt s.last;have n:(s.m.qt s.last).runs.length=s.m.runs.length+1:=rfl;have k:=(Rf.da (l:=s.mem) λc hc=>by obtain⟨b,i,g⟩:=Rf.Bn hc;grind [ir]).1;have j:Rf.sg s.mem<=Rf.sgs s.bs:=Rf.jc0 s.bs;omega
theorem Cq(h:s.Ok)(f:j2 s.files<=6000):42+(Rf.jn s.live).length+j2 s.files<=20000:=by have g:=f;rw[Qi,qq,Rf.Xh] at g;have k:=l8 s.m.settled s.bls h.len (ir h).2;have j:=(Rf.da (l:=s.live) λc hc=>by obtain⟨l,b,d⟩:=Rf.Kg (λl b=>(h.bl l b).rising)<|Rf.M8 _ c hc;exact(h.bl l b).allowed c d).1;have i:Rf.sg s.live<=Rf.sg (Rf.merged s.bls):=Rf.je7 _;grind [Rf.jcz]
theorem Fits.write(h:Fits n s){b:aD}(c:Rf.qm b=true)(d:j2 s.files<=6000)(f:s.last<1000000000):Fits (n+1) (s.write b):=by
 refine⟨h.ok.write c<|by omega,?_⟩;rw[Qi] at d ⊢;have e:(Rf.jm s.m.last (s.bs++[b])).length=(Rf.jm s.m.last s.bs).length+(Rf.jx (s.last+1) b).length:=by rw[Rf.Xh,Rf.Xh];have g:=Rf.my (s.last+1) b;grind [Rf.Hg,Rf.sg,Rf.sgs]
 have i:=Rf.mw c (s.last+1);show s.m.bytes.length+((Rf.jm s.m.last (s.bs++[b])).length+j2 (j4 s.m.settled s.bls))<=20000;rw[e];omega
theorem Fits.flush(h:Fits n s)(d:j2 s.files<=6000)(f:s.m.next+2<=2000000000\/s.bs=[]):Fits (n+1) s.flush:=by
 by_cases hb:s.bs=[];have e:s.flush=s:=by grind [Rf.St.flush]
 rw[e];exact h.mono zC;have e:s.flush=⟨s.m.qt s.last,[],s.mem::s.bls⟩:=by grind [Rf.St.flush]
 have c:=h.next;have B:=h.bnd;have k:=B.mem;have j:=B.runs;have g:=Ip h.ok d;have i:s.m.next+2<=2000000000:=f.resolve_right hb;have b:=h.ok.cap;have ok:=h.ok.flush zC zC c.1 zC;rw[e] at ok ⊢;refine⟨ok,?_⟩;rw[Qi] at g ⊢;have p:(Rf.jm s.last []).length=0:=by rw[Rf.Xh];simp[Rf.sgs]
 have o:(s.m.qt s.last).settled=s.m.next::s.m.settled:=by grind [Rf.Man.settled,Rf.Man.qt]
 show(s.m.qt s.last).bytes.length+((Rf.jm s.last []).length+j2 (j4 (s.m.qt s.last).settled (s.mem::s.bls)))<=20000;have l:j4 (s.m.next::s.m.settled) (s.mem::s.bls)=(jq s.m.next,Rf.jn s.mem)::j4 s.m.settled s.bls:=rfl;grind [Jq]
theorem Fits.xw(h:Fits n s)(b:j2 s.files<=6000)(f:s.m.next+1<=2000000000\/s.live=[]\/s.m.runs=[]):Fits (n+1) s.xw:=by
 have o:=h.next;have B:=h.bnd;have c:=B.live;have g:=Cq h.ok b;rw[Qi] at g;by_cases hr:s.m.runs=[];have e:s.xw=s:=by grind [Rf.St.xw]
 rw[e];exact h.mono zC;by_cases b:s.live=[];have e:s.xw=⟨s.m.bare,s.bs,[]⟩:=by grind [Rf.St.xw]
 have ok:(⟨s.m.bare,s.bs,[]⟩:Rf.St).Ok:=⟨h.ok.yp.bare,ZF _,by grind [Rf.Man.Z8],λl c=>(by cases c),h.ok.log,h.ok.cap⟩;rw[e];refine⟨ok,?_⟩;rw[Qi];have k:=qq s.m.bare;have j:s.m.bare.runs.length=0:=rfl;have d:j2 (j4 s.m.bare.settled [])=0:=by unfold j4;rw[List.zip_nil_right];rfl
 show s.m.bare.bytes.length+((Rf.jm s.m.last s.bs).length+j2 (j4 s.m.bare.settled []))<=20000;omega;have ok:=h.ok.xw zC<|f.resolve_right λt=>t.elim b hr
 have e:s.xw=⟨s.m.yt,s.bs,[s.live]⟩:=by grind [Rf.St.xw]
 rw[e] at ok ⊢;refine⟨ok,?_⟩;rw[Qi];have k:=qq s.m.yt;have j:s.m.yt.runs.length=0:=rfl;have d:s.m.yt.settled=[s.m.next]:=by grind [Rf.Man.settled,Rf.Man.yt]
 have i:j2 (j4 [s.m.next] [s.live])=(Rf.jn s.live).length:=by simp[j4,j2]
 show s.m.yt.bytes.length+((Rf.jm s.m.last s.bs).length+j2 (j4 s.m.yt.settled [s.live]))<=20000;rw[d,i];omega
end
section
open RowKit Maps WideShapes Go.Proofs.Tryz
theorem Rf.Gi:∀ {bl:List aD},(∀ b∈bl,1<=b.length/\b.length<=4)->(∀(i:Nat) (b:aD),i+1<bl.length->bl[i]?=some b->b.length=4)->Rf.chunks bl.flatten=bl
 | [],_,_=>(Rf.Bx).2 rfl
 | [b],h,_=>by
  have h1:=h b xW
  have d:[b].flatten≠[]:=λe=>by simp at e;rw[e] at h1;simp at h1
  have f:[b].flatten=b:=by simp
  rw[Rf.lq d,f,zY h1.2,xG h1.2,(Rf.Bx).2 rfl]
 | b::c::r,h,hf=>by
  have h1:b.length=4:=hf 0 b (by simp) rfl
  have ih:=Rf.Gi (bl:=c::r) (λx hx=>h x (xJ _ hx)) (λi x hi hx=>hf (i+1) x (by simpa using hi) (by simpa using hx))
  have d:(b::c::r).flatten≠[]:=λe=>by
   rw[List.flatten_cons] at e
   have:=(List.append_eq_nil_iff.1 e).1
   rw[this] at h1
   cases h1
  rw[Rf.lq d,List.flatten_cons,List.take_left' h1,List.drop_left' h1,ih]
theorem Rf.Laid.jlu{bl:List aD}(h:Rf.Laid bl)(i:(Rf.Qa bl).length<100000):Rf.zm bl.flatten/\Rf.Qa bl=Rf.jn bl.flatten:=by
 have e:Rf.Qa bl=Rf.jn bl.flatten:=by unfold Rf.jn;rw[Rf.Gi h.len h.full]
 have d:∀ c∈bl.flatten,Rf.allowed c=true:=λc hc=>by obtain⟨b,j,g⟩:=List.mem_flatten.1 hc;exact h.ok b j c g
 refine⟨⟨h.rising,λe0=>?_,d,?_⟩,e⟩;cases bl with|nil=>exact h.ne rfl|cons b r=>have f:=h.len b xW;rw[List.flatten_cons] at e0;rw[(List.append_eq_nil_iff.1 e0).1] at f;simp at f
 have f:=Rf.Ib d;have k:=(Rf.da d).2;rw[e] at i;omega
theorem N9{b:By}{F:Nat}{ps:List (Nat×Str)}{key:Str}:∀ f i,((Zn b F ps key f i).2=none\/(Zn b F ps key f i).2=some false)/\((Zn b F ps key f i).2=none->∀ j,i<=j->j<i+f->∃ es,Rf.J8 b F ps j=some es)
 | 0,i=>⟨.inl rfl,λ_ j h1 h2=>by omega⟩
 | f+1,i=>by
  obtain⟨h1,h2⟩:=N9 (b:=b) (F:=F) (ps:=ps) (key:=key) f (i+1)
  unfold Zn
  cases hb:Rf.J8 b F ps i with
  | none=>exact⟨.inr rfl,λe=>by cases e⟩
  | some es =>
   refine⟨h1,λe j hj1 hj2=>?_⟩
   rcases(by omega:j=i\/i+1<=j)with rfl|c
   .exact⟨es,hb⟩
   .exact h2 e j c (by omega)
theorem jir{S:jg}{d:Option By}(g:S.bad=false)(o:∀ b,d=some b->b.length<100000):((nk S d []).2=none/\∃ es,Rf.zm es/\d=some (Rf.jn es))\/((nk S d []).2=some false/\∀ es,Rf.zm es->d≠some (Rf.jn es)):=by by_cases hg:∃ es,Rf.zm es/\d=some (Rf.jn es);obtain⟨es,c,f⟩:=hg;refine .inl ⟨?_,es,c,f⟩;have e:=wv (S:=S) (ia c) [];rw[f];show(nk S (some<|Rf.Qa<|Rf.chunks es) []).2=none;rw[e];simp[um,g];refine .inr ⟨?_,λes h e=>hg ⟨es,h,e⟩⟩;unfold nk;rw[if_neg (by simp[g])];cases ha:kt d with|none=>rfl|some x=>obtain⟨b,F,ps⟩:=x;simp only;rw[Rf.jfb,Nat.sub_zero];obtain⟨c,f⟩:=N9 (b:=b) (F:=F) (ps:=ps) (key:=[]) ps.length 0;obtain c|c:=c;exfalso;obtain⟨n,p⟩:=Ik ha;(have t:∀ j,j<ps.length->∃ es,Rf.J8 b F ps j=some es:=λj hj=>f c j (ZC _) zC);obtain⟨m,q⟩:=Rf.jfh (bl:=(List.range ps.length).map λi=>(Rf.J8 b F ps i).getD []) p zD (λi es he=>by(have hi:i<ps.length:=by have:=(ZT.1 he).1;simpa using this);obtain⟨u,l⟩:=t i hi;simp[hi,l] at he;rw[l,he]);have k:=o b n;rw[m] at k;obtain⟨s,r⟩:=q.jlu k;exact hg ⟨_,s,by rw[n];exact congrArg some<|m.trans r⟩;exact c
theorem ra{a b:aD}(k:Rf.zm a)(j:Rf.zm b)(e:Rf.jn a=Rf.jn b):a=b:=by
 have i:=wv (S:=jg.new) (ia k) [];have m:=wv (S:=jg.new) (ia j) [];have n:Rf.Qa (Rf.chunks a)=Rf.Qa (Rf.chunks b):=e;rw[n,m] at i;have f:=congrArg Prod.fst i;simp only[Gv] at f;have d:¬jg.new.bad=true:=zE;rw[if_neg d,if_neg d,Rf.Qd,Rf.Qd] at f;have g:∀ l:aD,l.filter (Rf.qh [])=l:=λl=>xU.2 (λc _=>by simp[Rf.qh])
 rw[g,g] at f;exact f.symm
theorem Rf.zt.cap{last:Nat}{l:By}{bs:List aD}{r:By}(h:Rf.zt last l bs r)(c:last<=1000000000):last+bs.length<=1000000000:=Rf.zt.elim (M:=λbs _=>last+bs.length<=1000000000) (by simpa using c) (λbs r b r' _ h1 _ _=>by simp;omega) h
theorem ud(V:List (Str×By))(n:Str)(b:By):(yd V n b).length<=V.length+1:=by have:=ub V n;simp[yd];omega
def Rf.Man.zk(m:Rf.Man):Rf.Man:=⟨m.next+1,m.last,m.next,m.base,m.runs⟩
def gz(m:Rf.Man)(bs:List aD)(g:By)(bls:List aD):Rf.St:=if g=[] then⟨m,bs,bls⟩ else⟨m.zk,bs,bls⟩
theorem Rf.Man.Good.zk{m:Rf.Man}(h:m.Good)(f:m.next+1<=2000000000):m.zk.Good:=by
 obtain⟨k,i,d,g⟩:=h;have c:∀ x∈m.settled,1<=x/\x<m.next:=λx b=>d x<|zV.2<|.inl b
 have j:=d m.log<|zV.2<|.inr<|zW.2 rfl;have es:m.zk.settled=m.settled:=rfl;refine⟨f,i,λx b=>?_,?_⟩;obtain b|b:=zV.1 b;have:=c x b;exact⟨this.1,by show x<m.next+1;omega⟩;rw[zW.1 b];exact⟨by show 1<=m.next;omega,by show m.next<m.next+1;omega⟩;refine List.nodup_append.2 ⟨(List.nodup_append.1 g).1,zD,λx b y hy e=>?_⟩;have:=c x b;rw[zW.1 hy] at e;have l:x=m.next:=e;omega
theorem Mb{V:List (Str×By)}{m:Rf.Man}{bs bls:List aD}(c:∀ p∈j4 m.settled bls,p∈V):∀ p∈(⟨m.zk,bs,bls⟩:Rf.St).files,p∈yd (ju (yd V (js m.next) (Rf.jm m.last bs)) ya) jo m.zk.bytes:=by intro p b;obtain rfl|rfl|b:=xm.1 b;exact yv.2<|.inl rfl;exact yv.2<|.inr ⟨qo.2 ⟨yv.2<|.inl rfl,(wk _).symm⟩,(fq _).symm⟩;obtain⟨n,d,e⟩:=Js b;rw[yv,qo,yv,e];exact .inr ⟨⟨.inr ⟨c p b,(Y9 _ _).symm⟩,(wj _).symm⟩,(ry _).symm⟩
theorem Bg{m:Rf.Man}{bs bls:List aD}(h:(⟨m,bs,bls⟩:Rf.St).Ok)(b:m.next+1<=2000000000):(⟨m.zk,bs,bls⟩:Rf.St).Ok:=⟨(show m.Good from h.yp).zk b,h.runs,h.len,h.bl,h.log,h.cap⟩
structure eo(V:List (Str×List UInt8))(m:Rf.Man)(bs:List (List Rf.Ch))(g:List UInt8)(bls:List (List Rf.Ch)):Prop where
 ok:(⟨m,bs,bls⟩:Rf.St).Ok
 man:(jo,m.bytes)∈V
 runs:∀ p∈j4 m.settled bls,p∈V
 log:(js m.log,Rf.jm m.last bs++g)∈V
 over:Rf.Over m.last bs g
def yo(V:List (Str×By))(r:Option Rf.St)(e:Int):Prop:=(r=some Rf.St.first/\e=0/\∀ c,(jo,c)∉V)\/(r=none/\e=6/\∃ mb,(jo,mb)∈V/\Rf.Zr mb=none)\/(r=none/\e=6/\∃(m:Rf.Man) (n:Nat),(jo,m.bytes)∈V/\m.Good/\m.runs.length<65536/\n∈m.settled/\∀ es,Rf.zm es->(jq n,Rf.jn es)∉V)\/(r=none/\e=6/\∃ m:Rf.Man,(jo,m.bytes)∈V/\m.Good/\m.runs.length<65536/\∀ c,(js m.log,c)∉V)\/(r=none/\e=7/\∃ m bs bls g,eo V m bs g bls/\g≠[]/\¬m.next+1<=2000000000)\/(∃ m bs bls g,r=some (gz m bs g bls)/\e=0/\eo V m bs g bls/\(g=[]\/m.next+1<=2000000000))
section
variable {V V':List (Str×List UInt8)} {m m':Rf.Man} {bs bls bs' bls':List (List Rf.Ch)} {g g':List UInt8} {r r':Option Rf.St} {e e':Int}
theorem eo.sub(h:eo V m bs g bls)(b:∀ p∈V,p∈V'):eo V' m bs g bls:=⟨h.ok,b _ h.man,λp hp=>b p<|h.runs p hp,b _ h.log,h.over⟩
theorem yo.new(a:∀ c,(jo,c)∉V):yo V (some Rf.St.first) 0:=.inl ⟨rfl,rfl,a⟩
theorem yo.man{c:By}(a:(jo,c)∈V)(b:Rf.Zr c=none):yo V none 6:=.inr (.inl ⟨rfl,rfl,c,a,b⟩)
theorem yo.run{n:Nat}(a:(jo,m.bytes)∈V)(b:m.Good)(c:m.runs.length<65536)(d:n∈m.settled)(f:∀ es,Rf.zm es->(jq n,Rf.jn es)∉V):yo V none 6:=.inr (.inr (.inl ⟨rfl,rfl,m,n,a,b,c,d,f⟩))
theorem yo.log(a:(jo,m.bytes)∈V)(b:m.Good)(c:m.runs.length<65536)(d:∀ c,(js m.log,c)∉V):yo V none 6:=.inr (.inr (.inr (.inl ⟨rfl,rfl,m,a,b,c,d⟩)))
theorem yo.full(a:eo V m bs g bls)(b:g≠[])(c:¬m.next+1<=2000000000):yo V none 7:=.inr (.inr (.inr (.inr (.inl ⟨rfl,rfl,m,bs,bls,g,a,b,c⟩))))
theorem yo.ok(a:eo V m bs g bls)(b:g=[]\/m.next+1<=2000000000):yo V (some (gz m bs g bls)) 0:=.inr (.inr (.inr (.inr (.inr ⟨m,bs,bls,g,rfl,rfl,a,b⟩))))
theorem yo.perm(h:yo V r e)(k:V.Perm V'):yo V' r e:=by
 have i:∀ p,p∈V->p∈V':=λp=>(k.mem_iff).1
 have j:∀ p,p∈V'->p∈V:=λp=>(k.mem_iff).2
 obtain⟨rfl,rfl,a⟩|⟨rfl,rfl,l,a,b⟩|⟨rfl,rfl,m,n,a,b,c,d,f⟩|⟨rfl,rfl,m,a,b,c,d⟩|⟨rfl,rfl,m,bs,bls,g,a,b,c⟩|⟨m,bs,bls,g,rfl,rfl,a,b⟩:=h
 .exact .new λc t=>a c (j _ t)
 .exact .man (i _ a) b
 .exact .run (i _ a) b c d λes t u=>f es t (j _ u)
 .exact .log (i _ a) b c λc t=>d c (j _ t)
 .exact .full (a.sub i) b c
 .exact .ok (a.sub i) b
theorem ft(i:Qy V)(h:(jo,m.bytes)∈V)(g:m.Good)(f:m.runs.length<65536)(j:(jo,m'.bytes)∈V)(c:m'.Good)(b:m'.runs.length<65536):m=m':=by have e:=i.one h j;have d:=Rf.Xu g f;rw[e,Rf.Xu c b] at d;exact(Option.some.inj d).symm
theorem eo.yp(h:eo V m bs g bls):m.Good/\m.runs.length<65536:=⟨h.ok.yp,by have b:m.runs.length<65535:=h.ok.runs;omega⟩
theorem Ie{n:Nat}:∀ {ns:List Nat} {ls:List aD},ls.length=ns.length->n∈ns->∃ l∈ls,(jq n,Rf.jn l)∈j4 ns ls
 | x::ns,l::ls,hl,hn=>by
  have e:j4 (x::ns) (l::ls)=(jq x,Rf.jn l)::j4 ns ls:=rfl
  rcases xB.1 hn with rfl|hn
  .exact⟨l,xW,by rw[e];exact xW⟩
  .obtain⟨b,d,c⟩:=Ie (by simpa using hl) hn
   exact⟨b,xJ _ d,by rw[e];exact xJ _ c⟩
theorem eo.jb8(h:eo V m bs g bls){n:Nat}(b:n∈m.settled)(c:∀ es,Rf.zm es->(jq n,Rf.jn es)∉V):False:=by obtain⟨l,f,d⟩:=Ie (show bls.length=m.settled.length from h.ok.len) b;exact c l (h.ok.bl l f)<|h.runs _ d
theorem jck(b:Qy V):∀ {ns:List Nat} {ls ls':List aD},ls.length=ns.length->ls'.length=ns.length->(∀ l∈ls,Rf.zm l)->(∀ l∈ls',Rf.zm l)->(∀ p∈j4 ns ls,p∈V)->(∀ p∈j4 ns ls',p∈V)->ls=ls'
 | [],[],[],_,_,_,_,_,_=>rfl
 | n::ns,l::ls,l'::ls',h1,h2,h3,h4,h5,h6=>by
  have e:j4 (n::ns) (l::ls)=(jq n,Rf.jn l)::j4 ns ls:=rfl
  have d:j4 (n::ns) (l'::ls')=(jq n,Rf.jn l')::j4 ns ls':=rfl
  rw[e] at h5
  rw[d] at h6
  have c:l=l':=ra (h3 l xW) (h4 l' xW) (b.one (h5 _ xW) (h6 _ xW))
  rw[c,jck b (ns:=ns) (ls:=ls) (ls':=ls') (by simpa using h1) (by simpa using h2) (λx hx=>h3 x (xJ _ hx)) (λx hx=>h4 x (xJ _ hx)) (λp hp=>h5 p (xJ _ hp)) (λp hp=>h6 p (xJ _ hp))]
theorem eo.inj(d:Qy V)(h:eo V m bs g bls)(b:eo V m' bs' g' bls'):m=m'/\bs=bs'/\g=g'/\bls=bls':=by obtain rfl:=ft d h.man h.yp.1 h.yp.2 b.man b.yp.1 b.yp.2;have e:=d.one h.log b.log;have k:m.last+bs.length<=1000000000:=h.ok.cap;have j:m.last+bs'.length<=1000000000:=b.ok.cap;have i:=Rf.M9 h.ok.log k g;have t2:=Rf.M9 b.ok.log j g';have f:Rf.zt m.last (Rf.jm m.last bs++g) bs g:=i;have c:Rf.zt m.last (Rf.jm m.last bs'++g') bs' g':=t2;rw[<-e] at c;obtain⟨rfl,rfl⟩:=Rf.zt.unique f h.over c b.over;exact⟨rfl,rfl,rfl,jck d h.ok.len b.ok.len h.ok.bl b.ok.bl h.runs b.runs⟩
theorem yo.one(i:Qy V)(h:yo V r e)(p:yo V r' e'):r=r'/\e=e':=by obtain⟨rfl,rfl,a⟩|⟨rfl,rfl,t,a,b⟩|⟨rfl,rfl,m,n,a,f,a2,a3,a4⟩|⟨rfl,rfl,m,a,f,a2,a3⟩|⟨rfl,rfl,m,bs,bls,g,a,f,a2⟩|⟨m,bs,bls,g,rfl,rfl,a,f⟩:=h<;>obtain⟨rfl,rfl,c⟩|⟨rfl,rfl,mc,c,d⟩|⟨rfl,rfl,x,s,c,d,j,k,q⟩|⟨rfl,rfl,x,c,d,j,k⟩|⟨rfl,rfl,x,y,o,l,c,d,j⟩|⟨x,y,o,l,rfl,rfl,c,d⟩:=p<;>first|exact⟨rfl,rfl⟩|exact(a _ c).elim|exact(a _ c.man).elim|exact(c _ a).elim|exact(c _ a.man).elim|(rw[i.one a c.man,Rf.Xu c.yp.1 c.yp.2] at b;cases b;done)|(obtain rfl:=ft i a f a2 c.man c.yp.1 c.yp.2;first|exact(c.jb8 a3 a4).elim|exact(a3 _ c.log).elim)|(rw[i.one c a.man,Rf.Xu a.yp.1 a.yp.2] at d;cases d;done)|(obtain rfl:=ft i c d j a.man a.yp.1 a.yp.2;first|exact(a.jb8 k q).elim|exact(k _ a.log).elim)|(obtain⟨rfl,rfl,rfl,rfl⟩:=a.inj i c;first|exact⟨rfl,rfl⟩|exact(d.elim f a2).elim|exact(f.elim d j).elim)
theorem Ig:∀ {ns:List Nat},(∀ n∈ns,∃ es,Rf.zm es/\(jq n,Rf.jn es)∈V)->∃ ls:List aD,ls.length=ns.length/\(∀ l∈ls,Rf.zm l)/\∀ p∈j4 ns ls,p∈V
 | [],_=>⟨[],rfl,λl h=>(by cases h),λp h=>(by cases h)⟩
 | n::ns,h=>by
  obtain⟨es,h1,h2⟩:=h n xW
  obtain⟨ls,g,f,d⟩:=Ig (ns:=ns) (λx hx=>h x (xJ _ hx))
  refine⟨es::ls,by simp[g],λl c=>?_,λp b=>?_⟩
  .rcases xB.1 c with rfl|c
   .exact h1
   .exact f l c
  .rcases xB.1 (show p∈(jq n,Rf.jn es)::j4 ns ls from b)with rfl|b
   .exact h2
   .exact d p b
end
end
section
open RowKit Maps WideShapes Go.Proofs.Tryz
theorem DW.Qo{E:Nat->Addr}{B:Nat}{w:World}{ρ:Nat->jz}{d k:Nat}{V:List (Str×By)}(h:DW E B w ρ d V k):Qg E B w:=by obtain⟨S,b,_⟩:=h;exact b.Qo
section
variable {E:Nat->Addr} {B:Nat} {w:World} {ρ:Nat->jz} {d b k nl:Nat} {V:List (Str×List UInt8)} {m:Rf.Man} {rv mv la:Value}
theorem Wo(D:DW E B w ρ d V k)(c:w.heap[b]?=some (.cells (j6 (aA d) (jf m.next) (jf m.last) (jf m.log) (jf m.base) rv la mv false false) 86 (0,0)))(F:zz w rv m.runs)(O:¬m.next+1<=2000000000)(s:m.next<=2000000000)(R:Value):Calls prog 112 #[aA b,R] w λe w'=>∃ v,e=.returned v/\Err E w' v 2/\ja w w' No:=by
 obtain⟨p,q,i,r⟩:=id F;have o:∃ n,rv=.slice p n q:=⟨_,i⟩;clear i r;obtain⟨z,rfl⟩:=o;have L:=zK 1 c;have J:=zK 2 c;have I:=zK 3 c;have H:=zK 4 c;have G:=zK 5 c;simp at L J I H G;obtain⟨y,C⟩:=zJ w.heap.size;obtain⟨x,f⟩:=zJ (w.alloc (.cells #[jf m.next,jf m.last,jf m.log,jf m.base,.slice p z q] 82));have A:ja w x No:=by grind [ja.alloc]
 have l:x.heap[y]?=some (.cells #[jf m.next,jf m.last,jf m.log,jf m.base,.slice p z q] 82 (0,0)):=by grind [je]
 have g:=Y4 (D.Qo.same A) l zC zC;have u:=jb g;change Hid _ at C;clear g l c F O s;go_enter func112,ntmps112;go_wp2_with fail;rw[<-f,<-C.out];clear f L J I H G;refine u.out.mono ?_;rintro e T ⟨v2,rfl,j,N⟩;obtain⟨t2,a2,rfl⟩:=j.shape;go_wp2_with fail;refine(ym _ j).mono ?_;rintro e S ⟨v3,rfl,t,M⟩;go_wp2;go_ret;exact⟨_,rfl,t,(A.tt N).tt M⟩
theorem jiv(D:DW E B w ρ d V k)(H:Env E B w)(hk:k+60000<530000000000)(f:w.heap[b]?=some (.cells (j6 (aA d) (jf m.next) (jf m.last) (jf m.log) (jf m.base) rv la mv false false) 86 (0,0)))(hv:zz w rv m.runs)(a9:∀ p n c,rv=.slice (some p) n c->ρ p.block=.none/\p.block≠b/\p.block<w.heap.size)(ax:ρ b=.none)(b5:B<=b)(hg:m.Good)(hr:m.runs.length<65536)(F:m.next+1<=2000000000)(fv:Value)(r:By)(U:Bytes w fv r)(O:Off ρ fv)(ah:r.length<=20000)(ae:m.bytes.length<=20000)(b2:∀ n∈m.settled,∃ c,(jq n,c)∈V)(A:r.length+m.bytes.length+j2 V<=20000):Calls prog 112 #[aA b,fv] w λe w'=>e=.returned .nilIface/\∃ ρ',ja w w' (λi=>ρ i≠.none\/i=b)/\(∀ i,i<w.heap.size->ρ' i=ρ i)/\DW E B w' ρ' d (yd (ju (yd V (js m.next) r) ya) jo m.zk.bytes) (k+50000)/\w'.heap[b]?=some (.cells (j6 (aA d) (jf m.zk.next) (jf m.zk.last) (jf m.zk.log) (jf m.zk.base) rv la mv false false) 86 (0,0)):=by
 obtain⟨G,J,aa,b1⟩:=id hv;have am:∃ n,rv=.slice G n J:=⟨_,aa⟩;clear aa b1;obtain⟨N,rfl⟩:=am;obtain⟨n1,u⟩:=zJ (m.next+1);change Hid _ at u;obtain⟨pf,cf,rfl,an⟩:=id U;clear an;have c1:=zK 1 f;have c2:=zK 2 f;have c3:=zK 3 f;have c4:=zK 4 f;have c5:=zK 5 f;simp at c1 c2 c3 c4 c5;obtain⟨y,hy⟩:=zJ w.heap.size;obtain⟨w1,a8⟩:=zJ (w.alloc (.cells #[jf m.next,jf m.last,jf m.log,jf m.base,.slice G N J] 82));have k1:ja w w1 No:=by grind [ja.alloc]
 have ai:w1.heap[y]?=some (.cells #[jf m.next,jf m.last,jf m.log,jf m.base,.slice G N J] 82 (0,0)):=by grind [je]
 have s:=Yx ai zC;rw[<-u.out] at s;have cp:=zO f;have ao:=jb s;have HY:=jb hy;have HN:=jb F;have HK:=jb hk;have ap:=jb f;have ak:=jb U;have R:=jb O;have ar:=jb ah;have ba:=jb ae;have aj:=jb A;obtain⟨nf,ac⟩:=zJ r.length;rw[<-ac] at ak R ⊢;change Hid _ at ac;clear s ai hy F hk f U O ah ae A;go_enter func112,ntmps112;go_wp2_with fail;rw[<-a8,<-HY.out];clear a8 c1 c2 c3 c4 c5;refine ao.out.mono ?_;rintro e w2 ⟨rfl,M,k2⟩;have aw:ja w w2 No:=k1.trans k2 (λi hi e=>zA HY.out);have z2:=zK 2 M;have q2:=zL 2 M;simp at z2;obtain⟨C,L⟩:=zJ (w2.setCell (B3 y 2) (jf m.next));have az:w.heap.size<=y:=by rw[HY.out];exact zR _
 have j:ja w C No:=by rw[L];exact aw.Yb az _
 have X:C.heap[y]?=some (.cells #[jf n1,jf m.last,jf m.next,jf m.base,.slice G N J] 82 (0,0)):=by rw[L];exact(jd M _).trans rfl
 have D3:=D.same j;have E3:=H.same j;have o:=j.same ap id;have ny:ρ y=.none:=XW (λF=>zA (D.yc y F).2);have d0:=zK 0 o;have z22:=zK 2 X;simp at d0 z22;have d0:C.drew.cell? (aC b)=some (.pointer<|some (aC d)):=d0;have z22:C.drew.cell? (B3 y 2)=some (jf m.next):=z22;have T:m.next<=9223372036854775807:=zA HN.out;have ag:∀ W,ja C W No->Calls prog 33 #[jw m.next] W λe w'=>e=.returned (jc<|js m.next)/\ja W w' No:=λW kk=>Xg m.next T<|E3.same kk
 have ab:(js m.next).length<100:=by have:=zl T;unfold js;grind
 have af:∀ W,ja C W No->Calls prog 107 #[aA d,jc (js m.next),.slice pf nf cf] W λe w'=>e=.returned .nilIface/\∃ ρ',xq C ρ w' ρ'/\DW E B w' ρ' d (yd V (js m.next) r) (k+21000):=λW kk=>by have h1:=HK.out;have h2:=ar.out;have h3:=aj.out;have h4:=xj V<|js m.next;refine(Nv (D3.same kk) (js m.next) (Bo _) _ r ((ak.out.same j).same kk) R zC<|by omega).mono ?_;rintro e w' ⟨rfl,ρ',g,D'⟩;exact⟨rfl,ρ',(xq.of kk λ_ _ h=>h.elim).trans g,D'.mono<|by omega⟩
 have Z:=jb ag;have Y:=jb af;have b7:=jb X;have b9:=jb ab;have a4:=jb o;have kd:ja C C.drew No:=ja.drew _ _;clear ag af M X ab T o;obtain⟨ln,l⟩:=zJ (js m.next);rw[<-l] at Z Y b9;change Hid _ at l;go_wp2_with fail;rw[<-L];clear L z2 q2;go_cut [8] from 9 (λs8 wd=>s8=.nilIface/\∃ ρ',xq C ρ wd ρ'/\DW E B wd ρ' d (yd V ln r) (k+21000));case first=>go_region_law (first|(refine jt rfl 33 [.tmp 28] _ rfl Qc [jw m.next] (by simp[Act.eval,Act.put]) (Z.out _ kd) ?_;rintro e cn ⟨rfl,S⟩;have d0:=S.cell d0 id;have z22:=S.cell z22 id;have kd:=kd.tt S;refine⟨_,rfl,?_⟩)|(refine jt rfl 107 [.tmp 26,.tmp 29,.tmp 30] _ rfl gi [aA d,jc ln,.slice pf nf cf] (by simp[Act.eval,Act.put]) (Y.out _ kd) ?_;rintro e cm ⟨rfl,cl,b6,bb⟩;refine⟨_,rfl,?_⟩));(all_goals go_wp2;go_meet);all_goals exact⟨rfl,_,b6,bb⟩
 case rest=>obtain⟨rfl,ρ4,I,D4⟩:=hcut;obtain⟨a0,b3⟩:=I.row a4 ax;have q:=(I.row b7 ny).1;have t0:=zK 0 q;have t1:=zK 1 q;have t2:=zK 2 q;have t3:=zK 3 q;have t4:=zK 4 q;simp at t0 t1 t2 t3 t4;(have b4:=E3.keep I.keeps λi t=>(D3.yc i t).1);(have co:m.zk.bytes.length=m.bytes.length:=by rw[qq,qq];rfl);(have b0:zz wc (.slice G N J) m.runs:=(hv.same j).keep I.keeps λ_ p n c e t=>t (a9 p n c e).1);(have al:∀ p n c,Value.slice G N J=.slice (some p) n c->ρ4 p.block=.none/\p.block≠b:=λp n c e=>by obtain⟨a1,a2,a3⟩:=a9 p n c e;exact⟨by rw[I.role p.block (zU a3 j.size)];exact a1,a2⟩);have v:=om D4 b4 m.zk (hg.zk HN) hr (.slice G N J) b0 al a0 b3 b5 (λn F=>by obtain F|F:=zV.1 (show n∈m.settled.map jq++[js m.next] from F);obtain⟨x,hx,rfl⟩:=ZW.1 F;obtain⟨c,hc⟩:=b2 x hx;exact⟨c,yv.2<|.inr ⟨hc,λe=>by rw[l.out] at e;first|exact Y9 _ _ e|exact Y9 _ _ e.symm⟩⟩;exact⟨r,yv.2<|.inl<|by rw[zW.1 F,l.out]⟩) (by have h1:=xj (yd V ln r) ya;have h2:=xj V ln;(have h3:j2 (yd V ln r)=r.length+j2 (ju V ln):=by simp[yd,Jq]);have h4:=aj.out;omega) (zA HK.out);(have ad:mh m.zk (.slice G N J)=.agg #[jf n1,jf m.last,jf m.next,jf m.base,.slice G N J]:=by rw[u.out];rfl);rw[ad] at v;have aq:=jb v;clear v ad q d0 z22 kd Z Y;go_wp2_with fail;refine aq.out.mono ?_;rintro e w5 ⟨rfl,ρ5,k5,ay,D5,z⟩;have b8:=jb z;rw[l.out] at D5;clear z;go_wp2;go_ret;have s3:=j.size;have s4:=I.keeps.size;refine⟨rfl,ρ5,((j.up).trans I.keeps λi hi h=>.inl h).trans k5 λi hi h=>?_,λi hi=>?_,D5.mono<|zA ba.out,b8⟩;obtain h|h:=h;rw[I.role i zC] at h;exact .inl h;exact .inr h;rw[ay i zC,I.role i zC]
end
end
section
open RowKit Maps WideShapes Go.Proofs.Tryz
variable {V:List (Str×List UInt8)} {nm:Str} {B b d k:Nat} {E:Nat->Addr} {w w':World} {m:Rf.Man} {mv v:Value} {deg:Bool}
theorem oq(b:Array Value)(w:World):(callFunc 114 b).run prog w=.ok (.enter 114 b) w:=by kernel_rfl
theorem Bv(b:Array Value)(w:World):(callFunc 106 b).run prog w=.ok (.enter 106 b) w:=by kernel_rfl
theorem G7(b:Array Value)(w:World):(callFunc 61 b).run prog w=.ok (.enter 61 b) w:=by kernel_rfl
theorem ja5{s:Rf.St}(h:s.Ok)(g:Qy V)(f:∀ p∈s.files,p∈V):s.files.Perm (V.filter (λp=>decide (p.1∈qg s.m++[Yk]))):=by
 refine de h.apart (g.filter _) λp=>?_
 rw[List.mem_filter,decide_eq_true_iff];constructor;intro d;refine⟨f p d,?_⟩;obtain rfl|rfl|i:=xm.1 d;exact zV.2<|.inr<|zW.2 rfl;exact zV.2<|.inl<|zV.2<|.inr<|zW.2 rfl;obtain⟨n,b,e⟩:=Js i;exact zV.2<|.inl<|zV.2<|.inl<|ZW.2 ⟨n,b,e.symm⟩;rintro⟨d,b⟩;obtain b|b:=zV.1 b;obtain⟨c,k⟩:=h.there p.1 b;have e:p.2=c:=g.one (n:=p.1) d<|f _ k;grind;have l:p.1=jo:=zW.1 b;have j:(jo,s.m.bytes)∈s.files:=xm.2<|.inl rfl;have e:p.2=s.m.bytes:=g.one (n:=p.1) d (by rw[l];exact f _ j);grind
theorem Ae{p:Str×By}(h:p∈V):p.2.length<=j2 V:=by induction V with|nil=>cases h|cons x r ih=>grind [Jq]
def Bk(V:List (Str×By))(nm:Str):Option By:=(V.find? (λp=>decide (p.1=nm))).map Prod.snd
theorem aw{b:By}(h:Bk V nm=some b):(nm,b)∈V:=by unfold Bk at h;obtain⟨p,c,rfl⟩:=XE.1 h;have f:=List.mem_of_find?_eq_some c;have d:=List.find?_some c;simp only[decide_eq_true_eq] at d;rw[<-d];exact f
theorem nw(h:Bk V nm=none)(b:By):(nm,b)∉V:=λhm=>by unfold Bk at h;have c:=List.find?_eq_none.1 (Option.map_eq_none_iff.1 h) _ hm;simp at c
theorem ji5(d:Qy V){b:By}(h:(nm,b)∈V):Bk V nm=some b:=by cases hb:Bk V nm with|none=>exact(nw hb b h).elim|some c=>rw[d.one h (aw hb)]
theorem ff.file{S:jg}(h:ff V k S)(nm:Str):jbn S nm (Bk V nm):=by cases hb:Bk V nm with|none=>exact .inl ⟨h.2.1.none λb=>nw hb b,rfl⟩|some b=>obtain⟨f,a,g,d,c⟩:=h.2.1.get<|aw hb;exact .inr ⟨f,a,g,d,by rw[c]⟩
def stA(ob:Option By):Jo:=λS=>(S.called false,(nk S ob []).1,(nk S ob []).2)
theorem N5:∀(c:List (Option By)) {S:jg},ff V k S->(∀ ob∈c,∀ b,ob=some b->b.length<100000)->((Xn (c.map stA) S).2=none/\∀ ob∈c,∃ es,Rf.zm es/\ob=some (Rf.jn es))\/((Xn (c.map stA) S).2=some false/\∃ ob∈c,∀ es,Rf.zm es->ob≠some (Rf.jn es))
 | [],S,h,_=>.inl ⟨rfl,λob h=>by cases h⟩
 | ob::r,S,h,hs=>by
  rcases jir (S:=S) h.1.bad (hs ob xW)with⟨e,h1⟩|⟨e,h1⟩
  .have j:Xn ((ob::r).map stA) S=Xn (r.map stA) (S.called false):=by
    rw[xO,fw]
    show(match (nk S ob []).2 with|some bad=>_|none=>_)=_
    rw[e]
    rfl
   rw[j]
   rcases N5 r h.called (λob f=>hs ob (xJ _ f))with⟨i,g⟩|⟨i,d,g,l⟩
   .refine .inl ⟨i,λd f=>?_⟩
    rcases xB.1 f with rfl|f
    .exact h1
    .exact g d f
   .exact .inr ⟨i,d,xJ _ g,l⟩
  .have j:Xn ((ob::r).map stA) S=(S.called false,some false):=by
    rw[xO,fw]
    show(match (nk S ob []).2 with|some bad=>_|none=>_)=_
    rw[e]
    rfl
   rw[j]
   exact .inr ⟨rfl,ob,xW,h1⟩
theorem Vf{ρ:Nat->jz}{rv last:Value}{cl:Bool}{t:TypeId}(D:DW E B w ρ d V k)(H:Env E B w)(M:k<549755813888)(C:m.Good)(hr:m.runs.length<65536)(a1:j2 V<=20000)(j:w.heap[b]?=some (.cells (j6 (aA d) (jf m.next) (jf m.last) (jf m.log) (jf m.base) rv last mv deg cl) t (0,0)))(L:zz w rv m.runs):Calls prog 110 #[aA b] w λe w'=>xq w ρ w' ρ/\DW E B w' ρ d V k/\((e=.returned .nilIface/\∀ n∈m.settled,∃ es,Rf.zm es/\(jq n,Rf.jn es)∈V)\/∃ v,e=.returned v/\ke E w' v false/\∃ n∈m.settled,∀ es,Rf.zm es->(jq n,Rf.jn es)∉V):=by
 have O:=D.apart;obtain⟨T,Z,Y,X,U⟩:=D;have G:ff V k T:=⟨Y,X,U⟩;have g:∀ n∈m.settled,n<=9223372036854775807:=λn c=>by have o:=(C.2.2.1 n<|zV.2<|.inl c).2;have r:=C.1;omega
 have p:∀ nm b,Bk V nm=some b->b.length<100000:=λnm b e=>by have o:=Ae<|aw e;simp only at o;omega
 refine(M1 (P:=ff V k) m rv last mv deg cl ((m.settled.map λn=>Bk V<|jq n).map stA) H Z G g zD (λW hW i f st hf hst=>?_) j L<|by omega).mono ?_;rw[XT] at hf;rw[XT,XT] at hst;obtain⟨n,c,rfl⟩:=XE.1 hf;rw[c] at hst;cases hst;have s:=g n<|XF c;have y:(jq n).length<1099511627776:=by have:=zl s;unfold jq;grind
 intro W' S A z l;exact⟨l.called,_,_,_,(λi=>i<B),jh3 E B ρ d S (jq n)<|Bk V<|jq n,rfl,mj,λn'=>Fj (jq n) [] (Bk V<|jq n) y (λb e=>zA<|p _ b e) λb F ps _ _=>Rf.Wz ps,λi hi=>zU hi hW,λW'' k'=>⟨z.same k',l.2.2.small M,l.file _⟩⟩;rintro e w' ⟨A,D',u,q⟩;refine⟨⟨A,λ_ _=>rfl⟩,⟨_,D',u.1,u.2.1,u.2.2⟩,?_⟩;obtain⟨x,o⟩|⟨x,J,o,r⟩:=N5 (m.settled.map λn=>Bk V<|jq n) G (λJ ho b e=>by obtain⟨n,_,rfl⟩:=ZW.1 ho;exact p _ b e);rw[x] at q;obtain⟨_,rfl⟩|⟨bad,I,j,_⟩:=q;refine .inl ⟨rfl,λn c=>?_⟩;obtain⟨es,r,R⟩:=o _<|ZW.2 ⟨n,c,rfl⟩;exact⟨es,r,aw R⟩;cases j;rw[x] at q;obtain⟨j,_⟩|⟨bad,I,j,rfl,N⟩:=q;cases j;cases j;obtain⟨n,c,rfl⟩:=ZW.1 o;exact .inr ⟨I,rfl,N,n,c,λes ho s=>r es ho<|ji5 O s⟩
def aa(E:Nat->Addr)(B:Nat)(w:World)(ρ:Nat->jz)(d b:Nat)(V:List (Str×By))(k:Nat)(n:Int)(e:Ending)(w':World):Prop :=
 ∃ v g,e=.returned v/\Err E w' v g/\g≠0/\n=(if g=2 then 7 else 6)/\DW E B w' ρ d V k/\ja w w' (λi=>ρ i≠.none\/i=b)/\Env E B w'/\∃ dv a1 a2 a3 a4 a5 la mv deg cl,w'.heap[b]?=some (.cells (j6 dv a1 a2 a3 a4 a5 la mv deg cl) 86 (0,0))
def Dx(E:Nat->Addr)(B:Nat)(w:World)(ρ:Nat->jz)(d b:Nat)(V:List (Str×By))(k:Nat)(e:Ending)(w':World):Prop :=
 (∃ n,yo V none n/\aa E B w ρ d b V k n e w')\/∃ s,yo V (some s) 0/\e=.returned .nilIface/\iw E B w ρ d b s (k+V.length+60000) w'
theorem Q8.kind(h:Q8 E w v):ke E w v false:=by obtain⟨g,b,c⟩:=h;refine⟨g,c,λe=>?_,⟨λe=>(by cases e),λe=>?_⟩⟩;rw[e] at b;exact absurd b zE;rw[e] at b;exact absurd b zE
theorem aa.six{ρ:Nat->jz}(n:ke E w' v false)(D:DW E B w' ρ d V k)(l:ja w w' (λi=>ρ i≠.none\/i=b))(H:Env E B w'){f j a2 a3 a4 a5 c:Value}{cl:Bool}(m:w'.heap[b]?=some (.cells (j6 f j a2 a3 a4 a5 c mv deg cl) 86 (0,0))):aa E B w ρ d b V k 6 (.returned v) w':=by obtain⟨g,q,p,o⟩:=n;exact⟨v,g,rfl,q,λe=>(by cases o.2 e),by rw[if_neg p],D,l,H,f,j,a2,a3,a4,a5,c,mv,deg,cl,m⟩
theorem aa.same{f:World}{ρ:Nat->jz}{n:Int}{e:Ending}(h:aa E B w ρ d b V k n e w')(c:ja w' f No):aa E B w ρ d b V k n e f:=by obtain⟨v,g,q,p,o,m,D,j,H,r,s,a2,a3,a4,a5,i,mv,deg,cl,l⟩:=h;exact⟨v,g,q,p.keep c λ_ _ t=>t.elim,o,m,D.same c,j.trans c λ_ _ t=>t.elim,H.same c,r,s,a2,a3,a4,a5,i,mv,deg,cl,c.same l id⟩
theorem jja{bs bls:List aD}{n:Nat}(c:∀ b∈bs,Rf.qm b=true)(h:(Rf.jm m.last bs).length<=n):(Rf.memory bs).length<=n:=by
 have g:=Rf.Xh m.last bs;have f:=Rf.Kl (ls:=bs) λb hb'=>((Rf.yj b).1<|c b hb').2.2
 have d:=bh bs;omega
theorem jk8{ρ:Nat->jz}(D:DW E B w ρ d V k)(H:Env E B w)(hk:k+V.length+100000<530000000000)(dz:j2 V<=20000)(bb:∀ m bs g bls,eo V m bs g bls->g≠[]->(Rf.jm m.last bs).length+m.bytes.length+j2 V<=20000)(hb:w.heap[b]?=some (.cells (newRow d) 86 (0,0)))(T:ρ b=.none)(O:B<=b)(vm:Value)(mb:By)(cy:Bytes w vm mb)(d7:(jo,mb)∈V):Calls prog 64 #[aA b,vm] w (Dx E B w ρ d b V k):=by
 have cb:=Ae d7
 have bc:=Eg D.Qo D.size cy (by simp only at cb;omega)
 obtain⟨pm,cm,rfl,_⟩:=id cy
 have bf:=jb bc
 have HB:=jb hb
 have HK:=jb hk
 have bv:=jb dz
 have dn:=jb bb
 have f8:=jb d7
 have ie:=zO hb
 obtain⟨nm,ao⟩:∃ nm,nm=mb.length:=⟨_,rfl⟩
 rw[<-ao] at bf ⊢
 clear bc hb hk dz cb bb d7 cy ao
 go_enter func64,ntmps64
 go_wp2_with fail
 refine bf.out.mono ?_
 rintro e w1 ⟨k1,⟨m,M,N,aq,rfl,bo⟩|⟨v1,aq,rfl,cz⟩⟩
 rotate_left
 .have j:=aa.six cz.kind (D.same k1) (k1.up) (H.same k1) (k1.same HB.out id)
  obtain⟨t1,a1,rfl⟩:=cz.shape
  have ay:=jb j
  have gu:=jb aq
  clear j aq cz
  go_wp2
  go_ret
  exact .inl ⟨6,.man f8.out gu.out,ay.out.same (ja.alloc _ _ _)⟩
 obtain⟨cc,F,e4⟩:=Rf.ou aq
 have b0:(jo,m.bytes)∈V:=by rw[<-cc];exact f8.out
 have U:=F.1
 have J:=jb b0
 have HG:=jb F
 have dh:Hid (m.log<=9223372036854775807):=jb (by have:=F.log;omega)
 have a8:=jb e4
 have bz:∀ n∈m.settled,n<=9223372036854775807:=λn o=>by have h0:=(F.2.2.1 n (zV.2 (.inl o))).2;omega
 have fk:=jb bz
 have f7:Hid (m.bytes.length<=20000):=jb (by have h5:=Ae b0;have h6:=bv.out;simp only at h5;omega)
 clear aq cc b0 F e4 bz U
 obtain⟨I,d5⟩:∃ I,I=m.runs.length:=⟨_,rfl⟩
 rw[<-d5] at bo ⊢
 obtain⟨x,hx⟩:∃ x,x=w1.heap.size:=⟨_,rfl⟩
 obtain⟨w2,bm⟩:∃ w2,w2=w1.alloc (.cells #[jf m.next,jf m.last,jf m.log,jf m.base,.slice M I N] 82):=⟨_,rfl⟩
 have k2:ja w w2 No:=by rw[bm];exact k1.more _
 have a7:w2.heap[x]?=some (.cells #[jf m.next,jf m.last,jf m.log,jf m.base,.slice M I N] 82 (0,0)):=by grind [je]
 have e8:w2.ownsRow w.heap.size 3 1 (.slice M I N) I (m.runs.map jf):=by rw[bm];exact bo.alloc _
 have s:=k2.same HB.out id
 have jh:w.heap.size<=x:=by rw[hx];exact k1.size
 have an:∀ g,(Value.slice M I N).ownBlock=some g->w.heap.size<=g/\g<x:=λg hg=>by rw[hx];exact bo.lt g hg
 have x0:=zK 0 a7
 have x1:=zK 1 a7
 have x2:=zK 2 a7
 have x3:=zK 3 a7
 have x4:=zK 4 a7
 have y1:=zK 1 s
 have y2:=zK 2 s
 have y3:=zK 3 s
 have y4:=zK 4 s
 have y5:=zK 5 s
 have y6:=zK 6 s
 have f1:=zL 1 s
 have f2:=zL 2 s
 have f3:=zL 3 s
 have f4:=zL 4 s
 have f5:=zL 5 s
 have f6:=zL 6 s
 simp at x0 x1 x2 x3 x4 y1 y2 y3 y4 y5 y6
 have HX:=jb hx
 have ez:=jb d5
 have gn:=jb a7
 have gx:=jb s
 have gq:=jb e8
 have D2:=D.same k2
 have E2:=H.same k2
 clear hx d5 a7 s bo e8
 go_wp2_with fail
 rw[<-bm,<-HX.out]
 clear bm
 go_cut [] from 10 (λwd=>wd.heap[b]?=some (.cells (j6 (aA d) (jf m.next) (jf m.last) (jf m.log) (jf m.base) (.slice M I N) (jf m.last) S7 false false) 86 (0,0))/\ja w2 wd (λi=>i=b))
 case first =>
  go_region
  all_goals
   go_wp2
   go_meet
  all_goals
   have hh:∀ W:World,W.drew.heap=W.heap:=λ_=>rfl
   refine⟨?_,ja.draw ?_⟩
   .rw[hh]
    exact(jd (jd (jd (jd (jd (jd gx.out _) _) _) _) _) _).trans rfl
   .exact(((((ja.setCell w2 (B3 b 1) _).set (p:=(B3 b 2)) rfl _).set (p:=(B3 b 3)) rfl _).set (p:=(B3 b 4)) rfl _).set (p:=(B3 b 5)) rfl _).set (p:=(B3 b 6)) rfl _
 case rest =>
  obtain⟨db,k3⟩:=hcut
  clear x0 x1 x2 x3 x4 y1 y2 y3 y4 y5 y6 f1 f2 f3 f4 f5 f6
  have D3:DW E B wc ρ d V k:=D2.keep k3 (λi _ e=>by rw[e];exact⟨T,O⟩)
  have E3:Env E B wc:=E2.keep k3 (λi e=>by rw[e];exact O)
  have gh:x≠b:=by omega
  have en:=k3.same gn.out gh
  have d3:=k3.row gq.out (λg hg e=>by grind)
  have gd:ρ x=.none:=XW (λo=>by have:=(D.yc x o).2;omega)
  have cw:∀ g,(Value.slice M I N).ownBlock=some g->ρ g=.none:=λg hg=>XW (λo=>by have:=(D.yc g o).2;have:=(an g hg).1;omega)
  have ee:zz wc (.slice M I N) m.runs:=Ja d3 ez.out.symm
  have am:ja w wc (λi=>i=b):=(k2.up).trans k3 (λi _ e=>e)
  have ej:=Vf D3 E3 (by have:=HK.out;omega) HG.out a8.out bv.out db ee
  have gw:=jb ej
  have dj:=jb db
  have de:=jb en
  have gp:=jb d3
  clear ej db en d3 ee
  go_wp2_with fail
  refine gw.out.mono ?_
  rintro e w4 ⟨g4,D4,gk⟩
  obtain⟨bt,_⟩:=g4.row dj.out T
  obtain⟨em,_⟩:=g4.row de.out gd
  have E4:=E3.keep g4.keeps (λi t=>(D3.yc i t).1)
  have gf:ja w w4 (λi=>ρ i≠.none\/i=b):=(am.mono (λi _ h=>(Or.inr h:ρ i≠.none\/i=b))).trans g4.keeps (λi _ h=>.inl h)
  rcases gk with⟨rfl,b9⟩|⟨jp,rfl,da,n4,ed,c7⟩
  rotate_left
  .have j:=aa.six da D4 gf E4 bt
   obtain⟨t4,a4,rfl⟩:=da.shape
   have ay:Hid (Dx E B w ρ d b V k (.returned (.iface t4 (.pointer (some a4)))) w4):=.inl ⟨6,.run J.out HG.out a8.out ed c7,j⟩
   clear j da ed c7
   go_wp2
   go_ret
   exact ay.out
  obtain⟨bls,cl,ck,cj⟩:=Ig b9
  have cq:=jb cl
  have fr:=jb ck
  have Z:=jb cj
  clear b9 cl ck cj
  have R:=zK 0 bt
  have z2:=zK 2 em
  simp at R z2
  obtain⟨lo,bp⟩:∃ lo,lo=m.log:=⟨_,rfl⟩
  rw[<-bp] at z2
  have R:w4.drew.cell? (aC b)=some (aA d):=R
  have z2:w4.drew.cell? (B3 x 2)=some (jf lo):=z2
  have ag:lo<=9223372036854775807:=by rw[bp];exact dh.out
  have eh:∀ W,ja w4 W No->Calls prog 33 #[jw lo] W λe w'=>e=.returned (jc (js lo))/\ja W w' No:=λW z=>Xg lo ag (E4.same z)
  have e6:∀ W,ja w4 W No->Calls prog 61 #[aA d,jc (js lo)] W λe w'=>∃ x6 v6,e=.returned (.tuple #[x6,v6])/\xq w4 ρ w' ρ/\DW E B w' ρ d V k/\((∃ L p c,(js lo,L)∈V/\x6=.slice p L.length c/\v6=.nilIface/\w'.ownsRow w4.heap.size 5 1 (.slice p L.length c) L.length (L.map j7))\/(x6=.slice none 0 0/\Err E w' v6 1/\∀ c,(js lo,c)∉V)):=λW z=>by
   cases hob:Bk V (js lo)with
   | some L =>
    refine(jfv (D4.same z) (by have:=HK.out;omega) (js lo) (Xv ag) (aw hob)).mono ?_
    rintro e w' ⟨g,D',v,rfl,hr⟩
    obtain⟨p,c,rfl⟩:=ji hr
    exact⟨_,_,rfl,(xq.of z (λ_ _ h=>h.elim)).trans g,D',.inl ⟨L,p,c,aw hob,rfl,rfl,qi hr z.size⟩⟩
   | none =>
    refine(Ft (D4.same z) (by have:=HK.out;omega) (js lo) (Xv ag) (λb=>nw hob b)).mono ?_
    rintro e w' ⟨g,D',v,rfl,he⟩
    exact⟨_,_,rfl,(xq.of z (λ_ _ h=>h.elim)).trans g,D',.inr ⟨rfl,he,λc=>nw hob c⟩⟩
  have fa:=jb eh
  have ev:=jb e6
  have cp:=jb bp
  have fc:=jb bt
  have S:ja w4 w4.drew No:=ja.drew _ _
  clear eh e6 bp ag bt em
  go_wp2_with fail
  go_cut [8,6] from 10 (λs8 s6 wd=>xq w4 ρ wd ρ/\DW E B wd ρ d V k/\((∃ L p c,(js lo,L)∈V/\s8=.slice p L.length c/\s6=.nilIface/\wd.ownsRow w4.heap.size 5 1 (.slice p L.length c) L.length (L.map j7))\/(s8=.slice none 0 0/\Err E wd s6 1/\∀ c,(js lo,c)∉V)))
  case first =>
   go_region_law (first
    | (refine jt rfl 33 [.tmp 38] _ rfl Qc [jw lo] (by simp[Act.eval,Act.put]) (fa.out _ S) ?_
       rintro e w5 ⟨rfl,k5⟩
       have R:=k5.cell R id
       have S:=S.tt k5
       refine⟨_,rfl,?_⟩)
    | (refine jt rfl 61 [.tmp 36,.tmp 39] _ rfl G7 [aA d,jc (js lo)] (by simp[Act.eval,Act.put]) (ev.out _ S) ?_
       rintro e w6 ⟨x6,v6,rfl,h6⟩
       refine⟨_,rfl,?_⟩))
   all_goals
    go_wp2
    go_meet
   all_goals exact h6
  case rest =>
   obtain⟨g6,D6,⟨L,p6,c6,b1,rfl,rfl,ai⟩|⟨rfl,d9,c5⟩⟩:=hcut
   rotate_left
   .have X:=g4.trans g6
    have ge:ja w wc (λi=>ρ i≠.none\/i=b):=(am.mono (λi _ h=>(Or.inr h:ρ i≠.none\/i=b))).trans X.keeps (λi _ h=>.inl h)
    have j:=aa.six ⟨_,d9,by decide,by simp⟩ D6 ge (E4.keep g6.keeps (λi t=>(D4.yc i t).1)) (X.row dj.out T).1
    obtain⟨t6,a6,rfl⟩:=d9.shape
    have ay:Hid (Dx E B w ρ d b V k (.returned (.iface t6 (.pointer (some a6)))) wc):=.inl ⟨6,.log J.out HG.out a8.out (by rw[<-cp.out];exact c5),j⟩
    clear j d9 c5
    go_wp2
    go_ret
    exact ay.out
   have ce:=Ae b1
   simp only at ce
   have X:=g4.trans g6
   obtain⟨el,_⟩:=X.row dj.out T
   have c3:=Wn b (aA d) (jf m.next) (jf m.last) (jf m.log) (jf m.base) (.slice M I N) (.bool false) (.bool false) m.last 86 S7 (.slice p6 L.length c6) [] L w.heap.size wc D6.Qo O (λg hg=>by cases hg) el (ZR _ _ _ _) (λh=>by cases h) List.Pairwise.nil
    (by have h2:=bv.out;grind) HG.out.2.1 (xo ai) (by have:=am.size;have:=X.keeps.size;omega) (λ_ p n c e=>by
     have C:(Value.slice p6 L.length c6).ownBlock=some p.block:=by rw[e];rfl
     have h1:=(ai.lt _ C).1
     have h2:=zO fc.out
     exact⟨by omega,λh=>by cases h⟩)
   have ci:=xo ai
   have bd:Off ρ (.slice p6 L.length c6):=λp n c e=>by
    have C:(Value.slice p6 L.length c6).ownBlock=some p.block:=by rw[e];rfl
    have h1:=(ai.lt _ C).1
    exact XW (λo=>by have:=(D4.yc p.block o).2;omega)
   have cd:∀ ad,p6=some ad->w4.heap.size<=ad.block/\ad.block<wc.heap.size:=λad e=>ai.lt ad.block (by rw[e];rfl)
   have b5:=jb c3
   have b8:=jb ci
   have cn:=jb bd
   have fo:=jb cd
   have fn:=jb b1
   have co:Hid (L.length<=20000):=jb (by have h2:=bv.out;omega)
   clear c3 el R z2 S fa ev ci bd cd b1 ce
   obtain⟨nL,d6⟩:∃ nL,nL=L.length:=⟨_,rfl⟩
   rw[<-d6] at b5 b8 cn co ⊢
   have ax:=jb d6
   clear ai d6
   go_wp2_with fail
   refine b5.out.mono ?_
   rintro e G ⟨bs,r,v7,hT,hO,rfl,ek,d2,ec,eb,k7⟩
   obtain⟨au,b4⟩:=hT.bytes
   have ff:r.length<=L.length:=by rw[au,ZV];omega
   have b3:(Rf.jm m.last bs).length=L.length-r.length:=by rw[au,ZV];omega
   have eg:Rf.gy [] bs=Rf.memory bs:=rfl
   rw[eg] at d2
   have ch:m.last+bs.length<=1000000000:=hT.cap HG.out.2.1
   have d4:(⟨m,bs,bls⟩:Rf.St).Ok:=⟨HG.out,by have h1:=qq m;have h2:=f7.out;show m.runs.length<65535;omega,cq.out,fr.out,b4,ch⟩
   have be:eo V m bs r bls:=⟨d4,J.out,Z.out,by rw[<-au,<-cp.out];exact fn.out,hO⟩
   have cg:(Rf.memory bs).length<60000:=by
    have h1:=jja (m:=m) (bls:=bls) (n:=20000) b4 (by have h2:=co.out;rw[ax.out] at h2;omega)
    omega
   have jg:=am.size
   have j8:=X.keeps.size
   have j5:=k7.size
   have j9:=g4.keeps.size
   have ab:∀ g,v7.ownBlock=some g->w4.heap.size<=g:=λg hg=>by
    rcases eb with e|⟨g',e,h⟩
    .rw[e] at hg
     cases hg
    .rw[hg] at e
     cases e
     have:=g6.keeps.size
     omega
   have D7:DW E B G ρ d V k:=D6.keep k7 (λi _ h=>by
    rcases h with h|h
    .rw[h];exact⟨T,O⟩
    .cases h)
   have cx:ja w G (λi=>ρ i≠.none\/i=b):=((am.mono (λi _ h=>(Or.inr h:ρ i≠.none\/i=b))).trans X.keeps (λi _ h=>.inl h)).trans k7 (λi _ h=>by
    rcases h with h|h
    .exact .inr h
    .cases h)
   have E7:Env E B G:=H.keep (cx.mono (λi hi h=>(show B<=i from h.elim (λh=>(D.yc i h).1) (λh=>by rw[h];exact O)))) (λi h=>h)
   have c4:=k7.row (X.keeps.row gp.out (λg hg t=>t (cw g hg))) (λg hg t=>by
    rcases t with t|t
    .grind
    .cases t)
   have dc:zz G (.slice M I N) m.runs:=Ja c4 ez.out.symm
   have ao:∀(W W0:World) (ρ0:Nat->jz) (f:Rf.Man) (u:Nat),u=f.settled.length+2->f.settled=m.settled->f.runs=m.runs->f.log<=9223372036854775807->ja G W0 (λi=>ρ i≠.none\/i=b)->W0.heap[b]?=some (.cells (j6 (aA d) (jf f.next) (jf f.last) (jf f.log) (jf f.base) (.slice M I N) (jf (m.last+bs.length)) v7 false false) 86 (0,0))->ja W0 W No->Calls prog 114 #[aA b] W λe w'=>∃ p c,e=.returned (.slice p u c)/\w'.ownsRow W.heap.size 9 1 (.slice p u c) u ((qg f++[Yk]).map jc)/\ja W w' No:=λW W0 ρ0 f u A hs2 hrs bq k0 hb0 z=>by
    have fi:(qg f).length+1=u:=by rw[A];simp[qg]
    have bn:=xx f
    have e9:=Hy f (aA d) (.slice M I N) (jf (m.last+bs.length)) v7 false false ((E7.keep (k0.mono (λi hi h=>(show B<=i from h.elim (λh=>(D.yc i h).1) (λh=>by rw[h];exact O)))) (λi h=>h)).same z) (z.same hb0 id) (((by rw[hrs];exact dc.keep k0 (λ_ p n c e t=>by
     have C:(Value.slice M I N).ownBlock=some p.block:=by rw[e];rfl
     rcases t with t|t
     .exact t (cw _ C)
     .have h1:=(an _ C).1;omega):zz W0 (.slice M I N) f.runs)).same z) (by rw[hrs];have:=a8.out;omega) (λn o=>fk.out n (by rw[<-hs2];exact o)) bq
    rw[fi] at e9
    exact e9
   have fe:∃ rt,rt=L.length-r.length:=⟨_,rfl⟩
   obtain⟨rt,ah⟩:=fe
   have br:Bytes G (.slice p6 nL c6) L:=b8.out.keep k7 (λp n c e t=>by
    injection e with e
    have h1:=(fo.out p e).1
    have h2:=zO fc.out
    rcases t with t|t
    .omega
    .cases t)
   have c0:L.take rt=Rf.jm m.last bs:=by
    rw[ah,<-b3]
    conv=>lhs;rw[au]
    exact List.take_left
   have ei:Bytes G (.slice p6 rt c6) (Rf.jm m.last bs):=by
    have h1:=br
    rw[ax.out] at h1
    have h2:=h1.take rt (by omega)
    rwa [c0] at h2
   have gr:Hid (0<nL->∃ g6,p6=some g6):=(show _ from by
    obtain⟨p',c',e,h1,h2,h3,h4⟩:=br
    cases e
    intro h0
    cases p6 with
    | none=>have:=h3 rfl;omega
    | some g=>exact⟨g,rfl⟩)
   have jn:nL<=c6:=by
    obtain⟨p',c',e,h1,_⟩:=br
    cases e
    rw[ax.out]
    exact h1
   have jq:=jb ah
   have gv:=jb ei
   have y:=jb be
   have fq:=jb cg
   have b7:=jb d4
   have aj:=jb ek
   have ew:=jb d2
   have f0:=jb ao
   have ig:=jb b3
   have dg:=jb dc
   have ey:=jb ec
   rw[<-ah]
   clear hT hO au b4 eg d2 ch d4 be cg ek br ei c0 c4 ao dc ec eb b5 b8
   have hf:rt<=nL:=by rw[ax.out,ah];omega
   have jk:rt<=c6:=by omega
   have ea:rt<nL↔r≠[]:=by
    rw[ax.out,ah]
    constructor
    .intro h e;rw[e] at h;simp at h
    .intro h;have:=xV.2 h;omega
   have ex:=jb ea
   clear ah ea ff b3
   have d8:Hid (∀ p n c,Value.slice M I N=.slice (some p) n c->ρ p.block=.none/\p.block≠b/\p.block<G.heap.size):=λp n c e=>by
    have C:(Value.slice M I N).ownBlock=some p.block:=by rw[e];rfl
    have h1:=an _ C
    have h2:=zO de.out
    exact⟨cw _ C,by omega,by omega⟩
   go_upto_if 52 with fail
   go_cut [6] from 10 (λs6 wd=>(∃(ρ9:Nat->jz) (f:Rf.Man) (V9:List (Str×By)),s6=.nilIface/\Hid ((r=[]/\f=m)\/(r≠[]/\m.next+1<=2000000000/\f=m.zk))/\ja G wd (λi=>ρ i≠.none\/i=b)/\Hid (∀ i,i<G.heap.size->ρ9 i=ρ i)/\DW E B wd ρ9 d V9 (k+50000)/\Hid ((∀ p∈(⟨f,bs,bls⟩:Rf.St).files,p∈V9)/\V9.length<=V.length+2)/\Hid (wd.heap[b]?=some (.cells (j6 (aA d) (jf f.next) (jf f.last) (jf f.log) (jf f.base) (.slice M I N) (jf (m.last+bs.length)) v7 false false) 86 (0,0))))\/(Err E wd s6 2/\Hid (r≠[]/\¬m.next+1<=2000000000)/\ja G wd No))
   case first =>
    rcases zS rt nL with gj|jl
    .have b2:(rt:Int)<(nL:Int):=by omega
     have fh:decide ((rt:Int)<(nL:Int))=true:=decide_eq_true b2
     have ap:=ex.out.1 gj
     obtain⟨a6,rfl⟩:=gr.out (by omega)
     by_cases U:m.next+1<=2000000000
     .have e0:=dn.out m bs r bls y.out ap
      have Y:=jiv D7 E7 (by have:=HK.out;omega) aj.out dg.out d8.out T O HG.out a8.out U (.slice (some a6) rt c6) (Rf.jm m.last bs) gv.out (λp n c e=>by cases e;exact cn.out _ _ _ rfl) (by omega) f7.out (λn o=>by
       obtain⟨l,h1,h2⟩:=Ie (show bls.length=m.settled.length from cq.out) o
       exact⟨_,Z.out _ h2⟩) e0
      have b6:=jb Y
      have df:=jb ap
      have gs:=jb U
      clear Y ap U e0
      go_wp2_with fail
      refine b6.out.mono ?_
      rintro e w9 ⟨rfl,ρ9,k9,gg,D9,ba⟩
      have dm:=jb ba
      clear ba
      go_wp2
      go_meet
      case rel =>
       refine .inl ⟨ρ9,m.zk,_,rfl,.inr ⟨df.out,gs.out,rfl⟩,k9,gg,D9,⟨Mb Z.out,?_⟩,dm.out⟩
       have h1:=ud (ju (yd V (js m.next) (Rf.jm m.last bs)) ya) jo m.zk.bytes
       have h2:=ub (yd V (js m.next) (Rf.jm m.last bs)) ya
       have h3:=ud V (js m.next) (Rf.jm m.last bs)
       omega
     .have Y:=Wo D7 aj.out dg.out U HG.out.1 (.slice (some a6) rt c6)
      have b6:=jb Y
      have df:Hid (r≠[]/\¬m.next+1<=2000000000):=(show _/\_ from⟨ap,U⟩)
      clear Y ap U
      go_wp2_with fail
      refine b6.out.mono ?_
      rintro e w9 ⟨v9,rfl,ar,k9⟩
      go_wp2
      go_meet
      case rel=>exact .inr ⟨ar,df,k9⟩
    .have b2:¬(rt:Int)<(nL:Int):=by omega
     have fh:decide ((rt:Int)<(nL:Int))=false:=decide_eq_false b2
     have e5:r=[]:=XW (λh=>by have:=ex.out.2 h;omega)
     obtain⟨u,A⟩:∃ u,u=m.settled.length+2:=⟨_,rfl⟩
     have q:(qg m++[Yk]).length=u:=by rw[A];simp[qg]
     have bn:=xx m
     have ef:∀(W:World) (v:Value),ja G W No->W.ownsRow G.heap.size 9 1 v u ((qg m++[Yk]).map jc)->Calls prog 113 #[aA d,v] W λe w'=>e=.returned .nilIface/\∃ ρ',xq G ρ w' ρ'/\DW E B w' ρ' d V k:=λW v z hr=>by
      refine(Ki (D7.same z) (by have:=HK.out;omega) v (qg m++[Yk]) G.heap.size (by rw[q];exact hr) (λg hg=>XW (λo=>by have:=(hr.lt g hg).1;have:=(D7.yc g o).2;omega)) (λn o=>?_) (by rw[q,A];have:=a8.out;omega) (λn o=>?_)).mono ?_
      .rcases zV.1 o with o|o
       .exact Zt HG.out n o
       .rw[zW.1 o];decide
      .rcases zV.1 o with o|o
       .obtain⟨c,hc⟩:=b7.out.there n o
        rcases xm.1 hc with h|h|h
        .cases h;exact⟨_,J.out⟩
        .cases h;exact⟨_,y.out.log⟩
        .exact⟨_,Z.out _ h⟩
       .rw[zW.1 o]
        exact⟨_,J.out⟩
      .rintro e w' ⟨rfl,ρ',g,D'⟩
       exact⟨rfl,ρ',(xq.of z (λ_ _ h=>h.elim)).trans g,D'⟩
     have ca:∀ W,ja G W No->Calls prog 114 #[aA b] W λe w'=>∃ p c,e=.returned (.slice p u c)/\w'.ownsRow W.heap.size 9 1 (.slice p u c) u ((qg m++[Yk]).map jc)/\ja W w' No:=λW z=>f0.out W G ρ m u A rfl rfl dh.out (ja.refl _ _) aj.out z
     have R:=zK 0 aj.out
     simp at R
     have R:G.drew.cell? (aC b)=some (aA d):=R
     have fm:=jb ca
     have gt:=jb ef
     have eu:=jb e5
     have S:ja G G.drew No:=ja.drew _ _
     clear ca ef q bn A e5
     go_wp2_with fail
     go_region_law (first
      | (refine jt rfl 114 [.tmp 62] _ rfl oq [aA b] (by simp[Act.eval,Act.put]) (fm.out _ S) ?_
         rintro e w8 ⟨p8,c8,rfl,d1,k8⟩
         have d1:=qi d1 S.size
         have R:=k8.cell R id
         have S:=S.tt k8
         refine⟨_,rfl,?_⟩)
      | (refine jt rfl 113 [.tmp 61,.tmp 63] _ rfl vj [aA d,.slice p8 u c8] (by simp[Act.eval,Act.put]) (gt.out _ _ S d1) ?_
         rintro e w9 ⟨rfl,ρ9,g9,D9⟩
         refine⟨_,rfl,?_⟩))
     all_goals
      go_wp2
      go_meet
     all_goals
      refine .inl ⟨ρ9,m,V,rfl,.inl ⟨eu.out,rfl⟩,g9.keeps.mono (λi _ h=>.inl h),g9.role,D9.mono (by omega),⟨λp hp=>?_,by omega⟩,(g9.row aj.out T).1⟩
      have bq:=y.out.log
      rw[eu.out,ZU] at bq
      rcases xm.1 hp with rfl|rfl|h
      .exact J.out
      .exact bq
      .exact Z.out _ h
   case rest =>
    rcases hcut with⟨ρ9,f,V9,rfl,f9,k9,bw,D9,et,di⟩|⟨ar,fb,k9⟩
    rotate_left
    .obtain⟨t9,a9,rfl⟩:=ar.shape
     have cf:Dx E B w ρ d b V k (.returned (.iface t9 (.pointer (some a9)))) wc:=.inl ⟨7,.full y.out fb.out.1 fb.out.2,_,_,rfl,ar,by decide,rfl,D7.same k9,cx.trans k9 (λ_ _ h=>h.elim),E7.same k9,_,_,_,_,_,_,_,_,_,_,k9.same aj.out id⟩
     have fp:=jb cf
     clear cf ar
     go_wp2
     go_ret
     exact fp.out
    have fg:f.settled=m.settled/\f.runs=m.runs/\f.log<=9223372036854775807/\f.last=m.last/\(⟨f,bs,bls⟩:Rf.St).Ok:=by
     rcases f9.out with⟨_,e⟩|⟨_,o,e⟩
     .rw[e];exact⟨rfl,rfl,dh.out,rfl,b7.out⟩
     .rw[e];exact⟨rfl,rfl,by show m.next<=_;omega,rfl,Bg b7.out o⟩
    obtain⟨eq,bu,er,es,dd⟩:=fg
    obtain⟨u,A⟩:∃ u,u=f.settled.length+2:=⟨_,rfl⟩
    have q:(qg f++[Yk]).length=u:=by rw[A];simp[qg]
    have bn:=xx f
    have ep:u<1099511627776:=by rw[A];have:=a8.out;rw[<-bu] at this;omega
    have e7:∀(W:World) (v:Value),ja wc W No->W.ownsRow wc.heap.size 9 1 v u ((qg f++[Yk]).map jc)->Calls prog 106 #[aA d,v] W λe w'=>e=.returned .nilIface/\∃ ρ',xq wc ρ9 w' ρ'/\DW E B w' ρ' d (⟨f,bs,bls⟩:Rf.St).files (k+V.length+60000):=λW v z hr=>by
     have jj:=et.out.2
     refine(uv (D9.same z) (by have:=HK.out;omega) v (qg f++[Yk]) wc.heap.size (by rw[q];exact hr) (λg hg=>XW (λo=>by have:=(hr.lt g hg).1;have:=(D9.yc g o).2;omega)) (by rw[q];exact ep)).mono ?_
     rintro e w' ⟨rfl,ρ',g,D'⟩
     exact⟨rfl,ρ',(xq.of z (λ_ _ h=>h.elim)).trans g,(D'.perm (ja5 dd D9.apart et.out.1)).mono (by omega)⟩
    have c9:∀ W,ja wc W No->Calls prog 114 #[aA b] W λe w'=>∃ p c,e=.returned (.slice p u c)/\w'.ownsRow W.heap.size 9 1 (.slice p u c) u ((qg f++[Yk]).map jc)/\ja W w' No:=λW z=>f0.out W wc ρ9 f u A eq bu er k9 di.out z
    have R:=zK 0 di.out
    simp at R
    have R:wc.drew.cell? (aC b)=some (aA d):=R
    have go:=jb e7
    have fl:=jb c9
    have h7:=jb bu
    have ha:=jb es
    have h8:=jb dd
    have S:ja wc wc.drew No:=ja.drew _ _
    clear e7 c9 q bn A ep eq bu er es dd
    go_wp2_with fail
    go_region_law (first
     | (refine jt rfl 114 [.tmp 72] _ rfl oq [aA b] (by simp[Act.eval,Act.put]) (fl.out _ S) ?_
        rintro e j4 ⟨gc,gm,rfl,az,dy⟩
        have az:=qi az S.size
        have R:=dy.cell R id
        have S:=S.tt dy
        refine⟨_,rfl,?_⟩)
     | (refine jt rfl 106 [.tmp 71,.tmp 73] _ rfl Bv [aA d,.slice gc u gm] (by simp[Act.eval,Act.put]) (go.out _ _ S az) ?_
        rintro e bl ⟨rfl,cv,av,hd⟩
        refine⟨_,rfl,?_⟩))
    all_goals
     go_wp2
     go_ret
     have fd:ρ9 b=.none:=by rw[bw.out b (by omega)];exact T
     obtain⟨fj,dk⟩:=av.row di.out fd
     have s9:=k9.size
     have gi:∀ i,i<w.heap.size->cv i=ρ i:=λi hi=>by rw[av.role i (by omega),bw.out i (by omega)]
     have c2:∀ i,i<G.heap.size->cv i=ρ i:=λi hi=>by rw[av.role i (by omega),bw.out i hi]
     have af:ja G bl (λi=>ρ i≠.none\/i=b):=k9.trans av.keeps (λi hi h=>by rw[bw.out i hi] at h;exact .inl h)
     have z:ja w bl (λi=>ρ i≠.none\/i=b):=cx.trans af (λi _ h=>h)
     have nv:∀ g,v7.ownBlock=some g->ρ g=.none:=λg hg=>XW (λo=>by have:=(D.yc g o).2;have:=ab g hg;omega)
     have gl:∀ i,(ρ i≠.none\/i=b)->B<=i:=λi h=>h.elim (λh=>(D.yc i h).1) (λh=>by rw[h];exact O)
     have dl:iw E B w ρ d b ⟨f,bs,bls⟩ (k+V.length+60000) bl:=by
      refine⟨cv,.slice M I N,v7,⟨E7.keep af gl,hd,?_,?_,qi (af.row ew.out (λg hg t=>?_)) D.size,⟨dk,O⟩,?_,λg hg=>⟨?_,?_⟩,h8.out,fq.out⟩,z,gi,λg hg=>?_,λp n c e=>(an p.block (by rw[e];rfl)).1⟩
      .have e9:(⟨f,bs,bls⟩:Rf.St).last=m.last+bs.length:=by show f.last+bs.length=_;rw[ha.out]
       rw[e9]
       exact fj
      .show zz bl (.slice M I N) f.runs
       rw[h7.out]
       exact dg.out.keep af (λ_ p n c e t=>by
        obtain⟨a1,a2,_⟩:=d8.out p n c e
        exact t.elim (λt=>t a1) a2)
      .rcases t with t|t
       .exact t (nv g hg)
       .rw[t] at hg;exact ey.out hg
      .intro p n c e
       obtain⟨a1,a2,a3⟩:=d8.out p n c e
       have C:(Value.slice M I N).ownBlock=some p.block:=by rw[e];rfl
       have h1:=an _ C
       have h2:=zO de.out
       have h4:=D.size
       have h5:=av.keeps.size
       refine⟨by rw[c2 _ a3];exact a1,a2,by omega,λh=>?_,by omega⟩
       have:=ab _ h
       omega
      .rw[c2 g (ew.out.lt g hg).2]
       exact nv g hg
      .intro e
       rw[e] at hg
       exact ey.out hg
      .have:=ab g hg
       omega
     refine .inr ⟨_,?_,rfl,dl⟩
     rcases f9.out with⟨e1,e2⟩|⟨e1,o,e2⟩
     .have h9:=yo.ok y.out (.inl e1)
      have e3:gz m bs r bls=⟨f,bs,bls⟩:=by unfold gz;rw[if_pos e1,e2]
      rw[e3] at h9
      exact h9
     .have h9:=yo.ok y.out (.inr o)
      have e3:gz m bs r bls=⟨f,bs,bls⟩:=by unfold gz;rw[if_neg e1,e2]
      rw[e3] at h9
      exact h9
end
