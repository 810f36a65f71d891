/-
-/
import Derived.Test.YtdaocdiabffpkaaGreatDoorR43
import Derived.Test.YtdaocdiabffpkaaGreatDoorR44
import Derived.Test.YtdaocdiabffpkaaGreatDoorR39
set_option maxRecDepth 100000
set_option maxHeartbeats 8000000
set_option linter.all false
namespace Go.Proofs.YtdaocdiabffpkaaGreatDoor
open RowKit Maps WideShapes Go.Proofs.Tryz
section
variable {S S':jd} {U:Nat} {m:Rf.Man} {bls:List (List Rf.Ch)} {Q R:Want} {s:Rf.St}
structure br(D:DataW Nat)(U:Nat)(m:Rf.Man)(bls:List (List Rf.Ch))(Q:Want)(S:jd):Prop where
 names:S.names=D
 safe:S.safe=D
 late:S.late=[]
 wf:∀ f a,S.files f=some a->a.Wf
 small:∀ f a,S.files f=some a->a.bytes.length<=60000
 yn:Qx S.files U m bls Q D
theorem br.one{D:DataW Nat}(h:br D U m bls Q.down S)(g:List Int)(x:Str):br D U m bls Q.down (X8 S g x).1:=by unfold X8;split;rename_i p hp;obtain⟨f,_,k⟩:=Option.bind_eq_some_iff.1 hp;obtain⟨a,j,rfl⟩:=XP.1 k;have l:=h.wf f a j;have n:=Gp l g;refine⟨h.names,h.safe,h.late,λi b hb=>?_,λi b hb=>?_,h.yn.write (c:=0) j (ue.settled Q a g) n⟩;have d:yg.put S.files f (a.settled g) i=some b:=hb;by_cases e:i=f;grind [yg.yy,Lk];rw[yg.zr _ _ e] at d;exact h.wf i b d;have d:yg.put S.files f (a.settled g) i=some b:=hb;by_cases e:i=f;subst e;rw[yg.yy] at d;cases d;have:=h.small _ a j;omega;rw[yg.zr _ _ e] at d;exact h.small i b d;exact h
theorem br.all{D:DataW Nat}(b:List Int):∀(l:List Str) (S:jd),br D U m bls Q.down S->br D U m bls Q.down (zq l S b).1:=by
 intro l;suffices H:∀(p:jd×List Int),br D U m bls Q.down p.1->br D U m bls Q.down (l.foldl (λp x=>X8 p.1 p.2 x) p).1 fromλS h=>H (S,b) h
 induction l with|nil=>intro p h;exact h|cons x r ih=>intro p h;exact ih _<|h.one p.2 x
theorem Pow.Qn(h:Pow S U m bls Q)(c:List Int):∃ m' bls',Pow (S.crashed c) U m' bls' Q.down/\(S.crashed c).late=[]/\qi (S.crashed c):=by obtain⟨m',bls',d⟩:=h.all.at<|J1 (c.headD 0) (S.late.length+1);have f:br (J0 S.safe S.late<|J1 (c.headD 0) (S.late.length+1)) U m' bls' Q.down (S.bn<|J1 (c.headD 0) (S.late.length+1)):=⟨rfl,rfl,rfl,h.wf,h.small,d.mono (ZG _) Q.jna⟩;have b:=f.all c.tail (S.bn<|J1 (c.headD 0) (S.late.length+1)).keys;refine⟨m',bls',⟨?_,b.wf,b.small,?_,?_⟩,b.late,⟨rfl,rfl⟩⟩;show(zq _ _ _).1.names=(zq _ _ _).1.late.foldl doA (zq _ _ _).1.safe;rw[b.late,b.names,b.safe];rfl;show Aq _ (zq _ _ _).1.safe (zq _ _ _).1.late;rw[b.late,b.safe];exact⟨m',bls',b.yn⟩;show Qx _ _ _ _ _ (zq _ _ _).1.names;rw[b.names];exact b.yn
theorem Ap.length:∀ {l:List (Nat×Nat)} {s e:Nat},Ap s l e->s+l.length<=e
 | [],_,_,h=>Nat.le_of_eq h
 | x::r,s,e,h=>by
  have:=h.2.2.length
  have:=h.2.1
  grind
theorem Uv(fs:yg)(T:List Tok):T.length<=Y7 fs T:=by induction T with|nil=>exact ZG _|cons x r ih=>grind [Yn]
theorem Pow.fit(h:Pow S U m bls Q)(i:S.late=[])(l:U<=60000):Fit 60000 S:=by
 obtain⟨T,b,o⟩:=h.cur;have c:S.safe=S.names:=by have:=h.tied;simp_all
 have d:Maps.size S.names<=60000:=by rw[b.Z9.size];exact zB (Uv S.files T) b.size
 refine⟨⟨T,b.fs⟩,d,by rw[c,i];exact d,?_,λf a d=>?_,zA h.total,λn o=>?_⟩;rw[c];obtain⟨⟨es,e,_⟩,_⟩:=b.Z9;exact⟨es,e⟩;obtain⟨k,g⟩:=h.wf f a d;have:=h.small f a d;have:=g.length;omega;obtain⟨f,j⟩:=(h.keys.2.1 n).1 o;have:=(b.short _<|b.fs.at.1 j).1;simp only at this;omega
end
section
variable {E:Nat->Addr} {B b d k:Nat} {w:World}
def N9:DStep:=ub [Fn (λS=>(S.called false,true)),Yf (jj 1) [],za Rf.Man.first]
theorem jms{ρ:Nat->j4}{z:jd}(D:Dk E B w ρ d z)(a6:qi z)(a8:View z [])(F:Fit k z)(H:Env E B w)(hk:k<400000000000)(hb:w.heap[b]?=some (.cells (newRow d) 79 (0,0)))(a5:ρ b=.none)(N:B<=b):Calls prog 61 #[P1 b] w λe w'=>e=.returned .nilIface/\∃ S',N9 z S' true/\qi S'/\mo E B w ρ d b S' (k+1000) Rf.Man.first 0 [] w':=by
 have U:=zK 0 hb;simp at U;have j:z.keys=[]:=by have:=a8.keys;simpa using this
 have c:jd.z8 [] z=(z.called false,true):=by unfold jd.z8;rw[if_neg (by rw[a6.bad];decide),j];rfl
 have q:=cw D (F.small zC) S5 [] B (zU _ _ _ _) (λg hg=>by cases hg) zD (λn hn=>by rw[j] at hn;cases hn) (by rw[j];have:=F.safe;grind);rw[c] at q;have G:=jb q;have HB:=jb hb;have HK:=jb hk;have J:qi (z.called false):=a6.called false;have L:=a8.called false;have S:=F.called false;obtain⟨O,s⟩:=zJ (z.called false);rw[<-s] at G J L S;change Hid _ at s;clear q hb hk c j;go_enter func61,ntmps61;go_wp2_with fail;refine G.out.mono ?_;rintro e c ⟨r,Z,f,⟨_,rfl⟩|⟨aj,_⟩⟩;rotate_left;cases aj;simp only at f;obtain⟨v,b3⟩:=Z.row HB a5;obtain⟨y,o⟩:=zJ c.heap.size;obtain⟨x,C⟩:=zJ (c.alloc (.cells #[aA 2,aA 0,aA 1,aA 0,S5] 75));have q:ja c x N_:=by grind [ja.alloc]
 have M:x.heap[y]?=some (.cells #[aA 2,aA 0,aA 1,aA 0,S5] 75 (0,0)):=by grind [jf]
 have D2:=f.same q;have m:=q.same v id;have ny:r y=.none:=XX (λhn=>zA<|f.rep.lt y hn);have f:Env E B c:=H.keep Z.keeps λi t=>D.yx i t
 have T:=f.same q;have j:=zK 0 m;have z2:=zK 2 M;simp at j z2;have j:x.drew.cell? (A2 b)=some (.pointer<|some (A2 d)):=j;have z2:x.drew.cell? (B1 y 2)=some (aA 1):=z2;have f:∀ W,ja x W N_->Calls prog 30 #[aA 1] W λe w'=>e=.returned (je<|jj 1)/\ja W w' N_:=λW I=>Q9 1 zC<|T.same I
 have aa:(jj 1).length<100:=by grind [yu,jj]
 have A:∀ W,ja x W N_->Calls prog 76 #[P1 d,je (jj 1),S5] W λe w'=>e=.returned .nilIface/\∃ l X,Yf (jj 1) [] O l true/\yc x r w' X/\Dk E B w' X d l:=λW I=>by refine(A5 (D2.same I) S (jj 1) (J3 _) _ [] (Sh W) (λp n c e=>by cases e)<|by have:=HK.out;grind).mono ?_;intro e w' h;(obtain⟨l,u,G,X,g,u,u⟩:=h.before<|yc.of I λ_ _ h=>h.elim);obtain⟨y,_,_⟩:=J.lay (J3 1) L (by simp[js,qe]) G;subst y;obtain⟨_,rfl⟩|⟨G,_⟩:=u;grind;cases G
 have R:=jb f;have u:=jb A;have V:=jb m;have W:=jb M;have Y:=jb o;have y:ja x x.drew N_:=ja.drew _ _;change Hid _ at aa;clear f A v m M o U;obtain⟨o,f⟩:=zJ (jj 1);rw[<-f] at R u;change Hid _ at f;go_wp2_with fail;rw[<-C,<-Y.out];clear C;go_cut [5] from 6 (λv m=>v=.nilIface/\∃ l X,Yf o [] O l true/\yc x r m X/\Dk E B m X d l);case first=>go_region_law (first|(refine jx rfl 30 [.tmp 20] _ rfl J4 [aA 1] (by simp[Act.eval,Act.put]) (R.out _ y) ?_;rintro e bs ⟨rfl,a4⟩;have j:=a4.cell j id;have y:=y.tt a4;refine⟨_,rfl,?_⟩)|(refine jx rfl 76 [.tmp 18,.tmp 21,.const S5] _ rfl gy [P1 d,je o,S5] (by simp[Act.eval,Act.put]) (u.out _ y) ?_;rintro e br ⟨rfl,l,bq,l,l,l⟩;refine⟨_,rfl,?_⟩));(all_goals go_wp2;go_meet);all_goals grind
 case rest=>obtain⟨rfl,l,l,m,Y,x⟩:=hcut;(have C:o≠[]:=by rw[f.out];exact J3 _);have v:=S.I1 C m;obtain⟨_,ay,M⟩:=J.lay C L (by simp[js,qe]) m;(have U:o.length<100:=by rw[f.out];exact aa);change Hid _ at m;obtain⟨S,A⟩:=Y.row V b3;have o:=(Y.row W ny).1;have t0:=zK 0 o;have l:=zK 1 o;have t2:=zK 2 o;have t3:=zK 3 o;have t4:=zK 4 o;simp at t0 l t2 t3 t4;(have l:=T.keep Y.keeps λi t=>D2.yx i t);(have ah:Rf.Man.first.bytes.length=42:=by rw[j5];rfl);have r:=oz x v l Rf.Man.first Rf.St.Ok.first.yn zE S5 (Jf.nil _) (λp n c e=>by cases e) S A N (by have:=HK.out;grind);have ab:ng Rf.Man.first S5=.agg #[aA 2,aA 0,aA 1,aA 0,S5]:=rfl;rw[ab] at r;have al:=jb r;clear r ab o j z2 y R u;go_wp2_with fail;refine al.out.mono ?_;rintro e A ⟨y,j,r,j,t,u,x,T,l⟩;have o:=v.za j;rw[ah] at o;obtain⟨v,C,bt⟩:=ay.install M (λn hn=>by(have e:n=jj 1:=by grind [jz,Rf.Man.first,Rf.Man.settled]);exact⟨[],jjj.2<|.inl<|by rw[e,f.out]⟩) (by grind [Yc,qe,js]) j;subst v;rw[if_pos rfl] at l;obtain⟨_,rfl⟩|⟨G,_⟩:=T;rotate_left;cases G;have v:=jb j;have G:=U;clear j;change Hid _ at l;go_wp2;go_ret;have j:=Z.keeps.size;have j:=q.size;have bv:=Y.keeps.size;have bu:=t.size;have ai:b<w.heap.size:=zO HB;(have a9:∀ i,i<w.heap.size->r i=ρ i:=λi hi=>(u i zC).trans<|(Y.role i zC).trans<|Z.role i hi);(have I:ja w A (λi=>ρ i≠.none\/i=b):=(((Z.keeps.mono λi _ h=>(Or.inl h:ρ i≠.none\/i=b)).trans q λ_ _ h=>h.elim).trans Y.keeps λi hi h=>.inl<|by rw[<-Z.role i hi];exact h).trans t λi hi h=>h.imp (λh=>zF) id);refine⟨rfl,y,.inr ⟨O,by show _=_;rw[s.out],.inr ⟨_,by rw[<-f.out];exact m,.inr ⟨_,v,rfl,rfl⟩⟩⟩,C,r,S5,S5,⟨H.keep (I.mono λi hi h=>(show B<=i from h.elim (λh=>D.yx i h) (λh=>by rw[h];exact N))) λi h=>h,x,o.mono zF,l,Jf.nil _,zU _ _ _ _,⟨(a9 b ai).trans a5,N⟩,λp n c e=>(by cases e),λg hg=>(by cases hg),Rf.St.Ok.first.yn,List.Pairwise.nil,zX _,zE⟩,I,a9,λg hg=>(by cases hg),λp n c e=>(by cases e)⟩
theorem jdb{ρ:Nat->j4}{q:jd}(D:Dk E B w ρ d q)(V:qi q)(Z:View q [])(F:Fit k q)(H:Env E B w)(hk:k<400000000000)(hb:w.heap[b]?=some (.cells (newRow d) 79 (0,0)))(U:ρ b=.none)(a9:B<=b):Calls prog 24 #[P1 b] w λe w'=>e=.returned .nilIface/\∃ S',N9 (q.called false) S' true/\qi S'/\mo E B w ρ d b S' (k+1000) Rf.Man.first 0 [] w':=by
 obtain⟨x,O⟩:=zJ w.heap.size;obtain⟨c,Y⟩:=zJ (w.alloc (.cells #[.nilIface] 81));have n:ja w c N_:=by grind [ja.alloc]
 have i:c.heap[x]?=some (.cells #[.nilIface] 81 (0,0)):=by grind [jf]
 have I:=n.same hb id;have c:=zO hb;have u:ρ x=.none:=XX (λc=>zA<|D.rep.lt x c);have j:=D.same n;have a2:∀ {W:World},Dk E B W ρ d q->Calls prog 59 #[P1 d,je jk] W λe w'=>yc W ρ w' ρ/\Dk E B w' ρ d (q.called false)/\∃ v,e=.returned (.tuple #[S5,v])/\Err E w' v 1:=λ{W} c=>by refine(Y8 c (F.small zC) jk zE).mono ?_;rintro e w' ⟨g,ao,⟨s,_⟩|⟨_,_,v,rfl,l⟩|⟨_,f,a,v,c,m,_⟩⟩;rw[V.bad] at s;cases s;exact⟨g,ao,v,rfl,l⟩;have:=Z.of c m;cases this
 have c:=a2 j;have r:=zK 0 I;simp at r;have j:∀ o,(w.alloc o).cell? (A2 b)=some (.pointer<|some (A2 d)):=λo=>by have:=zM (o:=0)<|(ja.alloc w o λ_=>False).same hb id;simpa using this
 have al:=jb c;change Hid _ at O i I hk;clear c hb a2;go_enter_defers func24,ntmps24;go_wp2_with fail;rw[<-Y,<-O.out];clear Y j;refine al.out.mono ?_;rintro e m ⟨p,R,v2,rfl,C⟩;obtain⟨c,l,rfl⟩:=C.shape;have j:=(p.row i u).1;have s:=(p.row I U).1;have z:x≠b:=zA O.out;obtain⟨M,A⟩:=zJ (m.setCell (A2 x) (.iface c<|.pointer<|some l));have N:ja m M (λi=>i=x):=by grind [ja.setCell]
 have m:M.heap[x]?=some (.cells #[.iface c (.pointer<|some l)] 81 (0,0)):=by rw[A];exact(jc j _).trans rfl
 have a5:=N.same s<|Ne.symm z;have a8:B<=x:=by rw[O.out];exact D.size
 have o:Dk E B M ρ d (q.called false):=⟨R.rep.keep N λi e _=>by rw[e];exact u,R.Jk.keep N λi e=>by rw[e];exact a8,R.yx,zW R.size N.size⟩;have a0:Err E M (.iface c<|.pointer<|some l) 1:=C.keep N (λi c e l=>by rw[e,j] at l;cases l);have G:=wo o.Jk a0 1 zE;rw[decide_eq_true rfl] at G;have l:=o.Jk.cell 1 zE;have l:=R.Jk.cell 1 zE;have l:=R.Jk.lt 1 zE;have l:¬x=1:=zC;have l:¬1=x:=zC;have l:=zK 0 j;have t:=zL 0 j;have t:=zK 0 m;simp at l t;have y:ja w M (λi=>ρ i≠.none\/i=b):=((n.up).trans p.keeps λi _ h=>.inl h).trans N (λi hi e=>zA O.out);have l:Env E B M:=H.keep (y.mono λi hi h=>(show B<=i from h.elim (λh=>D.yx i h) (λh=>by rw[h];exact a9))) λi h=>h
 have a4:=jms o (V.called false) (Z.called false) (F.called false) l hk a5 U a9;have l:=jb G;have n:=jb a4;change Hid _ at m;clear G a4 j s a5 C a0 r;go_wp2_with fail;rw[<-A];clear A;refine l.out.mono ?_;rintro e r ⟨rfl,rfl⟩;go_wp2_with fail;refine n.out.mono ?_;rintro e n ⟨rfl,L,s,ai,v,S,T,p,o,aj,a3,aa⟩;have l:=o.same m λt=>t.elim (λt=>t u) z
 have j:=zK 0 l;have u:=zL 0 l;simp at j;obtain⟨j,X⟩:=zJ (n.setCell (A2 x) .nilIface);have u:ja n j (λi=>i=x):=by grind [ja.setCell]
 have J:j.heap[x]?=some (.cells #[.nilIface] 81 (0,0)):=by rw[X];exact(jc l _).trans rfl
 have A:=zK 0 J;simp at A;have n:x<r.heap.size:=zO m;have m:StM E B j v d b L (k+1000) Rf.Man.first 0 [] false S T:=p.keep u (λi _ e=>by rw[e];refine⟨a8,λt=>?_,λp n c r r=>?_⟩;obtain t|t|t:=t;simp_all;exact z t;have:=a3 x t;omega;grind);have r:mo E B w ρ d b L (k+1000) Rf.Man.first 0 [] j:=by have bh:=y.size;refine⟨v,S,T,m,(y.trans o λi hi h=>h).trans u λi hi e=>zA O.out,λi hi=>aj i zC,λg i=>zA<|a3 g i,λp n c e=>zA<|aa p n c e⟩
 change Hid _ at r s J;clear l;go_wp2;rw[<-X];refine leaves_cons (f:=57) (args:=#[P1 b,P1 x]) zD (by simp[go_sem]) ?_;refine(Bh b x .returning _ A).mono ?_;rintro e c w' ⟨rfl,rfl,rfl⟩;exact⟨.nilIface,Zx rfl rfl J,rfl,L,s,ai,r⟩
theorem jer{ρ:Nat->j4}{j:jd}(D:Dk E B w ρ d j)(v:qi j)(x:View j [])(F:Fit k j)(H:Env E B w)(I:k<400000000000):Calls prog 9 #[P1 d] w λe w'=>∃ S',N9 (j.called false) S' true/\qi S'/\jex E B w ρ d (k+1000) Rf.Man.first 0 [] e w' S':=by
 obtain⟨b,f⟩:=zJ w.heap.size;obtain⟨A,l⟩:=zJ (w.alloc (.cells (newRow d) 79));have r:ja w A N_:=by grind [ja.alloc]
 have o:A.heap[b]?=some (.cells (newRow d) 79 (0,0)):=by grind [jf]
 have m:=jdb (D.same r) v x F (H.same r) I o (XX λc=>zA<|D.rep.lt b c) (by rw[f];exact D.size);have z:=jb m;change Hid _ at f;clear m o;go_enter func9,ntmps9;go_wp2_with fail;rw[<-l,<-f.out];clear l;refine z.out.mono ?_;rintro e L ⟨rfl,S',R',w',C,s,t,J,G,u,y,q⟩;change Hid _ at R';go_wp2;go_ret2;have M:=r.size;exact⟨S',R',w',b,C,s,t,rfl,by rw[f.out];exact ZG _,J,(r.up).trans G λi hi h=>h.elim id λe=>zA f.out,λi hi=>u i zC,λg c=>zA<|y g c,λp n c e=>zA<|q p n c e⟩
end
section
variable {S S':jd} {U:Nat} {m:Rf.Man} {bls:List (List Rf.Ch)} {Q R:Want} {s:Rf.St}
structure Pre(S:jd)(U:Nat):Prop where
 tied:S.names=S.late.foldl doA S.safe
 wf:∀ f a,S.files f=some a->a.Wf
 small:∀ f a,S.files f=some a->a.bytes.length<=60000
 cur:∃ T,Names S.names S.files U T
theorem Pre.Jc(h:Pre S U)(c:S'.names=S.names)(b:S'.files=S.files)(f:S'.safe=S.safe)(d:S'.late=S.late):Pre S' U:=⟨by rw[c,f,d];exact h.tied,by rw[b];exact h.wf,by rw[b];exact h.small,by rw[c,b];exact h.cur⟩
theorem Pre.sync(h:Pre S U)(n:Str):Pre (S.qo n).1 U:=by
 obtain⟨e,_⟩|⟨f,a,_,_,g,e⟩:=Zw S n;rw[e];exact h.Jc rfl rfl rfl rfl
 .rw[e];obtain⟨T,j⟩:=h.cur;refine⟨h.tied,λi b k=>?_,λi b k=>?_,T,j.write (c:=0) g<|ZG _⟩;all_goals have d:yg.put S.files f a.synced i=some b:=k;by_cases e:i=f;subst e;rw[yg.yy] at d;cases d;(first|exact Rb a|exact h.small _ a g);rw[yg.zr _ _ e] at d;first|exact h.wf i b d|exact h.small i b d
theorem Pre.dir(h:Pre S U):Pre S.Za.1 U:=by obtain⟨_,e⟩|⟨_,e⟩:=Zt S;rw[e];exact h.Jc rfl rfl rfl rfl;rw[e];exact⟨h.tied,h.wf,h.small,h.cur⟩
theorem Pre.sure(h:Pre S U)(ns:List Str):Pre (jd.x8 ns S).1 U:=by induction ns generalizing S with|nil=>exact h.dir|cons n r ih=>unfold jd.x8;split;exact ih<|h.sync n;exact h.sync n
theorem Pre.made(h:Pre S U){f:Nat}{a:j2}{n:Str}(k:S.files f=none)(s:a.Wf)(t:a.bytes.length<=60000)(p:n≠[])(o:n.length<=60)(l:S'.names=doA S.names ⟨n,[],[],some f⟩)(r:S'.late=S.late++[⟨n,[],[],some f⟩])(q:S'.safe=S.safe)(d:S'.files=yg.put S.files f a):Pre S' (U+1+a.bytes.length)/\S'.at n=some f/\(∀ x P,x≠n->At S x P->At S' x P)/\∀ ns,Qp S ns->Qp S' (n::ns):=by
 obtain⟨T,j⟩:=h.cur;have c:Names S'.names S'.files (U+1+a.bytes.length) ((n,f)::js T n):=by rw[l,d];exact j.made k a p o
 refine⟨⟨by rw[l,r,q,List.foldl_append,<-h.tied];rfl,λi b m=>?_,λi b m=>?_,_,c⟩,c.fs.at.2 xO,λx P u y=>(At.sat c).2 ?_,λns v x g u=>?_⟩;rw[d] at m;by_cases e:i=f;grind [yg.yy];rw[yg.zr _ _ e] at m;exact h.wf i b m;rw[d] at m;by_cases e:i=f;grind [yg.yy];rw[yg.zr _ _ e] at m;exact h.small i b m;rw[d];exact((((At.sat j).1 y).fresh k a).js u).cons _;obtain e|m:=xN.1 (c.fs.at.1 u);simp_all;exact xP _<|v x g<|j.fs.at.2 (qh.1 m).1
theorem Pre.lay(h:Pre S U){n:Str}{b:By}(j:n≠[])(i:n.length<=60)(z:b.length<=60000)(r:Yf n b S S' true):Pre S' (U+1+b.length)/\At S' n (λa=>a.bytes=b/\(b=[]->zo [] a))/\(∀ x P,x≠n->At S x P->At S' x P)/\∀ ns,Qp S ns->Qp S' (n::ns):=by unfold Yf at r;split at r;rename_i hb;subst hb;obtain⟨_,_,e⟩|⟨_,_,f,d,rfl⟩:=r;cases e;obtain⟨g0,m,l,k⟩:=Pre.made (S':=((S.called true).withFile f qg).named ⟨n,[],[],some f⟩) (a:=qg) h d sn (zT _) j i rfl rfl rfl rfl;exact⟨g0,⟨f,qg,m,yg.yy _ _ _,rfl,λ_=>⟨rfl,rfl,rfl⟩⟩,l,k⟩;rename_i hb;obtain⟨_,e⟩|⟨C,s,q⟩:=r;cases e;obtain⟨_,_,e⟩|⟨_,_,f,d,rfl⟩:=s;cases e;obtain⟨_,e⟩|⟨B,⟨A,a',o,v,u⟩,y,_⟩:=q;cases e;subst y;rw[(Pre.made (S':=((S.called true).withFile f qg).named ⟨n,[],[],some f⟩) (a:=qg) h d sn (zT _) j i rfl rfl rfl rfl).2.1] at o;cases o;have c:yg.put S.files f qg f=some a':=v;rw[yg.yy] at c;cases c;obtain⟨_,_,e⟩|⟨_,_,rfl,_⟩:=u;cases e;have p:(((((S.called true).withFile f qg).named ⟨n,[],[],some f⟩).called true).withFile f<|qg.put b).files=yg.put S.files f (qg.put b):=je9 S.files f qg<|qg.put b;obtain⟨t,g⟩:=G4 b;obtain⟨g0,m,l,k⟩:=Pre.made (S':=((((S.called true).withFile f qg).named ⟨n,[],[],some f⟩).called true).withFile f<|qg.put b) (a:=qg.put b) h d t (by rw[g];omega) j i rfl rfl rfl p;rw[g] at g0;exact⟨g0,⟨f,qg.put b,m,by rw[p];exact yg.yy _ _ _,g,λe=>absurd e hb⟩,l,k⟩
theorem jem(J:S.names=.map [])(hs:S.safe=.map [])(hl:S.late=[])(W:∀ f,S.files f=none)(Y:Q.now Rf.St.first)(r:N9 S S' true):Norm S' 200 Rf.St.first Q:=by
 have h0:Pre S 0:=⟨by rw[J,hs,hl];rfl,λf a e=>(by rw[W] at e;cases e),λf a e=>(by rw[W] at e;cases e),[],by rw[J];exact⟨di.nil,λp hp=>(by cases hp),List.Pairwise.nil,ZG _,λp hp=>(by cases hp)⟩⟩;have o0:Qp S []:=λn f s=>by unfold jd.at at s;rw[J] at s;rw[di.nil.none (λf h=>by cases h)] at s;cases s
 unfold N9 at r;obtain⟨_,e⟩|⟨I,U,k⟩:=r
 .cases e
 have z:(S.called false,true)=(I,true):=U;have z:I=S.called false:=(congrArg Prod.fst z).symm;have h1:Pre I 0:=by rw[z];exact h0.Jc rfl rfl rfl rfl
 have o1:Qp I []:=by rw[z];exact o0.Jc rfl
 clear U z;obtain⟨_,e⟩|⟨S2,r2,k⟩:=k
 .cases e
 have G:(jj 1).length<=60:=sq zC;obtain⟨h2,a2,b2,c2⟩:=h1.lay (J3 1) G (zT _) r2;have o2:=c2 _ o1;obtain⟨_,e⟩|⟨S3,R,e3,_⟩:=k
 .cases e
 subst e3;unfold za at R;have az:jz Rf.Man.first=[jj 1]:=rfl;have E:Rf.Man.first.bytes.length=42:=by rw[j5];rfl
 obtain⟨_,e⟩|⟨T1,q1,k⟩:=R
 .cases e
 have A:jd.x8 (jz Rf.Man.first) S2=(T1,true):=q1;have V:=h2.sure (jz Rf.Man.first);have O:=Au a2 (jz Rf.Man.first) zG (by rw[A]) (λa q=>⟨q.1,λe=>(q.2 e).synced⟩);have n1:Qp T1 [jj 1]:=o2.Jc (by grind [Gn]);rw[A] at V O;obtain⟨_,e⟩|⟨T2,q2,k⟩:=k
 .cases e
 obtain⟨p2,a3,b3,c3⟩:=V.lay (n:=ju) zE zE zC q2;have n2:=c3 _ n1;have s2:=b3 _ _ (λe=>Kd 1 e.symm) O;obtain⟨_,e⟩|⟨d,q3,k⟩:=k
 .cases e
 have j:T2.qo ju=(d,true):=q3;have v:=p2.sync ju;have t3:At d ju (zo Rf.Man.first.bytes):=by have:=As (S:=T2) ju (by rw[j]) a3;rw[j] at this;exact this.mono (λa ⟨b,q,e⟩=>by rw[e];exact⟨q.1,by show b.bytes.length=_;rw[q.1],rfl⟩)
 have s3:At d (jj 1) (zo []):=by have:=(s2.mono (λa q=>q.1.2 rfl)).sync ju (λa q=>q.synced);rwa [j] at this
 have n3:Qp d (ju::[jj 1]):=n2.Jc (by grind [lj]);rw[j] at v;obtain⟨_,e⟩|⟨T4,q4,e4,_⟩:=k
 .cases e
 subst e4;have c:x7 (d.qz ju jk)=(S',true):=q4;unfold x7 at c;split at c;rotate_left
 .cases c
 rename_i hok;obtain⟨e,_⟩|⟨f,_,s,e⟩:=my d ju jk zE
 .rw[e] at hok;cases hok
 rw[e] at c;obtain⟨T,H⟩:=v.cur;have hm:=H.fs.at.1 s;obtain⟨f',a,F,X,B⟩:=t3;rw[s] at F;cases F;have Z:=H.renamed (a:=a) hm (ds:=jk) zE zE zE;have N:(y9 d.files f).length=42:=by unfold y9;rw[X];show a.bytes.length=42;rw[B.bytes,E]
 rw[N,E] at Z;obtain⟨_,M⟩|⟨_,M⟩:=Zt ((d.called true).named ⟨[],ju,jk,some f⟩)
 .rw[M] at c;cases c
 rw[M] at c;have y:=(congrArg Prod.fst c).symm;simp only at y;have D:S'.names=doA d.names ⟨[],ju,jk,some f⟩:=by rw[y];rfl
 have i:S'.files=d.files:=by rw[y];rfl
 have t:S'.late=[]:=by rw[y]
 have C:S'.safe=S'.names:=by rw[D,y];show(d.late++[_]).foldl doA d.safe=_;rw[List.foldl_append,<-v.tied];rfl
 have u:Names S'.names S'.files 200 ((jk,f)::js (js T jk) ju):=by rw[D,i];exact Z.mono zG
 have m:Sat ((jk,f)::js (js T jk) ju) S'.files (jj 1) (zo []):=by rw[i];exact((((At.sat H).1 s3).js (λe=>mc 1 e.symm)).js (λe=>Kd 1 e.symm)).cons _
 have l:(⟨Rf.Man.first,[],[]⟩:Rf.St).Ok:=Rf.St.Ok.first;have o:Qx S'.files 200 Rf.Man.first [] Q S'.names:=⟨_,u,⟨f,a,xO,by rw[i];exact X,B⟩,λp hp=>(by cases hp),m.mono (λa q=>Jr.sure (bs:=[]) q l Y)⟩;have hP:Pow S' 200 Rf.Man.first [] Q:=⟨by rw[t,C];rfl,by rw[i];exact v.wf,by rw[i];exact v.small,by rw[t,C];exact⟨_,_,o⟩,o⟩;refine oa hP t ((At.sat u).2 m) l Y (λx g hx=>?_);rw[Xm];obtain e|hq:=xN.1 (u.fs.at.1 hx)
 .cases e;exact .inr (.inr rfl)
 .have h3:=qh.1 hq;have L:=n3 x g (H.fs.at.2 (qh.1 h3.1).1);obtain e|L:=xN.1 L;(· exact absurd e h3.2);· exact .inr (.inl (xV.1 L))
end
section
variable {E:Nat->Addr} {B b d k:Nat} {w:World} {deg:Bool} {mv rv:Value}
theorem StM.stay{w':World}{ρ:Nat->j4}{k' last:Nat}{S S':jd}{m:Rf.Man}{ml:L1}{f:Bool}(h:StM E B w ρ d b S k m last ml deg rv mv)(j:ja w w' (λi=>ρ i≠.none\/i=b))(D:Dk E B w' ρ d S')(F:Fit k' S')(l:w'.heap[b]?=some (.cells (dq d m rv last mv f) 79 (0,0))):StM E B w' ρ d b S' k' m last ml f rv mv/\ja w w' (StF ρ b mv):=by refine⟨⟨h.env.keep j λi t=>t.elim (λt=>h.yk.yx i t) λt=>by rw[t];exact h.nb.2,D,F,l,h.runs.keep j λ_ p n c e t=>?_,j.row h.mem λg o t=>t.elim (λt=>t (h.nm g o).1) λt=>(h.nm g o).2 t,h.nb,λp n c e=>?_,h.nm,h.yn,h.rising,h.few,h.bw⟩,j.mono λi _ t=>t.elim .inl λt=>.inr<|.inl t⟩;obtain⟨o,a2,a3,a4,a5⟩:=h.nr p n c e;simp_all;obtain⟨o,a2,a3,a4,a5⟩:=h.nr p n c e;exact⟨o,a2,a3,a4,zZ a5 j.size⟩
def jmu(E:Nat->Addr)(B:Nat)(w:World)(ρ:Nat->j4)(d b:Nat)(rv mv:Value)(S:jd)(k:Nat)(s:Rf.St)(deg:Bool)(lo hi:Str)(most:Nat)(e:Ending)(w':World):Prop :=
 ∃ S',yb S S'/\((∃ v,e=.returned (.tuple #[v,aA 0])/\w'.ownsRow w.heap.size 120 2 v (Rf.Zi s.all lo hi most).length (Jb (Rf.Zi s.all lo hi most))/\(StM E B w' ρ d b S' k s.m s.last s.mem deg rv mv/\ja w w' (StF ρ b mv))) \/
  (¬qi S/\e=.returned (.tuple #[S5,aA 1])/\(StM E B w' ρ d b S' k s.m s.last s.mem true rv mv/\ja w w' (StF ρ b mv))))
theorem jnh{ρ:Nat->j4}{S:jd}{s:Rf.St}(T:StM E B w ρ d b S k s.m s.last s.mem deg rv mv)(o:s.Ok)(x:Xo S s)(G:k<549755813888)(J:s.all.length<1048576)(lo hi:Str)(most:Nat)(j:most<9223372036854775808):Calls prog 92 #[P1 b,je lo,je hi,j9 most] w (jmu E B w ρ d b rv mv S k s deg lo hi most):=by
 have y:s.mem.drop (Rf.below s.mem lo)=s.mem.filter (Rf.qt lo):=Rf.Co (Rf.zv _) lo;have M:iy hi (Z5 (s.mem.drop<|Rf.below s.mem lo) S)=some (s.mem.filter λc=>lz lo hi c.key):=by unfold iy Z5;rw[if_pos (.inl rfl),y];show some (aa hi<|s.mem.filter<|Rf.qt lo)=_;rw[vy (l:=s.mem) (Rf.zv _)]
 have L:(Z5 (s.mem.drop<|Rf.below s.mem lo) S).1=S:=rfl;obtain⟨S',u,e⟩:=Nb hi lo (s.bls.map Rf.chunks) S;rw[jlr o] at e;have i:qj hi (Z5 (s.mem.drop<|Rf.below s.mem lo)::ya (s.bls.map Rf.chunks) lo) S=(S',.inl (s.mem.filter (λc=>lz lo hi c.key)::s.bls.map (λl=>l.filter λc=>lz lo hi c.key)))\/(qj hi (Z5 (s.mem.drop<|Rf.below s.mem lo)::ya (s.bls.map Rf.chunks) lo) S=(S',.inr true)/\¬qi S):=by grind [Bw]
 have C:=jaa o lo hi;have F:(Xu<|qj hi (Z5 (s.mem.drop<|Rf.below s.mem lo)::ya (s.bls.map Rf.chunks) lo) S).length<1048576:=by obtain i|⟨i,_⟩:=i;(· rw[i];show(Rf.merged _).length<_;omega);· rw[i];exact zX _
 have H:=T.bw;refine(jij s.m rv (jg s.last) mv s.mem deg (s.bls.map Rf.chunks) T.env T.yk ⟨T.fit,x.bytes⟩ (vn o.yn o.len o.bl G) T.row (λh=>h T.nb.1) T.nb.2 T.runs zC (yf T.mem) (Ru o T.few) (λp n c e=>?_) lo hi most j F).mono ?_
 ·(have q:mv.ownBlock=some p.block:=by rw[e];rfl);exact⟨λt=>t (T.nm _ q).1,(T.mem.lt _ q).2⟩
 .rintro N w' ⟨z,r,h⟩;have A:=u.fit T.fit;obtain i|⟨i,D⟩:=i;(· rw[i] at r h;refine⟨S',u,?_⟩;obtain⟨v,rfl,_,I,g⟩|⟨f,_,_⟩:=h;(· refine .inl ⟨v,rfl,?_,T.stay z r A g⟩;grind [Xu,jkr]);· exact(f rfl).elim);· rw[i] at r h;refine⟨S',u,.inr ⟨D,?_⟩⟩;obtain⟨v,_,f,_,_⟩|⟨_,rfl,g⟩:=h;(· obtain f|f:=f;(· cases f);· exact(f rfl).elim);· exact⟨rfl,T.stay z r A g⟩
end
section
variable {S S':jd}
def Cl(S S':jd):Prop:=S.cut = -1->S'.cut = -1
theorem Cl.refl(S:jd):Cl S S:=id
theorem Cl.trans{T:jd}(h:Cl S S')(k:Cl S' T):Cl S T:=λc=>k<|h c
theorem Cl.sync(S:jd)(n:Str):Cl S (S.qo n).1:=λc=>by unfold jd.qo;split;exact zu true c;split;exact zu true c;split;exact zu true c;exact zu true c
theorem Cl.dir(S:jd):Cl S S.Za.1:=λc=>by grind [jd.Za,zu]
theorem Cl.remove(S:jd)(n:Str):Cl S (S.xw n).1:=λc=>by unfold jd.xw;split;exact zu true c;split;exact zu true c;exact zu true c
theorem Cl.rename(S:jd)(a b:Str):Cl S (S.qz a b).1:=λc=>by unfold jd.qz;split;exact zu true c;split;exact zu true c;split;exact zu true c;exact zu true c
theorem Cl.x7{F:jd×Bool}(h:Cl S F.1):Cl S (Go.Proofs.YtdaocdiabffpkaaGreatDoor.x7 F).1:=by unfold Go.Proofs.YtdaocdiabffpkaaGreatDoor.x7;split;exact h.trans<|Cl.dir _;exact h
theorem Cl.sure:∀(ns:List Str) (S:jd),Cl S (jd.x8 ns S).1
 | [],S=>Cl.dir S
 | n::r,S=>by
  unfold jd.x8
  split
  .exact(Cl.sync S n).trans (Cl.sure r _)
  .exact Cl.sync S n
theorem Cl.Ze:∀(ns:List Str) (S:jd),Cl S (jd.yj ns S).1
 | [],S=>id
 | n::r,S=>by
  unfold jd.yj
  split
  .exact(Cl.remove S n).trans (Cl.Ze r _)
  .exact Cl.remove S n
theorem Cl.removeAll(ns:List Str)(S:jd):Cl S (jd.jt ns S).1:=by unfold jd.jt;split;exact id;exact Cl.x7<|Cl.Ze ns S
def Xp(R:DStep):Prop:=∀ S S' ok,R S S' ok->Cl S S'
theorem Xp.fn{f:jd->jd×Bool}(h:∀ S,Cl S (f S).1):Xp (Fn f):=λS S' ok r=>by have:=h S;rw[show f S=(S',ok)from r] at this;exact this
theorem Xp.app(n:Str)(b:By):Xp (Oq n b):=λS S' ok r c=>by obtain⟨f,a,_,_,⟨_,rfl,_⟩|⟨_,_,rfl,_⟩⟩:=r;exact zu true c;exact zu true c
theorem Xp.cre(n:Str):Xp (P6 n):=λS S' ok r c=>by obtain⟨_,rfl,_⟩|⟨_,_,f,_,rfl⟩:=r;exact zu true c;exact zu true c
theorem Xp.turn:∀ {l:List DStep},(∀ r∈l,Xp r)->Xp (ub l)
 | [],_=>λS S' ok r=>by
  obtain⟨rfl,_⟩:=r
  exact id
 | x::l,h=>λS S' ok r=>by
  have ih:=Xp.turn (λr b=>h r (xP _ b))
  have b:=h x (xO ..)
  rcases r with⟨r,_⟩|⟨f,d,c⟩
  .exact b _ _ _ r
  .exact(b _ _ _ d).trans (ih _ _ _ c)
theorem Xp.lay(n:Str)(b:By):Xp (Yf n b):=by grind [Yf,Xp.cre,Xp.turn,Xp.app]
theorem Xp.install(m:Rf.Man):Xp (za m):=Xp.turn (λr b=>by grind [Xp.fn,Cl.sure,Xp.lay,Cl.sync,Cl.x7,Cl.rename])
theorem Xp.flush(m:Rf.Man)(last:Nat)(l:L1):Xp (wy m last l):=Xp.turn (λr b=>by grind [Xp.fn,Cl.sync,Xp.lay,Xp.install])
theorem Xp.j6(m:Rf.Man)(l:L1):Xp (Qu m l):=by grind [Qu,Xp.install,Xp.turn,Xp.fn,Cl.sync,Xp.lay]
end
theorem jla{E:Nat->Addr}{B:Nat}{w:World}{ρ:Nat->j4}{d b k:Nat}{SD:jd}{m:Rf.Man}{last:Nat}{mem:L1}{rv R:Value}(S:StM E B w ρ d b SD k m last mem false rv R)(hk:k<540000000000)(ev:Value)(es:L1)(Z:Rf.qv es=true)(x:Chs w ev es)(s:∀ p n c,ev=.slice (some p) n c->¬StF ρ b R p.block)(F:last<1000000000)(D:mem.length+8<60000)(a6:∃ f a,SD.at (jj m.log)=some f/\SD.files f=some a):Calls prog 11 #[P1 b,ev] w λe w'=>∃ S' ok,Oq (jj m.log) (Rf.jn (last+1) es) SD S' ok/\((ok=true/\e=.returned (aA 0)/\zt E B w ρ d b rv R S' (k+(Rf.jn (last+1) es).length) m (last+1) (Rf.over mem es) false w')\/(ok=false/\e=.returned (aA 1)/\zt E B w ρ d b rv R S' (k+(Rf.jn (last+1) es).length) m last mem true w')):=by
 obtain⟨M,h8,H⟩:=(Rf.yh es).1 Z;have y:∀ c∈es,c.key.length<1048576/\c.value.length<1048576:=λc t=>by grind [Rf.yr]
 have A:∀ c∈es,c.key.length<1099511627776/\c.value.length<1099511627776:=λc t=>zF
 have u:=ph ev es w x zC A;rw[Z] at u;have a9:=S.yn.log;have I:=S.yn.1;have L:m.log<=9223372036854775807:=zC;have C:=Ya L;have a0:(Rf.jn (last+1) es).length<600/\0<(Rf.jn (last+1) es).length:=by grind [Rf.Ju,Rf.jn,Rf.frame,Rf.jm]
 obtain⟨pe,z,rfl,_⟩:=id x;obtain⟨lo,q⟩:=zJ m.log;have o:=S.row;unfold dq at o;rw[<-q] at o;rw[<-q] at L C a6 ⊢;obtain⟨J,O⟩:=zJ (Rf.jn (last+1) es);rw[<-O] at a0 ⊢;have T:∀ W,ja w W N_->Calls prog 30 #[j9 lo] W λe w'=>e=.returned (je<|jj lo)/\ja W w' N_:=λW k=>Q9 lo L<|S.env.same k
 have V:∀ W,ja w W N_->Calls prog 31 #[aA ((last:Int)+1),.slice pe es.length z] W λe w'=>∃ p c,e=.returned (.slice p J.length c)/\w'.ownsRow W.heap.size 5 1 (.slice p J.length c) J.length (J.map qd)/\ja W w' N_:=λW k=>by have:=jhu (last+1) (.slice pe es.length z) es W zC zC y<|x.same k;rw[<-O] at this;simpa using this
 have X:∀(W:World) (v:Value),ja w W N_->W.ownsRow w.heap.size 5 1 v J.length (J.map qd)->Calls prog 29 #[P1 d,je (jj lo),v] W λe w'=>∃ l,e=.returned (aA l)/\∃ S' ok j,Hid (Oq (jj lo) J SD S' ok)/\yc w ρ w' j/\Dk E B w' j d S'/\Hid ((ok=true/\l=(0:Int))\/(ok=false/\l=1)):=λW v G g=>by obtain⟨f,a,i,r⟩:=a6;refine(jkq (S.yk.same G) S.fit zC (jj lo) C i r v J a0.2 zC (xh g)<|Ug (λi hi=>S.yk.rep.lt i hi) g).mono ?_;rintro e w' ⟨S',ok,j,l,rfl,r,g,v,t⟩;exact⟨l,rfl,S',ok,j,r,(yc.of G λ_ _ h=>h.elim).trans g,v,t⟩
 have bv:=jb O;have j:=jb u;have aw:=jb T;have U:=jb V;have ay:=jb X;have r:=jb o;have au:=jb q;have W:=zK 6 o;simp at W;have hd:decide ((1000000000:Int)<=(last:Int))=false:=zF;have aq:(last:Int)<1000000000:=zC;have hw:IntKind.i64.wrap ((last:Int)+1)=(last:Int)+1:=zQ;have Y:=jb x;change Hid _ at H A h8 D Z s F;clear O u T V X o a0 M y hk C L q a6 a9 I x;go_enter func11,ntmps11;go_wp2_with fail;refine(J5 r).mono ?_;rintro e L ⟨rfl,rfl⟩;rw[show Xz false false=0 from rfl];go_wp2_with fail;refine j.out.mono ?_;rintro e u ⟨rfl,j⟩;have N:=j.same r id;have v:=zK 0 N;have o:=zK 3 N;have q:=zK 6 N;simp at v o q;clear N;have G:ja L u.drew N_:=j.draw;go_wp2_with fail;go_region_law (first|(refine jx rfl 30 [.tmp 27] _ rfl J4 [aA lo] (by simp[Act.eval,Act.put]) (aw.out _ G) ?_;rintro e C ⟨rfl,y⟩;have G:=G.tt y;(try have u:=y.row u λ_ _ h=>h);have j:=G.same r id;have v:=zK 0 j;have o:=zK 3 j;have q:=zK 6 j;simp at v o q;clear j;refine⟨_,rfl,?_⟩)|(refine jx rfl 31 [.tmp 33,.tmp 34] _ rfl jbj [aA ((last:Int)+1),.slice pe es.length z] (by simp[Act.eval,Act.put]) (U.out _ G) ?_;rintro e C ⟨C,H,rfl,u,y⟩;have u:=qn u G.size;have G:=G.tt y;have j:=G.same r id;have v:=zK 0 j;have o:=zK 3 j;have q:=zK 6 j;simp at v o q;clear j;refine⟨_,rfl,?_⟩)|(refine jx rfl 29 [.tmp 22,.tmp 28,.tmp 35] _ rfl Pw [P1 d,je (jj lo),.slice C J.length H] (by simp[Act.eval,Act.put]) (ay.out _ _ G u) ?_;rintro e u ⟨l,rfl,bc⟩;refine⟨_,rfl,?_⟩));all_goals obtain⟨S',ok,v,j,l,I,t⟩:=bc;have G:=S.fit.jn5 j;have ar:=j;clear j;obtain⟨rfl,rfl⟩|⟨rfl,rfl⟩:=t.out;rotate_left;(· (have M:=l.keeps.same r λt=>t S.nb.1);clear hd aq hw W;go_wp2_with fail;refine(mh M).mono ?_;rintro e q ⟨rfl,y,H⟩;go_wp2;go_ret;(have j:ja L q (λi=>ρ i≠.none\/i=b):=(l.keeps.mono λi _ h=>.inl h).trans H λi hi h=>.inr h);have C:Dk E B q v d S':=⟨I.rep.keep H λi e _=>by rw[e,l.role b S.blt];exact S.nb.1,I.Jk.keep H λi e=>by rw[e];exact S.nb.2,I.yx,zW I.size H.size⟩;refine⟨S',false,ar,.inr ⟨rfl,rfl,S.next j l.role C G ?_⟩⟩;rw[au.out] at y;exact y);(have M:=l.keeps.same r λt=>t S.nb.1);(have ao:=l.keeps.row S.mem λg o t=>t (S.nm g o).1);(have U:Chs u (.slice pe es.length z) es:=Y.out.keep l.keeps λ_ p n c e t=>s.out p n c e<|.inl t);(have Y:=Sp b (.pointer<|some (A2 d)) (jg m.next) (jg m.last) (j9 lo) (jg m.base) rv (.bool false) (.bool false) last 79 R (.slice pe es.length z) mem es B u M ao (λe=>(S.nm b e).2 rfl) S.rising (zB D.out h8.out) (zA F.out) U A (zW S.yk.size l.keeps.size) λ_ p n c e=>⟨λt=>s.out p n c e<|.inr<|.inl t,λt=>s.out p n c e<|.inr<|.inr t⟩);have r:=jb Y;clear Y M ao U hd aq hw W;go_wp2_with fail;refine r.out.mono ?_;rintro e q ⟨rfl,v4,y,A,bu,bt,H⟩;change Hid _ at y A;go_wp2;go_ret;have j:ja L q (StF ρ b R):=(l.keeps.mono λi _ h=>.inl h).trans H (λi hi h=>by obtain h|h:=h;exact .inr<|.inl h;exact .inr<|.inr h.symm);(have z:∀ g,v4.ownBlock=some g->R.ownBlock=some g\/u.heap.size<=g:=λg o=>zF);(have J:∀ i,i<u.heap.size->i=b\/some i=R.ownBlock->v i=.none/\B<=i:=λi hi h=>by obtain h|h:=h;rw[h,l.role b S.blt];exact S.nb;have r:=S.mem.lt i h.symm;rw[l.role i r.2];exact⟨(S.nm i h.symm).1,r.1⟩);have a8:=Rf.Z6 S.rising (more:=es);have C:Dk E B q v d S':=⟨I.rep.keep H λi e hi=>(J i hi e).1,I.Jk.keep (H.mono λi hi e=>(show B<=i from(J i hi e).2)) λi h=>h,I.yx,zW I.size H.size⟩;refine⟨S',true,ar,.inl ⟨rfl,rfl,v,rv,v4,⟨S.env.keep (j.mono λi hi h=>(show B<=i from(S.old h).1)) λi h=>h,C,G,?_,S.runs.keep j ?_,A,?_,?_,?_,S.yn,Rf.Ql S.rising,?_,S.bw⟩,j,l.role,λg o=>?_,λp n c e=>.inl ⟨n,c,e⟩⟩⟩;show _=some (Obj.cells (dq d m rv (last+1) v4 false) _ _);unfold dq;rw[<-au.out];exact y;intro _ p n c e t;obtain⟨i,a2,a3,a4,a5⟩:=S.nr p n c e;obtain t|t|t:=t;exact t i;exact a2 t;exact a4 t;rw[l.role b S.blt];exact S.nb;intro p n c e;obtain⟨i,a2,a3,a4,a5⟩:=S.nr p n c e;refine⟨by rw[l.role _ a5];exact i,a2,a3,λt=>?_,zZ a5 j.size⟩;obtain t|t:=z _ t;exact a4 t;have:=l.keeps.size;omega;intro g o;obtain t|t:=z g o;rw[l.role g (S.mem.lt g t).2];exact S.nm g t;refine⟨XX λi=>?_,λe=>?_⟩;have:=I.rep.lt g i;omega;simp_all;have:=D.out;have:=h8.out;have:=a8.1;omega;obtain t|t:=z g o;exact .inl t;exact .inr<|zW l.keeps.size t
section
def Yp(E:Nat->Addr)(B:Nat)(w:World)(d b:Nat)(S:jd)(k:Nat)(s:Rf.St)(deg:Bool)(F:Nat->Prop):Prop :=
 ∃ ρ rv mv,StM E B w ρ d b S k s.m s.last s.mem deg rv mv/\∀ i,F i↔(StF ρ b mv i\/∃ p n c,rv=.slice (some p) n c/\p.block=i)
def yl(E:Nat->Addr)(B:Nat)(w:World)(d b:Nat)(S:jd)(k:Nat)(s:Rf.St)(deg:Bool)(F:Nat->Prop)(w':World):Prop :=
 ∃ F',Yp E B w' d b S k s deg F'/\ja w w' F/\∀ i,F' i->F i\/w.heap.size<=i
variable {E:Nat->Addr} {B:Nat} {w w':World} {d b k U:Nat} {S S':jd} {s:Rf.St} {deg:Bool} {F:Nat->Prop} {Q R:Want}
theorem Yp.old(h:Yp E B w d b S k s deg F){i:Nat}(hi:F i):B<=i/\i<w.heap.size:=by obtain⟨ρ,rv,g,T,f⟩:=h;obtain t|⟨p,n,c,e,rfl⟩:=(f i).1 hi;exact T.old t;obtain⟨j,a2,a3,a4,a5⟩:=T.nr p n c e;exact⟨a3,a5⟩
theorem Yp.keep(h:Yp E B w d b S k s deg F){T:Nat->Prop}(m:ja w w' T)(g:∀ i,i<w.heap.size->T i->B<=i/\¬F i):Yp E B w' d b S k s deg F:=by obtain⟨ρ,rv,l,M,j⟩:=h;exact⟨ρ,rv,l,M.keep m λi hi t=>⟨(g i hi t).1,λf=>(g i hi t).2<|(j i).2<|.inl f,λp n c e f=>(g i hi t).2<|(j i).2<|.inr ⟨p,n,c,e,f.symm⟩⟩,j⟩
theorem Yp.same(h:Yp E B w d b S k s deg F)(c:ja w w' N_):Yp E B w' d b S k s deg F:=h.keep c λ_ _ h=>h.elim
theorem Yp.fit(h:Yp E B w d b S k s deg F){j:Nat}(f:Fit j S):Yp E B w d b S j s deg F:=by obtain⟨ρ,rv,c,T,g⟩:=h;exact⟨ρ,rv,c,⟨T.env,T.yk,f,T.row,T.runs,T.mem,T.nb,T.nr,T.nm,T.yn,T.rising,T.few,T.bw⟩,g⟩
theorem Yp.env(h:Yp E B w d b S k s deg F):Env E B w:=by obtain⟨ρ,rv,c,T,f⟩:=h;exact T.env
theorem Yp.yk(h:Yp E B w d b S k s deg F):∃ ρ,Dk E B w ρ d S/\Fit k S/\∀ i,ρ i≠.none->F i:=by obtain⟨ρ,rv,f,T,c⟩:=h;exact⟨ρ,T.yk,T.fit,λi hi=>(c i).2<|.inl<|.inl hi⟩
theorem yl.of{ρ:Nat->j4}{rv l:Value}{s':Rf.St}{k':Nat}{f:Bool}(T:StM E B w ρ d b S k s.m s.last s.mem deg rv l)(u:∀ i,F i↔(StF ρ b l i\/∃ p n c,rv=.slice (some p) n c/\p.block=i))(h:zt E B w ρ d b rv l S' k' s'.m s'.last s'.mem f w'):yl E B w d b S' k' s' f F w':=by obtain⟨r,g,j,T',v,x,y,z⟩:=h;refine⟨λi=>StF r b j i\/∃ p n c,g=.slice (some p) n c/\p.block=i,⟨r,g,j,T',λ_=>Iff.rfl⟩,v.mono λi _ t=>(u i).2<|.inl t,λi hi=>?_⟩;obtain o|q:=zV i w.heap.size;refine .inl<|(u i).2 ?_;obtain(t|t|t)|⟨p,n,c,e,rfl⟩:=hi;exact .inl (.inl<|by rw[<-x i o];exact t);exact .inl<|.inr<|.inl t;obtain t|t:=y i t;exact .inl<|.inr<|.inr t;omega;grind;exact .inr q
theorem yl.fit{s':Rf.St}{k' j:Nat}{c:Bool}(h:yl E B w d b S' k' s' c F w')(f:Fit j S'):yl E B w d b S' j s' c F w':=by obtain⟨l,k,i,g⟩:=h;exact⟨l,k.fit f,i,g⟩
theorem Norm.fit(h:Norm S U s Q)(b:U<=60000):Fit 60000 S:=h.pow.fit h.late b
theorem Kf{α:Type}(f:α->Nat):∀ {l m:List α},l.Nodup->(∀ x∈l,x∈m)->(l.map f).sum<=(m.map f).sum
 | [],_,_,_=>by simp
 | x::r,m,hd,hs=>by
  obtain⟨a,c,rfl⟩:=List.append_of_mem (hs x xO)
  have b:=XI.1 hd
  have ih:=Kf f (l:=r) (m:=a++c) b.2 (λy b=>by
   grind)
  grind
theorem Norm.qe(h:Norm S U s Q):qe s.files<=total S.files S.names:=by
 obtain⟨T,j,k⟩:=h.pow.cur;have g:View S (Jl S.files T):=⟨T,j.fs,List.Perm.refl _⟩;rw[g.total];unfold Go.Proofs.YtdaocdiabffpkaaGreatDoor.qe;refine Kf _ ?_ λp i=>?_
 refine List.Pairwise.imp ?_ h.ok.apart;simp_all;obtain rfl|rfl|i:=Ys.1 i;obtain⟨f,a,d,c,b⟩:=h.pow.held.1;have:=g.of d c;rwa [b.bytes] at this;obtain⟨f,a,d,c,b⟩:=h.gw;have:=g.of d c;rwa [b.1] at this;obtain⟨f,a,d,c,b⟩:=h.cd p i;have:=g.of d c;rwa [b.bytes] at this
theorem Wc(l:L1):14<=(Rf.jr l).length:=by grind [Rf.jr,Rf.Jg,Rf.frame,ZA,Rf.jm]
theorem Cc:∀(ns:List Nat) (ls:List L1),ls.length=ns.length->14*ns.length<=Go.Proofs.YtdaocdiabffpkaaGreatDoor.qe (j7 ns ls)
 | [],ls,_=>zT _
 | n::r,[],h=>by cases h
 | n::r,l::q,h=>by
  have ih:=Cc r q (by simpa using h)
  have e:j7 (n::r) (l::q)=(jq n,Rf.jr l)::j7 r q:=rfl
  grind [Wc,Yk]
theorem jgr{α:Type}[DecidableEq α]{l m:List α}(c:l.Nodup)(b:∀ x∈l,x∈m):l.length<=m.length:=by
 have:=Kf (λ_=>1) c b;have e:∀ l:List α,(l.map λ_=>1).sum=l.length:=λl=>by induction l with|nil=>rfl|cons x r ih=>simp[ih];omega
 rw[e,e] at this;exact this
theorem Norm.bnd(h:Norm S U s Q)(c:total S.files S.names<=20000):Bnd s:=by have b:=h.qe;exact Fits.bnd (n:=s.last+s.m.next) ⟨h.ok,zC,zC,im h.ok,zC⟩
theorem Norm.Kw(h:Norm S U s Q):∃ V,View S V/\Go.Proofs.YtdaocdiabffpkaaGreatDoor.qe V=total S.files S.names/\(∀ n P,At S n P->∃ b,(n,b)∈V):=by obtain⟨T,d,g⟩:=h.pow.cur;have c:View S (Jl S.files T):=⟨T,d.fs,List.Perm.refl _⟩;exact⟨_,c,c.total.symm,λn P ⟨f,a,e1,e2,_⟩=>⟨_,c.of e1 e2⟩⟩
theorem Norm.jn4(h:Norm S U s Q)(f:qi S)(l:total S.files S.names<=6000){b:By}(n:b.length<=600){d:Bool}(r:Oq (jj s.m.log) b S S' d):d=true/\qi S':=by obtain⟨V,j,e,g⟩:=h.Kw;obtain⟨c,i⟩:=g _ _ h.log;obtain⟨k,a2,_⟩:=f.app j i zC r;exact⟨k,a2⟩
theorem jez(O:Yp E B w d b S 60000 s false F)(N:Norm S U s Q)(hU:U<=20000)(L:total S.files S.names<=6000)(q:Value)(es:L1)(i:Rf.qv es=true)(z:Chs w q es)(o:∀ p n c,q=.slice (some p) n c->¬F p.block)(g:s.last<1000000000){R':Want}(X:∀ t,Q.Qn t->R.Qn t)(W:R.now (s.write es))(D:∀ t,Q.Qn t->R'.Qn t)(C:R'.now s)(V:∀ l,l <+: (s.write es).bs->R.Xl ⟨s.m,l,s.bls⟩)(A:∀ l,l <+: s.bs->R'.Xl ⟨s.m,l,s.bls⟩):Calls prog 11 #[P1 b,q] w λe w'=>(e=.returned (aA 0)/\∃ S',yl E B w d b S' 60000 (s.write es) false F w'/\Norm S' (U+600) (s.write es) R/\Cl S S'/\(qi S->qi S'))\/(e=.returned (aA 1)/\∃ S',yl E B w d b S' 61000 s true F w'/\Pow S' (U+600) s.m s.bls R'/\Xo S' s/\Cl S S'/\¬qi S):=by
 obtain⟨ρ,rv,f,T,v⟩:=O;have f:=(N.bnd zC).mem;have y:=Ah i (s.last+1);obtain⟨f,a,Y,M,_⟩:=N.log;refine(jla T zC q es i z (λp n c e t=>o p n c e<|(v _).2<|.inl t) g zC ⟨f,a,Y,M⟩).mono ?_;rintro e w' ⟨S',f,r,h⟩;obtain⟨J,I⟩:=N.write i g zC X W D C V A r;have j:=λf=>N.jn4 f L y r
 obtain⟨rfl,rfl,h⟩|⟨rfl,rfl,h⟩:=h;have G:=J rfl;have x:(s.write es).last=s.last+1:=by show s.m.last+(s.bs++[es]).length=s.m.last+s.bs.length+1;simp;omega
 have k:(s.write es).mem=Rf.over s.mem es:=Rf.jah _ _;exact .inl ⟨rfl,S',(yl.of (s':=s.write es) T v (by rw[x,k];exact h)).fit (G.fit zC),G,Xp.app _ _ _ _ _ r,λf=>(j f).2⟩;obtain⟨u,H,Z⟩:=I rfl;refine .inr ⟨rfl,S',(yl.of (s':=s) T v h).fit<|(u.fit H zC).mono zC,u,λp k=>u.held.2.1 p k,Xp.app _ _ _ _ _ r,λf=>(by cases (j f).1)⟩
end
section
variable {E:Nat->Addr} {B:Nat} {w w':World} {d b k U:Nat} {S S':jd} {s:Rf.St} {deg:Bool} {F:Nat->Prop} {Q R:Want}
theorem Norm.bare(h:Norm S U s Q)(b:s.bs=[]):At S (jj s.m.log) (zo (Rf.ji s.m.last s.bs)):=h.log.mono (λa ⟨bs,u,e,c,_⟩=>by rw[b] at e;obtain⟨rfl,rfl⟩:=List.append_eq_nil_iff.1 e.symm;rw[b];exact⟨by rw[c.bytes];simp,c.safe,by rw[c.late];rfl⟩)
theorem a8{V:List (Str×By)}{n:Str}(h:∃ b,(n,b)∈V)(m:Str)(c:By):∃ b,(n,b)∈Yc V m c:=by obtain⟨b,d⟩:=h;by_cases e:n=m;exact⟨c,by rw[e];exact xO⟩;exact⟨b,xP _<|XB.2 ⟨d,by simpa using e⟩⟩
theorem Hc{V:List (Str×By)}{n m:Str}(h:∃ b,(n,b)∈V)(c:n≠m):∃ b,(n,b)∈js V m:=by obtain⟨b,d⟩:=h;exact⟨b,XB.2 ⟨d,by simpa using c⟩⟩
theorem Ca(V:List (Str×By))(n:Str)(b:By):qe (Yc V n b)<=b.length+qe V:=by grind [Yc,Yk,zi]
theorem Nk(b:s.bs=[]):s.flush=s:=by grind [Rf.St.flush]
theorem Eo(b:s.m.runs=[]):s.j6=s:=by grind [Rf.St.j6]
theorem Er(h:s.m.runs≠[]):s.j6.last=s.last/\s.j6.mem=s.mem:=by unfold Rf.St.j6;rw[if_neg h];split<;>exact⟨rfl,rfl⟩
end
section
variable {E:Nat->Addr} {B:Nat} {w w':World} {d b k U V:Nat} {S S':jd} {s:Rf.St} {deg:Bool} {F:Nat->Prop} {Q R:Want} {m:Rf.Man} {bls:List (List Rf.Ch)} {ρ:Nat->j4}
theorem jdj{last:Nat}{bs:List L1}(h:∀ b∈bs,Rf.qv b=true)(c:(Rf.ji last bs).length<=20000):(Rf.memory bs).length<20000:=by grind [Rf.Jt,Rf.M3,Rf.yh,dd]
theorem jng(O:Yp E B w d b S k s deg F)(o:s.Ok)(l:Xo S s)(u:k<540000000000)(r:s.all.length<1048576)(lo hi:Str)(most:Nat)(c:most<9223372036854775808):Calls prog 92 #[P1 b,je lo,je hi,j9 most] w λe w'=>∃ S',yb S S'/\((∃ v,e=.returned (.tuple #[v,aA 0])/\w'.ownsRow w.heap.size 120 2 v (Rf.Zi s.all lo hi most).length (Jb (Rf.Zi s.all lo hi most))/\Yp E B w' d b S' k s deg F/\ja w w' F)\/(¬qi S/\e=.returned (.tuple #[S5,aA 1])/\Yp E B w' d b S' k s true F/\ja w w' F)):=by obtain⟨ρ,rv,m,T,f⟩:=O;refine(jnh T o l zC r lo hi most c).mono ?_;rintro e w' ⟨S',n,⟨v,j,q,h,g⟩|⟨p,j,h,g⟩⟩;exact⟨S',n,.inl ⟨v,j,q,⟨ρ,rv,m,h,f⟩,g.mono λi _ t=>(f i).2<|.inl t⟩⟩;exact⟨S',n,.inr ⟨p,j,⟨ρ,rv,m,h,f⟩,g.mono λi _ t=>(f i).2<|.inl t⟩⟩
end
section
variable {E:Nat->Addr} {B:Nat} {w w':World} {d b k U:Nat} {S S':jd} {s:Rf.St} {deg:Bool} {F:Nat->Prop} {Q R:Want}
def jk3(S:jd)(U X:Nat)(Q:Want):Prop:=Safe S (U+600) Q\/Safe S X Q.whole
def jet(S:jd)(U X:Nat)(s:Rf.St)(Q:Want):Prop:=Norm S (U+600) s Q\/Norm S X s Q.whole
theorem wx{s:Rf.St}(h:s.Ok)(d:qe s.files<=6000):4+(Rf.jr s.mem).length+2*(s.m.qq s.last).bytes.length<=13600/\(Rf.jr s.mem).length<=20000/\(s.m.qq s.last).bytes.length<=20000:=by have f:=d;rw[zm,j5,Rf.Jt] at f;have o:=j5<|s.m.qq s.last;have n:(s.m.qq s.last).runs.length=s.m.runs.length+1:=rfl;have k:=(Rf.Yl (l:=s.mem) λc c=>by obtain⟨b,i,g⟩:=Rf.ir c;grind [Qv]).1;have j:Rf.sg s.mem<=Rf.sgs s.bs:=Rf.Fc s.bs;omega
theorem nh{s:Rf.St}(h:s.Ok)(f:qe s.files<=6000):90+(Rf.jr s.live).length<=13600:=by have g:=f;rw[zm,j5,Rf.Jt] at g;have k:=Y0 s.m.settled s.bls h.len (Qv h).2;have j:=(Rf.Yl (l:=s.live) λc g=>by obtain⟨l,b,d⟩:=Rf.so (λl b=>(h.bl l b).rising)<|Rf.Ar _ c g;exact(h.bl l b).allowed c d).1;have i:Rf.sg s.live<=Rf.sg (Rf.merged s.bls):=Rf.Lj _;grind [Rf.E9]
theorem Norm.Gb(N:Norm S U s Q)(E:qi S)(R:total S.files S.names<=6000){j:Bool}(r:wy s.m s.last s.mem S S' j):j=true/\qi S'/\(jd.jt [jj s.m.log] S').2=true/\qi (jd.jt [jj s.m.log] S').1:=by
 obtain⟨V,F,e,t⟩:=N.Kw;have I:=N.qe;obtain⟨O,M,L⟩:=wx N.ok zC;have i:=t _ _ N.log;obtain⟨c,v⟩:=i;obtain⟨x,g,f⟩:=E.sync F v;have J:=zi V<|jq s.m.next;have z2:=Ca V (jq s.m.next)<|Rf.jr s.mem;have z3:=zi (Yc V (jq s.m.next)<|Rf.jr s.mem)<|jj (s.m.next+1);have z4:=Ca (Yc V (jq s.m.next)<|Rf.jr s.mem) (jj (s.m.next+1)) [];have z5:=zi (Yc (Yc V (jq s.m.next)<|Rf.jr s.mem) (jj (s.m.next+1)) []) ju;have u:∀ n∈jz (s.m.qq s.last),∃ b,(n,b)∈Yc (Yc V (jq s.m.next)<|Rf.jr s.mem) (jj (s.m.next+1)) []:=λn d=>by obtain d|d:=ZM.1 d;rw[Rf.Man.Qe] at d;obtain rfl|d:=xN.1 d;exact a8 ⟨_,xO⟩ _ _;exact a8 (a8 (t _ _<|N.Fh d) _ _) _ _;rw[xV.1 d];exact⟨_,xO⟩
 simp only[xD,xX] at z4;unfold wy at r;obtain⟨r,_⟩|⟨H,D,r⟩:=r;have e:S.qo (jj s.m.log)=(S',false):=r;rw[e] at x;cases x;have G:S.qo (jj s.m.log)=(H,true):=D;rw[G] at g f;obtain⟨r,_⟩|⟨X,C,r⟩:=r
 .obtain⟨e,_⟩:=g.lay (Jm _) f zC r;cases e
 obtain⟨_,q,p⟩:=g.lay (Jm _) f zC C;obtain⟨r,_⟩|⟨W,B,r⟩:=r
 .obtain⟨e,_⟩:=q.lay (J3 _) p zF r;cases e
 obtain⟨_,o,l⟩:=q.lay (J3 _) p zF B;obtain⟨r,_⟩|⟨T,A,rfl,rfl⟩:=r
 .obtain⟨e,_⟩:=o.install l u zC r;cases e
 obtain⟨_,k,m2,_⟩:=o.install l u zC A;obtain⟨z,y,_⟩:=k.removeAll m2 [jj s.m.log] zD (λn d=>by rw[xV.1 d];exact a8 (Hc (a8 (a8 ⟨c,v⟩ _ _) _ _) (Kd _).symm) _ _);exact⟨rfl,k,z,y⟩
theorem Norm.Hi(N:Norm S U s Q)(y:qi S)(R:total S.files S.names<=6000){t:Bool}(r:Qu s.m s.live S S' t):t=true/\qi S'/\(jd.jt (s.m.settled.map jq) S').2=true/\qi (jd.jt (s.m.settled.map jq) S').1:=by
 obtain⟨V,A,e,l⟩:=N.Kw;have J:=N.qe;have O:=nh N.ok zC;obtain⟨c,z⟩:=l _ _ N.log;have q:(s.m.settled.map jq).Nodup:=by refine XD.2<|List.Pairwise.imp ?_ N.ok.Dc;grind [lr]
 have j:∀ {T:jd} {W:List (Str×By)} {x:By},qi T->View T (Yc (js W ju) jk x)->(∀ n∈s.m.settled.map jq,∃ b,(n,b)∈W)->(jd.jt (s.m.settled.map jq) T).2=true/\qi (jd.jt (s.m.settled.map jq) T).1:=λ{T W x} i d k=>by obtain⟨g,f,_⟩:=i.removeAll d (s.m.settled.map jq) q (λn d=>by refine a8 (Hc (k n d) λe=>?_) _ _;grind [Kc]);exact⟨g,f⟩
 have Y:s.m.bare.bytes.length=42:=by rw[j5];rfl
 have X:s.m.yp.bytes.length=42:=by rw[j5];rfl
 have z0:=zi V ju;have M:=zi V<|jq s.m.next;have z2:=Ca V (jq s.m.next)<|Rf.jr s.live;have z3:=zi (Yc V (jq s.m.next)<|Rf.jr s.live) ju;unfold Qu at r;split at r
 ·(have k:∀ n∈jz s.m.bare,∃ b,(n,b)∈V:=λn d=>by have L:n∈[jj s.m.log]:=d;grind);obtain⟨H,i,m2,_⟩:=y.install A k zC r;(obtain⟨g,f⟩:=j i m2 λn d=>l _ _<|N.Fh d);exact⟨H,i,g,f⟩
 .obtain⟨B,p,o⟩:=y.sync A z;(have k:∀ n∈jz s.m.yp,∃ b,(n,b)∈Yc V (jq s.m.next) (Rf.jr s.live):=λn d=>by obtain d|d:=ZM.1 d;(have F:s.m.yp.settled=[s.m.next]:=by grind [Rf.Man.settled,Rf.Man.yp]);rw[F] at d;rw[xV.1 d];exact⟨_,xO⟩;rw[xV.1 d];exact a8 ⟨c,z⟩ _ _);obtain⟨r,_⟩|⟨I,E,r⟩:=r;have e:S.qo (jj s.m.log)=(S',false):=r;rw[e] at B;cases B;have G:S.qo (jj s.m.log)=(I,true):=E;rw[G] at p o;obtain⟨r,_⟩|⟨b,D,r⟩:=r;obtain⟨e,_⟩:=p.lay (Jm _) o zC r;cases e;obtain⟨_,v,u⟩:=p.lay (Jm _) o zC D;obtain⟨r,_⟩|⟨Z,C,rfl,rfl⟩:=r;obtain⟨e,_⟩:=v.install u k zC r;cases e;obtain⟨_,i,m2,_⟩:=v.install u k zC C;(obtain⟨g,f⟩:=j i m2 λn d=>a8 (l _ _<|N.Fh d) _ _);exact⟨rfl,i,g,f⟩
theorem jfn(O:Yp E B w d b S 60000 s false F)(N:Norm S U s Q)(M:U<=20000)(o:total S.files S.names<=6000)(p:s.m.next+2<=2000000000)(v:Q.now s.flush){X:Nat}(L:U+4+(Rf.jr s.mem).length+2*(s.m.qq s.last).bytes.length<=X)(H:X<=60000):Calls prog 13 #[P1 b] w λe w'=>(e=.returned (aA 0)/\∃ S',yl E B w d b S' 60000 s.flush false F w'/\jet S' U X s.flush Q/\At S' (jj s.flush.m.log) (zo (Rf.ji s.flush.m.last s.flush.bs))/\Cl S S'/\(qi S->qi S'))\/(e=.returned (aA 1)/\∃ S' s',yl E B w d b S' 130000 s' true F w'/\(s'=s\/s'=s.flush)/\jk3 S' U X Q/\Xo S' s'/\Cl S S'/\¬qi S):=by
 obtain⟨ρ,rv,J,T,j⟩:=O;have i:=(N.bnd zC);have C:=N.qe;obtain⟨I,l,k⟩:=wx N.ok zC;by_cases hb:s.bs=[];have e:s.last=s.m.last:=by grind [Rf.St.last]
 refine(Vh T e).mono ?_;rintro e w' ⟨rfl,h⟩;rw[Nk hb];exact .inl ⟨rfl,S,yl.of (s':=s) T j h,.inl<|N.mono zC<|Want.Le.refl _,N.bare hb,Cl.refl _,id⟩;have u:s.m.last<s.last:=by unfold Rf.St.last;have:=XH.2 hb;omega
 have D:=i.runs;have G:=i.mem;refine(Vg T u (λW c=>jmf (T.same c) zC (Rf.St.jdk N.ok hb zC) N.ok.cap p zC l k)).mono ?_;rintro e w' ⟨x,A,r,⟨rfl,f,h⟩|⟨rfl,f,h⟩⟩;obtain⟨t,a2,a3⟩:=N.jj4 hb zC p zC v l k r;refine .inr ⟨f,x,s,yl.of (s':=s) T j h,.inl rfl,?_,t,Xp.flush _ _ _ _ _ _ r,λi=>(by cases (N.Gb i o r).1)⟩;obtain⟨n,q,a2⟩|⟨n,q,a2⟩:=a2 rfl;exact .inl ⟨n,q,a2.grow zC⟩;exact .inr ⟨n,q,a2.grow zC⟩;obtain⟨t,a2,a3⟩:=N.jnx hb zC p zC v l k r;have c:s.flush.m=s.m.qq s.last/\s.flush.last=s.last/\s.flush.mem=[]:=by rw[(Ee hb)];exact⟨rfl,by show s.last+0=s.last;omega,rfl⟩
 cases hok:(jd.jt [jj s.m.log] x).2 with|true=>obtain⟨z,y⟩:=a3 hok;rw[hok] at f h;have g:=z.mono (V:=X) zC<|Want.Le.refl _;exact .inl ⟨f,_,(yl.of (s':=s.flush) T j<|by rw[c.1,c.2.1,c.2.2];exact h).fit<|g.fit zC,.inr g,y,(Xp.flush _ _ _ _ _ _ r).trans<|Cl.removeAll _ _,λi=>(N.Gb i o r).2.2.2⟩|false=>rw[hok] at f h;exact .inr ⟨f,_,s.flush,yl.of (s':=s.flush) T j zG,.inr rfl,.inr ⟨_,_,a2.grow zC⟩,t,(Xp.flush _ _ _ _ _ _ r).trans<|Cl.removeAll _ _,λi=>(by rw[(N.Gb i o r).2.2.1] at hok;cases hok)⟩
theorem Sd(O:Yp E B w d b S 60000 s false F)(N:Norm S U s Q)(W:U<=20000)(x:total S.files S.names<=6000)(l:s.m.next+1<=2000000000)(y:Q.now s.j6){X:Nat}(R:U+90+(Rf.jr s.live).length<=X)(L:X<=60000):Calls prog 55 #[P1 b] w λe w'=>(e=.returned (aA 0)/\∃ S',yl E B w d b S' 60000 s.j6 false F w'/\jet S' U X s.j6 Q/\Cl S S'/\(qi S->qi S'))\/(e=.returned (aA 1)/\∃ S' s',yl E B w d b S' 160000 s' true F w'/\(s'=s\/s'=s.j6)/\jk3 S' U X Q/\Xo S' s'/\Cl S S'/\¬qi S):=by
 obtain⟨ρ,rv,C,T,j⟩:=O;have k:=(N.bnd zC);have H:=N.qe;have M:=nh N.ok zC;by_cases hb:s.m.runs=[];refine(On T hb).mono ?_;rintro e w' ⟨rfl,h⟩;rw[Eo hb];exact .inl ⟨rfl,S,yl.of (s':=s) T j h,.inl<|N.mono zC<|Want.Le.refl _,Cl.refl _,id⟩;have I:=k.mrg;have J:=k.live;have q:Calls prog 103 #[P1 b] w (Yq E B w ρ d b rv C S 60000 s.m s.last s.mem s.live):=by by_cases hle:s.live=[];exact N3 T zC l N.ok.len N.ok.bl N.cd.bytes zC rfl hle;exact N0 T zC l N.ok.len N.ok.bl N.cd.bytes zC rfl hle (Rf.St.jfj N.ok hle zC) zC
 refine(Om T hb q).mono ?_;rintro e w' ⟨D,c,⟨f,g,h⟩|⟨A,G,r,⟨rfl,g,h⟩|⟨rfl,g,h⟩⟩⟩;exact .inr ⟨g,D,s,yl.of (s':=s) T j h,.inl rfl,.inl ⟨_,_,(c.pow N.pow).grow zC⟩,(N.looked c).cd,c.cut,f⟩;have i:=λf=>(N.looked c).Hi (c.u7 f) (by rw[c.files,c.names];exact x) r
 obtain⟨p,a2,a3⟩:=(N.looked c).jbo hb zC l y zC r;refine .inr ⟨g,A,s,yl.of (s':=s) T j h,.inl rfl,?_,p,Cl.trans c.cut<|Xp.j6 _ _ _ _ _ r,λf=>(by cases (i f).1)⟩;obtain⟨n,o,a2⟩|⟨n,o,a2⟩:=a2 rfl;exact .inl ⟨n,o,a2.grow zC⟩;exact .inr ⟨n,o,a2.grow zC⟩;have i:=λf=>(N.looked c).Hi (c.u7 f) (by rw[c.files,c.names];exact x) r
 obtain⟨p,a2,a3⟩:=(N.looked c).jki hb zC l y zC r;have z:=(Em hb).1;obtain⟨v,u⟩:=Er hb;cases hok:(jd.jt (s.m.settled.map jq) A).2 with|true=>have t:=(a3 hok).mono (V:=X) zC<|Want.Le.refl _;rw[hok] at g h;exact .inl ⟨g,_,(yl.of (s':=s.j6) T j<|by rw[z,v,u];exact h).fit<|t.fit zC,.inr t,(Cl.trans c.cut<|Xp.j6 _ _ _ _ _ r).trans<|Cl.removeAll _ _,λf=>(i f).2.2.2⟩|false=>rw[hok] at g h;refine .inr ⟨g,_,s.j6,yl.of (s':=s.j6) T j<|by rw[z,v,u];exact h,.inr rfl,.inr ⟨_,_,a2.grow zC⟩,p,(Cl.trans c.cut<|Xp.j6 _ _ _ _ _ r).trans<|Cl.removeAll _ _,λf=>zG⟩
end
section
theorem jd4(key:Str):∀(ls:List L1),(∀ l∈ls,Rf.j8 l)->∀(S:jd),∃ S',yb S S'/\(Je key (ya (ls.map Rf.chunks) key) S=(S',.inl (Rf.tf ls key))\/(Je key (ya (ls.map Rf.chunks) key) S=(S',.inr true)/\¬qi S)):=by intro ls;induction ls with|nil=>intro _ S;exact⟨S,yb.refl S,.inl rfl⟩|cons l r ih=>intro d S;have f:Je key (ya ((l::r).map Rf.chunks) key) S=Je key (ai (Rf.chunks l) key::ya (r.map Rf.chunks) key) S:=rfl;rw[f];cases hb:S.bad with|true=>(have b:ai (Rf.chunks l) key S=(S.called false,[],some true):=by grind [ai,vq,cn]);rw[eo,b];exact⟨_,yb.called S,.inr ⟨rfl,λw=>by rw[w.bad] at hb;cases hb⟩⟩|false=>(have b:ai (Rf.chunks l) key S=(S.called false,l.filter<|Rf.qt key,none):=by grind [ai,vq,cn,Rf.Xa]);rw[Hd (d l xO) b,Rf.Yt];cases hg:Rf.yt l key with|some c=>grind [yb.called]|none=>obtain⟨S',i,g⟩:=ih (λx b=>d x<|xP _ b)<|S.called false;exact⟨S',(yb.called S).trans i,g.imp id (λh=>⟨h.1,λw=>h.2 (w.called false)⟩)⟩
theorem jny{s:Rf.St}(h:s.Ok)(key:Str)(S:jd):∃ S',yb S S'/\(Je key (Z5 (s.mem.drop (Rf.below s.mem key))::ya (s.bls.map Rf.chunks) key) S=(S',.inl (Rf.yt s.all key))\/(Je key (Z5 (s.mem.drop (Rf.below s.mem key))::ya (s.bls.map Rf.chunks) key) S=(S',.inr true)/\¬qi S)):=by
 have f:s.mem.drop (Rf.below s.mem key)=s.mem.filter (Rf.qt key):=Rf.Co (Rf.zv _) key;have b:∀ l∈s.mem::s.bls,Rf.j8 l:=λl d=>by obtain rfl|d:=xN.1 d;exact Rf.zv _;exact jjb h l d
 rw[Hd (l:=s.mem) (T:=S) (Rf.zv _) (by unfold Z5;rw[f])];unfold Rf.St.all;rw[Rf.bc b,Rf.Yt];cases hg:Rf.yt s.mem key with|some c=>exact⟨S,yb.refl S,.inl rfl⟩|none=>exact jd4 key s.bls (jjb h) S
variable {E:Nat->Addr} {B:Nat} {w w':World} {d b k U V:Nat} {S S':jd} {s:Rf.St} {deg:Bool} {F:Nat->Prop}
theorem jom(O:Yp E B w d b S k s deg F)(j:s.Ok)(y:Xo S s)(H:k<540000000000)(key:Str):Calls prog 12 #[P1 b,je key] w λe w'=>∃ S',yb S S'/\((e=.returned (.tuple #[je (jd0 (Rf.yt s.all key)).1,.bool (jd0 (Rf.yt s.all key)).2,aA 0])/\Yp E B w' d b S' k s deg F/\ja w w' F)\/(¬qi S/\e=.returned (.tuple #[je [],.bool false,aA 1])/\Yp E B w' d b S' k s true F/\ja w w' F)):=by
 obtain⟨ρ,rv,q,T,r⟩:=O;have D:Ey s.m s.bls k S:=⟨T.fit,y.bytes⟩;have R:=vn j.yn j.len j.bl (k:=k) zC;have G:=T.bw;obtain⟨S',x,e⟩:=jny j key S;refine(jmd s.m rv (jg s.last) q s.mem deg (s.bls.map Rf.chunks) T.env T.yk D R T.row (λh=>h T.nb.1) T.nb.2 T.runs zC (yf T.mem) (Ru j T.few) (λp n c e=>?_) key).mono ?_;have l:q.ownBlock=some p.block:=by rw[e];rfl
 exact⟨λt=>t (T.nm _ l).1,(T.mem.lt _ l).2⟩;rintro J w' ⟨z,u,I,h⟩;have A:=x.fit T.fit;obtain e|⟨e,C⟩:=e;rw[e] at u h;refine⟨S',x,.inl ?_⟩;obtain⟨o,g,rfl,f⟩|⟨bad,g,_⟩:=h;cases g;obtain⟨v,t2⟩:=T.stay z u A f;exact⟨rfl,⟨ρ,rv,q,v,r⟩,t2.mono λi _ t=>(r i).2<|.inl t⟩;cases g;rw[e] at u h;refine⟨S',x,.inr ⟨C,?_⟩⟩;obtain⟨o,g,_⟩|⟨bad,g,rfl,f⟩:=h;cases g;obtain⟨v,t2⟩:=T.stay z u A f;exact⟨rfl,⟨ρ,rv,q,v,r⟩,t2.mono λi _ t=>(r i).2<|.inl t⟩
end
section
variable {E:Nat->Addr} {B:Nat} {w w':World} {d b k U V N L N' L':Nat} {S S':jd} {s:Rf.St} {deg:Bool} {F:Nat->Prop} {Q R:Want} {m:Rf.Man} {bs bls:List (List Rf.Ch)} {g:List UInt8} {ρ:Nat->j4}
def Qr(N L:Nat):Want where
 Qn t:=t.m.next<=N/\t.last<=L
 now t:=t.m.next<=N/\t.last<=L
 le _ h:=h
 Xl t:=qe t.files<=6500
theorem Qr.le(b:N<=N')(c:L<=L'):(Qr N L).Le (Qr N' L'):=⟨λt h=>⟨zW h.1 b,zW h.2 c⟩,λt h=>⟨zW h.1 b,zW h.2 c⟩,λt h=>h⟩
theorem Norm.view(h:Norm S U s Q):View S s.files:=by
 obtain⟨V,d,e,_⟩:=h.Kw;have b:∀ p∈s.files,p∈V:=λp i=>by obtain rfl|rfl|i:=Ys.1 i;obtain⟨f,a,g,m,j⟩:=h.pow.held.1;have:=d.of g m;rwa [j.bytes] at this;obtain⟨f,a,g,m,j⟩:=h.gw;have:=d.of g m;rwa [j.1] at this;obtain⟨f,a,g,m,j⟩:=h.cd p i;have:=d.of g m;rwa [j.bytes] at this
 have n:∀ p∈V,p∈s.files:=λp i=>by obtain⟨f,a,g,m,j⟩:=d.get i;(have t:∃ c,(p.1,c)∈s.files:=by obtain⟨k,y,e⟩|e|e:=Xm.1 (h.only p.1 f g);exact h.ok.there p.1 (XQ _ zF);exact h.ok.there p.1 (XR _ zG);grind [Ys]);obtain⟨c,r⟩:=t;(have u:p=(p.1,c):=by obtain⟨x,v⟩:=p;have:=d.one i<|b _ r;rw[this]);rw[u];exact r
 have o:∀ {l:List (Str×By)},l.Pairwise (λp q=>p.1≠q.1)->l.Nodup:=λf=>List.Pairwise.imp (λc e=>c<|by rw[e]) f
 exact d.perm<|(List.perm_ext_iff_of_nodup (o h.ok.apart)<|o d.apart).2 λp=>⟨b p,n p⟩
theorem Norm.tight(h:Norm S U s Q):Norm S (Go.Proofs.YtdaocdiabffpkaaGreatDoor.qe s.files+s.m.settled.length+2) s Q:=by
 have t:=h.view.total;obtain⟨T,b,g⟩:=h.pow.cur;have k:T.length<=(jy s.m).length:=by have:=jgr (l:=T.map Prod.fst) (m:=jy s.m) (XD.2 b.Z9.apart) (λn c=>by obtain⟨p,i,rfl⟩:=xR.1 c;exact h.only p.1 p.2<|b.fs.at.2 i);rwa [XF] at this
 have v:(jy s.m).length=s.m.settled.length+2:=by unfold jy jz;simp
 have q:Y7 S.files T=total S.files S.names+T.length:=by rw[b.Z9.total];have u:=b.files;clear k b g;induction T with|nil=>rfl|cons x r ih=>grind [Yn,xO,y9]
 have j:Y7 S.files T<=Go.Proofs.YtdaocdiabffpkaaGreatDoor.qe s.files+s.m.settled.length+2:=zC;have o:Names S.names S.files (Go.Proofs.YtdaocdiabffpkaaGreatDoor.qe s.files+s.m.settled.length+2) T:=⟨b.Z9,b.files,b.apart,j,b.short⟩;have d:=h.pow.tied;rw[h.late] at d;have c:S.names=S.safe:=d;have f:Qx S.files (Go.Proofs.YtdaocdiabffpkaaGreatDoor.qe s.files+s.m.settled.length+2) s.m s.bls Q S.names:=⟨T,o,g⟩;exact⟨⟨h.pow.tied,h.pow.wf,h.pow.small,by rw[h.late];show Sx _ _ _ S.safe;rw[<-c];exact⟨_,_,f⟩,f⟩,h.late,h.log,h.now,h.ok,h.only⟩
theorem Ln(h:s.Ok):14*s.m.settled.length+s.m.bytes.length+(Rf.ji s.m.last s.bs).length<=qe s.files:=by rw[zm];have:=Cc s.m.settled s.bls h.len;omega
theorem jh4(O:Yp E B w d b S 60000 s false F)(N:Norm S U s Q)(y:U<=60000):Calls prog 50 #[P1 b] w λe w'=>(e=.returned (aA 0)/\∃ S',yl E B w d b S' 60000 s false F w'/\Norm S' U s Q.whole/\(qi S->qi S'))\/(e=.returned (aA 1)/\∃ S',yl E B w d b S' 60000 s true F w'/\Pow S' U s.m s.bls Q/\¬qi S):=by
 obtain⟨ρ,rv,x,T,n⟩:=O;have l:qi S->(S.qo<|jj s.m.log).2=true/\qi (S.qo<|jj s.m.log).1:=λx=>by obtain⟨V,t,e,q⟩:=N.Kw;obtain⟨c,r⟩:=q _ _ N.log;obtain⟨u,a2,_⟩:=x.sync t r;exact⟨u,a2⟩
 refine(O0 T.yk T.env (zB (Un N.ok) N.ok.yn.1) T.nb.1 T.nb.2 T.row).mono ?_;rintro e w' (⟨g,rfl,o,i,j,k,f⟩|⟨g,rfl,o,i,j,k,f⟩);obtain⟨p,v⟩:=N.sync g;exact .inl ⟨rfl,_,yl.of (s':=s) T n<|T.next i j k (T.fit.qo _) f,p,λx=>(l x).2⟩;exact .inr ⟨rfl,_,yl.of (s':=s) T n<|T.next i j k (T.fit.qo _) f,N.pow.sync _,λx=>by rw[(l x).1] at g;cases g⟩
def Jy(m:Rf.Man)(bs:List L1)(g:By)(bls:List L1):Rf.St:=if g=[] then⟨m,bs,bls⟩ else⟨m.xo,bs,bls⟩
def Sw(E:Nat->Addr)(B:Nat)(w:World)(ρ:Nat->j4)(d:Nat)(S:jd)(V k:Nat)(R:Want)(s:Rf.St)(e:Ending)(w':World):Prop :=
 (e=.returned (.tuple #[.pointer none,aA 1])/\¬qi S/\∃ ρ' S',Dk E B w' ρ' d S'/\Fit k S'/\Safe S' V R/\ja w w' (λi=>ρ i≠.none)/\∀ i,i<w.heap.size->ρ' i=ρ i) \/
 ∃ b F S',e=.returned (.tuple #[P1 b,aA 0])/\w.heap.size<=b/\Yp E B w' d b S' 60000 s false F/\Norm S' V s R/\At S' (jj s.m.log) (zo (Rf.ji s.m.last s.bs))/\(qi S->qi S')/\ja w w' (λi=>ρ i≠.none)/\∀ i,F i->ρ i≠.none\/w.heap.size<=i
theorem Sw.of{e:Ending}(A:V<=60000)(h:Vd S V s R (jfw E B w ρ d k e w') (jex E B w ρ d k s.m s.last s.mem e w')):Sw E B w ρ d S V k R s e w':=by obtain⟨T,⟨l,f,G,F,g,j⟩,C,v⟩|⟨T,⟨b,f,rv,u,l,y,M,g,j,x,o⟩,N,D,z⟩:=h;exact .inl ⟨l,v,f,T,G,F,C,g,j⟩;refine .inr ⟨b,λi=>StF f b u i\/∃ p n c,rv=.slice (some p) n c/\p.block=i,T,l,y,Yp.fit ⟨f,rv,u,M,λ_=>Iff.rfl⟩<|N.fit A,N,D,z,g,λi hi=>?_⟩;obtain q|r:=zV i w.heap.size;refine .inl ?_;obtain(t|t|t)|⟨p,n,c,e,rfl⟩:=hi;rw[<-j i q];exact t;omega;have:=x i t;omega;have:=o p n c e;omega;exact .inr r
theorem jc9(D:Dk E B w ρ d S)(x:Fit k S)(H:Env E B w)(F:k<400000000000)(P:Pow S U m bls Q)(C:Q.Le R)(n:At S (jj m.log) (λa=>a.bytes=Rf.ji m.last bs++g))(N:Rf.Over m.last bs g)(c:(⟨m,bs,bls⟩:Rf.St).Ok)(o:R.now (Jy m bs g bls))(r:m.next+1<=2000000000)(I:U<=V)(G:V<=60000)(O:qe (⟨m,bs,bls⟩:Rf.St).files+g.length<=20000)(j:g≠[]->U+4+(Rf.ji m.last bs).length+2*m.bytes.length<=V/\V<=20000):Calls prog 9 #[P1 d] w (Sw E B w ρ d S V (2*k+300000) R (Jy m bs g bls)):=by
 obtain⟨u,l,L⟩:=P.held;have A:=Ln c;have Y:=j5 m;simp only at A;have X:m.runs.length<=m.settled.length:=by grind [Rf.Man.settled]
 have t:∀ p∈j7 m.settled bls,At (S.called false) p.1 (λa=>a.bytes=p.2):=λp b=>((l p b).mono λa q=>q.bytes).Jc rfl rfl
 have f:=u.mono λa q=>q.bytes
 have v:(Rf.ji m.last bs++g).length<=20000:=by rw[ZA];omega
 have M:(Rf.memory bs).length<20000:=jdj (last:=m.last) c.log zC;have J:=P.mono (ZG _) C;unfold Jy at o ⊢;by_cases hg0:g=[];subst hg0;rw[if_pos rfl] at o ⊢;rw[ZE] at n;refine(jkz (k:=2*k+300000) (m2:=m) (last:=m.last+bs.length) (ml:=Rf.memory bs) (R:=Fn<|jd.x8<|jy m) D (λW q b L u A=>?_)).mono ?_;exact ji5 (D.same q) x (H.same q) zC zC f (λW' Y X M p l=>Uo X (x.called false) M F c t (n.Jc rfl rfl) ⟨zC,zC⟩ zC zC p u A Y l) L u A;intro e w' h;have:=J.jdc n c o h;refine Sw.of (s:=⟨m,bs,bls⟩) G ?_;obtain⟨T,i,⟨y,z,a2⟩,a3⟩|⟨T,i,a2,a3,a4⟩:=this;exact .inl ⟨T,i,⟨y,z,a2.grow I⟩,a3⟩;exact .inr ⟨T,i,a2.mono I<|Want.Le.refl _,a3,a4⟩;rw[if_neg hg0] at o ⊢;obtain⟨v1,v2⟩:=j hg0;refine(jkz (k:=2*k+300000) (m2:=m.xo) (last:=m.last+bs.length) (ml:=Rf.memory bs) (R:=Ly m<|Rf.ji m.last bs) D (λW q b L u A=>?_)).mono ?_;exact ji5 (D.same q) x (H.same q) zC zC f (λW' Y X M p l=>jao X (x.called false) M F c t (n.Jc rfl rfl) hg0 N r ⟨zC,v⟩ zC zC p u A Y l) L u A;intro e w' h;have:=J.jgq n c r o zC zC zC h;refine Sw.of (s:=⟨m.xo,bs,bls⟩) G ?_;obtain⟨T,i,⟨y,z,a2⟩,a3⟩|⟨T,i,a2,a3,a4⟩:=this;exact .inl ⟨T,i,⟨y,z,a2.grow zC⟩,a3⟩;exact .inr ⟨T,i,a2.mono zC<|Want.Le.refl _,a3,a4⟩
end
section
def E0(E:Nat->Addr)(B:Nat)(w:World)(d b:Nat)(S:jd)(s:Rf.St)(F:Nat->Prop):Prop :=
 ∃ ρ rv,Env E B w/\Dk E B w ρ d S/\w.heap[b]?=some (.cells (ql (.pointer none) (jg s.m.next) (jg s.m.last) (jg s.m.log) (jg s.m.base) rv (jg s.last) S5 false true) 79 (0,0))/\Jf w rv s.m.runs/\ρ b=.none/\B<=b/\(∀ i,ρ i≠.none->F i)/\F b/\(∀ g,rv.ownBlock=some g->F g)/\(∀ i,F i->B<=i/\i<w.heap.size)
def Xj(E:Nat->Addr)(B:Nat)(w:World)(d b:Nat)(s:Rf.St)(k:Nat)(cl:Bool)(F:Nat->Prop):Prop :=
 ∃ S,Norm S 22000 s (Qr s.m.next s.last)/\qi S/\60000<=k/\((cl=false/\Yp E B w d b S 60000 s false F)\/(cl=true/\E0 E B w d b S s F))
section
variable {E:Nat->Addr} {B:Nat} {w w':World} {d b k:Nat} {S:jd} {s:Rf.St} {cl:Bool} {F:Nat->Prop}
theorem E0.old(h:E0 E B w d b S s F){i:Nat}(hi:F i):B<=i/\i<w.heap.size:=by obtain⟨ρ,rv,_,_,_,_,_,_,_,_,_,h⟩:=h;exact h i hi
theorem E0.keep(h:E0 E B w d b S s F){T:Nat->Prop}(g:ja w w' T)(l:∀ i,i<w.heap.size->T i->B<=i/\¬F i):E0 E B w' d b S s F:=by
 obtain⟨ρ,rv,q,a2,a3,a4,a5,o,a9,k,j,f⟩:=h;have m:∀ i,F i->¬T i:=λi hi t=>(l i (f i hi).2 t).2 hi
 exact⟨ρ,rv,q.keep (g.mono (U:=λi=>T i/\i<w.heap.size) λi hi t=>⟨t,hi⟩) λi t=>(l i t.2 t.1).1,a2.apart g λi hi t=>⟨λc=>(l i hi t).2<|a9 i c,(l i hi t).1⟩,g.same a3<|m b k,a4.keep g λ_ p n c e t=>m _ (j p.block<|by rw[e];rfl) t,a5,o,a9,k,j,λi hi=>⟨(f i hi).1,zZ (f i hi).2 g.size⟩⟩
theorem Xj.old(h:Xj E B w d b s k cl F){i:Nat}(hi:F i):B<=i/\i<w.heap.size:=by obtain⟨S,_,_,_,⟨_,h⟩|⟨_,h⟩⟩:=h;exact h.old hi;exact h.old hi
theorem Xj.keep(h:Xj E B w d b s k cl F){T:Nat->Prop}(c:ja w w' T)(f:∀ i,i<w.heap.size->T i->B<=i/\¬F i):Xj E B w' d b s k cl F:=by obtain⟨S,l,j,g,⟨e,h⟩|⟨e,h⟩⟩:=h;exact⟨S,l,j,g,.inl ⟨e,h.keep c f⟩⟩;exact⟨S,l,j,g,.inr ⟨e,h.keep c f⟩⟩
theorem Xj.same(h:Xj E B w d b s k cl F)(c:ja w w' N_):Xj E B w' d b s k cl F:=h.keep c λ_ _ t=>t.elim
theorem Xj.env(h:Xj E B w d b s k cl F):Env E B w:=by obtain⟨S,_,_,_,⟨_,h⟩|⟨_,h⟩⟩:=h;exact h.env;obtain⟨ρ,rv,h,_⟩:=h;exact h
theorem Xj.dk(h:Xj E B w d b s k cl F):∃ ρ S,Dk E B w ρ d S/\Norm S 22000 s (Qr s.m.next s.last)/\qi S/\Fit 60000 S/\(∀ i,ρ i≠.none->F i)/\F b/\ρ b=.none:=by obtain⟨S,c,j,p,⟨_,h⟩|⟨_,h⟩⟩:=h;obtain⟨ρ,rv,o,T,g⟩:=h;exact⟨ρ,S,T.yk,c,j,T.fit,λi hi=>(g i).2<|.inl<|.inl hi,(g b).2<|.inl<|.inr<|.inl rfl,T.nb.1⟩;obtain⟨ρ,rv,r,a2,a3,a4,a5,q,a9,f,n,l⟩:=h;exact⟨ρ,S,a2,c,j,c.fit zC,a9,f,a5⟩
theorem Xj.size(h:Xj E B w d b s k cl F):B<=w.heap.size:=by obtain⟨ρ,S,D,_⟩:=h.dk;exact D.size
theorem Xj.big(h:Xj E B w d b s k cl F):60000<=k:=by obtain⟨S,_,_,c,_⟩:=h;exact c
theorem Xj.yk(h:Xj E B w d b s k cl F):∃ ρ,DW E B w ρ d s.files k/\∀ i,ρ i≠.none->F i:=by obtain⟨ρ,S,D,N,W,f,c,_⟩:=h.dk;exact⟨ρ,⟨S,D,W,N.view,f.mono h.big⟩,c⟩
theorem Xj.shut(h:Xj E B w d b s k true F):∃ S,E0 E B w d b S s F:=by obtain⟨S,g,f,c,⟨e,_⟩|⟨_,h⟩⟩:=h;cases e;exact⟨S,h⟩
theorem E0.row(h:E0 E B w d b S s F):∃ rv,w.heap[b]?=some (.cells (ql (.pointer none) (jg s.m.next) (jg s.m.last) (jg s.m.log) (jg s.m.base) rv (jg s.last) S5 false true) 79 (0,0))/\Jf w rv s.m.runs:=by obtain⟨ρ,rv,c,a2,a3,a4,_⟩:=h;exact⟨rv,a3,a4⟩
theorem Xj.op(h:Xj E B w d b s k false F):∃ S,Norm S 22000 s (Qr s.m.next s.last)/\qi S/\Yp E B w d b S 60000 s false F:=by obtain⟨S,f,c,g,⟨_,h⟩|⟨e,_⟩⟩:=h;exact⟨S,f,c,h⟩;cases e
end
structure fx(E:Nat->Addr)(B:Nat)(W:World)(sd d x y:Nat)(s:Rf.St)(cl:Bool)(k:Nat)(F G:Nat->Prop):Prop where
 row:W.heap[sd]?=some (.cells #[.pointer (some ⟨d,0,none⟩),.pointer (some ⟨x,0,none⟩),.pointer (some ⟨y,0,none⟩)] 62 (0,0))
 x:Xj E B W d x s k cl F
 y:kv W y s cl G
 fg:∀ i,F i->¬G i
 sF:¬F sd
 sG:¬G sd
 ge:B<=sd/\∀ i,G i->B<=i
def Pz(E:Nat->Addr)(B:Nat)(W:World)(sd:Nat)(s:Rf.St)(cl:Bool)(k:Nat)(Q:Nat->Prop):Prop:=∃ d x y F G,fx E B W sd d x y s cl k F G/\∀ i,Q i↔(F i\/G i\/i=sd)
section
variable {E:Nat->Addr} {B:Nat} {W W':World} {sd d x y k:Nat} {s:Rf.St} {cl:Bool} {F G Q:Nat->Prop}
theorem fx.keep(h:fx E B W sd d x y s cl k F G){T:Nat->Prop}(c:ja W W' T)(b:∀ i,i<W.heap.size->T i->B<=i/\¬(F i\/G i\/i=sd)):fx E B W' sd d x y s cl k F G:=⟨c.same h.row λt=>(b _ (zO h.row) t).2<|.inr<|.inr rfl,h.x.keep c λi hi t=>⟨(b i hi t).1,λf=>(b i hi t).2<|.inl f⟩,h.y.keep (T:=λi=>T i/\i<W.heap.size) (c.mono λi hi t=>⟨t,hi⟩) λi t g=>(b i t.2 t.1).2<|.inr<|.inl g,h.fg,h.sF,h.sG,h.ge⟩
theorem Pz.keep(h:Pz E B W sd s cl k Q){T:Nat->Prop}(f:ja W W' T)(b:∀ i,i<W.heap.size->T i->B<=i/\¬Q i):Pz E B W' sd s cl k Q:=by obtain⟨d,x,y,F,G,h,c⟩:=h;exact⟨d,x,y,F,G,h.keep f λi hi t=>⟨(b i hi t).1,λq=>(b i hi t).2<|(c i).2 q⟩,c⟩
theorem Pz.same(h:Pz E B W sd s cl k Q)(b:ja W W' N_):Pz E B W' sd s cl k Q:=h.keep b λ_ _ t=>t.elim
theorem Pz.old(h:Pz E B W sd s cl k Q){i:Nat}(hi:Q i):B<=i/\i<W.heap.size:=by obtain⟨d,x,y,F,G,h,b⟩:=h;obtain t|t|t:=(b i).1 hi;exact h.x.old t;exact⟨h.ge.2 i t,h.y.old t⟩;rw[t];exact⟨h.ge.1,zO h.row⟩
end
structure Wd(E:Nat->Addr)(B:Nat)(W:World)(wb:Nat)(sv:Value)(sd:Nat)(s:Rf.St)(cl:Bool)(k np nn nt:Nat)(Q K:Nat->Prop):Prop where
 side:Pz E B W sd s cl k Q
 lists:gd W wb sv np nn nt K
 apart:∀ i,Q i->¬K i
 ge:∀ i,K i->B<=i
def qw(E:Nat->Addr)(B:Nat)(W:World)(wb:Nat)(sv:Value)(sd n k np nn nt:Nat)(Q K:Nat->Prop)(W':World):Prop :=
 ∃ s' cl' k' np' nn' nt' Q' K',Wd E B W' wb sv sd s' cl' k' np' nn' nt' Q' K'/\Fits n s'/\k'<=k/\np'<=np/\nn'<=nn/\nt'<=nt/\ja W W' (λi=>Q i\/K i)/\(∀ i,Q' i->Q i\/W.heap.size<=i)/\(∀ i,K' i->K i\/W.heap.size<=i)
def J7(E:Nat->Addr)(B:Nat)(W:World)(wb:Nat)(sv:Value)(sd n k np nn nt:Nat)(Q K:Nat->Prop)(e:Ending)(W':World):Prop :=
 e=.returned (.bool true)/\qw E B W wb sv sd (n+1) (k+100000) (np+4) (nn+4) (nt+1) Q K W'
section
variable {E:Nat->Addr} {B:Nat} {W W' W2:World} {wb sd n k np nn nt:Nat} {sv:Value} {s:Rf.St} {cl:Bool} {Q K:Nat->Prop}
theorem Wd.same(h:Wd E B W wb sv sd s cl k np nn nt Q K)(b:ja W W' N_):Wd E B W' wb sv sd s cl k np nn nt Q K:=⟨h.side.same b,h.lists.same b,h.apart,h.ge⟩
theorem qw.same(h:Wd E B W wb sv sd s cl k np nn nt Q K)(c:Fits n s)(b:ja W W' N_):qw E B W wb sv sd n k np nn nt Q K W':=⟨s,cl,k,np,nn,nt,Q,K,h.same b,c,ZG _,ZG _,ZG _,ZG _,b.up,λ_ t=>.inl t,λ_ t=>.inl t⟩
theorem qw.mono{l k' c d b:Nat}(h:qw E B W wb sv sd n k np nn nt Q K W')(q:n<=l)(x:k<=k')(v:np<=c)(u:nn<=d)(t:nt<=b):qw E B W wb sv sd l k' c d b Q K W':=by obtain⟨s',j,m,g,i,f,Q',s,o,p,y,a2,a3,a4,r⟩:=h;exact⟨s',j,m,g,i,f,Q',s,o,p.mono q,zC,zC,zC,zC,r⟩
theorem qw.side{s':Rf.St}{b:Bool}{k':Nat}{Q':Nat->Prop}(h:Wd E B W wb sv sd s cl k np nn nt Q K)(f:Pz E B W' sd s' b k' Q')(c:ja W W' Q)(d:∀ i,Q' i->Q i\/W.heap.size<=i)(g:Fits n s'):qw E B W wb sv sd n k' np nn nt Q K W':=⟨s',b,k',np,nn,nt,Q',K,⟨f,h.lists.keep c λi q=>h.apart i q,λi q t=>by obtain q|q:=d i q;exact h.apart i q t;have:=h.lists.old t;omega,h.ge⟩,g,ZG _,ZG _,ZG _,ZG _,c.mono λ_ _ t=>.inl t,d,λ_ t=>.inl t⟩
theorem qw.lists{c d b:Nat}{l X g j:Nat->Prop}{f:World}(h:Wd E B W wb sv sd s cl k np nn nt Q K)(x:Fits n s)(v:gd W' wb sv c d b l)(r:ja f W (λi=>g i\/j i))(o:∀ i,Q i->g i\/f.heap.size<=i)(z:∀ i,K i->j i\/f.heap.size<=i)(p:ja W W' (λi=>K i\/X i))(y:∀ i,X i->f.heap.size<=i)(A:B<=f.heap.size)(m:∀ i,X i->¬Q i)(u:∀ i,l i->K i\/X i\/W.heap.size<=i):qw E B f wb sv sd n k c d b g j W':=by
 have C:=r.size;refine⟨s,cl,k,c,d,b,Q,l,⟨h.side.keep p λi hi t=>?_,v,λi q t=>?_,λi t=>?_⟩,x,ZG _,ZG _,ZG _,ZG _,?_,o,λi t=>?_⟩;obtain t|t:=t;exact⟨h.ge i t,λq=>h.apart i q t⟩;grind;obtain t|t|t:=u i t;exact h.apart i q t;exact m i t q;have:=(h.side.old q).2;omega;obtain t|t|t:=u i t;exact h.ge i t;have:=y i t;omega;omega;refine r.trans p λi hi t=>?_
 grind;grind
theorem qw.back(g:ja W W' N_)(h:qw E B W' wb sv sd n k np nn nt Q K W2):qw E B W wb sv sd n k np nn nt Q K W2:=by
 obtain⟨s',f,k',c,d,b,Q',p,l,m,o,a2,a3,a4,j,r,q⟩:=h;have s:=g.size;refine⟨s',f,k',c,d,b,Q',p,l,m,o,a2,a3,a4,(g.up).trans j λi hi t=>t,λi t=>?_,λi t=>?_⟩
 .grind
 grind
theorem qw.trans{l n c d b:Nat}{o p:Nat->Prop}(m:ja W W' (λi=>Q i\/K i))(z:∀ i,o i->Q i\/W.heap.size<=i)(A:∀ i,p i->K i\/W.heap.size<=i)(h:qw E B W' wb sv sd l n c d b o p W2):qw E B W wb sv sd l n c d b Q K W2:=by
 obtain⟨s',k,k',g,j,f,Q',v,r,s,u,a2,a3,a4,q,y,x⟩:=h;have C:=m.size;refine⟨s',k,k',g,j,f,Q',v,r,s,u,a2,a3,a4,m.trans q λi hi t=>?_,λi t=>?_,λi t=>?_⟩
 .grind
 .grind
 grind
end
end
section
theorem Y1{α:Type}{l:List α}{p:Nat}(h:p<l.length)(a:α):(l.set p a).take (p+1)=l.take p++[a]:=by grind [zR,List.take_set_of_le]
def u3(W wr:World)(e:TypeId)(c:List Value)(v:Value)(n i:Nat):Prop:=∃ cs,wr.ownsRow 0 e c.length v n cs/\cs.take (i*c.length)=cst i c/\ja W wr (λj=>v.ownBlock=some j)
theorem u3.first{W:World}{e:TypeId}{c:List Value}{v:Value}{n:Nat}{cs:List Value}(h:W.ownsRow 0 e c.length v n cs):u3 W W e c v n 0:=⟨cs,h,by simp[cst],ja.refl _ _⟩
theorem u3.done{W wr:World}{e:TypeId}{c:List Value}{v:Value}{n:Nat}(h:u3 W wr e c v n n):wr.ownsRow 0 e c.length v n (cst n c)/\ja W wr (λj=>v.ownBlock=some j):=by obtain⟨cs,d,b,k⟩:=h;rw[ZC (by rw[d.1];exact ZG _)] at b;simp_all
theorem u3.heap{W wr:World}{e:TypeId}{c:List Value}{g n i cap:Nat}(h:u3 W wr e c (.slice (some (A2 g)) n cap) n i):∃ cur:Array Value,wr.heap[g]?=some (.cells cur e (0,0))/\n*c.length<=cur.size:=by obtain⟨cs,f,_,_⟩:=h;obtain⟨e,_⟩|⟨o,d,cur,e,_,b,k,m,j,l⟩:=f.2;cases e;cases e;exact⟨cur,b,by rw[j];exact Nat.mul_le_mul_right _ k⟩
theorem u3.one{W wr:World}{e:TypeId}{a:Value}{g n i cap:Nat}(h:u3 W wr e [a] (.slice (some (A2 g)) n cap) n i)(hi:i<n):u3 W (wr.setCell (B1 g i) a) e [a] (.slice (some (A2 g)) n cap) n (i+1):=by obtain⟨cs,b,c,k⟩:=h;have d:=b.1;simp only[xC,xD,xX,Nat.mul_one] at d c b ⊢;refine⟨cs.set i a,Yr b zC a,?_,k.set (p:=(B1 g i)) rfl a⟩;grind [Y1,Ac]
theorem u3.two{W wr:World}{e:TypeId}{a b:Value}{g n i cap:Nat}(h:u3 W wr e [a,b] (.slice (some (A2 g)) n cap) n i)(hi:i<n):u3 W ((wr.setCell ⟨g,i*2,none⟩ a).setCell ⟨g,i*2+1,none⟩ b) e [a,b] (.slice (some (A2 g)) n cap) n (i+1):=by obtain⟨cs,d,c,k⟩:=h;have f:cs.length=n*2:=d.1;have c:cs.take (i*2)=cst i [a,b]:=c;refine⟨(cs.set (i*2) a).set (i*2+1) b,Yr (Yr d (by show i*2<n*2;omega) a) (by show i*2+1<n*2;omega) b,?_,(k.set (p:=⟨g,i*2,none⟩) rfl a).set (p:=⟨g,i*2+1,none⟩) rfl b⟩;grind [Y1,Ac]
def fe(w:World)(wb:Nat)(sv:Value)(np nn nt:Nat)(K:Nat->Prop)(v:Value)(w':World):Prop:=∃ K',gd w' wb sv np nn nt K'/\ja w w' (λi=>K i\/v.ownBlock=some i)/\∀ i,K' i->K i\/v.ownBlock=some i\/w.heap.size<=i
structure KP(w1 wr:World)(wb:Nat)(es e:TypeId)(c:List Value)(f:Nat->List Value)(mk:Value->Array Value)(pv0 v:Value)(T0:Nat->Prop)(N M:Nat)(pv lv:Value)(us:List Value)(T:Nat->Prop):Prop where
 row:wr.heap[wb]?=some (.cells (mk pv) 29 (0,0))
 gr:Gr wr es e c f pv lv N M us T
 tT:∀ g,T0 g->T g
 nT:∀ g,T g->T0 g\/v.ownBlock=some g\/w1.heap.size<=g
 pvb:∀ g,pv.ownBlock=some g->pv0.ownBlock=some g\/w1.heap.size<=g
 kk:ja w1 wr (λi=>i=wb\/pv0.ownBlock=some i\/v.ownBlock=some i)
section
variable {w1 wr:World} {wb N M:Nat} {es e t:TypeId} {c:List Value} {f:Nat->List Value} {mk:Value->Array Value} {pv0 v pv lv:Value} {T0 T:Nat->Prop} {us:List Value}
theorem KP.wT(h:KP w1 wr wb es e c f mk pv0 v T0 N M pv lv us T)(d:¬T0 wb)(b:v.ownBlock≠some wb)(g:wb<w1.heap.size):¬T wb:=λt=>by obtain t|t|t:=h.nT wb t;exact d t;exact b t;omega
theorem KP.push{k:World}{b:Value}{i:Nat}{x:Obj}(h:KP w1 wr wb es e c f mk pv0 v T0 N M pv lv us T)(E:¬T0 wb)(A:v.ownBlock≠some wb)(C:pv0.ownBlock≠some wb)(z:wb<w1.heap.size)(D:f N=c)(B:k.ownsRow 0 es 1 b (N+1) (us++[lv]))(d:(wr.alloc x).grownBy k pv.ownBlock)(l:b.ownBlock=pv.ownBlock\/b.ownBlock=some (wr.alloc x).heap.size)(o:∀ p,(mk p).setIfInBounds i b=mk b):KP w1 (k.setCell (B1 wb i) b) wb es e c f mk pv0 v T0 (N+1) M b lv (us++[lv]) T:=by
 have q:=ja.alloc wr x λ_=>False
 have s:ja wr k (λj=>pv.ownBlock=some j):=(q.up).trans (ja.grown d) λj _ e=>e.symm
 have r:=ja.setCell k (B1 wb i) b;have m:ja wr (k.setCell (B1 wb i) b) (λj=>pv.ownBlock=some j\/j=wb):=(s.mono (λ_ _ t=>.inl t)).trans r (λj _ e=>.inr e);have n:pv.ownBlock≠some wb:=λt=>by obtain t|t:=h.pvb wb t;(· exact C t);· omega
 have y:∀ g,b.ownBlock=some g->pv.ownBlock=some g\/wr.heap.size<=g:=λg d=>by obtain l|l:=l;(· exact .inl (l▸d));· rw[l] at d;cases d;exact .inr q.size
 have F:=h.kk.size;refine⟨?_,h.gr.push m (λj t u=>?_) (r.row B λg d e=>?_) y D,h.tT,h.nT,λg d=>?_,?_⟩
 .rw[jc (s.same h.row n),o]
 .obtain t|t:=t;(· exact h.gr.nT j t u);· rw[t] at u;exact h.wT E A z u
 .grind
 .obtain t|t:=y g d;(· exact h.pvb g t);· exact .inr zC
 ·(refine h.kk.trans m λj g t=>?_);obtain t|t:=t;(· obtain t|t:=h.pvb j t;(· exact .inr<|.inl t);· omega);· exact .inl t
theorem KP.grow{k:World}{b:Value}{x:Obj}(h:KP w1 wr wb es e c f mk pv0 v T0 N M pv lv us T)(z:¬T0 wb)(u:v.ownBlock≠some wb)(s:wb<w1.heap.size)(r:∀ g,lv.ownBlock=some g->v.ownBlock=some g\/w1.heap.size<=g)(o:k.ownsRow 0 e c.length b (M+1) (cst M c++c))(n:(wr.alloc x).grownBy k lv.ownBlock)(i:b.ownBlock=lv.ownBlock\/(b.ownBlock=some (wr.alloc x).heap.size/\(wr.alloc x).grownBy k none)):KP w1 k wb es e c f mk pv0 v T0 N (M+1) pv b us (λg=>T g\/b.ownBlock=some g)/\∀ g,b.ownBlock=some g->v.ownBlock=some g\/w1.heap.size<=g:=by
 have l:=ja.alloc wr x λ_=>False
 have m:=(l.up).trans (ja.grown n) λj _ e=>e.symm
 have y:=h.kk.size;have q:=l.size;have d:∀ g,b.ownBlock=some g->v.ownBlock=some g\/w1.heap.size<=g:=λg n=>zF
 refine⟨⟨m.same h.row λt=>?_,h.gr.grow o m ?_,λg t=>.inl<|h.tT g t,λg t=>?_,h.pvb,h.kk.trans m λj m t=>?_⟩,d⟩;grind;obtain i|⟨i,p⟩:=i;exact .inl i;refine .inr ⟨λg n=>?_,l.trans (ja.grown p) λj _ e=>by cases e⟩;simp_all;obtain t|t:=t;exact h.nT g t;exact .inr<|d g t;grind
end
theorem KP.ends{w m wr:World}{d N M:Nat}{a0 b c v a lv:Value}{y q:List Value}{k T K:Nat->Prop}{es e:TypeId}{f:Nat->List Value}{r:Value->Array Value}(p:∀ g,(k g\/g=d\/a0.ownBlock=some g\/b.ownBlock=some g\/c.ownBlock=some g)->K g/\g<w.heap.size)(z:¬k d/\(∀ g,a0.ownBlock=some g->¬k g)/\(∀ g,b.ownBlock=some g->¬k g)/\∀ g,c.ownBlock=some g->¬k g)(x:∀ g,a0.ownBlock=some g->g≠d/\b.ownBlock≠some g/\c.ownBlock≠some g)(C:∀ g,b.ownBlock=some g->g≠d)(B:∀ g,c.ownBlock=some g->g≠d)(l:∀ g,v.ownBlock=some g->¬K g)(n:ja w m (λj=>v.ownBlock=some j))(h:KP m wr d es e y f r a0 v k N M a lv q T):(∀ g,(g=d\/a0.ownBlock=some g\/v.ownBlock=some g)->¬k g/\b.ownBlock≠some g/\c.ownBlock≠some g)/\(∀ g,T g->¬(g=d\/b.ownBlock=some g\/c.ownBlock=some g))/\(∀ g,a.ownBlock=some g->g≠d/\b.ownBlock≠some g/\c.ownBlock≠some g)/\ja w wr (λi=>K i\/v.ownBlock=some i)/\∀ i,(T i\/i=d\/a.ownBlock=some i\/b.ownBlock=some i\/c.ownBlock=some i)->K i\/v.ownBlock=some i\/w.heap.size<=i:=by
 have A:=n.size;have o:∀ g,(g=d\/b.ownBlock=some g\/c.ownBlock=some g)->K g/\g<w.heap.size:=λg t=>p g<|t.elim (λt=>.inr<|.inl t) λt=>.inr<|.inr<|.inr t
 refine⟨λg t=>?_,λg t u=>?_,λg t=>?_,(n.mono λ_ _ t=>.inr t).trans h.kk λj s t=>?_,λi t=>?_⟩;grind;have s:=o g u;obtain t|t|t:=h.nT g t;grind;exact l g t s.1;omega;obtain t|t:=h.pvb g t;exact x g t;grind;grind;obtain t|t|t|t:=t;obtain t|t|t:=h.nT i t;exact .inl (p i<|.inl t).1;exact .inr<|.inl t;omega;exact .inl (o i<|.inl t).1;obtain t|t:=h.pvb i t;simp_all;omega;simp_all
theorem fk{A B a b c:Prop}(h:A\/B\/a\/b\/c):A\/B\/b\/a\/c:=h.elim .inl λh=>.inr<|h.elim .inl λh=>.inr<|h.elim (λh=>.inr<|.inl h) λh=>h.elim .inl λh=>.inr<|.inr h
theorem KP.jo5{w x wr:World}{f r z y M:Nat}{q i m l v pv lv:Value}{c D:List Value}{B T K:Nat->Prop}{e:TypeId}(b:ua w f q i m l r z y B K)(k:∀ g,v.ownBlock=some g->¬K g)(A:ja w x (λj=>v.ownBlock=some j))(h:KP x wr f 118 e c fP (λp=>#[q,p,m,l]) i v B (r+4) M pv lv D T):fe w f q (r+4) z y K v wr:=by have C:=b.keep A k;obtain⟨o,d,s,F,hi⟩:=h.ends (λg t=>⟨(b.Xg g).2 t,b.old<|(b.Xg g).2 t⟩) b.nT b.ap (λg e=>(b.an g e).1) b.at' k A;have E:=b.m4;exact⟨λg=>T g\/g=f\/pv.ownBlock=some g\/m.ownBlock=some g\/l.ownBlock=some g,⟨pv,m,l,T,⟨h.row,h.gr.cl,C.n.keep h.kk (λg e u=>(o g u).2.1 e) (λg t u=>(o g u).1 t) h.tT,C.t.keep h.kk (λg e u=>(o g u).2.2 e) (λg t u=>(o g u).1 t) h.tT,⟨zC,E.2⟩,⟨λt=>d f t<|.inl rfl,h.gr.nT,λg u t=>d g t<|.inr<|.inl u,λg u t=>d g t<|.inr<|.inr u⟩,s,b.an,b.at',h.gr.lt,λg=>Iff.rfl⟩⟩,F,hi⟩
theorem KP.jo6{w y wr:World}{l A x z M:Nat}{s o n m v pv lv:Value}{c E:List Value}{C T K:Nat->Prop}{e:TypeId}(d:ua w l s n o m A x z C K)(q:∀ g,v.ownBlock=some g->¬K g)(B:ja w y (λj=>v.ownBlock=some j))(h:KP y wr l 51 e c fN (λp=>#[s,n,p,m]) o v C (x+4) M pv lv E T):fe w l s A (x+4) z K v wr:=by have D:=d.keep B q;obtain⟨r,f,k,G,hi⟩:=h.ends (b:=n) (c:=m) (K:=K) (λg t=>⟨(d.Xg g).2<|fk t,d.old<|(d.Xg g).2<|fk t⟩) ⟨d.nT.1,d.nT.2.2.1,d.nT.2.1,d.nT.2.2.2⟩ (λg t=>⟨(d.an g t).1,λe=>(d.ap g e).2.1 t,(d.an g t).2⟩) (λg e=>(d.ap g e).1) d.at' q B;have F:=d.m4;exact⟨λg=>T g\/g=l\/n.ownBlock=some g\/pv.ownBlock=some g\/m.ownBlock=some g,⟨n,pv,m,T,⟨h.row,D.p.keep h.kk (λg e u=>(r g u).2.1 e) (λg t u=>(r g u).1 t) h.tT,h.gr.cl,D.t.keep h.kk (λg e u=>(r g u).2.2 e) (λg t u=>(r g u).1 t) h.tT,⟨F.1,zC⟩,⟨λt=>f l t<|.inl rfl,λg u t=>f g t<|.inr<|.inl u,h.gr.nT,λg u t=>f g t<|.inr<|.inr u⟩,λg e=>⟨(d.ap g e).1,λt=>(k g t).2.1 e,(d.ap g e).2.2⟩,λg e=>⟨(k g e).1,(k g e).2.2⟩,d.at',h.gr.lt,λg=>Iff.rfl⟩⟩,G,λi t=>hi i<|fk t⟩
end
