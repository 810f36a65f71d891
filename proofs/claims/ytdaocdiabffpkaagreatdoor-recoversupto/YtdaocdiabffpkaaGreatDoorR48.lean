/-
-/
import Derived.Test.YtdaocdiabffpkaaGreatDoorR47
set_option maxRecDepth 100000
set_option maxHeartbeats 8000000
set_option linter.all false
namespace Go.Proofs.YtdaocdiabffpkaaGreatDoor
section
open RowKit Maps WideShapes Go.Sort Go.Proofs.Tryz
variable {w:World} {d f:Nat} {b:List UInt8} {nm:Str}
def jd.laid(S:jd)(n:Str)(f:Nat)(b:By):jd :=
 { S with names:=S.names.put (.string n) (.held f),safe:=S.names.put (.string n) (.held f),late:=[],files:=λg=>if g=f then some ⟨b,b.length,[]⟩ else S.files g }
theorem Rep.laid{l:World}{ρ:Nat->j4}{s j n m:Nat}{S:jd}{bv:Value}(R:Rep w ρ d S)(rn:ρ s=.names)(C:l.heap[d]?=some (.cells #[.map (some s),.map (some j),S5,aA S.calls,aA S.fail,aA S.cut,aA S.wrote] 67 (0,0)))(T:w.heap.size<=f)(N:w.heap.size<=j)(O:f≠j)(t:l.heap[f]?=some (.cells #[bv,aA b.length,S5] 88 (0,0)))(y:l.ownsRow w.heap.size 5 1 bv b.length (b.map qd))(U:∀ g,bv.ownBlock=some g->g≠f/\g≠j)(H:l.ownsMap prog 9 qy s n (S.names.put (.string nm) (.held f)))(E:l.ownsMap prog 9 qy j m (S.names.put (.string nm) (.held f)))(x:ja w l (λi=>i=d\/i=s)):S.files f=none/\∃ ρ',Rep l ρ' d (S.laid nm f b)/\yc w ρ l ρ':=by
 have F:=R.yk;have q:S.files f=none:=by cases h:S.files f with|none=>rfl|some a=>have:=R.lt f (by rw[(R.files _ a h).1];decide);omega
 obtain⟨L,J,M,_,_,_,G,_⟩:=R.mem;obtain⟨ρ',o⟩:∃ ρ':Nat->j4,ρ'=λi=>if i=f then .file else if i=j then .safe else if bv.ownBlock=some i then .bytes f else ρ i:=⟨_,rfl⟩
 have v:∀ i,i<w.heap.size->ρ' i=ρ i:=λi hi=>by rw[o];simp only;rw[if_neg zC,if_neg zC,if_neg (λe=>zA (y.lt i e).1)]
 have B:ρ' f=.file:=by rw[o];simp
 have A:ρ' j=.safe:=zF;have D:∀ i r,ρ i=r->r≠.none->ρ' i=r:=λi r h hr=>(v i<|R.lt i<|by rw[h];exact hr).trans h
 have z:∀ i,ρ i≠.names->ρ i≠.yk->¬(i=d\/i=s):=zF;have I:∀ g a,S.files g=some a->∃ a',(S.laid nm f b).files g=some a':=by grind [jd.laid]
 have u:bu (S.names.put (.string nm)<|.held f) (S.laid nm f b).files:=oy G.isMap (R.l8.mono I) (a:=⟨b,b.length,[]⟩) (by simp[jd.laid]) nm;refine⟨q,ρ',⟨⟨s,j,S5,C,D _ _ rn zE,A,tight H,tight E,zU _ _ _ _,λg k=>(by cases k)⟩,D _ _ F zE,?_,u,u,λc hc=>(by cases hc),?_,R.Nt,R.jkf⟩,⟨x.mono ?_,v⟩⟩
 .intro g a k;simp only[jd.laid] at k;split at k;(· rename_i e;cases k;subst e;refine⟨B,bv,S5,t,qn y<|zT _,λg k=>?_,zU _ _ _ _,λg k=>(by cases k)⟩;simp_all);· have p:=R.files g a k;exact p.keep x v (z g (by rw[p.1];decide)<|by rw[p.1];decide) (λi hi=>z i zG zG) (λi hi=>z i zG zG)
 .intro i hi;rw[o] at hi;simp only at hi;by_cases e1:i=f;(· rw[e1];exact zO t);· rw[if_neg e1] at hi;by_cases e2:i=j;(· rw[e2];exact E.lt);· rw[if_neg e2] at hi;by_cases e3:bv.ownBlock=some i;(· exact(y.lt i e3).2);· rw[if_neg e3] at hi;exact zZ (R.lt i hi) x.size
 grind
theorem jdo{ρ:Nat->j4}{S:jd}(R:Rep w ρ d S)(l:w.heap.size<=f):bu (S.names.put (.string nm) (.held f)) (S.laid nm f b).files:=by obtain⟨j,i,k,_,_,_,c,_⟩:=R.mem;refine oy c.isMap (R.l8.mono λg a h=>?_) (a:=⟨b,b.length,[]⟩) (by simp[jd.laid]) nm;grind [jd.laid]
theorem jbi(b:Array Value)(w:World):(callFunc 26 b).run prog w=.ok (.enter 26 b) w:=by kernel_rfl
theorem jke{ρ:Nat->j4}{S:jd}(nm:Str)(p:Option Addr)(c:Nat)(b:By)(R:Rep w ρ d S)(Z:Small S)(hn:nm.length<1099511627776)(hb:b.length<1099511627776)(hr:Reads w (.slice p b.length c) b):Calls prog 101 #[P1 d,je nm,.slice p b.length c] w λe w'=>e=.returned (.tuple #[])/\∃ f,S.files f=none/\∃ ρ',Rep w' ρ' d (S.laid nm f b)/\yc w ρ w' ρ':=by
 obtain⟨l,g,lv,g,rn,rs,i,os,j,j⟩:=R.mem;have n:=ar hn;have j:=zO g;have j:=i.lt;have j:=R.yk;have M:l≠d:=λe=>by rw[e,j] at rn;cases rn
 have r:=jb g;have j:=Z.names;have a9:=(ja.drew w λ_=>False).same g id;have m:=zK 0 a9;simp at m;have a4:Reads w.drew (.slice p b.length c) b:=by obtain h|⟨j,k,e,h⟩:=hr;exact .inl h;exact .inr ⟨j,k,e,λj u k=>(ja.drew w λ_=>False).cell (h j u k) id⟩
 have F:w.drew.ownsMap prog 9 qy l (Maps.size S.names) S.names:=(ja.drew w λ_=>False).map i id;have i:Maps.size S.names<maxLen:=by unfold maxLen;omega
 have ay:∀(k:World),ja w.drew k N_->∀(G:Option Addr) (I:Nat),∃ X,(Instr.mapUpdate 64 (.map<|some l) (je nm)<|.pointer<|some (A2 k.heap.size)).run prog (k.alloc<|.cells #[.slice G b.length I,aA b.length,S5] 88)=.ok () X/\X.ownsMap prog 9 qy l (Maps.size S.names+1) (S.names.put (.string nm)<|.held k.heap.size)/\(k.alloc<|.cells #[.slice G b.length I,aA b.length,S5] 88).grownBy X (some l):=λk Y G I=>((Y.map F id).alloc _).update law underlying64 i n rfl
 clear g a9;go_enter func101,ntmps101;go_wp2_with fail;go_cut [] from 8 (λwc=>∃ f bv,w.heap.size<=f/\wc.heap[f]?=some (.cells #[bv,aA b.length,S5] 88 (0,0))/\wc.ownsRow w.heap.size 5 1 bv b.length (b.map qd)/\(∀ g,bv.ownBlock=some g->g≠f)/\wc.ownsMap prog 9 qy l (Maps.size S.names+1) (S.names.put (.string nm)<|.held f)/\ja w wc (λi=>i=l));case first=>go_region_law (first|(refine jx rfl 26 [.tmp 13] _ rfl jbi [.slice p b.length c] (by simp[Act.eval,Act.put]) (pd _ _ b hb a4) ?_;rintro e k ⟨G,I,rfl,o,Y⟩;have m:=Y.cell m id;(have j:∀ x,(k.alloc x).cell? (A2 d)=some (.map<|some l):=λx=>(ja.alloc k x λ_=>False).cell m id);obtain⟨X,j,W,z⟩:=ay k Y G I;refine⟨_,rfl,?_⟩));all_goals go_wp2;go_meet;have j:ja w k N_:=(ja.drew w _).tt Y;have aw:ja w (k.alloc<|.cells #[.slice G b.length I,aA b.length,S5] 88) N_:=j.more _;have n:=ja.grown z;have q:=j.size;refine⟨k.heap.size,.slice G b.length I,q,n.same (jf k _)<|by simp;omega,n.row ((ja.alloc k _ λ_=>False).row o λ_ _ h=>h) λg j e=>?_,λg j=>?_,W,(aw.up).trans n λi _ e=>Option.some.inj e⟩;have n:=(o.lt g j).1;have q:g=l:=Option.some.inj e;have q:w.drew.heap.size=w.heap.size:=rfl;omega;have n:=(o.lt g j).2;omega
 case rest=>obtain⟨f,bv,a8,T,A,b9,L,o⟩:=hcut;have n:=o.same r M.symm;have q:=o.size;have q:=zO T;have q:d<wc.heap.size:=zO n;have q:l<wc.heap.size:=L.lt;(have c7:wc.heap.size≠d:=zC);have I:=@run_makeMap prog;have O:=jdo (b:=b) (nm:=nm) R a8;have t:=zK 0 n;have y:=zK 1 n;have E:=zK 2 n;have J:=zL 1 n;have G:=zL 2 n;simp at t y E;have B:(((wc.setCell (B1 d 1)<|.map<|some wc.heap.size).setCell (B1 d 2)<|.slice none 0 0).alloc<|.map #[] 0).ownsMap prog 9 qy l (Maps.size S.names+1) (S.names.put (.string nm)<|.held f):=((L.setCell M _).setCell M _).alloc _;(have a5:(((wc.setCell (B1 d 1)<|.map<|some wc.heap.size).setCell (B1 d 2)<|.slice none 0 0).alloc<|.map #[] 0).ownsMap prog 9 qy wc.heap.size 0 (.map []):=by have h:=World.ownsMap_made (H:=Nat) ((wc.setCell (B1 d 1)<|.map<|some wc.heap.size).setCell (B1 d 2)<|.slice none 0 0) prog 9 qy;(have e:((wc.setCell (B1 d 1)<|.map<|some wc.heap.size).setCell (B1 d 2)<|.slice none 0 0).heap.size=wc.heap.size:=by simp[World.setCell]);rwa [e] at h);(have a3:(((wc.setCell (B1 d 1)<|.map<|some wc.heap.size).setCell (B1 d 2)<|.slice none 0 0).alloc<|.map #[] 0).heap.size=wc.heap.size+1:=by simp[World.setCell]);have D:ja wc (((wc.setCell (B1 d 1)<|.map<|some wc.heap.size).setCell (B1 d 2)<|.slice none 0 0).alloc<|.map #[] 0) (λi=>i=d):=(((ja.setCell wc _ _).set (by exact rfl) _).more _);(have ab:(((wc.setCell (B1 d 1)<|.map<|some wc.heap.size).setCell (B1 d 2)<|.slice none 0 0).alloc<|.map #[] 0).heap[d]?=some (.cells #[.map (some l),.map (some wc.heap.size),S5,aA S.calls,aA S.fail,aA S.cut,aA S.wrote] 67 (0,0)):=by rw[Below.heap_alloc _ _ d zG,jc (jc n _)];rfl);have u:=jb a3;have C:=jb ab;clear a3 ab n m F a4;go_wp2_with (first|(at_range;refine wpList_range_own _ rfl _ 64 rfl 9 84 law underlying64 _ l _ _ rfl B ?_;intro n r s N)|go_in);go_frame;rw[u.out] at r ⊢;have m:=ja.grown s;have F:=m.map a5 zD;have U:=m.same C zD;(have a2:ja wc n (λi=>i=d):=D.trans m λ_ _ h=>(by simp at h));have ai:wc.heap.size+1<n.heap.size:=r.lt;obtain⟨q,v⟩:=zJ wc.heap.size;rw[<-v] at r F U ai ⊢;change Hid _ at v U T;have M:=jb a2;have ah:=jb A;have H:=jb o;clear N a2 A o I t y E J G B a5 D u C s m;(have bn:l<q:=zA v.out);(have m:¬d=q:=zA v.out);(have m:¬d=q+1:=zA v.out);go_loopw [6,7] (λ_ _ k=>∃(left:Lit->Bool) (V:Nat) (t:DataW Nat) (m:Nat),k.ranges prog 9 qy l (q+1) (Maps.size S.names+1) (S.names.put (.string nm)<|.held f) left V/\k.ownsMap prog 9 qy q m t/\m+V<=Maps.size S.names+1/\Agree t (S.names.put (.string nm)<|.held f) left/\ja n k (λi=>i=q\/i=q+1)) (λ_ _ k=>k.rangeLeft l (q+1));(case atStart=>exact⟨_,_,_,0,r,F,zA L.size_le,agree_start _,ja.refl _ _⟩);case round=>obtain⟨left,V,t,m,C,y,cd,k,N⟩:=hrel;have D:=N.same U zC;have n:=zK 1 D;simp at n;change Hid _ at D;go_wp2_with (first|(at_next;refine Yg _ rfl _ rfl l (q+1) _ _ _ _ rfl C O ?_ ?_)|go_in);(· intro cl n;have bc:t=S.names.put (.string nm) (.held f):=agree_end k n (y.canon law)<|C.owns.canon law;rw[bc] at y;have n:=v.out;(have J:ja wc wr (λi=>i=d\/i=q\/i=q+1):=(M.out.mono λ_ _ h=>.inl h).trans N λ_ _ h=>.inr h);have n:=R;have n:ja w wr (λi=>i=d\/i=l):=(H.out.mono λ_ _ h=>.inr h).trans J (λi hi h=>zC);(have aa:∀ g,bv.ownBlock=some g->¬(g=d\/g=q\/g=q+1):=λg j=>by have:=ah.out.lt g j;omega);obtain⟨l,ρ',l,l⟩:=R.laid rn D a8 zC zC (J.same T zC) (J.row ah aa) (λg j=>⟨b9 g j,λe=>aa g j<|.inr<|.inl e⟩) C.owns y n;go_wp2;go_end0;grind);· intro x l X t o g g g n E al z r g;have g:=(ja.grown z).same D (by simp;omega);have j:=zK 1 g;simp at j;clear g r;have g:=(ja.grown z).map y zD;have b8:keyOf prog 9 (je x)=some (.string x):=WideMaps.keyOf_string_mk (s:=⟨x.toArray⟩) underlying9 (by show x.toArray.size<=maxLen;simpa using o);go_wp2_with (first|(at_mapUpdate;refine wpList_mapUpdate_own _ rfl (.tmp 39) (.tmp 40) (.tmp 41) 64 rfl 9 84 law underlying64 _ q m _ rfl g (by unfold maxLen;omega) _ _ _ rfl rfl b8 (.held l) [] rfl ?_;intro g aj O)|go_in);go_frame;go_roundw;(case rel=>have A:=E.kept O (by simp;omega) zD;exact⟨_,t,_,m+1,A,aj,zC,agree_step k y.isMap (by trivial) n,((N.trans (ja.grown z) λi _ e=>.inr<|Option.some.inj e).trans (ja.grown O) λi _ e=>.inl<|Option.some.inj e)⟩);case measure=>have A:=E.kept O (by simp;omega) zD;rw[A.left_eq,C.left_eq];exact al
end
section
open RowKit Maps WideShapes Go.Proofs.Tryz
variable {U X N L:Nat} {S S' S2:jd} {s:Rf.St} {Q:Want} {m:Rf.Man} {bs bls:List (List Rf.Ch)} {g:List UInt8} {V V2:List (Str×List UInt8)}
def ud(S:jd)(N L:Nat):Prop:=Safe S 7100 (Qr N L)\/Safe S 20000 (Qr N L).whole
theorem ud.left(h:jk3 S U X (Qr N L))(c:U<=6500)(b:X<=20000):ud S N L:=h.imp (λh=>h.mono zC<|Want.Le.refl _) λh=>h.mono zC<|Want.Le.refl _
theorem ud.norm(h:jet S U X s (Qr N L))(c:U<=6500)(b:X<=20000):ud S N L:=ud.left (h.imp (λh=>h.safe) λh=>h.safe) c b
theorem ud.mono{c d:Nat}(h:ud S N L)(f:N<=c)(g:L<=d):ud S c d:=by have b:=Qr.le f g;exact h.imp (λh=>h.mono (ZG _) b) λh=>h.mono (ZG _) ⟨b.Qn,b.now,λ_ t=>t⟩
theorem ud.wf(h:ud S N L):∀ f a,S.files f=some a->a.Wf:=by obtain⟨m,bls,h⟩|⟨m,bls,h⟩:=h<;>exact h.wf
structure Found(S:jd)(U N L:Nat)(m:Rf.Man)(bs:List (List Rf.Ch))(g:List UInt8)(bls:List (List Rf.Ch))(V:List (Str×List UInt8)):Prop where
 pow:Pow S U m bls (Qr N L)
 late:S.late=[]
 small:U<=20000
 log:At S (jj m.log) (λa=>a.bytes=Rf.ji m.last bs++g)
 over:Rf.Over m.last bs g
 ok:(⟨m,bs,bls⟩:Rf.St).Ok
 next:m.next<=N
 last:m.last+bs.length<=L
 size:qe (⟨m,bs,bls⟩:Rf.St).files+g.length<=20000
 Xl:g≠[]->U+4+(Rf.ji m.last bs).length+2*m.bytes.length<=20000
 jmz:g≠[]->qe (⟨m,bs,bls⟩:Rf.St).files<=6500
 view:View S V
 sum:(V.map (λq=>q.2.length+1)).sum<=U
 short:∀ p∈V,p.1.length<=60/\p.1≠[]
theorem Nc(fs:yg)(T:List Tok):Y7 fs T=((Jl fs T).map (λq=>q.2.length+1)).sum:=by unfold Y7 Jl;rw[List.map_map];rfl
theorem Pow.jj7(h:Pow S U m bls Q)(o:(⟨m,bs,bls⟩:Rf.St).Ok)(r:At S (jj m.log) (λa=>a.bytes=Rf.ji m.last bs++g)):qe (⟨m,bs,bls⟩:Rf.St).files+g.length<=Go.Proofs.YtdaocdiabffpkaaGreatDoor.total S.files S.names:=by
 obtain⟨T,v,y⟩:=h.cur;have n:View S (Jl S.files T):=⟨T,v.fs,List.Perm.refl _⟩;rw[n.total];have e:qe (⟨m,bs,bls⟩:Rf.St).files+g.length=qe ((jk,m.bytes)::(jj m.log,Rf.ji m.last bs++g)::j7 m.settled bls):=by grind [zm,Yk]
 rw[e];unfold qe;refine Kf _ ?_ λp d=>?_
 .have s:=o.apart;(have x:((jk,m.bytes)::(jj m.log,Rf.ji m.last bs++g)::j7 m.settled bls).Pairwise (λp q=>p.1≠q.1):=by have u:((⟨m,bs,bls⟩:Rf.St).files.map Prod.fst).Pairwise (λa b=>a≠b):=XD.2 s;have t:(((jk,m.bytes)::(jj m.log,Rf.ji m.last bs++g)::j7 m.settled bls).map Prod.fst).Pairwise (λa b=>a≠b):=u;exact XD.1 t);grind [List.Pairwise.imp]
 obtain⟨l,c,_⟩:=h.held;obtain rfl|d:=xN.1 d;obtain⟨f,a,k,j,i⟩:=l;have:=n.of k j;rwa [i.bytes] at this;obtain rfl|d:=xN.1 d;obtain⟨f,a,k,j,i⟩:=r;have:=n.of k j;rwa [i] at this;obtain⟨f,a,k,j,i⟩:=c p d;have:=n.of k j;rwa [i.bytes] at this
theorem Found.of(h:Pow S U m bls (Qr N L))(l:S.late=[])(o:U<=20000){b:By}(j:At S (jj m.log) (λa=>a.bytes=b))(n:Lg m bls (Qr N L).now (λt=>(Qr N L).Xl t/\U<=7100) b):∃ bs g V,Found S U N L m bs g bls V:=by
 obtain⟨bs,g,rfl,k,c,d,f⟩:=n;obtain⟨T,i,v⟩:=h.cur;have s:=h.jj7 c j;have u:=h.total;refine⟨bs,g,Jl S.files T,h,l,o,j,k,c,d.1,d.2,zC,λe=>?_,λe=>(f e).1,⟨T,i.fs,List.Perm.refl _⟩,by rw[<-Nc];exact i.size,λp k=>?_⟩
 .have r:qe (⟨m,bs,bls⟩:Rf.St).files<=6500:=(f e).1;have t2:=(f e).2;have t3:=Ln c;grind [j5,Rf.Man.settled]
 obtain⟨q,d,rfl⟩:=xR.1 k;exact i.short q d
theorem ud.Qn(h:ud S N L)(i:List Int):∃ U m bs g bls V,Found (S.crashed i) U N L m bs g bls V/\qi (S.crashed i):=by
 obtain⟨m,bls,h⟩|⟨m,bls,h⟩:=h;obtain⟨p,c,d,j,s⟩:=h.Qn i;have o:=d.mono (ZG _) ⟨λ_ q=>q,λ_ q=>q,λ_ q=>q⟩;obtain⟨f,a,n,l,k⟩:=o.held.2.2;obtain⟨bs,g,V,r⟩:=Found.of o j zC (b:=a.bytes) ⟨f,a,n,l,rfl⟩<|k.2.mono (λ_ q=>q) λ_ q=>⟨q,zC⟩
 grind;obtain⟨p,c,d,j,s⟩:=h.Qn i;obtain⟨f,a,n,l,k⟩:=d.held.2.2;obtain⟨bs,g,V,r⟩:=Found.of (d.mono (ZG _) ⟨λ_ q=>q,λ_ q=>q,λ_ q=>q.elim⟩) j (ZG _) (b:=a.bytes) ⟨f,a,n,l,rfl⟩<|k.2.mono (λ_ q=>q) λ_ q=>q.elim
 grind
structure uz(S:jd)(V:List (Str×List UInt8)):Prop where
 view:View S V
 late:S.late=[]
 safe:S.safe=S.names
 sure:∀ f a,S.files f=some a->a.safe=a.bytes.length/\a.late=[]/\∃ p∈V,a.bytes=p.2
 u7:qi S
theorem uz.new:uz jd.new []:=⟨⟨[],⟨di.nil,λp b=>(by cases b),List.Pairwise.nil⟩,List.Perm.refl _⟩,rfl,rfl,λf a h=>(by cases h),qi.new⟩
theorem uz.lay(h:uz S V){f:Nat}(r:S.files f=none){n:Str}(q:∀ b,(n,b)∉V)(b:By):uz (S.laid n f b) (V++[(n,b)]):=by
 obtain⟨T,i,o⟩:=h.view;have k:∀ x,(n,x)∉T:=λx c=>q _<|o.symm.subset<|xR.2 ⟨(n,x),c,rfl⟩
 have m:=Sz k;have j:∀ p∈T,p.2≠f:=λp c e=>by obtain⟨a,d⟩:=i.files p c;rw[e,r] at d;cases d
 have l:Jl (S.laid n f b).files ((n,f)::T)=(n,b)::Jl S.files T:=by grind [Jl,y9,jd.laid,XE]
 refine⟨⟨(n,f)::T,⟨?_,?_,XC.2 ⟨λp c e=>j p c e.symm,i.apart⟩⟩,?_⟩,rfl,rfl,?_,h.u7.Jc rfl rfl⟩;have:=i.Z9.put n f;rwa [m] at this;intro p c;obtain rfl|c:=xN.1 c;exact⟨⟨b,b.length,[]⟩,by simp[jd.laid]⟩;obtain⟨a,d⟩:=i.files p c;grind [jd.laid]
 .grind
 intro g a d;simp only[jd.laid] at d;split at d;cases d;simp_all;obtain⟨v,u,p,t,s⟩:=h.sure g a d;grind
theorem uz.sat{T:List Tok}(h:uz S V)(j:Fs S T)(g:V.Perm (Jl S.files T)){n:Str}{b:By}(i:(n,b)∈V):Sat T S.files n (zo b):=by
 obtain⟨q,d,e⟩:=xR.1<|g.subset i;cases e;obtain⟨a,c⟩:=j.files q d;have f:y9 S.files q.2=a.bytes:=by unfold y9;rw[c];rfl
 obtain⟨l,k,_⟩:=h.sure _ _ c;exact⟨q.2,a,d,c,f.symm,by rw[f];exact l,k⟩
theorem Found.other(h:Found S U N L m bs g bls V)(d:uz S2 V2)(v:V2.Perm V):Found S2 U N L m bs g bls V:=by
 obtain⟨B,i,s⟩:=d.view;have z:∀ {n b},(n,b)∈V->Sat B S2.files n (zo b):=λ{n b} hb=>d.sat i s<|v.symm.subset hb
 have r:=s.symm.trans v;obtain⟨u,j,_⟩:=h.pow.held;have E:Names S2.names S2.files U B:=⟨i.Z9,i.files,i.apart,by rw[Nc];exact zW (Nat.le_of_eq (C4 (r.map λq=>q.2.length+1))) h.sum,λp hpT=>h.short _<|r.subset<|xR.2 ⟨p,hpT,rfl⟩⟩;have c:(jj m.log,Rf.ji m.last bs++g)∈V:=by obtain⟨f,a,o,l,k⟩:=h.log;have:=h.view.of o l;rwa [k] at this
 have F:Qx S2.files U m bls (Qr N L) S2.names:=⟨B,E,by refine⟨?_,λp hpr=>?_,?_⟩;obtain⟨f,a,o,l,k⟩:=u;have:=h.view.of o l;rw[k.bytes] at this;exact z this;obtain⟨f,a,o,l,k⟩:=j p hpr;have:=h.view.of o l;rw[k.bytes] at this;exact z this;(refine(z c).mono λa q=>?_);have t:Lg m bls (Qr N L).now (Qr N L).Xl a.bytes:=⟨bs,g,q.bytes,h.over,h.ok,⟨h.next,h.last⟩,h.jmz⟩;exact⟨λch=>by rw[ab (by rw[q.safe,q.bytes]) q.late];exact t,t⟩⟩;have C:∀ f a,S2.files f=some a->a.bytes.length<=60000:=λf a ha=>by obtain⟨_,_,p,D,e⟩:=d.sure f a ha;rw[e];obtain⟨x,y,H⟩:=List.append_of_mem<|v.subset D;have A:=h.sum;rw[H,xL,XA,List.sum_append,List.sum_cons] at A;have:=h.small;omega
 refine⟨⟨?_,λf a ha=>by obtain⟨A,G,_⟩:=d.sure f a ha;exact⟨by rw[A];exact ZG _,by rw[G,A];exact rfl⟩,C,?_,F⟩,d.late,h.small,((At.sat E).2<|z c).mono λa q=>q.bytes,h.over,h.ok,h.next,h.last,h.size,h.Xl,h.jmz,d.view.perm v.symm,h.sum,h.short⟩;rw[d.late,d.safe];rfl;rw[d.late,d.safe];exact⟨m,bls,F⟩
end
section
open RowKit Maps WideShapes Go.Proofs.Tryz
section
variable {E:Nat->Addr} {B:Nat} {w w':World} {d b k n N L N' L':Nat} {s s':Rf.St} {cl deg:Bool} {F:Nat->Prop} {S S':jd}
theorem jbc(h:s.Ok)(d:qe s.files<=6000):qe s.files+s.m.settled.length+2+4+(Rf.jr s.mem).length+2*(s.m.qq s.last).bytes.length<=20000:=by have f:=d;rw[zm,j5,Rf.Jt] at f;have o:=j5<|s.m.qq s.last;have n:(s.m.qq s.last).runs.length=s.m.runs.length+1:=rfl;have k:=(Rf.Yl (l:=s.mem) λc c=>by obtain⟨b,i,g⟩:=Rf.ir c;grind [Qv]).1;have j:Rf.sg s.mem<=Rf.sgs s.bs:=Rf.Fc s.bs;grind [Rf.Man.settled]
theorem Px(h:s.Ok)(f:qe s.files<=6000):qe s.files+s.m.settled.length+2+90+(Rf.jr s.live).length<=20000:=by have g:=f;rw[zm,j5,Rf.Jt] at g;have o:=Y0 s.m.settled s.bls h.len (Qv h).2;have n:=(Rf.Yl (l:=s.live) λc g=>by obtain⟨l,b,d⟩:=Rf.so (λl b=>(h.bl l b).rising)<|Rf.Ar _ c g;exact(h.bl l b).allowed c d).1;have k:Rf.sg s.live<=Rf.sg (Rf.merged s.bls):=Rf.Lj _;have j:=Rf.E9 s.bls;have i:=Cc s.m.settled s.bls h.len;omega
def Gh(E:Nat->Addr)(B:Nat)(w:World)(d b:Nat)(s:Rf.St)(cl:Bool)(F:Nat->Prop):Prop :=
 ∃ S,Norm S 22000 s (Qr s.m.next s.last)/\((cl=false/\Yp E B w d b S 60000 s false F) \/
  (cl=true/\∃ ρ rv,Env E B w/\Dk E B w ρ d S/\w.heap[b]?=some (.cells (ql (.pointer none) (jg s.m.next) (jg s.m.last) (jg s.m.log) (jg s.m.base) rv (jg s.last) S5 false true) 79 (0,0))/\∀ i,ρ i≠.none->F i))
def Qc(E:Nat->Addr)(B:Nat)(w:World)(d N L:Nat)(F:Nat->Prop)(w':World):Prop :=
 ∃ ρ S,Dk E B w' ρ d S/\Fit 500000 S/\ud S N L/\Env E B w'/\ja w w' F/\∀ i,ρ i≠.none->F i\/w.heap.size<=i
def jb5(E:Nat->Addr)(B:Nat)(w:World)(d N L:Nat)(F:Nat->Prop)(e:Ending)(w':World):Prop:=∃ z:Int,e=.returned (aA z)/\¬z=4/\¬z=2/\Qc E B w d N L F w'
theorem Qc.of(h:yl E B w d b S k s deg F w')(g:k<=500000)(j:ud S N L):Qc E B w d N L F w':=by obtain⟨n,O,c,l⟩:=h;obtain⟨ρ,D,m,f⟩:=O.yk;exact⟨ρ,S,D,m.mono g,j,O.env,c,λi t=>l i<|f i t⟩
theorem Qc.same(h:Qc E B w d N L F w)(b:ja w w' N_):Qc E B w d N L F w':=by obtain⟨ρ,S,D,g,c,H,i,f⟩:=h;exact⟨ρ,S,D.same b,g,c,H.same b,b.up,f⟩
theorem Gh.down(h:Gh E B w d b s cl F)(f:qe s.files<=6000):Qc E B w d (s.m.next+2) (s.last+1) F w:=by obtain⟨S,N,h⟩:=h;have j:=Q6 N.ok f;have c:ud S (s.m.next+2) (s.last+1):=.inl (N.tight.safe.mono zC (Qr.le zC zC));obtain⟨_,O⟩|⟨_,ρ,rv,H,D,_,g⟩:=h;exact Qc.of ⟨F,O,ja.refl _ _,λ_ t=>.inl t⟩ zC c;exact⟨ρ,S,D,(N.fit zC).mono zC,c,H,ja.refl _ _,λi t=>.inl<|g i t⟩
theorem jon(h:Xj E B w d b s k cl F)(z:Int)(f:z<=9223372036854775807):Calls prog 98 #[P1 d,aA z] w λe w'=>e=.returned (.tuple #[])/\∃ F',Gh E B w' d b s cl F'/\ja w w' F/\∀ i,F' i->F i\/w.heap.size<=i:=by obtain⟨S,N,W,_,⟨e,O⟩|⟨e,ρ,rv,o,a2,a3,a4,a5,u,a9,r,q,p⟩⟩:=h;refine(joo O z f).mono ?_;rintro n g ⟨rfl,F',m,l,j⟩;exact⟨rfl,F',⟨_,N.alike<|Alike.cut S _,.inl ⟨e,m⟩⟩,l,j⟩;refine(jm3 a2 o z f).mono ?_;rintro n g ⟨rfl,D,c,H⟩;exact⟨rfl,F,⟨_,N.alike<|Alike.cut S _,.inr ⟨e,ρ,rv,H,D,c.same a3 λt=>t a5,a9⟩⟩,c.mono λi _ t=>a9 i t,λ_ t=>.inl t⟩
theorem jk9(h:Gh E B w d b s cl F)(k:qe s.files<=6000)(g:s.last<1000000000)(f:Value)(es:L1)(i:Chs w f es)(j:∀ p n c,f=.slice (some p) n c->¬F p.block)(r:es.length<1099511627776)(z:∀ c∈es,c.key.length<1099511627776/\c.value.length<1099511627776):Calls prog 11 #[P1 b,f] w (jb5 E B w d (s.m.next+2) (s.last+1) F):=by have u:=h.down k;obtain⟨S,N,⟨_,O⟩|⟨_,ρ,rv,H,D,A,C⟩⟩:=h;by_cases hok:Rf.qv es=true;have G:=N.view.total;have J:=Q6 N.ok k;refine(jez (R:=Qr s.m.next (s.last+1)) (R':=Qr s.m.next s.last) O N.tight zC zC f es hok i j g (λt q=>⟨q.1,zA q.2⟩) ⟨ZG _,by grind [ra]⟩ (λt q=>q) ⟨ZG _,ZG _⟩ (λl g=>py k hok g) (λl g=>py k hok<|g.trans<|List.prefix_append _ _)).mono ?_;rintro e w' (⟨rfl,S',o,x,_,_⟩|⟨rfl,S',o,v,_,_,_⟩);exact⟨_,rfl,zE,zE,Qc.of o zC (.inl (x.safe.mono zC (Qr.le zC zC)))⟩;exact⟨_,rfl,zE,zE,Qc.of o zC (.inl ⟨_,_,v.mono zC (Qr.le zC zC)⟩)⟩;obtain⟨ρ,rv,I,T,C⟩:=O;refine(P7 T.row f es i (by simpa using hok) r z).mono ?_;rintro e w' ⟨rfl,y⟩;exact⟨_,rfl,zE,zE,u.same y⟩;refine(Kr A f).mono ?_;rintro e w' ⟨rfl,rfl⟩;exact⟨_,rfl,zE,zE,u⟩
theorem jnb(h:Gh E B w d b s cl F)(f:qe s.files<=6000):Calls prog 50 #[P1 b] w (jb5 E B w d (s.m.next+2) (s.last+1) F):=by
 have k:=h.down f;obtain⟨S,N,⟨_,O⟩|⟨_,ρ,rv,H,D,j,n⟩⟩:=h
 .have l:=Q6 N.ok f;refine(jh4 O N.tight zC).mono ?_;rintro e w' (⟨rfl,S',c,i,_⟩|⟨rfl,S',c,g,_⟩);exact⟨_,rfl,zE,zE,Qc.of c zC (.inr (i.safe.mono zC ⟨(Qr.le zC zC).Qn,(Qr.le zC zC).now,λ_ t=>t⟩))⟩;exact⟨_,rfl,zE,zE,Qc.of c zC (.inl ⟨_,_,g.mono zC (Qr.le zC zC)⟩)⟩
 refine(Re j).mono ?_;rintro e w' ⟨rfl,rfl⟩;exact⟨_,rfl,zE,zE,k⟩
theorem jme(h:Gh E B w d b s cl F)(f:qe s.files<=6000)(q:s.m.next+2<=2000000000):Calls prog 13 #[P1 b] w (jb5 E B w d (s.m.next+2) (s.last+1) F):=by
 have k:=h.down f;obtain⟨S,N,⟨_,O⟩|⟨_,ρ,rv,H,D,j,t⟩⟩:=h
 .have r:=Q6 N.ok f;have n:=N.view.total;obtain⟨l,v,u⟩:=Nl s;have i:=jbc N.ok f;refine(jfn (X:=20000) O (N.tight.mono (ZG _)<|Qr.le l (zC:s.last<=s.flush.last)) zC zC zC ⟨ZG _,ZG _⟩ i zC).mono ?_;rintro e w' (⟨rfl,S',g,c,_,_,o⟩|⟨rfl,S',p,g,_,c,_⟩);exact⟨_,rfl,zE,zE,Qc.of g zC ((ud.norm c zC (ZG _)).mono zC zC)⟩;exact⟨_,rfl,zE,zE,Qc.of g zC ((ud.left c zC (ZG _)).mono zC zC)⟩
 refine(Nj j).mono ?_;rintro e w' ⟨rfl,rfl⟩;exact⟨_,rfl,zE,zE,k⟩
theorem jhm(h:Gh E B w d b s cl F)(f:qe s.files<=6000)(q:s.m.next+2<=2000000000):Calls prog 55 #[P1 b] w (jb5 E B w d (s.m.next+2) (s.last+1) F):=by
 have k:=h.down f;obtain⟨S,N,⟨_,O⟩|⟨_,ρ,rv,H,D,j,t⟩⟩:=h
 .have r:=Q6 N.ok f;have n:=N.view.total;obtain⟨l,v,u⟩:=Ep s;have i:=Px N.ok f;refine(Sd (X:=20000) O (N.tight.mono (ZG _)<|Qr.le l (zC:s.last<=s.j6.last)) zC zC zC ⟨ZG _,ZG _⟩ i zC).mono ?_;rintro e w' (⟨rfl,S',g,c,_,o⟩|⟨rfl,S',p,g,_,c,_⟩);exact⟨_,rfl,zE,zE,Qc.of g zC ((ud.norm c zC (ZG _)).mono zC zC)⟩;exact⟨_,rfl,zE,zE,Qc.of g zC ((ud.left c zC (ZG _)).mono zC zC)⟩
 refine(En j).mono ?_;rintro e w' ⟨rfl,rfl⟩;exact⟨_,rfl,zE,zE,k⟩
def jor(E:Nat->Addr)(B:Nat)(w:World)(d N L:Nat)(F:Nat->Prop)(e:Ending)(w':World):Prop :=
 (e=.returned (.tuple #[.pointer none,aA 1])\/∃ b,e=.returned (.tuple #[P1 b,aA 0]))/\Qc E B w d N L F w'
theorem jno(h:Gh E B w d b s cl F)(u:qe s.files<=6000)(z:s.m.next+2<=2000000000):Calls prog 9 #[P1 d] w (jor E B w d (s.m.next+2) (s.last+1) F):=by
 obtain⟨S,N,h⟩:=h;have C:=Q6 N.ok u;obtain⟨ρ,D,H,f⟩:∃ ρ,Dk E B w ρ d S/\Env E B w/\∀ i,ρ i≠.none->F i:=by obtain⟨_,O⟩|⟨_,ρ,rv,H,D,_,n⟩:=h;obtain⟨ρ,D,I,f⟩:=O.yk;exact⟨ρ,D,O.env,f⟩;exact⟨ρ,D,H,n⟩
 have r:Jy s.m s.bs [] s.bls=s:=if_pos rfl;have q:=jc9 (bs:=s.bs) (g:=[]) (V:=7100) (R:=Qr s.m.next s.last) D (N.fit zC) H zC N.tight.pow (Want.Le.refl _) (N.gw.mono λa h=>zG) (Rf.Qi _ _) N.ok (by rw[r];exact⟨ZG _,ZG _⟩) zC zC zC (by show qe s.files+0<=20000;omega) (λh=>(h rfl).elim);rw[r] at q;refine q.mono ?_;rintro e w' (⟨l,_,k,S',o,c,v,j,p⟩|⟨x,J,S',l,A,O,y,G,_,j,n⟩);exact⟨.inl l,k,S',o,c.mono zC,.inl<|v.mono zC<|Qr.le zC zC,H.keep j λi t=>D.yx i t,j.mono λi _ t=>f i t,λi t=>zF⟩;obtain⟨k,o,c,p⟩:=O.yk;exact⟨.inr ⟨x,l⟩,k,S',o,c.mono zC,.inl<|y.safe.mono zC<|Qr.le zC zC,O.env,j.mono λi _ t=>f i t,λi t=>(n i<|p i t).imp (f i) id⟩
end
section
variable {E:Nat->Addr} {B:Nat} {w:World} {ρ:Nat->j4} {d k U N L:Nat} {S:jd} {m:Rf.Man} {bs bls:List (List Rf.Ch)} {g:List UInt8} {V:List (Str×List UInt8)}
theorem Found.bnd(h:Found S U N L m bs g bls V):Bnd (⟨m,bs,bls⟩:Rf.St):=Fits.bnd (n:=m.last+bs.length+m.next) ⟨h.ok,zA h.size,by show m.last+bs.length<=_;omega,im h.ok,by show m.next<=_;omega⟩
theorem Found.in(h:Found S U N L m bs g bls V){p:Str×By}(k:p∈yw ⟨m,bs,bls⟩):(p.1≠jj m.log\/g=[])->p∈V:=by intro l;obtain⟨i,b,_⟩:=h.pow.held;obtain rfl|rfl|k:=Ys.1 ((Y3 h.ok).subset k);obtain⟨f,a,d,c,j⟩:=i;have:=h.view.of d c;rwa [j.bytes] at this;obtain l|rfl:=l;exact(l rfl).elim;obtain⟨f,a,d,c,j⟩:=h.log;have:=h.view.of d c;simp_all;obtain⟨f,a,d,c,j⟩:=b p k;have:=h.view.of d c;rwa [j.bytes] at this
theorem Found.jib(h:Found S U N L m bs g bls V):V.length<=20000/\∀ p∈V,p.2.length<=20000:=by
 have c:=h.sum;have f:=h.small;constructor
 ·(have d:V.length<=(V.map λq=>q.2.length+1).sum:=by clear c h;induction V with|nil=>exact ZG _|cons x r ih=>grind);omega
 .intro p b;obtain⟨x,y,e⟩:=List.append_of_mem b;grind
theorem Found.jof(h:Found S U N L m bs g bls V)(o:m.next+1<=2000000000){W:World}{v:Value}{fs:List (Str×By)}(j:Fls W v fs)(b:fs.Perm V):Calls prog 16 #[v] W λe w'=>A7 W (Jy m bs g bls) e w':=by
 have c:=h.bnd;have t:=c.lens;have s:=c.bs;have r:=c.bls;obtain⟨n,z2⟩:=h.jib;have i:=(b.pairwise_iff λ{x y} h=>h.symm).2 h.view.apart;have d:∀ f∈fs,f.2.length<200000:=λf c=>zF
 refine Rl v fs j (by rw[b.length_eq];omega) h.ok i (λp i c=>b.symm.subset<|h.in i<|.inl c) g ?_ h.over _ (by grind [Jy]) d ⟨zC,zC,zC⟩;obtain⟨f,a,l,k,q⟩:=h.log;have:=h.view.of l k;grind
theorem Gy(m:Rf.Man)(bs bls:List L1)(g:By):(Jy m bs g bls).m.next<=m.next+1/\(Jy m bs g bls).last=m.last+bs.length:=by unfold Jy;split;exact⟨zG,rfl⟩;exact⟨ZG _,rfl⟩
theorem Found.jnp(h:Found S U N L m bs g bls V)(j:m.next+1<=2000000000)(W:qi S)(D:Dk E B w ρ d S)(H:Env E B w)(l:60000<=k):Calls prog 9 #[P1 d] w λe w'=>Hs E B w ρ d (Jy m bs g bls) k e w'/\qe (Jy m bs g bls).files<=20000:=by have p:=Gy m bs bls g;have v:=h.next;have u:=h.last;refine(jc9 (V:=20000) (R:=Qr (N+1) L) D (h.pow.fit h.late<|(zA h.small)) H zC h.pow (Qr.le zC<|ZG _) h.log h.over h.ok ⟨zC,zC⟩ j h.small zC h.size (λe=>⟨h.Xl e,ZG _⟩)).mono ?_;intro e w' c;refine⟨Hs.of W c zC l,?_⟩;obtain⟨_,i,_⟩|⟨b,F,S',q,r,O,f,t,n,o,s⟩:=c;exact(i W).elim;have:=f.view.total;have:=f.pow.total;omega
theorem Found.opens(h:Found S U N L m bs g bls V)(b:m.next+1<=2000000000)(W:qi S)(D:Dk E B w ρ d S)(H:Env E B w)(c:60000<=k)(f:k<510000000000):Calls prog 6 #[P1 d] w (A8 E B w ρ d (Jy m bs g bls) k):=by obtain⟨i,z2⟩:=h.jib;exact Ft (k:=60000) (V:=V) ⟨S,D,W,h.view,h.pow.fit h.late<|(zA h.small)⟩ zC zC zC (λW' i=>(h.jnp b W (D.same i) (H.same i) c).mono λe w' i=>i.1) λW' v fs j i=>h.jof b j i
end
theorem jgn(c:Int)(r:-9223372036854775808<=c)(q:c<=9223372036854775807)(n:Nat)(g:0<n)(m:n<1000)(w:World):Calls prog 99 #[aA c,aA n] w λe w'=>e=.returned (aA (Bo c n))/\w'=w:=by
 have o:¬(n:Int)=0:=zC;have l:((n:Int)==0)=false:=by simp;omega
 obtain i|i:=(zC:c<0\/0<=c)
 .have k:IntKind.i64.wrap (c+1)=c+1:=zQ;have j:IntKind.i64.wrap (-(c+1)) = -(c+1):=zQ;(have b:(Bo c n:Int)=(-(c+1)).tmod n:=by grind [Bo]);have f:=Mp c g;(have d:IntKind.i64.wrap ((-(c+1)).tmod n)=(-(c+1)).tmod n:=by grind [zQ]);change Hid _ at b;go_enter func99,ntmps99;go_wp2;go_ret;refine⟨?_,rfl⟩;rw[b.out,Int.neg_tmod];rfl
 ·(have p:¬c<0:=zC);(have b:(Bo c n:Int)=c.tmod n:=by grind [Bo]);have f:=Mp c g;(have d:IntKind.i64.wrap (c.tmod n)=c.tmod n:=by grind [zQ]);change Hid _ at b;go_enter func99,ntmps99;go_wp2;go_ret;refine⟨?_,rfl⟩;rw[b.out,Int.tmod_eq_emod_of_nonneg i];rfl
end
