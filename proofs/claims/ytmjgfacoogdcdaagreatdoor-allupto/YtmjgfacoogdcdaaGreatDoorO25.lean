/-
-/
import Derived.Test.YtmjgfacoogdcdaaGreatDoorO24
set_option maxRecDepth 100000
set_option maxHeartbeats 8000000
set_option linter.all false
namespace Go.Proofs.YtmjgfacoogdcdaaGreatDoor
section
open RowKit Maps WideShapes Go.Proofs.Tryz
variable {F b c g i k m n r:Nat} {ps:List (Nat×Str)} {w w':World} {l q:List UInt8} {hv pv v:Value} {p:Option Addr} {es:List Rf.Ch}
def Xk(F:Nat)(ps:List (Nat×Str))(k:Nat):List (Nat×Nat×Str):=ps.mapIdx λj p=>(p.1,(if j<k then Rf.J7 F ps j else F),p.2)
theorem yi(F:Nat)(ps:List (Nat×Str))(k:Nat):(Xk F ps k).length=ps.length:=by simp[Xk]
theorem Jn{j:Nat}(h:j<ps.length):(Xk F ps k)[j]'(by rw[yi];exact h)=(ps[j].1,(if j<k then Rf.J7 F ps j else F),ps[j].2):=by simp[Xk]
theorem Ni(F:Nat)(ps:List (Nat×Str)):Xk F ps 0=ps.map (λp=>(p.1,F,p.2)):=by apply List.ext_getElem;simp[Xk];grind [Xk]
theorem Th{ps:List (Nat×Nat×Str)}(h:k<ps.length)(x:Nat):yu (ps.set k (ps[k].1,x,ps[k].2.2))=(yu ps).set (k*3+1) (jw x):=by induction ps generalizing k with|nil=>simp at h|cons p r ih=>(have e:∀(x:Nat×Nat×Str) (l:List (Nat×Nat×Str)),yu (x::l)=jw x.1::jw x.2.1::jc x.2.2::yu l:=λx l=>by simp[yu]);cases k with|zero=>simp[e]|succ k=>grind
theorem jdd(h:k<ps.length):Xk F ps (k+1)=(Xk F ps k).set k (ps[k].1,Rf.J7 F ps k,ps[k].2):=by apply List.ext_getElem;simp[Xk];grind [yi,Jn]
theorem Cz(h:k<ps.length):yu (Xk F ps (k+1))=(yu (Xk F ps k)).set (k*3+1) (jw (Rf.J7 F ps k)):=by
 rw[jdd h];have b:k<(Xk F ps k).length:=by rw[yi];exact h
 have:=Th b<|Rf.J7 F ps k;grind [Jn]
theorem jdw(h:Rf.Q5 ps=true)(b:k+1<ps.length):ps[k].1<=ps[k+1].1:=by unfold Rf.Q5 at h;rw[XJ] at h;have:=of_decide_eq_true h.2;exact XU.1 this k (k+1) zC b zC
theorem Up(h:Rf.Q5 ps=true):∃ x r,ps=(0,x)::r:=by unfold Rf.Q5 at h;rw[XJ] at h;have b:=of_decide_eq_true h.1;cases ps with|nil=>cases b|cons p r=>grind
theorem jji{base cap:Nat}(s:ps.length=n)(t:Rf.Q5 ps=true)(b:w.ownsRow base 308 3 (.slice (some (aC g)) n cap) n (yu (Xk F ps 0)))(J:n<1048576):Calls prog 249 #[.slice (some (aC g)) n cap] w λe w'=>e=.returned .nilIface/\w'.ownsRow base 308 3 (.slice (some (aC g)) n cap) n (yu (Xk F ps n))/\ja w w' (λi=>i=g):=by
 obtain⟨H,I,v⟩:=Up t;have D:1<=n:=by rw[<-s,v];simp
 have N:w.cell? (aC g)=some (jw 0):=by rw[b.cellAt 0 zC];have:=(Qh (l:=Xk F ps 0) (k:=0)<|by rw[yi];omega).1;grind [Jn]
 have d:Xk F ps (n-1)=Xk F ps n:=by apply List.ext_getElem;simp[Xk];grind [yi,Jn,Rf.J7]
 have q:=jb b;change Hid _ at d t s;clear b v;have C:(1:Int)<=(n:Int):=zC;go_enter func249,ntmps249;go_wp2;go_loopw [15] (λi wr=>∃(k:Nat),k<=n-1/\i = aB k/\wr.ownsRow base 308 3 (.slice (some (aC g)) n cap) n (yu<|Xk F ps k)/\ja w wr (λi=>i=g)) (λi _=>n-1-(intOf i).toNat);case atStart=>exact⟨0,ZC _,rfl,q,ja.refl _ _⟩
 case round=>obtain⟨k,L,rfl,b,o⟩:=hrel;obtain E|G:=zS k (n-1);(· (have x:(k:Int)<(n:Int)-1:=zC);(have u:k+1<ps.length:=by rw[s.out];omega);(have B:wr.cell? ⟨g,k*3,none⟩=some (jw ps[k].1):=by rw[b.cellAt _ zC,(Qh (l:=Xk F ps k) (k:=k)<|by rw[yi];omega).1,Jn zC]);(have a2:wr.cell? ⟨g,(k+1)*3,none⟩=some (jw ps[k+1].1):=by rw[b.cellAt _ zC,(Qh (l:=Xk F ps k) (k:=k+1)<|by rw[yi];omega).1,Jn zC]);have a3:=b.cellAt (k*3+1) zC;rw[(Qh (l:=Xk F ps k) (k:=k)<|by rw[yi];omega).2.1] at a3;have M:=b.frozenAt (k*3+1);have m:=jdw t.out u;(have f:Rf.J7 F ps k=ps[k+1].1:=by grind [Rf.J7]);have c:=X8 b (j:=k*3+1) zC<|jw ps[k+1].1;rw[<-f,<-Cz zC,f] at c;have r:=o.set (p:=⟨g,k*3+1,none⟩) rfl<|jw ps[k+1].1;generalize ps[k+1].1=X at a2 m c r f;generalize ps[k].1=Y at B m;(have y:¬((X:Int)<(Y:Int)):=zC);change Hid _ at c r;clear b;go_wp2;exact⟨⟨k+1,zC,zD,c.out,r.out⟩,by simp[intOf];omega⟩);· (have A:k=n-1:=zC);subst A;rw[d.out] at b;(have z:¬(((n-1:Nat):Int)<(n:Int)-1):=zC);go_wp2;go_ret;exact⟨rfl,b,o⟩
theorem Rf.td(h:Rf.xz F (n+1) l=some (ps,q)):∃ p r ps',Rf.Ji F l=some (p,r)/\Rf.xz F n r=some (ps',q)/\ps=p::ps':=by grind [Rf.xz]
theorem Rf.Hs(h:Rf.xz F n l=some (ps,q)):ps.length=n:=by induction n generalizing l ps with|zero=>cases h;rfl|succ n ih=>grind [Rf.td]
def plZ:Value:=.agg #[aB 0,aB 0,.string ⟨#[]⟩]
theorem Tryz.jg6:(prog.info? 308).map (λi=>(i.zero,i.size,i.bytes))=some (some plZ,3,32):=by kernel_rfl
theorem Fu(w:World)(x y:Nat)(k:Str)(t:TypeId):∀ j u,(yu [(x,y,k)])[j]?=some u->(w.alloc (.cells #[jw x,jw y,jc k] t)).cell? (((aC w.heap.size):Addr).add j)=some u:=by grind [Qj,je,yu]
theorem Rd.rowAt{base:Nat}{e:TypeId}{size:Nat}{xs:List Value}(h:Rd w r q)(d:ja w w' (λi=>some i=v.ownBlock))(l:w.ownsRow base e size v n xs)(s:r<base):Rd w' r q:=by
 obtain⟨u,m,g,f⟩:=h;have b:∀ i,i<=r->¬some i=v.ownBlock:=λi hi e=>zA (l.lt i e.symm).1
 refine⟨u,d.same m<|b r<|zR _,?_,f⟩;obtain rfl|k:=Classical.em (q=[]);obtain⟨p,c,rfl,o,a2,a3,a4⟩:=g;exact⟨p,c,rfl,o,a2,a3,λad e=>⟨(a4 ad e).1,λj u hu=>by cases hu⟩⟩;exact g.keep d λp n c e=>b _<|Nat.le_of_lt (f k p n c e).1
theorem Mf(hr:Rd w r l)(h:Rf.J2 F l=some ps)(hF:F<1099511627776):Calls prog 240 #[aA r,jw F] w λe w'=>∃ g cap,e=.returned (.tuple #[.slice (some (aC g)) ps.length cap,.nilIface])/\w'.ownsRow w.heap.size 308 3 (.slice (some (aC g)) ps.length cap) ps.length (yu (Xk F ps ps.length))/\ja w w' (λi=>i=r):=by
 have V:r<w.heap.size:=by obtain⟨v,R,_⟩:=hr;exact zO R
 obtain⟨j0,hj,U,T,S⟩:=info_parts Tryz.jg6;unfold Rf.J2 at h;split at h
 .rename_i hc;obtain⟨h2,a0⟩:=hc;split at h;(· rename_i ps' htp;split at h;(· rename_i hjoin;cases h;have o:=Rf.Hs htp;(have a5:Rf.number (l.take 2)<65536:=by grind [Rf.Qq,xD]);obtain⟨N,O⟩:=zJ (Rf.number (l.take 2));rw[<-O] at a5 o htp a0;rw[o];change Hid _ at hjoin htp o;(have ai:((N:Int)==0)=false:=by simp;omega);(have ah:¬((N:Int)=0):=zC);go_enter func240,ntmps240;go_wp2_with fail;refine(xl (n:=2) hr h2 zC).mono ?_;rintro e w1 ⟨rfl,Y,k1⟩;rw[<-O];change Hid _ at O;go_wp2;go_loopw [8,27] (λv i wr=>∃(k:Nat) (done u:List (Nat×Str)) (q:By) (p:Option Addr) (c:Nat),k<=N/\ps=done++u/\done.length=k/\Rf.xz F (N-k) q=some (u,[])/\i=.int .u64 k/\v=.slice p k c/\wr.ownsRow w.heap.size 308 3 (.slice p k c) k (yu<|done.map λp=>(p.1,F,p.2))/\Rd wr r q/\ja w wr (λi=>i=r)) (λ_ i _=>N-(intOf i).toNat);(case atStart=>exact⟨0,[],ps,_,none,0,ZC _,rfl,rfl,htp.out,rfl,rfl,ZR _ _ _ _,Y,k1⟩);case round=>obtain⟨k,done,u,q,p,c,hk,B,a3,d,rfl,rfl,b,A,G⟩:=hrel;change Hid _ at B;obtain E|aw:=zS k N;(· rw[show N-k=(N-(k+1))+1 by omega] at d;obtain⟨⟨s,t⟩,q',x,hT,I,rfl⟩:=Rf.td d;change Hid _ at I;clear d;go_wp2_with fail;refine(Cu A hT hF).mono ?_;rintro e z ⟨rfl,X,k2⟩;have m:=k2.row b (λg M e=>zA (b.lt g M).1);have KW:=Xm G k2;clear b A;have C:=(m.alloc<|.cells #[jw s,jw F,jc t] 308).alloc<|.cells #[jw s,jw F,jc t] 308;(have J:(z.alloc<|.cells #[jw s,jw F,jc t] 308).heap.size=z.heap.size+1:=zD);have y:=Fu (z.alloc<|.cells #[jw s,jw F,jc t] 308) s F t 308;rw[J] at y;have R:=jf4 [(s,F,t)];(have a6:Hid (k+1<=maxLen):=by unfold Hid maxLen;omega);(have a4:Hid ((k+1)*32<=140737488355328):=by unfold Hid;omega);(have hb:w.heap.size<=((z.alloc<|.cells #[jw s,jw F,jc t] 308).alloc<|.cells #[jw s,jw F,jc t] 308).heap.size:=by have:=KW.size;simp;omega);have aj:=m.lt;go_wp2_with (first|(at_builtin;go_must (refine jl _ rfl (.tmp 39) (.tmp 41) 283 rfl w.heap.size 308 j0 plZ 3 32 underlying283 hj U T S rfl (ZF 2) _ _ _ rfl C (aC (z.heap.size+1)) 1 1 (yu [(s,F,t)]) rfl rfl y R a6 a4 hb ?_);intro p3 a7 L f a2 aa)|go_in);rw[<-C1] at f;(have k3:ja z L (λi=>some i=(Value.slice p k c).ownBlock):=(((ja.refl z _).more _).more _).grow a2 λj e _=>e.symm);have a8:ja w L (λi=>i=r):=KW.trans k3 (λi hi e=>zF);have W:Rd L r q':=X.rowAt k3 m V;(have a1:(done++[(s,t)]).map (λp=>(p.1,F,p.2))=done.map (λp=>(p.1,F,p.2))++[(s,F,t)]:=zD);rw[<-a1] at f;(have Z:ps=(done++[(s,t)])++x:=by rw[B.out];simp);exact⟨⟨k+1,done++[(s,t)],x,q',p3,a7,zC,Z,by simp[a3],I.out,zD,rfl,f,W,a8⟩,by simp[intOf];omega⟩);· (have ek:k=N:=zC);subst ek;rw[XD] at d;cases d;(have hd:ps=done:=by have:=B.out;simpa using this);rw[<-hd,<-Ni] at b;(have ax:0<k:=zC);(obtain⟨g,M⟩:∃ g,p=some (aC g):=by obtain⟨e,e0⟩|⟨g,_,_,e,_⟩:=b.2;omega;cases e;exact⟨g,rfl⟩);subst M;have H:=jji (base:=w.heap.size) o.out hjoin.out b zC;have a9:=jb H;have E:=b.lt;clear H b hjoin hd;go_wp2_with fail;refine(Rl A).mono ?_;rintro e w' ⟨rfl,rfl⟩;go_wp2_with fail;refine a9.out.mono ?_;rintro e w5 ⟨rfl,D,k5⟩;go_wp2;go_ret2;exact⟨g,c,rfl,D,G.trans k5 λi hi e=>zA (E g rfl).1⟩);cases h);cases h
 cases h
abbrev Cp(hv pv:Value):Value:=.agg #[hv,pv]
theorem jgp(h:w.heap[b]?=some (.cells #[hv,pv] 285 (0,0))):(loadVar 285 (aC b)).run prog w=.ok (Cp hv pv) w:=by have d:=zK 0 h;have c:=zK 1 h;simp at d c;go_simp
theorem db{fn:Func}{t u:Tmp}(h:fn.results=#[.cell t 285,.tmp u]){tmps:Array Value}(d:tmps.getD t undef = aA b)(g:w.heap[b]?=some (.cells #[hv,pv] 285 (0,0))):(results fn tmps).run prog w=.ok (.tuple #[Cp hv pv,tmps.getD u undef]) w:=by
 have f:=jgp g;have c:tmps[t]?.getD undef = aA b:=by simpa using d
 simp[results,h,c,asAddr,f]
theorem run_set{x y x' y':Value}(h:w.heap[b]?=some (.cells #[x,y] 285 (0,0))):((w.setCell (aC b) x').setCell (B3 b 1) y').heap[b]?=some (.cells #[x',y'] 285 (0,0)):=by have d:=jd (o:=0) h x';have c:=jd (o:=1) d y';simpa using c
theorem Es(w:World)(b:Nat)(x y:Value):ja w ((w.setCell (aC b) x).setCell (B3 b 1) y) (λi=>i=b):=((ja.refl w λi=>i=b).set (p:=(aC b)) rfl x).set (p:=(B3 b 1)) rfl y
theorem Rf.An{h:By}(e:Rf.qk l=some (h,q)):8<=l.length:=(Rf.ue e).1
theorem Ws{b:By}(hv:Bytes w v b)(h:Rf.Qu b=some (F,ps))(hl:b.length<1099511627776):Calls prog 220 #[v] w λe w'=>∃ g cap,e=.returned (.tuple #[Cp v (.slice (some (aC g)) ps.length cap),.nilIface])/\w'.ownsRow w.heap.size 308 3 (.slice (some (aC g)) ps.length cap) ps.length (yu (Xk F ps ps.length))/\ja w w' No:=by
 unfold Rf.Qu at h;split at h
 .rename_i hc;obtain⟨h4,s⟩:=hc;split at h;(· rename_i hh htf;split at h;(· rename_i ps' hps;(have k:F=Rf.number (b.drop (b.length-4)):=by cases h;rfl);(have I:ps'=ps:=by cases h;rfl);clear h;subst I;obtain⟨M,x⟩:∃ M,b.length=M+4:=⟨b.length-4,zC⟩;rw[show b.length-4=M by omega] at s htf hps k;rw[<-k] at s htf hps;obtain⟨p,c,rfl,a1,a2,a3,a4⟩:=id hv;unfold maxLen at a2;(have hp:p≠none:=λe=>zA<|a3 e);(have aj:F<4294967296:=by grind [Rf.Qq,xH]);have B:=hv.drop M zC;have b2:=(hv.take M zC);(have J:(b.take M).length=M:=by rw[xD];omega);(have A:Bytes w (.slice (if c=F then p else p.map (·.add F)) (M-F) (c-F)) ((b.take M).drop F):=by grind [Bytes.drop]);rw[if_neg (zC:¬c=M),x,show M+4-M=4 by omega] at B;rw[if_neg (zC:¬c=F)] at A;(have e4:(b.drop M).length=4:=by rw[xH];omega);have Z:(b.drop M).take 4=b.drop M:=zY zC;rw[x];rw[x] at a1 hl;clear a3 a4 b2 h4;(have y:=ja.alloc w (.cells #[S7,S7] 285) λ_=>False);have u:=je w<|.cells #[S7,S7] 285;have q:=Ju _ _ _<|B.same y;change Hid _ at hv u k hps Z J x;have R:=jb A;have O:=jb q;have N:=jb htf;clear A B q htf;(have ai:¬c=F:=zC);(have ah:¬c=M:=zC);go_enter func220,ntmps220;go_wp2_with fail;refine O.out.mono ?_;rintro e w1 ⟨r,rfl,af,H,Y⟩;go_wp2_with fail;refine(xl (n:=4) H zC zC).mono ?_;rintro e U ⟨rfl,ag,X⟩;rw[Z.out,<-k.out];have m:ja w U No:=Xe (y.tt Y) (zA y.size) X;(have h9:(w.alloc<|.cells #[S7,S7] 285).heap.size=w.heap.size+1:=zD);have f:=X.same (Y.same u.out id) zC;clear h9;have o:=Zp (R.out.same m) N.out zF;have L:=jb o;change Hid _ at f;clear o;go_wp2_with fail;refine L.out.mono ?_;rintro e w3 ⟨v3,rfl,t,z⟩;obtain⟨p3,c3,rfl,_⟩:=id t;go_wp2_with fail;refine(Ju _ _ _ t).mono ?_;rintro e T ⟨r4,rfl,a0,G,k4⟩;go_wp2_with fail;refine(Mf G hps.out zC).mono ?_;rintro e S ⟨g,cap,rfl,l,W⟩;have D:ja U T No:=z.tt k4;have C:ja w T No:=m.tt D;have K5:ja w S No:=Xe C (zB C.size (m.tt z).size) W;have ae:=zO f.out;have d:=W.same (D.same f.out id) (zA z.size);have q0:=zK 0 d;have q1:=zK 1 d;have f0:=zL 0 d;have f1:=zL 1 d;simp at q0 q1;change Hid _ at d;go_wp2;refine bodyPost_ret (db rfl rfl<|run_set d.out) rfl ?_;have V:=Es S w.heap.size (.slice p (M+4) c)<|.slice (some (aC g)) ps'.length cap;have E:=C.size;refine⟨g,cap,rfl,qi (V.row l λj hj e=>?_) E,K5.trans V λi hi e=>zC⟩;have:=(l.lt j hj).1;have:=D.size;have e':j=w.heap.size:=e;omega);cases h);cases h
 cases h
def Pls(w:World)(g cap:Nat)(l:List (Nat×Nat×Str)):Prop:=l.length<=cap/\cap<=maxLen/\∀ j u,(yu l)[j]?=some u->w.cell? (B3 g j)=some u
theorem Pls.keep{cap:Nat}{l:List (Nat×Nat×Str)}{T:Nat->Prop}(h:Pls w g cap l)(k:ja w w' T)(b:l≠[]->¬T g):Pls w' g cap l:=⟨h.1,h.2.1,λj u hu=>k.cell (h.2.2 j u hu)<|b λe=>by rw[e] at hu;cases hu⟩
theorem Pls.same{cap:Nat}{l:List (Nat×Nat×Str)}(h:Pls w g cap l)(k:ja w w' No):Pls w' g cap l:=h.keep k λ_=>id
theorem Wx{base cap:Nat}{l:List (Nat×Nat×Str)}(i:l.length=n)(h:w.ownsRow base 308 3 (.slice (some (aC g)) n cap) n (yu l)):Pls w g cap l:=by obtain⟨e,_⟩|⟨m,b,f,e,_,d,k,c,_⟩:=h.2;cases e;cases e;refine⟨zC,c,λj u hu=>?_⟩;have:=h.cells (g:=g) rfl j u hu;grind [Q7]
theorem Pls.at{cap:Nat}{l:List (Nat×Nat×Str)}(h:Pls w g cap l)(b:k<l.length):w.cell? ⟨g,k*3,none⟩=some (jw l[k].1)/\w.cell? ⟨g,k*3+1,none⟩=some (jw l[k].2.1)/\w.cell? ⟨g,k*3+2,none⟩=some (jc l[k].2.2):=⟨h.2.2 _ _ (Qh b).1,h.2.2 _ _ (Qh b).2.1,h.2.2 _ _ (Qh b).2.2⟩
theorem Yo(c:Nat×Nat×Str)(key:Str)(w:World):Calls prog 222 #[plV c,jc key] w λe w'=>e=.returned (aB (Ev c.2.2 key))/\ja w w' No:=by obtain⟨x,y,k⟩:=c;go_enter func222,ntmps222;go_wp2_with (go_at_call 160;refine(Tryz.strings_Compare ⟨k.toArray⟩ ⟨key.toArray⟩ _).mono ?_;rintro e w' ⟨rfl,rfl⟩);go_ret;exact⟨by simp[Ev],ja.alloc w _ _⟩
theorem Oo{cap:Nat}(l:List (Nat×Nat×Str))(A:Nat)(key:Str)(w:World)(C:l.length=n)(hv:Pls w g cap l)(hA:A<=l.length)(d:∀ j,∀ h:j<l.length,j<A->l[j].2.2<key)(s:∀ j,∀ h:j<l.length,A<=j->¬l[j].2.2<key)(hl:l.length<1099511627776):Calls prog 221 #[.slice (some (aC g)) n cap,jc key,.func (.func 222) #[] #[]] w λe w' =>
  e=.returned (.tuple #[jw A,.bool (decide ((l[A]?).map (λp=>p.2.2)=some key))])/\ja w w' No:=by
 subst C;change Hid _ at d s;go_enter func221,ntmps221;go_wp2_with fail;go_loopw [9,10] (λa b wr=>∃(lo hi:Nat),a = aB lo/\b = aB hi/\lo<=hi/\hi<=l.length/\(∀ j,∀ h:j<l.length,j<lo->l[j].2.2<key)/\(∀ j,∀ h:j<l.length,hi<=j->¬l[j].2.2<key)/\ja w wr No) (λa b _=>(intOf b-intOf a).toNat);case atStart=>exact⟨0,l.length,rfl,rfl,ZC _,zR _,(λj h R=>zC),(λj h R=>zC),ja.refl _ _⟩
 case round=>obtain⟨lo,hi,rfl,rfl,B,R,G,I,c⟩:=hrel;have u:=jb G;have z:=jb I;clear G I;obtain F|a0:=zS lo hi;(· (have L:(lo+hi)/2<l.length:=zC);have x:=hv.same c;obtain⟨U,T,S⟩:=x.at L;(have O:((lo:Int)+(hi:Int))/2=(((lo+hi)/2:Nat):Int):=zC);(have X:((lo:Int)+(hi:Int))%18446744073709551616=(lo:Int)+(hi:Int):=zC);generalize hM:(lo+hi)/2=m at L U T S O;(have Z:lo<=m:=zC);(have Y:m<hi:=zC);(have f:¬l[m].2.2<key->∀ j,∀ h:j<l.length,m<=j->¬l[j].2.2<key:=by intro C j h V i;refine s.out j h ?_ i;obtain B|B:=zS m A;exact(C<|d.out m L B).elim;omega);(have q:l[m].2.2<key->∀ j,∀ h:j<l.length,j<m+1->l[j].2.2<key:=by intro C j h V;refine d.out j h ?_;obtain B|B:=zS m A;omega;exact(s.out m L B C).elim);have o:=jb f;have t:=jb q;clear f q;obtain⟨i,r⟩|⟨i,r⟩|⟨i,r⟩:=im l[m].2.2 key;(· have H:=t.out i;change Hid _ at H;clear i t o;go_wp2_with (go_at_call 222;refine(Yo l[m] key wr).mono ?_;rintro e M ⟨rfl,v⟩;rw[r]);exact⟨⟨m+1,hi,zD,zD,zC,zC,H.out,z,c.tt v⟩,by simp[intOf];omega⟩);(· have k:=o.out zG;change Hid _ at k;clear i t o;go_wp2_with (go_at_call 222;refine(Yo l[m] key wr).mono ?_;rintro e M ⟨rfl,v⟩;rw[r]);exact⟨⟨lo,m,zD,zD,zC,zC,u,k.out,c.tt v⟩,by simp[intOf];omega⟩);· have k:=o.out<|List.lt_asymm i;change Hid _ at k;clear i t o;go_wp2_with (go_at_call 222;refine(Yo l[m] key wr).mono ?_;rintro e M ⟨rfl,v⟩;rw[r]);exact⟨⟨lo,m,zD,zD,zC,zC,u,k.out,c.tt v⟩,by simp[intOf];omega⟩);· (have W:hi=lo:=zC);subst W;(have N:A=hi:=by obtain D|D|D:=Nat.lt_trichotomy A hi;exact(s.out A zC (zR _)<|u.out A zC D).elim;exact D;exact(z.out hi zC (zR _)<|d.out hi zC D).elim);change Hid _ at N;clear u z;obtain F|J:=zS hi l.length;(· have x:=hv.same c;obtain⟨U,T,S⟩:=x.at F;(have E:(l[hi]?).map (λp=>p.2.2)=some l[hi].2.2:=zG);change Hid _ at E;obtain⟨i,r⟩|⟨i,r⟩|⟨i,r⟩:=im l[hi].2.2 key;all_goals (have y:decide (some l[hi].2.2=some key)=(Ev l[hi].2.2 key==0):=zF);rw[r] at y;change Hid _ at y;clear i;go_wp2_with (go_at_call 222;refine(Yo l[hi] key wr).mono ?_;rintro e M ⟨rfl,v⟩;rw[r]);go_ret2;refine⟨?_,c.tt v⟩;rw[N.out,E.out,y.out];rfl);· have E:l[hi]?=none:=XV J;change Hid _ at E;go_wp2;go_ret2;refine⟨?_,c⟩;rw[N.out,E.out];rfl
theorem jf5{A:Nat}:((Xk F ps n)[A]?).map (λp=>p.2.2)=(ps[A]?).map Prod.snd:=by grind [yi,Jn]
theorem jfc{cap:Nat}(key:Str)(t:ps.length=n)(h:Pls w g cap (Xk F ps n))(s:Rf.Lr ps key)(v:n<1099511627776):Calls prog 198 #[Cp (.slice p m c) (.slice (some (aC g)) n cap),jc key] w λe w'=>e=.returned (jw (Rf.Yr ps key))/\ja w w' No:=by
 have k:=ja.alloc w (.cells #[.slice p m c,.slice (some (aC g)) n cap] 285) λ_=>False
 have b:=yi F ps n;have d:=Oo (g:=g) (cap:=cap) (n:=n) (Xk F ps n) (Rf.ahead ps key) key _ (by rw[b,t]) (h.same k) (by grind [Rf.vv]) (λj hj hA=>by grind [Jn,Rf.Lo]) (λj hj hA=>by rw[b] at hj;rw[Jn hj];show ¬ps[j].2<key;exact s j _ hA<|XG hj) (by rw[b];omega);rw[jf5] at d;have l:=Rf.vv ps key;obtain⟨R,f⟩:=zJ (Rf.Yr ps key);rw[<-f];unfold Rf.Yr at f;generalize Rf.ahead ps key=A at d f l;by_cases hf:(ps[A]?).map Prod.snd=some key
 .rw[if_pos hf] at f;rw[decide_eq_true hf] at d;subst f;have HS:=jb d;clear d hf;go_enter func198,ntmps198;go_wp2_with fail;refine HS.out.mono ?_;rintro e q ⟨rfl,i⟩;go_wp2;go_ret;exact⟨rfl,k.tt i⟩
 .rw[if_neg hf] at f;rw[decide_eq_false hf] at d;have HS:=jb d;clear d hf;obtain r|r:=ZG A;(· subst r;subst f;go_enter func198,ntmps198;go_wp2_with fail;refine HS.out.mono ?_;rintro e q ⟨rfl,i⟩;go_wp2;go_ret;exact⟨rfl,k.tt i⟩);· (have o:(A:Int)-1=(R:Int):=zC);(have u:(0:Int)<(A:Int):=zC);change Hid _ at f;go_enter func198,ntmps198;go_wp2_with fail;refine HS.out.mono ?_;rintro e q ⟨rfl,i⟩;go_wp2;go_ret;exact⟨by first|rfl|simp[o],k.tt i⟩
theorem jeb{cap:Nat}:Calls prog 199 #[Cp (.slice p m c) (.slice (some (aC g)) n cap)] w λe w'=>e=.returned (jw n)/\ja w w' No:=by go_enter func199,ntmps199;go_wp2;go_ret;exact⟨rfl,ja.alloc w _ _⟩
theorem jjp{cap:Nat}{ev:Value}(hn:ps.length=n)(hi:i<n)(h:Pls w g cap (Xk F ps n))(z:Chs w ev es)(G:1<=es.length)(X:es.length<=4)(o:Rf.fits ps i es=true)(hl:n<1048576):Calls prog 223 #[Cp (.slice p m c) (.slice (some (aC g)) n cap),jw i,ev] w λe w'=>e=.returned (.bool true)/\ja w w' No:=by
 have B:=ja.alloc w (.cells #[.slice p m c,.slice (some (aC g)) n cap] 285) λ_=>False
 have u:=je w<|.cells #[.slice p m c,.slice (some (aC g)) n cap] 285;have t1:(w.alloc<|.cells #[.slice p m c,.slice (some (aC g)) n cap] 285).cell? (B3 w.heap.size 1)=some (.slice (some (aC g)) n cap):=(zK 1 u).trans rfl;unfold Rf.fits at o;rw[XJ,XJ] at o;obtain⟨⟨S,M⟩,f3⟩:=o;have S:=of_decide_eq_true S;have M:=of_decide_eq_true M;obtain⟨pe,ce,rfl,_⟩:=id z;have t:=yi F ps n;have R:=h.same B;have q:=z.same B;obtain⟨be,oe,rfl,e0,_,_⟩:=q.at (k:=0) zC;have a0:=(R.at (k:=i)<|by rw[t];omega).2.2;rw[Jn zC] at a0;have C:es[0].key=ps[i].2:=by(have h1:Rf.yw es=es[0].key:=by cases es with|nil=>simp at G|cons x r=>rfl);grind [Rf.keyOf]
 simp only at a0;rw[<-C] at a0;have d:i+1=n\/(i+1<n/\es.length=4/\∃(h3:3<es.length) (V:i+1<ps.length),es[3].key<ps[i+1].2):=by grind [Rf.Yl,Rf.keyOf]
 change Hid _ at d M;have HH:=jb R;have s:=jb q;clear h R z q S f3 C u;have A:(0:Int)<(es.length:Int):=zC;have V:(i:Int)<(n:Int):=zC;simp at e0;obtain⟨v,f⟩:=zJ es.length;rw[<-f] at A G X ⊢;change Hid _ at f;go_enter func223,ntmps223;go_wp2_with fail;go_quiet (fail);go_wp2;go_loopw [7] (λk wr=>∃(j:Nat),j+1<=v/\k = aB ((j:Int)+1)/\ja (w.alloc<|.cells #[.slice p m c,.slice (some (aC g)) n cap] 285) wr No) (λk _=>v-(intOf k).toNat);case atStart=>grind [ja.drewN]
 case round=>obtain⟨j,hj,rfl,b⟩:=hrel;obtain ai|aj:=zS (j+1) v;(· (have E:j<es.length:=zA f.out);(have D:j+1<es.length:=zA f.out);have x1:=((s.out.same b).at (k:=j) E);have x2:=((s.out.same b).at (k:=j+1) D);obtain⟨b1,o1,T,O,_,_⟩:=x1;obtain⟨b2,o2,E2,y2,_,_⟩:=x2;cases T;cases E2;have J:es[j].key<es[j+1].key:=XU.1 M.out j (j+1) E D zC;(have l:Op.bytesLess es[j+1].key es[j].key=false:=by grind [bytesLess_eq]);(have H:(es[j+1].key==es[j].key)=false:=zF);(have a3:(j:Int)+1<(v:Int):=zC);clear J;generalize es[j].key=K1 at O l H;generalize es[j+1].key=K2 at y2 l H;go_wp2_with fail;go_quiet (fail);go_wp2;exact⟨⟨j+1,zC,zD,by first|exact b|exact b.tt<|ja.drewN _ _ λ_=>False⟩,by simp[intOf];omega⟩);· (have ej:v=j+1:=zC);have ag:=b.cell t1 id;(have ah:¬((j:Int)+1<(v:Int)):=zC);obtain hL|⟨ak,Z,h3,W,Y⟩:=d.out;(· (have y:(i:Int)=(n:Int)-1:=zC);(have L:((i:Int)==(n:Int)-1)=true:=by simp[y]);go_wp2;go_ret;exact⟨rfl,B.tt b⟩);· (have y:¬((i:Int)=(n:Int)-1):=zC);(have L:((i:Int)==(n:Int)-1)=false:=by simp[y]);obtain⟨b1,o1,T,O,_,_⟩:=((s.out.same b).at (k:=3) h3);cases T;have N:=((HH.out.same b).at (k:=i+1) (by rw[t];omega)).2.2;rw[Jn W] at N;(have l:Op.bytesLess es[3].key ps[i+1].2=true:=by grind [bytesLess_eq]);simp only at N;(have a4:(i:Int)+1<(n:Int):=zC);clear Y;generalize es[3].key=K1 at O l;generalize ps[i+1].2=K2 at N l;(have I:v=4:=zA f.out);subst I;(have U:j=3:=zC);subst U;clear d s f ej Z;go_wp2_with fail;go_quiet (fail);go_wp2;go_ret;exact⟨rfl,by first|exact B.tt b|exact(B.tt b).tt<|ja.drewN _ _ λ_=>False⟩
theorem jhq{E:Nat->Addr}{B:Nat}{cap:Nat}{b:By}(S:Qg E B w)(hB:B<=w.heap.size)(hn:ps.length=n)(hi:i<n)(h:Pls w g cap (Xk F ps n))(R:Bytes w (.slice p b.length c) b)(d:Rf.J8 b F ps i=some es)(f:Rf.J7 F ps i<=b.length)(hl:n<1048576)(b5:b.length<1099511627776):Calls prog 200 #[Cp (.slice p b.length c) (.slice (some (aC g)) n cap),jw i] w λe w'=>∃ v,e=.returned (.tuple #[v,.nilIface])/\w'.ownsRow w.heap.size 53 3 v es.length (jh es)/\ja w w' No:=by
 unfold Rf.J8 at d;split at d
 .rename_i hh htf;split at d;(· rename_i es' hre;split at d;(· rename_i hfit;cases d;have hm:=Rf.rz hre;(have s:Rf.Xa ps i=ps[i].1:=by grind [Rf.Xa]);rw[s] at htf;have T:=Rf.An htf;rw[xH,xD,xE f] at T;obtain⟨q,O⟩:=zJ (Rf.J7 F ps i);rw[<-O] at htf T f;have N:=ja.alloc w (.cells #[.slice p b.length c,.slice (some (aC g)) n cap] 285) No;have I:=yi F ps n;obtain⟨a0,U,a2⟩:=(h.same N).at (k:=i) (by rw[I];omega);rw[Jn zC,if_pos hi,<-O] at a0 U a2;simp only at a0 U a2;have t1:(w.alloc (.cells #[.slice p b.length c,.slice (some (aC g)) n cap] 285)).heap[w.heap.size]?=some (.cells #[.slice p b.length c,.slice (some (aC g)) n cap] 285 (0,0)):=je w _;obtain⟨p',c',ee,b1,b2,b3,b4⟩:=id R;cases ee;clear b3 b4;(have x:Bytes w (.slice (p.map (·.add ps[i].1)) (q-ps[i].1) (c-ps[i].1)) ((b.take q).drop ps[i].1):=by(have Z:(b.take q).length=q:=by rw[xD];omega);have:=Bytes.drop (l:=b.take q) (by rw[Z];exact R.take q f) ps[i].1 zC;grind);(have o:((b.take q).drop ps[i].1).length<1099511627776:=zF);generalize ps[i].1=X at a0 U a2 T htf x o;generalize ps[i].2=KX at a2;(have b0:¬c=X:=zC);(have C:=λw' (k:ja w w' No)=>Zp (x.same k) htf o);have a4:=jb C;have a5:=jb t1;have M:=jb hfit;have a6:=jb hre;have HM:=jb hm;have HP:=jb h;clear C t1 hfit hre hm s h O x htf R;unfold maxLen at b2;(have aw:X<=q:=zC);(have az:q<=c:=zC);go_enter func200,ntmps200;go_wp2_with fail;refine(a4.out _ (N.more _)).mono ?_;rintro e w1 ⟨v1,rfl,D,k1⟩;have W:ja w w1 No:=(N.more _).tt k1;have G:=k1.same ((ja.alloc _ _ No).same a5.out id) id;have H:=jb G;obtain⟨p1,c1,rfl,_⟩:=id D;clear G;go_wp2_with fail;refine(Ju _ _ _ D).mono ?_;rintro e w2 ⟨r,rfl,ay,hr,k2⟩;have V:ja w w2 No:=W.tt k2;have u:=dy 4 zC (S.same V) ((zA W.size):B<=r) hr;rw[a6.out] at u;have a7:=jb u;clear u;go_wp2_with fail;refine a7.out.mono ?_;rintro e w3 ⟨k3,A⟩;obtain⟨cs,v,z,rfl,j⟩|⟨v,z,_⟩:=A;(· (have J:cs=es:=zG);subst J;clear z;have ax:=W.size;have K3:ja w w3 No:=Xe V zC k3;have y:=k3.same (k2.same H.out id) (zA<|zO H.out);have Y:=x7 j;obtain⟨pe,ce,rfl⟩:=ji j;have t:=HM.out;have hf:=jjp (p:=p) (m:=b.length) (c:=c) hn hi (HP.out.same K3) Y t.2.1 t.2.2.1 M.out hl;have c0:=zK 0 y;have a3:=zK 1 y;simp at c0 a3;have HF:=jb hf;have L:=jb j;clear hf j y t;go_wp2_with fail;refine HF.out.mono ?_;rintro e w4 ⟨rfl,k4⟩;go_wp2;go_ret2;exact⟨_,rfl,qi (k4.row L.out (λ_ _ h=>h)) V.size,K3.tt k4⟩);· cases z);· cases d);· cases d
 .cases d
end
section
open RowKit Maps Go.Proofs.Tryz
variable {W:World} {Ds:List Nat}
def marks(Ds:List Nat):List Deferred:=Ds.map λD=>{ target:=.collected D,args:=#[] }
def Cl(W:World):List Nat->World
 | []=>W
 | D::r=>Cl (W.putObj D (.deferred none)) r
theorem Yz(W:World)(Ds:List Nat):ja W (Cl W Ds) (λi=>i∈Ds):=by induction Ds generalizing W with|nil=>exact ja.refl _ _|cons D r ih=>exact((ja.putObj W D _).mono λi _ e=>zG).trans (ih _) λi _ h=>xJ _ h
def Jz(W:World)(Ds:List Nat):Prop:=Ds.Nodup/\∀ D∈Ds,W.heap[D]?=some (.deferred (some []))
theorem Jz.nil(W:World):Jz W []:=⟨List.nodup_nil,λD h=>by cases h⟩
theorem Jz.keep{W':World}{T:Nat->Prop}(h:Jz W Ds)(k:ja W W' T)(b:∀ D∈Ds,¬T D):Jz W' Ds:=⟨h.1,λD hD=>k.same (h.2 D hD)<|b D hD⟩
theorem Jz.cons{D:Nat}(h:Jz W Ds)(d:W.heap[D]?=some (.deferred (some [])))(c:D∉Ds):Jz W (D::Ds):=⟨List.nodup_cons.2 ⟨c,h.1⟩,λE b=>by obtain rfl|b:=xB.1 b;exact d;exact h.2 E b⟩
theorem Zu{F:Fence}{n:Nat}{P:Program}{fn:Func}{tmps:Array Value}{R:Ending->World->Prop}{u:FrameMode}(c:u≠.run)(h:Jz W Ds)(b:LeavesInM F n P fn tmps R [] u (Cl W Ds)):LeavesInM F n P fn tmps R (marks Ds) u W:=by induction Ds generalizing W with|nil=>exact b|cons D r ih=>refine⟨c,.inl ⟨D,_,rfl,run_takeDeferred<|h.2 D xW,ih ⟨(List.nodup_cons.1 h.1).2,λE hE=>?_⟩ b⟩⟩;exact(ja.putObj W D _).same (h.2 E<|xJ _ hE) λe=>(List.nodup_cons.1 h.1).1 (e▸hE)
end
section
open RowKit Maps WideShapes Go.Proofs.Tryz
variable {w:World} {E:Nat->Addr} {B b d lo:Nat} {t:TypeId}
theorem B8(b:Nat):Calls prog 88 #[aA b,.nilIface] w λe w'=>e=.returned (aB 0)/\w'=w:=by go_enter func88,ntmps88;go_wp2;go_ret;exact⟨rfl,rfl⟩
theorem Gl{v:Value}(b:Nat)(S:Qg E B w)(h:Err E w v 2):Calls prog 88 #[aA b,v] w λe w'=>e=.returned (aB 7)/\w'=w:=by have g:=S.cell 2 zE;have c:=Bq S h 2 zE;rw[decide_eq_true rfl] at c;obtain⟨t,a,rfl⟩:=h.shape;have d:=jb c;clear c h;go_enter func88,ntmps88;go_wp2_with fail;refine d.out.mono ?_;rintro e f ⟨rfl,rfl⟩;go_wp2;go_ret;exact⟨rfl,rfl⟩
def Yk:Str:=[109,97,110,105,102,101,115,116]
theorem Hy(m:Rf.Man)(U rv last N:Value)(z cl:Bool)(H:Env E B w)(l:w.heap[b]?=some (.cells (j6 U (jf m.next) (jf m.last) (jf m.log) (jf m.base) rv last N z cl) t (0,0)))(S:zz w rv m.runs)(hl:m.runs.length<524288)(T:∀ n∈m.settled,n<=9223372036854775807)(o:m.log<=9223372036854775807):Calls prog 114 #[aA b] w λe w'=>∃ p c,e=.returned (.slice p ((qg m).length+1) c)/\w'.ownsRow w.heap.size 9 1 (.slice p ((qg m).length+1) c) ((qg m).length+1) ((qg m++[Yk]).map jc)/\ja w w' No:=by
 obtain⟨R,I,u,s,r⟩:=info_parts Tryz.Db;have g:=C8 m rv H S zC T o;have a1:=xx m;have d:(qg m).length=m.settled.length+1:=by unfold qg;simp
 have Z:=zK 1 l;have Y:=zK 2 l;have X:=zK 3 l;have W:=zK 4 l;have V:=zK 5 l;simp at Z Y X W V;generalize qg m=F at g d ⊢;obtain⟨q,G⟩:=zJ F.length;rw[<-G] at g d ⊢;have a2:q<524290:=zC;have HF:=jb g;change Hid _ at G;clear g l d;go_enter func114,ntmps114;go_wp2_with fail;refine HF.out.mono ?_;rintro e L ⟨p1,c1,rfl,f,D⟩;have i:=f.alloc<|.cells #[jc Yk] 9;have y:Hid (q+1<=maxLen):=by unfold Hid maxLen;omega
 have x:Hid ((q+1)*16<=140737488355328):=by unfold Hid;omega
 go_wp2_with (at_builtin;go_must (refine jl _ rfl (.tmp 7) (.tmp 8) 25 rfl w.heap.size 9 R (.string ⟨#[]⟩) 1 16 underlying25 I u s r rfl ZE _ _ _ rfl i (aC L.heap.size) 1 1 [jc Yk] rfl rfl (cell_one_new _ _ _) (Py _) y x (D.more _).size ?_);intro M A J k v C);have O:ja w J No:=(D.more _).grow v (λj e I=>zA (f.lt j e).1);go_ret;refine⟨M,A,rfl,?_,O⟩;rw[XC];exact k
theorem Xv(b:lo<=9223372036854775807):(js lo).length<1099511627776:=by grind [zl,js,zZ]
theorem G6(b:Array Value)(w:World):(callFunc 132 b).run prog w=.ok (.enter 132 b) w:=by kernel_rfl
theorem Sa{ρ:Nat->jz}{S:jg}{q s u p last r:Value}{i cl:Bool}(D:Dk E B w ρ d S)(H:Env E B w)(g:lo<=9223372036854775807)(l:w.heap[b]?=some (.cells (j6 (aA d) q s (jw lo) u p last r i cl) t (0,0))):Calls prog 89 #[aA b] w (ly E B w ρ d (S.Xc (js lo))):=by
 have z:=zK 0 l;have y:=zK 3 l;simp at z y;have k:=Xv g;have o:Hid (w.drew.heap[b]?=some (.cells (j6 (.pointer<|some (aC d)) q s (jw lo) u p last r i cl) t (0,0))):=l;have n:Env E B w.drew:=H.keep (ja.drew w λ_=>False) λ_ h=>h.elim
 have G:=D.same<|ja.drew w _;clear l;go_enter func89,ntmps89;go_wp2_with fail;go_region_law (first|(refine jt rfl 33 [.tmp 11] _ rfl Qc [aB lo] (by simp[Act.eval]) (Xg lo g n) ?_;rintro e L ⟨rfl,m⟩;have f:=m.same o id;have C:=zK 0 f;have A:=zK 3 f;simp at C A;clear f;have I:=G.same m;refine⟨_,rfl,?_⟩)|(refine jt rfl 132 [.tmp 6,.tmp 12] _ rfl G6 [aA d,jc (js lo)] (by simp[Act.eval]) (vi I (js lo) k) ?_;rintro e J c;(have j:∃ v,e=.returned v:=by obtain⟨_,_,_,x⟩:=c;obtain⟨_,rfl⟩|⟨_,v,rfl,_⟩:=x;exact⟨_,rfl⟩;exact⟨_,rfl⟩);obtain⟨v,rfl⟩:=j;have F:=jb c;clear c;refine⟨_,rfl,?_⟩));all_goals go_wp2;go_ret;exact ly.before (xq.of (((ja.drew w λ_=>False).tt m)) λ_ _ h=>h.elim) F
theorem Vc(b:Array Value)(w:World):(callFunc 34 b).run prog w=.ok (.enter 34 b) w:=by kernel_rfl
theorem Mz(b:Array Value)(w:World):(callFunc 32 b).run prog w=.ok (.enter 32 b) w:=by kernel_rfl
theorem jhy{ρ:Nat->jz}{k:Nat}{S:jg}(D:Dk E B w ρ d S)(F:Fit k S)(M:k<549755813888)(nm:Str)(t:nm.length<1099511627776){f:Nat}{a:yr}(r:S.at nm=some f)(q:S.files f=some a)(v:Value)(b:By)(i:0<b.length)(I:b.length<549755813888)(G:Bytes w v b)(l:Off ρ v):Calls prog 32 #[aA d,jc nm,v] w λe w'=>∃ S' ok ρ' cc,e=.returned (aB cc)/\Hid (jig nm b S S' ok)/\xq w ρ w' ρ'/\Dk E B w' ρ' d S'/\Hid ((ok=true/\cc=(0:Int))\/(ok=false/\cc=1)):=by
 have Z:Small S:=F.small zC;have H:total S.files S.names<1099511627776:=zA F.total;obtain⟨p,c,rfl,z,y,x,J⟩:=id G;obtain⟨g,rfl⟩:∃ g,p=some g:=by cases p with|some g=>exact⟨g,rfl⟩|none=>have:=x rfl;omega
 have m:Arg w ρ (.slice (some g) b.length c) b:=.inr ⟨g,c,rfl,z,l _ _ _ rfl,λj u hu=>zF⟩;refine(Gk nm b g c D.rep Z t r q i zC m zC y H).mono ?_;rintro e L ⟨A,n,⟨o,rfl,s⟩|⟨o,C,rfl,s⟩⟩;exact⟨_,false,A,1,rfl,⟨f,a,r,q,.inl ⟨o,rfl,rfl⟩⟩,n,D.step n s,.inr ⟨rfl,rfl⟩⟩;exact⟨_,true,A,0,rfl,⟨f,a,r,q,.inr ⟨o,C,rfl,rfl⟩⟩,n,D.step n s,.inl ⟨rfl,rfl⟩⟩
end
end Go.Proofs.YtmjgfacoogdcdaaGreatDoor
namespace Go.Proofs.YtmjgfacoogdcdaaGreatDoor.Rf
open Go.Proofs.Tryz
variable {b l:List Ch} {x:Ch} {bs:List (List Ch)}
structure St where
 m:Man
 bs:List (List Ch)
 bls:List (List Ch)
def St.last(s:St):Nat:=s.m.last+s.bs.length
def St.mem(s:St):List Ch:=memory s.bs
def St.all(s:St):List Ch:=merged (s.mem::s.bls)
def St.tell(s:St):List Ch:=there s.all
def St.live(s:St):List Ch:=there (merged s.bls)
def St.write(s:St)(b:List Ch):St:=⟨s.m,s.bs++[b],s.bls⟩
def Man.qt(m:Man)(last:Nat):Man:=⟨m.next+2,last,m.next+1,m.base,m.next::m.runs⟩
def Man.yt(m:Man):Man:=⟨m.next+1,m.last,m.log,m.next,[]⟩
def Man.bare(m:Man):Man:=⟨m.next,m.last,m.log,0,[]⟩
def St.flush(s:St):St:=if s.bs=[] then s else⟨s.m.qt s.last,[],s.mem::s.bls⟩
def St.xw(s:St):St:=if s.m.runs=[] then s else if s.live=[] then⟨s.m.bare,s.bs,[]⟩ else⟨s.m.yt,s.bs,[s.live]⟩
def Man.first:Man:=⟨2,0,1,0,[]⟩
def St.first:St:=⟨Man.first,[],[]⟩
structure zm(l:List Ch):Prop where
 rising:j3 l
 some:l≠[]
 allowed:∀ c∈l,allowed c=true
 few:l.length<65536
structure St.Ok(s:St):Prop where
 yp:s.m.Good
 runs:s.m.runs.length<65535
 len:s.bls.length=s.m.settled.length
 bl:∀ l∈s.bls,zm l
 log:∀ b∈s.bs,qm b=true
 cap:s.last<=1000000000
theorem St.Ok.first:St.first.Ok:=⟨by refine⟨zE,zE,zE,zE⟩,zE,rfl,λl h=>(by cases h),λb h=>(by cases h),zE⟩
theorem St.Ok.write{s:St}(h:s.Ok)(f:qm b=true)(d:s.last<1000000000):(s.write b).Ok:=⟨h.yp,h.runs,h.len,h.bl,λx c=>by obtain c|c:=zV.1 c;exact h.log x c;simp_all,by show s.m.last+(s.bs++[b]).length<=1000000000;grind [St.last]⟩
theorem Ub{more:List Ch}(h:j3 l)(b:x∈over l more):x∈l\/x∈more:=by induction more generalizing l with|nil=>exact .inl b|cons c r ih=>have e:over l (c::r)=over (put l c) r:=rfl;grind [rk,ar,jb9]
theorem Bn(f:x∈memory bs):∃ b∈bs,x∈b:=by
 have H:∀(bs:List (List Ch)) (l:List Ch),j3 l->∀ x,x∈bs.foldl over l->x∈l\/∃ b∈bs,x∈b:=by intro bs;induction bs with|nil=>intro l _ x h;exact .inl h|cons b r ih=>intro l d x h;obtain h|⟨c,g,h⟩:=ih _ (Qw d) x h;obtain h|h:=Ub d h;exact .inl h;simp_all;grind
 obtain h|h:=H bs [] List.Pairwise.nil x f;cases h;exact h
theorem Ms(c:Ch)(l:List Ch):(ins c l).length<=l.length+1/\l.length<=(ins c l).length/\1<=(ins c l).length:=by induction l with|nil=>simp[ins]|cons x r ih=>grind [ins]
theorem dh{more:List Ch}(h:j3 l):(over l more).length<=l.length+more.length/\l.length<=(over l more).length/\(more≠[]->1<=(over l more).length):=by induction more generalizing l with|nil=>exact⟨zR _,zR _,λe=>(e rfl).elim⟩|cons c r ih=>grind [over,rk,ar,Ms]
theorem Fy(f:∀ b∈bs,qm b=true)(d:bs≠[]):memory bs≠[]:=by
 obtain⟨b,k⟩:=List.exists_mem_of_ne_nil bs d;intro e;have H:∀(bs:List (List Ch)) (l:List Ch),j3 l->(∀ b∈bs,qm b=true)->bs≠[]->1<=(bs.foldl over l).length:=by intro bs;induction bs with|nil=>simp_all|cons b r ih=>intro l g i _;have f:=(yj b).1<|i b xW;(have c:b≠[]:=λe=>zG);have j:=(dh (more:=b) g).2.2 c;by_cases hr:r=[];rw[hr];exact j;grind [Qw]
 have:=H bs [] List.Pairwise.nil f d;have m:bs.foldl over []=[]:=e;simp_all
theorem St.jgj{s:St}(h:s.Ok)(f:s.bs≠[])(g:s.mem.length<65536):zm s.mem:=⟨zi _,Fy h.log f,λc hc=>by obtain⟨b,i,d⟩:=Bn hc;exact((yj b).1<|h.log b i).2.2 c d,g⟩
theorem Man.Xs(m:Man)(last:Nat):(m.qt last).settled=m.next::m.settled:=by grind [Man.settled,Man.qt]
theorem Man.Good.qt{m:Man}(h:m.Good){last:Nat}(d:last<=1000000000)(c:m.next+2<=2000000000)(i:1<=m.next):(m.qt last).Good:=by
 obtain⟨l,k,g,f⟩:=h;have j:∀ n∈m.settled,1<=n/\n<m.next:=λn b=>g n<|zV.2<|.inl b
 refine⟨c,d,?_,?_⟩;intro n b;unfold Man.numbers at b;rw[Man.Xs] at b;show 1<=n/\n<m.next+2;obtain b|b:=zV.1 b;grind;have:n=m.next+1:=zW.1 b;omega;unfold Man.numbers at f ⊢;rw[Man.Xs];show(m.next::m.settled++[m.next+1]).Nodup;grind
theorem St.Ok.flush{s:St}(h:s.Ok)(i:s.mem.length<65536)(g:s.m.next+2<=2000000000)(d:1<=s.m.next)(f:s.m.runs.length+1<65535):s.flush.Ok:=by unfold St.flush;split;exact h;rename_i hb;refine⟨h.yp.qt h.cap g d,?_,?_,?_,λb hb=>(by cases hb),h.cap⟩;show(s.m.next::s.m.runs).length<65535;simpa using f;show(s.mem::s.bls).length=_;rw[Man.Xs,zZ,zZ,h.len];intro l c;obtain rfl|c:=xB.1 c;exact St.jgj h hb i;exact h.bl l c
theorem M8(l:List Ch):∀ c∈there l,c∈l:=λc hc=>(List.mem_filter.1 hc).1
theorem Kg{ls:List (List Ch)}(h:∀ l∈ls,j3 l)(b:x∈merged ls):∃ l∈ls,x∈l:=by induction ls with|nil=>cases b|cons l r ih=>rw[Zl] at b;obtain b|b:=Ub (zh r) b;simp_all;simp_all
theorem Mr(ls:List (List Ch)):(merged ls).length<=(ls.map List.length).sum:=by induction ls with|nil=>simp[merged]|cons l r ih=>grind [Zl,dh,zh]
theorem St.jcd{s:St}(h:s.Ok)(f:s.live≠[])(b:s.live.length<65536):zm s.live:=⟨br (zh _) _,f,λc hc=>by obtain⟨l,g,d⟩:=Kg (λl b=>(h.bl l b).rising)<|M8 _ c hc;exact(h.bl l g).allowed c d,b⟩
theorem Man.Good.log{m:Man}(h:m.Good):1<=m.log/\m.log<m.next:=h.2.2.1 m.log<|zV.2<|.inr<|zW.2 rfl
theorem Man.Good.yt{m:Man}(h:m.Good)(c:m.next+1<=2000000000):m.yt.Good:=by have d:=h.log;obtain⟨j,i,g,f⟩:=h;have b:¬m.next=0:=zC;grind [Man.numbers,Man.settled,Man.yt]
theorem Man.Good.bare{m:Man}(h:m.Good):m.bare.Good:=by grind [Man.numbers,Man.settled,Man.bare]
theorem Man.dz{m:Man}(h:1<=m.next):m.yt.settled=[m.next]:=by grind [Man.settled,Man.yt]
theorem Man.Z8(m:Man):m.bare.settled=[]:=by simp[Man.settled,Man.bare]
theorem St.Ok.xw{s:St}(h:s.Ok)(c:s.live.length<65536)(b:s.m.next+1<=2000000000):s.xw.Ok:=by have d:=h.yp.log;unfold St.xw;split;exact h;split;exact⟨h.yp.bare,ZF _,by grind [Man.Z8],λl hm=>(by cases hm),h.log,h.cap⟩;rename_i hb;refine⟨h.yp.yt b,ZF _,by grind [Man.dz],λl hm=>?_,h.log,h.cap⟩;grind [St.jcd]
theorem Uy(h:j3 l)(k:By):yk (there l) k=(yk l k).filter (λc=>!c.gone):=by induction l with|nil=>rfl|cons x r ih=>grind [j3,xP,yk,there]
theorem St.jbh(s:St):j3 s.all:=zh _
theorem N4(l:List Ch)(m:Nat)(h:4*m<l.length):(chunks l)[m]?=some ((l.drop (4*m)).take 4):=by induction m generalizing l with|zero=>rw[lq (λe=>by rw[e] at h;simp at h)];simp|succ m ih=>rw[lq (λe=>by rw[e] at h;simp at h),List.getElem?_cons_succ,ih _ (by rw[xH];omega),XK];congr 3;omega
theorem I3(n:Nat)(bl:List (List Ch))(b:List Ch):jy n (bl++[b])=jy n bl++[(n+(bl.flatMap jr).length,yw b)]:=by induction bl generalizing n with|nil=>simp[jy]|cons x r ih=>grind [jy]
def qj(l:List Ch)(m:Nat):By:=((chunks l).take m).flatMap jr
def yh(l:List Ch)(m:Nat):By:=(jy 0 ((chunks l).take m)).flatMap xd
theorem mr(l:List Ch)(m:Nat)(h:4*m<l.length):qj l (m+1)=qj l m++jr ((l.drop (4*m)).take 4):=by grind [qj,zX,N4]
theorem Yy(l:List Ch)(m:Nat)(h:4*m<l.length):yh l (m+1)=(yh l m++big (qj l m).length 4)++text (yw ((l.drop (4*m)).take 4)):=by grind [yh,qj,zX,N4,I3,xd]
theorem kn(l:List Ch):jn l=(qj l ((l.length+3)/4)++frame (big ((l.length+3)/4) 2++yh l ((l.length+3)/4)))++big (qj l ((l.length+3)/4)).length 4:=by grind [jn,Qa,qj,yh,Y2]
theorem Du(h:∀ c∈b,allowed c=true)(d:b.length<=4):(jr b).length<=245:=by grind [Jy,jr,frame,jk]
theorem Xt(h:∀ c∈l,allowed c=true)(m:Nat):(qj l m).length<=245*m:=by
 unfold qj;have H:∀ bl:List (List Ch),(∀ b∈bl,(jr b).length<=245)->(bl.flatMap jr).length<=245*bl.length:=by intro bl;induction bl with|nil=>intro _;simp|cons b r ih=>grind
 grind [Du,B5,sj]
theorem Y8(h:∀ c∈l,allowed c=true)(m:Nat)(b:4*m<l.length+4):(yh l m).length<=21*m:=by induction m with|zero=>simp[yh,jy]|succ m ih=>have g:=ih zC;rw[Yy l m zC];(have d:(yw<|(l.drop (4*m)).take 4).length<=16:=by unfold yw;cases hh:((l.drop (4*m)).take 4).head? with|none=>simp|some c=>have f:=h c (ZZ<|XP<|List.mem_of_mem_head?<|by rw[hh];exact rfl);grind [yn]);grind [jk,text]
theorem tj(h:∀ c∈l,allowed c=true):(jn l).length<=67*l.length+300:=by grind [kn,Xt,Y8,jk,frame]
