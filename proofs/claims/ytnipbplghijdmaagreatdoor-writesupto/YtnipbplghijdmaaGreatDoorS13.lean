/-
  S: Entry2 Entry3 Entry4 Entry5 Entry6.
-/
import Derived.Test.YtnipbplghijdmaaGreatDoorS12
set_option maxRecDepth 100000
set_option maxHeartbeats 8000000
set_option linter.unusedVariables false
set_option linter.unusedSimpArgs false
namespace Go.Proofs.YtnipbplghijdmaaGreatDoor
open RowKit Maps WideShapes Go.Proofs.Tryz
variable {w w' w4:World} {a l m m1 q val:List UInt8} {B b k n r:Nat} {c:Rf.Ch} {fn:Func} {t u:Tmp} {v:Value} {g:Bool} {E:Nat->Addr} {kd:UInt8} {cs:List Rf.Ch}
theorem Ju(b o j:Nat):(⟨b,o,none⟩:Addr).add j=⟨b,o+j,none⟩:=by unfold Addr.add;split<;>simp_all
theorem Chs.at{p:Option Addr}{c:Nat}{l:List Rf.Ch}(h:Chs w (.slice p l.length c) l)(g:k<l.length) :
 ∃ b o,p=some ⟨b,o,none⟩/\w.cell? ⟨b,o+k*3,none⟩=some (jd l[k].key)/\w.cell? ⟨b,o+k*3+1,none⟩=some (jd l[k].value)/\w.cell? ⟨b,o+k*3+2,none⟩=some (.bool l[k].gone):=by
 obtain⟨r,v,e,u,t,j,i⟩:=h;cases e
 cases p with
 | none=>have:=j rfl;omega
 | some ad =>
  obtain⟨b,o,s⟩:=ad;obtain⟨f,d⟩:=i _ rfl;simp only at f;subst f;obtain⟨q,n,m⟩:=Y2 g;refine⟨b,o,rfl,?_,?_,?_⟩
  ·have:=d _ _ q;rwa [Ju] at this
  ·have:=d _ _ n;rwa [Ju] at this
  ·have:=d _ _ m;rwa [Ju] at this
theorem Gj{l:List Rf.Ch}(h:k<l.length):(l.take (k+1)).flatMap Rf.entry=(l.take k).flatMap Rf.entry++Rf.entry l[k]:=by
 rw[zN h];simp only[xM,xL,List.flatMap_nil,ZC]
theorem B7(d:c.key.length<1048576)(b:c.value.length<1048576):(Rf.entry c).length<2097160:=by
 unfold Rf.entry
 split<;>simp[Rf.text,Rf.ji]<;>omega
theorem Gk{l:List Rf.Ch}(h:∀ c∈l,c.key.length<1048576/\c.value.length<1048576):(l.flatMap Rf.entry).length<=2097160*l.length:=by
 induction l with
 | nil=>simp
 | cons c r ih =>
  have d:=B7 (h c xJ).1 (h c xJ).2;have b:=ih (fun x hx=>h x (xI _ hx));simp only[xL,ZY,zX];omega
theorem eo(v M:Value)(m:Nat)(xs:List UInt8)(l:List Rf.Ch)(base:Nat)(w:World)(hm:xs.length=m)(hl:m<1048576)(am:l.length<=255)(hs:∀ c∈l,c.key.length<1048576/\c.value.length<1048576)(Z:base<=w.heap.size)(t:w.ownsRow base 5 1 v m (xs.map j6))(G:Chs w M l)(W:l≠[]->∀ p n c,M = .slice (some p) n c->¬some p.block=v.ownBlock) :
 Calls prog 106 #[v,M] w fun e w'=>∃ p c,e = .returned (.slice p (m+1+(l.flatMap Rf.entry).length) c) /\
  w'.ownsRow base 5 1 (.slice p (m+1+(l.flatMap Rf.entry).length) c) (m+1+(l.flatMap Rf.entry).length) ((xs++(Rf.big l.length 1++l.flatMap Rf.entry)).map j6)/\Grown w v w' (.slice p (m+1+(l.flatMap Rf.entry).length) c):=by
 obtain⟨p0,c0,rfl⟩:=jj t;obtain⟨j0,hj,R,O,N⟩:=info_parts Tryz.ou;obtain⟨pe,ce,rfl,_⟩:=id G
 have H:((l.length:Int)%256)=((UInt8.ofNat (l.length%256)).toNat:Int):=by
  have h2:(UInt8.ofNat (l.length%256)).toNat=l.length%256:=by simp[XD]
  rw[h2];omega
 have HB:=jb H;clear H;have x:(l.length:Int)%256=(l.length:Int):=by omega
 have r:=t.alloc (.cells #[.int .u8 (l.length:Int)] 5);have h1:∀ u∈[Value.int .u8 (l.length:Int)],u.oneCell'=true:=by intro u hu;simp at hu;subst hu;rfl
 have X:Hid (m+1<=maxLen):=by unfold Hid maxLen;omega
 have U:Hid ((m+1)*1<=140737488355328):=by unfold Hid;omega
 have hb:base<=(w.alloc (.cells #[.int .u8 (l.length:Int)] 5)).heap.size:=by simp;omega
 go_enter func106,ntmps106
 go_wp2_with (first
  | (at_builtin;refine jk _ rfl (.tmp 7) (.tmp 11) 84 rfl base 5 j0 (.int .u8 0) 1 1 underlying84 hj R O N rfl (by decide) _ _ _ rfl r ⟨w.heap.size,0,none⟩ 1 1 [.int .u8 (l.length:Int)] rfl rfl (cell_one_new _ _ _) h1 X.out U.out hb ?_;intro p3 J w3 q T B)
  | go_in)
 have Y:Grown w (.slice p0 m c0) w3 (.slice p3 (m+1) J):=Grown.trans (Grown.of (ja.alloc w _ _) _) (Grown.grown T B)
 have C:xs.map j6++[.int .u8 (l.length:Int)]=(xs++(Rf.big l.length 1++(l.take 0).flatMap Rf.entry)).map j6:=by
  rw[<-x,HB.out,Rf.rq];simp
 rw[C] at q;clear C x r h1 hb
 go_loopw [0,15] (fun b i wr=>∃(k:Nat) (p:Option Addr) (c:Nat),k<=l.length/\i = .int .i64 k/\b = .slice p (m+1+((l.take k).flatMap Rf.entry).length) c /\
  wr.ownsRow base 5 1 (.slice p (m+1+((l.take k).flatMap Rf.entry).length) c) (m+1+((l.take k).flatMap Rf.entry).length) ((xs++(Rf.big l.length 1++(l.take k).flatMap Rf.entry)).map j6) /\
  Grown w (.slice p0 m c0) wr (.slice p (m+1+((l.take k).flatMap Rf.entry).length) c))
  (fun _ i _=>l.length-(intOf i).toNat)
 case atStart=>exact⟨0,p3,J,zU _,rfl,rfl,q,Y⟩
 case round =>
  obtain⟨k,p,c,hk,rfl,rfl,f,g⟩:=hrel;rcases ZJ k l.length with z|an
  ·have L:Chs wr (.slice pe l.length ce) l:=G.keep g.keeps (fun hl p n c e h=>W hl p n c e h)
   obtain⟨b,o,rfl,e0,e1,e2⟩:=L.at z;have E:=Gk (l:=l.take k) (fun c hc=>hs c (ZH hc));have D:(l.take k).length=k:=by simp;omega
   rw[D] at E;have s:=hs l[k] (zV z);have j:=Gj z;have HS:=jb j;clear j D;have I:(xs++(Rf.big l.length 1++(l.take k).flatMap Rf.entry)).length=m+1+((l.take k).flatMap Rf.entry).length:=by simp only[ZY,Rf.ji];omega
   have HX:=jb I;clear I;have ao:=B7 s.1 s.2;generalize (l.take k).flatMap Rf.entry=F at f g E HS HX ⊢;have A:=f.alloc (.cells #[jd l[k].key,jd l[k].value,.bool l[k].gone] 88);have V:base<=(wr.alloc (.cells #[jd l[k].key,jd l[k].value,.bool l[k].gone] 88)).heap.size:=by have:=g.keeps.size;simp;omega
   have S:m+1+F.length<549755813888:=by omega
   have gA:Grown wr (.slice p (m+1+F.length) c) (wr.alloc (.cells #[jd l[k].key,jd l[k].value,.bool l[k].gone] 88)) (.slice p (m+1+F.length) c):=Grown.of (ja.alloc wr _ _) _
   go_wp2_with (go_at_call 151;refine(Cx (.slice p (m+1+F.length) c) _ _ l[k] base _ HX.out S s.1 s.2 V A).mono ?_;rintro e w' ⟨p4,c4,rfl,d,y⟩)
   have e5:m+1+F.length+(Rf.entry l[k]).length=m+1+((l.take (k+1)).flatMap Rf.entry).length:=by rw[HS.out,ZY];omega
   have e6:xs++(Rf.big l.length 1++F)++Rf.entry l[k]=xs++(Rf.big l.length 1++(l.take (k+1)).flatMap Rf.entry):=by rw[HS.out];simp only[ZK]
   rw[e5] at d y ⊢;rw[e6] at d;exact⟨⟨k+1,p4,c4,by omega,by simp,rfl,d,g.trans (gA.trans y)⟩,by simp[intOf];omega⟩
  ·have ek:k=l.length:=by omega
   subst ek;rw[zW] at f g ⊢;go_wp2;go_ret;exact⟨p,c,rfl,f,g⟩
theorem jab(n:Nat)(A:Value)(l:List Rf.Ch)(w:World)(T:n<9223372036854775808)(q:l.length<=255)(z:∀ c∈l,c.key.length<1048576/\c.value.length<1048576)(i:Chs w A l) :
 Calls prog 64 #[.int .i64 n,A] w fun e w'=>∃ p c,e = .returned (.slice p (Rf.jt n l).length c) /\
  w'.ownsRow w.heap.size 5 1 (.slice p (Rf.jt n l).length c) (Rf.jt n l).length ((Rf.jt n l).map j6)/\ja w w' (fun _=>False):=by
 obtain⟨u,B,rfl,_⟩:=id i;have O:(n:Int)%18446744073709551616=(n:Int):=by omega
 have N:=Gk z;go_enter func64,ntmps64;go_wp2_with fail;refine(yz (.slice none 0 0) 0 [] n 8 w.heap.size w rfl (by omega) (by omega) (by omega) (xA _) (zS _ _ _ _)).mono ?_;rintro e E ⟨v,C,rfl,d,f⟩;have y:=f.new rfl;simp only[xZ,zP] at d f ⊢
 have r:l≠[]->∀ p n c,Value.slice u l.length B = .slice (some p) n c->¬some p.block=(Value.slice v 8 C).ownBlock:=by
  intro I p n c e h;cases e;have U:=(d.lt _ h.symm).1;have:=i.lt I;omega
 go_wp2_with fail;refine(eo (.slice v 8 C) (.slice u l.length B) 8 (Rf.big n 8) l w.heap.size E (Rf.ji _ _) (by omega) q z y.size d (i.same y) r).mono ?_;rintro e D ⟨S,V,rfl,b,m⟩;have t:=f.trans m;have x:=t.new rfl;have g:(Rf.big n 8++(Rf.big l.length 1++l.flatMap Rf.entry)).length=8+1+(l.flatMap Rf.entry).length:=by simp only[ZY,Rf.ji];omega
 generalize hF:Rf.big n 8++(Rf.big l.length 1++l.flatMap Rf.entry)=F at b g;rw[<-g] at b ⊢;have o:Rf.jt n l=Rf.frame F:=by rw[<-hF];simp[Rf.jt]
 have k:(Rf.jt n l).length=8+F.length:=by rw[o];simp[Rf.frame,Rf.ji];omega
 have M:=jb o;have L:=jb k;clear o k hF;have s:F.length<1099511627776:=by omega
 clear g;go_wp2_with fail;refine(gw _ F D (xj b) s).mono ?_;rintro e R ⟨G,J,rfl,j,H⟩;go_wp2;go_ret;rw[L.out,M.out];exact⟨G,J,rfl,qg j x.size,x.tt H⟩
theorem ic(x:Value)(l:List Rf.Ch)(w:World)(p:Chs w x l)(D:l.length<1099511627776)(z:∀ c∈l,c.key.length<1099511627776/\c.value.length<1099511627776) :
 Calls prog 61 #[x] w fun e w'=>e = .returned (.bool (Rf.qy l))/\ja w w' (fun _=>False):=by
 obtain⟨C,I,rfl,_⟩:=id p;have s:Hid (Rf.qy l=(decide (1<=l.length)&&decide (l.length<=8)&&l.all Rf.allowed)):=rfl;rcases ZJ l.length 1 with v|v
 ·go_enter func61,ntmps61
  go_wp2;go_ret;refine⟨?_,ja.refl _ _⟩;rw[s.out];simp[show ¬1<=l.length by omega]
 rcases ZJ 8 l.length with u|u
 ·go_enter func61,ntmps61
  go_wp2;go_ret;refine⟨?_,ja.refl _ _⟩;rw[s.out];simp[show ¬l.length<=8 by omega]
 have q:Hid (Rf.qy l=l.all Rf.allowed):=by
  unfold Hid;rw[s.out];simp[v,u]
 clear s;go_enter func61,ntmps61;go_wp2_with fail
 go_loopw [15] (fun i wr=>∃(k:Nat),k<=l.length/\i = .int .i64 k/\(∀ c∈l.take k,Rf.allowed c=true)/\ja w wr (fun _=>False))
  (fun i _=>l.length-(intOf i).toNat)
 case atStart=>exact⟨0,zU _,rfl,(fun c d=>by cases d),ja.refl _ _⟩
 case round =>
  obtain⟨k,E,rfl,j,g⟩:=hrel;have y:=jb j;clear j;rcases ZJ k l.length with f|B
  ·have r:=p.same g
   obtain⟨b,o,rfl,H,G,F⟩:=r.at f;have n:=z l[k] (zV f);have m:Rf.allowed l[k]=true\/Rf.allowed l[k]=false:=by cases Rf.allowed l[k]<;>simp
   rcases m with m|m
   all_goals
    go_wp2_with (go_at_call 101;refine(Zp l[k] n.1 n.2 _).mono ?_;rintro e w' ⟨rfl,t⟩;rw[m])
   ·refine⟨⟨k+1,by omega,by simp,?_,(g.more _).tt t⟩,by simp[intOf];omega⟩
    rw[zN f];intro c d;rcases ZD.1 d with d|d
    ·exact y.out c d
    ·rw[ZE.1 d];exact m
   ·go_ret
    refine⟨?_,(g.more _).tt t⟩;rw[q.out];have:l.all Rf.allowed=false:=List.all_eq_false.2 ⟨l[k],zV f,by simp[m]⟩;rw[this];rfl
  ·have A:k=l.length:=by omega
   subst A;go_wp2;go_ret;refine⟨?_,g⟩;rw[q.out];have:l.all Rf.allowed=true:=List.all_eq_true.2 (fun c d=>y.out c (by rw[zW];exact d));rw[this];rfl
theorem Qf{t:List UInt8}(h:Rf.xl l=some (t,q)):t.length<256:=(Rf.Z9 h).2
theorem Uk(h:w.heap[b]?=some (.cells #[jd c.key,jd c.value,.bool c.gone] 88 (0,0))):(loadVar 88 ⟨b,0,none⟩).run prog w = .ok (chV c) w:=by
 have g:=zA (o:=0) h;have f:=zA (o:=1) h;have d:=zA (o:=2) h;simp at g f d;go_simp
theorem kh(h:fn.results=#[.cell t 88,.tmp u]){tmps:Array Value}(f:tmps.getD t undef = .pointer (some ⟨b,0,none⟩))(i:w.heap[b]?=some (.cells #[jd c.key,jd c.value,.bool c.gone] 88 (0,0))) :
 (results fn tmps).run prog w = .ok (.tuple #[chV c,tmps.getD u undef]) w:=by
 have g:=Uk i;have d:tmps[t]?.getD undef = .pointer (some ⟨b,0,none⟩):=by simpa using f
 simp[results,h,d,asAddr,g]
theorem Bytes.other(h:Bytes w v l)(g:ja w w' (fun i=>i=b))(k:∀ j x,w.cell? ⟨b,j,none⟩≠some (j6 x)):Bytes w' v l:=by
 obtain⟨p,c,rfl,q,o,n,d⟩:=h;refine⟨p,c,rfl,q,o,n,fun ad e=>⟨(d ad e).1,fun j x hx=>?_⟩⟩;have f:=(d ad e).2 j x hx;refine g.cell f (fun hbb=>k (ad.add j).off x ?_);have m:(ad.add j).spot=none:=Dw ad j (d ad e).1;have r:(⟨b,(ad.add j).off,none⟩:Addr)=ad.add j:=by rw[<-hbb,<-m]
 rw[r];exact f
theorem o9{v:List UInt8}{t:TypeId}{c:Nat×Nat}(h:w.heap[b]?=some (.cells #[jd a,jd v,.bool g] t c)):∀ j x,w.cell? ⟨b,j,none⟩≠some (j6 x):=by
 intro j x;rw[zA h]
 match j with
 | 0=>simp
 | 1=>simp
 | 2=>simp
 | j+3=>rw[xN (by simp)];simp
theorem Rd.other(h:Rd w r l)(d:ja w w' (fun i=>i=b))(c:r≠b)(f:∀ j x,w.cell? ⟨b,j,none⟩≠some (j6 x)):Rd w' r l:=by
 obtain⟨v,m,k,g⟩:=h;exact⟨v,d.same m c,k.other d f,g⟩
theorem xq{v:List UInt8}(h:w.heap[b]?=some (.cells #[jd a,jd v,.bool g] 88 (0,0))) :
 w.cell? ⟨b,0,none⟩=some (jd a)/\w.cell? ⟨b,1,none⟩=some (jd v)/\w.cell? ⟨b,2,none⟩=some (.bool g)/\w.frozen? ⟨b,0,none⟩=false/\w.frozen? ⟨b,1,none⟩=false/\w.frozen? ⟨b,2,none⟩=false:=by
 have f:=zA (o:=0) h;have d:=zA (o:=1) h;have c:=zA (o:=2) h;simp at f d c;exact⟨f,d,c,zB h,zB h,zB h⟩
theorem lq{v k x:List UInt8}{y:Bool}(h:w.heap[b]?=some (.cells #[jd a,jd v,.bool g] 88 (0,0))) :
 (((w.setCell ⟨b,0,none⟩ (jd k)).setCell ⟨b,1,none⟩ (jd x)).setCell ⟨b,2,none⟩ (.bool y)).heap[b]?=some (.cells #[jd k,jd x,.bool y] 88 (0,0)):=by
 have f:=jc (o:=0) h (jd k);have d:=jc (o:=1) f (jd x);have c:=jc (o:=2) d (.bool y);simpa using c
theorem Yk(w:World)(b:Nat)(x y z:Value):ja w (((w.setCell ⟨b,0,none⟩ x).setCell ⟨b,1,none⟩ y).setCell ⟨b,2,none⟩ z) (fun i=>i=b) :=
 (((ja.refl w (fun i=>i=b)).set (p:=⟨b,0,none⟩) rfl x).set (p:=⟨b,1,none⟩) rfl y).set (p:=⟨b,2,none⟩) rfl z
theorem Cm{key:List UInt8}(hr:Rd w r (1::m))(T:Rf.xl m=some (key,m1))(h2:Rf.xl m1=some (val,q))(a8:Rf.allowed ⟨key,val,false⟩=true) :
 Calls prog 264 #[.pointer (some ⟨r,0,none⟩)] w fun e w'=>e = .returned (.tuple #[chV ⟨key,val,false⟩,.nilIface])/\Rd w' r q/\ja w w' (fun i=>i=r):=by
 have ao:r<w.heap.size:=by obtain⟨v,T,_⟩:=hr;exact zC T
 have X:=ja.alloc w (.cells #[jd [],jd [],.bool false] 88) (fun _=>False);have H:=je w (.cells #[jd [],jd [],.bool false] 88);have ap:=Qf T;have am:=Qf h2;go_enter func264,ntmps264;go_wp2_with fail;refine(yk (n:=1) (hr.same X) (by simp) (by omega)).mono ?_;rintro e f ⟨rfl,G,k1⟩;have e1:Rf.number (((1:UInt8)::m).take 1)=1:=by simp[Rf.number]
 rw[e1];rw[show((1:UInt8)::m).drop 1=m from rfl] at G;have an:w.heap.size<f.heap.size:=by have:=k1.size;simp at this;omega
 have A:=k1.same H (by omega);have ac:ja w f (fun i=>i=r):=(Js X).tt k1;clear H X;have I:=je f (.cells #[jd [],jd [],.bool false] 88);have W:=ja.alloc f (.cells #[jd [],jd [],.bool false] 88) (fun _=>False);have ah:=jb I;have N:=jb A;clear I A;go_wp2_with fail;refine(dh (G.same W) T).mono ?_;rintro e V ⟨rfl,a7,Z⟩;have j:=Z.same ah.out (show ¬f.heap.size=r by omega);have z:=Z.same (W.same N.out id) (show ¬w.heap.size=r by omega);have ab:ja w V (fun i=>i=r):=(ac.tt (Js W)).tt Z;obtain⟨a0,a1,a2,f0,f1,f2⟩:=xq j;have F:=o9 j;have t:=ja.setCell V ⟨f.heap.size,0,none⟩ (jd key);have x:=a7.other t (show r≠f.heap.size by omega) F;have p:=jc (o:=0) j (jd key);have l:=t.same z (show ¬w.heap.size=f.heap.size by omega);have D:ja w (V.setCell ⟨f.heap.size,0,none⟩ (jd key)) (fun i=>i=r):=ab.trans t (fun i hi e=>by have e':i=f.heap.size:=e;omega);have R:=jb p;have M:=jb l;have ae:=jb x;have ag:=jb D;clear j z p l x D F t;go_wp2_with fail;refine(dh ae.out h2).mono ?_;rintro e U ⟨rfl,a6,Y⟩;have b:=Y.same R.out (show ¬f.heap.size=r by omega);have y:=Y.same M.out (show ¬w.heap.size=r by omega);have aa:ja w U (fun i=>i=r):=ag.out.tt Y;simp only[xP,zX,xU,Array.setIfInBounds] at b;simp at b;obtain⟨b0,b1,b2,g0,g1,g2⟩:=xq b;have E:=o9 b;have s:=ja.setCell U ⟨f.heap.size,1,none⟩ (jd val);have u:=a6.other s (show r≠f.heap.size by omega) E;have d:=jc (o:=1) b (jd val);simp at d;have k:=s.same y (show ¬w.heap.size=f.heap.size by omega);have C:ja w (U.setCell ⟨f.heap.size,1,none⟩ (jd val)) (fun i=>i=r):=aa.trans s (fun i hi e=>by have e':i=f.heap.size:=e;omega);obtain⟨d0,d1,d2,_⟩:=xq d;have O:=jb d;have L:=jb k;have ad:=jb u;have af:=jb C;clear b y d k u C E s;go_wp2_with fail;refine(Zp ⟨key,val,false⟩ (by simp only;omega) (by simp only;omega) _).mono ?_;rintro e w4 ⟨rfl,S⟩;rw[a8];have B:=S.same O.out id;have g:=S.same L.out id;obtain⟨i0,i1,i2,_⟩:=xq B;obtain⟨q0,q1,q2,s0,s1,s2⟩:=xq g;have a4:=o9 g;have J:=jb g;clear B g;have a5:=ad.out.same S;have a9:ja w w4 (fun i=>i=r):=af.out.trans S (fun _ _ h=>h.elim);go_wp2;refine bodyPost_ret (kh rfl rfl (c:=⟨key,val,false⟩) (lq J.out)) rfl ?_;exact⟨rfl,a5.other (Yk _ _ _ _ _) (by omega) a4,a9.trans (Yk _ _ _ _ _) (fun i hi e=>by have e':i=w.heap.size:=e;omega)⟩
theorem Fl{key:List UInt8}(Z:Rd w r (2::m))(G:Rf.xl m=some (key,q))(S:Rf.allowed ⟨key,[],true⟩=true) :
 Calls prog 264 #[.pointer (some ⟨r,0,none⟩)] w fun e w'=>e = .returned (.tuple #[chV ⟨key,[],true⟩,.nilIface])/\Rd w' r q/\ja w w' (fun i=>i=r):=by
 have a6:r<w.heap.size:=by obtain⟨v,G,_⟩:=Z;exact zC G
 have J:=ja.alloc w (.cells #[jd [],jd [],.bool false] 88) (fun _=>False);have z:=je w (.cells #[jd [],jd [],.bool false] 88);have a7:=Qf G;go_enter func264,ntmps264;go_wp2_with fail;refine(yk (n:=1) (Z.same J) (by simp) (by omega)).mono ?_;rintro e j ⟨rfl,y,M⟩;have e1:Rf.number (((2:UInt8)::m).take 1)=2:=by simp[Rf.number]
 rw[e1];rw[show((2:UInt8)::m).drop 1=m from rfl] at y;have a5:w.heap.size<j.heap.size:=by have:=M.size;simp at this;omega
 have s:=M.same z (by omega);have V:ja w j (fun i=>i=r):=(Js J).tt M;clear z J;have A:=je j (.cells #[jd [],jd [],.bool true] 88);have I:=ja.alloc j (.cells #[jd [],jd [],.bool true] 88) (fun _=>False);have Y:=jb A;have D:=jb s;clear A s;go_wp2_with fail;refine(dh (y.same I) G).mono ?_;rintro e H ⟨rfl,R,L⟩;have f:=L.same Y.out (show ¬j.heap.size=r by omega);have p:=L.same (I.same D.out id) (show ¬w.heap.size=r by omega);have U:ja w H (fun i=>i=r):=(V.tt (Js I)).tt L;obtain⟨a0,a1,a2,f0,f1,f2⟩:=xq f;have x:=o9 f;have k:=ja.setCell H ⟨j.heap.size,0,none⟩ (jd key);have l:=R.other k (show r≠j.heap.size by omega) x;have b:=jc (o:=0) f (jd key);have g:=k.same p (show ¬w.heap.size=j.heap.size by omega);have u:ja w (H.setCell ⟨j.heap.size,0,none⟩ (jd key)) (fun i=>i=r):=U.trans k (fun i hi e=>by have e':i=j.heap.size:=e;omega);simp at b;obtain⟨d0,d1,d2,_⟩:=xq b;have E:=jb b;have C:=jb g;have W:=jb l;have X:=jb u;clear f p b g l u x k;go_wp2_with fail;refine(Zp ⟨key,[],true⟩ (by simp only;omega) (by simp) _).mono ?_;rintro e w4 ⟨rfl,F⟩;rw[S];have t:=F.same E.out id;have d:=F.same C.out id;obtain⟨i0,i1,i2,_⟩:=xq t;obtain⟨q0,q1,q2,s0,s1,s2⟩:=xq d;have N:=o9 d;have B:=jb d;clear t d;have O:=W.out.same F;have T:ja w w4 (fun i=>i=r):=X.out.trans F (fun _ _ h=>h.elim);go_wp2;refine bodyPost_ret (kh rfl rfl (c:=⟨key,[],true⟩) (lq B.out)) rfl ?_;exact⟨rfl,O.other (Yk _ _ _ _ _) (by omega) N,T.trans (Yk _ _ _ _ _) (fun i hi e=>by have e':i=w.heap.size:=e;omega)⟩
def aj(E:Nat->Addr)(w:World)(r:Nat)(e:Ending)(w':World):Prop:=∃ v,e = .returned (.tuple #[chV ⟨[],[],false⟩,v])/\cy E w' v/\ja w w' (fun i=>i=r)
theorem du(h:fn.results=#[.cell t 88,.tmp u]){a:Act}(j:a.tmps.getD t undef = .pointer (some ⟨w.heap.size,0,none⟩))(g:a.tmps.getD u undef=v)(m:a.defers=[])(b:w4.heap[w.heap.size]?=some (.cells #[jd [],jd [],.bool false] 88 (0,0)))(f:cy E w4 v)(l:ja w w4 (fun i=>i=r)) :
 bodyPost prog fn (aj E w r) Exit.ret a (((w4.setCell ⟨w.heap.size,0,none⟩ (jd [])).setCell ⟨w.heap.size,1,none⟩ (jd [])).setCell ⟨w.heap.size,2,none⟩ (.bool false)):=by
 refine bodyPost_ret (kh h j (c:=⟨[],[],false⟩) (lq b)) m ?_;rw[g];obtain⟨k,o,n⟩:=f;refine⟨v,rfl,⟨k,o,n.keep (Yk _ _ _ _ _) (fun i c hi e=>?_)⟩,l.trans (Yk _ _ _ _ _) (fun i hi e=>by have d:i=w.heap.size:=e;omega)⟩;have d:i=w.heap.size:=hi;subst d;rw[b] at e;cases e
theorem Fj(S:Qp E B w)(F:B<=r)(l:Rd w r []) :
 Calls prog 264 #[.pointer (some ⟨r,0,none⟩)] w (aj E w r):=by
 have s:r<w.heap.size:=by obtain⟨v,p,_⟩:=l;exact zC p
 have d:=ja.alloc w (.cells #[jd [],jd [],.bool false] 88) (fun _=>False);have c:=je w (.cells #[jd [],jd [],.bool false] 88);go_enter func264,ntmps264;go_wp2_with fail;refine(J3 (n:=1) (S.same d) (l.same d) (by simp) (by omega)).mono ?_;rintro e x ⟨v,rfl,m,u,k⟩;obtain⟨t,a,rfl⟩:=m.shape;go_wp2_with fail;refine(zi _ m).mono ?_;rintro e o ⟨v2,rfl,f,j⟩;have b:=j.same (k.same c id) id;have q:ja w o (fun i=>i=r):=Js ((d.tt k).tt j);obtain⟨D,C,A,s0,z,y⟩:=xq b;have g:=jb b;clear b c;go_wp2;exact du (v:=v2) rfl rfl rfl rfl g.out (cy.of f (by decide)) q
theorem Fk(S:Qp E B w)(t:B<=r)(p:Rd w r (kd::m))(f:kd≠1)(u:kd≠2) :
 Calls prog 264 #[.pointer (some ⟨r,0,none⟩)] w (aj E w r):=by
 have A:r<w.heap.size:=by obtain⟨v,f,_⟩:=p;exact zC f
 have k:=ja.alloc w (.cells #[jd [],jd [],.bool false] 88) (fun _=>False);have c:=je w (.cells #[jd [],jd [],.bool false] 88);have O:kd.toNat≠1:=fun e=>f (UInt8.toNat_inj.1 e);have N:kd.toNat≠2:=fun e=>u (UInt8.toNat_inj.1 e);have M:((kd.toNat:Int)!=1)=true:=by simp;omega
 have L:((kd.toNat:Int)!=2)=true:=by simp;omega
 go_enter func264,ntmps264;go_wp2_with fail;refine(yk (n:=1) (p.same k) (by simp) (by omega)).mono ?_;rintro e s ⟨rfl,C,o⟩;have x:Rf.number ((kd::m).take 1)=kd.toNat:=by simp[Rf.number]
 rw[x];have d:ja w s (fun i=>i=r):=(Js k).tt o;have y:=S.keep d (fun i e=>by rw[e];exact t);have D:=y.cell 4 (by decide);go_wp2_with fail;refine(zi _ (.base (E:=E) 4 (by decide))).mono ?_;rintro e q ⟨v2,rfl,g,l⟩;have b:=l.same (o.same c (by omega)) id;have z:ja w q (fun i=>i=r):=d.trans l (fun _ _ h=>h.elim);obtain⟨J,I,H,s0,G,F⟩:=xq b;have j:=jb b;clear b c;go_wp2;exact du (v:=v2) rfl rfl rfl rfl j.out (cy.of g (by decide)) z
theorem so(S:Qp E B w)(V:B<=r)(R:Rd w r (kd::m))(F:kd=1\/kd=2)(D:Rf.xl m=none) :
 Calls prog 264 #[.pointer (some ⟨r,0,none⟩)] w (aj E w r):=by
 have a5:r<w.heap.size:=by obtain⟨v,D,_⟩:=R;exact zC D
 have M:=ja.alloc w (.cells #[jd [],jd [],.bool false] 88) (fun _=>False);have q:=je w (.cells #[jd [],jd [],.bool false] 88)
 have Z:∃ g:Bool,(kd.toNat=1/\g=false)\/(kd.toNat=2/\g=true):=by
  rcases F with rfl|rfl
  ·exact⟨false,.inl ⟨rfl,rfl⟩⟩
  ·exact⟨true,.inr ⟨rfl,rfl⟩⟩
 obtain⟨g,T⟩:=Z;have W:Rf.number ((kd::m).take 1)=kd.toNat:=by simp[Rf.number]
 generalize kd.toNat=N at W T;rcases T with⟨rfl,rfl⟩|⟨rfl,rfl⟩
 all_goals
  go_enter func264,ntmps264;go_wp2_with fail;refine(yk (n:=1) (R.same M) (by simp) (by omega)).mono ?_;rintro e b ⟨rfl,p,C⟩;rw[W];rw[show(kd::m).drop 1=m from rfl] at p;have a4:w.heap.size<b.heap.size:=by have:=C.size;simp at this;omega
  have l:=C.same q (by omega);have s:ja w b (fun i=>i=r):=(Js M).tt C;have S1:=S.keep s (fun i e=>by rw[e];exact V);have y:=jb l;clear q l;go_wp2_with fail;refine(Df (S1.same (ja.alloc b _ _)) V (p.same (ja.alloc b _ _)) D).mono ?_;rintro e z ⟨v,rfl,U,A⟩;obtain⟨t,a,rfl⟩:=U.shape;have k:=A.same ((ja.alloc b _ (fun _=>False)).same y.out id) (show ¬w.heap.size=r by omega);have f:=A.same (je b _) (show ¬b.heap.size=r by omega);have J:ja w z (fun i=>i=r):=(s.more _).tt A;obtain⟨a0,a1,a2,f0,f1,f2⟩:=xq f;have o:=ja.setCell z ⟨b.heap.size,0,none⟩ (jd []);have j:=o.same k (show ¬w.heap.size=b.heap.size by omega);have u:ja w (z.setCell ⟨b.heap.size,0,none⟩ (jd [])) (fun i=>i=r):=J.trans o (fun i hi e=>by have X:i=b.heap.size:=e;omega);have H:=U.keep o (fun i c hi e=>by have X:i=b.heap.size:=hi;subst X;rw[f] at e;cases e);have x:=jb j;clear f k j;go_wp2_with fail;refine(zi _ H).mono ?_;rintro e Y ⟨v3,rfl,G,O⟩;have d:=O.same x.out id;have I:ja w Y (fun i=>i=r):=u.trans O (fun _ _ h=>h.elim);obtain⟨q0,q1,q2,s0,s1,s2⟩:=xq d;have L:=jb d;clear d;go_wp2;exact du (v:=v3) rfl rfl rfl rfl L.out (cy.of G (by decide)) I
theorem Ik{key:List UInt8}(S:Qp E B w)(hB:B<=r)(hr:Rd w r (1::m))(L:Rf.xl m=some (key,m1))(h2:Rf.xl m1=none) :
 Calls prog 264 #[.pointer (some ⟨r,0,none⟩)] w (aj E w r):=by
 have ah:r<w.heap.size:=by obtain⟨v,L,_⟩:=hr;exact zC L
 have kA:=ja.alloc w (.cells #[jd [],jd [],.bool false] 88) (fun _=>False);have D:=je w (.cells #[jd [],jd [],.bool false] 88);have ai:=Qf L;go_enter func264,ntmps264;go_wp2_with fail;refine(yk (n:=1) (hr.same kA) (by simp) (by omega)).mono ?_;rintro e b ⟨rfl,C,T⟩;have e1:Rf.number (((1:UInt8)::m).take 1)=1:=by simp[Rf.number]
 rw[e1];rw[show((1:UInt8)::m).drop 1=m from rfl] at C;have ag:w.heap.size<b.heap.size:=by have:=T.size;simp at this;omega
 have y:=T.same D (by omega);have a4:ja w b (fun i=>i=r):=(Js kA).tt T;have I:=jb y;clear D y;go_wp2_with fail;refine(dh (C.same (ja.alloc b _ _)) L).mono ?_;rintro e N ⟨rfl,V,R⟩;have f:=R.same (je b _) (show ¬b.heap.size=r by omega);have x:=R.same ((ja.alloc b _ (fun _=>False)).same I.out id) (show ¬w.heap.size=r by omega);have a3:ja w N (fun i=>i=r):=(a4.more _).tt R;obtain⟨a0,a1,a2,f0,f1,f2⟩:=xq f;have A:=o9 f;have q:=ja.setCell N ⟨b.heap.size,0,none⟩ (jd key);have s:=V.other q (show r≠b.heap.size by omega) A;have d:=jc (o:=0) f (jd key);simp at d;have p:=q.same x (show ¬w.heap.size=b.heap.size by omega);have k:ja w (N.setCell ⟨b.heap.size,0,none⟩ (jd key)) (fun i=>i=r):=a3.trans q (fun i hi e=>by have U:i=b.heap.size:=e;omega);have S2:=S.keep k (fun i e=>by rw[e];exact hB);have J:=jb d;have H:=jb p;have a6:=jb s;have a7:=jb k;clear f x d p s k A q;go_wp2_with fail;refine(Df S2 hB a6.out h2).mono ?_;rintro e M ⟨v,rfl,he,O⟩;obtain⟨t,a,rfl⟩:=he.shape;have j:=O.same J.out (show ¬b.heap.size=r by omega);have u:=O.same H.out (show ¬w.heap.size=r by omega);have Z:ja w M (fun i=>i=r):=a7.out.tt O;obtain⟨b0,b1,b2,g0,g1,g2⟩:=xq j;have z:=ja.setCell M ⟨b.heap.size,1,none⟩ (jd []);have l:=z.same u (show ¬w.heap.size=b.heap.size by omega);have F:ja w (M.setCell ⟨b.heap.size,1,none⟩ (jd [])) (fun i=>i=r):=Z.trans z (fun i hi e=>by have U:i=b.heap.size:=e;omega);have X:=he.keep z (fun i c hi e=>by have U:i=b.heap.size:=hi;subst U;rw[j] at e;cases e);have G:=jb l;clear j u l;go_wp2_with fail;refine(zi _ X).mono ?_;rintro e w4 ⟨v3,rfl,W,k4⟩;have g:=k4.same G.out id;have Y:ja w w4 (fun i=>i=r):=F.trans k4 (fun _ _ h=>h.elim);obtain⟨q0,q1,q2,s0,s1,s2⟩:=xq g;have a5:=jb g;clear g;go_wp2;exact du (v:=v3) rfl rfl rfl rfl a5.out (cy.of W (by decide)) Y
theorem vw(h:fn.results=#[.cell t 88,.tmp u]){a:Act}(f:a.tmps.getD t undef = .pointer (some ⟨w.heap.size,0,none⟩))(d:a.tmps.getD u undef = .iface 371 (.pointer (some (E 4))))(j:a.defers=[])(b:w4.heap[w.heap.size]?=some (.cells #[jd [],jd [],.bool false] 88 (0,0)))(g:ja w w4 (fun i=>i=r)) :
 bodyPost prog fn (aj E w r) Exit.ret a (((w4.setCell ⟨w.heap.size,0,none⟩ (jd [])).setCell ⟨w.heap.size,1,none⟩ (jd [])).setCell ⟨w.heap.size,2,none⟩ (.bool false)).drew:=by
 refine bodyPost_ret (kh h f (c:=⟨[],[],false⟩) (lq b)) j ?_;rw[d];exact⟨_,rfl,⟨_,by decide,.base _ (by decide)⟩,(g.trans (Yk _ _ _ _ _) (fun i hi e=>by have k:i=w.heap.size:=e;omega)).draw⟩
theorem Fi{key:List UInt8}(S:Qp E B w)(hB:B<=r)(hr:Rd w r (1::m))(T:Rf.xl m=some (key,m1))(h2:Rf.xl m1=some (val,q))(a3:Rf.allowed ⟨key,val,false⟩=false) :
 Calls prog 264 #[.pointer (some ⟨r,0,none⟩)] w (aj E w r):=by
 have an:r<w.heap.size:=by obtain⟨v,T,_⟩:=hr;exact zC T
 have kA:=ja.alloc w (.cells #[jd [],jd [],.bool false] 88) (fun _=>False);have I:=je w (.cells #[jd [],jd [],.bool false] 88);have ap:=Qf T;have al:=Qf h2;go_enter func264,ntmps264;go_wp2_with fail;refine(yk (n:=1) (hr.same kA) (by simp) (by omega)).mono ?_;rintro e b ⟨rfl,H,Y⟩;have e1:Rf.number (((1:UInt8)::m).take 1)=1:=by simp[Rf.number]
 rw[e1];rw[show((1:UInt8)::m).drop 1=m from rfl] at H;have am:w.heap.size<b.heap.size:=by have:=Y.size;simp at this;omega
 have A:=Y.same I (by omega);have a6:ja w b (fun i=>i=r):=(Js kA).tt Y;have O:=jb A;clear I A;go_wp2_with fail;refine(dh (H.same (ja.alloc b _ _)) T).mono ?_;rintro e V ⟨rfl,Z,X⟩;have f:=X.same (je b _) (show ¬b.heap.size=r by omega);have u:=X.same ((ja.alloc b _ (fun _=>False)).same O.out id) (show ¬w.heap.size=r by omega);have a5:ja w V (fun i=>i=r):=(a6.more _).tt X;obtain⟨a0,a1,a2,f0,f1,f2⟩:=xq f;have G:=o9 f;have p:=ja.setCell V ⟨b.heap.size,0,none⟩ (jd key);have s:=Z.other p (show r≠b.heap.size by omega) G;have d:=jc (o:=0) f (jd key);simp at d;have l:=p.same u (show ¬w.heap.size=b.heap.size by omega);have D:ja w (V.setCell ⟨b.heap.size,0,none⟩ (jd key)) (fun i=>i=r):=a5.trans p (fun i hi e=>by have e':i=b.heap.size:=e;omega);have R:=jb d;have N:=jb l;have a7:=jb s;have a9:=jb D;clear f u d l s D G p;go_wp2_with fail;refine(dh a7.out h2).mono ?_;rintro e U ⟨rfl,ao,W⟩;have j:=W.same R.out (show ¬b.heap.size=r by omega);have t:=W.same N.out (show ¬w.heap.size=r by omega);have a4:ja w U (fun i=>i=r):=a9.out.tt W;obtain⟨b0,b1,b2,g0,g1,g2⟩:=xq j;have F:=ja.setCell U ⟨b.heap.size,1,none⟩ (jd val);have c:=jc (o:=1) j (jd val);simp at c;have k:=F.same t (show ¬w.heap.size=b.heap.size by omega);have C:ja w (U.setCell ⟨b.heap.size,1,none⟩ (jd val)) (fun i=>i=r):=a4.trans F (fun i hi e=>by have e':i=b.heap.size:=e;omega);obtain⟨d0,d1,d2,_⟩:=xq c;have M:=jb k;have a8:=jb C;clear j t c k C F;go_wp2_with fail;refine(Zp ⟨key,val,false⟩ (by simp only;omega) (by simp only;omega) _).mono ?_;rintro e w4 ⟨rfl,k4⟩;rw[a3];have g:=k4.same M.out id;obtain⟨q0,q1,q2,s0,s1,s2⟩:=xq g;have L:=jb g;clear g;have J:ja w w4 (fun i=>i=r):=a8.out.trans k4 (fun _ _ h=>h.elim);have S4:=S.keep J (fun i e=>by rw[e];exact hB);have v4:=S4.cell 4 (by decide);have af:=S4.lt 4 (by decide)
 have ak:∀ x y z,(((w4.setCell ⟨w.heap.size,0,none⟩ x).setCell ⟨w.heap.size,1,none⟩ y).setCell ⟨w.heap.size,2,none⟩ z).cell? ⟨4,0,none⟩=some (.iface 371 (.pointer (some (E 4)))) :=
  fun x y z=>(Yk w4 w.heap.size x y z).cell v4 (by simp only;omega)
 go_wp2_with fail
 go_region
 all_goals
  go_wp2;exact vw rfl rfl rfl rfl L.out J
theorem Fh{key:List UInt8}(S:Qp E B w)(Z:B<=r)(W:Rd w r (2::m))(H:Rf.xl m=some (key,q))(N:Rf.allowed ⟨key,[],true⟩=false) :
 Calls prog 264 #[.pointer (some ⟨r,0,none⟩)] w (aj E w r):=by
 have a6:r<w.heap.size:=by obtain⟨v,H,_⟩:=W;exact zC H
 have U:=ja.alloc w (.cells #[jd [],jd [],.bool false] 88) (fun _=>False);have u:=je w (.cells #[jd [],jd [],.bool false] 88);have a7:=Qf H;go_enter func264,ntmps264;go_wp2_with fail;refine(yk (n:=1) (W.same U) (by simp) (by omega)).mono ?_;rintro e d ⟨rfl,t,L⟩;have e1:Rf.number (((2:UInt8)::m).take 1)=2:=by simp[Rf.number]
 rw[e1];rw[show((2:UInt8)::m).drop 1=m from rfl] at t;have a5:w.heap.size<d.heap.size:=by have:=L.size;simp at this;omega
 have l:=L.same u (by omega);have R:ja w d (fun i=>i=r):=(Js U).tt L;have G:=jb l;clear u l;go_wp2_with fail;refine(dh (t.same (ja.alloc d _ _)) H).mono ?_;rintro e I ⟨rfl,M,J⟩;have c:=J.same (je d _) (show ¬d.heap.size=r by omega);have k:=J.same ((ja.alloc d _ (fun _=>False)).same G.out id) (show ¬w.heap.size=r by omega);have O:ja w I (fun i=>i=r):=(R.more _).tt J;obtain⟨a0,a1,a2,f0,f1,f2⟩:=xq c;have s:=o9 c;have j:=ja.setCell I ⟨d.heap.size,0,none⟩ (jd key);have C:=M.other j (show r≠d.heap.size by omega) s;have b:=jc (o:=0) c (jd key);simp at b;have g:=j.same k (show ¬w.heap.size=d.heap.size by omega);have p:ja w (I.setCell ⟨d.heap.size,0,none⟩ (jd key)) (fun i=>i=r):=O.trans j (fun i hi e=>by have e':i=d.heap.size:=e;omega);obtain⟨d0,d1,d2,_⟩:=xq b;have F:=jb g;have T:=jb p;clear c k b g C p s j;go_wp2_with fail;refine(Zp ⟨key,[],true⟩ (by simp only;omega) (by simp) _).mono ?_;rintro e w4 ⟨rfl,V⟩;rw[N];have f:=V.same F.out id;obtain⟨q0,q1,q2,s0,s1,s2⟩:=xq f;have D:=jb f;clear f;have A:ja w w4 (fun i=>i=r):=T.out.trans V (fun _ _ h=>h.elim);have X:=S.keep A (fun i e=>by rw[e];exact Z);have v4:=X.cell 4 (by decide);have Y:=X.lt 4 (by decide)
 have a4:∀ x y z,(((w4.setCell ⟨w.heap.size,0,none⟩ x).setCell ⟨w.heap.size,1,none⟩ y).setCell ⟨w.heap.size,2,none⟩ z).cell? ⟨4,0,none⟩=some (.iface 371 (.pointer (some (E 4)))) :=
  fun x y z=>(Yk w4 w.heap.size x y z).cell v4 (by simp only;omega)
 go_wp2_with fail
 go_region
 all_goals
  go_wp2;exact vw rfl rfl rfl rfl D.out A
theorem Lp(d:Rd w r l)(b:Rf.zu l=some (c,q)) :
 Calls prog 264 #[.pointer (some ⟨r,0,none⟩)] w fun e w'=>e = .returned (.tuple #[chV c,.nilIface])/\Rd w' r q/\ja w w' (fun i=>i=r):=by
 cases l with
 | nil=>simp[Rf.zu] at b
 | cons kd m =>
  simp only[Rf.zu] at b
  split at b
  ·rename_i hk1
   subst hk1
   cases h1:Rf.xl m with
   | none=>rw[h1] at b;cases b
   | some x =>
    obtain⟨key,m1⟩:=x;rw[h1] at b;simp only at b
    cases h2:Rf.xl m1 with
    | none=>rw[h2] at b;cases b
    | some x =>
     obtain⟨val,f⟩:=x;rw[h2] at b;simp only at b
     split at b
     ·rename_i hal
      cases b;exact Cm d h1 h2 hal
     ·cases b
  ·split at b
   ·rename_i _ hk2
    subst hk2
    cases h1:Rf.xl m with
    | none=>rw[h1] at b;cases b
    | some x =>
     obtain⟨key,m1⟩:=x;rw[h1] at b;simp only at b
     split at b
     ·rename_i hal
      cases b;exact Fl d h1 hal
     ·cases b
   ·cases b
theorem Il(S:Qp E B w)(d:B<=r)(c:Rd w r l)(b:Rf.zu l=none) :
 Calls prog 264 #[.pointer (some ⟨r,0,none⟩)] w (aj E w r):=by
 cases l with
 | nil=>exact Fj S d c
 | cons kd m =>
  simp only[Rf.zu] at b
  split at b
  ·rename_i hk1
   subst hk1
   cases h1:Rf.xl m with
   | none=>exact so S d c (.inl rfl) h1
   | some x =>
    obtain⟨key,m1⟩:=x;rw[h1] at b;simp only at b
    cases h2:Rf.xl m1 with
    | none=>exact Ik S d c h1 h2
    | some x =>
     obtain⟨val,f⟩:=x;rw[h2] at b;simp only at b
     split at b
     ·cases b
     ·rename_i hal
      exact Fi S d c h1 h2 (by simpa using hal)
  ·rename_i hk1
   split at b
   ·rename_i hk2
    subst hk2
    cases h1:Rf.xl m with
    | none=>exact so S d c (.inr rfl) h1
    | some x =>
     obtain⟨key,m1⟩:=x;rw[h1] at b;simp only at b
     split at b
     ·cases b
     ·rename_i hal
      exact Fh S d c h1 (by simpa using hal)
   ·rename_i hk2
    exact Fk S d c hk1 hk2
def Jy:Value:= .agg #[.string ⟨#[]⟩,.string ⟨#[]⟩,.bool false]
theorem Tryz.Jz:(prog.info? 88).map (fun i=>(i.zero,i.size,i.bytes))=some (some Jy,3,40):=by kernel_rfl
def Zt(E:Nat->Addr)(w:World)(r:Nat)(res:Option (List Rf.Ch))(e:Ending)(w':World):Prop :=
 ja w w' (fun i=>i=r)/\((∃ cs v,res=some cs/\e = .returned (.tuple #[v,.nilIface])/\w'.ownsRow w.heap.size 88 3 v cs.length (jg cs))\/(∃ v,res=none/\e = .returned (.tuple #[.slice none 0 0,v])/\cy E w' v))
def oa(cs:List Rf.Ch):Option (List Rf.Ch×List UInt8)->Option (List Rf.Ch×List UInt8)
 | none=>none
 | some (ds,q)=>some (cs++ds,q)
theorem Nx{b:List UInt8}(h:Rf.zu q=some (c,b)):oa cs (Rf.qj (n+1) q)=oa (cs++[c]) (Rf.qj n b):=by
 rw[Rf.qj,h];simp only
 cases Rf.qj n b with
 | none=>rfl
 | some x=>simp[oa]
theorem Ny(h:Rf.zu q=none):oa cs (Rf.qj (n+1) q)=none:=by
 rw[Rf.qj,h];rfl
theorem Pt(w:World)(c:Rf.Ch)(t:TypeId):∀ j u,(jg [c])[j]?=some u->(w.alloc (.cells #[jd c.key,jd c.value,.bool c.gone] t)).cell? ((⟨w.heap.size,0,none⟩:Addr).add j)=some u:=by
 intro j u b;exact Jt (je w (.cells #[jd c.key,jd c.value,.bool c.gone] t)) rfl j u (by simpa [jg] using b)
theorem Rd.row{base:Nat}(h:Rd w r q)(d:ja w w' (fun i=>some i=v.ownBlock))(l:w.ownsRow base 88 3 v n (jg cs))(y:r<base):Rd w' r q:=by
 obtain⟨u,m,g,f⟩:=h;have b:∀ i,i<=r->¬some i=v.ownBlock:=fun i hi e=>by have:=(l.lt i e.symm).1;omega
 refine⟨u,d.same m (b r (xA _)),?_,f⟩;rcases Classical.em (q=[])with rfl|k
 ·obtain⟨p,c,rfl,x,t,s,o⟩:=g
  exact⟨p,c,rfl,x,t,s,fun ad e=>⟨(o ad e).1,fun j u hu=>by cases hu⟩⟩
 ·exact g.keep d (fun p n c e=>b _ (Nat.le_of_lt (f k p n c e).1))
theorem mi(most:Nat)(am:most<=255)(S:Qp E B w)(hB:B<=r)(hr:Rd w r l) :
 Calls prog 257 #[.pointer (some ⟨r,0,none⟩),.int .u64 most] w (Zt E w r (Rf.Jd most l)):=by
 have ae:r<w.heap.size:=by obtain⟨v,h1,_⟩:=hr;exact zC h1
 cases l with
 | nil =>
  go_enter func257,ntmps257;go_wp2_with fail;refine(J3 (n:=1) S hr (by simp) (by omega)).mono ?_;rintro e w1 ⟨v,rfl,M,L,T⟩;obtain⟨t,a,rfl⟩:=M.shape;go_wp2_with fail;refine(zi _ M).mono ?_;rintro e u ⟨v2,rfl,d,z⟩;go_wp2;go_ret2;exact⟨Qz (Js T) (Js z),.inr ⟨_,rfl,rfl,.of d (by decide)⟩⟩
 | cons n m =>
  have e1:Rf.number ((n::m).take 1)=n.toNat:=by simp[Rf.number]
  have hR:Rf.Jd most (n::m)=if 1<=n.toNat/\n.toNat<=most then(match Rf.qj n.toNat m with|some (cs,[])=>some cs|_=>none)else none:=rfl
  have ag:=n.toNat_lt;have V:=jb hR;clear hR;generalize Rf.Jd most (n::m)=RES at V ⊢;generalize hN:n.toNat=N at e1 V ag;rcases Classical.em (1<=N/\N<=most)with hc|hc
  ·have y:Hid (RES=(match Rf.qj N m with|some (cs,[])=>some cs|_=>none)):=by
    unfold Hid;rw[V.out,if_pos hc]
   obtain⟨b5,b4⟩:=hc
   clear V
   have b3:decide ((N:Int)<1)=false:=by simp;omega
   have b2:decide (most<N)=false:=by simp;omega
   obtain⟨j0,hj,ad,ac,ab⟩:=info_parts Tryz.Jz
   go_enter func257,ntmps257
   go_wp2_with fail
   refine(yk (n:=1) hr (by simp) (by omega)).mono ?_
   rintro e w1 ⟨rfl,L,T⟩
   rw[e1]
   rw[show(n::m).drop 1=m from rfl] at L
   go_wp2_with fail
   go_loopw [8,31] (fun v i wr=>∃(k:Nat) (cs:List Rf.Ch) (q:List UInt8) (p:Option Addr) (c:Nat),k<=N/\cs.length=k/\i = .int .u64 k/\v = .slice p k c /\
    wr.ownsRow w.heap.size 88 3 (.slice p k c) k (jg cs)/\Rd wr r q/\ja w wr (fun i=>i=r)/\Rf.qj N m=oa cs (Rf.qj (N-k) q))
    (fun _ i _=>N-(intOf i).toNat)
   case atStart=>exact⟨0,[],m,none,0,zU _,rfl,rfl,rfl,zS _ _ _ _,L,T,by cases Rf.qj N m<;>simp[oa]⟩
   case round =>
    obtain⟨k,cs,q,p,c,hk,G,rfl,rfl,s,D,F,I⟩:=hrel;have b:=jb I;clear I;have Sr:=S.keep F (fun i e=>by rw[e];exact hB);rcases ZJ k N with b0|b1
    ·cases hE:Rf.zu q with
     | none =>
      have J:Rf.qj N m=none:=by
       rw[b.out,show N-k=(N-k-1)+1 by omega];exact Ny hE
      have O:Hid (RES=none):=by unfold Hid;rw[y.out,J]
      clear y b J;go_wp2_with fail;refine(Il Sr hB D hE).mono ?_;rintro e u ⟨v,rfl,M,z⟩;obtain⟨t,a,rfl⟩:=M.shape;go_wp2_with fail;refine(lu _ (M.same (ja.alloc u _ _))).mono ?_;rintro e w3 ⟨v3,rfl,ai,k3⟩;go_wp2;go_ret2;exact⟨((Qz F z).more _).trans k3 (fun _ _ h=>h.elim),.inr ⟨_,O.out,rfl,ai⟩⟩
     | some x =>
      obtain⟨ch,q'⟩:=x
      have H:Rf.qj N m=oa (cs++[ch]) (Rf.qj (N-(k+1)) q'):=by
       rw[b.out,show N-k=(N-(k+1))+1 by omega];exact Nx hE
      have HS:=jb H;clear H b;go_wp2_with fail;refine(Lp D hE).mono ?_;rintro e u ⟨rfl,af,z⟩;have o:=z.row s (fun g hg e=>by have:=(s.lt g hg).1;omega);have KW:=Qz F z;clear s D Sr;obtain⟨A,cv,C⟩:=ch;have U:=(o.alloc (.cells #[jd A,jd cv,.bool C] 88)).alloc (.cells #[jd A,jd cv,.bool C] 88);have Z:(u.alloc (.cells #[jd A,jd cv,.bool C] 88)).heap.size=u.heap.size+1:=by simp
      have R:=Pt (u.alloc (.cells #[jd A,jd cv,.bool C] 88)) ⟨A,cv,C⟩ 88;rw[Z] at R;have h1:=Xf [⟨A,cv,C⟩];have al:Hid (k+1<=maxLen):=by unfold Hid maxLen;omega
      have aj:Hid ((k+1)*40<=140737488355328):=by unfold Hid;omega
      have hb:w.heap.size<=((u.alloc (.cells #[jd A,jd cv,.bool C] 88)).alloc (.cells #[jd A,jd cv,.bool C] 88)).heap.size:=by have:=KW.size;simp;omega
      have a0:=o.lt
      go_wp2_with (first|(at_builtin;go_must (refine jk _ rfl (.tmp 42) (.tmp 44) 38 rfl w.heap.size 88 j0 Jy 3 40 underlying38 hj ad ac ab rfl (ZG 2) _ _ _ rfl U ⟨u.heap.size+1,0,none⟩ 1 1 (jg [⟨A,cv,C⟩]) rfl rfl R h1 al.out aj.out hb ?_);intro p3 X w3 f ah an)|go_in)
      rw[<-yq] at f;have k3:ja u w3 (fun i=>some i=(Value.slice p k c).ownBlock):=(((ja.refl u _).more _).more _).grow ah (fun j e _=>e.symm);have Y:ja w w3 (fun i=>i=r):=KW.trans k3 (fun i hi e=>by have:=(a0 i e.symm).1;omega);have W:Rd w3 r q':=af.row k3 o ae
      first
       | exact⟨⟨k+1,cs++[⟨A,cv,C⟩],q',p3,X,by omega,by simp[G],by simp,rfl,f,W,Y,HS.out⟩,by simp[intOf];omega⟩
       | (refine⟨?_,by simp[intOf];omega⟩
          (repeat apply Exists.intro)
          refine⟨?_,rfl⟩
          exact⟨k+1,cs++[⟨A,cv,C⟩],q',p3,X,by omega,by simp[G],by simp,rfl,f,W,Y,HS.out⟩)
    ·have ek:k=N:=by omega
     subst ek
     have hz:Rf.qj k m=some (cs,q):=by
      rw[b.out,Nat.sub_self,Rf.qj];simp[oa]
     cases q with
     | nil =>
      have O:Hid (RES=some cs):=by unfold Hid;rw[y.out,hz]
      clear y b hz;go_wp2_with fail;refine(Tc D).mono ?_;rintro e w' ⟨rfl,rfl⟩;go_wp2;go_ret2;exact⟨F,.inl ⟨cs,_,O.out,rfl,by rw[G];exact s⟩⟩
     | cons x q =>
      have O:Hid (RES=none):=by unfold Hid;rw[y.out,hz]
      clear y b hz;go_wp2_with fail;refine(Pk Sr D (by simp)).mono ?_;rintro e w' ⟨v,rfl,M,rfl⟩;obtain⟨t,a,rfl⟩:=M.shape;go_wp2_with fail;refine(zi _ M).mono ?_;rintro e u ⟨v2,rfl,d,z⟩;go_wp2;go_ret2;exact⟨F.trans z (fun _ _ h=>h.elim),.inr ⟨_,O.out,rfl,.of d (by decide)⟩⟩
  ·have O:Hid (RES=none):=by
    unfold Hid;rw[V.out,if_neg hc]
   clear V
   go_enter func257,ntmps257
   go_wp2_with fail
   refine(yk (n:=1) hr (by simp) (by omega)).mono ?_
   rintro e w1 ⟨rfl,L,T⟩
   rw[e1]
   have S1:=S.keep T (fun i e=>by rw[e];exact hB)
   have s4:=S1.cell 4 (by decide)
   rcases ZJ N 1 with ak|ak
   ·go_wp2_with fail
    refine(zi _ (.base (E:=E) 4 (by decide))).mono ?_;rintro e u ⟨v2,rfl,d,z⟩;go_wp2;go_ret2;exact⟨Qz T (Js z),.inr ⟨_,O.out,rfl,.of d (by decide)⟩⟩
   ·have b6:most<N:=by omega
    go_wp2_with fail;refine(zi _ (.base (E:=E) 4 (by decide))).mono ?_;rintro e u ⟨v2,rfl,d,z⟩;go_wp2;go_ret2;exact⟨Qz T (Js z),.inr ⟨_,O.out,rfl,.of d (by decide)⟩⟩
theorem Zt.keep{g:World}{d:Option (List Rf.Ch)}{e:Ending}(h:Zt E g r d e w')(j:ja w g (fun i=>i=r)):Zt E w r d e w':=by
 obtain⟨k,f⟩:=h;refine⟨Qz j k,?_⟩;rcases f with⟨cs,v,a,b,c⟩|f
 ·exact .inl ⟨cs,v,a,b,qg c j.size⟩
 ·exact .inr f
theorem Im(num:Nat)(x:num<9223372036854775808)(S:Qp E B w)(m:B<=r)(k:Rd w r l) :
 Calls prog 246 #[.pointer (some ⟨r,0,none⟩),.int .i64 num] w (Zt E w r (Rf.Yw num l)):=by
 have F:(num:Int)%18446744073709551616=(num:Int):=by omega
 have b:Rf.Yw num l=if 8<=l.length/\Rf.number (l.take 8)=num then Rf.Jd 8 (l.drop 8)else none:=rfl
 rcases ZJ l.length 8 with j|j
 ·rw[if_neg (by omega)] at b
  rw[b];clear b;go_enter func246,ntmps246;go_wp2_with fail;refine(J3 (n:=8) S k (by omega) (by omega)).mono ?_;rintro e q ⟨v,rfl,u,d,c⟩;obtain⟨t,a,rfl⟩:=u.shape;go_wp2;go_ret2;exact⟨Js c,.inr ⟨_,rfl,rfl,.of u (by decide)⟩⟩
 ·have f:=Rf.Yx (l.take 8)
  rw[show(l.take 8).length=8 by simp;omega] at f;rcases Classical.em (Rf.number (l.take 8)=num)with g|g
  ·rw[if_pos ⟨j,g⟩] at b
   rw[b];clear b;go_enter func246,ntmps246;go_wp2_with fail;refine(yk (n:=8) k j (by omega)).mono ?_;rintro e q ⟨rfl,d,c⟩;rw[g];have o:=S.keep c (fun i e=>by rw[e];exact m);go_wp2_with fail;refine(mi 8 (by omega) o m d).mono ?_;intro e z s;have C:=s.keep c;obtain⟨_,⟨cs,v,_,rfl,_⟩|⟨v,_,rfl,_⟩⟩:=s
   all_goals
    go_wp2;go_ret2;exact C
  ·rw[if_neg (by omega)] at b
   rw[b];clear b;go_enter func246,ntmps246;go_wp2_with fail;refine(yk (n:=8) k j (by omega)).mono ?_;rintro e q ⟨rfl,d,c⟩;generalize Rf.number (l.take 8)=N at g f ⊢;have D:((N:Int)==(num:Int))=false:=by simp;omega
   have y:((N:Int)!=(num:Int))=true:=by simp;omega
   have o:=S.keep c (fun i e=>by rw[e];exact m);have G:=o.cell 4 (by decide);go_wp2_with fail;refine(zi _ (.base (E:=E) 4 (by decide))).mono ?_;rintro e z ⟨v2,rfl,p,A⟩;go_wp2;go_ret2;exact⟨Qz c (Js A),.inr ⟨_,rfl,rfl,.of p (by decide)⟩⟩
def jc5(E:Nat->Addr)(G:Nat->Prop)(w:World)(res:Option (List Rf.Ch×List UInt8))(e:Ending)(w':World):Prop :=
 ja w w' (fun _=>False)/\((∃ b q v1 v2,res=some (b,q)/\e = .returned (.tuple #[v1,v2,.nilIface])/\Bytes w' v2 q/\(q≠[]->∀ p n c,v2 = .slice (some p) n c->G p.block)/\w'.ownsRow w.heap.size 88 3 v1 b.length (jg b)) \/
  (∃ v,res=none/\e = .returned (.tuple #[.slice none 0 0,.slice none 0 0,v])/\cy E w' v))
theorem Hl{G:Nat->Prop}(num:Nat)(z:num<9223372036854775808)(S:Qp E B w)(Y:B<=w.heap.size)(T:Bytes w v l)(X:l≠[]->∀ p n c,v = .slice (some p) n c->G p.block)(U:l.length<1099511627776) :
 Calls prog 219 #[v,.int .i64 num] w (jc5 E G w (Rf.zv num l)):=by
 have f:Rf.zv num l=match Rf.qw l with|none=>none|some (h,r)=>(match Rf.Yw num h with|none=>none|some b=>some (b,r)):=rfl
 cases hf:Rf.qw l with
 | none =>
  rw[hf] at f;simp only at f;rw[f];clear f;go_enter func219,ntmps219;go_wp2_with fail;refine(r8 S Y T hf U).mono ?_;rintro e R ⟨v1,rfl,k,i⟩;obtain⟨t,a,rfl⟩:=k.shape;go_wp2_with fail;refine(lu _ k).mono ?_;rintro e V ⟨v2,rfl,J,g⟩;go_wp2;go_ret3;exact⟨i.tt g,.inr ⟨_,rfl,rfl,J⟩⟩
 | some x =>
  obtain⟨h,q⟩:=x;rw[hf] at f;simp only at f;have m:=jb f;clear f;generalize Rf.zv num l=RES at m ⊢;go_enter func219,ntmps219;go_wp2_with fail;refine(u3 T X hf U).mono ?_;rintro e R ⟨v1,M,⟨v2,L,u,rfl⟩,i⟩;have O:=jb u;clear u;go_wp2_with fail;refine(Qm v1 h R M).mono ?_;rintro e V ⟨r,rfl,o,s,g⟩;have Z:=S.same (i.tt g);have N:B<=r:=by have:=i.size;omega
  go_wp2_with fail;refine(Im num z Z N s).mono ?_;rintro e A ⟨D,⟨b,v3,d,rfl,y⟩|⟨v3,d,rfl,k⟩⟩
  ·have F:Hid (RES=some (b,q)):=by unfold Hid;rw[m.out,d]
   clear m;have C:ja w A (fun _=>False):=i.tt (Yj g o D);have H:Bytes A v2 q:=(s.bytes (L.same g) D);have j:=qg y (ZF i.size g.size);go_wp2;go_ret3;exact⟨C,.inl ⟨b,q,_,_,F.out,rfl,H,O.out,j⟩⟩
  ·have F:Hid (RES=none):=by unfold Hid;rw[m.out,d]
   clear m;have C:ja w A (fun _=>False):=i.tt (Yj g o D);obtain⟨t,a,rfl⟩:=k.shape;go_wp2_with fail;refine(lu _ k).mono ?_;rintro e w4 ⟨v4,rfl,I,W⟩;go_wp2;go_ret3;exact⟨C.tt W,.inr ⟨_,F.out,rfl,I⟩⟩
end Go.Proofs.YtnipbplghijdmaaGreatDoor
