/-
  D: Entry2 Entry3 Entry4 Entry5 Entry6.
-/
import Derived.Test.YtnipbplghijdmaaGreatDoorD13
set_option maxRecDepth 100000
set_option maxHeartbeats 8000000
set_option linter.unusedVariables false
set_option linter.unusedSimpArgs false
namespace Go.Proofs.YtnipbplghijdmaaGreatDoor
open RowKit Maps WideShapes Go.Proofs.Tryz
variable {w w' w4:World} {a l m m1 q val:List UInt8} {B b k n r:Nat} {c:Rf.Ch} {t u:Tmp} {v:Value} {g:Bool} {E:Nat->Addr} {kd:UInt8} {cs:List Rf.Ch}
theorem Yv(b o j:Nat):(⟨b,o,none⟩:Addr).add j=⟨b,o+j,none⟩:=by unfold Addr.add;split<;>simp_all
theorem Chs.at{p:Option Addr}{c:Nat}{l:List Rf.Ch}(h:Chs w (.slice p l.length c) l)(g:k<l.length) :
 ∃ b o,p=some ⟨b,o,none⟩/\w.cell? ⟨b,o+k*3,none⟩=some (jf l[k].key)/\w.cell? ⟨b,o+k*3+1,none⟩=some (jf l[k].value)/\w.cell? ⟨b,o+k*3+2,none⟩=some (.bool l[k].gone):=by
 obtain⟨r,v,e,u,t,j,i⟩:=h;cases e
 cases p with
 | none=>have:=j rfl;omega
 | some ad =>
  obtain⟨b,o,s⟩:=ad;obtain⟨f,d⟩:=i _ rfl;simp only at f;subst f;obtain⟨q,n,m⟩:=we g;refine⟨b,o,rfl,?_,?_,?_⟩
  ·have:=d _ _ q;rwa [Yv] at this
  ·have:=d _ _ n;rwa [Yv] at this
  ·have:=d _ _ m;rwa [Yv] at this
theorem Ic{l:List Rf.Ch}(h:k<l.length):(l.take (k+1)).flatMap Rf.entry=(l.take k).flatMap Rf.entry++Rf.entry l[k]:=by
 rw[XG h];simp only[XT,ZV,List.flatMap_nil,ZC]
theorem C6(d:c.key.length<1048576)(b:c.value.length<1048576):(Rf.entry c).length<2097160:=by
 unfold Rf.entry
 split<;>simp[Rf.text,Rf.js]<;>omega
theorem Ie{l:List Rf.Ch}(h:∀ c∈l,c.key.length<1048576/\c.value.length<1048576):(l.flatMap Rf.entry).length<=2097160*l.length:=by
 induction l with
 | nil=>simp
 | cons c r ih =>
  have d:=C6 (h c zR).1 (h c zR).2;have b:=ih (fun x hx=>h x (zQ _ hx));simp only[ZV,zW,zH];omega
theorem ia(v M:Value)(m:Nat)(xs:List UInt8)(l:List Rf.Ch)(base:Nat)(w:World)(hm:xs.length=m)(hl:m<1048576)(am:l.length<=255)(hs:∀ c∈l,c.key.length<1048576/\c.value.length<1048576)(Z:base<=w.heap.size)(t:w.ownsRow base 5 1 v m (xs.map j5))(G:Chs w M l)(W:l≠[]->∀ p n c,M = .slice (some p) n c->¬some p.block=v.ownBlock) :
 Calls prog 106 #[v,M] w fun e w'=>∃ p c,e = .returned (.slice p (m+1+(l.flatMap Rf.entry).length) c) /\
  w'.ownsRow base 5 1 (.slice p (m+1+(l.flatMap Rf.entry).length) c) (m+1+(l.flatMap Rf.entry).length) ((xs++(Rf.big l.length 1++l.flatMap Rf.entry)).map j5)/\Grown w v w' (.slice p (m+1+(l.flatMap Rf.entry).length) c):=by
 obtain⟨p0,c0,rfl⟩:=jl t;obtain⟨j0,hj,R,O,N⟩:=info_parts Tryz.mn;obtain⟨pe,ce,rfl,_⟩:=id G
 have H:((l.length:Int)%256)=((UInt8.ofNat (l.length%256)).toNat:Int):=by
  have h2:(UInt8.ofNat (l.length%256)).toNat=l.length%256:=by simp[XU]
  rw[h2];omega
 have HB:=jb H;clear H;have x:(l.length:Int)%256=(l.length:Int):=by omega
 have r:=t.alloc (.cells #[.int .u8 (l.length:Int)] 5);have h1:∀ u∈[Value.int .u8 (l.length:Int)],u.oneCell'=true:=by intro u hu;simp at hu;subst hu;rfl
 have X:Hid (m+1<=maxLen):=by unfold Hid maxLen;omega
 have U:Hid ((m+1)*1<=140737488355328):=by unfold Hid;omega
 have hb:base<=(w.alloc (.cells #[.int .u8 (l.length:Int)] 5)).heap.size:=by simp;omega
 go_enter func106,ntmps106
 go_wp2_with (first
  | (at_builtin;refine jy _ rfl (.tmp 7) (.tmp 11) 84 rfl base 5 j0 (.int .u8 0) 1 1 underlying84 hj R O N rfl (by decide) _ _ _ rfl r ⟨w.heap.size,0,none⟩ 1 1 [.int .u8 (l.length:Int)] rfl rfl (cell_one_new _ _ _) h1 X.out U.out hb ?_;intro p3 J w3 q T B)
  | go_in)
 have Y:Grown w (.slice p0 m c0) w3 (.slice p3 (m+1) J):=Grown.trans (Grown.of (ja.alloc w _ _) _) (Grown.grown T B)
 have C:xs.map j5++[.int .u8 (l.length:Int)]=(xs++(Rf.big l.length 1++(l.take 0).flatMap Rf.entry)).map j5:=by
  rw[<-x,HB.out,Rf.ua];simp
 rw[C] at q;clear C x r h1 hb
 go_loopw [0,15] (fun b i wr=>∃(k:Nat) (p:Option Addr) (c:Nat),k<=l.length/\i = .int .i64 k/\b = .slice p (m+1+((l.take k).flatMap Rf.entry).length) c /\
  wr.ownsRow base 5 1 (.slice p (m+1+((l.take k).flatMap Rf.entry).length) c) (m+1+((l.take k).flatMap Rf.entry).length) ((xs++(Rf.big l.length 1++(l.take k).flatMap Rf.entry)).map j5) /\
  Grown w (.slice p0 m c0) wr (.slice p (m+1+((l.take k).flatMap Rf.entry).length) c))
  (fun _ i _=>l.length-(intOf i).toNat)
 case atStart=>exact⟨0,p3,J,zG _,rfl,rfl,q,Y⟩
 case round =>
  obtain⟨k,p,c,hk,rfl,rfl,f,g⟩:=hrel;rcases zV k l.length with z|an
  ·have L:Chs wr (.slice pe l.length ce) l:=G.keep g.keeps (fun hl p n c e h=>W hl p n c e h)
   obtain⟨b,o,rfl,e0,e1,e2⟩:=L.at z;have E:=Ie (l:=l.take k) (fun c hc=>hs c (zM hc));have D:(l.take k).length=k:=by simp;omega
   rw[D] at E;have s:=hs l[k] (xV z);have j:=Ic z;have HS:=jb j;clear j D;have I:(xs++(Rf.big l.length 1++(l.take k).flatMap Rf.entry)).length=m+1+((l.take k).flatMap Rf.entry).length:=by simp only[zW,Rf.js];omega
   have HX:=jb I;clear I;have ao:=C6 s.1 s.2;generalize (l.take k).flatMap Rf.entry=F at f g E HS HX ⊢;have A:=f.alloc (.cells #[jf l[k].key,jf l[k].value,.bool l[k].gone] 88);have V:base<=(wr.alloc (.cells #[jf l[k].key,jf l[k].value,.bool l[k].gone] 88)).heap.size:=by have:=g.keeps.size;simp;omega
   have S:m+1+F.length<549755813888:=by omega
   have gA:Grown wr (.slice p (m+1+F.length) c) (wr.alloc (.cells #[jf l[k].key,jf l[k].value,.bool l[k].gone] 88)) (.slice p (m+1+F.length) c):=Grown.of (ja.alloc wr _ _) _
   go_wp2_with (go_at_call 151;refine(Ew (.slice p (m+1+F.length) c) _ _ l[k] base _ HX.out S s.1 s.2 V A).mono ?_;rintro e w' ⟨p4,c4,rfl,d,y⟩)
   have e5:m+1+F.length+(Rf.entry l[k]).length=m+1+((l.take (k+1)).flatMap Rf.entry).length:=by rw[HS.out,zW];omega
   have e6:xs++(Rf.big l.length 1++F)++Rf.entry l[k]=xs++(Rf.big l.length 1++(l.take (k+1)).flatMap Rf.entry):=by rw[HS.out];simp only[XL]
   rw[e5] at d y ⊢;rw[e6] at d;exact⟨⟨k+1,p4,c4,by omega,by simp,rfl,d,g.trans (gA.trans y)⟩,by simp[intOf];omega⟩
  ·have ek:k=l.length:=by omega
   subst ek;rw[xR] at f g ⊢;go_wp2;go_ret;exact⟨p,c,rfl,f,g⟩
theorem jcd(n:Nat)(A:Value)(l:List Rf.Ch)(w:World)(T:n<9223372036854775808)(q:l.length<=255)(z:∀ c∈l,c.key.length<1048576/\c.value.length<1048576)(i:Chs w A l) :
 Calls prog 64 #[.int .i64 n,A] w fun e w'=>∃ p c,e = .returned (.slice p (Rf.jm n l).length c) /\
  w'.ownsRow w.heap.size 5 1 (.slice p (Rf.jm n l).length c) (Rf.jm n l).length ((Rf.jm n l).map j5)/\ja w w' (fun _=>False):=by
 obtain⟨u,B,rfl,_⟩:=id i;have O:(n:Int)%18446744073709551616=(n:Int):=by omega
 have N:=Ie z;go_enter func64,ntmps64;go_wp2_with fail;refine(zm (.slice none 0 0) 0 [] n 8 w.heap.size w rfl (by omega) (by omega) (by omega) (zJ _) (ZL _ _ _ _)).mono ?_;rintro e E ⟨v,C,rfl,d,f⟩;have y:=f.new rfl;simp only[xL,xK] at d f ⊢
 have r:l≠[]->∀ p n c,Value.slice u l.length B = .slice (some p) n c->¬some p.block=(Value.slice v 8 C).ownBlock:=by
  intro I p n c e h;cases e;have U:=(d.lt _ h.symm).1;have:=i.lt I;omega
 go_wp2_with fail;refine(ia (.slice v 8 C) (.slice u l.length B) 8 (Rf.big n 8) l w.heap.size E (Rf.js _ _) (by omega) q z y.size d (i.same y) r).mono ?_;rintro e D ⟨S,V,rfl,b,m⟩;have t:=f.trans m;have x:=t.new rfl;have g:(Rf.big n 8++(Rf.big l.length 1++l.flatMap Rf.entry)).length=8+1+(l.flatMap Rf.entry).length:=by simp only[zW,Rf.js];omega
 generalize hF:Rf.big n 8++(Rf.big l.length 1++l.flatMap Rf.entry)=F at b g;rw[<-g] at b ⊢;have o:Rf.jm n l=Rf.frame F:=by rw[<-hF];simp[Rf.jm]
 have k:(Rf.jm n l).length=8+F.length:=by rw[o];simp[Rf.frame,Rf.js];omega
 have M:=jb o;have L:=jb k;clear o k hF;have s:F.length<1099511627776:=by omega
 clear g;go_wp2_with fail;refine(lf _ F D (xr b) s).mono ?_;rintro e R ⟨G,J,rfl,j,H⟩;go_wp2;go_ret;rw[L.out,M.out];exact⟨G,J,rfl,xd j x.size,x.tt H⟩
theorem Cc(x:Value)(l:List Rf.Ch)(w:World)(p:Chs w x l)(D:l.length<1099511627776)(z:∀ c∈l,c.key.length<1099511627776/\c.value.length<1099511627776) :
 Calls prog 61 #[x] w fun e w'=>e = .returned (.bool (Rf.zq l))/\ja w w' (fun _=>False):=by
 obtain⟨C,I,rfl,_⟩:=id p;have s:Hid (Rf.zq l=(decide (1<=l.length)&&decide (l.length<=8)&&l.all Rf.allowed)):=rfl;rcases zV l.length 1 with v|v
 ·go_enter func61,ntmps61
  go_wp2;go_ret;refine⟨?_,ja.refl _ _⟩;rw[s.out];simp[show ¬1<=l.length by omega]
 rcases zV 8 l.length with u|u
 ·go_enter func61,ntmps61
  go_wp2;go_ret;refine⟨?_,ja.refl _ _⟩;rw[s.out];simp[show ¬l.length<=8 by omega]
 have q:Hid (Rf.zq l=l.all Rf.allowed):=by
  unfold Hid;rw[s.out];simp[v,u]
 clear s;go_enter func61,ntmps61;go_wp2_with fail
 go_loopw [15] (fun i wr=>∃(k:Nat),k<=l.length/\i = .int .i64 k/\(∀ c∈l.take k,Rf.allowed c=true)/\ja w wr (fun _=>False))
  (fun i _=>l.length-(intOf i).toNat)
 case atStart=>exact⟨0,zG _,rfl,(fun c d=>by cases d),ja.refl _ _⟩
 case round =>
  obtain⟨k,E,rfl,j,g⟩:=hrel;have y:=jb j;clear j;rcases zV k l.length with f|B
  ·have r:=p.same g
   obtain⟨b,o,rfl,H,G,F⟩:=r.at f;have n:=z l[k] (xV f);have m:Rf.allowed l[k]=true\/Rf.allowed l[k]=false:=by cases Rf.allowed l[k]<;>simp
   rcases m with m|m
   all_goals
    go_wp2_with (go_at_call 101;refine(bj l[k] n.1 n.2 _).mono ?_;rintro e w' ⟨rfl,t⟩;rw[m])
   ·refine⟨⟨k+1,by omega,by simp,?_,(g.more _).tt t⟩,by simp[intOf];omega⟩
    rw[XG f];intro c d;rcases ZA.1 d with d|d
    ·exact y.out c d
    ·rw[zZ.1 d];exact m
   ·go_ret
    refine⟨?_,(g.more _).tt t⟩;rw[q.out];have:l.all Rf.allowed=false:=List.all_eq_false.2 ⟨l[k],xV f,by simp[m]⟩;rw[this];rfl
  ·have A:k=l.length:=by omega
   subst A;go_wp2;go_ret;refine⟨?_,g⟩;rw[q.out];have:l.all Rf.allowed=true:=List.all_eq_true.2 (fun c d=>y.out c (by rw[xR];exact d));rw[this];rfl
theorem Xc{t:List UInt8}(h:Rf.ya l=some (t,q)):t.length<256:=(Rf.cu h).2
theorem N6(h:w.heap[b]?=some (.cells #[jf c.key,jf c.value,.bool c.gone] 88 (0,0))):(loadVar 88 ⟨b,0,none⟩).run prog w = .ok (chV c) w:=by
 have g:=zA (o:=0) h;have f:=zA (o:=1) h;have d:=zA (o:=2) h;simp at g f d;go_simp
theorem me{fn:Func}(h:fn.results=#[.cell t 88,.tmp u]){tmps:Array Value}(f:tmps.getD t undef = .pointer (some ⟨b,0,none⟩))(i:w.heap[b]?=some (.cells #[jf c.key,jf c.value,.bool c.gone] 88 (0,0))) :
 (results fn tmps).run prog w = .ok (.tuple #[chV c,tmps.getD u undef]) w:=by
 have g:=N6 i;have d:tmps[t]?.getD undef = .pointer (some ⟨b,0,none⟩):=by simpa using f
 simp[results,h,d,asAddr,g]
theorem Bytes.other(h:Bytes w v l)(g:ja w w' (fun i=>i=b))(k:∀ j x,w.cell? ⟨b,j,none⟩≠some (j5 x)):Bytes w' v l:=by
 obtain⟨p,c,rfl,q,o,n,d⟩:=h;refine⟨p,c,rfl,q,o,n,fun ad e=>⟨(d ad e).1,fun j x hx=>?_⟩⟩;have f:=(d ad e).2 j x hx;refine g.cell f (fun hbb=>k (ad.add j).off x ?_);have m:(ad.add j).spot=none:=Gc ad j (d ad e).1;have r:(⟨b,(ad.add j).off,none⟩:Addr)=ad.add j:=by rw[<-hbb,<-m]
 rw[r];exact f
theorem sn{v:List UInt8}{t:TypeId}{c:Nat×Nat}(h:w.heap[b]?=some (.cells #[jf a,jf v,.bool g] t c)):∀ j x,w.cell? ⟨b,j,none⟩≠some (j5 x):=by
 intro j x;rw[zA h]
 match j with
 | 0=>simp
 | 1=>simp
 | 2=>simp
 | j+3=>rw[zI (by simp)];simp
theorem Rd.other(h:Rd w r l)(d:ja w w' (fun i=>i=b))(c:r≠b)(f:∀ j x,w.cell? ⟨b,j,none⟩≠some (j5 x)):Rd w' r l:=by
 obtain⟨v,m,k,g⟩:=h;exact⟨v,d.same m c,k.other d f,g⟩
theorem yb{v:List UInt8}(h:w.heap[b]?=some (.cells #[jf a,jf v,.bool g] 88 (0,0))) :
 w.cell? ⟨b,0,none⟩=some (jf a)/\w.cell? ⟨b,1,none⟩=some (jf v)/\w.cell? ⟨b,2,none⟩=some (.bool g)/\w.frozen? ⟨b,0,none⟩=false/\w.frozen? ⟨b,1,none⟩=false/\w.frozen? ⟨b,2,none⟩=false:=by
 have f:=zA (o:=0) h;have d:=zA (o:=1) h;have c:=zA (o:=2) h;simp at f d c;exact⟨f,d,c,zB h,zB h,zB h⟩
theorem nd{v k x:List UInt8}{y:Bool}(h:w.heap[b]?=some (.cells #[jf a,jf v,.bool g] 88 (0,0))) :
 (((w.setCell ⟨b,0,none⟩ (jf k)).setCell ⟨b,1,none⟩ (jf x)).setCell ⟨b,2,none⟩ (.bool y)).heap[b]?=some (.cells #[jf k,jf x,.bool y] 88 (0,0)):=by
 have f:=jd (o:=0) h (jf k);have d:=jd (o:=1) f (jf x);have c:=jd (o:=2) d (.bool y);simpa using c
theorem Ze(w:World)(b:Nat)(x y z:Value):ja w (((w.setCell ⟨b,0,none⟩ x).setCell ⟨b,1,none⟩ y).setCell ⟨b,2,none⟩ z) (fun i=>i=b) :=
 (((ja.refl w (fun i=>i=b)).set (p:=⟨b,0,none⟩) rfl x).set (p:=⟨b,1,none⟩) rfl y).set (p:=⟨b,2,none⟩) rfl z
theorem Dp{key:List UInt8}(hr:Rd w r (1::m))(T:Rf.ya m=some (key,m1))(h2:Rf.ya m1=some (val,q))(a8:Rf.allowed ⟨key,val,false⟩=true) :
 Calls prog 264 #[.pointer (some ⟨r,0,none⟩)] w fun e w'=>e = .returned (.tuple #[chV ⟨key,val,false⟩,.nilIface])/\Rd w' r q/\ja w w' (fun i=>i=r):=by
 have ao:r<w.heap.size:=by obtain⟨v,T,_⟩:=hr;exact zC T
 have X:=ja.alloc w (.cells #[jf [],jf [],.bool false] 88) (fun _=>False);have H:=je w (.cells #[jf [],jf [],.bool false] 88);have ap:=Xc T;have am:=Xc h2;go_enter func264,ntmps264;go_wp2_with fail;refine(yo (n:=1) (hr.same X) (by simp) (by omega)).mono ?_;rintro e f ⟨rfl,G,k1⟩;have e1:Rf.number (((1:UInt8)::m).take 1)=1:=by simp[Rf.number]
 rw[e1];rw[show((1:UInt8)::m).drop 1=m from rfl] at G;have an:w.heap.size<f.heap.size:=by have:=k1.size;simp at this;omega
 have A:=k1.same H (by omega);have ac:ja w f (fun i=>i=r):=(Qi X).tt k1;clear H X;have I:=je f (.cells #[jf [],jf [],.bool false] 88);have W:=ja.alloc f (.cells #[jf [],jf [],.bool false] 88) (fun _=>False);have ah:=jb I;have N:=jb A;clear I A;go_wp2_with fail;refine(gi (G.same W) T).mono ?_;rintro e V ⟨rfl,a7,Z⟩;have j:=Z.same ah.out (show ¬f.heap.size=r by omega);have z:=Z.same (W.same N.out id) (show ¬w.heap.size=r by omega);have ab:ja w V (fun i=>i=r):=(ac.tt (Qi W)).tt Z;obtain⟨a0,a1,a2,f0,f1,f2⟩:=yb j;have F:=sn j;have t:=ja.setCell V ⟨f.heap.size,0,none⟩ (jf key);have x:=a7.other t (show r≠f.heap.size by omega) F;have p:=jd (o:=0) j (jf key);have l:=t.same z (show ¬w.heap.size=f.heap.size by omega);have D:ja w (V.setCell ⟨f.heap.size,0,none⟩ (jf key)) (fun i=>i=r):=ab.trans t (fun i hi e=>by have e':i=f.heap.size:=e;omega);have R:=jb p;have M:=jb l;have ae:=jb x;have ag:=jb D;clear j z p l x D F t;go_wp2_with fail;refine(gi ae.out h2).mono ?_;rintro e U ⟨rfl,a6,Y⟩;have b:=Y.same R.out (show ¬f.heap.size=r by omega);have y:=Y.same M.out (show ¬w.heap.size=r by omega);have aa:ja w U (fun i=>i=r):=ag.out.tt Y;simp only[xY,zH,zX,Array.setIfInBounds] at b;simp at b;obtain⟨b0,b1,b2,g0,g1,g2⟩:=yb b;have E:=sn b;have s:=ja.setCell U ⟨f.heap.size,1,none⟩ (jf val);have u:=a6.other s (show r≠f.heap.size by omega) E;have d:=jd (o:=1) b (jf val);simp at d;have k:=s.same y (show ¬w.heap.size=f.heap.size by omega);have C:ja w (U.setCell ⟨f.heap.size,1,none⟩ (jf val)) (fun i=>i=r):=aa.trans s (fun i hi e=>by have e':i=f.heap.size:=e;omega);obtain⟨d0,d1,d2,_⟩:=yb d;have O:=jb d;have L:=jb k;have ad:=jb u;have af:=jb C;clear b y d k u C E s;go_wp2_with fail;refine(bj ⟨key,val,false⟩ (by simp only;omega) (by simp only;omega) _).mono ?_;rintro e w4 ⟨rfl,S⟩;rw[a8];have B:=S.same O.out id;have g:=S.same L.out id;obtain⟨i0,i1,i2,_⟩:=yb B;obtain⟨q0,q1,q2,s0,s1,s2⟩:=yb g;have a4:=sn g;have J:=jb g;clear B g;have a5:=ad.out.same S;have a9:ja w w4 (fun i=>i=r):=af.out.trans S (fun _ _ h=>h.elim);go_wp2;refine bodyPost_ret (me rfl rfl (c:=⟨key,val,false⟩) (nd J.out)) rfl ?_;exact⟨rfl,a5.other (Ze _ _ _ _ _) (by omega) a4,a9.trans (Ze _ _ _ _ _) (fun i hi e=>by have e':i=w.heap.size:=e;omega)⟩
theorem Gw{key:List UInt8}(Z:Rd w r (2::m))(G:Rf.ya m=some (key,q))(S:Rf.allowed ⟨key,[],true⟩=true) :
 Calls prog 264 #[.pointer (some ⟨r,0,none⟩)] w fun e w'=>e = .returned (.tuple #[chV ⟨key,[],true⟩,.nilIface])/\Rd w' r q/\ja w w' (fun i=>i=r):=by
 have a6:r<w.heap.size:=by obtain⟨v,G,_⟩:=Z;exact zC G
 have J:=ja.alloc w (.cells #[jf [],jf [],.bool false] 88) (fun _=>False);have z:=je w (.cells #[jf [],jf [],.bool false] 88);have a7:=Xc G;go_enter func264,ntmps264;go_wp2_with fail;refine(yo (n:=1) (Z.same J) (by simp) (by omega)).mono ?_;rintro e j ⟨rfl,y,M⟩;have e1:Rf.number (((2:UInt8)::m).take 1)=2:=by simp[Rf.number]
 rw[e1];rw[show((2:UInt8)::m).drop 1=m from rfl] at y;have a5:w.heap.size<j.heap.size:=by have:=M.size;simp at this;omega
 have s:=M.same z (by omega);have V:ja w j (fun i=>i=r):=(Qi J).tt M;clear z J;have A:=je j (.cells #[jf [],jf [],.bool true] 88);have I:=ja.alloc j (.cells #[jf [],jf [],.bool true] 88) (fun _=>False);have Y:=jb A;have D:=jb s;clear A s;go_wp2_with fail;refine(gi (y.same I) G).mono ?_;rintro e H ⟨rfl,R,L⟩;have f:=L.same Y.out (show ¬j.heap.size=r by omega);have p:=L.same (I.same D.out id) (show ¬w.heap.size=r by omega);have U:ja w H (fun i=>i=r):=(V.tt (Qi I)).tt L;obtain⟨a0,a1,a2,f0,f1,f2⟩:=yb f;have x:=sn f;have k:=ja.setCell H ⟨j.heap.size,0,none⟩ (jf key);have l:=R.other k (show r≠j.heap.size by omega) x;have b:=jd (o:=0) f (jf key);have g:=k.same p (show ¬w.heap.size=j.heap.size by omega);have u:ja w (H.setCell ⟨j.heap.size,0,none⟩ (jf key)) (fun i=>i=r):=U.trans k (fun i hi e=>by have e':i=j.heap.size:=e;omega);simp at b;obtain⟨d0,d1,d2,_⟩:=yb b;have E:=jb b;have C:=jb g;have W:=jb l;have X:=jb u;clear f p b g l u x k;go_wp2_with fail;refine(bj ⟨key,[],true⟩ (by simp only;omega) (by simp) _).mono ?_;rintro e w4 ⟨rfl,F⟩;rw[S];have t:=F.same E.out id;have d:=F.same C.out id;obtain⟨i0,i1,i2,_⟩:=yb t;obtain⟨q0,q1,q2,s0,s1,s2⟩:=yb d;have N:=sn d;have B:=jb d;clear t d;have O:=W.out.same F;have T:ja w w4 (fun i=>i=r):=X.out.trans F (fun _ _ h=>h.elim);go_wp2;refine bodyPost_ret (me rfl rfl (c:=⟨key,[],true⟩) (nd B.out)) rfl ?_;exact⟨rfl,O.other (Ze _ _ _ _ _) (by omega) N,T.trans (Ze _ _ _ _ _) (fun i hi e=>by have e':i=w.heap.size:=e;omega)⟩
def dh(E:Nat->Addr)(w:World)(r:Nat)(e:Ending)(w':World):Prop:=∃ v,e = .returned (.tuple #[chV ⟨[],[],false⟩,v])/\fw E w' v/\ja w w' (fun i=>i=r)
theorem gn{fn:Func}(h:fn.results=#[.cell t 88,.tmp u]){a:Act}(j:a.tmps.getD t undef = .pointer (some ⟨w.heap.size,0,none⟩))(g:a.tmps.getD u undef=v)(m:a.defers=[])(b:w4.heap[w.heap.size]?=some (.cells #[jf [],jf [],.bool false] 88 (0,0)))(f:fw E w4 v)(l:ja w w4 (fun i=>i=r)) :
 bodyPost prog fn (dh E w r) Exit.ret a (((w4.setCell ⟨w.heap.size,0,none⟩ (jf [])).setCell ⟨w.heap.size,1,none⟩ (jf [])).setCell ⟨w.heap.size,2,none⟩ (.bool false)):=by
 refine bodyPost_ret (me h j (c:=⟨[],[],false⟩) (nd b)) m ?_;rw[g];obtain⟨k,o,n⟩:=f;refine⟨v,rfl,⟨k,o,n.keep (Ze _ _ _ _ _) (fun i c hi e=>?_)⟩,l.trans (Ze _ _ _ _ _) (fun i hi e=>by have d:i=w.heap.size:=e;omega)⟩;have d:i=w.heap.size:=hi;subst d;rw[b] at e;cases e
theorem Gu(S:Xg E B w)(G:B<=r)(l:Rd w r []) :
 Calls prog 264 #[.pointer (some ⟨r,0,none⟩)] w (dh E w r):=by
 have u:r<w.heap.size:=by obtain⟨v,q,_⟩:=l;exact zC q
 have d:=ja.alloc w (.cells #[jf [],jf [],.bool false] 88) (fun _=>False);have c:=je w (.cells #[jf [],jf [],.bool false] 88);go_enter func264,ntmps264;go_wp2_with fail;refine(Qq (n:=1) (S.same d) (l.same d) (by simp) (by omega)).mono ?_;rintro e y ⟨v,rfl,m,x,k⟩;obtain⟨t,a,rfl⟩:=m.shape;go_wp2_with fail;refine(zw _ m).mono ?_;rintro e o ⟨p,rfl,f,j⟩;have b:=j.same (k.same c id) id;have s:ja w o (fun i=>i=r):=Qi ((d.tt k).tt j);obtain⟨F,D,C,s0,A,z⟩:=yb b;have g:=jb b;clear b c;go_wp2;exact gn (v:=p) rfl rfl rfl rfl g.out (fw.of f (by decide)) s
theorem Gv(S:Xg E B w)(u:B<=r)(p:Rd w r (kd::m))(f:kd≠1)(x:kd≠2) :
 Calls prog 264 #[.pointer (some ⟨r,0,none⟩)] w (dh E w r):=by
 have C:r<w.heap.size:=by obtain⟨v,f,_⟩:=p;exact zC f
 have k:=ja.alloc w (.cells #[jf [],jf [],.bool false] 88) (fun _=>False);have c:=je w (.cells #[jf [],jf [],.bool false] 88);have R:kd.toNat≠1:=fun e=>f (UInt8.toNat_inj.1 e);have O:kd.toNat≠2:=fun e=>x (UInt8.toNat_inj.1 e);have N:((kd.toNat:Int) != 1)=true:=by simp;omega
 have M:((kd.toNat:Int) != 2)=true:=by simp;omega
 go_enter func264,ntmps264;go_wp2_with fail;refine(yo (n:=1) (p.same k) (by simp) (by omega)).mono ?_;rintro e s ⟨rfl,D,o⟩;have y:Rf.number ((kd::m).take 1)=kd.toNat:=by simp[Rf.number]
 rw[y];have d:ja w s (fun i=>i=r):=(Qi k).tt o;have z:=S.keep d (fun i e=>by rw[e];exact u);have F:=z.cell 4 (by decide);go_wp2_with fail;refine(zw _ (.base (E:=E) 4 (by decide))).mono ?_;rintro e q ⟨t,rfl,g,l⟩;have b:=l.same (o.same c (by omega)) id;have A:ja w q (fun i=>i=r):=d.trans l (fun _ _ h=>h.elim);obtain⟨L,J,I,s0,H,G⟩:=yb b;have j:=jb b;clear b c;go_wp2;exact gn (v:=t) rfl rfl rfl rfl j.out (fw.of g (by decide)) A
theorem uv(S:Xg E B w)(V:B<=r)(R:Rd w r (kd::m))(F:kd=1\/kd=2)(D:Rf.ya m=none) :
 Calls prog 264 #[.pointer (some ⟨r,0,none⟩)] w (dh E w r):=by
 have a6:r<w.heap.size:=by obtain⟨v,D,_⟩:=R;exact zC D
 have M:=ja.alloc w (.cells #[jf [],jf [],.bool false] 88) (fun _=>False);have q:=je w (.cells #[jf [],jf [],.bool false] 88)
 have hn:∃ g:Bool,(kd.toNat=1/\g=false)\/(kd.toNat=2/\g=true):=by
  rcases F with rfl|rfl
  ·exact⟨false,.inl ⟨rfl,rfl⟩⟩
  ·exact⟨true,.inr ⟨rfl,rfl⟩⟩
 obtain⟨g,T⟩:=hn;have W:Rf.number ((kd::m).take 1)=kd.toNat:=by simp[Rf.number]
 generalize kd.toNat=N at W T;rcases T with⟨rfl,rfl⟩|⟨rfl,rfl⟩
 all_goals
  go_enter func264,ntmps264;go_wp2_with fail;refine(yo (n:=1) (R.same M) (by simp) (by omega)).mono ?_;rintro e b ⟨rfl,p,C⟩;rw[W];rw[show(kd::m).drop 1=m from rfl] at p;have a5:w.heap.size<b.heap.size:=by have:=C.size;simp at this;omega
  have l:=C.same q (by omega);have s:ja w b (fun i=>i=r):=(Qi M).tt C;have S1:=S.keep s (fun i e=>by rw[e];exact V);have y:=jb l;clear q l;go_wp2_with fail;refine(Fu (S1.same (ja.alloc b _ _)) V (p.same (ja.alloc b _ _)) D).mono ?_;rintro e z ⟨v,rfl,U,A⟩;obtain⟨t,a,rfl⟩:=U.shape;have k:=A.same ((ja.alloc b _ (fun _=>False)).same y.out id) (show ¬w.heap.size=r by omega);have f:=A.same (je b _) (show ¬b.heap.size=r by omega);have J:ja w z (fun i=>i=r):=(s.more _).tt A;obtain⟨a0,a1,a2,f0,f1,f2⟩:=yb f;have o:=ja.setCell z ⟨b.heap.size,0,none⟩ (jf []);have j:=o.same k (show ¬w.heap.size=b.heap.size by omega);have u:ja w (z.setCell ⟨b.heap.size,0,none⟩ (jf [])) (fun i=>i=r):=J.trans o (fun i hi e=>by have X:i=b.heap.size:=e;omega);have H:=U.keep o (fun i c hi e=>by have X:i=b.heap.size:=hi;subst X;rw[f] at e;cases e);have x:=jb j;clear f k j;go_wp2_with fail;refine(zw _ H).mono ?_;rintro e Y ⟨Z,rfl,G,O⟩;have d:=O.same x.out id;have I:ja w Y (fun i=>i=r):=u.trans O (fun _ _ h=>h.elim);obtain⟨q0,q1,q2,s0,s1,s2⟩:=yb d;have L:=jb d;clear d;go_wp2;exact gn (v:=Z) rfl rfl rfl rfl L.out (fw.of G (by decide)) I
theorem K8{key:List UInt8}(S:Xg E B w)(hB:B<=r)(hr:Rd w r (1::m))(L:Rf.ya m=some (key,m1))(h2:Rf.ya m1=none) :
 Calls prog 264 #[.pointer (some ⟨r,0,none⟩)] w (dh E w r):=by
 have ai:r<w.heap.size:=by obtain⟨v,L,_⟩:=hr;exact zC L
 have kA:=ja.alloc w (.cells #[jf [],jf [],.bool false] 88) (fun _=>False);have D:=je w (.cells #[jf [],jf [],.bool false] 88);have aj:=Xc L;go_enter func264,ntmps264;go_wp2_with fail;refine(yo (n:=1) (hr.same kA) (by simp) (by omega)).mono ?_;rintro e b ⟨rfl,C,T⟩;have e1:Rf.number (((1:UInt8)::m).take 1)=1:=by simp[Rf.number]
 rw[e1];rw[show((1:UInt8)::m).drop 1=m from rfl] at C;have ah:w.heap.size<b.heap.size:=by have:=T.size;simp at this;omega
 have y:=T.same D (by omega);have a4:ja w b (fun i=>i=r):=(Qi kA).tt T;have I:=jb y;clear D y;go_wp2_with fail;refine(gi (C.same (ja.alloc b _ _)) L).mono ?_;rintro e N ⟨rfl,V,R⟩;have f:=R.same (je b _) (show ¬b.heap.size=r by omega);have x:=R.same ((ja.alloc b _ (fun _=>False)).same I.out id) (show ¬w.heap.size=r by omega);have a3:ja w N (fun i=>i=r):=(a4.more _).tt R;obtain⟨a0,a1,a2,f0,f1,f2⟩:=yb f;have A:=sn f;have q:=ja.setCell N ⟨b.heap.size,0,none⟩ (jf key);have s:=V.other q (show r≠b.heap.size by omega) A;have d:=jd (o:=0) f (jf key);simp at d;have p:=q.same x (show ¬w.heap.size=b.heap.size by omega);have k:ja w (N.setCell ⟨b.heap.size,0,none⟩ (jf key)) (fun i=>i=r):=a3.trans q (fun i hi e=>by have U:i=b.heap.size:=e;omega);have S2:=S.keep k (fun i e=>by rw[e];exact hB);have J:=jb d;have H:=jb p;have a6:=jb s;have a7:=jb k;clear f x d p s k A q;go_wp2_with fail;refine(Fu S2 hB a6.out h2).mono ?_;rintro e M ⟨v,rfl,he,O⟩;obtain⟨t,a,rfl⟩:=he.shape;have j:=O.same J.out (show ¬b.heap.size=r by omega);have u:=O.same H.out (show ¬w.heap.size=r by omega);have Z:ja w M (fun i=>i=r):=a7.out.tt O;obtain⟨b0,b1,b2,g0,g1,g2⟩:=yb j;have z:=ja.setCell M ⟨b.heap.size,1,none⟩ (jf []);have l:=z.same u (show ¬w.heap.size=b.heap.size by omega);have F:ja w (M.setCell ⟨b.heap.size,1,none⟩ (jf [])) (fun i=>i=r):=Z.trans z (fun i hi e=>by have U:i=b.heap.size:=e;omega);have X:=he.keep z (fun i c hi e=>by have U:i=b.heap.size:=hi;subst U;rw[j] at e;cases e);have G:=jb l;clear j u l;go_wp2_with fail;refine(zw _ X).mono ?_;rintro e w4 ⟨v3,rfl,W,k4⟩;have g:=k4.same G.out id;have Y:ja w w4 (fun i=>i=r):=F.trans k4 (fun _ _ h=>h.elim);obtain⟨q0,q1,q2,s0,s1,s2⟩:=yb g;have a5:=jb g;clear g;go_wp2;exact gn (v:=v3) rfl rfl rfl rfl a5.out (fw.of W (by decide)) Y
theorem Ao{fn:Func}(h:fn.results=#[.cell t 88,.tmp u]){a:Act}(f:a.tmps.getD t undef = .pointer (some ⟨w.heap.size,0,none⟩))(d:a.tmps.getD u undef = .iface 371 (.pointer (some (E 4))))(j:a.defers=[])(b:w4.heap[w.heap.size]?=some (.cells #[jf [],jf [],.bool false] 88 (0,0)))(g:ja w w4 (fun i=>i=r)) :
 bodyPost prog fn (dh E w r) Exit.ret a (((w4.setCell ⟨w.heap.size,0,none⟩ (jf [])).setCell ⟨w.heap.size,1,none⟩ (jf [])).setCell ⟨w.heap.size,2,none⟩ (.bool false)).drew:=by
 refine bodyPost_ret (me h f (c:=⟨[],[],false⟩) (nd b)) j ?_;rw[d];exact⟨_,rfl,⟨_,by decide,.base _ (by decide)⟩,(g.trans (Ze _ _ _ _ _) (fun i hi e=>by have k:i=w.heap.size:=e;omega)).draw⟩
theorem Gt{key:List UInt8}(S:Xg E B w)(hB:B<=r)(hr:Rd w r (1::m))(T:Rf.ya m=some (key,m1))(h2:Rf.ya m1=some (val,q))(a3:Rf.allowed ⟨key,val,false⟩=false) :
 Calls prog 264 #[.pointer (some ⟨r,0,none⟩)] w (dh E w r):=by
 have an:r<w.heap.size:=by obtain⟨v,T,_⟩:=hr;exact zC T
 have kA:=ja.alloc w (.cells #[jf [],jf [],.bool false] 88) (fun _=>False);have I:=je w (.cells #[jf [],jf [],.bool false] 88);have ap:=Xc T;have al:=Xc h2;go_enter func264,ntmps264;go_wp2_with fail;refine(yo (n:=1) (hr.same kA) (by simp) (by omega)).mono ?_;rintro e b ⟨rfl,H,Y⟩;have e1:Rf.number (((1:UInt8)::m).take 1)=1:=by simp[Rf.number]
 rw[e1];rw[show((1:UInt8)::m).drop 1=m from rfl] at H;have am:w.heap.size<b.heap.size:=by have:=Y.size;simp at this;omega
 have A:=Y.same I (by omega);have a6:ja w b (fun i=>i=r):=(Qi kA).tt Y;have O:=jb A;clear I A;go_wp2_with fail;refine(gi (H.same (ja.alloc b _ _)) T).mono ?_;rintro e V ⟨rfl,Z,X⟩;have f:=X.same (je b _) (show ¬b.heap.size=r by omega);have u:=X.same ((ja.alloc b _ (fun _=>False)).same O.out id) (show ¬w.heap.size=r by omega);have a5:ja w V (fun i=>i=r):=(a6.more _).tt X;obtain⟨a0,a1,a2,f0,f1,f2⟩:=yb f;have G:=sn f;have p:=ja.setCell V ⟨b.heap.size,0,none⟩ (jf key);have s:=Z.other p (show r≠b.heap.size by omega) G;have d:=jd (o:=0) f (jf key);simp at d;have l:=p.same u (show ¬w.heap.size=b.heap.size by omega);have D:ja w (V.setCell ⟨b.heap.size,0,none⟩ (jf key)) (fun i=>i=r):=a5.trans p (fun i hi e=>by have e':i=b.heap.size:=e;omega);have R:=jb d;have N:=jb l;have a7:=jb s;have a9:=jb D;clear f u d l s D G p;go_wp2_with fail;refine(gi a7.out h2).mono ?_;rintro e U ⟨rfl,ao,W⟩;have j:=W.same R.out (show ¬b.heap.size=r by omega);have t:=W.same N.out (show ¬w.heap.size=r by omega);have a4:ja w U (fun i=>i=r):=a9.out.tt W;obtain⟨b0,b1,b2,g0,g1,g2⟩:=yb j;have F:=ja.setCell U ⟨b.heap.size,1,none⟩ (jf val);have c:=jd (o:=1) j (jf val);simp at c;have k:=F.same t (show ¬w.heap.size=b.heap.size by omega);have C:ja w (U.setCell ⟨b.heap.size,1,none⟩ (jf val)) (fun i=>i=r):=a4.trans F (fun i hi e=>by have e':i=b.heap.size:=e;omega);obtain⟨d0,d1,d2,_⟩:=yb c;have M:=jb k;have a8:=jb C;clear j t c k C F;go_wp2_with fail;refine(bj ⟨key,val,false⟩ (by simp only;omega) (by simp only;omega) _).mono ?_;rintro e w4 ⟨rfl,k4⟩;rw[a3];have g:=k4.same M.out id;obtain⟨q0,q1,q2,s0,s1,s2⟩:=yb g;have L:=jb g;clear g;have J:ja w w4 (fun i=>i=r):=a8.out.trans k4 (fun _ _ h=>h.elim);have S4:=S.keep J (fun i e=>by rw[e];exact hB);have v4:=S4.cell 4 (by decide);have af:=S4.lt 4 (by decide)
 have ak:∀ x y z,(((w4.setCell ⟨w.heap.size,0,none⟩ x).setCell ⟨w.heap.size,1,none⟩ y).setCell ⟨w.heap.size,2,none⟩ z).cell? ⟨4,0,none⟩=some (.iface 371 (.pointer (some (E 4)))) :=
  fun x y z=>(Ze w4 w.heap.size x y z).cell v4 (by simp only;omega)
 go_wp2_with fail
 go_region
 all_goals
  go_wp2;exact Ao rfl rfl rfl rfl L.out J
theorem Gs{key:List UInt8}(S:Xg E B w)(hB:B<=r)(W:Rd w r (2::m))(H:Rf.ya m=some (key,q))(N:Rf.allowed ⟨key,[],true⟩=false) :
 Calls prog 264 #[.pointer (some ⟨r,0,none⟩)] w (dh E w r):=by
 have a7:r<w.heap.size:=by obtain⟨v,H,_⟩:=W;exact zC H
 have U:=ja.alloc w (.cells #[jf [],jf [],.bool false] 88) (fun _=>False);have u:=je w (.cells #[jf [],jf [],.bool false] 88);have a8:=Xc H;go_enter func264,ntmps264;go_wp2_with fail;refine(yo (n:=1) (W.same U) (by simp) (by omega)).mono ?_;rintro e d ⟨rfl,t,L⟩;have e1:Rf.number (((2:UInt8)::m).take 1)=2:=by simp[Rf.number]
 rw[e1];rw[show((2:UInt8)::m).drop 1=m from rfl] at t;have a6:w.heap.size<d.heap.size:=by have:=L.size;simp at this;omega
 have l:=L.same u (by omega);have R:ja w d (fun i=>i=r):=(Qi U).tt L;have G:=jb l;clear u l;go_wp2_with fail;refine(gi (t.same (ja.alloc d _ _)) H).mono ?_;rintro e I ⟨rfl,M,J⟩;have c:=J.same (je d _) (show ¬d.heap.size=r by omega);have k:=J.same ((ja.alloc d _ (fun _=>False)).same G.out id) (show ¬w.heap.size=r by omega);have O:ja w I (fun i=>i=r):=(R.more _).tt J;obtain⟨a0,a1,a2,f0,f1,f2⟩:=yb c;have s:=sn c;have j:=ja.setCell I ⟨d.heap.size,0,none⟩ (jf key);have C:=M.other j (show r≠d.heap.size by omega) s;have b:=jd (o:=0) c (jf key);simp at b;have g:=j.same k (show ¬w.heap.size=d.heap.size by omega);have p:ja w (I.setCell ⟨d.heap.size,0,none⟩ (jf key)) (fun i=>i=r):=O.trans j (fun i hi e=>by have e':i=d.heap.size:=e;omega);obtain⟨d0,d1,d2,_⟩:=yb b;have F:=jb g;have T:=jb p;clear c k b g C p s j;go_wp2_with fail;refine(bj ⟨key,[],true⟩ (by simp only;omega) (by simp) _).mono ?_;rintro e w4 ⟨rfl,V⟩;rw[N];have f:=V.same F.out id;obtain⟨q0,q1,q2,s0,s1,s2⟩:=yb f;have D:=jb f;clear f;have A:ja w w4 (fun i=>i=r):=T.out.trans V (fun _ _ h=>h.elim);have X:=S.keep A (fun i e=>by rw[e];exact hB);have Z:=X.cell 4 (by decide);have Y:=X.lt 4 (by decide)
 have a5:∀ x y z,(((w4.setCell ⟨w.heap.size,0,none⟩ x).setCell ⟨w.heap.size,1,none⟩ y).setCell ⟨w.heap.size,2,none⟩ z).cell? ⟨4,0,none⟩=some (.iface 371 (.pointer (some (E 4)))) :=
  fun x y z=>(Ze w4 w.heap.size x y z).cell Z (by simp only;omega)
 go_wp2_with fail
 go_region
 all_goals
  go_wp2;exact Ao rfl rfl rfl rfl D.out A
theorem Nh(d:Rd w r l)(b:Rf.Jh l=some (c,q)) :
 Calls prog 264 #[.pointer (some ⟨r,0,none⟩)] w fun e w'=>e = .returned (.tuple #[chV c,.nilIface])/\Rd w' r q/\ja w w' (fun i=>i=r):=by
 cases l with
 | nil=>simp[Rf.Jh] at b
 | cons kd m =>
  simp only[Rf.Jh] at b
  split at b
  ·rename_i hk1
   subst hk1
   cases h1:Rf.ya m with
   | none=>rw[h1] at b;cases b
   | some x =>
    obtain⟨key,m1⟩:=x;rw[h1] at b;simp only at b
    cases h2:Rf.ya m1 with
    | none=>rw[h2] at b;cases b
    | some x =>
     obtain⟨val,m2⟩:=x;rw[h2] at b;simp only at b
     split at b
     ·rename_i hal
      cases b;exact Dp d h1 h2 hal
     ·cases b
  ·split at b
   ·rename_i _ hk2
    subst hk2
    cases h1:Rf.ya m with
    | none=>rw[h1] at b;cases b
    | some x =>
     obtain⟨key,m1⟩:=x;rw[h1] at b;simp only at b
     split at b
     ·rename_i hal
      cases b;exact Gw d h1 hal
     ·cases b
   ·cases b
theorem K9(S:Xg E B w)(d:B<=r)(c:Rd w r l)(b:Rf.Jh l=none) :
 Calls prog 264 #[.pointer (some ⟨r,0,none⟩)] w (dh E w r):=by
 cases l with
 | nil=>exact Gu S d c
 | cons kd m =>
  simp only[Rf.Jh] at b
  split at b
  ·rename_i hk1
   subst hk1
   cases h1:Rf.ya m with
   | none=>exact uv S d c (.inl rfl) h1
   | some x =>
    obtain⟨key,m1⟩:=x;rw[h1] at b;simp only at b
    cases h2:Rf.ya m1 with
    | none=>exact K8 S d c h1 h2
    | some x =>
     obtain⟨val,m2⟩:=x;rw[h2] at b;simp only at b
     split at b
     ·cases b
     ·rename_i hal
      exact Gt S d c h1 h2 (by simpa using hal)
  ·rename_i hk1
   split at b
   ·rename_i hk2
    subst hk2
    cases h1:Rf.ya m with
    | none=>exact uv S d c (.inr rfl) h1
    | some x =>
     obtain⟨key,m1⟩:=x;rw[h1] at b;simp only at b
     split at b
     ·cases b
     ·rename_i hal
      exact Gs S d c h1 (by simpa using hal)
   ·rename_i hk2
    exact Gv S d c hk1 hk2
def su:Value:= .agg #[.string ⟨#[]⟩,.string ⟨#[]⟩,.bool false]
theorem Tryz.dq:(prog.info? 88).map (fun i=>(i.zero,i.size,i.bytes))=some (some su,3,40):=by kernel_rfl
def bn(E:Nat->Addr)(w:World)(r:Nat)(res:Option (List Rf.Ch))(e:Ending)(w':World):Prop :=
 ja w w' (fun i=>i=r)/\((∃ cs v,res=some cs/\e = .returned (.tuple #[v,.nilIface])/\w'.ownsRow w.heap.size 88 3 v cs.length (jj cs))\/(∃ v,res=none/\e = .returned (.tuple #[.slice none 0 0,v])/\fw E w' v))
def ri(cs:List Rf.Ch):Option (List Rf.Ch×List UInt8)->Option (List Rf.Ch×List UInt8)
 | none=>none
 | some (ds,q)=>some (cs++ds,q)
theorem Rf{b:List UInt8}(h:Rf.Jh q=some (c,b)):ri cs (Rf.qw (n+1) q)=ri (cs++[c]) (Rf.qw n b):=by
 rw[Rf.qw,h];simp only
 cases Rf.qw n b with
 | none=>rfl
 | some x=>simp[ri]
theorem Rg(h:Rf.Jh q=none):ri cs (Rf.qw (n+1) q)=none:=by
 rw[Rf.qw,h];rfl
theorem Tn(w:World)(c:Rf.Ch)(t:TypeId):∀ j u,(jj [c])[j]?=some u->(w.alloc (.cells #[jf c.key,jf c.value,.bool c.gone] t)).cell? ((⟨w.heap.size,0,none⟩:Addr).add j)=some u:=by
 intro j u b;exact J8 (je w (.cells #[jf c.key,jf c.value,.bool c.gone] t)) rfl j u (by simpa [jj] using b)
theorem Rd.row{base:Nat}(h:Rd w r q)(d:ja w w' (fun i=>some i=v.ownBlock))(l:w.ownsRow base 88 3 v n (jj cs))(y:r<base):Rd w' r q:=by
 obtain⟨u,m,g,f⟩:=h;have b:∀ i,i<=r->¬some i=v.ownBlock:=fun i hi e=>by have:=(l.lt i e.symm).1;omega
 refine⟨u,d.same m (b r (zJ _)),?_,f⟩;rcases Classical.em (q=[])with rfl|k
 ·obtain⟨p,c,rfl,x,t,s,o⟩:=g
  exact⟨p,c,rfl,x,t,s,fun ad e=>⟨(o ad e).1,fun j u hu=>by cases hu⟩⟩
 ·exact g.keep d (fun p n c e=>b _ (Nat.le_of_lt (f k p n c e).1))
theorem oh(most:Nat)(ao:most<=255)(S:Xg E B w)(hB:B<=r)(hr:Rd w r l) :
 Calls prog 257 #[.pointer (some ⟨r,0,none⟩),.int .u64 most] w (bn E w r (Rf.Jy most l)):=by
 have ag:r<w.heap.size:=by obtain⟨v,h1,_⟩:=hr;exact zC h1
 cases l with
 | nil =>
  go_enter func257,ntmps257;go_wp2_with fail;refine(Qq (n:=1) S hr (by simp) (by omega)).mono ?_;rintro e w1 ⟨v,rfl,O,M,U⟩;obtain⟨t,a,rfl⟩:=O.shape;go_wp2_with fail;refine(zw _ O).mono ?_;rintro e u ⟨v2,rfl,d,z⟩;go_wp2;go_ret2;exact⟨Xx (Qi U) (Qi z),.inr ⟨_,rfl,rfl,.of d (by decide)⟩⟩
 | cons n m =>
  have e1:Rf.number ((n::m).take 1)=n.toNat:=by simp[Rf.number]
  have hR:Rf.Jy most (n::m)=if 1<=n.toNat/\n.toNat<=most then(match Rf.qw n.toNat m with|some (cs,[])=>some cs|_=>none)else none:=rfl
  have ai:=n.toNat_lt;have W:=jb hR;clear hR;generalize Rf.Jy most (n::m)=RES at W ⊢;generalize hN:n.toNat=N at e1 W ai;rcases Classical.em (1<=N/\N<=most)with hc|hc
  ·have y:Hid (RES=(match Rf.qw N m with|some (cs,[])=>some cs|_=>none)):=by
    unfold Hid;rw[W.out,if_pos hc]
   obtain⟨b6,b5⟩:=hc
   clear W
   have b4:decide ((N:Int)<1)=false:=by simp;omega
   have b3:decide (most<N)=false:=by simp;omega
   obtain⟨j0,hj,af,ae,ad⟩:=info_parts Tryz.dq
   go_enter func257,ntmps257
   go_wp2_with fail
   refine(yo (n:=1) hr (by simp) (by omega)).mono ?_
   rintro e w1 ⟨rfl,M,U⟩
   rw[e1]
   rw[show(n::m).drop 1=m from rfl] at M
   go_wp2_with fail
   go_loopw [8,31] (fun v i wr=>∃(k:Nat) (cs:List Rf.Ch) (q:List UInt8) (p:Option Addr) (c:Nat),k<=N/\cs.length=k/\i = .int .u64 k/\v = .slice p k c /\
    wr.ownsRow w.heap.size 88 3 (.slice p k c) k (jj cs)/\Rd wr r q/\ja w wr (fun i=>i=r)/\Rf.qw N m=ri cs (Rf.qw (N-k) q))
    (fun _ i _=>N-(intOf i).toNat)
   case atStart=>exact⟨0,[],m,none,0,zG _,rfl,rfl,rfl,ZL _ _ _ _,M,U,by cases Rf.qw N m<;>simp[ri]⟩
   case round =>
    obtain⟨k,cs,q,p,c,hk,H,rfl,rfl,s,F,G,J⟩:=hrel;have b:=jb J;clear J;have Sr:=S.keep G (fun i e=>by rw[e];exact hB);rcases zV k N with b1|b2
    ·cases hE:Rf.Jh q with
     | none =>
      have L:Rf.qw N m=none:=by
       rw[b.out,show N-k=(N-k-1)+1 by omega];exact Rg hE
      have R:Hid (RES=none):=by unfold Hid;rw[y.out,L]
      clear y b L;go_wp2_with fail;refine(K9 Sr hB F hE).mono ?_;rintro e u ⟨v,rfl,O,z⟩;obtain⟨t,a,rfl⟩:=O.shape;go_wp2_with fail;refine(nh _ (O.same (ja.alloc u _ _))).mono ?_;rintro e w3 ⟨v3,rfl,ak,k3⟩;go_wp2;go_ret2;exact⟨((Xx G z).more _).trans k3 (fun _ _ h=>h.elim),.inr ⟨_,R.out,rfl,ak⟩⟩
     | some x =>
      obtain⟨ch,q'⟩:=x
      have I:Rf.qw N m=ri (cs++[ch]) (Rf.qw (N-(k+1)) q'):=by
       rw[b.out,show N-k=(N-(k+1))+1 by omega];exact Rf hE
      have HS:=jb I;clear I b;go_wp2_with fail;refine(Nh F hE).mono ?_;rintro e u ⟨rfl,ah,z⟩;have o:=z.row s (fun g hg e=>by have:=(s.lt g hg).1;omega);have KW:=Xx G z;clear s F Sr;obtain⟨C,A,D⟩:=ch;have V:=(o.alloc (.cells #[jf C,jf A,.bool D] 88)).alloc (.cells #[jf C,jf A,.bool D] 88);have a0:(u.alloc (.cells #[jf C,jf A,.bool D] 88)).heap.size=u.heap.size+1:=by simp
      have T:=Tn (u.alloc (.cells #[jf C,jf A,.bool D] 88)) ⟨C,A,D⟩ 88;rw[a0] at T;have h1:=na [⟨C,A,D⟩];have an:Hid (k+1<=maxLen):=by unfold Hid maxLen;omega
      have al:Hid ((k+1)*40<=140737488355328):=by unfold Hid;omega
      have hb:w.heap.size<=((u.alloc (.cells #[jf C,jf A,.bool D] 88)).alloc (.cells #[jf C,jf A,.bool D] 88)).heap.size:=by have:=KW.size;simp;omega
      have a1:=o.lt
      go_wp2_with (first|(at_builtin;go_must (refine jy _ rfl (.tmp 42) (.tmp 44) 38 rfl w.heap.size 88 j0 su 3 40 underlying38 hj af ae ad rfl (ZM 2) _ _ _ rfl V ⟨u.heap.size+1,0,none⟩ 1 1 (jj [⟨C,A,D⟩]) rfl rfl T h1 an.out al.out hb ?_);intro p3 Y w3 f aj ap)|go_in)
      rw[<-df] at f;have k3:ja u w3 (fun i=>some i=(Value.slice p k c).ownBlock):=(((ja.refl u _).more _).more _).grow aj (fun j e _=>e.symm);have Z:ja w w3 (fun i=>i=r):=KW.trans k3 (fun i hi e=>by have:=(a1 i e.symm).1;omega);have X:Rd w3 r q':=ah.row k3 o ag
      first
       | exact⟨⟨k+1,cs++[⟨C,A,D⟩],q',p3,Y,by omega,by simp[H],by simp,rfl,f,X,Z,HS.out⟩,by simp[intOf];omega⟩
       | (refine⟨?_,by simp[intOf];omega⟩
          (repeat apply Exists.intro)
          refine⟨?_,rfl⟩
          exact⟨k+1,cs++[⟨C,A,D⟩],q',p3,Y,by omega,by simp[H],by simp,rfl,f,X,Z,HS.out⟩)
    ·have ek:k=N:=by omega
     subst ek
     have hz:Rf.qw k m=some (cs,q):=by
      rw[b.out,Nat.sub_self,Rf.qw];simp[ri]
     cases q with
     | nil =>
      have R:Hid (RES=some cs):=by unfold Hid;rw[y.out,hz]
      clear y b hz;go_wp2_with fail;refine(Vw F).mono ?_;rintro e w' ⟨rfl,rfl⟩;go_wp2;go_ret2;exact⟨G,.inl ⟨cs,_,R.out,rfl,by rw[H];exact s⟩⟩
     | cons x q =>
      have R:Hid (RES=none):=by unfold Hid;rw[y.out,hz]
      clear y b hz;go_wp2_with fail;refine(Tg Sr F (by simp)).mono ?_;rintro e w' ⟨v,rfl,O,rfl⟩;obtain⟨t,a,rfl⟩:=O.shape;go_wp2_with fail;refine(zw _ O).mono ?_;rintro e u ⟨v2,rfl,d,z⟩;go_wp2;go_ret2;exact⟨G.trans z (fun _ _ h=>h.elim),.inr ⟨_,R.out,rfl,.of d (by decide)⟩⟩
  ·have R:Hid (RES=none):=by
    unfold Hid;rw[W.out,if_neg hc]
   clear W
   go_enter func257,ntmps257
   go_wp2_with fail
   refine(yo (n:=1) hr (by simp) (by omega)).mono ?_
   rintro e w1 ⟨rfl,M,U⟩
   rw[e1]
   have S1:=S.keep U (fun i e=>by rw[e];exact hB)
   have s4:=S1.cell 4 (by decide)
   rcases zV N 1 with am|am
   ·go_wp2_with fail
    refine(zw _ (.base (E:=E) 4 (by decide))).mono ?_;rintro e u ⟨v2,rfl,d,z⟩;go_wp2;go_ret2;exact⟨Xx U (Qi z),.inr ⟨_,R.out,rfl,.of d (by decide)⟩⟩
   ·have b7:most<N:=by omega
    go_wp2_with fail;refine(zw _ (.base (E:=E) 4 (by decide))).mono ?_;rintro e u ⟨v2,rfl,d,z⟩;go_wp2;go_ret2;exact⟨Xx U (Qi z),.inr ⟨_,R.out,rfl,.of d (by decide)⟩⟩
theorem bn.keep{g:World}{d:Option (List Rf.Ch)}{e:Ending}(h:bn E g r d e w')(j:ja w g (fun i=>i=r)):bn E w r d e w':=by
 obtain⟨k,f⟩:=h;refine⟨Xx j k,?_⟩;rcases f with⟨cs,v,a,b,c⟩|f
 ·exact .inl ⟨cs,v,a,b,xd c j.size⟩
 ·exact .inr f
theorem La(num:Nat)(x:num<9223372036854775808)(S:Xg E B w)(m:B<=r)(k:Rd w r l) :
 Calls prog 246 #[.pointer (some ⟨r,0,none⟩),.int .i64 num] w (bn E w r (Rf.Y0 num l)):=by
 have F:(num:Int)%18446744073709551616=(num:Int):=by omega
 have b:Rf.Y0 num l=if 8<=l.length/\Rf.number (l.take 8)=num then Rf.Jy 8 (l.drop 8)else none:=rfl
 rcases zV l.length 8 with j|j
 ·rw[if_neg (by omega)] at b
  rw[b];clear b;go_enter func246,ntmps246;go_wp2_with fail;refine(Qq (n:=8) S k (by omega) (by omega)).mono ?_;rintro e q ⟨v,rfl,u,d,c⟩;obtain⟨t,a,rfl⟩:=u.shape;go_wp2;go_ret2;exact⟨Qi c,.inr ⟨_,rfl,rfl,.of u (by decide)⟩⟩
 ·have f:=Rf.Zz (l.take 8)
  rw[show(l.take 8).length=8 by simp;omega] at f;rcases Classical.em (Rf.number (l.take 8)=num)with g|g
  ·rw[if_pos ⟨j,g⟩] at b
   rw[b];clear b;go_enter func246,ntmps246;go_wp2_with fail;refine(yo (n:=8) k j (by omega)).mono ?_;rintro e q ⟨rfl,d,c⟩;rw[g];have o:=S.keep c (fun i e=>by rw[e];exact m);go_wp2_with fail;refine(oh 8 (by omega) o m d).mono ?_;intro e z s;have C:=s.keep c;obtain⟨_,⟨cs,v,_,rfl,_⟩|⟨v,_,rfl,_⟩⟩:=s
   all_goals
    go_wp2;go_ret2;exact C
  ·rw[if_neg (by omega)] at b
   rw[b];clear b;go_enter func246,ntmps246;go_wp2_with fail;refine(yo (n:=8) k j (by omega)).mono ?_;rintro e q ⟨rfl,d,c⟩;generalize Rf.number (l.take 8)=N at g f ⊢;have D:((N:Int)==(num:Int))=false:=by simp;omega
   have y:((N:Int) != (num:Int))=true:=by simp;omega
   have o:=S.keep c (fun i e=>by rw[e];exact m);have H:=o.cell 4 (by decide);go_wp2_with fail;refine(zw _ (.base (E:=E) 4 (by decide))).mono ?_;rintro e z ⟨G,rfl,p,A⟩;go_wp2;go_ret2;exact⟨Xx c (Qi A),.inr ⟨_,rfl,rfl,.of p (by decide)⟩⟩
def jet(E:Nat->Addr)(G:Nat->Prop)(w:World)(res:Option (List Rf.Ch×List UInt8))(e:Ending)(w':World):Prop :=
 ja w w' (fun _=>False)/\((∃ b q v1 v2,res=some (b,q)/\e = .returned (.tuple #[v1,v2,.nilIface])/\Bytes w' v2 q/\(q≠[]->∀ p n c,v2 = .slice (some p) n c->G p.block)/\w'.ownsRow w.heap.size 88 3 v1 b.length (jj b)) \/
  (∃ v,res=none/\e = .returned (.tuple #[.slice none 0 0,.slice none 0 0,v])/\fw E w' v))
theorem Kt{G:Nat->Prop}(num:Nat)(z:num<9223372036854775808)(S:Xg E B w)(hB:B<=w.heap.size)(V:Bytes w v l)(hG:l≠[]->∀ p n c,v = .slice (some p) n c->G p.block)(W:l.length<1099511627776) :
 Calls prog 219 #[v,.int .i64 num] w (jet E G w (Rf.zr num l)):=by
 have f:Rf.zr num l=match Rf.xh l with|none=>none|some (h,r)=>(match Rf.Y0 num h with|none=>none|some b=>some (b,r)):=rfl
 cases hf:Rf.xh l with
 | none =>
  rw[hf] at f;simp only at f;rw[f];clear f;go_enter func219,ntmps219;go_wp2_with fail;refine(ui S hB V hf W).mono ?_;rintro e R ⟨U,rfl,k,i⟩;obtain⟨t,a,rfl⟩:=k.shape;go_wp2_with fail;refine(nh _ k).mono ?_;rintro e X ⟨T,rfl,J,g⟩;go_wp2;go_ret3;exact⟨i.tt g,.inr ⟨_,rfl,rfl,J⟩⟩
 | some x =>
  obtain⟨h,q⟩:=x;rw[hf] at f;simp only at f;have m:=jb f;clear f;generalize Rf.zr num l=RES at m ⊢;go_enter func219,ntmps219;go_wp2_with fail;refine(Ac V hG hf W).mono ?_;rintro e R ⟨U,M,⟨T,L,u,rfl⟩,i⟩;have O:=jb u;clear u;go_wp2_with fail;refine(Xk U h R M).mono ?_;rintro e X ⟨r,rfl,o,s,g⟩;have S2:=S.same (i.tt g);have N:B<=r:=by have:=i.size;omega
  go_wp2_with fail;refine(La num z S2 N s).mono ?_;rintro e A ⟨D,⟨b,Y,d,rfl,y⟩|⟨Y,d,rfl,k⟩⟩
  ·have F:Hid (RES=some (b,q)):=by unfold Hid;rw[m.out,d]
   clear m;have C:ja w A (fun _=>False):=i.tt (Zd g o D);have H:Bytes A T q:=(s.bytes (L.same g) D);have j:=xd y (ZI i.size g.size);go_wp2;go_ret3;exact⟨C,.inl ⟨b,q,_,_,F.out,rfl,H,O.out,j⟩⟩
  ·have F:Hid (RES=none):=by unfold Hid;rw[m.out,d]
   clear m;have C:ja w A (fun _=>False):=i.tt (Zd g o D);obtain⟨t,a,rfl⟩:=k.shape;go_wp2_with fail;refine(nh _ k).mono ?_;rintro e w4 ⟨v4,rfl,I,Z⟩;go_wp2;go_ret3;exact⟨C.tt Z,.inr ⟨_,F.out,rfl,I⟩⟩
end Go.Proofs.YtnipbplghijdmaaGreatDoor
