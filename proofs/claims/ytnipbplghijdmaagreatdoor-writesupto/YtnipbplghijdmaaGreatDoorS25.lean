/-
  S: RunF RunG RunH RunI RunJ LayersB LayersC Live.
-/
import Derived.Test.YtnipbplghijdmaaGreatDoorS24
set_option maxRecDepth 100000
set_option maxHeartbeats 8000000
set_option linter.unusedVariables false
set_option linter.unusedSimpArgs false
namespace Go.Proofs.YtnipbplghijdmaaGreatDoor
open RowKit Maps WideShapes Go.Proofs.Tryz
variable {B F c cap g i m n:Nat} {ps:List (Nat×Str)} {w:World} {p:Option Addr} {b es:List Rf.Ch} {E:Nat->Addr} {rv:Value}
theorem jbj{A:Nat}:((Xw F ps n)[A]?).map (fun p=>p.2.2)=(ps[A]?).map Prod.snd:=by
 rcases ZJ A ps.length with h|h
 ·rw[zL (by rw[zc];exact h),zL h,J1 h]
  rfl
 ·rw[XQ (by rw[zc];exact h),XQ h]
  rfl
theorem jax(key:Str)(t:ps.length=n)(h:Pls w g cap (Xw F ps n))(s:Rf.jc9 ps key)(v:n<1099511627776) :
 Calls prog 236 #[Ib (.slice p m c) (.slice (some ⟨g,0,none⟩) n cap),jd key] w fun e w'=>e = .returned (ju (Rf.fh ps key))/\ja w w' (fun _=>False):=by
 have k:=ja.alloc w (.cells #[.slice p m c,.slice (some ⟨g,0,none⟩) n cap] 323) (fun _=>False);have b:=zc F ps n
 have f:=Lj (g:=g) (cap:=cap) (n:=n) (Xw F ps n) (Rf.ahead ps key) key _ (by rw[b,t]) (h.same k) (by rw[b];exact Rf.Aj ps key) (fun j hj hA=>by
  rw[b] at hj
  rw[J1 hj]
  show ps[j].2<key
  exact Rf.Py hA (zL hj)) (fun j hj hA=>by
  rw[b] at hj
  rw[J1 hj]
  show ¬ps[j].2<key
  exact s j _ hA (zL hj)) (by rw[b];omega)
 rw[jbj] at f;have l:=Rf.Aj ps key;obtain⟨R,d⟩:∃ R,R=Rf.fh ps key:=⟨_,rfl⟩;rw[<-d];unfold Rf.fh at d;generalize Rf.ahead ps key=A at f d l;by_cases hf:(ps[A]?).map Prod.snd=some key
 ·rw[if_pos hf] at d
  rw[decide_eq_true hf] at f;subst d;have HS:=jb f;clear f hf;go_enter func236,ntmps236;go_wp2_with fail;refine HS.out.mono ?_;rintro e q ⟨rfl,i⟩;go_wp2;go_ret;exact⟨rfl,k.tt i⟩
 ·rw[if_neg hf] at d
  rw[decide_eq_false hf] at f;have HS:=jb f;clear f hf;rcases ZB A with r|r
  ·subst r
   subst d;go_enter func236,ntmps236;go_wp2_with fail;refine HS.out.mono ?_;rintro e q ⟨rfl,i⟩;go_wp2;go_ret;exact⟨rfl,k.tt i⟩
  ·have o:(A:Int)-1=(R:Int):=by omega
   have u:(0:Int)<(A:Int):=by omega
   have x:=jb d;clear d;go_enter func236,ntmps236;go_wp2_with fail;refine HS.out.mono ?_;rintro e q ⟨rfl,i⟩;go_wp2;go_ret;exact⟨by first|rfl|simp[o],k.tt i⟩
theorem Wp :
 Calls prog 237 #[Ib (.slice p m c) (.slice (some ⟨g,0,none⟩) n cap)] w fun e w'=>e = .returned (ju n)/\ja w w' (fun _=>False):=by
 go_enter func237,ntmps237;go_wp2;go_ret;exact⟨rfl,ja.alloc w _ _⟩
theorem jel{ev:Value}(hn:ps.length=n)(hi:i<n)(h:Pls w g cap (Xw F ps n))(C:Chs w ev es)(L:1<=es.length)(a8:es.length<=4)(l:Rf.fits ps i es=true)(hl:n<1048576) :
 Calls prog 258 #[Ib (.slice p m c) (.slice (some ⟨g,0,none⟩) n cap),ju i,ev] w fun e w'=>e = .returned (.bool true)/\ja w w' (fun _=>False):=by
 have E:=ja.alloc w (.cells #[.slice p m c,.slice (some ⟨g,0,none⟩) n cap] 323) (fun _=>False);have z:=je w (.cells #[.slice p m c,.slice (some ⟨g,0,none⟩) n cap] 323);have t1:(w.alloc (.cells #[.slice p m c,.slice (some ⟨g,0,none⟩) n cap] 323)).cell? ⟨w.heap.size,1,none⟩=some (.slice (some ⟨g,0,none⟩) n cap):=(zA (o:=1) z).trans rfl;unfold Rf.fits at l;rw[XR,XR] at l;obtain⟨⟨U,T⟩,G⟩:=l;have U:=of_decide_eq_true U;have T:=of_decide_eq_true T;obtain⟨pe,ce,rfl,_⟩:=id C;have y:=zc F ps n;have Z:=h.same E;have q:=C.same E;obtain⟨be,oe,rfl,e0,_,_⟩:=q.at (k:=0) (by omega);have a0:=(Z.at (k:=i) (by rw[y];omega)).2.2;rw[J1 (by omega)] at a0
 have H:es[0].key=ps[i].2:=by
  have Y:Rf.zq es=es[0].key:=by
   cases es with
   | nil=>simp at L
   | cons x r=>rfl
  have X:Rf.keyOf ps i=ps[i].2:=by unfold Rf.keyOf;rw[zL (by omega)];rfl
  rw[<-Y,U,X]
 simp only at a0;rw[<-H] at a0
 have s:i+1=n\/(i+1<n/\es.length=4/\∃(h3:3<es.length) (a6:i+1<ps.length),es[3].key<ps[i+1].2):=by
  rw[Bool.or_eq_true,XR] at G;rcases G with G|⟨f4,f5⟩
  ·have:=of_decide_eq_true G;omega
  ·have f4:=of_decide_eq_true f4
   have f5:=of_decide_eq_true f5;rcases ZJ (i+1) n with h6|h6
   ·refine .inr ⟨h6,f4,by omega,by omega,?_⟩
    have Y:Rf.wm es=es[3].key:=by
     have e3:es.length-1=3:=by omega
     unfold Rf.wm;rw[List.getLast?_eq_getElem?,e3,zL (by omega)];rfl
    have X:Rf.keyOf ps (i+1)=ps[i+1].2:=by unfold Rf.keyOf;rw[zL (by omega)];rfl
    rw[<-Y,<-X];exact f5
   ·exact .inl (by omega)
 have O:=jb s;have HH:=jb Z;have v:=jb q;have aa:=jb T;clear s h Z C q U T G H z;have D:(0:Int)<(es.length:Int):=by omega
 have a6:(i:Int)<(n:Int):=by omega
 simp at e0;obtain⟨t,A⟩:∃ t,t=es.length:=⟨_,rfl⟩;rw[<-A] at D L a8 ⊢;have u:=jb A;clear A;go_enter func258,ntmps258;go_wp2_with fail;go_quiet (fail);go_wp2
 go_loopw [7] (fun k wr=>∃(j:Nat),j+1<=t/\k = .int .i64 ((j:Int)+1)/\ja (w.alloc (.cells #[.slice p m c,.slice (some ⟨g,0,none⟩) n cap] 323)) wr (fun _=>False))
  (fun k _=>t-(intOf k).toNat)
 case atStart=>exact⟨0,by omega,rfl,by first|exact ja.refl _ _|exact ja.drewN _ _ _⟩
 case round =>
  obtain⟨j,hj,rfl,b⟩:=hrel;rcases ZJ (j+1) t with av|aw
  ·have J:j<es.length:=by have:=u.out;omega
   have I:j+1<es.length:=by have:=u.out;omega
   have x1:=((v.out.same b).at (k:=j) J);have x2:=((v.out.same b).at (k:=j+1) I);obtain⟨b1,o1,E1,W,_,_⟩:=x1;obtain⟨b2,o2,E2,y2,_,_⟩:=x2;cases E1;cases E2;have d:es[j].key<es[j+1].key:=List.pairwise_iff_getElem.1 aa.out j (j+1) J I (by omega);have f:Op.bytesLess es[j+1].key es[j].key=false:=by rw[bytesLess_eq];simpa using List.lt_asymm d
   have N:(es[j+1].key==es[j].key)=false:=by
    rw[beq_eq_false_iff_ne];intro e;rw[e] at d;exact XS _ d
   have ae:(j:Int)+1<(t:Int):=by omega
   clear d;generalize es[j].key=K1 at W f N;generalize es[j+1].key=K2 at y2 f N;go_wp2_with fail;go_quiet (fail);go_wp2;exact⟨⟨j+1,by omega,by simp,by first|exact b|exact b.tt (ja.drewN _ _ (fun _=>False))⟩,by simp[intOf];omega⟩
  ·have ej:t=j+1:=by omega
   have ar:=b.cell t1 id;have au:¬((j:Int)+1<(t:Int)):=by omega
   rcases O.out with hL|⟨ax,a9,h3,a7,M⟩
   ·have B:(i:Int)=(n:Int)-1:=by omega
    have S:((i:Int)==(n:Int)-1)=true:=by simp[B]
    go_wp2;go_ret;exact⟨rfl,E.tt b⟩
   ·have B:¬((i:Int)=(n:Int)-1):=by omega
    have S:((i:Int)==(n:Int)-1)=false:=by simp[B]
    obtain⟨b1,o1,E1,W,_,_⟩:=((v.out.same b).at (k:=3) h3);cases E1;have V:=((HH.out.same b).at (k:=i+1) (by rw[y];omega)).2.2;rw[J1 a7] at V;have f:Op.bytesLess es[3].key ps[i+1].2=true:=by rw[bytesLess_eq];simpa using M
    simp only at V;have af:(i:Int)+1<(n:Int):=by omega
    clear M;generalize es[3].key=K1 at W f;generalize ps[i+1].2=K2 at V f;have R:t=4:=by have:=u.out;omega
    subst R;have a5:j=3:=by omega
    subst a5;clear O v u ej a9;go_wp2_with fail;go_quiet (fail);go_wp2;go_ret;exact⟨rfl,by first|exact E.tt b|exact(E.tt b).tt (ja.drewN _ _ (fun _=>False))⟩
theorem jcy{b:List UInt8}(S:Qp E B w)(hB:B<=w.heap.size)(hn:ps.length=n)(hi:i<n)(h:Pls w g cap (Xw F ps n))(V:Bytes w (.slice p b.length c) b)(d:Rf.C9 b F ps i=some es)(f:Rf.Qv F ps i<=b.length)(hl:n<1048576)(b8:b.length<1099511627776) :
 Calls prog 238 #[Ib (.slice p b.length c) (.slice (some ⟨g,0,none⟩) n cap),ju i] w fun e w'=>∃ v,e = .returned (.tuple #[v,.nilIface])/\w'.ownsRow w.heap.size 88 3 v es.length (jg es)/\ja w w' (fun _=>False):=by
 unfold Rf.C9 at d
 split at d
 ·rename_i hh htf
  split at d
  ·rename_i es' hre
   split at d
   ·rename_i hfit
    cases d;have hm:=Rf.wj hre;have u:Rf.Ah ps i=ps[i].1:=by unfold Rf.Ah;rw[zL (by omega)];rfl
    rw[u] at htf;have W:=Rf.Hk htf;rw[ZU,ZT,XI f] at W;obtain⟨q,U⟩:∃ q,q=Rf.Qv F ps i:=⟨_,rfl⟩;rw[<-U] at htf W f;have T:=ja.alloc w (.cells #[.slice p b.length c,.slice (some ⟨g,0,none⟩) n cap] 323) (fun _=>False);have L:=zc F ps n;obtain⟨Z,Y,R⟩:=(h.same T).at (k:=i) (by rw[L];omega);rw[J1 (by omega),if_pos hi,<-U] at Z Y R;simp only at Z Y R;have t1:(w.alloc (.cells #[.slice p b.length c,.slice (some ⟨g,0,none⟩) n cap] 323)).heap[w.heap.size]?=some (.cells #[.slice p b.length c,.slice (some ⟨g,0,none⟩) n cap] 323 (0,0)):=je w _;obtain⟨p',c',ee,b1,b2,b3,b4⟩:=id V;cases ee;clear b3 b4
    have z:Bytes w (.slice (p.map (·.add ps[i].1)) (q-ps[i].1) (c-ps[i].1)) ((b.take q).drop ps[i].1):=by
     have I:(b.take q).length=q:=by rw[ZT];omega
     have:=Bytes.drop (l:=b.take q) (by rw[I];exact V.take q f) ps[i].1 (by omega);rw[I,if_neg (by omega)] at this;exact this
    have t:((b.take q).drop ps[i].1).length<1099511627776:=by rw[ZU,ZT];omega
    generalize ps[i].1=X at Z Y R W htf z t;generalize ps[i].2=KX at R;have b7:¬c=X:=by omega
    have D:=fun w' (k:ja w w' (fun _=>False))=>iq (z.same k) htf t;have a7:=jb D;have a8:=jb t1;have O:=jb hfit;have a9:=jb hre;have HM:=jb hm;have HP:=jb h;clear D t1 hfit hre hm u h U z htf V;unfold maxLen at b2;have az:X<=q:=by omega
    have b6:q<=c:=by omega
    go_enter func238,ntmps238;go_wp2_with fail;refine(a7.out _ (T.more _)).mono ?_;rintro e w1 ⟨v1,rfl,G,k1⟩;have K1:ja w w1 (fun _=>False):=(T.more _).tt k1;have H:=k1.same ((ja.alloc _ _ (fun _=>False)).same a8.out id) id;have J:=jb H;obtain⟨p1,c1,rfl,_⟩:=id G;clear H;go_wp2_with fail;refine(Qm _ _ _ G).mono ?_;rintro e w2 ⟨r,rfl,b5,hr,k2⟩;have K2:ja w w2 (fun _=>False):=K1.tt k2;have y:=mi 4 (by omega) (S.same K2) (by have:=K1.size;omega:B<=r) hr;rw[a9.out] at y;have aa:=jb y;clear y;go_wp2_with fail;refine aa.out.mono ?_;rintro e w3 ⟨k3,C⟩;rcases C with⟨cs,v,s,rfl,j⟩|⟨v,s,_⟩
    ·have M:cs=es:=by injection s with s;exact s.symm
     subst M;clear s;have b0:=K1.size;have K3:ja w w3 (fun _=>False):=Yj K2 (by omega) k3;have A:=k3.same (k2.same J.out id) (by have:=zC J.out;omega);have a5:=xw j;obtain⟨pe,ce,rfl⟩:=jj j;have x:=HM.out;have hf:=jel (p:=p) (m:=b.length) (c:=c) hn hi (HP.out.same K3) a5 x.2.1 x.2.2.1 O.out hl;have c0:=zA (o:=0) A;have a6:=zA (o:=1) A;simp at c0 a6;have HF:=jb hf;have N:=jb j;clear hf j A x;go_wp2_with fail;refine HF.out.mono ?_;rintro e w4 ⟨rfl,k4⟩;go_wp2;go_ret2;exact⟨_,rfl,qg (k4.row N.out (fun _ _ h=>h)) K2.size,K3.tt k4⟩
    ·cases s
   ·cases d
  ·cases d
 ·cases d
theorem jf5(s:ByteArray)(w:World):Calls prog 128 #[.string s,.nilIface] w fun e w'=>e = .returned .nilIface/\w'=w:=by
 go_enter func128,ntmps128;go_wp2;go_ret;exact⟨rfl,rfl⟩
def Ak(S:jh)(nm:Str)(bl:List (List Rf.Ch)):Prop:=Rf.Laid bl/\∃ f a,S.at nm=some f/\S.files f=some a/\a.bytes=Rf.zm bl
def ph(w:World)(base:Nat)(rv:Value)(bl:List (List Rf.Ch)):Prop :=
 ∃ p c g cap,rv=Ib (.slice p (Rf.zm bl).length c) (.slice (some ⟨g,0,none⟩) bl.length cap)/\Bytes w (.slice p (Rf.zm bl).length c) (Rf.zm bl)/\Pls w g cap (Xw (bl.flatMap Rf.jm).length (Rf.js 0 bl) bl.length)/\base<=g/\(∀ ad,p=some ad->base<=ad.block)
theorem ph.keep{b:World}{base:Nat}{bl:List (List Rf.Ch)}{T:Nat->Prop}(h:ph w base rv bl)(k:ja w b T)(d:∀ i,base<=i->¬T i):ph b base rv bl:=by
 obtain⟨p,c,g,cap,rfl,m,l,j,f⟩:=h;exact⟨p,c,g,cap,rfl,m.keep k (fun ad n c e=>by injection e with e;exact d _ (f ad e)),l.keep k (fun _=>d _ j),j,f⟩
def jc7(E:Nat->Addr)(B:Nat)(ρ:Nat->jz)(d:Nat)(S:jh)(bl:List (List Rf.Ch))(w:World)(e:Ending)(w':World):Prop :=
 ja w w' (j5 ρ)/\Dk E B w' ρ d (S.called false) /\
 ((S.bad=true/\∃ ev,e = .returned (.tuple #[Ib (.slice none 0 0) (.slice none 0 0),ev])/\mx E w' ev true) \/
  (S.bad=false/\∃ rv,e = .returned (.tuple #[rv,.nilIface])/\ph w' w.heap.size rv bl))
theorem Np{ρ:Nat->jz}{d:Nat}{S:jh}{nm key:Str}{bl:List (List Rf.Ch)}(D:Dk E B w ρ d S)(Z:Small S)(hn:nm.length<1099511627776)(a3:Ak S nm bl)(a9:(Rf.zm bl).length<1099511627776) :
 Calls prog 235 #[.agg #[.pointer (some ⟨d,0,none⟩),jd nm,jd key]] w (jc7 E B ρ d S bl w):=by
 obtain⟨J,f,a,U,u,T⟩:=a3;have kA:ja w ((w.alloc (.cells #[.pointer (some ⟨d,0,none⟩),jd nm,jd key] 293)).alloc (.cells #[.slice none 0 0,.slice none 0 0] 323)) (fun _=>False):=(ja.alloc w _ _).more _;have N:=je w (.cells #[.pointer (some ⟨d,0,none⟩),jd nm,jd key] 293);have A:=je (w.alloc (.cells #[.pointer (some ⟨d,0,none⟩),jd nm,jd key] 293)) (.cells #[.slice none 0 0,.slice none 0 0] 323);rw[show(w.alloc (.cells #[.pointer (some ⟨d,0,none⟩),jd nm,jd key] 293)).heap.size=w.heap.size+1 by simp] at A;have y:=(ja.alloc (w.alloc (.cells #[.pointer (some ⟨d,0,none⟩),jd nm,jd key] 293)) (.cells #[.slice none 0 0,.slice none 0 0] 323) (fun _=>False)).same N id;have O:=fv (D.same kA) Z nm hn;have Y:=jb y;have X:=jb A;have a0:=jb O;have a2:=jb U;have af:=jb u;have ag:=jb T;clear N y A O U u T;have hρ:=D.rep.lt;go_enter func235,ntmps235;go_wp2_with fail;refine a0.out.mono ?_;rintro e M ⟨g1,D1,I⟩;have nT:∀ i,w.heap.size<=i->¬j5 ρ i:=fun i hi h=>by have:=hρ i h;omega
 have K1:ja w M (j5 ρ):=(kA.up).tt g1.keeps;have W:=g1.keeps.same Y.out (nT _ (xA _));have H:=g1.keeps.same X.out (nT _ (by omega));have am:w.heap.size+1<M.heap.size:=zC H;have ac:=jb W;have k:=jb H;clear W H Y X a0;rcases I with⟨b,v,rfl,he⟩|⟨b,s,_⟩|⟨b,f',a',v,q,n,rfl,j⟩
 ·obtain⟨t,ad,rfl⟩:=he.shape
  have q0:=zA (o:=0) k.out;have q1:=zA (o:=1) k.out;have f0:=zB (o:=0) k.out;have f1:=zB (o:=1) k.out;simp at q0 q1;have HE:=jb he;have r:=jb b;clear he b;go_wp2;refine bodyPost_ret (nw rfl rfl (run_set k.out)) rfl ?_;have x:=Si M (w.heap.size+1) (.slice none 0 0) (.slice none 0 0);refine⟨K1.trans x (fun i hi e=>by have z:i=w.heap.size+1:=e;omega),D1.apart x (fun i hi e=>?_),.inl ⟨r.out,_,rfl,1,HE.out.keep x (fun i c hi e=>?_),by decide,by simp⟩⟩
  ·have z:i=w.heap.size+1:=e
   rw[z];exact⟨nT _ (by omega),by have:=D.size;omega⟩
  ·have z:i=w.heap.size+1:=hi
   subst z;rw[k.out] at e;cases e
 ·rw[a2.out] at s
  cases s
 ·have e1:f'=f:=by rw[a2.out] at q;cases q;rfl
  subst e1;have e2:a'=a:=by rw[af.out] at n;cases n;rfl
  subst e2;rw[ag.out] at j;clear q n;obtain⟨p,c,rfl⟩:=jj j;have F:=xj j;have R:=j.lt;have C:=Ry F J.read a9;rw[Rf.qx] at C;have ae:=jb C;have ah:=jb F;have r:=jb b;have a1:=jb R;clear C j b F R;go_wp2_with fail;refine ae.out.mono ?_;rintro e L ⟨g,cap,rfl,l,x⟩;have aa:=R7 (by rw[zc,Rf.qx]) l;have V:=(x.more (.cells #[.slice p (Rf.zm bl).length c,.slice (some ⟨g,0,none⟩) bl.length cap] 323)).same ac.out id;have m:=(x.more (.cells #[.slice p (Rf.zm bl).length c,.slice (some ⟨g,0,none⟩) bl.length cap] 323)).same k.out id;have G:=je L (.cells #[.slice p (Rf.zm bl).length c,.slice (some ⟨g,0,none⟩) bl.length cap] 323);have x1:=zA (o:=1) V;have y0:=zA (o:=0) m;have y1:=zA (o:=1) m;have g0:=zB (o:=0) m;have b3:=zB (o:=1) m;have z0:=zA (o:=0) G;have z1:=zA (o:=1) G;simp at x1 y0 y1;have ab:=jb m;have b2:¬L.heap.size=w.heap.size+1:=by have:=x.size;omega
  have b1:¬w.heap.size+1=L.heap.size:=by have:=x.size;omega
  clear V m G;go_wp2_with fail
  go_region_with (go_at_call 128;refine(jf5 _ _).mono ?_;rintro e w' ⟨rfl,rfl⟩)
  all_goals
   go_wp2;refine bodyPost_ret (nw rfl rfl (run_set ab.out)) rfl ?_;have k3:ja M (L.alloc (.cells #[.slice p (Rf.zm bl).length c,.slice (some ⟨g,0,none⟩) bl.length cap] 323)) (fun _=>False):=x.more _;have k4:=Si (L.alloc (.cells #[.slice p (Rf.zm bl).length c,.slice (some ⟨g,0,none⟩) bl.length cap] 323)) (w.heap.size+1) (.slice p (Rf.zm bl).length c) (.slice (some ⟨g,0,none⟩) bl.length cap);have k5:ja M _ (fun i=>i=w.heap.size+1):=((k3.up).tt k4).draw;refine⟨K1.trans k5 (fun i hi e=>by have z:i=w.heap.size+1:=e;omega),D1.apart k5 (fun i hi e=>?_),.inr ⟨r.out,_,rfl,p,c,g,cap,rfl,ah.out.keep k5 (fun ad n' c' e=>?_),aa.keep (((ja.alloc L _ (fun i=>i=w.heap.size+1)).tt k4).draw) (fun _=>?_),?_,fun ad e=>?_⟩⟩
   ·have z:i=w.heap.size+1:=e
    rw[z];exact⟨nT _ (by omega),by have:=D.size;omega⟩
   ·injection e with e
    have:=(a1.out ad.block (by rw[e];rfl)).1;simp at this;omega
   ·have:=(l.lt g rfl).1
    omega
   ·have:=(l.lt g rfl).1
    omega
   ·have:=(a1.out ad.block (by rw[e];rfl)).1
    simp at this;omega
def Zz(bl:List (List Rf.Ch))(key:Str)(i:Nat):List Rf.Ch:=((bl.take i).flatten).filter (Rf.j7 key)
def Au(S:jh)(bl:List (List Rf.Ch))(key:Str):List Rf.Ch:=if S.bad=true then [] else bl.flatten.filter (Rf.j7 key)
def fi(S:jh):Option Bool:=if S.bad=true then some true else none
theorem Td{bl:List (List Rf.Ch)}{key:Str}(h:bl.length<=i):Zz bl key i=bl.flatten.filter (Rf.j7 key):=by unfold Zz;rw[ZO h]
theorem Mn{bl:List (List Rf.Ch)}(h:Rf.Laid bl)(key:Str):Zz bl key (Rf.fh (Rf.js 0 bl) key)=[] :=
 List.filter_eq_nil_iff.2 (fun c hc=>by simpa [Rf.j7] using h.jdn key c hc)
theorem Pn{bl:List (List Rf.Ch)}{key:Str}(h:bl[i]?=some b):Zz bl key (i+1)=Zz bl key i++b.filter (Rf.j7 key):=by
 unfold Zz;rw[zY,h,zZ,List.flatten_append,xR];simp
theorem jen{bl:List (List Rf.Ch)}{key:Str}{j:Nat}{c:Rf.Ch}(h:bl[i]?=some b)(f:b[j]?=some c)(k:Rf.j7 key c=true) :
 let pre:=Zz bl key i++(b.take j).filter (Rf.j7 key)
 pre=(bl.flatten.filter (Rf.j7 key)).take pre.length/\(bl.flatten.filter (Rf.j7 key))[pre.length]?=some c:=by
 intro pre
 have l:b=b.take j++c::b.drop (j+1):=by
  have e:b[j]'((XA.1 f).1)=c:=(XA.1 f).2;rw[<-e,XC,ZR]
 have g:bl=bl.take i++b::bl.drop (i+1):=by
  have e:bl[i]'((XA.1 h).1)=b:=(XA.1 h).2;rw[<-e,XC,ZR]
 have d:bl.flatten.filter (Rf.j7 key)=pre++c::((b.drop (j+1)).filter (Rf.j7 key)++((bl.drop (i+1)).flatten).filter (Rf.j7 key)):=by
  conv=>lhs;rw[g]
  rw[List.flatten_append,List.flatten_cons,xR,xR]
  conv=>lhs;arg 2;arg 1;rw[l]
  rw[xR,XT k];simp[pre,Zz]
 rw[d];constructor
 ·simp
 ·simp
theorem jds(key:Str):Rf.fh ps key<=ps.length:=by
 have:=Rf.Aj ps key;unfold Rf.fh
 split<;>omega
theorem jdm{bl:List (List Rf.Ch)}(i:Nat):Rf.Qv (bl.flatMap Rf.jm).length (Rf.js 0 bl) i<=(Rf.zm bl).length:=by
 have c:(bl.flatMap Rf.jm).length<=(Rf.zm bl).length:=by unfold Rf.zm;rw[ZY,ZY];omega
 have b:Rf.Qv (bl.flatMap Rf.jm).length (Rf.js 0 bl) i<=(bl.flatMap Rf.jm).length:=by
  unfold Rf.Qv
  cases h:(Rf.js 0 bl)[i+1]? with
  | none=>exact xA _
  | some p =>
   have:=(Rf.ki 0 bl p (XU h)).2;show p.1<=_;omega
 omega
theorem ph.jgs{base:Nat}{bl:List (List Rf.Ch)}(h:ph w base rv bl)(b:Rf.Laid bl)(key:Str) :
 Calls prog 236 #[rv,jd key] w fun e w'=>e = .returned (ju (Rf.fh (Rf.js 0 bl) key))/\ja w w' (fun _=>False):=by
 obtain⟨p,c,g,cap,rfl,j,d,i,f⟩:=h;have:=b.small.2;exact jax key (Rf.qx 0 bl) d (b.jfn key) (by omega)
theorem ph.count{base:Nat}{bl:List (List Rf.Ch)}(h:ph w base rv bl) :
 Calls prog 237 #[rv] w fun e w'=>e = .returned (ju bl.length)/\ja w w' (fun _=>False):=by
 obtain⟨p,c,g,cap,rfl,i,f,d,b⟩:=h;exact Wp
theorem ph.block{base:Nat}{bl:List (List Rf.Ch)}(h:ph w base rv bl)(f:Rf.Laid bl)(d:(Rf.zm bl).length<1099511627776)(S:Qp E B w)(k:B<=w.heap.size)(j:bl[i]?=some b) :
 Calls prog 238 #[rv,ju i] w fun e w'=>∃ v,e = .returned (.tuple #[v,.nilIface])/\w'.ownsRow w.heap.size 88 3 v b.length (jg b)/\ja w w' (fun _=>False):=by
 obtain⟨p,c,g,cap,rfl,m,l,o,n⟩:=h;have:=f.small.2;exact jcy S k (Rf.qx 0 bl) (XA.1 j).1 l m (f.block j) (jdm i) (by omega) d
theorem tm(b:Array Value)(w:World):(callFunc 212 b).run prog w = .ok (.enter 212 b) w:=by kernel_rfl
end Go.Proofs.YtnipbplghijdmaaGreatDoor
namespace Go.Proofs.YtnipbplghijdmaaGreatDoor
open RowKit Maps WideShapes Go.Proofs.Tryz
attribute [local go_sem] Oper.semAt_some
structure Tn(E:Nat->Addr)(B:Nat)(ρ:Nat->jz)(d:Nat)(S:jh)(nm:Str)(bl:List (List Rf.Ch))(W:World):Prop where
 dk:Dk E B W ρ d S
 small:Small S
 run:Ak S nm bl
theorem sk{E:Nat->Addr}{B:Nat}{ρ:Nat->jz}{d n:Nat}{S:jh}(nm key:Str)(bl:List (List Rf.Ch))(hn:nm.length<1099511627776)(b9:(Rf.zm bl).length<1099511627776) :
 He Fence.wide n prog 212 #[.agg #[.pointer (some ⟨d,0,none⟩),jd nm,jd key]] #[] encI (j5 ρ) (fun i=>i<B) (Tn E B ρ d S nm bl) (jdg E (Au S bl key) (fi S)) (jdf E B ρ d (S.called false) (Au S bl key) (fi S)) (I6 E B ρ d (S.called false)):=by
 intro lp n₀ J Jx aJ hY C W bh hC e4 hS ax;have bq:∀ i,C i->¬j5 ρ i/\B<=i:=fun i hc=>⟨(hC i hc).1,Nat.le_of_not_lt (hC i hc).2⟩;have kA:=ja.alloc W (.cells #[.pointer (some ⟨d,0,none⟩),jd nm,jd key] 293) (fun _=>False);have a6:=Np (key:=key) (hS.dk.same kA) hS.small hn hS.run b9;have l:=hS.run.1;have bs:=je W (.cells #[.pointer (some ⟨d,0,none⟩),jd nm,jd key] 293);have hρ:=hS.dk.rep.lt;have e7:=hS.dk.size;have nT:∀ i,W.heap.size<=i->¬j5 ρ i:=fun i hi h=>by have:=hρ i h;omega
 have b3:=jb a6;have d3:=jb bs;have HC:=jb hC;have X:=jb bh;clear a6 bs hS hC bh;show CallsIn Fence.wide n prog 212 #[.agg #[.pointer (some ⟨d,0,none⟩),jd nm,jd key],.func (.yield lp) #[] #[]] W _;refine callsIn_of_wp func212 rfl trivial ?_ rfl;simp only[ntmps212,xP,zX,xU,Nat.reduceAdd,Nat.reduceSub,xV,xW,xX,xY,xZ,xE]
 gi_wp2_with fail
 refine⟨trivial,fun h=>(by simp[Fence.wide] at h),(callsIn_wide.2 b3.out).mono ?_⟩;rintro e M ⟨k1,D1,⟨r,ev,rfl,be⟩|⟨r,rv,rfl,Y⟩⟩
 all_goals
  have kW:ja W M (j5 ρ):=(kA.up).tt k1;have e3:W.heap.size+1<=M.heap.size:=by have:=k1.size;simpa using this
 ·obtain⟨te,ae,rfl⟩:=be.shape
  have eL:Au S bl key=[]:=by unfold Au;rw[if_pos r]
  have eE:fi S=some true:=by unfold fi;rw[if_pos r]
  rw[eL,eE] at hY;have HL:=jb eL;have HE:=jb eE;have kB:=ja.alloc M (.cells #[.slice none 0 0,.slice none 0 0] 323) (fun _=>False);have cw:=aJ _ _ _ _ (aJ _ _ _ _ ax (cj kW (fun i _ h=> .inl h))) (J8 kB);have bw:∀ i,C i->i<(M.alloc (.cells #[.slice none 0 0,.slice none 0 0] 323)).heap.size:=fun i h=>by have:=X.out i h;simp;omega
  obtain⟨fn,tmps,assign,body,hy,hR⟩:=hY [] (bn,.iface te (.pointer (some ae))) C _ cw bw (.inr ⟨true,rfl,rfl,rfl,be.same kB⟩);dsimp only[encI,bn] at hy;have HR:=jb hR;have I:=jb (D1.same kB);clear hR D1 eL eE hY
  gi_wp2
  refine⟨fun h=>by simp[Fence.wide] at h,HR.out.mono ?_⟩;rintro e W3 ⟨C2,ao,T,a8,ap⟩;have D3:=I.out.apart a8 (fun i _ h=>bq i h)
  have a4:∀ i,C2 i->C i\/W.heap.size<=i:=fun i h=>by
   rcases ao i h with h|h
   ·exact .inl h
   ·simp at h
    exact .inr (by omega)
  rcases ap with⟨rfl,V⟩|⟨rfl,c0⟩
  ·gi_wp2
   refine bodyPost_ret (results_none rfl _ _ _) rfl ?_;exact⟨C2,a4,T,⟨_,rfl⟩,.inl ⟨_,⟨D3,.inr ⟨true,_,HE.out,⟨te,ae,rfl⟩,by rw[HL.out];rfl⟩⟩,V⟩⟩
  ·gi_wp2
   refine bodyPost_ret (results_none rfl _ _ _) rfl ?_;exact⟨C2,a4,T,⟨_,rfl⟩,.inr ⟨_,D3,c0⟩⟩
 ·have eL:Au S bl key=bl.flatten.filter (Rf.j7 key):=by unfold Au;rw[if_neg (by rw[r];decide)]
  have eE:fi S=none:=by unfold fi;rw[if_neg (by rw[r];decide)]
  rw[eL,eE] at hY;have HL:=jb eL;have HE:=jb eE;have HY:=jb hY;clear eL eE hY;obtain⟨pr,cr,gr,p,cn,co⟩:=id Y;subst cn;have kQ:=ja.alloc M (.cells #[.slice pr (Rf.zm bl).length cr,.slice (some ⟨gr,0,none⟩) bl.length p] 323) (fun _=>False);have ar:=je M (.cells #[.slice pr (Rf.zm bl).length cr,.slice (some ⟨gr,0,none⟩) bl.length p] 323);have au:=kQ.same (k1.same d3.out (nT _ (xA _))) id;have U:=Y.keep kQ (fun _ _=>id);have DQ:=D1.same kQ;have bo:=aJ _ _ _ _ (aJ _ _ _ _ ax (cj kW (fun i _ h=> .inl h))) (J8 kQ);have bt:(M.alloc (.cells #[.slice pr (Rf.zm bl).length cr,.slice (some ⟨gr,0,none⟩) bl.length p] 323)).heap.size=M.heap.size+1:=by simp
  have bu:(W.alloc (.cells #[.pointer (some ⟨d,0,none⟩),jd nm,jd key] 293)).heap.size=W.heap.size+1:=by simp
  rw[bu] at U;have a5:=U.jgs l key;obtain⟨s,N⟩:∃ s,s=M.alloc (.cells #[.slice pr (Rf.zm bl).length cr,.slice (some ⟨gr,0,none⟩) bl.length p] 323):=⟨_,rfl⟩;rw[<-N] at au ar U DQ bo bt
  have ay:∀ F,ja s F C->F.cell? ⟨M.heap.size,0,none⟩=some (.slice pr (Rf.zm bl).length cr)/\F.cell? ⟨M.heap.size,1,none⟩=some (.slice (some ⟨gr,0,none⟩) bl.length p)/\F.cell? ⟨W.heap.size,2,none⟩=some (jd key):=by
   intro F k;have h1:=k.same ar (fun h=>by have:=X.out _ h;omega);have h0:=k.same au (fun h=>by have:=X.out _ h;omega);exact⟨(zA h1).trans rfl,(zA h1).trans rfl,(zA h0).trans rfl⟩
  have a0:∀ F,ja s F C->ph F (W.heap.size+1) (Ib (.slice pr (Rf.zm bl).length cr) (.slice (some ⟨gr,0,none⟩) bl.length p)) bl:=fun F k=>U.keep k (fun i hi h=>by have:=X.out _ h;omega);have ai:∀ F,ja s F C->Dk E B F ρ d (S.called false):=fun F k=>DQ.apart k (fun i _ h=>bq i h);have bi:=ay s (ja.refl _ _);rw[N] at bi;obtain⟨b0,b1,b2⟩:=bi;have d0:=jb a5;have Z:=jb ay;have aj:=jb a0;have I:=jb ai;clear a5 ay a0 ai au ar U Y co DQ ax
  gi_wp2_with fail
  refine⟨trivial,fun h=>(by simp[Fence.wide] at h),(callsIn_wide.2 d0.out).mono ?_⟩;rintro e w2 ⟨rfl,k2⟩;rw[<-N] at k2;have cu:=aJ _ _ _ _ bo (J8 k2);have cq:ja s w2 C:=k2.up;have cm:Rf.fh (Rf.js 0 bl) key<=bl.length:=by have:=jds (ps:=Rf.js 0 bl) key;rwa [Rf.qx] at this
  have bf:=Mn l key;have e5:=l.small.2;have d1:=jb bf;have eb:=jb N;clear bf N
  gi_wp2
  gi_loopw [6] (fun iv wr=>∃(i:Nat) (G:Nat->Prop),i<=bl.length/\iv=ju i/\J ((Zz bl key i).map zk) G wr/\(∀ x,G x->C x\/s.heap.size<=x)/\(∀ x,G x->x<wr.heap.size)/\ja s wr C)
   (fun iv _=>bl.length-(intOf iv).toNat)
  case atStart=>exact⟨_,C,cm,rfl,by rw[d1.out];exact cu,fun _ h=> .inl h,fun x h=>by have:=X.out x h;have:=k2.size;omega,cq⟩
  case round =>
   obtain⟨i,G,hi,rfl,cs,y,ah,aq⟩:=hrel;obtain⟨b0,b1,b2⟩:=Z.out wr aq
   gi_wp2_with fail
   refine⟨trivial,fun h=>(by simp[Fence.wide] at h),(callsIn_wide.2 (aj.out wr aq).count).mono ?_⟩;rintro e w3 ⟨rfl,k3⟩;have u:ja s w3 C:=aq.trans k3 (fun _ _ h=>h.elim);have V:=aJ _ _ _ _ cs (J8 k3);rcases ZJ i bl.length with bd|e6
   ·obtain⟨b,hb⟩:∃ b,bl[i]?=some b:=⟨_,zL bd⟩
    have cy:B<=w3.heap.size:=(I.out _ u).size;have ac:=(aj.out _ u).block l b9 (I.out _ u).Qh cy hb;obtain⟨ea,e9,e8⟩:=Z.out w3 u;have d5:=l.len b (XU hb);have c2:=jb ac;have HB:=jb hb;have di:(i:Int)<(bl.length:Int):=by omega
    clear ac hb
    gi_wp2_with fail
    refine⟨trivial,fun h=>(by simp[Fence.wide] at h),(callsIn_wide.2 c2.out).mono ?_⟩;rintro e w4 ⟨v,rfl,z,k4⟩;have av:ja s w4 C:=u.trans k4 (fun _ _ h=>h.elim);have bp:=aJ _ _ _ _ V (J8 k4);have bg:=xw z;obtain⟨pv,cv,rfl⟩:=jj z;have a1:∀ ad,pv=some ad->w3.heap.size<=ad.block/\ad.block<w4.heap.size:=fun ad e=>z.lt ad.block (by rw[e];rfl);have br:∀ x,G x->x<w3.heap.size:=fun x h=>by have:=ah x h;have:=k3.size;omega
    have d2:=jb bg;have cz:=jb a1;have dh:=k4.size;have dg:=u.size;have c1:J ((Zz bl key i++(b.take 0).filter (Rf.j7 key)).map zk) G w4:=by simpa using bp
    clear z bg a1 bp
    gi_wp2
    gi_loopw [49] (fun jv wr=>∃(j:Nat) (D':Nat->Prop),j<=b.length/\jv=ju j/\J ((Zz bl key i++(b.take j).filter (Rf.j7 key)).map zk) D' wr/\(∀ x,D' x->G x\/w4.heap.size<=x)/\(∀ x,D' x->x<wr.heap.size)/\ja w4 wr G)
     (fun jv _=>b.length-(intOf jv).toNat)
    case atStart=>exact⟨0,G,zU _,rfl,c1,fun _ h=> .inl h,fun x h=>by have:=br x h;omega,ja.refl _ _⟩
    case round =>
     obtain⟨j,D',hj,rfl,aw,q,af,D⟩:=hrel;have bj:ja s wr C:=av.trans D (fun x hx h=>(y x h).resolve_right (by omega))
     have a3:∀ x,D' x->C x\/s.heap.size<=x:=fun x h=>by
      rcases q x h with h|h
      ·exact y x h
      ·have:=av.size
       exact .inr (by omega)
     have bv:Chs wr (.slice pv b.length cv) b:=d2.out.keep D (fun _ p' n c e h=>by
      injection e with e
      have:=(cz.out p' e).1
      have:=br _ h
      omega)
     have dz:=D.size;rcases ZJ j b.length with A|dj
     ·obtain⟨bb,oo,rfl,e0,e1,e2⟩:=bv.at A
      generalize hx:b[j]=x at e0 e1 e2;obtain⟨t,g,L⟩:=x;simp only at e0 e1 e2;have R:b[j]?=some ⟨t,g,L⟩:=by rw[zL A,hx]
      have ka:=ja.alloc wr (.cells #[jd t,jd g,.bool L] 88) (fun _=>False);have bk:ja s (wr.alloc (.cells #[jd t,jd g,.bool L] 88)) C:=bj.trans ka (fun _ _ h=>h.elim);obtain⟨_,_,m2⟩:=Z.out _ bk;have O:=je wr (.cells #[jd t,jd g,.bool L] 88);have y0:=zA (o:=0) O;have y1:=zA (o:=1) O;have y2:=zA (o:=2) O;simp at y0 y1 y2;have bm:=aJ _ _ _ _ aw (J8 ka);have ag:∀ x,D' x->x<(wr.alloc (.cells #[jd t,jd g,.bool L] 88)).heap.size:=fun x h=>zT (af x h) ka.size
      have H:(b.take (j+1)).filter (Rf.j7 key)=(b.take j).filter (Rf.j7 key)++(if Rf.j7 key ⟨t,g,L⟩=true then [⟨t,g,L⟩] else []):=by
       rw[zY,R,zZ,xR];by_cases h9:Rf.j7 key ⟨t,g,L⟩=true<;>simp[h9]
      have ab:ja w4 (wr.alloc (.cells #[jd t,jd g,.bool L] 88)) G:=D.trans ka (fun _ _ h=>h.elim);have d4:(j:Int)<(b.length:Int):=by omega
      by_cases hb5:t<key
      ·have m:Rf.j7 key ⟨t,g,L⟩=false:=by simp[Rf.j7,hb5]
       have cx:Op.bytesLess t key=true:=by rw[bytesLess_eq];simpa using hb5
       rw[m,if_neg (by decide),ZC] at H;have az:=jb H;have ec:=jb R;clear H R hb5 m hx O
       gi_wp2
       refine⟨fun f h=>(by cases h),?_⟩
       gi_wp2
       go_roundw
       case rel=>exact⟨j+1,D',A,by simp,by rw[az.out];exact bm,q,ag,ab⟩
       case measure=>simp[intOf];omega
      ·have m:Rf.j7 key ⟨t,g,L⟩=true:=by simp[Rf.j7,hb5]
       have cx:Op.bytesLess t key=false:=by rw[bytesLess_eq];simpa using hb5
       rw[m,if_pos rfl] at H;obtain⟨bc,ba⟩:=jen HB.out R m;obtain⟨fn,tmps,assign,body,hy,hR⟩:=HY.out ((Zz bl key i++(b.take j).filter (Rf.j7 key)).map zk) (zk ⟨t,g,L⟩) D' _ bm ag (.inl ⟨_,_,congrArg (List.map zk) bc,ba,rfl⟩);dsimp only[encI,zk] at hy;have HR:=jb hR;have az:=jb H;clear hR H bc ba R hb5 m hx O
       gi_wp2
       refine⟨fun h=>by simp[Fence.wide] at h,HR.out.mono ?_⟩;rintro e W3 ⟨C2,ao,T,a8,ap⟩
       have a2:∀ x,C2 x->G x\/w4.heap.size<=x:=fun x h=>by
        rcases ao x h with h|h
        ·exact q x h
        ·simp at h
         exact .inr (by omega)
       have cp:ja w4 W3 G:=ab.trans a8 (fun x hx h=>(q x h).resolve_right (by omega));have bx:ja s W3 C:=bk.trans a8 (fun x hx h=>(a3 x h).resolve_right (by omega));rcases ap with⟨rfl,ct⟩|⟨rfl,bz⟩
       ·gi_wp2
        go_roundw
        case rel =>
         refine⟨j+1,C2,A,by simp,?_,a2,T,cp⟩;rw[az.out,<-ZK,ZA];exact ct
        case measure=>simp[intOf];omega
       ·gi_wp2
        refine bodyPost_ret (results_none rfl _ _ _) rfl ?_;refine⟨C2,fun x h=>?_,T,⟨_,rfl⟩,.inr ⟨_,I.out _ bx,bz⟩⟩;rcases a2 x h with h|h
        ·exact(y x h).imp id (fun h=>by omega)
        ·have:=av.size
         exact .inr (by omega)
     ·obtain rfl:j=b.length:=by omega
      rw[zW,<-Pn HB.out] at aw
      gi_wp2
      go_roundw
      case rel=>exact⟨i+1,D',bd,by simp,aw,a3,af,bj⟩
      case measure=>simp[intOf];omega
   ·obtain rfl:i=bl.length:=by omega
    gi_wp2
    go_end0;refine⟨G,fun x h=>(y x h).imp id (fun h=>by omega),fun x h=>by have:=ah x h;have:=k3.size;omega,⟨_,rfl⟩,.inl ⟨_,⟨I.out _ u,.inl ⟨HE.out,by rw[HL.out]⟩⟩,?_⟩⟩;rw[Td (xA _)] at V;exact V
end Go.Proofs.YtnipbplghijdmaaGreatDoor
namespace Go.Proofs.YtnipbplghijdmaaGreatDoor
open RowKit Maps WideShapes Go.Proofs.Tryz
variable {E:Nat->Addr} {B d:Nat} {w:World} {l:List Rf.Ch} {ns:List Nat} {bls:List (List (List Rf.Ch))}
def Yf(l:List Rf.Ch):Jh:=fun S=>(S,l,none)
def gn(bl:List (List Rf.Ch))(key:Str):Jh:=fun S=>(S.called false,Au S bl key,fi S)
theorem jb0{P:jh->Prop}{ρ:Nat->jz}{v:Value}(g:Chs w v l)(f:l.length<1048576)(j:∀ p n c,v = .slice (some p) n c->¬j5 ρ p.block/\p.block<w.heap.size)(m:B<=w.heap.size):gh P E B ρ d w (A7 v) (Yf l):=by
 intro hi W S k D Z;refine⟨Z,f,?_⟩;have b:Chs W v l:=g.keep k (fun _ p n c e=>(j p n c e).1);refine uf (Needs:=Uj B v) (Start:=fun W=>Chs W v l/\Dk E B W ρ d S) b8 (fun n=>bt v l f) (fun i hi=>?_) (fun W' k'=>⟨b.same k',D.same k'⟩) D.rep.lt D.size hi f;rcases hi with h|⟨p,n,c,e,rfl⟩
 ·have:=D.size
  omega
 ·exact zT (j p n c e).2 k.size
theorem ja3{P:jh->Prop}{ρ:Nat->jz}{m:Nat}{key:Str}{bl:List (List Rf.Ch)}(j:m<=9223372036854775807)(c:(Rf.zm bl).length<1099511627776)(f:bl.flatten.length<1048576)(l:∀ S,P S->P (S.called false)/\Small S/\Ak S (jq m) bl):gh P E B ρ d w (Xt d m key) (gn bl key):=by
 intro hi W S k D Z;obtain⟨q,p,o⟩:=l S Z
 have b:(Au S bl key).length<1048576:=by
  unfold Au
  split
  ·simp
  ·have:=XF (Rf.j7 key) bl.flatten
   omega
 refine⟨q,b,?_⟩
 have g:(jq m).length<1099511627776:=by
  have:=zn j;unfold jq;rw[ZY];simp;omega
 exact uf (Needs:=fun i=>i<B) (Start:=Tn E B ρ d S (jq m) bl) tm (fun n=>sk (jq m) key bl g c) (fun i hi=>zT hi D.size) (fun W' k'=>⟨D.same k',p,o⟩) D.rep.lt D.size hi b
structure cu(P:jh->Prop)(ns:List Nat)(bls:List (List (List Rf.Ch))):Prop where
 len:bls.length=ns.length
 num:∀ n∈ns,n<=9223372036854775807
 small:∀ bl∈bls,(Rf.zm bl).length<1099511627776/\bl.flatten.length<1048576/\Rf.Laid bl
 file:∀(k n:Nat) bl,ns[k]?=some n->bls[k]?=some bl->∀ S,P S->Ak S (jq n) bl
 step:∀ S,P S->P (S.called false)/\Small S
abbrev yi(bls:List (List (List Rf.Ch)))(key:Str):List Jh:=bls.map (fun bl=>gn bl key)
theorem cu.layers{P:jh->Prop}(h:cu P ns bls){ρ:Nat->jz}(key:Str) :
 ∀(k:Nat) f st,(ns.map (fun n=>Xt d n key))[k]?=some f->(yi bls key)[k]?=some st->gh P E B ρ d w f st:=by
 intro k f st c b;rw[zJ] at c b
 cases hn:ns[k]? with
 | none=>rw[hn] at c;cases c
 | some n =>
  cases hb:bls[k]? with
  | none=>rw[hb] at b;cases b
  | some bl =>
   rw[hn] at c;rw[hb] at b;cases c;cases b;have g:=h.small bl (XU hb);exact ja3 (h.num n (XU hn)) g.1 g.2.1 (fun S hS=>⟨(h.step S hS).1,(h.step S hS).2,h.file k n bl hn hb S hS⟩)
def il(l:List Rf.Ch):Prop:=Rf.jy l/\(∀ c∈l,c.key≠[])/\l.length<1048576
theorem il.up(h:il l)(hi:Str):il (Ys hi l):=by
 have b:(Ys hi l).Sublist l:=List.takeWhile_sublist _;exact⟨h.1.sublist b,fun c hc=>h.2.1 c (b.subset hc),ZZ b.length_le h.2.2⟩
theorem tg{hi:Str}{c:List Jh}(h:∀ st∈c,∀ S,il (st S).2.1):∀ {S:jh} {ls:List (List Rf.Ch)},(j2 hi c S).2 = .inl ls->∀ l∈ls,il l:=by
 induction c with
 | nil =>
  intro S ls e l d;cases e;cases d
 | cons st r ih =>
  intro S ls e l d;unfold j2 at e
  cases hg:Zm hi (st S)with
  | none=>rw[hg] at e;cases e
  | some x =>
   rw[hg] at e;simp only at e
   cases hr:j2 hi r (st S).1 with
   | mk S2 q =>
    rw[hr] at e
    cases q with
    | inr b=>cases e
    | inl ls2 =>
     cases e;rcases zH.1 d with rfl|d
     ·unfold Zm at hg
      split at hg
      ·cases hg
       exact(h st xJ S).up hi
      ·cases hg
     ·exact ih (fun st' h'=>h st' (xI _ h')) (by rw[hr]) l d
theorem uq.of{ls:List (List Rf.Ch)}(h:∀ l∈ls,il l):uq ls:=⟨fun l hl=>(h l hl).1,fun l hl=>(h l hl).2.1,fun l hl=>(h l hl).2.2⟩
theorem ja2{bl:List (List Rf.Ch)}(h:Rf.Laid bl)(g:bl.flatten.length<1048576)(key:Str)(S:jh):il (gn bl key S).2.1:=by
 show il (Au S bl key);unfold Au
 split
 ·exact⟨List.Pairwise.nil,⟨fun c hc=>(by cases hc),ZG _⟩⟩
 ·have d:(bl.flatten.filter (Rf.j7 key)).Sublist bl.flatten:=XV
  refine⟨h.rising.sublist d,fun c hc=>?_,ZZ d.length_le g⟩;obtain⟨b,i,f⟩:=List.mem_flatten.1 (d.subset hc);have:=(Rf.xz c).1 (h.ok b i c f);intro e;rw[e] at this;simp at this
theorem cu.Je{P:jh->Prop}(h:cu P ns bls)(key:Str):∀ st∈yi bls key,∀ S,il (st S).2.1:=by
 intro st b S;obtain⟨bl,c,rfl⟩:=ZN.1 b;exact ja2 (h.small bl c).2.2 (h.small bl c).2.1 key S
theorem Kk(p:Option Addr)(m c:Nat)(hi:Str)(w:World):Calls prog 71 #[.slice p m c,jd hi] w fun e w'=>e = .returned (.func (.func 123) #[.agg #[.slice p m c,jd hi]] #[])/\w'=w:=by
 go_enter func71,ntmps71;go_wp2;go_ret;exact⟨rfl,rfl⟩
end Go.Proofs.YtnipbplghijdmaaGreatDoor
namespace Go.Proofs.YtnipbplghijdmaaGreatDoor
open RowKit Maps WideShapes Go.Shelf Go.Proofs.Tryz
attribute [local go_sem] Oper.semAt_some
def stays(c:Rf.Ch):Bool:=!c.gone
def kept(l:List Rf.Ch):List Rf.Ch:=l.filter stays
theorem Kp{l:List Rf.Ch}{m:Nat}{c:Rf.Ch}(h:l[m]?=some c):kept (l.take (m+1))=kept (l.take m)++(if c.gone=true then [] else [c]):=by
 unfold kept;rw[zY,h,zZ,xR];by_cases hc:c.gone=true<;>simp[stays,hc]
theorem Bx(l:List Rf.Ch)(m:Nat):(kept (l.take m)).length<=m:=by
 have c:=XF stays (l.take m);have b:=ZW m l;unfold kept;omega
def P1(E:Nat->Addr)(B:Nat)(ρ:Nat->jz)(d:Nat)(S':jh)(l:List Rf.Ch)(err:Option Bool)(w:World)(e:Ending)(w':World):Prop :=
 ∃ v ev,e = .returned (.tuple #[v,ev])/\ja w w' (j5 ρ)/\Dk E B w' ρ d S' /\
 ((ev = .nilIface/\err=none/\w'.ownsRow w.heap.size 88 3 v (kept l).length (jg (kept l)))\/(∃ bad,err=some bad/\v = .slice none 0 0/\mx E w' ev bad))
theorem jb6{P:jh->Prop}{E:Nat->Addr}{B:Nat}{ρ:Nat->jz}{d:Nat}{S:jh}{w:World}{b:Nat}{t:TypeId}(m0:Rf.Man)(rv last mv:Value)(ch cl:Bool)(bls:List (List (List Rf.Ch)))(H:Env E B w)(D:Dk E B w ρ d S)(Z:P S)(R:cu P m0.settled bls)(hb:w.heap[b]?=some (.cells (qe (.pointer (some ⟨d,0,none⟩)) (jf m0.next) (jf m0.last) (jf m0.log) (jf m0.base) rv last mv ch cl) t (0,0)))(hv:zl w rv m0.runs)(hl:m0.runs.length<262144)(c8:(Qt (j2 [] (yi bls []) S)).length<1048576) :
 Calls prog 119 #[.pointer (some ⟨b,0,none⟩)] w (P1 E B ρ d (j2 [] (yi bls []) S).1 (Qt (j2 [] (yi bls []) S)) (Cs (j2 [] (yi bls []) S)) w):=by
 have dd:=x8 m0;have kA:ja w (((w.alloc (.cells #[.slice none 0 0] 38)).alloc (.cells #[.nilIface] 128)).alloc (.cells #[.slice none 0 0] 38)) (fun _=>False):=((ja.alloc w _ _).more _).more _;have ad:=Yu d m0 rv last mv ch cl [] (H.same kA) (kA.same hb id) (hv.same kA) (by omega) R.num;have az:∀ ls,(j2 [] (yi bls []) S).2 = .inl ls->uq ls:=fun ls e=>uq.of (tg (R.Je []) e);have ar:(m0.settled.map (fun n=>Xt d n [])).length=(yi bls []).length:=by simp[R.len]
 have a9:(m0.settled.map (fun n=>Xt d n [])).length=m0.settled.length:=by simp
 have ax:∀ f∈m0.settled.map (fun n=>Xt d n []),∃ g a b,f = .func g a b:=by
  intro f hf;obtain⟨n,_,rfl⟩:=ZN.1 hf;exact⟨_,_,_,rfl⟩
 have bk:Hid (∀(W:World) (k:Nat) f st,(m0.settled.map (fun n=>Xt d n []))[k]?=some f->(yi bls [])[k]?=some st->gh P E B ρ d W f st):=fun W=>R.layers [];have hρ:=D.rep.lt;have hB:=D.size;obtain⟨fs,bq⟩:∃ fs,fs=m0.settled.map (fun n=>Xt d n []):=⟨_,rfl⟩;obtain⟨ns,c7⟩:∃ ns,ns=m0.settled.length:=⟨_,rfl⟩;rw[<-bq] at ad ar a9 ax bk;rw[<-c7] at ad a9 dd;have ah:=fun(lv:Value) (n:Nat)=>gu (P:=P) (E:=E) (B:=B) (ρ:=ρ) (d:=d) (n:=n) lv fs (yi bls []) [] ar (by omega) ax az;generalize j2 [] (yi bls []) S=G at ah c8 ⊢;generalize Qt G=l at ah c8 ⊢;generalize Cs G=err at ah ⊢;generalize G.1=S' at ah ⊢;have dk:=jb ah;have cm:=jb ad;have HB:=jb hb;have ex:=jb bq;clear ah ad hb bq c7 az ar ax;refine(callsIn_wide (n:=9)).1 ?_;refine callsIn_of_wp_marks func119 rfl trivial ?_ rfl;simp only[ntmps119,xP,zX,xU,Nat.reduceAdd,Nat.reduceSub,xV,xW,xX,xY,xZ,xE]
 gi_wp2_with fail
 refine⟨trivial,(callsIn_wide.2 cm.out).mono ?_⟩;rintro e W0 ⟨ao,ap,rfl,a8,kS⟩
 gi_wp2_with fail
 refine⟨trivial,(callsIn_wide.2 (Kk ao ns ap [] W0)).mono ?_⟩;rintro e T ⟨rfl,rfl⟩
 gi_wp2
 have kW:ja w T (fun _=>False):=kA.tt kS;have sA:(((w.alloc (.cells #[.slice none 0 0] 38)).alloc (.cells #[.nilIface] 128)).alloc (.cells #[.slice none 0 0] 38)).heap.size=w.heap.size+1+1+1:=by simp
 have sW:w.heap.size+1+1+1<=T.heap.size:=by have:=kS.size;omega
 have b0:T.heap[w.heap.size]?=some (.cells #[.slice none 0 0] 38 (0,0)) :=
  kS.same ((((ja.alloc _ _ (fun _=>False)).more _)).same (je w _) id) id
 have b1:T.heap[w.heap.size+1]?=some (.cells #[.nilIface] 128 (0,0)):=by
  have:=je (w.alloc (.cells #[.slice none 0 0] 38)) (.cells #[.nilIface] 128);rw[xO] at this;exact kS.same ((ja.alloc _ _ (fun _=>False)).same this id) id
 have b2:T.heap[w.heap.size+1+1]?=some (.cells #[.slice none 0 0] 38 (0,0)):=by
  have:=je ((w.alloc (.cells #[.slice none 0 0] 38)).alloc (.cells #[.nilIface] 128)) (.cells #[.slice none 0 0] 38);rw[xO,xO] at this;exact kS.same this id
 have nT:∀ i,w.heap.size<=i->¬j5 ρ i:=fun i hi h=>by have:=hρ i h;omega
 have ay:ig T (.slice ao ns ap) fs:=by
  subst a9;exact df a8 rfl
 have bi:fs≠[]->∀ p n c,Value.slice ao ns ap = .slice (some p) n c->¬j5 ρ p.block:=by
  intro _ p n c e;injection e with e;have:=(a8.lt p.block (by rw[e];rfl)).1;exact nT _ (by omega)
 have a0:∀ W1,ja T W1 (fun _=>False)->Bg P E B ρ d S (.slice ao ns ap) fs (yi bls []) W1:=fun W1 k=>⟨D.same (kW.tt k),Z,ay.same k,bi,bk.out W1⟩;have dj:=jb a0;clear a0 ay bi a8
 have br:∀ {W:World} {D:Nat} {v:Value},err=none->T.heap.size<=D->¬v.ownBlock=some D->W.heap[D]?=some (.deferred (some []))->Dk E B W ρ d S' ->
  W.heap[w.heap.size]?=some (.cells #[.slice none 0 0] 38 (0,0))->W.heap[w.heap.size+1]?=some (.cells #[.nilIface] 128 (0,0))->W.ownsRow w.heap.size 88 3 v (kept l).length (jg (kept l))->(∀ g,v.ownBlock=some g->w.heap.size+3<=g)->ja w W (j5 ρ) ->
  (((W.setCell ⟨w.heap.size,0,none⟩ v).setCell ⟨w.heap.size+1,0,none⟩ .nilIface)).heap[D]?=some (.deferred (some [])) /\
  ((((W.setCell ⟨w.heap.size,0,none⟩ v).setCell ⟨w.heap.size+1,0,none⟩ .nilIface)).putObj D (.deferred none)).cell? ⟨w.heap.size,0,none⟩=some v /\
  ((((W.setCell ⟨w.heap.size,0,none⟩ v).setCell ⟨w.heap.size+1,0,none⟩ .nilIface)).putObj D (.deferred none)).cell? ⟨w.heap.size+1,0,none⟩=some .nilIface /\
  P1 E B ρ d S' l err w (.returned (.tuple #[v,.nilIface])) ((((W.setCell ⟨w.heap.size,0,none⟩ v).setCell ⟨w.heap.size+1,0,none⟩ .nilIface)).putObj D (.deferred none)):=by
  intro W D v h1 hD ba hK DK g1 g2 z s X
  have k1:=ja.setCell W ⟨w.heap.size,0,none⟩ v
  have k2:=ja.setCell (W.setCell ⟨w.heap.size,0,none⟩ v) ⟨w.heap.size+1,0,none⟩ .nilIface
  have k3:=ja.putObj ((W.setCell ⟨w.heap.size,0,none⟩ v).setCell ⟨w.heap.size+1,0,none⟩ .nilIface) D (.deferred none)
  have kk:ja W ((((W.setCell ⟨w.heap.size,0,none⟩ v).setCell ⟨w.heap.size+1,0,none⟩ .nilIface)).putObj D (.deferred none)) (fun i=>i=w.heap.size\/i=w.heap.size+1\/i=D) :=
   ((k1.mono (fun _ _ h=> .inl h)).trans k2 (fun _ _ h=> .inr (.inl h))).trans k3 (fun _ _ h=> .inr (.inr h))
  have e1:=k2.same (jc (o:=0) g1 v) (by simp)
  have e2:=jc (o:=0) (k1.same g2 (by simp)) Value.nilIface
  refine⟨k2.same (k1.same hK (by simp;omega)) (by simp;omega),(zA (k3.same e1 (by omega))).trans rfl,(zA (k3.same e2 (by omega))).trans rfl,_,_,rfl,X.trans kk (fun i hi h=>by omega),?_,.inl ⟨rfl,h1,?_⟩⟩
  ·refine DK.apart kk (fun i hi h=>?_)
   rcases h with h|h|h
   ·exact⟨nT i (by omega),by omega⟩
   ·exact⟨nT i (by omega),by omega⟩
   ·exact⟨nT i (by omega),by omega⟩
  ·refine kk.row z (fun g J h=>?_)
   have:=s g J;rcases h with h|h|h
   ·omega
   ·omega
   ·exact ba (h▸J)
 refine aw rfl (by decide) (gf:=123) (rv:=#[.agg #[.slice ao ns ap,jd []]]) (lb:=#[]) rfl trivial ia (dk.out _ 8) (fun _=>rfl) (fun i h=>by have:=hρ i h;omega) (fun i h=>by omega) dj.out
  (fun ag C W=>∃(m:Nat) (v:Value),ag=(l.take m).map zk/\m<=l.length/\W.heap[w.heap.size]?=some (.cells #[.slice none 0 0] 38 (0,0)) /\
   W.heap[w.heap.size+1]?=some (.cells #[.nilIface] 128 (0,0))/\W.heap[w.heap.size+1+1]?=some (.cells #[v] 38 (0,0))/\W.ownsRow w.heap.size 88 3 v (kept (l.take m)).length (jg (kept (l.take m)))/\(∀ g,v.ownBlock=some g->w.heap.size+3<=g) /\
   ja w W (j5 ρ)/\(∀ i,C i↔i=w.heap.size\/i=w.heap.size+1\/i=w.heap.size+1+1\/v.ownBlock=some i))
  (fun c ag C W=>(c = .ret/\∃ bad ev,err=some bad/\mx E W ev bad/\W.heap[w.heap.size]?=some (.cells #[.slice none 0 0] 38 (0,0))/\W.heap[w.heap.size+1]?=some (.cells #[ev] 128 (0,0))/\ja w W (j5 ρ)))
  ?hI ?hIx (fun i=>i=w.heap.size\/i=w.heap.size+1\/i=w.heap.size+1+1) ?hC0 ?h0 ?round ?done ?stop
 case hI =>
  rintro ag C A B' ⟨m,v,e,hm,g1,g2,g3,z,s,X,hC⟩ V
  have out:∀ i,w.heap.size<=i->(i<w.heap.size+3\/v.ownBlock=some i)->¬(j5 ρ i\/(T.heap.size<=i/\¬C i)):=by
   rintro i h1 h2 (h3|⟨h3,h4⟩)
   ·exact nT i h1 h3
   ·rcases h2 with h2|h2
    ·omega
    ·exact h4 ((hC i).2 (.inr (.inr (.inr h2))))
  refine⟨m,v,e,hm,ja.same V g1 (out _ (by omega) (.inl (by omega))),ja.same V g2 (out _ (by omega) (.inl (by omega))),ja.same V g3 (out _ (by omega) (.inl (by omega))),
   ja.row V z (fun g J=>out g (by have:=s g J;omega) (.inr J)),s,X.trans V (fun i hi h=>?_),hC⟩
  rcases h with h|⟨h,_⟩
  ·exact h
  ·omega
 case hIx =>
  rintro c ag C A B' lp r ⟨rfl,bad,ev,h1,h3,h4,h5,h6⟩ bo er hr V;have M:∀ i,i<w.heap.size+3->¬i=lp:=fun i hi=>by omega
  refine⟨rfl,bad,ev,h1,?_,V.same h4 (M _ (by omega)),V.same h5 (M _ (by omega)),h6.trans V (fun i hi e=>by omega)⟩;obtain⟨g,he,J⟩:=h3;exact⟨g,he.keep V (fun i c e hc=>by rw[e,hr] at hc;cases hc),J⟩
 case hC0 =>
  rintro i (h|h|h)
  all_goals exact⟨by omega,nT i (by omega),fun h=>by omega⟩
 case h0=>exact⟨0,.slice none 0 0,rfl,zU _,b0,b1,b2,zS _ _ _ _,fun g J=>(by cases J),kW.up,fun i=>by simp[Value.ownBlock]⟩
 case round =>
  rintro lp ag x C W bo ⟨rl,c6⟩ bm cc ⟨m,v,rfl,hm,g1,g2,g3,z,s,X,hC⟩ cj;have es:=zC c6;rcases cj with⟨k,c,e,V,rfl⟩|⟨bad,he,e,c3,b8⟩
  ·have ca:=(XA.1 V).1
   obtain rfl:m=k:=by
    have:=congrArg List.length e;simp at this;omega
   clear e;obtain⟨ck,cv,cg⟩:=c;dsimp only[encI,zk]
   gi_wp2
   refine⟨ja.alloc W _ _,?_⟩;intro F k2 _;have ka:ja W F (fun i=>i=lp):=((ja.alloc W _ (fun _=>False)).up).tt k2;have M:∀ i,i<w.heap.size+3->¬i=lp:=fun i hi=>by omega
   have hb:=k2.same (je W _) (by omega);have q0:=zA (o:=0) hb;have q1:=zA (o:=1) hb;have q2:=zA (o:=2) hb;have a7:=ka.same g1 (M _ (by omega));have a6:=ka.same g2 (M _ (by omega));have bc:=ka.same g3 (M _ (by omega));have a3:=zA (o:=0) bc;have f3:=zB (o:=0) bc;simp at q0 q1 q2 a3;have I:=ka.row z (fun g J e=>bm ((hC lp).2 (.inr (.inr (.inr (e▸J))))));have O:=jb hC;have af:ja w F (j5 ρ):=X.trans ka (fun i hi e=>by omega);have ak:=jb a7;have aj:=jb a6;have aq:=jb bc;clear g1 g2 g3 a7 a6 bc hb hC;have de:W.heap.size+1<=F.heap.size:=by have:=k2.size;simpa using this
   have a5:=Kp V;have c9:=Bx l m;have e1:(l.take m).map zk++[zk ⟨ck,cv,cg⟩]=(l.take (m+1)).map zk:=(gi V).symm;have E1:=jb e1;clear e1
   cases cg with
   | true =>
    simp only[if_true,ZC] at a5;have dl:=jb a5;clear a5
    gi_wp2
    refine⟨C,fun i h=> .inl h,fun i h=>zT (cc i h) (by omega),ja.refl _ _,m+1,v,E1.out,ca,ak.out,aj.out,aq.out,by rw[dl.out];exact I,s,af,O.out⟩
   | false =>
    rw[if_neg (by simp)] at a5;obtain⟨pv,cpv,rfl⟩:=jj I;obtain⟨q,hq⟩:∃ q,q=(kept (l.take m)).length:=⟨_,rfl⟩;obtain⟨L,hL⟩:∃ L,L=kept (l.take m):=⟨_,rfl⟩;rw[<-hL] at hq I a5 c9 z s O a3 aq;rw[<-hq] at I c9 s O a3 aq
    have cf:∀(U:Option Addr) (y:Nat) (N:World),N.ownsRow w.heap.size 88 3 (.slice U (q+1) y) (q+1) (jg L++jg [⟨ck,cv,false⟩]) ->
     (F.alloc (.cells #[jd ck,jd cv,.bool false] 88)).grownBy N (Value.slice pv q cpv).ownBlock->((Value.slice U (q+1) y).ownBlock=(Value.slice pv q cpv).ownBlock\/(Value.slice U (q+1) y).ownBlock=some (F.alloc (.cells #[jd ck,jd cv,.bool false] 88)).heap.size) ->
     ∃ C':Nat->Prop,(∀ i,C' i->C i\/W.heap.size<=i)/\(∀ i,C' i->i<(N.setCell ⟨w.heap.size+1+1,0,none⟩ (.slice U (q+1) y)).heap.size)/\ja F (N.setCell ⟨w.heap.size+1+1,0,none⟩ (.slice U (q+1) y)) C /\
      ∃(m':Nat) (v:Value),(l.take m).map zk++[zk ⟨ck,cv,false⟩]=(l.take m').map zk/\m'<=l.length /\
       (N.setCell ⟨w.heap.size+1+1,0,none⟩ (.slice U (q+1) y)).heap[w.heap.size]?=some (.cells #[.slice none 0 0] 38 (0,0))/\(N.setCell ⟨w.heap.size+1+1,0,none⟩ (.slice U (q+1) y)).heap[w.heap.size+1]?=some (.cells #[.nilIface] 128 (0,0)) /\
       (N.setCell ⟨w.heap.size+1+1,0,none⟩ (.slice U (q+1) y)).heap[w.heap.size+1+1]?=some (.cells #[v] 38 (0,0))/\(N.setCell ⟨w.heap.size+1+1,0,none⟩ (.slice U (q+1) y)).ownsRow w.heap.size 88 3 v (kept (l.take m')).length (jg (kept (l.take m')))/\(∀ g,v.ownBlock=some g->w.heap.size+3<=g) /\
       ja w (N.setCell ⟨w.heap.size+1+1,0,none⟩ (.slice U (q+1) y)) (j5 ρ)/\(∀ i,C' i↔i=w.heap.size\/i=w.heap.size+1\/i=w.heap.size+1+1\/v.ownBlock=some i):=by
     intro U y N b9 ai bp
     have kA:ja F (F.alloc (.cells #[jd ck,jd cv,.bool false] 88)) (fun _=>False):=ja.alloc _ _ _
     have k3:ja F N (fun i=>(Value.slice pv q cpv).ownBlock=some i):=(kA.up).trans (ja.grown ai) (fun i _ e=>e.symm)
     have k4:=ja.setCell N ⟨w.heap.size+1+1,0,none⟩ (.slice U (q+1) y)
     have ae:∀ i,i<w.heap.size+3->¬(Value.slice pv q cpv).ownBlock=some i:=fun i hi e=>by have:=s i e;omega
     have bb:=k3.same aq.out (ae _ (by omega))
     have eq:=k3.size
     have ep:=kW.size
     have et:w.heap.size+3<=W.heap.size:=by omega
     have au:∀ g,(Value.slice U (q+1) y).ownBlock=some g->(Value.slice pv q cpv).ownBlock=some g\/F.heap.size<=g:=by
      intro g J;rcases bp with h|h
      ·exact .inl (h▸J)
      ·rw[h] at J
       cases J;exact .inr (by simp)
     have bs:=k4.row b9 (fun g J e=>by
      have e':g=w.heap.size+1+1:=e
      rcases au g J with h|h
      ·exact ae g (by omega) h
      ·omega)
     refine⟨fun i=>i=w.heap.size\/i=w.heap.size+1\/i=w.heap.size+1+1\/(Value.slice U (q+1) y).ownBlock=some i,?_,?_,?_,m+1,.slice U (q+1) y,E1.out,ca,?_,?_,?_,?_,?_,?_,fun _=>Iff.rfl⟩
     ·rintro i (h|h|h|h)
      ·exact .inl ((O.out i).2 (.inl h))
      ·exact .inl ((O.out i).2 (.inr (.inl h)))
      ·exact .inl ((O.out i).2 (.inr (.inr (.inl h))))
      ·rcases au i h with h|h
       ·exact .inl ((O.out i).2 (.inr (.inr (.inr h))))
       ·exact .inr (by omega)
     ·intro i h
      have c4:(N.setCell ⟨w.heap.size+1+1,0,none⟩ (.slice U (q+1) y)).heap.size=N.heap.size:=by simp[World.setCell]
      rw[c4];rcases h with h|h|h|h
      ·omega
      ·omega
      ·omega
      ·exact(b9.lt i h).2
     ·exact(k3.mono (fun i _ h=>(O.out i).2 (.inr (.inr (.inr h))))).trans k4 (fun i _ e=>(O.out i).2 (.inr (.inr (.inl e))))
     ·exact k4.same (k3.same ak.out (ae _ (by omega))) (by simp;omega)
     ·exact k4.same (k3.same aj.out (ae _ (by omega))) (by simp)
     ·exact(jc bb _).trans rfl
     ·rw[a5,ZY,<-hq,yq];exact bs
     ·intro g J
      rcases au g J with h|h
      ·exact s g h
      ·omega
     ·exact(af.trans k3 (fun i hi e=>by have:=s i e;omega)).trans k4 (fun i hi e=>by have e':i=w.heap.size+1+1:=e;omega)
    have ce:q+1<=maxLen:=by unfold maxLen;omega
    have cb:(q+1)*40<=140737488355328:=by omega
    have cd:w.heap.size<=(F.alloc (.cells #[jd ck,jd cv,.bool false] 88)).heap.size:=by simp;have:=kW.size;omega
    have bj:∀ j u,(jg [⟨ck,cv,false⟩])[j]?=some u->(F.alloc (.cells #[jd ck,jd cv,.bool false] 88)).cell? ((⟨F.heap.size,0,none⟩:Addr).add j)=some u:=Jt (je F _) rfl;have bh:=Xf [⟨ck,cv,false⟩];obtain⟨j0,hj,dc,db,da⟩:=info_parts Tryz.Jz
    have c5:∀ N:World,(F.alloc (.cells #[jd ck,jd cv,.bool false] 88)).grownBy N (Value.slice pv q cpv).ownBlock->N.cell? ⟨w.heap.size+1+1,0,none⟩=some (.slice pv q cpv)/\N.frozen? ⟨w.heap.size+1+1,0,none⟩=false:=by
     intro N ai;have bb:=(ja.grown ai).same ((ja.alloc F (.cells #[jd ck,jd cv,.bool false] 88) (fun _=>False)).same aq.out id) (fun e=>by have:=s _ e.symm;omega);exact⟨(zA bb).trans rfl,zB bb⟩
    have di:=jb c5;have cq:=jb cf;have dr:=jb ce;have dq:=jb cb;have cr:=jb cd;have cp:=jb bj;have co:=jb bh;have cn:=jb (I.alloc (.cells #[jd ck,jd cv,.bool false] 88));clear c5 cf ce cb cd bj bh a5 hq hL z I
    gi_wp2_with (gi_at_builtin;refine Qe _ rfl (.tmp 18) (.tmp 20) 38 rfl w.heap.size 88 j0 Jy 3 40 underlying38 hj dc db da rfl (ZG 2) (.slice pv q cpv) q (jg L) rfl cn.out ⟨F.heap.size,0,none⟩ 1 1 (jg [⟨ck,cv,false⟩]) rfl rfl cp.out co.out dr.out dq.out cr.out ?_;intro U y N b9 ai bp;obtain⟨ew,eu⟩:=di.out N ai)
    exact cq.out U y N b9 ai bp
  ·obtain⟨x1,ev⟩:=x
   simp only at c3 b8;subst c3;obtain⟨tv,av,rfl⟩:=b8.shape;dsimp only[encI,bn]
   gi_wp2
   refine⟨ja.alloc W _ _,?_⟩;intro F k2 _;have ka:ja W F (fun i=>i=lp):=((ja.alloc W _ (fun _=>False)).up).tt k2;have M:∀ i,i<w.heap.size+3->¬i=lp:=fun i hi=>by omega
   have a7:=ka.same g1 (M _ (by omega));have a6:=ka.same g2 (M _ (by omega));have a1:=zA (o:=0) a7;have f1:=zB (o:=0) a7;have a2:=zA (o:=0) a6;have f2:=zB (o:=0) a6;simp at a1 a2;have ak:=jb a7;have aj:=jb a6;have dn:=jb g1;have dm:=jb g2;have HC:=jb hC;clear g1 g2 g3 a7 a6 hC;have af:ja w F (j5 ρ):=X.trans ka (fun i hi e=>by omega);have de:W.heap.size+1<=F.heap.size:=by have:=k2.size;simpa using this
   have Y:mx E ((F.setCell ⟨w.heap.size,0,none⟩ (.slice none 0 0)).setCell ⟨w.heap.size+1,0,none⟩ (.iface tv (.pointer (some av)))) (.iface tv (.pointer (some av))) bad:=by
    obtain⟨g,J,dh⟩:=b8
    have k3:ja W ((F.setCell ⟨w.heap.size,0,none⟩ (.slice none 0 0)).setCell ⟨w.heap.size+1,0,none⟩ (.iface tv (.pointer (some av)))) (fun i=>i=lp\/i=w.heap.size\/i=w.heap.size+1) :=
     ((ka.mono (fun _ _ h=> .inl h)).set (p:=⟨w.heap.size,0,none⟩) (.inr (.inl rfl)) _).set (p:=⟨w.heap.size+1,0,none⟩) (.inr (.inr rfl)) _
    refine⟨g,J.keep k3 (fun i c h hc=>?_),dh⟩;rcases h with h|h|h
    ·rw[h,c6] at hc;cases hc
    ·rw[h,dn.out] at hc;cases hc
    ·rw[h,dm.out] at hc;cases hc
   have HE:=jb Y;clear b8 Y
   gi_wp2
   refine⟨C,fun i h=> .inl h,fun i h=>?_,?_,rfl,bad,_,he,HE.out,?_,?_,?_⟩
   ·have:=cc i h
    have c4:((F.setCell ⟨w.heap.size,0,none⟩ (.slice none 0 0)).setCell ⟨w.heap.size+1,0,none⟩ (.iface tv (.pointer (some av)))).heap.size=F.heap.size:=by simp[World.setCell]
    omega
   ·exact((ja.refl F C).set (p:=⟨w.heap.size,0,none⟩) ((HC.out _).2 (.inl rfl)) _).set (p:=⟨w.heap.size+1,0,none⟩) ((HC.out _).2 (.inr (.inl rfl))) _
   ·exact(ja.setCell _ _ _).same ((jc ak.out _).trans rfl) (by simp)
   ·exact(jc ((ja.setCell F ⟨w.heap.size,0,none⟩ (.slice none 0 0)).same aj.out (by simp)) _).trans rfl
   ·exact(af.Xd (p:=⟨w.heap.size,0,none⟩) (by simp) _).Xd (p:=⟨w.heap.size+1,0,none⟩) (by simp) _
 case done =>
  rintro D' lp C xs F W hD bo M ba bm ⟨DK,Y⟩ V ⟨m,v,e,hm,g1,g2,g3,z,s,X,hC⟩ hK;have a1:=zA (o:=0) g1;have f1:=zB (o:=0) g1;have a2:=zA (o:=0) g2;have f2:=zB (o:=0) g2;have a3:=zA (o:=0) g3;simp at a1 a2 a3;have ak:=jb g1;have aj:=jb g2;have HC:=jb hC;clear g1 g2 g3 hC
  have dg:m=l.length/\err=none:=by
   rcases Y with⟨h1,h2⟩|⟨bad,ev,h1,⟨t,a,rfl⟩,h2⟩
   ·rw[e] at h2
    have:=congrArg List.length h2;simp at this;exact⟨by omega,h1⟩
   ·rw[e] at h2
    have h3:(bn,Value.iface t (.pointer (some a)))∈(l.take m).map zk:=by rw[h2];simp
    obtain⟨c,_,h4⟩:=ZN.1 h3;cases h4
  obtain⟨rfl,ci⟩:=dg;rw[zW] at z;obtain⟨pv,cpv,rfl⟩:=jj z;have dp:=jb DK;clear Y DK e;obtain⟨z1,z2,z3,z4⟩:=br (W:=W) (D:=D') ci hD (fun h=>ba ((HC.out D').2 (.inr (.inr (.inr h))))) hK (dp.out.apart V (fun i hi e=>by rw[e];exact⟨nT lp (by omega),by omega⟩)) ak.out aj.out z s X;have Z1:=jb z1;have Z2:=jb z2;have Z3:=jb z3;have Z4:=jb z4;clear z1 z2 z3 z4
  gi_wp2
  have z2:=Z2.out;have z3:=Z3.out;refine⟨by simp,.inl ⟨_,_,rfl,run_takeDeferred Z1.out,?_⟩⟩;exact⟨.tuple #[.slice pv (kept l).length cpv,.nilIface],(by simp[results,Tryz.results119,go_sem,z2,z3]),Z4.out⟩
 case stop =>
  rintro D' lp C c ag F W hD bo M ba bm DK V ⟨rfl,bad,ev,h1,h3,h4,h5,h6⟩ hK
  gi_wp2
  have k9:=ja.putObj W D' (.deferred none);have r4:=zA (o:=0) (k9.same h4 (by omega));have r5:=zA (o:=0) (k9.same h5 (by omega));simp at r4 r5;refine⟨by simp,.inl ⟨_,_,rfl,run_takeDeferred hK,?_⟩⟩;refine⟨.tuple #[.slice none 0 0,ev],(by simp[results,Tryz.results119,go_sem,r4,r5]),_,_,rfl,h6.trans k9 (fun i hi e=>by omega),?_,.inr ⟨bad,h1,rfl,?_⟩⟩
  ·exact(DK.apart V (fun i hi e=>by rw[e];exact⟨nT lp (by omega),by omega⟩)).apart k9 (fun i hi e=>by rw[e];exact⟨nT D' (by omega),by omega⟩)
  ·obtain⟨g,he,J⟩:=h3
   exact⟨g,he.keep k9 (fun i c e hc=>by rw[e,hK] at hc;cases hc),J⟩
end Go.Proofs.YtnipbplghijdmaaGreatDoor
