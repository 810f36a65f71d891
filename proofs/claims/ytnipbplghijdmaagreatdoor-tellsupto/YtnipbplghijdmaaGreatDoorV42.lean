/-
  V: ActD FirstR BegunR GetR SureR PlayR.
-/
import Derived.Test.YtnipbplghijdmaaGreatDoorV41
set_option maxRecDepth 100000
set_option maxHeartbeats 8000000
set_option linter.unusedVariables false
set_option linter.unusedSimpArgs false
namespace Go.Proofs.YtnipbplghijdmaaGreatDoor
open RowKit Maps WideShapes Go.Proofs.Tryz
variable {E:Nat->Addr} {B:Nat} {w w' w0 wz:World} {d b k kb U V N L:Nat} {S S':jc} {s:Rf.St} {deg:Bool} {F T:Nat->Prop} {Q R:Want} {m:Rf.Man} {bls:List (List Rf.Ch)} {ρ:Nat->j3} {ess:List (List Rf.Ch)} {wv:Value} {fl bd:Bool} {sf lv:Nat}
theorem jgs(h:Bk E B w0 kb d b S s wv ess fl sf bd F w)(f:ya 5400 S s ess fl sf N L bd)(g:total S.files S.names<=5000)(j:N+2+2<=2000000000)(i:L<131072)(a:X5)(c:I64 a.kd)(k:Zs w a.kv a.keys) :
 Calls prog 36 #[.pointer (some ⟨kb,0,none⟩),.agg a.row] w fun e w'=>e = .returned (.bool true)/\fp E B w0 w kb d b F wv S N L w':=by
 cases bd with
 | true=>exact jbs h f a
 | false =>
  have l:=aw a.kd (n:=8) (by decide);rcases(by omega:X2 a.kd 8<4\/X2 a.kd 8=4\/X2 a.kd 8=5\/6<=X2 a.kd 8)with t|t|t|t
  ·exact Vl h f g i a c k rfl t
  ·exact jbr h f g (by omega) i a c rfl t
  ·exact Vm h f g j i a c rfl t
  ·exact Of h f g j i a c rfl t
theorem zz.off{w c:World}{G b:Nat->Prop}(h:zz w G c b){i:Nat}(f:i<w.heap.size)(d:¬G i):¬b i:=fun t=>by
 rcases h.2 i t with t|t
 ·exact d t
 ·omega
theorem Bk.fail(h:Bk E B w0 kb d b S s wv ess fl sf bd F w)(n:Int)(f:n<=9223372036854775807) :
 Calls prog 35 #[.pointer (some ⟨d,0,none⟩),.int .i64 n] w fun e w'=>e = .returned (.tuple #[])/\∃ F',Bk E B w0 kb d b { S with fail:=max n (-1) } s wv ess fl sf bd F' w'/\zz w (bkG F kb wv) w' (bkG F' kb wv):=by
 refine(jgq h.own n f).mono ?_;rintro e j ⟨rfl,c⟩;obtain⟨F',i,g⟩:=h.ud c (by omega);exact⟨rfl,F',i.Ke,g.bk⟩
theorem Bk.cut(h:Bk E B w0 kb d b S s wv ess fl sf bd F w)(n:Int)(f:n<=9223372036854775807) :
 Calls prog 44 #[.pointer (some ⟨d,0,none⟩),.int .i64 n] w fun e w'=>e = .returned (.tuple #[])/\∃ F',Bk E B w0 kb d b { S with cut:=max n (-1) } s wv ess fl sf bd F' w'/\zz w (bkG F kb wv) w' (bkG F' kb wv):=by
 refine(jhc h.own n f).mono ?_;rintro e j ⟨rfl,c⟩;obtain⟨F',i,g⟩:=h.ud c (by omega);exact⟨rfl,F',i.Ke,g.bk⟩
def Kb(E:Nat->Addr)(B:Nat)(w0 W1:World)(kb d b:Nat)(S:jc)(s:Rf.St)(wv:Value)(ess:List (List Rf.Ch))(fl:Bool)(sf:Nat)(bd:Bool)(F:Nat->Prop)(bx:Nat)(row:Array Value)(fa ct:Int)(W:World):Prop :=
 ∃ S1 F1,Bk E B w0 kb d b S1 s wv ess fl sf bd F1 W/\Alike S S1/\(fa<0->S1.fail = -1)/\(ct<0->S1.cut = -1)/\zz W1 (bkG F kb wv) W (bkG F1 kb wv)/\W.heap[bx]?=some (.cells row 73 (0,0))
def gx(E:Nat->Addr)(B:Nat)(w0 w:World)(kb d:Nat)(F:Nat->Prop)(wv:Value)(N L:Nat)(w':World):Prop :=
 ∃ b' S' s' wv' ess' fl' sf' bd' F',Bk E B w0 kb d b' S' s' wv' ess' fl' sf' bd' F' w'/\X4 S' s' ess' fl' sf' (N+3) (L+1) bd'/\qh S'/\zz w (bkG F kb wv) w' (bkG F' kb wv')
theorem Tf.act{N':Nat}(h:Tf E B w0 wz kb d F wv N' L ess w)(p:∀ b∈ess,b.length<=8)(i:ess.length<=L){M K:Nat}(m:N'+1<=M+3)(o:L<=K+1):gx E B w0 wz kb d F wv M K w:=by
 obtain⟨b,S',s,n,c,q,k,f,l,g,j⟩:=h;exact⟨b,S',s,c,_,_,_,_,q,k,(X4.opened f g p i).mono m o,l,j⟩
theorem gx.after(h:gx E B w0 w kb d F wv N L w'){l:Nat->Prop}{b:Value}(k:zz wz (bkG l kb b) w (bkG F kb wv)):gx E B w0 wz kb d l b N L w':=by
 obtain⟨b',S',s',f,c,i,g,j,q,p,o,n,m⟩:=h;exact⟨b',S',s',f,c,i,g,j,q,p,o,n,k.trans m⟩
theorem jhe(h:Bk E B w0 kb d b S s wv ess fl sf bd F w)(hU:ya 5400 S s ess fl sf N L bd)(hv:total S.files S.names<=5000)(hN:N+2+2<=2000000000)(hL:L<131072)(hW:qh S)(a:X5)(ha:od w w0.heap.size a) :
 Calls prog 76 #[.pointer (some ⟨kb,0,none⟩),.agg a.row] w fun e w'=>e = .returned (.bool true)/\gx E B w0 w kb d F wv N L w':=by
 obtain⟨q,O,be,c8,bg,a4,a2,D⟩:=Mf h a;have HU:=jb hU;have HV:=jb hv;have HA:Hid (od q w0.heap.size a):=ha.keep bg.out (fun _ _ t=>t);have ab:=ha.fa;have ac:=ha.ct;have aa:=ha.kd;have ai:=jb hW;obtain⟨x,hx⟩:∃ x,x=a:=⟨_,rfl⟩;rw[<-hx] at HA;have HX:=jb hx;obtain⟨J,A,nb,kv,keys,f,g,cv,l⟩:=a;simp only at a2 be ab ac aa;obtain⟨pc,nc,cc,c1⟩:∃ p n c,cv = .slice p n c:=by obtain⟨o,c,e,_⟩:=ha.chs;exact⟨o,_,c,e⟩
 subst c1;have a3:∀(z:Int) (n:Nat),I64 z->0<n->n<1000->Hid (∀ W,Calls prog 25 #[.int .i64 z,.int .i64 n] W fun e w'=>e = .returned (.int .i64 (X2 z n))/\w'=W):=fun z n hz h0 h1 W=>Y5 z hz.1 hz.2 n h0 h1 W;have ak:=a3 f 30 ab (by decide) (by decide);have am:=a3 g 30 ac (by decide) (by decide);have al:=a3 J 8 aa (by decide) (by decide);have b5:=aw f (n:=30) (by decide);have v:=aw g (n:=30) (by decide);have bw:=aw J (n:=8) (by decide);generalize X2 f 30=pf at ak b5;generalize X2 g 30=pt at am v;generalize X2 J 8=P at al bw
 have G:Hid (∀ W,ja q W (fun _=>False)->Calls prog 35 #[.pointer (some ⟨d,0,none⟩),.int .i64 pf] W fun e w'=>e = .returned (.tuple #[])/\(0<=f->Kb E B w0 q kb d b S s wv ess fl sf bd F O (X5.mk J A nb kv keys f g (.slice pc nc cc) l).row f (-1) w')):=fun W kW=>by
  refine((a4.out.same kW).fail pf (by omega)).mono ?_;rintro e w2 ⟨rfl,F2,h2,g2⟩;exact⟨rfl,fun y=>⟨_,F2,h2,Alike.fail _ _,fun t=>by omega,fun _=>ai.out.cut,g2.after kW,g2.1.same (kW.same a2.out id) D.out.2⟩⟩
 have I:Hid (f<0->Kb E B w0 q kb d b S s wv ess fl sf bd F O (X5.mk J A nb kv keys f g (.slice pc nc cc) l).row f (-1) q):=fun y=>⟨S,F,a4.out,Alike.refl _,fun _=>ai.out.fail,fun _=>ai.out.cut,zz.refl _ _,a2.out⟩;have o4:=zA (o:=4) a2.out;have M:=zA (o:=0) a4.out.row;simp at o4 M;clear h hU hv hW ha hx ab ac aa a3;go_enter func76,ntmps76
 go_upto_region 1 with fail
 rw[<-be.out,<-c8.out]
 go_upto_if 8 with fail
 go_cut [] from 6 (fun wc=>Kb E B w0 q kb d b S s wv ess fl sf bd F O (X5.mk J A nb kv keys f g (.slice pc nc cc) l).row f (-1) wc)
 case first =>
  rcases(by omega:f<0\/0<=f)with y|y
  ·have bz:¬0<=f:=by omega
   have HR:=jb (I.out y);go_wp2;go_meet
   case rel=>exact HR.out
  ·have an:Hid (∀ W,ja q W (fun _=>False)->Calls prog 35 #[.pointer (some ⟨d,0,none⟩),.int .i64 pf] W fun e w'=>e = .returned (.tuple #[])/\Hid (Kb E B w0 q kb d b S s wv ess fl sf bd F O (X5.mk J A nb kv keys f g (.slice pc nc cc) l).row f (-1) w')):=fun W kW=>(G.out W kW).mono (fun e w' h=>⟨h.1,h.2 y⟩)
   have d4:q.drew.cell? ⟨O,4,none⟩=some (.int .i64 f):=o4;have c2:q.drew.cell? ⟨kb,0,none⟩=some (.pointer (some ⟨d,0,none⟩)):=M
   go_upto_region 2 with fail
   go_region_with (first|(go_at_call 25;refine(ak.out _).mono ?_;rintro e w2 ⟨rfl,rfl⟩)|(go_at_call 35;refine(an.out _ (ja.drew _ _)).mono ?_;rintro e w3 ⟨rfl,h3⟩))
   all_goals
    go_wp2;go_meet
   all_goals exact h3.out
 case rest =>
  have aq:=jb hcut;obtain⟨S1,F1,a1,ah,ae,b8,X,T⟩:=hcut;have o5:=zA (o:=5) T;have M:=zA (o:=0) a1.row;simp at o5 M
  have a7:Hid (∀ W,ja wc W (fun _=>False)->0<=g->Calls prog 44 #[.pointer (some ⟨d,0,none⟩),.int .i64 pt] W fun e w'=>e = .returned (.tuple #[])/\Hid (Kb E B w0 q kb d b S s wv ess fl sf bd F O (X5.mk J A nb kv keys f g (.slice pc nc cc) l).row f g w')):=fun W kW k=>by
   refine((a1.same kW).cut pt (by omega)).mono ?_;rintro e w2 ⟨rfl,F2,h2,g2⟩;exact⟨rfl,⟨_,F2,h2,ah.trans (Alike.cut _ _),fun t=>ae t,fun t=>by omega,(X.same kW).trans g2,g2.1.same (kW.same T id) (X.off D.out.1 D.out.2)⟩⟩
  have H:Hid (g<0->Kb E B w0 q kb d b S s wv ess fl sf bd F O (X5.mk J A nb kv keys f g (.slice pc nc cc) l).row f g wc):=fun k=>⟨S1,F1,a1,ah,ae,fun _=>b8 (by omega),X,T⟩;clear a1 ah ae b8 X T G I o4
  go_upto_if 19 with fail
  obtain⟨w2,bv⟩:∃ w2,w2=wc:=⟨_,rfl⟩
  go_cut [] from 6 (fun wc=>Kb E B w0 q kb d b S s wv ess fl sf bd F O (X5.mk J A nb kv keys f g (.slice pc nc cc) l).row f g wc)
  case first =>
   rcases(by omega:g<0\/0<=g)with k|k
   ·have bz:¬0<=g:=by omega
    have HR:=jb (H.out k);go_wp2;go_meet
    case rel=>exact HR.out
   ·have an:=jb (fun W kW=>a7.out W kW k)
    have d3:wc.drew.cell? ⟨O,5,none⟩=some (.int .i64 g):=o5;have c2:wc.drew.cell? ⟨kb,0,none⟩=some (.pointer (some ⟨d,0,none⟩)):=M
    go_upto_region 4 with fail
    go_region_with (first|(go_at_call 25;refine(am.out _).mono ?_;rintro e w2 ⟨rfl,rfl⟩)|(go_at_call 44;refine(an.out _ (ja.drew _ _)).mono ?_;rintro e w3 ⟨rfl,h3⟩))
    all_goals
     go_wp2;go_meet
    all_goals exact h3.out
  case rest =>
   clear o5 M bv aq a7 H ak am b5 v;obtain⟨S2,F2,a0,ag,b7,Y,V,j⟩:=hcut;have af:=HU.out.alike ag;have b3:total S2.files S2.names<=5000:=by rw[ag.total];exact HV.out
   have C:od wc w0.heap.size x:=HA.out.keep V.1 (fun i hi t=>by have:=(a4.out.lt t).1;omega);have R:=HX.out;have c5:=jb V;have bi:Hid (zz w (bkG F kb wv) wc (bkG F2 kb wv)):=V.after bg.out;have ap:=jb (jfm a0 af (by omega) (by omega) x C.chs (by rw[R];exact fun t u=>⟨b7 t,Y u⟩) (by rw[R];exact Y));have ao:=jb (jgs a0 af b3 hN hL x C.kd C.keys);rw[R] at ap ao;have o0:=zA (o:=0) j;have o1:=zA (o:=1) j;have o2:=zA (o:=2) j;have o3:=zA (o:=3) j;have o4:=zA (o:=4) j;have o5:=zA (o:=5) j;have o6:=zA (o:=6) j;simp at o0 o1 o2 o3 o4 o5 o6;have c9:=jb a0;have c7:=jb Y;have c4:=jb j;have ca:=jb C;have bf:=jb HU.out.st;clear a0 ag b7 Y V j af b3 C R;by_cases hP:P=7
   ·subst hP
    go_wp2_with fail;refine(al.out _).mono ?_;rintro e w3 ⟨rfl,bu⟩;subst w3;go_wp2_with fail;refine ap.out.mono ?_;rintro e w4 ⟨rfl,h4⟩;have H4:Hid (gx E B w0 w kb d F wv N L w4):=(h4.act bf.out.small (by have:=bf.out.len;omega) (by omega) (by omega)).after bi.out;clear h4;go_wp2;go_ret;exact⟨rfl,H4.out⟩
   ·have d5:((P:Int)==7)=false:=by simp;omega
    clear ap;go_wp2_with fail;refine(al.out _).mono ?_;rintro e w3 ⟨rfl,bu⟩;subst w3;go_wp2_with fail;refine ao.out.mono ?_;rintro e w4 ⟨rfl,S4,s4,bt,m,bc,b2,c3,F4,Z,r,ba,U⟩;have ad:=U.1.same c4.out (c5.out.off D.out.1 D.out.2);have b9:=bi.out.trans U;have p5:=zA (o:=5) ad;have p6:=zA (o:=6) ad;have M:=zA (o:=0) Z.row;simp at p5 p6 M;have bj:=jb (Z.fail (-1) (by omega));have bb:od w4 w0.heap.size x:=ca.out.keep U.1 (fun i hi t=>by have:=(c9.out.lt t).1;omega);have b6:m.length<=131072:=by have:=r.st.len;omega
    have b4:b2<=131072:=by have:=r.st.sf;have:Ju m bc<=m.length:=Nat.sub_le _ _;omega
    have v:Zm w4 w0.heap.size (.slice pc nc cc) l:=by have:=bb.chs;rw[HX.out] at this;exact this
    have bk:=jb (jbj Z r.left.rest (by omega) r.st.small b6 b4 v);have aj:=jb r;have c6:=jb ba;have bh:=jb b9;clear Z r ba U ad b9 bb b6 b4 v o0 o1 o2 o3 o4 o5 o6 ao HX;rcases(by omega:g<0\/0<=g)with k|k
    ·clear p6 bk
     go_wp2_with fail;refine bj.out.mono ?_;rintro e w5 ⟨rfl,F5,h5,g5⟩;have H5:Hid (gx E B w0 w kb d F wv N L w5):=(show _ from⟨b,_,s4,bt,m,bc,b2,c3,F5,h5,(aj.out.alike (Alike.fail _ _)).toN.mono (by omega) (ZQ _),⟨rfl,c6.out (c7.out k)⟩,bh.out.trans g5⟩);clear h5 g5;go_wp2;go_ret;exact⟨rfl,H5.out⟩
    ·have cq:¬g<0:=by omega
     clear M bj;go_wp2_with fail;refine bk.out.mono ?_;rintro e w5 ⟨rfl,h5⟩;have H5:Hid (gx E B w0 w kb d F wv N L w5):=(h5.act aj.out.st.small aj.out.st.len (by omega) (ZQ _)).after bh.out;clear h5;go_wp2;go_ret;exact⟨rfl,H5.out⟩
end Go.Proofs.YtnipbplghijdmaaGreatDoor
namespace Go.Proofs.YtnipbplghijdmaaGreatDoor
open RowKit Maps WideShapes Go.Proofs.Tryz
variable {E:Nat->Addr} {B:Nat} {w w':World}
theorem jfu(H:Env E B w)(f:B<=w.heap.size):Calls prog 16 #[] w fun e w'=>∃ d ρ,e = .returned (.pointer (some ⟨d,0,none⟩))/\Dk E B w' ρ d jc.new/\ja w w' (fun _=>False)/\∀ i,ρ i≠ .none->w.heap.size<=i:=by
 refine(je4 w).mono ?_;rintro e w' ⟨rfl,R,b⟩
 have c:∀ i,l9 w.heap.size i≠ .none->w.heap.size<=i:=fun i hi=>by
  unfold l9 at hi;rcases ZM i w.heap.size with h|h
  ·exfalso
   apply hi
   repeat' split
   all_goals first|rfl|omega
  ·exact h
 exact⟨_,_,rfl,⟨R,H.z8.keep b (fun _ h=>h.elim),fun i hi=>ZR f (c i hi),ZR f b.size⟩,b,c⟩
def jg0(E:Nat->Addr)(B:Nat)(w:World)(ρ:Nat->j3)(d:Nat)(e:Ending)(w':World):Prop :=
 ∃ b F S',e = .returned (.tuple #[.pointer (some ⟨b,0,none⟩),.int .i64 0])/\w.heap.size<=b/\Qt E B w' d b S' 60000 Rf.St.first false F/\Norm S' 20000 Rf.St.first (qi [] 0 0 2 0).whole/\qh S'/\ja w w' (fun i=>ρ i≠ .none)/\∀ i,F i->ρ i≠ .none\/w.heap.size<=i
theorem jbh:(qi [] 0 0 2 0).now Rf.St.first:=qi.now (by decide) (by decide) (ZQ _) (ZQ _) rfl
theorem Hb{ρ:Nat->j3}{d:Nat}(D:Dk E B w ρ d jc.new)(H:Env E B w):Calls prog 45 #[.pointer (some ⟨d,0,none⟩)] w (jg0 E B w ρ d):=by
 refine(Vs D qh.new ⟨[],⟨bw.nil,fun p hp=>(by cases hp),List.Pairwise.nil⟩,List.Perm.refl _⟩ Fit.new H (by omega)).mono ?_;rintro e w' ⟨S',r,u,b,l,rv,m,x,y,M,q,s,v,g⟩;have N:Norm S' 200 Rf.St.first (qi [] 0 0 2 0).whole:=Vo (S:=jc.new.called false) rfl rfl rfl (fun f=>rfl) jbh r;have o:=N.mono (V:=20000) (by omega) (Want.Le.refl _);refine⟨b,fun i=>StF l b m i\/∃ p n c,rv = .slice (some p) n c/\p.block=i,S',x,y,Qt.fit ⟨l,rv,m,M,fun _=>Iff.rfl⟩ (o.fit (by omega)),o,u,q,fun i hi=>?_⟩;rcases ZM i w.heap.size with j|k
 ·refine .inl ?_
  rcases hi with(t|t|t)|⟨p,n,c,e,rfl⟩
  ·rw[<-s i j];exact t
  ·omega
  ·have:=v i t;omega
  ·have:=g p n c e;omega
 ·exact .inr k
end Go.Proofs.YtnipbplghijdmaaGreatDoor
namespace Go.Proofs.YtnipbplghijdmaaGreatDoor
open RowKit Maps WideShapes Go.Proofs.Tryz
variable {E:Nat->Addr} {B:Nat} {w w':World}
def jg1(E:Nat->Addr)(B:Nat)(w:World)(e:Ending)(w':World):Prop :=
 ∃ kb d b S F,e = .returned (.pointer (some ⟨kb,0,none⟩))/\Bk E B w kb d b S Rf.St.first (.slice none 0 0) [] false 0 false F w'/\X4 S Rf.St.first [] false 0 2 0 false/\qh S/\ja w w' (fun _=>False)
theorem jfk(H:Env E B w)(R:B<=w.heap.size):Calls prog 22 #[] w (jg1 E B w):=by
 have v:=jb (jfu H R);go_enter func22,ntmps22;go_wp2_with fail;refine v.out.mono ?_;rintro e y ⟨d,ρ,rfl,x,M,N⟩;obtain⟨kb,k⟩:∃ kb,kb=y.heap.size:=⟨_,rfl⟩;obtain⟨l,c⟩:∃ l,l=y.alloc (.cells #[.pointer (some ⟨d,0,none⟩),.pointer none,.slice none 0 0,.bool false,.int .i64 0,.bool false] 51):=⟨_,rfl⟩;have L:ja y l (fun _=>False):=by rw[c];exact ja.alloc _ _ _
 have q:l.heap[kb]?=some (.cells #[.pointer (some ⟨d,0,none⟩),.pointer none,.slice none 0 0,.bool false,.int .i64 0,.bool false] 51 (0,0)):=by rw[c,k];exact je _ _
 have j:ja w l (fun _=>False):=M.tt L;have C:=jb (Hb (x.same L) (H.same j));have m:ρ kb = .none:=yD (fun hn=>by have:=x.rep.lt kb hn;omega);have g:=jb k;have s:=jb q;have Z:=M.size;have a0:=jb x;clear k q x;go_wp2_with fail;rw[<-c];clear c;refine C.out.mono ?_;rintro e V ⟨b,F,X,rfl,hb,T,U,S,J,O⟩;have f:=J.same s.out (fun t=>t m);have W:=zA (o:=1) f;have f1:=zB (o:=1) f;simp at W;have G:=jb f
 have p:¬F kb:=fun h=>by
  rcases O kb h with t|t
  ·exact t m
  ·have:=zC s.out;omega
 have z:B<=kb:=by have:=g.out;omega
 have D:=jb U;have A:=jb S;have r:=jb T;rw[<-g.out];clear f U S T;go_wp2;go_ret;have I:=ja.setCell V ⟨kb,1,none⟩ (.pointer (some ⟨b,0,none⟩));obtain⟨_,_,Y,_⟩:=r.out.xl
 have u:∀ i,F i->w.heap.size<=i:=fun i hi=>by
  rcases O i hi with t|t
  ·exact N i t
  ·have:=j.size
   omega
 refine⟨kb,d,b,X,F,rfl,⟨(jd G.out _).trans rfl,(r.out.keep I (fun i _ e=>by rw[e];exact⟨z,p⟩)).fit (Y.mono (by omega)),Wr.first _ _ _,⟨p,by have:=g.out;omega⟩,u,R⟩,X4.opened (ess:=[]) (n:=0) D.out (ZQ _) (fun b h=>(by cases h)) (ZQ _),A.out,(j.trans J (fun i hi t=>by have:=N i t;omega)).trans I (fun i hi e=>by have e':i=kb:=e;have:=g.out;omega)⟩
end Go.Proofs.YtnipbplghijdmaaGreatDoor
namespace Go.Proofs.YtnipbplghijdmaaGreatDoor
open RowKit Maps WideShapes Go.Proofs.Tryz
theorem U8(key:Str):∀(ls:List (List Rf.Ch)),(∀ l∈ls,Rf.jw l)->∀(S:jc),∃ S',xi S S'/\(zw key (xx (ls.map Rf.chunks) key) S=(S',.inl (Rf.mi ls key))\/(zw key (xx (ls.map Rf.chunks) key) S=(S',.inr true)/\¬qh S)):=by
 intro ls
 induction ls with
 | nil=>intro _ S;exact⟨S,xi.refl S,.inl rfl⟩
 | cons l r ih =>
  intro d S;have f:zw key (xx ((l::r).map Rf.chunks) key) S=zw key (Y4 (Rf.chunks l) key::xx (r.map Rf.chunks) key) S:=rfl;rw[f]
  cases hb:S.bad with
  | true =>
   have b:Y4 (Rf.chunks l) key S=(S.called false,[],some true):=by
    unfold Y4 o9 Zt;rw[hb];rfl
   rw[bc,b];exact⟨_,xi.called S,.inr ⟨rfl,fun w=>by rw[w.bad] at hb;cases hb⟩⟩
  | false =>
   have b:Y4 (Rf.chunks l) key S=(S.called false,l.filter (Rf.qk key),none):=by
    unfold Y4 o9 Zt;rw[hb,Rf.Xu];rfl
   rw[Cr (d l ZG) b,Rf.Xy]
   cases hg:Rf.yb l key with
   | some c=>exact⟨_,xi.called S,.inl rfl⟩
   | none =>
    obtain⟨S',i,g⟩:=ih (fun x hx=>d x (ZH _ hx)) (S.called false);exact⟨S',(xi.called S).trans i,g.imp id (fun h=>⟨h.1,fun w=>h.2 (w.called false)⟩)⟩
theorem jgp{s:Rf.St}(h:s.Ok)(key:Str)(S:jc):∃ S',xi S S'/\(zw key (Yx (s.mem.drop (Rf.below s.mem key))::xx (s.bls.map Rf.chunks) key) S=(S',.inl (Rf.yb s.all key))\/(zw key (Yx (s.mem.drop (Rf.below s.mem key))::xx (s.bls.map Rf.chunks) key) S=(S',.inr true)/\¬qh S)):=by
 have f:s.mem.drop (Rf.below s.mem key)=s.mem.filter (Rf.qk key):=Rf.vv (Rf.za _) key
 have b:∀ l∈s.mem::s.bls,Rf.jw l:=fun l d=>by
  rcases zN.1 d with rfl|d
  ·exact Rf.za _
  ·exact jc5 h l d
 rw[Cr (l:=s.mem) (T:=S) (Rf.za _) (by unfold Yx;rw[f])];unfold Rf.St.all;rw[Rf.Ze b,Rf.Xy]
 cases hg:Rf.yb s.mem key with
 | some c=>exact⟨S,xi.refl S,.inl rfl⟩
 | none=>exact U8 key s.bls (jc5 h) S
variable {E:Nat->Addr} {B:Nat} {w w':World} {d b k U V:Nat} {S S':jc} {s:Rf.St} {deg:Bool} {F:Nat->Prop}
theorem jfv(O:Qt E B w d b S k s deg F)(i:s.Ok)(r:Jm S s)(D:k<540000000000)(key:Str) :
 Calls prog 33 #[.pointer (some ⟨b,0,none⟩),jf key] w fun e w'=>∃ S',xi S S'/\((e = .returned (.tuple #[jf (R6 (Rf.yb s.all key)).1,.bool (R6 (Rf.yb s.all key)).2,.int .i64 0])/\qg E B w d b S' k s deg F w') \/
  (¬qh S/\e = .returned (.tuple #[jf [],.bool false,.int .i64 1])/\qg E B w d b S' k s true F w')):=by
 obtain⟨ρ,rv,u,T,x⟩:=O;have A:Ba s.m s.bls k S:=⟨T.fit,r.bytes⟩;have R:=o7 i.yy i.len i.bl (k:=k) (by omega);have C:=T.au;obtain⟨S',q,e⟩:=jgp i key S;refine(jfc s.m rv (jg s.last) u s.mem deg (s.bls.map Rf.chunks) T.env T.xl A R T.row (fun h=>h T.nb.1) T.nb.2 T.runs (by omega) (Je T.mem) (Lw i T.few) (fun p n c e=>?_) key).mono ?_
 ·have j:u.ownBlock=some p.block:=by rw[e];rfl
  exact⟨fun t=>t (T.nm _ j).1,(T.mem.lt _ j).2⟩
 ·rintro H w' ⟨v,l,G,h⟩
  have y:=q.fit T.fit;rcases e with e|⟨e,z⟩
  ·rw[e] at l h
   refine⟨S',q,.inl ?_⟩;rcases h with⟨o,g,rfl,f⟩|⟨bad,g,_⟩
   ·cases g
    exact⟨rfl,qg.of (s':=s) T x (T.next v (fun _ _=>rfl) l y f)⟩
   ·cases g
  ·rw[e] at l h
   refine⟨S',q,.inr ⟨z,?_⟩⟩;rcases h with⟨o,g,_⟩|⟨bad,g,rfl,f⟩
   ·cases g
   ·exact⟨rfl,qg.of (s':=s) T x (T.next v (fun _ _=>rfl) l y f)⟩
end Go.Proofs.YtnipbplghijdmaaGreatDoor
namespace Go.Proofs.YtnipbplghijdmaaGreatDoor
open RowKit Maps WideShapes Go.Proofs.Tryz
variable {E:Nat->Addr} {B:Nat} {w W W':World} {d b k U:Nat} {S S':jc} {s:Rf.St} {deg:Bool} {F:Nat->Prop} {Q:Want}
theorem qg.new(f:ja w W (fun _=>False))(g:∀ i,F i->w.heap.size<=i)(h:qg E B W d b S k s deg F W') :
 ∃ F',Qt E B W' d b S k s deg F'/\(∀ i,F' i->w.heap.size<=i)/\ja w W' (fun _=>False):=by
 obtain⟨F',O,j,c⟩:=h;refine⟨F',O,fun i hi=>?_,f.trans j (fun i hi t=>by have:=g i t;omega)⟩;rcases c i hi with t|t
 ·exact g i t
 ·exact ZR f.size t
theorem Norm.wk(h:Norm S U s Q):total S.files S.names<=Go.Proofs.YtnipbplghijdmaaGreatDoor.qt s.files:=by
 obtain⟨V,i,e,_⟩:=h.Mk;rw[<-e]
 have o:∀ p∈s.files,p∈V:=fun p j=>by
  rcases Zx.1 j with rfl|rfl|j
  ·obtain⟨f,a,d,g,b⟩:=h.pow.held.1
   have:=i.of d g;rwa [b.bytes] at this
  ·obtain⟨f,a,d,g,b⟩:=h.th
   have:=i.of d g;rwa [b.1] at this
  ·obtain⟨f,a,d,g,b⟩:=h.Q2 p j
   have:=i.of d g;rwa [b.bytes] at this
 unfold Go.Proofs.YtnipbplghijdmaaGreatDoor.qt;refine Er _ (List.Pairwise.imp (fun hac e=>hac (by rw[e])) i.apart) (fun p j=>?_);obtain⟨f,a,d,g,b⟩:=i.get j
 have r:∃ c,(p.1,c)∈s.files:=by
  rcases Qg.1 (h.only p.1 f d)with⟨k,t,e⟩|e|e
  ·exact h.ok.there p.1 (xX _ (by rw[e];exact zO.2 ⟨k,t,rfl⟩))
  ·exact h.ok.there p.1 (xY _ (by rw[e];exact ZW.2 rfl))
  ·exact⟨_,Zx.2 (.inl (by rw[e]))⟩
 obtain⟨c,q⟩:=r;obtain⟨y,a',n,m,l⟩:=i.get (o _ q);rw[d] at n;cases n;rw[g] at m;cases m
 have u:p=(p.1,c):=by
  obtain⟨x,v⟩:=p;simp only at b l ⊢;rw[<-b,<-l]
 rw[u];exact q
theorem Wq{l:List Rf.Ch}(h:Rf.jw l)(k:Str):R6 (Rf.yb l k)=(match Rf.yb (Rf.there l) k with|some c=>(c.value,true)|none=>([],false)):=by
 rw[Rf.a8 h]
 cases Rf.yb l k with
 | none=>rfl
 | some c=>by_cases hg:c.gone=true<;>simp[R6,Option.filter,hg]
def eA:List Rf.Ch:=[⟨[107],[118],false⟩,⟨[108],[119],false⟩]
def eB:List Rf.Ch:=[⟨[108],[],true⟩]
def suA:Rf.St:=Rf.St.first.write eA
def suB:Rf.St:=suA.flush
def suC:Rf.St:=suB.write eB
theorem jcb:qt Rf.St.first.files<=5000:=by decide +kernel
theorem jhl:qt suA.files<=5000:=by decide +kernel
theorem jhk:qt suB.files<=5000:=by decide +kernel
theorem jg4:qt suC.files<=5000:=by decide +kernel
theorem jf5(h:s.tell=Rf.zn [eA,eB]):R6 (Rf.yb s.all [107])=([118],true)/\R6 (Rf.yb s.all [108])=([],false):=by
 have b:Rf.there s.all=Rf.zn [eA,eB]:=h;rw[Wq (Rf.St.mz _),Wq (Rf.St.mz _),b];constructor<;>decide +kernel
theorem jf4:Rf.zm eA=true:=by decide
theorem jf3:Rf.zm eB=true:=by decide
theorem V0{ess:List (List Rf.Ch)}{N L:Nat}(O:Qt E B w d b S 60000 s false F)(n:Norm S U s (qi ess 0 ess.length N L))(u:qt s.files<=5000)(r:qh S)(m:Value)(f:List Rf.Ch)(i:Rf.zm f=true)(q:Chs w m f)(j:∀ p n c,m = .slice (some p) n c->¬F p.block)(y:L<1000000000) :
 Calls prog 24 #[.pointer (some ⟨b,0,none⟩),m] w fun e w'=>e = .returned (.int .i64 0)/\∃ S',qg E B w d b S' 60000 (s.write f) false F w'/\Norm S' 6000 (s.write f) (qi (ess++[f]) 0 (ess.length+1) N (L+1))/\qh S':=by
 have g:total S.files S.names<=5000:=ZR n.wk u;have k:=n.reset g;refine(V6 (U:=5400) (R:=qi (ess++[f]) 0 (ess.length+1) N (L+1)) (R':=qi (ess++[f]) 0 ess.length N (L+1)) O k (by omega) (by omega) m f i q j (by have:=k.now.1.2.1;omega) (fun t g=>qi.snoc g _) (qi.write k.now f (zX _)) (fun t g=>qi.snoc g _) (qi.Lh k.now f (zX _)) (fun l hl=>sw (s:=s.write f) (E0 u i) hl) (fun l hl=>sw (s:=s) (by omega) hl)).mono ?_;rintro e w' (⟨rfl,S',x,v,_,o⟩|⟨_,S',_,_,_,_,o⟩)
 ·exact⟨rfl,S',x,v,o r⟩
 ·exact absurd r o
theorem jf2(H:Env E B w)(hB:B<=w.heap.size):Calls prog 21 #[] w fun e w'=>e = .returned (.bool true)/\ja w w' (fun _=>False):=by
 have am:=jb (jfu H hB);go_enter func21,ntmps21;go_wp2_with fail;refine am.out.mono ?_;rintro e w1 ⟨d,ρ,rfl,D1,k1,hρ⟩;have b8:=jb (Hb D1 (H.same k1));go_wp2_with fail;refine b8.out.mono ?_;rintro e A ⟨b,G2,S2,rfl,hb,O2,N2,W2,k2,b3⟩;have N:ja w A (fun _=>False):=k1.trans k2 (fun i hi t=>by have:=hρ i t;omega)
 have b5:∀ i,G2 i->w.heap.size<=i:=fun i hi=>by
  rcases b3 i hi with t|t
  ·exact hρ i t
  ·have:=k1.size;omega
 have j:=World.ownsRow_lit (base:=w.heap.size) (e:=88) (size:=3) A #[.string ⟨#[107]⟩,.string ⟨#[118]⟩,.bool false,.string ⟨#[108]⟩,.string ⟨#[119]⟩,.bool false] 2 N.size (by unfold maxLen;omega) rfl;have o:Chs (A.alloc (.cells #[.string ⟨#[107]⟩,.string ⟨#[118]⟩,.bool false,.string ⟨#[108]⟩,.string ⟨#[119]⟩,.bool false] 88)) (.slice (some ⟨A.heap.size,0,none⟩) 2 2) eA:=Je j;have kA:=ja.alloc A (.cells #[.string ⟨#[107]⟩,.string ⟨#[118]⟩,.bool false,.string ⟨#[108]⟩,.string ⟨#[119]⟩,.bool false] 88) (fun _=>False);have HW:=jb (V0 (ess:=[]) (O2.same kA) (N2.mono (ZQ _) (Want.Ev _)) jcb W2 _ eA jf4 o (fun p n c e t=>by cases e;have:=(O2.old t).2;simp at this) (by decide));have b9:=jb (N.tt kA);have bn:=jb b5;clear j o O2 N2 W2 kA;go_wp2_with fail;refine HW.out.mono ?_;rintro e w3 ⟨rfl,S3,h3,C,W3⟩;obtain⟨G3,O3,a7,M⟩:=qg.new b9.out bn.out h3;have aa:=C.mono (V:=6000) (ZQ _) (qi.le (N':=2+2) (by omega) (ZQ _));have ah:=jb (Ws O3 aa (by omega) (ZR C.wk jhl) (by have:=C.now.1.1;omega) (qi.flush C.now));have bm:=jb a7;have bf:=jb M;have ae:=jb W3;clear h3 O3 C aa W3 a7 M HW;go_wp2_with fail;refine ah.out.mono ?_;rintro e w4 (⟨rfl,S4,h4,L4,_,_,W4⟩|⟨_,S4,_,_,_,_,_,_,f⟩)
 case inr=>exact absurd ae.out f
 obtain⟨G4,O4,a6,v⟩:=qg.new bf.out bm.out h4;have g:=World.ownsRow_lit (base:=w.heap.size) (e:=88) (size:=3) w4 #[.string ⟨#[108]⟩,.string ⟨#[]⟩,.bool true] 1 v.size (by unfold maxLen;omega) rfl;have l:Chs (w4.alloc (.cells #[.string ⟨#[108]⟩,.string ⟨#[]⟩,.bool true] 88)) (.slice (some ⟨w4.heap.size,0,none⟩) 1 1) eB:=Je g;have kB:=ja.alloc w4 (.cells #[.string ⟨#[108]⟩,.string ⟨#[]⟩,.bool true] 88) (fun _=>False);have af:=jb (V0 (ess:=[eA]) (O4.same kB) L4.norm jhk (W4 ae.out) _ eB jf3 l (fun p n c e t=>by cases e;have:=(O4.old t).2;simp at this) (by decide));have bl:=jb a6;have be:=jb (v.tt kB);clear g l h4 O4 L4 W4 a6 v kB ah;go_wp2_with fail;refine af.out.mono ?_;rintro e w5 ⟨rfl,S5,h5,u,W5⟩;obtain⟨G5,O5,a5,L⟩:=qg.new be.out bl.out h5;have a9:=(u.reset (ZR u.wk jg4)).mono (V:=5400) (ZQ _) (qi.le (N':=4+2) (by omega) (ZQ _));have ak:=jb (L8 O5 a9 (by omega) (ZR u.wk jg4) (by have:=u.now.1.1;omega) (qi.j8 u.ok u.now));have bk:=jb a5;have bd:=jb L;have ad:=jb W5;clear h5 O5 u a9 W5 a5 L af;go_wp2_with fail;refine ak.out.mono ?_;rintro e w6 (⟨rfl,S6,h6,L6,_,W6⟩|⟨_,S6,_,_,_,_,_,_,f⟩)
 case inr=>exact absurd ad.out f
 obtain⟨G6,O6,a3,J⟩:=qg.new bd.out bk.out h6;obtain⟨ρ6,D6,al,a8⟩:=O6.xl;obtain⟨U6,m6,cg,Q6,U,P6,k,X⟩:=L6.left.rest.Tk (fun t q=>q)
 have r:=jb (Uf (V:=20000) (R:=jft [eA,eB] 2 7 2) D6 al O6.env (by omega) P6 ⟨fun _ _=>trivial,fun t ht=>by obtain⟨⟨a1,a2,_⟩,a4⟩:=k t ht;exact⟨by omega,a2,2,ZQ _,by decide,a4⟩,fun _ _=>trivial⟩
  (fun t ht _=>by obtain⟨⟨a1,a2,_⟩,a4⟩:=k t ht;exact⟨by show t.m.next+1<=7;omega,a2,2,ZQ _,by decide,a4⟩) (fun t ht=>by have:=(k t ht).1.1;omega) U (ZQ _) X)
 have ai:=jb a3;have ag:=jb J;have ac:=jb (W6 ad.out);have aj:=jb a8;clear h6 O6 L6 W6 a3 J D6 al P6 k X U a8 ak;go_wp2_with fail;refine r.out.mono ?_;rintro e w7 (⟨_,f,_⟩|⟨b7,G7,S7,s7,rfl,cv,O7,z,_,W7,_,k7,Y⟩)
 case inl=>exact absurd ac.out f
 have I:ja w w7 (fun _=>False):=ag.out.trans k7 (fun i hi t=>by have:=ai.out i (aj.out i t);omega)
 have a0:∀ i,G7 i->w.heap.size<=i:=fun i hi=>by
  rcases Y i hi with t|t
  ·exact ai.out i (aj.out i t)
  ·have:=ag.out.size;omega
 obtain⟨_,_,n7,b1,T,S⟩:=z.now;have b0:n7=2:=by have:n7<=2:=T;omega
 subst b0;obtain⟨g1,g2⟩:=jf5 (s:=s7) S;have y:=jb (jfv O7 z.ok z.Q2 (by omega) [107]);rw[g1] at y
 have bh:Hid (∀ W S' F,xi S7 S'->Qt E B W d b7 S' 60000 s7 false F->Calls prog 33 #[.pointer (some ⟨b7,0,none⟩),jf [108]] W fun e w'=>∃ S'',xi S' S''/\((e = .returned (.tuple #[jf [],.bool false,.int .i64 0])/\qg E B W d b7 S'' 60000 s7 false F w')\/(¬qh S'/\e = .returned (.tuple #[jf [],.bool false,.int .i64 1])/\qg E B W d b7 S'' 60000 s7 true F w'))):=fun W S' F hL O=>by
  have:=jfv O z.ok (z.Q2.alike hL.jha) (by omega) [108];rwa [g2] at this
 have bj:=jb a0;have bc:=jb I;have ab:=jb (W7 ac.out);clear O7 z W7 Y k7 I a0 g1 g2 S r b1 T;go_wp2_with fail;refine y.out.mono ?_;rintro e w8 ⟨S8,x,⟨rfl,h8⟩|⟨f,_⟩⟩
 case inr=>exact absurd ab.out f
 obtain⟨G8,O8,Z,G⟩:=qg.new bc.out bj.out h8;have bg:=jb (bh.out w8 S8 G8 x O8);have b6:=jb (x.u9 ab.out);have bb:=jb G;have bi:=jb Z;clear h8 O8 x G Z y;go_wp2_with fail;refine bg.out.mono ?_;rintro e w9 ⟨S9,b2,⟨rfl,h9⟩|⟨f,_⟩⟩
 case inr=>exact absurd b6.out f
 obtain⟨G9,O9,b4,D⟩:=qg.new bb.out bi.out h9;have ba:=jb D;clear h9 O9 b2 D b4;go_wp2;go_ret;exact⟨rfl,ba.out⟩
end Go.Proofs.YtnipbplghijdmaaGreatDoor
namespace Go.Proofs.YtnipbplghijdmaaGreatDoor
open RowKit Maps WideShapes Go.Proofs.Tryz
variable {E:Nat->Addr} {B:Nat} {w w' w0 wz:World} {d b k kb U V N L:Nat} {S S':jc} {s:Rf.St} {F T:Nat->Prop} {Q R:Want} {m:Rf.Man} {bls:List (List Rf.Ch)} {ess:List (List Rf.Ch)} {wv:Value} {fl bd:Bool} {sf lv:Nat}
structure B8(W:World)(B b o:Nat)(x:X5):Prop where
 c0:W.cell? ⟨b,o,none⟩=some (.int .i64 x.kd)
 c1:W.cell? ⟨b,o+1,none⟩=some (.int .i64 x.A)
 c2:W.cell? ⟨b,o+2,none⟩=some (.int .i64 x.N)
 c3:W.cell? ⟨b,o+3,none⟩=some x.kv
 c4:W.cell? ⟨b,o+4,none⟩=some (.int .i64 x.fa)
 c5:W.cell? ⟨b,o+5,none⟩=some (.int .i64 x.ct)
 c6:W.cell? ⟨b,o+6,none⟩=some x.cv
 hb:b<B
 ok:od W B x
theorem B8.keep{W f:World}{B b o:Nat}{x:X5}{T:Nat->Prop}(h:B8 W B b o x)(k:ja W f T)(d:∀ i,i<B->¬T i):B8 f B b o x:=by
 have c:=d b h.hb;exact⟨k.cell h.c0 c,k.cell h.c1 c,k.cell h.c2 c,k.cell h.c3 c,k.cell h.c4 c,k.cell h.c5 c,k.cell h.c6 c,h.hb,h.ok.keep k d⟩
def Vx(W:World)(B:Nat)(p:Option Addr)(ac:List X5):Prop:=∀ i (h:i<ac.length),∃ b o,p=some ⟨b,o,none⟩/\B8 W B b (o+i*7) ac[i]
theorem Zm.mono{d b:Nat}{v:Value}{ch:List Int}(h:Zm w d v ch)(q:d<=b):Zm w b v ch:=by
 obtain⟨o,c,e,m,l,j,i⟩:=h;exact⟨o,c,e,m,l,j,fun hne=>by obtain⟨g,k,n,p,f⟩:=i hne;exact⟨g,k,n,by omega,f⟩⟩
theorem od.mono{f d:Nat}{a:X5}(h:od w f a)(b:f<=d):od w d a:=⟨h.kd,h.A,h.N,h.fa,h.ct,h.keys,fun hne p n c e=>ZA (h.jdn hne p n c e) b,h.chs.mono b⟩
theorem Pow.view(h:Pow S U m bls Q):∃ V,View S V/\qt V=Go.Proofs.YtnipbplghijdmaaGreatDoor.total S.files S.names/\qt V<=U:=by
 have d:=h.total;obtain⟨T,c,f⟩:=h.cur;have b:View S (Ql S.files T):=⟨T,c.fs,List.Perm.refl _⟩;have e:=b.total;exact⟨_,b,e.symm,by unfold qt at e ⊢;omega⟩
theorem X4.view(h:X4 S s ess fl sf N L bd):∃ V,View S V/\qt V=total S.files S.names/\qt V<=20000:=by
 rcases h.xl with⟨h,_⟩|⟨_,⟨m,d,h⟩|⟨m,d,h⟩⟩
 ·exact h.pow.view
 ·obtain⟨V,c,b,f⟩:=h.view;exact⟨V,c,b,by omega⟩
 ·obtain⟨V,c,b,f⟩:=h.view;exact⟨V,c,b,by omega⟩
theorem Bk.full(h:Bk E B w0 kb d b S s wv ess fl sf bd F w)(c:X4 S s ess fl sf N L bd):Calls prog 28 #[.pointer (some ⟨kb,0,none⟩)] w fun e w'=>e = .returned (.bool (decide (5000<total S.files S.names)))/\ja w w' (fun _=>False):=by
 obtain⟨V,g,f,j⟩:=c.view;obtain⟨ρ,D,i,_⟩:=h.own.xl;have:=jgn D i g (by omega) h.row (by omega);rw[f] at this;exact this
def we(E:Nat->Addr)(B:Nat)(w w1:World)(kb d i:Nat)(W:World):Prop :=
 ∃ b S s wv ess fl sf bd F,Bk E B w1 kb d b S s wv ess fl sf bd F W/\X4 S s ess fl sf (2+3*i) i bd/\qh S/\ja w W (fun _=>False)
def I4(E:Nat->Addr)(B:Nat)(w:World)(e:Ending)(w':World):Prop :=
 ∃ kb d w1 i,e = .returned (.pointer (some ⟨kb,0,none⟩))/\w.heap.size<=w1.heap.size/\i<=131072/\we E B w w1 kb d i w'
theorem we.same{c:World}{i:Nat}(h:we E B w c kb d i wz)(k:ja wz w' (fun _=>False)):we E B w c kb d i w':=by
 obtain⟨b,S,s,wv,ess,n,f,o,F,m,l,j,g⟩:=h;exact⟨b,S,s,wv,ess,n,f,o,F,m.same k,l,j,g.tt k⟩
theorem jcu(H:Env E B w)(hB:B<=w.heap.size){p:Option Addr}{pc:Nat}{m:List X5}(r:Vx w w.heap.size p m)(hn:m.length<=131072) :
 Calls prog 34 #[.slice p m.length pc,.bool false] w (I4 E B w):=by
 have g:=jb (jf2 H hB);obtain⟨n,z⟩:∃ n,n=m.length:=⟨_,rfl⟩;rw[<-z] at hn ⊢;have HN:=jb z;have O:=jb r;clear r z;go_enter func34,ntmps34;go_wp2_with fail;refine g.out.mono ?_;rintro e T ⟨rfl,U⟩;have u:=jb (jfk (H.same U) (ZR hB U.size));have M:=jb U;clear U;go_wp2_with fail;refine u.out.mono ?_;rintro e w2 ⟨kb,d,b,S,F,rfl,l,q,y,k2⟩;have a5:Hid (we E B w T kb d 0 w2):=(show _ from⟨b,S,_,_,_,_,_,_,F,l,q,y,M.out.tt k2⟩);clear l q y k2 u g;go_wp2_with fail
 go_loopw [7,8,9] (fun t7 _ _ wr=>∃ i:Nat,t7 = .int .i64 i/\i<=n/\we E B w T kb d i wr) (fun t7 _ _ _=>n-(intOf t7).toNat)
 case atStart=>exact⟨0,rfl,zX _,a5.out⟩
 case round =>
  obtain⟨i,rfl,au,V⟩:=hrel;have HP:=jb V;have L:=M.out.size;have k:Hid (∀ W,ja wr W (fun _=>False)->I4 E B w (.returned (.pointer (some ⟨kb,0,none⟩))) W):=fun W kW=>⟨kb,d,T,i,rfl,L,by omega,V.same kW⟩;obtain⟨b,S,s,wv,ess,fl,sf,bd,F,l,q,y,I⟩:=V;rcases ZM i n with a1|av
  ·have a2:(i:Int)<(n:Int):=by omega
   have ar:IntKind.i64.wrap ((i:Int)+1)=(i:Int)+1:=zE (by omega) (by omega);have A:i<m.length:=by rw[<-HN.out];exact a1
   obtain⟨xb,xo,hp,f⟩:=O.out i A;subst hp;have o:=jb (l.full q);rcases ZM 5000 (total S.files S.names)with G|G
   ·have J:decide (5000<total S.files S.names)=true:=by simpa using G
    rw[J] at o;clear J G f l q y I A;go_wp2_with fail;refine o.out.mono ?_;rintro e R ⟨rfl,D⟩;have Y:=jb (k.out R D);clear D;go_wp2;go_ret;exact Y.out
   ·have J:decide (5000<total S.files S.names)=false:=by simp;omega
    rw[J] at o;have C:Hid (∀ W,ja wr W (fun _=>False)->B8 W w.heap.size xb (xo+i*7) m[i]):=fun W kW=>(f.keep I (fun _ _ t=>t)).keep kW (fun _ _ t=>t)
    have v:Hid (∀ W,ja wr W (fun _=>False)->Calls prog 76 #[.pointer (some ⟨kb,0,none⟩),.agg m[i].row] W fun e w'=>e = .returned (.bool true)/\Hid (we E B w T kb d (i+1) w')):=fun W kW=>by
     refine(jhe (l.same kW) (q.small G) G (by omega) (by omega) y m[i] ((C.out W kW).ok.mono L)).mono ?_;rintro e w' ⟨rfl,b',S',s',Z,N,a3,a0,a4,F',h1,h2,h3,X⟩;exact⟨rfl,⟨b',S',s',Z,N,a3,a0,a4,F',h1,h2.mono (by omega) (ZQ _),h3,(I.tt kW).trans X.1 (fun j hj t=>by have:=((l.same kW).lt t).1;omega)⟩⟩
    clear J G f l q y I;generalize m[i]=x at C v;obtain⟨kd,xA,xN,kv,keys,fa,ct,cv,aw⟩:=x;go_wp2_with fail;refine o.out.mono ?_;rintro e R ⟨rfl,D⟩;have c:=C.out R D;have c0:=c.c0;have c1:=c.c1;have c2:=c.c2;have c3:=c.c3;have c4:=c.c4;have c5:=c.c5;have c6:=c.c6;simp only at c0 c1 c2 c3 c4 c5 c6;have a6:=jb (v.out R D);clear c D A;go_wp2_with fail;refine a6.out.mono ?_;rintro e w4 ⟨rfl,X⟩;clear c0 c1 c2 c3 c4 c5 c6;go_wp2;exact⟨⟨i+1,by simp,by omega,X.out⟩,by simp[intOf];omega⟩
  ·have a2:¬(i:Int)<(n:Int):=by omega
   have Y:=jb (k.out wr (ja.refl _ _));clear l q y I;go_wp2;go_ret;exact Y.out
theorem Mo(H:Env E B w)(m:B<=w.heap.size){p:Option Addr}{pc:Nat}{g:List X5}(b:Vx w w.heap.size p g)(j:g.length<=131072) :
 Calls prog 11 #[.slice p g.length pc] w fun e w'=>e = .returned (.bool true)/\ja w w' (fun _=>False):=by
 have f:=jb (jcu H m (pc:=pc) b j);obtain⟨n,c⟩:∃ n,n=g.length:=⟨_,rfl⟩;rw[<-c] at f ⊢;clear b j c;go_enter func11,ntmps11;go_wp2_with fail;refine f.out.mono ?_;rintro e l ⟨kb,d,q,i,rfl,_,_,k⟩;have o:Hid (ja w l (fun _=>False)):=(show _ from by obtain⟨_,_,_,_,_,_,_,_,_,_,_,_,h⟩:=k;exact h);clear k;go_wp2;go_ret;exact⟨rfl,o.out⟩
end Go.Proofs.YtnipbplghijdmaaGreatDoor
