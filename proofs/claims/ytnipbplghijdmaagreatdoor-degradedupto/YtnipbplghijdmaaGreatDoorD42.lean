/-
  D: LoadR OpenR OpenR2 PwF.
-/
import Derived.Test.YtnipbplghijdmaaGreatDoorD41
import Derived.Test.YtnipbplghijdmaaGreatDoorD33
set_option maxRecDepth 100000
set_option maxHeartbeats 8000000
set_option linter.unusedVariables false
set_option linter.unusedSimpArgs false
namespace Go.Proofs.YtnipbplghijdmaaGreatDoor
open RowKit Maps WideShapes Go.Proofs.Tryz
variable {E:Nat->Addr} {B b d k:Nat} {w w':World} {m m2:Rf.Man} {bls bs:List (List Rf.Ch)} {R:DStep} {ml:List Rf.Ch} {e:Ending}
def ic(E:Nat->Addr)(B:Nat)(w:World)(ρ:Nat->j3)(d b:Nat)(S:jc)(k:Nat)(m:Rf.Man)(last:Nat)(ml:List Rf.Ch)(w':World):Prop :=
 ∃ ρ' rv mv,StM E B w' ρ' d b S k m last ml false rv mv/\ja w w' (fun i=>ρ i≠ .none\/i=b)/\(∀ i,i<w.heap.size->ρ' i=ρ i)/\(∀ g,mv.ownBlock=some g->w.heap.size<=g)/\(∀ p n c,rv = .slice (some p) n c->w.heap.size<=p.block)
def Dg(w:World)(b:Nat):Prop:=∃ dv a1 a2 a3 a4 a5 la mv deg cl,w.heap[b]?=some (.cells (qv dv a1 a2 a3 a4 a5 la mv deg cl) 121 (0,0))
def jhz(E:Nat->Addr)(B:Nat)(w:World)(ρ:Nat->j3)(d b:Nat)(S:jc)(k:Nat)(w':World):Prop :=
 ∃ ρ',Dk E B w' ρ' d S/\Fit k S/\ja w w' (fun i=>ρ i≠ .none\/i=b)/\(∀ i,i<w.heap.size->ρ' i=ρ i)/\Dg w' b
def tc(E:Nat->Addr)(B:Nat)(w:World)(ρ:Nat->j3)(d b:Nat)(S:jc)(k:Nat)(e:Ending)(w':World):Prop :=
 (∃ v,e = .returned v/\Err E w' v 1)/\jhz E B w ρ d b S k w'
def ju(m:Rf.Man):List Str:=jt m++[Fe]
def Qv(E:Nat->Addr)(B:Nat)(w:World)(ρ:Nat->j3)(d b:Nat)(S:jc)(k:Nat)(R:DStep)(m2:Rf.Man)(last:Nat)(ml:List Rf.Ch)(e:Ending)(w':World):Prop :=
 ∃ S1,qo S S1/\((¬qe S/\tc E B w ρ d b S1 k e w') \/
  ∃ S2 ok2,R S1 S2 ok2/\((ok2=false/\tc E B w ρ d b S2 k e w') \/
   (ok2=true/\(((jc.zl (ju m2) S2).2=true/\e = .returned .nilIface/\ic E B w ρ d b (jc.zl (ju m2) S2).1 k m2 last ml w') \/
    ((jc.zl (ju m2) S2).2=false/\tc E B w ρ d b (jc.zl (ju m2) S2).1 k e w')))))
theorem N4{ρ:Nat->j3}{SD:jc}(D:Dk E B w ρ d SD)(F:Fit k SD)(H:Env E B w)(hk:k<400000000000)(ok:(⟨m,bs,bls⟩:Rf.St).Ok)(cu:∀ p∈qq m.settled bls,At SD p.1 (fun a=>a.bytes=p.2))(cp:At SD (jh m.log) (fun a=>a.bytes=Rf.jk m.last bs))(bd:m.bytes.length<=20000/\(Rf.jk m.last bs).length<=20000)(b5:(Rf.memory bs).length<60000)(ag:m.runs.length<60000)(hb:w.heap[b]?=some (.cells (newRow d) 121 (0,0)))(J:ρ b = .none)(Y:B<=b)(vm:Value)(cd:Bytes w vm m.bytes) :
 Calls prog 131 #[.pointer (some ⟨b,0,none⟩),vm] w fun e w'=>Qv E B w ρ d b SD (2*k+300000) (Fn (jc.xx (ju m))) m (m.last+bs.length) (Rf.memory bs) e w':=by
 have ce:m.runs.length<65535:=ok.runs;have y:m.Good:=ok.y7;have db:=y.log;have ek:=y.1;have em:=ql m;have da:=bd.1;have O:=ku D.z8 D.size cd (by omega);rw[Rf.ur y (by omega)] at O;obtain⟨pm,cm,rfl,_⟩:=id cd;have bv:=jb O;have HB:=jb hb;have HK:=jb hk;have ev:=jb bd;have HF:=jb b5;have fe:=jb cu;have f9:=jb cp;have ew:=jb ag;have d2:Hid (m.log<=9223372036854775807):=jb (by omega);have bp:=jb ce;have b0:∀ n∈m.settled,n<=9223372036854775807:=fun n u=>by have h0:n<m.next:=(ok.Bp u).2;omega
 have dd:=jb b0;clear O hb hk bd ce y db ek em da b0 b5 cu cp ag;go_enter func131,ntmps131;go_wp2_with fail;refine bv.out.mono ?_;rintro e w1 ⟨k1,⟨m1,S,T,bi,rfl,al⟩|⟨v1,bi,_⟩⟩
 rotate_left
 ·cases bi
 cases bi;obtain⟨A,bh⟩:∃ A,A=m.runs.length:=⟨_,rfl⟩;rw[<-bh] at al ⊢;obtain⟨x,hx⟩:∃ x,x=w1.heap.size:=⟨_,rfl⟩;obtain⟨w2,a3⟩:∃ w2,w2=w1.alloc (.cells #[jg m.next,jg m.last,jg m.log,jg m.base,.slice S A T] 117):=⟨_,rfl⟩;have k2:ja w w2 (fun _=>False):=by rw[a3];exact k1.more _
 have M:w2.heap[x]?=some (.cells #[jg m.next,jg m.last,jg m.log,jg m.base,.slice S A T] 117 (0,0)):=by rw[a3,hx];exact je _ _
 have ci:w2.ownsRow w.heap.size 3 1 (.slice S A T) A (m.runs.map jg):=by rw[a3];exact al.alloc _
 have l:=k2.same HB.out id;have gg:=zC HB.out;have hu:w.heap.size<=x:=by rw[hx];exact k1.size
 have a5:∀ g,(Value.slice S A T).ownBlock=some g->w.heap.size<=g/\g<x:=fun g hg=>by rw[hx];exact al.lt g hg
 have x0:=zA (o:=0) M;have x1:=zA (o:=1) M;have x2:=zA (o:=2) M;have x3:=zA (o:=3) M;have x4:=zA (o:=4) M;have y1:=zA (o:=1) l;have y2:=zA (o:=2) l;have y3:=zA (o:=3) l;have y4:=zA (o:=4) l;have y5:=zA (o:=5) l;have y6:=zA (o:=6) l;have f1:=zB (o:=1) l;have f2:=zB (o:=2) l;have f3:=zB (o:=3) l;have f4:=zB (o:=4) l;have f5:=zB (o:=5) l;have f6:=zB (o:=6) l;simp at x0 x1 x2 x3 x4 y1 y2 y3 y4 y5 y6;have HX:=jb hx;have d1:=jb bh;have eu:=jb M;have fd:=jb l;have f0:=jb ci;have D2:=D.same k2;have E2:=H.same k2;clear hx bh M l al ci;go_wp2_with fail;rw[<-a3,<-HX.out];clear a3
 go_cut [] from 10 (fun wd=>wd.heap[b]?=some (.cells (qv (.pointer (some ⟨d,0,none⟩)) (jg m.next) (jg m.last) (jg m.log) (jg m.base) (.slice S A T) (jg m.last) (.slice none 0 0) false false) 121 (0,0))/\ja w2 wd (fun i=>i=b))
 case first =>
  go_region
  all_goals
   go_wp2;go_meet
  all_goals
   have hh:∀ W:World,W.drew.heap=W.heap:=fun _=>rfl;refine⟨?_,ja.draw ?_⟩
   ·rw[hh]
    exact(jd (jd (jd (jd (jd (jd fd.out _) _) _) _) _) _).trans rfl
   ·exact(((((ja.setCell w2 ⟨b,1,none⟩ _).set (p:=⟨b,2,none⟩) rfl _).set (p:=⟨b,3,none⟩) rfl _).set (p:=⟨b,4,none⟩) rfl _).set (p:=⟨b,5,none⟩) rfl _).set (p:=⟨b,6,none⟩) rfl _
 case rest =>
  obtain⟨bm,k3⟩:=hcut;clear x0 x1 x2 x3 x4 y1 y2 y3 y4 y5 y6 f1 f2 f3 f4 f5 f6;have D3:Dk E B wc ρ d SD:=⟨D2.rep.keep k3 (fun i e _=>by rw[e];exact J),D2.z8.keep k3 (fun i e=>by rw[e];exact Y),D2.yz,ZI D2.size k3.size⟩;have E3:Env E B wc:=E2.keep k3 (fun i e=>by rw[e];exact Y);have ec:x≠b:=by omega
  have cx:=k3.same eu.out ec;have bg:=k3.row f0.out (fun g hg e=>by have:=(a5 g hg).1;have e':g=b:=e;omega);have e7:ρ x = .none:=yE (fun u=>by have:=D.rep.lt x u;omega);have ca:∀ g,(Value.slice S A T).ownBlock=some g->ρ g = .none:=fun g hg=>yE (fun u=>by have:=D.rep.lt g u;have:=(a5 g hg).1;omega);have cj:Jw wc (.slice S A T) m.runs:=Jz bg d1.out.symm;have a2:ja w wc (fun i=>i=b):=(k2.up).trans k3 (fun i _ e=>e);have hP:Bg m bls k SD:=⟨F,fe.out⟩;have cs:=vc m (.slice S A T) (jg m.last) (.slice none 0 0) false false (bls.map Rf.chunks) E3 D3 hP (pn ok.y7 ok.len ok.bl (by have:=HK.out;omega)) bm cj (by have:=bp.out;omega);have fb:=jb cs;have ar:=jb bm;have cz:=jb cx;have ez:=jb bg;clear cs bm cx bg cj hP;go_wp2_with fail;refine fb.out.mono ?_;rintro e U ⟨k4,D4,_,eo⟩;have g4:x7 wc ρ U ρ:=⟨k4,fun _ _=>rfl⟩;obtain⟨N,V⟩:=Mq [] (bls.map Rf.chunks) SD;have cb:ja w U (fun i=>ρ i≠ .none\/i=b):=(a2.mono (fun i _ h=>(Or.inr h:ρ i≠ .none\/i=b))).trans g4.keeps (fun i _ h=> .inl h);rcases eo with⟨X,rfl⟩|⟨gh,hz,X,rfl,ao⟩
  rotate_left
  ·rcases V with V|⟨V,el⟩
   ·rw[V] at X;cases X
   ·rw[V] at X
    cases X;have ao:=ao.xi;obtain⟨t4,a4,rfl⟩:=ao.shape;have en:=N.fit F;go_wp2;go_ret;exact⟨_,N,.inl ⟨el,⟨_,rfl,ao⟩,ρ,D4,en.mono (by omega),cb,fun _ _=>rfl,_,_,_,_,_,_,_,_,_,_,(g4.row ar.out J).1⟩⟩
  clear V X cb;generalize (Qt (xz (bls.map Rf.chunks) []) SD).1=S4 at D4 N;have F4:=N.fit F;have aq:=jb N;have dh:=jb (N.at f9.out);clear N;obtain⟨bk,_⟩:=g4.row ar.out J;obtain⟨cw,_⟩:=g4.row cz.out e7;have E4:=E3.keep g4.keeps (fun i t=>D3.yz i t);have z:=zA (o:=0) bk;have z2:=zA (o:=2) cw;simp at z z2;obtain⟨lo,a8⟩:∃ lo,lo=m.log:=⟨_,rfl⟩;rw[<-a8] at z2;have z:U.drew.cell? ⟨b,0,none⟩=some (.pointer (some ⟨d,0,none⟩)):=z;have z2:U.drew.cell? ⟨x,2,none⟩=some (jg lo):=z2;obtain⟨L,hL⟩:∃ L,L=Rf.jk m.last bs:=⟨_,rfl⟩;have b3:At S4 (jh lo) (fun a=>a.bytes=L):=by rw[a8,hL];exact dh.out
  have b4:L.length<=20000:=by rw[hL];exact ev.out.2
  have ae:lo<=9223372036854775807:=by rw[a8];exact d2.out
  have co:∀ W,ja U W (fun _=>False)->Calls prog 63 #[j6 lo] W fun e w'=>e = .returned (jf (jh lo))/\ja W w' (fun _=>False):=fun W s=>Qs lo ae (E4.same s)
  have cf:∀ W,ja U W (fun _=>False)->Calls prog 129 #[.pointer (some ⟨d,0,none⟩),jf (jh lo)] W fun e w'=>∃ x6 v6,e = .returned (.tuple #[x6,v6])/\x7 U ρ w' ρ/\Dk E B w' ρ d (S4.called false)/\((∃ p c,x6 = .slice p L.length c/\v6 = .nilIface/\w'.ownsRow U.heap.size 5 1 (.slice p L.length c) L.length (L.map j5))\/(x6 = .slice none 0 0/\Err E w' v6 1/\¬qe S4)):=fun W s=>by
   obtain⟨f,a,hA,ha,ep⟩:=b3;refine(Yc (D4.same s) (F4.small (by have:=HK.out;omega)) (jh lo) (Xl ae)).mono ?_;rintro e w' ⟨g,D',⟨b6,v,rfl,he⟩|⟨_,hb,_⟩|⟨_,f',a',v,cy,cv,rfl,hr⟩⟩
   ·exact⟨_,_,rfl,(x7.of s (fun _ _ h=>h.elim)).trans g,D',.inr ⟨rfl,he,fun w=>by rw[w.bad] at b6;cases b6⟩⟩
   ·rw[hA] at hb;cases hb
   ·rw[hA] at cy;cases cy
    rw[ha] at cv;cases cv;rw[ep] at hr;obtain⟨p,c,rfl⟩:=jl hr;exact⟨_,_,rfl,(x7.of s (fun _ _ h=>h.elim)).trans g,D',.inl ⟨p,c,rfl,rfl,xd hr s.size⟩⟩
  have d3:=jb co;have bq:=jb cf;have gi:=jb a8;have fa:=jb hL;have fc:=jb bk;have dg:=jb b4;have C:ja U U.drew (fun _=>False):=ja.drew _ _;clear co cf a8 hL b3 b4 ae bk cw;have F6:=F4.called false;generalize hS6:S4.called false=S6 at bq F6;have br:Hid (qo S4 S6):=jb (hS6▸qo.called S4);clear hS6;go_wp2_with fail
  go_cut [8,6] from 10 (fun s8 s6 wd=>x7 U ρ wd ρ/\Dk E B wd ρ d S6/\((∃ p c,s8 = .slice p L.length c/\s6 = .nilIface/\wd.ownsRow U.heap.size 5 1 (.slice p L.length c) L.length (L.map j5))\/(s8 = .slice none 0 0/\Err E wd s6 1/\¬qe S4)))
  case first =>
   go_region_law (first
    | (refine jx rfl 63 [.tmp 38] _ rfl Jv [j6 lo] (by simp[Act.eval,Act.put]) (d3.out _ C) ?_
       rintro e w5 ⟨rfl,k5⟩
       have z:=k5.cell z id
       have C:=C.tt k5
       refine⟨_,rfl,?_⟩)
    | (refine jx rfl 129 [.tmp 36,.tmp 39] _ rfl om [.pointer (some ⟨d,0,none⟩),jf (jh lo)] (by simp[Act.eval,Act.put]) (bq.out _ C) ?_
       rintro e w6 ⟨x6,v6,rfl,h6⟩
       refine⟨_,rfl,?_⟩))
   all_goals
    go_wp2;go_meet
   all_goals exact h6
  case rest =>
   obtain⟨g6,D6,⟨p6,c6,rfl,rfl,ch⟩|⟨rfl,cr,d9⟩⟩:=hcut
   rotate_left
   ·obtain⟨t6,a6,rfl⟩:=cr.shape
    have G:=g4.trans g6;have eb:ja w wc (fun i=>ρ i≠ .none\/i=b):=(a2.mono (fun i _ h=>(Or.inr h:ρ i≠ .none\/i=b))).trans G.keeps (fun i _ h=> .inl h);have er:=aq.out.trans br.out;go_wp2;go_ret;exact⟨_,er,.inl ⟨fun w=>d9 (aq.out.ou w),⟨_,rfl,cr⟩,ρ,D6,F6.mono (by omega),eb,fun _ _=>rfl,_,_,_,_,_,_,_,_,_,_,(G.row ar.out J).1⟩⟩
   have G:=g4.trans g6;obtain⟨ct,_⟩:=G.row ar.out J
   have b2:=Gn b (.pointer (some ⟨d,0,none⟩)) (jg m.next) (jg m.last) (jg m.log) (jg m.base) (.slice S A T) (.bool false) (.bool false) m.last 121 (.slice none 0 0) (.slice p6 L.length c6) [] L w.heap.size wc D6.z8 Y (fun g hg=>by cases hg) ct (ZL _ _ _ _) (fun h=>by cases h) List.Pairwise.nil
    (by have h1:L.length<=20000:=dg.out;simp only[zX];omega) ok.y7.2.1 (xr ch) (by have:=a2.size;have:=G.keeps.size;omega) (fun _ p n c e=>by
     have ap:(Value.slice p6 L.length c6).ownBlock=some p.block:=by rw[e];rfl
     have h1:=(ch.lt _ ap).1
     have h2:=zC fc.out
     exact⟨by omega,fun h=>by cases h⟩)
   have de:=jb b2;clear b2 ct z z2 C d3 bq;go_wp2_with fail;refine de.out.mono ?_;rintro e I ⟨i0,g',v7,hT,hO,rfl,bj,ak,hw,ej,k7⟩;have bn:=Rf.Lw (last:=m.last) ok.log (by have:=ok.cap;unfold Rf.St.last at this;exact this) [];rw[ZC,<-fa.out] at bn;obtain⟨e1,e2⟩:=Rf.Jl.unique hT hO bn (Rf.X4 _ _);have e1:=e1.symm;have e2:=e2.symm;subst e1;subst e2;rw[zX,Nat.sub_zero];have cl:Rf.az [] bs=Rf.memory bs:=rfl;rw[cl] at ak;have ht:=a2.size;have hq:=G.keeps.size;have hp:=k7.size
   have q:∀ g,v7.ownBlock=some g->U.heap.size<=g:=fun g hg=>by
    rcases ej with e|⟨g',e,h⟩
    ·rw[e] at hg
     cases hg
    ·rw[hg] at e
     cases e;have:=g6.keeps.size;omega
   have hs:=g4.keeps.size
   have D7:Dk E B I ρ d S6:=⟨D6.rep.keep k7 (fun i h _=>by
    rcases h with h|h
    ·rw[h];exact J
    ·cases h),D6.z8.keep k7 (fun i h=>by
    rcases h with h|h
    ·rw[h];exact Y
    ·cases h),D6.yz,ZI D6.size k7.size⟩
   have bb:ja w I (fun i=>ρ i≠ .none\/i=b):=((a2.mono (fun i _ h=>(Or.inr h:ρ i≠ .none\/i=b))).trans G.keeps (fun i _ h=> .inl h)).trans k7 (fun i _ h=>by
    rcases h with h|h
    ·exact .inr h
    ·cases h)
   have E7:Env E B I:=H.keep (bb.mono (fun i hi h=>(show B<=i from h.elim (fun h=>D.yz i h) (fun h=>by rw[h];exact Y)))) (fun i h=>h)
   have d7:=k7.row (G.keeps.row ez.out (fun g hg t=>t (ca g hg))) (fun g hg t=>by
    rcases t with t|t
    ·have:=(a5 g hg).1
     omega
    ·cases t)
   have eq:Jw I (.slice S A T) m.runs:=Jz d7 d1.out.symm;have nv:∀ g,v7.ownBlock=some g->ρ g = .none:=fun g hg=>yE (fun u=>by have:=D.rep.lt g u;have:=q g hg;omega)
   have T7:StM E B I ρ d b S6 k m (m.last+bs.length) (Rf.memory bs) false (.slice S A T) v7:=by
    refine⟨E7,D7,F6,bj,eq,xd ak D.size,⟨J,Y⟩,fun p n c e=>?_,fun g hg=>⟨nv g hg,?_⟩,ok.y7,Rf.zb _,HF.out,ew.out⟩
    ·have ap:(Value.slice S A T).ownBlock=some p.block:=by rw[e];rfl
     have h1:=a5 _ ap;have h2:=zC cz.out;have h4:=D.size;refine⟨ca _ ap,by omega,by omega,fun h=>?_,by omega⟩;have:=q _ h;omega
    ·have:=q g hg
     omega
   obtain⟨n8,an⟩:∃ n8,n8=(jt m).length+1:=⟨_,rfl⟩;have j:(ju m).length=n8:=by rw[an];simp[ju]
   have be:=xy m;have aa:(jt m).length=m.settled.length+1:=by unfold jt;simp
   have a7:∀(W:World),ja I W (fun _=>False)->Calls prog 182 #[.pointer (some ⟨b,0,none⟩)] W fun e w'=>∃ p c,e = .returned (.slice p n8 c)/\w'.ownsRow W.heap.size 9 1 (.slice p n8 c) n8 ((ju m).map jf)/\ja W w' (fun _=>False):=fun W s=>by
    rw[an];exact dx m _ (.slice S A T) _ _ _ _ (T7.env.same s) (s.same T7.row id) (T7.runs.same s) (by have:=bp.out;omega) dd.out d2.out
   have ck:∀(W:World) (v:Value),ja I W (fun _=>False)->W.ownsRow I.heap.size 9 1 v n8 ((ju m).map jf)->Calls prog 164 #[.pointer (some ⟨d,0,none⟩),v] W fun e w'=>∃ v9,e = .returned v9/\Xr E B I ρ d (jc.xx (ju m) S6) (.returned v9) w':=fun W v s hr=>by
    refine(As (D7.same s) v (ju m) I.heap.size (by rw[j];exact hr) (fun g hg=>yE (fun u=>by have:=(hr.lt g hg).1;have:=D7.rep.lt g u;omega)) (fun n u=>?_) (by rw[j,an,aa];have:=bp.out;omega) (by have:=F6.safe;have:=HK.out;omega)).mono ?_
    ·rcases ZA.1 u with u|u
     ·exact Za ok.y7 n u
     ·rw[zZ.1 u];decide
    ·intro e w' h
     exact(h.before (x7.of s (fun _ _ h=>h.elim))).ret
   have z:=zA (o:=0) bj;simp at z;have z:I.drew.cell? ⟨b,0,none⟩=some (.pointer (some ⟨d,0,none⟩)):=z;have df:=jb a7;have f8:=jb ck;have i1:=jb ak;have C:ja I I.drew (fun _=>False):=ja.drew _ _;clear a7 ck bj ak hT hO bn j be aa an cl;go_wp2_with fail
   go_cut [6] from 10 (fun s6 wd=>Xr E B I ρ d (jc.xx (ju m) S6) (.returned s6) wd)
   case first =>
    go_region_law (first
     | (refine jx rfl 182 [.tmp 62] _ rfl Z8 [.pointer (some ⟨b,0,none⟩)] (by simp[Act.eval,Act.put]) (df.out _ C) ?_
        rintro e w8 ⟨p8,c8,rfl,bf,k8⟩
        have bf:=xd bf C.size
        have z:=k8.cell z id
        have C:=C.tt k8
        refine⟨_,rfl,?_⟩)
     | (refine jx rfl 164 [.tmp 61,.tmp 63] _ rfl sd [.pointer (some ⟨d,0,none⟩),.slice p8 n8 c8] (by simp[Act.eval,Act.put]) (f8.out _ _ C bf) ?_
        rintro e R ⟨v9,rfl,h9⟩
        refine⟨_,rfl,?_⟩))
    all_goals
     go_wp2;go_meet
    all_goals exact h9
   case rest =>
   obtain⟨R,eh⟩:∃ R,R=wc:=⟨_,rfl⟩;subst eh;obtain⟨hl,g9,D9,bt⟩:=hcut;have F9:=F6.xx (ju m);have h9:y8 E B I ρ d b (.slice S A T) v7 (jc.xx (ju m) S6).1 (k+70000) m (m.last+bs.length) (Rf.memory bs) false R:=T7.gone (ja.refl _ _) g9 D9 (F9.mono (by omega));rcases bt with⟨aj,e9⟩|⟨aj,v9,e9,cq⟩
   rotate_left
   ·cases e9
    obtain⟨t9,a9,rfl⟩:=cq.shape;obtain⟨ρ9,c9,ea,r,k9,bc,cn,b1⟩:=h9
    have a1:ja w R (fun i=>ρ i≠ .none\/i=b):=bb.trans k9 (fun i hi t=>by
     rcases t with t|t|t
     ·exact .inl t
     ·exact .inr t
     ·have:=q i t
      omega)
    go_wp2;go_ret;exact⟨S6,aq.out.trans br.out,.inr ⟨_,false,Prod.ext rfl aj,.inl ⟨rfl,⟨_,rfl,cq⟩,ρ9,r.xi,r.fit.mono (by omega),a1,fun i hi=>bc i (by omega),_,_,_,_,_,_,_,_,_,_,r.row⟩⟩⟩
   cases e9;have R9:Fn (jc.xx (ju m)) S6 (jc.xx (ju m) S6).1 true:=Prod.ext rfl aj;have F9:=F9;clear g9 D9 aj;generalize (jc.xx (ju m) S6).1=S9 at h9 R9 F9;have ey:=jb R9;clear R9;obtain⟨ρ9,c9,ea,r,k9,bc,cn,b1⟩:=h9
   have a1:ja w R (fun i=>ρ i≠ .none\/i=b):=bb.trans k9 (fun i hi t=>by
    rcases t with t|t|t
    ·exact .inl t
    ·exact .inr t
    ·have:=q i t
     omega)
   have ac:∀ i,i<w.heap.size->ρ9 i=ρ i:=fun i hi=>bc i (by omega);obtain⟨nn,am⟩:∃ nn,nn=(jt m).length+1:=⟨_,rfl⟩;have j:(ju m).length=nn:=by rw[am];simp[ju]
   have be:=xy m;have aa:(jt m).length=(m).settled.length+1:=by unfold jt;simp
   have d6:=r.ay;have bu:=r.y7.log;have d8:=r.y7.1;have af:∀ n∈(m).settled,n<=9223372036854775807:=fun n u=>by have:=r.y7.2.2.1 n (ZB _ u);omega
   have a7:∀(W:World),ja R W (fun _=>False)->Calls prog 182 #[.pointer (some ⟨b,0,none⟩)] W fun e w'=>∃ p c,e = .returned (.slice p nn c)/\w'.ownsRow W.heap.size 9 1 (.slice p nn c) nn ((ju m).map jf)/\ja W w' (fun _=>False):=fun W s=>by
    rw[am];exact dx m _ c9 _ _ _ _ (r.env.same s) (s.same r.row id) (r.runs.same s) (by omega) af (by omega)
   have hy:=r.fit.Cy
   have cg:∀(W:World) (v:Value),ja R W (fun _=>False)->W.ownsRow R.heap.size 9 1 v nn ((ju m).map jf)->Calls prog 177 #[.pointer (some ⟨d,0,none⟩),v] W fun e w'=>∃ ba,e = .returned ba/\Xr E B R ρ9 d (jc.zl (ju m) S9) (.returned ba) w':=fun W v s hr=>by
    refine(Zy (r.xi.same s) (r.fit.small (by have:=HK.out;omega)) v (ju m) R.heap.size (by rw[j];exact hr) (fun g hg=>yE (fun u=>by have:=(hr.lt g hg).1;have:=r.xi.rep.lt g u;omega)) (by rw[j,am,aa];omega) (fun n u=>by have:=r.fit.keys n u;have:=HK.out;omega) (by have:=r.fit.safe;have:=HK.out;omega)).mono ?_;intro e w' h;exact(h.before (x7.of s (fun _ _ h=>h.elim))).ret
   have z:=zA (o:=0) r.row;simp at z;have z:R.drew.cell? ⟨b,0,none⟩=some (.pointer (some ⟨d,0,none⟩)):=z;have f7:=jb a7;have ex:=jb cg;have C:ja R R.drew (fun _=>False):=ja.drew _ _;clear a7 cg j be aa am d6 bu d8 af;go_wp2_with fail
   go_region_law (first
    | (refine jx rfl 182 [.tmp 72] _ rfl Z8 [.pointer (some ⟨b,0,none⟩)] (by simp[Act.eval,Act.put]) (f7.out _ C) ?_
       rintro e hm ⟨e6,et,rfl,ad,cc⟩
       have ad:=xd ad C.size
       have z:=cc.cell z id
       have C:=C.tt cc
       refine⟨_,rfl,?_⟩)
    | (refine jx rfl 177 [.tmp 71,.tmp 73] _ rfl fk [.pointer (some ⟨d,0,none⟩),.slice e6 nn et] (by simp[Act.eval,Act.put]) (ex.out _ _ C ad) ?_
       rintro e e4 ⟨ba,rfl,es⟩
       refine⟨_,rfl,?_⟩))
   all_goals
    obtain⟨c7,Z,d5,au⟩:=es;have d4:=r.fit.zl (ju m);have s:ja w e4 (fun i=>ρ i≠ .none\/i=b):=a1.trans Z.keeps (fun i hi h=> .inl (by rw[<-ac i hi];exact h));have ei:∀ i,i<w.heap.size->c7 i=ρ i:=fun i hi=>(Z.role i (by have:=a1.size;omega)).trans (ac i hi);have ho:=a1.size;have gf:=k9.size;go_wp2;go_ret;refine⟨S6,aq.out.trans br.out,.inr ⟨S9,true,ey.out,.inr ⟨rfl,?_⟩⟩⟩;rcases au with⟨ab,bo⟩|⟨ab,ge,bo,dc⟩
    ·cases bo
     have h9:=r.next (Z.keeps.mono (fun i _ t=> .inl t)) Z.role d5 (d4.mono (k:=k+70000+S9.keys.length) (m:=2*k+300000) (by omega)) (Z.keeps.same r.row (fun t=>t r.nb.1));obtain⟨ρx,e5,e8,eg,hv,ef,ee,ed⟩:=h9;refine .inl ⟨ab,rfl,ρx,e5,e8,eg,?_,fun i hi=>(ef i (by omega)).trans (ac i hi),fun g hg=>?_,fun p n c e=>?_⟩
     ·exact s
     ·rcases ee g hg with t|t
      ·rcases cn g t with t|t
       ·have:=q g t
        omega
       ·omega
      ·omega
     ·rcases ed p n c e with⟨n',c',t⟩|t
      ·rcases b1 p n' c' t with⟨n2,c2,t2⟩|t
       ·exact(a5 p.block (by rw[t2];rfl)).1
       ·omega
      ·omega
    ·cases bo
     exact .inr ⟨ab,⟨_,rfl,dc⟩,c7,d5,d4.mono (by omega),s,ei,_,_,_,_,_,_,_,_,_,_,Z.keeps.same r.row (fun t=>t r.nb.1)⟩
theorem R8{ρ:Nat->j3}{SD:jc}{g:List UInt8}(D:Dk E B w ρ d SD)(F:Fit k SD)(H:Env E B w)(hk:k<400000000000)(ok:(⟨m,bs,bls⟩:Rf.St).Ok)(d4:∀ p∈qq m.settled bls,At SD p.1 (fun a=>a.bytes=p.2))(cw:At SD (jh m.log) (fun a=>a.bytes=Rf.jk m.last bs++g))(j:g≠[])(cq:Rf.Over m.last bs g)(b4:m.next+1<=2000000000)(bk:m.bytes.length<=20000/\(Rf.jk m.last bs++g).length<=20000)(b8:(Rf.memory bs).length<60000)(ae:m.runs.length<60000)(hb:w.heap[b]?=some (.cells (newRow d) 121 (0,0)))(C:ρ b = .none)(S:B<=b)(vm:Value)(ck:Bytes w vm m.bytes) :
 Calls prog 131 #[.pointer (some ⟨b,0,none⟩),vm] w fun e w'=>Qv E B w ρ d b SD (2*k+300000) (Bt m (Rf.jk m.last bs)) m.xw (m.last+bs.length) (Rf.memory bs) e w':=by
 have cl:m.runs.length<65535:=ok.runs;have s:m.Good:=ok.y7;have dp:=s.log;have et:=s.1;have ev:=ql m;have dm:=bk.1;have J:=ku D.z8 D.size ck (by omega);rw[Rf.ur s (by omega)] at J;obtain⟨pm,cm,rfl,_⟩:=id ck;have c4:=jb J;have HB:=jb hb;have HK:=jb hk;have dc:=jb bk;have HF:=jb b8;have fo:=jb d4;have fl:=jb cw;have fb:=jb ae;have HG:=jb j;have fh:=jb cq;have dt:=jb b4;have fj:Hid (m.log<=9223372036854775807):=jb (by omega);have fc:=jb cl;have ax:∀ n∈m.settled,n<=9223372036854775807:=fun n hn=>by have h0:n<m.next:=(ok.Bp hn).2;omega
 have gm:=jb ax;clear J hb hk bk cl s dp et ev dm ax b8 d4 cw ae j cq b4;go_enter func131,ntmps131;go_wp2_with fail;refine c4.out.mono ?_;rintro e w1 ⟨k1,⟨m1,U,X,bq,rfl,ak⟩|⟨v1,bq,_⟩⟩
 rotate_left
 ·cases bq
 cases bq;obtain⟨A,bo⟩:∃ A,A=m.runs.length:=⟨_,rfl⟩;rw[<-bo] at ak ⊢;obtain⟨x,hx⟩:∃ x,x=w1.heap.size:=⟨_,rfl⟩;obtain⟨w2,a2⟩:∃ w2,w2=w1.alloc (.cells #[jg m.next,jg m.last,jg m.log,jg m.base,.slice U A X] 117):=⟨_,rfl⟩;have k2:ja w w2 (fun _=>False):=by rw[a2];exact k1.more _
 have G:w2.heap[x]?=some (.cells #[jg m.next,jg m.last,jg m.log,jg m.base,.slice U A X] 117 (0,0)):=by rw[a2,hx];exact je _ _
 have cp:w2.ownsRow w.heap.size 3 1 (.slice U A X) A (m.runs.map jg):=by rw[a2];exact ak.alloc _
 have l:=k2.same HB.out id;have gk:=zC HB.out;have hz:w.heap.size<=x:=by rw[hx];exact k1.size
 have a3:∀ g,(Value.slice U A X).ownBlock=some g->w.heap.size<=g/\g<x:=fun g j=>by rw[hx];exact ak.lt g j
 have x0:=zA (o:=0) G;have x1:=zA (o:=1) G;have x2:=zA (o:=2) G;have x3:=zA (o:=3) G;have x4:=zA (o:=4) G;have y1:=zA (o:=1) l;have y2:=zA (o:=2) l;have y3:=zA (o:=3) l;have y4:=zA (o:=4) l;have y5:=zA (o:=5) l;have y6:=zA (o:=6) l;have f1:=zB (o:=1) l;have f2:=zB (o:=2) l;have f3:=zB (o:=3) l;have f4:=zB (o:=4) l;have f5:=zB (o:=5) l;have f6:=zB (o:=6) l;simp at x0 x1 x2 x3 x4 y1 y2 y3 y4 y5 y6;have HX:=jb hx;have dd:=jb bo;have fa:=jb G;have fn:=jb l;have fg:=jb cp;have D2:=D.same k2;have E2:=H.same k2;clear hx bo G l ak cp;go_wp2_with fail;rw[<-a2,<-HX.out];clear a2
 go_cut [] from 10 (fun wd=>wd.heap[b]?=some (.cells (qv (.pointer (some ⟨d,0,none⟩)) (jg m.next) (jg m.last) (jg m.log) (jg m.base) (.slice U A X) (jg m.last) (.slice none 0 0) false false) 121 (0,0))/\ja w2 wd (fun i=>i=b))
 case first =>
  go_region
  all_goals
   go_wp2;go_meet
  all_goals
   have hh:∀ W:World,W.drew.heap=W.heap:=fun _=>rfl;refine⟨?_,ja.draw ?_⟩
   ·rw[hh]
    exact(jd (jd (jd (jd (jd (jd fn.out _) _) _) _) _) _).trans rfl
   ·exact(((((ja.setCell w2 ⟨b,1,none⟩ _).set (p:=⟨b,2,none⟩) rfl _).set (p:=⟨b,3,none⟩) rfl _).set (p:=⟨b,4,none⟩) rfl _).set (p:=⟨b,5,none⟩) rfl _).set (p:=⟨b,6,none⟩) rfl _
 case rest =>
  obtain⟨bt,k3⟩:=hcut;clear x0 x1 x2 x3 x4 y1 y2 y3 y4 y5 y6 f1 f2 f3 f4 f5 f6;have D3:Dk E B wc ρ d SD:=⟨D2.rep.keep k3 (fun i e _=>by rw[e];exact C),D2.z8.keep k3 (fun i e=>by rw[e];exact S),D2.yz,ZI D2.size k3.size⟩;have E3:Env E B wc:=E2.keep k3 (fun i e=>by rw[e];exact S);have ek:x≠b:=by omega
  have d7:=k3.same fa.out ek;have bn:=k3.row fg.out (fun g j e=>by have:=(a3 g j).1;have e':g=b:=e;omega);have eg:ρ x = .none:=yE (fun hn=>by have:=D.rep.lt x hn;omega);have ch:∀ g,(Value.slice U A X).ownBlock=some g->ρ g = .none:=fun g j=>yE (fun hn=>by have:=D.rep.lt g hn;have:=(a3 g j).1;omega);have cs:Jw wc (.slice U A X) m.runs:=Jz bn dd.out.symm;have a1:ja w wc (fun i=>i=b):=(k2.up).trans k3 (fun i _ e=>e);have hP:Bg m bls k SD:=⟨F,fo.out⟩;have d1:=vc m (.slice U A X) (jg m.last) (.slice none 0 0) false false (bls.map Rf.chunks) E3 D3 hP (pn ok.y7 ok.len ok.bl (by have:=HK.out;omega)) bt cs (by have:=fc.out;omega);have fm:=jb d1;have aq:=jb bt;have db:=jb d7;have ff:=jb bn;clear d1 bt d7 bn cs hP;go_wp2_with fail;refine fm.out.mono ?_;rintro e N ⟨k4,D4,_,ey⟩;have g4:x7 wc ρ N ρ:=⟨k4,fun _ _=>rfl⟩;obtain⟨I,O⟩:=Mq [] (bls.map Rf.chunks) SD;have ci:ja w N (fun i=>ρ i≠ .none\/i=b):=(a1.mono (fun i _ h=>(Or.inr h:ρ i≠ .none\/i=b))).trans g4.keeps (fun i _ h=> .inl h);rcases ey with⟨R,rfl⟩|⟨gl,i4,R,rfl,am⟩
  rotate_left
  ·rcases O with O|⟨O,eu⟩
   ·rw[O] at R;cases R
   ·rw[O] at R
    cases R;have am:=am.xi;obtain⟨t4,a4,rfl⟩:=am.shape;have ew:=I.fit F;go_wp2;go_ret;exact⟨_,I,.inl ⟨eu,⟨_,rfl,am⟩,ρ,D4,ew.mono (by omega),ci,fun _ _=>rfl,_,_,_,_,_,_,_,_,_,_,(g4.row aq.out C).1⟩⟩
  clear O R ci;generalize (Qt (xz (bls.map Rf.chunks) []) SD).1=S4 at D4 I;have F4:=I.fit F;have ap:=jb I;have du:=jb (I.at fl.out);clear I;obtain⟨br,_⟩:=g4.row aq.out C;obtain⟨d6,_⟩:=g4.row db.out eg;have E4:=E3.keep g4.keeps (fun i t=>D3.yz i t);have V:=zA (o:=0) br;have z2:=zA (o:=2) d6;simp at V z2;obtain⟨lo,a5⟩:∃ lo,lo=m.log:=⟨_,rfl⟩;rw[<-a5] at z2;have V:N.drew.cell? ⟨b,0,none⟩=some (.pointer (some ⟨d,0,none⟩)):=V;have z2:N.drew.cell? ⟨x,2,none⟩=some (jg lo):=z2;obtain⟨L,hL⟩:∃ L,L=Rf.jk m.last bs++g:=⟨_,rfl⟩;have b5:At S4 (jh lo) (fun a=>a.bytes=L):=by rw[a5,hL];exact du.out
  have b7:L.length<=20000:=by rw[hL];exact dc.out.2
  have ac:lo<=9223372036854775807:=by rw[a5];exact fj.out
  have cv:∀ W,ja N W (fun _=>False)->Calls prog 63 #[j6 lo] W fun e w'=>e = .returned (jf (jh lo))/\ja W w' (fun _=>False):=fun W z=>Qs lo ac (E4.same z)
  have cn:∀ W,ja N W (fun _=>False)->Calls prog 129 #[.pointer (some ⟨d,0,none⟩),jf (jh lo)] W fun e w'=>∃ x6 v6,e = .returned (.tuple #[x6,v6])/\x7 N ρ w' ρ/\Dk E B w' ρ d (S4.called false)/\((∃ p c,x6 = .slice p L.length c/\v6 = .nilIface/\w'.ownsRow N.heap.size 5 1 (.slice p L.length c) L.length (L.map j5))\/(x6 = .slice none 0 0/\Err E w' v6 1/\¬qe S4)):=fun W z=>by
   obtain⟨f,a,hA,ha,f0⟩:=b5;refine(Yc (D4.same z) (F4.small (by have:=HK.out;omega)) (jh lo) (Xl ac)).mono ?_;rintro e w' ⟨g,D',⟨b9,v,rfl,he⟩|⟨_,hb,_⟩|⟨_,f',a',v,da,d5,rfl,hr⟩⟩
   ·exact⟨_,_,rfl,(x7.of z (fun _ _ h=>h.elim)).trans g,D',.inr ⟨rfl,he,fun w=>by rw[w.bad] at b9;cases b9⟩⟩
   ·rw[hA] at hb;cases hb
   ·rw[hA] at da;cases da
    rw[ha] at d5;cases d5;rw[f0] at hr;obtain⟨p,c,rfl⟩:=jl hr;exact⟨_,_,rfl,(x7.of z (fun _ _ h=>h.elim)).trans g,D',.inl ⟨p,c,rfl,rfl,xd hr z.size⟩⟩
  have de:=jb cv;have bw:=jb cn;have gn:=jb a5;have ao:=jb hL;have df:=jb br;have ba:=jb b7;have Z:ja N N.drew (fun _=>False):=ja.drew _ _;clear cv cn a5 hL b5 b7 ac br d6;have F6:=F4.called false;generalize hS6:S4.called false=S6 at bw F6;have bx:Hid (qo S4 S6):=jb (hS6▸qo.called S4);clear hS6;go_wp2_with fail
  go_cut [8,6] from 10 (fun s8 s6 wd=>x7 N ρ wd ρ/\Dk E B wd ρ d S6/\((∃ p c,s8 = .slice p L.length c/\s6 = .nilIface/\wd.ownsRow N.heap.size 5 1 (.slice p L.length c) L.length (L.map j5))\/(s8 = .slice none 0 0/\Err E wd s6 1/\¬qe S4)))
  case first =>
   go_region_law (first
    | (refine jx rfl 63 [.tmp 38] _ rfl Jv [j6 lo] (by simp[Act.eval,Act.put]) (de.out _ Z) ?_
       rintro e w5 ⟨rfl,k5⟩
       have V:=k5.cell V id
       have Z:=Z.tt k5
       refine⟨_,rfl,?_⟩)
    | (refine jx rfl 129 [.tmp 36,.tmp 39] _ rfl om [.pointer (some ⟨d,0,none⟩),jf (jh lo)] (by simp[Act.eval,Act.put]) (bw.out _ Z) ?_
       rintro e w6 ⟨x6,v6,rfl,h6⟩
       refine⟨_,rfl,?_⟩))
   all_goals
    go_wp2;go_meet
   all_goals exact h6
  case rest =>
   obtain⟨g6,D6,⟨p6,c6,rfl,rfl,u⟩|⟨rfl,cz,dl⟩⟩:=hcut
   rotate_left
   ·obtain⟨t6,a6,rfl⟩:=cz.shape
    have y:=g4.trans g6;have ej:ja w wc (fun i=>ρ i≠ .none\/i=b):=(a1.mono (fun i _ h=>(Or.inr h:ρ i≠ .none\/i=b))).trans y.keeps (fun i _ h=> .inl h);have f7:=ap.out.trans bx.out;go_wp2;go_ret;exact⟨_,f7,.inl ⟨fun w=>dl (ap.out.ou w),⟨_,rfl,cz⟩,ρ,D6,F6.mono (by omega),ej,fun _ _=>rfl,_,_,_,_,_,_,_,_,_,_,(y.row aq.out C).1⟩⟩
   have y:=g4.trans g6;obtain⟨d3,_⟩:=y.row aq.out C
   have b1:=Gn b (.pointer (some ⟨d,0,none⟩)) (jg m.next) (jg m.last) (jg m.log) (jg m.base) (.slice U A X) (.bool false) (.bool false) m.last 121 (.slice none 0 0) (.slice p6 L.length c6) [] L w.heap.size wc D6.z8 S (fun g j=>by cases j) d3 (ZL _ _ _ _) (fun h=>by cases h) List.Pairwise.nil
    (by have h1:L.length<=20000:=ba.out;simp only[zX];omega) ok.y7.2.1 (xr u) (by have:=a1.size;have:=y.keeps.size;omega) (fun _ p n c e=>by
     have an:(Value.slice p6 L.length c6).ownBlock=some p.block:=by rw[e];rfl
     have h1:=(u.lt _ an).1
     have h2:=zC df.out
     exact⟨by omega,fun h=>by cases h⟩)
   have dr:=jb b1;clear b1 d3 V z2 Z de bw;go_wp2_with fail;refine dr.out.mono ?_;rintro e w7 ⟨i6,g',v7,hT,hO,rfl,d2,aj,i2,es,k7⟩;have bu:=Rf.Lw (last:=m.last) ok.log (by have:=ok.cap;unfold Rf.St.last at this;exact this) g;rw[<-ao.out] at bu;obtain⟨e1,e2⟩:=Rf.Jl.unique hT hO bu fh.out;have e1:=e1.symm;have e2:=e2.symm;subst e1;subst e2;have c3:0<g.length:=ZX.2 HG.out;obtain⟨Y,bm⟩:∃ Y,Y=L.length-g.length:=⟨_,rfl⟩;rw[<-bm];have di:Y<L.length:=by have:=ao.out;have h2:=congrArg List.length this;rw[zW] at h2;omega
   have a8:L.take Y=Rf.jk m.last bs:=by
    have h2:=congrArg List.length ao.out;rw[zW] at h2;rw[ao.out,xE (by omega),xF (by omega)]
   have ct:Rf.az [] bs=Rf.memory bs:=rfl;rw[ct] at aj;have hw:=a1.size;have hu:=y.keeps.size;have ht:=k7.size
   have q:∀ g,v7.ownBlock=some g->N.heap.size<=g:=fun g j=>by
    rcases es with e|⟨g',e,h⟩
    ·rw[e] at j
     cases j
    ·rw[j] at e
     cases e;have:=g6.keeps.size;omega
   have hv:=g4.keeps.size
   have D7:Dk E B w7 ρ d S6:=⟨D6.rep.keep k7 (fun i h _=>by
    rcases h with h|h
    ·rw[h];exact C
    ·cases h),D6.z8.keep k7 (fun i h=>by
    rcases h with h|h
    ·rw[h];exact S
    ·cases h),D6.yz,ZI D6.size k7.size⟩
   have bi:ja w w7 (fun i=>ρ i≠ .none\/i=b):=((a1.mono (fun i _ h=>(Or.inr h:ρ i≠ .none\/i=b))).trans y.keeps (fun i _ h=> .inl h)).trans k7 (fun i _ h=>by
    rcases h with h|h
    ·exact .inr h
    ·cases h)
   have E7:Env E B w7:=H.keep (bi.mono (fun i hi h=>(show B<=i from h.elim (fun h=>D.yz i h) (fun h=>by rw[h];exact S)))) (fun i h=>h)
   have b3:=k7.row (y.keeps.row ff.out (fun g j t=>t (ch g j))) (fun g j t=>by
    rcases t with t|t
    ·have:=(a3 g j).1
     omega
    ·cases t)
   have d8:Jw w7 (.slice U A X) m.runs:=Jz b3 dd.out.symm;have nv:∀ g,v7.ownBlock=some g->ρ g = .none:=fun g j=>yE (fun hn=>by have:=D.rep.lt g hn;have:=q g j;omega)
   have T7:StM E B w7 ρ d b S6 k m (m.last+bs.length) (Rf.memory bs) false (.slice U A X) v7:=by
    refine⟨E7,D7,F6,d2,d8,xd aj D.size,⟨C,S⟩,fun p n c e=>?_,fun g j=>⟨nv g j,?_⟩,ok.y7,Rf.zb _,HF.out,fb.out⟩
    ·have an:(Value.slice U A X).ownBlock=some p.block:=by rw[e];rfl
     have h1:=a3 _ an;have h2:=zC db.out;have h4:=D.size;refine⟨ch _ an,by omega,by omega,fun h=>?_,by omega⟩;have:=q _ h;omega
    ·have:=q g j
     omega
   have cx:Bytes w7 (.slice p6 Y c6) (Rf.jk m.last bs):=by
    have ez:Bytes w7 (.slice p6 L.length c6) L:=xr (k7.row u (fun g j t=>by
     rcases t with t|t
     ·have h1:=(u.lt _ j).1
      have h2:=zC df.out
      omega
     ·cases t))
    have:=ez.take Y (by omega);rwa [a8] at this
   have af:Off ρ (.slice p6 Y c6):=fun p n c e=>yE (fun hn=>by
    cases e
    have h1:=(u.lt p.block rfl).1
    have h2:=D.rep.lt p.block hn
    omega)
   have ex:L.length<=c6:=by
    obtain⟨p',c',e,h1,_⟩:=xr u;cases e;exact h1
   have b2:=Up T7 (by have:=HK.out;omega) dt.out (.slice p6 Y c6) (Rf.jk m.last bs) cx af (by rw[<-a8,zK];have:=ba.out;omega) dc.out.1
   have er:∃ g6,p6=some ⟨g6,0,none⟩:=by
    rcases u.2 with⟨e,h0⟩|⟨g',cap,i5,e,_⟩
    ·omega
    ·cases e
     exact⟨g',rfl⟩
   obtain⟨g6,rfl⟩:=er;have ds:=jb b2;have i8:=jb aj;have b6:((Y:Int)<(L.length:Int)):=by omega
   have dn:decide ((Y:Int)<(L.length:Int))=true:=decide_eq_true b6;have i1:Y<=c6:=by omega
   have i7:=jb bm;obtain⟨nL,bp⟩:∃ nL,nL=L.length:=⟨_,rfl⟩;rw[<-bp] at b6 dn ⊢;have i9:=jb bp;clear b2 d2 aj hT hO bu ct cx af bm di a8 c3 ex bp u d8 b3;go_wp2_with fail;refine ds.out.mono ?_;rintro e w9 ⟨S9,hy,R9,bz,h9⟩;rcases bz with⟨rfl,rfl⟩|⟨rfl,v9,rfl,cy⟩
   rotate_left
   ·obtain⟨t9,a9,rfl⟩:=cy.shape
    obtain⟨ρ9,cg,ei,r,k9,bj,cu,b0⟩:=h9
    have a0:ja w w9 (fun i=>ρ i≠ .none\/i=b):=bi.trans k9 (fun i hi t=>by
     rcases t with t|t|t
     ·exact .inl t
     ·exact .inr t
     ·have:=q i t
      omega)
    go_wp2;go_ret;exact⟨S6,ap.out.trans bx.out,.inr ⟨S9,false,R9,.inl ⟨rfl,⟨_,rfl,cy⟩,ρ9,r.xi,r.fit.mono (by omega),a0,fun i hi=>bj i (by omega),_,_,_,_,_,_,_,_,_,_,r.row⟩⟩⟩
   rw[if_pos rfl] at h9;have fe:=jb R9;clear R9;obtain⟨ρ9,cg,ei,r,k9,bj,cu,b0⟩:=h9
   have a0:ja w w9 (fun i=>ρ i≠ .none\/i=b):=bi.trans k9 (fun i hi t=>by
    rcases t with t|t|t
    ·exact .inl t
    ·exact .inr t
    ·have:=q i t
     omega)
   have aa:∀ i,i<w.heap.size->ρ9 i=ρ i:=fun i hi=>bj i (by omega);obtain⟨nn,al⟩:∃ nn,nn=(jt m.xw).length+1:=⟨_,rfl⟩;have M:(ju m.xw).length=nn:=by rw[al];simp[ju]
   have ep:=xy m.xw;have d9:(jt m.xw).length=(m.xw).settled.length+1:=by unfold jt;simp
   have dj:=r.ay;have c0:=r.y7.log;have dk:=r.y7.1;have ad:∀ n∈(m.xw).settled,n<=9223372036854775807:=fun n hn=>by have:=r.y7.2.2.1 n (ZB _ hn);omega
   have cr:∀(W:World),ja w9 W (fun _=>False)->Calls prog 182 #[.pointer (some ⟨b,0,none⟩)] W fun e w'=>∃ p c,e = .returned (.slice p nn c)/\w'.ownsRow W.heap.size 9 1 (.slice p nn c) nn ((ju m.xw).map jf)/\ja W w' (fun _=>False):=fun W z=>by
    rw[al];exact dx m.xw _ cg _ _ _ _ (r.env.same z) (z.same r.row id) (r.runs.same z) (by omega) ad (by omega)
   have i3:=r.fit.Cy
   have co:∀(W:World) (v:Value),ja w9 W (fun _=>False)->W.ownsRow w9.heap.size 9 1 v nn ((ju m.xw).map jf)->Calls prog 177 #[.pointer (some ⟨d,0,none⟩),v] W fun e w'=>∃ bh,e = .returned bh/\Xr E B w9 ρ9 d (jc.zl (ju m.xw) S9) (.returned bh) w':=fun W v z hr=>by
    refine(Zy (r.xi.same z) (r.fit.small (by have:=HK.out;omega)) v (ju m.xw) w9.heap.size (by rw[M];exact hr) (fun g j=>yE (fun hn=>by have:=(hr.lt g j).1;have:=r.xi.rep.lt g hn;omega)) (by rw[M,al,d9];omega) (fun n hn=>by have:=r.fit.keys n hn;have:=HK.out;omega) (by have:=r.fit.safe;have:=HK.out;omega)).mono ?_;intro e w' h;exact(h.before (x7.of z (fun _ _ h=>h.elim))).ret
   have V:=zA (o:=0) r.row;simp at V;have V:w9.drew.cell? ⟨b,0,none⟩=some (.pointer (some ⟨d,0,none⟩)):=V;have fi:=jb cr;have fd:=jb co;have Z:ja w9 w9.drew (fun _=>False):=ja.drew _ _;clear cr co M ep d9 al dj c0 dk ad;go_wp2_with fail
   go_region_law (first
    | (refine jx rfl 182 [.tmp 72] _ rfl Z8 [.pointer (some ⟨b,0,none⟩)] (by simp[Act.eval,Act.put]) (fi.out _ Z) ?_
       rintro e hq ⟨ef,f9,rfl,ab,cj⟩
       have ab:=xd ab Z.size
       have V:=cj.cell V id
       have Z:=Z.tt cj
       refine⟨_,rfl,?_⟩)
    | (refine jx rfl 177 [.tmp 71,.tmp 73] _ rfl fk [.pointer (some ⟨d,0,none⟩),.slice ef nn f9] (by simp[Act.eval,Act.put]) (fd.out _ _ Z ab) ?_
       rintro e ed ⟨bh,rfl,f8⟩
       refine⟨_,rfl,?_⟩))
   all_goals
    obtain⟨cf,T,dh,ar⟩:=f8;have dg:=r.fit.zl (ju m.xw);have z:ja w ed (fun i=>ρ i≠ .none\/i=b):=a0.trans T.keeps (fun i hi h=> .inl (by rw[<-aa i hi];exact h));have eq:∀ i,i<w.heap.size->cf i=ρ i:=fun i hi=>(T.role i (by have:=a0.size;omega)).trans (aa i hi);have hs:=a0.size;have gj:=k9.size;go_wp2;go_ret;refine⟨S6,ap.out.trans bx.out,.inr ⟨S9,true,fe.out,.inr ⟨rfl,?_⟩⟩⟩;rcases ar with⟨a7,bv⟩|⟨a7,gi,bv,dq⟩
    ·cases bv
     have h9:=r.next (T.keeps.mono (fun i _ t=> .inl t)) T.role dh (dg.mono (k:=k+70000+S9.keys.length) (m:=2*k+300000) (by omega)) (T.keeps.same r.row (fun t=>t r.nb.1));obtain⟨ρx,ee,eh,eo,i0,en,em,el⟩:=h9;refine .inl ⟨a7,rfl,ρx,ee,eh,eo,?_,fun i hi=>(en i (by omega)).trans (aa i hi),fun g j=>?_,fun p n c e=>?_⟩
     ·exact z
     ·rcases em g j with t|t
      ·rcases cu g t with t|t
       ·have:=q g t
        omega
       ·omega
      ·omega
     ·rcases el p n c e with⟨n',c',t⟩|t
      ·rcases b0 p n' c' t with⟨n2,c2,t2⟩|t
       ·exact(a3 p.block (by rw[t2];rfl)).1
       ·omega
      ·omega
    ·cases bv
     exact .inr ⟨a7,⟨_,rfl,dq⟩,cf,dh,dg.mono (by omega),z,eq,_,_,_,_,_,_,_,_,_,_,T.keeps.same r.row (fun t=>t r.nb.1)⟩
theorem uo{t:TypeId}{a:Addr}(b x:Nat)(u:FrameMode)(w:World)(h:w.cell? ⟨x,0,none⟩=some (.iface t (.pointer (some a))))(d:Dg w b) :
 CallsD prog 127 #[.pointer (some ⟨b,0,none⟩),.pointer (some ⟨x,0,none⟩)] u w fun e u' w'=>u'=u/\e = .returned (.tuple #[])/\Dg w' b/\ja w w' (fun i=>i=b):=by
 obtain⟨o,y,v,s,r,q,n,m,k,p,g⟩:=d;have HS:=jb (Px g);clear g;go_enter_d func127,ntmps127;go_wp2_with fail;refine HS.out.mono ?_;rintro e l ⟨rfl,c,j⟩;have f:=jb c;clear c;go_wp2;go_end0;exact⟨rfl,⟨_,_,_,_,_,_,_,_,_,_,f.out⟩,j⟩
theorem Dg.keep{T:Nat->Prop}(h:Dg w b)(k:ja w w' T)(i:¬T b):Dg w' b:=by
 obtain⟨j,q,p,o,n,m,f,d,c,l,g⟩:=h;exact⟨j,q,p,o,n,m,f,d,c,l,k.same g i⟩
theorem tc.shut{n H l:World}{ρ:Nat->j3}{x:Nat}{S:jc}{v:Value}{o:Obj}(h:tc E B w ρ d b S k (.returned v) n)(O:w.heap[x]?=some o)(g:∃ c,n.heap[x]?=some (.cells c 128 (0,0)))(T:b<w.heap.size)(q:ρ x = .none)(r:ρ b = .none)(A:B<=x)(C:B<=b)(V:x≠b)(N:ja n H (fun i=>i=x))(M:ja H l (fun i=>i=b))(m:Dg l b){p:World}(I:ja p w (fun i=>ρ i≠ .none\/i=b))(U:p.heap.size<=x):tc E B p ρ d b S k (.returned v) l:=by
 obtain⟨⟨v',e,R⟩,G,D,F,L,j,u⟩:=h;cases e;obtain⟨c5,g⟩:=g;obtain⟨Z,a1,a2,a3,a4,a5,Y,X,W,cl,z⟩:=u;have s:=zC O;have f:ja n l (fun i=>i=x\/i=b):=(N.mono (fun i _ e=> .inl e)).trans M (fun i _ e=> .inr e)
 have J:∀ i,(i=x\/i=b)->G i = .none/\B<=i:=fun i t=>by
  rcases t with rfl|rfl
  ·exact⟨(j _ s).trans q,A⟩
  ·exact⟨(j _ T).trans r,C⟩
 have y:Err E l v 1:=R.keep f (fun i c t hc=>by
  rcases t with rfl|rfl
  ·rw[g] at hc
   injection hc with hc
   injection hc with h1 h2
   exact absurd h2 (by decide)
  ·rw[z] at hc
   injection hc with hc
   injection hc with h1 h2
   exact absurd h2 (by decide))
 refine⟨⟨v,rfl,y⟩,G,⟨D.rep.keep f (fun i t _=>(J i t).1),D.z8.keep f (fun i t=>(J i t).2),D.yz,ZI D.size f.size⟩,F,(I.trans L (fun i _ t=>t)).trans f (fun i hi t=>?_),fun i hi=>j i (ZH hi I.size),m⟩;rcases t with rfl|rfl
 ·omega
 ·exact .inr rfl
theorem Qv.looked{ρ:Nat->j3}{last:Nat}{S T:jc}(c:qo S T)(h:Qv E B w ρ d b T k R m2 last ml e w'):Qv E B w ρ d b S k R m2 last ml e w':=by
 obtain⟨i,g,⟨f,j⟩|f⟩:=h
 ·exact⟨i,c.trans g,.inl ⟨fun t=>f (c.ou t),j⟩⟩
 ·exact⟨i,c.trans g,.inr f⟩
theorem Qv.cases{ρ:Nat->j3}{last:Nat}{S:jc}(h:Qv E B w ρ d b S k R m2 last ml e w') :
 (e = .returned .nilIface/\∃ T,ic E B w ρ d b T k m2 last ml w'/\∀ {j i:World},ic E B j ρ d b T k m2 last ml i->Qv E B j ρ d b S k R m2 last ml (.returned .nilIface) i) \/
 (∃ T v,e = .returned v/\tc E B w ρ d b T k (.returned v) w'/\∀ {j i:World},tc E B j ρ d b T k (.returned v) i->Qv E B j ρ d b S k R m2 last ml (.returned v) i):=by
 obtain⟨m,o,⟨g,c⟩|⟨p,f,r,⟨g,c⟩|⟨g,⟨c,rfl,n⟩|⟨c,n⟩⟩⟩⟩:=h
 ·obtain⟨v,l,_⟩:=c.1
  subst l;exact .inr ⟨m,v,rfl,c,fun q=>⟨m,o,.inl ⟨g,q⟩⟩⟩
 ·obtain⟨v,l,_⟩:=c.1
  subst l;exact .inr ⟨p,v,rfl,c,fun q=>⟨m,o,.inr ⟨p,f,r,.inl ⟨g,q⟩⟩⟩⟩
 ·exact .inl ⟨rfl,_,n,fun q=>⟨m,o,.inr ⟨p,f,r,.inr ⟨g,.inl ⟨c,rfl,q⟩⟩⟩⟩⟩
 ·obtain⟨v,l,_⟩:=n.1
  subst l;exact .inr ⟨_,v,rfl,n,fun q=>⟨m,o,.inr ⟨p,f,r,.inr ⟨g,.inr ⟨c,q⟩⟩⟩⟩⟩
theorem jdj{ρ:Nat->j3}{k' last:Nat}{S:jc}(D:Dk E B w ρ d S)(F:Fit k S)(H:Env E B w)(hk:k<530000000000)(b8:k<=k')(a8:At S ji (fun a=>a.bytes=m.bytes))(U:∀(W:World) (vm:Value),Dk E B W ρ d (S.called false)->Env E B W->W.heap[b]?=some (.cells (newRow d) 121 (0,0))->Bytes W vm m.bytes->Calls prog 131 #[.pointer (some ⟨b,0,none⟩),vm] W (Qv E B W ρ d b (S.called false) k' R m2 last ml))(hb:w.heap[b]?=some (.cells (newRow d) 121 (0,0)))(Z:ρ b = .none)(an:B<=b) :
 Calls prog 83 #[.pointer (some ⟨b,0,none⟩)] w (Qv E B w ρ d b S k' R m2 last ml):=by
 obtain⟨x,hx⟩:∃ x,x=w.heap.size:=⟨_,rfl⟩;obtain⟨w1,a0⟩:∃ w1,w1=w.alloc (.cells #[.nilIface] 128):=⟨_,rfl⟩;have k1:ja w w1 (fun _=>False):=by rw[a0];exact ja.alloc _ _ _
 have bc:w1.heap[x]?=some (.cells #[.nilIface] 128 (0,0)):=by rw[a0,hx];exact je _ _
 have al:=k1.same hb id;have cr:=zC hb;have u:ρ x = .none:=yE (fun hn=>by have:=D.rep.lt x hn;omega);have D1:=D.same k1;have b2:=Yc D1 (F.small (by omega)) ji (by decide);have c0:=zA (o:=0) al;simp at c0
 have c7:∀ o,(w.alloc o).cell? ⟨b,0,none⟩=some (.pointer (some ⟨d,0,none⟩)):=fun o=>by
  have:=zA (o:=0) ((ja.alloc w o (fun _=>False)).same hb id);simpa using this
 have cb:=jb b2;have HX:=jb hx;have a3:=jb bc;have a4:=jb al;have au:=jb U;have ab:=jb a8;have cd:=jb b8;clear b2 hx bc al hb hk U a8 b8;go_enter_defers func83,ntmps83;go_wp2_with fail;rw[<-a0,<-HX.out];clear a0 c7;refine cb.out.mono ?_;have j:x≠b:=by have:=HX.out;omega
 have O:B<=x:=by rw[HX.out];exact D.size
 rintro e V ⟨g2,I,⟨aa,v2,rfl,ak⟩|⟨_,b5,_⟩|⟨_,f,a,v2,hA,ha,rfl,M⟩⟩
 ·obtain⟨t2,a2,rfl⟩:=ak.shape;have l:=(g2.row a3.out u).1;have J:=(g2.row a4.out Z).1;obtain⟨y,v⟩:∃ y,y=V.setCell ⟨x,0,none⟩ (.iface t2 (.pointer (some a2))):=⟨_,rfl⟩;have G:ja V y (fun i=>i=x):=by rw[v];exact ja.setCell V ⟨x,0,none⟩ _
  have z:y.heap[x]?=some (.cells #[.iface t2 (.pointer (some a2))] 128 (0,0)):=by rw[v];exact(jd l _).trans rfl
  have N:=G.same J (Ne.symm j);have D3:Dk E B y ρ d (S.called false):=⟨I.rep.keep G (fun i e _=>by rw[e];exact u),I.z8.keep G (fun i e=>by rw[e];exact O),I.yz,ZI I.size G.size⟩
  have c3:Err E y (.iface t2 (.pointer (some a2))) 1:=ak.keep G (fun i c t hc=>by
   rw[t,l] at hc
   injection hc with hc
   injection hc with h1 h2
   exact absurd h2 (by decide))
  have ai:=ry D3.z8 c3 2 (by decide);rw[decide_eq_false (by decide)] at ai;have c6:=I.z8.cell 2 (by decide);have c5:=D3.z8.cell 2 (by decide);have bz:=I.z8.lt 2 (by decide);have bh:¬x=2:=by omega
  have bg:¬2=x:=by omega
  have x2:=zA (o:=0) l;have f2:=zB (o:=0) l;have x3:=zA (o:=0) z;have f3:=zB (o:=0) z;simp at x2 x3;obtain⟨X,ag⟩:∃ X,X=y.setCell ⟨x,0,none⟩ (.iface t2 (.pointer (some a2))):=⟨_,rfl⟩;have k4:ja y X (fun i=>i=x):=by rw[ag];exact ja.setCell y ⟨x,0,none⟩ _
  have am:X.heap[x]?=some (.cells #[.iface t2 (.pointer (some a2))] 128 (0,0)):=by rw[ag];exact(jd z _).trans rfl
  have x4:=zA (o:=0) am;simp at x4;have b9:=k4.same N (Ne.symm j);have hF:tc E B w1 ρ d b (S.called false) k' (.returned (.iface t2 (.pointer (some a2)))) V:=⟨⟨_,rfl,ak⟩,ρ,I,(F.called false).mono cd.out,g2.keeps.mono (fun i _ t=> .inl t),fun _ _=>rfl,_,_,_,_,_,_,_,_,_,_,J⟩;have HF:=jb hF;have ce:=jb ai;have ca:=jb l;have c9:=jb am;have bw:ja V X (fun i=>i=x):=G.trans k4 (fun i _ e=>e);have ci:Hid (Dg X b):=⟨_,_,_,_,_,_,_,_,_,_,b9⟩;clear hF ai l z am J N b9 c0;go_wp2_with fail;rw[<-v];refine ce.out.mono ?_;rintro e w5 ⟨rfl,h5⟩;subst h5;clear v;go_wp2;rw[<-ag];refine leaves_cons (f:=127) (args:=#[.pointer (some ⟨b,0,none⟩),.pointer (some ⟨x,0,none⟩)]) (by simp) (by simp[go_sem]) ?_;refine(uo b x .returning _ x4 ci.out).mono ?_;rintro e u' L ⟨rfl,rfl,aq,k6⟩;refine⟨_,Yz rfl rfl (k6.same c9.out (fun e=>j e)),S.called false,qo.called S,.inl ⟨fun w=>(by rw[w.bad] at aa;cases aa),?_⟩⟩;exact HF.out.shut a3.out ⟨_,ca.out⟩ (zC a4.out) u Z O an j bw k6 aq (k1.up) (by rw[HX.out];exact zJ _)
 ·obtain⟨f,a,hA,_⟩:=ab.out
  rw[hA] at b5;cases b5
 ·obtain⟨f',a',bd,bb,ba⟩:=ab.out
  rw[hA] at bd;cases bd;rw[ha] at bb;cases bb;rw[ba] at M;obtain⟨p2,c2,rfl⟩:=jl M;have l:=(g2.row a3.out u).1;have J:=(g2.row a4.out Z).1;obtain⟨y,v⟩:∃ y,y=V.setCell ⟨x,0,none⟩ .nilIface:=⟨_,rfl⟩;have G:ja V y (fun i=>i=x):=by rw[v];exact ja.setCell V ⟨x,0,none⟩ _
  have z:y.heap[x]?=some (.cells #[.nilIface] 128 (0,0)):=by rw[v];exact(jd l _).trans rfl
  have N:=G.same J (Ne.symm j);have D3:Dk E B y ρ d (S.called false):=⟨I.rep.keep G (fun i e _=>by rw[e];exact u),I.z8.keep G (fun i e=>by rw[e];exact O),I.yz,ZI I.size G.size⟩;have c6:=I.z8.cell 2 (by decide);have c5:=D3.z8.cell 2 (by decide);have bz:=I.z8.lt 2 (by decide);have bh:¬x=2:=by omega
  have bg:¬2=x:=by omega
  have x2:=zA (o:=0) l;have f2:=zB (o:=0) l;have x3:=zA (o:=0) z;simp at x2 x3;have Y:ja w y (fun i=>ρ i≠ .none\/i=b):=((k1.up).trans g2.keeps (fun i _ h=> .inl h)).trans G (fun i hi e=>by have:=HX.out;omega);have E3:Env E B y:=H.keep (Y.mono (fun i hi h=>(show B<=i from h.elim (fun h=>D.yz i h) (fun h=>by rw[h];exact an)))) (fun i h=>h);have b4:=G.row M (fun g hg e=>by have h1:=(M.lt g hg).1;have h2:=zC a3.out;have e':g=x:=e;omega);have ah:=au.out y (.slice p2 m.bytes.length c2) D3 E3 N (xr b4);obtain⟨nb,b6⟩:∃ nb,nb=m.bytes.length:=⟨_,rfl⟩;rw[<-b6] at ah ⊢;have cc:=jb ah;have a1:=jb z;clear ah l z J N M b4 c0 b6 ba;go_wp2_with fail;rw[<-v];refine(jg3 _ _).mono ?_;rintro e X ⟨rfl,h4⟩;subst h4;clear v;go_wp2_with fail;refine cc.out.mono ?_;intro e w5 hL;rcases hL.cases with⟨rfl,T,bx,r⟩|⟨T,v5,rfl,aj,r⟩
  ·obtain⟨ρ5,b0,b1,S5,k5,af,b7,a7⟩:=bx
   have s:=k5.same a1.out (fun t=>t.elim (fun t=>t u) j);have x5:=zA (o:=0) s;have f5:=zB (o:=0) s;simp at x5;obtain⟨L,A⟩:∃ L,L=w5.setCell ⟨x,0,none⟩ .nilIface:=⟨_,rfl⟩;have k6:ja w5 L (fun i=>i=x):=by rw[A];exact ja.setCell w5 ⟨x,0,none⟩ _
   have C:L.heap[x]?=some (.cells #[.nilIface] 128 (0,0)):=by rw[A];exact(jd s _).trans rfl
   have x6:=zA (o:=0) C;simp at x6;have bf:x<X.heap.size:=zC a1.out
   have S6:StM E B L ρ5 d b T k' m2 last ml false b0 b1:=S5.keep k6 (fun i _ e=>by
    rw[e]
    refine⟨O,fun t=>?_,fun p n c e2 e3=>?_⟩
    ·rcases t with t|t|t
     ·rw[af x bf] at t;exact t u
     ·exact j t
     ·have:=b7 x t;omega
    ·have:=a7 p n c e2;omega)
   have a9:ic E B w ρ d b T k' m2 last ml L:=by
    have d9:=Y.size;exact⟨ρ5,b0,b1,S6,(Y.trans k5 (fun i hi h=>h)).trans k6 (fun i hi e=>by have:=HX.out;omega),fun i hi=>af i (by omega),fun g hg=>by have:=b7 g hg;omega,fun p n c e=>by have:=a7 p n c e;omega⟩
   have bi:=jb ((r a9).looked (qo.called S));have ao:=jb C;clear a9 s C hL r;go_wp2;rw[<-A];refine leaves_cons (f:=127) (args:=#[.pointer (some ⟨b,0,none⟩),.pointer (some ⟨x,0,none⟩)]) (by simp) (by simp[go_sem]) ?_;refine(um b x .returning _ x6).mono ?_;rintro e u' w' ⟨rfl,rfl,rfl⟩;exact⟨.nilIface,Yz rfl rfl ao.out,bi.out⟩
  ·obtain⟨⟨d8,e5,c1⟩,c4⟩:=id aj
   cases e5;obtain⟨t5,a5,rfl⟩:=c1.shape;obtain⟨ρ5,D5,F5,k5,af,b3⟩:=c4;have s:=k5.same a1.out (fun t=>t.elim (fun t=>t u) j);have x5:=zA (o:=0) s;have f5:=zB (o:=0) s;simp at x5;obtain⟨L,A⟩:∃ L,L=w5.setCell ⟨x,0,none⟩ (.iface t5 (.pointer (some a5))):=⟨_,rfl⟩;have k6:ja w5 L (fun i=>i=x):=by rw[A];exact ja.setCell w5 ⟨x,0,none⟩ _
   have C:L.heap[x]?=some (.cells #[.iface t5 (.pointer (some a5))] 128 (0,0)):=by rw[A];exact(jd s _).trans rfl
   have x6:=zA (o:=0) C;simp at x6;have ch:=jb (b3.keep k6 (fun e=>j e.symm));have c8:=jb s;have ao:=jb C;have cf:=jb aj;have cg:=jb (fun(w0 V:World) (q:tc E B w0 ρ d b T k' (.returned (.iface t5 (.pointer (some a5)))) V)=>(r q).looked (qo.called S));have ar:b<X.heap.size:=ZH (zC a4.out) (ZI g2.keeps.size G.size);clear s C hL r aj b3;go_wp2;rw[<-A];refine leaves_cons (f:=127) (args:=#[.pointer (some ⟨b,0,none⟩),.pointer (some ⟨x,0,none⟩)]) (by simp) (by simp[go_sem]) ?_;refine(uo b x .returning _ x6 ch.out).mono ?_;rintro e u' w7 ⟨rfl,rfl,ap,k7⟩;refine⟨_,Yz rfl rfl (k7.same ao.out (fun e=>j e)),cg.out _ _ (cf.out.shut a1.out ⟨_,c8.out⟩ ar u Z O an j k6 k7 ap Y (by rw[HX.out];exact zJ _))⟩
def Xn(S:jc)(R:DStep)(m2:Rf.Man)(No Yes:jc->Prop):Prop :=
 ∃ S1,qo S S1/\((¬qe S/\No S1)\/∃ S2 ok2,R S1 S2 ok2/\((ok2=false/\No S2) \/
  (ok2=true/\(((jc.zl (ju m2) S2).2=true/\Yes (jc.zl (ju m2) S2).1)\/((jc.zl (ju m2) S2).2=false/\No (jc.zl (ju m2) S2).1)))))
theorem Xn.mono{S:jc}{n g i d:jc->Prop}(h:Xn S R m2 n g)(l:∀ T,n T->i T)(o:∀ T,g T->d T):Xn S R m2 i d:=by
 obtain⟨k,j,⟨a,b⟩|⟨m,f,r,⟨a,b⟩|⟨a,⟨b,c⟩|⟨b,c⟩⟩⟩⟩:=h
 ·exact⟨k,j,.inl ⟨a,l _ b⟩⟩
 ·exact⟨k,j,.inr ⟨m,f,r,.inl ⟨a,l _ b⟩⟩⟩
 ·exact⟨k,j,.inr ⟨m,f,r,.inr ⟨a,.inl ⟨b,o _ c⟩⟩⟩⟩
 ·exact⟨k,j,.inr ⟨m,f,r,.inr ⟨a,.inr ⟨b,l _ c⟩⟩⟩⟩
theorem Qv.steps{ρ:Nat->j3}{last:Nat}{S:jc}(h:Qv E B w ρ d b S k R m2 last ml e w') :
 Xn S R m2 (fun T=>tc E B w ρ d b T k e w') (fun T=>e = .returned .nilIface/\ic E B w ρ d b T k m2 last ml w'):=h
def jav(E:Nat->Addr)(B:Nat)(w:World)(ρ:Nat->j3)(d k:Nat)(e:Ending)(w':World)(T:jc):Prop :=
 e = .returned (.tuple #[.pointer none,.int .i64 1])/\∃ ρ',Dk E B w' ρ' d T/\Fit k T/\ja w w' (fun i=>ρ i≠ .none)/\(∀ i,i<w.heap.size->ρ' i=ρ i)
def Wo(E:Nat->Addr)(B:Nat)(w:World)(ρ:Nat->j3)(d k:Nat)(m:Rf.Man)(last:Nat)(ml:List Rf.Ch)(e:Ending)(w':World)(T:jc):Prop :=
 ∃ b ρ' rv mv,e = .returned (.tuple #[.pointer (some ⟨b,0,none⟩),.int .i64 0])/\w.heap.size<=b/\StM E B w' ρ' d b T k m last ml false rv mv/\ja w w' (fun i=>ρ i≠ .none)/\(∀ i,i<w.heap.size->ρ' i=ρ i)/\(∀ g,mv.ownBlock=some g->w.heap.size<=g)/\(∀ p n c,rv = .slice (some p) n c->w.heap.size<=p.block)
theorem je0{ρ:Nat->j3}{last:Nat}{S:jc}(D:Dk E B w ρ d S)(h:∀ W,ja w W (fun _=>False)->∀ b,W.heap[b]?=some (.cells (newRow d) 121 (0,0))->ρ b = .none->B<=b->Calls prog 83 #[.pointer (some ⟨b,0,none⟩)] W (Qv E B W ρ d b S k R m2 last ml)) :
 Calls prog 45 #[.pointer (some ⟨d,0,none⟩)] w fun e w'=>Xn S R m2 (jav E B w ρ d k e w') (Wo E B w ρ d k m2 last ml e w'):=by
 obtain⟨b,m⟩:∃ b,b=w.heap.size:=⟨_,rfl⟩;obtain⟨q,j⟩:∃ q,q=w.alloc (.cells (newRow d) 121):=⟨_,rfl⟩;have A:ja w q (fun _=>False):=by rw[j];exact ja.alloc _ _ _
 have u:q.heap[b]?=some (.cells (newRow d) 121 (0,0)):=by rw[j,m];exact je _ _
 have l:=h q A b u (yE (fun hn=>by have:=D.rep.lt b hn;omega)) (by rw[m];exact D.size);have L:=jb l;have o:=jb m;clear l u h m;go_enter func45,ntmps45;go_wp2_with fail;rw[<-j,<-o.out];clear j;refine L.out.mono ?_;intro e w2 r;have kb:∀ {z:World},ja q z (fun i=>ρ i≠ .none\/i=b)->ja w z (fun i=>ρ i≠ .none):=fun kk=>(A.up).trans kk (fun i hi h=>h.elim id (fun e=>by have:=o.out;omega));have sz:=A.size;rcases r.cases with⟨rfl,T,l,f⟩|⟨T,v,rfl,s,f⟩
 ·have HS:=jb r.steps
  clear r f l;go_wp2;go_ret2;refine HS.out.mono (fun T hT=>?_) (fun T hT=>?_)
  ·obtain⟨⟨v,e,y⟩,_⟩:=hT
   cases e;obtain⟨t,a,e⟩:=y.shape;cases e
  ·obtain⟨_,N,C,F,X,V,H,I,x⟩:=hT
   exact⟨b,N,C,F,rfl,by rw[o.out];exact zJ _,X,kb V,fun i hi=>H i (by omega),fun g hg=>by have:=I g hg;omega,fun p n c e=>by have:=x p n c e;omega⟩
 ·obtain⟨⟨v',e,y⟩,J⟩:=id s
  cases e;obtain⟨N,D2,_⟩:=J;have M:=jb (Td D2.z8 y);obtain⟨t,a,rfl⟩:=y.shape;have HS:=jb r.steps;clear r f s;go_wp2_with fail;refine M.out.mono ?_;rintro e z ⟨rfl,rfl⟩;go_wp2;go_ret2;refine HS.out.mono (fun T hT=>?_) (fun T hT=>?_)
  ·obtain⟨_,O,Z,Y,U,G,_⟩:=hT
   exact⟨rfl,O,Z,Y,kb U,fun i hi=>G i (by omega)⟩
  ·obtain⟨e,_⟩:=hT
   cases e
end Go.Proofs.YtnipbplghijdmaaGreatDoor
namespace Go.Proofs.YtnipbplghijdmaaGreatDoor
open RowKit Maps WideShapes Go.Proofs.Tryz
variable {S S':jc} {U:Nat} {m:Rf.Man} {bls:List (List Rf.Ch)} {Q R:Want} {s:Rf.St}
theorem gz{b:List Rf.Ch}(h:Rf.zq b=true)(n:Nat):(Rf.jm n b).length<=600:=by
 obtain⟨g,f,c⟩:=(Rf.Ji b).1 h;have d:=Rf.Y3 c;have e:(Rf.jm n b).length=17+(b.flatMap Rf.entry).length:=by simp only[Rf.jm,Rf.frame,zW,Rf.js];omega
 omega
theorem jfo{m:Rf.Man}{d bs u:List (List Rf.Ch)}(h:(⟨m,bs++u,d⟩:Rf.St).Ok)(i:Nat):(⟨m,bs++u.take i,d⟩:Rf.St).Ok:=by
 refine⟨h.y7,h.runs,h.len,h.bl,fun b c=>h.log b ?_,?_⟩
 ·rcases ZA.1 c with c|c
  ·exact ZB _ c
  ·exact zY _ (zM c)
 ·have:=h.cap
  unfold Rf.St.last at this ⊢;simp only[zW,zK] at this ⊢;omega
theorem Ex.y7{a:jz}{m:Rf.Man}{c bs u:List (List Rf.Ch)}{g:List UInt8}(h:Ex a m.last bs u g)(d:(⟨m,bs++u,c⟩:Rf.St).Ok)(k:∀ i,i<=u.length->Q.Jj ⟨m,bs++u.take i,c⟩)(l:Q.now ⟨m,bs++u,c⟩)(f:∀ i,i<=u.length->Q.Qd ⟨m,bs++u.take i,c⟩):Jg m c Q a:=by
 refine⟨fun ch=>?_,bs++u,g,h.bytes,h.stub.over _ _,d,l,fun _=>by have:=f u.length (zJ _);rwa [xR] at this⟩
 ·obtain⟨i,q,j,p,o⟩:=h.settled (fun b hb n=>by have:=gz (d.log b (zY _ hb)) n;omega) ch
  exact⟨bs++u.take i,q,p,o _ _,jfo d i,k i j,fun _=>f i j⟩
theorem jdf:∀(u:List (List Rf.Ch)) (p k:Nat) (b:List Rf.Ch),pcs p (k+1) (u++[b])=pcs p (k+1) u++[(p+(Rf.jk k u).length,(Rf.jm (k+u.length+1) b).length)]:=by
 intro u
 induction u with
 | nil=>intro p k b;simp[pcs,Rf.jk]
 | cons x r ih =>
  intro p k b;rw[xM,pcs,ih,pcs,xM];have e:k+1+r.length+1=k+(x::r).length+1:=by rw[zH];omega
  rw[e,Q0,zW,XO p]
theorem jc7{a:jz}(h:a.Wf)(x:List UInt8):(a.put x).Wf:=by
 unfold jz.put
 split
 ·exact h
 ·rename_i e
  have b:0<x.length:=ZX.2 e;refine⟨?_,?_⟩
  ·show a.safe<=(a.bytes++x).length
   rw[zW];have:=h.1;omega
  ·show td a.safe (a.late++[(a.bytes.length,x.length)]) (a.bytes++x).length
   rw[zW];exact h.2.snoc _ b
theorem Ex.put{a:jz}{last:Nat}{bs u:List (List Rf.Ch)}(h:Ex a last bs u [])(b:List Rf.Ch):Ex (a.put (Rf.jm (last+(bs++u).length+1) b)) last bs (u++[b]) []:=by
 have d:=h.bytes;rw[ZC] at d;have c:=wh (last+(bs++u).length+1) b;have f:Rf.jm (last+(bs++u).length+1) b≠[]:=fun e=>by rw[e] at c;simp at c
 have g:=h.late;unfold jz.put;rw[if_neg f];refine⟨?_,h.safe,?_,oq.nil⟩
 ·show a.bytes++_=_
  rw[d,ZC,<-XL bs u [b],Rf.al]
 ·show a.late++_=_
  rw[g];simp only[Zb,if_true,ZC];rw[jdf,d,Qn,zW];have e:last+(bs++u).length+1=last+bs.length+u.length+1:=by rw[zW];omega
  rw[e]
theorem Ex.half{a:jz}{last:Nat}{bs u:List (List Rf.Ch)}(h:Ex a last bs u []){x:List UInt8}(d:oq x)(b:x≠[]):Ex (a.put x) last bs u x:=by
 have c:=h.bytes;rw[ZC] at c;unfold jz.put;rw[if_neg b];refine⟨?_,h.safe,?_,d⟩
 ·show a.bytes++_=_
  rw[c]
 ·show a.late++_=_
  rw[h.late,c,Qn,zW];simp[Zb,b]
structure Norm(S:jc)(U:Nat)(s:Rf.St)(Q:Want):Prop where
 pow:Pow S U s.m s.bls Q
 late:S.late=[]
 log:At S (jh s.m.log) (fun a=>∃ bs u,s.bs=bs++u/\Ex a s.m.last bs u []/\∀ i,i<=u.length->Q.Jj ⟨s.m,bs++u.take i,s.bls⟩)
 now:Q.now s
 ok:s.Ok
 only:Qf S (ju s.m)
def Safe(S:jc)(U:Nat)(Q:Want):Prop:=∃ m bls,Pow S U m bls Q
theorem Norm.safe(h:Norm S U s Q):Safe S U Q:=⟨s.m,s.bls,h.pow⟩
theorem Norm.mono(h:Norm S U s Q){V:Nat}(c:U<=V)(b:Q.Le R):Norm S V s R :=
 ⟨h.pow.mono c b,h.late,h.log.mono (fun a ⟨bs,u,e,hl,hq⟩=>⟨bs,u,e,hl,fun i hi=>b.Jj _ (hq i hi)⟩),b.now _ h.now,h.ok,h.only⟩
theorem Norm.looked(h:Norm S U s Q)(b:qo S S'):Norm S' U s Q :=
 ⟨b.pow h.pow,by rw[b.late];exact h.late,b.at h.log,h.now,h.ok,h.only.zu b.names⟩
theorem Sat.apart{T:List Tok}{fs:Fls}{n x:Str}{P:jz->Prop}{f:Nat}{a':jz}(h:Sat T fs n P)(u:T.Pairwise (fun p q=>p.2≠q.2))(s:(x,f)∈T)(t:n≠x):Sat T (fs.put f a') n P:=by
 obtain⟨g,b,r,y,v⟩:=h;refine⟨g,b,r,(fs.yx a' (fun e=>?_)).trans y,v⟩;subst e;rcases ZG.1 r with⟨i,o,l⟩;rcases ZG.1 s with⟨j,m,k⟩;have d:=XF.1 u;rcases Nat.lt_trichotomy i j with c|c|c
 ·exact(d i j o m c) (by rw[l,k])
 ·subst c;rw[l] at k;cases k;exact t rfl
 ·exact(d j i m o c) (by rw[l,k])
theorem vq{m:Rf.Man}{b:List (List Rf.Ch)}{p:Str×List UInt8}(c:p∈qq m.settled b)(n:Nat):p.1≠jh n:=by
 obtain⟨q,d,rfl⟩:=J9.1 c;exact fun e=>Yj _ _ e.symm
theorem Norm.jdv(h:Norm S U s Q){f c:Nat}{a a':jz}(y:S.at (jh s.m.log)=some f)(o:S.files f=some a)(t:a'.Wf)(v:a'.bytes.length<=a.bytes.length+c)(B:U+c<=60000)(u:Jg s.m s.bls R a'):Pow ((S.called true).withFile f a') (U+c) s.m s.bls R:=by
 obtain⟨T,k,q⟩:=h.pow.cur;have l:=k.fs.at.1 y
 have A:a.bytes.length<=U:=by
  have C:=k.size
  have z:∀ {T:List Tok},(jh s.m.log,f)∈T->a.bytes.length<=Zv S.files T:=by
   intro T g
   induction T with
   | nil=>cases g
   | cons x r ih =>
    rw[Qj];rcases zF.1 g with e|g
    ·subst e
     have:xm S.files f=a.bytes:=by unfold xm;rw[o];rfl
     simp only[this];omega
    ·have:=ih g
     omega
  have:=z l;omega
 have j:Qw (Fls.put S.files f a') (U+c) s.m s.bls R S.names:=by
  refine⟨T,k.write o v,(q.man.apart k.apart l (tn _)),fun p hp=>(q.runs p hp).apart k.apart l (vq hp _),⟨f,a',l,Fls.yl _ _ _,u⟩⟩
 have g:=h.pow.tied;rw[h.late] at g;refine⟨by show S.names=S.late.foldl doA S.safe;rw[h.late];exact g,fun i b hb=>?_,fun i b hb=>?_,?_,j⟩
 ·have d:Fls.put S.files f a' i=some b:=hb
  by_cases e:i=f
  ·subst e;rw[Fls.yl] at d;cases d;exact t
  ·rw[Fls.yx _ _ e] at d;exact h.pow.wf i b d
 ·have d:Fls.put S.files f a' i=some b:=hb
  by_cases e:i=f
  ·subst e;rw[Fls.yl] at d;cases d;omega
  ·rw[Fls.yx _ _ e] at d;exact h.pow.small i b d
 ·show tf (Mz (Fls.put S.files f a') (U+c) R) S.safe S.late
  rw[h.late];have n:S.names=S.safe:=g;show Mz _ _ _ S.safe;rw[<-n];exact⟨_,_,j⟩
theorem Norm.write(h:Norm S U s Q){b:List Rf.Ch}{B:Bool}(T:Rf.zq b=true)(Y:s.last<1000000000)(W:U+600<=60000){R':Want}(hQ:∀ t,Q.Jj t->R.Jj t)(C:R.now (s.write b))(N:∀ t,Q.Jj t->R'.Jj t)(M:R'.now s)(hT:∀ l,l <+: (s.write b).bs->R.Qd ⟨s.m,l,s.bls⟩)(I:∀ l,l <+: s.bs->R'.Qd ⟨s.m,l,s.bls⟩)(r:Kp (jh s.m.log) (Rf.jm (s.last+1) b) S S' B) :
 (B=true->Norm S' (U+600) (s.write b) R)/\(B=false->Pow S' (U+600) s.m s.bls R'/\S'.late=[]/\Qf S' (ju s.m)):=by
 obtain⟨f,a,A,z,X⟩:=r;obtain⟨f',a1,y,v,bs,u,c,V,O⟩:=h.log;rw[A] at y;cases y;rw[z] at v;cases v;have n:=h.pow.wf f a z;have a3:=gz T (s.last+1);have g:=wh (s.last+1) b;have j:s.last+1=s.m.last+(bs++u).length+1:=by show s.m.last+s.bs.length+1=_;rw[c]
 have d:∀ x:List UInt8,(a.put x).bytes.length<=a.bytes.length+x.length:=fun x=>by
  unfold jz.put
  split
  ·omega
  ·show(a.bytes++x).length<=_;rw[zW];exact zJ _
 have Z:(⟨s.m,bs++u,s.bls⟩:Rf.St).Ok:=by have:=h.ok;rw[show s=⟨s.m,s.bs,s.bls⟩from rfl,c] at this;exact this
 rcases X with⟨_,rfl,rfl⟩|⟨_,_,rfl,rfl⟩
 ·refine⟨fun t=>(by cases t),fun _=>?_⟩
  obtain⟨l,F,H⟩:=Dc (s.last+1) b (by omega)
  have D:oq ((Rf.jm (s.last+1) b).take ((Rf.jm (s.last+1) b).length/2)):=by
   rw[H] at g ⊢;exact oq.of F (by omega)
  have E:(Rf.jm (s.last+1) b).take ((Rf.jm (s.last+1) b).length/2)≠[]:=fun e=>by
   have:=congrArg List.length e;rw[zK,zX] at this;omega
  have k:=V.half D E;have L:R'.now ⟨s.m,bs++u,s.bls⟩:=by rw[<-c];exact M
  exact⟨h.jdv A z (jc7 n _) (ZI (d _) (by rw[zK];omega)) W (k.y7 Z (fun i hi=>N _ (O i hi)) L (fun i hi=>I _ (by rw[c];exact(List.prefix_append_right_inj _).2 (List.take_prefix _ _)))),h.late,h.only.zu rfl⟩
 ·refine⟨fun _=>?_,fun t=>(by cases t)⟩
  have k:=V.put b;rw[<-j] at k;have p:=h.ok.write T Y
  have G:(⟨s.m,bs++(u++[b]),s.bls⟩:Rf.St).Ok:=by
   have:(⟨s.m,s.bs++[b],s.bls⟩:Rf.St).Ok:=p;rwa [c,XL] at this
  have J:R.now ⟨s.m,bs++(u++[b]),s.bls⟩:=by rw[<-XL,<-c];exact C
  have o:∀ i,i<=(u++[b]).length->R.Jj ⟨s.m,bs++(u++[b]).take i,s.bls⟩:=fun i hi=>by
   rcases zV u.length i with a4|q
   ·rw[xF (by rw[zW,ZK];omega),<-XL,<-c]
    exact R.le _ C
   ·rw[xE q]
    exact hQ _ (O i q)
  exact⟨h.jdv A z (jc7 n _) (ZI (d _) (by omega)) W (k.y7 G o J (fun i hi=>hT _ (by show _ <+: s.bs++[b];rw[c,XL];exact(List.prefix_append_right_inj _).2 (List.take_prefix _ _)))),h.late,⟨f,_,A,Fls.yl _ _ _,bs,u++[b],by show s.bs++[b]=_;rw[c,XL],k,o⟩,C,p,h.only.zu rfl⟩
theorem yw.jg2{a:jz}{last:Nat}{bs:List (List Rf.Ch)}(h:yw (Rf.jk last bs) a):Ex a last bs [] [] :=
 ⟨by rw[h.bytes,ZC,ZC],h.safe,by rw[h.late];simp[pcs,Zb],oq.nil⟩
theorem Pow.again{bs:List (List Rf.Ch)}(h:Pow S U m bls Q)(f:S.late=[])(l:At S (jh m.log) (yw (Rf.jk m.last bs)))(j:(⟨m,bs,bls⟩:Rf.St).Ok)(k:R.now ⟨m,bs,bls⟩):Pow S U m bls R:=by
 obtain⟨T,i,g⟩:=h.cur;have b:Qw S.files U m bls R S.names:=⟨T,i,g.man,g.runs,((At.sat i).1 l).mono (fun a q=>Jg.sure q j k)⟩;have d:=h.tied;rw[f] at d;have c:S.names=S.safe:=d;exact⟨h.tied,h.wf,h.small,by rw[f];show Mz _ _ _ S.safe;rw[<-c];exact⟨_,_,b⟩,b⟩
theorem Norm.again(h:Norm S U s Q)(c:At S (jh s.m.log) (yw (Rf.jk s.m.last s.bs)))(b:R.now s):Norm S U s R:=by
 refine⟨h.pow.again h.late c h.ok b,h.late,c.mono (fun a q=>⟨s.bs,[],by rw[ZC],q.jg2,fun i hi=>?_⟩),b,h.ok,h.only⟩;have:i=0:=Nat.le_zero.1 hi;subst this;simpa using R.le _ b
theorem Norm.sync(h:Norm S U s Q)(d:(S.qn (jh s.m.log)).2=true):Norm (S.qn (jh s.m.log)).1 U s Q.whole/\At (S.qn (jh s.m.log)).1 (jh s.m.log) (yw (Rf.jk s.m.last s.bs)):=by
 have f:=th (jh s.m.log) d h.log
 have b:At (S.qn (jh s.m.log)).1 (jh s.m.log) (yw (Rf.jk s.m.last s.bs)):=f.mono (fun a ⟨a0,⟨bs,u,e,hF,hq⟩,ea⟩=>by
  have c:=hF.bytes
  rw[ZC,<-e] at c
  rw[ea]
  exact⟨c,by show a0.bytes.length=_;rw[c],rfl⟩)
 have g:Norm (S.qn (jh s.m.log)).1 U s Q:=by
  refine⟨h.pow.sync _,by rw[(Cj S _).2];exact h.late,b.mono (fun a q1=>⟨s.bs,[],by rw[ZC],q1.jg2,fun i hi=>?_⟩),h.now,h.ok,h.only.zu (au _ _)⟩;have:i=0:=Nat.le_zero.1 hi;subst this;simpa using Q.le _ h.now
 exact⟨g.again b h.now,b⟩
end Go.Proofs.YtnipbplghijdmaaGreatDoor
