/-
  S: MemPut MemFrom Apply Replay Files Files2 Files3.
-/
import Derived.Deep.DeepCutAuto
import Derived.Test.YtnipbplghijdmaaGreatDoorS18
import Derived.Test.YtnipbplghijdmaaGreatDoorS16
import Derived.Test.YtnipbplghijdmaaGreatDoorS08
set_option maxRecDepth 100000
set_option maxHeartbeats 8000000
set_option linter.unusedVariables false
set_option linter.unusedSimpArgs false
namespace Go.Proofs.YtnipbplghijdmaaGreatDoor
open RowKit Maps WideShapes Go.Proofs.Tryz
variable {W w w':World} {A B X b d k o:Nat} {v:Value} {F:Bool} {E:Nat->Addr}
theorem Mc(h:Below w.heap.size w w'):ja w w' (fun _=>False):=⟨h.os,h.tape,h.output,h.size,fun k hk _=>h.block k hk⟩
theorem Mp(s:Str)(w:World)(d:s.length<1099511627776) :
 Calls prog 152 #[jd s] w fun e w'=>e = .returned (jd s)/\ja w w' (fun _=>False):=by
 have b:(⟨s.toArray⟩:ByteArray).size<=281474976710656:=by show s.toArray.size<=_;simp;omega
 go_enter func152,ntmps152
 go_wp2_with (go_at_call 189;refine(Tryz.stringslite_Clone ⟨s.toArray⟩ _ b).mono ?_;rintro e w' ⟨rfl,c⟩)
 go_ret;exact⟨rfl,Mc c⟩
def Qc(c:Rf.Ch):Obj:= .cells #[jd c.key,jd c.value,.bool c.gone] 88
theorem Ca{s:Str}{c:Rf.Ch}(b:s.length<1099511627776)(f:W.heap[X]?=some (Qc c))(d:ja w W (fun _=>False)) :
 Calls prog 152 #[jd s] W fun e w'=>e = .returned (jd s)/\w'.heap[X]?=some (Qc c)/\ja w w' (fun _=>False):=by
 refine(Mp s W b).mono ?_;rintro e w' ⟨rfl,k⟩;exact⟨rfl,k.same f id,d.tt k⟩
theorem oz(b:Array Value)(w:World):(callFunc 152 b).run prog w = .ok (.enter 152 b) w:=by kernel_rfl
theorem Wz{d:World}{key b:Str}{c:Bool}(i:d.heap[X]?=some (Qc ⟨key,b,c⟩))(g:ja w d (fun _=>False))(f:w.heap.size<=X:=by exact xA _) :
 ((d.setCell ⟨X,0,none⟩ (jd key)).setCell ⟨X,1,none⟩ (jd b)).heap[X]?=some (Qc ⟨key,b,c⟩)/\ja w ((d.setCell ⟨X,0,none⟩ (jd key)).setCell ⟨X,1,none⟩ (jd b)) (fun _=>False) :=
 ⟨(jc (o:=1) (jc (o:=0) i (jd key)) (jd b)).trans rfl,(g.Xd f _).Xd f _⟩
theorem Mk(b:Array Value)(w:World):(callFunc 153 b).run prog w = .ok (.enter 153 b) w:=by kernel_rfl
theorem Mm(b:Array Value)(w:World):(callFunc 155 b).run prog w = .ok (.enter 155 b) w:=by kernel_rfl
theorem Vd{l:List Rf.Ch}{key:Str}{c:Rf.Ch}(m:A=Rf.below l key)(j:F=decide ((l[Rf.below l key]?).map Rf.Ch.key=some key))(b:Chs W v l)(d:Rf.jy l)(f:l.length<1099511627776)(i:W.heap[X]?=some (Qc c))(g:ja w W (fun _=>False)) :
 Calls prog 153 #[v,jd key,.func (.func 154) #[] #[]] W fun e w'=>e = .returned (.tuple #[ju A,.bool F])/\w'.heap[X]?=some (Qc c)/\ja w w' (fun _=>False):=by
 refine(Ew v l key W b d f).mono ?_;rintro e w' ⟨rfl,k⟩;rw[m,j];exact⟨rfl,k.same i id,g.tt k⟩
theorem Ps{l:List Rf.Ch}(h:k<l.length)(c:Rf.Ch):jg (l.set k c)=(((jg l).set (k*3) (jd c.key)).set (k*3+1) (jd c.value)).set (k*3+2) (.bool c.gone):=by
 induction l generalizing k with
 | nil=>simp at h
 | cons x r ih =>
  cases k with
  | zero=>rfl
  | succ k =>
   have:=ih (k:=k) (by simpa using h);have e:∀(x:Rf.Ch) r,jg (x::r)=jd x.key::jd x.value::Value.bool x.gone::jg r:=fun _ _=>rfl;rw[List.set_cons_succ,e,e,this,show(k+1)*3=k*3+1+1+1 by omega];rfl
theorem jav{b:Array Value}(h:b[o]?=some v):b.setIfInBounds o v=b:=by
 apply Array.ext_getElem?;intro j;rw[Array.getElem?_setIfInBounds]
 split
 ·rename_i e;subst e
  rw[h,if_pos (Array.getElem?_eq_some_iff.1 h).1]
 ·rfl
theorem We{l L:List Rf.Ch}{c:Rf.Ch}{base q:Nat}(k:L=l.take A++c::l.drop A)(m:A<=l.length)(j:l.length<1048576)(b:base<=W.heap.size)(d:W.ownsRow base 88 3 v l.length (jg l))(i:One W q c)(f:v.ownBlock≠some q) :
 Calls prog 155 #[v,ju A,.slice (some ⟨q,0,none⟩) 1 1] W fun e w' =>
  ∃ v',e = .returned v'/\w'.ownsRow base 88 3 v' L.length (jg L)/\Grown W v w' v':=by
 subst k;have g:=Sl v (l.take A) (l.drop A) c base q W (by rw[ZR];exact j) b (by rw[ZR];exact d) i f;rw[ZT,XI m] at g;exact g
theorem jdy(b o:Nat)(r:Array Value)(t:TypeId)(v:Value)(l:List Rf.Ch)(c:Rf.Ch)(base:Nat)(w:World)(hb:w.heap[b]?=some (.cells r t (0,0)))(hv:r[o]?=some v)(B:w.ownsRow base 88 3 v l.length (jg l))(U:v.ownBlock≠some b)(hr:Rf.jy l)(hl:l.length<1048576)(hk:c.key.length<1099511627776)(hx:c.value.length<1099511627776)(a0:base<=w.heap.size) :
 Calls prog 108 #[.pointer (some ⟨b,o,none⟩),chV c] w fun e w'=>e = .returned (.tuple #[])/\∃ v',w'.heap[b]?=some (.cells (r.setIfInBounds o v') t (0,0)) /\
  w'.ownsRow base 88 3 v' (Rf.put l c).length (jg (Rf.put l c))/\(v'.ownBlock=v.ownBlock\/∃ g,v'.ownBlock=some g/\w.heap.size<=g)/\ja w w' (fun i=>i=b\/some i=v.ownBlock):=by
 rw[Rf.dt hr,<-Rf.Wf hr];have M:=je w (Qc c);have a8:=ja.alloc w (Qc c) (fun _=>False);have HX:Hid ((w.alloc (Qc c)).drew.heap[w.heap.size]?=some (Qc c)):=M;have KA:=a8.draw;have c0:=zA (o:=0) M;have c1:=zA (o:=1) M;simp at c0 c1;obtain⟨X,a7⟩:∃ X,X=w.heap.size:=⟨_,rfl⟩;obtain⟨key,f,d⟩:=c;have cd:=jb a7;clear a7 M;go_enter func108,ntmps108;go_wp2_with fail
 go_cut [] from 6 (fun wc=>wc.heap[w.heap.size]?=some (Qc ⟨key,f,d⟩)/\ja w wc (fun _=>False))
 case first =>
  go_region_law (first
   | (refine jr rfl 152 [.tmp 7] _ rfl oz [jd key] (by simp[Act.eval,Act.put]) (Ca hk HX.out KA) ?_
      rintro e w2 ⟨rfl,s,KB⟩
      have c0:=zA (o:=0) s
      have c1:=zA (o:=1) s
      simp at c0 c1
      have Y:=jb s
      clear s
      refine⟨_,rfl,?_⟩)
   | (refine jr rfl 152 [.tmp 10] _ rfl oz [jd f] (by simp[Act.eval,Act.put]) (Ca hx Y.out KB) ?_
      rintro e w3 ⟨rfl,y,KC⟩
      have f0:=zB (o:=0) y
      have f1:=zB (o:=1) y
      have c0:=zA (o:=0) y
      have c1:=zA (o:=1) y
      simp at c0 c1
      have az:=jb y
      clear y
      refine⟨_,rfl,?_⟩))
  all_goals
   go_wp2;go_meet
   case rel=>exact Wz az.out KC
 case rest =>
  obtain⟨W,kc⟩:=hcut;have V:wc.heap[b]?=some (.cells r t (0,0)):=kc.same hb id;have m0:=zA (o:=o) V;rw[hv] at m0;have x0:=zA (o:=0) W;simp at x0;have E:wc.ownsRow base 88 3 v l.length (jg l):=kc.row B (fun _ _ h=>h);have a5:Chs wc.drew v l:=(xw E).same (ja.drew wc _);have ae:=jb W;have b6:=jb V;have ag:=jb kc;have HV:=jb hv;have aw:l.length<1099511627776:=by omega
  clear W V kc HX KA c0 c1 a8 hv;obtain⟨A,hA⟩:∃ A,A=Rf.below l key:=⟨_,rfl⟩;obtain⟨F,hF⟩:∃ F:Bool,F=decide ((l[Rf.below l key]?).map Rf.Ch.key=some key):=⟨_,rfl⟩;have ad:Hid (wc.drew.heap[w.heap.size]?=some (Qc ⟨key,f,d⟩)):=ae.out;have z:Hid (ja w wc.drew (fun _=>False)):=ag.out.draw;have HA:=jb hA;have HF:=jb hF;clear hA hF;go_wp2_with fail
  go_cut [4,5] from 14 (fun s4 s5 wd=>s4=ju A/\s5 = .bool F/\wd.heap[w.heap.size]?=some (Qc ⟨key,f,d⟩)/\ja w wd (fun _=>False))
  case first =>
   go_region_law (
    refine jr rfl 153 [.tmp 18,.tmp 20,.func 154] _ rfl Mk [v,jd key,.func (.func 154) #[] #[]] (by simp[Act.eval]) (Vd HA.out HF.out a5 hr aw ad.out z.out) ?_
    rintro e w2 ⟨rfl,s,k2⟩
    have Y:=jb s
    clear s
    refine⟨_,rfl,?_⟩)
   all_goals
    go_wp2;go_meet
    case rel=>exact⟨rfl,rfl,Y.out,k2⟩
  case rest =>
   clear m0 x0 E a5 ae b6 ag ad z;obtain⟨rfl,rfl,J,kd⟩:=hcut;have H:wc.heap[b]?=some (.cells r t (0,0)):=kd.same hb id;have m0:=zA (o:=o) H;rw[HV.out] at m0;have f0:=zB (o:=o) H;have x0:=zA (o:=0) J;have x1:=zA (o:=1) J;have x2:=zA (o:=2) J;simp at x0 x1 x2;have D:wc.ownsRow base 88 3 v l.length (jg l):=kd.row B (fun _ _ h=>h);have Z:=jb H;have n:=jb D;have z:=jb kd;clear H D kd J
   cases F with
   | true =>
    have q:(l[Rf.below l key]?).map Rf.Ch.key=some key:=of_decide_eq_true HF.out.symm
    have a9:A<l.length:=by
     rw[<-HA.out] at q;rcases ZJ A l.length with h|h
     ·exact h
     ·rw[XQ h] at q;cases q
    have m:Rf.td ⟨key,f,d⟩ l=l.set A ⟨key,f,d⟩:=by unfold Rf.td;rw[if_pos q,HA.out]
    have C:=jb m;clear m q;rcases n.out.2 with⟨_,h0⟩|⟨g,cap,cg,e,ax,j,h1,h2,h3,h4⟩
    ·omega
    ·subst e
     have cb:=zB (o:=A*3) j;have ca:=zB (o:=A*3+1) j;have c9:=zB (o:=A*3+2) j;obtain⟨ac,ab,aa⟩:=Y2 a9;have d0:=n.out.cells rfl (A*3) _ ac;have d1:=n.out.cells rfl (A*3+1) _ ab;have d2:=n.out.cells rfl (A*3+2) _ aa;rw[add_zero] at d0 d1 d2;clear ac ab aa;have b4:=jb j;have H3:=jb h3;have H4:=jb h4;clear j h3 h4;go_wp2_with fail
     go_region
     all_goals
      go_wp2;refine bodyPost_ret (results_none rfl _ _ _) rfl ?_;refine⟨rfl,?_⟩;have q1:=jc (w:=wc.drew) (o:=A*3) b4.out (jd key);have q2:=jc (o:=A*3+1) q1 (jd f);have q3:=jc (o:=A*3+2) q2 (.bool d)
      have kk:ja w (((wc.drew.setCell ⟨g,A*3,none⟩ (jd key)).setCell ⟨g,A*3+1,none⟩ (jd f)).setCell ⟨g,A*3+2,none⟩ (.bool d)) (fun i=>i=b\/some i=(Value.slice (some ⟨g,0,none⟩) l.length cap).ownBlock) :=
       ((((z.out.draw).up).set (p:=⟨g,A*3,none⟩) (.inr rfl) _).set (p:=⟨g,A*3+1,none⟩) (.inr rfl) _).set (p:=⟨g,A*3+2,none⟩) (.inr rfl) _
      refine⟨.slice (some ⟨g,0,none⟩) l.length cap,?_,?_,.inl rfl,kk⟩
      ·have ah:b≠g:=fun e=>U (by rw[e];rfl)
       have e1:r.setIfInBounds o (.slice (some ⟨g,0,none⟩) l.length cap)=r:=by
        exact jav HV.out
       rw[e1];have h5:=(((ja.setCell wc.drew ⟨g,A*3,none⟩ (jd key)).set (p:=⟨g,A*3+1,none⟩) rfl (jd f)).set (p:=⟨g,A*3+2,none⟩) rfl (.bool d)).same (k:=b) Z.out ah;exact h5
      ·rw[C.out]
       refine⟨by rw[qq],.inr ⟨g,cap,_,by rw[XK],ax,q3,by rw[XK];exact h1,h2,by simp[H3.out],?_⟩⟩;rw[Ps a9,XK,<-H4.out];simp[List.take_set]
   | false =>
    have q:¬(l[Rf.below l key]?).map Rf.Ch.key=some key:=of_decide_eq_false HF.out.symm;have m:Rf.td ⟨key,f,d⟩ l=l.take A++⟨key,f,d⟩::l.drop A:=by unfold Rf.td;rw[if_neg q,HA.out]
    have S:A<=l.length:=by rw[HA.out];unfold Rf.below;exact(List.takeWhile_prefix _).length_le
    obtain⟨L,hL⟩:∃ L,L=l.take A++(⟨key,f,d⟩:Rf.Ch)::l.drop A:=⟨_,rfl⟩;rw[<-hL] at m;have b3:=jb hL;have C:=jb m;have b8:=jb S;clear m q S hL;have N:One (wc.drew.alloc (Qc ⟨key,f,d⟩)) wc.heap.size ⟨key,f,d⟩:=je wc.drew _;have G:(wc.drew.alloc (Qc ⟨key,f,d⟩)).ownsRow base 88 3 v l.length (jg l):=(ja.alloc wc.drew _ _).row (T:=fun _=>False) ((ja.drew wc _).row (T:=fun _=>False) n.out (fun _ _ h=>h)) (fun _ _ h=>h);have a6:base<=(wc.drew.alloc (Qc ⟨key,f,d⟩)).heap.size:=ZF a0 (ZF z.out.size ((ja.alloc wc.drew (Qc ⟨key,f,d⟩) (fun _=>False)).size));have O:v.ownBlock≠some wc.heap.size:=fun e=>by have:=(n.out.lt _ e).2;omega
    have bh:b<wc.heap.size:=zC Z.out;have kY:ja w (wc.drew.alloc (Qc ⟨key,f,d⟩)) (fun _=>False):=(z.out.draw).more _;have R:(wc.drew.alloc (Qc ⟨key,f,d⟩)).heap[b]?=some (.cells r t (0,0)):=(ja.alloc wc.drew _ (fun _=>False)).same (k:=b) Z.out id;have ai:=jb N;have b0:=jb G;have b5:=jb a6;have b2:=jb O;have af:=jb kY;have aj:=jb R;clear N G a6 O kY R;obtain⟨p0,ay,rfl⟩:=jj B;go_wp2_with fail
    go_region_law (
     refine jr rfl 155 [.tmp 36,.tmp 37,.tmp 39] _ rfl Mm [.slice p0 l.length ay,ju A,.slice (some ⟨wc.heap.size,0,none⟩) 1 1] (by simp[Act.eval]) (We b3.out b8.out hl b5.out b0.out ai.out b2.out) ?_
     rintro e w2 ⟨v2,rfl,u,x⟩
     obtain⟨p2,cc,rfl⟩:=jj u
     have I:=x.keeps.same aj.out (fun e=>U e.symm)
     have m2:=zA (o:=o) I
     rw[HV.out] at m2
     have f2:=zB (o:=o) I
     have b7:=jb I
     have b1:=jb u
     clear I u
     refine⟨_,rfl,?_⟩)
    all_goals
     go_wp2;go_end0;refine⟨rfl,_,jc b7.out _,?_,?_,?_⟩
     ·rw[C.out]
      refine(ja.setCell w2 ⟨b,o,none⟩ _).row b1.out (fun gg j e=>?_);subst e;rcases x.1 with h|⟨g2,h,h3⟩
      ·rw[h] at j;exact U j
      ·rw[h] at j;cases j;simp at h3;omega
     ·rcases x.1 with h|⟨g2,h,h3⟩
      ·exact .inl h
      ·refine .inr ⟨g2,h,ZF af.out.size h3⟩
     ·exact((af.out.up).trans x.keeps (fun i _ h=> .inr h)).set (p:=⟨b,o,none⟩) (.inl rfl) _
theorem Ms(l:List Rf.Ch)(k:Nat):jg (l.drop k)=(jg l).drop (k*3):=by
 rcases ZJ k l.length with h|h
 ·have e:jg l=jg (l.take k)++jg (l.drop k):=by rw[<-zr,ZR]
  have b:(jg (l.take k)).length=k*3:=by rw[qq,ZT,XI (by omega)]
  rw[e,<-b,List.drop_left]
 ·rw[ZQ h,ZQ (by rw[qq];omega)]
  rfl
theorem Chs.drop{c:Nat}{l:List Rf.Ch}(h:Chs w (.slice (some ⟨b,o,none⟩) l.length c) l)(g:k<=l.length) :
 Chs w (.slice (some ⟨b,o+k*3,none⟩) (l.length-k) (c-k)) (l.drop k):=by
 obtain⟨f,p,e,n,m,i,d⟩:=h;cases e;refine⟨some ⟨b,o+k*3,none⟩,c-k,by rw[ZU],by rw[ZU];omega,by omega,(fun h=>by cases h),fun ad had=>?_⟩;cases had;refine⟨rfl,fun j u hu=>?_⟩;rw[Ms,ZV] at hu;have:=(d _ rfl).2 _ u hu;rw[Ju] at this ⊢;rw[ZL];exact this
theorem Chs.empty{l:List Rf.Ch}(h:l=[]):Chs w (.slice (some ⟨b,o,none⟩) 0 0) l:=by
 subst h;exact⟨some ⟨b,o,none⟩,0,rfl,xA _,zU _,(fun h=>by cases h),fun ad had=>by cases had;exact⟨rfl,fun j u hu=>by simp[jg] at hu⟩⟩
theorem Nk{l:List Rf.Ch}{key:Str}(g:A=Rf.below l key)(f:F=decide ((l[Rf.below l key]?).map Rf.Ch.key=some key))(b:Chs W v l)(c:Rf.jy l)(d:l.length<1099511627776) :
 Calls prog 153 #[v,jd key,.func (.func 154) #[] #[]] W fun e w'=>e = .returned (.tuple #[ju A,.bool F])/\ja W w' (fun _=>False):=by
 refine(Ew v l key W b c d).mono ?_;rintro e w' ⟨rfl,k⟩;rw[g,f];exact⟨rfl,k⟩
theorem O7(b o:Nat)(k:Array Value)(t:TypeId)(v:Value)(l:List Rf.Ch)(key:Str)(w:World)(q:w.heap[b]?=some (.cells k t (0,0)))(m:k[o]?=some v)(f:Chs w v l)(G:Rf.jy l)(O:l.length<1048576) :
 Calls prog 112 #[.pointer (some ⟨b,o,none⟩),jd key] w fun e w'=>∃ v',e = .returned (.func (.func 158) #[v'] #[])/\Chs w' v' (l.drop (Rf.below l key))/\ja w w' (fun _=>False)/\(∀ ad n c,v' = .slice (some ad) n c->∃ ad' n' c',v = .slice (some ad') n' c'/\ad'.block=ad.block):=by
 have s:=zA (o:=o) q;rw[m] at s;have j:l.length<1099511627776:=by omega
 have d:Rf.below l key<=l.length:=by unfold Rf.below;exact(List.takeWhile_prefix _).length_le
 obtain⟨A,r⟩:∃ A,A=Rf.below l key:=⟨_,rfl⟩;obtain⟨F,u⟩:∃ F:Bool,F=decide ((l[Rf.below l key]?).map Rf.Ch.key=some key):=⟨_,rfl⟩;rw[<-r] at d ⊢;obtain⟨p,c,rfl,S,R,y,x⟩:=id f;have U:=jb q;have T:=jb m;have I:=jb r;have H:=jb u
 cases p with
 | none =>
  have D:c=0:=y rfl;have C:l=[]:=xB (by omega);subst C;subst D;have E:A=0:=by simp at d;exact d
  clear q m r u x y d;subst E;go_enter func112,ntmps112
  go_wp2_with (go_at_call 153;go_must (refine(Nk I.out H.out f G j).mono ?_);rintro e J ⟨rfl,i⟩;have B:=i.cell s id)
  go_ret;exact⟨_,rfl,Chs.nil _,i,fun ad n c e=>by cases e⟩
 | some ad =>
  obtain⟨g,N,L⟩:=ad;have z:L=none:=(x _ rfl).1;subst z;clear q m r u x y;go_enter func112,ntmps112
  go_wp2_with (go_at_call 153;go_must (refine(Nk I.out H.out f G j).mono ?_);rintro e J ⟨rfl,i⟩;have B:=i.cell s id)
  all_goals go_ret
  ·skip
   refine⟨_,rfl,?_,i,fun ad n c e=>by injection e with e1 e2 e3;injection e1 with e1;subst e1;first|exact⟨_,_,_,rfl,rfl⟩|rfl⟩;have M:l.length-A=0:=by omega
   rw[M];exact Chs.empty (ZQ (by omega))
  ·exact⟨_,rfl,(f.same i).drop d,i,fun ad n c e=>by injection e with e1 e2 e3;injection e1 with e1;subst e1;first|exact⟨_,_,_,rfl,rfl⟩|rfl⟩
theorem Rf.Sm(c:Rf.Ch)(l:List Rf.Ch):(Rf.ins c l).length<=l.length+1:=by
 induction l with
 | nil=>simp[Rf.ins]
 | cons x r ih=>unfold Rf.ins;split<;>(try split)<;>simp<;>omega
theorem Rf.oi{l:List Rf.Ch}(h:Rf.jy l)(more:List Rf.Ch):(Rf.over l more).length<=l.length+more.length:=by
 induction more generalizing l with
 | nil=>simp[Rf.over]
 | cons c r ih =>
  have d:Rf.over l (c::r)=Rf.over (Rf.put l c) r:=rfl;have f:=ih (l:=Rf.put l c) (by rw[Rf.dt h];exact Rf.Yv h);have b:=Rf.Sm c l;rw[<-Rf.dt h] at b;rw[d];simp only[zX];omega
theorem Wn(b:Array Value)(w:World):(callFunc 108 b).run prog w = .ok (.enter 108 b) w:=by kernel_rfl
theorem Vn{A z y x u s r q p:Value}{t:TypeId}{l:List Rf.Ch}{c:Rf.Ch}{base:Nat}(k:W.heap[b]?=some (.cells #[A,z,y,x,u,s,r,v,q,p] t (0,0)))(j:W.ownsRow base 88 3 v l.length (jg l))(f:v.ownBlock≠some b)(C:Rf.jy l)(D:l.length<1048576)(E:c.key.length<1099511627776)(B:c.value.length<1099511627776)(d:base<=W.heap.size)(m:ja w W (fun _=>False)) :
 Calls prog 108 #[.pointer (some ⟨b,7,none⟩),chV c] W fun e w'=>e = .returned (.tuple #[])/\∃ v',w'.heap[b]?=some (.cells #[A,z,y,x,u,s,r,v',q,p] t (0,0)) /\
  w'.ownsRow base 88 3 v' (Rf.put l c).length (jg (Rf.put l c))/\v'.ownBlock≠some b/\(v'.ownBlock=v.ownBlock\/∃ g,v'.ownBlock=some g/\w.heap.size<=g)/\ja w w' (fun i=>i=b\/some i=v.ownBlock):=by
 refine(jdy b 7 _ t v l c base W k rfl j f C D E B d).mono ?_;rintro e w' ⟨rfl,v',H,G,o,F⟩;refine⟨rfl,v',H,G,?_,?_,(m.up).tt F⟩
 ·intro e
  rcases o with h|⟨g,h,n⟩
  ·exact f (h▸e)
  ·rw[h] at e;cases e;have:=zC k;omega
 ·rcases o with h|⟨g,h,n⟩
  ·exact .inl h
  ·exact .inr ⟨g,h,ZF m.size n⟩
theorem Ft{l es:List Rf.Ch}{c:Rf.Ch}(b:k<es.length)(d:es[k]=c):Rf.over l (es.take (k+1))=Rf.put (Rf.over l (es.take k)) c:=by
 rw[zY,zL b,d];exact Rf.Az _ _ _
theorem K7(b:Nat)(V U T S R O N M:Value)(last:Nat)(t:TypeId)(v W:Value)(l es:List Rf.Ch)(base:Nat)(w:World)(hb:w.heap[b]?=some (.cells #[V,U,T,S,R,O,ju last,v,N,M] t (0,0)))(J:w.ownsRow base 88 3 v l.length (jg l))(X:v.ownBlock≠some b)(hr:Rf.jy l)(hl:l.length+es.length<1048576)(aa:last<4611686018427387904)(G:Chs w W es)(hs:∀ c∈es,c.key.length<1099511627776/\c.value.length<1099511627776)(C:base<=w.heap.size)(a2:es≠[]->∀ p n c,W = .slice (some p) n c->p.block≠b/\v.ownBlock≠some p.block) :
 Calls prog 66 #[.pointer (some ⟨b,0,none⟩),W] w fun e w'=>e = .returned (.tuple #[])/\∃ v',w'.heap[b]?=some (.cells #[V,U,T,S,R,O,ju (last+1),v',N,M] t (0,0)) /\
  w'.ownsRow base 88 3 v' (Rf.over l es).length (jg (Rf.over l es))/\v'.ownBlock≠some b/\(v'.ownBlock=v.ownBlock\/∃ g,v'.ownBlock=some g/\w.heap.size<=g)/\ja w w' (fun i=>i=b\/some i=v.ownBlock):=by
 obtain⟨p,cp,rfl,h1,h2,h3,h4⟩:=id G;have af:=zC hb;have ae:es.length<1048576:=by omega
 clear h3 h4;go_enter func66,ntmps66;go_wp2_with fail
 go_loopw [8] (fun i wr=>∃(k:Nat) (s:Value),k<=es.length/\i = .int .i64 k/\wr.heap[b]?=some (.cells #[V,U,T,S,R,O,ju last,s,N,M] t (0,0)) /\
  wr.ownsRow base 88 3 s (Rf.over l (es.take k)).length (jg (Rf.over l (es.take k)))/\s.ownBlock≠some b/\(s.ownBlock=v.ownBlock\/∃ g,s.ownBlock=some g/\w.heap.size<=g)/\ja w wr (fun i=>i=b\/some i=v.ownBlock))
  (fun i _=>es.length-(intOf i).toNat)
 case atStart=>exact⟨0,v,zU _,rfl,hb,J,X,.inl rfl,ja.refl _ _⟩
 case round =>
  obtain⟨k,s,hk,rfl,j,d,r,f,m⟩:=hrel;rcases ZJ k es.length with u|aq
  ·have L:Chs wr (.slice p es.length cp) es:=G.keep m (fun hn pp n c e=>by
    have D:=a2 hn pp n c e
    rintro(y|y)
    ·exact D.1 y
    ·exact D.2 y.symm)
   obtain⟨b1,o1,rfl,e0,e1,e2⟩:=L.at u
   generalize hc:es[k]=x at e0 e1 e2
   obtain⟨z,cv,E⟩:=x
   have HC:=jb hc
   clear hc
   have B:=jb j
   have A:=jb d
   clear j d
   have q:=hs _ (zV u)
   rw[HC.out] at q
   have a1:z.length<1099511627776:=q.1
   have a0:cv.length<1099511627776:=q.2
   have a7:Hid ((wr.alloc (Qc ⟨z,cv,E⟩)).drew.heap[b]?=some (.cells #[V,U,T,S,R,O,ju last,s,N,M] t (0,0))):=(ja.alloc wr _ (fun _=>False)).same (k:=b) B.out id
   have a4:Hid ((wr.alloc (Qc ⟨z,cv,E⟩)).drew.ownsRow base 88 3 s (Rf.over l (es.take k)).length (jg (Rf.over l (es.take k)))):=((ja.alloc wr (Qc ⟨z,cv,E⟩) (fun _=>False)).draw).row A.out (fun _ _ h=>h)
   have a3:Hid (Rf.jy (Rf.over l (es.take k))):=Rf.J2 hr
   have a6:Hid ((Rf.over l (es.take k)).length<1048576):=by
    have D:=Rf.oi hr (es.take k);rw[ZT] at D;unfold Hid;omega
   have I:Hid (ja wr (wr.alloc (Qc ⟨z,cv,E⟩)).drew (fun _=>False)):=(ja.alloc wr _ _).draw
   have a8:Hid (base<=(wr.alloc (Qc ⟨z,cv,E⟩)).drew.heap.size):=ZF C (ZF m.size I.out.size)
   have ar:=jb q
   clear q
   go_wp2_with fail
   go_region_law (
    refine jr rfl 108 [.tmp 14,.tmp 15] _ rfl Wn [.pointer (some ⟨b,7,none⟩),chV ⟨z,cv,E⟩] (by simp[Act.eval]) (Vn a7.out a4.out r a3.out a6.out a1 a0 a8.out I.out) ?_
    rintro e w2 ⟨rfl,v2,H,F,Y,Z,k2⟩
    have a9:=jb H
    have a5:=jb F
    clear H F
    refine⟨_,rfl,?_⟩)
   all_goals
    go_wp2;go_roundw
    case rel =>
     refine⟨k+1,v2,u,by simp,a9.out,by rw[Ft u HC.out];exact a5.out,Y,?_,m.trans k2 ?_⟩
     ·rcases Z with h|⟨g,h,D⟩
      ·rw[h];exact f
      ·exact .inr ⟨g,h,ZF m.size D⟩
     ·rintro i hi (h|h)
      ·exact .inl h
      ·rcases f with y|⟨g,y,h7⟩
       ·exact .inr (h.trans y)
       ·rw[y] at h;cases h;omega
    case measure=>simp[intOf];omega
  ·have ek:k=es.length:=by omega
   subst ek;rw[zW] at d;have d6:=zA (o:=6) j;have f6:=zB (o:=6) j;simp at d6;have B:=jb j;have A:=jb d;clear j d;go_wp2;go_end0;refine⟨rfl,s,(jc B.out _).trans rfl,(ja.setCell wr _ _).row A.out (fun g hg e=>r (by rw[hg,e])),r,f,m.set (p:=⟨b,6,none⟩) (.inl rfl) _⟩
def jgw:Value->Nat
 | .slice _ n _=>n
 | _=>0
def Rf.Z5(l:List Rf.Ch)(bs:List (List Rf.Ch)):List Rf.Ch:=bs.foldl Rf.over l
theorem Rf.R9(l:List Rf.Ch)(bs:List (List Rf.Ch))(b:List Rf.Ch):Rf.Z5 l (bs++[b])=Rf.over (Rf.Z5 l bs) b:=by simp[Rf.Z5,zO]
theorem Rf.Lw{l:List Rf.Ch}(h:Rf.jy l)(bs:List (List Rf.Ch)):Rf.jy (Rf.Z5 l bs):=by
 induction bs generalizing l with
 | nil=>exact h
 | cons b r ih=>exact ih (Rf.J2 h)
theorem Rf.Lx{l:List Rf.Ch}(h:Rf.jy l)(bs:List (List Rf.Ch))(c:∀ b∈bs,b.length<=8):(Rf.Z5 l bs).length<=l.length+8*bs.length:=by
 induction bs generalizing l with
 | nil=>simp[Rf.Z5]
 | cons b r ih =>
  have i:=ih (l:=Rf.over l b) (Rf.J2 h) (fun x hx=>c x (xI _ hx));have g:=Rf.oi h b;have f:=c b (xJ ..);have d:Rf.Z5 l (b::r)=Rf.Z5 (Rf.over l b) r:=rfl;rw[d,zX];omega
theorem Rf.pg(n:Nat)(b:List Rf.Ch):16<=(Rf.jt n b).length:=by
 simp[Rf.jt,Rf.frame,Rf.ji];omega
theorem Rf.Cp(last:Nat)(bs:List (List Rf.Ch)):16*bs.length<=(Rf.jl last bs).length:=by
 induction bs generalizing last with
 | nil=>simp
 | cons b r ih =>
  have f:=ih (last+1);have d:=Rf.pg (last+1) b;have c:Rf.jl last (b::r)=Rf.jt (last+1) b++Rf.jl (last+1) r:=by simp[Rf.jl,Rf.jt]
  rw[c,ZY,zX];omega
def To(b:Nat)(c0 c1 c2 c3 c4 c5 c8 c9:Value)(last:Nat)(t:TypeId)(v:Value)(l:List Rf.Ch)(L:List UInt8)(base:Nat)(w:World)(e:Ending)(w':World):Prop :=
 ∃ bs r v',Rf.zz last L bs r/\Rf.Over last bs r/\e = .returned (ju (L.length-r.length))/\w'.heap[b]?=some (.cells #[c0,c1,c2,c3,c4,c5,ju (last+bs.length),v',c8,c9] t (0,0)) /\
  w'.ownsRow base 88 3 v' (Rf.Z5 l bs).length (jg (Rf.Z5 l bs))/\v'.ownBlock≠some b/\(v'.ownBlock=v.ownBlock\/∃ g,v'.ownBlock=some g/\w.heap.size<=g)/\ja w w' (fun i=>i=b\/some i=v.ownBlock)
theorem Rv(b:Nat)(c0 c1 c2 c3 c4 c5 c8 M:Value)(last:Nat)(t:TypeId)(v lv:Value)(l:List Rf.Ch)(L:List UInt8)(base:Nat)(w:World)(S:Qp E B w)(bg:B<=b)(be:∀ g,v.ownBlock=some g->B<=g)(hb:w.heap[b]?=some (.cells #[c0,c1,c2,c3,c4,c5,ju last,v,c8,M] t (0,0)))(aw:w.ownsRow base 88 3 v l.length (jg l))(b9:v.ownBlock≠some b)(hr:Rf.jy l)(hl:l.length+L.length<1000000)(bm:last<=1000000000)(hL:Bytes w lv L)(bn:base<=w.heap.size)(D:L≠[]->∀ p n c,lv = .slice (some p) n c->p.block≠b/\v.ownBlock≠some p.block) :
 Calls prog 180 #[.pointer (some ⟨b,0,none⟩),lv] w (To b c0 c1 c2 c3 c4 c5 c8 M last t v l L base w):=by
 have c6:=zC hb;obtain⟨p,cp,rfl,_⟩:=id hL
 have bd:L≠[]->∀ m n' c',Value.slice p L.length cp = .slice (some m) n' c'->m.block≠b/\v.ownBlock≠some m.block/\m.block<w.heap.size:=by
  intro hn m n' c' e;cases e;exact⟨(D hn _ _ _ rfl).1,(D hn _ _ _ rfl).2,hL.lt hn⟩
 go_enter func180,ntmps180;go_wp2_with fail
 go_loopw [5] (fun rv wr=>∃(bs:List (List Rf.Ch)) (r:List UInt8) (C:Value),Rf.zz last L bs r/\Bytes wr rv r/\(r≠[]->∀ m n' c',rv = .slice (some m) n' c'->m.block≠b/\v.ownBlock≠some m.block/\m.block<w.heap.size) /\
  wr.heap[b]?=some (.cells #[c0,c1,c2,c3,c4,c5,ju (last+bs.length),C,c8,M] t (0,0)) /\
  wr.ownsRow base 88 3 C (Rf.Z5 l bs).length (jg (Rf.Z5 l bs))/\C.ownBlock≠some b/\(C.ownBlock=v.ownBlock\/∃ g,C.ownBlock=some g/\w.heap.size<=g)/\ja w wr (fun i=>i=b\/some i=v.ownBlock))
  (fun rv _=>jgw rv)
 case atStart=>exact⟨[],L,v,.none,hL,bd,hb,aw,b9,.inl rfl,ja.refl _ _⟩
 case round =>
  obtain⟨bs,r,C,hT,al,bc,a9,H,F,d,y⟩:=hrel;obtain⟨pr,cr,rfl,_⟩:=id al;have a7:=hT.bytes;have bb:=Rf.Cp last bs
  have aq:L.length=(Rf.jl last bs).length+r.length:=by
   have s:=congrArg List.length a7.1;rw[ZY] at s;exact s
  have h8:∀ x∈bs,x.length<=8:=fun x hx=>((Rf.yd x).1 (a7.2 x hx)).2.1;have b8:=Rf.Lx hr bs h8;have d6:=zA (o:=6) a9;simp at d6;have av:r.length<1099511627776:=by omega
  have cm:r.length<=L.length:=by omega
  have U:((L.length:Int)-(r.length:Int))=((L.length-r.length:Nat):Int):=by omega
  have V:(Rf.Z5 l bs).length+8<1048576:=by omega
  have R:=jb a9;have O:=jb H;have Z:=jb U;have cn:=jb aq;have az:=jb V;clear a9 H a7 bb h8 b8 U aq V;rcases ZJ (last+bs.length) 1000000000 with ba|cl
  ·have Sr:Qp E B wr:=S.keep y (fun i e=>by
    rcases e with e|e
    ·rw[e];exact bg
    ·exact be _ e.symm)
   have bf:B<=wr.heap.size:=by have:=y.size;omega
   have bx:((last:Int)+(bs.length:Int))<1000000000:=by omega
   have ax:last+bs.length+1<9223372036854775808:=by omega
   have J:((last:Int)+(bs.length:Int)+1)=((last+bs.length+1:Nat):Int):=by omega
   have ac:=jb J
   clear J
   go_wp2_with fail
   rw[ac.out]
   refine(Hl (G:=fun g=>g≠b/\v.ownBlock≠some g/\g<w.heap.size) (last+bs.length+1) ax Sr bf al bc av).mono ?_
   rintro e w1 ⟨T,⟨N,q,v1,v2,k,rfl,aa,an,f⟩|⟨v1,k,rfl,he⟩⟩
   ·have a8:=Rf.dx k
    have a6:=(Rf.yd N).1 a8.2
    have b6:q.length<r.length:=by
     have s:=congrArg List.length a8.1;have A:=Rf.pg (last+bs.length+1) N;rw[ZY] at s;omega
    have W:w1.heap[b]?=some (.cells #[c0,c1,c2,c3,c4,c5,ju (last+bs.length:Nat),C,c8,M] t (0,0)):=T.same R.out id;have z:=T.row O.out (fun _ _ h=>h);have ap:=Rf.zz.more hT ba k;obtain⟨p1,ar,rfl⟩:=jj f
    have Y:∀ c∈N,c.key.length<1099511627776/\c.value.length<1099511627776:=fun c hc=>by
     have s:=(Rf.xz c).1 (a6.2.2 c hc);omega
    have X:N≠[]->∀ m n' c',Value.slice p1 N.length ar = .slice (some m) n' c'->m.block≠b/\C.ownBlock≠some m.block:=by
     intro _ m n' c' e;cases e;have s:=(f.lt m.block rfl).1;refine⟨fun e=>?_,fun e=>?_⟩
     ·have A:=zC R.out
      omega
     ·have A:=(O.out.lt _ e).2
      omega
    have am:(Rf.Z5 l bs).length+N.length<1048576:=by have s:=az.out;have A:=a6.2.1;omega
    have D:=K7 b c0 c1 c2 c3 c4 c5 c8 M (last+bs.length) t C (.slice p1 N.length ar) (Rf.Z5 l bs) N base w1 W z F (Rf.Lw hr bs) am (by omega) (xw f) Y (by have s:=T.size;have A:=y.size;omega) X;have bl:=jb D;have bi:=jb ap;have au:=jb an;clear D ap an X Y W z am a6 a8 k f;obtain⟨p2,bh,rfl,_⟩:=id aa;go_wp2_with fail;refine bl.out.mono ?_;rintro e w2 ⟨rfl,v',ao,I,ay,ab,k3⟩
    have b7:Bytes w2 (.slice p2 q.length bh) q:=by
     rcases Classical.em (q=[])with rfl|hq
     ·obtain⟨p9,M,e9,a1,a2,a3,a4⟩:=aa
      exact⟨p9,M,e9,a1,a2,a3,fun ad e=>⟨(a4 ad e).1,fun j u hu=>by cases hu⟩⟩
     ·refine aa.keep k3 (fun p9 n9 M e9 hT9=>?_)
      obtain⟨g1,g2,g3⟩:=au.out hq p9 n9 M e9;rcases hT9 with s|s
      ·exact g1 s
      ·rcases d with A|⟨g,A,h7⟩
       ·exact g2 (A▸s.symm)
       ·rw[A] at s;cases s;omega
    have bk:=jb ao;have bj:=jb I;clear ao I;go_wp2;refine⟨⟨bs++[N],q,v',bi.out,b7,au.out,?_,?_,ay,?_,?_⟩,b6⟩
    ·rw[ZY,xC,<-ZL]
     exact bk.out
    ·rw[Rf.R9]
     exact bj.out
    ·rcases ab with h|⟨g,h,s⟩
     ·rw[h];exact d
     ·refine .inr ⟨g,h,?_⟩
      have A:=T.size;have h7:=y.size;omega
    ·refine(y.trans T (fun _ _ h=>h.elim)).trans k3 ?_
     rintro i hi (h|h)
     ·exact .inl h
     ·rcases d with A|⟨g,A,h7⟩
      ·exact .inr (h.trans A)
      ·rw[A] at h;cases h;omega
   ·obtain⟨t1,a1,rfl⟩:=he.shape
    go_wp2;go_ret;refine⟨bs,r,C,hT,.inr k,?_,T.same R.out id,T.row O.out (fun _ _ h=>h),F,d,y.trans T (fun _ _ h=>h.elim)⟩;simp[ju,Z.out]
  ·have bz:¬((last:Int)+(bs.length:Int))<1000000000:=by omega
   go_wp2;go_ret;refine⟨bs,r,C,hT,.inl (by omega),?_,R.out,O.out,F,d,y⟩;simp[ju,Z.out]
structure Dk(E:Nat->Addr)(B:Nat)(w:World)(ρ:Nat->jz)(d:Nat)(S:jh):Prop where
 rep:Rep w ρ d S
 Qh:Qp E B w
 ya:∀ i,ρ i≠ .none->B<=i
 size:B<=w.heap.size
theorem Dk.step{ρ b:Nat->jz}{S S':jh}(h:Dk E B w ρ d S)(g:xo w ρ w' b)(r:Rep w' b d S'):Dk E B w' b d S' :=
 ⟨r,h.Qh.keep g.keeps (fun i hi=>h.ya i hi),fun i hi=>by
  rcases ZJ i w.heap.size with c|f
  ·rw[g.role i c] at hi;exact h.ya i hi
  ·exact ZF h.size f,ZF h.size g.keeps.size⟩
theorem Dk.same{ρ:Nat->jz}{S:jh}(h:Dk E B w ρ d S)(k:ja w w' (fun _=>False)):Dk E B w' ρ d S :=
 ⟨h.rep.keep k (fun _ h _=>h.elim),h.Qh.same k,h.ya,ZF h.size k.size⟩
theorem xo.same{b:World}{ρ c:Nat->jz}(g:xo w ρ w' c)(k:ja w' b (fun _=>False)):xo w ρ b c:=g.trans (xo.of k (fun _ _ h=>h.elim))
theorem Q5(nm:Str)(w:World):Calls prog 160 #[jd nm,.int .i64 0] w fun e w'=>e = .returned .nilIface/\w'=w:=by
 go_enter func160,ntmps160;go_wp2;go_ret;exact⟨rfl,rfl⟩
theorem Jn(S:Qp E B w)(nm:Str)(c:Int)(g:c≠0) :
 Calls prog 160 #[jd nm,.int .i64 c] w fun e w'=>∃ v,e = .returned v/\Err E w' v 1/\ja w w' (fun _=>False):=by
 have s0:=S.cell 1 (by decide);go_enter func160,ntmps160;go_wp2_with fail;refine(zi _ (.base (E:=E) 1 (by decide))).mono ?_;rintro e f ⟨v,rfl,d,b⟩;go_wp2;go_ret;exact⟨v,rfl,d,b⟩
theorem Iz{ρ:Nat->jz}{S:jh}(D:Dk E B w ρ d S)(nm:Str)(p:nm.length<1099511627776) :
 Calls prog 159 #[.pointer (some ⟨d,0,none⟩),jd nm] w fun e w'=>∃ ρ',xo w ρ w' ρ' /\
  (((S.bad=true\/S.at nm=none)/\(∃ v,e = .returned v/\Err E w' v 1)/\Dk E B w' ρ' d (S.called true)) \/
   (S.bad=false/\e = .returned .nilIface/\∃ f a,S.at nm=some f/\S.files f=some a/\Dk E B w' ρ' d ((S.called true).withFile f a.synced))):=by
 go_enter func159,ntmps159;go_wp2_with fail;refine(jak nm D.rep p).mono ?_;rintro e o ⟨k,c,⟨j,rfl,i⟩|⟨j,m,rfl,i⟩|⟨j,rfl,f,a,m,q,i⟩⟩
 ·have b:=D.step c i
  go_wp2_with fail;refine(Jn b.Qh nm 1 (by decide)).mono ?_;rintro e n ⟨v,rfl,l,g⟩;go_wp2;go_ret;exact⟨k,c.same g,.inl ⟨.inl j,⟨v,rfl,l⟩,b.same g⟩⟩
 ·have b:=D.step c i
  go_wp2_with fail;refine(Jn b.Qh nm 2 (by decide)).mono ?_;rintro e n ⟨v,rfl,l,g⟩;go_wp2;go_ret;exact⟨k,c.same g,.inl ⟨.inr m,⟨v,rfl,l⟩,b.same g⟩⟩
 ·have b:=D.step c i
  go_wp2_with fail;refine(Q5 nm o).mono ?_;rintro e n ⟨rfl,rfl⟩;go_wp2;go_ret;exact⟨k,c,.inr ⟨j,rfl,f,a,m,q,b⟩⟩
theorem Hm{ρ:Nat->jz}{S:jh}(D:Dk E B w ρ d S)(m:Maps.size S.safe+S.late.length<1099511627776) :
 Calls prog 169 #[.pointer (some ⟨d,0,none⟩)] w fun e w'=>∃ ρ',xo w ρ w' ρ' /\
  ((S.bad=true/\(∃ v,e = .returned v/\Err E w' v 1)/\Dk E B w' ρ' d (S.called true)) \/
   (S.bad=false/\e = .returned .nilIface/\Dk E B w' ρ' d { S.called true with safe:=(S.called true).late.foldl doA (S.called true).safe,late:=[] })):=by
 have b:S.bad=true\/S.bad=false:=by cases S.bad<;>simp
 rcases b with b|b
 ·go_enter func169,ntmps169
  go_wp2_with fail;refine(M7 D.rep b).mono ?_;rintro e i ⟨rfl,c,g⟩;have f:=D.step c g;go_wp2_with fail;refine(Jn f.Qh [110,97,109,101,115] 1 (by decide)).mono ?_;rintro e l ⟨v,rfl,n,j⟩;go_wp2;go_ret;exact⟨ρ,c.same j,.inl ⟨b,⟨v,rfl,n⟩,f.same j⟩⟩
 ·go_enter func169,ntmps169
  go_wp2_with fail;refine(Lb D.rep b m).mono ?_;rintro e i ⟨rfl,k,c,g⟩;have f:=D.step c g;go_wp2_with fail;refine(Q5 [110,97,109,101,115] i).mono ?_;rintro e l ⟨rfl,rfl⟩;go_wp2;go_ret;exact⟨k,c,.inr ⟨b,rfl,f⟩⟩
theorem fv{ρ:Nat->jz}{S:jh}(D:Dk E B w ρ d S)(Z:Small S)(nm:Str)(s:nm.length<1099511627776) :
 Calls prog 129 #[.pointer (some ⟨d,0,none⟩),jd nm] w fun e w'=>xo w ρ w' ρ/\Dk E B w' ρ d (S.called false) /\
  ((S.bad=true/\∃ v,e = .returned (.tuple #[.slice none 0 0,v])/\Err E w' v 1) \/
   (S.bad=false/\S.at nm=none/\∃ v,e = .returned (.tuple #[.slice none 0 0,v])/\Err E w' v 2) \/
   (S.bad=false/\∃ f a v,S.at nm=some f/\S.files f=some a/\e = .returned (.tuple #[v,.nilIface])/\w'.ownsRow w.heap.size 5 1 v a.bytes.length (a.bytes.map j6))):=by
 have b:S.bad=true\/S.bad=false:=by cases S.bad<;>simp
 rcases b with b|b
 ·go_enter func129,ntmps129
  go_wp2_with fail;refine(jbb nm 0 9223372036854775807 D.rep b).mono ?_;rintro e q ⟨rfl,g,l⟩;have i:=D.step g l;go_wp2_with fail;refine(Jn i.Qh nm 1 (by decide)).mono ?_;rintro e r ⟨v,rfl,o,k⟩;obtain⟨t,a,rfl⟩:=o.shape;go_wp2;go_ret2;exact⟨g.same k,i.same k,.inl ⟨b,_,rfl,o⟩⟩
 ·rcases Option.eq_none_or_eq_some (S.at nm)with j|⟨f,j⟩
  ·have m:=jb j
   clear j;go_enter func129,ntmps129;go_wp2_with fail;refine(Vm nm 0 9223372036854775807 D.rep s b m.out).mono ?_;rintro e q ⟨rfl,g,l⟩;have i:=D.step g l;have s0:=i.Qh.cell 2 (by decide);go_wp2_with fail;refine(zi _ (.base (E:=E) 2 (by decide))).mono ?_;rintro e r ⟨v,rfl,o,k⟩;go_wp2;go_ret2;exact⟨g.same k,i.same k,.inr (.inl ⟨b,m.out,_,rfl,o⟩)⟩
  ·obtain⟨a,u⟩:∃ a,S.files f=some a:=D.rep.at j
   have m:=jb j;have x:=jb u;clear j u;go_enter func129,ntmps129;go_wp2_with fail;refine(jbc 9223372036854775807 (by decide) (by decide) nm D.rep Z s b m.out x.out).mono ?_;rintro e q ⟨g,l,p,c,rfl,n⟩;have i:=D.step g l;go_wp2_with fail;refine(Q5 nm q).mono ?_;rintro e r ⟨rfl,rfl⟩;go_wp2;go_ret2;exact⟨g,i,.inr (.inr ⟨b,f,a,_,m.out,x.out,rfl,n⟩)⟩
def jh.Qb(S:jh)(nm:Str):jh×Bool :=
 if S.bad=true then(S.called true,false)else
 match S.at nm with
 | none=>(S.called true,false)
 | some f=>match S.files f with
  | none=>(S.called true,false)
  | some a=>((S.called true).withFile f a.synced,true)
def jh.mr(S:jh):jh×Bool :=
 if S.bad=true then(S.called true,false)else({ S.called true with safe:=(S.called true).late.foldl doA (S.called true).safe,late:=[] },true)
def jh.yn(S:jh)(nm:Str):jh×Bool :=
 if S.bad=true then(S.called true,false)else
 match S.at nm with
 | none=>(S.called true,false)
 | some _=>((S.called true).named ⟨[],nm,[],none⟩,true)
def jh.Jw(S:jh)(sr ds:Str):jh×Bool :=
 if S.bad=true then(S.called true,false)else
 match S.at sr with
 | none=>(S.called true,false)
 | some f=>if ds=[] then(S.called true,false)else((S.called true).named ⟨[],sr,ds,some f⟩,true)
def Qr(F:jh×Bool):jh×Bool:=if F.2=true then F.1.mr else(F.1,false)
def jg3(E:Nat->Addr)(w:World)(e:Ending)(ok:Bool):Prop:=(ok=true/\e = .returned .nilIface)\/(ok=false/\∃ v,e = .returned v/\Err E w v 1)
def eu(E:Nat->Addr)(B:Nat)(w:World)(ρ:Nat->jz)(d:Nat)(F:jh×Bool)(e:Ending)(w':World):Prop:=∃ ρ',xo w ρ w' ρ'/\Dk E B w' ρ' d F.1/\jg3 E w' e F.2
theorem ow{ρ:Nat->jz}{S:jh}(D:Dk E B w ρ d S)(nm:Str)(l:nm.length<1099511627776) :
 Calls prog 159 #[.pointer (some ⟨d,0,none⟩),jd nm] w (eu E B w ρ d (S.Qb nm)):=by
 refine(Iz D nm l).mono ?_;rintro e w' ⟨k,g,⟨b,i,c⟩|⟨b,i,f,a,c,n,m⟩⟩
 ·have j:S.Qb nm=(S.called true,false):=by
   unfold jh.Qb
   split
   ·rfl
   ·rcases b with b|b
    ·contradiction
    ·rw[b]
  rw[j]
  exact⟨k,g,c,.inr ⟨rfl,i⟩⟩
 ·have j:S.Qb nm=((S.called true).withFile f a.synced,true):=by
   unfold jh.Qb;rw[if_neg (by rw[b];decide),c];simp only[n]
  rw[j]
  exact⟨k,g,m,.inl ⟨rfl,i⟩⟩
theorem nc{ρ:Nat->jz}{S:jh}(D:Dk E B w ρ d S)(i:Maps.size S.safe+S.late.length<1099511627776) :
 Calls prog 169 #[.pointer (some ⟨d,0,none⟩)] w (eu E B w ρ d S.mr):=by
 refine(Hm D i).mono ?_;rintro e w' ⟨f,g,⟨c,b,k⟩|⟨c,b,j⟩⟩
 ·have l:S.mr=(S.called true,false):=by unfold jh.mr;rw[if_pos c]
  rw[l];exact⟨f,g,k,.inr ⟨rfl,b⟩⟩
 ·unfold jh.mr
  rw[if_neg (by rw[c];decide)];exact⟨f,g,j,.inl ⟨rfl,b⟩⟩
def jh.X8:List Str->jh->jh×Bool
 | [],S=>S.mr
 | n::r,S=>if (S.Qb n).2=true then jh.X8 r (S.Qb n).1 else((S.Qb n).1,false)
theorem M9(S:jh)(nm:Str):(S.Qb nm).1.safe=S.safe/\(S.Qb nm).1.late=S.late:=by
 unfold jh.Qb
 split
 ·exact⟨rfl,rfl⟩
 ·split
  ·exact⟨rfl,rfl⟩
  ·split<;>exact⟨rfl,rfl⟩
theorem eu.before{c:World}{ρ b:Nat->jz}{F:jh×Bool}{e:Ending}(g:xo w ρ c b)(h:eu E B c b d F e w'):eu E B w ρ d F e w':=by
 obtain⟨f,i,D,r⟩:=h;exact⟨f,g.trans i,D,r⟩
theorem Mb{ρ:Nat->jz}{S:jh}(D:Dk E B w ρ d S)(v:Value)(ns:List Str)(base:Nat)(W:w.ownsRow base 9 1 v ns.length (ns.map encStr))(hρ:∀ g,v.ownBlock=some g->ρ g = .none)(hn:∀ n∈ns,n.length<1099511627776)(hl:ns.length<1099511627776)(hz:Maps.size S.safe+S.late.length<1099511627776) :
 Calls prog 164 #[.pointer (some ⟨d,0,none⟩),v] w (eu E B w ρ d (jh.X8 ns S)):=by
 obtain⟨p,c,rfl⟩:=jj W;go_enter func164,ntmps164;go_wp2_with fail
 go_loopw [10] (fun i wr=>∃(k:Nat) (M:Nat->jz) (T:jh),k<=ns.length/\i = .int .i64 k/\xo w ρ wr M/\Dk E B wr M d T/\jh.X8 ns S=jh.X8 (ns.drop k) T/\T.safe=S.safe/\T.late=S.late)
  (fun i _=>ns.length-(intOf i).toNat)
 case atStart=>exact⟨0,ρ,S,zU _,rfl,xo.refl _ _,D,rfl,rfl,rfl⟩
 case round =>
  obtain⟨k,M,T,hk,rfl,L,Y,m,y,u⟩:=hrel;have j:=jb m;have G:=jb y;have F:=jb u;clear m y u;rcases ZJ k ns.length with o|a6
  ·have s:=L.keeps.row W (fun g hg2 h=>h (hρ g hg2))
   have J:∃ g,p=some ⟨g,0,none⟩:=by
    rcases s.2 with⟨_,h0⟩|⟨g,cap,a7,e,_⟩
    ·omega
    ·cases e;exact⟨g,rfl⟩
   obtain⟨g,rfl⟩:=J;have f:=s.cells rfl k (encStr ns[k]) (by rw[zJ,zL o];rfl);have A:ns.drop k=ns[k]::ns.drop (k+1):=ZP o;have z:=hn _ (zV o);have H:=jb A;clear A;generalize hx:ns[k]=x at f z;have Z:=jb hx;clear hx;rw[add_zero] at f;unfold encStr at f;go_wp2_with fail;refine(ow Y x z).mono ?_;rintro e w1 ⟨N,R,U,⟨l,rfl⟩|⟨l,v1,rfl,O⟩⟩
   ·have b:jh.X8 ns S=jh.X8 (ns.drop (k+1)) (T.Qb x).1:=by
     rw[j.out,H.out,Z.out,jh.X8,if_pos l]
    have t:=M9 T x
    have r:=jb b
    have C:=jb t
    clear b t
    go_wp2
    exact⟨⟨k+1,N,(T.Qb x).1,o,by simp,L.trans R,U,r.out,C.out.1.trans G.out,C.out.2.trans F.out⟩,by simp[intOf];omega⟩
   ·have b:jh.X8 ns S=((T.Qb x).1,false):=by
     rw[j.out,H.out,Z.out,jh.X8,if_neg (by rw[l];decide)]
    have r:=jb b
    clear b
    obtain⟨t1,a1,rfl⟩:=O.shape
    go_wp2
    go_ret
    rw[r.out]
    exact⟨N,L.trans R,U,.inr ⟨rfl,_,rfl,O⟩⟩
  ·have ek:k=ns.length:=by omega
   have q:jh.X8 ns S=T.mr:=by rw[j.out,ek,List.drop_length,jh.X8]
   have V:Maps.size T.safe+T.late.length<1099511627776:=by rw[G.out,F.out];exact hz
   have I:=jb q;clear q;go_wp2_with fail;refine(nc Y V).mono ?_;intro e w1 J;have X:=J.before L;rw[<-I.out] at X;obtain⟨N,R,U,⟨l,rfl⟩|⟨l,v1,rfl,O⟩⟩:=J
   all_goals
    go_wp2;go_ret;exact X
theorem Cr{ρ:Nat->jz}{S:jh}(D:Dk E B w ρ d S)(Z:Small S)(sr c:Str)(G:sr.length<1099511627776)(F:c.length<1099511627776)(L:Maps.size S.safe+S.late.length+1<1099511627776) :
 Calls prog 167 #[.pointer (some ⟨d,0,none⟩),jd sr,jd c] w (eu E B w ρ d (Qr (S.Jw sr c))):=by
 go_enter func167,ntmps167;go_wp2_with fail;refine(Rw sr c D.rep Z G F).mono ?_;rintro e A ⟨t,l,⟨n,rfl,o⟩|⟨n,i,rfl,o⟩|⟨n,q,rfl,f,i,o⟩⟩
 ·have j:=D.step l o
  have b:S.Jw sr c=(S.called true,false):=by unfold jh.Jw;rw[if_pos n]
  have g:=jb b;clear b;go_wp2_with fail;refine(Jn j.Qh sr 1 (by decide)).mono ?_;rintro e u ⟨v,rfl,k,m⟩;obtain⟨C,H,rfl⟩:=k.shape;go_wp2;go_ret;rw[g.out];exact⟨t,l.same m,j.same m,.inr ⟨rfl,_,rfl,k⟩⟩
 ·have j:=D.step l o
  have b:S.Jw sr c=(S.called true,false):=by
   unfold jh.Jw;rw[if_neg (by rw[n];decide)]
   split
   ·rfl
   ·rename_i f hf
    rcases i with i|i
    ·rw[i] at hf;cases hf
    ·rw[if_pos i]
  have g:=jb b;clear b i;go_wp2_with fail;refine(Jn j.Qh sr 2 (by decide)).mono ?_;rintro e u ⟨v,rfl,k,m⟩;obtain⟨C,H,rfl⟩:=k.shape;go_wp2;go_ret;rw[g.out];exact⟨t,l.same m,j.same m,.inr ⟨rfl,_,rfl,k⟩⟩
 ·have j:=D.step l o
  have b:S.Jw sr c=((S.called true).named ⟨[],sr,c,some f⟩,true):=by
   unfold jh.Jw;rw[if_neg (by rw[n];decide),i];simp only[if_neg q]
  have g:=jb b;clear b i q
  have p:Maps.size ((S.called true).named ⟨[],sr,c,some f⟩).safe+((S.called true).named ⟨[],sr,c,some f⟩).late.length<1099511627776:=by
   show Maps.size S.safe+(S.late++[_]).length<_;rw[ZY,xC];omega
  have I:=jb p;clear p;go_wp2_with fail;refine(Q5 sr A).mono ?_;rintro e u ⟨rfl,rfl⟩;go_wp2_with fail;refine(nc j I.out).mono ?_;intro e z y;have x:=y.before l
  have r:eu E B w ρ d (Qr (S.Jw sr c)) e z:=by
   rw[g.out];exact x
  clear x;obtain⟨J,M,N,⟨s,rfl⟩|⟨s,v1,rfl,k⟩⟩:=y
  all_goals
   go_wp2;go_ret;exact r
def jh.zy:List Str->jh->jh×Bool
 | [],S=>(S,true)
 | n::r,S=>if (S.yn n).2=true then jh.zy r (S.yn n).1 else((S.yn n).1,false)
def jh.yo(ns:List Str)(S:jh):jh×Bool:=if ns=[] then(S,true)else Qr (jh.zy ns S)
theorem Ig(S:jh)(nm:Str):(S.yn nm).1.safe=S.safe/\(S.yn nm).1.late.length<=S.late.length+1/\(S.yn nm).1.files=S.files:=by
 unfold jh.yn
 split
 ·exact⟨rfl,Nat.le_succ _,rfl⟩
 ·split
  ·exact⟨rfl,Nat.le_succ _,rfl⟩
  ·exact⟨rfl,by show(S.late++[_]).length<=_;simp,rfl⟩
theorem Rep.Ih{ρ:Nat->jz}{S:jh}(R:Rep w ρ d S)(nm:Str):Maps.size (S.yn nm).1.names<=Maps.size S.names:=by
 obtain⟨g,c,lv,i,f,rs,b,_⟩:=R.mem;unfold jh.yn
 split
 ·exact xA _
 ·split
  ·exact xA _
  ·show Maps.size (S.names.del (.string nm))<=_
   have h:=size_del (k:= .string nm) (b.tidy law);omega
theorem ja9{ρ:Nat->jz}{S:jh}(D:Dk E B w ρ d S)(Z:Small S)(nm:Str)(m:nm.length<1099511627776) :
 Calls prog 168 #[.pointer (some ⟨d,0,none⟩),jd nm] w fun e w'=>∃ ρ',xo w ρ w' ρ'/\Dk E B w' ρ' d (S.yn nm).1/\(((S.yn nm).2=true/\e = .returned (.int .i64 0))\/((S.yn nm).2=false/\∃ c:Int,c≠0/\e = .returned (.int .i64 c))):=by
 refine(Rx nm D.rep Z m).mono ?_;rintro e n ⟨k,b,⟨g,rfl,j⟩|⟨g,l,rfl,j⟩|⟨g,rfl,f,l,j⟩⟩
 ·have i:S.yn nm=(S.called true,false):=by unfold jh.yn;rw[if_pos g]
  rw[i];exact⟨k,b,D.step b j,.inr ⟨rfl,1,by decide,rfl⟩⟩
 ·have i:S.yn nm=(S.called true,false):=by unfold jh.yn;rw[if_neg (by rw[g];decide),l]
  rw[i];exact⟨k,b,D.step b j,.inr ⟨rfl,2,by decide,rfl⟩⟩
 ·have i:S.yn nm=((S.called true).named ⟨[],nm,[],none⟩,true):=by unfold jh.yn;rw[if_neg (by rw[g];decide),l]
  rw[i];exact⟨k,b,D.step b j,.inl ⟨rfl,rfl⟩⟩
theorem mn{ρ:Nat->jz}{S:jh}(D:Dk E B w ρ d S)(Z:Small S)(v:Value)(ns:List Str)(base:Nat)(hv:w.ownsRow base 9 1 v ns.length (ns.map encStr))(hρ:∀ g,v.ownBlock=some g->ρ g = .none)(hn:∀ n∈ns,n.length<1099511627776)(hl:ns.length<1099511627776)(hz:Maps.size S.safe+S.late.length+ns.length<1099511627776) :
 Calls prog 118 #[.pointer (some ⟨d,0,none⟩),v] w (eu E B w ρ d (jh.yo ns S)):=by
 obtain⟨p,c,rfl⟩:=jj hv;go_enter func118,ntmps118;go_wp2_with fail
 go_loopw [10] (fun i wr=>∃(k:Nat) (U:Nat->jz) (T:jh),k<=ns.length/\i = .int .i64 k/\xo w ρ wr U/\Dk E B wr U d T/\Small T/\jh.zy ns S=jh.zy (ns.drop k) T/\T.safe=S.safe/\T.late.length<=S.late.length+k/\(k=0->T=S))
  (fun i _=>ns.length-(intOf i).toNat)
 case atStart=>exact⟨0,ρ,S,zU _,rfl,xo.refl _ _,D,Z,rfl,rfl,xA _,fun _=>rfl⟩
 case round =>
  obtain⟨k,U,T,hk,rfl,A,X,W,u,I,H,G⟩:=hrel;have m:=jb u;have O:=jb I;have z:=jb H;have aa:=jb G;clear u I H G;rcases ZJ k ns.length with o|ao
  ·have F:=A.keeps.row hv (fun g hg2 h=>h (hρ g hg2))
   have V:∃ g,p=some ⟨g,0,none⟩:=by
    rcases F.2 with⟨_,h0⟩|⟨g,cap,ap,e,_⟩
    ·omega
    ·cases e;exact⟨g,rfl⟩
   obtain⟨g,rfl⟩:=V;have l:=F.cells rfl k (encStr ns[k]) (by rw[zJ,zL o];rfl);have M:ns.drop k=ns[k]::ns.drop (k+1):=ZP o;have J:=hn _ (zV o);have L:ns≠[]:=fun e=>by rw[e] at o;simp at o
   have ab:=jb L;have R:=jb M;clear M L;generalize hx:ns[k]=x at l J;have HX:=jb hx;clear hx;rw[add_zero] at l;unfold encStr at l;have q:=Ig T x;have a5:=X.rep.Ih x;have a8:Small (T.yn x).1:=⟨by have:=W.names;omega,by rw[q.1];exact W.safe,by have h5:=q.2.1;have h6:=z.out;omega,by rw[q.2.2];exact W.files⟩;have N:=jb q;clear q a5;go_wp2_with fail;refine(ja9 X W x J).mono ?_;rintro e w1 ⟨ρ1,g1,D1,⟨r,rfl⟩|⟨r,cc,a7,rfl⟩⟩
   ·have f:jh.zy ns S=jh.zy (ns.drop (k+1)) (T.yn x).1:=by
     rw[m.out,R.out,HX.out,jh.zy,if_pos r]
    have y:=jb f
    clear f
    go_wp2_with fail
    refine(Q5 x w1).mono ?_
    rintro e w2 ⟨rfl,rfl⟩
    go_wp2
    exact⟨⟨k+1,ρ1,(T.yn x).1,o,by simp,A.trans g1,D1,a8,y.out,N.out.1.trans O.out,by have h5:=N.out.2.1;have h6:=z.out;omega,fun h=>by omega⟩,by simp[intOf];omega⟩
   ·have f:jh.yo ns S=((T.yn x).1,false):=by
     unfold jh.yo;rw[if_neg ab.out,m.out,R.out,HX.out,jh.zy,if_neg (by rw[r];decide)];rfl
    have y:=jb f
    clear f
    go_wp2_with fail
    refine(Jn D1.Qh x cc a7).mono ?_
    rintro e w2 ⟨v2,rfl,he,k2⟩
    obtain⟨t1,a1,rfl⟩:=he.shape
    go_wp2
    go_ret
    rw[y.out]
    exact⟨ρ1,(A.trans g1).same k2,D1.same k2,.inr ⟨rfl,_,rfl,he⟩⟩
  ·have Y:k=ns.length:=by omega
   have s:jh.zy ns S=(T,true):=by rw[m.out,Y,List.drop_length,jh.zy]
   rcases Classical.em (ns=[])with b|b
   ·have j:jh.yo ns S=(T,true):=by
     unfold jh.yo;rw[if_pos b,aa.out (by rw[Y,b];rfl)]
    have a6:ns.length=0:=by rw[b];rfl
    have t:=jb j
    clear j s b
    rw[a6] at Y
    subst Y
    go_wp2
    go_ret
    rw[t.out]
    exact⟨U,A,X,.inl ⟨rfl,rfl⟩⟩
   ·have j:jh.yo ns S=T.mr:=by
     unfold jh.yo;rw[if_neg b,s];rfl
    have C:Maps.size T.safe+T.late.length<1099511627776:=by have h5:=z.out;rw[O.out];omega
    have ai:¬((ns.length:Int)=0):=fun e=>b (xB (by omega))
    have t:=jb j
    have a9:=jb C
    clear j s b C
    go_wp2_with fail
    refine(nc X a9.out).mono ?_
    intro e w1 V
    have hq:=V.before A
    rw[<-t.out] at hq
    obtain⟨ρ1,g1,D1,⟨r,rfl⟩|⟨r,v1,rfl,he⟩⟩:=V
    all_goals
     go_wp2;go_ret;exact hq
end Go.Proofs.YtnipbplghijdmaaGreatDoor
