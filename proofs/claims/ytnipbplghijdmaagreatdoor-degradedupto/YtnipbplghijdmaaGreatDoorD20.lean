/-
  D: MemPut MemFrom Apply Replay Files Files2 Files3.
-/
import Derived.Deep.DeepCutAuto
import Derived.Test.YtnipbplghijdmaaGreatDoorD19
import Derived.Test.YtnipbplghijdmaaGreatDoorD17
import Derived.Test.YtnipbplghijdmaaGreatDoorD09
set_option maxRecDepth 100000
set_option maxHeartbeats 8000000
set_option linter.unusedVariables false
set_option linter.unusedSimpArgs false
namespace Go.Proofs.YtnipbplghijdmaaGreatDoor
open RowKit Maps WideShapes Go.Proofs.Tryz
variable {W w w':World} {A B X b d k o:Nat} {v:Value} {F:Bool} {E:Nat->Addr}
theorem N9(h:Below w.heap.size w w'):ja w w' (fun _=>False):=⟨h.os,h.tape,h.output,h.size,fun k hk _=>h.block k hk⟩
theorem Ow(s:Str)(w:World)(d:s.length<1099511627776) :
 Calls prog 152 #[jf s] w fun e w'=>e = .returned (jf s)/\ja w w' (fun _=>False):=by
 have b:(⟨s.toArray⟩:ByteArray).size<=281474976710656:=by show s.toArray.size<=_;simp;omega
 go_enter func152,ntmps152
 go_wp2_with (go_at_call 189;refine(Tryz.stringslite_Clone ⟨s.toArray⟩ _ b).mono ?_;rintro e w' ⟨rfl,c⟩)
 go_ret;exact⟨rfl,N9 c⟩
def Q7(c:Rf.Ch):Obj:= .cells #[jf c.key,jf c.value,.bool c.gone] 88
theorem C8{s:Str}{c:Rf.Ch}(b:s.length<1099511627776)(f:W.heap[X]?=some (Q7 c))(d:ja w W (fun _=>False)) :
 Calls prog 152 #[jf s] W fun e w'=>e = .returned (jf s)/\w'.heap[X]?=some (Q7 c)/\ja w w' (fun _=>False):=by
 refine(Ow s W b).mono ?_;rintro e w' ⟨rfl,k⟩;exact⟨rfl,k.same f id,d.tt k⟩
theorem si(b:Array Value)(w:World):(callFunc 152 b).run prog w = .ok (.enter 152 b) w:=by kernel_rfl
theorem jca{c:World}{key b:Str}{gone:Bool}(g:c.heap[X]?=some (Q7 ⟨key,b,gone⟩))(f:ja w c (fun _=>False))(d:w.heap.size<=X:=by exact zJ _) :
 ((c.setCell ⟨X,0,none⟩ (jf key)).setCell ⟨X,1,none⟩ (jf b)).heap[X]?=some (Q7 ⟨key,b,gone⟩)/\ja w ((c.setCell ⟨X,0,none⟩ (jf key)).setCell ⟨X,1,none⟩ (jf b)) (fun _=>False) :=
 ⟨(jd (o:=1) (jd (o:=0) g (jf key)) (jf b)).trans rfl,(f.Xd d _).Xd d _⟩
theorem Ol(b:Array Value)(w:World):(callFunc 153 b).run prog w = .ok (.enter 153 b) w:=by kernel_rfl
theorem Om(b:Array Value)(w:World):(callFunc 155 b).run prog w = .ok (.enter 155 b) w:=by kernel_rfl
theorem ja4{l:List Rf.Ch}{key:Str}{c:Rf.Ch}(m:A=Rf.below l key)(j:F=decide ((l[Rf.below l key]?).map Rf.Ch.key=some key))(b:Chs W v l)(d:Rf.jw l)(f:l.length<1099511627776)(i:W.heap[X]?=some (Q7 c))(g:ja w W (fun _=>False)) :
 Calls prog 153 #[v,jf key,.func (.func 154) #[] #[]] W fun e w'=>e = .returned (.tuple #[j6 A,.bool F])/\w'.heap[X]?=some (Q7 c)/\ja w w' (fun _=>False):=by
 refine(Gi v l key W b d f).mono ?_;rintro e w' ⟨rfl,k⟩;rw[m,j];exact⟨rfl,k.same i id,g.tt k⟩
theorem Tm{l:List Rf.Ch}(h:k<l.length)(c:Rf.Ch):jj (l.set k c)=(((jj l).set (k*3) (jf c.key)).set (k*3+1) (jf c.value)).set (k*3+2) (.bool c.gone):=by
 induction l generalizing k with
 | nil=>simp at h
 | cons x r ih =>
  cases k with
  | zero=>rfl
  | succ k =>
   have:=ih (k:=k) (by simpa using h);have e:∀(x:Rf.Ch) r,jj (x::r)=jf x.key::jf x.value::Value.bool x.gone::jj r:=fun _ _=>rfl;rw[List.set_cons_succ,e,e,this,show(k+1)*3=k*3+1+1+1 by omega];rfl
theorem jcw{b:Array Value}(h:b[o]?=some v):b.setIfInBounds o v=b:=by
 apply Array.ext_getElem?;intro j;rw[Array.getElem?_setIfInBounds]
 split
 ·rename_i e;subst e
  rw[h,if_pos (Array.getElem?_eq_some_iff.1 h).1]
 ·rfl
theorem jbs{l L:List Rf.Ch}{c:Rf.Ch}{base q:Nat}(k:L=l.take A++c::l.drop A)(m:A<=l.length)(j:l.length<1048576)(b:base<=W.heap.size)(d:W.ownsRow base 88 3 v l.length (jj l))(i:One W q c)(f:v.ownBlock≠some q) :
 Calls prog 155 #[v,j6 A,.slice (some ⟨q,0,none⟩) 1 1] W fun e w' =>
  ∃ v',e = .returned v'/\w'.ownsRow base 88 3 v' L.length (jj L)/\Grown W v w' v':=by
 subst k;have g:=Vl v (l.take A) (l.drop A) c base q W (by rw[xQ];exact j) b (by rw[xQ];exact d) i f;rw[zK,xD m] at g;exact g
theorem jfi(b o:Nat)(q:Array Value)(t:TypeId)(v:Value)(l:List Rf.Ch)(c:Rf.Ch)(base:Nat)(w:World)(hb:w.heap[b]?=some (.cells q t (0,0)))(hv:q[o]?=some v)(z:w.ownsRow base 88 3 v l.length (jj l))(S:v.ownBlock≠some b)(hr:Rf.jw l)(hl:l.length<1048576)(hk:c.key.length<1099511627776)(hx:c.value.length<1099511627776)(Z:base<=w.heap.size) :
 Calls prog 108 #[.pointer (some ⟨b,o,none⟩),chV c] w fun e w'=>e = .returned (.tuple #[])/\∃ v',w'.heap[b]?=some (.cells (q.setIfInBounds o v') t (0,0)) /\
  w'.ownsRow base 88 3 v' (Rf.put l c).length (jj (Rf.put l c))/\(v'.ownBlock=v.ownBlock\/∃ g,v'.ownBlock=some g/\w.heap.size<=g)/\ja w w' (fun i=>i=b\/some i=v.ownBlock):=by
 rw[Rf.X3 hr,<-Rf.jbt hr];have J:=je w (Q7 c);have a7:=ja.alloc w (Q7 c) (fun _=>False);have HX:Hid ((w.alloc (Q7 c)).drew.heap[w.heap.size]?=some (Q7 c)):=J;have KA:=a7.draw;have c0:=zA (o:=0) J;have c1:=zA (o:=1) J;simp at c0 c1;obtain⟨X,a6⟩:∃ X,X=w.heap.size:=⟨_,rfl⟩;obtain⟨key,d,gone⟩:=c;have cb:=jb a6;clear a6 J;go_enter func108,ntmps108;go_wp2_with fail
 go_cut [] from 6 (fun wc=>wc.heap[w.heap.size]?=some (Q7 ⟨key,d,gone⟩)/\ja w wc (fun _=>False))
 case first =>
  go_region_law (first
   | (refine jx rfl 152 [.tmp 7] _ rfl si [jf key] (by simp[Act.eval,Act.put]) (C8 hk HX.out KA) ?_
      rintro e w2 ⟨rfl,r,KB⟩
      have c0:=zA (o:=0) r
      have c1:=zA (o:=1) r
      simp at c0 c1
      have W:=jb r
      clear r
      refine⟨_,rfl,?_⟩)
   | (refine jx rfl 152 [.tmp 10] _ rfl si [jf d] (by simp[Act.eval,Act.put]) (C8 hx W.out KB) ?_
      rintro e w3 ⟨rfl,x,KC⟩
      have f0:=zB (o:=0) x
      have f1:=zB (o:=1) x
      have c0:=zA (o:=0) x
      have c1:=zA (o:=1) x
      simp at c0 c1
      have ay:=jb x
      clear x
      refine⟨_,rfl,?_⟩))
  all_goals
   go_wp2;go_meet
   case rel=>exact jca ay.out KC
 case rest =>
  obtain⟨V,kc⟩:=hcut;have U:wc.heap[b]?=some (.cells q t (0,0)):=kc.same hb id;have m0:=zA (o:=o) U;rw[hv] at m0;have x0:=zA (o:=0) V;simp at x0;have D:wc.ownsRow base 88 3 v l.length (jj l):=kc.row z (fun _ _ h=>h);have a4:Chs wc.drew v l:=(Je D).same (ja.drew wc _);have ad:=jb V;have b5:=jb U;have af:=jb kc;have HV:=jb hv;have av:l.length<1099511627776:=by omega
  clear V U kc HX KA c0 c1 a7 hv;obtain⟨A,hA⟩:∃ A,A=Rf.below l key:=⟨_,rfl⟩;obtain⟨F,hF⟩:∃ F:Bool,F=decide ((l[Rf.below l key]?).map Rf.Ch.key=some key):=⟨_,rfl⟩;have ac:Hid (wc.drew.heap[w.heap.size]?=some (Q7 ⟨key,d,gone⟩)):=ad.out;have y:Hid (ja w wc.drew (fun _=>False)):=af.out.draw;have HA:=jb hA;have HF:=jb hF;clear hA hF;go_wp2_with fail
  go_cut [4,5] from 14 (fun s4 s5 wd=>s4=j6 A/\s5 = .bool F/\wd.heap[w.heap.size]?=some (Q7 ⟨key,d,gone⟩)/\ja w wd (fun _=>False))
  case first =>
   go_region_law (
    refine jx rfl 153 [.tmp 18,.tmp 20,.func 154] _ rfl Ol [v,jf key,.func (.func 154) #[] #[]] (by simp[Act.eval]) (ja4 HA.out HF.out a4 hr av ac.out y.out) ?_
    rintro e w2 ⟨rfl,r,k2⟩
    have W:=jb r
    clear r
    refine⟨_,rfl,?_⟩)
   all_goals
    go_wp2;go_meet
    case rel=>exact⟨rfl,rfl,W.out,k2⟩
  case rest =>
   clear m0 x0 D a4 ad b5 af ac y;obtain⟨rfl,rfl,I,kd⟩:=hcut;have G:wc.heap[b]?=some (.cells q t (0,0)):=kd.same hb id;have m0:=zA (o:=o) G;rw[HV.out] at m0;have f0:=zB (o:=o) G;have x0:=zA (o:=0) I;have x1:=zA (o:=1) I;have x2:=zA (o:=2) I;simp at x0 x1 x2;have C:wc.ownsRow base 88 3 v l.length (jj l):=kd.row z (fun _ _ h=>h);have Y:=jb G;have m:=jb C;have y:=jb kd;clear G C kd I
   cases F with
   | true =>
    have n:(l[Rf.below l key]?).map Rf.Ch.key=some key:=of_decide_eq_true HF.out.symm
    have a8:A<l.length:=by
     rw[<-HA.out] at n;rcases zV A l.length with h|h
     ·exact h
     ·rw[XI h] at n;cases n
    have j:Rf.uz ⟨key,d,gone⟩ l=l.set A ⟨key,d,gone⟩:=by unfold Rf.uz;rw[if_pos n,HA.out]
    have B:=jb j;clear j n;rcases m.out.2 with⟨_,h0⟩|⟨g,cap,cg,e,aw,f,h1,h2,h3,h4⟩
    ·omega
    ·subst e
     have c9:=zB (o:=A*3) f;have c8:=zB (o:=A*3+1) f;have c7:=zB (o:=A*3+2) f;obtain⟨ab,aa,a9⟩:=we a8;have d0:=m.out.cells rfl (A*3) _ ab;have d1:=m.out.cells rfl (A*3+1) _ aa;have d2:=m.out.cells rfl (A*3+2) _ a9;rw[add_zero] at d0 d1 d2;clear ab aa a9;have b3:=jb f;have H3:=jb h3;have H4:=jb h4;clear f h3 h4;go_wp2_with fail
     go_region
     all_goals
      go_wp2;refine bodyPost_ret (results_none rfl _ _ _) rfl ?_;refine⟨rfl,?_⟩;have q1:=jd (w:=wc.drew) (o:=A*3) b3.out (jf key);have q2:=jd (o:=A*3+1) q1 (jf d);have q3:=jd (o:=A*3+2) q2 (.bool gone)
      have kk:ja w (((wc.drew.setCell ⟨g,A*3,none⟩ (jf key)).setCell ⟨g,A*3+1,none⟩ (jf d)).setCell ⟨g,A*3+2,none⟩ (.bool gone)) (fun i=>i=b\/some i=(Value.slice (some ⟨g,0,none⟩) l.length cap).ownBlock) :=
       ((((y.out.draw).up).set (p:=⟨g,A*3,none⟩) (.inr rfl) _).set (p:=⟨g,A*3+1,none⟩) (.inr rfl) _).set (p:=⟨g,A*3+2,none⟩) (.inr rfl) _
      refine⟨.slice (some ⟨g,0,none⟩) l.length cap,?_,?_,.inl rfl,kk⟩
      ·have ag:b≠g:=fun e=>S (by rw[e];rfl)
       have e1:q.setIfInBounds o (.slice (some ⟨g,0,none⟩) l.length cap)=q:=by
        exact jcw HV.out
       rw[e1];have h5:=(((ja.setCell wc.drew ⟨g,A*3,none⟩ (jf key)).set (p:=⟨g,A*3+1,none⟩) rfl (jf d)).set (p:=⟨g,A*3+2,none⟩) rfl (.bool gone)).same (k:=b) Y.out ag;exact h5
      ·rw[B.out]
       refine⟨by rw[yp],.inr ⟨g,cap,_,by rw[ZZ],aw,q3,by rw[ZZ];exact h1,h2,by simp[H3.out],?_⟩⟩;rw[Tm a8,ZZ,<-H4.out];simp[List.take_set]
   | false =>
    have n:¬(l[Rf.below l key]?).map Rf.Ch.key=some key:=of_decide_eq_false HF.out.symm;have j:Rf.uz ⟨key,d,gone⟩ l=l.take A++⟨key,d,gone⟩::l.drop A:=by unfold Rf.uz;rw[if_neg n,HA.out]
    have R:A<=l.length:=by rw[HA.out];unfold Rf.below;exact(List.takeWhile_prefix _).length_le
    obtain⟨L,hL⟩:∃ L,L=l.take A++(⟨key,d,gone⟩:Rf.Ch)::l.drop A:=⟨_,rfl⟩;rw[<-hL] at j;have b2:=jb hL;have B:=jb j;have b7:=jb R;clear j n R hL;have M:One (wc.drew.alloc (Q7 ⟨key,d,gone⟩)) wc.heap.size ⟨key,d,gone⟩:=je wc.drew _;have E:(wc.drew.alloc (Q7 ⟨key,d,gone⟩)).ownsRow base 88 3 v l.length (jj l):=(ja.alloc wc.drew _ _).row (T:=fun _=>False) ((ja.drew wc _).row (T:=fun _=>False) m.out (fun _ _ h=>h)) (fun _ _ h=>h);have a5:base<=(wc.drew.alloc (Q7 ⟨key,d,gone⟩)).heap.size:=ZI Z (ZI y.out.size ((ja.alloc wc.drew (Q7 ⟨key,d,gone⟩) (fun _=>False)).size));have N:v.ownBlock≠some wc.heap.size:=fun e=>by have:=(m.out.lt _ e).2;omega
    have bg:b<wc.heap.size:=zC Y.out;have kY:ja w (wc.drew.alloc (Q7 ⟨key,d,gone⟩)) (fun _=>False):=(y.out.draw).more _;have O:(wc.drew.alloc (Q7 ⟨key,d,gone⟩)).heap[b]?=some (.cells q t (0,0)):=(ja.alloc wc.drew _ (fun _=>False)).same (k:=b) Y.out id;have ah:=jb M;have az:=jb E;have b4:=jb a5;have b1:=jb N;have ae:=jb kY;have ai:=jb O;clear M E a5 N kY O;obtain⟨p0,ax,rfl⟩:=jl z;go_wp2_with fail
    go_region_law (
     refine jx rfl 155 [.tmp 36,.tmp 37,.tmp 39] _ rfl Om [.slice p0 l.length ax,j6 A,.slice (some ⟨wc.heap.size,0,none⟩) 1 1] (by simp[Act.eval]) (jbs b2.out b7.out hl b4.out az.out ah.out b1.out) ?_
     rintro e w2 ⟨v2,rfl,s,u⟩
     obtain⟨p2,ca,rfl⟩:=jl s
     have H:=u.keeps.same ai.out (fun e=>S e.symm)
     have m2:=zA (o:=o) H
     rw[HV.out] at m2
     have f2:=zB (o:=o) H
     have b6:=jb H
     have b0:=jb s
     clear H s
     refine⟨_,rfl,?_⟩)
    all_goals
     go_wp2;go_end0;refine⟨rfl,_,jd b6.out _,?_,?_,?_⟩
     ·rw[B.out]
      refine(ja.setCell w2 ⟨b,o,none⟩ _).row b0.out (fun gg f e=>?_);subst e;rcases u.1 with h|⟨g2,h,h3⟩
      ·rw[h] at f;exact S f
      ·rw[h] at f;cases f;simp at h3;omega
     ·rcases u.1 with h|⟨g2,h,h3⟩
      ·exact .inl h
      ·refine .inr ⟨g2,h,ZI ae.out.size h3⟩
     ·exact((ae.out.up).trans u.keeps (fun i _ h=> .inr h)).set (p:=⟨b,o,none⟩) (.inl rfl) _
theorem Oz(l:List Rf.Ch)(k:Nat):jj (l.drop k)=(jj l).drop (k*3):=by
 rcases zV k l.length with h|h
 ·have e:jj l=jj (l.take k)++jj (l.drop k):=by rw[<-J1,xQ]
  have b:(jj (l.take k)).length=k*3:=by rw[yp,zK,xD (by omega)]
  rw[e,<-b,List.drop_left]
 ·rw[yD h,yD (by rw[yp];omega)]
  rfl
theorem Chs.drop{c:Nat}{l:List Rf.Ch}(h:Chs w (.slice (some ⟨b,o,none⟩) l.length c) l)(g:k<=l.length) :
 Chs w (.slice (some ⟨b,o+k*3,none⟩) (l.length-k) (c-k)) (l.drop k):=by
 obtain⟨f,p,e,n,m,i,d⟩:=h;cases e;refine⟨some ⟨b,o+k*3,none⟩,c-k,by rw[XQ],by rw[XQ];omega,by omega,(fun h=>by cases h),fun ad had=>?_⟩;cases had;refine⟨rfl,fun j u hu=>?_⟩;rw[Oz,List.getElem?_drop] at hu;have:=(d _ rfl).2 _ u hu;rw[Yv] at this ⊢;rw[XO];exact this
theorem Chs.empty{l:List Rf.Ch}(h:l=[]):Chs w (.slice (some ⟨b,o,none⟩) 0 0) l:=by
 subst h;exact⟨some ⟨b,o,none⟩,0,rfl,zJ _,zG _,(fun h=>by cases h),fun ad had=>by cases had;exact⟨rfl,fun j u hu=>by simp[jj] at hu⟩⟩
theorem P7{l:List Rf.Ch}{key:Str}(g:A=Rf.below l key)(f:F=decide ((l[Rf.below l key]?).map Rf.Ch.key=some key))(b:Chs W v l)(c:Rf.jw l)(d:l.length<1099511627776) :
 Calls prog 153 #[v,jf key,.func (.func 154) #[] #[]] W fun e w'=>e = .returned (.tuple #[j6 A,.bool F])/\ja W w' (fun _=>False):=by
 refine(Gi v l key W b c d).mono ?_;rintro e w' ⟨rfl,k⟩;rw[g,f];exact⟨rfl,k⟩
theorem Sx(b o:Nat)(k:Array Value)(t:TypeId)(v:Value)(l:List Rf.Ch)(key:Str)(w:World)(q:w.heap[b]?=some (.cells k t (0,0)))(m:k[o]?=some v)(f:Chs w v l)(G:Rf.jw l)(N:l.length<1048576) :
 Calls prog 112 #[.pointer (some ⟨b,o,none⟩),jf key] w fun e w'=>∃ v',e = .returned (.func (.func 158) #[v'] #[])/\Chs w' v' (l.drop (Rf.below l key))/\ja w w' (fun _=>False)/\(∀ ad n c,v' = .slice (some ad) n c->∃ ad' n' c',v = .slice (some ad') n' c'/\ad'.block=ad.block):=by
 have s:=zA (o:=o) q;rw[m] at s;have j:l.length<1099511627776:=by omega
 have d:Rf.below l key<=l.length:=by unfold Rf.below;exact(List.takeWhile_prefix _).length_le
 obtain⟨A,r⟩:∃ A,A=Rf.below l key:=⟨_,rfl⟩;obtain⟨F,u⟩:∃ F:Bool,F=decide ((l[Rf.below l key]?).map Rf.Ch.key=some key):=⟨_,rfl⟩;rw[<-r] at d ⊢;obtain⟨p,c,rfl,R,O,y,x⟩:=id f;have T:=jb q;have S:=jb m;have I:=jb r;have H:=jb u
 cases p with
 | none =>
  have D:c=0:=y rfl;have C:l=[]:=zT (by omega);subst C;subst D;have E:A=0:=by simp at d;exact d
  clear q m r u x y d;subst E;go_enter func112,ntmps112
  go_wp2_with (go_at_call 153;go_must (refine(P7 I.out H.out f G j).mono ?_);rintro e J ⟨rfl,i⟩;have B:=i.cell s id)
  go_ret;exact⟨_,rfl,Chs.nil _,i,fun ad n c e=>by cases e⟩
 | some ad =>
  obtain⟨g,off,L⟩:=ad;have z:L=none:=(x _ rfl).1;subst z;clear q m r u x y;go_enter func112,ntmps112
  go_wp2_with (go_at_call 153;go_must (refine(P7 I.out H.out f G j).mono ?_);rintro e J ⟨rfl,i⟩;have B:=i.cell s id)
  all_goals go_ret
  ·skip
   refine⟨_,rfl,?_,i,fun ad n c e=>by injection e with e1 e2 e3;injection e1 with e1;subst e1;first|exact⟨_,_,_,rfl,rfl⟩|rfl⟩;have M:l.length-A=0:=by omega
   rw[M];exact Chs.empty (yD (by omega))
  ·exact⟨_,rfl,(f.same i).drop d,i,fun ad n c e=>by injection e with e1 e2 e3;injection e1 with e1;subst e1;first|exact⟨_,_,_,rfl,rfl⟩|rfl⟩
theorem Rf.Vm(c:Rf.Ch)(l:List Rf.Ch):(Rf.ins c l).length<=l.length+1:=by
 induction l with
 | nil=>simp[Rf.ins]
 | cons x r ih=>unfold Rf.ins;split<;>(try split)<;>simp<;>omega
theorem Rf.Ct{l:List Rf.Ch}(h:Rf.jw l)(more:List Rf.Ch):(Rf.over l more).length<=l.length+more.length:=by
 induction more generalizing l with
 | nil=>simp[Rf.over]
 | cons c r ih =>
  have d:Rf.over l (c::r)=Rf.over (Rf.put l c) r:=rfl;have f:=ih (l:=Rf.put l c) (by rw[Rf.X3 h];exact Rf.Jq h);have b:=Rf.Vm c l;rw[<-Rf.X3 h] at b;rw[d];simp only[zH];omega
theorem jbz(b:Array Value)(w:World):(callFunc 108 b).run prog w = .ok (.enter 108 b) w:=by kernel_rfl
theorem ja7{A z y x u s r q p:Value}{t:TypeId}{l:List Rf.Ch}{c:Rf.Ch}{base:Nat}(k:W.heap[b]?=some (.cells #[A,z,y,x,u,s,r,v,q,p] t (0,0)))(j:W.ownsRow base 88 3 v l.length (jj l))(f:v.ownBlock≠some b)(C:Rf.jw l)(D:l.length<1048576)(E:c.key.length<1099511627776)(B:c.value.length<1099511627776)(d:base<=W.heap.size)(m:ja w W (fun _=>False)) :
 Calls prog 108 #[.pointer (some ⟨b,7,none⟩),chV c] W fun e w'=>e = .returned (.tuple #[])/\∃ v',w'.heap[b]?=some (.cells #[A,z,y,x,u,s,r,v',q,p] t (0,0)) /\
  w'.ownsRow base 88 3 v' (Rf.put l c).length (jj (Rf.put l c))/\v'.ownBlock≠some b/\(v'.ownBlock=v.ownBlock\/∃ g,v'.ownBlock=some g/\w.heap.size<=g)/\ja w w' (fun i=>i=b\/some i=v.ownBlock):=by
 refine(jfi b 7 _ t v l c base W k rfl j f C D E B d).mono ?_;rintro e w' ⟨rfl,v',H,G,o,F⟩;refine⟨rfl,v',H,G,?_,?_,(m.up).tt F⟩
 ·intro e
  rcases o with h|⟨g,h,n⟩
  ·exact f (h▸e)
  ·rw[h] at e;cases e;have:=zC k;omega
 ·rcases o with h|⟨g,h,n⟩
  ·exact .inl h
  ·exact .inr ⟨g,h,ZI m.size n⟩
theorem Ha{l b:List Rf.Ch}{c:Rf.Ch}(d:k<b.length)(f:b[k]=c):Rf.over l (b.take (k+1))=Rf.put (Rf.over l (b.take k)) c:=by
 rw[xH,xB d,f];exact Rf.Mc _ _ _
theorem Mt(b:Nat)(X W V U T S R O:Value)(last:Nat)(t:TypeId)(v Y:Value)(l f:List Rf.Ch)(base:Nat)(w:World)(hb:w.heap[b]?=some (.cells #[X,W,V,U,T,S,j6 last,v,R,O] t (0,0)))(M:w.ownsRow base 88 3 v l.length (jj l))(Z:v.ownBlock≠some b)(hr:Rf.jw l)(hl:l.length+f.length<1048576)(ac:last<4611686018427387904)(I:Chs w Y f)(hs:∀ c∈f,c.key.length<1099511627776/\c.value.length<1099511627776)(E:base<=w.heap.size)(a4:f≠[]->∀ p n c,Y = .slice (some p) n c->p.block≠b/\v.ownBlock≠some p.block) :
 Calls prog 66 #[.pointer (some ⟨b,0,none⟩),Y] w fun e w'=>e = .returned (.tuple #[])/\∃ v',w'.heap[b]?=some (.cells #[X,W,V,U,T,S,j6 (last+1),v',R,O] t (0,0)) /\
  w'.ownsRow base 88 3 v' (Rf.over l f).length (jj (Rf.over l f))/\v'.ownBlock≠some b/\(v'.ownBlock=v.ownBlock\/∃ g,v'.ownBlock=some g/\w.heap.size<=g)/\ja w w' (fun i=>i=b\/some i=v.ownBlock):=by
 obtain⟨p,cp,rfl,h1,h2,h3,h4⟩:=id I;have ah:=zC hb;have ag:f.length<1048576:=by omega
 clear h3 h4;go_enter func66,ntmps66;go_wp2_with fail
 go_loopw [8] (fun i wr=>∃(k:Nat) (u:Value),k<=f.length/\i = .int .i64 k/\wr.heap[b]?=some (.cells #[X,W,V,U,T,S,j6 last,u,R,O] t (0,0)) /\
  wr.ownsRow base 88 3 u (Rf.over l (f.take k)).length (jj (Rf.over l (f.take k)))/\u.ownBlock≠some b/\(u.ownBlock=v.ownBlock\/∃ g,u.ownBlock=some g/\w.heap.size<=g)/\ja w wr (fun i=>i=b\/some i=v.ownBlock))
  (fun i _=>f.length-(intOf i).toNat)
 case atStart=>exact⟨0,v,zG _,rfl,hb,M,Z,.inl rfl,ja.refl _ _⟩
 case round =>
  obtain⟨k,u,hk,rfl,m,d,s,j,q⟩:=hrel;rcases zV k f.length with y|av
  ·have N:Chs wr (.slice p f.length cp) f:=I.keep q (fun hn pp n c e=>by
    have F:=a4 hn pp n c e
    rintro(z|z)
    ·exact F.1 z
    ·exact F.2 z.symm)
   obtain⟨b1,o1,rfl,e0,e1,e2⟩:=N.at y
   generalize hc:f[k]=x at e0 e1 e2
   obtain⟨B,A,G⟩:=x
   have HC:=jb hc
   clear hc
   have D:=jb m
   have C:=jb d
   clear m d
   have r:=hs _ (xV y)
   rw[HC.out] at r
   have a3:B.length<1099511627776:=r.1
   have a2:A.length<1099511627776:=r.2
   have a9:Hid ((wr.alloc (Q7 ⟨B,A,G⟩)).drew.heap[b]?=some (.cells #[X,W,V,U,T,S,j6 last,u,R,O] t (0,0))):=(ja.alloc wr _ (fun _=>False)).same (k:=b) D.out id
   have a6:Hid ((wr.alloc (Q7 ⟨B,A,G⟩)).drew.ownsRow base 88 3 u (Rf.over l (f.take k)).length (jj (Rf.over l (f.take k)))):=((ja.alloc wr (Q7 ⟨B,A,G⟩) (fun _=>False)).draw).row C.out (fun _ _ h=>h)
   have a5:Hid (Rf.jw (Rf.over l (f.take k))):=Rf.ym hr
   have a8:Hid ((Rf.over l (f.take k)).length<1048576):=by
    have F:=Rf.Ct hr (f.take k);rw[zK] at F;unfold Hid;omega
   have L:Hid (ja wr (wr.alloc (Q7 ⟨B,A,G⟩)).drew (fun _=>False)):=(ja.alloc wr _ _).draw
   have aa:Hid (base<=(wr.alloc (Q7 ⟨B,A,G⟩)).drew.heap.size):=ZI E (ZI q.size L.out.size)
   have aw:=jb r
   clear r
   go_wp2_with fail
   go_region_law (
    refine jx rfl 108 [.tmp 14,.tmp 15] _ rfl jbz [.pointer (some ⟨b,7,none⟩),chV ⟨B,A,G⟩] (by simp[Act.eval]) (ja7 a9.out a6.out s a5.out a8.out a3 a2 aa.out L.out) ?_
    rintro e w2 ⟨rfl,v2,J,H,a0,a1,k2⟩
    have ab:=jb J
    have a7:=jb H
    clear J H
    refine⟨_,rfl,?_⟩)
   all_goals
    go_wp2;go_roundw
    case rel =>
     refine⟨k+1,v2,y,by simp,ab.out,by rw[Ha y HC.out];exact a7.out,a0,?_,q.trans k2 ?_⟩
     ·rcases a1 with h|⟨g,h,F⟩
      ·rw[h];exact j
      ·exact .inr ⟨g,h,ZI q.size F⟩
     ·rintro i hi (h|h)
      ·exact .inl h
      ·rcases j with z|⟨g,z,h7⟩
       ·exact .inr (h.trans z)
       ·rw[z] at h;cases h;omega
    case measure=>simp[intOf];omega
  ·have ek:k=f.length:=by omega
   subst ek;rw[xR] at d;have d6:=zA (o:=6) m;have f6:=zB (o:=6) m;simp at d6;have D:=jb m;have C:=jb d;clear m d;go_wp2;go_end0;refine⟨rfl,u,(jd D.out _).trans rfl,(ja.setCell wr _ _).row C.out (fun g hg e=>s (by rw[hg,e])),s,j,q.set (p:=⟨b,6,none⟩) (.inl rfl) _⟩
def jh8:Value->Nat
 | .slice _ n _=>n
 | _=>0
def Rf.az(l:List Rf.Ch)(bs:List (List Rf.Ch)):List Rf.Ch:=bs.foldl Rf.over l
theorem Rf.Uy(l:List Rf.Ch)(bs:List (List Rf.Ch))(b:List Rf.Ch):Rf.az l (bs++[b])=Rf.over (Rf.az l bs) b:=by simp[Rf.az,XM]
theorem Rf.Np{l:List Rf.Ch}(h:Rf.jw l)(bs:List (List Rf.Ch)):Rf.jw (Rf.az l bs):=by
 induction bs generalizing l with
 | nil=>exact h
 | cons b r ih=>exact ih (Rf.ym h)
theorem Rf.Nq{l:List Rf.Ch}(h:Rf.jw l)(bs:List (List Rf.Ch))(c:∀ b∈bs,b.length<=8):(Rf.az l bs).length<=l.length+8*bs.length:=by
 induction bs generalizing l with
 | nil=>simp[Rf.az]
 | cons b r ih =>
  have i:=ih (l:=Rf.over l b) (Rf.ym h) (fun x hx=>c x (zQ _ hx));have g:=Rf.Ct h b;have f:=c b (zR ..);have d:Rf.az l (b::r)=Rf.az (Rf.over l b) r:=rfl;rw[d,zH];omega
theorem Rf.sq(n:Nat)(b:List Rf.Ch):16<=(Rf.jm n b).length:=by
 simp[Rf.jm,Rf.frame,Rf.js];omega
theorem Rf.Dt(last:Nat)(bs:List (List Rf.Ch)):16*bs.length<=(Rf.jk last bs).length:=by
 induction bs generalizing last with
 | nil=>simp
 | cons b r ih =>
  have f:=ih (last+1);have d:=Rf.sq (last+1) b;have c:Rf.jk last (b::r)=Rf.jm (last+1) b++Rf.jk (last+1) r:=by simp[Rf.jk,Rf.jm]
  rw[c,zW,zH];omega
def Wi(b:Nat)(c0 c1 c2 c3 c4 c5 c8 c9:Value)(last:Nat)(t:TypeId)(v:Value)(l:List Rf.Ch)(L:List UInt8)(base:Nat)(w:World)(e:Ending)(w':World):Prop :=
 ∃ bs r v',Rf.Jl last L bs r/\Rf.Over last bs r/\e = .returned (j6 (L.length-r.length))/\w'.heap[b]?=some (.cells #[c0,c1,c2,c3,c4,c5,j6 (last+bs.length),v',c8,c9] t (0,0)) /\
  w'.ownsRow base 88 3 v' (Rf.az l bs).length (jj (Rf.az l bs))/\v'.ownBlock≠some b/\(v'.ownBlock=v.ownBlock\/∃ g,v'.ownBlock=some g/\w.heap.size<=g)/\ja w w' (fun i=>i=b\/some i=v.ownBlock)
theorem Gn(b:Nat)(c0 c1 c2 c3 c4 c5 c8 M:Value)(last:Nat)(t:TypeId)(v lv:Value)(l:List Rf.Ch)(L:List UInt8)(base:Nat)(w:World)(S:Xg E B w)(bh:B<=b)(bf:∀ g,v.ownBlock=some g->B<=g)(hb:w.heap[b]?=some (.cells #[c0,c1,c2,c3,c4,c5,j6 last,v,c8,M] t (0,0)))(aw:w.ownsRow base 88 3 v l.length (jj l))(ba:v.ownBlock≠some b)(hr:Rf.jw l)(hl:l.length+L.length<1000000)(bn:last<=1000000000)(hL:Bytes w lv L)(bo:base<=w.heap.size)(D:L≠[]->∀ p n c,lv = .slice (some p) n c->p.block≠b/\v.ownBlock≠some p.block) :
 Calls prog 180 #[.pointer (some ⟨b,0,none⟩),lv] w (Wi b c0 c1 c2 c3 c4 c5 c8 M last t v l L base w):=by
 have c7:=zC hb;obtain⟨p,cp,rfl,_⟩:=id hL
 have be:L≠[]->∀ m n' c',Value.slice p L.length cp = .slice (some m) n' c'->m.block≠b/\v.ownBlock≠some m.block/\m.block<w.heap.size:=by
  intro hn m n' c' e;cases e;exact⟨(D hn _ _ _ rfl).1,(D hn _ _ _ rfl).2,hL.lt hn⟩
 go_enter func180,ntmps180;go_wp2_with fail
 go_loopw [5] (fun rv wr=>∃(bs:List (List Rf.Ch)) (r:List UInt8) (C:Value),Rf.Jl last L bs r/\Bytes wr rv r/\(r≠[]->∀ m n' c',rv = .slice (some m) n' c'->m.block≠b/\v.ownBlock≠some m.block/\m.block<w.heap.size) /\
  wr.heap[b]?=some (.cells #[c0,c1,c2,c3,c4,c5,j6 (last+bs.length),C,c8,M] t (0,0)) /\
  wr.ownsRow base 88 3 C (Rf.az l bs).length (jj (Rf.az l bs))/\C.ownBlock≠some b/\(C.ownBlock=v.ownBlock\/∃ g,C.ownBlock=some g/\w.heap.size<=g)/\ja w wr (fun i=>i=b\/some i=v.ownBlock))
  (fun rv _=>jh8 rv)
 case atStart=>exact⟨[],L,v,.none,hL,be,hb,aw,ba,.inl rfl,ja.refl _ _⟩
 case round =>
  obtain⟨bs,r,C,hT,al,bd,a9,H,F,d,y⟩:=hrel;obtain⟨pr,cr,rfl,_⟩:=id al;have a7:=hT.bytes;have bc:=Rf.Dt last bs
  have aq:L.length=(Rf.jk last bs).length+r.length:=by
   have s:=congrArg List.length a7.1;rw[zW] at s;exact s
  have h8:∀ x∈bs,x.length<=8:=fun x hx=>((Rf.Ji x).1 (a7.2 x hx)).2.1;have b9:=Rf.Nq hr bs h8;have d6:=zA (o:=6) a9;simp at d6;have av:r.length<1099511627776:=by omega
  have co:r.length<=L.length:=by omega
  have U:((L.length:Int)-(r.length:Int))=((L.length-r.length:Nat):Int):=by omega
  have V:(Rf.az l bs).length+8<1048576:=by omega
  have R:=jb a9;have O:=jb H;have Z:=jb U;have cq:=jb aq;have b0:=jb V;clear a9 H a7 bc h8 b9 U aq V;rcases zV (last+bs.length) 1000000000 with bb|cn
  ·have Sr:Xg E B wr:=S.keep y (fun i e=>by
    rcases e with e|e
    ·rw[e];exact bh
    ·exact bf _ e.symm)
   have bg:B<=wr.heap.size:=by have:=y.size;omega
   have bz:((last:Int)+(bs.length:Int))<1000000000:=by omega
   have ax:last+bs.length+1<9223372036854775808:=by omega
   have J:((last:Int)+(bs.length:Int)+1)=((last+bs.length+1:Nat):Int):=by omega
   have ac:=jb J
   clear J
   go_wp2_with fail
   rw[ac.out]
   refine(Kt (G:=fun g=>g≠b/\v.ownBlock≠some g/\g<w.heap.size) (last+bs.length+1) ax Sr bg al bd av).mono ?_
   rintro e w1 ⟨T,⟨N,q,v1,v2,k,rfl,aa,an,f⟩|⟨v1,k,rfl,he⟩⟩
   ·have a8:=Rf.gu k
    have a6:=(Rf.Ji N).1 a8.2
    have b7:q.length<r.length:=by
     have s:=congrArg List.length a8.1;have A:=Rf.sq (last+bs.length+1) N;rw[zW] at s;omega
    have W:w1.heap[b]?=some (.cells #[c0,c1,c2,c3,c4,c5,j6 (last+bs.length:Nat),C,c8,M] t (0,0)):=T.same R.out id;have z:=T.row O.out (fun _ _ h=>h);have ap:=Rf.Jl.more hT bb k;obtain⟨p1,ar,rfl⟩:=jl f
    have Y:∀ c∈N,c.key.length<1099511627776/\c.value.length<1099511627776:=fun c hc=>by
     have s:=(Rf.Jk c).1 (a6.2.2 c hc);omega
    have X:N≠[]->∀ m n' c',Value.slice p1 N.length ar = .slice (some m) n' c'->m.block≠b/\C.ownBlock≠some m.block:=by
     intro _ m n' c' e;cases e;have s:=(f.lt m.block rfl).1;refine⟨fun e=>?_,fun e=>?_⟩
     ·have A:=zC R.out
      omega
     ·have A:=(O.out.lt _ e).2
      omega
    have am:(Rf.az l bs).length+N.length<1048576:=by have s:=b0.out;have A:=a6.2.1;omega
    have D:=Mt b c0 c1 c2 c3 c4 c5 c8 M (last+bs.length) t C (.slice p1 N.length ar) (Rf.az l bs) N base w1 W z F (Rf.Np hr bs) am (by omega) (Je f) Y (by have s:=T.size;have A:=y.size;omega) X;have bm:=jb D;have bj:=jb ap;have au:=jb an;clear D ap an X Y W z am a6 a8 k f;obtain⟨p2,bi,rfl,_⟩:=id aa;go_wp2_with fail;refine bm.out.mono ?_;rintro e w2 ⟨rfl,v',ao,I,ay,ab,k3⟩
    have b8:Bytes w2 (.slice p2 q.length bi) q:=by
     rcases Classical.em (q=[])with rfl|hq
     ·obtain⟨p9,M,e9,a1,a2,a3,a4⟩:=aa
      exact⟨p9,M,e9,a1,a2,a3,fun ad e=>⟨(a4 ad e).1,fun j u hu=>by cases hu⟩⟩
     ·refine aa.keep k3 (fun p9 n9 M e9 hT9=>?_)
      obtain⟨g1,g2,g3⟩:=au.out hq p9 n9 M e9;rcases hT9 with s|s
      ·exact g1 s
      ·rcases d with A|⟨g,A,h7⟩
       ·exact g2 (A▸s.symm)
       ·rw[A] at s;cases s;omega
    have bl:=jb ao;have bk:=jb I;clear ao I;go_wp2;refine⟨⟨bs++[N],q,v',bj.out,b8,au.out,?_,?_,ay,?_,?_⟩,b7⟩
    ·rw[zW,ZK,<-XO]
     exact bl.out
    ·rw[Rf.Uy]
     exact bk.out
    ·rcases ab with h|⟨g,h,s⟩
     ·rw[h];exact d
     ·refine .inr ⟨g,h,?_⟩
      have A:=T.size;have h7:=y.size;omega
    ·refine(y.trans T (fun _ _ h=>h.elim)).trans k3 ?_
     rintro i hi (h|h)
     ·exact .inl h
     ·rcases d with A|⟨g,A,h7⟩
      ·exact .inr (h.trans A)
      ·rw[A] at h;cases h;omega
   ·obtain⟨t1,a1,rfl⟩:=he.shape
    go_wp2;go_ret;refine⟨bs,r,C,hT,.inr k,?_,T.same R.out id,T.row O.out (fun _ _ h=>h),F,d,y.trans T (fun _ _ h=>h.elim)⟩;simp[j6,Z.out]
  ·have c6:¬((last:Int)+(bs.length:Int))<1000000000:=by omega
   go_wp2;go_ret;refine⟨bs,r,C,hT,.inl (by omega),?_,R.out,O.out,F,d,y⟩;simp[j6,Z.out]
structure Dk(E:Nat->Addr)(B:Nat)(w:World)(ρ:Nat->j3)(d:Nat)(S:jc):Prop where
 rep:Rep w ρ d S
 z8:Xg E B w
 yz:∀ i,ρ i≠ .none->B<=i
 size:B<=w.heap.size
theorem Dk.step{ρ b:Nat->j3}{S S':jc}(h:Dk E B w ρ d S)(g:x7 w ρ w' b)(r:Rep w' b d S'):Dk E B w' b d S' :=
 ⟨r,h.z8.keep g.keeps (fun i hi=>h.yz i hi),fun i hi=>by
  rcases zV i w.heap.size with c|f
  ·rw[g.role i c] at hi;exact h.yz i hi
  ·exact ZI h.size f,ZI h.size g.keeps.size⟩
theorem Dk.same{ρ:Nat->j3}{S:jc}(h:Dk E B w ρ d S)(k:ja w w' (fun _=>False)):Dk E B w' ρ d S :=
 ⟨h.rep.keep k (fun _ h _=>h.elim),h.z8.same k,h.yz,ZI h.size k.size⟩
theorem x7.same{b:World}{ρ c:Nat->j3}(g:x7 w ρ w' c)(k:ja w' b (fun _=>False)):x7 w ρ b c:=g.trans (x7.of k (fun _ _ h=>h.elim))
theorem Xy(nm:Str)(w:World):Calls prog 160 #[jf nm,.int .i64 0] w fun e w'=>e = .returned .nilIface/\w'=w:=by
 go_enter func160,ntmps160;go_wp2;go_ret;exact⟨rfl,rfl⟩
theorem Qc(S:Xg E B w)(nm:Str)(c:Int)(g:c≠0) :
 Calls prog 160 #[jf nm,.int .i64 c] w fun e w'=>∃ v,e = .returned v/\Err E w' v 1/\ja w w' (fun _=>False):=by
 have s0:=S.cell 1 (by decide);go_enter func160,ntmps160;go_wp2_with fail;refine(zw _ (.base (E:=E) 1 (by decide))).mono ?_;rintro e f ⟨v,rfl,d,b⟩;go_wp2;go_ret;exact⟨v,rfl,d,b⟩
theorem Lk{ρ:Nat->j3}{S:jc}(D:Dk E B w ρ d S)(nm:Str)(p:nm.length<1099511627776) :
 Calls prog 159 #[.pointer (some ⟨d,0,none⟩),jf nm] w fun e w'=>∃ ρ',x7 w ρ w' ρ' /\
  (((S.bad=true\/S.at nm=none)/\(∃ v,e = .returned v/\Err E w' v 1)/\Dk E B w' ρ' d (S.called true)) \/
   (S.bad=false/\e = .returned .nilIface/\∃ f a,S.at nm=some f/\S.files f=some a/\Dk E B w' ρ' d ((S.called true).withFile f a.synced))):=by
 go_enter func159,ntmps159;go_wp2_with fail;refine(jcq nm D.rep p).mono ?_;rintro e o ⟨k,c,⟨j,rfl,i⟩|⟨j,m,rfl,i⟩|⟨j,rfl,f,a,m,q,i⟩⟩
 ·have b:=D.step c i
  go_wp2_with fail;refine(Qc b.z8 nm 1 (by decide)).mono ?_;rintro e n ⟨v,rfl,l,g⟩;go_wp2;go_ret;exact⟨k,c.same g,.inl ⟨.inl j,⟨v,rfl,l⟩,b.same g⟩⟩
 ·have b:=D.step c i
  go_wp2_with fail;refine(Qc b.z8 nm 2 (by decide)).mono ?_;rintro e n ⟨v,rfl,l,g⟩;go_wp2;go_ret;exact⟨k,c.same g,.inl ⟨.inr m,⟨v,rfl,l⟩,b.same g⟩⟩
 ·have b:=D.step c i
  go_wp2_with fail;refine(Xy nm o).mono ?_;rintro e n ⟨rfl,rfl⟩;go_wp2;go_ret;exact⟨k,c,.inr ⟨j,rfl,f,a,m,q,b⟩⟩
theorem Ku{ρ:Nat->j3}{S:jc}(D:Dk E B w ρ d S)(m:Maps.size S.safe+S.late.length<1099511627776) :
 Calls prog 169 #[.pointer (some ⟨d,0,none⟩)] w fun e w'=>∃ ρ',x7 w ρ w' ρ' /\
  ((S.bad=true/\(∃ v,e = .returned v/\Err E w' v 1)/\Dk E B w' ρ' d (S.called true)) \/
   (S.bad=false/\e = .returned .nilIface/\Dk E B w' ρ' d { S.called true with safe:=(S.called true).late.foldl doA (S.called true).safe,late:=[] })):=by
 have b:S.bad=true\/S.bad=false:=by cases S.bad<;>simp
 rcases b with b|b
 ·go_enter func169,ntmps169
  go_wp2_with fail;refine(Pr D.rep b).mono ?_;rintro e i ⟨rfl,c,g⟩;have f:=D.step c g;go_wp2_with fail;refine(Qc f.z8 [110,97,109,101,115] 1 (by decide)).mono ?_;rintro e l ⟨v,rfl,n,j⟩;go_wp2;go_ret;exact⟨ρ,c.same j,.inl ⟨b,⟨v,rfl,n⟩,f.same j⟩⟩
 ·go_enter func169,ntmps169
  go_wp2_with fail;refine(M4 D.rep b m).mono ?_;rintro e i ⟨rfl,k,c,g⟩;have f:=D.step c g;go_wp2_with fail;refine(Xy [110,97,109,101,115] i).mono ?_;rintro e l ⟨rfl,rfl⟩;go_wp2;go_ret;exact⟨k,c,.inr ⟨b,rfl,f⟩⟩
theorem Yc{ρ:Nat->j3}{S:jc}(D:Dk E B w ρ d S)(Z:Small S)(nm:Str)(s:nm.length<1099511627776) :
 Calls prog 129 #[.pointer (some ⟨d,0,none⟩),jf nm] w fun e w'=>x7 w ρ w' ρ/\Dk E B w' ρ d (S.called false) /\
  ((S.bad=true/\∃ v,e = .returned (.tuple #[.slice none 0 0,v])/\Err E w' v 1) \/
   (S.bad=false/\S.at nm=none/\∃ v,e = .returned (.tuple #[.slice none 0 0,v])/\Err E w' v 2) \/
   (S.bad=false/\∃ f a v,S.at nm=some f/\S.files f=some a/\e = .returned (.tuple #[v,.nilIface])/\w'.ownsRow w.heap.size 5 1 v a.bytes.length (a.bytes.map j5))):=by
 have b:S.bad=true\/S.bad=false:=by cases S.bad<;>simp
 rcases b with b|b
 ·go_enter func129,ntmps129
  go_wp2_with fail;refine(jc5 nm 0 9223372036854775807 D.rep b).mono ?_;rintro e q ⟨rfl,g,l⟩;have i:=D.step g l;go_wp2_with fail;refine(Qc i.z8 nm 1 (by decide)).mono ?_;rintro e r ⟨v,rfl,o,k⟩;obtain⟨t,a,rfl⟩:=o.shape;go_wp2;go_ret2;exact⟨g.same k,i.same k,.inl ⟨b,_,rfl,o⟩⟩
 ·rcases Option.eq_none_or_eq_some (S.at nm)with j|⟨f,j⟩
  ·have m:=jb j
   clear j;go_enter func129,ntmps129;go_wp2_with fail;refine(ja6 nm 0 9223372036854775807 D.rep s b m.out).mono ?_;rintro e q ⟨rfl,g,l⟩;have i:=D.step g l;have s0:=i.z8.cell 2 (by decide);go_wp2_with fail;refine(zw _ (.base (E:=E) 2 (by decide))).mono ?_;rintro e r ⟨v,rfl,o,k⟩;go_wp2;go_ret2;exact⟨g.same k,i.same k,.inr (.inl ⟨b,m.out,_,rfl,o⟩)⟩
  ·obtain⟨a,u⟩:∃ a,S.files f=some a:=D.rep.at j
   have m:=jb j;have x:=jb u;clear j u;go_enter func129,ntmps129;go_wp2_with fail;refine(jc6 9223372036854775807 (by decide) (by decide) nm D.rep Z s b m.out x.out).mono ?_;rintro e q ⟨g,l,p,c,rfl,n⟩;have i:=D.step g l;go_wp2_with fail;refine(Xy nm q).mono ?_;rintro e r ⟨rfl,rfl⟩;go_wp2;go_ret2;exact⟨g,i,.inr (.inr ⟨b,f,a,_,m.out,x.out,rfl,n⟩)⟩
def jc.qn(S:jc)(nm:Str):jc×Bool :=
 if S.bad=true then(S.called true,false)else
 match S.at nm with
 | none=>(S.called true,false)
 | some f=>match S.files f with
  | none=>(S.called true,false)
  | some a=>((S.called true).withFile f a.synced,true)
def jc.Ye(S:jc):jc×Bool :=
 if S.bad=true then(S.called true,false)else({ S.called true with safe:=(S.called true).late.foldl doA (S.called true).safe,late:=[] },true)
def jc.xj(S:jc)(nm:Str):jc×Bool :=
 if S.bad=true then(S.called true,false)else
 match S.at nm with
 | none=>(S.called true,false)
 | some _=>((S.called true).named ⟨[],nm,[],none⟩,true)
def jc.qt(S:jc)(sr ds:Str):jc×Bool :=
 if S.bad=true then(S.called true,false)else
 match S.at sr with
 | none=>(S.called true,false)
 | some f=>if ds=[] then(S.called true,false)else((S.called true).named ⟨[],sr,ds,some f⟩,true)
def xu(F:jc×Bool):jc×Bool:=if F.2=true then F.1.Ye else(F.1,false)
def jcj(E:Nat->Addr)(w:World)(e:Ending)(ok:Bool):Prop:=(ok=true/\e = .returned .nilIface)\/(ok=false/\∃ v,e = .returned v/\Err E w v 1)
def Xr(E:Nat->Addr)(B:Nat)(w:World)(ρ:Nat->j3)(d:Nat)(F:jc×Bool)(e:Ending)(w':World):Prop:=∃ ρ',x7 w ρ w' ρ'/\Dk E B w' ρ' d F.1/\jcj E w' e F.2
theorem r9{ρ:Nat->j3}{S:jc}(D:Dk E B w ρ d S)(nm:Str)(l:nm.length<1099511627776) :
 Calls prog 159 #[.pointer (some ⟨d,0,none⟩),jf nm] w (Xr E B w ρ d (S.qn nm)):=by
 refine(Lk D nm l).mono ?_;rintro e w' ⟨k,g,⟨b,i,c⟩|⟨b,i,f,a,c,n,m⟩⟩
 ·have j:S.qn nm=(S.called true,false):=by
   unfold jc.qn
   split
   ·rfl
   ·rcases b with b|b
    ·contradiction
    ·rw[b]
  rw[j]
  exact⟨k,g,c,.inr ⟨rfl,i⟩⟩
 ·have j:S.qn nm=((S.called true).withFile f a.synced,true):=by
   unfold jc.qn;rw[if_neg (by rw[b];decide),c];simp only[n]
  rw[j]
  exact⟨k,g,m,.inl ⟨rfl,i⟩⟩
theorem oy{ρ:Nat->j3}{S:jc}(D:Dk E B w ρ d S)(i:Maps.size S.safe+S.late.length<1099511627776) :
 Calls prog 169 #[.pointer (some ⟨d,0,none⟩)] w (Xr E B w ρ d S.Ye):=by
 refine(Ku D i).mono ?_;rintro e w' ⟨f,g,⟨c,b,k⟩|⟨c,b,j⟩⟩
 ·have l:S.Ye=(S.called true,false):=by unfold jc.Ye;rw[if_pos c]
  rw[l];exact⟨f,g,k,.inr ⟨rfl,b⟩⟩
 ·unfold jc.Ye
  rw[if_neg (by rw[c];decide)];exact⟨f,g,j,.inl ⟨rfl,b⟩⟩
def jc.xx:List Str->jc->jc×Bool
 | [],S=>S.Ye
 | n::r,S=>if (S.qn n).2=true then jc.xx r (S.qn n).1 else((S.qn n).1,false)
theorem Cj(S:jc)(nm:Str):(S.qn nm).1.safe=S.safe/\(S.qn nm).1.late=S.late:=by
 unfold jc.qn
 split
 ·exact⟨rfl,rfl⟩
 ·split
  ·exact⟨rfl,rfl⟩
  ·split<;>exact⟨rfl,rfl⟩
theorem Xr.before{c:World}{ρ b:Nat->j3}{F:jc×Bool}{e:Ending}(g:x7 w ρ c b)(h:Xr E B c b d F e w'):Xr E B w ρ d F e w':=by
 obtain⟨f,i,D,r⟩:=h;exact⟨f,g.trans i,D,r⟩
theorem As{ρ:Nat->j3}{S:jc}(D:Dk E B w ρ d S)(v:Value)(ns:List Str)(base:Nat)(W:w.ownsRow base 9 1 v ns.length (ns.map encStr))(hρ:∀ g,v.ownBlock=some g->ρ g = .none)(hn:∀ n∈ns,n.length<1099511627776)(hl:ns.length<1099511627776)(hz:Maps.size S.safe+S.late.length<1099511627776) :
 Calls prog 164 #[.pointer (some ⟨d,0,none⟩),v] w (Xr E B w ρ d (jc.xx ns S)):=by
 obtain⟨p,c,rfl⟩:=jl W;go_enter func164,ntmps164;go_wp2_with fail
 go_loopw [10] (fun i wr=>∃(k:Nat) (M:Nat->j3) (T:jc),k<=ns.length/\i = .int .i64 k/\x7 w ρ wr M/\Dk E B wr M d T/\jc.xx ns S=jc.xx (ns.drop k) T/\T.safe=S.safe/\T.late=S.late)
  (fun i _=>ns.length-(intOf i).toNat)
 case atStart=>exact⟨0,ρ,S,zG _,rfl,x7.refl _ _,D,rfl,rfl,rfl⟩
 case round =>
  obtain⟨k,M,T,hk,rfl,L,Y,m,y,u⟩:=hrel;have j:=jb m;have G:=jb y;have F:=jb u;clear m y u;rcases zV k ns.length with o|a7
  ·have s:=L.keeps.row W (fun g hg2 h=>h (hρ g hg2))
   have J:∃ g,p=some ⟨g,0,none⟩:=by
    rcases s.2 with⟨_,h0⟩|⟨g,cap,a8,e,_⟩
    ·omega
    ·cases e;exact⟨g,rfl⟩
   obtain⟨g,rfl⟩:=J;have f:=s.cells rfl k (encStr ns[k]) (by rw[ZN,xB o];rfl);have A:ns.drop k=ns[k]::ns.drop (k+1):=List.drop_eq_getElem_cons o;have z:=hn _ (xV o);have H:=jb A;clear A;generalize hx:ns[k]=x at f z;have Z:=jb hx;clear hx;rw[add_zero] at f;unfold encStr at f;go_wp2_with fail;refine(r9 Y x z).mono ?_;rintro e w1 ⟨N,R,U,⟨l,rfl⟩|⟨l,v1,rfl,O⟩⟩
   ·have b:jc.xx ns S=jc.xx (ns.drop (k+1)) (T.qn x).1:=by
     rw[j.out,H.out,Z.out,jc.xx,if_pos l]
    have t:=Cj T x
    have r:=jb b
    have C:=jb t
    clear b t
    go_wp2
    exact⟨⟨k+1,N,(T.qn x).1,o,by simp,L.trans R,U,r.out,C.out.1.trans G.out,C.out.2.trans F.out⟩,by simp[intOf];omega⟩
   ·have b:jc.xx ns S=((T.qn x).1,false):=by
     rw[j.out,H.out,Z.out,jc.xx,if_neg (by rw[l];decide)]
    have r:=jb b
    clear b
    obtain⟨t1,a1,rfl⟩:=O.shape
    go_wp2
    go_ret
    rw[r.out]
    exact⟨N,L.trans R,U,.inr ⟨rfl,_,rfl,O⟩⟩
  ·have ek:k=ns.length:=by omega
   have q:jc.xx ns S=T.Ye:=by rw[j.out,ek,List.drop_length,jc.xx]
   have V:Maps.size T.safe+T.late.length<1099511627776:=by rw[G.out,F.out];exact hz
   have I:=jb q;clear q;go_wp2_with fail;refine(oy Y V).mono ?_;intro e w1 J;have X:=J.before L;rw[<-I.out] at X;obtain⟨N,R,U,⟨l,rfl⟩|⟨l,v1,rfl,O⟩⟩:=J
   all_goals
    go_wp2;go_ret;exact X
theorem Dv{ρ:Nat->j3}{S:jc}(D:Dk E B w ρ d S)(Z:Small S)(sr ds:Str)(F:sr.length<1099511627776)(C:ds.length<1099511627776)(L:Maps.size S.safe+S.late.length+1<1099511627776) :
 Calls prog 167 #[.pointer (some ⟨d,0,none⟩),jf sr,jf ds] w (Xr E B w ρ d (xu (S.qt sr ds))):=by
 go_enter func167,ntmps167;go_wp2_with fail;refine(Ur sr ds D.rep Z F C).mono ?_;rintro e z ⟨s,k,⟨m,rfl,n⟩|⟨m,g,rfl,n⟩|⟨m,p,rfl,f,g,n⟩⟩
 ·have i:=D.step k n
  have b:S.qt sr ds=(S.called true,false):=by unfold jc.qt;rw[if_pos m]
  have c:=jb b;clear b;go_wp2_with fail;refine(Qc i.z8 sr 1 (by decide)).mono ?_;rintro e t ⟨v,rfl,j,l⟩;obtain⟨A,G,rfl⟩:=j.shape;go_wp2;go_ret;rw[c.out];exact⟨s,k.same l,i.same l,.inr ⟨rfl,_,rfl,j⟩⟩
 ·have i:=D.step k n
  have b:S.qt sr ds=(S.called true,false):=by
   unfold jc.qt;rw[if_neg (by rw[m];decide)]
   split
   ·rfl
   ·rename_i f hf
    rcases g with g|g
    ·rw[g] at hf;cases hf
    ·rw[if_pos g]
  have c:=jb b;clear b g;go_wp2_with fail;refine(Qc i.z8 sr 2 (by decide)).mono ?_;rintro e t ⟨v,rfl,j,l⟩;obtain⟨A,G,rfl⟩:=j.shape;go_wp2;go_ret;rw[c.out];exact⟨s,k.same l,i.same l,.inr ⟨rfl,_,rfl,j⟩⟩
 ·have i:=D.step k n
  have b:S.qt sr ds=((S.called true).named ⟨[],sr,ds,some f⟩,true):=by
   unfold jc.qt;rw[if_neg (by rw[m];decide),g];simp only[if_neg p]
  have c:=jb b;clear b g p
  have o:Maps.size ((S.called true).named ⟨[],sr,ds,some f⟩).safe+((S.called true).named ⟨[],sr,ds,some f⟩).late.length<1099511627776:=by
   show Maps.size S.safe+(S.late++[_]).length<_;rw[zW,ZK];omega
  have H:=jb o;clear o;go_wp2_with fail;refine(Xy sr z).mono ?_;rintro e t ⟨rfl,rfl⟩;go_wp2_with fail;refine(oy i H.out).mono ?_;intro e y x;have u:=x.before k
  have q:Xr E B w ρ d (xu (S.qt sr ds)) e y:=by
   rw[c.out];exact u
  clear u;obtain⟨I,M,N,⟨r,rfl⟩|⟨r,J,rfl,j⟩⟩:=x
  all_goals
   go_wp2;go_ret;exact q
def jc.yf:List Str->jc->jc×Bool
 | [],S=>(S,true)
 | n::r,S=>if (S.xj n).2=true then jc.yf r (S.xj n).1 else((S.xj n).1,false)
def jc.jr(ns:List Str)(S:jc):jc×Bool:=if ns=[] then(S,true)else xu (jc.yf ns S)
theorem K0(S:jc)(nm:Str):(S.xj nm).1.safe=S.safe/\(S.xj nm).1.late.length<=S.late.length+1/\(S.xj nm).1.files=S.files:=by
 unfold jc.xj
 split
 ·exact⟨rfl,Nat.le_succ _,rfl⟩
 ·split
  ·exact⟨rfl,Nat.le_succ _,rfl⟩
  ·exact⟨rfl,by show(S.late++[_]).length<=_;simp,rfl⟩
theorem Rep.K6{ρ:Nat->j3}{S:jc}(R:Rep w ρ d S)(nm:Str):Maps.size (S.xj nm).1.names<=Maps.size S.names:=by
 obtain⟨g,c,lv,i,f,rs,b,_⟩:=R.mem;unfold jc.xj
 split
 ·exact zJ _
 ·split
  ·exact zJ _
  ·show Maps.size (S.names.del (.string nm))<=_
   have h:=size_del (k:= .string nm) (b.tidy law);omega
theorem jc4{ρ:Nat->j3}{S:jc}(D:Dk E B w ρ d S)(Z:Small S)(nm:Str)(m:nm.length<1099511627776) :
 Calls prog 168 #[.pointer (some ⟨d,0,none⟩),jf nm] w fun e w'=>∃ ρ',x7 w ρ w' ρ'/\Dk E B w' ρ' d (S.xj nm).1/\(((S.xj nm).2=true/\e = .returned (.int .i64 0))\/((S.xj nm).2=false/\∃ c:Int,c≠0/\e = .returned (.int .i64 c))):=by
 refine(Us nm D.rep Z m).mono ?_;rintro e n ⟨k,b,⟨g,rfl,j⟩|⟨g,l,rfl,j⟩|⟨g,rfl,f,l,j⟩⟩
 ·have i:S.xj nm=(S.called true,false):=by unfold jc.xj;rw[if_pos g]
  rw[i];exact⟨k,b,D.step b j,.inr ⟨rfl,1,by decide,rfl⟩⟩
 ·have i:S.xj nm=(S.called true,false):=by unfold jc.xj;rw[if_neg (by rw[g];decide),l]
  rw[i];exact⟨k,b,D.step b j,.inr ⟨rfl,2,by decide,rfl⟩⟩
 ·have i:S.xj nm=((S.called true).named ⟨[],nm,[],none⟩,true):=by unfold jc.xj;rw[if_neg (by rw[g];decide),l]
  rw[i];exact⟨k,b,D.step b j,.inl ⟨rfl,rfl⟩⟩
theorem Yk{ρ:Nat->j3}{S:jc}(D:Dk E B w ρ d S)(Z:Small S)(v:Value)(ns:List Str)(base:Nat)(hv:w.ownsRow base 9 1 v ns.length (ns.map encStr))(hρ:∀ g,v.ownBlock=some g->ρ g = .none)(hn:∀ n∈ns,n.length<1099511627776)(hl:ns.length<1099511627776)(hz:Maps.size S.safe+S.late.length+ns.length<1099511627776) :
 Calls prog 118 #[.pointer (some ⟨d,0,none⟩),v] w (Xr E B w ρ d (jc.jr ns S)):=by
 obtain⟨p,c,rfl⟩:=jl hv;go_enter func118,ntmps118;go_wp2_with fail
 go_loopw [10] (fun i wr=>∃(k:Nat) (U:Nat->j3) (T:jc),k<=ns.length/\i = .int .i64 k/\x7 w ρ wr U/\Dk E B wr U d T/\Small T/\jc.yf ns S=jc.yf (ns.drop k) T/\T.safe=S.safe/\T.late.length<=S.late.length+k/\(k=0->T=S))
  (fun i _=>ns.length-(intOf i).toNat)
 case atStart=>exact⟨0,ρ,S,zG _,rfl,x7.refl _ _,D,Z,rfl,rfl,zJ _,fun _=>rfl⟩
 case round =>
  obtain⟨k,U,T,hk,rfl,A,X,W,u,I,H,G⟩:=hrel;have m:=jb u;have O:=jb I;have z:=jb H;have aa:=jb G;clear u I H G;rcases zV k ns.length with o|ao
  ·have F:=A.keeps.row hv (fun g hg2 h=>h (hρ g hg2))
   have V:∃ g,p=some ⟨g,0,none⟩:=by
    rcases F.2 with⟨_,h0⟩|⟨g,cap,ap,e,_⟩
    ·omega
    ·cases e;exact⟨g,rfl⟩
   obtain⟨g,rfl⟩:=V;have l:=F.cells rfl k (encStr ns[k]) (by rw[ZN,xB o];rfl);have M:ns.drop k=ns[k]::ns.drop (k+1):=List.drop_eq_getElem_cons o;have J:=hn _ (xV o);have L:ns≠[]:=fun e=>by rw[e] at o;simp at o
   have ab:=jb L;have R:=jb M;clear M L;generalize hx:ns[k]=x at l J;have HX:=jb hx;clear hx;rw[add_zero] at l;unfold encStr at l;have q:=K0 T x;have a5:=X.rep.K6 x;have a8:Small (T.xj x).1:=⟨by have:=W.names;omega,by rw[q.1];exact W.safe,by have h5:=q.2.1;have h6:=z.out;omega,by rw[q.2.2];exact W.files⟩;have N:=jb q;clear q a5;go_wp2_with fail;refine(jc4 X W x J).mono ?_;rintro e w1 ⟨ρ1,g1,D1,⟨r,rfl⟩|⟨r,cc,a7,rfl⟩⟩
   ·have f:jc.yf ns S=jc.yf (ns.drop (k+1)) (T.xj x).1:=by
     rw[m.out,R.out,HX.out,jc.yf,if_pos r]
    have y:=jb f
    clear f
    go_wp2_with fail
    refine(Xy x w1).mono ?_
    rintro e w2 ⟨rfl,rfl⟩
    go_wp2
    exact⟨⟨k+1,ρ1,(T.xj x).1,o,by simp,A.trans g1,D1,a8,y.out,N.out.1.trans O.out,by have h5:=N.out.2.1;have h6:=z.out;omega,fun h=>by omega⟩,by simp[intOf];omega⟩
   ·have f:jc.jr ns S=((T.xj x).1,false):=by
     unfold jc.jr;rw[if_neg ab.out,m.out,R.out,HX.out,jc.yf,if_neg (by rw[r];decide)];rfl
    have y:=jb f
    clear f
    go_wp2_with fail
    refine(Qc D1.z8 x cc a7).mono ?_
    rintro e w2 ⟨v2,rfl,he,k2⟩
    obtain⟨t1,a1,rfl⟩:=he.shape
    go_wp2
    go_ret
    rw[y.out]
    exact⟨ρ1,(A.trans g1).same k2,D1.same k2,.inr ⟨rfl,_,rfl,he⟩⟩
  ·have Y:k=ns.length:=by omega
   have s:jc.yf ns S=(T,true):=by rw[m.out,Y,List.drop_length,jc.yf]
   rcases Classical.em (ns=[])with b|b
   ·have j:jc.jr ns S=(T,true):=by
     unfold jc.jr;rw[if_pos b,aa.out (by rw[Y,b];rfl)]
    have a6:ns.length=0:=by rw[b];rfl
    have t:=jb j
    clear j s b
    rw[a6] at Y
    subst Y
    go_wp2
    go_ret
    rw[t.out]
    exact⟨U,A,X,.inl ⟨rfl,rfl⟩⟩
   ·have j:jc.jr ns S=T.Ye:=by
     unfold jc.jr;rw[if_neg b,s];rfl
    have C:Maps.size T.safe+T.late.length<1099511627776:=by have h5:=z.out;rw[O.out];omega
    have ai:¬((ns.length:Int)=0):=fun e=>b (zT (by omega))
    have t:=jb j
    have a9:=jb C
    clear j s b C
    go_wp2_with fail
    refine(oy X a9.out).mono ?_
    intro e w1 V
    have hq:=V.before A
    rw[<-t.out] at hq
    obtain⟨ρ1,g1,D1,⟨r,rfl⟩|⟨r,v1,rfl,he⟩⟩:=V
    all_goals
     go_wp2;go_ret;exact hq
end Go.Proofs.YtnipbplghijdmaaGreatDoor
