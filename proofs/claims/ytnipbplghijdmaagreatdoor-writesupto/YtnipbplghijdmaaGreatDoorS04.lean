/-
  S: Name NameRep Put Ops1 Ops2.
-/
import Derived.Deep.CutRange
import Derived.Test.YtnipbplghijdmaaGreatDoorS03
set_option maxRecDepth 100000
set_option maxHeartbeats 8000000
set_option linter.unusedVariables false
set_option linter.unusedSimpArgs false
namespace Go.Proofs.YtnipbplghijdmaaGreatDoor
open RowKit Maps WideShapes Go.Proofs.Tryz
variable {cp2 d f:Nat} {w w' w2 wa:World} {p2:Option Addr} {D:DataW Nat}
theorem jbx{nm n:Nat}{z:DataW Nat}{late:List zt}{c:zt}{x lv v u t s:Value}(q:nm≠d)(l:∀ g,lv.ownBlock=some g->g≠d/\g≠nm)(C:d<w.heap.size)(B:nm<w.heap.size)(j:w'.ownsMap prog 9 zj nm (n+1) z)(y:ja w w' (fun i=>i=d\/i=nm\/some i=lv.ownBlock))(o:ja w' wa (fun _=>False))(f:w2.ownsRow 0 148 4 (.slice p2 (late.length+1) cp2) (late.length+1) (qu late++qu [c]))(m:wa.grownBy w2 lv.ownBlock)(b:(Value.slice p2 (late.length+1) cp2).ownBlock=lv.ownBlock\/(Value.slice p2 (late.length+1) cp2).ownBlock=some wa.heap.size)(r:w2.heap[d]?=some (.cells #[.map (some nm),x,lv,v,u,t,s] 101 (0,0))) :
 ∃ lv',(w2.setCell ⟨d,2,none⟩ (.slice p2 (late.length+1) cp2)).heap[d]?=some (.cells #[.map (some nm),x,lv',v,u,t,s] 101 (0,0)) /\
  (w2.setCell ⟨d,2,none⟩ (.slice p2 (late.length+1) cp2)).ownsMap prog 9 zj nm (n+1) z /\
  (w2.setCell ⟨d,2,none⟩ (.slice p2 (late.length+1) cp2)).ownsRow 0 148 4 lv' (late.length+1) (qu (late++[c])) /\
  (lv'.ownBlock=lv.ownBlock\/∃ g,lv'.ownBlock=some g/\w.heap.size<=g) /\
  ja w (w2.setCell ⟨d,2,none⟩ (.slice p2 (late.length+1) cp2)) (fun i=>i=d\/i=nm\/some i=lv.ownBlock):=by
 have A:w.heap.size<=wa.heap.size:=ZF y.size o.size;refine⟨.slice p2 (late.length+1) cp2,?_,?_,?_,?_,?_⟩
 ·rw[jc r];rfl
 ·refine World.ownsMap.setCell ?_ q _
  refine(ja.grown m).map (o.map j id) (fun e=>(l nm e.symm).2 rfl)
 ·rw[Be]
  refine(ja.setCell w2 _ _).row f (fun g hg e=>?_);rcases b with p|p
  ·exact(l g (p▸hg)).1 e
  ·have E:g=wa.heap.size:=Option.some.inj (hg.symm.trans p)
   have D:g=d:=e;omega
 ·rcases b with e|e
  ·exact .inl e
  ·exact .inr ⟨_,e,A⟩
 ·exact((y.trans o (fun _ _ h=>h.elim)).grow m (fun k e _=> .inr (.inr e.symm))).set (.inl rfl) _
theorem Vu(d nm n:Nat)(D:DataW Nat)(late:List zt)(m sr p:Str)(f:Option Nat)(E lv C B A z:Value)(w:World)(h:w.heap[d]?=some (.cells #[.map (some nm),E,lv,C,B,A,z] 101 (0,0)))(k:w.ownsMap prog 9 zj nm n D)(U:n<1099511627776)(V:m.length<1099511627776)(W:sr.length<1099511627776)(T:p.length<1099511627776)(N:w.ownsRow 0 148 4 lv late.length (qu late))(a4:late.length<1099511627776)(v:nm≠d)(q:∀ g,lv.ownBlock=some g->g≠d/\g≠nm) :
 Calls prog 194 #[.pointer (some ⟨d,0,none⟩),.agg #[jd m,jd sr,jd p,fo f]] w fun e w'=>e = .returned (.tuple #[]) /\
  ∃ lv',w'.heap[d]?=some (.cells #[.map (some nm),E,lv',C,B,A,z] 101 (0,0)) /\
   w'.ownsMap prog 9 zj nm (n+1) (doA D ⟨m,sr,p,f⟩) /\
   w'.ownsRow 0 148 4 lv' (late.length+1) (qu (late++[⟨m,sr,p,f⟩])) /\
   (lv'.ownBlock=lv.ownBlock\/∃ g,lv'.ownBlock=some g/\w.heap.size<=g)/\ja w w' (fun i=>i=d\/i=nm\/some i=lv.ownBlock):=by
 have O:=zA (o:=0) h;simp at O;have J:=zC h;have u:=k.lt;go_enter func194,ntmps194;go_wp2_with fail
 go_region_with (go_at_call 81;refine(jct nm n D m sr p f _ ?_ U V W T).mono ?_;exact k.alloc _;rintro e w' ⟨rfl,s,b⟩)
 all_goals
  have j:w'.heap[d]?=some (.cells #[.map (some nm),E,lv,C,B,A,z] 101 (0,0)):=b.same (((ja.refl w (fun _=>False)).more _).same h id) v.symm;have c:w'.heap[w.heap.size]?=some (.cells #[jd m,jd sr,jd p,fo f] 148 (0,0)):=b.same (je w _) (Nat.ne_of_gt u);have I:w'.ownsRow 0 148 4 lv late.length (qu late):=b.row (N.alloc _) (fun g hg=>(q g hg).2);have a3:w.heap.size+1<=w'.heap.size:=by have:=b.size;simp at this;omega
  have R:ja w w' (fun i=>i=d\/i=nm\/some i=lv.ownBlock):=ja.trans ((ja.refl w _).more _).draw b (fun i _ e=> .inr (.inl e));clear h O k N b;have d2:=zA (o:=2) j;have f2:=zB (o:=2) j;have e0:=zA (o:=0) c;have Z:=zA (o:=1) c;have Y:=zA (o:=2) c;have X:=zA (o:=3) c;have a6:∀ x,(w'.alloc x).cell? ⟨d,2,none⟩=some lv:=fun x=>(Q6 (o:=2) j x);simp at d2 e0 Z Y X;have HD:=jb j;have HC:=jb c;clear j c;obtain⟨S,hi,H,G,F⟩:=info_parts Tryz.Sn;go_wp2_with fail
  go_region_law (refine xu rfl (.tmp 14) (.tmp 16) 99 rfl 0 148 S Uv 4 56 underlying99 hi H G F rfl (by decide) lv late.length (qu late) rfl (I.alloc _) ⟨w'.heap.size,0,none⟩ 1 1 (qu [⟨m,sr,p,f⟩]) rfl rfl (Jt (je w' _) rfl) (Tj _) (by unfold maxLen;omega) (by omega) (zU _) ?_;intro p2 cp2 w2 r y t;have l:=(ja.grown y).same (((ja.refl w' (fun _=>False)).draw.more _).same HD.out id) (fun e=>(q d e.symm).1 rfl);have L:=zA (o:=2) l;have a5:=zB (o:=2) l;have M:=jb l;clear l;simp at L)
  all_goals
   go_end0;exact⟨rfl,jbx v q J u s R (((ja.refl w' _).more _).draw) r y t M.out⟩
theorem A9{fs:Nat->Option ye}{a:ye}(d:IsMap D)(h:cw D fs)(c:fs f=some a)(s:Str):cw (D.put (.string s) (.held f)) fs:=by
 intro k b;by_cases e:k = .string s
 ·subst e
  exact⟨f,a,atKey_put_same (k:= .string s) d (by trivial) _ _,c⟩
 ·rw[has_put_other e] at b
  obtain⟨j,a',i,g⟩:=h k b;exact⟨j,a',by rw[atKey_put_other e];exact i,g⟩
theorem Ko{fs:Nat->Option ye}(h:cw D fs)(s:Str):cw (D.del (.string s)) fs:=by
 intro k b;by_cases e:k = .string s
 ·subst e
  rw[has_del_same] at b;cases b
 ·rw[has_del_other e] at b
  obtain⟨f,a',d,c⟩:=h k b;exact⟨f,a',by rw[atKey_del_other e];exact d,c⟩
theorem Oq{fs:Nat->Option ye}{c:zt}(d:IsMap D)(h:cw D fs)(i:Tx fs c):cw (doA D c) fs:=by
 obtain⟨_,_,_,g⟩:=i;unfold doA
 split
 ·rename_i hm
  obtain⟨f,a,e,b⟩:=g (.inl (by intro e;rw[e] at hm;cases hm));rw[e];exact A9 d h b _
 ·split
  ·rename_i hm
   obtain⟨f,a,e,b⟩:=g (.inr (by intro e;rw[e] at hm;cases hm));rw[e]
   split
   ·exact Ko (A9 d h b _) _
   ·exact A9 d h b _
  ·exact Ko h _
def jh.named(S:jh)(c:zt):jh:={ S with names:=doA S.names c,late:=S.late++[c] }
theorem Fx{ρ:Nat->jz}{S:jh}(u sr A:Str)(f:Option Nat)(R:Rep w ρ d S)(Z:Small S)(r:Tx S.files ⟨u,sr,A,f⟩) :
 Calls prog 194 #[.pointer (some ⟨d,0,none⟩),.agg #[jd u,jd sr,jd A,fo f]] w fun e w'=>e = .returned (.tuple #[])/\∃ ρ',Rep w' ρ' d (S.named ⟨u,sr,A,f⟩)/\xo w ρ w' ρ':=by
 obtain⟨⟨nm,t,lv,T,m,rs,I,os,N,p⟩,o,M,O,L,lo,j,X,Y⟩:=R;have C:nm≠d:=fun e=>by rw[e,o] at m;cases m
 have D:∀ g,lv.ownBlock=some g->g≠d/\g≠nm:=fun g q=>by
  have x:=p g q;exact⟨fun e=>(by rw[e,o] at x;cases x),fun e=>(by rw[e,m] at x;cases x)⟩
 refine(Vu d nm (Maps.size S.names) S.names S.late u sr A f _ lv _ _ _ _ w T I Z.names r.1 r.2.1 r.2.2.1 N Z.late C D).mono ?_;rintro e w' ⟨rfl,b,F,B,s,l,y⟩
 have z:∀ i,ρ i≠ .zw->ρ i≠ .names->ρ i≠ .late->¬(i=d\/i=nm\/some i=lv.ownBlock):=by
  rintro i W V U (e|e|e)
  ·exact W (e▸o)
  ·exact V (e▸m)
  ·exact U (p i e.symm)
 have H:∀ i,i<w.heap.size->(i=d\/i=nm\/some i=lv.ownBlock)->ρ i≠ .none:=by
  rintro i _ (e|e|e)
  ·rw[e,o];decide
  ·rw[e,m];decide
  ·rw[p i e.symm];decide
 refine⟨rfl,fun i=>if some i=b.ownBlock then .late else ρ i,?_,⟨y.mono H,fun i hi=>?_⟩⟩
 ·have v:∀ i,i<w.heap.size->(if some i=b.ownBlock then jz.late else ρ i)=ρ i:=by
   intro i hi
   split
   ·rename_i e
    rcases l with n|⟨g,n,q⟩
    ·rw[n] at e;exact(p i e.symm).symm
    ·rw[n] at e;have:=Option.some.inj e;omega
   ·rfl
  refine⟨⟨nm,t,b,F,?_,?_,tight B,y.map os (z t (by rw[rs];decide) (by rw[rs];decide) (by rw[rs];decide)),?_,?_⟩,?_,?_,?_,?_,?_,?_,X,Y⟩
  ·exact(v nm (j nm (by rw[m];decide))).trans m
  ·exact(v t (j t (by rw[rs];decide))).trans rs
  ·simpa [jh.named] using s
  ·intro g q;simp[q]
  ·exact(v d (j d (by rw[o];decide))).trans o
  ·intro J a E
   have k:=M J a E;exact k.keep y v (z J (by rw[k.1];decide) (by rw[k.1];decide) (by rw[k.1];decide)) (fun i hi=>z i (by rw[hi];exact fun h=>by cases h) (by rw[hi];exact fun h=>by cases h) (by rw[hi];exact fun h=>by cases h)) (fun i hi=>z i (by rw[hi];exact fun h=>by cases h) (by rw[hi];exact fun h=>by cases h) (by rw[hi];exact fun h=>by cases h))
  ·exact Oq I.isMap O r
  ·exact L
  ·intro c G
   rcases ZD.1 G with h|h
   ·exact lo c h
   ·rw[ZE.1 h];exact r
  ·intro i hi
   by_cases e:some i=b.ownBlock
   ·exact(s.lt i e.symm).2
   ·rw[if_neg e] at hi;exact zT (j i hi) y.size
 ·split
  ·rename_i e
   rcases l with n|⟨g,n,q⟩
   ·rw[n] at e;exact(p i e.symm).symm
   ·rw[n] at e;have:=Option.some.inj e;omega
  ·rfl
theorem Vq(c:Nat×Nat):∀ u∈y9 [c],u.oneCell'=true:=by
 intro u b;simp[y9] at b;rcases b with rfl|rfl<;>rfl
theorem Bf(l:List UInt8):∀ u∈l.map j6,u.oneCell'=true:=by
 intro u b;simp at b;obtain⟨x,_,rfl⟩:=b;rfl
theorem jdz{bytes src:List UInt8}{late:List (Nat×Nat)}{F pv:Value}{v q:World}{m r:Option Addr}{n d:Nat}(t:∀ g,(Value.slice m bytes.length n).ownBlock=some g->g≠f/\pv.ownBlock≠some g)(B:∀ g,pv.ownBlock=some g->g≠f)(T:f<w.heap.size)(N:w.ownsRow 0 5 1 (.slice m bytes.length n) bytes.length (bytes.map j6))(I:ja w wa (fun _=>False))(p:w2.ownsRow 0 192 2 (.slice p2 (late.length+1) cp2) (late.length+1) (y9 late++y9 [(bytes.length,src.length)]))(C:wa.grownBy w2 pv.ownBlock)(b:(Value.slice p2 (late.length+1) cp2).ownBlock=pv.ownBlock\/(Value.slice p2 (late.length+1) cp2).ownBlock=some wa.heap.size)(H:w2.heap[f]?=some (.cells #[.slice m bytes.length n,F,pv] 154 (0,0)))(s:v=w2.setCell ⟨f,2,none⟩ (.slice p2 (late.length+1) cp2))(y:q.ownsRow 0 5 1 (.slice r (bytes.length+src.length) d) (bytes.length+src.length) (bytes.map j6++src.map j6))(x:v.grownBy q (Value.slice m bytes.length n).ownBlock)(l:(Value.slice r (bytes.length+src.length) d).ownBlock=(Value.slice m bytes.length n).ownBlock\/(Value.slice r (bytes.length+src.length) d).ownBlock=some v.heap.size) :
 ∃ bv' pv',(q.setCell ⟨f,0,none⟩ (.slice r (bytes.length+src.length) d)).heap[f]?=some (.cells #[bv',F,pv'] 154 (0,0)) /\
  (q.setCell ⟨f,0,none⟩ (.slice r (bytes.length+src.length) d)).ownsRow 0 5 1 bv' (bytes++src).length ((bytes++src).map j6) /\
  (q.setCell ⟨f,0,none⟩ (.slice r (bytes.length+src.length) d)).ownsRow 0 192 2 pv' (late++[(bytes.length,src.length)]).length (y9 (late++[(bytes.length,src.length)])) /\
  (bv'.ownBlock=(Value.slice m bytes.length n).ownBlock\/∃ g,bv'.ownBlock=some g/\w.heap.size<=g)/\(pv'.ownBlock=pv.ownBlock\/∃ g,pv'.ownBlock=some g/\w.heap.size<=g) /\
  (∀ g,bv'.ownBlock=some g->pv'.ownBlock≠some g) /\
  ja w (q.setCell ⟨f,0,none⟩ (.slice r (bytes.length+src.length) d)) (fun i=>i=f\/some i=(Value.slice m bytes.length n).ownBlock\/some i=pv.ownBlock):=by
 have S:w.heap.size<=wa.heap.size:=I.size;have R:wa.heap.size<=w2.heap.size:=C.size;have O:v.heap.size=w2.heap.size:=by rw[s];simp[World.setCell]
 have G:q.heap[f]?=some (.cells #[.slice m bytes.length n,F,.slice p2 (late.length+1) cp2] 154 (0,0)):=by
  refine(ja.grown x).same ?_ (fun e=>(t f e.symm).1 rfl);rw[s,jc H];rfl
 have E:∀ g,(Value.slice p2 (late.length+1) cp2).ownBlock=some g->g<w2.heap.size:=fun g j=>(p.lt g j).2;have D:∀ g,(Value.slice m bytes.length n).ownBlock=some g->g<w.heap.size:=fun g j=>(N.lt g j).2
 have u:∀ g,(Value.slice r (bytes.length+src.length) d).ownBlock=some g->(Value.slice p2 (late.length+1) cp2).ownBlock≠some g:=by
  intro g j e;rcases l with z|z
  ·have o:=z▸j
   have:=D g o;rcases b with c|c
   ·exact(t g o).2 (c▸e)
   ·have:=Option.some.inj (e.symm.trans c);omega
  ·have V:=Option.some.inj (j.symm.trans z)
   have U:=E g e;omega
 refine⟨.slice r (bytes.length+src.length) d,.slice p2 (late.length+1) cp2,?_,?_,?_,?_,?_,u,?_⟩
 ·rw[jc G];rfl
 ·rw[ZY,ZA]
  refine(ja.setCell q _ _).row y (fun g j e=>?_);have A:g=f:=e;rcases l with c|c
  ·exact(t g (c▸j)).1 A
  ·have z:g=v.heap.size:=Option.some.inj (j.symm.trans c)
   omega
 ·rw[Cn,ZY]
  have J:v.ownsRow 0 192 2 (.slice p2 (late.length+1) cp2) (late.length+1) (y9 late++y9 [(bytes.length,src.length)]):=by
   rw[s];refine(ja.setCell w2 _ _).row p (fun g j e=>?_);have A:g=f:=e;rcases b with c|c
   ·exact B g (c▸j) A
   ·have z:g=wa.heap.size:=Option.some.inj (j.symm.trans c)
    omega
  refine(ja.setCell q _ _).row ((ja.grown x).row J (fun g j e=>?_)) (fun g j e=>?_)
  ·have o:=e.symm
   have:=D g o;rcases b with c|c
   ·exact(t g o).2 (c▸j)
   ·have:=Option.some.inj (j.symm.trans c);omega
  ·have A:g=f:=e
   rcases b with c|c
   ·exact B g (c▸j) A
   ·have z:g=wa.heap.size:=Option.some.inj (j.symm.trans c)
    omega
 ·rcases l with e|e
  ·exact .inl e
  ·exact .inr ⟨_,e,by omega⟩
 ·rcases b with e|e
  ·exact .inl e
  ·exact .inr ⟨_,e,by omega⟩
 ·have M:ja w w2 (fun i=>i=f\/some i=(Value.slice m bytes.length n).ownBlock\/some i=pv.ownBlock):=(I.up).grow C (fun k e _=> .inr (.inr e.symm))
  have L:ja w v (fun i=>i=f\/some i=(Value.slice m bytes.length n).ownBlock\/some i=pv.ownBlock):=by rw[s];exact M.set (.inl rfl) _
  exact(L.grow x (fun k e _=> .inr (.inl e.symm))).set (.inl rfl) _
theorem jbe(f:Nat)(bytes src:List UInt8)(late:List (Nat×Nat))(I bv pv:Value)(y:Addr)(c:Nat)(w:World)(h:w.heap[f]?=some (.cells #[bv,I,pv] 154 (0,0)))(J:w.ownsRow 0 5 1 bv bytes.length (bytes.map j6))(hp:w.ownsRow 0 192 2 pv late.length (y9 late))(ag:bytes.length<1099511627776)(af:late.length<1099511627776)(ac:src.length<1099511627776)(ae:0<src.length)(F:∀ j u,(src.map j6)[j]?=some u->w.cell? (y.add j)=some u)(ha:y.block≠f)(W:pv.ownBlock≠some y.block)(m:∀ g,bv.ownBlock=some g->g≠f/\pv.ownBlock≠some g)(A:∀ g,pv.ownBlock=some g->g≠f) :
 Calls prog 103 #[.pointer (some ⟨f,0,none⟩),.slice (some y) src.length c] w fun e w'=>e = .returned (.tuple #[]) /\
  ∃ bv' pv',w'.heap[f]?=some (.cells #[bv',I,pv'] 154 (0,0)) /\
   w'.ownsRow 0 5 1 bv' (bytes++src).length ((bytes++src).map j6) /\
   w'.ownsRow 0 192 2 pv' (late++[(bytes.length,src.length)]).length (y9 (late++[(bytes.length,src.length)])) /\
   (bv'.ownBlock=bv.ownBlock\/∃ g,bv'.ownBlock=some g/\w.heap.size<=g)/\(pv'.ownBlock=pv.ownBlock\/∃ g,pv'.ownBlock=some g/\w.heap.size<=g) /\
   (∀ g,bv'.ownBlock=some g->pv'.ownBlock≠some g) /\
   ja w w' (fun i=>i=f\/some i=bv.ownBlock\/some i=pv.ownBlock):=by
 obtain⟨G,H,rfl⟩:=jj J;have c0:=zA (o:=0) h;have c2:=zA (o:=2) h;have f0:=zB (o:=0) h;have f2:=zB (o:=2) h;have U:=zC h;have aj:∀ x,(w.alloc x).cell? ⟨f,2,none⟩=some pv:=fun x=>(Q6 (o:=2) h x);have ak:∀ x,(w.alloc x).cell? ⟨f,0,none⟩=some (.slice G bytes.length H):=fun x=>(Q6 (o:=0) h x);simp at c0 c2;have HD:=jb h;clear h;obtain⟨i0,hi,N,M,L⟩:=info_parts Tryz.Wg;obtain⟨j0,hj,S,R,O⟩:=info_parts Tryz.ou;go_enter func103,ntmps103;go_wp2_with fail
 go_region_law (refine xu rfl (.tmp 11) (.tmp 20) 152 rfl 0 192 i0 jbk 2 16 underlying152 hi N M L rfl (by decide) pv late.length (y9 late) rfl (hp.alloc _) ⟨w.heap.size,0,none⟩ 1 1 (y9 [(bytes.length,src.length)]) rfl rfl (Jt (je w _) rfl) (Vq _) (by unfold maxLen;omega) (by omega) (zU _) ?_;intro p2 cp2 w2 s n v;have d:=(ja.grown n).same (((ja.refl w (fun _=>False)).draw.more _).same HD.out id) (fun e=>A f e.symm rfl);have C:=zA (o:=2) d;have X:=zB (o:=2) d;have D:=zA (o:=0) d;have Y:=zB (o:=0) d;have E:=jb d;clear d;simp at C D)
 all_goals
  obtain⟨z,b⟩:∃ z,z=w2.setCell ⟨f,2,none⟩ (.slice p2 (late.length+1) cp2):=⟨_,rfl⟩;have k2:ja w w2 (fun i=>some i=pv.ownBlock):=((ja.refl w _).more _).draw.grow n (fun k e _=>e.symm)
  have q:∀ j u,(src.map j6)[j]?=some u->z.cell? (y.add j)=some u:=fun j u hu=>by
   rw[b];exact(ja.setCell w2 _ _).cell (k2.cell (F j u hu) (by rw[Jp];exact fun e=>W e.symm)) (by rw[Jp];exact ha)
  have V:z.ownsRow 0 5 1 (.slice G bytes.length H) bytes.length (bytes.map j6):=by
   rw[b];exact(ja.setCell w2 _ _).row (k2.row J (fun g hg e=>(m g hg).2 e.symm)) (fun g hg=>(m g hg).1)
  have l:z.heap[f]?=some (.cells #[.slice G bytes.length H,I,.slice p2 (late.length+1) cp2] 154 (0,0)):=by rw[b,jc E.out];rfl
  have T:some f≠(Value.slice G bytes.length H).ownBlock:=fun e=>(m f e.symm).1 rfl;rw[<-b];have b0:=zA (o:=0) l;have g0:=zB (o:=0) l;simp at b0;have HB:=jb l;have HW:=jb b;clear l b C X D Y
  go_wp2_with (first|(at_builtin;refine jk _ rfl (.tmp 28) (.tmp 29) 84 rfl 0 5 j0 (.int .u8 0) 1 1 underlying84 hj S R O rfl (by decide) _ bytes.length (bytes.map j6) rfl V y src.length c (src.map j6) rfl (by simp) q (Bf _) (by unfold maxLen;omega) (by omega) (zU _) ?_;intro p3 ai w3 r B t;have p:=(ja.grown B).same HB.out T;have Z:=zA (o:=0) p;have ah:=zB (o:=0) p;clear p;simp at Z)|go_in)
  go_end0;exact⟨rfl,jdz m A U J (((ja.refl w _).more _).draw) s n v E.out HW.out r B t⟩
def jh.new:jh:={ names:= .map [],safe:= .map [],late:=[],files:=fun _=>none,calls:=0,fail:= -1,cut:= -1,wrote:=0 }
def km(n:Nat)(i:Nat):jz:=if i=n then .names else if i=n+1 then .safe else if i=n+2 then .zw else .none
theorem jbt(w:World):Calls prog 16 #[] w fun e w'=>e = .returned (.pointer (some ⟨w.heap.size+2,0,none⟩)) /\
 w'=((w.alloc (.map #[] 0)).alloc (.map #[] 0)).alloc (.cells #[.map (some w.heap.size),.map (some (w.heap.size+1)),.slice none 0 0,.int .i64 0,.int .i64 (-1),.int .i64 (-1),.int .i64 0] 101 (0,0)):=by
 have b:=@run_makeMap prog;go_enter func16,ntmps16;go_wp2;go_ret;exact⟨rfl,rfl⟩
theorem jd6(w:World):Calls prog 16 #[] w fun e w'=>e = .returned (.pointer (some ⟨w.heap.size+2,0,none⟩)) /\
 Rep w' (km w.heap.size) (w.heap.size+2) jh.new/\ja w w' (fun _=>False):=by
 refine(jbt w).mono ?_;rintro e w' ⟨rfl,rfl⟩;have d:(w.alloc (.map #[] 0)).heap.size=w.heap.size+1:=by simp
 have b:((w.alloc (.map #[] 0)).alloc (.map #[] 0)).heap.size=w.heap.size+2:=by simp
 refine⟨rfl,⟨⟨w.heap.size,w.heap.size+1,.slice none 0 0,?_,?_,?_,?_,?_,zS _ _ _ _,fun g hg=>(by cases hg)⟩,?_,fun f a h=>(by cases h),fun k hk=>(by cases hk),fun k hk=>(by cases hk),fun c hc=>(by cases hc),?_,?_,?_⟩,((ja.refl w _).more _).more _ |>.more _⟩
 ·have:=je ((w.alloc (.map #[] 0)).alloc (.map #[] 0)) (.cells #[.map (some w.heap.size),.map (some (w.heap.size+1)),.slice none 0 0,.int .i64 0,.int .i64 (-1),.int .i64 (-1),.int .i64 0] 101 (0,0))
  rw[b] at this;exact this
 ·simp[km]
 ·simp[km]
 ·exact((World.ownsMap_made w _ _ _).alloc _).alloc _
 ·have:=World.ownsMap_made (H:=Nat) (w.alloc (.map #[] 0)) prog 9 zj
  rw[d] at this;exact this.alloc _
 ·simp[km]
 ·intro i hi
  unfold km at hi;simp
  split at hi
  ·omega
  ·split at hi
   ·omega
   ·split at hi
    ·omega
    ·exact absurd rfl hi
 ·simp[jh.new]
 ·simp[jh.new]
def Ja:ye:=⟨[],0,[]⟩
def jh.withFile(S:jh)(f:Nat)(a:ye):jh:={ S with files:=fun i=>if i=f then some a else S.files i }
theorem Small.withFile{S:jh}(h:Small S)(f:Nat){a:ye}(c:a.bytes.length<1099511627776/\a.late.length<1099511627776/\a.safe<1099511627776):Small (S.withFile f a):=by
 refine⟨h.names,h.safe,h.late,fun g b hb=>?_⟩;simp only[jh.withFile] at hb
 split at hb
 ·cases hb;exact c
 ·exact h.files g b hb
theorem Rep.jex{ρ:Nat->jz}{S:jh}(R:Rep w ρ d S) :
 Rep (w.alloc (.cells #[.slice none 0 0,.int .i64 0,.slice none 0 0] 154 (0,0))) (fun i=>if i=w.heap.size then .file else ρ i) d (S.withFile w.heap.size Ja)/\S.files w.heap.size=none /\
 xo w ρ (w.alloc (.cells #[.slice none 0 0,.int .i64 0,.slice none 0 0] 154 (0,0))) (fun i=>if i=w.heap.size then .file else ρ i):=by
 obtain⟨⟨nm,n,lv,A,q,rs,y,os,u,x⟩,t,s,z,v,lo,b,B,C⟩:=R
 have j:S.files w.heap.size=none:=by
  cases h:S.files w.heap.size with
  | none=>rfl
  | some a =>
   have:=b w.heap.size (by rw[(s _ a h).1];decide);omega
 have o:∀ i,i<w.heap.size->(if i=w.heap.size then jz.file else ρ i)=ρ i:=fun i hi=>if_neg (by omega);have l:=ja.alloc w (.cells #[.slice none 0 0,.int .i64 0,.slice none 0 0] 154 (0,0)) (fun _=>False)
 have p:∀ f a,S.files f=some a->∃ a',(S.withFile w.heap.size Ja).files f=some a':=by
  intro f a h;exact⟨a,by simp only[jh.withFile];rw[if_neg (fun e=>by rw[e,j] at h;cases h)];exact h⟩
 have k:∀ g,g<w.heap.size->∀ r,ρ g=r->(if g=w.heap.size then jz.file else ρ g)=r:=fun g hg r hr=>(o g hg).trans hr;refine⟨⟨⟨nm,n,lv,l.same A id,k nm (b nm (by rw[q];decide)) _ q,k n (b n (by rw[rs];decide)) _ rs,l.map y id,l.map os id,l.row u (fun _ _=>id),fun g hg=>k g (u.lt g hg).2 _ (x g hg)⟩,k d (b d (by rw[t];decide)) _ t,?_,z.mono p,v.mono p,fun c hc=>(lo c hc).mono p,?_,B,C⟩,j,⟨l.up,o⟩⟩
 ·intro f a m
  simp only[jh.withFile] at m
  split at m
  ·rename_i e
   cases m;subst e;exact⟨by simp,.slice none 0 0,.slice none 0 0,je w _,zS _ _ _ _,fun g hg=>(by cases hg),zS _ _ _ _,fun g hg=>(by cases hg)⟩
  ·exact(s f a m).keep l o id (fun _ _=>id) (fun _ _=>id)
 ·intro i hi
  simp;by_cases e:i=w.heap.size
  ·omega
  ·rw[if_neg e] at hi
   have:=b i hi;omega
theorem Th{ρ:Nat->jz}{S:jh}(nm:Str)(R:Rep w ρ d S)(Z:Small S)(m:nm.length<1099511627776) :
 Calls prog 161 #[.pointer (some ⟨d,0,none⟩),jd nm] w fun e w'=>∃ ρ',xo w ρ w' ρ' /\
  ((S.bad=true/\e = .returned (.int .i64 1)/\Rep w' ρ' d (S.called true)) \/
   (S.bad=false/\nm=[]/\e = .returned (.int .i64 2)/\Rep w' ρ' d (S.called true)) \/
   (S.bad=false/\nm≠[]/\e = .returned (.int .i64 0)/\∃ f,S.files f=none/\Rep w' ρ' d (((S.called true).withFile f Ja).named ⟨nm,[],[],some f⟩))):=by
 have g:nm.isEmpty=true\/nm.isEmpty=false:=by cases nm.isEmpty<;>simp
 have c:S.bad=true\/S.bad=false:=by cases S.bad<;>simp
 rcases c with c|c
 ·go_enter func161,ntmps161
  go_wp2_with (go_at_call 102;refine(zh true R).mono ?_;rintro e k ⟨rfl,i,j⟩)
  go_ret;exact⟨ρ,j,.inl ⟨c,rfl,i⟩⟩
 ·rcases g with g|g
  ·go_enter func161,ntmps161
   go_wp2_with (go_at_call 102;refine(zh true R).mono ?_;rintro e k ⟨rfl,i,j⟩)
   go_ret;exact⟨ρ,j,.inr (.inl ⟨c,by simpa using g,rfl,i⟩)⟩
  ·go_enter func161,ntmps161
   go_wp2_with (first
    | (go_at_call 102;refine(zh true R).mono ?_;rintro e k ⟨rfl,i,j⟩)
    | (go_at_call 194;obtain⟨o,b,q⟩:=i.jex;refine(Fx nm [] [] (some k.heap.size) o ((Z.called true).withFile _ (by simp[Ja])) ⟨m,by simp,by simp,fun _=>⟨_,Ja,rfl,by simp[jh.withFile]⟩⟩).mono ?_;rintro e w2 ⟨rfl,l,n,p⟩))
   go_ret;exact⟨l,(j.trans q).trans p,.inr (.inr ⟨c,by simpa using g,rfl,_,b,n⟩)⟩
theorem xd(w:World){c:Array Oper}{rest:List Oper}{o:Oper}{a:Act}{Q:Exit->Act->World->Prop}(r:o.guard=none)(m x:Operand)(i:o.op=Op.lookup 98 m x false)(b n:Nat)(D:DataW Nat)(q:a.eval m = .map (some b))(f:w.ownsMap prog 9 zj b n D)(key:Value)(j:Lit)(k:a.eval x=key)(g:keyOf prog 9 key=some j)(u:Value)(p:fo (fileOf (D.atKey j .nil))=u)(s:wpList prog c Q rest (a.put o.dst u) w) :
 wpList prog c Q (o::rest) a w:=by
 refine wpList_plain r fun K' hK'=>?_;obtain⟨v,ps,d,l⟩:=f.lookup law underlying98 (Uy w) (zd:= .nil) (zp:=[]) rfl g;obtain⟨e,_⟩:=Ab l;have t:v=u:=e.trans p;subst t;unfold Oper.wp;simp[execOp,i,q,k,d,Result.andThen];exact hK' _ _ s
def jh.at(S:jh)(nm:Str):Option Nat:=fileOf (S.names.atKey (.string nm) .nil)
theorem Rep.at{ρ:Nat->jz}{S:jh}(R:Rep w ρ d S){nm:Str}(h:S.at nm=some f):∃ a,S.files f=some a:=by
 have b:Maps.has S.names (.string nm)=true:=by
  cases e:Maps.has S.names (.string nm)
  ·unfold jh.at at h;rw[atKey_of_not_has e] at h;cases h
  ·rfl
 obtain⟨i,a,g,c⟩:=R.vz _ b;unfold jh.at at h;rw[g] at h;cases h;exact⟨a,c⟩
theorem Rep.T8{ρ m:Nat->jz}{S:jh}{a a':ye}{T:Nat->Prop}(R:Rep w ρ d S)(L:S.files f=some a)(o:ja w w' T)(s:∀ i,i<w.heap.size->T i->i=f\/ρ i = .bytes f\/ρ i = .pieces f)(A:∀ i,i<w.heap.size->m i=ρ i)(u:∀ i,m i≠ .none->i<w'.heap.size)(C:Hf w' m f a') :
 Rep w' m d (S.withFile f a')/\xo w ρ w' m:=by
 obtain⟨⟨nm,z,lv,M,p,rs,G,os,E,v⟩,q,D,H,F,lo,j,V,W⟩:=R;have k:=(D f a L).1
 have x:∀ i,i<w.heap.size->ρ i≠ .file->ρ i≠ .bytes f->ρ i≠ .pieces f->¬T i:=by
  intro i hi U O N n;rcases s i hi n with e|e|e
  ·exact U (e▸k)
  ·exact O e
  ·exact N e
 have B:∀ g b,S.files g=some b->∃ b',(S.withFile f a').files g=some b':=by
  intro g b h;by_cases e:g=f
  ·exact⟨a',by simp[jh.withFile,e]⟩
  ·exact⟨b,by simp[jh.withFile,e,h]⟩
 have n:∀ i r,ρ i=r->r≠ .none->m i=r:=fun i r h hr=>(A i (j i (by rw[h];exact hr))).trans h;have J:=j d (by rw[q];decide);have I:=j nm (by rw[p];decide);have ls:=j z (by rw[rs];decide)
 refine⟨⟨⟨nm,z,lv,o.same M (x d J (by rw[q];decide) (by rw[q];exact fun h=>by cases h) (by rw[q];exact fun h=>by cases h)),n _ _ p (by decide),n _ _ rs (by decide),
  o.map G (x nm I (by rw[p];decide) (by rw[p];exact fun h=>by cases h) (by rw[p];exact fun h=>by cases h)),o.map os (x z ls (by rw[rs];decide) (by rw[rs];exact fun h=>by cases h) (by rw[rs];exact fun h=>by cases h)),
  o.row E (fun g hg=>x g (E.lt g hg).2 (by rw[v g hg];decide) (by rw[v g hg];exact fun h=>by cases h) (by rw[v g hg];exact fun h=>by cases h)),fun g hg=>n _ _ (v g hg) (by decide)⟩,
  n _ _ q (by decide),?_,H.mono B,F.mono B,fun c hc=>(lo c hc).mono B,u,V,W⟩,⟨o.mono (fun i hi h=>?_),A⟩⟩
 ·intro g b y
  simp only[jh.withFile] at y
  split at y
  ·rename_i e
   cases y;subst e;exact C
  ·rename_i e
   have t:=D g b y;have l:=t.1;refine t.keep o A ?_ ?_ ?_
   ·intro h
    rcases s g (j g (by rw[l];decide)) h with e1|e1|e1
    ·exact e e1
    ·rw[l] at e1;cases e1
    ·rw[l] at e1;cases e1
   ·intro i hi h
    rcases s i (j i (by rw[hi];exact fun h=>by cases h)) h with e1|e1|e1
    ·rw[e1,k] at hi;cases hi
    ·rw[hi] at e1;cases e1;exact e rfl
    ·rw[hi] at e1;cases e1
   ·intro i hi h
    rcases s i (j i (by rw[hi];exact fun h=>by cases h)) h with e1|e1|e1
    ·rw[e1,k] at hi;cases hi
    ·rw[hi] at e1;cases e1
    ·rw[hi] at e1;cases e1;exact e rfl
 ·rcases s i hi h with e|e|e
  ·rw[e,k];decide
  ·rw[e];exact fun h=>by cases h
  ·rw[e];exact fun h=>by cases h
def ye.synced(a:ye):ye:={ a with safe:=a.bytes.length,late:=[] }
theorem jak{ρ:Nat->jz}{S:jh}(nm:Str)(R:Rep w ρ d S)(G:nm.length<1099511627776) :
 Calls prog 193 #[.pointer (some ⟨d,0,none⟩),jd nm] w fun e w'=>∃ ρ',xo w ρ w' ρ' /\
  ((S.bad=true/\e = .returned (.int .i64 1)/\Rep w' ρ' d (S.called true)) \/
   (S.bad=false/\S.at nm=none/\e = .returned (.int .i64 2)/\Rep w' ρ' d (S.called true)) \/
   (S.bad=false/\e = .returned (.int .i64 0)/\∃ f a,S.at nm=some f/\S.files f=some a/\Rep w' ρ' d ((S.called true).withFile f a.synced))):=by
 have c:=Y9 G;have k:S.bad=true\/S.bad=false:=by cases S.bad<;>simp
 rcases k with k|k
 ·go_enter func193,ntmps193
  go_wp2_with (go_at_call 102;refine(zh true R).mono ?_;rintro e m ⟨rfl,b,q⟩)
  go_ret;exact⟨ρ,q,.inl ⟨k,rfl,b⟩⟩
 ·have y:S.at nm=none\/∃ f,S.at nm=some f:=by cases S.at nm<;>simp
  rcases y with l|⟨f,l⟩
  ·have p:=jb l
   clear l;go_enter func193,ntmps193
   go_wp2_with (first
    | (go_at_call 102;refine(zh true R).mono ?_;rintro e m ⟨rfl,b,q⟩;obtain⟨s,D,lv,n,E,rs,r,_⟩:=b.mem;have u:=zA (o:=0) n;simp at u;clear n)
    | (at_lookup;refine xd _ rfl _ _ rfl s _ _ rfl r _ _ rfl c (.pointer none) (congrArg fo p.out) ?_)
    | go_in)
   go_ret;exact⟨ρ,q,.inr (.inl ⟨k,p.out,rfl,b⟩)⟩
  ·obtain⟨a,C⟩:=R.at l
   have p:=jb l;have v:=jb C;clear l C;go_enter func193,ntmps193
   go_wp2_with (first
    | (go_at_call 102;refine(zh true R).mono ?_;rintro e m ⟨rfl,b,q⟩;obtain⟨s,D,lv,n,E,rs,r,_⟩:=b.mem;have u:=zA (o:=0) n;simp at u;clear n;obtain⟨z,bv,pv,j,B,A,U,T⟩:=b.files f a v.out;obtain⟨F,H,rfl⟩:=jj B;have L:=zA (o:=0) j;have J:=zA (o:=1) j;have I:=zA (o:=2) j;have W:=zB (o:=1) j;have V:=zB (o:=2) j;simp at L J I;have N:=jb j;clear j)
    | (at_lookup;refine xd _ rfl _ _ rfl s _ _ rfl r _ _ rfl c (.pointer (some ⟨f,0,none⟩)) (congrArg fo p.out) ?_)
    | go_in)
   go_ret;have t:ja m ((m.setCell ⟨f,1,none⟩ (.int .i64 a.bytes.length)).setCell ⟨f,2,none⟩ (.slice none 0 0)) (fun i=>i=f):=((ja.refl m _).set (by exact rfl) _).set (by exact rfl) _;have x:∀ g,(Value.slice F a.bytes.length H).ownBlock=some g->¬g=f:=fun g hg e=>by have:=A g hg;rw[e,z] at this;cases this
   obtain⟨M,O⟩:=b.T8 (a':=a.synced) v.out t (fun i _ h=> .inl h) (fun _ _=>rfl) (fun i hi=>zT (b.lt i hi) t.size)
    ⟨z,_,_,by rw[jc (jc N.out _)];rfl,t.row B x,A,zS _ _ _ _,fun g hg=>(by cases hg)⟩
   exact⟨ρ,q.trans O,.inr (.inr ⟨k,rfl,f,a,p.out,v.out,M⟩)⟩
theorem Rw{ρ:Nat->jz}{S:jh}(sr g:Str)(R:Rep w ρ d S)(Z:Small S)(x:sr.length<1099511627776)(A:g.length<1099511627776) :
 Calls prog 196 #[.pointer (some ⟨d,0,none⟩),jd sr,jd g] w fun e w'=>∃ ρ',xo w ρ w' ρ' /\
  ((S.bad=true/\e = .returned (.int .i64 1)/\Rep w' ρ' d (S.called true)) \/
   (S.bad=false/\(S.at sr=none\/g=[])/\e = .returned (.int .i64 2)/\Rep w' ρ' d (S.called true)) \/
   (S.bad=false/\g≠[]/\e = .returned (.int .i64 0)/\∃ f,S.at sr=some f/\Rep w' ρ' d ((S.called true).named ⟨[],sr,g,some f⟩))):=by
 have b:=Y9 x;have j:S.bad=true\/S.bad=false:=by cases S.bad<;>simp
 rcases j with j|j
 ·go_enter func196,ntmps196
  go_wp2_with (go_at_call 102;refine(zh true R).mono ?_;rintro e s ⟨rfl,c,k⟩)
  go_ret;exact⟨ρ,k,.inl ⟨j,rfl,c⟩⟩
 ·have t:S.at sr=none\/∃ f,S.at sr=some f:=by cases S.at sr<;>simp
  have l:g.isEmpty=true\/g.isEmpty=false:=by cases g.isEmpty<;>simp
  rcases t with m|⟨f,m⟩
  ·have n:=jb m
   clear m l;go_enter func196,ntmps196
   go_wp2_with (first
    | (go_at_call 102;refine(zh true R).mono ?_;rintro e s ⟨rfl,c,k⟩;obtain⟨q,u,lv,i,v,rs,p,_⟩:=c.mem;have r:=zA (o:=0) i;simp at r;clear i)
    | (at_lookup;refine xd _ rfl _ _ rfl q _ _ rfl p _ _ rfl b (.pointer none) (congrArg fo n.out) ?_)
    | go_in)
   go_ret;exact⟨ρ,k,.inr (.inl ⟨j,.inl n.out,rfl,c⟩)⟩
  ·obtain⟨a,y⟩:=R.at m
   have n:=jb m;have C:=jb y;clear m y;rcases l with l|l
   ·go_enter func196,ntmps196
    go_wp2_with (first
     | (go_at_call 102;refine(zh true R).mono ?_;rintro e s ⟨rfl,c,k⟩;obtain⟨q,u,lv,i,v,rs,p,_⟩:=c.mem;have r:=zA (o:=0) i;simp at r;clear i)
     | (at_lookup;refine xd _ rfl _ _ rfl q _ _ rfl p _ _ rfl b (.pointer (some ⟨f,0,none⟩)) (congrArg fo n.out) ?_)
     | go_in)
    go_ret;exact⟨ρ,k,.inr (.inl ⟨j,.inr (by simpa using l),rfl,c⟩)⟩
   ·go_enter func196,ntmps196
    go_wp2_with (first
     | (go_at_call 102;refine(zh true R).mono ?_;rintro e s ⟨rfl,c,k⟩;obtain⟨q,u,lv,i,v,rs,p,_⟩:=c.mem;have r:=zA (o:=0) i;simp at r;clear i)
     | (at_lookup;refine xd _ rfl _ _ rfl q _ _ rfl p _ _ rfl b (.pointer (some ⟨f,0,none⟩)) (congrArg fo n.out) ?_)
     | (go_at_call 194;refine(Fx [] sr g (some f) c (Z.called true) ⟨by simp,x,A,fun _=>⟨f,a,rfl,C.out⟩⟩).mono ?_;rintro e w2 ⟨rfl,z,B,D⟩)
     | go_in)
    go_ret;exact⟨z,k.trans D,.inr (.inr ⟨j,by simpa using l,rfl,f,n.out,B⟩)⟩
theorem Rx{ρ:Nat->jz}{S:jh}(nm:Str)(R:Rep w ρ d S)(Z:Small S)(s:nm.length<1099511627776) :
 Calls prog 168 #[.pointer (some ⟨d,0,none⟩),jd nm] w fun e w'=>∃ ρ',xo w ρ w' ρ' /\
  ((S.bad=true/\e = .returned (.int .i64 1)/\Rep w' ρ' d (S.called true)) \/
   (S.bad=false/\S.at nm=none/\e = .returned (.int .i64 2)/\Rep w' ρ' d (S.called true)) \/
   (S.bad=false/\e = .returned (.int .i64 0)/\∃ f,S.at nm=some f/\Rep w' ρ' d ((S.called true).named ⟨[],nm,[],none⟩))):=by
 have b:=Y9 s;have g:S.bad=true\/S.bad=false:=by cases S.bad<;>simp
 rcases g with g|g
 ·go_enter func168,ntmps168
  go_wp2_with (go_at_call 102;refine(zh true R).mono ?_;rintro e r ⟨rfl,c,l⟩)
  go_ret;exact⟨ρ,l,.inl ⟨g,rfl,c⟩⟩
 ·have q:S.at nm=none\/∃ f,S.at nm=some f:=by cases S.at nm<;>simp
  rcases q with j|⟨f,j⟩
  ·have k:=jb j
   clear j;go_enter func168,ntmps168
   go_wp2_with (first
    | (go_at_call 102;refine(zh true R).mono ?_;rintro e r ⟨rfl,c,l⟩;obtain⟨n,u,lv,i,v,rs,m,_⟩:=c.mem;have p:=zA (o:=0) i;simp at p;clear i)
    | (at_lookup;refine xd _ rfl _ _ rfl n _ _ rfl m _ _ rfl b (.pointer none) (congrArg fo k.out) ?_)
    | go_in)
   go_ret;exact⟨ρ,l,.inr (.inl ⟨g,k.out,rfl,c⟩)⟩
  ·have k:=jb j
   clear j;go_enter func168,ntmps168
   go_wp2_with (first
    | (go_at_call 102;refine(zh true R).mono ?_;rintro e r ⟨rfl,c,l⟩;obtain⟨n,u,lv,i,v,rs,m,_⟩:=c.mem;have p:=zA (o:=0) i;simp at p;clear i)
    | (at_lookup;refine xd _ rfl _ _ rfl n _ _ rfl m _ _ rfl b (.pointer (some ⟨f,0,none⟩)) (congrArg fo k.out) ?_)
    | (go_at_call 194;refine(Fx [] nm [] none c (Z.called true) ⟨by simp,s,by simp,fun h=>(by simp at h)⟩).mono ?_;rintro e w2 ⟨rfl,t,x,y⟩)
    | go_in)
   go_ret;exact⟨t,l.trans y,.inr (.inr ⟨g,rfl,f,k.out,x⟩)⟩
end Go.Proofs.YtnipbplghijdmaaGreatDoor
