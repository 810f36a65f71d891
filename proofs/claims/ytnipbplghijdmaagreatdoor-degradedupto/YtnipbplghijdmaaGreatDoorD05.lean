/-
  D: Name NameRep Put Ops1 Fail Cut Ops2.
-/
import Derived.Deep.CutRange
import Derived.Test.YtnipbplghijdmaaGreatDoorD04
set_option maxRecDepth 100000
set_option maxHeartbeats 8000000
set_option linter.unusedVariables false
set_option linter.unusedSimpArgs false
namespace Go.Proofs.YtnipbplghijdmaaGreatDoor
open RowKit Maps WideShapes Go.Proofs.Tryz
variable {cp2 d f:Nat} {w w' w2 wa:World} {p2:Option Addr} {D:DataW Nat}
theorem jdq{nm n:Nat}{z:DataW Nat}{late:List y9}{c:y9}{x lv v u t s:Value}(q:nm≠d)(l:∀ g,lv.ownBlock=some g->g≠d/\g≠nm)(C:d<w.heap.size)(B:nm<w.heap.size)(j:w'.ownsMap prog 9 yi nm (n+1) z)(y:ja w w' (fun i=>i=d\/i=nm\/some i=lv.ownBlock))(o:ja w' wa (fun _=>False))(f:w2.ownsRow 0 148 4 (.slice p2 (late.length+1) cp2) (late.length+1) (xe late++xe [c]))(m:wa.grownBy w2 lv.ownBlock)(b:(Value.slice p2 (late.length+1) cp2).ownBlock=lv.ownBlock\/(Value.slice p2 (late.length+1) cp2).ownBlock=some wa.heap.size)(r:w2.heap[d]?=some (.cells #[.map (some nm),x,lv,v,u,t,s] 101 (0,0))) :
 ∃ lv',(w2.setCell ⟨d,2,none⟩ (.slice p2 (late.length+1) cp2)).heap[d]?=some (.cells #[.map (some nm),x,lv',v,u,t,s] 101 (0,0)) /\
  (w2.setCell ⟨d,2,none⟩ (.slice p2 (late.length+1) cp2)).ownsMap prog 9 yi nm (n+1) z /\
  (w2.setCell ⟨d,2,none⟩ (.slice p2 (late.length+1) cp2)).ownsRow 0 148 4 lv' (late.length+1) (xe (late++[c])) /\
  (lv'.ownBlock=lv.ownBlock\/∃ g,lv'.ownBlock=some g/\w.heap.size<=g) /\
  ja w (w2.setCell ⟨d,2,none⟩ (.slice p2 (late.length+1) cp2)) (fun i=>i=d\/i=nm\/some i=lv.ownBlock):=by
 have A:w.heap.size<=wa.heap.size:=ZI y.size o.size;refine⟨.slice p2 (late.length+1) cp2,?_,?_,?_,?_,?_⟩
 ·rw[jd r];rfl
 ·refine World.ownsMap.setCell ?_ q _
  refine(ja.grown m).map (o.map j id) (fun e=>(l nm e.symm).2 rfl)
 ·rw[Cb]
  refine(ja.setCell w2 _ _).row f (fun g hg e=>?_);rcases b with p|p
  ·exact(l g (p▸hg)).1 e
  ·have E:g=wa.heap.size:=Option.some.inj (hg.symm.trans p)
   have D:g=d:=e;omega
 ·rcases b with e|e
  ·exact .inl e
  ·exact .inr ⟨_,e,A⟩
 ·exact((y.trans o (fun _ _ h=>h.elim)).grow m (fun k e _=> .inr (.inr e.symm))).set (.inl rfl) _
theorem jbh(d nm n:Nat)(D:DataW Nat)(late:List y9)(m sr ds:Str)(f:Option Nat)(C lv B A z y:Value)(w:World)(h:w.heap[d]?=some (.cells #[.map (some nm),C,lv,B,A,z,y] 101 (0,0)))(k:w.ownsMap prog 9 yi nm n D)(T:n<1099511627776)(U:m.length<1099511627776)(W:sr.length<1099511627776)(S:ds.length<1099511627776)(M:w.ownsRow 0 148 4 lv late.length (xe late))(a4:late.length<1099511627776)(u:nm≠d)(p:∀ g,lv.ownBlock=some g->g≠d/\g≠nm) :
 Calls prog 194 #[.pointer (some ⟨d,0,none⟩),.agg #[jf m,jf sr,jf ds,fy f]] w fun e w'=>e = .returned (.tuple #[]) /\
  ∃ lv',w'.heap[d]?=some (.cells #[.map (some nm),C,lv',B,A,z,y] 101 (0,0)) /\
   w'.ownsMap prog 9 yi nm (n+1) (doA D ⟨m,sr,ds,f⟩) /\
   w'.ownsRow 0 148 4 lv' (late.length+1) (xe (late++[⟨m,sr,ds,f⟩])) /\
   (lv'.ownBlock=lv.ownBlock\/∃ g,lv'.ownBlock=some g/\w.heap.size<=g)/\ja w w' (fun i=>i=d\/i=nm\/some i=lv.ownBlock):=by
 have N:=zA (o:=0) h;simp at N;have I:=zC h;have t:=k.lt;go_enter func194,ntmps194;go_wp2_with fail
 go_region_with (go_at_call 81;refine(Vy nm n D m sr ds f _ ?_ T U W S).mono ?_;exact k.alloc _;rintro e w' ⟨rfl,r,b⟩)
 all_goals
  have j:w'.heap[d]?=some (.cells #[.map (some nm),C,lv,B,A,z,y] 101 (0,0)):=b.same (((ja.refl w (fun _=>False)).more _).same h id) u.symm;have c:w'.heap[w.heap.size]?=some (.cells #[jf m,jf sr,jf ds,fy f] 148 (0,0)):=b.same (je w _) (Nat.ne_of_gt t);have H:w'.ownsRow 0 148 4 lv late.length (xe late):=b.row (M.alloc _) (fun g hg=>(p g hg).2);have a3:w.heap.size+1<=w'.heap.size:=by have:=b.size;simp at this;omega
  have O:ja w w' (fun i=>i=d\/i=nm\/some i=lv.ownBlock):=ja.trans ((ja.refl w _).more _).draw b (fun i _ e=> .inr (.inl e));clear h N k M b;have d2:=zA (o:=2) j;have f2:=zB (o:=2) j;have e0:=zA (o:=0) c;have Z:=zA (o:=1) c;have Y:=zA (o:=2) c;have X:=zA (o:=3) c;have a6:∀ x,(w'.alloc x).cell? ⟨d,2,none⟩=some lv:=fun x=>(Jf (o:=2) j x);simp at d2 e0 Z Y X;have HD:=jb j;have HC:=jb c;clear j c;obtain⟨R,V,G,F,E⟩:=info_parts Tryz.Vn;go_wp2_with fail
  go_region_law (refine ye rfl (.tmp 14) (.tmp 16) 99 rfl 0 148 R jas 4 56 underlying99 V G F E rfl (by decide) lv late.length (xe late) rfl (H.alloc _) ⟨w'.heap.size,0,none⟩ 1 1 (xe [⟨m,sr,ds,f⟩]) rfl rfl (J8 (je w' _) rfl) (V7 _) (by unfold maxLen;omega) (by omega) (zG _) ?_;intro p2 cp2 w2 q v s;have l:=(ja.grown v).same (((ja.refl w' (fun _=>False)).draw.more _).same HD.out id) (fun e=>(p d e.symm).1 rfl);have J:=zA (o:=2) l;have a5:=zB (o:=2) l;have L:=jb l;clear l;simp at J)
  all_goals
   go_end0;exact⟨rfl,jdq u p I t r O (((ja.refl w' _).more _).draw) q v s L.out⟩
theorem Bz{fs:Nat->Option jz}{a:jz}(d:IsMap D)(h:bm D fs)(c:fs f=some a)(s:Str):bm (D.put (.string s) (.held f)) fs:=by
 intro k b;by_cases e:k = .string s
 ·subst e
  exact⟨f,a,atKey_put_same (k:= .string s) d (by trivial) _ _,c⟩
 ·rw[has_put_other e] at b
  obtain⟨j,a',i,g⟩:=h k b;exact⟨j,a',by rw[atKey_put_other e];exact i,g⟩
theorem Mi{fs:Nat->Option jz}(h:bm D fs)(s:Str):bm (D.del (.string s)) fs:=by
 intro k b;by_cases e:k = .string s
 ·subst e
  rw[has_del_same] at b;cases b
 ·rw[has_del_other e] at b
  obtain⟨f,a',d,c⟩:=h k b;exact⟨f,a',by rw[atKey_del_other e];exact d,c⟩
theorem Sc{fs:Nat->Option jz}{c:y9}(d:IsMap D)(h:bm D fs)(i:Wn fs c):bm (doA D c) fs:=by
 obtain⟨_,_,_,g⟩:=i;unfold doA
 split
 ·rename_i hm
  obtain⟨f,a,e,b⟩:=g (.inl (by intro e;rw[e] at hm;cases hm));rw[e];exact Bz d h b _
 ·split
  ·rename_i hm
   obtain⟨f,a,e,b⟩:=g (.inr (by intro e;rw[e] at hm;cases hm));rw[e]
   split
   ·exact Mi (Bz d h b _) _
   ·exact Bz d h b _
  ·exact Mi h _
def jc.named(S:jc)(c:y9):jc:={ S with names:=doA S.names c,late:=S.late++[c] }
theorem Hi{ρ:Nat->j3}{S:jc}(v sr ds:Str)(f:Option Nat)(R:Rep w ρ d S)(Z:Small S)(s:Wn S.files ⟨v,sr,ds,f⟩) :
 Calls prog 194 #[.pointer (some ⟨d,0,none⟩),.agg #[jf v,jf sr,jf ds,fy f]] w fun e w'=>e = .returned (.tuple #[])/\∃ ρ',Rep w' ρ' d (S.named ⟨v,sr,ds,f⟩)/\x7 w ρ w' ρ':=by
 obtain⟨⟨nm,u,lv,T,n,rs,I,os,N,q⟩,p,M,O,L,lo,k,X,Y⟩:=R;have C:nm≠d:=fun e=>by rw[e,p] at n;cases n
 have D:∀ g,lv.ownBlock=some g->g≠d/\g≠nm:=fun g r=>by
  have y:=q g r;exact⟨fun e=>(by rw[e,p] at y;cases y),fun e=>(by rw[e,n] at y;cases y)⟩
 refine(jbh d nm (Maps.size S.names) S.names S.late v sr ds f _ lv _ _ _ _ w T I Z.names s.1 s.2.1 s.2.2.1 N Z.late C D).mono ?_;rintro e w' ⟨rfl,j,F,B,t,m,z⟩
 have A:∀ i,ρ i≠ .xi->ρ i≠ .names->ρ i≠ .late->¬(i=d\/i=nm\/some i=lv.ownBlock):=by
  rintro i W V U (e|e|e)
  ·exact W (e▸p)
  ·exact V (e▸n)
  ·exact U (q i e.symm)
 have H:∀ i,i<w.heap.size->(i=d\/i=nm\/some i=lv.ownBlock)->ρ i≠ .none:=by
  rintro i _ (e|e|e)
  ·rw[e,p];decide
  ·rw[e,n];decide
  ·rw[q i e.symm];decide
 refine⟨rfl,fun i=>if some i=j.ownBlock then .late else ρ i,?_,⟨z.mono H,fun i b=>?_⟩⟩
 ·have x:∀ i,i<w.heap.size->(if some i=j.ownBlock then j3.late else ρ i)=ρ i:=by
   intro i b
   split
   ·rename_i e
    rcases m with o|⟨g,o,r⟩
    ·rw[o] at e;exact(q i e.symm).symm
    ·rw[o] at e;have:=Option.some.inj e;omega
   ·rfl
  refine⟨⟨nm,u,j,F,?_,?_,tight B,z.map os (A u (by rw[rs];decide) (by rw[rs];decide) (by rw[rs];decide)),?_,?_⟩,?_,?_,?_,?_,?_,?_,X,Y⟩
  ·exact(x nm (k nm (by rw[n];decide))).trans n
  ·exact(x u (k u (by rw[rs];decide))).trans rs
  ·simpa [jc.named] using t
  ·intro g r;simp[r]
  ·exact(x d (k d (by rw[p];decide))).trans p
  ·intro J a E
   have l:=M J a E;exact l.keep z x (A J (by rw[l.1];decide) (by rw[l.1];decide) (by rw[l.1];decide)) (fun i b=>A i (by rw[b];exact fun h=>by cases h) (by rw[b];exact fun h=>by cases h) (by rw[b];exact fun h=>by cases h)) (fun i b=>A i (by rw[b];exact fun h=>by cases h) (by rw[b];exact fun h=>by cases h) (by rw[b];exact fun h=>by cases h))
  ·exact Sc I.isMap O s
  ·exact L
  ·intro c G
   rcases ZA.1 G with h|h
   ·exact lo c h
   ·rw[zZ.1 h];exact s
  ·intro i b
   by_cases e:some i=j.ownBlock
   ·exact(t.lt i e.symm).2
   ·rw[if_neg e] at b;exact ZH (k i b) z.size
 ·split
  ·rename_i e
   rcases m with o|⟨g,o,r⟩
   ·rw[o] at e;exact(q i e.symm).symm
   ·rw[o] at e;have:=Option.some.inj e;omega
  ·rfl
theorem Ma(c:Nat×Nat):∀ u∈qz [c],u.oneCell'=true:=by
 intro u b;simp[qz] at b;rcases b with rfl|rfl<;>rfl
theorem dt(l:List UInt8):∀ u∈l.map j5,u.oneCell'=true:=by
 intro u b;simp at b;obtain⟨x,_,rfl⟩:=b;rfl
theorem jfj{bytes src:List UInt8}{late:List (Nat×Nat)}{F pv:Value}{v q:World}{m r:Option Addr}{n d:Nat}(t:∀ g,(Value.slice m bytes.length n).ownBlock=some g->g≠f/\pv.ownBlock≠some g)(B:∀ g,pv.ownBlock=some g->g≠f)(S:f<w.heap.size)(M:w.ownsRow 0 5 1 (.slice m bytes.length n) bytes.length (bytes.map j5))(I:ja w wa (fun _=>False))(p:w2.ownsRow 0 192 2 (.slice p2 (late.length+1) cp2) (late.length+1) (qz late++qz [(bytes.length,src.length)]))(C:wa.grownBy w2 pv.ownBlock)(b:(Value.slice p2 (late.length+1) cp2).ownBlock=pv.ownBlock\/(Value.slice p2 (late.length+1) cp2).ownBlock=some wa.heap.size)(H:w2.heap[f]?=some (.cells #[.slice m bytes.length n,F,pv] 154 (0,0)))(s:v=w2.setCell ⟨f,2,none⟩ (.slice p2 (late.length+1) cp2))(y:q.ownsRow 0 5 1 (.slice r (bytes.length+src.length) d) (bytes.length+src.length) (bytes.map j5++src.map j5))(x:v.grownBy q (Value.slice m bytes.length n).ownBlock)(l:(Value.slice r (bytes.length+src.length) d).ownBlock=(Value.slice m bytes.length n).ownBlock\/(Value.slice r (bytes.length+src.length) d).ownBlock=some v.heap.size) :
 ∃ bv' pv',(q.setCell ⟨f,0,none⟩ (.slice r (bytes.length+src.length) d)).heap[f]?=some (.cells #[bv',F,pv'] 154 (0,0)) /\
  (q.setCell ⟨f,0,none⟩ (.slice r (bytes.length+src.length) d)).ownsRow 0 5 1 bv' (bytes++src).length ((bytes++src).map j5) /\
  (q.setCell ⟨f,0,none⟩ (.slice r (bytes.length+src.length) d)).ownsRow 0 192 2 pv' (late++[(bytes.length,src.length)]).length (qz (late++[(bytes.length,src.length)])) /\
  (bv'.ownBlock=(Value.slice m bytes.length n).ownBlock\/∃ g,bv'.ownBlock=some g/\w.heap.size<=g)/\(pv'.ownBlock=pv.ownBlock\/∃ g,pv'.ownBlock=some g/\w.heap.size<=g) /\
  (∀ g,bv'.ownBlock=some g->pv'.ownBlock≠some g) /\
  ja w (q.setCell ⟨f,0,none⟩ (.slice r (bytes.length+src.length) d)) (fun i=>i=f\/some i=(Value.slice m bytes.length n).ownBlock\/some i=pv.ownBlock):=by
 have R:w.heap.size<=wa.heap.size:=I.size;have O:wa.heap.size<=w2.heap.size:=C.size;have N:v.heap.size=w2.heap.size:=by rw[s];simp[World.setCell]
 have G:q.heap[f]?=some (.cells #[.slice m bytes.length n,F,.slice p2 (late.length+1) cp2] 154 (0,0)):=by
  refine(ja.grown x).same ?_ (fun e=>(t f e.symm).1 rfl);rw[s,jd H];rfl
 have E:∀ g,(Value.slice p2 (late.length+1) cp2).ownBlock=some g->g<w2.heap.size:=fun g j=>(p.lt g j).2;have D:∀ g,(Value.slice m bytes.length n).ownBlock=some g->g<w.heap.size:=fun g j=>(M.lt g j).2
 have u:∀ g,(Value.slice r (bytes.length+src.length) d).ownBlock=some g->(Value.slice p2 (late.length+1) cp2).ownBlock≠some g:=by
  intro g j e;rcases l with z|z
  ·have o:=z▸j
   have:=D g o;rcases b with c|c
   ·exact(t g o).2 (c▸e)
   ·have:=Option.some.inj (e.symm.trans c);omega
  ·have U:=Option.some.inj (j.symm.trans z)
   have T:=E g e;omega
 refine⟨.slice r (bytes.length+src.length) d,.slice p2 (late.length+1) cp2,?_,?_,?_,?_,?_,u,?_⟩
 ·rw[jd G];rfl
 ·rw[zW,xP]
  refine(ja.setCell q _ _).row y (fun g j e=>?_);have A:g=f:=e;rcases l with c|c
  ·exact(t g (c▸j)).1 A
  ·have z:g=v.heap.size:=Option.some.inj (j.symm.trans c)
   omega
 ·rw[oi,zW]
  have J:v.ownsRow 0 192 2 (.slice p2 (late.length+1) cp2) (late.length+1) (qz late++qz [(bytes.length,src.length)]):=by
   rw[s];refine(ja.setCell w2 _ _).row p (fun g j e=>?_);have A:g=f:=e;rcases b with c|c
   ·exact B g (c▸j) A
   ·have z:g=wa.heap.size:=Option.some.inj (j.symm.trans c)
    omega
  refine(ja.setCell q _ _).row ((ja.grown x).row J (fun g j e=>?_)) (fun g j e=>?_)
  ·have o:=e.symm
   have:=D g o;rcases b with c|c
   ·exact(t g o).2 (c▸j)
   ·have:=Option.some.inj (j.symm.trans c);omega
  ·have A:g=f:=e
   rcases b with c|c
   ·exact B g (c▸j) A
   ·have z:g=wa.heap.size:=Option.some.inj (j.symm.trans c)
    omega
 ·rcases l with e|e
  ·exact .inl e
  ·exact .inr ⟨_,e,by omega⟩
 ·rcases b with e|e
  ·exact .inl e
  ·exact .inr ⟨_,e,by omega⟩
 ·have L:ja w w2 (fun i=>i=f\/some i=(Value.slice m bytes.length n).ownBlock\/some i=pv.ownBlock):=(I.up).grow C (fun k e _=> .inr (.inr e.symm))
  have kb:ja w v (fun i=>i=f\/some i=(Value.slice m bytes.length n).ownBlock\/some i=pv.ownBlock):=by rw[s];exact L.set (.inl rfl) _
  exact(kb.grow x (fun k e _=> .inr (.inl e.symm))).set (.inl rfl) _
theorem jc8(f:Nat)(bytes src:List UInt8)(late:List (Nat×Nat))(J A pv:Value)(y:Addr)(c:Nat)(w:World)(h:w.heap[f]?=some (.cells #[A,J,pv] 154 (0,0)))(L:w.ownsRow 0 5 1 A bytes.length (bytes.map j5))(hp:w.ownsRow 0 192 2 pv late.length (qz late))(ai:bytes.length<1099511627776)(ah:late.length<1099511627776)(af:src.length<1099511627776)(ag:0<src.length)(G:∀ j u,(src.map j5)[j]?=some u->w.cell? (y.add j)=some u)(ha:y.block≠f)(X:pv.ownBlock≠some y.block)(m:∀ g,A.ownBlock=some g->g≠f/\pv.ownBlock≠some g)(B:∀ g,pv.ownBlock=some g->g≠f) :
 Calls prog 103 #[.pointer (some ⟨f,0,none⟩),.slice (some y) src.length c] w fun e w'=>e = .returned (.tuple #[]) /\
  ∃ bv' pv',w'.heap[f]?=some (.cells #[bv',J,pv'] 154 (0,0)) /\
   w'.ownsRow 0 5 1 bv' (bytes++src).length ((bytes++src).map j5) /\
   w'.ownsRow 0 192 2 pv' (late++[(bytes.length,src.length)]).length (qz (late++[(bytes.length,src.length)])) /\
   (bv'.ownBlock=A.ownBlock\/∃ g,bv'.ownBlock=some g/\w.heap.size<=g)/\(pv'.ownBlock=pv.ownBlock\/∃ g,pv'.ownBlock=some g/\w.heap.size<=g) /\
   (∀ g,bv'.ownBlock=some g->pv'.ownBlock≠some g) /\
   ja w w' (fun i=>i=f\/some i=A.ownBlock\/some i=pv.ownBlock):=by
 obtain⟨H,I,rfl⟩:=jl L;have c0:=zA (o:=0) h;have c2:=zA (o:=2) h;have f0:=zB (o:=0) h;have f2:=zB (o:=2) h;have V:=zC h;have al:∀ x,(w.alloc x).cell? ⟨f,2,none⟩=some pv:=fun x=>(Jf (o:=2) h x);have am:∀ x,(w.alloc x).cell? ⟨f,0,none⟩=some (.slice H bytes.length I):=fun x=>(Jf (o:=0) h x);simp at c0 c2;have HD:=jb h;clear h;obtain⟨i0,hi,O,N,M⟩:=info_parts Tryz.Mk;obtain⟨j0,hj,T,S,R⟩:=info_parts Tryz.mn;go_enter func103,ntmps103;go_wp2_with fail
 go_region_law (refine ye rfl (.tmp 11) (.tmp 20) 152 rfl 0 192 i0 Ux 2 16 underlying152 hi O N M rfl (by decide) pv late.length (qz late) rfl (hp.alloc _) ⟨w.heap.size,0,none⟩ 1 1 (qz [(bytes.length,src.length)]) rfl rfl (J8 (je w _) rfl) (Ma _) (by unfold maxLen;omega) (by omega) (zG _) ?_;intro p2 cp2 w2 s n v;have d:=(ja.grown n).same (((ja.refl w (fun _=>False)).draw.more _).same HD.out id) (fun e=>B f e.symm rfl);have D:=zA (o:=2) d;have Y:=zB (o:=2) d;have E:=zA (o:=0) d;have Z:=zB (o:=0) d;have F:=jb d;clear d;simp at D E)
 all_goals
  obtain⟨z,b⟩:∃ z,z=w2.setCell ⟨f,2,none⟩ (.slice p2 (late.length+1) cp2):=⟨_,rfl⟩;have k2:ja w w2 (fun i=>some i=pv.ownBlock):=((ja.refl w _).more _).draw.grow n (fun k e _=>e.symm)
  have q:∀ j u,(src.map j5)[j]?=some u->z.cell? (y.add j)=some u:=fun j u hu=>by
   rw[b];exact(ja.setCell w2 _ _).cell (k2.cell (G j u hu) (by rw[Ju];exact fun e=>X e.symm)) (by rw[Ju];exact ha)
  have W:z.ownsRow 0 5 1 (.slice H bytes.length I) bytes.length (bytes.map j5):=by
   rw[b];exact(ja.setCell w2 _ _).row (k2.row L (fun g hg e=>(m g hg).2 e.symm)) (fun g hg=>(m g hg).1)
  have l:z.heap[f]?=some (.cells #[.slice H bytes.length I,J,.slice p2 (late.length+1) cp2] 154 (0,0)):=by rw[b,jd F.out];rfl
  have U:some f≠(Value.slice H bytes.length I).ownBlock:=fun e=>(m f e.symm).1 rfl;rw[<-b];have b0:=zA (o:=0) l;have g0:=zB (o:=0) l;simp at b0;have HB:=jb l;have HW:=jb b;clear l b D Y E Z
  go_wp2_with (first|(at_builtin;refine jy _ rfl (.tmp 28) (.tmp 29) 84 rfl 0 5 j0 (.int .u8 0) 1 1 underlying84 hj T S R rfl (by decide) _ bytes.length (bytes.map j5) rfl W y src.length c (src.map j5) rfl (by simp) q (dt _) (by unfold maxLen;omega) (by omega) (zG _) ?_;intro p3 ak w3 r C t;have p:=(ja.grown C).same HB.out U;have a0:=zA (o:=0) p;have aj:=zB (o:=0) p;clear p;simp at a0)|go_in)
  go_end0;exact⟨rfl,jfj m B V L (((ja.refl w _).more _).draw) s n v F.out HW.out r C t⟩
def jc.new:jc:={ names:= .map [],safe:= .map [],late:=[],files:=fun _=>none,calls:=0,fail:= -1,cut:= -1,wrote:=0 }
def mi(n:Nat)(i:Nat):j3:=if i=n then .names else if i=n+1 then .safe else if i=n+2 then .xi else .none
theorem jdn(w:World):Calls prog 16 #[] w fun e w'=>e = .returned (.pointer (some ⟨w.heap.size+2,0,none⟩)) /\
 w'=((w.alloc (.map #[] 0)).alloc (.map #[] 0)).alloc (.cells #[.map (some w.heap.size),.map (some (w.heap.size+1)),.slice none 0 0,.int .i64 0,.int .i64 (-1),.int .i64 (-1),.int .i64 0] 101 (0,0)):=by
 have b:=@run_makeMap prog;go_enter func16,ntmps16;go_wp2;go_ret;exact⟨rfl,rfl⟩
theorem jfp(w:World):Calls prog 16 #[] w fun e w'=>e = .returned (.pointer (some ⟨w.heap.size+2,0,none⟩)) /\
 Rep w' (mi w.heap.size) (w.heap.size+2) jc.new/\ja w w' (fun _=>False):=by
 refine(jdn w).mono ?_;rintro e w' ⟨rfl,rfl⟩;have j:(w.alloc (.map #[] 0)).heap.size=w.heap.size+1:=by simp
 have d:((w.alloc (.map #[] 0)).alloc (.map #[] 0)).heap.size=w.heap.size+2:=by simp
 refine⟨rfl,⟨⟨w.heap.size,w.heap.size+1,.slice none 0 0,?_,?_,?_,?_,?_,ZL _ _ _ _,fun g hg=>(by cases hg)⟩,?_,fun f a h=>(by cases h),fun k hk=>(by cases hk),fun k hk=>(by cases hk),fun c hc=>(by cases hc),?_,?_,?_⟩,((ja.refl w _).more _).more _ |>.more _⟩
 ·have:=je ((w.alloc (.map #[] 0)).alloc (.map #[] 0)) (.cells #[.map (some w.heap.size),.map (some (w.heap.size+1)),.slice none 0 0,.int .i64 0,.int .i64 (-1),.int .i64 (-1),.int .i64 0] 101 (0,0))
  rw[d] at this;exact this
 ·simp[mi]
 ·simp[mi]
 ·exact((World.ownsMap_made w _ _ _).alloc _).alloc _
 ·have:=World.ownsMap_made (H:=Nat) (w.alloc (.map #[] 0)) prog 9 yi
  rw[j] at this;exact this.alloc _
 ·simp[mi]
 ·intro i b
  unfold mi at b;simp
  split at b
  ·omega
  ·split at b
   ·omega
   ·split at b
    ·omega
    ·exact absurd rfl b
 ·simp[jc.new]
 ·simp[jc.new]
def qd:jz:=⟨[],0,[]⟩
def jc.withFile(S:jc)(f:Nat)(a:jz):jc:={ S with files:=fun i=>if i=f then some a else S.files i }
theorem Small.withFile{S:jc}(h:Small S)(f:Nat){a:jz}(c:a.bytes.length<1099511627776/\a.late.length<1099511627776/\a.safe<1099511627776):Small (S.withFile f a):=by
 refine⟨h.names,h.safe,h.late,fun g b hb=>?_⟩;simp only[jc.withFile] at hb
 split at hb
 ·cases hb;exact c
 ·exact h.files g b hb
theorem Rep.jf8{ρ:Nat->j3}{S:jc}(R:Rep w ρ d S) :
 Rep (w.alloc (.cells #[.slice none 0 0,.int .i64 0,.slice none 0 0] 154 (0,0))) (fun i=>if i=w.heap.size then .file else ρ i) d (S.withFile w.heap.size qd)/\S.files w.heap.size=none /\
 x7 w ρ (w.alloc (.cells #[.slice none 0 0,.int .i64 0,.slice none 0 0] 154 (0,0))) (fun i=>if i=w.heap.size then .file else ρ i):=by
 obtain⟨⟨nm,n,lv,B,s,rs,z,os,v,y⟩,u,t,A,x,lo,b,C,D⟩:=R
 have j:S.files w.heap.size=none:=by
  cases h:S.files w.heap.size with
  | none=>rfl
  | some a =>
   have:=b w.heap.size (by rw[(t _ a h).1];decide);omega
 have o:∀ i,i<w.heap.size->(if i=w.heap.size then j3.file else ρ i)=ρ i:=fun i q=>if_neg (by omega);have l:=ja.alloc w (.cells #[.slice none 0 0,.int .i64 0,.slice none 0 0] 154 (0,0)) (fun _=>False)
 have p:∀ f a,S.files f=some a->∃ a',(S.withFile w.heap.size qd).files f=some a':=by
  intro f a h;exact⟨a,by simp only[jc.withFile];rw[if_neg (fun e=>by rw[e,j] at h;cases h)];exact h⟩
 have k:∀ g,g<w.heap.size->∀ r,ρ g=r->(if g=w.heap.size then j3.file else ρ g)=r:=fun g hg r hr=>(o g hg).trans hr;refine⟨⟨⟨nm,n,lv,l.same B id,k nm (b nm (by rw[s];decide)) _ s,k n (b n (by rw[rs];decide)) _ rs,l.map z id,l.map os id,l.row v (fun _ _=>id),fun g hg=>k g (v.lt g hg).2 _ (y g hg)⟩,k d (b d (by rw[u];decide)) _ u,?_,A.mono p,x.mono p,fun c hc=>(lo c hc).mono p,?_,C,D⟩,j,⟨l.up,o⟩⟩
 ·intro f a m
  simp only[jc.withFile] at m
  split at m
  ·rename_i e
   cases m;subst e;exact⟨by simp,.slice none 0 0,.slice none 0 0,je w _,ZL _ _ _ _,fun g hg=>(by cases hg),ZL _ _ _ _,fun g hg=>(by cases hg)⟩
  ·exact(t f a m).keep l o id (fun _ _=>id) (fun _ _=>id)
 ·intro i q
  simp;by_cases e:i=w.heap.size
  ·omega
  ·rw[if_neg e] at q
   have:=b i q;omega
theorem V0{ρ:Nat->j3}{S:jc}(nm:Str)(R:Rep w ρ d S)(Z:Small S)(m:nm.length<1099511627776) :
 Calls prog 161 #[.pointer (some ⟨d,0,none⟩),jf nm] w fun e w'=>∃ ρ',x7 w ρ w' ρ' /\
  ((S.bad=true/\e = .returned (.int .i64 1)/\Rep w' ρ' d (S.called true)) \/
   (S.bad=false/\nm=[]/\e = .returned (.int .i64 2)/\Rep w' ρ' d (S.called true)) \/
   (S.bad=false/\nm≠[]/\e = .returned (.int .i64 0)/\∃ f,S.files f=none/\Rep w' ρ' d (((S.called true).withFile f qd).named ⟨nm,[],[],some f⟩))):=by
 have g:nm.isEmpty=true\/nm.isEmpty=false:=by cases nm.isEmpty<;>simp
 have c:S.bad=true\/S.bad=false:=by cases S.bad<;>simp
 rcases c with c|c
 ·go_enter func161,ntmps161
  go_wp2_with (go_at_call 102;refine(zv true R).mono ?_;rintro e k ⟨rfl,i,j⟩)
  go_ret;exact⟨ρ,j,.inl ⟨c,rfl,i⟩⟩
 ·rcases g with g|g
  ·go_enter func161,ntmps161
   go_wp2_with (go_at_call 102;refine(zv true R).mono ?_;rintro e k ⟨rfl,i,j⟩)
   go_ret;exact⟨ρ,j,.inr (.inl ⟨c,by simpa using g,rfl,i⟩)⟩
  ·go_enter func161,ntmps161
   go_wp2_with (first
    | (go_at_call 102;refine(zv true R).mono ?_;rintro e k ⟨rfl,i,j⟩)
    | (go_at_call 194;obtain⟨o,b,q⟩:=i.jf8;refine(Hi nm [] [] (some k.heap.size) o ((Z.called true).withFile _ (by simp[qd])) ⟨m,by simp,by simp,fun _=>⟨_,qd,rfl,by simp[jc.withFile]⟩⟩).mono ?_;rintro e w2 ⟨rfl,l,n,p⟩))
   go_ret;exact⟨l,(j.trans q).trans p,.inr (.inr ⟨c,by simpa using g,rfl,_,b,n⟩)⟩
theorem Rep.Aj{ρ:Nat->j3}{S:jc}(R:Rep w ρ d S)(c f k x:Int)(j:ja w w' (fun i=>i=d))(n:∀ nm sm lv,w.heap[d]?=some (.cells #[nm,sm,lv,.int .i64 S.calls,.int .i64 S.fail,.int .i64 S.cut,.int .i64 S.wrote] 101 (0,0))->w'.heap[d]?=some (.cells #[nm,sm,lv,.int .i64 c,.int .i64 f,.int .i64 k,.int .i64 x] 101 (0,0)))(o:-1<=f/\f<=9223372036854775807)(p:-1<=k/\k<=9223372036854775807):Rep w' ρ d { S with calls:=c,fail:=f,cut:=k,wrote:=x }/\x7 w ρ w' ρ:=by
 obtain⟨⟨nm,sm,lv,A,q,rs,v,os,y,r⟩,l,s,z,u,lo,m,B,C⟩:=R;have b:∀ i,ρ i≠ .xi->¬i=d:=fun i hi e=>hi (e▸l);refine⟨⟨⟨nm,sm,lv,n _ _ _ A,q,rs,j.map v (b nm (by rw[q];decide)),j.map os (b sm (by rw[rs];decide)),j.row y (fun g hg=>b g (by rw[r g hg];decide)),r⟩,l,?_,z,u,lo,fun i hi=>ZH (m i hi) j.size,o,p⟩,?_⟩
 ·intro f a t
  exact(s f a t).keep j (fun _ _=>rfl) (b f (by rw[(s f a t).1];decide)) (fun i hi=>b i (by rw[hi];exact fun h=>by cases h)) (fun i hi=>b i (by rw[hi];exact fun h=>by cases h))
 ·exact x7.of j (fun i _ e=>by rw[e,l];decide)
theorem jeg{ρ:Nat->j3}{S:jc}(n:Int)(g:n<=9223372036854775807)(R:Rep w ρ d S) :
 Calls prog 35 #[.pointer (some ⟨d,0,none⟩),.int .i64 n] w fun e w'=>e = .returned (.tuple #[])/\Rep w' ρ d { S with fail:=max n (-1) }/\x7 w ρ w' ρ:=by
 obtain⟨nm,f,lv,b,_⟩:=R.mem;have c:=zA (o:=4) b;have i:=zB (o:=4) b;simp at c;clear b;go_enter func35,ntmps35;go_wp2
 all_goals go_end0
 ·refine⟨rfl,?_⟩
  have e:max n (-1) = -1:=by omega
  rw[e];exact R.Aj S.calls (-1) S.cut S.wrote (ja.setCell w _ _) (fun _ _ _ h=>by rw[jd h];rfl) (by omega) R.jaq
 ·refine⟨rfl,?_⟩
  have e:max n (-1)=n:=by omega
  rw[e];exact R.Aj S.calls n S.cut S.wrote (ja.setCell w _ _) (fun _ _ _ h=>by rw[jd h];rfl) (by omega) R.jaq
theorem jf1{ρ:Nat->j3}{S:jc}(n:Int)(g:n<=9223372036854775807)(R:Rep w ρ d S) :
 Calls prog 44 #[.pointer (some ⟨d,0,none⟩),.int .i64 n] w fun e w'=>e = .returned (.tuple #[])/\Rep w' ρ d { S with cut:=max n (-1) }/\x7 w ρ w' ρ:=by
 obtain⟨nm,f,lv,b,_⟩:=R.mem;have c:=zA (o:=5) b;have i:=zB (o:=5) b;simp at c;clear b;go_enter func44,ntmps44;go_wp2
 all_goals go_end0
 ·refine⟨rfl,?_⟩
  have e:max n (-1) = -1:=by omega
  rw[e];exact R.Aj S.calls S.fail (-1) S.wrote (ja.setCell w _ _) (fun _ _ _ h=>by rw[jd h];rfl) R.Oi (by omega)
 ·refine⟨rfl,?_⟩
  have e:max n (-1)=n:=by omega
  rw[e];exact R.Aj S.calls S.fail n S.wrote (ja.setCell w _ _) (fun _ _ _ h=>by rw[jd h];rfl) R.Oi (by omega)
theorem xf(w:World){c:Array Oper}{rest:List Oper}{o:Oper}{a:Act}{Q:Exit->Act->World->Prop}(r:o.guard=none)(m x:Operand)(i:o.op=Op.lookup 98 m x false)(b n:Nat)(D:DataW Nat)(q:a.eval m = .map (some b))(f:w.ownsMap prog 9 yi b n D)(key:Value)(j:Lit)(k:a.eval x=key)(g:keyOf prog 9 key=some j)(u:Value)(p:fy (fileOf (D.atKey j .nil))=u)(s:wpList prog c Q rest (a.put o.dst u) w) :
 wpList prog c Q (o::rest) a w:=by
 refine wpList_plain r fun K' hK'=>?_;obtain⟨v,ps,d,l⟩:=f.lookup law underlying98 (jaw w) (zd:= .nil) (zp:=[]) rfl g;obtain⟨e,_⟩:=A5 l;have t:v=u:=e.trans p;subst t;unfold Oper.wp;simp[execOp,i,q,k,d,Result.andThen];exact hK' _ _ s
def jc.at(S:jc)(nm:Str):Option Nat:=fileOf (S.names.atKey (.string nm) .nil)
theorem Rep.at{ρ:Nat->j3}{S:jc}(R:Rep w ρ d S){nm:Str}(h:S.at nm=some f):∃ a,S.files f=some a:=by
 have b:Maps.has S.names (.string nm)=true:=by
  cases e:Maps.has S.names (.string nm)
  ·unfold jc.at at h;rw[atKey_of_not_has e] at h;cases h
  ·rfl
 obtain⟨i,a,g,c⟩:=R.z7 _ b;unfold jc.at at h;rw[g] at h;cases h;exact⟨a,c⟩
theorem Rep.Wy{ρ n:Nat->j3}{S:jc}{a a':jz}{T:Nat->Prop}(R:Rep w ρ d S)(M:S.files f=some a)(p:ja w w' T)(t:∀ i,i<w.heap.size->T i->i=f\/ρ i = .bytes f\/ρ i = .pieces f)(B:∀ i,i<w.heap.size->n i=ρ i)(v:∀ i,n i≠ .none->i<w'.heap.size)(D:Kk w' n f a') :
 Rep w' n d (S.withFile f a')/\x7 w ρ w' n:=by
 obtain⟨⟨nm,A,lv,N,q,rs,H,os,F,x⟩,s,E,I,G,lo,k,W,X⟩:=R;have l:=(E f a M).1
 have y:∀ i,i<w.heap.size->ρ i≠ .file->ρ i≠ .bytes f->ρ i≠ .pieces f->¬T i:=by
  intro i j V U O o;rcases t i j o with e|e|e
  ·exact V (e▸l)
  ·exact U e
  ·exact O e
 have C:∀ g b,S.files g=some b->∃ b',(S.withFile f a').files g=some b':=by
  intro g b h;by_cases e:g=f
  ·exact⟨a',by simp[jc.withFile,e]⟩
  ·exact⟨b,by simp[jc.withFile,e,h]⟩
 have o:∀ i r,ρ i=r->r≠ .none->n i=r:=fun i r h hr=>(B i (k i (by rw[h];exact hr))).trans h;have L:=k d (by rw[s];decide);have J:=k nm (by rw[q];decide);have ls:=k A (by rw[rs];decide)
 refine⟨⟨⟨nm,A,lv,p.same N (y d L (by rw[s];decide) (by rw[s];exact fun h=>by cases h) (by rw[s];exact fun h=>by cases h)),o _ _ q (by decide),o _ _ rs (by decide),
  p.map H (y nm J (by rw[q];decide) (by rw[q];exact fun h=>by cases h) (by rw[q];exact fun h=>by cases h)),p.map os (y A ls (by rw[rs];decide) (by rw[rs];exact fun h=>by cases h) (by rw[rs];exact fun h=>by cases h)),
  p.row F (fun g hg=>y g (F.lt g hg).2 (by rw[x g hg];decide) (by rw[x g hg];exact fun h=>by cases h) (by rw[x g hg];exact fun h=>by cases h)),fun g hg=>o _ _ (x g hg) (by decide)⟩,
  o _ _ s (by decide),?_,I.mono C,G.mono C,fun c hc=>(lo c hc).mono C,v,W,X⟩,⟨p.mono (fun i j h=>?_),B⟩⟩
 ·intro g b z
  simp only[jc.withFile] at z
  split at z
  ·rename_i e
   cases z;subst e;exact D
  ·rename_i e
   have u:=E g b z;have m:=u.1;refine u.keep p B ?_ ?_ ?_
   ·intro h
    rcases t g (k g (by rw[m];decide)) h with e1|e1|e1
    ·exact e e1
    ·rw[m] at e1;cases e1
    ·rw[m] at e1;cases e1
   ·intro i j h
    rcases t i (k i (by rw[j];exact fun h=>by cases h)) h with e1|e1|e1
    ·rw[e1,l] at j;cases j
    ·rw[j] at e1;cases e1;exact e rfl
    ·rw[j] at e1;cases e1
   ·intro i j h
    rcases t i (k i (by rw[j];exact fun h=>by cases h)) h with e1|e1|e1
    ·rw[e1,l] at j;cases j
    ·rw[j] at e1;cases e1
    ·rw[j] at e1;cases e1;exact e rfl
 ·rcases t i j h with e|e|e
  ·rw[e,l];decide
  ·rw[e];exact fun h=>by cases h
  ·rw[e];exact fun h=>by cases h
def jz.synced(a:jz):jz:={ a with safe:=a.bytes.length,late:=[] }
theorem jcq{ρ:Nat->j3}{S:jc}(nm:Str)(R:Rep w ρ d S)(G:nm.length<1099511627776) :
 Calls prog 193 #[.pointer (some ⟨d,0,none⟩),jf nm] w fun e w'=>∃ ρ',x7 w ρ w' ρ' /\
  ((S.bad=true/\e = .returned (.int .i64 1)/\Rep w' ρ' d (S.called true)) \/
   (S.bad=false/\S.at nm=none/\e = .returned (.int .i64 2)/\Rep w' ρ' d (S.called true)) \/
   (S.bad=false/\e = .returned (.int .i64 0)/\∃ f a,S.at nm=some f/\S.files f=some a/\Rep w' ρ' d ((S.called true).withFile f a.synced))):=by
 have c:=an G;have k:S.bad=true\/S.bad=false:=by cases S.bad<;>simp
 rcases k with k|k
 ·go_enter func193,ntmps193
  go_wp2_with (go_at_call 102;refine(zv true R).mono ?_;rintro e m ⟨rfl,b,q⟩)
  go_ret;exact⟨ρ,q,.inl ⟨k,rfl,b⟩⟩
 ·have y:S.at nm=none\/∃ f,S.at nm=some f:=by cases S.at nm<;>simp
  rcases y with l|⟨f,l⟩
  ·have p:=jb l
   clear l;go_enter func193,ntmps193
   go_wp2_with (first
    | (go_at_call 102;refine(zv true R).mono ?_;rintro e m ⟨rfl,b,q⟩;obtain⟨s,D,lv,n,E,rs,r,_⟩:=b.mem;have u:=zA (o:=0) n;simp at u;clear n)
    | (at_lookup;refine xf _ rfl _ _ rfl s _ _ rfl r _ _ rfl c (.pointer none) (congrArg fy p.out) ?_)
    | go_in)
   go_ret;exact⟨ρ,q,.inr (.inl ⟨k,p.out,rfl,b⟩)⟩
  ·obtain⟨a,C⟩:=R.at l
   have p:=jb l;have v:=jb C;clear l C;go_enter func193,ntmps193
   go_wp2_with (first
    | (go_at_call 102;refine(zv true R).mono ?_;rintro e m ⟨rfl,b,q⟩;obtain⟨s,D,lv,n,E,rs,r,_⟩:=b.mem;have u:=zA (o:=0) n;simp at u;clear n;obtain⟨z,X,pv,j,B,A,U,T⟩:=b.files f a v.out;obtain⟨F,H,rfl⟩:=jl B;have L:=zA (o:=0) j;have J:=zA (o:=1) j;have I:=zA (o:=2) j;have W:=zB (o:=1) j;have V:=zB (o:=2) j;simp at L J I;have N:=jb j;clear j)
    | (at_lookup;refine xf _ rfl _ _ rfl s _ _ rfl r _ _ rfl c (.pointer (some ⟨f,0,none⟩)) (congrArg fy p.out) ?_)
    | go_in)
   go_ret;have t:ja m ((m.setCell ⟨f,1,none⟩ (.int .i64 a.bytes.length)).setCell ⟨f,2,none⟩ (.slice none 0 0)) (fun i=>i=f):=((ja.refl m _).set (by exact rfl) _).set (by exact rfl) _;have x:∀ g,(Value.slice F a.bytes.length H).ownBlock=some g->¬g=f:=fun g hg e=>by have:=A g hg;rw[e,z] at this;cases this
   obtain⟨M,O⟩:=b.Wy (a':=a.synced) v.out t (fun i _ h=> .inl h) (fun _ _=>rfl) (fun i hi=>ZH (b.lt i hi) t.size)
    ⟨z,_,_,by rw[jd (jd N.out _)];rfl,t.row B x,A,ZL _ _ _ _,fun g hg=>(by cases hg)⟩
   exact⟨ρ,q.trans O,.inr (.inr ⟨k,rfl,f,a,p.out,v.out,M⟩)⟩
theorem Ur{ρ:Nat->j3}{S:jc}(sr ds:Str)(R:Rep w ρ d S)(Z:Small S)(v:sr.length<1099511627776)(z:ds.length<1099511627776) :
 Calls prog 196 #[.pointer (some ⟨d,0,none⟩),jf sr,jf ds] w fun e w'=>∃ ρ',x7 w ρ w' ρ' /\
  ((S.bad=true/\e = .returned (.int .i64 1)/\Rep w' ρ' d (S.called true)) \/
   (S.bad=false/\(S.at sr=none\/ds=[])/\e = .returned (.int .i64 2)/\Rep w' ρ' d (S.called true)) \/
   (S.bad=false/\ds≠[]/\e = .returned (.int .i64 0)/\∃ f,S.at sr=some f/\Rep w' ρ' d ((S.called true).named ⟨[],sr,ds,some f⟩))):=by
 have b:=an v;have i:S.bad=true\/S.bad=false:=by cases S.bad<;>simp
 rcases i with i|i
 ·go_enter func196,ntmps196
  go_wp2_with (go_at_call 102;refine(zv true R).mono ?_;rintro e r ⟨rfl,c,j⟩)
  go_ret;exact⟨ρ,j,.inl ⟨i,rfl,c⟩⟩
 ·have s:S.at sr=none\/∃ f,S.at sr=some f:=by cases S.at sr<;>simp
  have k:ds.isEmpty=true\/ds.isEmpty=false:=by cases ds.isEmpty<;>simp
  rcases s with l|⟨f,l⟩
  ·have m:=jb l
   clear l k;go_enter func196,ntmps196
   go_wp2_with (first
    | (go_at_call 102;refine(zv true R).mono ?_;rintro e r ⟨rfl,c,j⟩;obtain⟨p,t,lv,g,u,rs,n,_⟩:=c.mem;have q:=zA (o:=0) g;simp at q;clear g)
    | (at_lookup;refine xf _ rfl _ _ rfl p _ _ rfl n _ _ rfl b (.pointer none) (congrArg fy m.out) ?_)
    | go_in)
   go_ret;exact⟨ρ,j,.inr (.inl ⟨i,.inl m.out,rfl,c⟩)⟩
  ·obtain⟨a,x⟩:=R.at l
   have m:=jb l;have B:=jb x;clear l x;rcases k with k|k
   ·go_enter func196,ntmps196
    go_wp2_with (first
     | (go_at_call 102;refine(zv true R).mono ?_;rintro e r ⟨rfl,c,j⟩;obtain⟨p,t,lv,g,u,rs,n,_⟩:=c.mem;have q:=zA (o:=0) g;simp at q;clear g)
     | (at_lookup;refine xf _ rfl _ _ rfl p _ _ rfl n _ _ rfl b (.pointer (some ⟨f,0,none⟩)) (congrArg fy m.out) ?_)
     | go_in)
    go_ret;exact⟨ρ,j,.inr (.inl ⟨i,.inr (by simpa using k),rfl,c⟩)⟩
   ·go_enter func196,ntmps196
    go_wp2_with (first
     | (go_at_call 102;refine(zv true R).mono ?_;rintro e r ⟨rfl,c,j⟩;obtain⟨p,t,lv,g,u,rs,n,_⟩:=c.mem;have q:=zA (o:=0) g;simp at q;clear g)
     | (at_lookup;refine xf _ rfl _ _ rfl p _ _ rfl n _ _ rfl b (.pointer (some ⟨f,0,none⟩)) (congrArg fy m.out) ?_)
     | (go_at_call 194;refine(Hi [] sr ds (some f) c (Z.called true) ⟨by simp,v,z,fun _=>⟨f,a,rfl,B.out⟩⟩).mono ?_;rintro e w2 ⟨rfl,y,A,C⟩)
     | go_in)
    go_ret;exact⟨y,j.trans C,.inr (.inr ⟨i,by simpa using k,rfl,f,m.out,A⟩)⟩
theorem Us{ρ:Nat->j3}{S:jc}(nm:Str)(R:Rep w ρ d S)(Z:Small S)(s:nm.length<1099511627776) :
 Calls prog 168 #[.pointer (some ⟨d,0,none⟩),jf nm] w fun e w'=>∃ ρ',x7 w ρ w' ρ' /\
  ((S.bad=true/\e = .returned (.int .i64 1)/\Rep w' ρ' d (S.called true)) \/
   (S.bad=false/\S.at nm=none/\e = .returned (.int .i64 2)/\Rep w' ρ' d (S.called true)) \/
   (S.bad=false/\e = .returned (.int .i64 0)/\∃ f,S.at nm=some f/\Rep w' ρ' d ((S.called true).named ⟨[],nm,[],none⟩))):=by
 have b:=an s;have g:S.bad=true\/S.bad=false:=by cases S.bad<;>simp
 rcases g with g|g
 ·go_enter func168,ntmps168
  go_wp2_with (go_at_call 102;refine(zv true R).mono ?_;rintro e r ⟨rfl,c,l⟩)
  go_ret;exact⟨ρ,l,.inl ⟨g,rfl,c⟩⟩
 ·have q:S.at nm=none\/∃ f,S.at nm=some f:=by cases S.at nm<;>simp
  rcases q with j|⟨f,j⟩
  ·have k:=jb j
   clear j;go_enter func168,ntmps168
   go_wp2_with (first
    | (go_at_call 102;refine(zv true R).mono ?_;rintro e r ⟨rfl,c,l⟩;obtain⟨n,u,lv,i,v,rs,m,_⟩:=c.mem;have p:=zA (o:=0) i;simp at p;clear i)
    | (at_lookup;refine xf _ rfl _ _ rfl n _ _ rfl m _ _ rfl b (.pointer none) (congrArg fy k.out) ?_)
    | go_in)
   go_ret;exact⟨ρ,l,.inr (.inl ⟨g,k.out,rfl,c⟩)⟩
  ·have k:=jb j
   clear j;go_enter func168,ntmps168
   go_wp2_with (first
    | (go_at_call 102;refine(zv true R).mono ?_;rintro e r ⟨rfl,c,l⟩;obtain⟨n,u,lv,i,v,rs,m,_⟩:=c.mem;have p:=zA (o:=0) i;simp at p;clear i)
    | (at_lookup;refine xf _ rfl _ _ rfl n _ _ rfl m _ _ rfl b (.pointer (some ⟨f,0,none⟩)) (congrArg fy k.out) ?_)
    | (go_at_call 194;refine(Hi [] nm [] none c (Z.called true) ⟨by simp,s,by simp,fun h=>(by simp at h)⟩).mono ?_;rintro e w2 ⟨rfl,t,x,y⟩)
    | go_in)
   go_ret;exact⟨t,l.trans y,.inr (.inr ⟨g,rfl,f,k.out,x⟩)⟩
end Go.Proofs.YtnipbplghijdmaaGreatDoor
