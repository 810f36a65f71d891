/-
  V: OpenedR BookR BookS CrashedR ActR StandR KeepR2 CallR CallW AgainR.
-/
import Derived.Test.YtnipbplghijdmaaGreatDoorV40
import Derived.Test.YtnipbplghijdmaaGreatDoorV34
set_option maxRecDepth 100000
set_option maxHeartbeats 8000000
set_option linter.unusedVariables false
set_option linter.unusedSimpArgs false
namespace Go.Proofs.YtnipbplghijdmaaGreatDoor
open RowKit Maps WideShapes Go.Proofs.Tryz
variable {E:Nat->Addr} {B:Nat} {w w' w0:World} {d b k kb U V N L:Nat} {S S':jc} {s:Rf.St} {deg:Bool} {F T:Nat->Prop} {Q R:Want} {m:Rf.Man} {bls:List (List Rf.Ch)} {ρ:Nat->j3} {ess:List (List Rf.Ch)} {wv:Value}
theorem Wr.take(h:Wr w0 w T wv ess){n:Nat}(A:n<=ess.length){p:Option Addr}{c:Nat}(e:wv = .slice p ess.length c):Wr w0 w T (.slice p n c) (ess.take n):=by
 obtain⟨⟨xs,z,y⟩,v⟩:=h;have m:(ess.take n).length=n:=by rw[ZN];omega
 have l:∀ g,(Value.slice p n c).ownBlock=some g->wv.ownBlock=some g:=fun g b=>by rw[e];cases p<;>exact b
 refine⟨⟨xs.take n,?_,fun i hi=>?_⟩,fun g b=>v g (l g b)⟩
 ·rw[m]
  obtain⟨j,⟨d,C⟩|⟨g,cap,k,d,u,b,B,t,s,r⟩⟩:=z
  ·rw[e] at d
   injection d with a1 a2 a3;subst a1;subst a3;have f:n=0:=by omega
   subst f;exact⟨by simp,.inl ⟨rfl,rfl⟩⟩
  ·rw[e] at d
   injection d with a1 a2 a3;subst a1;subst a3;refine⟨by rw[ZN,j];omega,.inr ⟨g,c,k,rfl,u,b,by omega,t,s,?_⟩⟩;rw[<-r,List.take_take];congr 1;omega
 ·rw[m] at hi
  obtain⟨x,d,o,q⟩:=y i (by omega);refine⟨x,by rw[ZO,if_pos hi];exact d,?_,fun g b=>q g (l g b)⟩;rw[List.getElem_take];exact o
theorem Hm:∀ {a b:List Rf.Ch},Rf.Live a->Rf.Live b->a.map br=b.map br->a=b
 | [],[],_,_,_=>rfl
 | [],y::l,_,_,h=>by simp at h
 | x::r,[],_,_,h=>by simp at h
 | x::r,y::l,ha,hb,h=>by
  rw[ZP,ZP] at h
  injection h with h1 h2
  have e1:x=y:=by
   have d:=ha x (ZG ..);have c:=hb y (ZG ..);obtain⟨k,j,m⟩:=x;obtain⟨g,f,i⟩:=y;unfold br at h1;simp only at d c h1;injection h1 with h3 h4;rw[h3,h4,d,c]
  rw[e1,Hm (fun z hz=>ha z (ZH _ hz)) (fun z hz=>hb z (ZH _ hz)) h2]
theorem Zy(w:World)(b d g:Nat)(c f:Value):ja w ((w.setCell ⟨b,d,none⟩ c).setCell ⟨b,g,none⟩ f) (fun i=>i=b):=by
 have k:=ja.setCell w ⟨b,d,none⟩ c;have j:=ja.setCell (w.setCell ⟨b,d,none⟩ c) ⟨b,g,none⟩ f;exact k.tt j
theorem Uw(w:World)(b g f k:Nat)(d c j:Value):ja w (((w.setCell ⟨b,g,none⟩ d).setCell ⟨b,f,none⟩ c).setCell ⟨b,k,none⟩ j) (fun i=>i=b):=by
 have m:=Zy w b g f d c;have l:=ja.setCell ((w.setCell ⟨b,g,none⟩ d).setCell ⟨b,f,none⟩ c) ⟨b,k,none⟩ j;exact m.tt l
def jft(ess:List (List Rf.Ch))(least N L:Nat):Want where
 Jj _:=True
 now t:=t.m.next<=N/\t.last<=L/\∃ n,least<=n/\n<=ess.length/\t.tell=Rf.zn (ess.take n)
 le _ _:=trivial
 Qc _:=True
def jef(E:Nat->Addr)(B:Nat)(w0 w:World)(ρ:Nat->j3)(d kb N L:Nat)(ess:List (List Rf.Ch))(wv:Value)(w':World):Prop :=
 ∃ b F S' s n wv',w'.heap[kb]?=some (.cells (zy d b wv' false n false) 51 (0,0))/\Qt E B w' d b S' 60000 s false F/\Norm S' 20000 s (qi (ess.take n) n n (N+1) L).whole/\qh S'/\n<=ess.length/\Wr w0 w' (fun i=>F i\/i=kb) wv' (ess.take n)/\¬F kb/\(∀ i,F i->ρ i≠ .none\/w.heap.size<=i)/\ja w w' (fun i=>ρ i≠ .none\/i=kb)/\∀ g,wv'.ownBlock=some g->wv.ownBlock=some g
theorem jc2{least:Nat}{x1 x3 x4 x5:Value}(D:Dk E B w ρ d S)(Fk:Fit k S)(H:Env E B w)(hk:k<400000000000)(hw:qh S)(P:Pow S U m bls Q)(hU:U<=20000)(hQ:∀ t,Q.now t->t.m.next<=N/\t.last<=L/\∃ n,least<=n/\n<=ess.length/\t.tell=Rf.zn (ess.take n))(hT:∀ t:Rf.St,Q.Qc t->qt t.files<=5700/\U+5800<=20000)(hN:N+1<=2000000000)(A:w.heap[kb]?=some (.cells #[.pointer (some ⟨d,0,none⟩),x1,wv,x3,x4,x5] 51 (0,0)))(bb:ρ kb = .none)(bg:B<=kb)(a7:Wr w0 w T wv ess)(be:∀ i,ρ i≠ .none->T i)(bd:T kb)(h8:∀ b∈ess,b.length<=8)(bq:ess.length<=131072)(cb:least<=131072) :
 Calls prog 41 #[.pointer (some ⟨kb,0,none⟩),j7 least] w fun e w'=>e = .returned (.bool true)/\jef E B w0 w ρ d kb N L ess wv w':=by
 have bm:=jb (Uf (V:=20000) (R:=jft ess least (N+1) L) D Fk H hk P ⟨fun _ _=>trivial,fun t ht=>by obtain⟨a1,a2,a3⟩:=hQ t ht;exact⟨by omega,a2,a3⟩,fun _ _=>trivial⟩
  (fun t ht _=>by obtain⟨a1,a2,a3⟩:=hQ t ht;exact⟨by show t.m.next+1<=N+1;omega,a2,a3⟩) (fun t ht=>by have:=(hQ t ht).1;omega) hU (ZQ _) hT)
 have G:=jb hw;have a5:=jb A;have bo:=jb bb;have bp:=jb bg;have bi:=jb a7;have bk:=jb be;have cm:=jb bd;have H8:=jb h8;obtain⟨pw,cw,ay⟩:∃ p c,wv = .slice p ess.length c:=by obtain⟨⟨xs,h1,_⟩,_⟩:=a7;exact jm h1
 have bh:=jb ay;have c0:=zA (o:=0) A;simp at c0;clear D Fk H hw P hQ hT hN A bb bg a7 be bd h8 ay hU hk;go_enter func41,ntmps41;go_wp2_with fail;refine bm.out.mono ?_;rintro e w1 (⟨_,a8,_⟩|⟨b,F,S1,s,rfl,hb,O1,N1,hA,bc,_,k1,hF⟩)
 ·exact absurd G.out a8
 have x:=k1.same a5.out (fun t=>t bo.out)
 have a9:¬F kb:=fun t=>by
  rcases hF kb t with t|t
  ·exact t bo.out
  ·have:=zC a5.out;omega
 have c1:=zA (o:=1) x;have f1:=zB (o:=1) x;have c5:=zA (o:=5) x;have f5:=zB (o:=5) x;simp at c1 c5;obtain⟨w2,I⟩:∃ w2,w2=(w1.setCell ⟨kb,1,none⟩ (.pointer (some ⟨b,0,none⟩))).setCell ⟨kb,5,none⟩ (.bool false):=⟨_,rfl⟩;have k2:ja w1 w2 (fun i=>i=kb):=by rw[I];exact Zy _ _ _ _ _ _
 have b4:w2.heap[kb]?=some (.cells #[.pointer (some ⟨d,0,none⟩),.pointer (some ⟨b,0,none⟩),wv,x3,x4,.bool false] 51 (0,0)):=by rw[I];exact(jd ((jd x _).trans rfl) _).trans rfl
 have O2:=O1.keep k2 (fun i _ e=>⟨by rw[show i=kb from e];exact bp.out,by rw[show i=kb from e];exact a9⟩);have a0:=N1.bnd (ZR N1.pow.total (by omega));have bt:=a0.all;have y:s.tell.length<=100000:=by have:s.tell.length<=s.all.length:=ZT _ _;omega
 have ad:=jb (jga O2 N1.ok N1.Q2 (by omega) (by omega) [] [] 100000 (by omega));rw[Rf.jal s y] at ad;have HF:=jb hF;have ag:=jb a9;have ah:=jb N1;have HA:=jb hA;have ac:=jb (bc G.out);have W:=jb k1;have O:=jb k2;have ae:=jb b4;have cl:=jb y;have HB:=jb hb;have bj:=jb I;clear hF a9 N1 hA bc k1 k2 b4 x O1 O2 a0 bt y hb I c0;go_wp2_with fail;rw[<-bj.out];refine ad.out.mono ?_;rintro e w3 ⟨S3,hL,⟨lv,rfl,v,⟨F3,O3,k3,J⟩⟩|⟨a8,_⟩⟩
 case inr=>exact absurd ac.out a8
 have b3:=k3.same ae.out ag.out
 have Y:¬F3 kb:=fun t=>by
  rcases J kb t with t|t
  ·exact ag.out t
  ·have:=zC ae.out;omega
 have z:Wr w0 w3 (fun i=>F3 i\/i=kb) wv ess:=by
  have h1:Wr w0 w1 (fun i=>F i\/i=kb) wv ess:=bi.out.step W.out bk.out (fun i t=>by
   rcases t with t|t
   ·exact(HF.out i t).imp (bk.out i) id
   ·rw[t];exact .inl cm.out)
  have h2:Wr w0 w2 (fun i=>F i\/i=kb) wv ess:=h1.step O.out (fun i t=> .inr t) (fun i t=> .inl t)
  exact h2.step k3 (fun i t=> .inl t) (fun i t=>by
   rcases t with t|t
   ·exact(J i t).imp .inl id
   ·exact .inl (.inr t))
 obtain⟨b0,az,n0,b9,b6,C⟩:=ah.out.now;have cp:Hid (∀ n,n<=ess.length->s.tell=Rf.zn (ess.take n)->Norm S3 20000 s (qi (ess.take n) n n (N+1) L).whole):=fun n h1 h2=>(ah.out.looked hL).book (hL.at HA.out) b0 az h1 h2;have ck:=jb (hL.u9 ac.out)
 have ba:ja w w3 (fun i=>ρ i≠ .none\/i=kb):=by
  refine((W.out.mono (fun _ _ t=> .inl t)).trans O.out (fun _ _ t=> .inr t)).trans k3 (fun i hi t=>?_);rcases HF.out i t with t|t
  ·exact .inl t
  ·omega
 have bf:∀ i,F3 i->ρ i≠ .none\/w.heap.size<=i:=fun i t=>by
  rcases J i t with t|t
  ·exact HF.out i t
  ·have:=W.out.size;have:=O.out.size;exact .inr (by omega)
 have bl:=jb b3;have a6:=jb Y;have a4:=jb z;have cr:=jb ba;have cu:=jb bf;have co:=jb O3;have aj:=jb C;have cn:Hid (Prs w3 lv s.tell):=⟨_,v⟩;obtain⟨ps,cs,b7⟩:=jm v;have dz:=jb b7;obtain⟨nl,r⟩:∃ nl,nl=ess.length:=⟨_,rfl⟩;have af:=jb r;have f:=bh.out;rw[<-r] at f b6 bq;have j:=jb f
 have Z:nl<=cw/\cw<=maxLen/\(pw=none\/∃ g,pw=some ⟨g,0,none⟩):=by
  obtain⟨⟨xs,⟨h1,⟨e1,h0⟩|⟨g,cap,dy,e1,_,_,hc,hm,_,_⟩⟩,_⟩,_⟩:=z
  ·rw[f] at e1
   injection e1 with a1 a2 a3;exact⟨by omega,by rw[a3];decide,.inl a1⟩
  ·rw[f] at e1
   injection e1 with a1 a2 a3;exact⟨by omega,by omega,.inr ⟨g,a1⟩⟩
 have bu:=jb Z;have dm:Hid (n0<=nl):=b6;have bs:Hid (least<=n0):=b9;clear b7 r f v b0 az b3 Y z ba bf O3 C k3 J hL ad ah HA ac W O ae HF ag bm bi bh bj f1 f5 c1 c5 Z b9;go_wp2_with fail
 go_loopw [9,10] (fun t9 t10 wr=>∃ n:Nat,t9=j7 n/\least<=n/\n<=n0/\ja w3 wr (fun _=>False)) (fun t9 _ _=>n0+1-(intOf t9).toNat)
 case atStart=>exact⟨least,rfl,ZQ _,bs.out,ja.refl _ _⟩
 case round =>
  obtain⟨n,rfl,b8,b5,kk⟩:=hrel;have l:=kk.same bl.out id;have c2:=zA (o:=2) l;have f2:=zB (o:=2) l;have c3:=zA (o:=3) l;have f3:=zB (o:=3) l;have c4:=zA (o:=4) l;have f4:=zB (o:=4) l;simp at c2 c3 c4;rw[j.out] at c2;have ai:=jb (Uu wv ess ((a4.out.wri).same kk) H8.out n (by rw[<-af.out];omega) (by omega));rw[j.out] at ai;have dx:(n:Int)<=(nl:Int):=by omega
  have dv:IntKind.i64.wrap ((n:Int)+1)=(n:Int)+1:=zE (by omega) (by omega);have bn:=jb kk;have X:=jb b5;have cq:=jb b8;go_wp2_with fail;refine ai.out.mono ?_;rintro e w4 ⟨v4,rfl,b2,k4⟩;go_wp2_with fail;have aa:=Rf.Hs ess H8.out n;refine(jgb lv v4 s.tell (Rf.zn (ess.take n)) ((cn.out.same bn.out).same k4) ⟨_,b2⟩ (by have:=cl.out;omega) (by have:=aa.2.2;omega)).mono ?_;rintro e w5 ⟨rfl,k5⟩;obtain⟨q,hq⟩:∃ q,q=decide (s.tell.map br=(Rf.zn (ess.take n)).map br):=⟨_,rfl⟩;rw[<-hq];have ab:=(bn.out.tt k4).tt k5;have b1:=ab.same bl.out id;have HQ:=jb hq;have M:=jb ab;have u:=jb b1;have ct:=jb aa;clear hq ab b1 k4 k5 b2 aa l ai kk b5 b8 c2 f2 c3 f3 c4 f4
  cases q with
  | false =>
   go_wp2
   have dw:n≠n0:=fun e=>by
    have:=HQ.out;rw[e,<-aj.out,decide_eq_true rfl] at this;cases this
   exact⟨⟨n+1,by simp,by have:=cq.out;omega,by have:=X.out;omega,M.out⟩,by have:=X.out;simp[intOf];omega⟩
  | true =>
   have c2:=zA (o:=2) u.out;have f2:=zB (o:=2) u.out;have c3:=zA (o:=3) u.out;have f3:=zB (o:=3) u.out;have c4:=zA (o:=4) u.out;have f4:=zB (o:=4) u.out;simp at c2 c3 c4;rw[j.out] at c2;have dl:n<=cw:=by have:=bu.out.1;have:=X.out;omega
   go_wp2;go_ret;have k6:ja w5 (((w5.setCell ⟨kb,2,none⟩ (.slice pw n cw)).setCell ⟨kb,3,none⟩ (.bool false)).setCell ⟨kb,4,none⟩ (.int .i64 n)) (fun i=>i=kb):=Uw _ _ _ _ _ _ _ _;have r:n<=ess.length:=by have:=af.out;have:=X.out;omega
   have y:s.tell=Rf.zn (ess.take n):=Hm (Rf.St.jae s).1 ct.out.2.1 (of_decide_eq_true HQ.out.symm);refine⟨rfl,b,F3,S3,s,n,.slice pw n cw,(jd ((jd ((jd u.out _).trans rfl) _).trans rfl) _).trans rfl,(co.out.same M.out).keep k6 (fun i _ e=>?_),cp.out n r y,ck.out,r,?_,a6.out,cu.out,(cr.out.trans M.out (fun _ _ t=>t.elim)).trans k6 (fun _ _ t=> .inr t),fun g hg=>by rw[j.out];cases pw<;>exact hg⟩
   ·have e':i=kb:=e
    rw[e'];exact⟨bp.out,a6.out⟩
   ·exact((a4.out.step M.out (fun _ t=>t.elim) (fun i t=> .inl t)).step k6 (fun i t=> .inr t) (fun i t=> .inl t)).take r (by rw[j.out,af.out])
end Go.Proofs.YtnipbplghijdmaaGreatDoor
namespace Go.Proofs.YtnipbplghijdmaaGreatDoor
open RowKit Maps WideShapes Go.Proofs.Tryz
variable {E:Nat->Addr} {B:Nat} {w w' w0:World} {d b k kb U V N L:Nat} {S S':jc} {s:Rf.St} {deg:Bool} {F T:Nat->Prop} {Q R:Want} {m:Rf.Man} {bls:List (List Rf.Ch)} {ρ:Nat->j3} {ess:List (List Rf.Ch)} {wv:Value}
def zz(w:World)(G:Nat->Prop)(w':World)(G':Nat->Prop):Prop:=ja w w' G/\∀ i,G' i->G i\/w.heap.size<=i
theorem zz.trans{w c b:World}{G f d:Nat->Prop}(h:zz w G c f)(k:zz c f b d):zz w G b d:=by
 have g:=h.1.size;refine⟨h.1.trans k.1 (fun i hi t=>?_),fun i t=>?_⟩
 ·rcases h.2 i t with t|t
  ·exact t
  ·omega
 ·rcases k.2 i t with t|t
  ·exact h.2 i t
  ·exact .inr (by omega)
theorem zz.same{w c b:World}{G d:Nat->Prop}(h:zz w G c d)(k:ja c b (fun _=>False)):zz w G b d:=⟨h.1.trans k (fun _ _ t=>t.elim),h.2⟩
theorem zz.after{w c b:World}{G d:Nat->Prop}(k:ja w c (fun _=>False))(h:zz c G b d):zz w G b d :=
 ⟨(k.up).tt h.1,fun i t=>(h.2 i t).imp id (fun t=>ZR k.size t)⟩
theorem zz.refl(w:World)(G:Nat->Prop):zz w G w G:=⟨ja.refl _ _,fun _ t=> .inl t⟩
structure Bk(E:Nat->Addr)(B:Nat)(w0:World)(kb d b:Nat)(S:jc)(s:Rf.St)(wv:Value)(ess:List (List Rf.Ch))(fl:Bool)(sf:Nat)(bd:Bool)(F:Nat->Prop)(w:World):Prop where
 row:w.heap[kb]?=some (.cells (zy d b wv fl sf bd) 51 (0,0))
 own:Qt E B w d b S 160000 s bd F
 wr:Wr w0 w (fun i=>F i\/i=kb) wv ess
 nkb:¬F kb/\w0.heap.size<=kb
 new:∀ i,F i->w0.heap.size<=i
 base:B<=w0.heap.size
def bkG(F:Nat->Prop)(kb:Nat)(wv:Value)(i:Nat):Prop:=F i\/i=kb\/wv.ownBlock=some i
section
variable {fl bd:Bool} {sf:Nat}
theorem Bk.same(h:Bk E B w0 kb d b S s wv ess fl sf bd F w)(k:ja w w' (fun _=>False)):Bk E B w0 kb d b S s wv ess fl sf bd F w' :=
 ⟨k.same h.row id,h.own.same k,h.wr.step k (fun _ t=>t.elim) (fun _ t=> .inl t),h.nkb,h.new,h.base⟩
theorem Bk.slice(h:Bk E B w0 kb d b S s wv ess fl sf bd F w):∃ p c,wv = .slice p ess.length c:=by
 obtain⟨⟨xs,f,_⟩,_⟩:=h.wr;exact jm f
theorem Bk.lt(h:Bk E B w0 kb d b S s wv ess fl sf bd F w){i:Nat}(c:bkG F kb wv i):w0.heap.size<=i/\i<w.heap.size:=by
 rcases c with t|t|t
 ·exact⟨h.new i t,(h.own.old t).2⟩
 ·rw[t];exact⟨h.nkb.2,zC h.row⟩
 ·obtain⟨⟨xs,f,_⟩,_⟩:=h.wr
  exact f.lt i t
theorem Bk.step{b':Nat}{S':jc}{s':Rf.St}{c:Bool}{k':Nat}(h:Bk E B w0 kb d b S s wv ess fl sf bd F w)(j:qg E B w d b S' k' s' c F w')(k:k'<=160000) :
 ∃ F',w'.heap[kb]?=some (.cells (zy d b wv fl sf bd) 51 (0,0))/\Qt E B w' d b S' 160000 s' c F'/\Wr w0 w' (fun i=>F' i\/i=kb) wv ess/\¬F' kb/\(∀ i,F' i->w0.heap.size<=i)/\zz w F w' F':=by
 obtain⟨F',O,g,f⟩:=j
 have l:¬F' kb:=fun t=>by
  rcases f kb t with t|t
  ·exact h.nkb.1 t
  ·have:=zC h.row;omega
 obtain⟨_,_,m,_⟩:=O.xl;refine⟨F',g.same h.row h.nkb.1,O.fit (m.mono k),h.wr.step g (fun i t=> .inl t) (fun i t=>?_),l,fun i t=>?_,g,f⟩
 ·rcases t with t|t
  ·exact(f i t).imp .inl id
  ·exact .inl (.inr t)
 ·rcases f i t with t|t
  ·exact h.new i t
  ·have:=(h.lt (.inr (.inl rfl):bkG F kb wv kb));omega
theorem zz.bk{b:Nat->Prop}(h:zz w F w' b):zz w (bkG F kb wv) w' (bkG b kb wv):=⟨h.1.mono (fun _ _ t=> .inl t),fun i t=>by
 rcases t with t|t
 ·exact(h.2 i t).imp .inl id
 ·exact .inl (.inr t)⟩
theorem ja6{j i g f:Value}{p:Option Addr}{n c:Nat}{d:Bool}(b:w.heap[kb]?=some (.cells #[j,i,.slice p n c,.bool d,g,f] 51 (0,0)))(k:d=true->1<=n)(q:n<=131072) :
 Calls prog 42 #[.pointer (some ⟨kb,0,none⟩)] w fun e w'=>e = .returned (j7 (n-d.toNat))/\w'=w:=by
 have m:=zA (o:=2) b;have l:=zA (o:=3) b;simp at m l;clear b
 cases d with
 | false =>
  go_enter func42,ntmps42;go_wp2;go_ret;exact⟨rfl,rfl⟩
 | true =>
  have r:=k rfl
  have s:IntKind.i64.wrap ((n:Int)-1)=((n-1:Nat):Int):=by
   rw[zE (by omega) (by omega)];omega
  go_enter func42,ntmps42;go_wp2;go_ret;exact⟨rfl,rfl⟩
end
theorem jdx(D:Dk E B w ρ d S)(H:Env E B w)(n:Int)(b:n<=9223372036854775807) :
 Calls prog 35 #[.pointer (some ⟨d,0,none⟩),.int .i64 n] w fun e w'=>e = .returned (.tuple #[])/\Dk E B w' ρ d { S with fail:=max n (-1) }/\ja w w' (fun i=>ρ i≠ .none)/\Env E B w':=by
 refine(jdy n b D.rep).mono ?_;rintro e c ⟨rfl,R,g⟩;exact⟨rfl,D.step g R,g.keeps,H.keep g.keeps (fun i t=>D.yx i t)⟩
theorem jhd(D:Dk E B w ρ d S)(H:Env E B w)(n:Int)(b:n<=9223372036854775807) :
 Calls prog 44 #[.pointer (some ⟨d,0,none⟩),.int .i64 n] w fun e w'=>e = .returned (.tuple #[])/\Dk E B w' ρ d { S with cut:=max n (-1) }/\ja w w' (fun i=>ρ i≠ .none)/\Env E B w':=by
 refine(jfg n b D.rep).mono ?_;rintro e c ⟨rfl,R,g⟩;exact⟨rfl,D.step g R,g.keeps,H.keep g.keeps (fun i t=>D.yx i t)⟩
def Zm(w:World)(B0:Nat)(v:Value)(ch:List Int):Prop :=
 ∃ o c,v = .slice o ch.length c/\ch.length<=c/\c<=maxLen/\(∀ x∈ch,-9223372036854775808<=x/\x<=9223372036854775807)/\(ch≠[]->∃ g k,o=some ⟨g,k,none⟩/\g<B0/\∀ j,j<ch.length->w.cell? ⟨g,k+j,none⟩=some (.int .i64 (ch.getD j 0)))
theorem Zm.keep{b:Nat}{v:Value}{ch:List Int}{U:Nat->Prop}(h:Zm w b v ch)(f:ja w w' U)(m:∀ i,i<b->¬U i):Zm w' b v ch:=by
 obtain⟨o,c,e,r,q,p,n⟩:=h;refine⟨o,c,e,r,q,p,fun hne=>?_⟩;obtain⟨g,k,s,d,l⟩:=n hne;exact⟨g,k,s,d,fun j hj=>f.cell (l j hj) (m g d)⟩
theorem Ww{m:Nat}{v:Value}{ch:List Int}(D:Dk E B w ρ d S)(x:Fit k S)(J:k<540000000000)(H:Env E B w)(n:∀ f a,S.files f=some a->a.Wf)(y:Zm w m v ch)(A:∀ i,ρ i≠ .none->m<=i){l:Nat}(q:l<w.heap.size)(p:ρ l = .none)(G:m<=w.heap.size) :
 Calls prog 43 #[.pointer (some ⟨d,0,none⟩),v] w fun e w'=>e = .returned (.tuple #[])/\∃ ρ',Dk E B w' ρ' d (S.crashed ch)/\ja w w' (fun i=>ρ i≠ .none)/\(∀ i,i<w.heap.size->ρ' i=ρ i)/\Env E B w':=by
 obtain⟨o,c,rfl,u,s,r,C⟩:=y;have F:=x.safe
 have b:∃ j,Be w ρ (.slice o ch.length c) j ch:=by
  by_cases hne:ch=[]
  ·exact⟨l,q,p,o,c,rfl,u,s,r,fun h=>absurd hne h⟩
  ·obtain⟨g,k,e,L,z⟩:=C hne
   exact⟨g,by omega,yD (fun t=>by have:=A g t;omega),o,c,rfl,u,s,r,fun _=>⟨k,e,z⟩⟩
 obtain⟨j,b⟩:=b;refine(jbk _ j ch D.rep (x.small (by omega)) n (by omega) b).mono ?_;rintro e I ⟨rfl,ρ',R,g⟩;exact⟨rfl,ρ',D.step g R,g.keeps,g.role,H.keep g.keeps (fun i t=>D.yx i t)⟩
theorem jgq(O:Qt E B w d b S k s deg F)(n:Int)(f:n<=9223372036854775807) :
 Calls prog 35 #[.pointer (some ⟨d,0,none⟩),.int .i64 n] w fun e w'=>e = .returned (.tuple #[])/\qg E B w d b { S with fail:=max n (-1) } k s deg F w':=by
 obtain⟨ρ,rv,j,T,g⟩:=O;refine(jdx T.xl T.env n f).mono ?_;rintro e i ⟨rfl,D,c,_⟩;exact⟨rfl,qg.of (s':=s) T g (T.next (c.mono (fun _ _ t=> .inl t)) (fun _ _=>rfl) D (T.fit.zr rfl rfl rfl rfl) (c.same T.row (fun t=>t T.nb.1)))⟩
theorem jhc(O:Qt E B w d b S k s deg F)(n:Int)(f:n<=9223372036854775807) :
 Calls prog 44 #[.pointer (some ⟨d,0,none⟩),.int .i64 n] w fun e w'=>e = .returned (.tuple #[])/\qg E B w d b { S with cut:=max n (-1) } k s deg F w':=by
 obtain⟨ρ,rv,j,T,g⟩:=O;refine(jhd T.xl T.env n f).mono ?_;rintro e i ⟨rfl,D,c,_⟩;exact⟨rfl,qg.of (s':=s) T g (T.next (c.mono (fun _ _ t=> .inl t)) (fun _ _=>rfl) D (T.fit.zr rfl rfl rfl rfl) (c.same T.row (fun t=>t T.nb.1)))⟩
end Go.Proofs.YtnipbplghijdmaaGreatDoor
namespace Go.Proofs.YtnipbplghijdmaaGreatDoor
open RowKit Maps WideShapes Go.Proofs.Tryz
variable {U:Nat} {S S':jc} {s t:Rf.St} {Q R:Want} {ess:List (List Rf.Ch)} {es:List Rf.Ch} {sf lv N L:Nat} {m:Rf.Man} {bls:List (List Rf.Ch)}
structure Alike(S S':jc):Prop where
 names:S'.names=S.names
 files:S'.files=S.files
 safe:S'.safe=S.safe
 late:S'.late=S.late
theorem Alike.fail(S:jc)(n:Int):Alike S { S with fail:=n }:=⟨rfl,rfl,rfl,rfl⟩
theorem Alike.cut(S:jc)(n:Int):Alike S { S with cut:=n }:=⟨rfl,rfl,rfl,rfl⟩
theorem Alike.trans{T:jc}(h:Alike S S')(k:Alike S' T):Alike S T:=⟨k.names.trans h.names,k.files.trans h.files,k.safe.trans h.safe,k.late.trans h.late⟩
theorem Alike.refl(S:jc):Alike S S:=⟨rfl,rfl,rfl,rfl⟩
theorem Pow.alike(h:Pow S U m bls Q)(k:Alike S S'):Pow S' U m bls Q:=h.zr k.names k.files k.safe k.late
theorem At.alike{n:Str}{P:jy->Prop}(h:At S n P)(k:Alike S S'):At S' n P:=h.zr k.names k.files
theorem Norm.alike(h:Norm S U s Q)(k:Alike S S'):Norm S' U s Q:=⟨h.pow.alike k,by rw[k.late];exact h.late,h.log.alike k,h.now,h.ok,h.only.zr k.names⟩
theorem Safe.alike(h:Safe S U Q)(k:Alike S S'):Safe S' U Q:=by
 obtain⟨m,b,h⟩:=h;exact⟨m,b,h.alike k⟩
theorem Left.alike(h:Left S U Q)(k:Alike S S'):Left S' U Q:=h.imp (fun h=>h.alike k) (fun h=>h.alike k)
theorem Jm.alike(h:Jm S s)(k:Alike S S'):Jm S' s:=fun p hp=>(h p hp).alike k
theorem Alike.total(k:Alike S S'):total S'.files S'.names=total S.files S.names:=by rw[k.files,k.names]
theorem Safe.mono{V:Nat}(h:Safe S U Q)(c:U<=V)(d:Q.Le R):Safe S V R:=by
 obtain⟨m,b,h⟩:=h;exact⟨m,b,h.mono c d⟩
def Rest(S:jc)(Q:Want):Prop:=Safe S 11800 Q\/Safe S 20000 Q.whole
theorem Left.rest(h:Left S 5400 Q):Rest S Q:=h.imp (fun h=>h.mono (by omega) (Want.Le.refl _)) (fun h=>h.mono (by omega) (Want.Le.refl _))
theorem Rest.wf(h:Rest S Q):∀ f a,S.files f=some a->a.Wf:=by
 rcases h with⟨m,b,h⟩|⟨m,b,h⟩<;>exact h.wf
theorem Rest.mono(h:Rest S Q)(b:Q.Le R):Rest S R:=h.imp (fun h=>h.mono (ZQ _) b) (fun h=>h.mono (ZQ _) ⟨b.Jj,b.now,fun _ t=>t⟩)
def Zj(S:jc)(P:Rf.St->Prop):Prop:=∃ U m bls Q,U<=20000/\Pow S U m bls Q/\(∀ t,Q.now t->P t)/\∀ t:Rf.St,Q.Qc t->qt t.files<=5700/\U+5800<=20000
theorem Zj.mono{P c:Rf.St->Prop}(h:Zj S P)(d:∀ t,P t->c t):Zj S c:=by
 obtain⟨U,m,b,Q,j,i,g,f⟩:=h;exact⟨U,m,b,Q,j,i,fun t q=>d t (g t q),f⟩
theorem Zj.alike{P:Rf.St->Prop}(h:Zj S P)(k:Alike S S'):Zj S' P:=by
 obtain⟨U,m,b,Q,g,f,d,c⟩:=h;exact⟨U,m,b,Q,g,f.alike k,d,c⟩
theorem Rest.Tk(h:Rest S Q)(c:∀ t:Rf.St,Q.Qc t->qt t.files<=5700):Zj S Q.now:=by
 rcases h with⟨m,b,h⟩|⟨m,b,h⟩
 ·exact⟨_,m,b,Q,by omega,h,fun _ q=>q,fun t q=>⟨c t q,by omega⟩⟩
 ·exact⟨_,m,b,Q.whole,by omega,h,fun _ q=>q,fun t q=>q.elim⟩
theorem Rest.Jj(h:Rest S Q)(j:∀ t:Rf.St,Q.Qc t->qt t.files<=5700)(ch:List Int):Zj (S.crashed ch) Q.Jj/\qh (S.crashed ch)/\Fit 60000 (S.crashed ch):=by
 rcases h with⟨m,i,h⟩|⟨m,i,h⟩
 ·obtain⟨d,b,c,g,f⟩:=h.Jj ch
  exact⟨⟨_,d,b,Q.down,by omega,c,fun _ q=>q,fun t q=>⟨j t q,by omega⟩⟩,f,c.fit g (by omega)⟩
 ·obtain⟨d,b,c,g,f⟩:=h.Jj ch
  exact⟨⟨_,d,b,Q.whole.down,by omega,c,fun _ q=>q,fun t q=>q.elim⟩,f,c.fit g (by omega)⟩
theorem Norm.rest(h:Norm S U s Q)(b:U<=20000)(d:At S (jh s.m.log) (yt (Rf.jk s.m.last s.bs)))(c:R.now s):Rest S R:=by
 have f:Norm S U s R.whole:=h.again d c;exact .inr (f.safe.mono b (Want.Le.refl _))
end Go.Proofs.YtnipbplghijdmaaGreatDoor
namespace Go.Proofs.YtnipbplghijdmaaGreatDoor
open RowKit Maps WideShapes Go.Proofs.Tryz
variable {E:Nat->Addr} {B:Nat} {w w' w0 wz:World} {d b k kb U V N L:Nat} {S S':jc} {s:Rf.St} {deg:Bool} {F T:Nat->Prop} {Q R:Want} {m:Rf.Man} {bls:List (List Rf.Ch)} {ρ:Nat->j3} {ess:List (List Rf.Ch)} {wv:Value} {fl bd:Bool} {sf lv:Nat}
def Tf(E:Nat->Addr)(B:Nat)(w0 wz:World)(kb d:Nat)(F:Nat->Prop)(wv:Value)(N L:Nat)(ess:List (List Rf.Ch))(w':World):Prop :=
 ∃ b S' s n wv' F',Bk E B w0 kb d b S' s wv' (ess.take n) false n false F' w'/\Norm S' 20000 s (qi (ess.take n) n n (N+1) L).whole/\qh S'/\n<=ess.length/\zz wz (bkG F kb wv) w' (bkG F' kb wv')
structure Bd(E:Nat->Addr)(B:Nat)(w0 wz:World)(kb d:Nat)(F:Nat->Prop)(S:jc)(k:Nat)(wv:Value)(ess:List (List Rf.Ch))(ρ:Nat->j3)(w:World):Prop where
 xl:Dk E B w ρ d S
 fit:Fit k S
 env:Env E B w
 wr:Wr w0 w (fun i=>ρ i≠ .none\/i=kb) wv ess
 nkb:ρ kb = .none/\w0.heap.size<=kb
 new:∀ i,ρ i≠ .none->w0.heap.size<=i
 base:B<=w0.heap.size
 wj:zz wz (bkG F kb wv) w (bkG (fun i=>ρ i≠ .none) kb wv)
theorem Bd.same(h:Bd E B w0 wz kb d F S k wv ess ρ w)(b:ja w w' (fun _=>False)):Bd E B w0 wz kb d F S k wv ess ρ w' :=
 ⟨h.xl.same b,h.fit,h.env.same b,h.wr.step b (fun _ t=>t.elim) (fun _ t=> .inl t),h.nkb,h.new,h.base,h.wj.same b⟩
theorem Bd.step{c:Nat->j3}{k':Nat}(h:Bd E B w0 wz kb d F S k wv ess ρ w)(D:Dk E B w' c d S')(g:Fit k' S')(H:Env E B w')(f:ja w w' (fun i=>ρ i≠ .none))(b:∀ i,c i≠ .none->ρ i≠ .none\/w.heap.size<=i)(j:kb<w.heap.size):Bd E B w0 wz kb d F S' k' wv ess c w':=by
 refine⟨D,g,H,h.wr.step f (fun _ t=> .inl t) (fun i t=>?_),⟨yD (fun t=>?_),h.nkb.2⟩,fun i t=>?_,h.base,h.wj.trans ⟨f.mono (fun _ _ t=> .inl t),fun i t=>?_⟩⟩
 ·rcases t with t|t
  ·exact(b i t).imp .inl id
  ·exact .inl (.inr t)
 ·rcases b kb t with t|t
  ·exact t h.nkb.1
  ·omega
 ·rcases b i t with t|t
  ·exact h.new i t
  ·have:=h.nkb.2;omega
 ·rcases t with t|t
  ·exact(b i t).imp .inl id
  ·exact .inl (.inr t)
theorem vf{ρ c:Nat->j3}(h:∀ i,i<w.heap.size->c i=ρ i):∀ i,c i≠ .none->ρ i≠ .none\/w.heap.size<=i:=fun i t=>by
 rcases ZM i w.heap.size with b|b
 ·rw[h i b] at t;exact .inl t
 ·exact .inr b
theorem kj{least:Nat}{v u r q:Value}(h:Bd E B w0 wz kb d F S k wv ess ρ w)(D:k<400000000000)(y:qh S)(P:Zj S (fun t=>t.m.next<=N/\t.last<=L/\∃ n,least<=n/\n<=ess.length/\t.tell=Rf.zn (ess.take n)))(J:N+1<=2000000000)(f:w.heap[kb]?=some (.cells #[.pointer (some ⟨d,0,none⟩),v,wv,u,r,q] 51 (0,0)))(M:∀ b∈ess,b.length<=8)(g:ess.length<=131072)(c:least<=131072) :
 Calls prog 41 #[.pointer (some ⟨kb,0,none⟩),j7 least] w fun e w'=>e = .returned (.bool true)/\Tf E B w0 wz kb d F wv N L ess w':=by
 obtain⟨U,m,Y,Q,G,P,I,H⟩:=P;refine(jc2 h.xl h.fit h.env D y P G I H J f h.nkb.1 (ZR h.base h.nkb.2) h.wr (fun i t=> .inl t) (.inr rfl) M g c).mono ?_;rintro e Z ⟨rfl,b,V,S',s,n,j,A,O,R,W,C,l,o,p,x,z⟩;obtain⟨_,_,T,_⟩:=O.xl;have X:=zC f;refine⟨rfl,b,S',s,n,j,V,⟨A,O.fit (T.mono (by omega)),l,⟨o,h.nkb.2⟩,fun i t=>?_,h.base⟩,R,W,C,h.wj.trans ⟨x.mono (fun i _ t=>t.imp id .inl),fun i t=>?_⟩⟩
 ·rcases p i t with t|t
  ·exact h.new i t
  ·have:=h.nkb.2;omega
 ·rcases t with t|t|t
  ·exact(p i t).imp .inl id
  ·exact .inl (.inr (.inl t))
  ·exact .inl (.inr (.inr (z i t)))
theorem Bk.closed(h:Bk E B w0 kb d b S s wv ess fl sf bd F w):Calls prog 40 #[.pointer (some ⟨b,0,none⟩)] w fun e w'=>e = .returned (.int .i64 0)/\w'.heap[kb]?=some (.cells (zy d b wv fl sf bd) 51 (0,0))/\∃ ρ,Bd E B w0 w kb d F S 160000 wv ess ρ w':=by
 refine(jfi h.own).mono ?_;rintro e m ⟨rfl,f,ρ,D,k,c,g,l,H⟩;have j:kb≠b:=fun e=>h.nkb.1 (by rw[e];exact g);refine⟨rfl,f.same h.row (fun t=>j t),ρ,D,k,H,h.wr.step f (fun i t=> .inl (by rw[show i=b from t];exact g)) (fun i t=>?_),⟨yD (fun t=>h.nkb.1 (c kb t)),h.nkb.2⟩,fun i t=>h.new i (c i t),h.base,f.mono (fun i _ t=> .inl (by rw[show i=b from t];exact g)),fun i t=>?_⟩
 ·rcases t with t|t
  ·exact .inl (.inl (c i t))
  ·exact .inl (.inr t)
 ·rcases t with t|t
  ·exact .inl (.inl (c i t))
  ·exact .inl (.inr t)
theorem jbj(h:Bk E B w0 kb d b S s wv ess fl sf bd F w)(I:Rest S (qi ess sf lv N L))(hN:N+1<=2000000000)(J:∀ b∈ess,b.length<=8)(u:ess.length<=131072)(z:sf<=131072){y:Value}{ch:List Int}(x:Zm w w0.heap.size y ch) :
 Calls prog 126 #[.pointer (some ⟨kb,0,none⟩),y] w fun e w'=>e = .returned (.bool true)/\Tf E B w0 w kb d F wv N L ess w':=by
 have r:=jb h.closed;have O:=zA (o:=1) h.row;simp at O;have HP:=jb x;have HH:=jb h;have V:=jb I;have H8:=jb J;obtain⟨pc,nc,cc,A⟩:∃ p n c,y = .slice p n c:=by obtain⟨o,c,e,_⟩:=x;exact⟨o,_,c,e⟩
 subst A;clear h I J x;go_enter func126,ntmps126;go_wp2_with fail;refine r.out.mono ?_;rintro e w1 ⟨rfl,g,ρ,f⟩;have R:=zA (o:=0) g;simp at R;have k:=zC g;have m:=jb (Ww (ch:=ch) f.xl f.fit (by omega) f.env V.out.wf (HP.out.keep f.wj.1 (fun i hi t=>by have:=(HH.out.lt t).1;omega)) f.new k f.nkb.1 (by have:=f.nkb.2;omega));have W:=jb f;have C:=jb g;have G:=jb k;clear f g k r O;go_wp2_with fail;refine m.out.mono ?_;rintro e w2 ⟨rfl,ρ',Z,v,H,Y⟩;obtain⟨U,T,X⟩:=V.out.Jj (fun t q=>q) ch;have l:=W.out.step Z X Y v (vf H) G.out;have j:=v.same C.out (fun t=>t W.out.nkb.1);have c4:=zA (o:=4) j;simp at c4;have D:=jb (kj (least:=sf) l (by omega) T U hN j H8.out u z);clear l j H Z v Y U T X m R;go_wp2_with fail;refine D.out.mono ?_;rintro e w3 ⟨rfl,M⟩;have H3:=jb M;clear M;go_wp2;go_ret;exact⟨rfl,H3.out⟩
end Go.Proofs.YtnipbplghijdmaaGreatDoor
namespace Go.Proofs.YtnipbplghijdmaaGreatDoor
open RowKit Maps WideShapes Go.Proofs.Tryz
variable {E:Nat->Addr} {B:Nat} {w w' w0 wz:World} {d b k kb U V N L:Nat} {S S':jc} {s:Rf.St} {deg:Bool} {F T:Nat->Prop} {Q R:Want} {m:Rf.Man} {bls:List (List Rf.Ch)} {ρ:Nat->j3} {ess:List (List Rf.Ch)} {wv:Value} {fl bd:Bool} {sf lv:Nat}
structure X5 where
 kd:Int
 A:Int
 N:Int
 kv:Value
 keys:List Int
 fa:Int
 ct:Int
 cv:Value
 chs:List Int
abbrev X5.row(a:X5):Array Value:=#[.int .i64 a.kd,.int .i64 a.A,.int .i64 a.N,a.kv,.int .i64 a.fa,.int .i64 a.ct,a.cv]
def I64(c:Int):Prop:= -9223372036854775808<=c/\c<=9223372036854775807
structure od(w:World)(B0:Nat)(a:X5):Prop where
 kd:I64 a.kd
 A:I64 a.A
 N:I64 a.N
 fa:I64 a.fa
 ct:I64 a.ct
 keys:Zs w a.kv a.keys
 jdn:a.keys≠[]->∀ p n c,a.kv = .slice (some p) n c->p.block<B0
 chs:Zm w B0 a.cv a.chs
theorem od.keep{d:Nat}{a:X5}{U:Nat->Prop}(h:od w d a)(f:ja w w' U)(g:∀ i,i<d->¬U i):od w' d a:=by
 refine⟨h.kd,h.A,h.N,h.fa,h.ct,?_,h.jdn,h.chs.keep f g⟩;obtain⟨p,c,e,q,n,m,l⟩:=h.keys;refine⟨p,c,e,q,n,m,fun j z hz=>?_⟩;obtain⟨b,o,r,k⟩:=l j z hz;subst r;exact⟨b,o,rfl,f.cell k (g b (h.jdn (fun t=>by rw[t] at hz;cases hz) _ _ _ e))⟩
def jfw(E:Nat->Addr)(B:Nat)(w0 wz:World)(kb d:Nat)(F:Nat->Prop)(S:jc)(k:Nat)(wv:Value)(ess:List (List Rf.Ch))(sf lv N L:Nat)(ρ:Nat->j3)(w:World)(e:Ending)(w':World):Prop :=
 ∃ pv fv sf' ρ' S',e = .returned (.tuple #[.pointer pv,.int .i64 fv])/\Bd E B w0 wz kb d F S' (2*k+300000) wv ess ρ' w'/\Rest S' (qi ess sf' lv (N+1) L)/\Cl S S'/\ja w w' (fun i=>ρ i≠ .none) /\
  ((pv=none/\fv=1/\sf'=sf/\¬qh S)\/((∃ b,pv=some ⟨b,0,none⟩)/\fv=0/\sf'=lv))
theorem Ug(h:Bd E B w0 wz kb d F S k wv ess ρ w)(y:k<400000000000)(A:Left S 5400 (qi ess sf lv N L))(r:lv<=ess.length)(hN:N+1<=2000000000)(j:kb<w.heap.size) :
 Calls prog 45 #[.pointer (some ⟨d,0,none⟩)] w (jfw E B w0 wz kb d F S k wv ess sf lv N L ρ w):=by
 have key:∀ {U V:Nat} {Q R:Want} {m:Rf.Man} {c:List (List Rf.Ch)},Pow S U m c Q->Q.Le R->(∀ t,Q.now t->Q.Qc t->R.now ⟨t.m.xr,t.bs,t.bls⟩)->(∀ t,Q.now t->t.m.next+1<=2000000000)->U<=V->V<=20000->(∀ t:Rf.St,Q.Qc t->qt t.files<=5700/\U+5800<=V)->(∀ t,R.now t->(qi ess lv lv (N+1) L).now t)->(∀ T,Safe T V R->Rest T (qi ess sf lv (N+1) L)) ->
  Calls prog 45 #[.pointer (some ⟨d,0,none⟩)] w (jfw E B w0 wz kb d F S k wv ess sf lv N L ρ w):=by
  intro U V Q R m c P X W M J u I l H
  refine(Uf h.xl h.fit h.env y P X W M J u I).mono ?_
  rintro e Y (⟨rfl,x,n,S',D,q,z,p,g,o⟩|⟨b,F',S',s,rfl,Z,O,v,G,hW,p,g,C⟩)
  ·exact⟨_,_,sf,n,S',rfl,h.step D q (h.env.keep g (fun i t=>h.xl.yx i t)) g (vf o) j,H _ z,p,g,.inl ⟨rfl,rfl,rfl,x⟩⟩
  ·obtain⟨n,D,q,o⟩:=O.xl
   exact⟨_,_,lv,n,S',rfl,h.step D (q.mono (by omega)) O.env g (fun i t=>C i (o i t)) j,v.rest u G (l _ v.now),p,g,.inr ⟨⟨b,rfl⟩,rfl,rfl⟩⟩
 have f:(qi ess sf lv N L).Le (qi ess sf lv (N+1) L):=qi.le (by omega) (by omega);have l:∀ t,(qi ess sf lv (N+1) L).now t->(qi ess lv lv (N+1) L).now t:=fun t ht=>qi.now ht.1.1 ht.1.2.1 (ZQ _) r ht.2;rcases A with⟨m,c,P⟩|⟨m,c,P⟩
 ·exact key (V:=11800) P f (fun t ht _=>qi.xr ht) (fun t ht=>by have:=ht.1.1;omega) (by omega) (by omega) (fun t ht=>⟨ht,by omega⟩) l (fun T hT=> .inl hT)
 ·exact key (V:=20000) (R:=(qi ess sf lv (N+1) L).whole) P ⟨f.Jj,f.now,fun _ t=>t⟩ (fun t _ ht=>ht.elim) (fun t ht=>by have:=ht.1.1;omega) (by omega) (by omega) (fun t ht=>ht.elim) l (fun T hT=> .inr hT)
end Go.Proofs.YtnipbplghijdmaaGreatDoor
namespace Go.Proofs.YtnipbplghijdmaaGreatDoor
open RowKit Maps WideShapes Go.Proofs.Tryz
variable {U:Nat} {S S':jc} {s s' t:Rf.St} {Q R:Want} {ess:List (List Rf.Ch)} {es:List Rf.Ch} {sf N L N' L':Nat} {fl bd:Bool}
abbrev Ju(ess:List (List Rf.Ch))(fl:Bool):Nat:=ess.length-fl.toNat
structure u5(S:jc)(s:Rf.St)(ess:List (List Rf.Ch))(fl:Bool)(sf L:Nat)(bd:Bool):Prop where
 flb:fl=true->bd=true/\ess≠[]
 sf:sf<=Ju ess fl
 small:∀ b∈ess,b.length<=8
 len:ess.length<=L
 tell:s.tell=Rf.zn (ess.take (Ju ess fl))
 ok:s.Ok
 few:s.all.length<60000
 runs:Jm S s
structure X4(S:jc)(s:Rf.St)(ess:List (List Rf.Ch))(fl:Bool)(sf N L:Nat)(bd:Bool):Prop where
 st:u5 S s ess fl sf L bd
 xl:(Norm S 20000 s (qi ess sf (Ju ess fl) N L)/\Rest S (qi ess sf (Ju ess fl) N L))\/(bd=true/\Left S 5400 (qi ess sf (Ju ess fl) N L))
structure ya(U:Nat)(S:jc)(s:Rf.St)(ess:List (List Rf.Ch))(fl:Bool)(sf N L:Nat)(bd:Bool):Prop where
 st:u5 S s ess fl sf L bd
 left:Left S 5400 (qi ess sf (Ju ess fl) N L)
 norm:bd=false->Norm S U s (qi ess sf (Ju ess fl) N L)
theorem u5.mono(h:u5 S s ess fl sf L bd)(b:L<=L'):u5 S s ess fl sf L' bd:=⟨h.flb,h.sf,h.small,ZR h.len b,h.tell,h.ok,h.few,h.runs⟩
theorem u5.alike(h:u5 S s ess fl sf L bd)(k:Alike S S'):u5 S' s ess fl sf L bd:=⟨h.flb,h.sf,h.small,h.len,h.tell,h.ok,h.few,h.runs.alike k⟩
theorem Left.mono{U:Nat}(h:Left S U Q)(b:Q.Le R):Left S U R:=h.imp (fun h=>h.mono (ZQ _) b) (fun h=>h.mono (ZQ _) ⟨b.Jj,b.now,fun _ t=>t⟩)
theorem X4.mono(h:X4 S s ess fl sf N L bd)(c:N<=N')(b:L<=L'):X4 S s ess fl sf N' L' bd :=
 ⟨h.st.mono b,h.xl.imp (fun h=>⟨h.1.mono (ZQ _) (qi.le c b),h.2.mono (qi.le c b)⟩) (fun h=>⟨h.1,h.2.mono (qi.le c b)⟩)⟩
theorem ya.mono(h:ya U S s ess fl sf N L bd)(c:N<=N')(b:L<=L'):ya U S s ess fl sf N' L' bd :=
 ⟨h.st.mono b,h.left.mono (qi.le c b),fun e=>(h.norm e).mono (ZQ _) (qi.le c b)⟩
theorem ya.alike(h:ya U S s ess fl sf N L bd)(k:Alike S S'):ya U S' s ess fl sf N L bd :=
 ⟨h.st.alike k,h.left.alike k,fun e=>(h.norm e).alike k⟩
theorem xi.jha(h:xi S S'):Alike S S':=⟨h.names,h.files,h.safe,h.late⟩
theorem ya.toN(h:ya 20000 S s ess fl sf N L bd):X4 S s ess fl sf N L bd:=by
 refine⟨h.st,?_⟩
 cases bd with
 | false=>exact .inl ⟨h.norm rfl,h.left.rest⟩
 | true=>exact .inr ⟨rfl,h.left⟩
theorem X4.small(h:X4 S s ess fl sf N L bd)(b:total S.files S.names<=5000):ya 5400 S s ess fl sf N L bd:=by
 refine⟨h.st,?_,fun e=>?_⟩
 ·rcases h.xl with⟨h,_⟩|⟨_,h⟩
  ·exact .inl ((h.reset b).safe.mono (by omega) (Want.Le.refl _))
  ·exact h
 ·rcases h.xl with⟨h,_⟩|⟨c,h⟩
  ·exact h.reset b
  ·rw[e] at c;cases c
theorem X4.opened{n:Nat}(h:Norm S 20000 s (qi (ess.take n) n n N L).whole)(k:n<=ess.length)(j:∀ b∈ess,b.length<=8)(l:ess.length<=L):X4 S s (ess.take n) false n N L false:=by
 have g:(ess.take n).length=n:=by rw[ZN];omega
 have c:Ju (ess.take n) false=n:=g;have d:=h.mono (ZQ _) (Want.Ev _);have f:=d.bnd (ZR d.pow.total (by omega));have i:Rest S (qi (ess.take n) n n N L):= .inr h.safe;refine⟨⟨fun e=>(by cases e),by rw[c];exact ZQ _,fun b f=>j b (ZU f),by omega,?_,h.ok,by have:=f.all;omega,h.Q2⟩,.inl ⟨by rw[c];exact d,by rw[c];exact i⟩⟩;rw[c];exact d.now.2
theorem u5.lv(h:u5 S s ess fl sf L false):fl=false:=by
 cases fl with
 | false=>rfl
 | true=>exact absurd (h.flb rfl).1 (by decide)
theorem Ge(d:∀ b∈ess,b.length<=8)(c:es.length<=8):∀ b∈ess++[es],b.length<=8:=fun b hb=>by
 rcases ZV.1 hb with t|t
 ·exact d b t
 ·rw[ZW.1 t];exact c
theorem Norm.few(h:Norm S U s Q)(b:U<=20000):s.all.length<20000:=(h.bnd (ZR h.pow.total b)).all
theorem ya.wrote(h:ya 5400 S s ess fl sf N L false)(i:es.length<=8)(b:Norm S' 6000 (s.write es) (qi (ess++[es]) sf (ess.length+1) N (L+1))):ya 20000 S' (s.write es) (ess++[es]) false sf N (L+1) false:=by
 have f:=h.st.lv;subst f;have c:Ju (ess++[es]) false=ess.length+1:=by simp[Ju]
 have d:=h.st.sf;have g:sf<=ess.length:=d;refine⟨⟨fun e=>(by cases e),by rw[c];omega,Ge h.st.small i,by have:=h.st.len;simp;omega,?_,b.ok,by have:=b.few (by omega);omega,b.Q2⟩,?_,fun _=>?_⟩
 ·rw[c];exact b.now.2
 ·rw[c];exact .inl b.safe
 ·rw[c];exact b.mono (by omega) (Want.Le.refl _)
theorem ya.Qc(h:ya 5400 S s ess fl sf N L false)(g:es.length<=8)(P:Pow S' 6000 s.m s.bls (qi (ess++[es]) sf ess.length N (L+1)))(f:Jm S' s):ya 20000 S' s (ess++[es]) true sf N (L+1) true:=by
 have c:=h.st.lv;subst c;have b:Ju (ess++[es]) true=ess.length:=by simp[Ju]
 have i:sf<=ess.length:=h.st.sf;refine⟨⟨fun e=>⟨rfl,by simp⟩,by rw[b];omega,Ge h.st.small g,by have:=h.st.len;simp;omega,?_,h.st.ok,h.st.few,f⟩,?_,fun e=>(by cases e)⟩
 ·have d:=h.st.tell
  rw[b,Bf ess es (ZQ _)];exact d
 ·rw[b];exact .inl ⟨_,_,P⟩
theorem Pow.leftOf{m:Rf.Man}{b:List (List Rf.Ch)}(P:Pow S 5400 m b Q):Left S 5400 Q:= .inl ⟨m,b,P.grow (by omega)⟩
theorem ya.synced(h:ya 5400 S s ess fl sf N L false)(f:Norm S' 5400 s (qi ess sf (Ju ess fl) N L).whole)(d:At S' (jh s.m.log) (yt (Rf.jk s.m.last s.bs))):ya 20000 S' s ess fl ess.length N L false:=by
 have c:=h.st.lv;subst c;have b:Norm S' 5400 s (qi ess ess.length ess.length N L):=(f.mono (ZQ _) (Want.Ev _)).jgc d (ZQ _);exact⟨⟨fun e=>(by cases e),ZQ _,h.st.small,h.st.len,h.st.tell,h.st.ok,h.st.few,b.Q2⟩,b.pow.leftOf,fun _=>b.mono (by omega) (Want.Le.refl _)⟩
theorem ya.jb7(h:ya 5400 S s ess fl sf N L false)(P:Pow S' 5400 s.m s.bls (qi ess sf (Ju ess fl) N L))(b:Jm S' s):ya 20000 S' s ess fl sf N L true :=
 ⟨⟨fun e=>⟨rfl,(h.st.flb e).2⟩,h.st.sf,h.st.small,h.st.len,h.st.tell,h.st.ok,h.st.few,b⟩,P.leftOf,fun e=>(by cases e)⟩
theorem ya.yh(h:ya 5400 S s ess fl sf N L false)(j:Bc S' 5400 s' (qi ess sf (Ju ess fl) N' L))(g:At S' (jh s'.m.log) (yt (Rf.jk s'.m.last s'.bs))):ya 20000 S' s' ess fl ess.length N' L false:=by
 have f:=h.st.lv;subst f;have k:=j.norm;have b:=k.now;have c:(qi ess ess.length ess.length N' L).now s':=qi.now b.1.1 b.1.2.1 (ZQ _) (ZQ _) b.2
 have i:Bc S' 5400 s' (qi ess ess.length ess.length N' L):=by
  rcases j with h|h
  ·exact .inl (h.again g c)
  ·exact .inr (h.again g c)
 have d:=i.norm;exact⟨⟨fun e=>(by cases e),ZQ _,h.st.small,h.st.len,b.2,d.ok,by have:=d.few (by omega);omega,d.Q2⟩,i.left,fun _=>d.mono (by omega) (Want.Le.refl _)⟩
theorem ya.Xh(h:ya 5400 S s ess fl sf N L false)(c:Bc S' 5400 s' (qi ess sf (Ju ess fl) N' L)):ya 20000 S' s' ess fl sf N' L false:=by
 have b:=c.norm;exact⟨⟨h.st.flb,h.st.sf,h.st.small,h.st.len,b.now.2,b.ok,by have:=b.few (by omega);omega,b.Q2⟩,c.left,fun _=>b.mono (by omega) (Want.Le.refl _)⟩
theorem ya.jhb(h:ya 5400 S s ess fl sf N L false)(l:N'+2<=2000000000)(f:s'=s\/s'=s.flush\/s'=s.j8)(i:Left S' 5400 (qi ess sf (Ju ess fl) N' L))(g:Jm S' s')(j:N<=N'):ya 20000 S' s' ess fl sf N' L true:=by
 have c:=h.norm rfl;have b:=c.bnd (ZR c.pow.total (by omega));have d:s.m.next+2<=2000000000:=by have:=c.now.1.1;omega
 have key:s'.tell=s.tell/\s'.Ok/\s'.all.length<60000:=by
  rcases f with rfl|rfl|rfl
  ·exact⟨rfl,h.st.ok,h.st.few⟩
  ·refine⟨Rf.St.vd s,h.st.ok.flush (by have:=b.mem;omega) d (ed h.st.ok) (by have:=b.runs;omega),?_⟩
   rw[Rf.St.Me];exact h.st.few
  ·refine⟨Rf.St.lh h.st.ok,h.st.ok.j8 (by have:=b.live;omega) (by omega),?_⟩
   by_cases hc:s.m.runs=[]
   ·rw[mm hc];exact h.st.few
   ·have p:s.j8.all.length<=Zn (s.j8.mem::s.j8.bls):=vi _
    have o:Zn (s.j8.mem::s.j8.bls)=s.j8.mem.length+Zn s.j8.bls:=by simp[Zn]
    have n:s.j8.mem.length=s.mem.length:=by rw[(mn hc).2]
    have k:Zn s.j8.bls<=s.live.length:=by
     unfold Rf.St.j8;rw[if_neg hc]
     split
     ·simp[Zn]
     ·simp[Zn]
    have:=b.mem;have:=b.live;omega
 exact⟨⟨fun e=>⟨rfl,(h.st.flb e).2⟩,h.st.sf,h.st.small,h.st.len,by rw[key.1];exact h.st.tell,key.2.1,key.2.2,g⟩,i,fun e=>(by cases e)⟩
end Go.Proofs.YtnipbplghijdmaaGreatDoor
namespace Go.Proofs.YtnipbplghijdmaaGreatDoor
open RowKit Maps WideShapes Go.Proofs.Tryz
variable {E:Nat->Addr} {B:Nat} {w w':World} {d b k U V:Nat} {S S':jc} {s:Rf.St} {deg:Bool} {F:Nat->Prop}
theorem Ps(O:Qt E B w d b S k s true F){kb C:Nat}{wv:Value}{I J:Bool}(f:w.heap[kb]?=some (.cells (zy d b wv I C J) 51 (0,0))) :
 Calls prog 38 #[.pointer (some ⟨kb,0,none⟩)] w fun e w'=>e = .returned (.bool true)/\ja w w' (fun _=>False):=by
 have g:∀ W,ja w W (fun _=>False)->Calls prog 78 #[.pointer (some ⟨d,0,none⟩)] W fun e w'=>e = .returned (.tuple #[.int .i64 S.calls,.int .i64 S.wrote])/\ja W w' (fun _=>False):=fun W kk=>by
  obtain⟨ρ,D,_⟩:=(O.same kk).xl;exact jbp D.rep
 have A:=jb g;have q:=jb O;have v:=jb f;have u:=zA (o:=0) f;simp at u;clear g O f;go_enter func38,ntmps38;go_wp2_with fail;refine(A.out w (ja.refl _ _)).mono ?_;rintro e t ⟨rfl,z⟩;have j:=zA (o:=1) (z.same v.out id);simp at j;have x:∀ o,(t.alloc o).cell? ⟨kb,1,none⟩=some (.pointer (some ⟨b,0,none⟩)):=fun o=>(ja.alloc t o (fun _=>False)).cell j id;clear u;have y:=fun o=>z.tt (ja.alloc t o (fun _=>False));go_wp2_with fail;refine(Th (q.out.same (y _)) _ _ _).mono ?_;rintro e r ⟨rfl,rfl⟩;obtain⟨r,m⟩:∃ r,r=t.alloc (.cells #[.string ⟨#[120]⟩,.string ⟨#[121]⟩,.bool false] 88):=⟨_,rfl⟩;have i:ja w r (fun _=>False):=by rw[m];exact y _
 rw[<-m];clear m x j;have j:=zA (o:=1) (i.same v.out id);have u:=zA (o:=0) (i.same v.out id);simp at j u;go_wp2_with fail;refine(jaf (q.out.same i)).mono ?_;rintro e Y ⟨rfl,rfl⟩;go_wp2_with fail;refine(U7 (q.out.same i)).mono ?_;rintro e X ⟨rfl,rfl⟩;go_wp2_with fail;refine(Oa (q.out.same i)).mono ?_;rintro e V ⟨rfl,rfl⟩;go_wp2_with fail;refine(A.out _ i).mono ?_;rintro e U ⟨rfl,H⟩;have l:=i.tt H;have j:=zA (o:=1) (l.same v.out id);simp at j;go_wp2_with fail;refine(ja1 (q.out.same l)).mono ?_;rintro e T ⟨R,N,M,L,p,n,c,rfl,G⟩;have Z:∀ W,Sem.run prog (Instr.field 61 (Value.agg #[j7 R,j7 N,j7 M,j7 L,Value.slice p n c,Value.bool true,Value.bool false]) 5) W = .ok (.bool true) W:=fun W=>rfl;go_wp2;go_ret;exact⟨rfl,l.tt G⟩
end Go.Proofs.YtnipbplghijdmaaGreatDoor
namespace Go.Proofs.YtnipbplghijdmaaGreatDoor
open RowKit Maps WideShapes Go.Proofs.Tryz
variable {E:Nat->Addr} {B:Nat} {w w' w0 wz:World} {d b k kb U V N L:Nat} {S S':jc} {s:Rf.St} {deg:Bool} {F T:Nat->Prop} {Q R:Want} {m:Rf.Man} {bls:List (List Rf.Ch)} {ρ:Nat->j3} {ess:List (List Rf.Ch)} {wv:Value} {fl bd:Bool} {sf lv:Nat}
structure BkD(E:Nat->Addr)(B:Nat)(w0:World)(kb d b:Nat)(S:jc)(s:Rf.St)(wv:Value)(ess:List (List Rf.Ch))(fl:Bool)(sf:Nat)(bd deg:Bool)(F:Nat->Prop)(w:World):Prop where
 row:w.heap[kb]?=some (.cells (zy d b wv fl sf bd) 51 (0,0))
 own:Qt E B w d b S 160000 s deg F
 wr:Wr w0 w (fun i=>F i\/i=kb) wv ess
 nkb:¬F kb/\w0.heap.size<=kb
 new:∀ i,F i->w0.heap.size<=i
 base:B<=w0.heap.size
theorem Bk.toD(h:Bk E B w0 kb d b S s wv ess fl sf bd F w):BkD E B w0 kb d b S s wv ess fl sf bd bd F w:=⟨h.row,h.own,h.wr,h.nkb,h.new,h.base⟩
theorem BkD.Ke(h:BkD E B w0 kb d b S s wv ess fl sf bd bd F w):Bk E B w0 kb d b S s wv ess fl sf bd F w:=⟨h.row,h.own,h.wr,h.nkb,h.new,h.base⟩
theorem Bk.ud{S':jc}{s':Rf.St}{c:Bool}{k':Nat}(h:Bk E B w0 kb d b S s wv ess fl sf bd F w)(f:qg E B w d b S' k' s' c F w')(g:k'<=160000) :
 ∃ F',BkD E B w0 kb d b S' s' wv ess fl sf bd c F' w'/\zz w F w' F':=by
 obtain⟨F',n,m,l,k,j,i⟩:=h.step (b':=b) f g;exact⟨F',⟨n,m,l,⟨k,h.nkb.2⟩,j,h.base⟩,i⟩
theorem BkD.mark{f g:Bool}{c:Nat}(h:BkD E B w0 kb d b S s wv ess fl sf bd deg F w)(k:ja w w' (fun i=>i=kb))(j:w'.heap[kb]?=some (.cells (zy d b wv f c g) 51 (0,0))):BkD E B w0 kb d b S s wv ess f c g deg F w':=by
 refine⟨j,h.own.keep k (fun i _ e=>?_),h.wr.step k (fun i t=> .inr t) (fun i t=> .inl t),h.nkb,h.new,h.base⟩;have l:i=kb:=e;rw[l];exact⟨ZR h.base h.nkb.2,h.nkb.1⟩
theorem BkD.lt(h:BkD E B w0 kb d b S s wv ess fl sf bd deg F w){i:Nat}(c:F i\/i=kb):i<w.heap.size:=by
 rcases c with t|t
 ·exact(h.own.old t).2
 ·rw[t];exact zC h.row
theorem BkD.note(h:BkD E B w0 kb d b S s wv ess fl sf bd deg F w){x v':Value}{r:List Rf.Ch}{xs:List Value}{c:World}(k:w.ownsRow w0.heap.size 38 1 wv ess.length xs)(o:∀ i (h:i<ess.length),∃ y,xs[i]?=some y/\El w (fun i=>F i\/i=kb) y ess[i]/\∀ g,wv.ownBlock=some g->y.ownBlock≠some g)(v:El w (fun i=>F i\/i=kb) x r)(n:∀ g,wv.ownBlock=some g->x.ownBlock≠some g)(l:ja w c (fun j=>wv.ownBlock=some j))(z:c.ownsRow w0.heap.size 38 1 v' (ess.length+1) (xs++[x]))(q:∀ g,v'.ownBlock=some g->wv.ownBlock=some g\/w.heap.size<=g) :
 BkD E B w0 kb d b S s v' (ess++[r]) fl sf bd deg F (c.setCell ⟨kb,2,none⟩ v')/\zz w (bkG F kb wv) (c.setCell ⟨kb,2,none⟩ v') (bkG F kb v'):=by
 have m:=ja.setCell c ⟨kb,2,none⟩ v';have u:=h.wr.snoc k v n (fun i t=>h.lt t) l z q o;have p:∀ g,wv.ownBlock=some g->¬(F g\/g=kb):=h.wr.nv;have C:=l.same h.row (fun e=>p kb e (.inr rfl));refine⟨⟨(jd C _).trans rfl,(h.own.keep l (fun j _ e=>⟨by have:=(k.lt j e).1;have:=h.base;omega,fun f=>p j e (.inl f)⟩)).keep m (fun j _ e=>?_),u.step m (fun i e=> .inr e) (fun _ t=> .inl t),h.nkb,h.new,h.base⟩,?_,?_⟩
 ·have A:j=kb:=e
  rw[A];exact⟨ZR h.base h.nkb.2,h.nkb.1⟩
 ·exact(l.mono (fun _ _ e=> .inr (.inr e))).trans m (fun _ _ e=> .inr (.inl e))
 ·intro i t
  rcases t with t|t|t
  ·exact .inl (.inl t)
  ·exact .inl (.inr (.inl t))
  ·rcases q i t with t|t
   ·exact .inl (.inr (.inr t))
   ·exact .inr t
def fp(E:Nat->Addr)(B:Nat)(w0 w:World)(kb d b:Nat)(F:Nat->Prop)(wv:Value)(S:jc)(N L:Nat)(w':World):Prop :=
 ∃ S' s' wv' ess' fl' sf' bd' F',Bk E B w0 kb d b S' s' wv' ess' fl' sf' bd' F' w'/\ya 20000 S' s' ess' fl' sf' (N+2) (L+1) bd'/\Cl S S'/\zz w (bkG F kb wv) w' (bkG F' kb wv')
theorem r8(h:Bk E B w0 kb d b S s wv ess fl sf bd F w)(a:X5):∃ W1 bx,Hid (W1=w.alloc (.cells a.row 73))/\Hid (bx=w.heap.size)/\Hid (ja w W1 (fun _=>False))/\Hid (Bk E B w0 kb d b S s wv ess fl sf bd F W1)/\W1.cell? ⟨kb,5,none⟩=some (.bool bd)/\W1.cell? ⟨kb,1,none⟩=some (.pointer (some ⟨b,0,none⟩))/\W1.cell? ⟨bx,0,none⟩=some (.int .i64 a.kd)/\W1.cell? ⟨bx,3,none⟩=some a.kv:=by
 refine⟨_,_,rfl,rfl,?_,?_,?_⟩
 ·exact ja.alloc _ _ _
 ·exact h.same (ja.alloc _ _ _)
 ·have f:=(h.same (ja.alloc w (.cells a.row 73) _)).row
  have c:=je w (.cells a.row 73);have g:=zA (o:=5) f;have i:=zA (o:=1) f;simp at g i;exact⟨g,i,(zA (o:=0) c).trans rfl,(zA (o:=3) c).trans rfl⟩
theorem Zz(w:World)(kb o:Nat)(v:Value):ja w (w.setCell ⟨kb,o,none⟩ v) (fun i=>i=kb):=ja.setCell w ⟨kb,o,none⟩ v
theorem Xn{w c b:World}{G:Nat->Prop}{d:Nat->Prop}{v:Value}(h:zz w G c (bkG d kb v))(k:ja c b (fun i=>i=kb)):zz w G b (bkG d kb v):=h.trans ⟨k.mono (fun _ _ e=> .inr (.inl e)),fun _ t=> .inl t⟩
theorem jbs(h:Bk E B w0 kb d b S s wv ess fl sf true F w)(k:ya 5400 S s ess fl sf N L true)(a:X5) :
 Calls prog 36 #[.pointer (some ⟨kb,0,none⟩),.agg a.row] w fun e w'=>e = .returned (.bool true)/\fp E B w0 w kb d b F wv S N L w':=by
 obtain⟨v,u,g,r,j,c,t,p,o,n⟩:=r8 h a;have i:=jb (Ps c.out.own c.out.row);have l:=jb k;clear h k p o n;go_enter func36,ntmps36
 go_upto_region 1 with fail
 rw[<-g.out];go_wp2_with fail;refine i.out.mono ?_;rintro e m ⟨rfl,f⟩;have q:Hid (fp E B w0 w kb d b F wv S N L m):=(show _ from⟨S,s,wv,ess,fl,sf,true,F,c.out.same f,(show ya 20000 S s ess fl sf N L true from⟨l.out.st,l.out.left,fun e=>(by cases e)⟩).mono (by omega) (by omega),Cl.refl _,(zz.refl _ _).same (j.out.tt f)⟩);clear f;go_wp2;go_ret;exact⟨rfl,q.out⟩
theorem jbr(h:Bk E B w0 kb d b S s wv ess fl sf false F w)(T:ya 5400 S s ess fl sf N L false)(hv:total S.files S.names<=5000)(hN:N+2<=2000000000)(hL:L<131072)(a:X5)(r:I64 a.kd){P:Nat}(hP:X2 a.kd 8=P)(ae:P=4) :
 Calls prog 36 #[.pointer (some ⟨kb,0,none⟩),.agg a.row] w fun e w'=>e = .returned (.bool true)/\fp E B w0 w kb d b F wv S N L w':=by
 obtain⟨W1,bx,Y,a1,O,y,J,c1,o0,o3⟩:=r8 h a;have V:=T.norm rfl
 have Z:Hid (∀ W,Calls prog 25 #[.int .i64 a.kd,.int .i64 8] W fun e w'=>e = .returned (.int .i64 P)/\w'=W):=fun W=>by
  have:=Y5 a.kd r.1 r.2 8 (by decide) (by decide) W;rwa [hP] at this
 have z:=jb (jf1 (y.out.own.fit (V.fit (by omega))) V (by omega));have HU:=jb T;have e4:((P:Int)==4)=true:=by simp;omega
 have e0:((P:Int)==0)=false/\((P:Int)==1)=false/\((P:Int)==2)=false/\((P:Int)==3)=false:=by simp;omega
 obtain⟨e0,e1,e2,e3⟩:=e0;clear h T o3 hv V hN r hP;go_enter func36,ntmps36
 go_upto_region 1 with fail
 rw[<-Y.out,<-a1.out];go_wp2_with fail;refine(Z.out _).mono ?_;rintro e ad ⟨rfl,rfl⟩;go_wp2_with fail;refine z.out.mono ?_;clear J c1 o0;rintro e R (⟨rfl,M,I,D,C,H⟩|⟨rfl,M,I,D,C,H⟩)
 ·obtain⟨X,i,k⟩:=y.out.ud I (by omega)
  obtain⟨l,g⟩:∃ l,l=s:=⟨_,rfl⟩;rw[<-g] at i;have j:=jb i;have t:Hid (ya 20000 M l ess fl ess.length (N+2) (L+1) false):=(show _ from by rw[g];exact(HU.out.synced D C).mono (by omega) (by omega));have x:=jb H;have v:=jb (zz.after O.out (k.bk (kb:=kb) (wv:=wv)));clear I D C H i k g;have f:=j.out.row;have J:=zA (o:=5) f;have f5:=zB (o:=5) f;obtain⟨pw,cw,m⟩:∃ p c,wv = .slice p ess.length c:=by obtain⟨⟨xs,h1,_⟩,_⟩:=j.out.wr;exact jm h1
  have U:=zA (o:=2) f;have c4:=zA (o:=4) f;have f4:=zB (o:=4) f;simp at J U c4;rw[m] at U;have af:=jb m;obtain⟨A,q⟩:∃ A,A=ess.length:=⟨_,rfl⟩;rw[<-q] at U;have a0:=jb q;clear m q;have u:=jb f;clear f;go_wp2;go_ret;have G:=Zy R kb 4 5 (.int .i64 A) (.bool false);have n:((R.setCell ⟨kb,4,none⟩ (.int .i64 A)).setCell ⟨kb,5,none⟩ (.bool false)).heap[kb]?=some (.cells (zy d b wv fl A false) 51 (0,0)):=(jd ((jd u.out _).trans rfl) _).trans rfl;refine⟨rfl,M,l,wv,ess,fl,A,false,X,(j.out.mark G n).Ke,?_,x.out,Xn v.out G⟩;rw[a0.out];exact t.out
 ·obtain⟨X,i,k⟩:=y.out.ud I (by omega)
  obtain⟨l,g⟩:∃ l,l=s:=⟨_,rfl⟩;rw[<-g] at i;have j:=jb i;have t:Hid (ya 20000 M l ess fl sf (N+2) (L+1) true):=(show _ from by rw[g];exact(HU.out.jb7 D C).mono (by omega) (by omega));have x:=jb H;have v:=jb (zz.after O.out (k.bk (kb:=kb) (wv:=wv)));clear I D C H i k g;have f:=j.out.row;have J:=zA (o:=5) f;have f5:=zB (o:=5) f;simp at J;have u:=jb f;clear f;go_wp2;go_ret;have G:=Zz R kb 5 (.bool true);have n:(R.setCell ⟨kb,5,none⟩ (.bool true)).heap[kb]?=some (.cells (zy d b wv fl sf true) 51 (0,0)):=(jd u.out _).trans rfl;exact⟨rfl,M,l,wv,ess,fl,sf,true,X,(j.out.mark G n).Ke,t.out,x.out,Xn v.out G⟩
theorem Vm(h:Bk E B w0 kb d b S s wv ess fl sf false F w)(V:ya 5400 S s ess fl sf N L false)(hv:total S.files S.names<=5000)(R:N+2+2<=2000000000)(hL:L<131072)(a:X5)(r:I64 a.kd){P:Nat}(hP:X2 a.kd 8=P)(ag:P=5) :
 Calls prog 36 #[.pointer (some ⟨kb,0,none⟩),.agg a.row] w fun e w'=>e = .returned (.bool true)/\fp E B w0 w kb d b F wv S N L w':=by
 obtain⟨W1,bx,Z,a2,T,y,J,c1,o0,o3⟩:=r8 h a;have O:=V.norm rfl
 have a0:Hid (∀ W,Calls prog 25 #[.int .i64 a.kd,.int .i64 8] W fun e w'=>e = .returned (.int .i64 P)/\w'=W):=fun W=>by
  have:=Y5 a.kd r.1 r.2 8 (by decide) (by decide) W;rwa [hP] at this
 have z:=jb (Ws (y.out.own.fit (O.fit (by omega))) (O.mono (ZQ _) (qi.le (N':=N+2) (by omega) (ZQ _))) (by omega) hv (by have:=O.now.1.1;omega) (qi.flush O.now));have HU:=jb V;have HN:Hid (N+2+2<=2000000000):=R;have e4:((P:Int)==4)=false/\((P:Int)==5)=true:=by simp;omega
 have e0:((P:Int)==0)=false/\((P:Int)==1)=false/\((P:Int)==2)=false/\((P:Int)==3)=false:=by simp;omega
 obtain⟨e0,e1,e2,e3⟩:=e0;obtain⟨e4,e5⟩:=e4;clear h V o3 hv O R r hP;go_enter func36,ntmps36
 go_upto_region 1 with fail
 rw[<-Z.out,<-a2.out];go_wp2_with fail;refine(a0.out _).mono ?_;rintro e af ⟨rfl,rfl⟩;go_wp2_with fail;refine z.out.mono ?_;clear J c1 o0;rintro e U (⟨rfl,M,I,D,C,H⟩|⟨rfl,M,l,I,j,D,C,H⟩)
 ·obtain⟨Y,g,k⟩:=y.out.ud I (by omega)
  obtain⟨l,j⟩:∃ l,l=s.flush:=⟨_,rfl⟩;rw[<-j] at g D C;have i:=jb g;have t:Hid (ya 20000 M l ess fl ess.length (N+2) (L+1) false):=(show _ from(HU.out.yh D C).mono (ZQ _) (by omega));have x:=jb H.1;have v:=jb (zz.after T.out (k.bk (kb:=kb) (wv:=wv)));clear I D C H g k j;have f:=i.out.row;have J:=zA (o:=5) f;have f5:=zB (o:=5) f;obtain⟨pw,cw,m⟩:∃ p c,wv = .slice p ess.length c:=by obtain⟨⟨xs,h1,_⟩,_⟩:=i.out.wr;exact jm h1
  have X:=zA (o:=2) f;have c4:=zA (o:=4) f;have f4:=zB (o:=4) f;simp at J X c4;rw[m] at X;have ah:=jb m;obtain⟨A,q⟩:∃ A,A=ess.length:=⟨_,rfl⟩;rw[<-q] at X;have a1:=jb q;clear m q;have u:=jb f;clear f;go_wp2;go_ret;have G:=Zy U kb 4 5 (.int .i64 A) (.bool false);have n:((U.setCell ⟨kb,4,none⟩ (.int .i64 A)).setCell ⟨kb,5,none⟩ (.bool false)).heap[kb]?=some (.cells (zy d b wv fl A false) 51 (0,0)):=(jd ((jd u.out _).trans rfl) _).trans rfl;refine⟨rfl,M,l,wv,ess,fl,A,false,Y,(i.out.mark G n).Ke,?_,x.out,Xn v.out G⟩;rw[a1.out];exact t.out
 ·obtain⟨Y,g,k⟩:=y.out.ud I (by omega)
  have i:=jb g;have t:Hid (ya 20000 M l ess fl sf (N+2) (L+1) true):=(show _ from(HU.out.jhb HN.out (j.imp id .inl) D C (by omega)).mono (ZQ _) (by omega));have x:=jb H.1;have v:=jb (zz.after T.out (k.bk (kb:=kb) (wv:=wv)));clear I D C H g k j;have f:=i.out.row;have J:=zA (o:=5) f;have f5:=zB (o:=5) f;simp at J;have u:=jb f;clear f;go_wp2;go_ret;have G:=Zz U kb 5 (.bool true);have n:(U.setCell ⟨kb,5,none⟩ (.bool true)).heap[kb]?=some (.cells (zy d b wv fl sf true) 51 (0,0)):=(jd u.out _).trans rfl;exact⟨rfl,M,l,wv,ess,fl,sf,true,Y,(i.out.mark G n).Ke,t.out,x.out,Xn v.out G⟩
theorem Of(h:Bk E B w0 kb d b S s wv ess fl sf false F w)(J:ya 5400 S s ess fl sf N L false)(V:total S.files S.names<=5000)(G:N+2+2<=2000000000)(hL:L<131072)(a:X5)(m:I64 a.kd){P:Nat}(X:X2 a.kd 8=P)(a7:6<=P) :
 Calls prog 36 #[.pointer (some ⟨kb,0,none⟩),.agg a.row] w fun e w'=>e = .returned (.bool true)/\fp E B w0 w kb d b F wv S N L w':=by
 obtain⟨W1,bx,O,T,H,t,C,c1,o0,o3⟩:=r8 h a;have x:=J.norm rfl
 have R:Hid (∀ W,Calls prog 25 #[.int .i64 a.kd,.int .i64 8] W fun e w'=>e = .returned (.int .i64 P)/\w'=W):=fun W=>by
  have:=Y5 a.kd m.1 m.2 8 (by decide) (by decide) W;rwa [X] at this
 have u:=jb (L8 (t.out.own.fit (x.fit (by omega))) (x.mono (ZQ _) (qi.le (N':=N+2) (by omega) (ZQ _))) (by omega) V (by have:=x.now.1.1;omega) (qi.j8 x.ok x.now));have HU:=jb J;have HN:Hid (N+2+2<=2000000000):=G;have Y:((P:Int)==4)=false/\((P:Int)==5)=false:=by simp;omega
 have Z:((P:Int)==0)=false/\((P:Int)==1)=false/\((P:Int)==2)=false/\((P:Int)==3)=false:=by simp;omega
 obtain⟨Z,e1,e2,e3⟩:=Z;obtain⟨Y,e5⟩:=Y;clear h J o3 V x G m X;go_enter func36,ntmps36
 go_upto_region 1 with fail
 rw[<-O.out,<-T.out];go_wp2_with fail;refine(R.out _).mono ?_;rintro e a6 ⟨rfl,rfl⟩;go_wp2_with fail;refine u.out.mono ?_;clear C c1 o0;rintro e I (⟨rfl,D,A,v,z⟩|⟨rfl,D,k,A,g,v,U,z⟩)
 ·obtain⟨M,f,i⟩:=t.out.ud A (by omega)
  obtain⟨k,g⟩:∃ k,k=s.j8:=⟨_,rfl⟩;rw[<-g] at f v;have j:=jb f;have n:Hid (ya 20000 D k ess fl sf (N+2) (L+1) false):=(show _ from(HU.out.Xh v).mono (ZQ _) (by omega));have r:=jb z.1;have q:=jb (zz.after H.out (i.bk (kb:=kb) (wv:=wv)));clear A v z f i g;have c:=j.out.row;have C:=zA (o:=5) c;have f5:=zB (o:=5) c;simp at C;have p:=jb c;clear c;go_wp2;go_ret;have y:=Zz I kb 5 (.bool false);have l:(I.setCell ⟨kb,5,none⟩ (.bool false)).heap[kb]?=some (.cells (zy d b wv fl sf false) 51 (0,0)):=(jd p.out _).trans rfl;exact⟨rfl,D,k,wv,ess,fl,sf,false,M,(j.out.mark y l).Ke,n.out,r.out,Xn q.out y⟩
 ·obtain⟨M,f,i⟩:=t.out.ud A (by omega)
  have j:=jb f;have n:Hid (ya 20000 D k ess fl sf (N+2) (L+1) true):=(show _ from(HU.out.jhb HN.out (g.imp id .inr) v U (by omega)).mono (ZQ _) (by omega));have r:=jb z.1;have q:=jb (zz.after H.out (i.bk (kb:=kb) (wv:=wv)));clear A v U z f i g;have c:=j.out.row;have C:=zA (o:=5) c;have f5:=zB (o:=5) c;simp at C;have p:=jb c;clear c;go_wp2;go_ret;have y:=Zz I kb 5 (.bool true);have l:(I.setCell ⟨kb,5,none⟩ (.bool true)).heap[kb]?=some (.cells (zy d b wv fl sf true) 51 (0,0)):=(jd p.out _).trans rfl;exact⟨rfl,D,k,wv,ess,fl,sf,true,M,(j.out.mark y l).Ke,n.out,r.out,Xn q.out y⟩
end Go.Proofs.YtnipbplghijdmaaGreatDoor
namespace Go.Proofs.YtnipbplghijdmaaGreatDoor
open RowKit Maps WideShapes Go.Proofs.Tryz
variable {E:Nat->Addr} {B:Nat} {w w' w0 wz:World} {d b k kb U V N L:Nat} {S S':jc} {s:Rf.St} {deg:Bool} {F T:Nat->Prop} {Q R:Want} {m:Rf.Man} {bls:List (List Rf.Ch)} {ρ:Nat->j3} {ess:List (List Rf.Ch)} {wv:Value} {fl bd:Bool} {sf lv:Nat}
theorem Vl(h:Bk E B w0 kb d b S s wv ess fl sf false F w)(hU:ya 5400 S s ess fl sf N L false)(hv:total S.files S.names<=5000)(hL:L<131072)(a:X5)(ay:I64 a.kd)(hz:Zs w a.kv a.keys){P:Nat}(hP:X2 a.kd 8=P)(cd:P<4) :
 Calls prog 36 #[.pointer (some ⟨kb,0,none⟩),.agg a.row] w fun e w'=>e = .returned (.bool true)/\fp E B w0 w kb d b F wv S N L w':=by
 obtain⟨j0,hj,bl,bj,bi⟩:=info_parts Tryz.jfb;obtain⟨W1,bx,ce,ch,bs,a9,c5,c1,o0,o3⟩:=r8 h a;have N0:=hU.norm rfl;have cc:=hU.st.lv;subst cc
 have br:Hid (∀ W,Calls prog 25 #[.int .i64 a.kd,.int .i64 8] W fun e w'=>e = .returned (.int .i64 P)/\w'=W):=fun W=>by
  have:=Y5 a.kd ay.1 ay.2 8 (by decide) (by decide) W;rwa [hP] at this
 obtain⟨pw,cw,rfl⟩:=a9.out.slice;have bw:ess.length<=L:=hU.st.len;obtain⟨y,f⟩:∃ y,y=ess.length:=⟨_,rfl⟩;have c2:=zA (o:=2) a9.out.row;simp at c2;rw[<-f] at c2 bw;have bz:=jb (jbv c2 (by omega) a.kv a.keys (hz.same bs.out));have cf:=jb f;have HU:=jb hU;have cg:=jb N0;have HV:=jb hv;clear h hU hv N0 ay hP hz c2 f;go_enter func36,ntmps36
 go_upto_region 1 with fail
 rw[<-ce.out,<-ch.out];go_wp2_with fail;refine(br.out _).mono ?_;rintro e cz ⟨rfl,rfl⟩;rcases(by omega:P=0\/P=1\/P=2\/P=3)with hP|hP|hP|hP
 all_goals subst hP
 all_goals clear br cd
 all_goals
  go_wp2_with fail;refine bz.out.mono ?_;rintro e w3 ⟨v3,Y,rfl,a3,h1,h8,bn,k3⟩;obtain⟨z,A,rfl⟩:=jm a3;have aw:=Tr h1 h8 bn;have B3:=a9.out.same k3
  have X:El w3 (fun i=>F i\/i=kb) (.slice z Y.length A) Y:=⟨Je a3,fun g hg=>⟨fun t=>by
   have h2:=(a3.lt g hg).1
   have h3:=a9.out.toD.lt t
   omega,(a3.lt g hg).2⟩⟩
  have aa:∀ g,(Value.slice pw ess.length cw).ownBlock=some g->(Value.slice z Y.length A).ownBlock≠some g:=fun g hg e=>by
   have h2:=(a3.lt g e).1;have h3:=(a9.out.lt (.inr (.inr hg))).2;omega
  have N0:=cg.out;have av:sf<=ess.length:=HU.out.st.sf;have bm:qt s.files<=5000:=ZR N0.qt HV.out;have bp:=jb (V6 (U:=5400) (R:=qi (ess++[Y]) sf (ess.length+1) N (L+1)) (R':=qi (ess++[Y]) sf ess.length N (L+1)) (B3.own.fit (N0.fit (by omega))) N0 (by omega) (by have:=HV.out;omega) (.slice z Y.length A) Y aw.1 X.1 (fun p n c e t=>(X.2 p.block (by rw[e];rfl)).1 (.inl t)) (by have:=N0.now.1.2.1;omega) (fun t ht=>qi.snoc ht _) (qi.write N0.now Y av) (fun t ht=>qi.snoc ht _) (qi.Lh N0.now Y av) (fun l hl=>sw (s:=s.write Y) (E0 bm aw.1) hl) (fun l hl=>sw (s:=s) (by omega) hl));have q1:=zA (o:=1) B3.row;simp at q1;obtain⟨H,bo⟩:∃ H,H=Y.length:=⟨_,rfl⟩;rw[<-bo] at bp X aa ⊢;have bv:=jb B3;have bu:=jb X;have bq:=jb aa;have bt:=jb h8;have aj:=jb (bs.out.tt k3);clear aw N0 bo a3 h1 h8 bn c5 c1 o0 o3 B3 X aa k3 bm av;go_wp2_with fail;refine bp.out.mono ?_;clear q1;have f:=cf.out;rintro e x (⟨rfl,S4,h4,n1,hc⟩|⟨rfl,S4,h4,n1,n2,hc⟩)
  ·obtain⟨F4,m,G⟩:=bv.out.ud h4 (by omega)
   have V:El x (fun i=>F4 i\/i=kb) (.slice z H A) Y:=bu.out.step G.1 (fun i t=> .inl t) (fun i t=>by
    rcases t with t|t
    ·exact(G.2 i t).imp .inl id
    ·exact .inl (.inr t))
   obtain⟨au,q,T⟩:=m.wr.row;have D:=m.row;have z2:=zA (o:=2) D;simp at z2;have O:∀ g,(Value.slice pw ess.length cw).ownBlock=some g->¬(F4 g\/g=kb):=m.wr.nv;have a7:w0.heap.size<=x.heap.size:=by have:=m.nkb.2;have:=zC D;omega
   have ae:=jb f;have ar:x.cell? ⟨kb,2,none⟩=some (.slice pw y cw):=by rw[f];exact z2
   have r:x.ownsRow w0.heap.size 38 1 (.slice pw y cw) y au:=by rw[f];exact q
   have ad:=jb O;have b3:=jb D;have b9:=jb m;have b6:=jb V;have ab:=jb q;have af:=jb T;have b5:=jb G;have b7:=jb hc.1;have ac:Hid (ya 20000 S4 (s.write Y) (ess++[Y]) false sf (N+2) (L+1) false):=(show _ from(HU.out.wrote bt.out n1).mono (by omega) (ZQ _));have b0:Hid (y+1<=maxLen):=jb (by unfold maxLen;omega);have az:Hid ((y+1)*24<=140737488355328):=jb (by omega);have v:=r.alloc (.cells #[.slice z H A] 38);have J:w0.heap.size<=(x.alloc (.cells #[.slice z H A] 38)).heap.size:=ZR a7 (ja.alloc x _ (fun _=>False)).size;have M:∀ u∈[Value.slice z H A],u.oneCell'=true:=fun u hu=>by rw[ZW.1 hu];rfl
   have a8:Hid (∀ W6,(x.alloc (.cells #[.slice z H A] 38)).grownBy W6 (Value.slice pw y cw).ownBlock->W6.cell? ⟨kb,2,none⟩=some (.slice pw ess.length cw)/\W6.frozen? ⟨kb,2,none⟩=false):=fun W6 hg=>by
    have hk:=(ja.grown hg).same ((ja.alloc x (.cells #[.slice z H A] 38) (fun _=>False)).same b3.out id) (fun e=>ad.out kb (Wi e.symm) (.inr rfl));have hc:=zA (o:=2) hk;exact⟨by simpa using hc,zB hk⟩
   clear h4 m V q T O D G hc n1 z2 f r a7
   go_upto_region 15 with(first|(at_builtin;refine jx _ rfl (.tmp 48) (.tmp 50) 27 rfl w0.heap.size 38 j0 (.slice none 0 0) 1 24 underlying27 hj bl bj bi rfl ZX _ _ _ rfl v ⟨x.heap.size,0,none⟩ 1 1 [.slice z H A] rfl rfl (cell_one_new _ _ _) M b0.out az.out J ?_;intro p6 c6 w6 a5 a0 a6;obtain⟨r2,r3⟩:=a8.out w6 a0))
   have kA:=ja.alloc x (.cells #[.slice z H A] 38) (fun _=>False);have f:=ae.out
   have Z:=b9.out.note ab.out af.out b6.out (fun g hg=>bq.out g hg) ((kA.up).trans (ja.grown a0) (fun j _ e=>by rw[<-f];exact e.symm)) (v':= .slice p6 (y+1) c6) (by rw[<-f];exact a5) (fun g hg=>by
    rw[<-f]
    rcases a6 with h|h
    ·exact .inl (h▸hg)
    ·rw[h] at hg
     cases hg
     exact .inr kA.size)
   obtain⟨w7,a4⟩:∃ w7,w7=w6.setCell ⟨kb,2,none⟩ (.slice p6 (y+1) c6):=⟨_,rfl⟩;rw[<-a4] at Z ⊢;obtain⟨Z,G7⟩:=Z;obtain⟨C,I⟩:∃ C,C=Value.slice p6 (y+1) c6:=⟨_,rfl⟩;rw[<-I] at Z G7;have k:=Z.row;have b1:=zA (o:=3) k;have f3:=zB (o:=3) k;have c5:=zA (o:=5) k;have f5:=zB (o:=5) k;simp at b1 c5;have b8:=jb Z;have b4:=jb ((zz.after aj.out (b5.out.bk (kb:=kb) (wv:= .slice pw ess.length cw))).trans G7);have b2:=jb k;clear a4 I Z G7 k kA f v a5 a0 a6 M J r2 r3 ar a8;go_wp2;go_ret;have k8:=Zy w7 kb 3 5 (.bool false) (.bool false);have ax:((w7.setCell ⟨kb,3,none⟩ (.bool false)).setCell ⟨kb,5,none⟩ (.bool false)).heap[kb]?=some (.cells (zy d b C false sf false) 51 (0,0)):=(jd ((jd b2.out _).trans rfl) _).trans rfl;exact⟨rfl,S4,_,C,_,false,sf,false,F4,(b8.out.mark k8 ax).Ke,ac.out,b7.out,Xn b4.out k8⟩
  ·obtain⟨F4,m,G⟩:=bv.out.ud h4 (by omega)
   have V:El x (fun i=>F4 i\/i=kb) (.slice z H A) Y:=bu.out.step G.1 (fun i t=> .inl t) (fun i t=>by
    rcases t with t|t
    ·exact(G.2 i t).imp .inl id
    ·exact .inl (.inr t))
   obtain⟨au,q,T⟩:=m.wr.row;have D:=m.row;have z2:=zA (o:=2) D;simp at z2;have O:∀ g,(Value.slice pw ess.length cw).ownBlock=some g->¬(F4 g\/g=kb):=m.wr.nv;have a7:w0.heap.size<=x.heap.size:=by have:=m.nkb.2;have:=zC D;omega
   have ae:=jb f;have ar:x.cell? ⟨kb,2,none⟩=some (.slice pw y cw):=by rw[f];exact z2
   have r:x.ownsRow w0.heap.size 38 1 (.slice pw y cw) y au:=by rw[f];exact q
   have ad:=jb O;have b3:=jb D;have b9:=jb m;have b6:=jb V;have ab:=jb q;have af:=jb T;have b5:=jb G;have b7:=jb hc.1;have ac:Hid (ya 20000 S4 s (ess++[Y]) true sf (N+2) (L+1) true):=(show _ from(HU.out.Qc bt.out n1 n2).mono (by omega) (ZQ _));have b0:Hid (y+1<=maxLen):=jb (by unfold maxLen;omega);have az:Hid ((y+1)*24<=140737488355328):=jb (by omega);have v:=r.alloc (.cells #[.slice z H A] 38);have J:w0.heap.size<=(x.alloc (.cells #[.slice z H A] 38)).heap.size:=ZR a7 (ja.alloc x _ (fun _=>False)).size;have M:∀ u∈[Value.slice z H A],u.oneCell'=true:=fun u hu=>by rw[ZW.1 hu];rfl
   have a8:Hid (∀ W6,(x.alloc (.cells #[.slice z H A] 38)).grownBy W6 (Value.slice pw y cw).ownBlock->W6.cell? ⟨kb,2,none⟩=some (.slice pw ess.length cw)/\W6.frozen? ⟨kb,2,none⟩=false):=fun W6 hg=>by
    have hk:=(ja.grown hg).same ((ja.alloc x (.cells #[.slice z H A] 38) (fun _=>False)).same b3.out id) (fun e=>ad.out kb (Wi e.symm) (.inr rfl));have hc:=zA (o:=2) hk;exact⟨by simpa using hc,zB hk⟩
   clear h4 m V q T O D G hc n1 n2 z2 f r a7
   go_upto_region 15 with(first|(at_builtin;refine jx _ rfl (.tmp 48) (.tmp 50) 27 rfl w0.heap.size 38 j0 (.slice none 0 0) 1 24 underlying27 hj bl bj bi rfl ZX _ _ _ rfl v ⟨x.heap.size,0,none⟩ 1 1 [.slice z H A] rfl rfl (cell_one_new _ _ _) M b0.out az.out J ?_;intro p6 c6 w6 a5 a0 a6;obtain⟨r2,r3⟩:=a8.out w6 a0))
   have kA:=ja.alloc x (.cells #[.slice z H A] 38) (fun _=>False);have f:=ae.out
   have Z:=b9.out.note ab.out af.out b6.out (fun g hg=>bq.out g hg) ((kA.up).trans (ja.grown a0) (fun j _ e=>by rw[<-f];exact e.symm)) (v':= .slice p6 (y+1) c6) (by rw[<-f];exact a5) (fun g hg=>by
    rw[<-f]
    rcases a6 with h|h
    ·exact .inl (h▸hg)
    ·rw[h] at hg
     cases hg
     exact .inr kA.size)
   obtain⟨w7,a4⟩:∃ w7,w7=w6.setCell ⟨kb,2,none⟩ (.slice p6 (y+1) c6):=⟨_,rfl⟩;rw[<-a4] at Z ⊢;obtain⟨Z,G7⟩:=Z;obtain⟨C,I⟩:∃ C,C=Value.slice p6 (y+1) c6:=⟨_,rfl⟩;rw[<-I] at Z G7;have k:=Z.row;have b1:=zA (o:=3) k;have f3:=zB (o:=3) k;have c5:=zA (o:=5) k;have f5:=zB (o:=5) k;simp at b1 c5;have b8:=jb Z;have b4:=jb ((zz.after aj.out (b5.out.bk (kb:=kb) (wv:= .slice pw ess.length cw))).trans G7);have b2:=jb k;clear a4 I Z G7 k kA f v a5 a0 a6 M J r2 r3 ar a8;go_wp2;go_ret;have k8:=Zy w7 kb 3 5 (.bool true) (.bool true);have ax:((w7.setCell ⟨kb,3,none⟩ (.bool true)).setCell ⟨kb,5,none⟩ (.bool true)).heap[kb]?=some (.cells (zy d b C true sf true) 51 (0,0)):=(jd ((jd b2.out _).trans rfl) _).trans rfl;exact⟨rfl,S4,_,C,_,true,sf,true,F4,(b8.out.mark k8 ax).Ke,ac.out,b7.out,Xn b4.out k8⟩
end Go.Proofs.YtnipbplghijdmaaGreatDoor
namespace Go.Proofs.YtnipbplghijdmaaGreatDoor
open RowKit Maps WideShapes Go.Proofs.Tryz
variable {E:Nat->Addr} {B:Nat} {w w' w0 wz:World} {d b k kb U V N L:Nat} {S S':jc} {s:Rf.St} {deg:Bool} {F T:Nat->Prop} {Q R:Want} {m:Rf.Man} {bls:List (List Rf.Ch)} {ρ:Nat->j3} {ess:List (List Rf.Ch)} {wv:Value} {fl bd:Bool} {sf lv:Nat}
theorem Bd.after(h:Bd E B w0 w kb d F S k wv ess ρ w')(b:ja wz w (fun _=>False)):Bd E B w0 wz kb d F S k wv ess ρ w' :=
 ⟨h.xl,h.fit,h.env,h.wr,h.nkb,h.new,h.base,h.wj.after b⟩
theorem Bd.mark(h:Bd E B w0 wz kb d F S k wv ess ρ w)(b:ja w w' (fun i=>i=kb)):Bd E B w0 wz kb d F S k wv ess ρ w':=by
 have c:B<=kb:=ZR h.base h.nkb.2;refine⟨⟨h.xl.rep.keep b (fun i e _=>by rw[show i=kb from e];exact h.nkb.1),h.xl.z8.keep b (fun i e=>by rw[show i=kb from e];exact c),h.xl.yx,ZR h.xl.size b.size⟩,h.fit,h.env.keep b (fun i e=>by rw[show i=kb from e];exact c),h.wr.step b (fun i t=> .inr t) (fun i t=> .inl t),h.nkb,h.new,h.base,h.wj.trans ⟨b.mono (fun _ _ e=> .inr (.inl e)),fun _ t=> .inl t⟩⟩
theorem Bd.failed(h:Bd E B w0 wz kb d F S k wv ess ρ w)(b:kb<w.heap.size):Calls prog 35 #[.pointer (some ⟨d,0,none⟩),.int .i64 (-1)] w fun e w'=>e = .returned (.tuple #[])/\Bd E B w0 wz kb d F { S with fail:= -1 } k wv ess ρ w'/\ja w w' (fun i=>ρ i≠ .none):=by
 refine(jdx h.xl h.env (-1) (by omega)).mono ?_;rintro e f ⟨rfl,D,c,H⟩;exact⟨rfl,h.step (k':=k) D (h.fit.zr rfl rfl rfl rfl) H c (fun i t=> .inl t) b,c⟩
theorem Bd.crashed(h:Bd E B w0 wz kb d F S k wv ess ρ w)(m:k<540000000000)(b:kb<w.heap.size)(f:Rest S (qi ess sf lv N L)){g:Value}{ch:List Int}(l:Zm w w0.heap.size g ch):Calls prog 43 #[.pointer (some ⟨d,0,none⟩),g] w fun e w'=>e = .returned (.tuple #[])/\∃ ρ',Bd E B w0 wz kb d F (S.crashed ch) 60000 wv ess ρ' w'/\ja w w' (fun i=>ρ i≠ .none):=by
 refine(Ww (ch:=ch) h.xl h.fit m h.env f.wf l h.new b h.nkb.1 (by have:=h.nkb.2;omega)).mono ?_;rintro e o ⟨rfl,ρ',D,c,j,H⟩;obtain⟨_,_,n⟩:=f.Jj (fun t q=>q) ch;exact⟨rfl,ρ',h.step D n H c (vf j) b,c⟩
theorem Bd.off(h:Bd E B w0 wz kb d F S k wv ess ρ w){i:Nat}(c:i<wz.heap.size)(b:¬bkG F kb wv i):ρ i = .none:=yD (fun t=>by
 rcases h.wj.2 i (.inl t)with t|t
 ·exact b t
 ·omega)
theorem Mf(h:Bk E B w0 kb d b S s wv ess fl sf bd F w)(a:X5):∃ W1 bx,Hid (W1=w.alloc (.cells a.row 73))/\Hid (bx=w.heap.size)/\Hid (ja w W1 (fun _=>False))/\Hid (Bk E B w0 kb d b S s wv ess fl sf bd F W1)/\Hid (W1.heap[bx]?=some (.cells a.row 73 (0,0)))/\Hid (bx<W1.heap.size/\¬bkG F kb wv bx):=by
 refine⟨_,_,rfl,rfl,ja.alloc _ _ _,h.same (ja.alloc _ _ _),je _ _,?_⟩;have c:=je w (.cells a.row 73);exact⟨zC c,fun t=>by have:=(h.lt t).2;omega⟩
theorem jfm(h:Bk E B w0 kb d b S s wv ess fl sf bd F w)(hU:ya 5400 S s ess fl sf N L bd)(hN:N+1+1<=2000000000)(hL:L<=131072)(a:X5)(hp:Zm w w0.heap.size a.cv a.chs)(hw:a.fa<0->a.ct<0->qh S)(hc:a.ct<0->S.cut = -1) :
 Calls prog 125 #[.pointer (some ⟨kb,0,none⟩),.agg a.row] w fun e w'=>e = .returned (.bool true)/\Tf E B w0 w kb d F wv (N+1) L ess w':=by
 obtain⟨W1,bx,bs,ci,ad,ae,bq,aj⟩:=Mf h a;have bv:=jb ae.out.closed;have c1:=zA (o:=1) ae.out.row;simp at c1;have HU:=jb hU;have HP:Hid (Zm W1 w0.heap.size a.cv a.chs):=hp.keep ad.out (fun _ _ t=>t);have br:=jb hw;have bc:=jb hc;have bz:=jb (show bx<W1.heap.size from aj.out.1);obtain⟨kd,A,nb,kv,keys,fa,ct,cv,chs⟩:=a;simp only at bq HP br bc bs;obtain⟨pc,nc,cc,ce⟩:∃ p n c,cv = .slice p n c:=by obtain⟨o,c,e,_⟩:=hp;exact⟨o,_,c,e⟩
 subst ce;obtain⟨pw,cw,bk⟩:=ae.out.slice;obtain⟨nl,bb⟩:∃ nl,nl=ess.length:=⟨_,rfl⟩;have co:nl<=L:=by rw[bb];exact hU.st.len
 have ch:Hid (fl=true->1<=nl):=fun e=>by have:=(hU.st.flb e).2;have:=ZY.2 this;omega
 have C:=jb bb;have cg:=jb bk;clear h hU hp hw hc bb bk;go_enter func125,ntmps125
 go_upto_region 1 with fail
 rw[<-bs.out,<-ci.out];go_wp2_with fail;refine bv.out.mono ?_;rintro e w2 ⟨rfl,ay,ρ2,az⟩;have c0:=zA (o:=0) ay;simp at c0;have bj:=az.wj.1.same bq.out aj.out.2;have bt:=jb (Ug az (by omega) HU.out.left (by have:=C.out;simp[Ju]) (by omega) (zC ay));have bf:=jb ay;have cf:=jb bj;have bu:=jb az;clear ay bj az c1 bv;go_wp2_with fail;refine bt.out.mono ?_;clear c0 bt;rintro e w3 ⟨pv,fv,cr,ρ3,V,rfl,bm,bn,bo,k3,be⟩;have b9:=k3.same bf.out (fun t=>t bu.out.nkb.1);have aw:=k3.same cf.out (fun t=>t (bu.out.off bz.out aj.out.2));have a1:=jb b9;have ak:=jb aw;have an:=jb bm;have a6:=jb bn;have bw:=jb bo;have b8:=b9;rw[cg.out,<-C.out] at b8;have X:=jb (ja6 b8 ch.out (by omega));have o4:=zA (o:=4) aw;have o5:=zA (o:=5) aw;simp at o4 o5;clear b9 aw bm bn bo k3 b8;rcases be with⟨rfl,rfl,Y,ba⟩|⟨⟨b3,rfl⟩,rfl,Y⟩
 ·rcases(by omega:fa<0\/0<=fa)with bl|bl
  ·have ac:0<=ct:=by
    rcases(by omega:ct<0\/0<=ct)with t|t
    ·exact absurd (br.out bl t) ba
    ·exact t
   have ab:¬ct<0:=by omega
   clear ba
   go_wp2_with fail
   refine X.out.mono ?_
   rintro e w4 ⟨rfl,ax⟩
   subst w4
   clear X
   obtain⟨lv,v⟩:∃ lv,lv=nl-fl.toNat:=⟨_,rfl⟩
   rw[<-v]
   have D:Hid (lv=Ju ess fl):=jb (by rw[v,C.out])
   have aa:lv<=nl:=by omega
   clear v
   obtain⟨r,g⟩:∃ r,r=w3:=⟨_,rfl⟩
   obtain⟨j,f⟩:∃ j,j=sf:=⟨_,rfl⟩
   have k:r.heap[kb]?=some (.cells (zy d b wv fl j bd) 51 (0,0)):=by rw[g,f];exact a1.out
   have u:r.heap[bx]?=some (.cells (X5.mk kd A nb kv keys fa ct (.slice pc nc cc) chs).row 73 (0,0)):=by rw[g];exact ak.out
   have l:Bd E B w0 W1 kb d F V (2*160000+300000) wv ess ρ3 r:=by rw[g];exact an.out
   have x:Rest V (qi ess j (Ju ess fl) (N+1) L):=by have:=a6.out;rw[Y] at this;rw[f];exact this
   have M:=jb g
   clear g
   have U:=jb f
   clear f
   have I:=zC k
   have ao:Hid (∀ W,ja r W (fun _=>False)->Calls prog 43 #[.pointer (some ⟨d,0,none⟩),.slice pc nc cc] W fun e w'=>e = .returned (.tuple #[])/\∃ ρ',Bd E B w0 W1 kb d F (V.crashed chs) 60000 wv ess ρ' w'/\ja W w' (fun i=>ρ3 i≠ .none)):=fun W kW=>(l.same kW).crashed (by omega) (ZA I kW.size) x ((HP.out.keep l.wj.1 (fun i hi t=>by have:=(ae.out.lt t).1;omega)).keep kW (fun _ _ t=>t))
   have T:=zA (o:=0) k
   have O:=zA (o:=6) u
   have o5:=zA (o:=5) u
   simp at T O o5
   have T:r.drew.cell? ⟨kb,0,none⟩=some (.pointer (some ⟨d,0,none⟩)):=T
   have O:r.drew.cell? ⟨bx,6,none⟩=some (.slice pc nc cc):=O
   have a0:=jb k
   have bp:=jb u
   have a3:=jb l
   have a5:=jb x
   clear k u l x
   rw[<-M.out] at o4
   rw[<-M.out]
   go_upto_region 11 with fail
   go_region_with (go_at_call 43;refine(ao.out _ (ja.drew _ _)).mono ?_;rintro e w6 ⟨rfl,ρ6,R,k6⟩)
   all_goals
    have ah:ja r r.drew (fun _=>False):=ja.drew _ _;have z:=k6.same (ah.same a0.out id) (fun t=>t a3.out.nkb.1);obtain⟨P6,W6,F6⟩:=a5.out.Jj (fun t q=>q) chs;have y:Hid (qh { V.crashed chs with fail:= -1 }):=(show qh _ from⟨rfl,W6.cut⟩);have Z:Hid (Zj { V.crashed chs with fail:= -1 } (fun t=>t.m.next<=N+1/\t.last<=L/\∃ n,j<=n/\n<=ess.length/\t.tell=Rf.zn (ess.take n))):=P6.alike (Alike.fail _ _);have c0:=zA (o:=0) z;have c4:=zA (o:=4) z;simp at c0 c4;have a2:=jb (R.failed (zC z));have al:=jb z;have am:=jb R;clear z R k6 P6 W6 F6;go_wp2_with fail;refine a2.out.mono ?_;rintro e w7 ⟨rfl,H,k7⟩;have G:=k7.same al.out (fun t=>t am.out.nkb.1);have J:=jb (kj (least:=j) (N:=N+1) (H.after ad.out) (by omega) y.out Z.out hN G HU.out.st.small (by have:=C.out;omega) (by have:=U.out;have:=HU.out.st.sf;have:Ju ess fl<=ess.length:=Nat.sub_le _ _;have:=C.out;omega));clear c0 c4 H k7 G;go_wp2_with fail;refine J.out.mono ?_;rintro e w8 ⟨rfl,h8⟩;have H8:=jb h8;clear h8;go_wp2;go_ret;exact⟨rfl,H8.out⟩
  ·have cp:¬fa<0:=by omega
   clear ba;rcases(by omega:ct<0\/0<=ct)with ac|ac
   ·have ab:¬0<=ct:=by omega
    go_wp2_with fail;refine X.out.mono ?_;rintro e w4 ⟨rfl,ax⟩;subst w4;clear X;obtain⟨lv,v⟩:∃ lv,lv=nl-fl.toNat:=⟨_,rfl⟩;rw[<-v];have D:Hid (lv=Ju ess fl):=jb (by rw[v,C.out]);have aa:lv<=nl:=by omega
    clear v;obtain⟨r,g⟩:∃ r,r=w3:=⟨_,rfl⟩;obtain⟨j,f⟩:∃ j,j=sf:=⟨_,rfl⟩;have k:r.heap[kb]?=some (.cells (zy d b wv fl j bd) 51 (0,0)):=by rw[g,f];exact a1.out
    have u:r.heap[bx]?=some (.cells (X5.mk kd A nb kv keys fa ct (.slice pc nc cc) chs).row 73 (0,0)):=by rw[g];exact ak.out
    have l:Bd E B w0 W1 kb d F V (2*160000+300000) wv ess ρ3 r:=by rw[g];exact an.out
    have x:Rest V (qi ess j (Ju ess fl) (N+1) L):=by have:=a6.out;rw[Y] at this;rw[f];exact this
    have M:=jb g;clear g;have U:=jb f;clear f;have I:=zC k;have y:Hid (qh { V with fail:= -1 }):=(show qh _ from⟨rfl,bw.out (bc.out ac)⟩);have Z:Hid (Zj { V with fail:= -1 } (fun t=>t.m.next<=N+1/\t.last<=L/\∃ n,lv<=n/\n<=ess.length/\t.tell=Rf.zn (ess.take n))):=((x.Tk (fun t q=>q)).mono (fun t ht=>⟨ht.1.1,ht.1.2.1,lv,ZQ _,by have:=C.out;omega,by rw[D.out];exact ht.2⟩)).alike (Alike.fail _ _);have c0:=zA (o:=0) k;have o5:=zA (o:=5) u;simp at c0 o5;have a2:=jb (l.failed I);have a0:=jb k;have a3:=jb l;clear k l x u;rw[<-M.out] at o4;rw[<-M.out];go_wp2_with fail;refine a2.out.mono ?_;rintro e w7 ⟨rfl,H,k7⟩;have G:=k7.same a0.out (fun t=>t a3.out.nkb.1);have J:=jb (kj (least:=lv) (N:=N+1) (H.after ad.out) (by omega) y.out Z.out hN G HU.out.st.small (by have:=C.out;omega) (by omega));clear c0 H k7 G;go_wp2_with fail;refine J.out.mono ?_;rintro e w8 ⟨rfl,h8⟩;have H8:=jb h8;clear h8;go_wp2;go_ret;exact⟨rfl,H8.out⟩
   ·have ab:¬ct<0:=by omega
    go_wp2_with fail;refine X.out.mono ?_;rintro e w4 ⟨rfl,ax⟩;subst w4;clear X;obtain⟨lv,v⟩:∃ lv,lv=nl-fl.toNat:=⟨_,rfl⟩;rw[<-v];have D:Hid (lv=Ju ess fl):=jb (by rw[v,C.out]);have aa:lv<=nl:=by omega
    clear v;obtain⟨r,g⟩:∃ r,r=w3:=⟨_,rfl⟩;obtain⟨j,f⟩:∃ j,j=sf:=⟨_,rfl⟩;have k:r.heap[kb]?=some (.cells (zy d b wv fl j bd) 51 (0,0)):=by rw[g,f];exact a1.out
    have u:r.heap[bx]?=some (.cells (X5.mk kd A nb kv keys fa ct (.slice pc nc cc) chs).row 73 (0,0)):=by rw[g];exact ak.out
    have l:Bd E B w0 W1 kb d F V (2*160000+300000) wv ess ρ3 r:=by rw[g];exact an.out
    have x:Rest V (qi ess j (Ju ess fl) (N+1) L):=by have:=a6.out;rw[Y] at this;rw[f];exact this
    have M:=jb g;clear g;have U:=jb f;clear f;have I:=zC k;have ao:Hid (∀ W,ja r W (fun _=>False)->Calls prog 43 #[.pointer (some ⟨d,0,none⟩),.slice pc nc cc] W fun e w'=>e = .returned (.tuple #[])/\∃ ρ',Bd E B w0 W1 kb d F (V.crashed chs) 60000 wv ess ρ' w'/\ja W w' (fun i=>ρ3 i≠ .none)):=fun W kW=>(l.same kW).crashed (by omega) (ZA I kW.size) x ((HP.out.keep l.wj.1 (fun i hi t=>by have:=(ae.out.lt t).1;omega)).keep kW (fun _ _ t=>t));have T:=zA (o:=0) k;have O:=zA (o:=6) u;have o5:=zA (o:=5) u;simp at T O o5;have T:r.drew.cell? ⟨kb,0,none⟩=some (.pointer (some ⟨d,0,none⟩)):=T;have O:r.drew.cell? ⟨bx,6,none⟩=some (.slice pc nc cc):=O;have a0:=jb k;have bp:=jb u;have a3:=jb l;have a5:=jb x;clear k u l x;rw[<-M.out] at o4;rw[<-M.out]
    go_upto_region 11 with fail
    go_region_with (go_at_call 43;refine(ao.out _ (ja.drew _ _)).mono ?_;rintro e w6 ⟨rfl,ρ6,R,k6⟩)
    all_goals
     have ah:ja r r.drew (fun _=>False):=ja.drew _ _;have z:=k6.same (ah.same a0.out id) (fun t=>t a3.out.nkb.1);obtain⟨P6,W6,F6⟩:=a5.out.Jj (fun t q=>q) chs;have y:Hid (qh { V.crashed chs with fail:= -1 }):=(show qh _ from⟨rfl,W6.cut⟩);have Z:Hid (Zj { V.crashed chs with fail:= -1 } (fun t=>t.m.next<=N+1/\t.last<=L/\∃ n,j<=n/\n<=ess.length/\t.tell=Rf.zn (ess.take n))):=P6.alike (Alike.fail _ _);have c0:=zA (o:=0) z;have c4:=zA (o:=4) z;simp at c0 c4;have a2:=jb (R.failed (zC z));have al:=jb z;have am:=jb R;clear z R k6 P6 W6 F6;go_wp2_with fail;refine a2.out.mono ?_;rintro e w7 ⟨rfl,H,k7⟩;have G:=k7.same al.out (fun t=>t am.out.nkb.1);have J:=jb (kj (least:=j) (N:=N+1) (H.after ad.out) (by omega) y.out Z.out hN G HU.out.st.small (by have:=C.out;omega) (by have:=U.out;have:=HU.out.st.sf;have:Ju ess fl<=ess.length:=Nat.sub_le _ _;have:=C.out;omega));clear c0 c4 H k7 G;go_wp2_with fail;refine J.out.mono ?_;rintro e w8 ⟨rfl,h8⟩;have H8:=jb h8;clear h8;go_wp2;go_ret;exact⟨rfl,H8.out⟩
 ·rcases(by omega:ct<0\/0<=ct)with ac|ac
  ·have ab:¬0<=ct:=by omega
   go_wp2_with fail;refine X.out.mono ?_;rintro e w4 ⟨rfl,ax⟩;subst w4;clear X;obtain⟨lv,v⟩:∃ lv,lv=nl-fl.toNat:=⟨_,rfl⟩;rw[<-v];have D:Hid (lv=Ju ess fl):=jb (by rw[v,C.out]);have aa:lv<=nl:=by omega
   clear v;obtain⟨r,g⟩:∃ r,r=w3.setCell ⟨kb,4,none⟩ (.int .i64 lv):=⟨_,rfl⟩;have k5:ja w3 r (fun i=>i=kb):=by rw[g];exact Zz _ _ _ _
   have k:r.heap[kb]?=some (.cells (zy d b wv fl lv bd) 51 (0,0)):=by rw[g];exact(jd a1.out _).trans rfl
   have ai:bx≠kb:=fun e=>aj.out.2 (.inr (.inl e));have u:=k5.same ak.out ai;have l:=an.out.mark k5;have x:Rest V (qi ess lv (Ju ess fl) (N+1) L):=by have:=a6.out;rw[Y,<-D.out] at this;rw[<-D.out];exact this
   have c4:=zA (o:=4) a1.out;have f4:=zB (o:=4) a1.out;simp at c4;have M:=jb g;obtain⟨j,f⟩:∃ j,j=lv:=⟨_,rfl⟩;rw[<-f] at k x;clear g ai k5;have U:=jb f;clear f;have I:=zC k;have y:Hid (qh { V with fail:= -1 }):=(show qh _ from⟨rfl,bw.out (bc.out ac)⟩);have Z:Hid (Zj { V with fail:= -1 } (fun t=>t.m.next<=N+1/\t.last<=L/\∃ n,lv<=n/\n<=ess.length/\t.tell=Rf.zn (ess.take n))):=((x.Tk (fun t q=>q)).mono (fun t ht=>⟨ht.1.1,ht.1.2.1,lv,ZQ _,by have:=C.out;omega,by rw[D.out];exact ht.2⟩)).alike (Alike.fail _ _);have c0:=zA (o:=0) k;have o5:=zA (o:=5) u;simp at c0 o5;have a2:=jb (l.failed I);have a0:=jb k;have a3:=jb l;clear k l x u
   go_upto_region 10 with fail
   rw[<-M.out];go_wp2_with fail;refine a2.out.mono ?_;rintro e w7 ⟨rfl,H,k7⟩;have G:=k7.same a0.out (fun t=>t a3.out.nkb.1);have J:=jb (kj (least:=lv) (N:=N+1) (H.after ad.out) (by omega) y.out Z.out hN G HU.out.st.small (by have:=C.out;omega) (by omega));clear c0 H k7 G;go_wp2_with fail;refine J.out.mono ?_;rintro e w8 ⟨rfl,h8⟩;have H8:=jb h8;clear h8;go_wp2;go_ret;exact⟨rfl,H8.out⟩
  ·have ab:¬ct<0:=by omega
   go_wp2_with fail;refine X.out.mono ?_;rintro e w4 ⟨rfl,ax⟩;subst w4;clear X;obtain⟨lv,v⟩:∃ lv,lv=nl-fl.toNat:=⟨_,rfl⟩;rw[<-v];have D:Hid (lv=Ju ess fl):=jb (by rw[v,C.out]);have aa:lv<=nl:=by omega
   clear v;obtain⟨r,g⟩:∃ r,r=w3.setCell ⟨kb,4,none⟩ (.int .i64 lv):=⟨_,rfl⟩;have k5:ja w3 r (fun i=>i=kb):=by rw[g];exact Zz _ _ _ _
   have k:r.heap[kb]?=some (.cells (zy d b wv fl lv bd) 51 (0,0)):=by rw[g];exact(jd a1.out _).trans rfl
   have ai:bx≠kb:=fun e=>aj.out.2 (.inr (.inl e));have u:=k5.same ak.out ai;have l:=an.out.mark k5;have x:Rest V (qi ess lv (Ju ess fl) (N+1) L):=by have:=a6.out;rw[Y,<-D.out] at this;rw[<-D.out];exact this
   have c4:=zA (o:=4) a1.out;have f4:=zB (o:=4) a1.out;simp at c4;have M:=jb g;obtain⟨j,f⟩:∃ j,j=lv:=⟨_,rfl⟩;rw[<-f] at k x;clear g ai k5;have U:=jb f;clear f;have I:=zC k;have ao:Hid (∀ W,ja r W (fun _=>False)->Calls prog 43 #[.pointer (some ⟨d,0,none⟩),.slice pc nc cc] W fun e w'=>e = .returned (.tuple #[])/\∃ ρ',Bd E B w0 W1 kb d F (V.crashed chs) 60000 wv ess ρ' w'/\ja W w' (fun i=>ρ3 i≠ .none)):=fun W kW=>(l.same kW).crashed (by omega) (ZA I kW.size) x ((HP.out.keep l.wj.1 (fun i hi t=>by have:=(ae.out.lt t).1;omega)).keep kW (fun _ _ t=>t));have T:=zA (o:=0) k;have O:=zA (o:=6) u;have o5:=zA (o:=5) u;simp at T O o5;have T:r.drew.cell? ⟨kb,0,none⟩=some (.pointer (some ⟨d,0,none⟩)):=T;have O:r.drew.cell? ⟨bx,6,none⟩=some (.slice pc nc cc):=O;have a0:=jb k;have bp:=jb u;have a3:=jb l;have a5:=jb x;clear k u l x
   go_upto_region 10 with fail
   rw[<-M.out]
   go_upto_region 11 with fail
   go_region_with (go_at_call 43;refine(ao.out _ (ja.drew _ _)).mono ?_;rintro e w6 ⟨rfl,ρ6,R,k6⟩)
   all_goals
    have ah:ja r r.drew (fun _=>False):=ja.drew _ _;have z:=k6.same (ah.same a0.out id) (fun t=>t a3.out.nkb.1);obtain⟨P6,W6,F6⟩:=a5.out.Jj (fun t q=>q) chs;have y:Hid (qh { V.crashed chs with fail:= -1 }):=(show qh _ from⟨rfl,W6.cut⟩);have Z:Hid (Zj { V.crashed chs with fail:= -1 } (fun t=>t.m.next<=N+1/\t.last<=L/\∃ n,j<=n/\n<=ess.length/\t.tell=Rf.zn (ess.take n))):=P6.alike (Alike.fail _ _);have c0:=zA (o:=0) z;have c4:=zA (o:=4) z;simp at c0 c4;have a2:=jb (R.failed (zC z));have al:=jb z;have am:=jb R;clear z R k6 P6 W6 F6;go_wp2_with fail;refine a2.out.mono ?_;rintro e w7 ⟨rfl,H,k7⟩;have G:=k7.same al.out (fun t=>t am.out.nkb.1);have J:=jb (kj (least:=j) (N:=N+1) (H.after ad.out) (by omega) y.out Z.out hN G HU.out.st.small (by have:=C.out;omega) (by have:=U.out;omega));clear c0 c4 H k7 G;go_wp2_with fail;refine J.out.mono ?_;rintro e w8 ⟨rfl,h8⟩;have H8:=jb h8;clear h8;go_wp2;go_ret;exact⟨rfl,H8.out⟩
end Go.Proofs.YtnipbplghijdmaaGreatDoor
